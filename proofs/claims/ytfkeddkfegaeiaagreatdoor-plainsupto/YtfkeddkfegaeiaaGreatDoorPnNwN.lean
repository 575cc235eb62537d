import Derived.Test.YtfkeddkfegaeiaaGreatDoorPnPlX
set_option maxRecDepth 100000
set_option maxHeartbeats 20000000
namespace Go.Proofs.YtfkeddkfegaeiaaGreatDoor
section
open Go.RowKit Tryz
def kK(F:Fx)(T:TypeId)(v:Value)(xs:List Value):Prop:=(v=.slice none 0 0/\xs=[])∨ ∃b a c,v=.slice (some ⟨b,0,none⟩) xs.length a/\F b=some (.cells c T (0,0))/\c.toList.take xs.length=xs/\xs.length<=a/\a<=maxLen
theorem kK.mono{F b:Fx}(c:F.le b){T:TypeId}{v:Value}{xs:List Value}(a:kK F T v xs):kK b T v xs:=by
 rcases a with a|⟨g,cap,cur,h1,h2,h3⟩
 ·exact .inl a
 ·exact .inr ⟨g,cap,cur,h1,c _ _ h2,h3⟩
theorem kK.rowAt{F:Fx}{T:TypeId}{v:Value}{xs:List Value}(f:kK F T v xs){W:World}(a: ∀b o,F b=some o->W.heap[b]? =some o):aS W v xs:=by
 rcases f with⟨h1,h2⟩|⟨g,cap,cur,h1,h2,h3,h4,h5⟩
 ·subst h1 h2;exact⟨none,0,rfl,by decide,fun c=>absurd c (by simp)⟩
 ·refine⟨_,cap,h1,Jt h4 h5,fun c=>⟨g,0,rfl,fP (a _ _ h2),fun d h=>?_⟩⟩;have e:(cur.toList.take xs.length)[d]? =xs[d]? :=by rw[h3]
  rw[Kl,Jo h]at e;rw[JV,(blk (a _ _ h2)).1,<-e];simp
theorem kK.cap{F:Fx}{T:TypeId}{v:Value}{xs:List Value}(a:kK F T v xs):xs.length<=lX v:=by
 rcases a with⟨h1,h2⟩|⟨g,cap,cur,h1,h2,h3,h4,h5⟩
 ·subst h1 h2;exact KO _
 ·subst h1;exact h4
theorem qd{lo p n:Nat}{F:Fx}{T:TypeId}{v:Value}{e xs:List Value}{W:World}(b:aZ lo F p (v::e) W)(c:W.ownsRow lo T 1 v n xs): ∃d,F.le d/\aZ lo d p e W/\kK d T v xs:=by
 obtain⟨a,c⟩:=c;rcases c with⟨h1,h2⟩|⟨g,cap,cur,h1,h2,h3,h4,h5,h6,h7⟩
 ·subst h1 h2;exact⟨F,Fx.le.refl _,b.drop,.inl ⟨rfl,by simpa using a⟩⟩
 ·subst h1;rw[Lb]at a h7;refine⟨F.set g (.cells cur T (0,0)),Fx.le_set _ ?_,b.seal rfl h3,.inr ⟨g,cap,cur,by rw[a],Fx.set_same _ _ _,by rw[a];exact h7,by omega,h5⟩⟩;exact(b.off _ JK g rfl).1
structure sd(F:Fx)(t:Tb)(cv rv:Value):Prop where
 cols:kK F 9 cv (aB t.cols)
 rows: ∃es,kK F 32 rv es/\es.length=t.rows.length/\ ∀(k:Nat) (r:List Int) (u:Value),t.rows[k]? =some r->es[k]? =some u->kK F 3 u (aE r)
theorem sd.mono{F b:Fx}(a:F.le b){t:Tb}{c d:Value}(e:sd F t c d):sd b t c d:=by obtain⟨f,g,h,i,j⟩:=e;exact⟨f.mono a,g,h.mono a,i,fun k l m n o=>(j k l m n o).mono a⟩
inductive i'(F:Fx):List Tb->List Value->Prop
 |nil:i' F [] []
 |snoc {l:List Tb} {D:List Value} (t:Tb) (cv rv:Value):i' F l D->sd F t cv rv->i' F (l++[t]) (D++[.string t.name,cv,rv])
theorem i'.mono{F a:Fx}(c:F.le a){l:List Tb}{b:List Value}(d:i' F l b):i' a l b:=by
 induction d with
 |nil=>exact .nil
 |snoc e f g _ h i=>exact .snoc e f g i (h.mono c)
theorem i'.len{F:Fx}{l:List Tb}{a:List Value}(b:i' F l a):a.length=l.length*3:=by
 induction b with
 |nil=>rfl
 |snoc c d e _ f g=>simp;omega
theorem i'.at{F:Fx}{l:List Tb}{b:List Value}(f:i' F l b): ∀(j:Nat) (t:Tb),l[j]? =some t-> ∃c d,sd F t c d/\b[j*3]? =some (.string t.name)/\b[j*3+1]? =some c/\b[j*3+2]? =some d:=by
 induction f with
 |nil=>intro j t a;simp at a
 | @snoc l b u c d hl ht ih=>
  intro j t a;have e:=hl.len;rcases Nat.lt_trichotomy j l.length with hj|hj|hj
  ·rw[Jz hj]at a;obtain⟨g,h,i,k,m,n⟩:=ih j t a;exact⟨g,h,i,by rw[Jz (by omega)];exact k,by rw[Jz (by omega)];exact m,by rw[Jz (by omega)];exact n⟩
  ·subst hj;rw[Jw (Ji _),Kv]at a;simp at a;subst a;refine⟨c,d,ht,?_,?_,?_⟩
   ·rw[<-e,Jw (Ji _),Kv];rfl
   ·rw[<-e,Jw (by omega),Kk];rfl
   ·rw[<-e,Jw (by omega),Kk];rfl
  ·rw[Kj (by simp;omega)]at a;cases a
theorem sd.tbV{F:Fx}{t:Tb}{a c:Value}(f:sd F t a c){W:World}(d: ∀b o,F b=some o->W.heap[b]? =some o):xK W [.string t.name,a,c] t:=by obtain⟨e,g,h,i,j⟩:=f;exact⟨a,c,rfl,e.rowAt d,by simpa using e.cap,g,h.rowAt d,i,fun k l m n p=>(j k l m n p).rowAt d⟩
structure yf(F:Fx)(g:Nat)(l:List Tb)(D:List Value):Prop where
 all:F g=some (.cells D.toArray 44 (0,0))
 tabs:i' F l D
theorem yf.tabsAt{F:Fx}{g:Nat}{l:List Tb}{e:List Value}(a:yf F g l e){W:World}(c: ∀b o,F b=some o->W.heap[b]? =some o)(f:l.length<=maxLen):bp W (.slice (some ⟨g,0,none⟩) l.length l.length) l:=by
 refine⟨_,_,rfl,f,Ji _,fun s=>⟨g,0,rfl,fP (c _ _ a.all),fun h i j=>?_⟩⟩;obtain⟨k,m,n,p,q,r⟩:=a.tabs.at h i j;have d:=(blk (c _ _ a.all)).1;refine⟨k,m,n.tbV c,?_,?_,?_⟩
 ·rw[JV,d];simpa using p
 ·rw[JV,d];simpa using q
 ·rw[JV,d];simpa using r
theorem tC{s:ByteArray}(a:dV s.data.toList=true):s.size<=8:=by
 unfold dV at a;simp only[Kc,JQ]at a;have:s.data.toList.length=s.size:=by rw[JP];rfl
 omega
structure wL(t:Tb):Prop where
 name:t.name.size<=8
 cols: ∀c∈t.cols,c.size<=8
 ncols:t.cols.length<=6
 nrows:t.rows.length<=200
 rows: ∀r∈t.rows,r.length=t.cols.length
theorem E5{t:Tb}{ahead:List Tb}(a:p6 t ahead=0):wL t:=by
 unfold p6 at a;split at a
 ·cases a
 rename_i b
 split at a
 ·cases a
 rename_i c
 split at a
 ·cases a
 split at a
 ·cases a
 rename_i d
 simp only[J8,Bool.not_eq_true',not_or,Bool.not_eq_false,Bool.not_eq_true]at b c d;simp only[Ku]at c;refine⟨tC b.1,fun e f=>?_,by omega,by omega,fun g h=>?_⟩
 ·have:=Mg.1 b.2 e f;simp only[Bool.not_eq_true',Bool.not_eq_false]at this;exact tC this
 ·have:=Mg.1 d g h;simp only[JQ,Decidable.not_not]at this;exact this
theorem yg{l pre:List Tb}(b:dR pre l=0): ∀t∈l,wL t:=by
 induction l generalizing pre with
 |nil=>intro t a;cases a
 |cons e f d=>
  intro t a;rw[dR]at b;split at b
  ·rename_i c
   rcases JG.1 a with rfl|a
   ·exact E5 c
   ·exact d b t a
  ·rename_i c
   exact absurd b c
theorem zR{l:List Tb}(a:bT l=0):l.length<=4/\ ∀t∈l,wL t:=by
 unfold bT at a;split at a
 ·cases a
 ·rename_i b
  exact⟨by omega,yg a⟩
theorem vA(s:ByteArray)(w:World)(c:s.size<=8):Calls prog 78 #[.string s] w fun e w'=>e=.returned (.string s)/\Below w.heap.size w w':=by go_enter func78,ntmps78;go_wp2_with fail;refine(stringslite_Clone s _ (by omega)).mono ?_;rintro e d ⟨rfl,a⟩;have b:=ab a;clear a;go_wp2;go_ret;exact⟨rfl,b⟩
theorem BC(a:Value)(b:List Int)(w:World)(i:aS w a (aE b))(hn:b.length<=1000000):
  Calls prog 92 #[a] w fun e w'=> ∃v',e=.returned v'/\w'.ownsRow w.heap.size 3 1 v' b.length (aE b)/\Below w.heap.size w w':=by
 obtain⟨f,j,rfl,k,g⟩:=i;rw[Jm]at k g⊢
 cases b with
 |nil=>
  cases f with
  |none=>refine(slices_Clone_int_nil _ _ _).mono ?_;rintro e w' ⟨rfl,rfl⟩;exact⟨_,rfl,JF _ _ _ _,Jj _ _⟩
  |some f=>refine(slices_Clone_int_zero _ _ _).mono ?_;rintro e w' ⟨v',rfl,c,_,d⟩;exact⟨v',rfl,c,d⟩
 |cons l b=>
  obtain⟨m,n,rfl,q,o⟩:=g (by simp);refine(slices_Clone_int m n _ j (l::b) w (Ji _) (by omega) (fun p h=>?_)).mono ?_
  ·rw[o p h,aE,J7,JC,Jl h];rfl
  ·rintro e w' ⟨v',rfl,c,_,d⟩;rw[LC]at c;exact⟨v',rfl,c,d⟩
theorem dB{W:World}{a n:Nat}{e:TypeId}{size:Nat}{v:Value}{xs:List Value}(b:W.ownsRow a e size v n xs): ∃c cap,v=.slice c n cap:=by
 rcases b.2 with⟨h1,h2⟩|⟨g,cap,cur,h1,_⟩
 ·exact⟨none,0,by rw[h1,h2]⟩
 ·exact⟨_,cap,h1⟩
theorem ge{W:World}{a:Nat}{x:Value}{T:TypeId}(b:W.heap[a]? =some (.cells #[x] T (0,0))): ∀j u,[x][j]? =some u->W.cell? ((⟨a,0,none⟩:Addr).add j)=some u:=
 KR (cs:= #[x]) b
theorem aZ.drew{lo p:Nat}{F:Fx}{a:List Value}{W:World}(b:aZ lo F p a W):aZ lo F p a W.drew:=b.keep (Ji _) (fun _ _=>rfl)
theorem tD(c:ByteArray): ∀u∈ [Value.string c],u.oneCell'=true:=by intro u a;simp only[JN]at a;subst a;rfl
theorem kL(b:Option Addr)(n c:Nat): ∀u∈ [Value.slice b n c],u.oneCell'=true:=by intro u a;simp only[JN]at a;subst a;rfl
theorem C4{W:World}{a b n:Nat}{e:TypeId}{size:Nat}{v:Value}{xs:List Value}(c:W.ownsRow a e size v n xs)(d:b<=a):W.ownsRow b e size v n xs:=
 ⟨c.1,c.2.imp id (fun⟨g,cap,f,h,i,j⟩=>⟨g,cap,f,h,Jt d i,j⟩)⟩
theorem E6{lo p n:Nat}{F:Fx}{T:TypeId}{v:Value}{h xs:List Value}{W W':World}(d:aZ lo F p h W)(k:lo<=W.heap.size)(l:Below W.heap.size W W')(e:W'.ownsRow W.heap.size T 1 v n xs): ∃f,F.le f/\aZ lo f p h W'/\kK f T v xs:=by
 refine qd (v:=v) (n:=n) ?_ (C4 e k);have a:=d.below l;refine⟨a.fits,a.offp,a.ltp,fun g b c i=>?_,Ka.2 ⟨fun g b c m o=>?_,a.dis⟩⟩
 ·rcases JG.1 b with rfl|b
  ·have j:=e.lt c i;exact⟨d.noneF j.1,fun q=>by have:=d.ltp;omega,by omega,j.2⟩
  ·exact a.off g b c i
 ·have r:=(e.lt c m).1;have s:=(d.off g b c o).2.2.2;omega
theorem jS:(prog.info? 32).map (fun i=>(i.zero,i.size,i.bytes))=some (some (.slice none 0 0),1,24):=by kernel_rfl
theorem AK:(prog.info? 44).map (fun i=>(i.zero,i.size,i.bytes))=some (some (.agg #[.string ⟨#[]⟩,.slice none 0 0,.slice none 0 0]),3,64):=by kernel_rfl
def oy:Nat->List Value
 |0=>[]
 |n+1=>.string ⟨#[]⟩:: .slice none 0 0:: .slice none 0 0::oy n
theorem GD(n:Nat):(oy n).length=n*3:=by
 induction n with
 |zero=>rfl
 |succ n a=>simp only[oy,Ju,a];omega
theorem Ic(n:Nat): ∀i,i<n*3->(oy n)[i]? =some (#[Value.string ⟨#[]⟩,.slice none 0 0,.slice none 0 0][i%3]!):=by
 induction n with
 |zero=>intro i a;omega
 |succ n b=>
  intro i a
  match i,a with
  |0,_=>rfl
  |1,_=>rfl
  |2,_=>rfl
  |i+3,a=>have c:=b i (by omega);rw[show(i+3)%3=i%3 from by omega];exact c
theorem E7(n:Nat):(madeCells #[Value.string ⟨#[]⟩,.slice none 0 0,.slice none 0 0] (n*3)).toList=oy n:=by
 apply LN;intro a;by_cases b:a<n*3
 ·rw[Ic n a b];simp[madeCells,b]
 ·rw[Kj (l:=oy n) (by rw[GD];omega),Kj (by rw[JP,size_madeCells];omega)]
theorem BD(cd:Value)(l:List Tb)(w:World)(ce:bp w cd l)(cf:bT l=0):
  Calls prog 59 #[cd] w fun e w'=> ∃g F s,e=.returned (.slice (some ⟨g,0,none⟩) l.length l.length)/\yf F g l s/\(∀b o,F b=some o->w.heap.size<=b/\w'.heap[b]? =some o)/\Below w.heap.size w w':=by
 obtain⟨gy,cg⟩:=zR cf;have e3:=ab cg;clear cg cf;obtain⟨e4,ch,ci⟩:=Jq.1 AK;simp only[JB]at ci;obtain⟨cj,cl,cp⟩:=ci;obtain⟨e5,e6,e7,ba⟩:=aP ch cj cl cp;clear ch cj cl cp;obtain⟨e8,cq,cr⟩:=Jq.1 lh;simp only[JB]at cr;obtain⟨cs,ct,cu⟩:=cr;obtain⟨e9,e',fa,fb⟩:=aP cq cs ct cu;clear cq cs ct cu;obtain⟨fc,cv,cz⟩:=Jq.1 jS;simp only[JB]at cz;obtain⟨cF,cI,cL⟩:=cz;obtain⟨fe,fg,fk,fl⟩:=aP cv cF cI cL;clear cv cF cI cL;have gJ:=ab ce;obtain⟨gQ,gW,rfl,fn,g0,cN⟩:=ce;unfold maxLen at fn;have fo:=ab cN;clear cN;go_enter func59,ntmps59;go_wp2_with (at_make;refine KU _ rfl _ _ 84 rfl w.heap.size 44 e4 (.agg #[.string ⟨#[]⟩,.slice none 0 0,.slice none 0 0]) 3 underlying84 e5 e6 e7 .i64 .i64 _ _ l.length rfl rfl ?c1 ?c2 ?c3 ?c4 ?c5 ?_)
 case c1=>simp
 case c2=>simp
 case c3=>rw[U ba];omega
 case c4=>unfold maxLen;omega
 case c5=>exact Ji _
 intro bb m j
 rcases m with⟨hol,⟨O,_⟩|⟨g,cap,cur,O,hge,hh,c1,c2,c3,c4⟩⟩
 ·cases O
 injection O with aj fp cR;injection aj with aj;injection aj with aj;subst aj;have bc:bb.heap[w.heap.size]? =some (.cells (oy l.length).toArray 44 (0,0)):=by rw[hh,<-E7];rw[<-cR]at c3;rw[JJ (by rw[JP];omega)]at c4;rw[show(madeCells #[Value.string ⟨#[]⟩,.slice none 0 0,.slice none 0 0] (l.length*3)).toList=cur.toList from c4.symm]
 have cT:=ab bc
 have cV:Hid (aZ w.heap.size (fun _=>none) w.heap.size [] bb):=⟨fun b o e=>(by simp at e),rfl,aa bc,fun W O=>(by simp at O),List.Pairwise.nil⟩
 have cW:Hid (Below w.heap.size w bb):=(Jj _ _).grown j (Ji _) (fun n e=>by cases e);clear j hh bc c1 c2 c3 c4 fp cR hge hol;go_wp2_with fail
 go_loopg [15] l.length (fun ak al q=> ∃c k F s,l=c++k/\ak=k.length/\al=.int .i64 (c.length:Nat)/\q.heap[w.heap.size]? =some (.cells (s++oy k.length).toArray 44 (0,0))/\i' F c s/\aZ w.heap.size F w.heap.size [] q/\Below w.heap.size w q)
 case atStart=>exact⟨[],l,_,[],rfl,rfl,rfl,cT,.nil,cV,cW⟩
 case round=>
  clear cT cV cW;obtain⟨c,k,F,s,v,rfl,rfl,J,be,K,L⟩:=hrel;have cZ:c.length+k.length=l.length:=by rw[v,Jk]
  have X:=be.len;obtain⟨a0,c0,c6,an,Y⟩:=dD v J be K L;clear v J be K L
  cases k with
  |nil=>
   have fq:decide (c.length<l.length)=false:=by simp at cZ⊢;omega
   go_wp2;go_ret;refine⟨w.heap.size,F.set w.heap.size (.cells s.toArray 44 (0,0)),s,rfl,⟨Fx.set_same _ _ _,?_⟩,fun b o e=>?_,Y⟩
   ·have e:l=c:=by rw[U a0,JD]
    rw[e];exact c6.mono (Fx.le_set _ an.offp)
   ·by_cases c7:b=w.heap.size
    ·subst c7;rw[Fx.set_same]at e;injection e with e;subst e;refine⟨Ji _,?_⟩;rw[U c0,show oy ([]:List Tb).length=[]from rfl,JD]
    ·rw[Fx.set_other _ _ c7]at e;exact an.fits b o e
  |cons a k=>
   rw[Ju]at cZ;have fq:decide (c.length<l.length)=true:=by simp;omega
   obtain⟨bg,bk,rfl,ao,c1⟩:=(U fo) (by omega)
   obtain⟨g1,g2,fr,a1,bl,bn⟩:=c1 c.length a (by rw[U a0];simp);rw[<-Y.cell (p:=⟨bg,bk+c.length*3,none⟩) ao]at a1;rw[<-Y.cell (p:=⟨bg,bk+c.length*3+1,none⟩) ao]at bl;rw[<-Y.cell (p:=⟨bg,bk+c.length*3+2,none⟩) ao]at bn;obtain⟨g3,g4,h,c8,_,c9⟩:=fr;injection h with _ h;injection h with t h;injection h with C _;subst t C;obtain⟨c',dd⟩:=ag c8 c9;obtain⟨ap,ar,rfl,bq,fs⟩:=c8;obtain⟨a2,⟨au,av,rfl,br,ft⟩,ax,fv⟩:=c9;clear fs ft fv;rw[ax]at dd bn br;rw[Jm]at c' bl bq;clear ax a2;have ba:Hid (l=(c++[a])++k):=by unfold Hid;rw[U a0];simp
   have Z:Hid (wL a):=(U e3) a (by rw[U a0];simp);clear c1;have bs:w.heap.size<wr.heap.size:=an.ltp;go_wp2_with fail;refine(vA a.name _ Z.name).mono ?_;rintro e D ⟨rfl,ay⟩;have df:Hid (Below w.heap.size w D):=(Y.alloc Y.size _).trans (ay.mono (by simp;omega));have a3:Hid (D.heap[w.heap.size]? =some (.cells (s++ .string ⟨#[]⟩:: .slice none 0 0:: .slice none 0 0::oy k.length).toArray 44 (0,0))):=by unfold Hid;rw[ay.block _ (by simp;omega)];exact ai c0
   have a4:Hid (D.heap[wr.heap.size]? =some (.cells #[.string a.name,.slice ap a.cols.length ar,.slice au a.rows.length av] 44 (0,0))):=by unfold Hid;rw[ay.block _ (by simp)];exact af rfl
   have aA:Hid (aZ w.heap.size (F.set wr.heap.size (.cells #[.string a.name,.slice ap a.cols.length ar,.slice au a.rows.length av] 44 (0,0))) w.heap.size [] D):=
    ((an.alloc _).below ay).fix (MK bs) a4 (by omega) (fun W O=>(by simp at O))
   have fw:Hid (Fx.le F (F.set wr.heap.size (.cells #[.string a.name,.slice ap a.cols.length ar,.slice au a.rows.length av] 44 (0,0)))):=Fx.le_set _ (an.noneF (Ji _));generalize dk:F.set wr.heap.size (.cells #[.string a.name,.slice ap a.cols.length ar,.slice au a.rows.length av] 44 (0,0))=bt at*;have fx:Hid (bt wr.heap.size=some (.cells #[.string a.name,.slice ap a.cols.length ar,.slice au a.rows.length av] 44 (0,0))):=by unfold Hid;rw[<-dk,Fx.set_same]
   clear dk ay a1 bl bn;obtain⟨M,bu⟩:=blk a3;obtain⟨bv,bx⟩:=blk a4;have P:=aa a3;have bz:=aa a4;have fy:D.cell? ⟨w.heap.size,c.length*3,none⟩=some (.string ⟨#[]⟩):=by rw[M,<-X];simp
   have dp:wr.heap.size≠w.heap.size:=by omega
   have dq:w.heap.size≠wr.heap.size:=by omega
   have ds:Hid ((D.setCell ⟨w.heap.size,c.length*3,none⟩ (.string a.name)).heap[w.heap.size]? =some (.cells (s++ .string a.name:: .slice none 0 0:: .slice none 0 0::oy k.length).toArray 44 (0,0))):=by unfold Hid;rw[am (U a3),<-X,JM,KC _ _ (Ji _),Kv,JX]
   have dw:Hid (aZ w.heap.size bt w.heap.size [] (D.setCell ⟨w.heap.size,c.length*3,none⟩ (.string a.name))):=aA.box _ _;have dT:Hid (Below w.heap.size w (D.setCell ⟨w.heap.size,c.length*3,none⟩ (.string a.name))):=df.setCell (Ji _) _;clear M;go_wp2_with fail;clear bv bx bu fy P bz a3 a4 aA df;generalize D.setCell ⟨w.heap.size,c.length*3,none⟩ (.string a.name)=g6 at*
   go_loopg [30] a.cols.length (fun ak al q=> ∃d E W,a.cols=d++E/\ak=E.length/\al=.int .i64 (d.length:Nat)/\q.heap[w.heap.size]? =some (.cells (s++ .string a.name::W:: .slice none 0 0::oy k.length).toArray 44 (0,0))/\q.ownsRow w.heap.size 9 1 W d.length (aB d)/\aZ w.heap.size bt w.heap.size [W] q/\Below w.heap.size w q)
   case atStart=>exact⟨[],a.cols,_,rfl,rfl,rfl,ds,JF _ _ _ _,dw.add 0 0,dT⟩
   case round=>
    clear ds dw dT;obtain⟨d,E,W,v,rfl,rfl,J,m,K,L⟩:=hrel;have bA:d.length+E.length=a.cols.length:=by rw[v,Jk]
    obtain⟨y,B,G,ac,u⟩:=dD v J m K L;clear v J m K L
    cases E with
    |cons N E=>
     rw[Ju]at bA;have a5:decide (d.length<a.cols.length)=true:=by simp;omega
     obtain⟨fz,fO,Q,bF,R⟩:=U c';rw[Jm]at R;injection Q with Q bG bJ;subst Q bJ;clear bF bG;obtain⟨aI,aJ,rfl,bL,aL⟩:=R (by omega);have a1:wr.cell? ⟨aI,aJ+d.length,none⟩=some (.string N):=by rw[u.cell (p:=⟨aI,aJ+d.length,none⟩) bL,aL _ (by omega),U y];simp
     have bN:Hid (a.cols=(d++[N])++E):=by unfold Hid;rw[U y];simp
     have f':N.size<=8:=Z.cols N (by rw[U y];simp);clear aL R dp dq bs ao;unfold maxLen at bq br;obtain⟨ad,ae,rfl⟩:=dB G;obtain⟨M,bu⟩:=blk B;have P:=aa B
     have bS:wr.drew.cell? ⟨w.heap.size,c.length*3+1,none⟩=some (.slice ad d.length ae):=by
      show wr.cell? _=_
      rw[M,<-X,LA,Jw (by omega),Kk];rfl
     have ga:c.length<l.length:=by omega
     have g7:=Z.ncols;clear M;go_wp2_with fail
     go_region_law (first
      |(refine KE _ rfl (.tmp 40) (.tmp 43) 39 rfl w.heap.size 9 e8 (.string ⟨#[]⟩) 1 16 underlying39 e9 e' fa fb rfl (by decide) (.slice ad d.length ae) d.length (aB d) (by simp[Act.eval]) (bX.alloc _) ⟨b0.heap.size,0,none⟩ 1 1 [.string N] (by simp[Act.eval]) rfl (ge (af rfl)) (tD N) (by decide) (by unfold maxLen;omega) (by omega) (by simp;omega) _ rfl ?_;intro z S gb m j aN b1;have T:=ab ((j.block w.heap.size (by simp;omega) (fun h=>(H.off _ JK _ h.symm).2.1 rfl)).trans (ai aR));have gc:=(j.cell_far ⟨w.heap.size,c.length*3+1,none⟩ (by simp;omega) (fun h=>(H.off _ JK _ h.symm).2.1 rfl)).trans ((JS _ _ ⟨w.heap.size,c.length*3+1,none⟩ b2).trans b3);have f11:=(blk T).2;have gf:=aa T;have aT:=ab (aZ.app (vs1:=[]) (vs2:=[]) (v':=.slice (some ⟨z,0,none⟩) (d.length+1) S) (H.alloc _) (by simp;omega) j rfl (aN.imp id (fun e=>MN e.symm)) b1);have b4:=ab ((b5.alloc (by omega) _).grown j (by simp;omega) (fun n h=>(H.off _ JK n h).2.2.1));have b6:=ab m;clear m j aN)
      |(go_simp;go_at_call 78;refine(vA N _ f').mono ?_;rintro e b0 ⟨rfl,r⟩;have H:=ab (ac.drew.below r);have bX:=ab (dG G.drew r);have aR:=ab ((r.block _ (by exact P)).trans B);have b5:=ab (u.drew.trans (r.mono (by exact u.size)));have b3:=(r.cell (p:=⟨w.heap.size,c.length*3+1,none⟩) (by exact P)).trans bS;have b2:=aa aR;clear r))
     all_goals
      go_wp2;go_roundg E.length
      case measure=>simp
      case rel=>
       have b7:z≠w.heap.size:=(aT.off _ JK z rfl).2.1;refine⟨d++[N],E,.slice (some ⟨z,0,none⟩) (d.length+1) S,bN,rfl,?_,?_,?_,aT.box _ _,b4.setCell (Ji _) _⟩
       ·rw[Jk];go_num
       ·rw[am (U T),<-X,JM,KC _ _ (by omega),Kk];rfl
       ·have:=bD (off:=c.length*3+1) (x:=.slice (some ⟨z,0,none⟩) (d.length+1) S) b6 (b:=w.heap.size) (by simp[Value.ownBlock];exact b7);rw[Jk,aB,Ks];exact this
    |nil=>
     have a5:decide (d.length<a.cols.length)=false:=by simp at bA⊢;omega
     obtain⟨ad,ae,rfl⟩:=dB G;obtain⟨b9,d',ea,eb⟩:=qd ac G;obtain⟨ed,aA⟩:=ag d' ea;have gg:Hid (kK b9 9 (.slice ad d.length ae) (aB a.cols)):=by unfold Hid;rw[show a.cols=d from by rw[U y,JD]];exact eb
     clear d' ea eb ac G y bA;have gi:=ab (ed _ _ fx);have b':=(aA.fits _ _ gi).2;obtain⟨bv,bx⟩:=blk b';have bz:=aa b';clear b';unfold maxLen at bq br;go_wp2_with fail;clear bv bx bz a5
     go_loopg [51] a.rows.length (fun ak al q=> ∃f I a9 aU V,a.rows=f++I/\ak=I.length/\al=.int .i64 (f.length:Nat)/\q.heap[w.heap.size]? =some (.cells (s++ .string a.name:: .slice ad d.length ae::aU::oy k.length).toArray 44 (0,0))/\q.ownsRow w.heap.size 32 1 aU f.length V/\b9.le a9/\aZ w.heap.size a9 w.heap.size [aU] q/\Below w.heap.size w q/\V.length=f.length/\ ∀(n:Nat) (i:List Int) (A:Value),f[n]? =some i->V[n]? =some A->kK a9 3 A (aE i))
     case atStart=>exact⟨[],a.rows,b9,_,[],rfl,rfl,rfl,B,JF _ _ _ _,Fx.le.refl _,aA.add 0 0,u,rfl,fun n i A e=>by simp at e⟩
     case round=>
      clear B u;obtain⟨f,I,a9,aU,V,v,rfl,rfl,J,m,ef,K,L,eg,ei⟩:=hrel;have en:f.length+I.length=a.rows.length:=by rw[v,Jk]
      obtain⟨y,B,G,eo,ac,u,aV,ep⟩:=A0 v J m ef K L eg ei;clear v J m ef K L eg ei
      cases I with
      |cons i I=>
       rw[Ju]at en;have a5:decide (f.length<a.rows.length)=true:=by simp;omega
       obtain⟨a2,⟨fz,fO,Q,bF,R⟩,ax,eq⟩:=U dd;injection Q with Q bG bJ;subst Q bJ;rw[ax]at R;obtain⟨aI,aJ,rfl,bL,aL⟩:=R (by omega)
       obtain⟨A,a'⟩: ∃A,a2[f.length]? =some A:=⟨a2[f.length]'(by omega),Jl _⟩
       have er:=eq f.length i A (by rw[U y];simp) a';have es:=ab er;obtain⟨gl,gm,rfl,gn,gq⟩:=er;rw[Jm]at a' es;have a1:wr.cell? ⟨aI,aJ+f.length,none⟩=some (.slice gl i.length gm):=by rw[u.cell (p:=⟨aI,aJ+f.length,none⟩) bL,aL _ (by omega),a']
       clear bF bG gn gq a' eq R aL ax;have bN:Hid (a.rows=(f++[i])++I):=by unfold Hid;rw[U y];simp
       have g8:i.length<=6:=by rw[Z.rows i (by rw[U y];simp)];exact Z.ncols
       have g9:=Z.nrows;clear dp dq bs ao;obtain⟨et,ev,rfl⟩:=dB G;obtain⟨M,bu⟩:=blk B;have P:=aa B
       have bS:wr.drew.cell? ⟨w.heap.size,c.length*3+2,none⟩=some (.slice et f.length ev):=by
        show wr.cell? _=_
        rw[M,<-X,LA,Jw (by omega),Kk];rfl
       have ga:c.length<l.length:=by omega
       clear M;go_wp2_with fail
       go_region_law (first
        |(refine KE _ rfl (.tmp 61) (.tmp 64) 42 rfl w.heap.size 32 fc (.slice none 0 0) 1 24 underlying42 fe fg fk fl rfl (by decide) (.slice et f.length ev) f.length V (by simp[Act.eval]) (bX.alloc _) ⟨b0.heap.size,0,none⟩ 1 1 [.slice ex i.length ez] (by simp[Act.eval]) rfl (ge (af rfl)) (kL _ _ _) (by decide) (by unfold maxLen;omega) (by omega) (by simp;omega) _ rfl ?_;intro z S gb m j aN b1;have T:=ab ((j.block w.heap.size (by simp;omega) (fun h=>(H.off _ JK _ h.symm).2.1 rfl)).trans (ai aR));have gc:=(j.cell_far ⟨w.heap.size,c.length*3+2,none⟩ (by simp;omega) (fun h=>(H.off _ JK _ h.symm).2.1 rfl)).trans ((JS _ _ ⟨w.heap.size,c.length*3+2,none⟩ b2).trans b3);have f11:=(blk T).2;have gf:=aa T;have aT:=ab (aZ.app (vs1:=[]) (vs2:=[]) (v':=.slice (some ⟨z,0,none⟩) (f.length+1) S) (H.alloc _) (by simp;omega) j rfl (aN.imp id (fun e=>MN e.symm)) b1);have b4:=ab ((b5.alloc (by omega) _).grown j (by simp;omega) (fun n h=>(H.off _ JK n h).2.2.1));have b6:=ab m;clear m j aN)
        |(go_simp;go_at_call 92;refine(BC _ i _ (by exact es.keep u.drew) (by omega)).mono ?_;rintro e b0 ⟨g',rfl,ca,r⟩;obtain⟨ex,ez,rfl⟩:=dB ca;obtain⟨gr,eN,eR,eT⟩:=E6 ac.drew (by exact u.size) r ca;have eX:=ab eN;have H:=ab eR;have gs:=ab eT;have bX:=ab (dG G.drew r);have aR:=ab ((r.block _ (by exact P)).trans B);have b5:=ab (u.drew.trans (r.mono (by exact u.size)));have b3:=(r.cell (p:=⟨w.heap.size,c.length*3+2,none⟩) (by exact P)).trans bS;have b2:=aa aR;clear r ca eN eR eT))
       all_goals
        go_wp2;go_roundg I.length
        case measure=>simp
        case rel=>
         have b7:z≠w.heap.size:=(aT.off _ JK z rfl).2.1;refine⟨f++[i],I,gr,.slice (some ⟨z,0,none⟩) (f.length+1) S,V++[.slice ex i.length ez],bN,rfl,?_,?_,?_,eo.trans eX,aT.box _ _,b4.setCell (Ji _) _,?_,?_⟩
         ·rw[Jk];go_num
         ·rw[am (U T),<-X,JM,KC _ _ (by omega),Kk];rfl
         ·have:=bD (off:=c.length*3+2) (x:=.slice (some ⟨z,0,none⟩) (f.length+1) S) b6 (b:=w.heap.size) (by simp[Value.ownBlock];exact b7);rw[Jk];exact this
         ·rw[Jk,Jk,U aV];rfl
         ·intro n gt A t C;rcases Nat.lt_trichotomy n f.length with hk|hk|hk
          ·rw[Jz hk]at t;rw[Jz (by rw[U aV];exact hk)]at C;exact(ep n gt A t C).mono eX
          ·subst hk;rw[Jw (Ji _),Kv]at t;rw[Jw (by rw[U aV];exact Ji _),aV,Kv]at C;simp at t C;subst t C;exact gs
          ·rw[Kj (by simp;omega)]at t;cases t
      |nil=>
       have a5:decide (f.length<a.rows.length)=false:=by simp at en⊢;omega
       obtain⟨e0,cb,e1,e2⟩:=qd ac G;have cc:=eo.trans cb
       have gw:Hid (i' e0 (c++[a]) (s++[.string a.name,.slice ad d.length ae,aU])):=by
        refine .snoc a _ _ (c6.mono ((fw.trans ed).trans cc)) ⟨gg.mono cc,V,e2,?_,?_⟩
        ·rw[U aV,y,JD]
        ·intro n i A t C;rw[U y,JD]at t;exact(ep n i A t C).mono cb
       have gx:=ab e1;clear cb e1 e2 cc;go_wp2;go_roundg k.length
       case measure=>simp
       case rel=>
        refine⟨c++[a],k,e0,_,ba,rfl,?_,?_,gw,gx,u⟩
        ·rw[Jk];go_num
        ·rw[U B,Kf];rfl
theorem E8(a:Nat->Addr)(b:Value)(l:List Tb)(w:World)(c:nN a w)(d:bp w b l)(h:bT l≠0):
  Calls prog 35 #[b] w fun e w'=>e=.returned (.tuple #[.pointer none,gT a (bT l)])/\Below w.heap.size w w':=by
 obtain⟨i,j⟩:=ag c d;clear c d;have f:Hid (gT a (bT l)=.iface 496 (.pointer (some (a (bT l-1).toNat)))):=by unfold Hid gT;rw[Jn h]
 go_enter func35,ntmps35;go_wp2_with fail;refine(vz a b l _ (by exact i) (by exact j)).mono ?_;rintro e n ⟨rfl,g⟩;have k:=ab g;clear g;rw[U f];generalize a (bT l-1).toNat=m at*;go_wp2;refine Jr (v:=.tuple #[.pointer none,.iface 496 (.pointer (some m))]) (by simp[results,results35,go_sem]) rfl ⟨by rw[U f],k⟩
def jz(W:World)(a:Nat)(c:List Value)(l:List (List Int)):Prop:=c.length=l.length/\ ∀(d:Nat) e b,c[d]? =some e->l[d]? =some b-> ∃f,e=.slice (some ⟨f,0,none⟩) a a/\b.length=a/\W.heap[f]? =some (.cells (aE b).toArray 3 (0,0))
theorem jz.below{W W':World}{a:Nat}{b:List Value}{l:List (List Int)}(c:jz W a b l)(f:Below W.heap.size W W'):jz W' a b l:=⟨c.1,fun g h i j k=>by
 obtain⟨d,m,n,e⟩:=c.2 g h i j k
 exact⟨d,m,n,(f.block d (aa e)).trans e⟩⟩
theorem jz.grown{W W':World}{d lo:Nat}{v:Value}{n:Nat}{xs e:List Value}{l:List (List Int)}(f:jz W d e l)(i:W.ownsRow lo 32 1 v n xs)(j:W.grownBy W' v.ownBlock):jz W' d e l:=⟨f.1,fun k m o p q=>by
 obtain⟨h,r,s,c⟩:=f.2 k m o p q;refine⟨h,r,s,(j.block h (aa c) (fun a=>?_)).trans c⟩;rcases i.2 with⟨hv,_⟩|⟨g,cap,cur,hv,hge,b,_⟩
 ·rw[hv]at a;cases a
 ·rw[hv]at a;injection a with a;subst a;rw[c]at b;injection b with b;injection b with _ t _
  exact absurd t (by decide)⟩
theorem jz.snoc{W:World}{d:Nat}{f:List Value}{l:List (List Int)}(e:jz W d f l){b:Nat}{r:List Int}(i:r.length=d)(j:W.heap[b]? =some (.cells (aE r).toArray 3 (0,0))):jz W d (f++[.slice (some ⟨b,0,none⟩) d d]) (l++[r]):=by
 refine⟨by simp[e.1],fun g k m a c=>?_⟩;by_cases h:g<f.length
 ·rw[Jz h]at a;rw[Jz (by rw[<-e.1];exact h)]at c;exact e.2 g k m a c
 ·rw[Jw (by omega)]at a;rw[Jw (by rw[<-e.1];omega),<-e.1]at c;have n:g-f.length=0:=by have:=(Jy.1 a).1;simp at this;omega
  rw[n]at a c;simp at a c;subst a c;exact⟨b,rfl,i,j⟩
theorem jz.rows{W:World}{b lo:Nat}{v:Value}{a:List Value}{l:List (List Int)}(c:jz W b a l)(r:b<=maxLen)(f:W.ownsRow lo 32 1 v a.length a)(d:a.length<=maxLen):bZ W v l:=by
 refine⟨a,?_,c.1,fun h i j k m=>?_⟩
 ·rcases f.2 with⟨hv,h0⟩|⟨g,cap,cur,hv,hge,hh,c1,c2,c3,c4⟩
  ·exact⟨none,0,by rw[hv,h0],d,fun n=>by omega⟩
  ·refine⟨_,cap,hv,d,fun n=>⟨g,0,rfl,aa hh,fun e o=>?_⟩⟩;rw[JV,(blk hh).1];rw[Lb]at c4;have:cur.toList[e]? =a[e]? :=by rw[<-c4,Kh o]
   rw[<-this];simp
 ·obtain⟨s,rfl,p,q⟩:=c.2 h j i m k;have:=rY q (by simp only[Jm];omega) b;rw[Jm,p]at this;exact this
def gE(T:List Tb)(a:List Sr)(ts:List (List Int->Bool))(n:Nat):List (List Int):=((List.range n).map (gj (aK T a))).filter fun b=>ts.all fun c=>c b
theorem yh(T:List Tb)(a:List Sr)(ts:List (List Int->Bool))(n:Nat):gE T a ts (n+1)=gE T a ts n++(if(ts.all fun t=>t (gj (aK T a) n))=true then [gj (aK T a) n]else []):=by
 unfold gE;rw[List.range_succ,Ks,Ma,List.map_singleton]
 congr 1
 rw[List.filter_cons,List.filter_nil]
theorem ph(T:List Tb)(a:List Sr)(ts:List (List Int->Bool))(n:Nat):(gE T a ts n).length<=n:=by unfold gE;exact Jt (Lz _ _) (by simp)
theorem se(T:List Tb)(n:Nat): ∀(a:List Sr),(∀s∈a,∀r∈(T.getD s.tab bd).rows,r.length=(bh T s).length)->(∀s∈a,0<(T.getD s.tab bd).rows.length)->(gj (aK T a) n).length=go T a
 | [],_,_=>rfl
 |s::a,d,e=>by
  have g:=se T n a (fun b c=>d b (KQ _ c)) (fun b c=>e b (KQ _ c));have f:=lk (n:=n/cU (aK T a)) (d s JK) (e s JK);rw[Jm]at f
  show((T.getD s.tab bd).rows.getD (n/cU (aK T a)%(T.getD s.tab bd).rows.length) []++gj (aK T a) n).length=_
  rw[Jk,g,f];simp[go]
theorem uI(T:List Tb): ∀(b:List Sr) (a:Nat),0<((aK T b).map List.length).foldl (· * ·) a->0<a/\ ∀s∈b,0<(T.getD s.tab bd).rows.length
 | [],a,c=>⟨c,fun s e=>by cases e⟩
 |s::b,a,c=>by
  have:=uI T b (a*(T.getD s.tab bd).rows.length) c;refine⟨Nat.pos_of_mul_pos_right this.1,fun f d=>?_⟩;rcases JG.1 d with rfl|d
  ·exact Nat.pos_of_mul_pos_left this.1
  ·exact this.2 f d
def Ie(a:Nat->Addr)(w:World)(c:Nat)(l:List (List Int))(e:Ending)(w':World):Prop:=Below w.heap.size w w'/\if 4000<c then e=.returned (.tuple #[.slice none 0 0,bI a cB])else∃b,e=.returned (.tuple #[b,.nilIface])/\bZ w' b l
theorem zS(k:World)(l:Fx)(c:Fc)(a:List Sr)(d:Nat)(q:List (List (List Int)->List Int))(h:List (List Int->Bool))(j:sa k l c a d q h)(aI:0<a.length)(w:World)(y:gh k l w)(aJ:Nat)(z:cJ c.a aJ w)(T:List Tb)(A:Nat)(B:bp w (.slice (some ⟨c.tb,c.tof,none⟩) T.length A) T)(g:yd c T a d):
  Calls prog 201 #[.pointer (some ⟨c.fb,2,none⟩)] w fun e w'=>Ie c.a w (dQ (aK T a)) (gE T a h (dQ (aK T a))) e w':=by
 obtain⟨C,V,bz,aL,r⟩:=dD j y z B g;have D:w.cell? ⟨4,0,none⟩=some (bI c.a 4):=z.cell _ (by decide);have aN:dQ (aK T a)<=8000000:=by refine tz (fun aR aT=>?_) (by simp[aK];exact j.few);obtain⟨aU,aV,rfl⟩:=KM.1 aT;exact g.few _ (ll (by rw[g.len];exact j.ok aU aV))
 have W:Hid (0<dQ (aK T a)-> ∀E∈a,0<(T.getD E.tab bd).rows.length):=fun a0=>(uI T a 1 a0).2;obtain⟨a1,X,Y⟩:=Jq.1 jS;simp only[JB]at Y;obtain⟨Z,ac,ad⟩:=Y;obtain⟨a2,a3,a4,a5⟩:=aP X Z ac ad;clear X Z ac ad;have bA:=j.wide.1
 obtain⟨f,F⟩: ∃f,f=dQ (aK T a):=⟨_,rfl⟩
 have G:=ab (CZ k l c a d q h j w y T A B g.len g.few);rw[<-F]at aN W G⊢;have bF:=ab F;clear j y z B g F;go_enter func201,ntmps201;go_wp2_with fail;refine G.mono ?_;rintro e bG ⟨rfl,H⟩;have ae:=ab H;have a9:=(H.cell (p:=⟨4,0,none⟩) (JR w _ D)).trans D;clear H G D;by_cases aj:4000<f
 ·have a':decide ((4000:Int)<(f:Int))=true:=by simp;omega
  go_wp2_with fail
  go_region
  all_goals go_wp2
  all_goals go_ret2
  all_goals exact⟨ae.drew,by rw[Jo aj];rfl⟩
 ·have a':decide ((4000:Int)<(f:Int))=false:=by simp;omega
  clear a9;go_wp2_with fail
  go_loopg [5,6,7,14] f (fun ba bb _ _ ak I=> ∃b i,b+ba=f/\ak=.int .i64 (b:Nat)/\I.ownsRow w.heap.size 32 1 bb i.length i/\jz I d i (gE T a h b)/\Below w.heap.size w I)
  case atStart=>exact⟨0,[],by omega,rfl,JF _ _ _ _,⟨rfl,fun ak bJ aR e=>by simp at e⟩,ae⟩
  case round=>
   obtain⟨b,i,bL,rfl,J,K,al⟩:=hrel;have bN:i.length<=4000:=by rw[K.1];exact Jt (ph _ _ _ _) (by omega)
   obtain⟨aD,bS,rfl⟩:=bi J;obtain⟨L,s,m⟩:=aC J K al;clear J K al;by_cases bX:b<f
   ·have bc:decide ((b:Int)<(f:Int))=true:=by simp;omega
    obtain⟨t,rfl⟩: ∃t,gk=t+1:=⟨gk-1,by omega⟩
    have M:=(U W) (by omega)
    have an:=ab (GB k l c a d q h C aI wr (V.below m) T A (aL.keep m) r M b (by omega));have ao:(gj (aK T a) b).length=d:=by rw[se T b a (fun E be=>r.shape _ (ll (by rw[r.len];exact C.ok E be))) M,<-r.wide]
    have ap:=ab (yh T a h b);generalize gj (aK T a) b=N at*;have u:=ab ao;clear M ao;go_wp2_with fail;refine an.mono ?_;rintro e ar ⟨rfl,n,O⟩;have P:Hid (Below w.heap.size w ar):=m.trans (n.mono m.size);have au:Hid (aS ar (.slice (some ⟨wr.heap.size+1,0,none⟩) d d) (aE N)):=by have:=rY O (by rw[Jm,U u];unfold maxLen;omega) d;rw[Jm,U u]at this;exact this
    obtain⟨av,ax,ay⟩:=aC (dG L n) ((s.below n).snoc u O) (s.below n);clear n O an L s;go_wp2_with fail;refine(Bw k l c a d q h C _ (by exact V.below P) _ N u (by exact au)).mono ?_;rintro e aA ⟨rfl,o⟩;have Q:Hid (Below w.heap.size w aA):=P.trans (o.mono P.size);obtain⟨v,bg,bk⟩:=aC (dG av o) (ax.below o) (ay.below o);have bl:=Q.size;clear o av ax ay au
    cases x:h.all (fun bn=>bn N)with
    |false=>
     have R:=ab x;clear x;go_wp2;go_roundg t
     case measure=>simp
     case rel=>
      refine⟨b+1,i,by omega,?_,v,?_,Q⟩
      ·go_num
      ·rw[U ap,U R]
       simpa using U bk
    |true=>
     have R:=ab x;clear x;go_wp2_with (at_builtin;refine JT _ rfl _ _ 42 rfl w.heap.size 32 a1 (.slice none 0 0) 1 24 underlying42 a2 a3 a4 a5 rfl (by decide) _ _ _ rfl (v.alloc _) ⟨aA.heap.size,0,none⟩ 1 1 [.slice (some ⟨wr.heap.size+1,0,none⟩) d d] rfl rfl ?c1 ?c2 (by decide) ?c3 ?c4 ?c5 _ rfl ?_)
     case c1=>exact ge (af rfl)
     case c2=>exact kL _ _ _
     case c3=>unfold maxLen;omega
     case c4=>omega
     case c5=>simp;omega
     intro b0 b1 bq g S br _;obtain⟨bs,bt⟩:=ag g (((bg.below ((Jj _ _).alloc (Ji _) _))).grown (v.alloc _) S);have bu:Hid (Below w.heap.size w bq):=(Q.alloc bl _).grown S (by simp;omega) (fun bv e=>(v.lt bv e).1);clear g S br;go_wp2;go_roundg t
     case measure=>simp
     case rel=>
      refine⟨b+1,i++[.slice (some ⟨wr.heap.size+1,0,none⟩) d d],by omega,?_,?_,?_,bu⟩
      ·go_num
      ·rw[Jk];exact bs
      ·rw[U ap,R,Jo rfl];exact bt
   ·have bc:decide ((b:Int)<(f:Int))=false:=by simp;omega
    go_wp2
    go_ret2
    refine⟨U m,?_⟩;rw[Jn aj];have bx:b=f:=by omega
    subst bx;exact⟨_,rfl,s.rows (by unfold maxLen;omega) L (by unfold maxLen;omega)⟩
abbrev sl(k b:Nat):Value:=.slice (some ⟨b,0,none⟩) k k
structure kZ(W:World)(lo g:Nat)(bs:List Nat)(k rest:Nat)(C:Nat->List Int):Prop where
 out:W.heap[g]? =some (.cells (bs.map (sl k)++List.replicate rest (Value.slice none 0 0)).toArray 32 (0,0))
 row: ∀(i b:Nat),bs[i]? =some b->b≠g/\lo<=b/\(C i).length=k/\W.heap[b]? =some (.cells (aE (C i)).toArray 3 (0,0))
 one: ∀(i j b:Nat),bs[i]? =some b->bs[j]? =some b->i=j
theorem kZ.below{W W':World}{lo g:Nat}{c:List Nat}{k d:Nat}{C:Nat->List Int}(a:kZ W lo g c k d C)(f:Below W.heap.size W W'):kZ W' lo g c k d C:=
 ⟨(f.block g (aa a.out)).trans a.out,fun i b e=>by
  obtain⟨j,l,m,h⟩:=a.row i b e
  exact⟨j,l,m,(f.block b (aa h)).trans h⟩,a.one⟩
theorem kZ.congr{W:World}{lo g:Nat}{a:List Nat}{k d:Nat}{C f:Nat->List Int}(c:kZ W lo g a k d C)(e: ∀i,i<a.length->f i=C i):kZ W lo g a k d f:=
 ⟨c.out,fun i b h=>by
  obtain⟨j,l,m,n⟩:=c.row i b h;rw[e i (Jy.1 h).1]
  exact⟨j,l,m,n⟩,c.one⟩
theorem kZ.put{W W1:World}{lo g:Nat}{c:List Nat}{k l:Nat}{C:Nat->List Int}(b:kZ W lo g c k (l+1) C)(o:Below W.heap.size W W1){d:Nat}(u:lo<=W.heap.size)(v:W.heap.size<=d){h:List Int}(p:h.length=k)(hn:W1.heap[d]? =some (.cells (aE h).toArray 3 (0,0))):
  kZ (W1.setCell ⟨g,c.length,none⟩ (sl k d)) lo g (c++[d]) k l (fun i=>if i=c.length then h else C i):=by
 have m:=b.below o;have w:=aa b.out;refine⟨?_,fun i a j=>?_,fun i n a e f=>?_⟩
 ·rw[am m.out]
  congr 2
  simp only[ME,JM];rw[KC _ _ (by simp)];simp
 ·rcases gS j with⟨hi,j⟩|⟨hi,rfl⟩
  ·obtain⟨q,r,s,t⟩:=m.row i a j;rw[Jn (by omega)];exact⟨q,r,s,by rw[Jp _ _ _ _ (by show a≠g;omega)];exact t⟩
  ·rw[Jo hi];exact⟨by omega,by omega,p,by rw[Jp _ _ _ _ (by show a≠g;omega)];exact hn⟩
 ·rcases gS e with⟨hi,e⟩|⟨hi,f1⟩<;>rcases gS f with⟨hj,f⟩|⟨hj,f2⟩
  ·exact b.one i n a e f
  ·have:=aa (b.row i a e).2.2.2;omega
  ·have:=aa (b.row n a f).2.2.2;omega
  ·omega
theorem kZ.set{W:World}{lo g:Nat}{d:List Nat}{k h:Nat}{C:Nat->List Int}(c:kZ W lo g d k h C){i b j:Nat}(e:d[i]? =some b)(x:Int):
  kZ (W.setCell ⟨b,j,none⟩ (.int .i64 x)) lo g d k h (fun n=>if n=i then(C i).set j x else C n):=by
 obtain⟨l,o,p,q⟩:=c.row i b e;refine⟨by rw[Jp _ _ _ _ (by show g≠b;exact fun a=>l a.symm)];exact c.out,fun n m a=>?_,c.one⟩;by_cases f:n=i
 ·subst f;rw[e]at a;injection a with a;subst a;rw[Jo rfl];refine⟨l,o,by simpa using p,?_⟩;rw[am q]
  congr 2
  simp
 ·obtain⟨r,s,t,u⟩:=c.row n m a;rw[Jn f];refine⟨r,s,t,?_⟩;rw[Jp _ _ _ _ (by show m≠b;intro v;subst v;exact f (c.one _ _ _ a e))];exact u
def ii(a:List (List (List Int)->List Int))(b:List (List Int))(j i:Nat):List Int:=(a.take j).map (fun c=>(c b).getD i 0)++List.replicate (a.length-j) 0
theorem E9(a:List (List (List Int)->List Int))(b:List (List Int)){j:Nat}(c:j<=a.length)(i:Nat):(ii a b j i).length=a.length:=by simp[ii];omega
theorem Fa(pre:List (List (List Int)->List Int))(f:List (List Int)->List Int)(suf:List (List (List Int)->List Int))(a:List (List Int))(i:Nat):(ii (pre++f::suf) a pre.length i).set pre.length ((f a).getD i 0)=ii (pre++f::suf) a (pre.length+1) i:=by unfold ii;rw[List.take_left' rfl,KC _ _ (by simp)];rw[show pre++f::suf=(pre++[f])++suf by simp,show pre.length+1=(pre++[f]).length by simp,List.take_left' rfl];simp only[Jm,Kv,Jk,Ju,Kr,JV,Ks,Mz,List.map_nil];rw[show pre.length+1+suf.length-pre.length=suf.length+1 by omega,show pre.length+1+suf.length-(pre.length+1)=suf.length by omega,ME];simp
theorem aS.set{W:World}{v:Value}{xs:List Value}(d:aS W v xs){a:Addr}(e: ∀b o n c,v=.slice (some ⟨b,o,none⟩) n c->b≠a.block)(u:Value):aS (W.setCell a u) v xs:=by obtain⟨f,g,rfl,h,i⟩:=d;refine⟨f,g,rfl,h,fun j=>?_⟩;obtain⟨b,o,rfl,k,l⟩:=i j;refine⟨b,o,rfl,by simpa [World.setCell]using k,fun m p=>?_⟩;rw[<-l m p];simp only[World.cell?,Jp _ _ _ _ (e b o _ _ rfl)]
def F8(a:Nat->Addr)(w:World)(p k:Nat)(c:Value)(w':World):Prop:= ∃b,c=.iface 110 (.pointer (some ⟨b,0,none⟩))/\w.heap.size<=b/\w'.heap[b]? =some (.cells #[.int .i64 (p:Nat),bI a k] 113 (0,0))
def Fb(a:Nat->Addr)(w:World)(j k l:Nat)(T:List Tb)(c:Fs)(m:List (List (List Int)->List Int))(n:List (List Int->Bool))(er:Option (Nat×Nat))(e:Ending)(w':World):Prop:=Below w.heap.size w w'/\
 (er=none-> ∃b d f,e=.returned (.tuple #[.pointer (some ⟨b,0,none⟩),.nilIface])/\w'.heap[b]? =some (.cells #[.pointer none,.pointer (some ⟨d,2,none⟩)] 288 (0,0))/\gh w f w'/\sa w f ⟨w,a,d,j,k,l,T,fun o=>o==b,false⟩ c.ss c.wd m n)/\
 (∀g h,er=some (g,h)-> ∃i,e=.returned (.tuple #[.pointer none,i])/\F8 a w g h i w')
theorem wy(a:Nat->Addr)(w:World)(J:cJ a w.heap.size w)(r lo:Nat)(ay:Int)(b:Nat)(z:w.heap[r]? =some (.cells #[.int .i64 ay,.pointer none,.pointer (some ⟨b,0,none⟩)] 180 (0,0)))
  (i j k:Nat) (T:List Tb) (K:bp w (.slice (some ⟨i,j,none⟩) T.length k) T) (L: ∀t∈T,t.cols.length<=6)
  (M:Int) (A B C:Value) (g:List (Tk×Tk)) (N:w.heap[b]? =some (.cells #[.int .i64 M,A,B,C] 256 (0,0))) (l:w.ownsRow lo 260 5 B g.length (dO g)) (aA:0<g.length) (aI:g.length<=3)
  (h:List (bH×Value×Option Addr)) (O:w.ownsRow lo 251 5 A h.length (dI h)) (aJ:0<h.length) (aL:h.length<=6) (s:bH->List Sr->Option (Nat×Nat)) (D:bH->List Sr->List (List Int)->List Int) (P: ∀(c:Fc),c.w0=w->c.T=T->c.iw=false-> ∀e∈h,pf c e.1.place e.2.1 (.pointer e.2.2) e.1.asP e.1.asT (s e.1) (D e.1)) (Q: ∀e∈h,jQ e.2.1)
  (us:List (cn×Value×Value)) (R:w.ownsRow lo 263 4 C us.length (du us)) (aN:us.length<=1000) (hex: ∀u∈us,∃n,bC w (fun _=>True) n u.2.1 u.1.l/\bC w (fun _=>True) n u.2.2 u.1.r):
  Calls prog 81 #[.pointer (some ⟨r,0,none⟩),.slice (some ⟨i,j,none⟩) T.length k] w fun e w'=>Fb a w i j k T (aX T g) (h.map fun e=>D e.1 (aX T g).ss) (us.map fun u=>iX (a6 T (aX T g).ss) u.1) (lZ T (aX T g) (jM s (aX T g) h) us) e w':=by
 obtain⟨E,F⟩: ∃E,E=lZ T (aX T g) (jM s (aX T g) h) us:=⟨_,rfl⟩
 rw[<-F];obtain⟨S,V,W,X,Y,Z,ac,ad⟩:=A0 F J K N l O P Q;obtain⟨ae,aj,ak⟩:=aC R hex L;have bg:=aa z;obtain⟨G,-⟩:=blk z;have bk:w.cell? ⟨r,1,none⟩=some (.pointer none):=G 1;have bl:w.cell? ⟨r,2,none⟩=some (.pointer (some ⟨b,0,none⟩)):=G 2;clear F J K N l O P Q R hex L z G
 have al:Hid (FS ⟨w,a,w.heap.size+1,i,j,k,T,fun d=>d==w.heap.size,false⟩ (Fx.set (fun _=>none) w.heap.size (.cells #[.pointer none,.pointer none] 288 (0,0))) ((w.alloc (.cells #[.pointer none,.pointer none] 288)).alloc (.cells #[.slice (some ⟨i,j,none⟩) T.length k,.bool false,.slice none 0 0,.int .i64 0,.slice none 0 0,.slice none 0 0,.nilIface] 299)) (.slice none 0 0) (.slice none 0 0) (.slice none 0 0) .nilIface 0 [] none):=by
  have an:Below w.heap.size w ((w.alloc (.cells #[.pointer none,.pointer none] 288)).alloc (.cells #[.slice (some ⟨i,j,none⟩) T.length k,.bool false,.slice none 0 0,.int .i64 0,.slice none 0 0,.slice none 0 0,.nilIface] 299)):=((Jj _ _).alloc (Ji _) _).alloc (by simp) _;refine⟨V.keep an,an,⟨fun d ao e=>?_,?_,by simp,fun H m d e=>?_,?_⟩,af (by simp),rfl,fun bn aR=>W.keep aR.old,JF _ _ _ _,by simp,fun aT l=>by simp at l,⟨by simp,fun aT l=>by simp at l,ak⟩,fun d e=>?_,by simp⟩
  ·by_cases o:d=w.heap.size
   ·subst o;rw[Fx.set_same]at e;injection e with e;subst e;exact⟨Ji _,ai (af rfl)⟩
   ·rw[Fx.set_other _ _ o]at e;cases e
  ·exact Fx.set_other _ _ (by simp)
  ·simp only[JG,JO,Kg,or_self]at m;subst m;simp[Value.ownBlock]at e
  ·refine .cons (fun H m=>?_) (.cons (fun H m=>?_) (.cons (fun H m=>by cases m) .nil))<;>exact gK.nilL _ _ _
  ·have:d=w.heap.size:=by simpa using e
   subst this;simp;omega
 go_enter func81,ntmps81;go_wp2_with fail;refine(uD _ _ _ b lo M A B C g al X Y aA aI h Z aJ aL s D (ac _ rfl rfl rfl) ad us ae aN aj).mono ?_;intro e I aU;obtain⟨bq,br,bs,bt,aV,a0,a1,v,f,p⟩:=aU;simp only at f p;rw[<-U S]at f p;clear al X Y Z ac ad ae aj ak W V S;have bu:w.heap.size<I.heap.size:=by have:=f.st.grow.ltp;simp at this;omega
 have x:I.heap[w.heap.size]? =some (.cells #[.pointer none,.pointer none] 288 (0,0)):=(f.st.grow.fits _ _ (v _ _ (Fx.set_same _ _ _))).2;have q:=f.st.old;simp only at q
 cases E with
 |none=>
  obtain rfl:aV=.nilIface:=f.st.err;simp only[Option.isNone_none,Mi]at p;subst p;have a2:a0.length=h.length:=by have:=(f.its rfl).1;simpa using this
  have a3:a1.length=us.length:=by have:=(f.tst rfl).1;simpa using this
  obtain⟨bv,a4,ap,ar⟩:=f.seal (fun d o=>by
   have:d=w.heap.size:=by simpa using o
   subst this
   exact⟨_,v _ _ (Fx.set_same _ _ _)⟩) (by unfold maxLen;omega) (by unfold maxLen;omega)
  obtain⟨a5,a9,a',y⟩:=aP ap ar x q;obtain⟨au,bx⟩:=blk x;have bz:I.cell? ⟨w.heap.size,1,none⟩=some (.pointer none):=au 1;clear f v a4 ap ar x q au a2 a3;go_wp2
  go_ret2
  refine⟨y.setCell (Ji _) _,fun _=>⟨w.heap.size,w.heap.size+1,_,rfl,?_,⟨y.setCell (Ji _) _,fun d ao e=>?_⟩,a9⟩,fun ba d e=>by cases e⟩
  ·rw[am (U a')];rfl
  ·unfold Fx.off at e;split at e
   ·cases e
   ·rename_i o
    rw[Jp _ _ _ _ (by show d≠w.heap.size;intro bb;subst bb;simp at o)];exact(a5 d ao e).2
 |some bc=>
  obtain⟨ba,d⟩:=bc;obtain⟨be,rfl,av⟩:=f.st.err;simp only[Option.isNone_some,Km,Lj]at p;subst p;obtain⟨ax,y⟩:=ag (f.st.grow.fits _ _ av) q;clear f v x q av;go_wp2
  go_ret2
  refine⟨U y,(fun e=>by cases e),fun bA bF e=>?_⟩;cases e;exact⟨_,rfl,be,rfl,ax.1,ax.2⟩
theorem yi{a b:Option (Nat×Nat)}(c:bQ a b=none):a=none:=(dZ c).1
theorem qe{c:Type}(f:c->Option (Nat×Nat)): ∀(l:List c) (a:Option (Nat×Nat)),l.foldl (fun x d=>bQ x (f d)) a=none->a=none
 | [],_,b=>b
 |_::l,_,b=>yi (qe f l _ b)
theorem vB(T:List Tb): ∀(l:List (Tk×Tk)) (f:Fs),(l.foldl (bW T) f).er=none->f.er=none/\(l.foldl (bW T) f).ss.length=f.ss.length+l.length
 | [],_,b=>⟨b,rfl⟩
 |x::l,f,b=>by
  have a:=vB T l (bW T f x) b;rw[List.foldl_cons,a.2];unfold bW at a⊢
  cases c:dz T x.1.text with
  |none=>rw[c]at a;have:=(dZ a.1).2;cases this
  |some d=>rw[c]at a;refine⟨yi a.1,?_⟩;simp only[Jk,Ju,Kr];omega
theorem BE{T:List Tb}{l:List (Tk×Tk)}(a:(aX T l).er=none):(aX T l).ss.length=l.length:=by have:=(vB T l ⟨[],0,none⟩ a).2;rw[show([]:List Sr).length+l.length=l.length by simp]at this;exact this
theorem cJ.up{a:Nat->Addr}{d:Nat}{w:World}(b:cJ a d w):cJ a w.heap.size w:=
 ⟨⟨Jt b.env.low b.env.size,Ji _,b.env.cell,fun j c=>Js (b.env.below j c) b.env.size,b.env.row,b.env.ne⟩,b.cell,fun j c=>Js (b.below j c) b.env.size,b.row,b.ne⟩
theorem bC.keepB{w w':World}{n:Nat}{v:Value}{l:List Nd}(a:bC w (fun _=>True) n v l)(b:Below w.heap.size w w'):bC w' (fun _=>True) n v l:=bC.keep (fun _ _=>trivial) (fun c _ _ _ d _=>b.block c (aa d)) n v l a
theorem C5{T:List Tb}{a:Fs}{b:bH->List Sr->Option (Nat×Nat)}{c:List (bH×Value×Option Addr)}{us:List (cn×Value×Value)}(d:lZ T a (jM b a c) us=none):a.er=none:=
 qe (fun e:bH×Value×Option Addr=>b e.1 a.ss) c _ (qe (fun u:cn×Value×Value=>gd T a.ss u.1) us _ d)
end
section
open Go Tryz
abbrev If:Go.Conc.Locks.MuLink:= {lock:=76,unlock:=77,ilock:=119,iunlock:=120,lockSlow:=185,unlockSlow:=188,disable:=174,enable:=176,acquire:=177,relMerge:=186,cas32:=184,add32:=187,tMutex:=135,tIMutex:=133,tPMutex:=282,tPIMutex:=342,tPI32:=344,tUP:=336,tNoCopy:=130,tU32:=131}
theorem jA:Go.Conc.Locks.MuLib prog If:=
 ⟨func76,func77,func119,func120,func174,func176,func177,func186,func184,func187,
 underlying133,runUnderlying133,sizeOf133,isAgg133,zeroValue133,
 underlying135,runUnderlying135,sizeOf135,isAgg135,zeroValue135,
 underlying282,runUnderlying282,sizeOf282,isAgg282,zeroValue282,
 underlying342,runUnderlying342,sizeOf342,isAgg342,zeroValue342,
 underlying344,runUnderlying344,sizeOf344,isAgg344,zeroValue344,
 underlying336,runUnderlying336,sizeOf336,isAgg336,zeroValue336,
 underlying130,runUnderlying130,sizeOf130,isAgg130,zeroValue130,
 underlying21,runUnderlying21,sizeOf21,isAgg21,zeroValue21,
 (by kernel_rfl)⟩
end
section
open Go.RowKit Go.MuLone Go.Maps Go.WideMaps Tryz
structure aF(p q:Nat)(w w':World):Prop where
 os:w'.os=w.os
 tape:w'.tape=w.tape
 output:w'.output=w.output
 size:w.heap.size<=w'.heap.size
 block: ∀k,k<w.heap.size->k≠p->k≠q->w'.heap[k]? =w.heap[k]?
theorem aF.refl(p a:Nat)(w:World):aF p a w w:=⟨rfl,rfl,rfl,Ji _,fun _ _ _ _=>rfl⟩
theorem aF.trans{p b:Nat}{w c d:World}(a:aF p b w c)(k:aF p b c d):aF p b w d:=
 ⟨k.os.trans a.os,k.tape.trans a.tape,k.output.trans a.output,Jt a.size k.size,fun n hn e f=>(k.block n (Js hn a.size) e f).trans (a.block n hn e f)⟩
theorem Below.off2{p b:Nat}{w w':World}(a:Below w.heap.size w w'):aF p b w w':=⟨a.os,a.tape,a.output,a.size,fun c d _ _=>a.block c d⟩
theorem aF.below{p c b:Nat}{w w':World}(a:aF p c w w')(e:b<=w.heap.size)(f:b<=p)(g:b<=c):Below b w w':=⟨a.os,a.tape,a.output,a.size,fun d h=>a.block d (by omega) (by omega) (by omega)⟩
theorem aF.setCell(p a:Nat)(w:World)(o:Nat)(u:Value):aF p a w (w.setCell ⟨p,o,none⟩ u):=
 ⟨rfl,rfl,rfl,by simp[World.setCell],fun k _ b _=>Jp _ _ _ _ (by show k≠p;exact b)⟩
theorem aF.grown{p b:Nat}{w w':World}(a:w.grownBy w' (some b)):aF p b w w':=
 ⟨a.os,a.tape,a.output,a.size,fun k c _ d=>a.block k c (fun e=>by injection e with e;omega)⟩
abbrev l9(v:Value):Option (DataW Value×List MemPlace):=some (.held v,[])
theorem lw:Keyed prog 9:=string_keyed underlying9
abbrev dr(tv:Value)(x y:Int)(mb:Nat)(m:Int):Array Value:= #[tv,.int .i32 x,.int .u32 y,.map (some mb),.int .i64 m]
theorem GF(w:World)(v:Value):(binOp .eql 23 .nilIface (.iface 496 v)).run prog w=.ok (.bool false) w:=by
 have b: ∀a:Nat,(Op.equalIn (a+1) 23 .nilIface (.iface 496 v)).run prog w=.ok false w:=fun a=>by simp[Op.equalIn,run_underlying underlying23]
 simp only[binOp];simp[Op.equal,Op.maxDepth,b 9999]
theorem C6(p:Addr)(w:World):Calls prog 18 #[.nilIface,.iface 496 (.pointer (some p))] w fun e w'=>e=.returned (.bool false)/\w'=w:=by have a:=GF w (.pointer (some p));go_enter func18,ntmps18;go_wp2;go_ret;exact⟨rfl,rfl⟩
theorem C7(t:Value)(w:World):Calls prog 122 #[.nilIface,t] w fun e w'=>e=.returned (.bool false)/\w'=w:=by go_enter func122,ntmps122;go_wp2;go_ret;exact⟨rfl,rfl⟩
theorem tF(w:World):Calls prog 80 #[.nilIface] w fun e w'=>e=.returned .nilIface/\Below w.heap.size w w':=by go_enter func80,ntmps80;go_wp2_with (go_at_call 122;refine(C7 _ _).mono ?_;rintro e w' ⟨rfl,rfl⟩);go_ret;exact⟨rfl,(Jj _ _).alloc (Ji _) _⟩
theorem GG(a:Nat->Addr)(C:Nat)(w:World)(q:cJ a C w)(b c n:Nat)(r:DataW Value)(s:ByteArray)(K:s.size<=1000)(f:Option Addr)(j:Value)(x k m:Int)(L:0<=m/\m<1000000000)(hn:n<1000000000)(D:c≠b)
  (g:w.heap[b]? =some (.cells (dr j x k c m) 140 (0,0))) (u:w.ownsMap prog 9 l9 c n r):
  Calls prog 79 #[.pointer (some ⟨b,1,none⟩),.string s,.agg #[.pointer f,.nilIface]] w fun e w'=>e=.returned (.tuple #[])/\w'.ownsMap prog 9 l9 c (n+1) (r.put (.string s.data.toList) (.held (.agg #[.pointer f,.nilIface])))/\w'.heap[b]? =some (.cells (dr j x k c (m+1)) 140 (0,0))/\aF b c w w':=by
 have E:=Lo (P:=prog) underlying9 (s:=s) (by unfold maxLen;omega);have F:w.cell? ⟨0,0,none⟩=some (bI a 0):=q.cell _ (by decide);have M:0<w.heap.size:=JR w _ F;obtain⟨v,N⟩:=blk g;have O:=aa g;have Q:w.cell? ⟨b,3,none⟩=some (.map (some c)):=v 3;obtain⟨G,y⟩:=ag g u;clear g u q;go_enter func79,ntmps79;go_wp2_with fail;refine(C6 _ _).mono ?_;rintro e R ⟨rfl,z⟩;subst z;obtain⟨d,S,A,B⟩:=(y.alloc (.cells #[.pointer f,.nilIface] 209)).drew.store (t:=136) (e:=209) lw underlying136 (by unfold maxLen;omega) (val:=.agg #[.pointer f,.nilIface]) E rfl;have h:=B.grown;have H:=ab A;have T:=y.lt;have i:d.heap[b]? =some (.cells (dr j x k c m) 140 (0,0)):=(h.block b (by simp;omega) (fun e=>by injection e with e;omega)).trans (ai G);have l:d.heap[w.heap.size]? =some (.cells #[.pointer f,.nilIface] 209 (0,0)):=(h.block w.heap.size (by simp) (fun e=>by injection e with e;omega)).trans (af rfl);obtain⟨o,V⟩:=blk i;obtain⟨p,-⟩:=blk l;have W:d.cell? ⟨b,3,none⟩=some (.map (some c)):=o 3;have X:d.cell? ⟨b,4,none⟩=some (.int .i64 m):=o 4;have Y:d.cell? ⟨w.heap.size,0,none⟩=some (.pointer f):=p 0;have Z:d.cell? ⟨w.heap.size,1,none⟩=some .nilIface:=p 1;have ac:b<d.heap.size:=aa i;have ad:w.heap.size<d.heap.size:=aa l;have I:=ab i;have J:Hid (aF b c w d):=(Below.off2 ((Jj _ _).alloc (Ji _) _)).trans ((Below.off2 (Jj _ _).drew).trans (aF.grown h));have ae:w.heap.size≠b:=by omega
 clear B h A i l o p v;go_wp2_with fail
 go_region_held3 (fun w'=>w'.cell? ⟨b,3,none⟩=some (.map (some c))/\w'.cell? ⟨w.heap.size,0,none⟩=some (.pointer f)/\w'.cell? ⟨w.heap.size,1,none⟩=some .nilIface) (go_keep) (first|fail)
 have z:wrap64 (m+1)=m+1:=by unfold wrap64;omega
 go_wp2;go_end0;refine⟨rfl,H.setCell (a:=⟨b,4,none⟩) D _,?_,J.trans (aF.setCell b c d 4 _)⟩;rw[am (U I)];rfl
end
end Go.Proofs.YtfkeddkfegaeiaaGreatDoor
