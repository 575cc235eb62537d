import Derived.Test.YtfkeddkfegaeiaaGreatDoorPnPlH
set_option maxRecDepth 100000
set_option maxHeartbeats 20000000
namespace Go.Proofs.YtfkeddkfegaeiaaGreatDoor
section
open Go.RowKit Tryz
theorem FS.grewFits{c:Fc}{F:Fx}{W d:World}{e f h j:Value}{k:Nat}{l:List Sr}{er:Option (Nat×Nat)}{g m cap:Nat}(a:FS c F W e f h j k l er)(i:W.grownBy d e.ownBlock)(n:e.ownBlock=some g∨g=W.heap.size)(o:g<d.heap.size):
  gh c.w0 F (d.setCell ⟨c.fb,2,none⟩ (.slice (some ⟨g,0,none⟩) m cap))/\(d.setCell ⟨c.fb,2,none⟩ (.slice (some ⟨g,0,none⟩) m cap)).heap[c.fb]? =some (.cells #[c.tabs,.bool c.iw,.slice (some ⟨g,0,none⟩) m cap,.int .i64 k,f,h,j] 299 (0,0)):=by
 have p:Below c.w0.heap.size W d:=(Jj _ _).grown i a.old.size (fun q b=>(a.grow.off e JK q b).2.2.1);have r:=aZ.app (vs1:=[]) (vs2:=[f,h]) (v':=.slice (some ⟨g,0,none⟩) m cap) a.grow a.old.size i rfl (n.imp id (fun b=>by rw[b];exact Ji _)) o;have s:=(i.block c.fb a.grow.ltp (fun b=>(a.grow.off e JK _ b.symm).2.1 rfl)).trans a.box;refine⟨⟨(a.old.trans p).setCell a.low _,fun t u b=>((r.box 2 (.slice (some ⟨g,0,none⟩) m cap)).fits t u b).2⟩,?_⟩;rw[am s];rfl
theorem zM(c:Fc)(F:Fx)(W:World)(q y z D:Value)(b:Nat)(a:List Sr)(er A:Option (Nat×Nat))(r:FS c F W q y z D b a er)(a0:a.length<3)(p:Int)(t u:Tk)(k:Nat)(a1:dz c.T t.text=some k)(E:k<c.T.length)(n:Nat)(hn:(c.T.getD k bd).cols.length=n)(Z:Hid (A=bQ er (if(ck a u.text).isSome then some (u.place,iJ)else none))):
  Calls prog 196 #[.pointer (some ⟨c.fb,0,none⟩),.agg #[.int .i64 p,.int .i64 t.place,.string t.text,.int .i64 u.place,.string u.text]] W fun e W'=>e=.returned (.tuple #[])/\FG c F y z ⟨a++[⟨u.text,k,b⟩],b+n,A⟩ W':=by
 obtain⟨is,ac,ad⟩:=Jq.1 Gv;simp only[JB]at ad;obtain⟨ae,aj,ak⟩:=ad;obtain⟨a2,a3,a4,a5⟩:=aP ac ae aj ak;clear ac ae aj ak;have al:=ab hn;have bJ:n<=6:=by rw[<-hn,JC,Jl E];exact r.wide.2.2 _ (Ky E)
 have bL:b<=18:=by have:=r.wide.1;omega
 have a9:W.heap.size≠c.fb:=by have:=r.grow.ltp;omega
 have a':Hid (q.ownBlock≠some W.heap.size):=fun e=>by have:=(r.grow.off q JK _ e).2.2.2;omega
 have g:=ab (r.alloc (.cells #[.int .i64 p,.int .i64 t.place,.string t.text,.int .i64 u.place,.string u.text] 260));clear r hn;go_enter func196,ntmps196
 go_upto_region 1 with(fail)
 have B:Hid ((W.alloc (.cells #[.int .i64 p,.int .i64 t.place,.string t.text,.int .i64 u.place,.string u.text] 260)).heap[W.heap.size]? =some (.cells #[.int .i64 p,.int .i64 t.place,.string t.text,.int .i64 u.place,.string u.text] 260 (0,0))):=af rfl;generalize W.alloc (.cells #[.int .i64 p,.int .i64 t.place,.string t.text,.int .i64 u.place,.string u.text] 260)=an at*;generalize W.heap.size=h at*;obtain⟨ba,bb⟩:=blk B;have bc:=aa B;obtain⟨ao,bN,bS⟩:=g.facts;have be:an.cell? ⟨c.fb,0,none⟩=some (.slice (some ⟨c.tb,c.tof,none⟩) c.T.length c.tc):=ao 0;clear ao
 go_cut [4] (fun bg G=>bg=.pointer (some ⟨c.tb,c.tof+k*3,none⟩)/\G=an.drew)
 case first=>
  go_region_with (go_at_call 242;refine(ow c.tb c.tof c.tc c.T t.text _ (by exact g.drew.tabs _ g.drew.fits)).mono ?_;rintro e ap ⟨rfl,O⟩;obtain rfl:=O.symm;rw[a1];simp only[Lc])
  all_goals
   go_wp2_with fail;go_meet
   case rel=>exact⟨rfl,rfl⟩
 case rest=>
  obtain⟨rfl,rfl⟩:=hcut;go_wp2_with fail;refine(mY c F _ q y z D b a er (by exact g.drew) u.text).mono ?_;rintro e ap ⟨⟨bX,rfl,ar⟩,O⟩;obtain rfl:=O.symm;have P:=ab ar;clear ar
  go_upto_if 27 with(fail)
  go_cut [] (fun G=> ∃H Q,F.le H/\FS c H G q y z Q b a A/\G.heap[h]? =some (.cells #[.int .i64 p,.int .i64 t.place,.string t.text,.int .i64 u.place,.string u.text] 260 (0,0)))
  case first=>
   cases v:ck a u.text with
   |none=>
    obtain rfl:=P.no v;have R:Hid (A=er):=by rw[U Z,v];exact lj er
    clear v;go_wp2_with fail;go_meet
    case rel=>exact⟨F,D,Fx.le.refl F,by rw[U R];exact g.drew,B⟩
   |some b0=>
    obtain⟨-,d,b1,rfl,-,-,-,-⟩:=P.yes v;have R:Hid (A=bQ er (some (u.place,iJ))):=by rw[U Z,v];rfl
    have f:=g.env.cell 7 (by decide);clear v;go_wp2_with fail;refine(mD _ _ _ _).mono ?_;rintro e ap ⟨I,rfl,bk,b2,i,S⟩;obtain⟨au,T⟩:=ag (qJ g.drew bk i S) ((S.block h bc).trans B);clear i S;go_wp2_with fail;refine(nJ c _ _ q y z D b a er (by exact au.2.2) I u.place iJ (Fx.set_same _ _ _)).mono ?_;rintro e b3 ⟨rfl,av,b4,ax⟩;obtain⟨bl,bn⟩:=ag ax ((av.block h (aa T) a9).trans T);clear av ax;go_wp2_with fail;go_meet
    case rel=>exact⟨_,_,au.1.le,by rw[U R];exact U bl,bn⟩
  case rest=>
   obtain⟨H,Q,ay,x,J⟩:=hcut;obtain⟨bq,aA,T⟩:=aC ay x J;obtain⟨j,l,br⟩:=bi x.srcs;subst br;obtain⟨V,aI,K⟩:=x.facts;have aJ:wc.cell? ⟨c.fb,2,none⟩=some (.slice j a.length l):=V 2;have I:wc.cell? ⟨c.fb,3,none⟩=some (.int .i64 b):=V 3;obtain⟨aL,bs⟩:=blk J;have aN:wc.cell? ⟨h,4,none⟩=some (.string u.text):=aL 4;have aR:=aa J;have b5:=x.old.size;have bt:h≠wc.heap.size:=by omega
   have bu:c.fb≠wc.heap.size:=by omega
   have X:Hid ((Value.slice j a.length l).ownBlock≠some c.fb):=fun e=>(x.grow.off (.slice j a.length l) JK _ e).2.1 rfl;clear ay x J ba bb be g B P V aL
   go_upto_region 6 with(fail)
   go_cut [] (fun bv=> ∃d cap o,bv=o.setCell ⟨c.fb,2,none⟩ (.slice (some ⟨d,0,none⟩) (a.length+1) cap)/\(wc.drew.alloc (.cells #[.string u.text,.pointer (some ⟨c.tb,c.tof+k*3,none⟩),.int .i64 b] 423)).grownBy o (Value.slice j a.length l).ownBlock/\((Value.slice j a.length l).ownBlock=some d∨d=(wc.drew.alloc (.cells #[.string u.text,.pointer (some ⟨c.tb,c.tof+k*3,none⟩),.int .i64 b] 423)).heap.size)/\d<o.heap.size/\o.ownsRow c.w0.heap.size 423 3 (.slice (some ⟨d,0,none⟩) (a.length+1) cap) (a.length+1) (kG c a++[.string u.text,.pointer (some ⟨c.tb,c.tof+k*3,none⟩),.int .i64 b]))
   case first=>
    go_region_law (first
     |(refine KE _ rfl (.tmp 40) (.tmp 51) 293 rfl c.w0.heap.size 423 is (.agg #[.string ⟨#[]⟩,.pointer none,.int .i64 0]) 3 32 underlying293 a2 a3 a4 a5 rfl (by decide) (.slice j a.length l) a.length (kG c a) (by simp[Act.eval]) (aA.drew.srcs.alloc _) ⟨wc.heap.size,0,none⟩ 1 1 [.string u.text,.pointer (some ⟨c.tb,c.tof+k*3,none⟩),.int .i64 b] (by simp[Act.eval]) rfl (KR (cs:= #[.string u.text,.pointer (some ⟨c.tb,c.tof+k*3,none⟩),.int .i64 b]) (af rfl)) (IE _ _ _) (by decide) (by unfold maxLen;omega) (by omega) (by simp;omega) _ rfl ?_;intro b6 b7 L M f i C;have b9:L.cell? ⟨c.fb,2,none⟩=some (.slice j a.length l):=(f.cell_far ⟨c.fb,2,none⟩ (by simp;omega) (fun e=>(U X) e.symm)).trans ((JS _ _ ⟨c.fb,2,none⟩ (by exact K)).trans aJ);have b':L.cell? ⟨c.fb,3,none⟩=some (.int .i64 b):=(f.cell_far ⟨c.fb,3,none⟩ (by simp;omega) (fun e=>(U X) e.symm)).trans ((JS _ _ ⟨c.fb,3,none⟩ (by exact K)).trans I);have ca:L.cell? ⟨h,4,none⟩=some (.string u.text):=(f.cell_far ⟨h,4,none⟩ (by simp;omega) (fun e=>(U a') e.symm)).trans ((JS _ _ ⟨h,4,none⟩ (by exact aR)).trans aN);have f9:L.frozen? ⟨c.fb,2,none⟩=false:=(f.frozen_far ⟨c.fb,2,none⟩ (by simp;omega) (fun e=>(U X) e.symm)).trans ((Lr (w:=wc) (by exact J9 _ _ _ (by exact K))).trans (aI _)))
     |fail)
    all_goals
     go_wp2_with fail;go_meet
     case rel=>exact⟨_,_,_,rfl,f,i,C,M⟩
   case rest=>
    obtain⟨d,cap,o,rfl,f,i,C,M⟩:=hcut;have N:=ab (aA.drew.alloc (.cells #[.string u.text,.pointer (some ⟨c.tb,c.tof+k*3,none⟩),.int .i64 b] 423));have bx:=ab (FS.grew (s:=⟨u.text,k,b⟩) N f i C (by rw[<-EQ];exact M) a0 E rfl);obtain⟨aT,Y⟩:=FS.grewFits (m:=a.length+1) (cap:=cap) N f i C;obtain⟨cb,cc,cd,-,bz,-,bA,-⟩:=(N.tabs _ aT).tab E;obtain⟨ce,cf,rfl,-,-⟩:=bA;rw[Jm,U al]at bz;obtain⟨aU,cg⟩:=blk Y;have ch:(o.setCell ⟨c.fb,2,none⟩ (.slice (some ⟨d,0,none⟩) (a.length+1) cap)).cell? ⟨c.fb,3,none⟩=some (.int .i64 b):=aU 3;have ci:=aa Y;clear f i C M aT Y aU aJ I K aI aN bs bt bu aR N;generalize o.setCell ⟨c.fb,2,none⟩ (.slice (some ⟨d,0,none⟩) (a.length+1) cap)=cj at*
    go_upto_region 7 with(fail)
    go_region
    all_goals
     go_wp2;go_end0;have aV:=U bx;have bF:(bh c.T ⟨u.text,k,b⟩).length=n:=U al;have bG:((b+n:Nat):Int)=(b:Int)+n:=by omega
     rw[bF,bG]at aV;exact⟨rfl,H,.slice (some ⟨d,0,none⟩) (a.length+1) cap,Q,bq,aV.drew⟩
theorem EX{T:List Tb}{s:ByteArray}{k:Nat}(a:dz T s=some k):k<T.length:=by unfold dz at a;rw[LQ]at a;exact a.1
theorem zN(c:Fc)(F:Fx)(W:World)(h f g i:Value)(b:Nat)(a:List Sr)(er:Option (Nat×Nat))(k:FS c F W h f g i b a er)(l:a.length<3)(p:Int)(t u:Tk):
  Calls prog 196 #[.pointer (some ⟨c.fb,0,none⟩),.agg #[.int .i64 p,.int .i64 t.place,.string t.text,.int .i64 u.place,.string u.text]] W fun e W'=>e=.returned (.tuple #[])/\FG c F f g (bW c.T ⟨a,b,er⟩ (t,u)) W':=by
 cases d:dz c.T t.text with
 |none=>
  have e:bW c.T ⟨a,b,er⟩ (t,u)=⟨a,b,bQ er (some (t.place,dY))⟩:=by unfold bW;rw[d]
  rw[e];exact xW c F W h f g i b a er k p t u d
 |some j=>
  have e:bW c.T ⟨a,b,er⟩ (t,u)=⟨a++[⟨u.text,j,b⟩],b+(c.T.getD j bd).cols.length,bQ er (if(ck a u.text).isSome then some (u.place,iJ)else none)⟩:=by unfold bW;rw[d]
  rw[e];exact zM c F W h f g i b a er _ k l p t u j d (EX d) _ rfl rfl
theorem zO(T:List Tb)(f:Fs)(x:Tk×Tk):(bW T f x).ss.length<=f.ss.length+1:=by
 unfold bW;split
 ·simp
 ·simp
theorem pg{W W':World}{r b n:Nat}{e:TypeId}{size:Nat}{v:Value}{xs:List Value}(c:W.ownsRow b e size v n xs)(a:Kp r W W')(d:v.ownBlock≠some r):W'.ownsRow b e size v n xs:=
 c.kept (row:=some r) ⟨a.os,a.tape,a.output,a.size,fun f g h=>a.block f g (fun i=>h (by rw[i]))⟩ (.inr d)
theorem FS.grewI{c:Fc}{F:Fx}{W h:World}{e d i j:Value}{k n:Nat}{l:List Sr}{er:Option (Nat×Nat)}{g cap:Nat}(a:FS c F W e d i j k l er)(f:W.grownBy h d.ownBlock)(p:d.ownBlock=some g∨g=W.heap.size)(q:g<h.heap.size):
  FS c F (h.setCell ⟨c.fb,4,none⟩ (.slice (some ⟨g,0,none⟩) n cap)) e (.slice (some ⟨g,0,none⟩) n cap) i j k l er:=by
 have m:d∈ [e,d,i]:=by simp
 have o:Below c.w0.heap.size W h:=(Jj _ _).grown f a.old.size (fun r b=>(a.grow.off d m r b).2.2.1);have s:=aZ.app (vs1:=[e]) (vs2:=[i]) (v':=.slice (some ⟨g,0,none⟩) n cap) a.grow a.old.size f rfl (p.imp id (fun b=>by rw[b];exact Ji _)) q;have t:=(f.block c.fb a.grow.ltp (fun b=>(a.grow.off d m _ b.symm).2.1 rfl)).trans a.box;have u:gK d e:=by have:=a.grow.dis;simp only[Ka,JG,JO,Kg,LU,MI]at this;exact this.1.1.symm
 refine⟨(a.env.keep o).keep ((Jj _ _).setCell a.low _),(a.old.trans o).setCell a.low _,s.box _ _,?_,a.err,a.tabs,?_,a.few,a.ok,a.wide,fun v b=>?_,a.low⟩
 ·rw[am t];rfl
 ·exact bD (cC a.srcs u f) (fun b=>(a.grow.off e JK _ b).2.1 rfl)
 ·have:=a.fbX v b;have:=f.size;simp[World.setCell];omega
theorem FS.grewT{c:Fc}{F:Fx}{W h:World}{e i d j:Value}{k n:Nat}{l:List Sr}{er:Option (Nat×Nat)}{g cap:Nat}(a:FS c F W e i d j k l er)(f:W.grownBy h d.ownBlock)(p:d.ownBlock=some g∨g=W.heap.size)(q:g<h.heap.size):
  FS c F (h.setCell ⟨c.fb,5,none⟩ (.slice (some ⟨g,0,none⟩) n cap)) e i (.slice (some ⟨g,0,none⟩) n cap) j k l er:=by
 have m:d∈ [e,i,d]:=by simp
 have o:Below c.w0.heap.size W h:=(Jj _ _).grown f a.old.size (fun r b=>(a.grow.off d m r b).2.2.1);have s:=aZ.app (vs1:=[e,i]) (vs2:=[]) (v':=.slice (some ⟨g,0,none⟩) n cap) a.grow a.old.size f rfl (p.imp id (fun b=>by rw[b];exact Ji _)) q;have t:=(f.block c.fb a.grow.ltp (fun b=>(a.grow.off d m _ b.symm).2.1 rfl)).trans a.box;have u:gK d e:=by have:=a.grow.dis;simp only[Ka,JG,JO,Kg,LU,MI]at this;exact this.1.2.symm
 refine⟨(a.env.keep o).keep ((Jj _ _).setCell a.low _),(a.old.trans o).setCell a.low _,s.box _ _,?_,a.err,a.tabs,?_,a.few,a.ok,a.wide,fun v b=>?_,a.low⟩
 ·rw[am t];rfl
 ·exact bD (cC a.srcs u f) (fun b=>(a.grow.off e JK _ b).2.1 rfl)
 ·have:=a.fbX v b;have:=f.size;simp[World.setCell];omega
theorem FS.dis{c:Fc}{F:Fx}{W:World}{a b d h:Value}{i:Nat}{j:List Sr}{er:Option (Nat×Nat)}(f:FS c F W a b d h i j er):gK a b/\gK a d/\gK b d/\a.ownBlock≠some c.fb/\b.ownBlock≠some c.fb/\d.ownBlock≠some c.fb:=by have g:=f.grow.dis;simp only[Ka,JG,JO,Kg,LU,MI]at g;exact⟨g.1.1,g.1.2,g.2.1,fun e=>(f.grow.off a (by simp) _ e).2.1 rfl,fun e=>(f.grow.off b (by simp) _ e).2.1 rfl,fun e=>(f.grow.off d (by simp) _ e).2.1 rfl⟩
def lY(i:World)(F:Fx)(j:Nat)(a:List Value)(b:List (List (List Int)->List Int)):Prop:=a.length=b.length/\ ∀(c:Nat) (d:Value) (e:List (List Int)->List Int),a[c]? =some d->b[c]? =some e-> ∃f g h,d=.func (.func f) g h/\vh i F j f g h e
theorem lY.mono{a:World}{F b:Fx}{c:Nat}{d:List Value}{e:List (List (List Int)->List Int)}(f:lY a F c d e)(g:F.le b):lY a b c d e:=⟨f.1,fun h i j k l=>by
 obtain⟨m,n,o,p,q⟩:=f.2 h i j k l
 exact⟨m,n,o,p,q.mono g⟩⟩
theorem lY.nil(a:World)(F:Fx)(b:Nat):lY a F b [] []:=⟨rfl,fun d e f c=>by simp at c⟩
theorem gS{c:Type}{l:List c}{a x:c}{i:Nat}(b:(l++[a])[i]? =some x):(i<l.length/\l[i]? =some x)∨(i=l.length/\x=a):=by
 rcases J' i l.length with hi|hi
 ·rw[Jz hi]at b;exact Or.inl ⟨hi,b⟩
 ·rw[Jw hi]at b
  have d:i-l.length=0:=by
   rcases Nat.eq_zero_or_pos (i-l.length)with h0|h0
   ·exact h0
   ·rw[Kj (by simp;omega)]at b;cases b
  rw[d]at b;simp at b;exact Or.inr ⟨by omega,b.symm⟩
theorem lY.snoc{c:World}{F:Fx}{d:Nat}{j:List Value}{k:List (List (List Int)->List Int)}(e:lY c F d j k){g:Nat}{a h:Array Value}{f:List (List Int)->List Int}(l:vh c F d g a h f):lY c F d (j++[.func (.func g) a h]) (k++[f]):=by
 refine⟨by simp[e.1],fun m n o i b=>?_⟩;have p:=e.1;rcases gS i with⟨hi,i⟩|⟨hi,rfl⟩
 ·rcases gS b with⟨_,b⟩|⟨hi',_⟩
  ·exact e.2 m n o i b
  ·omega
 ·rcases gS b with⟨hi',_⟩|⟨_,rfl⟩
  ·omega
  ·exact⟨g,a,h,rfl,l⟩
def p7(h:World)(F:Fx)(i:Nat)(a:List Value)(b:List (List Int->Bool)):Prop:=a.length=b.length/\ ∀(c:Nat) (d:Value) (e:List Int->Bool),a[c]? =some d->b[c]? =some e-> ∃f g,d=.func (.func f) #[] g/\ve h F i f g e
theorem p7.mono{a:World}{F b:Fx}{c:Nat}{d:List Value}{e:List (List Int->Bool)}(f:p7 a F c d e)(g:F.le b):p7 a b c d e:=⟨f.1,fun h i j k l=>by
 obtain⟨m,n,o,p⟩:=f.2 h i j k l
 exact⟨m,n,o,p.mono g⟩⟩
theorem p7.nil(a:World)(F:Fx)(b:Nat):p7 a F b [] []:=⟨rfl,fun d e f c=>by simp at c⟩
theorem p7.snoc{b:World}{F:Fx}{c:Nat}{i:List Value}{j:List (List Int->Bool)}(d:p7 b F c i j){g:Nat}{e:Array Value}{f:List Int->Bool}(k:ve b F c g e f):p7 b F c (i++[.func (.func g) #[] e]) (j++[f]):=by
 refine⟨by simp[d.1],fun l m n h a=>?_⟩;have o:=d.1;rcases gS h with⟨hi,h⟩|⟨hi,rfl⟩
 ·rcases gS a with⟨_,a⟩|⟨hi',_⟩
  ·exact d.2 l m n h a
  ·omega
 ·rcases gS a with⟨hi',_⟩|⟨_,rfl⟩
  ·omega
  ·exact⟨g,e,rfl,k⟩
theorem Br(pre suf:List (Tk×Tk))(t u:Tk): ∀j,j<5->(dO (pre++(t,u)::suf))[pre.length*5+j]? =[Value.int .i64 t.place,.int .i64 t.place,.string t.text,.int .i64 u.place,.string u.text][j]? :=by
 intro j a
 have b:(dO pre).length=pre.length*5:=by
  induction pre with
  |nil=>rfl
  |cons e f c=>simp only[dO,LM,Jk,Ju,Kr]at c⊢;omega
 have d:dO (pre++(t,u)::suf)=dO pre++([Value.int .i64 t.place,.int .i64 t.place,.string t.text,.int .i64 u.place,.string u.text]++dO suf):=by simp[dO]
 rw[d,Jw (by omega),b,Kk,Jz (by simpa using a)]
theorem FS.oldCell{c:Fc}{F:Fx}{W:World}{a b d e:Value}{f:Nat}{h:List Sr}{er:Option (Nat×Nat)}(i:FS c F W a b d e f h er){g:Nat}(j:g<c.w0.heap.size)(o:Nat):W.cell? ⟨g,o,none⟩=c.w0.cell? ⟨g,o,none⟩:=i.old.cell (p:=⟨g,o,none⟩) j
def aX(T:List Tb)(pre:List (Tk×Tk)):Fs:=pre.foldl (bW T) ⟨[],0,none⟩
theorem kI(T:List Tb)(pre:List (Tk×Tk))(x:Tk×Tk):aX T (pre++[x])=bW T (aX T pre) x:=by simp[aX]
theorem vk(T:List Tb): ∀(pre:List (Tk×Tk)) (f:Fs),(pre.foldl (bW T) f).ss.length<=f.ss.length+pre.length
 | [],f=>by simp
 |x::r,f=>by have a:=vk T r (bW T f x);have b:=zO T f x;simp only[List.foldl_cons,Ju];omega
theorem CY(T:List Tb)(pre:List (Tk×Tk)):(aX T pre).ss.length<=pre.length:=by
 have:=vk T pre ⟨[],0,none⟩
 simpa [aX]using this
theorem H8:(prog.info? 362).map (fun i=>(i.zero,i.size,i.bytes))=some (some .nilFunc,1,8):=by kernel_rfl
theorem H9:(prog.info? 364).map (fun i=>(i.zero,i.size,i.bytes))=some (some .nilFunc,1,8):=by kernel_rfl
theorem Bt(d:Fn)(a b:Array Value): ∀u∈ [Value.func d a b],u.oneCell'=true:=by intro u c;simp only[JG,JO,Kg]at c;subst c;rfl
theorem tm(pre suf:List (bH×Value×Option Addr))(x:bH×Value×Option Addr): ∀j,j<5->(dI (pre++x::suf))[pre.length*5+j]? =[Value.int .i64 x.1.place,x.2.1,.pointer x.2.2,.int .i64 x.1.asP,.string x.1.asT][j]? :=by
 intro j a
 have b:(dI pre).length=pre.length*5:=by
  induction pre with
  |nil=>rfl
  |cons e f c=>simp only[dI,LM,Jk,Ju,Kr]at c⊢;omega
 have d:dI (pre++x::suf)=dI pre++([Value.int .i64 x.1.place,x.2.1,.pointer x.2.2,.int .i64 x.1.asP,.string x.1.asT]++dI suf):=by simp[dI]
 rw[d,Jw (by omega),b,Kk,Jz (by simpa using a)]
theorem Bu(pre suf:List (cn×Value×Value))(x:cn×Value×Value): ∀j,j<4->(du (pre++x::suf))[pre.length*4+j]? =[Value.int .i64 x.1.place,x.2.1,.string x.1.sg,x.2.2][j]? :=by
 intro j a
 have b:(du pre).length=pre.length*4:=by
  induction pre with
  |nil=>rfl
  |cons e f c=>simp only[du,LM,Jk,Ju,Kr]at c⊢;omega
 have d:du (pre++x::suf)=du pre++([Value.int .i64 x.1.place,x.2.1,.string x.1.sg,x.2.2]++du suf):=by simp[du]
 rw[d,Jw (by omega),b,Kk,Jz (by simpa using a)]
structure FI(c:Fc)(F:Fx)(fs:Fs)(sv iv ev:Value)(ivs:List Value)(W:World)(fns:List (List (List Int)->List Int))(er:Option (Nat×Nat)):Prop where
 st:FS c F W sv iv (.slice none 0 0) ev fs.wd fs.ss er
 row:W.ownsRow c.w0.heap.size 362 1 iv ivs.length ivs
 its:er=none->lY c.w0 (F.off c.X) fs.wd ivs fns
def jM(b:bH->List Sr->Option (Nat×Nat))(a:Fs)(l:List (bH×Value×Option Addr)):Option (Nat×Nat):=l.foldl (fun c d=>bQ c (b d.1 a.ss)) a.er
theorem tu(c:Fc)(F:Fx)(d:Fs)(k h v:Value)(b:List Value)(q:List (List (List Int)->List Int))(er:Option (Nat×Nat))(l m:World)(o:Fx)(r:Value)(i:Option (Nat×Nat))(e p g:Nat)(a j:Array Value)(f:List (List Int)->List Int)(W1:World)
  (w:FI c F d k h v b W1 q er) (x:FA c F W1 k h (.slice none 0 0) d.wd d.ss i m o) (y:FS c o m k h (.slice none 0 0) r d.wd d.ss i) (z:i=none->vh c.w0 (o.off c.X) d.wd g a j f) (A: ∃s,i=bQ er s)
  (B:(m.alloc (.cells #[.func (.func g) a j] 362)).grownBy l h.ownBlock) (C:h.ownBlock=some e∨e=(m.alloc (.cells #[.func (.func g) a j] 362)).heap.size) (D:e<l.heap.size)
  (E:l.ownsRow c.w0.heap.size 362 1 (.slice (some ⟨e,0,none⟩) (b.length+1) p) (b.length+1) (b++[.func (.func g) a j])):
  FI c o d k (.slice (some ⟨e,0,none⟩) (b.length+1) p) r (b++[.func (.func g) a j]) (l.setCell ⟨c.fb,4,none⟩ (.slice (some ⟨e,0,none⟩) (b.length+1) p)) (q++[f]) i:=by
 have t:=FS.grewI (n:=b.length+1) (cap:=p) (y.alloc _) B C D;refine⟨t,?_,fun u=>?_⟩
 ·rw[Jk];exact bD E t.dis.2.2.2.2.1
 ·obtain⟨s,rfl⟩:=A;exact((w.its (dZ u).1).mono (Fx.off_mono x.1.le c.X)).snoc (z u)
structure FT(c:Fc)(F:Fx)(fs:Fs)(sv iv tv ev:Value)(ivs tvs:List Value)(W:World)(fns:List (List (List Int)->List Int))(tns:List (List Int->Bool))(er:Option (Nat×Nat)):Prop where
 st:FS c F W sv iv tv ev fs.wd fs.ss er
 row:W.ownsRow c.w0.heap.size 362 1 iv ivs.length ivs
 its:er=none->lY c.w0 (F.off c.X) fs.wd ivs fns
 trow:W.ownsRow c.w0.heap.size 364 1 tv tvs.length tvs
 tst:er=none->p7 c.w0 (F.off c.X) fs.wd tvs tns
def lZ(T:List Tb)(a:Fs)(er:Option (Nat×Nat))(l:List (cn×Value×Value)):Option (Nat×Nat):=l.foldl (fun b c=>bQ b (gd T a.ss c.1)) er
theorem Bv(c:Fc)(F:Fx)(b:Fs)(j k e B:Value)(u a:List Value)(v:List (List (List Int)->List Int))(w:List (List Int->Bool))(er:Option (Nat×Nat))(l m:World)(o:Fx)(x:Value)(h:Option (Nat×Nat))(d p g:Nat)(i:Array Value)(f:List Int->Bool)(W1:World)
  (q:FT c F b j k e B u a W1 v w er) (s:FA c F W1 j k e b.wd b.ss h m o) (C:FS c o m j k e x b.wd b.ss h) (D:h=none->ve c.w0 (o.off c.X) b.wd g i f) (E: ∃y,h=bQ er y)
  (z:(m.alloc (.cells #[.func (.func g) #[] i] 364)).grownBy l e.ownBlock) (G:e.ownBlock=some d∨d=(m.alloc (.cells #[.func (.func g) #[] i] 364)).heap.size) (H:d<l.heap.size)
  (I:l.ownsRow c.w0.heap.size 364 1 (.slice (some ⟨d,0,none⟩) (a.length+1) p) (a.length+1) (a++[.func (.func g) #[] i])):
  FT c o b j k (.slice (some ⟨d,0,none⟩) (a.length+1) p) x u (a++[.func (.func g) #[] i]) (l.setCell ⟨c.fb,5,none⟩ (.slice (some ⟨d,0,none⟩) (a.length+1) p)) v (w++[f]) h:=by
 have A:=FS.grewT (n:=a.length+1) (cap:=p) (C.alloc _) z G H;have t:=q.st.dis;obtain⟨y,rfl⟩:=E;refine⟨A,?_,fun r=>((q.its (dZ r).1).mono (Fx.off_mono s.1.le c.X)),?_,fun r=>?_⟩
 ·exact bD (cC ((pg q.row s.2.1 t.2.2.2.2.1).alloc _) t.2.2.1.symm z) t.2.2.2.2.1
 ·rw[Jk];exact bD I A.dis.2.2.2.2.2
 ·exact((q.tst (dZ r).1).mono (Fx.off_mono s.1.le c.X)).snoc (D r)
def Gw(c:Fc)(F:Fx)(d:Fs)(f:List (List (List Int)->List Int))(g:List (List Int->Bool))(er:Option (Nat×Nat))(e:Ending)(W':World):Prop:= ∃a h i j b k l,F.le a/\FT c a d h i j b k l W' f g er/\e=.returned (.tuple #[if er.isNone then .pointer (some ⟨c.fb,2,none⟩)else .pointer none,b])
theorem uD(c:Fc)(F:Fx)(W:World)(b lo:Nat)(dT:Int)(ac cd ce:Value)(p:List (Tk×Tk))(b5:FS c F W (.slice none 0 0) (.slice none 0 0) (.slice none 0 0) .nilIface 0 [] none)
  (bN:c.w0.heap[b]? =some (.cells #[.int .i64 dT,ac,cd,ce] 256 (0,0))) (b6:c.w0.ownsRow lo 260 5 cd p.length (dO p)) (d':0<p.length) (e3:p.length<=3)
  (q:List (bH×Value×Option Addr)) (b7:c.w0.ownsRow lo 251 5 ac q.length (dI q)) (ea:0<q.length) (e4:q.length<=6) (E:bH->List Sr->Option (Nat×Nat)) (aJ:bH->List Sr->List (List Int)->List Int) (cf: ∀e∈q,pf c e.1.place e.2.1 (.pointer e.2.2) e.1.asP e.1.asT (E e.1) (aJ e.1)) (cg: ∀e∈q,jQ e.2.1)
  (us:List (cn×Value×Value)) (b9:c.w0.ownsRow lo 263 4 ce us.length (du us)) (e5:us.length<=1000) (hex: ∀u∈us,∃n,bC c.w0 (fun _=>True) n u.2.1 u.1.l/\bC c.w0 (fun _=>True) n u.2.2 u.1.r):
  Calls prog 124 #[.pointer (some ⟨c.fb,0,none⟩),.pointer (some ⟨b,0,none⟩)] W fun e W'=>Gw c F (aX c.T p) (q.map fun e=>aJ e.1 (aX c.T p).ss) (us.map fun u=>iX (a6 c.T (aX c.T p).ss) u.1) (lZ c.T (aX c.T p) (jM E (aX c.T p) q) us) e W':=by
 obtain⟨g,a9,a'⟩:=Jq.1 H8;simp only[JB]at a';obtain⟨ba,bb,bc⟩:=a';obtain⟨ch,ci,cj,cl⟩:=aP a9 ba bb bc;clear a9 ba bb bc;obtain⟨e6,a9,a'⟩:=Jq.1 H9;simp only[JB]at a';obtain⟨ba,bb,bc⟩:=a';obtain⟨eb,ed,ef,eg⟩:=aP a9 ba bb bc;clear a9 ba bb bc;obtain⟨cp,ei⟩:=ag b5 hex;obtain⟨e7,e8,en⟩:=bi b9;subst en;have cq:=ab b9;clear hex b9;obtain⟨aT,cs,rfl,_,eo⟩:=b6.form d';obtain⟨aU,e9,rfl,_,ep⟩:=b7.form ea;obtain⟨cr,ct,cu⟩:=aC b7 cf cg;clear b7 cf cg;obtain⟨cv,bS⟩:=ag b6 bN;have be:=aa bN;have b':=(b5.old.block b be).trans bN;obtain⟨aj,bg⟩:=blk b';have bk:=aa b';clear b5 bN b6 b';go_enter func124,ntmps124;go_wp2_with fail
 go_loopg [7,17] p.length (fun bl _ bn W'=> ∃l T ak y aL,p=l++T/\bl=T.length/\bn=.int .i64 (l.length:Nat)/\F.le ak/\FS c ak W' y (.slice none 0 0) (.slice none 0 0) aL (aX c.T l).wd (aX c.T l).ss (aX c.T l).er)
 case atStart=>exact⟨[],p,F,_,_,rfl,rfl,rfl,Fx.le.refl F,cp⟩
 case round=>
  obtain⟨l,T,cz,y,aL,H,rfl,rfl,al,cF⟩:=hrel;have V:l.length+T.length=p.length:=by rw[H,Jk]
  obtain⟨z,G,d⟩:=aC H al cF;clear H al cF aj bg bk
  cases T with
  |nil=>
   have aN:decide (l.length<p.length)=false:=by simp at V⊢;omega
   obtain⟨aj,bg⟩:=blk ((d.old.block b be).trans bS);have bk:=aa ((d.old.block b be).trans bS);go_wp2_with fail;clear aN V;obtain rfl:l=p:=by rw[U z,JD]
   generalize cI:aX c.T l=f at*;have bX:=ab cI;clear cI cv z cp
   go_loopg [9,30] q.length (fun bl _ bn W'=> ∃g is ak X aL h,q=g++is/\bl=is.length/\bn=.int .i64 (g.length:Nat)/\h.length=g.length/\F.le ak/\FI c ak f y X aL h W' (g.map fun e=>aJ e.1 f.ss) (jM E f g))
   case atStart=>exact⟨[],q,cz,_,_,[],rfl,rfl,rfl,rfl,G,⟨U d,JF _ _ _ _,fun _=>lY.nil _ _ _⟩⟩
   case round=>
    clear d G aj bg bk;obtain⟨g,is,ad,X,an,h,H,rfl,rfl,cL,al,cN⟩:=hrel;have V:g.length+is.length=q.length:=by rw[H,Jk]
    obtain⟨z,G,d,b0⟩:=aP H al cN cL;clear H al cN cL
    cases is with
    |nil=>
     have aN:decide (g.length<q.length)=false:=by simp at V⊢;omega
     obtain rfl:g=q:=by rw[U z,JD]
     obtain⟨aj,bg⟩:=blk ((d.st.old.block b be).trans bS);have bk:=aa ((d.st.old.block b be).trans bS);go_wp2_with fail;clear aN V;generalize cR:jM E f g=aV at*;have b1:=ab cR;clear cR z cr ct cu
     go_loopg [11,54] us.length (fun bl _ bn W'=> ∃i Y ak bq aL r,us=i++Y/\bl=Y.length/\bn=.int .i64 (i.length:Nat)/\r.length=i.length/\F.le ak/\FT c ak f y X bq aL h r W' (g.map fun e=>aJ e.1 f.ss) (i.map fun u=>iX (a6 c.T f.ss) u.1) (lZ c.T f aV i))
     case atStart=>exact⟨[],us,ad,_,_,[],rfl,rfl,rfl,rfl,G,⟨d.st,d.row,d.its,JF _ _ _ _,fun _=>p7.nil _ _ _⟩⟩
     case round=>
      clear d G aj bg bk;obtain⟨i,Y,I,bq,J,r,H,rfl,rfl,cT,al,cV⟩:=hrel;have V:i.length+Y.length=us.length:=by rw[H,Jk]
      obtain⟨z,G,d,cW⟩:=aP H al cV cT;clear H al cV cT
      cases Y with
      |nil=>
       have aN:decide (i.length<us.length)=false:=by simp at V⊢;omega
       obtain rfl:i=us:=by rw[U z,JD]
       have br:=d.st.err;obtain⟨K,e',fa⟩:=d.st.facts;have fb:wr.cell? ⟨c.fb,6,none⟩=some J:=K 6;clear K;generalize cZ:lZ c.T f aV i=eq at*;have aR:=ab cZ;clear cZ
       match eq,br,d,aR with
       |none,br,d,aR=>
        obtain rfl:J=.nilIface:=br;go_wp2;refine Jr (v:=.tuple #[.pointer (some ⟨c.fb,2,none⟩),.nilIface]) (by simp[results,results124,go_sem]) rfl ?_;refine⟨I,y,X,bq,.nilIface,h,r,G,?_,?_⟩
        ·rw[U bX,b1,U aR];exact d
        ·rw[U bX,b1,U aR];rfl
       |some (fc,fe),br,d,aR=>
        obtain⟨c0,rfl,_⟩:=br;go_wp2_with fail
        go_region
        all_goals
         go_wp2;refine Jr (v:=.tuple #[.pointer none,.iface 110 (.pointer (some ⟨c0,0,none⟩))]) (by simp[results,results124,go_sem]) rfl ?_;refine⟨I,y,X,bq,.iface 110 (.pointer (some ⟨c0,0,none⟩)),h,r,G,?_,?_⟩
         ·rw[U bX,b1,U aR];have L:=U d;exact⟨L.st.drew,L.row.drew,L.its,L.trow.drew,L.tst⟩
         ·rw[U bX,b1,U aR];rfl
      |cons j Y=>
       rw[Ju]at V;have aN:decide (i.length<us.length)=true:=by simp;omega
       have a0:Hid (us=(i++[j])++Y):=by unfold Hid;rw[U z];simp
       have a1:j∈us:=by rw[U z];simp
       obtain⟨bs,fg,er,_,es⟩:=cq.form (by omega);injection er with et _ ev;subst et ev;have m:Hid (∀s,s<4->wr.cell? ⟨bs,i.length*4+s,none⟩=[Value.int .i64 j.1.place,j.2.1,.string j.1.sg,j.2.2][s]?):=fun s bt=>by rw[d.st.oldCell es,cq.cellAt _ (by omega),z,Bu i Y j s bt]
       obtain⟨ex,ca,cb⟩:=(U ei) j a1;obtain⟨a,ao,ap⟩:=j;obtain⟨ez,eN⟩:=ag ca cb;obtain⟨u1,ao,rfl⟩:=bC.isI _ _ _ ca;obtain⟨u2,ap,rfl⟩:=bC.isI _ _ _ cb;have a2:wr.cell? ⟨bs,i.length*4,none⟩=some (.int .i64 a.place):=(U m) 0 (by omega);have a3:wr.cell? ⟨bs,i.length*4+1,none⟩=some (.iface u1 ao):=(U m) 1 (by omega);have a4:wr.cell? ⟨bs,i.length*4+2,none⟩=some (.string a.sg):=(U m) 2 (by omega);have a5:wr.cell? ⟨bs,i.length*4+3,none⟩=some (.iface u2 ap):=(U m) 3 (by omega);clear a1 m ca cb
       go_upto_region 14 with(fail)
       have k:Hid (FT c I f y X bq J h r (wr.alloc (.cells #[.int .i64 a.place,.iface u1 ao,.string a.sg,.iface u2 ap] 263)) (g.map fun e=>aJ e.1 f.ss) (i.map fun u=>iX (a6 c.T f.ss) u.1) (lZ c.T f aV i)):=⟨d.st.alloc _,d.row.alloc _,d.its,d.trow.alloc _,d.tst⟩
       have ar:Hid ((wr.alloc (.cells #[.int .i64 a.place,.iface u1 ao,.string a.sg,.iface u2 ap] 263)).heap[wr.heap.size]? =some (.cells #[.int .i64 a.place,.iface u1 ao,.string a.sg,.iface u2 ap] 263 (0,0))):=af rfl;clear d a2 a3 a4 a5;generalize wr.alloc (.cells #[.int .i64 a.place,.iface u1 ao,.string a.sg,.iface u2 ap] 263)=au at*;generalize wr.heap.size=c1 at*;obtain⟨aj,c2⟩:=blk ar;have c3:=aa ar;obtain⟨t,x,bu⟩:=bi k.trow;subst bu;obtain⟨K,c4,c5⟩:=k.st.facts;have c6:au.cell? ⟨c.fb,5,none⟩=some (.slice t r.length x):=K 5;have c7:=k.st.old.size;have c8:r.length<=1000:=by rw[U cW];omega
       have M:Hid ((Value.slice t r.length x).ownBlock≠some c.fb):=k.st.dis.2.2.2.2.2
       obtain⟨b2,c9⟩: ∃b2,Hid (b2=bQ (lZ c.T f aV i) (cw c.T f.ss a.l)):=⟨_,rfl⟩
       obtain⟨o,Z⟩: ∃o,Hid (o=bQ b2 (cw c.T f.ss a.r)):=⟨_,rfl⟩
       have c':Hid (o=bQ (lZ c.T f aV i) (gd c.T f.ss a)):=by unfold Hid gd;rw[U Z,c9,pZ]
       clear K
       go_region_law (first
        |(refine KE _ rfl (.tmp 63) (.tmp 67) 295 rfl c.w0.heap.size 364 _ .nilFunc 1 8 underlying295 eb ed ef eg rfl (by decide) (.slice t r.length x) r.length r (by simp[Act.eval]) (bv.alloc _) ⟨A.heap.size,0,none⟩ 1 1 [.func (.func B) #[] C] (by simp[Act.eval]) rfl (KR (cs:= #[.func (.func B) #[] C]) (af rfl)) (Bt _ _ _) (by decide) (by unfold maxLen;omega) (by omega) (by simp;omega) _ rfl ?_;intro av ax N bx O bz bA;have dd:N.cell? ⟨c.fb,5,none⟩=some (.slice t r.length x):=(O.cell_far ⟨c.fb,5,none⟩ (by simp;omega) (fun e=>(U M) e.symm)).trans ((JS _ _ ⟨c.fb,5,none⟩ (by exact ay)).trans bF);have f9:N.frozen? ⟨c.fb,5,none⟩=false:=(O.frozen_far ⟨c.fb,5,none⟩ (by simp;omega) (fun e=>(U M) e.symm)).trans ((Lr (w:=A) (by exact J9 _ _ _ (by exact ay))).trans (bG _)))
        |(go_simp;go_at_call 198;refine(CX c ex I _ y X _ J _ _ _ b2 o (by exact k.st.drew) _ a.sg _ _ a.l a.r ez eN c9 Z).mono ?_;rintro e A ⟨B,C,rfl,df,P,aA⟩;obtain⟨dk,b3⟩:=P.2.2;have Q:=ab P.ofDrew;have bJ:=ab aA;have eR:=ab b3;obtain⟨aI,bG,ay⟩:=b3.facts;have bF:A.cell? ⟨c.fb,5,none⟩=some (.slice t r.length x):=aI 5;have bv:=ab (pg k.trow Q.2.1 M);have dp:=b3.old.size;clear P aA b3 aI))
       all_goals
        go_wp2;go_roundg Y.length
        case measure=>simp
        case rel=>
         have L:=Bv c I f y X _ J h r _ _ _ N A df dk o av ax B C _ au k Q eR bJ ⟨_,c'⟩ O bz bA bx;have bL:lZ c.T f aV (i++[(a,.iface u1 ao,.iface u2 ap)])=o:=by rw[U c'];simp[lZ]
         refine⟨i++[(a,.iface u1 ao,.iface u2 ap)],Y,df,.slice (some ⟨av,0,none⟩) (r.length+1) ax,dk,r++[.func (.func B) #[] C],U a0,rfl,?_,?_,G.trans Q.1.le,?_⟩
         ·rw[Jk];go_num
         ·rw[Jk,Jk,U cW];rfl
         ·rw[bL,Ks];exact L
    |cons j is=>
     rw[Ju]at V;have aN:decide (g.length<q.length)=true:=by simp;omega
     have a0:Hid (q=(g++[j])++is):=by unfold Hid;rw[U z];simp
     have a1:j∈q:=by rw[U z];simp
     have m:Hid (∀s,s<5->wr.cell? ⟨aU,g.length*5+s,none⟩=[Value.int .i64 j.1.place,j.2.1,.pointer j.2.2,.int .i64 j.1.asP,.string j.1.asT][s]?):=fun s bt=>by rw[d.st.oldCell ep,cr.cellAt _ (by omega),z,tm g is j s bt]
     have dq:=ab (ct j a1);have eT:=(U cu) j a1;obtain⟨a,v,D⟩:=j;have a2:wr.cell? ⟨aU,g.length*5,none⟩=some (.int .i64 a.place):=(U m) 0 (by omega);have a3:wr.cell? ⟨aU,g.length*5+1,none⟩=some v:=(U m) 1 (by omega);have a4:wr.cell? ⟨aU,g.length*5+2,none⟩=some (.pointer D):=(U m) 2 (by omega);have a5:wr.cell? ⟨aU,g.length*5+3,none⟩=some (.int .i64 a.asP):=(U m) 3 (by omega);have b4:wr.cell? ⟨aU,g.length*5+4,none⟩=some (.string a.asT):=(U m) 4 (by omega);clear a1 m;rcases eT with rfl|⟨ui,ac,rfl⟩
     ·go_upto_region 9 with(fail)
      have k:Hid (FI c ad f y X an h (wr.alloc (.cells #[.int .i64 a.place,.nilIface,.pointer D,.int .i64 a.asP,.string a.asT] 251)) (g.map fun e=>aJ e.1 f.ss) (jM E f g)):=⟨d.st.alloc _,d.row.alloc _,d.its⟩
      have ar:Hid ((wr.alloc (.cells #[.int .i64 a.place,.nilIface,.pointer D,.int .i64 a.asP,.string a.asT] 251)).heap[wr.heap.size]? =some (.cells #[.int .i64 a.place,.nilIface,.pointer D,.int .i64 a.asP,.string a.asT] 251 (0,0))):=af rfl;have eX:wr.heap.size≠c.fb:=by have:=d.st.grow.ltp;omega
      clear d a2 a3 a4 a5 b4;generalize wr.alloc (.cells #[.int .i64 a.place,.nilIface,.pointer D,.int .i64 a.asP,.string a.asT] 251)=au at*;generalize wr.heap.size=c1 at*;obtain⟨aj,c2⟩:=blk ar;have c3:=aa ar;obtain⟨t,x,bu⟩:=bi k.row;subst bu;obtain⟨K,c4,c5⟩:=k.st.facts;have c6:au.cell? ⟨c.fb,4,none⟩=some (.slice t h.length x):=K 4;have c7:=k.st.old.size;have c8:h.length<=6:=by rw[U b0];omega
      have M:Hid ((Value.slice t h.length x).ownBlock≠some c.fb):=k.st.dis.2.2.2.2.1
      obtain⟨o,Z⟩: ∃o,Hid (o=bQ (jM E f g) (E a f.ss)):=⟨_,rfl⟩
      clear K
      go_region_law (first
       |(refine KE _ rfl (.tmp 39) (.tmp 43) 294 rfl c.w0.heap.size 362 _ .nilFunc 1 8 underlying294 ch ci cj cl rfl (by decide) (.slice t h.length x) h.length h (by simp[Act.eval]) (bv.alloc _) ⟨A.heap.size,0,none⟩ 1 1 [.func (.func B) ae C] (by simp[Act.eval]) rfl (KR (cs:= #[.func (.func B) ae C]) (af rfl)) (Bt _ _ _) (by decide) (by unfold maxLen;omega) (by omega) (by simp;omega) _ rfl ?_;intro av ax N bx O bz bA;have dd:N.cell? ⟨c.fb,4,none⟩=some (.slice t h.length x):=(O.cell_far ⟨c.fb,4,none⟩ (by simp;omega) (fun e=>(U M) e.symm)).trans ((JS _ _ ⟨c.fb,4,none⟩ (by exact ay)).trans bF);have f9:N.frozen? ⟨c.fb,4,none⟩=false:=(O.frozen_far ⟨c.fb,4,none⟩ (by simp;omega) (fun e=>(U M) e.symm)).trans ((Lr (w:=A) (by exact J9 _ _ _ (by exact ay))).trans (bG _)))
       |(go_simp;go_at_call 197;refine(dq ad _ y _ _ an _ _ _ o (by exact k.st.drew) Z).mono ?_;rintro e A ⟨B,ae,C,rfl,I,P,aA⟩;obtain⟨J,R⟩:=P.2.2;have Q:=ab P.ofDrew;have bJ:=ab aA;have cc:=ab R;obtain⟨aI,bG,ay⟩:=R.facts;have bF:A.cell? ⟨c.fb,4,none⟩=some (.slice t h.length x):=aI 4;have bv:=ab (pg k.row Q.2.1 M);have dp:=R.old.size;clear P aA R aI))
      all_goals
       go_wp2;go_roundg is.length
       case measure=>simp
       case rel=>
        have L:=tu c ad f y _ an h _ _ N A I J o av ax B ae C _ au k Q cc bJ ⟨_,Z⟩ O bz bA bx;have bL:jM E f (g++[(a,.nilIface,D)])=o:=by rw[U Z];simp[jM]
        refine⟨g++[(a,.nilIface,D)],is,I,.slice (some ⟨av,0,none⟩) (h.length+1) ax,J,h++[.func (.func B) ae C],U a0,rfl,?_,?_,G.trans Q.1.le,?_⟩
        ·rw[Jk];go_num
        ·rw[Jk,Jk,U b0];rfl
        ·rw[bL,Ks];exact L
     ·go_upto_region 9 with(fail)
      have k:Hid (FI c ad f y X an h (wr.alloc (.cells #[.int .i64 a.place,(.iface ui ac),.pointer D,.int .i64 a.asP,.string a.asT] 251)) (g.map fun e=>aJ e.1 f.ss) (jM E f g)):=⟨d.st.alloc _,d.row.alloc _,d.its⟩
      have ar:Hid ((wr.alloc (.cells #[.int .i64 a.place,(.iface ui ac),.pointer D,.int .i64 a.asP,.string a.asT] 251)).heap[wr.heap.size]? =some (.cells #[.int .i64 a.place,(.iface ui ac),.pointer D,.int .i64 a.asP,.string a.asT] 251 (0,0))):=af rfl;have eX:wr.heap.size≠c.fb:=by have:=d.st.grow.ltp;omega
      clear d a2 a3 a4 a5 b4;generalize wr.alloc (.cells #[.int .i64 a.place,(.iface ui ac),.pointer D,.int .i64 a.asP,.string a.asT] 251)=au at*;generalize wr.heap.size=c1 at*;obtain⟨aj,c2⟩:=blk ar;have c3:=aa ar;obtain⟨t,x,bu⟩:=bi k.row;subst bu;obtain⟨K,c4,c5⟩:=k.st.facts;have c6:au.cell? ⟨c.fb,4,none⟩=some (.slice t h.length x):=K 4;have c7:=k.st.old.size;have c8:h.length<=6:=by rw[U b0];omega
      have M:Hid ((Value.slice t h.length x).ownBlock≠some c.fb):=k.st.dis.2.2.2.2.1
      obtain⟨o,Z⟩: ∃o,Hid (o=bQ (jM E f g) (E a f.ss)):=⟨_,rfl⟩
      clear K
      go_region_law (first
       |(refine KE _ rfl (.tmp 39) (.tmp 43) 294 rfl c.w0.heap.size 362 _ .nilFunc 1 8 underlying294 ch ci cj cl rfl (by decide) (.slice t h.length x) h.length h (by simp[Act.eval]) (bv.alloc _) ⟨A.heap.size,0,none⟩ 1 1 [.func (.func B) ae C] (by simp[Act.eval]) rfl (KR (cs:= #[.func (.func B) ae C]) (af rfl)) (Bt _ _ _) (by decide) (by unfold maxLen;omega) (by omega) (by simp;omega) _ rfl ?_;intro av ax N bx O bz bA;have dd:N.cell? ⟨c.fb,4,none⟩=some (.slice t h.length x):=(O.cell_far ⟨c.fb,4,none⟩ (by simp;omega) (fun e=>(U M) e.symm)).trans ((JS _ _ ⟨c.fb,4,none⟩ (by exact ay)).trans bF);have f9:N.frozen? ⟨c.fb,4,none⟩=false:=(O.frozen_far ⟨c.fb,4,none⟩ (by simp;omega) (fun e=>(U M) e.symm)).trans ((Lr (w:=A) (by exact J9 _ _ _ (by exact ay))).trans (bG _)))
       |(go_simp;go_at_call 197;refine(dq ad _ y _ _ an _ _ _ o (by exact k.st.drew) Z).mono ?_;rintro e A ⟨B,ae,C,rfl,I,P,aA⟩;obtain⟨J,R⟩:=P.2.2;have Q:=ab P.ofDrew;have bJ:=ab aA;have cc:=ab R;obtain⟨aI,bG,ay⟩:=R.facts;have bF:A.cell? ⟨c.fb,4,none⟩=some (.slice t h.length x):=aI 4;have bv:=ab (pg k.row Q.2.1 M);have dp:=R.old.size;clear P aA R aI))
      all_goals
       go_wp2;go_roundg is.length
       case measure=>simp
       case rel=>
        have L:=tu c ad f y _ an h _ _ N A I J o av ax B ae C _ au k Q cc bJ ⟨_,Z⟩ O bz bA bx;have bL:jM E f (g++[(a,(.iface ui ac),D)])=o:=by rw[U Z];simp[jM]
        refine⟨g++[(a,(.iface ui ac),D)],is,I,.slice (some ⟨av,0,none⟩) (h.length+1) ax,J,h++[.func (.func B) ae C],U a0,rfl,?_,?_,G.trans Q.1.le,?_⟩
        ·rw[Jk];go_num
        ·rw[Jk,Jk,U b0];rfl
        ·rw[bL,Ks];exact L
  |cons j T=>
   obtain⟨S,u⟩:=j;rw[Ju]at V;have aN:decide (l.length<p.length)=true:=by simp;omega
   have a0:Hid (p=(l++[(S,u)])++T):=by unfold Hid;rw[U z];simp
   have m:Hid (∀s,s<5->wr.cell? ⟨aT,l.length*5+s,none⟩=[Value.int .i64 S.place,.int .i64 S.place,.string S.text,.int .i64 u.place,.string u.text][s]?):=fun s bt=>by rw[d.oldCell eo,cv.cellAt _ (by omega),z,Br l T S u s bt]
   have a2:wr.cell? ⟨aT,l.length*5,none⟩=some (.int .i64 S.place):=(U m) 0 (by omega);have a3:wr.cell? ⟨aT,l.length*5+1,none⟩=some (.int .i64 S.place):=(U m) 1 (by omega);have a4:wr.cell? ⟨aT,l.length*5+2,none⟩=some (.string S.text):=(U m) 2 (by omega);have a5:wr.cell? ⟨aT,l.length*5+3,none⟩=some (.int .i64 u.place):=(U m) 3 (by omega);have b4:wr.cell? ⟨aT,l.length*5+4,none⟩=some (.string u.text):=(U m) 4 (by omega);have R:(aX c.T l).ss.length<3:=by have:=CY c.T l;omega
   go_wp2_with fail;refine(zN c cz _ y _ _ aL _ _ _ (by exact d.alloc _) R S.place S u).mono ?_;rintro e A ⟨rfl,ad,e0,an,ds,dw⟩;obtain⟨e1,e2⟩:=ag dw (G.trans ds);clear dw ds a2 a3 a4 a5 b4;go_wp2;go_roundg T.length
   case measure=>simp
   case rel=>
    refine⟨l++[(S,u)],T,ad,e0,an,a0,rfl,?_,e2,?_⟩
    ·rw[Jk];go_num
    ·rw[kI];exact e1
def mZ(c:Fx)(k:Nat)(v:Value)(n:Nat)(xs:List Value):Prop:=(v=.slice none 0 0/\n=0)∨ ∃b d a e,v=.slice (some ⟨b,0,none⟩) n d/\c b=some (.cells a e (0,0))/\a.toList.take (n*k)=xs/\n*k<=a.size/\n<=maxLen
theorem mZ.mono{b c:Fx}(d:b.le c){k:Nat}{v:Value}{n:Nat}{xs:List Value}(a:mZ b k v n xs):mZ c k v n xs:=by
 rcases a with a|⟨g,cap,cur,T,h1,h2,h3⟩
 ·exact Or.inl a
 ·exact Or.inr ⟨g,cap,cur,T,h1,d _ _ h2,h3⟩
theorem rZ{lo p n k:Nat}{F:Fx}{T:TypeId}{v:Value}{d xs:List Value}{W:World}{X:Nat->Bool}(a:aZ lo F p (v::d) W)(i:W.ownsRow lo T k v n xs)(hn:n<=maxLen)(j: ∀b,X b=true-> ∃o,F b=some o): ∃c,F.le c/\aZ lo c p d W/\mZ (c.off X) k v n xs:=by
 rcases i.2 with⟨hv,h0⟩|⟨g,cap,cur,hv,hge,hh,c1,c2,c3,c4⟩
 ·exact⟨F,Fx.le.refl F,a.drop,Or.inl ⟨hv,h0⟩⟩
 ·have e:v.ownBlock=some g:=by rw[hv];rfl
  have f:=(a.off v JK g e).1
  have l:X g=false:=by
   cases m:X g with
   |false=>rfl
   |true=>obtain⟨o,h⟩:=j g m;rw[f]at h;cases h
  refine⟨F.set g (.cells cur T (0,0)),Fx.le_set _ f,a.seal e hh,Or.inr ⟨g,cap,cur,T,hv,Fx.off_some (Fx.set_same _ _ _) l,?_,?_,hn⟩⟩
  ·exact c4
  ·rw[c3];exact LX k c1
theorem mZ.row{b:Fx}{f W:World}{v:Value}{n:Nat}{xs:List Value}(h:mZ b 1 v n xs)(a:xs.length=n)(c:gh f b W):aS W v xs:=by
 rcases h with⟨h1,h2⟩|⟨g,cap,cur,T,h1,h2,h3,h4,h5⟩
 ·subst h2;have:xs=[]:=KL a;subst this;exact⟨none,0,h1,by unfold maxLen;simp,fun d=>by simp at d⟩
 ·refine⟨_,cap,by rw[h1,a],by rw[a];exact h5,fun d=>⟨g,0,rfl,fP (c.new _ _ h2),fun i e=>?_⟩⟩;rw[a]at e;rw[JV,(blk (c.new _ _ h2)).1,<-h3,Lb,Kl,Jo e];simp
structure sa(w0:World)(G:Fx)(c:Fc)(ss:List Sr)(wd:Nat)(fns:List (List (List Int)->List Int))(tns:List (List Int->Bool)):Prop where
 lies: ∃sv iv tv ev ivs tvs,G c.fb=some (.cells #[c.tabs,.bool c.iw,sv,.int .i64 wd,iv,tv,ev] 299 (0,0))/\mZ G 3 sv ss.length (kG c ss)/\(mZ G 1 iv ivs.length ivs/\lY w0 G wd ivs fns)/\(mZ G 1 tv tvs.length tvs/\p7 w0 G wd tvs tns)
 few:ss.length<=3
 ok: ∀s∈ss,s.tab<c.T.length
 wide:wd<=18/\ ∀s∈ss,s.first+(bh c.T s).length<=wd
theorem FT.seal{c:Fc}{F:Fx}{f:Fs}{g h i j:Value}{m n:List Value}{W:World}{r:List (List (List Int)->List Int)}{s:List (List Int->Bool)}(a:FT c F f g h i j m n W r s none)(k: ∀b,c.X b=true-> ∃o,F b=some o)(C:m.length<=maxLen)(D:n.length<=maxLen):
  ∃p,F.le p/\(∀b o,p b=some o->c.w0.heap.size<=b/\W.heap[b]? =some o)/\sa c.w0 (p.off c.X) c f.ss f.wd r s:=by
 obtain⟨O,l,E,G⟩:=rZ (X:=c.X) a.st.grow a.st.srcs (by have:=a.st.few;unfold maxLen;omega) k;obtain⟨P,q,H,I⟩:=rZ (X:=c.X) E a.row C (fun b d=>let⟨o,e⟩:=k b d;⟨o,l _ _ e⟩);obtain⟨t,u,v,J⟩:=rZ (X:=c.X) H a.trow D (fun b d=>let⟨o,e⟩:=k b d;⟨o,q _ _ (l _ _ e)⟩);have K:=v.offp
 have L:c.X c.fb=false:=by
  cases d:c.X c.fb with
  |false=>rfl
  |true=>obtain⟨o,e⟩:=k _ d;rw[a.st.grow.offp]at e;cases e
 have w:=Fx.le_set (F:=t) (.cells #[c.tabs,.bool c.iw,g,.int .i64 f.wd,h,i,j] 299 (0,0)) K;have x:=Fx.off_mono w c.X;have y:=(Fx.off_mono u c.X).trans x;have z:=(Fx.off_mono q c.X).trans y;have A:=(Fx.off_mono l c.X).trans z;have M:=a.st.wide;have N:=a.st.few;refine⟨t.set c.fb (.cells #[c.tabs,.bool c.iw,g,.int .i64 f.wd,h,i,j] 299 (0,0)),((l.trans q).trans u).trans w,fun b o d=>?_,⟨⟨g,h,i,j,m,n,Fx.off_some (Fx.set_same _ _ _) L,G.mono z,⟨I.mono y,(a.its rfl).mono A⟩,J.mono x,(a.tst rfl).mono A⟩,N,a.st.ok,by omega,M.2.1⟩⟩;by_cases B:b=c.fb
 ·subst B;rw[Fx.set_same]at d;injection d with d;subst d;exact⟨a.st.low,a.st.box⟩
 ·rw[Fx.set_other _ _ B]at d;exact v.fits b o d
theorem Bw(r:World)(s:Fx)(c:Fc)(P:List Sr)(u:Nat)(Q:List (List (List Int)->List Int))(b:List (List Int->Bool))(v:sa r s c P u Q b)(w:World)(g:gh r s w)(x:Value)(row:List Int)(y:row.length=u)(z:aS w x (aE row)):
  Calls prog 255 #[.pointer (some ⟨c.fb,2,none⟩),x] w fun e w'=>e=.returned (.bool (b.all fun t=>t row))/\Below w.heap.size w w':=by
 obtain⟨au,av,R,ax,ay,A,B,-,-,C,i,D⟩:=v.lies;have j:=g.new _ _ B;have aA:=aa j;obtain⟨E,aI⟩:=blk j;have S:w.cell? ⟨c.fb,5,none⟩=some R:=E 5;obtain⟨aJ,aL,rfl,mt,k⟩:=C.row rfl g;rw[i]at mt k S;obtain⟨T,V,W,X,F,Y⟩:=io k D i g z y;obtain⟨aN,aR,rfl,_,_⟩:=z;rw[Jm]at F⊢;unfold maxLen at mt;clear C k D i g y E j B v;go_enter func255,ntmps255;go_wp2_with fail
 go_loopg [6,12] b.length (fun Z _ ac ad=> ∃a d,b=a++d/\Z=d.length/\ac=.int .i64 (a.length:Nat)/\a.all (fun t=>t row)=true/\Below w.heap.size w ad)
 case atStart=>exact⟨[],b,rfl,rfl,rfl,rfl,Jj _ _⟩
 case round=>
  obtain⟨a,d,l,rfl,rfl,G,H⟩:=hrel;have I:a.length+d.length=b.length:=by rw[l,Jk]
  obtain⟨h,J,f⟩:=aC l G H;clear l G H
  cases d with
  |nil=>
   have ae:decide (a.length<b.length)=false:=by simp at I⊢;omega
   go_wp2;go_ret;refine⟨?_,f⟩;rw[U h,JD,U J];rfl
  |cons t d=>
   rw[Ju]at I;have ae:decide (a.length<b.length)=true:=by simp;omega
   have aj:Hid (b=(a++[t])++d):=by unfold Hid;rw[U h];simp
   obtain⟨K,ak,rfl,al,L⟩:=(U T) (by omega)
   obtain⟨m,n⟩: ∃m,A[a.length]? =some m:=⟨A[a.length]'(by rw[U W];omega),Jl _⟩
   obtain⟨an,ao,rfl,o⟩:=(U V) a.length m t n (by rw[U h];simp);have aT:wr.cell? ⟨K,ak+a.length,none⟩=some (.func (.func an) #[] ao):=by rw[f.cell (p:=⟨K,_,none⟩) al,L _ (by omega),n]
   have aU:=o.1;have ap:=ab (o.2 wr _ row (X.below f) Y (F.keep f));clear n o L;go_wp2_with fail;refine ap.mono ?_;rintro e ar ⟨rfl,M⟩;have N:Hid (Below w.heap.size w ar):=f.trans (M.mono f.size);clear M
   cases O:t row with
   |true=>
    have q:=ab O;go_wp2;go_roundg d.length
    case measure=>simp
    case rel=>
     refine⟨a++[t],d,aj,rfl,?_,?_,N⟩
     ·rw[Jk];go_num
     ·rw[Ld,J,LI,U q];rfl
   |false=>have q:=ab O;go_wp2;go_ret;refine⟨?_,N⟩;rw[U h,Ld,LI,U q];simp
theorem mZ.cell3{f:Fx}{j W:World}{c:Fc}{h:Value}{a pre suf:List Sr}{s:Sr}(k:mZ f 3 h a.length (kG c a))(i:gh j f W)(b:a=pre++s::suf): ∃g cap,h=.slice (some ⟨g,0,none⟩) a.length cap/\g<W.heap.size/\W.cell? ⟨g,pre.length*3,none⟩=some (.string s.alias)/\W.cell? ⟨g,pre.length*3+1,none⟩=some (.pointer (some ⟨c.tb,c.tof+s.tab*3,none⟩))/\W.cell? ⟨g,pre.length*3+2,none⟩=some (.int .i64 s.first):=by
 have p:pre.length<a.length:=by rw[b,Jk,Ju];omega
 rcases k with⟨h1,h2⟩|⟨g,cap,cur,T,h1,h2,h3,h4,h5⟩
 ·omega
 ·have e: ∀d,d<a.length*3->W.cell? ⟨g,d,none⟩=(kG c a)[d]? :=fun d l=>by
   rw[(blk (i.new _ _ h2)).1,<-h3,Kl,Jo l];simp
  obtain⟨m,n,o⟩:=td c pre suf s;refine⟨g,cap,h1,fP (i.new _ _ h2),?_,?_,?_⟩
  ·rw[e _ (by omega),b];exact m
  ·rw[e _ (by omega),b];exact n
  ·rw[e _ (by omega),b];exact o
def dQ(rs:List (List (List Int))):Nat:=(rs.map List.length).foldl (· * ·) 1
theorem vl(rs:List (List (List Int)))(r:List (List Int)):dQ (rs++[r])=dQ rs*r.length:=by simp[dQ]
theorem uF: ∀(rs:List (List (List Int))) (a:Nat),(∀r∈rs,r.length<=200)->(rs.map List.length).foldl (· * ·) a<=a*200^rs.length
 | [],a,_=>by simp
 |r::rs,a,b=>by have c:=uF rs (a*r.length) (fun d e=>b d (KQ _ e));have f:a*r.length*200^rs.length<=a*200*200^rs.length:=LX _ (Nat.mul_le_mul_left a (b r JK));simp only[Mz,List.foldl_cons,Ju,Nat.pow_succ];rw[Nat.mul_comm (200^rs.length) 200,<-Nat.mul_assoc];exact Jt c f
theorem tz{rs:List (List (List Int))}(a: ∀r∈rs,r.length<=200)(b:rs.length<=3):dQ rs<=8000000:=by have c:=uF rs 1 a;have d:200^rs.length<=200^3:=Nat.pow_le_pow_right (by omega) b;unfold dQ;omega
theorem CZ(B:World)(C:Fx)(c:Fc)(b:List Sr)(L:Nat)(M:List (List (List Int)->List Int))(N:List (List Int->Bool))(l:sa B C c b L M N)(w:World)(o:gh B C w)(T:List Tb)(O:Nat)(D:bp w (.slice (some ⟨c.tb,c.tof,none⟩) T.length O) T)(p:T.length=c.T.length)(E: ∀t∈T,t.rows.length<=200):
  Calls prog 253 #[.pointer (some ⟨c.fb,2,none⟩)] w fun e w'=>e=.returned (.int .i64 (dQ (aK T b):Nat))/\Below w.heap.size w w':=by
 obtain⟨P,av,ax,ay,aA,aI,F,q,-,-⟩:=l.lies;have r:=o.new _ _ F;have aJ:=aa r;obtain⟨G,aL⟩:=blk r;have aN:=l.few;have Q:=ab q;have s:=ab l.ok;obtain⟨R,S,H⟩:=aC o D E
 obtain⟨u,v,V⟩: ∃u v,P=.slice u b.length v:=by
  rcases q with⟨g,h2⟩|⟨W,X,cur,T,g,_⟩
  ·exact⟨none,0,by rw[g,h2]⟩
  ·exact⟨_,_,g⟩
 subst V;have aR:w.cell? ⟨c.fb,2,none⟩=some (.slice u b.length v):=G 2;clear q o D E r F l G;go_enter func253,ntmps253;go_wp2_with fail
 go_loopg [3,5,11] b.length (fun Y Z _ ac ad=> ∃a f,b=a++f/\Y=f.length/\Z=.int .i64 (dQ (aK T a):Nat)/\ac=.int .i64 (a.length:Nat)/\Below w.heap.size w ad)
 case atStart=>exact⟨[],b,rfl,rfl,rfl,rfl,Jj _ _⟩
 case round=>
  obtain⟨a,f,g,rfl,rfl,rfl,I⟩:=hrel;have J:a.length+f.length=b.length:=by rw[g,Jk]
  obtain⟨h,i⟩:=ag g I;clear g I
  cases f with
  |nil=>
   have ae:decide (a.length<b.length)=false:=by simp at J⊢;omega
   obtain rfl:a=b:=by rw[U h,JD]
   go_wp2;go_ret;exact⟨rfl,i⟩
  |cons d f=>
   rw[Ju]at J;have ae:decide (a.length<b.length)=true:=by simp;omega
   have aj:Hid (b=(a++[d])++f):=by unfold Hid;rw[U h];simp
   have x:d∈b:=by rw[U h];simp
   obtain⟨W,X,y,aT,aU,aV,a0⟩:=Q.cell3 (R.below i) h;injection y with y _ ak;subst y ak;obtain⟨a1,a2,a3,-,-,t3,-,al⟩:=(S.keep i).tab (j:=d.tab) (by rw[p];exact s d x);obtain⟨a4,⟨a5,a9,rfl,_,_⟩,an,_⟩:=al;rw[an]at t3
   have K:T.getD d.tab bd∈T:=by
    have k:d.tab<T.length:=by rw[p];exact s d x
    rw[JC,Jl k];exact Ky k
   have ao:=(U H) _ K;have ap:Hid (dQ (aK T (a++[d]))=dQ (aK T a)*(T.getD d.tab bd).rows.length):=by unfold Hid;rw[show aK T (a++[d])=aK T a++[(T.getD d.tab bd).rows]from by simp[aK],vl]
   have ar:dQ (aK T a)<=8000000:=by
    refine tz (fun a' au=>?_) (by simp[aK];omega);obtain⟨m,n,rfl⟩:=KM.1 au;refine H _ ?_;have k:m.tab<T.length:=by rw[p];exact s m (by rw[U h];exact J4 _ n)
    rw[JC,Jl k];exact Ky k
   clear K x;generalize(T.getD d.tab bd).rows.length=z at*;generalize dQ (aK T a)=A at*;have ba:A*z<=1600000000:=Jt (Nat.mul_le_mul ar ao) (by omega);generalize n:A*z=m at*;have bb:(A:Int)*(z:Int)=(m:Int):=by rw[<-n];simp
   clear n;go_wp2;go_roundg f.length
   case measure=>simp
   case rel=>
    refine⟨a++[d],f,aj,rfl,?_,?_,i.alloc i.size _⟩
    ·rw[U ap]
    ·rw[Jk];go_num
def ej(a b:Int):Int:=if a<b then-1 else if b<a then 1 else 0
def bV:List Int->List Int->Int
 | [],[]=>0
 | [],_::_=> -1
 |_::_,[]=>1
 |a::r,b::s=>if ej a b=0 then bV r s else ej a b
theorem vq(x:Int)(w:World):Calls prog 266 #[.int .i64 x] w fun e w'=>e=.returned (.bool false)/\w'=w:=by
 have a:(x !=x)=false:=by simp
 go_enter func266,ntmps266;go_wp2;go_ret;exact⟨rfl,rfl⟩
theorem EZ(a b:Int)(w:World):Calls prog 204 #[.int .i64 a,.int .i64 b] w fun e w'=>e=.returned (.int .i64 (ej a b))/\w'=w:=by
 obtain⟨f,h⟩: ∃f,Hid (f=ej a b):=⟨_,rfl⟩
 rw[<-U h];go_enter func204,ntmps204;go_wp2_with fail;refine(vq a _).mono ?_;rintro e m ⟨rfl,i⟩;obtain rfl:=i.symm;go_wp2_with fail;refine(vq b _).mono ?_;rintro e n ⟨rfl,j⟩;obtain rfl:=j.symm;by_cases c:a<b
 ·have k:decide (a<b)=true:=by simpa using c
  have g:Hid (f= -1):=by unfold Hid;rw[U h];unfold ej;rw[Jo c]
  clear c;go_wp2;go_ret;exact⟨by rw[U g];rfl,rfl⟩
 ·have k:decide (a<b)=false:=by simpa using c
  by_cases d:b<a
  ·have l:decide (b<a)=true:=by simpa using d
   have g:Hid (f=1):=by unfold Hid;rw[U h];unfold ej;rw[Jn c,Jo d]
   clear c d;go_wp2;go_ret;exact⟨by rw[U g];rfl,rfl⟩
  ·have l:decide (b<a)=false:=by simpa using d
   have g:Hid (f=0):=by unfold Hid;rw[U h];unfold ej;rw[Jn c,Jn d]
   clear c d;go_wp2;go_ret;exact⟨by rw[U g];rfl,rfl⟩
theorem vu(a:Int):ej a a=0:=by simp[ej]
theorem nL{a b:Int}(c:ej a b=0):a=b:=by
 unfold ej at c;split at c
 ·omega
 ·split at c
  ·omega
  ·omega
theorem E0(pre r s:List Int):bV (pre++r) (pre++s)=bV r s:=by
 induction pre with
 |nil=>rfl
 |cons b c a=>simp only[KS,bV,vu,Mi];exact a
theorem xX(a b:Value)(d f:List Int)(w:World)(C:aS w a (aE d))(D:aS w b (aE f)):
  Calls prog 128 #[a,b] w fun e w'=>e=.returned (.int .i64 (bV d f))/\w'=w:=by
 obtain⟨Y,Z,rfl,t,r⟩:=C;obtain⟨ac,ad,rfl,u,s⟩:=D;rw[Jm]at t u r s;unfold maxLen at t u;simp only[Jm]
 obtain⟨l,v⟩: ∃l,Hid (l=bV d f):=⟨_,rfl⟩
 rw[<-U v];obtain⟨E,F⟩:=ag r s;clear r s;go_enter func128,ntmps128;go_wp2_with fail
 go_loopg [5,6,7,8,11] d.length (fun G _ _ _ _ H I=> ∃c h i,d=c++h/\f=c++i/\G=h.length/\H=.int .i64 (c.length:Nat)/\I=w)
 case atStart=>exact⟨[],d,f,rfl,rfl,rfl,rfl,rfl⟩
 case round=>
  obtain⟨c,h,i,m,n,rfl,rfl,J⟩:=hrel;obtain rfl:=J.symm;obtain⟨x,y⟩:=ag m n;have o:c.length+h.length=d.length:=by rw[m,Jk]
  have p:c.length+i.length=f.length:=by rw[n,Jk]
  have q:Hid (l=bV h i):=by unfold Hid;rw[U v,m,n,E0]
  clear m n
  cases h with
  |nil=>
   have K:decide (c.length<d.length)=false:=by simp at o⊢;omega
   cases i with
   |nil=>
    have L:decide (d.length<f.length)=false:=by simp at o p⊢;omega
    go_wp2;go_ret;exact⟨by rw[U q];rfl,rfl⟩
   |cons j i=>
    have L:decide (d.length<f.length)=true:=by simp at o p⊢;omega
    go_wp2;go_ret;exact⟨by rw[U q];rfl,rfl⟩
  |cons g h=>
   rw[Ju]at o;have K:decide (c.length<d.length)=true:=by simp;omega
   obtain⟨M,N,rfl,ae,z⟩:=(U E) (by omega)
   have aj:w.cell? ⟨M,N+c.length,none⟩=some (.int .i64 g):=by rw[z _ (by omega),U x];simp
   clear z
   cases i with
   |nil=>
    have O:decide (f.length<=c.length)=true:=by simp at p⊢;omega
    go_wp2;go_ret;exact⟨by rw[U q];rfl,rfl⟩
   |cons j i=>
    rw[Ju]at p;have O:decide (f.length<=c.length)=false:=by simp;omega
    obtain⟨P,Q,rfl,ak,A⟩:=(U F) (by omega)
    have al:w.cell? ⟨P,Q+c.length,none⟩=some (.int .i64 j):=by rw[A _ (by omega),U y];simp
    clear A;go_wp2_with fail;refine(EZ g j _).mono ?_;rintro e an ⟨rfl,R⟩;obtain rfl:=R.symm;by_cases k:ej g j=0
    ·have S:(ej g j !=0)=false:=by rw[k];rfl
     have B:=nL k;have T:Hid (d=(c++[g])++h):=by unfold Hid;rw[U x];simp
     have V:Hid (f=(c++[g])++i):=by unfold Hid;rw[U y,B];simp
     clear k B;generalize ej g j=W at*;go_wp2;go_roundg h.length
     case measure=>simp
     case rel=>refine⟨c++[g],h,i,T,V,rfl,?_,rfl⟩;rw[Jk];go_num
    ·have S:(ej g j !=0)=true:=by simpa using k
     have X:Hid (l=ej g j):=by unfold Hid;rw[U q];simp only[bV];rw[Jn k]
     clear k;generalize ej g j=W at*;go_wp2;go_ret;exact⟨by rw[U X];rfl,rfl⟩
end
end Go.Proofs.YtfkeddkfegaeiaaGreatDoor
namespace Go.Proofs
open Go.Shelf
def Tryz.laysSlF6_f127_ren:Go.Shelf.Ren:=⟨fun|6=>127|15=>203|14=>202|28=>264|29=>265|20=>256|21=>257|22=>258|23=>259|24=>260|25=>261|26=>262|27=>263|46=>298|47=>299|48=>300|49=>301|50=>302|57=>324|a=>a,fun|22=>42|24=>32|25=>303|3=>3|39=>334|0=>0|53=>131|55=>276|4=>4|46=>434|45=>433|50=>438|5=>5|9=>9|66=>463|70=>466|76=>481|77=>482|a=>a,fun|a=>a⟩
theorem Tryz.laysSlF6_f127:Go.Proofs.SlLaysF.n6 Tryz.prog Tryz.laysSlF6_f127_ren:= {
 mixed:=by kernel_rfl
 f6:=⟨Tryz.f127.name,by decide,Tryz.func127.trans (congrArg some (by kernel_rfl))⟩
 f14:=⟨Tryz.f202.name,by decide,Tryz.func202.trans (congrArg some (by kernel_rfl))⟩
 f15:=Tryz.func203.trans (congrArg some (by kernel_rfl))
 f20:=⟨Tryz.f256.name,by decide,Tryz.func256.trans (congrArg some (by kernel_rfl))⟩
 f21:=⟨Tryz.f257.name,by decide,Tryz.func257.trans (congrArg some (by kernel_rfl))⟩
 f22:=⟨Tryz.f258.name,by decide,Tryz.func258.trans (congrArg some (by kernel_rfl))⟩
 f23:=⟨Tryz.f259.name,by decide,Tryz.func259.trans (congrArg some (by kernel_rfl))⟩
 f24:=⟨Tryz.f260.name,by decide,Tryz.func260.trans (congrArg some (by kernel_rfl))⟩
 f25:=⟨Tryz.f261.name,by decide,Tryz.func261.trans (congrArg some (by kernel_rfl))⟩
 f26:=⟨Tryz.f262.name,by decide,Tryz.func262.trans (congrArg some (by kernel_rfl))⟩
 f27:=⟨Tryz.f263.name,by decide,Tryz.func263.trans (congrArg some (by kernel_rfl))⟩
 f28:=Tryz.func264.trans (congrArg some (by kernel_rfl))
 f29:=Tryz.func265.trans (congrArg some (by kernel_rfl))
 f46:=⟨Tryz.f298.name,by decide,Tryz.func298.trans (congrArg some (by kernel_rfl))⟩
 f47:=Tryz.func299.trans (congrArg some (by kernel_rfl))
 f48:=Tryz.func300.trans (congrArg some (by kernel_rfl))
 f49:=⟨Tryz.f301.name,by decide,Tryz.func301.trans (congrArg some (by kernel_rfl))⟩
 f50:=⟨Tryz.f302.name,by decide,Tryz.func302.trans (congrArg some (by kernel_rfl))⟩
 f57:=⟨Tryz.f324.name,by decide,Tryz.func324.trans (congrArg some (by kernel_rfl))⟩
 t0:=Tryz.underlying0
 a0:=Tryz.isAgg0
 z0:=Tryz.sizeOf0
 v0:=Tryz.zeroValue0
 t3:=Tryz.underlying3
 a3:=Tryz.isAgg3
 z3:=Tryz.sizeOf3
 v3:=Tryz.zeroValue3
 t4:=Tryz.underlying4
 a4:=Tryz.isAgg4
 z4:=Tryz.sizeOf4
 v4:=Tryz.zeroValue4
 t5:=Tryz.underlying5
 a5:=Tryz.isAgg5
 z5:=Tryz.sizeOf5
 v5:=Tryz.zeroValue5
 t9:=Tryz.underlying9
 a9:=Tryz.isAgg9
 z9:=Tryz.sizeOf9
 v9:=Tryz.zeroValue9
 t22:=Tryz.underlying42
 a22:=Tryz.isAgg42
 z22:=Tryz.sizeOf42
 v22:=Tryz.zeroValue42
 a24:=Tryz.isAgg32
 z24:=Tryz.sizeOf32
 t25:=Tryz.underlying303
 a25:=Tryz.isAgg303
 z25:=Tryz.sizeOf303
 v25:=Tryz.zeroValue303
 t39:=Tryz.underlying334
 a39:=Tryz.isAgg334
 z39:=Tryz.sizeOf334
 v39:=Tryz.zeroValue334
 t45:=Tryz.underlying433
 a45:=Tryz.isAgg433
 z45:=Tryz.sizeOf433
 v45:=Tryz.zeroValue433
 t46:=Tryz.underlying434
 a46:=Tryz.isAgg434
 z46:=Tryz.sizeOf434
 v46:=Tryz.zeroValue434
 t50:=Tryz.underlying438
 a50:=Tryz.isAgg438
 z50:=Tryz.sizeOf438
 v50:=Tryz.zeroValue438
 t53:=Tryz.underlying131
 a53:=Tryz.isAgg131
 z53:=Tryz.sizeOf131
 v53:=Tryz.zeroValue131
 t55:=Tryz.underlying276
 a55:=Tryz.isAgg276
 z55:=Tryz.sizeOf276
 v55:=Tryz.zeroValue276
 t66:=Tryz.underlying463
 a66:=Tryz.isAgg463
 z66:=Tryz.sizeOf463
 v66:=Tryz.zeroValue463
 t70:=Tryz.underlying466
 a70:=Tryz.isAgg466
 z70:=Tryz.sizeOf466
 v70:=Tryz.zeroValue466
 t76:=Tryz.underlying481
 a76:=Tryz.isAgg481
 z76:=Tryz.sizeOf481
 v76:=Tryz.zeroValue481
 t77:=Tryz.underlying482
 a77:=Tryz.isAgg482
 z77:=Tryz.sizeOf482
 v77:=Tryz.zeroValue482}
open Go.RowKit Go.Lib Go.Sort in
theorem Tryz.slices_SortFunc{a:Type}[Inhabited a](enc:a->Value)(h:OneCell enc)(b:a->a->Int)(i:SWO (ltOf b))(g:Nat)(c:Array Value)(blk off cap:Nat)(d:Array a)(w:World)(j: ∀args w,(callFunc g args).run Tryz.prog w=.ok (.enter g args) w)(k:CmpLays1 Tryz.prog g c enc b blk off d.size w)(l:Holds enc w blk off d)(m:blk<w.heap.size)(o:d.size<4611686018427387904):
  Calls Tryz.prog 127 #[.slice (some ⟨blk,off,none⟩) d.size cap,.func (.func g) #[] c] w fun e w'=>e=.returned (.tuple #[])/\ ∃f n p,PermIn 0 d.size d f/\SortedIn (ltOf b) 0 d.size f/\w'=sortWorld enc w blk off n f p:=Any.slices_SortFunc Tryz.laysSlF6_f127 enc h b i g c blk off cap d w j k l m o
end Go.Proofs
