import Derived.Test.YtfkeddkfegaeiaaGreatDoorPnRjS
import Derived.Test.YtfkeddkfegaeiaaGreatDoorRows
set_option maxRecDepth 100000
set_option maxHeartbeats 20000000
namespace Go.Proofs.YtfkeddkfegaeiaaGreatDoor
section
open Go.RowKit Go.ChangeShapes Go.WideShapes Go.ChangeAt Go.ChangeMaps _root_.Go.Proofs.Tryz
section
variable {H : Type} {enc : TypeId × Value → H} {W : World} {sp : Nat → Bool} {held : Bool}
theorem FV(d:DataW H):1<=Rows.uptoBulk d:=by
 cases d with
 |lit a=>cases a<;>simp[Rows.uptoBulk]
 |nil=>simp[Rows.uptoBulk]
 |ptr d=>simp[Rows.uptoBulk]
 |slice b c=>simp[Rows.uptoBulk]
 |agg parts=>simp[Rows.uptoBulk]
 |iface e d=>simp[Rows.uptoBulk]
 |map f=>simp[Rows.uptoBulk]
 |held g=>simp[Rows.uptoBulk]
theorem nw(l:List (DataW H)):l.length<=Rows.uptoBulkAll l:=by
 induction l with
 |nil=>simp[Rows.uptoBulkAll]
 |cons a b c=>have:=FV a;simp only[Rows.uptoBulkAll,Ju];omega
theorem qA{d:DataW H}{l:List (DataW H)}(b:d∈l):Rows.uptoBulk d<=Rows.uptoBulkAll l:=by
 induction l with
 |nil=>cases b
 |cons e f c=>
  simp only[Rows.uptoBulkAll]
  cases JG.1 b with
  |inl a=>subst a;omega
  |inr a=>have:=c a;omega
theorem jc(a b:List (DataW H)):Rows.uptoBulkAll a<=Rows.uptoBulk (.slice a b):=by simp only[Rows.uptoBulk];omega
theorem y9:prog.cellsOf 9=1:=by kernel_rfl
theorem It:prog.cellsOf 3=1:=by kernel_rfl
theorem Iu:prog.cellsOf 32=1:=by kernel_rfl
theorem Iv:prog.cellsOf 39=1:=by kernel_rfl
theorem He:prog.cellsOf 42=1:=by kernel_rfl
theorem Hf:prog.cellsOf 204=3:=by kernel_rfl
theorem fC{b o:Nat}(j:Nat):(⟨b,o,none⟩:Addr).add j=⟨b,o+j,none⟩:=by unfold Addr.add;split<;>simp_all
theorem oM{b o:Nat}{v:Value}(a:W.cell? ⟨b,o,none⟩=some v):b<W.heap.size:=by
 rcases J' b W.heap.size with h'|h'
 ·exact h'
 ·simp[World.cell?,Array.getElem?_eq_none h']at a
theorem Ch{n:Nat}{cs:List Value}{d:DataW H}{p:List MemPlace}(g:DataW.trod enc prog W 0 sp held n 39 cs=some (d,p)): ∃(v:Value) (ts:List ByteArray),cs=[v]/\aS W v (aB ts)/\ts.length<=lX v/\ts.length<=Rows.uptoBulk d:=by
 rcases open_strings underlying39 underlying9 y9 g with⟨rfl,hx⟩|⟨a,len,cap,ss,rfl,_,hl,hm,hz,hx,hcell,_⟩
 ·exact⟨_,[],rfl,⟨none,0,rfl,by unfold maxLen;simp,fun c=>by simp at c⟩,by simp,by simp⟩
 ·have o:len<=ss.length:=by rw[hz];split<;>omega
  have b:(ss.take len).length=len:=by rw[JU];omega
  injection hx with h _;subst h;refine⟨_,ss.take len,rfl,⟨some a,cap,by rw[Jm,b],by rw[Jm,b];omega,fun c=>?_⟩,by rw[b];exact hl,?_⟩
  ·rw[Jm,b]at c;obtain⟨i,j,k⟩:=a;have e:=hcell 0 (by omega);have l:k=none:=by simpa [Addr.add]using LH e
   subst l;rw[fC]at e;refine⟨i,j,rfl,oM e,fun m f=>?_⟩;rw[Jm,b]at f;have:=hcell m (by omega);rw[fC]at this;rw[this,J7,Kh f,Jl (by omega),JC,Jl (by omega)];rfl
  ·have q:=jc (H:=H) (strs (ss.take len)) (strs (ss.drop len));have r:=nw (H:=H) (strs (ss.take len));have s:(strs (H:=H) (ss.take len)).length=(ss.take len).length:=by simp[strs]
   omega
theorem D9{n:Nat}{cs:List Value}{d:DataW H}{p:List MemPlace}(h:DataW.trod enc prog W 0 sp held n 32 cs=some (d,p)): ∃(v:Value) (f:List Int),cs=[v]/\aS W v (aE f)/\f.length<=Rows.uptoBulk d:=by
 rcases open_ints underlying32 underlying3 It h with⟨rfl,hx⟩|⟨a,len,cap,ss,rfl,_,hl,hm,hz,hx,hcell,_⟩
 ·exact⟨_,[],rfl,⟨none,0,rfl,by unfold maxLen;simp,fun c=>by simp at c⟩,by simp⟩
 ·have q:len<=ss.length:=by rw[hz];split<;>omega
  have b:(ss.take len).length=len:=by rw[JU];omega
  injection hx with i _;subst i;refine⟨_,ss.take len,rfl,⟨some a,cap,by rw[Jm,b],by rw[Jm,b];omega,fun c=>?_⟩,?_⟩
  ·rw[Jm,b]at c;obtain⟨j,k,l⟩:=a;have e:=hcell 0 (by omega);have m:l=none:=by simpa [Addr.add]using LH e
   subst m;rw[fC]at e;refine⟨j,k,rfl,oM e,fun o g=>?_⟩;rw[Jm,b]at g;have:=hcell o (by omega);rw[fC]at this;rw[this,J7,Kh g,Jl (by omega),JC,Jl (by omega)];rfl
  ·have r:=jc (H:=H) (lits .i64 (ss.take len)) (lits .i64 (ss.drop len));have s:=nw (H:=H) (lits .i64 (ss.take len));have t:(lits (H:=H) .i64 (ss.take len)).length=(ss.take len).length:=by simp[lits]
   omega
theorem rJ{d:Type}(n:Nat)(e:Nat->d->Prop)(b: ∀i,i<n-> ∃x,e i x): ∃l:List d,l.length=n/\ ∀i x,l[i]? =some x->e i x:=by
 induction n with
 |zero=>exact⟨[],rfl,fun i x b=>by simp at b⟩
 |succ n g=>
  obtain⟨l,c,h⟩:=g (fun i f=>b i (by omega));obtain⟨x,j⟩:=b n (by omega);refine⟨l++[x],by simp[c],fun i k a=>?_⟩;rcases J' i n with f|f
  ·rw[Jz (by omega)]at a;exact h i k a
  ·have m:i=n:=by
    have:=(Jy.1 a).1;simp[c]at this;omega
   subst m;rw[Jw (by omega),c,Kv]at a;simp at a;subst a;exact j
theorem D'{n:Nat}{cs:List Value}{d:DataW H}{p:List MemPlace}(w:DataW.trod enc prog W 0 sp held n 42 cs=some (d,p)): ∃(v:Value) (rows:List (List Int)),cs=[v]/\bZ W v rows/\rows.length<=Rows.uptoBulk d/\ ∀r∈rows,r.length<=Rows.uptoBulk d:=by
 rcases DataW.trod_slice underlying42 w with⟨rfl,c⟩|⟨a,len,cap,elems,rest,m,_,rfl,c,_,hl,hm,hlen,hel,_⟩
 ·exact⟨_,[],rfl,⟨[],⟨none,0,rfl,by unfold maxLen;simp,fun k=>by simp at k⟩,rfl,fun h r x y=>by simp at y⟩,by simp,fun r g=>by cases g⟩
 ·injection c with z _;subst z;rw[Iu]at hel;have A: ∀e,e<len-> ∃b:Value×List Int,W.cell? (a.add e)=some b.1/\aS W b.1 (aE b.2)/\b.2.length<=Rows.uptoBulk (.slice (elems.map (·.1)) (rest.map (·.1))):=by intro e B;have s:=hel e B;rw[Lb,Jl (by omega)]at s;obtain⟨P,C,f⟩:=Mo.1 s;obtain⟨v,D,rfl,g,E⟩:=D9 (d:=elems[e].1) (p:=elems[e].2) f;refine⟨(v,D),cell_of_cells?_one C,g,Jt E (Jt (qA (l:=elems.map (·.1)) ?_) (jc _ _))⟩;exact KM.2 ⟨elems[e],Ky _,rfl⟩
  obtain⟨l,i,j⟩:=rJ len _ A;refine⟨_,l.map (·.2),rfl,⟨l.map (·.1),⟨some a,cap,by rw[Jm,i],by rw[Jm,i];omega,fun k=>?_⟩,by simp,fun h r x t u=>?_⟩,?_,?_⟩
  ·rw[Jm,i]at k
   obtain⟨F,G⟩: ∃b,l[0]? =some b:=⟨l[0]'(by omega),Jl _⟩
   have o:=(j 0 F G).1;obtain⟨I,J,K⟩:=a;have L:K=none:=by simpa [Addr.add]using LH o
   subst L;rw[fC]at o;refine⟨I,J,rfl,oM o,fun M q=>?_⟩;rw[Jm]at q;have:=(j M _ (Jl q)).1;rw[fC]at this;rw[this,J7,Jl q];rfl
  ·rw[J7]at t u;obtain⟨b,c,rfl⟩:=Jq.1 t;obtain⟨Q,f,rfl⟩:=Jq.1 u;rw[c]at f;injection f with f;subst f;exact(j h b c).2.1
  ·rw[Jm,i];have R:=jc (H:=H) (elems.map (·.1)) (rest.map (·.1));have N:=nw (H:=H) (elems.map (·.1));rw[Jm]at N;omega
  ·intro r g;obtain⟨b,c,rfl⟩:=KM.1 g;obtain⟨h,O⟩:=Lh c;exact(j h b O).2.2
end
theorem ug{H:Type}: ∀(a:List (DataW H)) (l:List Tb),l.length=a.length->(∀(i:Nat) (t:Tb) (d:DataW H),l[i]? =some t->a[i]? =some d->t.rows.length<=Rows.uptoBulk d)->nrows l<=Rows.uptoBulkAll a
 | [],[],_,_=>by simp[nrows]
 |d::a,t::l,b,c=>by have j:=c 0 t d rfl rfl;have k:=ug a l (by simpa using b) (fun i e f g h=>c (i+1) e f (by simpa using g) (by simpa using h));simp only[nrows,Rows.uptoBulkAll];omega
 | [],_::_,b,_=>by simp at b
 |_::_,[],b,_=>by simp at b
theorem Gd{f:Type}{l:List f}(e:l.length=3): ∃a b c,l=[a,b,c]:=by
 rcases l with _|⟨a,_|⟨b,_|⟨c,_|⟨d,r⟩⟩⟩⟩
 ·simp at e
 ·simp at e
 ·simp at e
 ·exact⟨a,b,c,rfl⟩
 ·simp at e
theorem Ea{H:Type}{enc:TypeId×Value->H}{W:World}{h:Nat->Bool}{i:Bool}{n:Nat}{cs:List Value}{d:DataW H}{p:List MemPlace}(P:DataW.trod enc prog W 0 h i n 38 cs=some (d,p))(e:Nat)(Q:Rows.uptoBulk d<=e): ∃(v:Value) (l:List Tb),cs=[v]/\bp W v l/\l.length<=e/\nrows l<=e/\(∀t∈l,t.cols.length<=e)/\(∀t∈l,t.rows.length<=e)/\ ∀t∈l,∀r∈t.rows,r.length<=e:=by
 rcases DataW.trod_slice underlying38 P with⟨rfl,g⟩|⟨a,len,cap,elems,rest,m,_,rfl,g,_,hl,hm,hlen,hel,_⟩
 ·exact⟨_,[],rfl,⟨none,0,rfl,by unfold maxLen;simp,by simp,fun C=>by simp at C⟩,by simp,by simp[nrows],fun t j=>(by cases j),fun t j=>(by cases j),fun t j=>(by cases j)⟩
 ·injection g with R _;subst R;rw[Hf]at hel;have S:=jc (H:=H) (elems.map (·.1)) (rest.map (·.1))
  have T: ∀c,c<len-> ∃b:Value×Value×Tb,W.cell? (a.add (c*3))=some (.string b.2.2.name)/\W.cell? ((a.add (c*3)).add 1)=some b.1/\W.cell? ((a.add (c*3)).add 2)=some b.2.1/\xK W [.string b.2.2.name,b.1,b.2.1] b.2.2/\b.2.2.cols.length<=e/\(∀s,(elems.map (·.1))[c]? =some s->b.2.2.rows.length<=Rows.uptoBulk s)/\b.2.2.rows.length<=e/\ ∀r∈b.2.2.rows,r.length<=e:=by
   intro c V;have J:=hel c V;rw[Jl (by omega)]at J;obtain⟨a3,X,Y⟩:=Mo.1 J;obtain⟨_,Z,D⟩:=World.cells?_some X;obtain⟨a4,k,_,ac,_,ad,E⟩:=DataW.trod_struct underlying204 Y;have a5:Rows.uptoBulk elems[c].1<=Rows.uptoBulkAll (elems.map (·.1)):=qA (KM.2 ⟨elems[c],Ky _,rfl⟩);obtain⟨z,f,o,rfl⟩:=Gd Z;obtain⟨u,w,x,rfl⟩:=Gd (ad.trans rfl);have f0:DataW.trod enc prog W 0 h i k 9 (([z,f,o].drop 0).take (prog.cellsOf 9))=some u:=E 0 _ rfl;have f1:DataW.trod enc prog W 0 h i k 39 (([z,f,o].drop 1).take (prog.cellsOf 39))=some w:=E 1 _ rfl;have f2:DataW.trod enc prog W 0 h i k 42 (([z,f,o].drop 2).take (prog.cellsOf 42))=some x:=E 2 _ rfl;rw[y9]at f0;rw[Iv]at f1;rw[He]at f2;have ae:DataW.trod enc prog W 0 h i k 9 [z]=some u:=f0;have aj:DataW.trod enc prog W 0 h i k 39 [f]=some w:=f1;have ak:DataW.trod enc prog W 0 h i k 42 [o]=some x:=f2;obtain⟨al,F,_,_⟩:=DataW.trod_string underlying9 ae;obtain⟨a9,K,G,an,ao,a'⟩:=Ch (d:=w.1) (p:=w.2) aj;obtain⟨ba,rows,I,ap,bb,ar⟩:=D' (d:=x.1) (p:=x.2) ak;injection F with F _;injection G with G _;injection I with I _;subst F G I;have bc:Rows.uptoBulk elems[c].1=Rows.uptoBulk u.1+(Rows.uptoBulk w.1+(Rows.uptoBulk x.1+0))+1:=by rw[ac];simp only[Mz,List.map_nil,Rows.uptoBulk,Rows.uptoBulkAll]
   have au:(a.add (c*3)).add 0=a.add (c*3):=by simp[Addr.add]
   have q:=D 0 (by omega);rw[au]at q;refine⟨(f,o,⟨al,K,rows⟩),q,D 1 (by omega),D 2 (by omega),⟨f,o,rfl,an,ao,ap⟩,by show K.length<=_;omega,fun s A=>?_,by show rows.length<=_;omega,fun r av=>by have:=ar r av;omega⟩;rw[J7,Jl (by omega)]at A;injection A with A;subst A
   show rows.length<=Rows.uptoBulk elems[c].1
   omega
  obtain⟨l,y,B⟩:=rJ len _ T;have ax:(elems.map (·.1)).length=len:=by rw[Jm,hlen]
  have be:=nw (H:=H) (elems.map (·.1));refine⟨_,l.map (·.2.2),rfl,⟨some a,cap,by rw[Jm,y],by rw[Jm,y];omega,by rw[Jm,y];exact hl,fun C=>?_⟩,?_,?_,?_,?_,?_⟩
  ·rw[Jm,y]at C
   obtain⟨u,ay⟩: ∃b,l[0]? =some b:=⟨l[0]'(by omega),Jl _⟩
   have q:=(B 0 u ay).1;obtain⟨aA,aI,aJ⟩:=a;have aL:aJ=none:=by simpa [Addr.add]using LH q
   subst aL;rw[fC]at q;refine⟨aA,aI,rfl,oM q,fun aN t f=>?_⟩;rw[J7]at f;obtain⟨b,g,rfl⟩:=Jq.1 f;obtain⟨L,M,N,aR,_⟩:=B aN b g;rw[fC]at L;rw[fC,fC]at M N;exact⟨b.1,b.2.1,aR,L,M,N⟩
  ·rw[Jm];omega
  ·refine Jt (ug (elems.map (·.1)) _ (by rw[Jm,y,ax]) (fun c t s O aT=>?_)) (Jt S Q);rw[J7]at O;obtain⟨b,g,rfl⟩:=Jq.1 O;exact(B c b g).2.2.2.2.2.1 s aT
  all_goals
   intro t j;obtain⟨b,g,rfl⟩:=KM.1 j;obtain⟨aU,aV⟩:=Lh g;obtain⟨_,_,_,_,a0,_,a1,a2⟩:=B aU b aV
   first|exact a0|exact a1|exact a2
end
section
open Go.ChangeShapes Go.WideShapes Go.ChangeAt Go.RowKit _root_.Go.Proofs.Tryz
theorem wh{P:Program}{W:World}{nm:String}{w j k ts:TypeId}{I:Array (String×TypeId)}{f:Field}
  (y:P.underlying w=some (.interface I)) (z: ∀u,P.typeName? 3 u=some nm->u=j)
  (A:P.underlying j=some (.pointer k)) (B:P.underlying k=some (.struct #[f])) (C:f.type=ts) (D:f.offset=0) (E:P.underlying ts=some .string) (F:P.cellsOf k=1) (G:P.cellsOf ts=1):
  ∀(l:List (String×Nat×List UInt8)) (m:List MemPlace),
   (∀(i:Nat) (x:String×Nat×List UInt8),l[i]? =some x->P.globalNamed x.1=some x.2.1/\(P.globals[x.2.1]?).map (·.type)=some w)->
   DataW.LaidVars P W (l.map fun x=>(x.1,.iface nm (.ptr (.agg [.lit (.string x.2.2)])))) m->
   (∀b off,MemPlace.cell b off∈m->(∃c t,W.heap[b]? =some (.cells c t (0,0)))/\ ∀u v,W.cell? ⟨b,off,none⟩=some (.iface u v)->Value.okWide P W .any 0 u v)->
   ∃h:List Addr,h.length=l.length/\ ∀(i:Nat) (x:String×Nat×List UInt8) (a:Addr),l[i]? =some x->h[i]? =some a->
    W.cell? ⟨x.2.1,0,none⟩=some (.iface j (.pointer (some a)))/\(∃s:ByteArray,W.cell? a=some (.string s)/\s.data.toList=x.2.2/\s.size<=maxLen)/\ ∃c t,W.heap[a.block]? =some (.cells c t (0,0))
 | [],_,_,_,_=>⟨[],rfl,fun i x a o=>by simp at o⟩
 |(n,g,text)::r,m,hg,hv,hrows=>by
  obtain⟨ak,t0,J,f0,al,K,p,L,H,M,N,O⟩:=hv;obtain⟨Q,R⟩:=hg 0 _ rfl;obtain rfl:=K8 (Q.symm.trans p);obtain rfl:=K8 (R.symm.trans L);subst O;obtain⟨S⟩:=J;have T: ∀u v,S=[.iface u v]->Value.okWide P W .any 0 u v:=fun u v V=>by subst V;exact(hrows g 0 (by simp[MemPlace.row])).2 u v (by simpa using World.var?_cell p H 0)
  obtain⟨q,X,rfl,Y,Z,ac,rfl⟩:=errorString_of_trod y z A B C D E F G M T;obtain⟨h,ad,ae⟩:=wh y z A B C D E F G r K (fun i x o=>hg (i+1) x (by simpa using o)) N (fun b off aj=>hrows b off (KJ _ aj));refine⟨q::h,by simp[ad],fun i x a d e=>?_⟩
  match i,d,e with
  |0,d,e=>simp only[List.getElem?_cons_zero,Ke]at d e;subst d;subst e;exact⟨by simpa using World.var?_cell p H 0,⟨X,Y,Z,ac⟩,(hrows q.block q.off (by simp[MemPlace.row])).1⟩
  |i+1,d,e=>exact ae i x a (by simpa using d) (by simpa using e)
theorem own:ownKnob prog.godebug=none:=by kernel_rfl
theorem Hg:prog.cellsOf 498=1:=by kernel_rfl
theorem FW:prog.cellsOf 9=1:=by kernel_rfl
theorem Iw: "*"++ "errors.errorString"= "*errors.errorString":=by decide
theorem IU(u:TypeId)(a:prog.typeName? 3 u=some "*errors.errorString"):u=496:=
 typeName_ptr_named (nm:= "errors.errorString") (by rw[Iw];kernel_rfl) (by kernel_rfl) (by decide) u (by rw[Iw];exact a)
theorem qB{P:Program}{W:World}{n:String}{d:DataW Unit}{r:List (String×DataW Unit)}{a:List MemPlace}(c:DataW.LaidVars P W ((n,d)::r) a): ∃b,DataW.LaidVars P W r b/\ ∀m,m∈b->m∈a:=by obtain⟨i,t0,j,f0,k,e,l,o,p,q,f,g⟩:=c;exact⟨e,f,fun m h=>by rw[g];simp[h]⟩
def kX:List (String×Nat×List UInt8):=[
 ("quarry/api.ErrLong",0,[116,111,111,32,108,111,110,103]),
 ("quarry/api.ErrByte",1,[110,111,32,115,117,99,104,32,98,121,116,101]),
 ("quarry/api.ErrNumber",2,[116,111,111,32,103,114,101,97,116,32,97,32,110,117,109,98,101,114]),
 ("quarry/api.ErrSyntax",3,[110,111,116,32,97,115,32,105,116,32,109,117,115,116,32,98,101]),
 ("quarry/api.ErrTable",5,[110,111,32,115,117,99,104,32,116,97,98,108,101]),
 ("quarry/api.ErrColumn",6,[110,111,32,115,117,99,104,32,99,111,108,117,109,110]),
 ("quarry/api.ErrTwice",7,[116,104,101,114,101,32,116,119,105,99,101]),
 ("quarry/api.ErrWindow",8,[97,32,119,105,110,100,111,119,32,119,104,101,114,101,32,110,111,110,101,32,109,97,121,32,98,101]),
 ("quarry/api.ErrMany",4,[116,111,111,32,109,97,110,121]),
 ("quarry/api.ErrShape",9,[111,102,32,97,110,111,116,104,101,114,32,115,104,97,112,101]),
 ("strconv.ErrRange",11,[118,97,108,117,101,32,111,117,116,32,111,102,32,114,97,110,103,101]),
 ("strconv.ErrSyntax",12,[105,110,118,97,108,105,100,32,115,121,110,116,97,120])]
theorem Ci: ∀(i:Nat) (x:String×Nat×List UInt8),kX[i]? =some x->prog.globalNamed x.1=some x.2.1/\(prog.globals[x.2.1]?).map (·.type)=some 23:=by
 intro i x a
 have b:i<12:=by
  rcases J' i 12 with h'|h'
  ·exact h'
  ·rw[Kj (by simpa [kX]using h')]at a;cases a
 match i,b with
 |0,_|1,_|2,_|3,_|4,_|5,_|6,_|7,_|8,_|9,_|10,_|11,_=>simp only[kX,List.getElem?_cons_succ,List.getElem?_cons_zero,Ke]at a;subst a;exact⟨by kernel_rfl,by kernel_rfl⟩
theorem Cj: ∀(i j:Nat) (x b:String×Nat×List UInt8),kX[i]? =some x->kX[j]? =some b->x.2.2=b.2.2->i=j:=by
 have a: ∀i,i<12-> ∀j,j<12->(kX[i]?).map (·.2.2)=(kX[j]?).map (·.2.2)->i=j:=by decide
 intro i j x b c d f
 have e: ∀ {i x},kX[i]? =some x->i<12:=fun{i x} a=>by
  rcases J' i 12 with h'|h'
  ·exact h'
  ·rw[Kj (by simpa [kX]using h')]at a;cases a
 exact a i (e c) j (e d) (by rw[c,d];simpa using f)
def fL(j:Nat):Nat:=(kX.map (·.2.1)).idxOf j
theorem Eb: ∀j,j<13->mg j=true->tw j=true:=by decide
theorem ny{j:Nat}(a:mg j=true):tw j=true:=Eb j (wP a) a
theorem zd: ∀j,j<13->tw j=true->(kX[fL j]?).map (·.2.1)=some j:=by decide
theorem Hh: ∀j,j<13->tw j=true->fL j<12:=by decide
theorem Hi: ∀i,i<13->tw i=true-> ∀j,j<13->tw j=true->fL i=fL j->i=j:=by decide
theorem ze{W:World}{o:List MemPlace}(z:DataW.LaidVars prog W (kX.map fun x=>(x.1,.iface "*errors.errorString" (.ptr (.agg [.lit (.string x.2.2)])))) o)
  (A: ∀b off,MemPlace.cell b off∈o->(∃c t,W.heap[b]? =some (.cells c t (0,0)))/\ ∀u v,W.cell? ⟨b,off,none⟩=some (.iface u v)->Value.okWide prog W .any 0 u v): ∃a:Nat->Addr,cJ a W.heap.size W:=by
 obtain⟨g,B,k⟩:=wh (P:=prog) (W:=W) (nm:= "*errors.errorString") underlying23 IU underlying496 underlying498 rfl rfl underlying9 Hg FW kX o Ci z A;have C:g.length=12:=B;have l: ∀d,tw d=true-> ∃x,kX[fL d]? =some x/\x.2.1=d/\g[fL d]? =some (g.getD (fL d) default):=fun d e=>by obtain⟨x,h,m⟩:=Jq.1 (zd d (s6 e) e);exact⟨x,h,m,by rw[JC,Jl (by rw[C];exact Hh d (s6 e) e)];rfl⟩
 have p: ∀d,tw d=true->W.cell? ⟨d,0,none⟩=some (.iface 496 (.pointer (some (g.getD (fL d) default)))):=fun d e=>by
  obtain⟨x,h,m,i⟩:=l d e;have:=(k (fL d) x _ h i).1
  rwa[m]at this
 have q: ∀d,tw d=true-> ∃c t,W.heap[(g.getD (fL d) default).block]? =some (.cells c t (0,0)):=fun d e=>by obtain⟨x,h,m,i⟩:=l d e;exact(k (fL d) x _ h i).2.2
 have D:13<=W.heap.size:=by
  have E:=p 12 (by decide);rcases J' 12 W.heap.size with h'|h'
  ·exact h'
  ·simp[World.cell?,Array.getElem?_eq_none h']at E
 have r: ∀d,tw d=true->(g.getD (fL d) default).block<W.heap.size:=fun d e=>by obtain⟨c,t,F⟩:=q d e;exact aa F
 have s: ∀f d,tw f=true->tw d=true->f≠d->g.getD (fL f) default≠g.getD (fL d) default:=fun f d j e G H=>by
  obtain⟨x,h,O,i⟩:=l f j;obtain⟨w,y,Q,I⟩:=l d e;obtain⟨J,n,K,_⟩:=(k (fL f) x _ h i).2.1;obtain⟨t,L,M,_⟩:=(k (fL d) w _ y I).2.1;rw[H,L]at n;have N:t=J:=by injection n with n;injection n
  subst N;exact G (Hi f (s6 j) j d (s6 e) e (Cj (fL f) (fL d) x w h y (K.symm.trans M)))
 exact⟨fun d=>g.getD (fL d) default,⟨⟨D,Ji _,fun d e=>p d (ny e),fun d e=>r d (ny e),fun d e=>q d (ny e),fun f d j e=>s f d (ny j) (ny e)⟩,p,r,q,s⟩⟩
theorem Am{W:World}(b:laidMet prog Rows.namedRow.laid W): ∃a:Nat->Addr,cJ a W.heap.size W:=by obtain⟨n,c,_,d⟩:=b;obtain⟨o,e,f⟩:=qB c;obtain⟨p,g,h⟩:=qB e;obtain⟨q,i,j⟩:=qB g;exact ze i (fun k l m=>d k l (f _ (h _ (j _ m))))
end
section
open Go.RowKit Go.ChangeShapes Go.WideShapes Go.ChangeAt Go.ChangeMaps _root_.Go.Proofs.Tryz
theorem An{H:Type}{enc:TypeId×Value->H}{W:World}{g:Nat->Bool}{h:Bool}{n:Nat}{cs:List Value}{d:DataW H}{p:List MemPlace}(i:DataW.trod enc prog W 0 g h n 39 cs=some (d,p)): ∃(v:Value) (ts:List ByteArray),cs=[v]/\aS W v (aB ts)/\ts.length<=Rows.uptoBulk d/\ ∀t∈ts,t.size<=Rows.uptoBulk d:=by
 rcases open_strings underlying39 underlying9 y9 i with⟨rfl,hx⟩|⟨a,len,cap,ss,rfl,_,hl,hm,hz,hx,hcell,_⟩
 ·exact⟨_,[],rfl,⟨none,0,rfl,by unfold maxLen;simp,fun c=>by simp at c⟩,by simp,fun t b=>by cases b⟩
 ·have x:len<=ss.length:=by rw[hz];split<;>omega
  have b:(ss.take len).length=len:=by rw[JU];omega
  injection hx with j _;subst j;have y:=jc (H:=H) (strs (ss.take len)) (strs (ss.drop len));refine⟨_,ss.take len,rfl,⟨some a,cap,by rw[Jm,b],by rw[Jm,b];omega,fun c=>?_⟩,?_,fun t k=>?_⟩
  ·rw[Jm,b]at c;obtain⟨m,o,q⟩:=a;have e:=hcell 0 (by omega);have r:q=none:=by simpa [Addr.add]using LH e
   subst r;rw[fC]at e;refine⟨m,o,rfl,oM e,fun s f=>?_⟩;rw[Jm,b]at f;have:=hcell s (by omega);rw[fC]at this;rw[this,J7,Kh f,Jl (by omega),JC,Jl (by omega)];rfl
  ·have u:=nw (H:=H) (strs (ss.take len));have w:(strs (H:=H) (ss.take len)).length=(ss.take len).length:=by simp[strs]
   omega
  ·have u:=qA (H:=H) (d:=.lit (.string t.data.toList)) (l:=strs (ss.take len)) (KM.2 ⟨t,k,rfl⟩);have w:Rows.uptoBulk (H:=H) (.lit (.string t.data.toList))=t.size+1:=by simp[Rows.uptoBulk]
   omega
theorem Ec:(List.range prog.types.size).all (fun a=> !(prog.rowNamed a [101,114,114,111,114])||a==23)=true:=by kernel_rfl
theorem FX:(prog.cutTypes.find? (·.1== "internal/reflectlite.rtype")).map (·.2)=some 192:=by kernel_rfl
theorem FY:prog.globalNamed "errors.errorType"=some 10:=by kernel_rfl
theorem Ao:prog.globals.size=17:=by kernel_rfl
theorem Ck{W:World}(i:laidMetH prog Rows.plainsUptoRow.laid W):ij W:=by
 have g:=i.filter (fun e=>e.1== "errors.errorType")
 rw[show Rows.plainsUptoRow.laid.filter (fun e=>e.1== "errors.errorType")=[("errors.errorType",Rows.laid_errors_errorType)]from rfl]at g
 obtain⟨-,j⟩:laidMet prog [] W/\handlesMet prog [("errors.errorType",Rows.laid_errors_errorType)] W:=g
 obtain⟨c,d,b,k,l,m,n,a⟩: ∃c d b,Rows.laid_errors_errorType.handleName?=some c/\(prog.cutTypes.find? (·.1== "internal/reflectlite.rtype")).map (·.2)=some d/\b<prog.types.size/\prog.rowNamed b c=true/\W.var? prog "errors.errorType"=some #[.iface d (.agg #[typeHandle prog b])]:=j _ (JN.2 rfl);obtain rfl: [101,114,114,111,114]=c:=K8 k;obtain rfl:192=d:=K8 (FX.symm.trans l);have h:=LS.1 Ec b (Mt.2 m);rw[n]at h;obtain rfl:b=23:=by simpa using h
 unfold World.var? at a;rw[FY]at a;simp only[Option.bind_some]at a;unfold typeHandle at a;rw[Ao]at a;unfold ij
 cases f:W.heap[10]? with
 |none=>rw[f]at a;cases a
 |some o=>
  rw[f]at a
  cases o with
  |cells p q r=>obtain rfl:p= #[.iface 192 (.agg #[.pointer (some ⟨17,23,none⟩)])]:=K8 a;unfold World.cell?;simp only;rw[f];rfl
  |_=>cases a
end
end Go.Proofs.YtfkeddkfegaeiaaGreatDoor
