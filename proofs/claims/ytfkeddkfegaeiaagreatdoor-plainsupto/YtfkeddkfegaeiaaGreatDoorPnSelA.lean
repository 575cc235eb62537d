import Derived.Test.YtfkeddkfegaeiaaGreatDoorPnWinB
set_option maxRecDepth 100000
set_option maxHeartbeats 20000000
namespace Go.Proofs.YtfkeddkfegaeiaaGreatDoor
section
open Go.RowKit Tryz
theorem nC{P:Program}{p:Array Oper}{o:Oper}{a:Act}{w:World}{q:Act->World->Prop}{v:Exit->Act->World->Prop}{y:Prop}
  (z:o.guard=none) (s x:Operand) (t:TypeId) (A:o.op=Op.call {callee:=Callee.builtin Builtin.append,args:= #[s,x],argTypes:= #[t,t]})
  (h:Nat) (c:TypeId) (d:TypeInfo) (l:Value) (size bytes:Nat) (B:P.underlying t=some (.slice c)) (C:P.info? c=some d) (D:d.zero=some l) (E:d.size=size) (F:d.bytes=bytes) (G:l.cells.size=size) (H:0<size)
  (i:Value) (e:Nat) (m:List Value) (I:a.eval s=i) (J:w.ownsRow h c size i e m)
  (n:Addr) (b r:Nat) (f:List Value) (K:a.eval x=.slice (some n) b r) (L:f.length=b*size) (M: ∀u j,f[u]? =some j->w.cell? (n.add u)=some j) (N: ∀j∈f,j.oneCell'=true)
  (O:e+b<=maxLen) (Q:(e+b)*bytes<=140737488355328) (R:h<=w.heap.size)
  (S: ∀k g,g.ownsRow h c size k (e+b) (m++f)->w.grownBy g i.ownBlock->q (a.put o.dst k) g):
  if Region.wanted o (yielded p a.tmps)=true then Oper.wp P o a w q v else y:=by
 have T:Region.wanted o (yielded p a.tmps)=true:=by simp[Region.wanted,z]
 rw[Jo T];obtain⟨k,g,V,W,X,_⟩:=run_append_own (P:=P) w h t o.type c d l size bytes B C D E F G H i e m J n b r f L M N O Q R;unfold Oper.wp;simp[execOp,A,resolve,invoke,builtin,I,K,V,Result.andThen];exact S k g W X
theorem Hr:(prog.info? 263).map (fun i=>(i.zero,i.size,i.bytes))=some (some (.agg #[.int .i64 0,.nilIface,.string ⟨#[]⟩,.nilIface]),4,56):=by kernel_rfl
theorem F6{p:Int}{x a:Value}{s:ByteArray}(c:jQ x)(d:jQ a): ∀u∈ [Value.int .i64 p,x,.string s,a],u.oneCell'=true:=by
 intro u b;simp only[JG,JO,Kg]at b;rcases b with rfl|rfl|rfl|rfl
 ·rfl
 ·exact c.one
 ·rfl
 ·exact d.one
structure dP where
 place:Nat
 items:List bH
 srcs:List (Tk×Tk)
 tests:List cn
def eU(ts:List Tk):Nat->List cn->St->List cn×St
 |0,l,st=>(l,st)
 |f+1,l,st=>if az ts st [⟨#[97,110,100]⟩]then eU ts f (l++[(eE ts (aD st)).1]) (eE ts (aD st)).2 else(l,st)
def ey(ts:List Tk)(st:St):List cn×St:=if az ts st [⟨#[119,104,101,114,101]⟩]then eU ts ts.length [(eE ts (aD st)).1] (eE ts (aD st)).2 else([],st)
def jf(ts:List Tk)(st:St):List bH×St:=dE ts (em ts) 6 (aH ts st [⟨#[115,101,108,101,99,116]⟩])
def jK(ts:List Tk)(st:St):List (Tk×Tk)×St:=dE ts (dH ts) 3 (aH ts st [⟨#[102,114,111,109]⟩])
def fJ(ts:List Tk)(st:St):dP×St:=
 (⟨(ah ts st.nx).place,(jf ts st).1,(jK ts (jf ts st).2).1,(ey ts (jK ts (jf ts st).2).2).1⟩,(ey ts (jK ts (jf ts st).2).2).2)
theorem qE{ts:List Tk}(b:cO ts): ∀(f:Nat) (l:List cn) (st:St),st.nx<ts.length->cG ts st (eU ts f l st).2
 |0,_,st,a=>cG.refl a
 |f+1,l,st,a=>by
  unfold eU;split
  ·rename_i e
   have c:=bB b a (aW e);have d:=jJ b _ c.lt;exact c.trans (d.trans (qE b f _ _ d.lt))
  ·exact cG.refl a
theorem nD{ts:List Tk}(a:cO ts){st:St}(b:st.nx<ts.length):cG ts st (ey ts st).2:=by
 unfold ey;split
 ·rename_i e
  have c:=bB a b (aW e);have d:=jJ a _ c.lt;exact c.trans (d.trans (qE a _ _ _ d.lt))
 ·exact cG.refl b
theorem rR{ts:List Tk}(a:cO ts){st:St}(c:st.nx<ts.length):cG ts st (jf ts st).2:=by have b:=aM a c [⟨#[115,101,108,101,99,116]⟩];exact b.trans (iG a (iH a) 6 _ b.lt)
theorem rS{ts:List Tk}(a:cO ts){st:St}(c:st.nx<ts.length):cG ts st (jK ts st).2:=by have b:=aM a c [⟨#[102,114,111,109]⟩];exact b.trans (iG a (iV a) 3 _ b.lt)
theorem gz{ts:List Tk}(a:cO ts){st:St}(d:st.nx<ts.length):cG ts st (fJ ts st).2:=by have b:=rR a d;have c:=rS a b.lt;exact b.trans (c.trans (nD a c.lt))
def du(us:List (cn×Value×Value)):List Value:=us.flatMap fun a=>[.int .i64 a.1.place,a.2.1,.string a.1.sg,a.2.2]
theorem xx(us:List (cn×Value×Value))(u:cn×Value×Value):du us++[.int .i64 u.1.place,u.2.1,.string u.1.sg,u.2.2]=du (us++[u]):=by simp[du]
theorem bC.refine{w:World}{P d:Nat->Prop}(a: ∀(k:Nat) (cs:Array Value) (t:TypeId),P k->w.heap[k]? =some (.cells cs t (0,0))->cs.size<=5->d k): ∀(n:Nat) (v:Value) (l:List Nd),bC w P n v l->bC w d n v l
 |0,_,_,c=>c
 |n+1,v,l,c=>by
  rcases c with⟨b,t,h1,h0,h2,h3⟩|⟨b,p,x,k,h1,h0,h2,h3,h4⟩|⟨b,t,u,h1,h0,h2,h3⟩|⟨b,p,x,k,h1,h0,h2,h3,h4⟩|⟨b,p,x,sg,y,k,m,h1,h0,h2,h3,h4,h5⟩
  ·exact Or.inl ⟨b,t,h1,a _ _ _ h0 h2 (by simp),h2,h3⟩
  ·exact Or.inr (Or.inl ⟨b,p,x,k,h1,a _ _ _ h0 h2 (by simp),h2,bC.refine a n x k h3,h4⟩)
  ·exact Or.inr (Or.inr (Or.inl ⟨b,t,u,h1,a _ _ _ h0 h2 (by simp),h2,h3⟩))
  ·exact Or.inr (Or.inr (Or.inr (Or.inl ⟨b,p,x,k,h1,a _ _ _ h0 h2 (by simp),h2,bC.refine a n x k h3,h4⟩)))
  ·exact Or.inr (Or.inr (Or.inr (Or.inr ⟨b,p,x,sg,y,k,m,h1,a _ _ _ h0 h2 (by simp),h2,bC.refine a n x k h3,bC.refine a n y m h4,h5⟩)))
theorem bC.refineT{w:World}{P d:Nat->Prop}(a: ∀(k:Nat) (cs:Array Value) (t:TypeId),P k->w.heap[k]? =some (.cells cs t (0,0))->ki t=true->d k): ∀(n:Nat) (v:Value) (l:List Nd),bC w P n v l->bC w d n v l
 |0,_,_,c=>c
 |n+1,v,l,c=>by
  rcases c with⟨b,t,h1,h0,h2,h3⟩|⟨b,p,x,k,h1,h0,h2,h3,h4⟩|⟨b,t,u,h1,h0,h2,h3⟩|⟨b,p,x,k,h1,h0,h2,h3,h4⟩|⟨b,p,x,sg,y,k,m,h1,h0,h2,h3,h4,h5⟩
  ·exact Or.inl ⟨b,t,h1,a _ _ _ h0 h2 rfl,h2,h3⟩
  ·exact Or.inr (Or.inl ⟨b,p,x,k,h1,a _ _ _ h0 h2 rfl,h2,bC.refineT a n x k h3,h4⟩)
  ·exact Or.inr (Or.inr (Or.inl ⟨b,t,u,h1,a _ _ _ h0 h2 rfl,h2,h3⟩))
  ·exact Or.inr (Or.inr (Or.inr (Or.inl ⟨b,p,x,k,h1,a _ _ _ h0 h2 rfl,h2,bC.refineT a n x k h3,h4⟩)))
  ·exact Or.inr (Or.inr (Or.inr (Or.inr ⟨b,p,x,sg,y,k,m,h1,a _ _ _ h0 h2 rfl,h2,bC.refineT a n x k h3,bC.refineT a n y m h4,h5⟩)))
theorem jG.refine{w:World}{P a:Nat->Prop}{v:Value}{l:List Nd}(b:jG w P v l)(c: ∀(k:Nat) (cs:Array Value) (t:TypeId),P k->w.heap[k]? =some (.cells cs t (0,0))->cs.size<=5->a k):jG w a v l:=let⟨n,hn⟩:=b;⟨n,bC.refine c n v l hn⟩
def kA(lo:Nat)(a:Value)(k:Nat):Prop:=lo<=k/\some k≠a.ownBlock
def pS(w:World)(lo:Nat)(b:Value)(us:List (cn×Value×Value)):Prop:= ∀a∈us,jG w (kA lo b) a.2.1 a.1.l/\jG w (kA lo b) a.2.2 a.1.r
theorem pS.keep{w w':World}{lo:Nat}{b:Value}{us:List (cn×Value×Value)}(a:pS w lo b us)(c: ∀(k:Nat) (cs:Array Value) (t:TypeId),kA lo b k->w.heap[k]? =some (.cells cs t (0,0))->ki t=true->w'.heap[k]? =w.heap[k]?):pS w' lo b us:=fun d e=>⟨(a d e).1.keep (fun _ a=>a) c,(a d e).2.keep (fun _ a=>a) c⟩
def mQ(t:TypeId):Bool:=dL t||t==251||t==260||t==240
theorem aw.win{lo:Nat}{w w':World}(a:aw mQ lo w w'):aw dL lo w w':=a.mono (fun c b=>by unfold mQ;rw[b];rfl) (Ji _)
def kB(w:World)(lo:Nat)(v:Value)(x:dP):Prop:= ∃d f g e a b,v=.pointer (some ⟨d,0,none⟩)/\lo<=d/\w.heap[d]? =some (.cells #[.int .i64 x.place,f,g,e] 256 (0,0))/\
 (w.ownsRow lo 251 5 f a.length (dI a)/\a.map (·.1)=x.items/\ ∀c∈a,pz w lo c.2.1 (.pointer c.2.2) c.1.win c.1.val)/\
 w.ownsRow lo 260 5 g x.srcs.length (dO x.srcs)/\
 (w.ownsRow lo 263 4 e b.length (du b)/\b.map (·.1)=x.tests/\pS w lo e b)
def lV(c:Cx)(b n:Nat)(w w':World):Prop:= ∀a,a<n->a≠c.rb->a≠b->w'.heap[a]? =w.heap[a]?
theorem lV.kp{c:Cx}{a n:Nat}{w W W':World}(e:lV c a n w W)(f:Kp c.rb W W')(hn:n<=W.heap.size):lV c a n w W':=fun b g d h=>(f.block b (by omega) d).trans (e b g d h)
theorem lV.grown{c:Cx}{b n:Nat}{w W W':World}{e:TypeId}{size m:Nat}{v:Value}{xs:List Value}(d:lV c b n w W)(f:W.ownsRow n e size v m xs)(g:W.grownBy W' v.ownBlock)(hn:n<=W.heap.size):lV c b n w W':=fun a h i j=>(g.block a (by omega) (fun k=>by have:=(f.lt a k.symm).1;omega)).trans (d a h i j)
theorem lV.set{c:Cx}{a n i:Nat}{w W:World}{u:Value}(d:lV c a n w W):lV c a n w (W.setCell ⟨a,i,none⟩ u):=fun e f g b=>(Jp _ _ _ _ b).trans (d e f g b)
theorem wp{w:World}{c:Nat}{e:TypeId}{size:Nat}{v:Value}{n g:Nat}{xs:List Value}(d:w.ownsRow c e size v n xs)(b:v.ownBlock=some g): ∃a,w.heap[g]? =some (.cells a e (0,0))/\n*size<=a.size:=by
 rcases d.2 with⟨rfl,_⟩|⟨g',cap,a,rfl,_,hh,hn,_,hc,_⟩
 ·cases b
 ·have:g'=g:=by simpa [Value.ownBlock]using b
  subst this;exact⟨a,hh,by rw[hc];exact LX _ hn⟩
theorem Be{c:Cx}{w r W j k:World}{d:Nat}{n v' x s:Value}{us:List (cn×Value×Value)}{t:cn}{L:St}{M:Value}{B:ByteArray}{p:Nat}
  (N:RS c W L M) (u: ∃cs,W.heap[d]? =some (.cells cs 256 (0,0))) (ae:w.heap.size<=r.heap.size) (aj:r.heap.size<=W.heap.size)
  (O:W.ownsRow r.heap.size 263 4 n us.length (du us)) (C:pS W w.heap.size n us)
  (D:Kp c.rb W j) (P:eD j W.heap.size x t.l) (Q:eD j W.heap.size s t.r)
  (R:k.ownsRow r.heap.size 263 4 v' (us.length+1) (du us++[.int .i64 p,x,.string B,s]))
  (S:(j.alloc (.cells #[.int .i64 p,x,.string B,s] 263)).grownBy k n.ownBlock)
  (T:us=[]-> ∀g,v'.ownBlock=some g->j.heap.size<=g):
  pS (k.setCell ⟨d,3,none⟩ v') w.heap.size v' (us++[(t,x,s)]):=by
 obtain⟨ak,u⟩:=u;have al:=aa u;have an:=D.size;have step: ∀(a:Nat) (cs:Array Value) (tt:TypeId),some a≠n.ownBlock->a≠d->j.heap[a]? =some (.cells cs tt (0,0))->(k.setCell ⟨d,3,none⟩ v').heap[a]? =j.heap[a]? :=fun a cs tt e q V=>by have b:=aa V;rw[Jp _ _ _ _ q,S.block a (by simp;omega) e,J9 _ _ _ b]
 have X: ∀(a:Nat) (cs:Array Value) (tt:TypeId),W.heap[a]? =some (.cells cs tt (0,0))->ki tt=true->a≠d:=fun a cs tt e q f=>by subst f;rw[u]at e;cases e;cases q
 have Y: ∀(a:Nat) (cs:Array Value) (tt:TypeId),W.heap[a]? =some (.cells cs tt (0,0))->ki tt=true->a≠c.rb:=fun a cs tt e q f=>by subst f;rw[N.reader]at e;cases e;cases q
 have E:us≠ []-> ∀(a:Nat) (cs:Array Value) (tt:TypeId),a≠d->(k.setCell ⟨d,3,none⟩ v').heap[a]? =some (.cells cs tt (0,0))->cs.size<=5->some a≠v'.ownBlock:=fun o a cs tt Z b v f=>by
  obtain⟨ao,ac,F⟩:=wp R f.symm;rw[Jp _ _ _ _ Z,ac]at b;cases b;have:0<us.length:=by cases us with|nil=>exact absurd rfl o|cons _ _=>simp
  omega
 intro G m;rcases JW.1 m with m|m
 ·have o:us≠ []:=fun f=>by rw[f]at m;cases m
  have H: ∀ {h:Value} {i:List Nd},jG W (kA w.heap.size n) h i->jG (k.setCell ⟨d,3,none⟩ v') (kA w.heap.size v') h i:=fun{h i} z=>by
   have e:jG (k.setCell ⟨d,3,none⟩ v') (fun a=>kA w.heap.size n a/\a≠d) h i:=by
    have ad:jG W (fun a=>kA w.heap.size n a/\a≠d) h i:=by obtain⟨I,F⟩:=z;exact⟨I,bC.refineT (fun a cs tt l b y=>⟨l,X a cs tt b y⟩) I h i F⟩
    refine ad.keep (fun _ A=>A) (fun a cs tt l b y=>?_);have J:j.heap[a]? =W.heap[a]? :=D.block a (aa b) (Y a cs tt b y);exact(step a cs tt l.1.2 l.2 (J.trans b)).trans J
   exact e.refine (fun a cs tt l b v=>⟨l.1.1,E o a cs tt l.2 b v⟩)
  exact⟨H (C G m).1,H (C G m).2⟩
 ·rw[JN.1 m]
  have K: ∀ {h:Value} {i:List Nd},eD j W.heap.size h i->jG (k.setCell ⟨d,3,none⟩ v') (kA w.heap.size v') h i:=fun{h i} z=>by
   have e:jG (k.setCell ⟨d,3,none⟩ v') (fun a=>W.heap.size<=a/\a<j.heap.size) h i:=by refine z.bound.keep (fun _ A=>A) (fun a cs tt l b y=>?_);refine step a cs tt (fun f=>?_) (by omega) b;have:=(O.lt a f.symm).2;omega
   refine e.refine (fun a cs tt l b v=>⟨by omega,?_⟩);by_cases o:us=[]
   ·intro f;have:=T o a f.symm;omega
   ·exact E o a cs tt (by omega) b v
  exact⟨K P,K Q⟩
structure SS(c:Cx)(w:World)(bs:Nat)(W:World)(st:St)(ev:Value)(p:Nat)(vi vs vt:Value):Prop where
 rs:RS c W st ev
 kp:Kp c.rb w W
 box:W.heap[bs]? =some (.cells #[.int .i64 p,vi,vs,vt] 256 (0,0))
 old:c.rb<w.heap.size/\c.tb<w.heap.size/\c.B<=w.heap.size/\w.heap.size<=bs
theorem SS.step{c:Cx}{w:World}{b:Nat}{W W':World}{st st':St}{i d:Value}{p:Nat}{e f g:Value}(a:SS c w b W st i p e f g)(j:RS c W' st' d)(h:Kp c.rb W W'):SS c w b W' st' d p e f g:=
 ⟨j,a.kp.trans h,(h.block _ (aa a.box) (by have:=a.old;omega)).trans a.box,a.old⟩
theorem SS.set{c:Cx}{w:World}{b:Nat}{W:World}{st:St}{d:Value}{p i:Nat}{e f g vi' vs' h u:Value}(a:SS c w b W st d p e f g)
  (j: #[.int .i64 p,e,f,g].setIfInBounds i u= #[.int .i64 p,vi',vs',h]):SS c w b (W.setCell ⟨b,i,none⟩ u) st d p vi' vs' h:=by
 have k:=a.old;refine⟨a.rs.kpb ((Kp.refl _ _).setCell _ _) (by omega) (by omega) (by omega) (fun p l=>by rw[a.box];simp),a.kp.setNew (by show w.heap.size<=b;omega) _,?_,a.old⟩;rw[am a.box,j]
theorem SS.setKeeps{c:Cx}{w:World}{a lo:Nat}{W:World}{st:St}{b:Value}{p i:Nat}{d f g u:Value}(h:SS c w a W st b p d f g):aw mQ lo W (W.setCell ⟨a,i,none⟩ u):=
 aw.ofKp ((Kp.refl a W).setCell i u) (Or.inr fun cs t e=>by rw[h.box]at e;cases e;rfl)
theorem SS.keeps{c:Cx}{w:World}{a lo:Nat}{W W':World}{st:St}{b:Value}{p:Nat}{d e f:Value}(g:SS c w a W st b p d e f)(h:Kp c.rb W W'):aw mQ lo W W':=g.rs.keeps h rfl
theorem SS.lo{c:Cx}{w:World}{a:Nat}{W:World}{st:St}{b:Value}{p:Nat}{d e f:Value}(g:SS c w a W st b p d e f):w.heap.size<=W.heap.size:=g.kp.size
theorem SS.drew{c:Cx}{w:World}{b:Nat}{W:World}{st:St}{d:Value}{p:Nat}{e f g:Value}(a:SS c w b W st d p e f g):SS c w b W.drew st d p e f g:=⟨a.rs.drew,a.kp.drew,a.box,a.old⟩
structure SR(c:Cx)(w w8:World)(bs:Nat)(W:World)(st:St)(ev:Value)(p:Nat)(vi vs vt:Value)(us:List (cn×Value×Value))(f:Nat)(R:List cn×St):Prop where
 ss:SS c w bs W st ev p vi vs vt
 old:lV c bs w8.heap.size w8 W
 size:w8.heap.size<=W.heap.size
 row:W.ownsRow w8.heap.size 263 4 vt us.length (du us)
 ok:st.er=none->pS W w.heap.size vt us
 pos:0<us.length
 few:us.length<=st.nx+1
 eq:R=eU c.ts f (us.map (·.1)) st
 fuel:c.ts.length<=f+st.nx
 dp:st.dp=0
theorem Aw{c:Cx}{w b W d e:World}{a:Nat}{o q h v' x j:Value}{us:List (cn×Value×Value)}{X:cn×St}{i:St}{C r:Value}{p f:Nat}{R:List cn×St}(D:cO c.ts)
  (l:SS c w a W i C p o q h) (u:w.heap.size<=b.heap.size) (E:lV c a b.heap.size b W) (v:b.heap.size<=W.heap.size)
  (y:W.ownsRow b.heap.size 263 4 h us.length (du us)) (F:i.er=none->pS W w.heap.size h us)
  (G:X=eE c.ts i) (z:RS c d X.2 r) (m:Kp c.rb W d) (hex:X.2.er=none->eD d W.heap.size x X.1.l/\eD d W.heap.size j X.1.r)
  (A:e.ownsRow b.heap.size 263 4 v' (us.length+1) (du us++[.int .i64 X.1.place,x,.string X.1.sg,j]))
  (k:(d.alloc (.cells #[.int .i64 X.1.place,x,.string X.1.sg,j] 263)).grownBy e h.ownBlock)
  (H:us=[]-> ∀g,v'.ownBlock=some g->d.heap.size<=g)
  (Z:us.length<=i.nx) (I:R=eU c.ts f (us.map (·.1)++[X.1]) X.2) (ac:c.ts.length<=f+i.nx) (J:i.dp=0) (K:a<b.heap.size):
  SR c w b a (e.setCell ⟨a,3,none⟩ v') X.2 r p o q v' (us++[(X.1,x,j)]) f R:=by
 have n:=jJ D i l.rs.nx;rw[<-G]at n;have L:=l.old;have B:=l.step z m;have M:d.ownsRow b.heap.size 263 4 h us.length (du us):=bf y m (by omega);have s:=M.alloc (.cells #[.int .i64 X.1.place,x,.string X.1.sg,j] 263);have ad:=m.size;have N:RS c e X.2 r:=(z.alloc _).grown s k (by decide) (by omega) (by omega) (by omega);have O:Kp c.rb w e:=Kp.grown (B.kp.alloc _) s k u;have P:=k.size;have Q:e.heap[a]? =some (.cells #[.int .i64 p,o,q,h] 256 (0,0)):=by rw[k.block a (by simp;omega) (fun T=>by have:=(s.lt a T.symm).1;omega)];exact ai B.box
 have V:SS c w a e X.2 r p o q h:=⟨N,O,Q,L⟩
 have ae:W.heap.size<=e.heap.size:=by simp at P;omega
 refine⟨V.set rfl,?_,by simp[World.setCell];omega,?_,fun t=>?_,by simp,?_,?_,?_,n.dp.trans J⟩
 ·exact((((E.kp m v).kp (W':=d.alloc (.cells #[.int .i64 X.1.place,x,.string X.1.sg,j] 263)) ((Kp.refl c.rb d).alloc _) (by omega)).grown s k (by simp;omega))).set
 ·rw[<-xx,Jk];exact bm (S:=fun Y=>Y==263) A (aw.ofKp ((Kp.refl a e).setCell 3 v') (Or.inl K)) rfl
 ·exact Be l.rs ⟨_,l.box⟩ u v y (F (n.er t)) m (hex t).1 (hex t).2 A k H
 ·have:=n.nx;rw[Jk];simp;omega
 ·rw[I,Ks];rfl
 ·have:=n.nx;omega
def sG(w:World)(lo:Nat)(v:Value)(l:List bH):Prop:= ∃a,w.ownsRow lo 251 5 v a.length (dI a)/\a.map (·.1)=l/\ ∀b∈a,pz w lo b.2.1 (.pointer b.2.2) b.1.win b.1.val
theorem sG.keep{w w':World}{lo a:Nat}{v:Value}{l:List bH}(d:sG w lo v l)(b:a<=lo)(c:aw mQ lo w w'):sG w' a v l:=by obtain⟨e,f,g,h⟩:=d;exact⟨e,dN (bm f c rfl) b,g,fun i j=>(h i j).keep b c.win⟩
theorem jv(c:Cx)(w:World)(st:St)(ak:Value)(X:dP×St)(H:RS c w st ak)(bs:st.dp=0)(cv:Hid (X=fJ c.ts st)):
  Calls prog 98 #[.pointer (some ⟨c.rb,0,none⟩)] w fun e w'=> ∃b,e=.returned (.pointer (some ⟨b,0,none⟩))/\w.heap.size<=b/\eO c w X.2 w'/\(X.2.er=none->kB w' w.heap.size (.pointer (some ⟨b,0,none⟩)) X.1):=by
 have s:=ab H.last
 have O:c.rb<w.heap.size/\c.tb<w.heap.size/\c.B<=w.heap.size:=⟨aa H.reader,by obtain⟨ep,aR,_⟩:=H.tokens;exact aa aR,H.env.size⟩
 obtain⟨aT,al⟩:=ag O H;clear H O;have eq:=ec;go_enter func98,ntmps98;go_wp2_with fail;refine(cX c _ st ak (by exact al)).mono ?_;rintro e an ⟨rfl,o⟩;have aU:=ab o;clear o;generalize bt:(ah c.ts st.nx).place=x at*;have cz:=ab bt;clear bt
 go_upto_region 2 with(fail)
 have bu:SS c w an.heap.size (an.alloc (.cells #[.int .i64 x,.slice none 0 0,.slice none 0 0,.slice none 0 0] 256)) st ak x (.slice none 0 0) (.slice none 0 0) (.slice none 0 0):=
  ⟨(al.keep aU).alloc _,(Kp.ofBelow aU).alloc _,af rfl,aT.1,aT.2.1,aT.2.2,aU.size⟩
 have aV:=ab bu;clear bu;generalize an.alloc (.cells #[.int .i64 x,.slice none 0 0,.slice none 0 0,.slice none 0 0] 256)=bv at*;generalize an.heap.size=h at*;go_wp2_with fail;refine(dv c _ st ak bv.heap.size [⟨#[115,101,108,101,99,116]⟩] (by exact aV.rs.alloc _) (by exact bo rfl (fun a0 a1=>by match a0,a1 with|0,_=>rfl)) (by simp) (dt (by decide))).mono ?_;rintro e cF ⟨rfl,⟨cI,f⟩,a⟩;obtain⟨ao,cL⟩:=ag (aV.step f (((Kp.refl c.rb bv).alloc _).trans a)) (aM s al.nx [⟨#[115,101,108,101,99,116]⟩]);clear f a aV;have bx:(aH c.ts st [⟨#[115,101,108,101,99,116]⟩]).dp=0:=cL.dp.trans bs;go_wp2_with fail;refine(CA c _ _ cI 6 _ (by exact ao.rs) bx (by decide) rfl).mono ?_;rintro e a2 ⟨er,t,rfl,B,bz,ap,⟨⟨bA,f⟩,a⟩,bF⟩;obtain⟨y,z,cN⟩:=dy B ap;subst cN;have bG:=ab (ao.step f a);have bJ:Hid ((jf c.ts st).2.er=none->sG a2 w.heap.size (.slice (some ⟨y,0,none⟩) t.length z) (jf c.ts st).1):=fun j=>sG.keep (lo:=cF.heap.size) ⟨t,B,bz,bF j⟩ ao.lo (aw.ofBelow (Jj _ _));have cR:=ab (rR s al.nx);clear f a B bz bF bx;generalize a3:jf c.ts st=p at*;have P:Hid (SS c w h a2 p.2 bA x (.slice none 0 0) (.slice none 0 0) (.slice none 0 0)):=by rw[<-a3];exact bG
 have cT:=ab a3;clear a3 bG ao;obtain⟨cV,f4⟩:=blk (U P).box;have cW:=aa (U P).box
 go_upto_region 4 with(fail)
 obtain⟨I,cZ⟩:=ag ((U P).set (i:=1) (u:=.slice (some ⟨y,0,none⟩) t.length z) (vi':=.slice (some ⟨y,0,none⟩) t.length z) rfl) (fun j=>(bJ j).keep (Ji _) ((U P).setKeeps (i:=1) (u:=.slice (some ⟨y,0,none⟩) t.length z)));clear cV f4 cW bJ P;generalize a2.setCell ⟨h,1,none⟩ (.slice (some ⟨y,0,none⟩) t.length z)=a4 at*;go_wp2_with fail;refine(dv c _ p.2 bA a4.heap.size [⟨#[102,114,111,109]⟩] (by exact I.rs.alloc _) (by exact bo rfl (fun a0 a1=>by match a0,a1 with|0,_=>rfl)) (by simp) (dt (by decide))).mono ?_;rintro e es ⟨rfl,⟨c0,f⟩,a⟩;obtain⟨Q,et,c1⟩:=aC (I.step f (((Kp.refl c.rb a4).alloc _).trans a)) (aM s I.rs.nx [⟨#[102,114,111,109]⟩]) (fun j=>(cZ j).keep (Ji _) (I.keeps (((Kp.refl c.rb a4).alloc _).trans a)));clear f a;go_wp2_with fail;refine(zH c _ _ c0 3 _ (by exact Q.rs) (by decide) rfl).mono ?_;rintro e R ⟨ev,rfl,B,ap,⟨ar,f⟩,a⟩;obtain⟨C,D,c2⟩:=dy B ap;subst c2;have au:Hid (SS c w h R (jK c.ts p.2).2 ar x (.slice (some ⟨y,0,none⟩) t.length z) (.slice none 0 0) (.slice none 0 0)):=Q.step f a;have c3:Hid (R.ownsRow w.heap.size 260 5 (.slice (some ⟨C,0,none⟩) (jK c.ts p.2).1.length D) (jK c.ts p.2).1.length (dO (jK c.ts p.2).1)):=dN B Q.lo;obtain⟨c4,a5⟩:=ag (fun j=>(c1 j).keep (Ji _) (Q.keeps a)) (rS s I.rs.nx);rw[show(dE c.ts (dH c.ts) 3 (aH c.ts p.2 [⟨#[102,114,111,109]⟩]))=jK c.ts p.2 from rfl];clear f a B ap;generalize bL:jK c.ts p.2=g at*;have c5:=ab bL;clear bL Q I;obtain⟨c6,f7⟩:=blk au.box;have c7:=aa au.box
 go_upto_region 6 with(fail)
 have k:=ab (au.set (i:=2) (u:=.slice (some ⟨C,0,none⟩) g.1.length D) (vs':=.slice (some ⟨C,0,none⟩) g.1.length D) rfl);have bN:Hid (aw mQ w.heap.size R (R.setCell ⟨h,2,none⟩ (.slice (some ⟨C,0,none⟩) g.1.length D))):=au.setKeeps;obtain⟨bS,bX⟩:=ag (fun j=>(c4 j).keep (Ji _) bN) (bm c3 bN rfl);clear c6 f7 c7;generalize R.setCell ⟨h,2,none⟩ (.slice (some ⟨C,0,none⟩) g.1.length D)=m at*;have b0:Hid (X=(⟨x,p.1,g.1,(ey c.ts g.2).1⟩,(ey c.ts g.2).2)):=by rw[U cv];unfold Hid fJ;rw[U cz,cT,U c5]
 cases q:az c.ts g.2 [⟨#[119,104,101,114,101]⟩]with
 |false=>
  have S:Hid (ey c.ts g.2=([],g.2)):=by unfold Hid ey;rw[q];rfl
  have T:=ab q;clear q;go_wp2_with fail;refine(eF c _ g.2 ar ⟨#[119,104,101,114,101]⟩ (by exact k.rs) (by exact T)).mono ?_;rintro e b1 ⟨rfl,o⟩;have n:=ab (k.step (k.rs.keep o) (Kp.ofBelow o));have b2:Hid (aw mQ w.heap.size m b1):=aw.ofBelow o;clear o;go_wp2;go_ret;rw[U b0,U S];refine⟨h,rfl,n.old.2.2.2,⟨⟨ar,n.rs⟩,n.kp⟩,fun j=>?_⟩;obtain⟨a9,a',ba,bb⟩:=(bS (a5.er j)).keep (Ji _) b2;exact⟨h,_,_,_,a9,[],rfl,n.old.2.2.2,n.box,⟨a',ba,bb⟩,bm bX b2 rfl,JF _ _ _ _,rfl,fun u bc=>by cases bc⟩
 |true=>
  have T:=ab q;clear q;go_wp2_with fail;refine(fu c _ g.2 ar ⟨#[119,104,101,114,101]⟩ (by exact k.rs) (by rw[JA];rfl) (by exact T)).mono ?_;rintro e b1 ⟨rfl,⟨c8,f⟩,a⟩;obtain⟨n,be,c9⟩:=aC (k.step f a) a (bB s k.rs.nx (aW T));clear f a;obtain⟨b3,b4,b5⟩:=Jq.1 Hr;simp only[JB]at b5;obtain⟨b6,b7,b9⟩:=b5;obtain⟨b',ca,cb,cc⟩:=aP b4 b6 b7 b9;clear b4 b6 b7 b9;have cd:(aD g.2).dp=0:=c9.dp.trans (a5.dp.trans (cR.dp.trans bs));have ce:h<m.heap.size:=aa k.box;have cf:h≠c.rb:=by have:=k.old;omega
  obtain⟨av,S⟩: ∃av,Hid (av=ey c.ts g.2):=⟨_,rfl⟩
  go_upto_region 7 with(fail)
  go_cut []from 31 to 41 (fun c'=> ∃J V us cg,SR c w m h c' cg J x (.slice (some ⟨y,0,none⟩) t.length z) (.slice (some ⟨C,0,none⟩) g.1.length D) V us c.ts.length av)
  case first=>
   obtain⟨dd,f9⟩:=blk n.box;have df:=aa n.box
   obtain⟨l,E⟩: ∃l,Hid (l=eE c.ts (aD g.2)):=⟨_,rfl⟩
   go_region_law (first
    |(refine nC rfl (.tmp 35) (.tmp 38) 254 rfl (K.heap.size+1) 263 b3 (.agg #[.int .i64 0,.nilIface,.string ⟨#[]⟩,.nilIface]) 4 56 underlying254 b' ca cb cc rfl (by decide) (.slice none 0 0) 0 [] (by simp[Act.eval]) (JF _ _ _ _) ⟨K.heap.size,0,none⟩ 1 1 [.int .i64 l.1.place,W,.string l.1.sg,Y] (by simp[Act.eval]) rfl (cQ rfl) (F6 bg bk) (by unfold maxLen;omega) (by omega) (by simp) ?_;intro dk dp F v;obtain⟨ax,ay,Z⟩:=dy F (by omega);subst Z;have bl:=ab ((v.block h (by simp;omega) (by simp[Value.ownBlock])).trans (ai G));obtain⟨dq,f11⟩:=blk bl;have aA:=ab F;have bn:=ab v;clear F v)
    |(go_simp;go_at_call 155;refine(xu c _ (aD g.2) c8 l (by exact n.rs.drew) cd E).mono ?_;rintro e K ⟨W,Y,rfl,ac,ad,⟨⟨J,f⟩,a⟩,hex⟩;have G:=ab ((a.block h (by simp;omega) cf).trans (by exact n.box));obtain⟨ds,f10⟩:=blk G;have dw:=aa G;have bg:=ab ac;have bk:=ab ad;have bq:=ab f;have aI:=ab a;have br:=ab hex;clear f a hex ac ad))
   all_goals
    go_wp2_with fail;go_meet
    case rel=>
     refine⟨J,.slice (some ⟨ax,0,none⟩) 1 ay,[(l.1,W,Y)],l.2,?_⟩;refine Aw (us:=[]) s n.drew k.kp.size ((show lV c h m.heap.size m m from fun _ _ _ _=>rfl).kp be.drew (Ji _)) be.size (JF _ _ _ _) (fun _ u bc=>by cases bc) E bq aI br (dN aA (Jt be.size (Jt aI.size (KN _)))) bn (fun _ dT v=>?_) (KO _) ?_ (by omega) cd ce
     ·have:=(aA.lt dT v).1;omega
     ·rw[U S];unfold ey;rw[U T,<-U E];rfl
  case rest=>
   obtain⟨J,ex,ez,cg,ch⟩:=hcut;have ci:=ab ch;clear ch;go_wp2_with fail
   go_loopg [] c.ts.length (fun d' wr=> ∃ae V us r,SR c w m h wr r ae x (.slice (some ⟨y,0,none⟩) t.length z) (.slice (some ⟨C,0,none⟩) g.1.length D) V us d' av)
   case atStart=>exact⟨_,_,_,_,ci⟩
   case round=>
    obtain⟨ae,V,us,r,hrel⟩:=hrel;have d:=ab hrel;clear hrel ci
    match gk,d with
    |0,d=>exact absurd d.fuel (by have:=d.ss.rs.nx;omega)
    |gk+1,d=>
    cases q:az c.ts r [⟨#[97,110,100]⟩]with
    |false=>
     have L:=ab q;clear q;go_wp2_with fail;refine(eF c _ r ae ⟨#[97,110,100]⟩ (by exact d.ss.rs) (by exact L)).mono ?_;rintro e aJ ⟨rfl,o⟩;have M:=ab o;clear o;go_wp2;go_ret;have A:=d.eq;unfold eU at A;rw[Jn (by rw[U L];decide)]at A;rw[U b0,<-U S,A];have O:=d.ss.old;refine⟨h,rfl,O.2.2.2,⟨⟨ae,d.ss.rs.keep M⟩,d.ss.kp.trans (Kp.ofBelow M)⟩,fun j=>?_⟩;have ea:(ey c.ts g.2).2.er=none->g.2.er=none:=(nD s k.rs.nx).er;have eb:g.2.er=none:=ea (by rw[<-U S,A];exact j)
     have cj:aw mQ w.heap.size m aJ:=fun N cl cp _ a aL=>by
      have cq:=aa a;rw[M.block N (Js cq d.size)];refine d.old N cq (fun e=>?_) (fun e=>?_)
      ·subst e;rw[k.rs.reader]at a;cases a;cases aL
      ·subst e;rw[k.box]at a;cases a;cases aL
     obtain⟨a9,a',ba,bb⟩:=(bS (a5.er eb)).keep (Ji _) cj;refine⟨h,_,_,V,a9,us,rfl,O.2.2.2,(M.block h (aa d.ss.box)).trans d.ss.box,⟨a',ba,bb⟩,bm bX cj rfl,?_,rfl,?_⟩
     ·exact dN (fQ d.row M) k.kp.size
     ·exact(d.ok j).keep (fun N _ _ _ a _=>M.block N (aa a))
    |true=>
     have L:=ab q;clear q;obtain⟨ax,ay,Z⟩:=dy d.row d.pos;subst Z;have eN:=d.ss.rs.len;have eR:=d.ss.rs.nx;have ed:=d.few;go_wp2_with fail;refine(fu c _ r ae ⟨#[97,110,100]⟩ (by exact d.ss.rs) (by rw[JA];rfl) (by exact L)).mono ?_;rintro e aJ ⟨rfl,⟨ef,f⟩,a⟩;obtain⟨aj,aN⟩:=ag (d.ss.step f a) a;clear f a;have cr:(aD r).dp=0:=d.dp;have cs:c.rb<m.heap.size:=by have:=k.old;have:=k.kp.size;omega
     have ct:=ab (bf d.row aN cs);obtain⟨dd,f9⟩:=blk aj.box;have df:=aa aj.box;have eg:m.heap.size<=aJ.heap.size:=Jt d.size aN.size
     obtain⟨l,E⟩: ∃l,Hid (l=eE c.ts (aD r)):=⟨_,rfl⟩
     go_upto_region 9 with(fail)
     go_region_law (first
      |(refine nC rfl (.tmp 48) (.tmp 51) 254 rfl m.heap.size 263 b3 (.agg #[.int .i64 0,.nilIface,.string ⟨#[]⟩,.nilIface]) 4 56 underlying254 b' ca cb cc rfl (by decide) (.slice (some ⟨ax,0,none⟩) us.length ay) us.length (du us) (by simp[Act.eval]) (cu.alloc _) ⟨K.heap.size,0,none⟩ 1 1 [.int .i64 l.1.place,W,.string l.1.sg,Y] (by simp[Act.eval]) rfl (cQ rfl) (F6 bg bk) (by unfold maxLen;omega) (by omega) (by simp;omega) ?_;intro dk dp F v;obtain⟨ei,en,Z⟩:=dy F (by omega);subst Z;have bl:=ab ((v.block h (by simp;omega) (fun aR=>by have:=(cu.lt h aR.symm).1;omega)).trans (ai G));obtain⟨dq,f11⟩:=blk bl;have aA:=ab F;have bn:=ab v;clear F v)
      |(go_simp;go_at_call 155;refine(xu c _ (aD r) ef l (by exact aj.rs.drew) cr E).mono ?_;rintro e K ⟨W,Y,rfl,ac,ad,⟨⟨J,f⟩,a⟩,hex⟩;have G:=ab ((a.block h (by simp;omega) cf).trans (by exact aj.box));obtain⟨ds,f10⟩:=blk G;have dw:=aa G;have eT:m.heap.size<=K.heap.size:=(by have:=a.size;simp at this;omega);have cu:Hid (K.ownsRow m.heap.size 263 4 (.slice (some ⟨ax,0,none⟩) us.length ay) us.length (du us)):=bf (w:=aJ.drew) ct a cs;have bg:=ab ac;have bk:=ab ad;have bq:=ab f;have aI:=ab a;have br:=ab hex;clear f a hex ac ad))
     all_goals
      go_wp2;go_roundg gk
      case measure=>omega
      case rel=>
       refine⟨J,.slice (some ⟨ei,0,none⟩) (us.length+1) en,us++[(l.1,W,Y)],l.2,?_⟩;have eo:=bB s d.ss.rs.nx (aW L);refine Aw (us:=us) s aj.drew k.kp.size (d.old.kp aN.drew d.size) eg ct (fun j=>?_) E bq aI br aA bn (fun e=>?_) ?_ ?_ ?_ cr ce
       ·exact(d.ok (eo.er j)).keep (fun N cl cp _ a aL=>(d.ss.rs.nodes (lo:=0) aN) N cl cp (KO _) a aL)
       ·have:=d.pos;rw[e]at this;cases this
       ·show us.length<=r.nx+1;exact ed
       ·have A:=d.eq;unfold eU at A;rw[Jo (U L)]at A;rw[A,<-U E]
       ·have:=d.fuel;show c.ts.length<=gk+(r.nx+1);omega
structure BX(c:Cx)(w:World)(T:TypeId)(b:Nat)(W:World)(st:St)(ev:Value)(cs:Array Value):Prop where
 rs:RS c W st ev
 kp:Kp c.rb w W
 box:W.heap[b]? =some (.cells cs T (0,0))
 old:c.rb<w.heap.size/\c.tb<w.heap.size/\c.B<=w.heap.size/\w.heap.size<=b
theorem BX.step{c:Cx}{w:World}{T:TypeId}{b:Nat}{W W':World}{st st':St}{f d:Value}{cs:Array Value}(a:BX c w T b W st f cs)(g:RS c W' st' d)(e:Kp c.rb W W'):BX c w T b W' st' d cs:=
 ⟨g,a.kp.trans e,(e.block _ (aa a.box) (by have:=a.old;omega)).trans a.box,a.old⟩
theorem BX.set{c:Cx}{w:World}{T:TypeId}{b:Nat}{W:World}{st:St}{d:Value}{cs e:Array Value}{i:Nat}{u:Value}(a:BX c w T b W st d cs)(g:T≠113)(h:cs.setIfInBounds i u=e):BX c w T b (W.setCell ⟨b,i,none⟩ u) st d e:=by have j:=a.old;refine⟨a.rs.kpb ((Kp.refl _ _).setCell _ _) (by omega) (by omega) (by omega) (fun k l=>by rw[a.box];intro f;simp at f;exact g f.2),a.kp.setNew (by show w.heap.size<=b;omega) _,?_,a.old⟩;rw[am a.box,h]
theorem BX.setKeeps{c:Cx}{w:World}{T:TypeId}{b:Nat}{W:World}{st:St}{a:Value}{cs:Array Value}{i:Nat}{u:Value}{S:TypeId->Bool}{lo:Nat}(d:BX c w T b W st a cs)(f:S T=false):aw S lo W (W.setCell ⟨b,i,none⟩ u):=
 aw.ofKp ((Kp.refl b W).setCell i u) (Or.inr fun cs t e=>by rw[d.box]at e;cases e;exact f)
theorem BX.keeps{c:Cx}{w:World}{T:TypeId}{b:Nat}{W W':World}{st:St}{a:Value}{cs:Array Value}{S:TypeId->Bool}{lo:Nat}(d:BX c w T b W st a cs)(e:Kp c.rb W W')(f:S 167=false):aw S lo W W':=d.rs.keeps e f
theorem BX.lo{c:Cx}{w:World}{T:TypeId}{b:Nat}{W:World}{st:St}{a:Value}{cs:Array Value}(d:BX c w T b W st a cs):w.heap.size<=W.heap.size:=d.kp.size
def eI(t:TypeId):Bool:=mQ t||t==256
theorem aw.lst{lo:Nat}{w w':World}(a:aw eI lo w w'):aw mQ lo w w':=a.mono (fun c b=>by unfold eI;rw[b];rfl) (Ji _)
theorem kB.keep{w w':World}{lo g:Nat}{v:Value}{x:dP}(b:kB w lo v x)(c:g<=lo)(d:aw eI lo w w'):kB w' g v x:=by obtain⟨h,o,p,i,q,r,s,j,k,⟨t,u,y⟩,z,t1,t2,t3⟩:=b;refine⟨h,o,p,i,q,r,s,Jt c j,(d h _ _ j k rfl).trans k,⟨dN (bm t d rfl) c,u,fun A B=>(y A B).keep c d.lst.win⟩,dN (bm z d rfl) c,dN (bm t1 d rfl) c,t2,fun l m=>?_⟩;have n: ∀(a:Nat) (f:Array Value) (e:TypeId),kA lo i a->w.heap[a]? =some (.cells f e (0,0))->ki e=true->w'.heap[a]? =w.heap[a]? :=fun a f e C D E=>d a f e C.1 D (by unfold eI mQ dL;rw[E];rfl);exact⟨(t3 l m).1.keep (fun a b=>⟨Jt c b.1,b.2⟩) n,(t3 l m).2.keep (fun a b=>⟨Jt c b.1,b.2⟩) n⟩
structure jw where
 place:Nat
 name:Tk
 cols:List Tk
 first:dP
 union:Nat
 second:dP
 endp:Nat
def jn(ts:List Tk)(st:St):St:=aH ts (aH ts (aH ts st [⟨#[41]⟩]) [⟨#[97,115]⟩]) [⟨#[40]⟩]
def gA(ts:List Tk)(st:St):List Tk×St:=dE ts (gP ts) 6 (aH ts (cx ts st 2) [⟨#[40]⟩])
def oj(ts:List Tk)(st:St):dP×St:=fJ ts (jn ts (gA ts st).2)
def sH(ts:List Tk)(st:St):dP×St:=fJ ts (aH ts st [⟨#[117,110,105,111,110]⟩])
def iy(ts:List Tk)(st:St)(p:Nat):jw×St:=
 (⟨p,bP ts st 2,(gA ts st).1,(oj ts st).1,(ah ts (oj ts st).2.nx).place,(sH ts (oj ts st).2).1,(ah ts (sH ts (oj ts st).2).2.nx).place⟩,aH ts (sH ts (oj ts st).2).2 [⟨#[41]⟩])
theorem sI{ts:List Tk}(a:cO ts){st:St}(d:st.nx<ts.length):cG ts st (gA ts st).2:=by have b:=dx a d (k:=2) (by decide);have c:=aM a b.lt [⟨#[40]⟩];exact b.trans (c.trans (iG a (mO a) 6 _ c.lt))
theorem sJ{ts:List Tk}(a:cO ts){st:St}(d:st.nx<ts.length):cG ts st (jn ts st):=by have b:=aM a d [⟨#[41]⟩];have c:=aM a b.lt [⟨#[97,115]⟩];exact b.trans (c.trans (aM a c.lt _))
theorem Gi{ts:List Tk}(a:cO ts){st:St}(d:st.nx<ts.length):cG ts st (oj ts st).2:=by have b:=sI a d;have c:=sJ a b.lt;exact b.trans (c.trans (gz a c.lt))
theorem Ax{ts:List Tk}(a:cO ts){st:St}(c:st.nx<ts.length):cG ts st (sH ts st).2:=by have b:=aM a c [⟨#[117,110,105,111,110]⟩];exact b.trans (gz a b.lt)
theorem xy{ts:List Tk}(a:cO ts){st:St}(d:st.nx<ts.length)(p:Nat):cG ts st (iy ts st p).2:=by have b:=Gi a d;have c:=Ax a b.lt;exact b.trans (c.trans (aM a c.lt _))
def mS(w:World)(lo:Nat)(v:Value)(x:jw):Prop:= ∃a b c d,v=.pointer (some ⟨a,0,none⟩)/\lo<=a/\w.heap[a]? =some (.cells #[.int .i64 x.place,.int .i64 x.name.place,.string x.name.text,b,c,.int .i64 x.union,d,.int .i64 x.endp] 243 (0,0))/\
 w.ownsRow lo 240 2 b x.cols.length (iU x.cols)/\kB w lo c x.first/\kB w lo d x.second
theorem EE(c:Cx)(w:World)(st:St)(ae:Value)(p:Nat)(X:jw×St)(o:RS c w st ae)(b0:st.dp=0)(b1:Hid (X=iy c.ts st p)):
  Calls prog 97 #[.pointer (some ⟨c.rb,0,none⟩),.agg #[.int .i64 p]] w fun e w'=> ∃b,e=.returned (.pointer (some ⟨b,0,none⟩))/\w.heap.size<=b/\eO c w X.2 w'/\(X.2.er=none->mS w' w.heap.size (.pointer (some ⟨b,0,none⟩)) X.1):=by
 have s:=ab o.last
 have aR:c.rb<w.heap.size/\c.tb<w.heap.size/\c.B<=w.heap.size:=⟨aa o.reader,by obtain⟨dd,b2,_⟩:=o.tokens;exact aa b2,o.env.size⟩
 obtain⟨aj,b3⟩:=ag aR o;have b4:=ab o.nx;clear o aR;have df:=ec;go_enter func97,ntmps97;go_wp2_with fail
 have aT:BX c w 243 (w.heap.size+1) ((w.alloc (.cells #[.int .i64 p] 170)).alloc (.cells #[.int .i64 p,.int .i64 0,.string ⟨#[]⟩,.slice none 0 0,.pointer none,.int .i64 0,.pointer none,.int .i64 0] 243)) st ae #[.int .i64 p,.int .i64 0,.string ⟨#[]⟩,.slice none 0 0,.pointer none,.int .i64 0,.pointer none,.int .i64 0]:=
  ⟨(b3.alloc _).alloc _,((Kp.refl _ _).alloc _).alloc _,af (by simp),aj.1,aj.2.1,aj.2.2,by omega⟩
 have ak:=ab aT;clear aT;generalize(w.alloc (.cells #[.int .i64 p] 170)).alloc (.cells #[.int .i64 p,.int .i64 0,.string ⟨#[]⟩,.slice none 0 0,.pointer none,.int .i64 0,.pointer none,.int .i64 0] 243)=dk at*;refine(gN c _ st ae (by exact ak.rs)).mono ?_;rintro e b5 ⟨rfl,⟨b6,f⟩,g⟩;have I:=ab (ak.step f g);clear f g ak;generalize aU:bP c.ts st 2=y at*;have b7:=ab aU;clear aU;obtain⟨b9,f2⟩:=blk I.box;have b':=aa I.box;generalize w.heap.size+1=h at*
 go_upto_region 3 with(fail)
 have al:=ab ((I.set (i:=1) (u:=.int .i64 y.place) (by decide) rfl).set (i:=2) (u:=.string y.text) (by decide) rfl);clear b9 f2 b' I;generalize(b5.setCell ⟨h,1,none⟩ (.int .i64 y.place)).setCell ⟨h,2,none⟩ (.string y.text)=an at*;go_wp2_with fail;refine(dv c _ (cx c.ts st 2) b6 an.heap.size [⟨#[40]⟩] (by exact al.rs.alloc _) (by exact bo rfl (fun k l=>by match k,l with|0,_=>rfl)) (by simp) (dt (by decide))).mono ?_;rintro e dp ⟨rfl,⟨ca,f⟩,g⟩;have J:=ab (al.step f (((Kp.refl c.rb an).alloc _).trans g));have a:=((Kp.refl c.rb an).alloc (.cells #[.string ⟨#[40]⟩] 9)).trans g;clear f g a al;go_wp2_with fail;refine(Cu c _ _ ca 6 _ (by exact J.rs) (by decide) rfl).mono ?_;rintro e ao ⟨dq,rfl,ap,aV,⟨a0,f⟩,g⟩;obtain⟨K,L,cb⟩:=dy ap aV;subst cb;have z:Hid (BX c w 243 h ao (gA c.ts st).2 a0 _):=J.step f g;have a1:Hid (ao.ownsRow w.heap.size 240 2 (.slice (some ⟨K,0,none⟩) (gA c.ts st).1.length L) (gA c.ts st).1.length (iU (gA c.ts st).1)):=dN ap J.lo;have a2:=ab (sI s b4);rw[show(dE c.ts (gP c.ts) 6 (aH c.ts (cx c.ts st 2) [⟨#[40]⟩]))=gA c.ts st from rfl];clear f g ap aV J;generalize a3:gA c.ts st=n at*;have cc:=ab a3;clear a3;obtain⟨cd,f5⟩:=blk z.box;have ce:=aa z.box
 go_upto_region 5 with(fail)
 obtain⟨M,cf⟩:=ag (z.set (i:=3) (u:=.slice (some ⟨K,0,none⟩) n.1.length L) (by decide) rfl) (bm a1 (z.setKeeps (S:=eI) (i:=3) (u:=.slice (some ⟨K,0,none⟩) n.1.length L) rfl) rfl);clear cd f5 ce z a1;generalize ao.setCell ⟨h,3,none⟩ (.slice (some ⟨K,0,none⟩) n.1.length L)=ar at*;go_wp2_with fail;refine(dv c _ n.2 a0 ar.heap.size [⟨#[41]⟩] (by exact M.rs.alloc _) (by exact bo rfl (fun k l=>by match k,l with|0,_=>rfl)) (by simp) (dt (by decide))).mono ?_;rintro e au ⟨rfl,⟨cg,f⟩,g⟩;have N:=ab (M.step f (((Kp.refl c.rb ar).alloc _).trans g));have a:=((Kp.refl c.rb ar).alloc (.cells #[.string ⟨#[41]⟩] 9)).trans g;have ch:=ab (bm cf (M.keeps (S:=eI) a rfl) rfl);clear f g a M;go_wp2_with fail;refine(dv c _ _ cg au.heap.size [⟨#[97,115]⟩] (by exact N.rs.alloc _) (by exact bo rfl (fun k l=>by match k,l with|0,_=>rfl)) (by simp) (dt (by decide))).mono ?_;rintro e av ⟨rfl,⟨ci,f⟩,g⟩;have O:=ab (N.step f (((Kp.refl c.rb au).alloc _).trans g));have a:=((Kp.refl c.rb au).alloc (.cells #[.string ⟨#[97,115]⟩] 9)).trans g;have cj:=ab (bm ch (N.keeps (S:=eI) a rfl) rfl);clear f g a N;go_wp2_with fail;refine(dv c _ _ ci av.heap.size [⟨#[40]⟩] (by exact O.rs.alloc _) (by exact bo rfl (fun k l=>by match k,l with|0,_=>rfl)) (by simp) (dt (by decide))).mono ?_;rintro e cl ⟨rfl,⟨a4,f⟩,g⟩;have a5:=ab (O.step f (((Kp.refl c.rb av).alloc _).trans g));have a:=((Kp.refl c.rb av).alloc (.cells #[.string ⟨#[40]⟩] 9)).trans g;have a9:=ab (bm cj (O.keeps (S:=eI) a rfl) rfl);clear f g a O;have A:Hid (BX c w 243 h cl (jn c.ts n.2) a4 _):=U a5;clear a5;have a':=ab (sJ s a2.lt);have ba:(jn c.ts n.2).dp=0:=(a'.dp.trans a2.dp).trans b0
 obtain⟨j,ax⟩: ∃j,Hid (j=fJ c.ts (jn c.ts n.2)):=⟨_,rfl⟩
 go_wp2_with fail;refine(jv c _ _ a4 j (by exact(U A).rs) ba ax).mono ?_;rintro e P ⟨Q,rfl,cp,⟨⟨bb,f⟩,a⟩,B⟩;obtain⟨C,bc⟩:=ag ((U A).step f a) (bm a9 ((U A).keeps (S:=eI) a rfl) rfl);have be:Hid (j.2.er=none->kB P w.heap.size (.pointer (some ⟨Q,0,none⟩)) j.1):=fun d=>(B d).keep (U A).lo (aw.ofBelow (Jj _ _));have ay:Hid (cG c.ts (jn c.ts n.2) j.2):=by rw[U ax];exact gz s a'.lt
 clear f a B cp A a9;obtain⟨cq,f10⟩:=blk C.box;have cr:=aa C.box
 go_upto_region 9 with(fail)
 have t:=ab (C.set (i:=4) (u:=.pointer (some ⟨Q,0,none⟩)) (by decide) rfl);have aA:Hid (aw eI w.heap.size P (P.setCell ⟨h,4,none⟩ (.pointer (some ⟨Q,0,none⟩)))):=C.setKeeps rfl;obtain⟨bg,bk⟩:=ag (bm bc aA rfl) (fun d=>(be d).keep (Ji _) aA);clear cq f10 cr C bc be aA;generalize P.setCell ⟨h,4,none⟩ (.pointer (some ⟨Q,0,none⟩))=cs at*;go_wp2_with fail;refine(cX c _ j.2 bb (by exact t.rs)).mono ?_;rintro e R ⟨rfl,q⟩;have a:Kp c.rb cs R:=Kp.ofBelow q;obtain⟨D,bl,bn⟩:=aC (t.step (t.rs.keep q) a) (bm bg (t.keeps (S:=eI) a rfl) rfl) (fun d=>(bk d).keep (Ji _) (t.keeps (S:=eI) a rfl));clear q a t bg bk;generalize bq:(ah c.ts j.2.nx).place=T at*;have ct:=ab bq;clear bq;obtain⟨cu,f12⟩:=blk D.box;have cv:=aa D.box
 go_upto_region 10 with(fail)
 have E:=ab (D.set (i:=5) (u:=.int .i64 T) (by decide) rfl);have aI:Hid (aw eI w.heap.size R (R.setCell ⟨h,5,none⟩ (.int .i64 T))):=D.setKeeps rfl;obtain⟨cz,cF⟩:=ag (bm bl aI rfl) (fun d=>(bn d).keep (Ji _) aI);clear cu f12 cv D bl bn aI;generalize R.setCell ⟨h,5,none⟩ (.int .i64 T)=aJ at*;go_wp2_with fail;refine(dv c _ j.2 bb aJ.heap.size [⟨#[117,110,105,111,110]⟩] (by exact E.rs.alloc _) (by exact bo rfl (fun k l=>by match k,l with|0,_=>rfl)) (by simp) (dt (by decide))).mono ?_;rintro e ds ⟨rfl,⟨cI,f⟩,g⟩;have v:=ab (E.step f (((Kp.refl c.rb aJ).alloc _).trans g));have a:=((Kp.refl c.rb aJ).alloc (.cells #[.string ⟨#[117,110,105,111,110]⟩] 9)).trans g;obtain⟨br,bs⟩:=ag (bm cz (E.keeps (S:=eI) a rfl) rfl) (fun d=>(cF d).keep (Ji _) (E.keeps (S:=eI) a rfl));clear f g a E;have cL:=ab (aM s ay.lt [⟨#[117,110,105,111,110]⟩]);have cN:(aH c.ts j.2 [⟨#[117,110,105,111,110]⟩]).dp=0:=(cL.dp.trans ay.dp).trans ba
 obtain⟨m,aL⟩: ∃m,Hid (m=sH c.ts j.2):=⟨_,rfl⟩
 go_wp2_with fail;refine(jv c _ _ cI m (by exact v.rs) cN aL).mono ?_;rintro e V ⟨W,rfl,cR,⟨⟨bt,f⟩,a⟩,B⟩;obtain⟨F,bu,bv⟩:=aC (v.step f a) (bm br (v.keeps (S:=eI) a rfl) rfl) (fun d=>(bs d).keep (Ji _) (v.keeps (S:=eI) a rfl));have bx:Hid (m.2.er=none->kB V w.heap.size (.pointer (some ⟨W,0,none⟩)) m.1):=fun d=>(B d).keep v.lo (aw.ofBelow (Jj _ _));have bz:Hid (cG c.ts j.2 m.2):=by rw[U aL];exact Ax s ay.lt
 clear f a B cR v br bs;obtain⟨cT,f15⟩:=blk F.box;have cV:=aa F.box
 go_upto_region 12 with(fail)
 have r:=ab (F.set (i:=6) (u:=.pointer (some ⟨W,0,none⟩)) (by decide) rfl);have Y:Hid (aw eI w.heap.size V (V.setCell ⟨h,6,none⟩ (.pointer (some ⟨W,0,none⟩)))):=F.setKeeps rfl;obtain⟨bA,bF,bG⟩:=aC (bm bu Y rfl) (fun d=>(bv d).keep (Ji _) Y) (fun d=>(bx d).keep (Ji _) Y);clear cT f15 cV F bu bv bx Y;generalize V.setCell ⟨h,6,none⟩ (.pointer (some ⟨W,0,none⟩))=cW at*;go_wp2_with fail;refine(cX c _ m.2 bt (by exact r.rs)).mono ?_;rintro e Z ⟨rfl,q⟩;have a:Kp c.rb cW Z:=Kp.ofBelow q;obtain⟨G,bJ,bL,bN⟩:=aP (r.step (r.rs.keep q) a) (bm bA (r.keeps (S:=eI) a rfl) rfl) (fun d=>(bF d).keep (Ji _) (r.keeps (S:=eI) a rfl)) (fun d=>(bG d).keep (Ji _) (r.keeps (S:=eI) a rfl));clear q a r bA bF bG;generalize bS:(ah c.ts m.2.nx).place=ac at*;have cZ:=ab bS;clear bS;obtain⟨c0,f17⟩:=blk G.box;have c1:=aa G.box
 go_upto_region 13 with(fail)
 have x:=ab (G.set (i:=7) (u:=.int .i64 ac) (by decide) rfl);have ad:Hid (aw eI w.heap.size Z (Z.setCell ⟨h,7,none⟩ (.int .i64 ac))):=G.setKeeps rfl;obtain⟨c2,c3,c4⟩:=aC (bm bJ ad rfl) (fun d=>(bL d).keep (Ji _) ad) (fun d=>(bN d).keep (Ji _) ad);clear c0 f17 c1 G bJ bL bN ad;generalize Z.setCell ⟨h,7,none⟩ (.int .i64 ac)=aN at*;go_wp2_with fail;refine(dv c _ m.2 bt aN.heap.size [⟨#[41]⟩] (by exact x.rs.alloc _) (by exact bo rfl (fun k l=>by match k,l with|0,_=>rfl)) (by simp) (dt (by decide))).mono ?_;rintro e dw ⟨rfl,⟨c5,f⟩,g⟩;have H:=ab (x.step f (((Kp.refl c.rb aN).alloc _).trans g));have a:=((Kp.refl c.rb aN).alloc (.cells #[.string ⟨#[41]⟩] 9)).trans g;obtain⟨c6,c7,c8⟩:=aC (bm c2 (x.keeps (S:=eI) a rfl) rfl) (fun d=>(c3 d).keep (Ji _) (x.keeps (S:=eI) a rfl)) (fun d=>(c4 d).keep (Ji _) (x.keeps (S:=eI) a rfl));clear f g a x;have c9:Hid (X=(⟨p,y,n.1,j.1,T,m.1,ac⟩,aH c.ts m.2 [⟨#[41]⟩])):=by rw[U b1];unfold Hid iy oj;rw[U b7,cc,<-U ax,<-U aL,ct,U cZ]
 have c':=ab (aM s bz.lt [⟨#[41]⟩]);go_wp2;go_ret;rw[U c9];refine⟨h,rfl,H.old.2.2.2,⟨⟨c5,H.rs⟩,H.kp⟩,fun d=>?_⟩;have bX:=c'.er d;exact⟨h,_,_,_,rfl,H.old.2.2.2,H.box,c6,(U c7) (bz.er bX),(U c8) bX⟩
structure cH where
 place:Nat
 wth:Option jw
 main:dP
def eV(ts:List Tk)(st:St):Option jw×St:=if az ts st [⟨#[119,105,116,104]⟩]then(some (iy ts (aD st) (ah ts st.nx).place).1,(iy ts (aD st) (ah ts st.nx).place).2)else(none,st)
def da(ts:List Tk)(st:St):cH×St:=(⟨(ah ts st.nx).place,(eV ts st).1,(fJ ts (eV ts st).2).1⟩,(fJ ts (eV ts st).2).2)
theorem nF{ts:List Tk}(a:cO ts){st:St}(b:st.nx<ts.length):cG ts st (eV ts st).2:=by
 unfold eV;split
 ·rename_i d
  have c:=bB a b (aW d);exact c.trans (xy a c.lt (ah ts st.nx).place)
 ·exact cG.refl b
theorem uX{ts:List Tk}(a:cO ts){st:St}(b:st.nx<ts.length):cG ts st (da ts st).2:=(nF a b).trans (gz a (nF a b).lt)
def qT(t:TypeId):Bool:=eI t||t==243
theorem aw.sel{lo:Nat}{w w':World}(a:aw qT lo w w'):aw eI lo w w':=a.mono (fun c b=>by unfold qT;rw[b];rfl) (Ji _)
theorem mS.keep{w w':World}{lo c:Nat}{v:Value}{x:jw}(g:mS w lo v x)(a:c<=lo)(b:aw qT lo w w'):mS w' c v x:=by obtain⟨d,h,i,j,k,e,f,l,m,n⟩:=g;exact⟨d,h,i,j,k,Jt a e,(b d _ _ e f rfl).trans f,dN (bm l b rfl) a,m.keep a b.sel,n.keep a b.sel⟩
def ut(w:World)(lo:Nat)(v:Value):Option jw->Prop
 |none=>v=.pointer none
 |some x=>mS w lo v x
theorem ut.keep{w w':World}{lo b:Nat}{v:Value}{o:Option jw}(a:ut w lo v o)(c:b<=lo)(d:aw qT lo w w'):ut w' b v o:=by
 match o,a with
 |none,a=>exact a
 |some e,a=>exact mS.keep a c d
def de(w:World)(lo:Nat)(v:Value)(x:cH):Prop:= ∃a b c,v=.pointer (some ⟨a,0,none⟩)/\lo<=a/\w.heap[a]? =some (.cells #[.int .i64 x.place,b,c] 180 (0,0))/\ut w lo b x.wth/\kB w lo c x.main
theorem CB(c:Cx)(w:World)(st:St)(v:Value)(X:cH×St)(q:RS c w st v)(Z:st.dp=0)(ac:Hid (X=da c.ts st)):
  Calls prog 61 #[.pointer (some ⟨c.rb,0,none⟩)] w fun e w'=> ∃b,e=.returned (.pointer (some ⟨b,0,none⟩))/\w.heap.size<=b/\eO c w X.2 w'/\(X.2.er=none->de w' w.heap.size (.pointer (some ⟨b,0,none⟩)) X.1):=by
 have E:=ab q.last
 have ad:c.rb<w.heap.size/\c.tb<w.heap.size/\c.B<=w.heap.size:=⟨aa q.reader,by obtain⟨a1,ax,_⟩:=q.tokens;exact aa ax,q.env.size⟩
 obtain⟨J,ae⟩:=ag ad q;have aj:=ab q.nx;clear q ad;have a2:=ec;go_enter func61,ntmps61;go_wp2_with fail;refine(cX c _ st v (by exact ae)).mono ?_;rintro e F ⟨rfl,x⟩;have K:=ab x;clear x;generalize ak:(ah c.ts st.nx).place=z at*;have L:=ab ak;clear ak
 go_upto_region 2 with(fail)
 have al:BX c w 180 F.heap.size (F.alloc (.cells #[.int .i64 z,.pointer none,.pointer none] 180)) st v #[.int .i64 z,.pointer none,.pointer none]:=
  ⟨(ae.keep K).alloc _,(Kp.ofBelow K).alloc _,af rfl,J.1,J.2.1,J.2.2,K.size⟩
 have r:=ab al;clear al;generalize F.alloc (.cells #[.int .i64 z,.pointer none,.pointer none] 180)=a3 at*;generalize F.heap.size=l at*
 cases y:az c.ts st [⟨#[119,105,116,104]⟩]with
 |false=>
  have M:Hid (eV c.ts st=(none,st)):=by unfold Hid eV;rw[y];rfl
  have G:=ab y;clear y;go_wp2_with fail;refine(eF c _ st v ⟨#[119,105,116,104]⟩ (by exact r.rs) (by exact G)).mono ?_;rintro e an ⟨rfl,x⟩;have f:=ab (r.step (r.rs.keep x) (Kp.ofBelow x));clear x r;have ay:Hid (st.er=none->ut an w.heap.size (.pointer none) none):=fun _=>rfl;have N:=Z
  obtain⟨d,s⟩: ∃d,Hid (d=fJ c.ts st):=⟨_,rfl⟩
  go_wp2_with fail;refine(jv c _ _ v d (by exact f.rs) N s).mono ?_;rintro e n ⟨o,rfl,O,⟨⟨P,g⟩,m⟩,p⟩;obtain⟨h,A⟩:=ag (f.step g m) (fun a=>(ay a).keep (Ji _) (f.keeps (S:=qT) m rfl));have B:Hid (d.2.er=none->kB n w.heap.size (.pointer (some ⟨o,0,none⟩)) d.1):=fun a=>(p a).keep f.lo (aw.ofBelow (Jj _ _));have Q:Hid (cG c.ts st d.2):=by rw[U s];exact gz E aj
  clear g m p O f;obtain⟨R,f15⟩:=blk h.box;have T:=aa h.box;go_wp2;have j:=ab (h.set (i:=2) (u:=.pointer (some ⟨o,0,none⟩)) (by decide) rfl);have t:Hid (aw qT w.heap.size n (n.setCell ⟨l,2,none⟩ (.pointer (some ⟨o,0,none⟩)))):=h.setKeeps rfl;obtain⟨V,W⟩:=ag (fun a=>(A a).keep (Ji _) t) (fun a=>(B a).keep (Ji _) t.sel);clear R f15 T h A B t;generalize n.setCell ⟨l,2,none⟩ (.pointer (some ⟨o,0,none⟩))=aA at*;go_ret;rw[U ac];unfold da;rw[U M,<-U s,U L];refine⟨l,rfl,j.old.2.2.2,⟨⟨P,j.rs⟩,j.kp⟩,fun a=>?_⟩;exact⟨l,_,_,rfl,j.old.2.2.2,j.box,(U V) (Q.er a),(U W) a⟩
 |true=>
  obtain⟨k,Y⟩: ∃k,Hid (k=iy c.ts (aD st) z):=⟨_,rfl⟩
  have M:Hid (eV c.ts st=(some k.1,k.2)):=by unfold Hid eV;rw[y,Jo rfl,L,<-U Y]
  have G:=ab y;clear y;have aI:=ab (bB E aj (aW G));go_wp2_with fail;refine(fu c _ st v ⟨#[119,105,116,104]⟩ (by exact r.rs) (by rw[JA];rfl) (by exact G)).mono ?_;rintro e an ⟨rfl,⟨aJ,g⟩,ao⟩;have f:=ab (r.step g ao);clear g ao r;have ap:(aD st).dp=0:=Z;obtain⟨aL,f3⟩:=blk f.box;have aN:=aa f.box;go_wp2_with fail;refine(EE c _ (aD st) aJ z k (by exact f.rs) ap Y).mono ?_;rintro e H ⟨I,rfl,aR,⟨⟨aT,g⟩,m⟩,p⟩;have C:=ab (f.step g m);have ar:Hid (k.2.er=none->ut H w.heap.size (.pointer (some ⟨I,0,none⟩)) (some k.1)):=fun a=>mS.keep (p a) f.lo (aw.ofBelow (Jj _ _));have au:Hid (cG c.ts (aD st) k.2):=by rw[U Y];exact xy E aI.lt _
  clear g m p aR aL f3 aN f;obtain⟨aU,f4⟩:=blk C.box;have aV:=aa C.box
  go_upto_region 4 with(fail)
  have D:=ab (C.set (i:=1) (u:=.pointer (some ⟨I,0,none⟩)) (by decide) rfl);have av:Hid (aw qT w.heap.size H (H.setCell ⟨l,1,none⟩ (.pointer (some ⟨I,0,none⟩)))):=C.setKeeps rfl;have a0:=ab (fun a=>(ar a).keep (Ji _) av);clear aU f4 aV C ar av;generalize H.setCell ⟨l,1,none⟩ (.pointer (some ⟨I,0,none⟩))=a4 at*;have N:k.2.dp=0:=au.dp.trans ap
  obtain⟨d,s⟩: ∃d,Hid (d=fJ c.ts k.2):=⟨_,rfl⟩
  go_wp2_with fail;refine(jv c _ _ aT d (by exact D.rs) N s).mono ?_;rintro e n ⟨o,rfl,O,⟨⟨P,g⟩,m⟩,p⟩;obtain⟨h,A⟩:=ag (D.step g m) (fun a=>(a0 a).keep (Ji _) (D.keeps (S:=qT) m rfl));have B:Hid (d.2.er=none->kB n w.heap.size (.pointer (some ⟨o,0,none⟩)) d.1):=fun a=>(p a).keep D.lo (aw.ofBelow (Jj _ _));have Q:Hid (cG c.ts k.2 d.2):=by rw[U s];exact gz E au.lt
  clear g m p O D;obtain⟨R,f15⟩:=blk h.box;have T:=aa h.box;go_wp2;have j:=ab (h.set (i:=2) (u:=.pointer (some ⟨o,0,none⟩)) (by decide) rfl);have t:Hid (aw qT w.heap.size n (n.setCell ⟨l,2,none⟩ (.pointer (some ⟨o,0,none⟩)))):=h.setKeeps rfl;obtain⟨V,W⟩:=ag (fun a=>(A a).keep (Ji _) t) (fun a=>(B a).keep (Ji _) t.sel);clear R f15 T h A B t;generalize n.setCell ⟨l,2,none⟩ (.pointer (some ⟨o,0,none⟩))=aA at*;go_ret;rw[U ac];unfold da;rw[U M,<-U s,U L];refine⟨l,rfl,j.old.2.2.2,⟨⟨P,j.rs⟩,j.kp⟩,fun a=>?_⟩;exact⟨l,_,_,rfl,j.old.2.2.2,j.box,(U V) (Q.er a),(U W) a⟩
def CC(t:Tk):List TT:=[tx t.text]
def F7(t:Tk×Tk):List TT:=[tx t.1.text,tx t.2.text]
def Bf(word:ByteArray)(l:List (List Nd)):List TT:=if l=[]then []else [tx word,tx ⟨#[98,121]⟩]++eP (l.map jd)
def Hs:Option (List Nd)->List TT
 |none=>[]
 |some l=>jd l
def CD:Option Tk->List TT
 |none=>[]
 |some t=>[tx ⟨#[114,111,119,115]⟩,tx t.text,tx ⟨#[112,114,101,99,101,100,105,110,103]⟩]
def sK(x:oR):List TT:=(((((([tx x.call,tx ⟨#[40]⟩]++Hs x.of)++[tx ⟨#[41]⟩,tx ⟨#[111,118,101,114]⟩,tx ⟨#[40]⟩])++Bf ⟨#[112,97,114,116,105,116,105,111,110]⟩ x.part)++Bf ⟨#[111,114,100,101,114]⟩ x.ord)++CD x.rows)++[tx ⟨#[41]⟩])
def xz(s:ByteArray):List TT:=if s.toList== []then []else [tx ⟨#[97,115]⟩,tx s]
def xA(x:bH):List TT:=match x.win with
 |none=>jd x.val
 |some a=>sK a
def xB(x:bH):List TT:=xA x++xz x.asT
def ol(x:cn):List TT:=jd x.l++tx x.sg::jd x.r
def fW:List cn->List TT
 | []=>[]
 |x::r=>[tx ⟨#[119,104,101,114,101]⟩]++ol x++r.flatMap fun a=>[tx ⟨#[97,110,100]⟩]++ol a
theorem xC(l:List cn)(x:cn):fW (l++[x])=fW l++([tx (if l=[]then⟨#[119,104,101,114,101]⟩else⟨#[97,110,100]⟩)]++ol x):=by
 cases l with
 |nil=>simp[fW]
 |cons a b=>simp[fW]
def qF(x:dP):List TT:=(((([tx ⟨#[115,101,108,101,99,116]⟩]++eP (x.items.map xB))++[tx ⟨#[102,114,111,109]⟩])++eP (x.srcs.map F7))++fW x.tests)
def pT(x:jw):List TT:=(((((([tx ⟨#[119,105,116,104]⟩,tx x.name.text,tx ⟨#[40]⟩]++eP (x.cols.map CC))++[tx ⟨#[41]⟩,tx ⟨#[97,115]⟩,tx ⟨#[40]⟩])++qF x.first)++[tx ⟨#[117,110,105,111,110]⟩])++qF x.second)++[tx ⟨#[41]⟩])
def Ht:Option jw->List TT
 |none=>[]
 |some x=>pT x
def ia(x:cH):List TT:=Ht x.wth++qF x.main
def dP.Full(x:dP):Prop:=0<x.items.length/\0<x.srcs.length
def jw.Full(x:jw):Prop:=0<x.cols.length/\x.first.Full/\x.second.Full
def cH.Full(x:cH):Prop:=(∀a,x.wth=some a->a.Full)/\x.main.Full
end
end Go.Proofs.YtfkeddkfegaeiaaGreatDoor
