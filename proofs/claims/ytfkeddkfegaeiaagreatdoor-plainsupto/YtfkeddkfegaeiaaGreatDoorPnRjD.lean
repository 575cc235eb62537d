import Derived.Test.YtfkeddkfegaeiaaGreatDoorPnRiO
set_option maxRecDepth 100000
set_option maxHeartbeats 20000000
namespace Go.Proofs.YtfkeddkfegaeiaaGreatDoor
section
open Go.RowKit Tryz
structure bw(S:Nat->Prop)(w w':World):Prop where
 os:w'.os=w.os
 tape:w'.tape=w.tape
 output:w'.output=w.output
 size:w.heap.size<=w'.heap.size
 block: ∀k,k<w.heap.size-> ¬S k->w'.heap[k]? =w.heap[k]?
theorem bw.refl(S:Nat->Prop)(w:World):bw S w w:=⟨rfl,rfl,rfl,Ji _,fun _ _ _=>rfl⟩
theorem bw.trans{S S':Nat->Prop}{w d f:World}(a:bw S w d)(k:bw S' d f)(g: ∀b,b<w.heap.size->S' b->S b):bw S w f:=
 ⟨k.os.trans a.os,k.tape.trans a.tape,k.output.trans a.output,Jt a.size k.size,fun b c hn=>(k.block b (Js c a.size) (fun e=>hn (g b c e))).trans (a.block b c hn)⟩
theorem bw.mono{S S':Nat->Prop}{w w':World}(a:bw S w w')(c: ∀b,S b->S' b):bw S' w w':=⟨a.os,a.tape,a.output,a.size,fun b d e=>a.block b d (fun f=>e (c b f))⟩
theorem bw.below{S:Nat->Prop}{w w':World}(a:Below w.heap.size w w'):bw S w w':=⟨a.os,a.tape,a.output,a.size,fun b c _=>a.block b c⟩
theorem bw.set{S:Nat->Prop}{w:World}{b o:Nat}(a:S b)(u:Value):bw S w (w.setCell ⟨b,o,none⟩ u):=⟨rfl,rfl,rfl,by simp[World.setCell],fun c _ d=>Jp _ _ _ _ (by show c≠b;exact fun e=>d (by rw[e];exact a))⟩
theorem cE{W W':World}{S:Nat->Prop}{lo t k n:Nat}{v:Value}{xs:List Value}(c:W.ownsRow lo t k v n xs)(f:bw S W W')(g: ∀b,v.ownBlock=some b-> ¬S b):W'.ownsRow lo t k v n xs:=⟨c.1,c.2.imp id (fun⟨a,h,i,d,j,e,l⟩=>⟨a,h,i,d,j,(f.block a (aa e) (g a (by rw[d];rfl))).trans e,l⟩)⟩
theorem so{W:World}{lo t n g cap:Nat}{xs:List Value}(b:W.ownsRow lo t 1 (.slice (some ⟨g,0,none⟩) n cap) n xs)(i:Nat)(u:Value):(W.setCell ⟨g,i,none⟩ u).ownsRow lo t 1 (.slice (some ⟨g,0,none⟩) n cap) n (xs.set i u):=by
 refine⟨by simpa using b.1,?_⟩;rcases b.2 with⟨h0,-⟩|⟨g',cap',cur,h1,h2,h3,h4,h5,h6,h7⟩
 ·cases h0
 ·injection h1 with a d c;injection a with a;injection a with a;subst a c;refine Or.inr ⟨g,cap,cur.setIfInBounds i u,rfl,h2,?_,h4,h5,by simpa using h6,?_⟩
  ·rw[am h3]
  ·rw[Array.toList_setIfInBounds,List.take_set,h7]
theorem aO{W:World}{lo t k n:Nat}{v:Value}{xs:List Value}(c:W.ownsRow lo t k v n xs){b:Nat}(a:v.ownBlock=some b): ∃cs,W.heap[b]? =some (.cells cs t (0,0)):=by
 rcases c.2 with⟨h0,-⟩|⟨g',cap',cur,h1,h2,h3,-⟩
 ·rw[h0]at a;cases a
 ·rw[h1]at a;injection a with a;subst a;exact⟨cur,h3⟩
theorem dM{W:World}{b c:Nat}{cs e:Array Value}{t d:TypeId}(f:W.heap[b]? =some (.cells cs t (0,0)))(a:W.heap[c]? =some (.cells e d (0,0)))(g:t≠d):b≠c:=fun h=>by subst h;rw[f]at a;injection a with a;injection a with _ a _;exact g a
theorem eM{P:Program}(w:World){F:Array Oper}{G:List Oper}{o:Oper}{a:Act}{H:Exit->Act->World->Prop}
  (I:o.guard=none) (s x:Operand) (t:TypeId) (J:o.op=Op.call {callee:=Callee.builtin Builtin.append,args:= #[s,x],argTypes:= #[t,t]})
  (v:Nat) (e:TypeId) (j:TypeInfo) (B:Value) (size bytes:Nat) (K:P.underlying t=some (.slice e)) (L:P.info? e=some j) (X:j.zero=some B) (M:j.size=size) (Y:j.bytes=bytes) (Z:B.cells.size=size) (ac:0<size)
  (y:Option Addr) (b k:Nat) (r:List Value) (N:a.eval s=.slice y b k) (l:w.ownsRow v e size (.slice y b k) b r)
  (z:Addr) (d C:Nat) (m:List Value) (O:a.eval x=.slice (some z) d C) (Q:m.length=d*size) (R: ∀n p,m[n]? =some p->w.cell? (z.add n)=some p) (S: ∀p∈m,p.oneCell'=true)
  (ay:0<d) (ad:b+d<=maxLen) (ae:(b+d)*bytes<=140737488355328) (D:v<=w.heap.size)
  (T: ∀c h i,i.ownsRow v e size (.slice (some ⟨c,0,none⟩) (b+d) h) (b+d) (r++m)->w.grownBy i (some c)->(y=some ⟨c,0,none⟩∨w.heap.size<=c)->wpList P F H G (a.put o.dst (.slice (some ⟨c,0,none⟩) (b+d) h)) i):
  wpList P F H (o::G) a w:=by
 by_cases aj:b+d<=k
 ·rcases l.2 with⟨h0,-⟩|⟨c,h,u,hv,-⟩
  ·injection h0 with f E A;omega
  ·injection hv with f E A;subst f A;exact wpList_append_fits w I s x t J v e j size K L M c b k r N l z d C m O Q R S aj (fun i q g=>T c k i q g (Or.inl rfl))
 ·refine wpList_append_grows w I s x t J e j B size bytes K L X M Y Z ac y b k r N ?_ l.1 ?_ z d C m O Q R S (by omega) ad ae (fun aA i q g=>?_)
  ·intro e;subst e;rcases l.2 with⟨h0,-⟩|⟨c,h,u,hv,-⟩
   ·injection h0 with _ E A;exact⟨E,A⟩
   ·injection hv with f;cases f
  ·intro aI D n p V;subst D;rcases l.2 with⟨h0,-⟩|⟨c,h,u,hv,q,g,q3,q4,q5,q6⟩
   ·injection h0 with f;cases f
   ·injection hv with f;injection f with f;subst f;rw[Addr.add_lit,JV,(blk g).1 n];have ak:n<r.length:=(Jy.1 V).1;have W:(List.take (b*size) u.toList)[n]? =some p:=by rw[q6];exact V
    rw[Kh (by rw[<-l.1];exact ak)]at W
    simpa using W
  ·obtain⟨c,h,rfl,al,aJ⟩:=q.form (by omega);refine T c h i ⟨q.1,q.2.imp id (fun⟨an,ao,u,ap,ar,au⟩=>⟨an,ao,u,ap,Jt D ar,au⟩)⟩ ⟨g.os,g.tape,g.output,g.size,fun av ax _=>g.block av ax (fun e=>by cases e)⟩ (Or.inr al)
theorem G2(xs:List Int)(m:Int)(i:Nat)(a:i<xs.length):(aE (List.replicate i m++xs.drop i)).set i (.int .i64 m)=aE (List.replicate (i+1) m++xs.drop (i+1)):=by
 have b:(List.replicate i m++xs.drop i).set i m=List.replicate (i+1) m++xs.drop (i+1):=by rw[KC _ _ (by simp),LW,Kv,Kz a,JX,LG,Kf];rfl
 rw[<-b,aE,aE,List.map_set]
def je(e:Value×Nat):List Value:=[e.1,.int .i64 (e.2:Nat)]
def dS(W:World)(lo:Nat)(t:TypeId)(v u:Value):Prop:=v=.slice none 0 0∨ ∃b a e c,v=.slice (some ⟨b,0,none⟩) a e/\lo<=b/\W.heap[b]? =some (.cells c t (0,0))/\a<=c.size/\a<=10000/\ ∀d,d<a->c[d]? =some u
theorem dS.turn{W W':World}{S:Nat->Prop}{lo:Nat}{t:TypeId}{v u:Value}(a:dS W lo t v u)(c:bw S W W')(d: ∀b,v.ownBlock=some b-> ¬S b):dS W' lo t v u:=by
 rcases a with a|⟨g,n,cap,cs,h1,h2,h3,h4⟩
 ·exact Or.inl a
 ·exact Or.inr ⟨g,n,cap,cs,h1,h2,(c.block g (aa h3) (d g (by rw[h1];rfl))).trans h3,h4⟩
theorem dS.below{W W':World}{lo:Nat}{t:TypeId}{v u:Value}(a:dS W lo t v u)(b:Below W.heap.size W W'):dS W' lo t v u:=by
 rcases a with a|⟨g,n,cap,cs,h1,h2,h3,h4⟩
 ·exact Or.inl a
 ·exact Or.inr ⟨g,n,cap,cs,h1,h2,(b.block g (aa h3)).trans h3,h4⟩
theorem dS.owns{W:World}{lo n:Nat}{t:TypeId}{v u:Value}(b:W.ownsRow lo t 1 v n (List.replicate n u))(hn:n<=10000):dS W lo t v u:=by
 rcases b.2 with⟨h0,-⟩|⟨g,cap,cur,h1,h2,h3,h4,h5,h6,h7⟩
 ·exact Or.inl h0
 ·refine Or.inr ⟨g,n,cap,cur,h1,h2,h3,by omega,hn,fun c d=>?_⟩;have a:(List.take (n*1) cur.toList)[c]? =some u:=by rw[h7];simp[d]
  rw[Kh (by omega)]at a
  simpa using a
theorem dS.piece{W:World}{lo n:Nat}{t:TypeId}{g b cap' cap:Nat}{u:Value}(c:W.ownsRow lo t 1 (.slice (some ⟨g,0,none⟩) n cap) n (List.replicate n u))(hn:n<=10000)(f:b<=n):dS W lo t (.slice (some ⟨g,0,none⟩) b cap') u:=by
 rcases dS.owns c hn with h0|⟨g',n9,cap9,cs,h1,h2,h3,h4,h5,h6⟩
 ·cases h0
 ·injection h1 with a d h;injection a with a;injection a with a;subst a d;exact Or.inr ⟨g,b,cap',cs,rfl,h2,h3,by omega,by omega,fun e i=>h6 e (by omega)⟩
structure lR(w W:World)(kb lo:Nat)(C:Value->Array Value)(t tE:TypeId)(es:List (Value×Nat))(v0 vI0 lv:Value)(n:Nat)(c:Value)(es':List (Value×Nat))(vI:Value):Prop where
 blk:W.heap[kb]? =some (.cells (C vI) 66 (0,0))
 own:W.ownsRow lo tE 2 vI (es.length+es'.length) ((es++es').flatMap je)
 row:W.ownsRow lo t 1 lv n (List.replicate n c)
 ent: ∀e∈es',e.2=es.length/\dS W lo t e.1 c/\(∀b,e.1.ownBlock=some b->v0.ownBlock=some b∨w.heap.size<=b)/\(∀g n' cap',e.1=.slice (some ⟨g,0,none⟩) n' cap'->lv.ownBlock=some g->n'<=n)
 lvb: ∀b,lv.ownBlock=some b->v0.ownBlock=some b∨w.heap.size<=b
 vIb: ∀b,vI.ownBlock=some b->vI0.ownBlock=some b∨w.heap.size<=b
 turn:bw (fun k=>k=kb∨vI0.ownBlock=some k∨v0.ownBlock=some k) w W
theorem G3(l:List (Value×Nat))(e:Value×Nat):(l++[e]).flatMap je=l.flatMap je++je e:=by simp
theorem lR.below{w W W':World}{f lo:Nat}{C:Value->Array Value}{t g:TypeId}{h:List (Value×Nat)}{i j k:Value}{n:Nat}{c:Value}{l:List (Value×Nat)}{m:Value}(a:lR w W f lo C t g h i j k n c l m)(b:Below W.heap.size W W'):lR w W' f lo C t g h i j k n c l m:=
 ⟨(b.block _ (aa a.blk)).trans a.blk,dJ a.own b,dJ a.row b,fun e d=>⟨(a.ent e d).1,(a.ent e d).2.1.below b,(a.ent e d).2.2⟩,a.lvb,a.vIb,a.turn.trans (bw.below b) (fun _ _ e=>e)⟩
theorem lR.grow{w W W':World}{r lo:Nat}{C:Value->Array Value}{t s:TypeId}{z:List (Value×Nat)}{A B:Value}{D:Option Addr}{n cap:Nat}{c:Value}{E:List (Value×Nat)}{F:Value}(d:lR w W r lo C t s z A B (.slice D n cap) n c E F){g cap':Nat}(u:W'.ownsRow lo t 1 (.slice (some ⟨g,0,none⟩) (n+1) cap') (n+1) (List.replicate n c++[c]))(j:W.grownBy W' (some g))(k:D=some ⟨g,0,none⟩∨W.heap.size<=g)(hn:n+1<=10000)(K:t≠s)(L:t≠66)(Q:w.heap.size<=W.heap.size):lR w W' r lo C t s z A B (.slice (some ⟨g,0,none⟩) (n+1) cap') (n+1) c E F:=by
 have l:bw (fun e=>e=g) W W':=⟨j.os,j.tape,j.output,j.size,fun e m hn=>j.block e m (fun f=>hn (by injection f))⟩
 have G: ∀e i v,W.heap[e]? =some (.cells i v (0,0))->t≠v->e≠g:=fun e i v m M f=>by
  rcases k with ha|ha
  ·subst ha;obtain⟨R,x⟩:=aO d.row (b:=g) rfl;exact dM x m M f.symm
  ·have:=aa m;omega
 rw[<-LG]at u;refine⟨(l.block r (aa d.blk) (G _ _ _ d.blk L)).trans d.blk,cE d.own l (fun b o=>?_),u,fun f N=>?_,fun b o=>?_,d.vIb,?_⟩
 ·obtain⟨i,x⟩:=aO d.own o;exact G _ _ _ x K
 ·obtain⟨O,H,P,I⟩:=d.ent f N;refine⟨O,?_,P,fun h p q a y=>?_⟩
  ·rcases H with h0|⟨h,p,q,i,a,y,e3,e4,e5,e6⟩
   ·exact Or.inl h0
   ·by_cases J:h=g
    ·subst J;rcases k with ha|ha
     ·rw[a];exact dS.piece u hn (by have:=I h p q a (by rw[ha];rfl);omega)
     ·have:=aa e3;omega
    ·exact Or.inr ⟨h,p,q,i,a,y,(l.block h (aa e3) J).trans e3,e4,e5,e6⟩
  ·obtain rfl:g=h:=by simpa [Value.ownBlock]using y
   rcases k with ha|ha
   ·have:=I g p q a (by rw[ha];rfl);omega
   ·rcases H with h0|⟨h,n9,cap8,i,e3,e4,e5,-⟩
    ·rw[h0]at a;cases a
    ·rw[e3]at a;injection a with a;injection a with a;injection a with a;have:=aa e5;omega
 ·obtain rfl:g=b:=by simpa [Value.ownBlock]using o
  rcases k with ha|ha
  ·exact d.lvb g (by rw[ha];rfl)
  ·exact Or.inr (by omega)
 ·refine d.turn.trans l (fun b o f=>?_);subst f;rcases k with ha|ha
  ·rcases d.lvb b (by rw[ha];rfl)with h9|h9
   ·exact Or.inr (Or.inr h9)
   ·omega
  ·omega
theorem lR.kept{w W W':World}{d lo:Nat}{C:Value->Array Value}{t h:TypeId}{j:List (Value×Nat)}{k l m:Value}{n:Nat}{c:Value}{o:List (Value×Nat)}{e:Option Addr}{i cap:Nat}(a:lR w W d lo C t h j k l m n c o (.slice e i cap)){g:Nat}(p:W.grownBy W' (some g))(q:e=some ⟨g,0,none⟩∨W.heap.size<=g)(r:h≠66):W'.heap[d]? =some (.cells (C (.slice e i cap)) 66 (0,0)):=by
 refine(p.block d (aa a.blk) (fun f=>?_)).trans a.blk;injection f with f;rcases q with ha|ha
 ·subst ha;obtain⟨u,s⟩:=aO a.own (b:=g) rfl;exact dM s a.blk r f.symm
 ·have:=aa a.blk;omega
theorem lR.push{w W W':World}{j lo:Nat}{C:Value->Array Value}{t l:TypeId}{e:List (Value×Nat)}{E F m:Value}{n:Nat}{c:Value}{i:List (Value×Nat)}{v:Option Addr}{G cap:Nat}(d:lR w W j lo C t l e E F m n c i (.slice v G cap)){g cap':Nat}(O:W'.ownsRow lo l 2 (.slice (some ⟨g,0,none⟩) (e.length+i.length+1) cap') (e.length+i.length+1) ((e++i).flatMap je++[m,.int .i64 (e.length:Nat)]))(p:W.grownBy W' (some g))(x:v=some ⟨g,0,none⟩∨W.heap.size<=g)(P:t≠l)(H:l≠66)(ae:w.heap.size<=W.heap.size){o:Nat}(Q:(C (.slice v G cap)).setIfInBounds o (.slice (some ⟨g,0,none⟩) (e.length+i.length+1) cap')=C (.slice (some ⟨g,0,none⟩) (e.length+i.length+1) cap'))(hn:n<=10000)(R:t≠66):
  lR w (W'.setCell ⟨j,o,none⟩ (.slice (some ⟨g,0,none⟩) (e.length+i.length+1) cap')) j lo C t l e E F m n c (i++[(m,e.length)]) (.slice (some ⟨g,0,none⟩) (e.length+i.length+1) cap'):=by
 have I:bw (fun h=>h=g) W W':=⟨p.os,p.tape,p.output,p.size,fun h s hn=>p.block h s (fun a=>hn (by injection a))⟩
 have y: ∀h k z,W.heap[h]? =some (.cells k z (0,0))->l≠z->h≠g:=fun h k z s T a=>by
  rcases x with ha|ha
  ·subst ha;obtain⟨aj,A⟩:=aO d.own (b:=g) rfl;exact dM A s T a.symm
  ·have:=aa s;omega
 have V:=(I.block j (aa d.blk) (y _ _ _ d.blk H)).trans d.blk;have X:j≠g:=y _ _ _ d.blk H;have B:bw (fun h=>h=g∨h=j) W (W'.setCell ⟨j,o,none⟩ (.slice (some ⟨g,0,none⟩) (e.length+i.length+1) cap')):=(I.mono (fun _ a=>Or.inl a)).trans (bw.set (S:=fun h=>h=j) rfl _) (fun _ _ a=>Or.inr a)
 have J: ∀b k,W.heap[b]? =some (.cells k t (0,0))-> ¬(b=g∨b=j):=fun b k f a=>by
  rcases a with a|a
  ·exact y _ _ _ f (fun a=>P a.symm) a
  ·exact dM f d.blk R a
 have K:(W'.setCell ⟨j,o,none⟩ (.slice (some ⟨g,0,none⟩) (e.length+i.length+1) cap')).ownsRow lo t 1 m n (List.replicate n c):=cE d.row B (fun b f=>by obtain⟨k,A⟩:=aO d.row f;exact J b k A);refine⟨?_,?_,K,fun a q=>?_,d.lvb,fun b f=>?_,?_⟩
 ·rw[am V,Q]
 ·rw[Jk,JZ,<-MA,<-Kf,G3];exact yT O X _
 ·rcases JW.1 q with q|q
  ·obtain⟨Y,L,Z,ac⟩:=d.ent a q;refine⟨Y,L.turn B (fun b f=>?_),Z,ac⟩;rcases L with h0|⟨D,M,N,k,r,ad,u,-⟩
   ·rw[h0]at f;cases f
   ·rw[r]at f;injection f with f;subst f;exact J D k u
  ·obtain rfl:a=(m,e.length):=by simpa using q
   refine⟨rfl,dS.owns K hn,d.lvb,fun D M N r ad=>?_⟩;rcases d.row.2 with⟨h0,-⟩|⟨g8,cap8,cur,h1,-⟩
   ·rw[h0]at r;cases r
   ·have u:(Value.slice (some ⟨g8,0,none⟩) n cap8)=.slice (some ⟨D,0,none⟩) M N:=h1.symm.trans r;injection u with _ u _;omega
 ·obtain rfl:g=b:=by simpa [Value.ownBlock]using f
  rcases x with ha|ha
  ·exact d.vIb g (by rw[ha];rfl)
  ·exact Or.inr (by omega)
 ·refine d.turn.trans B (fun b f a=>?_);rcases a with a|a
  ·subst a;rcases x with ha|ha
   ·rcases d.vIb b (by rw[ha];rfl)with h9|h9
    ·exact Or.inr (Or.inl h9)
    ·omega
   ·omega
  ·exact Or.inl a
theorem qS{W:World}{g:Nat}{cs:Array Value}{t:TypeId}(a:W.heap[g]? =some (.cells cs t (0,0))){l:List Value}(b:cs=l.toArray)(j:Nat)(u:Value)(c:l[j]? =some u):W.cell? ((⟨g,0,none⟩:Addr).add j)=some u:=by
 rw[Addr.add_lit,JV,(blk a).1 j,b]
 simpa using c
theorem uP{v:Value}(d: ∃a n c,v=.slice a n c)(k:Int): ∀u∈ [v,.int .i64 k],u.oneCell'=true:=by
 obtain⟨a,n,c,rfl⟩:=d;intro u b;rcases JG.1 b with rfl|b
 ·rfl
 ·obtain rfl:u=.int .i64 k:=by simpa using b
  rfl
theorem Ip:(prog.info? 148).map (fun i=>(i.zero,i.size,i.bytes))=some (some (.agg #[.slice none 0 0,.int .i64 0]),2,32):=by kernel_rfl
theorem Aj(w:World)(r lo:Nat)(O P Q:Value)(a:List (Value×Nat))(x:w.heap[r]? =some (.cells #[O,P,Q,.slice none 0 0] 66 (0,0)))(b5:lo<=w.heap.size)(ad:w.ownsRow lo 148 2 O a.length (a.flatMap je))(b6:a.length<=1000000000000)(v:Value)(xs:List Int)(ae:w.ownsRow lo 3 1 v xs.length (aE xs))(b7:xs.length<=6):
  Calls prog 90 #[.pointer (some ⟨r,0,none⟩),v] w fun e w'=>e=.returned (.tuple #[])/\ ∃aj l,w'.heap[r]? =some (.cells #[aj,P,Q,.slice none 0 0] 66 (0,0))/\w'.ownsRow lo 148 2 aj (a.length+4) ((a++l).flatMap je)/\l.length=4/\(∀e∈l,e.2=a.length/\dS w' lo 3 e.1 (.int .i64 (-1-(a.length:Int)))/\ ∀b,e.1.ownBlock=some b->v.ownBlock=some b∨w.heap.size<=b)/\(∀b,aj.ownBlock=some b->O.ownBlock=some b∨w.heap.size<=b)/\bw (fun k=>k=r∨O.ownBlock=some k∨v.ownBlock=some k) w w':=by
 obtain⟨A,B,rfl⟩:=bi ad;obtain⟨m,f,rfl⟩:=bi ae;obtain⟨bk,bl⟩:=blk x;have b9:=aa x;obtain⟨R,ak,al⟩:=aC x ad ae;clear x ad ae;go_enter func90,ntmps90;go_wp2_with fail
 go_loopg [5] xs.length (fun an ao y=> ∃(d:Nat),d+an=xs.length/\ao=.int .i64 (d:Nat)/\y.ownsRow lo 3 1 (.slice m xs.length f) xs.length (aE (List.replicate d (-1-(a.length:Int))++xs.drop d))/\bw (fun k=>(Value.slice m xs.length f).ownBlock=some k) w y/\y.heap.size=w.heap.size)
 case atStart=>exact⟨0,by omega,rfl,by simpa using U al,bw.refl _ _,rfl⟩
 case round=>
  obtain⟨d,b',rfl,hz,s,ap⟩:=hrel;obtain⟨aJ,aL,bn⟩:=aC hz s ap;by_cases bq:d<xs.length
  ·have br:decide (d<xs.length)=true:=by simp;omega
   obtain⟨t,rfl⟩: ∃t,gk=t+1:=⟨gk-1,by omega⟩
   rcases hz.2 with⟨h0,h00⟩|⟨g,cap',cur,T,ar,h3,h4,h5,h6,h7⟩
   ·omega
   injection T with bs bt bu;subst bs bu;clear bt;obtain⟨aN,ca⟩:=blk h3;have cb:=aa h3;have C:d<cur.size:=by omega
   have cc:wr.cell? ⟨g,d,none⟩=some cur[d]:=by rw[aN d];simp[C]
   have cd:(0:Int)<=(d:Int):=by omega
   have ce:(d:Int)<(xs.length:Int):=by omega
   obtain⟨bv,bx⟩:=ag (so hz d (.int .i64 (-1-(a.length:Int)))) (G2 xs (-1-(a.length:Int)) d bq);have bz:Hid (bw (fun k=>(Value.slice (some ⟨g,0,none⟩) xs.length f).ownBlock=some k) w (wr.setCell ⟨g,d,none⟩ (.int .i64 (-1-(a.length:Int))))):=s.trans (bw.set (S:=fun k=>(Value.slice (some ⟨g,0,none⟩) xs.length f).ownBlock=some k) rfl _) (fun _ _ e=>e);clear hz s ap h3 h7 aN aL aJ;go_wp2;go_roundg t
   case measure=>simp
   case rel=>exact⟨d+1,by omega,by go_num,by rw[<-U bx];exact U bv,bz,by simpa [World.setCell]using U bn⟩
  ·have br:decide (d<xs.length)=false:=by simp;omega
   obtain rfl:d=xs.length:=by omega
   have V:lR w wr r lo (fun au=> #[au,P,Q,.slice none 0 0]) 3 148 a (.slice m xs.length f) (.slice A a.length B) (.slice m xs.length f) xs.length (.int .i64 (-1-(a.length:Int))) [] (.slice A a.length B):=by
    have T: ∀k av ax,w.heap[k]? =some (.cells av ax (0,0))->3≠ax-> ¬(Value.slice m xs.length f).ownBlock=some k:=fun k av ax x bA e=>by obtain⟨cf,C⟩:=aO al e;exact dM C x bA rfl
    refine⟨(s.block r (aa R) (T _ _ _ R (by decide))).trans R,?_,?_,(fun e D=>by cases D),fun b E=>Or.inl E,fun b E=>Or.inl E,s.mono (fun b e=>Or.inr (Or.inr e))⟩
    ·rw[JD];exact cE ak s (fun b E=>by obtain⟨av,C⟩:=aO ak E;exact T _ _ _ C (by decide))
    ·have ar:=hz;rw[List.drop_length,JD,aE,List.map_replicate]at ar;exact ar
   have i:=ab V;obtain⟨bF,aR,F⟩:=Jq.1 mw;simp only[JB]at F;obtain⟨G,H,I⟩:=F;obtain⟨bG,bJ,bL,bN⟩:=aP aR G H I;clear aR G H I;obtain⟨aT,aU,F⟩:=Jq.1 Ip;simp only[JB]at F;obtain⟨G,H,I⟩:=F;obtain⟨aV,a0,a1,a2⟩:=aP aU G H I;clear aU G H I;obtain⟨ay,aA⟩:=blk V.blk;have bS:=aa V.blk;have cg:w.heap.size<=wr.heap.size:=by omega
   clear hz s V bk bl aJ aL al ak R ap;have p:=ab (i.below ((Jj _ _).alloc (Ji _) (.cells #[.slice m xs.length f,.int .i64 (a.length:Nat)] 148)));have a3:Hid ((wr.alloc (.cells #[.slice m xs.length f,.int .i64 (a.length:Nat)] 148)).ownsRow lo 148 2 (.slice A a.length B) a.length (a.flatMap je)):=by unfold Hid;simpa using p.own
   go_wp2_with (at_builtin;refine eM _ rfl _ _ 61 rfl lo 148 aT (.agg #[.slice none 0 0,.int .i64 0]) 2 32 underlying61 aV a0 a1 a2 rfl (by decide) A a.length B _ rfl a3 ⟨wr.heap.size,0,none⟩ 1 1 [.slice m xs.length f,.int .i64 (a.length:Nat)] rfl rfl ?c1 ?c2 (by decide) ?c3 ?c4 ?c5 ?_)
   case c1=>exact qS (af rfl) rfl
   case c2=>exact uP ⟨_,_,_,rfl⟩ _
   case c3=>unfold maxLen;omega
   case c4=>omega
   case c5=>simp;omega
   intro g a4 bX q j n;have J:=ab (p.push (g:=g) (cap':=a4) (W':=bX) (o:=0) (by simpa using q) j (by simpa using n) (by decide) (by decide) (by simp;omega) rfl (by omega) (by decide));have u:=p.kept j (by simpa using n) (by decide);obtain⟨a5,a9⟩:=blk u;have a':=aa u;clear q j n u i p a3 ay aA;go_wp2_with fail
   go_loopg [1,6] 3 (fun an b0 ao y=> ∃(c:Nat) (W:Option Addr) (X:Nat) (l:List (Value×Nat)) (Y:Option Addr) (Z:Nat),c+an=3/\ao=.int .i64 (c:Nat)/\b0=.slice W (xs.length+c) X/\l.length=c+1/\lR w y r lo (fun au=> #[au,P,Q,.slice none 0 0]) 3 148 a (.slice m xs.length f) (.slice A a.length B) (.slice W (xs.length+c) X) (xs.length+c) (.int .i64 (-1-(a.length:Int))) l (.slice Y (a.length+c+1) Z)/\w.heap.size<=y.heap.size)
   case atStart=>exact⟨0,m,f,_,some ⟨g,0,none⟩,a4,by omega,rfl,rfl,rfl,by simpa using U J,J.turn.size⟩
   case round=>
    obtain⟨c,W,X,l,Y,Z,ch,rfl,rfl,z,hz,ci⟩:=hrel;have i:=ab hz;obtain⟨ay,aA⟩:=blk hz.blk;have bS:=aa hz.blk;have cj:lo<=wr.heap.size:=by omega
    clear J a5 a9 a';by_cases cl:c<3
    ·have b1:decide ((c:Int)<3)=true:=by simp;omega
     obtain⟨t,rfl⟩: ∃t,gk=t+1:=⟨gk-1,by omega⟩
     have p:=ab (i.below ((Jj _ _).alloc (Ji _) (.cells #[.int .i64 (-1-(a.length:Int))] 3)));clear hz;go_wp2_with (at_builtin;refine eM _ rfl _ _ 32 rfl lo 3 bF (.int .i64 0) 1 8 underlying32 bG bJ bL bN rfl (by decide) W (xs.length+c) X _ rfl p.row ⟨wr.heap.size,0,none⟩ 1 1 [.int .i64 (-1-(a.length:Int))] rfl rfl ?c1 ?c2 (by decide) ?c3 ?c4 ?c5 ?_)
     case c1=>exact ge (af rfl)
     case c2=>exact BL _
     case c3=>unfold maxLen;omega
     case c4=>omega
     case c5=>simp;omega
     intro K L aI q j n;have M:=p.grow q j (by simpa using n) (by omega) (by decide) (by decide) (by simp;omega);have ba:=ab M;obtain⟨b2,b3⟩:=blk M.blk;have cp:=aa M.blk;have cq:w.heap.size<=aI.heap.size:=M.turn.size;have ac:=ab (ba.below ((Jj _ _).alloc (Ji _) (.cells #[.slice (some ⟨K,0,none⟩) (xs.length+c+1) L,.int .i64 (a.length:Nat)] 148)));have bb:Hid ((aI.alloc (.cells #[.slice (some ⟨K,0,none⟩) (xs.length+c+1) L,.int .i64 (a.length:Nat)] 148)).ownsRow lo 148 2 (.slice Y (a.length+c+1) Z) (a.length+c+1) ((a++l).flatMap je)):=by have N:=ac.own;rw[z,<-MA]at N;exact N
     clear q j n M i p ay aA;go_wp2_with (at_builtin;refine eM _ rfl _ _ 61 rfl lo 148 aT (.agg #[.slice none 0 0,.int .i64 0]) 2 32 underlying61 aV a0 a1 a2 rfl (by decide) Y (a.length+c+1) Z _ rfl bb ⟨aI.heap.size,0,none⟩ 1 1 [.slice (some ⟨K,0,none⟩) (xs.length+c+1) L,.int .i64 (a.length:Nat)] rfl rfl ?c1 ?c2 (by decide) ?c3 ?c4 ?c5 ?_)
     case c1=>exact qS (af rfl) rfl
     case c2=>exact uP ⟨_,_,_,rfl⟩ _
     case c3=>unfold maxLen;omega
     case c4=>omega
     case c5=>simp;omega
     intro bc be bg q j n;have J:=ab (ac.push (g:=bc) (cap':=be) (W':=bg) (o:=0) (by rw[z,<-MA,List.flatMap_append,Kf];exact q) j (by simpa using n) (by decide) (by decide) (by simp;omega) rfl (by omega) (by decide));have u:=ac.kept j (by simpa using n) (by decide);obtain⟨a5,a9⟩:=blk u;have a':=aa u;have b4:w.heap.size<=bg.heap.size:=by have:=j.size;simp at this;omega
     clear q j n u ac bb b2 b3 ba;go_wp2;go_roundg t
     case measure=>simp
     case rel=>exact⟨c+1,some ⟨K,0,none⟩,L,l++[(.slice (some ⟨K,0,none⟩) (xs.length+c+1) L,a.length)],some ⟨bc,0,none⟩,be,by omega,by go_num,rfl,by rw[Jk,z];rfl,by have N:=U J;rw[z,<-MA]at N;exact N,by simpa [World.setCell]using b4⟩
    ·have b1:decide ((c:Int)<3)=false:=by simp;omega
     obtain rfl:c=3:=by omega
     clear hz;go_wp2;go_end0;exact⟨rfl,_,l,i.blk,by have:=i.own;rw[z]at this;exact this,z,fun e D=>⟨(i.ent e D).1,(i.ent e D).2.1,(i.ent e D).2.2.1⟩,i.vIb,i.turn⟩
theorem IP(w:World)(b:Nat)(c:UInt8)(n:Int)(hn:n=c.toNat)(d:w.cell? ⟨b,0,none⟩=some (.int .u8 n)):(convert 89 9 (.slice (some ⟨b,0,none⟩) 1 1)).run prog w=.ok (.string ⟨#[c]⟩) w:=by
 subst hn;refine Lib.run_convert_whole (P:=prog) w 89 5 9 underlying89 underlying5 underlying9 b 0 ⟨#[c]⟩ (fun a e=>?_) 1;have f:a=0:=by have:a<1:=e;omega
 subst f;exact d
theorem IT{n:Nat}(a:n<10):((UInt8.ofNat (48+n)).toNat:Int)=48+(n:Int):=by rw[UInt8.toNat_ofNat',Nat.mod_eq_of_lt (by omega)];omega
def gu(k:Nat):Nat->ByteArray×Nat
 |0=>(⟨#[109,97,114,107]⟩,k)
 |i+1=>((gu k i).1++⟨#[UInt8.ofNat (48+(gu k i).2%10)]⟩,(gu k i).2/10)
def jb(k:Nat):ByteArray:=(gu k 8).1
theorem tZ(k:Nat): ∀i,(gu k i).1.size=4+i/\(gu k i).2<=k
 |0=>⟨rfl,Ji _⟩
 |i+1=>by
  obtain⟨a,b⟩:=tZ k i;refine⟨?_,Jt (Nat.div_le_self _ _) b⟩
  show((gu k i).1++⟨#[UInt8.ofNat (48+(gu k i).2%10)]⟩).size=_
  rw[ByteArray.size_append,a];rfl
theorem pp(k:Nat)(x:k<=1000000000)(w:World):Calls prog 56 #[.int .i64 (k:Nat)] w fun e w'=>e=.returned (.string (jb k))/\Below w.heap.size w w':=by
 go_enter func56,ntmps56;go_wp2_with fail
 go_loopg [0,3,4] 8 (fun o p q r c=> ∃(a:Nat),a+o=8/\r=.int .i64 (a:Nat)/\p=.int .i64 ((gu k a).2:Nat)/\q=.string (gu k a).1/\Below w.heap.size w c)
 case atStart=>exact⟨0,by omega,rfl,rfl,rfl,Jj _ _⟩
 case round=>
  obtain⟨a,y,rfl,rfl,rfl,g⟩:=hrel;have i:=ab g;have s:=g.size;clear g;by_cases z:a<8
  ·have t:decide ((a:Int)<8)=true:=by simp;omega
   obtain⟨hz,rfl⟩: ∃hz,gk=hz+1:=⟨gk-1,by omega⟩
   have j:Hid (gu k (a+1)=((gu k a).1++⟨#[UInt8.ofNat (48+(gu k a).2%10)]⟩,(gu k a).2/10)):=rfl;obtain⟨A,B⟩:=tZ k a;generalize(gu k a).1=C at*;generalize(gu k a).2=b at*;have D:(b:Int).tmod 10=((b%10:Nat):Int):=by rw[Mc (by omega)];omega
   have E:(b:Int).tdiv 10=((b/10:Nat):Int):=by rw[Md (by omega)];omega
   have u:b%10<10:=Nat.mod_lt _ (by omega);have F:b/10<=b:=Nat.div_le_self _ _;generalize b%10=d at*;generalize b/10=l at*;have m:=(IT u).symm;generalize UInt8.ofNat (48+d)=n at*;have G: ∀(c:World) (f:Nat),c.cell? ⟨f,0,none⟩=some (.int .u8 (48+(d:Int)))->Sem.run prog (convert 89 9 (.slice (some ⟨f,0,none⟩) 1 1)) c=.ok (.string ⟨#[n]⟩) c:=fun c f v=>IP c f n (48+(d:Int)) m v;have H:IntKind.u8.wrap (48+(d:Int))=48+(d:Int):=by unfold IntKind.wrap;simp[IntKind.bits,IntKind.signed];omega
   have I:IntKind.i64.wrap (l:Int)=(l:Int):=by unfold IntKind.wrap;simp[IntKind.bits,IntKind.signed];omega
   clear m;go_wp2;go_roundg hz
   case measure=>simp
   case rel=>exact⟨a+1,by omega,by go_num,by rw[U j],by rw[U j],i.alloc s _⟩
  ·have t:decide ((a:Int)<8)=false:=by simp;omega
   obtain rfl:a=8:=by omega
   go_wp2;go_ret;exact⟨rfl,i⟩
theorem FJ(xs:List ByteArray)(m:ByteArray)(i:Nat)(a:i<xs.length):(aB (List.replicate i m++xs.drop i)).set i (.string m)=aB (List.replicate (i+1) m++xs.drop (i+1)):=by
 have b:(List.replicate i m++xs.drop i).set i m=List.replicate (i+1) m++xs.drop (i+1):=by rw[KC _ _ (by simp),LW,Kv,Kz a,JX,LG,Kf];rfl
 rw[<-b,aB,aB,List.map_set]
theorem Iq:(prog.info? 150).map (fun i=>(i.zero,i.size,i.bytes))=some (some (.agg #[.slice none 0 0,.int .i64 0]),2,32):=by kernel_rfl
theorem yU(w:World)(t lo:Nat)(Q R T:Value)(a:List (Value×Nat))(z:w.heap[t]? =some (.cells #[Q,R,T,.slice none 0 0] 66 (0,0)))(cb:lo<=w.heap.size)(aj:w.ownsRow lo 150 2 R a.length (a.flatMap je))(aN:a.length<=1000000000)(v:Value)(xs:List ByteArray)(ak:w.ownsRow lo 9 1 v xs.length (aB xs))(cc:xs.length<=6):
  Calls prog 54 #[.pointer (some ⟨t,0,none⟩),v] w fun e w'=>e=.returned (.tuple #[])/\ ∃al m,w'.heap[t]? =some (.cells #[Q,al,T,.slice none 0 0] 66 (0,0))/\w'.ownsRow lo 150 2 al (a.length+4) ((a++m).flatMap je)/\m.length=4/\(∀e∈m,e.2=a.length/\dS w' lo 9 e.1 (.string (jb a.length))/\ ∀b,e.1.ownBlock=some b->v.ownBlock=some b∨w.heap.size<=b)/\(∀b,al.ownBlock=some b->R.ownBlock=some b∨w.heap.size<=b)/\bw (fun k=>k=t∨R.ownBlock=some k∨v.ownBlock=some k) w w':=by
 obtain⟨C,D,rfl⟩:=bi aj;obtain⟨n,hz,rfl⟩:=bi ak;obtain⟨bt,bu⟩:=blk z;have cd:=aa z;obtain⟨V,an,ao⟩:=aC z aj ak;clear z aj ak;go_enter func54,ntmps54;go_wp2_with fail
 go_loopg [5] xs.length (fun ap ar A=> ∃(d:Nat),d+ap=xs.length/\ar=.int .i64 (d:Nat)/\A.ownsRow lo 9 1 (.slice n xs.length hz) xs.length (aB (List.replicate d (jb a.length)++xs.drop d))/\bw (fun k=>(Value.slice n xs.length hz).ownBlock=some k) w A/\w.heap.size<=A.heap.size)
 case atStart=>exact⟨0,by omega,rfl,by simpa using U ao,bw.refl _ _,Ji _⟩
 case round=>
  obtain⟨d,ce,rfl,f,j,au⟩:=hrel;obtain⟨aR,aT,cf⟩:=aC f j au;by_cases bv:d<xs.length
  ·have bx:decide (d<xs.length)=true:=by simp;omega
   obtain⟨u,rfl⟩: ∃u,gk=u+1:=⟨gk-1,by omega⟩
   clear aR aT;obtain⟨aU,aV⟩:=ag f j;clear f j;go_wp2_with fail;refine(pp a.length aN wr).mono ?_;rintro e x ⟨rfl,q⟩;have f:=dJ aU q;have j:=aV.trans (bw.below q) (fun _ _ e=>e);have bz:w.heap.size<=x.heap.size:=j.size;clear q aU aV au;rcases f.2 with⟨h0,h00⟩|⟨g,cap',cur,W,av,h3,h4,h5,h6,h7⟩
   ·omega
   injection W with bA bF bG;subst bA bG;clear bF;obtain⟨a0,cg⟩:=blk h3;have ch:=aa h3;have E:d<cur.size:=by omega
   have ci:x.cell? ⟨g,d,none⟩=some cur[d]:=by rw[a0 d];simp[E]
   have cj:(0:Int)<=(d:Int):=by omega
   have cl:(d:Int)<(xs.length:Int):=by omega
   obtain⟨bJ,bL⟩:=ag (so f d (.string (jb a.length))) (FJ xs (jb a.length) d bv);have bN:Hid (bw (fun k=>(Value.slice (some ⟨g,0,none⟩) xs.length hz).ownBlock=some k) w (x.setCell ⟨g,d,none⟩ (.string (jb a.length)))):=j.trans (bw.set (S:=fun k=>(Value.slice (some ⟨g,0,none⟩) xs.length hz).ownBlock=some k) rfl _) (fun _ _ e=>e);clear f j h3 h7 a0;go_wp2;go_roundg u
   case measure=>simp
   case rel=>exact⟨d+1,by omega,by go_num,by rw[<-U bL];exact U bJ,bN,by simpa [World.setCell]using bz⟩
  ·have bx:decide (d<xs.length)=false:=by simp;omega
   obtain rfl:d=xs.length:=by omega
   have X:lR w wr t lo (fun ax=> #[Q,ax,T,.slice none 0 0]) 9 150 a (.slice n xs.length hz) (.slice C a.length D) (.slice n xs.length hz) xs.length (.string (jb a.length)) [] (.slice C a.length D):=by
    have W: ∀k ay aA,w.heap[k]? =some (.cells ay aA (0,0))->9≠aA-> ¬(Value.slice n xs.length hz).ownBlock=some k:=fun k ay aA z bS e=>by obtain⟨cp,E⟩:=aO ao e;exact dM E z bS rfl
    refine⟨(j.block t (aa V) (W _ _ _ V (by decide))).trans V,?_,?_,(fun e F=>by cases F),fun b G=>Or.inl G,fun b G=>Or.inl G,j.mono (fun b e=>Or.inr (Or.inr e))⟩
    ·rw[JD];exact cE an j (fun b G=>by obtain⟨ay,E⟩:=aO an G;exact W _ _ _ E (by decide))
    ·have av:=f;rw[List.drop_length,JD,aB,List.map_replicate]at av;exact av
   have i:=ab X;obtain⟨bX,a1,H⟩:=Jq.1 lh;simp only[JB]at H;obtain⟨I,J,K⟩:=H;obtain⟨b0,b1,b2,b3⟩:=aP a1 I J K;clear a1 I J K;obtain⟨a2,a3,H⟩:=Jq.1 Iq;simp only[JB]at H;obtain⟨I,J,K⟩:=H;obtain⟨a4,a5,a9,a'⟩:=aP a3 I J K;clear a3 I J K;obtain⟨aI,aJ⟩:=blk X.blk;have b4:=aa X.blk;have cq:w.heap.size<=wr.heap.size:=by omega
   clear f j X bt bu aR aT ao an V au;have r:=ab (i.below ((Jj _ _).alloc (Ji _) (.cells #[.slice n xs.length hz,.int .i64 (a.length:Nat)] 150)));have ba:Hid ((wr.alloc (.cells #[.slice n xs.length hz,.int .i64 (a.length:Nat)] 150)).ownsRow lo 150 2 (.slice C a.length D) a.length (a.flatMap je)):=by unfold Hid;simpa using r.own
   go_wp2_with (at_builtin;refine eM _ rfl _ _ 62 rfl lo 150 a2 (.agg #[.slice none 0 0,.int .i64 0]) 2 32 underlying62 a4 a5 a9 a' rfl (by decide) C a.length D _ rfl ba ⟨wr.heap.size,0,none⟩ 1 1 [.slice n xs.length hz,.int .i64 (a.length:Nat)] rfl rfl ?c1 ?c2 (by decide) ?c3 ?c4 ?c5 ?_)
   case c1=>exact qS (af rfl) rfl
   case c2=>exact uP ⟨_,_,_,rfl⟩ _
   case c3=>unfold maxLen;omega
   case c4=>omega
   case c5=>simp;omega
   intro g bb b5 s l p;have L:=ab (r.push (g:=g) (cap':=bb) (W':=b5) (o:=1) (by simpa using s) l (by simpa using p) (by decide) (by decide) (by simp;omega) rfl (by omega) (by decide));have y:=r.kept l (by simpa using p) (by decide);obtain⟨bc,be⟩:=blk y;have bg:=aa y;clear s l p y i r ba aI aJ;go_wp2_with fail
   go_loopg [1,6] 3 (fun ap b6 ar A=> ∃(c:Nat) (Y:Option Addr) (Z:Nat) (m:List (Value×Nat)) (ac:Option Addr) (ad:Nat),c+ap=3/\ar=.int .i64 (c:Nat)/\b6=.slice Y (xs.length+c) Z/\m.length=c+1/\lR w A t lo (fun ax=> #[Q,ax,T,.slice none 0 0]) 9 150 a (.slice n xs.length hz) (.slice C a.length D) (.slice Y (xs.length+c) Z) (xs.length+c) (.string (jb a.length)) m (.slice ac (a.length+c+1) ad)/\w.heap.size<=A.heap.size)
   case atStart=>exact⟨0,n,hz,_,some ⟨g,0,none⟩,bb,by omega,rfl,rfl,rfl,by simpa using U L,L.turn.size⟩
   case round=>
    obtain⟨c,Y,Z,m,ac,ad,cr,rfl,rfl,B,f,cs⟩:=hrel;have i:=ab f;obtain⟨aI,aJ⟩:=blk f.blk;have b4:=aa f.blk;have ct:lo<=wr.heap.size:=by omega
    clear L bc be bg;by_cases cu:c<3
    ·have b7:decide ((c:Int)<3)=true:=by simp;omega
     obtain⟨u,rfl⟩: ∃u,gk=u+1:=⟨gk-1,by omega⟩
     clear f;go_wp2_with fail;refine(pp a.length aN wr).mono ?_;rintro e x ⟨rfl,q⟩;have bk:=ab (i.below q);have cv:lo<=x.heap.size:=by have:=q.size;omega
     have cz:w.heap.size<=x.heap.size:=by have:=q.size;omega
     clear q i;have r:=ab (bk.below ((Jj _ _).alloc (Ji _) (.cells #[.string (jb a.length)] 9)));go_wp2_with (at_builtin;refine eM _ rfl _ _ 39 rfl lo 9 bX (.string ⟨#[]⟩) 1 16 underlying39 b0 b1 b2 b3 rfl (by decide) Y (xs.length+c) Z _ rfl r.row ⟨x.heap.size,0,none⟩ 1 1 [.string (jb a.length)] rfl rfl ?c1 ?c2 (by decide) ?c3 ?c4 ?c5 ?_)
     case c1=>exact ge (af rfl)
     case c2=>exact tD _
     case c3=>unfold maxLen;omega
     case c4=>omega
     case c5=>simp;omega
     intro M N aL s l p;have O:=r.grow s l (by simpa using p) (by omega) (by decide) (by decide) (by simp;omega);have bl:=ab O;obtain⟨b9,b'⟩:=blk O.blk;have cF:=aa O.blk;have cI:w.heap.size<=aL.heap.size:=O.turn.size;have ae:=ab (bl.below ((Jj _ _).alloc (Ji _) (.cells #[.slice (some ⟨M,0,none⟩) (xs.length+c+1) N,.int .i64 (a.length:Nat)] 150)));have bn:Hid ((aL.alloc (.cells #[.slice (some ⟨M,0,none⟩) (xs.length+c+1) N,.int .i64 (a.length:Nat)] 150)).ownsRow lo 150 2 (.slice ac (a.length+c+1) ad) (a.length+c+1) ((a++m).flatMap je)):=by have P:=ae.own;rw[B,<-MA]at P;exact P
     clear s l p O bk r aI aJ;go_wp2_with (at_builtin;refine eM _ rfl _ _ 62 rfl lo 150 a2 (.agg #[.slice none 0 0,.int .i64 0]) 2 32 underlying62 a4 a5 a9 a' rfl (by decide) ac (a.length+c+1) ad _ rfl bn ⟨aL.heap.size,0,none⟩ 1 1 [.slice (some ⟨M,0,none⟩) (xs.length+c+1) N,.int .i64 (a.length:Nat)] rfl rfl ?c1 ?c2 (by decide) ?c3 ?c4 ?c5 ?_)
     case c1=>exact qS (af rfl) rfl
     case c2=>exact uP ⟨_,_,_,rfl⟩ _
     case c3=>unfold maxLen;omega
     case c4=>omega
     case c5=>simp;omega
     intro bq br bs s l p;have L:=ab (ae.push (g:=bq) (cap':=br) (W':=bs) (o:=1) (by rw[B,<-MA,List.flatMap_append,Kf];exact s) l (by simpa using p) (by decide) (by decide) (by simp;omega) rfl (by omega) (by decide));have y:=ae.kept l (by simpa using p) (by decide);obtain⟨bc,be⟩:=blk y;have bg:=aa y;have ca:w.heap.size<=bs.heap.size:=by have:=l.size;simp at this;omega
     clear s l p y ae bn b9 b' bl;go_wp2;go_roundg u
     case measure=>simp
     case rel=>exact⟨c+1,some ⟨M,0,none⟩,N,m++[(.slice (some ⟨M,0,none⟩) (xs.length+c+1) N,a.length)],some ⟨bq,0,none⟩,br,by omega,by go_num,rfl,by rw[Jk,B];rfl,by have P:=U L;rw[B,<-MA]at P;exact P,by simpa [World.setCell]using ca⟩
    ·have b7:decide ((c:Int)<3)=false:=by simp;omega
     obtain rfl:c=3:=by omega
     clear f;go_wp2;go_end0;exact⟨rfl,_,m,i.blk,by have:=i.own;rw[B]at this;exact this,B,fun e F=>⟨(i.ent e F).1,(i.ent e F).2.1,(i.ent e F).2.2.1⟩,i.vIb,i.turn⟩
def B8(W:World)(lo:Nat)(S:Nat->Prop)(e:Value×Nat):Prop:= ∃a,dS W lo 32 e.1 (.slice (some ⟨a,0,none⟩) 1 1)/\S a/\W.heap[a]? =some (.cells #[.int .i64 (-1-(e.2:Int))] 3 (0,0))
structure Bk(W:World)(kb lo:Nat)(S:Nat->Prop)(vI vT vR:Value)(es ts rs:List (Value×Nat)):Prop where
 blk:W.heap[kb]? =some (.cells #[vI,vT,vR,.slice none 0 0] 66 (0,0))
 oi:W.ownsRow lo 148 2 vI es.length (es.flatMap je)
 ot:W.ownsRow lo 150 2 vT ts.length (ts.flatMap je)
 or:W.ownsRow lo 152 2 vR rs.length (rs.flatMap je)
 ei: ∀e∈es,dS W lo 3 e.1 (.int .i64 (-1-(e.2:Int)))/\e.2<=es.length/\ ∀b,e.1.ownBlock=some b->S b
 et: ∀e∈ts,dS W lo 9 e.1 (.string (jb e.2))/\e.2<=ts.length/\ ∀b,e.1.ownBlock=some b->S b
 er: ∀e∈rs,B8 W lo S e/\e.2<=rs.length/\ ∀b,e.1.ownBlock=some b->S b
 fp:S kb/\(∀b,vI.ownBlock=some b->S b)/\(∀b,vT.ownBlock=some b->S b)/\(∀b,vR.ownBlock=some b->S b)
 st: ∀k,S k->lo<=k/\k<W.heap.size/\ ∃cs t,W.heap[k]? =some (.cells cs t (0,0))/\kT t=false
theorem dS.block{W:World}{lo:Nat}{t:TypeId}{v u:Value}(c:dS W lo t v u){b:Nat}(a:v.ownBlock=some b):lo<=b/\ ∃cs,W.heap[b]? =some (.cells cs t (0,0)):=by
 rcases c with c|⟨d,n,cap,cs,h1,h2,h3,-⟩
 ·rw[c]at a;cases a
 ·rw[h1]at a;obtain rfl:d=b:=by simpa [Value.ownBlock]using a
  exact⟨h2,cs,h3⟩
theorem B8.turn{W W':World}{S S' T:Nat->Prop}{lo:Nat}{e:Value×Nat}(g:B8 W lo S e)(d:bw T W W')(h: ∀b,e.1.ownBlock=some b-> ¬T b)(i: ∀b,S b->(∃cs,W.heap[b]? =some (.cells cs 3 (0,0)))-> ¬T b)(j: ∀b,S b->(∃cs,W.heap[b]? =some (.cells cs 3 (0,0)))->S' b):B8 W' lo S' e:=by obtain⟨a,k,f,c⟩:=g;exact⟨a,k.turn d h,j a f ⟨_,c⟩,(d.block a (aa c) (i a f ⟨_,c⟩)).trans c⟩
theorem Bk.turn{W W':World}{k lo:Nat}{S T:Nat->Prop}{m n o:Value}{p ts rs:List (Value×Nat)}(a:Bk W k lo S m n o p ts rs)(e:bw T W W')(f: ∀b,S b-> ¬T b):Bk W' k lo S m n o p ts rs:=by
 refine⟨(e.block k (aa a.blk) (f _ a.fp.1)).trans a.blk,cE a.oi e (fun b c=>f b (a.fp.2.1 b c)),cE a.ot e (fun b c=>f b (a.fp.2.2.1 b c)),cE a.or e (fun b c=>f b (a.fp.2.2.2 b c)),fun i j=>?_,fun i j=>?_,fun i j=>?_,a.fp,fun l q=>?_⟩
 ·obtain⟨h,g,d⟩:=a.ei i j;exact⟨h.turn e (fun b c=>f b (d b c)),g,d⟩
 ·obtain⟨h,g,d⟩:=a.et i j;exact⟨h.turn e (fun b c=>f b (d b c)),g,d⟩
 ·obtain⟨h,g,d⟩:=a.er i j;exact⟨h.turn e (fun b c=>f b (d b c)) (fun b c _=>f b c) (fun _ a _=>a),g,d⟩
 ·obtain⟨h,g,r,s,d,t⟩:=a.st l q;exact⟨h,Js g e.size,r,s,(e.block l g (f l q)).trans d,t⟩
theorem Bk.below{W W':World}{a lo:Nat}{S:Nat->Prop}{b c d:Value}{e ts rs:List (Value×Nat)}(f:Bk W a lo S b c d e ts rs)(g:Below W.heap.size W W'):Bk W' a lo S b c d e ts rs:=f.turn (T:=fun _=>False) (bw.below g) (fun _ _ h=>h)
theorem bw.old{S:Nat->Prop}{w w':World}(b:bw S w w'){k:Nat}{cs:Array Value}{t:TypeId}(a:w.heap[k]? =some (.cells cs t (0,0)))(hn: ¬S k):w'.heap[k]? =some (.cells cs t (0,0)):=(b.block k (aa a) hn).trans a
theorem G4(w:World)(p lo:Nat)(S:Nat->Prop)(q C D:Value)(A ts rs:List (Value×Nat))(g:Bk w p lo S q C D A ts rs)(L:lo<=w.heap.size)(X:A.length<=900000000000)(v:Value)(xs:List Int)(M:w.ownsRow lo 3 1 v xs.length (aE xs))(N:xs.length<=6)(I: ∀b,v.ownBlock=some b-> ¬S b):
  Calls prog 90 #[.pointer (some ⟨p,0,none⟩),v] w fun e w'=>e=.returned (.tuple #[])/\ ∃u x S',x.length=4/\Bk w' p lo S' u C D (A++x) ts rs/\(∀k,S' k->S k∨v.ownBlock=some k∨w.heap.size<=k)/\bw (fun k=>S k∨v.ownBlock=some k) w w':=by
 refine(Aj w p lo q C D A g.blk L g.oi (by omega) v xs M N).mono ?_;rintro e w' ⟨rfl,u,x,a,E,J,F,O,r⟩
 have y: ∀b c f,S b->w.heap[b]? =some (.cells c f (0,0))->f≠66->f≠148-> ¬(b=p∨q.ownBlock=some b∨v.ownBlock=some b):=fun b c f m a h o e=>by
  rcases e with e|e|e
  ·exact dM a g.blk h e
  ·obtain⟨P,d⟩:=aO g.oi e;exact dM a d o rfl
  ·exact I b e m
 have z: ∀b c f,w.heap[b]? =some (.cells c f (0,0))->f≠148-> ¬q.ownBlock=some b:=fun b c f a o e=>by obtain⟨P,d⟩:=aO g.oi e;exact dM a d o rfl
 have G: ∀(e:Value×Nat) (f:TypeId) (t:Value),dS w lo f e.1 t->(∀b,e.1.ownBlock=some b->S b)->f≠148-> ∀b,e.1.ownBlock=some b->S b/\ ¬q.ownBlock=some b:=fun e f t h o H b a=>⟨o b a,by obtain⟨_,c,d⟩:=h.block a;exact z b c f d H⟩
 have K: ∀(e:Value×Nat) (f:TypeId) (t:Value),dS w lo f e.1 t->(∀b,e.1.ownBlock=some b->S b)->f≠66->f≠148->dS w' lo f e.1 t:=fun e f t h o H Q=>h.turn r (fun b a=>by obtain⟨_,c,d⟩:=h.block a;exact y b c f (o b a) d H Q);refine⟨rfl,u,x,fun k=>(S k/\ ¬q.ownBlock=some k)∨u.ownBlock=some k∨ ∃e∈x,e.1.ownBlock=some k,J,⟨a,by rw[Jk,J];exact E,cE g.ot r (fun b a=>by obtain⟨c,d⟩:=aO g.ot a;exact y b c _ (g.fp.2.2.1 b a) d (by decide) (by decide)),cE g.or r (fun b a=>by obtain⟨c,d⟩:=aO g.or a;exact y b c _ (g.fp.2.2.2 b a) d (by decide) (by decide)),fun e i=>?_,fun e i=>?_,fun e i=>?_,?_,fun k m=>?_⟩,fun k s=>?_,r.mono (fun b e=>?_)⟩
 ·rcases JW.1 i with i|i
  ·obtain⟨j,n,l⟩:=g.ei e i;exact⟨K e _ _ j l (by decide) (by decide),by rw[Jk];omega,fun b a=>Or.inl (G e _ _ j l (by decide) b a)⟩
  ·obtain⟨j,n,-⟩:=F e i;exact⟨by rw[j];exact n,by rw[Jk];omega,fun b a=>Or.inr (Or.inr ⟨e,i,a⟩)⟩
 ·obtain⟨j,n,l⟩:=g.et e i;exact⟨K e _ _ j l (by decide) (by decide),n,fun b a=>Or.inl (G e _ _ j l (by decide) b a)⟩
 ·obtain⟨j,n,l⟩:=g.er e i;have R:=j;obtain⟨Y,B,-⟩:=R;exact⟨j.turn r (fun b a=>by obtain⟨_,c,d⟩:=B.block a;exact y b c _ (l b a) d (by decide) (by decide)) (fun b a ⟨c,d⟩=>y b c _ a d (by decide) (by decide)) (fun b a ⟨c,d⟩=>Or.inl ⟨a,z b c _ d (by decide)⟩),n,fun b a=>Or.inl (G e _ _ B l (by decide) b a)⟩
 ·refine⟨Or.inl ⟨g.fp.1,z _ _ _ g.blk (by decide)⟩,fun b a=>Or.inr (Or.inl a),fun b a=>Or.inl ⟨g.fp.2.2.1 b a,?_⟩,fun b a=>Or.inl ⟨g.fp.2.2.2 b a,?_⟩⟩
  ·obtain⟨c,d⟩:=aO g.ot a;exact z b c _ d (by decide)
  ·obtain⟨c,d⟩:=aO g.or a;exact z b c _ d (by decide)
 ·have T: ∀b,u.ownBlock=some b->lo<=b/\b<w'.heap.size/\ ∃c f,w'.heap[b]? =some (.cells c f (0,0))/\kT f=false:=fun b a=>by
   obtain⟨c,d⟩:=aO E a;exact⟨(E.lt b a).1,aa d,c,_,d,by decide⟩
  rcases m with⟨m,o⟩|m|⟨e,i,m⟩
  ·obtain⟨j,n,c,f,l,V⟩:=g.st k m;by_cases h:k=p
   ·rw[h];exact⟨by rw[<-h];exact j,aa a,_,_,a,by decide⟩
   ·have W: ¬(k=p∨q.ownBlock=some k∨v.ownBlock=some k):=fun e=>by
     rcases e with e|e|e
     ·exact h e
     ·exact o e
     ·exact I k e m
    exact⟨j,Js n r.size,c,f,r.old l W,V⟩
  ·exact T k m
  ·obtain⟨-,n,-⟩:=F e i;obtain⟨B,c,d⟩:=n.block m;exact⟨B,aa d,c,_,d,by decide⟩
 ·rcases s with s|s|⟨e,i,s⟩
  ·exact Or.inl s.1
  ·rcases O k s with h|h
   ·exact Or.inl (g.fp.2.1 k h)
   ·exact Or.inr (Or.inr h)
  ·obtain⟨-,-,l⟩:=F e i;exact Or.inr (l k s)
 ·rcases e with e|e|e
  ·rw[e];exact Or.inl g.fp.1
  ·exact Or.inl (g.fp.2.1 b e)
  ·exact Or.inr e
theorem FK(w:World)(p lo:Nat)(S:Nat->Prop)(B q C:Value)(H ts rs:List (Value×Nat))(g:Bk w p lo S B q C H ts rs)(L:lo<=w.heap.size)(X:ts.length<=900000000)(v:Value)(xs:List ByteArray)(M:w.ownsRow lo 9 1 v xs.length (aB xs))(N:xs.length<=6)(I: ∀b,v.ownBlock=some b-> ¬S b):
  Calls prog 54 #[.pointer (some ⟨p,0,none⟩),v] w fun e w'=>e=.returned (.tuple #[])/\ ∃u x S',x.length=4/\Bk w' p lo S' B u C H (ts++x) rs/\(∀k,S' k->S k∨v.ownBlock=some k∨w.heap.size<=k)/\bw (fun k=>S k∨v.ownBlock=some k) w w':=by
 refine(yU w p lo B q C ts g.blk L g.ot (by omega) v xs M N).mono ?_;rintro e w' ⟨rfl,u,x,a,D,J,E,O,r⟩
 have y: ∀b c f,S b->w.heap[b]? =some (.cells c f (0,0))->f≠66->f≠150-> ¬(b=p∨q.ownBlock=some b∨v.ownBlock=some b):=fun b c f m a h o e=>by
  rcases e with e|e|e
  ·exact dM a g.blk h e
  ·obtain⟨P,d⟩:=aO g.ot e;exact dM a d o rfl
  ·exact I b e m
 have z: ∀b c f,w.heap[b]? =some (.cells c f (0,0))->f≠150-> ¬q.ownBlock=some b:=fun b c f a o e=>by obtain⟨P,d⟩:=aO g.ot e;exact dM a d o rfl
 have F: ∀(e:Value×Nat) (f:TypeId) (t:Value),dS w lo f e.1 t->(∀b,e.1.ownBlock=some b->S b)->f≠150-> ∀b,e.1.ownBlock=some b->S b/\ ¬q.ownBlock=some b:=fun e f t h o G b a=>⟨o b a,by obtain⟨_,c,d⟩:=h.block a;exact z b c f d G⟩
 have K: ∀(e:Value×Nat) (f:TypeId) (t:Value),dS w lo f e.1 t->(∀b,e.1.ownBlock=some b->S b)->f≠66->f≠150->dS w' lo f e.1 t:=fun e f t h o G Q=>h.turn r (fun b a=>by obtain⟨_,c,d⟩:=h.block a;exact y b c f (o b a) d G Q);refine⟨rfl,u,x,fun k=>(S k/\ ¬q.ownBlock=some k)∨u.ownBlock=some k∨ ∃e∈x,e.1.ownBlock=some k,J,⟨a,cE g.oi r (fun b a=>by obtain⟨c,d⟩:=aO g.oi a;exact y b c _ (g.fp.2.1 b a) d (by decide) (by decide)),by rw[Jk,J];exact D,cE g.or r (fun b a=>by obtain⟨c,d⟩:=aO g.or a;exact y b c _ (g.fp.2.2.2 b a) d (by decide) (by decide)),fun e i=>?_,fun e i=>?_,fun e i=>?_,?_,fun k m=>?_⟩,fun k s=>?_,r.mono (fun b e=>?_)⟩
 ·obtain⟨j,n,l⟩:=g.ei e i;exact⟨K e _ _ j l (by decide) (by decide),n,fun b a=>Or.inl (F e _ _ j l (by decide) b a)⟩
 ·rcases JW.1 i with i|i
  ·obtain⟨j,n,l⟩:=g.et e i;exact⟨K e _ _ j l (by decide) (by decide),by rw[Jk];omega,fun b a=>Or.inl (F e _ _ j l (by decide) b a)⟩
  ·obtain⟨j,n,-⟩:=E e i;exact⟨by rw[j];exact n,by rw[Jk];omega,fun b a=>Or.inr (Or.inr ⟨e,i,a⟩)⟩
 ·obtain⟨j,n,l⟩:=g.er e i;have R:=j;obtain⟨Y,A,-⟩:=R;exact⟨j.turn r (fun b a=>by obtain⟨_,c,d⟩:=A.block a;exact y b c _ (l b a) d (by decide) (by decide)) (fun b a ⟨c,d⟩=>y b c _ a d (by decide) (by decide)) (fun b a ⟨c,d⟩=>Or.inl ⟨a,z b c _ d (by decide)⟩),n,fun b a=>Or.inl (F e _ _ A l (by decide) b a)⟩
 ·refine⟨Or.inl ⟨g.fp.1,z _ _ _ g.blk (by decide)⟩,fun b a=>Or.inl ⟨g.fp.2.1 b a,?_⟩,fun b a=>Or.inr (Or.inl a),fun b a=>Or.inl ⟨g.fp.2.2.2 b a,?_⟩⟩
  ·obtain⟨c,d⟩:=aO g.oi a;exact z b c _ d (by decide)
  ·obtain⟨c,d⟩:=aO g.or a;exact z b c _ d (by decide)
 ·have T: ∀b,u.ownBlock=some b->lo<=b/\b<w'.heap.size/\ ∃c f,w'.heap[b]? =some (.cells c f (0,0))/\kT f=false:=fun b a=>by
   obtain⟨c,d⟩:=aO D a;exact⟨(D.lt b a).1,aa d,c,_,d,by decide⟩
  rcases m with⟨m,o⟩|m|⟨e,i,m⟩
  ·obtain⟨j,n,c,f,l,V⟩:=g.st k m;by_cases h:k=p
   ·rw[h];exact⟨by rw[<-h];exact j,aa a,_,_,a,by decide⟩
   ·have W: ¬(k=p∨q.ownBlock=some k∨v.ownBlock=some k):=fun e=>by
     rcases e with e|e|e
     ·exact h e
     ·exact o e
     ·exact I k e m
    exact⟨j,Js n r.size,c,f,r.old l W,V⟩
  ·exact T k m
  ·obtain⟨-,n,-⟩:=E e i;obtain⟨A,c,d⟩:=n.block m;exact⟨A,aa d,c,_,d,by decide⟩
 ·rcases s with s|s|⟨e,i,s⟩
  ·exact Or.inl s.1
  ·rcases O k s with h|h
   ·exact Or.inl (g.fp.2.2.1 k h)
   ·exact Or.inr (Or.inr h)
  ·obtain⟨-,-,l⟩:=E e i;exact Or.inr (l k s)
 ·rcases e with e|e|e
  ·rw[e];exact Or.inl g.fp.1
  ·exact Or.inl (g.fp.2.2.1 b e)
  ·exact Or.inr e
end
end Go.Proofs.YtfkeddkfegaeiaaGreatDoor
