import Derived.Test.YtfkeddkfegaeiaaGreatDoorPnRiT
set_option maxRecDepth 100000
set_option maxHeartbeats 20000000
namespace Go.Proofs.YtfkeddkfegaeiaaGreatDoor
section
open Go.RowKit Tryz
def dh(t:Tk):Nat:=if t.kind=1 then(if aq (t.text.data.toList.headD 0).toNat then 1 else 4)else if t.kind=0 then 5 else t.kind
abbrev Fl(t:Tk):Value:=.agg #[.int .i64 (dh t),.int .i64 t.place,.string t.text]
theorem uL(s:ByteArray)(i n:Nat)(a:i+n<=s.size):(s.extract i s.size).extract 0 n=s.extract i (i+n):=by
 apply J5;rw[mT];simp only[Kx,KP,KI];rw[List.take_take]
 congr 1
 omega
theorem fB(s:ByteArray)(i n:Nat):(s.extract i (i+n)).data.toList=(s.data.toList.drop i).take n:=by
 simp only[Kx,KP,KI]
 congr 1
 omega
theorem jT(s:ByteArray)(a:Nat):(s.extract a s.size).data.toList=s.data.toList.drop a:=by simp only[Kx,KP,KI];exact JJ (by rw[J6,eS];exact Ji _)
theorem qM(x:ByteArray):Lib.containsS l5 x=(x.data.toList== [60,62]||x.data.toList== [60,61]||x.data.toList== [62,61]):=by
 rw[KY,J2];unfold l5;simp only[JG,JO,Kg,J8,KD]
 constructor
 ·rintro(rfl|rfl|rfl)<;>simp
 ·rintro((a|a)|a)
  ·exact Or.inl (J5 a)
  ·exact Or.inr (Or.inl (J5 a))
  ·exact Or.inr (Or.inr (J5 a))
theorem uM(x:ByteArray):Lib.containsS gU x=lB.contains x.data.toList:=by
 have b:gU=lB.map fun a=>(⟨a.toArray⟩:ByteArray):=rfl;rw[KY,J2,b];simp only[KM,List.contains_iff_mem]
 constructor
 ·rintro⟨a,c,rfl⟩
  simpa using c
 ·intro d;exact⟨_,d,J5 (by simp)⟩
theorem AO(c:UInt8):lB.contains [c]= !decide (Lib.indexByte g5 c<0):=by
 have:=rV (fun c=>lB.contains [c]== !decide (Lib.indexByte g5 c<0)) (by decide) c
 simpa using this
theorem Fm(s:ByteArray)(i:Nat)(t:Tk)(w:World)(h:i<s.size)(j:s.size<=1000)(c:cy s i=.ok t):
  Calls prog 108 #[.string s,.int .i64 i] w fun e w'=>e=.returned (.tuple #[Fl t,.int .i64 0])/\Below w.heap.size w w':=by
 have P:=ld s i t h c;have Q:=pB h c;have R:=(pV c).2
 obtain⟨a,b,d⟩: ∃a b,s.data.toList.drop i=a::b:=by
  cases o:s.data.toList.drop i with
  |nil=>have:=JE List.length o;rw[J6,eS]at this;simp at this;omega
  |cons a b=>exact⟨a,b,rfl⟩
 unfold cy at c;simp only at c;rw[jT,d]at c
 have y: ∀f,0<f->i+f<=s.size->((s.extract i (i+f)).data.toList.headD 0)=a:=fun f m S=>by
  rw[fB,d]
  match f,m with
  |f+1,_=>rfl
 by_cases p:aq ((a::b).headD 0).toNat=true
 ·have g:aq a.toNat=true:=p;rw[Jo p]at c;have H:=jP aq (a::b);have v:(a::b).length=s.size-i:=by rw[<-d,J6,eS]
  have z:=mF aq (a::b) g (by simp);rw[uL s i _ (by omega)]at c;by_cases q:dU (s.extract i (i+aY aq (a::b))).data.toList=true
  ·rw[Jo q]at c;cases c;have e:dh ⟨i,1,s.extract i (i+aY aq (a::b)),0⟩=1:=by unfold dh;rw[Jo rfl,Jo (by rw[y _ z (by omega)];exact g)]
   show Calls _ _ _ _ fun e w'=>e=.returned (.tuple #[.agg #[.int .i64 ((dh _:Nat):Int),_,_],_])/\_
   rw[e];exact Bi s i _ a b w h j d g rfl (by omega) q
  ·rw[Jn q]at c;by_cases A:8<(s.extract i (i+aY aq (a::b))).size
   ·rw[Jo A]at c;cases c
   ·rw[Jn A]at c;cases c;exact Bj s i _ a b w h j d g rfl (by omega) (by simpa using q) (by omega)
 ·have g: ¬aq a.toNat=true:=p;rw[Jn p]at c;by_cases r:aG ((a::b).headD 0).toNat=true
  ·have k:aG a.toNat=true:=r;rw[Jo r]at c;have H:=jP aG (a::b);have v:(a::b).length=s.size-i:=by rw[<-d,J6,eS]
   have z:=mF aG (a::b) k (by simp);rw[uL s i _ (by omega)]at c;have B: ∀n,n∈(s.extract i (i+aY aG (a::b))).data.toList->aG n.toNat=true:=fun n o=>by rw[fB,d,lH]at o;exact lI _ _ n o
   have I:(s.extract i (i+aY aG (a::b))).data.toList≠ []:=by rw[fB,d];intro e;have:=JE List.length e;rw[JU]at this;simp at this;omega
   have C:=pW B I
   cases x:dX 0 (s.extract i (i+aY aG (a::b))).data.toList with
   |none=>rw[C,x]at c;cases c
   |some J=>rw[C,x]at c;cases c;exact Dl s i _ a b w h j d (by simpa using g) k rfl (by omega) B (by rw[<-eS,fB,JU,d];omega) J x
  ·have k: ¬aG a.toNat=true:=r;rw[Jn r]at c;have v:(a::b).length=s.size-i:=by rw[<-d,J6,eS]
   by_cases m:bK (a::b)=0
   ·rw[Jo m]at c;cases c
   ·rw[Jn m]at c;have D: ∀f,0<f->i+f<=s.size->dh ⟨i,1,s.extract i (i+f),0⟩=4:=fun f K L=>by unfold dh;rw[Jo rfl,Jn (by rw[y f K L];exact g)]
    by_cases l:fY (a::b)=true
    ·have E:i+2<=s.size:=by
      cases b with
      |nil=>exact absurd l (by unfold fY;simp)
      |cons n T=>simp at v;omega
     have M:bK (a::b)=2:=rK _ l;rw[M,uL s i 2 E]at c;cases c
     show Calls _ _ _ _ fun e w'=>e=.returned (.tuple #[.agg #[.int .i64 ((dh _:Nat):Int),_,_],_])/\_
     rw[D 2 (by omega) E];have u:Lib.containsS l5 (s.extract i (i+2))=true:=by rw[qM,fB,d];exact l
     refine zV s i a b w h j d (by simpa using g) (by simpa using k) (by omega) u ?_;unfold Hid;rw[uM];rw[qM]at u;simp only[J8,KD]at u;rcases u with(e|e)|e<;>rw[e]<;>decide
    ·have N:fY (a::b)=false:=by simpa using l
     have F: ¬Lib.indexByte g5 a<0:=fun e=>m (by unfold bK;rw[Jn l,Jo (show Lib.indexByte g5 ((a::b).headD 0)<0 from e)]);have O:bK (a::b)=1:=by unfold bK;rw[Jn l,Jn (show¬Lib.indexByte g5 ((a::b).headD 0)<0 from F)]
     rw[O,uL s i 1 (by omega)]at c;cases c
     show Calls _ _ _ _ fun e w'=>e=.returned (.tuple #[.agg #[.int .i64 ((dh _:Nat):Int),_,_],_])/\_
     rw[D 1 (by omega) (by omega)]
     have G:Lib.containsS gU (s.extract i (i+1))=true:=by
      rw[uM,fB,d]
      show lB.contains [a]=true
      rw[AO]
      simpa using F
     rcases J' (i+1) s.size with hq|hq
     ·refine yo s i a b w h j d (by simpa using g) (by simpa using k) hq ?_ G;unfold Hid;rw[qM,fB,d];exact N
     ·exact yn s i a b w h j d (by simpa using g) (by simpa using k) (by omega) G
theorem Dm(s:ByteArray)(i p k:Nat)(w:World)(l:i<s.size)(m:s.size<=1000)(b:cy s i=.error (p,k)):
  Calls prog 108 #[.string s,.int .i64 i] w fun e w'=>(∃D x,e=.returned (.tuple #[.agg #[.int .i64 D,.int .i64 i,.string x],.int .i64 (fA k)]))/\Below w.heap.size w w':=by
 obtain⟨a,c,d⟩: ∃a c,s.data.toList.drop i=a::c:=by
  cases n:s.data.toList.drop i with
  |nil=>have:=JE List.length n;rw[J6,eS]at this;simp at this;omega
  |cons a c=>exact⟨a,c,rfl⟩
 have H:(a::c).length=s.size-i:=by rw[<-d,J6,eS]
 unfold cy at b;simp only at b;rw[jT,d]at b;by_cases o:aq ((a::c).headD 0).toNat=true
 ·have h:aq a.toNat=true:=o;rw[Jo o]at b;have E:=jP aq (a::c);rw[uL s i _ (by omega)]at b;by_cases t:dU (s.extract i (i+aY aq (a::c))).data.toList=true
  ·rw[Jo t]at b;cases b
  ·rw[Jn t]at b;by_cases u:8<(s.extract i (i+aY aq (a::c))).size
   ·rw[Jo u]at b;cases b
    exact(Bl s i _ a c w l m d h rfl (by omega) (by simpa using t) u).mono fun e w' f=>⟨⟨_,_,f.1⟩,f.2⟩
   ·rw[Jn u]at b;cases b
 ·have h: ¬aq a.toNat=true:=o;rw[Jn o]at b;by_cases q:aG ((a::c).headD 0).toNat=true
  ·have j:aG a.toNat=true:=q;rw[Jo q]at b;have E:=jP aG (a::c);have I:=mF aG (a::c) j (by simp);rw[uL s i _ (by omega)]at b;have y: ∀r,r∈(s.extract i (i+aY aG (a::c))).data.toList->aG r.toNat=true:=fun r n=>by rw[fB,d,lH]at n;exact lI _ _ r n
   have F:(s.extract i (i+aY aG (a::c))).data.toList≠ []:=by rw[fB,d];intro e;have:=JE List.length e;rw[JU]at this;simp at this;omega
   have z:=pW y F
   cases v:dX 0 (s.extract i (i+aY aG (a::c))).data.toList with
   |some J=>rw[z,v]at b;cases b
   |none=>
    rw[z,v]at b;cases b
    exact(zU s i _ a c w l m d (by simpa using h) j rfl (by omega) y (by rw[<-eS,fB,JU,d];omega) v).mono fun e w' f=>⟨⟨_,_,f.1⟩,f.2⟩
  ·have j: ¬aG a.toNat=true:=q;rw[Jn q]at b;by_cases g:bK (a::c)=0
   ·rw[Jo g]at b;cases b;have A: ¬fY (a::c)=true:=fun e=>by rw[rK _ e]at g;cases g
    have G:Lib.indexByte g5 a<0:=by
     by_cases B:Lib.indexByte g5 a<0
     ·exact B
     ·unfold bK at g;rw[Jn A,Jn (show¬Lib.indexByte g5 ((a::c).headD 0)<0 from B)]at g;cases g
    have C:Lib.containsS gU (s.extract i (i+1))=false:=by
     rw[uM,fB,d]
     show lB.contains [a]=false
     rw[AO]
     simpa using G
    rcases J' (i+1) s.size with hq|hq
    ·refine(zY s i a c w l m d (by simpa using h) (by simpa using j) hq ?_ C).mono fun e w' f=>⟨⟨_,_,f.1⟩,f.2⟩
     unfold Hid;rw[qM,fB,d];exact(Bool.not_eq_true _).mp A
    ·exact(zX s i a c w l m d (by simpa using h) (by simpa using j) (by omega) C).mono fun e w' f=>⟨⟨_,_,f.1⟩,f.2⟩
   ·rw[Jn g]at b;cases b
def fd(ts:List Tk):List Value:=ts.flatMap fun a=>[.int .i64 (dh a),.int .i64 a.place,.string a.text]
theorem qj(ts:List Tk)(t:Tk):fd ts++[.int .i64 (dh t),.int .i64 t.place,.string t.text]=fd (ts++[t]):=by simp[fd]
theorem yp:(prog.info? 100).map (fun i=>(i.zero,i.size,i.bytes))=some (some (.agg #[.int .i64 0,.int .i64 0,.string ⟨#[]⟩]),3,32):=by kernel_rfl
def BJ(ts:List Tk):Except (Nat×Nat) (List Tk)->Except (Nat×Nat) (List Tk)
 |.error e=>.error e
 |.ok r=>.ok (ts++r)
theorem Dn(s:ByteArray)(f i:Nat)(c:UInt8)(a:List UInt8)(b:s.data.toList.drop i=c::a)(d:bY c.toNat=true):bU s (f+1) i=bU s (f+1) (i+1):=by
 have e:s.data.toList.drop (i+1)=a:=by rw[<-Mr,b];rfl
 have g:i+aY bY (s.extract i s.size).data.toList=i+1+aY bY (s.extract (i+1) s.size).data.toList:=by rw[jT,jT,b,e];unfold aY;rw[KH,Jo d,Ju];omega
 unfold bU;rw[g]
theorem Do(s:ByteArray)(f:Nat):bU s (f+1) s.size=.ok [jt s.size]:=by
 have a:aY bY (s.extract s.size s.size).data.toList=0:=by rw[jT,List.drop_of_length_le (by rw[eS];exact Ji _)];rfl
 unfold bU;rw[a];simp
def Dp(s:ByteArray)(w:World)(R:Except (Nat×Nat) (List Tk))(v:Value)(i:Nat)(wr:World):Prop:=
 ∃(f:Nat) (ts:List Tk),s.size<f+i/\ts.length<=i/\wr.ownsRow w.heap.size 100 3 v ts.length (fd ts)/\Below w.heap.size w wr/\R=BJ ts (bU s f i)
def GL(w:World)(R:Except (Nat×Nat) (List Tk))(e:Ending)(w':World):Prop:=Below w.heap.size w w'/\match R with
 |.ok ts=> ∃a,e=.returned (.tuple #[a,.agg #[.int .i64 0,.int .i64 0]])/\w'.ownsRow w.heap.size 100 3 a ts.length (fd ts)
 |.error (p,k)=>e=.returned (.tuple #[.slice none 0 0,.agg #[.int .i64 (fA k),.int .i64 p]])
theorem yr(a b:Int)(s:ByteArray): ∀u∈ [Value.int .i64 a,.int .i64 b,.string s],u.oneCell'=true:=by intro u c;simp only[JG,JO,Kg]at c;rcases c with rfl|rfl|rfl<;>rfl
theorem bO{w:World}{b:Nat}{e:TypeId}{size:Nat}{v:Value}{n:Nat}{xs:List Value}(d:w.ownsRow b e size v n xs): ∃a l c,v=.slice a l c:=by
 rcases d.2 with⟨hv,_⟩|⟨g,cap,cur,hv,_⟩
 ·exact⟨_,_,_,hv⟩
 ·exact⟨_,_,_,hv⟩
theorem fh{w:World}{a:Nat}{e:TypeId}{size:Nat}{v:Value}{n b i:Nat}{u:Value}{xs:List Value}(c:w.ownsRow a e size v n xs)(m:b<a):(w.setCell ⟨b,i,none⟩ u).ownsRow a e size v n xs:=by refine⟨c.1,c.2.imp id ?_⟩;rintro⟨d,f,g,h,j,k,l⟩;exact⟨d,f,g,h,j,(Jp _ _ _ _ (by show d≠b;omega)).trans k,l⟩
theorem tI(s:ByteArray)(w:World)(T:s.size<=1000)(R:Except (Nat×Nat) (List Tk))(ay:Hid (R=fH s)):
  Calls prog 66 #[.string s] w fun e w'=>GL w R e w':=by
 obtain⟨V,K,W⟩:=Jq.1 yp;simp only[JB]at W;obtain⟨X,Y,Z⟩:=W;obtain⟨ac,ad,ae,aj⟩:=aP K X Y Z;clear K X Y Z;go_enter func66,ntmps66;go_wp2_with fail;have ak:(w.alloc (.cells #[.int .i64 0,.int .i64 0] 27)).heap[w.heap.size]? =some (.cells #[.int .i64 0,.int .i64 0] 27 (0,0)):=af rfl;have al:Below w.heap.size w (w.alloc (.cells #[.int .i64 0,.int .i64 0] 27)):=(Jj _ _).alloc (Ji _) _;have D:w.heap.size<(w.alloc (.cells #[.int .i64 0,.int .i64 0] 27)).heap.size:=by simp
 generalize w.alloc (.cells #[.int .i64 0,.int .i64 0] 27)=i at*;obtain⟨aA,an⟩:=ag ak al;clear ak al
 go_loopw [4,5] (fun v b wr=> ∃a:Nat,a<=s.size/\b=.int .i64 a/\Dp s i R v a wr) (fun _ b _=>s.size-(intOf b).toNat)
 case atStart=>exact⟨0,KO _,rfl,s.size+1,[],by omega,by simp,JF _ _ _ _,Jj _ _,by rw[U ay];unfold fH;cases bU s (s.size+1) 0<;>rfl⟩
 case round=>
  obtain⟨a,K,rfl,hrel⟩:=hrel;obtain⟨j,m,E,a5,ao,F,ap⟩:=hrel;obtain⟨k,n,d,ar⟩:=aP ap ao F ((F.block w.heap.size D).trans aA);have au:w.heap.size<wr.heap.size:=Js D F.size;clear ap ao F
  match j,E,k with
  |0,E,_=>exact absurd E (by omega)
  |j+1,E,k=>
  by_cases G:a<s.size
  ·have L:decide ((a:Int)<(s.size:Int))=true:=by simp;omega
   obtain⟨c,y,M⟩: ∃c y,s.data.toList.drop a=c::y:=by
    cases L:s.data.toList.drop a with
    |nil=>have:=JE List.length L;rw[J6,eS]at this;simp at this;omega
    |cons c y=>exact⟨c,y,rfl⟩
   have a9:s[a]=c:=gL G M;have av:=ab M;clear M;by_cases l:bY c.toNat=true
   ·have t:(c.toNat:Int)=32∨(c.toNat:Int)=9∨(c.toNat:Int)=10:=by
     unfold bY at l;simp only[J8,KD]at l;rcases l with(h|h)|h
     ·exact Or.inl h
     ·exact Or.inr (Or.inl h)
     ·exact Or.inr (Or.inr h)
    have aI:=ab (show Dp s i R _ (a+1) wr from⟨j+1,m,by omega,by omega,n,d,by rw[U k,Dn s j a c y (U av) l]⟩);clear k l;rcases t with t|t|t
    all_goals
     go_wp2;exact⟨⟨a+1,by omega,by go_num,aI⟩,by simp[intOf];omega⟩
   ·have u:bY c.toNat=false:=by simpa using l
    have t:((c.toNat:Int)==32)=false/\((c.toNat:Int)==9)=false/\((c.toNat:Int)==10)=false:=by unfold bY at u;simp only[LF]at u;exact⟨u.1.1,u.1.2,u.2⟩
    obtain⟨a',ba,bb⟩:=t
    have H:Hid (R=BJ m (match cy s a with
      |.error e=>.error e
      |.ok b=>match bU s j (a+b.text.size)with
       |.error e=>.error e
       |.ok I=>.ok (b::I):Except (Nat×Nat) (List Tk))):=by
     have aJ:aY bY (s.extract a s.size).data.toList=0:=by rw[jT,U av];unfold aY;rw[KH,Jn l];rfl
     unfold Hid;rw[U k]
     conv=>lhs;unfold bU
     rw[aJ];simp only[Nat.add_zero];rw[Jn (by omega)];rfl
    clear k l u
    cases f:cy s a with
    |error aL=>
     obtain⟨z,g⟩:=aL;have aN:=(oa f).1;subst aN;have A:Hid (R=.error (z,g)):=by unfold Hid;rw[U H,f];rfl
     have bc:(fA g !=0)=true:=by rcases(oa f).2 with rfl|rfl|rfl<;>rfl
     have N:=ab f;clear H f;go_wp2_with fail;refine(Dm s z z g _ G T N).mono ?_;rintro e o ⟨⟨be,bg,rfl⟩,p⟩;obtain⟨B,C⟩:=ag ((p.block w.heap.size au).trans ar) (d.trans (p.mono d.size));obtain⟨O,aR⟩:=blk B;have P:=aa B;clear p;generalize ax:fA g=aT at*;have aU:=ab ax;clear ax;go_wp2;refine Jr (v:=.tuple #[.slice none 0 0,.agg #[.int .i64 aT,.int .i64 z]]) (by simp[results,results66,go_sem,O,P]) rfl ?_;rw[U A];refine⟨?_,by show Ending.returned _=Ending.returned (.tuple #[.slice none 0 0,.agg #[.int .i64 (fA g),.int .i64 z]]);rw[U aU]⟩;have J:Below w.heap.size w o:=an.trans (C.mono (by omega))
     repeat(first|exact J|refine J0 ?_ (by exact Ji _) _|refine JY ?_ (by have:=J.size;first|omega|(simp;omega)) _)
    |ok b=>
     have A:Hid (R=BJ m (match bU s j (a+b.text.size)with
       |.error e=>.error e
       |.ok I=>.ok (b::I):Except (Nat×Nat) (List Tk))):=by unfold Hid;rw[U H,f]
     have bk:=ld s a b G f;have N:=ab f;clear H f;go_wp2_with fail;refine(Fm s a b _ G T N).mono ?_;rintro e o ⟨rfl,p⟩;have q:=ab p;have P:=Js au p.size;clear p;go_wp2_with (at_builtin;refine Kd _ rfl _ _ 101 rfl i.heap.size 100 V (.agg #[.int .i64 0,.int .i64 0,.string ⟨#[]⟩]) 3 32 underlying101 ac ad ae aj rfl (by decide) _ _ _ rfl (((fQ n q).alloc _).alloc _) ⟨o.heap.size+1,0,none⟩ 1 1 [.int .i64 (dh b),.int .i64 b.place,.string b.text] rfl rfl ?c1 ?c2 ?c3 ?c4 ?c5 ?_)
     case c1=>exact cQ (by first|rfl|simp)
     case c2=>exact yr _ _ _
     case c3=>unfold maxLen;omega
     case c4=>omega
     case c5=>have:=d.size;have:=q.size;simp;omega
     intro aV a0 x r _;obtain⟨Q,KT⟩:=ag x ((r.block o.heap.size (by simp;omega) (fun e=>by have:=(n.lt _ e.symm).2;have:=q.size;omega)).trans (ai (af rfl)));have C:Hid (Below i.heap.size i a0):=(((d.trans (q.mono d.size)).alloc (by have:=d.size;have:=q.size;omega) _).alloc (by have:=d.size;have:=q.size;simp;omega) _).grown r (by have:=d.size;have:=q.size;simp;omega) (fun g S=>(n.lt g S).1);obtain⟨bl,bn⟩:=blk KT;have bq:=aa KT;clear x r;go_wp2;refine⟨⟨a+b.text.size,by omega,by go_num,j,m++[b],by omega,by simp;omega,?_,C,?_⟩,by simp[intOf];omega⟩
     ·rw[<-qj,Jk];exact Q
     ·rw[U A]
      cases bU s j (a+b.text.size)with
      |error e=>rfl
      |ok I=>simp[BJ]
  ·have br:s.size<=a:=by omega
   have L:decide ((a:Int)<(s.size:Int))=false:=by simp;omega
   have A:Hid (R=.ok (m++[jt s.size])):=by
    have e:a=s.size:=by omega
    unfold Hid;rw[U k,e,Do];rfl
   clear k;go_wp2_with (at_builtin;refine Kd _ rfl _ _ 101 rfl i.heap.size 100 V (.agg #[.int .i64 0,.int .i64 0,.string ⟨#[]⟩]) 3 32 underlying101 ac ad ae aj rfl (by decide) _ _ _ rfl (n.alloc _) ⟨wr.heap.size,0,none⟩ 1 1 [.int .i64 5,.int .i64 s.size,.string ⟨#[]⟩] rfl rfl ?c1 ?c2 ?c3 ?c4 ?c5 ?_)
   case c1=>exact cQ rfl
   case c2=>exact yr _ _ _
   case c3=>unfold maxLen;omega
   case c4=>omega
   case c5=>have:=d.size;simp;omega
   intro aV o x r _;obtain⟨Q,B⟩:=ag x ((r.block w.heap.size (by simp;omega) (fun e=>by have:=(n.lt _ e.symm).1;omega)).trans (ai ar));have C:Hid (Below i.heap.size i o):=(d.alloc d.size _).grown r (by have:=d.size;simp;omega) (fun g S=>(n.lt g S).1);obtain⟨O,aR⟩:=blk B;have P:=aa B;obtain⟨a1,a2,a3,a4⟩:=bO x;subst a4;clear x r;go_wp2;refine Jr (v:=.tuple #[.slice a1 a2 a3,.agg #[.int .i64 0,.int .i64 0]]) (by simp[results,results66,go_sem,O]) rfl ?_;rw[U A];refine⟨?_,_,rfl,?_⟩
   ·have J:Below w.heap.size w o:=an.trans (C.mono (by omega));exact(J.setCell (by exact Ji _) _).setCell (by exact Ji _) _
   ·have e:fd (m++[jt s.size])=fd m++[.int .i64 5,.int .i64 s.size,.string ⟨#[]⟩]:=by rw[<-qj];rfl
    rw[e,Jk];exact dN (fh (fh Q D) D) (by omega)
structure RE where
 sg:ByteArray
 nu:Int
 k1:Int
 a1:Int
 s1:ByteArray
 k2:Int
 a2:Int
 s2:ByteArray
 A:Int
 B:Int
def tJ(e:RE):List Value:=[.string e.sg,.int .i64 e.nu,.int .i64 e.k1,.int .i64 e.a1,.string e.s1,.int .i64 e.k2,.int .i64 e.a2,.string e.s2,.int .i64 e.A,.int .i64 e.B]
def jU(l:List RE):List Value:=l.flatMap tJ
theorem yt(l:List RE)(e:RE):jU (l++[e])=jU l++tJ e:=by simp[jU]
structure Cf where
 rb:Nat
 qb:Nat
 tb:Nat
 cap:Nat
 lo:Nat
 ts:List Tk
 kq:Bool
def jq:Option (Nat×Nat)->Int
 |none=>0
 |some (_,k)=>fA k
def Ii:Option (Nat×Nat)->Int
 |none=>0
 |some (p,_)=>p
theorem qN{k:Nat}:fA k≠0:=by
 unfold fA;split
 ·decide
 ·split
  ·decide
  ·split
   ·decide
   ·split<;>decide
def jN(a:List Nat):List Value:=a.map fun(b:Nat)=>Value.int .i64 (b:Int)
structure RF(c:Cf)(w:World)(st:St)(I:Nat)(ms:List Nat)(mv ev:Value)(en:List RE):Prop where
 len:c.ts.length<=1001
 last:cO c.ts
 kinds: ∀i,(ah c.ts i).kind<=3
 nx:st.nx<c.ts.length
 inx:I<c.ts.length
 cor:st.er=none->I=st.nx
 stop:st.er≠none->st.nx+1=c.ts.length
 dp:st.dp<=17
 ne:c.rb≠c.qb/\c.tb≠c.rb/\c.tb≠c.qb
 low:c.rb<c.lo/\c.qb<c.lo/\c.tb<c.lo
 top:c.lo<=w.heap.size
 reader:w.heap[c.rb]? =some (.cells #[.pointer (some ⟨c.qb,0,none⟩),.int .i64 I,.int .i64 st.dp,.int .i64 (jq st.er),.int .i64 (Ii st.er)] 188 (0,0))
 few:en.length<=I/\ms.length<=I
 query: ∃cs,w.heap[c.qb]? =some (.cells cs 108 (0,0))/\cs.size=24/\cs[23]? =some (.slice (some ⟨c.tb,0,none⟩) c.ts.length c.cap)/\cs[22]? =some mv/\cs[21]? =some ev/\
  w.ownsRow c.lo 3 1 mv ms.length (jN ms)/\w.ownsRow c.lo 374 10 ev en.length (jU en)
 tokens: ∃cur:Array Value,w.heap[c.tb]? =some (.cells cur 100 (0,0))/\cur.toList.take (c.ts.length*3)=fd c.ts
theorem BK(ts:List Tk)(i:Nat)(c:i<ts.length):(fd ts)[i*3]? =some (.int .i64 (dh (ah ts i)))/\(fd ts)[i*3+1]? =some (.int .i64 (ah ts i).place)/\(fd ts)[i*3+2]? =some (.string (ah ts i).text):=by
 induction ts generalizing i with
 |nil=>simp at c
 |cons a b e=>
  have d:fd (a::b)=[Value.int .i64 (dh a),.int .i64 a.place,.string a.text]++fd b:=rfl
  match i with
  |0=>rw[d];exact⟨rfl,rfl,rfl⟩
  |i+1=>
   have:=e i (by simpa using c);have f:(i+1)*3=i*3+3:=by omega
   have g:ah (a::b) (i+1)=ah b i:=rfl;rw[g,d,f];refine⟨?_,?_,?_⟩
   ·rw[Jw (by simp)];simpa using this.1
   ·rw[Jw (by simp)];simpa [show i*3+3+1-3=i*3+1 from by omega]using this.2.1
   ·rw[Jw (by simp)];simpa [show i*3+3+2-3=i*3+2 from by omega]using this.2.2
theorem RF.facts{c:Cf}{w:World}{st:St}{I:Nat}{m:List Nat}{n p:Value}{q:List RE}(a:RF c w st I m n p q):
  (w.cell? ⟨c.rb,0,none⟩=some (.pointer (some ⟨c.qb,0,none⟩))/\w.cell? ⟨c.rb,1,none⟩=some (.int .i64 I)/\w.cell? ⟨c.rb,2,none⟩=some (.int .i64 st.dp)/\w.cell? ⟨c.rb,3,none⟩=some (.int .i64 (jq st.er))/\w.cell? ⟨c.rb,4,none⟩=some (.int .i64 (Ii st.er)))/\(∀o,w.frozen? ⟨c.rb,o,none⟩=false)/\
  w.cell? ⟨c.qb,23,none⟩=some (.slice (some ⟨c.tb,0,none⟩) c.ts.length c.cap)/\
  (w.cell? ⟨c.tb,I*3,none⟩=some (.int .i64 (dh (ah c.ts I)))/\w.cell? ⟨c.tb,I*3+1,none⟩=some (.int .i64 (ah c.ts I).place)/\w.cell? ⟨c.tb,I*3+2,none⟩=some (.string (ah c.ts I).text))/\
  c.rb<w.heap.size/\c.qb<w.heap.size/\c.tb<w.heap.size:=by
 obtain⟨b,r⟩:=blk a.reader;obtain⟨v,j,x,s,_⟩:=a.query;obtain⟨k,l,t⟩:=a.tokens;obtain⟨u,_⟩:=blk j;obtain⟨f,_⟩:=blk l;have d:=BK c.ts I a.inx;rw[<-t]at d
 have g: ∀h i,(k.toList.take (c.ts.length*3))[h]? =some i->k[h]? =some i:=fun h i e=>by
  rw[Kl]at e;split at e
  ·simpa using e
  ·cases e
 refine⟨⟨by rw[b];rfl,by rw[b];rfl,by rw[b];rfl,by rw[b];rfl,by rw[b];rfl⟩,r,by rw[u];exact s,⟨?_,?_,?_⟩,aa a.reader,aa j,aa l⟩
 ·rw[f];exact g _ _ d.1
 ·rw[f];exact g _ _ d.2.1
 ·rw[f];exact g _ _ d.2.2
theorem RF.turn{c:Cf}{w w':World}{st st':St}{I I':Nat}{d:List Nat}{e f:Value}{g:List RE}(a:RF c w st I d e f g)(b:Kp c.rb w w')(k:w'.heap[c.rb]? =some (.cells #[.pointer (some ⟨c.qb,0,none⟩),.int .i64 I',.int .i64 st'.dp,.int .i64 (jq st'.er),.int .i64 (Ii st'.er)] 188 (0,0)))
  (h:I<=I') (hn:st'.nx<c.ts.length) (l:I'<c.ts.length) (m:st'.er=none->I'=st'.nx) (n:st'.er≠none->st'.nx+1=c.ts.length) (o:st'.dp<=17):RF c w' st' I' d e f g:=by
 obtain⟨p,i,q,r,s,t,u,v⟩:=a.query;obtain⟨x,j,y⟩:=a.tokens;refine⟨a.len,a.last,a.kinds,hn,l,m,n,o,a.ne,a.low,Jt a.top b.size,k,⟨Jt a.few.1 h,Jt a.few.2 h⟩,⟨p,(b.block _ (aa i) (Lm a.ne.1)).trans i,q,r,s,t,bf u b a.low.1,bf v b a.low.1⟩,⟨x,(b.block _ (aa j) a.ne.2.1).trans j,y⟩⟩
theorem RF.keep{c:Cf}{w w':World}{st:St}{I:Nat}{b:List Nat}{d e:Value}{f:List RE}(a:RF c w st I b d e f)(g:Below w.heap.size w w'):RF c w' st I b d e f:=
 a.turn (Kp.ofBelow g) ((g.block _ (aa a.reader)).trans a.reader) (Ji _) a.nx a.inx a.cor a.stop a.dp
theorem jV(c:Cf)(w:World)(st:St)(I:Nat)(f:List Nat)(g h:Value)(i:List RE)(a:RF c w st I f g h i)(j:st.er=none)(l:(ah c.ts st.nx).kind≠0):
  Calls prog 110 #[.pointer (some ⟨c.rb,0,none⟩)] w fun e w'=>e=.returned (Fl (ah c.ts st.nx))/\RF c w' (aD st) (I+1) f g h i/\Kp c.rb w w':=by
 have m:=a.cor j;subst m;obtain⟨⟨o,p,q,r,s⟩,t,u,⟨t0,t1,t2⟩,x,y,z⟩:=a.facts;have k:=a.last st.nx a.nx l;have A:=a.len;have B:decide ((st.nx:Int)+1<(c.ts.length:Int))=true:=by simp;omega
 have b:=ab a;clear a;generalize n:ah c.ts st.nx=d at*;clear n;go_enter func110,ntmps110;go_wp2
 go_region
 go_wp2
 go_region
 go_wp2;refine Jr (v:=.agg #[.int .i64 (dh d),.int .i64 d.place,.string d.text]) (by simp[results,results110,go_sem]) rfl ⟨rfl,?_,?_⟩
 ·refine b.turn (st':=aD st) (I':=st.nx+1) ?_ ?_ (KN _) k k (fun _=>rfl) (fun e=>(e j).elim) b.dp
  ·exact((((Kp.refl _ _).setCell _ _).alloc _).alloc _).drew.drew
  ·exact ai (ai ((am b.reader _).trans rfl))
 ·exact((((Kp.refl _ _).setCell _ _).alloc _).alloc _).drew.drew
theorem Dq(c:Cf)(w:World)(st:St)(I k:Nat)(g:List Nat)(h i:Value)(j:List RE)(a:RF c w st I g h i j)(b:st.er=none):
  Calls prog 70 #[.pointer (some ⟨c.rb,0,none⟩),.int .i64 (fA k)] w fun e w'=>e=.returned (.tuple #[])/\RF c w' (bM c.ts st k) I g h i j/\Kp c.rb w w':=by
 have o:=a.cor b;subst o;obtain⟨⟨u,v,x,d,p⟩,y,z,⟨t0,t1,t2⟩,A,B,C⟩:=a.facts;rw[b]at d p;have D:w.cell? ⟨c.rb,3,none⟩=some (.int .i64 0):=d;have E:=a.len;have q:=a.nx;have f:=ab a;clear a d;generalize l:ah c.ts st.nx=m at*;have r:=ab l;generalize n:fA k=F at*;have s:=ab n;clear l n;go_enter func70,ntmps70;go_wp2
 go_region
 go_wp2;go_end0;have t:bM c.ts st k=⟨c.ts.length-1,st.dp,some (m.place,k)⟩:=by unfold bM;rw[b,U r]
 refine⟨rfl,?_,?_⟩
 ·rw[t];refine f.turn (st':=⟨c.ts.length-1,st.dp,some (m.place,k)⟩) (I':=st.nx) ?_ ?_ (Ji _) (by show c.ts.length-1<_;omega) q (fun e=>by cases e) (fun _=>by show c.ts.length-1+1=_;omega) f.dp
  ·exact(((Kp.refl _ _).setCell _ _).setCell _ _).drew
  ·refine(am ((am f.reader _).trans rfl) _).trans ?_
   show _=some (Obj.cells #[_,_,_,.int .i64 (fA k),_] _ _)
   rw[U s];rfl
 ·exact(((Kp.refl _ _).setCell _ _).setCell _ _).drew
theorem vH(c:Cf)(w:World)(st:St)(I k:Nat)(d:List Nat)(f g:Value)(h:List RE)(b:RF c w st I d f g h):
  Calls prog 70 #[.pointer (some ⟨c.rb,0,none⟩),.int .i64 (fA k)] w fun e w'=>e=.returned (.tuple #[])/\RF c w' (bM c.ts st k) I d f g h/\Kp c.rb w w':=by
 cases a:st.er with
 |none=>exact Dq c w st I k d f g h b a
 |some j=>
  obtain⟨⟨n,o,p,q,r⟩,s,t,⟨t0,t1,t2⟩,u,v,x⟩:=b.facts;have y:(jq st.er==0)=false:=by rw[a];obtain⟨z,A⟩:=j;simp only[jq,Kb,ne_eq];exact qN
  have i:bM c.ts st k=st:=by have l:=b.stop (by rw[a];simp);obtain⟨B,C,D⟩:=st;simp only at a l;subst a;unfold bM;simp only[St.mk.injEq,and_true];omega
  have m:=ab b;rw[i];clear b i a;generalize jq st.er=E at*;go_enter func70,ntmps70;go_wp2;go_end0;exact⟨rfl,m,Kp.refl _ _⟩
theorem RF.atEnd{c:Cf}{w:World}{st:St}{I:Nat}{d:List Nat}{e f:Value}{g:List RE}(a:RF c w st I d e f g)(h:st.er≠none):(ah c.ts st.nx).kind=0:=by
 have i:=a.stop h;by_cases b:(ah c.ts st.nx).kind=0
 ·exact b
 ·have:=a.last st.nx a.nx b;omega
theorem oz{er:Option (Nat×Nat)}(a:er≠none):jq er≠0:=by
 match er,a with
 |none,a=>exact(a rfl).elim
 |some (b,c),_=>exact qN
theorem GM{t:Tk}(d:t.kind<=3):(((dh t:Nat):Int)==1||((dh t:Nat):Int)==4)=(t.kind==1):=by
 unfold dh;by_cases a:t.kind=1
 ·rw[Jo a,a];split<;>rfl
 ·rw[Jn a];have c:(t.kind==1)=false:=by simpa using a
  rw[c];by_cases b:t.kind=0
  ·rw[Jo b];rfl
  ·rw[Jn b];simp only[LF,Kb,ne_eq];omega
theorem Dr(a b:ByteArray):(a.toList==b.toList)=Lib.containsS [b] a:=by
 rw[KY,J2,KD,JN]
 constructor
 ·intro c;rw[JA,JA]at c;exact J5 c
 ·rintro rfl;rfl
theorem lz(c:Cf)(w:World)(st:St)(I:Nat)(x:ByteArray)(l:List Nat)(m n:Value)(o:List RE)(b:RF c w st I l m n o):
  Calls prog 109 #[.pointer (some ⟨c.rb,0,none⟩),.string x] w fun e w'=>e=.returned (.bool (az c.ts st [x]))/\Below w.heap.size w w':=by
 obtain⟨⟨r,s,t,g,u⟩,v,y,⟨t0,t1,t2⟩,z,A,B⟩:=b.facts;have C:=b.len;have D:=b.inx;by_cases d:st.er=none
 ·have p:=b.cor d;subst p;rw[d]at g;have E:w.cell? ⟨c.rb,3,none⟩=some (.int .i64 0):=g;have i:=GM (b.kinds st.nx);have h:az c.ts st [x]=((ah c.ts st.nx).kind==1&&((ah c.ts st.nx).text.toList==x.toList)):=by unfold az;rw[Dr]
  rw[<-i]at h;have a:=ab h;clear b g i h;generalize ah c.ts st.nx=f at*
  cases j:(f.text.toList==x.toList)with
  |false=>
   rw[j,Li]at a;go_enter func109,ntmps109;go_wp2
   go_region
   go_wp2;go_ret;rw[U a];exact⟨rfl,((Jj _ _).alloc (Ji _) _).drew⟩
  |true=>
   rw[j,Bool.and_true]at a
   cases k:(((dh f:Nat):Int)==1)with
   |true=>
    rw[k,Bool.true_or]at a;go_enter func109,ntmps109;go_wp2
    go_region
    go_wp2;go_ret;rw[U a];exact⟨rfl,((Jj _ _).alloc (Ji _) _).drew⟩
   |false=>
    rw[k,Bool.false_or]at a
    cases q:(((dh f:Nat):Int)==4)<;>
     (rw[q]at a
      go_enter func109,ntmps109;go_wp2
      go_region
      go_wp2;go_ret;rw[U a]
      exact⟨rfl,((Jj _ _).alloc (Ji _) _).drew⟩)
 ·have F:(jq st.er==0)=false:=by simp only[Kb,ne_eq];exact oz d
  have a:Hid (az c.ts st [x]=false):=by unfold Hid az;rw[b.atEnd d];rfl
  clear b d;generalize jq st.er=G at*;generalize ah c.ts I=f at*;go_enter func109,ntmps109;go_wp2
  go_region
  go_wp2;go_ret;rw[U a];exact⟨rfl,((Jj _ _).alloc (Ji _) _).drew⟩
theorem zZ:fA bE=4:=rfl
theorem Ds:fA cB=9:=rfl
theorem iN(c:Cf)(w:World)(st:St)(I:Nat)(a:List Nat)(b d:Value)(f:List RE)(g:RF c w st I a b d f):
  Calls prog 70 #[.pointer (some ⟨c.rb,0,none⟩),.int .i64 4] w fun e w'=>e=.returned (.tuple #[])/\RF c w' (bM c.ts st bE) I a b d f/\Kp c.rb w w':=by
 have:=vH c w st I bE a b d f g
 rwa[zZ]at this
theorem mn(c:Cf)(w:World)(st:St)(I:Nat)(a:List Nat)(b d:Value)(f:List RE)(g:RF c w st I a b d f):
  Calls prog 70 #[.pointer (some ⟨c.rb,0,none⟩),.int .i64 9] w fun e w'=>e=.returned (.tuple #[])/\RF c w' (bM c.ts st cB) I a b d f/\Kp c.rb w w':=by
 have:=vH c w st I cB a b d f g
 rwa[Ds]at this
def Fo(c:Cf)(w:World)(I:Nat)(st':St)(b:List Nat)(d e:Value)(f:List RE)(w':World):Prop:=(∃a,I<=a/\RF c w' st' a b d e f)/\Kp c.rb w w'
theorem RF.okHit{c:Cf}{w:World}{st:St}{I:Nat}{a:List Nat}{b d:Value}{e:List RE}(f:RF c w st I a b d e){xs:List ByteArray}(g:az c.ts st xs=true):st.er=none:=by
 cases h:st.er with
 |none=>rfl
 |some i=>exact(aW g (f.atEnd (by rw[h];simp))).elim
theorem gV(c:Cf)(w:World)(st:St)(I:Nat)(x:ByteArray)(b:List Nat)(d f:Value)(g:List RE)(k:RF c w st I b d f g):
  Calls prog 67 #[.pointer (some ⟨c.rb,0,none⟩),.string x] w fun e w'=>e=.returned (.bool (az c.ts st [x]))/\Fo c w I (b8 c.ts st [x]) b d f g w':=by
 have hz:=ab k;clear k;unfold b8
 cases a:az c.ts st [x]with
 |false=>have j:=ab a;clear a;go_enter func67,ntmps67;go_wp2_with fail;refine(lz c _ st I x b d f g (by exact hz)).mono ?_;rintro e o ⟨rfl,i⟩;rw[U j];go_wp2;go_ret;exact⟨rfl,⟨I,Ji _,hz.keep i⟩,Kp.ofBelow i⟩
 |true=>obtain⟨j,p,q⟩:=aC a (hz.okHit a) (aW a);clear a;go_enter func67,ntmps67;go_wp2_with fail;refine(lz c _ st I x b d f g (by exact hz)).mono ?_;rintro e o ⟨rfl,i⟩;rw[U j];have l:=ab i;clear i;go_wp2_with fail;refine(jV c _ st I b d f g (by exact hz.keep l) p q).mono ?_;rintro e t ⟨rfl,m,n⟩;obtain⟨r,s⟩:=ag m ((Kp.ofBelow l).trans n);clear m n;go_wp2;go_ret;exact⟨rfl,⟨I+1,KN _,r⟩,s⟩
theorem iO(c:Cf)(w:World)(st:St)(I:Nat)(x:ByteArray)(a:List Nat)(b d:Value)(f:List RE)(k:RF c w st I a b d f):
  Calls prog 112 #[.pointer (some ⟨c.rb,0,none⟩),.string x] w fun e w'=>e=.returned (.tuple #[])/\Fo c w I (aH c.ts st [x]) a b d f w':=by
 have l:=ab k;clear k;unfold aH
 cases g:az c.ts st [x]with
 |true=>have h:=ab g;clear g;go_enter func112,ntmps112;go_wp2_with fail;refine(gV c _ st I x a b d f (by exact l)).mono ?_;rintro e s ⟨rfl,m⟩;have i:=ab m;clear m;unfold b8 at i;rw[U h]at i⊢;go_wp2;go_end0;exact⟨rfl,i⟩
 |false=>have h:=ab g;clear g;go_enter func112,ntmps112;go_wp2_with fail;refine(gV c _ st I x a b d f (by exact l)).mono ?_;rintro e s ⟨rfl,⟨n,t,j⟩,o⟩;unfold b8 at j;obtain⟨p,u⟩:=ag j o;clear j o;rw[U h]at p⊢;go_wp2_with fail;refine(iN c _ st n a b d f (by exact p)).mono ?_;rintro e z ⟨rfl,q,r⟩;obtain⟨v,y⟩:=ag q (u.trans r);clear q r;go_wp2;go_end0;exact⟨rfl,⟨n,t,v⟩,y⟩
theorem iP{w w':World}{c b:Nat}{e T:TypeId}{size:Nat}{v:Value}{n:Nat}{xs:List Value}{cs:Array Value}(d:w.ownsRow c e size v n xs)(g:Kp b w w')(h:w.heap[b]? =some (.cells cs T (0,0)))(i:T≠e):w'.ownsRow c e size v n xs:=by refine⟨d.1,d.2.imp id ?_⟩;rintro⟨f,j,k,l,m,a,o⟩;refine⟨f,j,k,l,m,(g.block f (aa a) (fun p=>?_)).trans a,o⟩;subst p;rw[h]at a;simp only[Ke,L7]at a;exact i a.2.1
theorem RF.box{c:Cf}{w w':World}{st:St}{I b:Nat}{e:List Nat}{f g:Value}{h:List RE}{cs:Array Value}{T:TypeId}(a:RF c w st I e f g h)(d:Kp b w w')(i:w.heap[b]? =some (.cells cs T (0,0)))(m:b≠c.rb)(n:b≠c.qb)(o:b≠c.tb)(j:T≠3/\T≠374):RF c w' st I e f g h:=by obtain⟨p,k,q,r,s,t,u,v⟩:=a.query;obtain⟨x,l,y⟩:=a.tokens;exact⟨a.len,a.last,a.kinds,a.nx,a.inx,a.cor,a.stop,a.dp,a.ne,a.low,Jt a.top d.size,(d.block _ (aa a.reader) (Lm m)).trans a.reader,a.few,⟨p,(d.block _ (aa k) (Lm n)).trans k,q,r,s,t,iP u d i j.1,iP v d i j.2⟩,⟨x,(d.block _ (aa l) (Lm o)).trans l,y⟩⟩
theorem IK{t:Tk}{k:Nat}(c:k=2∨k=3):(((dh t:Nat):Int) !=(k:Int))= !(t.kind==k):=by
 unfold dh;by_cases a:t.kind=1
 ·rw[Jo a,a];rcases c with rfl|rfl<;>split<;>rfl
 ·rw[Jn a];by_cases b:t.kind=0
  ·rw[Jo b,b];rcases c with rfl|rfl<;>rfl
  ·rw[Jn b];by_cases d:t.kind=k
   ·rw[d];simp
   ·have:(t.kind==k)=false:=by simpa using d
    rw[this];simp only[KZ,ne_eq,Bool.not_false];omega
theorem ql(c:Cf)(w:World)(st:St)(I k:Nat)(m:List Nat)(n o:Value)(p:List RE)(h:RF c w st I m n o p)(y:k=2∨k=3):
  Calls prog 111 #[.pointer (some ⟨c.rb,0,none⟩),.int .i64 k] w fun e w'=>(∃a b:Int,e=.returned (.agg #[.int .i64 a,.int .i64 b,.string (bP c.ts st k).text])/\((cx c.ts st k).er=none->b=(bP c.ts st k).place))/\Fo c w I (cx c.ts st k) m n o p w':=by
 obtain⟨⟨M,N,O,z,P⟩,Q,R,⟨t0,t1,t2⟩,l,A,B⟩:=h.facts;have S:=h.len;have T:=h.inx;have C:=ab h;by_cases j:st.er=none
 ·have H:=h.cor j;subst H;rw[j]at z;have V:w.cell? ⟨c.rb,3,none⟩=some (.int .i64 0):=z;have x:=IK (t:=ah c.ts st.nx) y;have J:=ab j;clear h z j;unfold cx bP;by_cases g:(ah c.ts st.nx).kind=k
  ·rw[Jo g,Jo g];have K:(((dh (ah c.ts st.nx):Nat):Int) !=(k:Int))=false:=by rw[x,g];simp
   have L:Hid ((ah c.ts st.nx).kind≠0):=by unfold Hid;rw[g];rcases y with rfl|rfl<;>decide
   clear x g;generalize q:ah c.ts st.nx=t at*;have D:=ab q;clear q;go_enter func111,ntmps111;go_wp2
   go_region
   go_wp2_with fail;refine(jV c _ st st.nx m n o p (by exact(C.keep (((Jj _ _).alloc (Ji _) _).drew))) J (by rw[U D];exact L)).mono ?_;rintro e E ⟨rfl,i,d⟩;rw[U D];have f:=ab ((d.block w.heap.size (by simp) (by have:=l;omega)).trans (af rfl));obtain⟨r,f2⟩:=blk f;have F:=aa f;obtain⟨s,u⟩:=ag i (((Kp.refl c.rb w).alloc _).drew.trans d);clear i d;go_wp2;refine Jr (v:=.agg #[.int .i64 (dh t),.int .i64 t.place,.string t.text]) (by simp[results,results111,go_sem,r]) rfl ⟨⟨_,_,rfl,fun _=>rfl⟩,⟨_,by first|exact Ji _|exact KN _,s.box ?_ f (by have:=l;omega) (by have:=A;omega) (by have:=B;omega) ⟨by decide,by decide⟩⟩,?_⟩
   ·exact(((Kp.refl _ _).setCell _ _).setCell _ _).setCell _ _
   ·exact((u.setNew (Ji _) _).setNew (Ji _) _).setNew (Ji _) _
  ·rw[Jn g,Jn g];have K:(((dh (ah c.ts st.nx):Nat):Int) !=(k:Int))=true:=by rw[x];simpa using g
   clear x g;generalize q:ah c.ts st.nx=t at*;have D:=ab q;clear q;go_enter func111,ntmps111;go_wp2
   go_region
   go_wp2_with fail;refine(iN c _ st st.nx m n o p (by exact(C.keep (((Jj _ _).alloc (Ji _) _).drew)))).mono ?_;rintro e E ⟨rfl,i,d⟩;have f:=ab ((d.block w.heap.size (by simp) (by have:=l;omega)).trans (af rfl));obtain⟨r,f2⟩:=blk f;have F:=aa f;obtain⟨s,u⟩:=ag i (((Kp.refl c.rb w).alloc _).drew.trans d);clear i d;go_wp2;refine Jr (v:=.agg #[.int .i64 0,.int .i64 0,.string ⟨#[]⟩]) (by simp[results,results111,go_sem,r]) rfl ⟨⟨_,_,rfl,fun e=>(eC e).elim⟩,⟨_,by first|exact Ji _|exact KN _,s.box ?_ f (by have:=l;omega) (by have:=A;omega) (by have:=B;omega) ⟨by decide,by decide⟩⟩,?_⟩
   ·exact(((Kp.refl _ _).setCell _ _).setCell _ _).setCell _ _
   ·exact((u.setNew (Ji _) _).setNew (Ji _) _).setNew (Ji _) _
 ·have W:(jq st.er !=0)=true:=by simp only[KZ,ne_eq];exact oz j
  have G:Hid (¬(ah c.ts st.nx).kind=k):=by unfold Hid;rw[h.atEnd j];rcases y with rfl|rfl<;>decide
  unfold cx bP;rw[Jn (U G),Jn (U G)];clear h j;generalize jq st.er=X at*;generalize ah c.ts I=t at*;go_enter func111,ntmps111;go_wp2
  go_region
  go_wp2_with fail;refine(iN c _ st I m n o p (by exact(C.keep (((Jj _ _).alloc (Ji _) _).drew)))).mono ?_;rintro e E ⟨rfl,i,d⟩;have f:=ab ((d.block w.heap.size (by simp) (by have:=l;omega)).trans (af rfl));obtain⟨r,f2⟩:=blk f;have F:=aa f;obtain⟨s,u⟩:=ag i (((Kp.refl c.rb w).alloc _).drew.trans d);clear i d;go_wp2;refine Jr (v:=.agg #[.int .i64 0,.int .i64 0,.string ⟨#[]⟩]) (by simp[results,results111,go_sem,r]) rfl ⟨⟨_,_,rfl,fun e=>(eC e).elim⟩,⟨_,by first|exact Ji _|exact KN _,s.box ?_ f (by have:=l;omega) (by have:=A;omega) (by have:=B;omega) ⟨by decide,by decide⟩⟩,?_⟩
  ·exact(((Kp.refl _ _).setCell _ _).setCell _ _).setCell _ _
  ·exact((u.setNew (Ji _) _).setNew (Ji _) _).setNew (Ji _) _
theorem mz{w w':World}{b:Nat}(a:w'.heap[b]? =w.heap[b]?)(i:Nat):w'.cell? ⟨b,i,none⟩=w.cell? ⟨b,i,none⟩:=by
 unfold World.cell?
 show(match w'.heap[b]? with|_=>_)=(match w.heap[b]? with|_=>_)
 rw[a]
structure Fr(c:Cf)(w:World)(mv ev:Value)(w':World)(mv' ev':Value):Prop where
 os:w'.os=w.os
 tape:w'.tape=w.tape
 output:w'.output=w.output
 size:w.heap.size<=w'.heap.size
 block: ∀k,k<w.heap.size->k≠c.rb->k≠c.qb->some k≠mv.ownBlock->some k≠ev.ownBlock->w'.heap[k]? =w.heap[k]?
 mnew: ∀b,mv'.ownBlock=some b->mv.ownBlock=some b∨w.heap.size<=b
 enew: ∀b,ev'.ownBlock=some b->ev.ownBlock=some b∨w.heap.size<=b
 qk:c.kq=true->c.rb≠c.qb->c.qb<w.heap.size-> ∀i,i<21->w'.cell? ⟨c.qb,i,none⟩=w.cell? ⟨c.qb,i,none⟩
theorem Fr.ofKp{c:Cf}{w w':World}(b d:Value)(a:Kp c.rb w w'):Fr c w b d w' b d:=
 ⟨a.os,a.tape,a.output,a.size,fun k e f _ _ _=>a.block k e f,fun _ a=>Or.inl a,fun _ a=>Or.inl a,fun _ g h i _=>mz (a.block _ h (Lm g)) i⟩
theorem Fr.trans{c:Cf}{a b d:World}{l m n o p r:Value}(e:Fr c a l m b n o)(k:Fr c b n o d p r):Fr c a l m d p r:=by
 refine⟨k.os.trans e.os,k.tape.trans e.tape,k.output.trans e.output,Jt e.size k.size,fun f g s t u v=>?_,fun h i=>?_,fun h i=>?_,fun w x y f g=>(k.qk w x (Js y e.size) f g).trans (e.qk w x y f g)⟩
 ·refine(k.block f (Js g e.size) s t (fun j=>?_) (fun j=>?_)).trans (e.block f g s t u v)
  ·rcases e.mnew f j.symm with q|q
   ·exact u q.symm
   ·omega
  ·rcases e.enew f j.symm with q|q
   ·exact v q.symm
   ·omega
 ·rcases k.mnew h i with q|q
  ·exact e.mnew h q
  ·exact Or.inr (Jt e.size q)
 ·rcases k.enew h i with q|q
  ·exact e.enew h q
  ·exact Or.inr (Jt e.size q)
theorem GN:(prog.info? 374).map (fun i=>(i.zero,i.size,i.bytes))=some (some (.agg #[.string ⟨#[]⟩,.int .i64 0,.int .i64 0,.int .i64 0,.string ⟨#[]⟩,.int .i64 0,.int .i64 0,.string ⟨#[]⟩,.int .i64 0,.int .i64 0]),10,104):=by kernel_rfl
theorem IL(b c d:ByteArray)(e f g h i j k:Int): ∀u∈([.string b,.int .i64 e,.int .i64 f,.int .i64 g,.string c,.int .i64 h,.int .i64 i,.string d,.int .i64 j,.int .i64 k]:List Value),u.oneCell'=true:=by intro u a;simp only[JG,JO,Kg]at a;rcases a with rfl|rfl|rfl|rfl|rfl|rfl|rfl|rfl|rfl|rfl<;>rfl
theorem RF.added{c:Cf}{w W f:World}{st:St}{I g cap:Nat}{m:List Nat}{j h:Value}{e:List RE}(t:RE)(a:RF c w st I m j h e)(B:e.length+1<=I)(i:Below w.heap.size w W)(C:f.ownsRow c.lo 374 10 (.slice (some ⟨g,0,none⟩) (e.length+1) cap) (e.length+1) (jU e++tJ t))(k:W.grownBy f h.ownBlock)(D:h.ownBlock=some g∨w.heap.size<=g):
  RF c (f.setCell ⟨c.qb,21,none⟩ (.slice (some ⟨g,0,none⟩) (e.length+1) cap)) st I m j (.slice (some ⟨g,0,none⟩) (e.length+1) cap) (e++[t])/\Fr c w j h (f.setCell ⟨c.qb,21,none⟩ (.slice (some ⟨g,0,none⟩) (e.length+1) cap)) j (.slice (some ⟨g,0,none⟩) (e.length+1) cap):=by
 obtain⟨E,o,F,G,H,X,u,v⟩:=a.query;obtain⟨J,x,K⟩:=a.tokens;have y:=a.low;have z:=a.ne;have p: ∀b,some b=h.ownBlock->c.lo<=b:=fun b d=>(v.lt b d.symm).1;have l: ∀b,b<w.heap.size->some b≠h.ownBlock->f.heap[b]? =w.heap[b]? :=fun b n L=>(k.block b (Js n i.size) L).trans (i.block b n);have A:=(l c.qb (aa o) (fun d=>by have:=p _ d;omega)).trans o;have Y:w.heap.size<=f.heap.size:=Jt i.size k.size
 have M:f.ownsRow c.lo 3 1 j m.length (jN m):=by
  refine⟨u.1,u.2.imp id ?_⟩;rintro⟨q,N,O,P,Q,r,R⟩;refine⟨q,N,O,P,Q,(l q (aa r) (fun d=>?_)).trans r,R⟩;rcases v.2 with⟨rfl,_⟩|⟨g2,cap2,cur2,rfl,_,hh2,_⟩
  ·cases d
  ·have s:q=g2:=by simpa [Value.ownBlock]using d
   subst s;rw[r]at hh2;simp only[Ke,L7]at hh2;exact absurd hh2.2.1 (by decide)
 refine⟨⟨a.len,a.last,a.kinds,a.nx,a.inx,a.cor,a.stop,a.dp,a.ne,a.low,?_,?_,⟨by rw[Jk];exact B,a.few.2⟩,⟨E.setIfInBounds 21 (.slice (some ⟨g,0,none⟩) (e.length+1) cap),?_,by simp[F],?_,?_,?_,fh M y.2.1,by rw[Jk,yt];exact fh C y.2.1⟩,⟨J,?_,K⟩⟩,?_⟩
 ·show c.lo<=(f.setCell ⟨c.qb,21,none⟩ _).heap.size
  have:=a.top;simp;omega
 ·exact(Jp _ _ _ _ (by show c.rb≠c.qb;exact z.1)).trans ((l c.rb (aa a.reader) (fun d=>by have:=p _ d;omega)).trans a.reader)
 ·exact am A _
 ·rw[Jv (by decide)];exact G
 ·rw[Jv (by decide)];exact H
 ·rw[J1 (by omega)]
 ·exact(Jp _ _ _ _ (by show c.tb≠c.qb;exact z.2.2)).trans ((l c.tb (aa x) (fun d=>by have:=p _ d;omega)).trans x)
 ·refine⟨k.os.trans i.os,k.tape.trans i.tape,k.output.trans i.output,by simp;omega,fun b n Z S ac T=>?_,fun _ d=>Or.inl d,fun V d=>?_,fun _ _ _ ad ae=>?_⟩
  ·exact(Jp _ _ _ _ (by show b≠c.qb;exact S)).trans (l b n T)
  ·have s:g=V:=by simpa [Value.ownBlock]using d
   subst s;exact D
  ·rw[(blk (am A _)).1,(blk o).1];exact Jv (by omega)
theorem ng(c:Cf)(w:World)(st:St)(I:Nat)(s:List Nat)(d A:Value)(a:List RE)(b:RF c w st I s d A a)(an:a.length+1<=I)(g h i:ByteArray)(j k l m n o p:Int):
  Calls prog 223 #[.pointer (some ⟨c.rb,0,none⟩),.agg #[.string g,.int .i64 j,.int .i64 k,.int .i64 l,.string h,.int .i64 m,.int .i64 n,.string i,.int .i64 o,.int .i64 p]] w fun e w'=> ∃(f:Value),e=.returned (.int .i64 (a.length:Nat))/\RF c w' st I s d f (a++[⟨g,j,k,l,h,m,n,i,o,p⟩])/\Fr c w d A w' d f:=by
 obtain⟨ao,B,C⟩:=Jq.1 GN;simp only[JB]at C;obtain⟨D,E,F⟩:=C;obtain⟨ap,ar,au,av⟩:=aP B D E F;clear B D E F;obtain⟨⟨G,H,J,K,L⟩,M,N,⟨t0,t1,t2⟩,O,P,Q⟩:=b.facts;obtain⟨a0,t,a1,a2,a3,ax,R,u⟩:=b.query;have a4:=b.len;have a5:=b.inx;obtain⟨S,a9⟩:=blk t;obtain⟨v,x,T⟩:=a8 u;have a':=b.top;have ba:=b.low;obtain⟨V,ay,y,bb⟩:=aP b t u R;have W:w.cell? ⟨c.qb,21,none⟩=some (.slice v a.length x):=by rw[S,ax,T]
 subst T;clear b t u R S;go_enter func223,ntmps223
 go_upto_region 1 with(fail)
 go_cut []from 5 to 20 (fun X=> ∃f,RF c X st I s d f (a++[⟨g,j,k,l,h,m,n,i,o,p⟩])/\Fr c w d (.slice v a.length x) X d f)
 case first=>
  go_region_law (first
   |(refine KE _ rfl (.tmp 15) (.tmp 17) 106 rfl c.lo 374 ao (.agg #[.string ⟨#[]⟩,.int .i64 0,.int .i64 0,.int .i64 0,.string ⟨#[]⟩,.int .i64 0,.int .i64 0,.string ⟨#[]⟩,.int .i64 0,.int .i64 0]) 10 104 underlying106 ap ar au av rfl (by decide) (.slice v a.length x) a.length (jU a) (by simp[Act.eval]) ((y.alloc _).alloc _) ⟨w.heap.size+1,0,none⟩ 1 1 [.string g,.int .i64 j,.int .i64 k,.int .i64 l,.string h,.int .i64 m,.int .i64 n,.string i,.int .i64 o,.int .i64 p] (by simp[Act.eval]) rfl (cQ (by first|rfl|simp)) (IL _ _ _ _ _ _ _ _ _ _) (by decide) (by unfold maxLen;omega) (by omega) (by simp;omega) _ rfl ?_;intro bc be bg Y q Z _;have ac:=ab ((q.block c.qb (by simp;omega) (fun z=>by have:=(y.lt _ z.symm).1;omega)).trans (ai (ai ay)));obtain⟨bk,f11⟩:=blk ac;have bl:=aa ac;have ad:=ab ((q.block c.rb (by simp;omega) (fun z=>by have:=(y.lt _ z.symm).1;omega)).trans (ai (ai V.reader)));obtain⟨bn,f12⟩:=blk ad;have bq:=aa ad;have aA:=ab Y;have aI:=ab q;have aJ:=ab Z;clear Y q Z)
   |fail)
  all_goals
   go_wp2_with fail;go_meet
   case rel=>exact⟨_,V.added ⟨g,j,k,l,h,m,n,i,o,p⟩ an (by repeat(first|exact Jj _ _|apply JI|refine JY ?_ (by first|exact Ji _|(simp;done)|(simp;omega)) _)) aA aI (aJ.imp id (fun e=>by rw[e];first|exact Ji _|(simp;done)|(simp;omega)))⟩
 case rest=>
  obtain⟨f,r,ae⟩:=hcut;clear G H J K L M N t0 t1 t2 O P Q W;obtain⟨⟨G,H,J,K,L⟩,M,N,⟨t0,t1,t2⟩,O,P,Q⟩:=r.facts;obtain⟨br,aj,_,_,_,ak,_,al⟩:=r.query;obtain⟨aN,aR,aT⟩:=a8 al;have W:wc.cell? ⟨c.qb,21,none⟩=some (.slice aN (a.length+1) aR):=by rw[(blk aj).1,ak,aT,Jk];rfl
  obtain⟨aU,aV⟩:=ag r ae;clear r ae aj al ak;go_wp2;go_ret;refine⟨f,?_,aU,aV⟩
  congr 3
end
section
open Tryz
def fi(ts:List Tk)(st:St):Prop:=st.er≠none/\st.nx+1=ts.length
theorem iQ{ts:List Tk}{st:St}(b:fi ts st)(k:Nat):bM ts st k=st:=by
 obtain⟨e,f,c⟩:=st;obtain⟨a,d⟩:=b;simp only at a d;unfold bM
 cases c with
 |none=>exact(a rfl).elim
 |some g=>simp only[St.mk.injEq,and_true];omega
theorem kN{ts:List Tk}(b:cO ts){st:St}(c:fi ts st):(ah ts st.nx).kind=0:=by
 by_cases a:(ah ts st.nx).kind=0
 ·exact a
 ·have d:=c.2;have:=b st.nx (by omega) a;omega
theorem jr{ts:List Tk}(a:cO ts){st:St}(b:fi ts st)(xs:List ByteArray):az ts st xs=false:=by unfold az;rw[kN a b];rfl
theorem nh{ts:List Tk}(b:cO ts){st:St}(a:fi ts st)(xs:List ByteArray):aH ts st xs=st:=by unfold aH;rw[jr b a];exact iQ a _
theorem pi{ts:List Tk}(b:cO ts){st:St}(a:fi ts st){k:Nat}(c:k≠0):cx ts st k=st:=by unfold cx;rw[kN b a,Jn (Lm c)];exact iQ a _
theorem z'{ts:List Tk}(a:cO ts){st:St}(b:fi ts st):nY ts st=st:=by unfold nY;rw[pi a b (by decide),nh a b,pi a b (by decide)]
theorem oB{ts:List Tk}(b:cO ts){st:St}(a:fi ts st): ∀n,(aQ ts n st).2=st
 |0=>iQ a _
 |n+1=>by unfold aQ;rw[jr b a,jr b a,kN b a];exact z' b a
theorem yu{ts:List Tk}(a:cO ts){st:St}(b:fi ts st)(one:St->Rx)(xs:List ByteArray)(p:Nat)(l:List Nd): ∀n,(cD ts one xs p n l st).2=st
 |0=>rfl
 |n+1=>by unfold cD;rw[jr a b];rfl
theorem pH{ts:List Tk}(a:cO ts){st:St}(b:fi ts st){one:St->Rx}(c:(one st).2=st)(xs:List ByteArray):(iD ts one xs st).2=st:=by unfold iD;rw[c];exact yu a b _ _ _ _ _
theorem yv{ts:List Tk}(a:cO ts){st:St}(b:fi ts st)(n:Nat):(jk ts (aQ ts n) st).2=st:=pH a b (oB a b n) _
theorem yw{ts:List Tk}(a:cO ts){st:St}(b:fi ts st)(n:Nat):(ek ts (aQ ts n) st).2=st:=pH a b (yv a b n) _
theorem RF.stopped{c:Cf}{w:Go.World}{st:St}{I:Nat}{b:List Nat}{d e:Go.Value}{f:List RE}(g:RF c w st I b d e f)(a:st.er≠none):fi c.ts st:=⟨a,g.stop a⟩
inductive fF(xs:List RE):Int->List Nd->Prop
 |num (n:Nat) (e:RE) (t:Tk) (h:xs[n]? =some e) (h1:e.sg=⟨#[]⟩) (h2:e.nu=t.value) (h3:e.A= -1) (h4:e.B= -1):fF xs (n:Int) [mh t]
 |col (n:Nat) (e:RE) (t u:Tk) (h:xs[n]? =some e) (h1:e.sg=⟨#[46]⟩) (h2:e.s1=t.text) (h3:e.a1=t.place) (h4:e.s2=u.text) (h5:e.a2=u.place):fF xs (n:Int) [dl t u]
 |minus (n:Nat) (e:RE) (p:Nat) (k:List Nd) (h:xs[n]? =some e) (h1:e.sg=⟨#[45]⟩) (h2:e.B= -1) (h3:fF xs e.A k):fF xs (n:Int) (gv p::k)
 |br (n:Int) (p:Nat) (k:List Nd) (h:fF xs n k):fF xs n (mH p::k)
 |pair (n:Nat) (e:RE) (p:Nat) (k m:List Nd) (h:xs[n]? =some e) (h1:e.sg=⟨#[42]⟩∨e.sg∈kj) (h2:fF xs e.A k) (h3:fF xs e.B m):fF xs (n:Int) (fZ p e.sg::(k++m))
theorem fF.more{xs:List RE}{n:Int}{k:List Nd}(b:fF xs n k)(l:List RE):fF (xs++l) n k:=by
 have f: ∀ {n:Nat} {a:RE},xs[n]? =some a->(xs++l)[n]? =some a:=fun{n a} m=>by rw[Jz (Jy.1 m).1];exact m
 induction b with
 |num n a g b c d h i=>exact .num n a g (f b) c d h i
 |col n a g o b c d h i p=>exact .col n a g o (f b) c d h i p
 |minus n a e k b c d _ j=>exact .minus n a e k (f b) c d j
 |br n e k _ j=>exact .br n e k j
 |pair n a e k q b c _ _ r s=>exact .pair n a e k q (f b) c r s
theorem fF.nonneg{xs:List RE}{n:Int}{k:List Nd}(a:fF xs n k):0<=n:=by
 induction a with
 |br _ _ _ _ b=>exact b
 |_=>omega
theorem oC(xs:List RE)(e:RE):(xs++[e])[xs.length]? =some e:=by simp
end
section
open Go.RowKit Tryz
def vJ(c:Cf)(w:World)(I:Nat)(h:List Nat)(i j:Value)(b:List RE)(r:Rx)(e:Ending)(w':World):Prop:=
 ∃(n:Int) (I':Nat) (d:List Nat) (f g:Value) (a:List RE),e=.returned (.int .i64 n)/\RF c w' r.2 I' d f g a/\Fr c w i j w' f g/\I<=I'/\a.length+I<=b.length+I'/\d.length+I<=h.length+I'/\(∃k,a=b++k)/\(r.2.er=none->fF a n r.1)
theorem yx(c:Cf)(w:World)(st:St)(I:Nat)(b:List Nat)(d f:Value)(g:List RE)(n:Nat)(a:RF c w st I b d f g)(h:st.er≠none):
  Calls prog 278 #[.pointer (some ⟨c.rb,0,none⟩)] w fun e w'=>vJ c w I b d f g (aQ c.ts n st) e w':=by
 have k:=oB a.last (a.stopped h) n;obtain⟨⟨l,m,o,p,q⟩,r,s,⟨t0,t1,t2⟩,t,u,v⟩:=a.facts;have F:(jq st.er !=0)=true:=by simp only[KZ,ne_eq];exact oz h
 obtain⟨i,x,y,A⟩:=aP k a h (iQ (a.stopped h) cB);have G:=a.dp;clear a k h;by_cases H:16<st.dp
 ·have B:decide (16<(st.dp:Int))=true:=by simp;omega
  go_enter func278,ntmps278;go_wp2_with fail;refine(mn c _ st I b d f g (by exact x)).mono ?_;rintro e J ⟨rfl,j,z⟩;rw[U A]at j;obtain⟨C,D⟩:=ag j z;clear l m o p q r s t0 t1 t2 t u v;obtain⟨⟨l,m,o,p,q⟩,r,s,⟨t0,t1,t2⟩,t,u,v⟩:=j.facts;clear j z;generalize jq st.er=E at*;go_wp2;go_ret;exact⟨0,I,b,d,f,g,rfl,by rw[U i];exact U C,Fr.ofKp _ _ D,Ji _,Ji _,Ji _,⟨[],(JD _).symm⟩,fun e=>(U y (by rw[<-U i];exact e)).elim⟩
 ·have B:decide (16<(st.dp:Int))=false:=by simp;omega
  generalize jq st.er=E at*;go_enter func278,ntmps278;go_wp2;go_ret;exact⟨0,I,b,d,f,g,rfl,by rw[U i];exact U x,Fr.ofKp _ _ (Kp.refl _ _),Ji _,Ji _,Ji _,⟨[],(JD _).symm⟩,fun e=>(U y (by rw[<-U i];exact e)).elim⟩
theorem yy(c:Cf)(w:World)(st:St)(I:Nat)(a:List Nat)(b d:Value)(f:List RE)(g:RF c w st I a b d f)(_he:st.er=none)(t:st.dp=17):
  Calls prog 278 #[.pointer (some ⟨c.rb,0,none⟩)] w fun e w'=>vJ c w I a b d f (aQ c.ts 0 st) e w':=by
 obtain⟨⟨j,k,h,l,m⟩,n,o,⟨t0,t1,t2⟩,p,q,r⟩:=g.facts;have u:=ab g;rw[t]at h;have y:(jq (bM c.ts st cB).er !=0)=true:=by simp only[KZ,ne_eq];exact oz (fun e=>eC e)
 clear g _he;go_enter func278,ntmps278;go_wp2_with fail;refine(mn c _ st I a b d f (by exact u)).mono ?_;rintro e z ⟨rfl,i,s⟩;obtain⟨v,x⟩:=ag i s;clear j k h l m n o t0 t1 t2 p q r;obtain⟨⟨j,k,h,l,m⟩,n,o,⟨t0,t1,t2⟩,p,q,r⟩:=i.facts;clear i s;generalize jq (bM c.ts st cB).er=A at*;go_wp2;go_ret;exact⟨0,I,a,b,d,f,rfl,v,Fr.ofKp _ _ x,Ji _,Ji _,Ji _,⟨[],(JD _).symm⟩,fun e=>(eC e).elim⟩
def jB(ts:List Tk):Prop:= ∀a,(ah ts a).kind=3->(∀b,b∈(ah ts a).text.data.toList->aG b.toNat=true)/\(ah ts a).text.size<=1000/\(ah ts a).value=oq (dX 0 (ah ts a).text.data.toList)
theorem qO{ts:List Tk}{st:St}{k:Nat}(a:(ah ts st.nx).kind=k)(b:k≠1)(xs:List ByteArray):az ts st xs=false:=by
 unfold az;rw[a];have:(k==1)=false:=by simpa using b
 rw[this];rfl
theorem Dt{ts:List Tk}{st:St}(a:(ah ts st.nx).kind=3)(n:Nat):aQ ts (n+1) st=([mh (ah ts st.nx)],aD st):=by unfold aQ;rw[qO a (by decide),qO a (by decide)];simp only[Km,Lj];rw[Jo a];unfold bP cx;rw[Jo a,Jo a]
theorem Aa(c:Cf)(w:World)(st:St)(I:Nat)(d:List Nat)(a f:Value)(i:List RE)(n:Nat)(b:RF c w st I d a f i)(o:jB c.ts)(j:st.er=none)(M:st.dp<=16)(g:(ah c.ts st.nx).kind=3):
  Calls prog 278 #[.pointer (some ⟨c.rb,0,none⟩)] w fun e w'=>vJ c w I d a f i (aQ c.ts (n+1) st) e w':=by
 rw[Dt g];have x:=b.cor j;subst x;obtain⟨⟨N,O,P,p,Q⟩,R,S,⟨t0,t1,t2⟩,T,V,W⟩:=b.facts;have X:w.cell? ⟨c.rb,3,none⟩=some (.int .i64 0):=by rw[p,j];rfl
 have Y:decide (16<(st.dp:Int))=false:=by simp;omega
 have k:=o st.nx g;have y:=ab k.1;have z:=k.2.1;have A:=ab k.2.2;have B:dh (ah c.ts st.nx)=3:=by unfold dh;rw[g];rfl
 have Z:=b.len;have ac:=b.nx;obtain⟨q,C⟩:=ag b j;have D:Hid ((ah c.ts st.nx).kind≠0):=by unfold Hid;rw[g];decide
 rw[B]at t0;clear b p j o k g;generalize r:ah c.ts st.nx=h at*;have s:=ab r;clear r;go_enter func278,ntmps278;go_wp2
 go_region
 go_wp2_with fail;refine(jV c _ st st.nx d a f i (by exact q.keep (Jj _ _).drew) C (by rw[U s];exact D)).mono ?_;rintro e l ⟨rfl,m,t⟩;rw[U s];have E:=ab m;have F:Hid (Kp c.rb w l):=((Kp.refl c.rb w).drew).trans t;have ad:=aa m.reader;clear m t;go_wp2_with fail;refine(nH h.text _ z y).mono ?_;rintro e w' ⟨rfl,rfl⟩;generalize G:oq (dX 0 h.text.data.toList)=ae at*;clear G;go_wp2_with fail;have aj:=q.few;have H:=ab (E.keep ((Jj l.heap.size l).alloc (Ji _) (.cells #[.int .i64 3,.int .i64 h.place,.string h.text] 100)));refine(ng c _ (aD st) (st.nx+1) d a f i (by exact H) (by omega) _ _ _ _ _ _ _ _ _ _).mono ?_;rintro e ak ⟨J,rfl,u,v⟩;obtain⟨K,L⟩:=ag u ((Fr.ofKp a f (F.alloc _)).trans v);clear u v;go_wp2;go_ret;exact⟨_,st.nx+1,d,a,J,_,rfl,K,L,KN _,by rw[Jk,JZ];omega,by omega,⟨_,rfl⟩,fun _=>.num _ _ h (oC _ _) rfl A.symm rfl rfl⟩
theorem Du{ts:List Tk}{st:St}(a:(ah ts st.nx).kind=2)(n:Nat):aQ ts (n+1) st=([dl (ah ts st.nx) (bP ts (aH ts (aD st) [⟨#[46]⟩]) 2)],cx ts (aH ts (aD st) [⟨#[46]⟩]) 2):=by
 have b:cx ts st 2=aD st:=by unfold cx;rw[Jo a]
 have c:bP ts st 2=ah ts st.nx:=by unfold bP;rw[Jo a]
 unfold aQ;rw[qO a (by decide),qO a (by decide)];simp only[Km,Lj];rw[Jn (by rw[a];decide)];unfold nY;rw[b,c]
theorem Ab(c:Cf)(w:World)(st:St)(I:Nat)(b:List Nat)(a d:Value)(f:List RE)(n:Nat)(g:RF c w st I b a d f)(i:st.er=none)(aj:st.dp<=16)(j:(ah c.ts st.nx).kind=2):
  Calls prog 278 #[.pointer (some ⟨c.rb,0,none⟩)] w fun e w'=>vJ c w I b a d f (aQ c.ts (n+1) st) e w':=by
 rw[Du j];have G:=g.cor i;subst G;obtain⟨⟨ak,al,an,p,ao⟩,ap,ar,⟨t0,t1,t2⟩,au,av,ax⟩:=g.facts;have ay:w.cell? ⟨c.rb,3,none⟩=some (.int .i64 0):=by rw[p,i];rfl
 have aA:decide (16<(st.dp:Int))=false:=by simp;omega
 have H:dh (ah c.ts st.nx)=2:=by unfold dh;rw[j];rfl
 have aI:=g.len;have aJ:=g.nx;obtain⟨q,J⟩:=ag g i;have K:Hid ((ah c.ts st.nx).kind≠0):=by unfold Hid;rw[j];decide
 rw[H]at t0;clear g p i j;generalize r:ah c.ts st.nx=k at*;have s:=ab r;clear r;go_enter func278,ntmps278;go_wp2
 go_region
 go_wp2_with fail;refine(jV c _ st st.nx b a d f (by exact q.keep (Jj _ _).drew) J (by rw[U s];exact K)).mono ?_;rintro e h ⟨rfl,l,t⟩;rw[U s];have L:=ab l;have M:Hid (Kp c.rb w h):=((Kp.refl c.rb w).drew).trans t;have aL:=aa l.reader;clear l t;go_wp2_with fail;have N:=ab (L.keep ((Jj h.heap.size h).alloc (Ji _) (.cells #[.int .i64 2,.int .i64 k.place,.string k.text] 100)));refine(iO c _ (aD st) (st.nx+1) ⟨#[46]⟩ b a d f (by exact N)).mono ?_;rintro e aN ⟨rfl,⟨O,aR,u⟩,m⟩;obtain⟨v,P,Q⟩:=aC ((m.block h.heap.size (by simp) (by omega)).trans (af rfl)) u ((M.alloc _).trans m);clear u m;go_wp2_with fail;refine(ql c _ (aH c.ts (aD st) [⟨#[46]⟩]) O 2 b a d f (by exact P) (Or.inl rfl)).mono ?_;rintro e x ⟨⟨R,S,rfl,y⟩,⟨z,aT,A⟩,o⟩;have T:=ab y;clear y;have V:=aa v;have B:=ab ((o.block h.heap.size V (by omega)).trans v);obtain⟨aU,f3⟩:=blk B;have aV:=aa B;obtain⟨W,X⟩:=ag A (Q.trans o);clear A o;have a0:=q.few;generalize C:bP c.ts (aH c.ts (aD st) [⟨#[46]⟩]) 2=D at*;have Y:=ab C;clear C;go_wp2_with fail;have Z:=ab (W.keep ((Jj x.heap.size x).alloc (Ji _) (.cells #[.int .i64 R,.int .i64 S,.string D.text] 100)));refine(ng c _ _ z b a d f (by exact Z) (by omega) _ _ _ _ _ _ _ _ _ _).mono ?_;rintro e a1 ⟨ac,rfl,E,F⟩;obtain⟨ad,ae⟩:=ag E ((Fr.ofKp a d (X.alloc _)).trans F);clear E F;go_wp2;go_ret;exact⟨_,z,b,a,ac,_,rfl,ad,ae,by omega,by rw[Jk,JZ];omega,by omega,⟨_,rfl⟩,fun e=>by rw[U Y];exact .col _ _ k D (oC _ _) rfl rfl rfl rfl (T e)⟩
theorem RF.addedM{c:Cf}{w W f:World}{st:St}{I g cap:Nat}{e:List Nat}{h j:Value}{n:List RE}(m:Nat)(a:RF c w st I e h j n)(B:e.length+1<=I)(i:Below w.heap.size w W)(C:f.ownsRow c.lo 3 1 (.slice (some ⟨g,0,none⟩) (e.length+1) cap) (e.length+1) (jN e++[.int .i64 m]))(k:W.grownBy f h.ownBlock)(D:h.ownBlock=some g∨w.heap.size<=g):
  RF c (f.setCell ⟨c.qb,22,none⟩ (.slice (some ⟨g,0,none⟩) (e.length+1) cap)) st I (e++[m]) (.slice (some ⟨g,0,none⟩) (e.length+1) cap) j n/\Fr c w h j (f.setCell ⟨c.qb,22,none⟩ (.slice (some ⟨g,0,none⟩) (e.length+1) cap)) (.slice (some ⟨g,0,none⟩) (e.length+1) cap) j:=by
 obtain⟨E,p,F,G,X,H,u,v⟩:=a.query;obtain⟨J,x,K⟩:=a.tokens;have y:=a.low;have z:=a.ne;have q: ∀d,some d=h.ownBlock->c.lo<=d:=fun d b=>(u.lt d b.symm).1;have l: ∀d,d<w.heap.size->some d≠h.ownBlock->f.heap[d]? =w.heap[d]? :=fun d o L=>(k.block d (Js o i.size) L).trans (i.block d o);have A:=(l c.qb (aa p) (fun b=>by have:=q _ b;omega)).trans p;have Y:w.heap.size<=f.heap.size:=Jt i.size k.size
 have M:f.ownsRow c.lo 374 10 j n.length (jU n):=by
  refine⟨v.1,v.2.imp id ?_⟩;rintro⟨r,N,O,P,Q,s,R⟩;refine⟨r,N,O,P,Q,(l r (aa s) (fun b=>?_)).trans s,R⟩;rcases u.2 with⟨rfl,_⟩|⟨g2,cap2,cur2,rfl,_,hh2,_⟩
  ·cases b
  ·have t:r=g2:=by simpa [Value.ownBlock]using b
   subst t;rw[s]at hh2;simp only[Ke,L7]at hh2;exact absurd hh2.2.1 (by decide)
 refine⟨⟨a.len,a.last,a.kinds,a.nx,a.inx,a.cor,a.stop,a.dp,a.ne,a.low,?_,?_,⟨a.few.1,by rw[Jk];exact B⟩,⟨E.setIfInBounds 22 (.slice (some ⟨g,0,none⟩) (e.length+1) cap),?_,by simp[F],?_,?_,?_,?_,fh M y.2.1⟩,⟨J,?_,K⟩⟩,?_⟩
 ·show c.lo<=(f.setCell ⟨c.qb,22,none⟩ _).heap.size
  have:=a.top;simp;omega
 ·exact(Jp _ _ _ _ (by show c.rb≠c.qb;exact z.1)).trans ((l c.rb (aa a.reader) (fun b=>by have:=q _ b;omega)).trans a.reader)
 ·exact am A _
 ·rw[Jv (by decide)];exact G
 ·rw[J1 (by omega)]
 ·rw[Jv (by decide)];exact H
 ·have b:jN (e++[m])=jN e++[.int .i64 m]:=by simp[jN]
  rw[b,Jk];exact fh C y.2.1
 ·exact(Jp _ _ _ _ (by show c.tb≠c.qb;exact z.2.2)).trans ((l c.tb (aa x) (fun b=>by have:=q _ b;omega)).trans x)
 ·refine⟨k.os.trans i.os,k.tape.trans i.tape,k.output.trans i.output,by simp;omega,fun d o Z S T ac=>?_,fun V b=>?_,fun _ b=>Or.inl b,fun _ _ _ ad ae=>?_⟩
  ·exact(Jp _ _ _ _ (by show d≠c.qb;exact S)).trans (l d o T)
  ·have t:g=V:=by simpa [Value.ownBlock]using b
   subst t;exact D
  ·rw[(blk (am A _)).1,(blk p).1];exact Jv (by omega)
theorem Dv:(prog.info? 3).map (fun i=>(i.zero,i.size,i.bytes))=some (some (.int .i64 0),1,8):=by kernel_rfl
def ni(c:Cf)(j d:Nat)(k:St->Rx):Prop:= ∀(a:World) (b:St) (e:Nat) (f:List Nat) (g h:Value) (i:List RE),RF c a b e f g h i->b.dp=d->Calls prog j #[.pointer (some ⟨c.rb,0,none⟩)] a fun l m=>vJ c a e f g h i (k b) l m
theorem RF.deeper{c:Cf}{w:World}{st:St}{I:Nat}{b:List Nat}{e f:Value}{g:List RE}(a:RF c w st I b e f g)(d:Nat)(h:d<=17):RF c (w.setCell ⟨c.rb,2,none⟩ (.int .i64 d)) {st with dp:=d} I b e f g:=
 a.turn (st':= {st with dp:=d}) ((Kp.refl _ _).setCell _ _) ((am a.reader _).trans rfl) (Ji _) a.nx a.inx a.cor a.stop h
end
end Go.Proofs.YtfkeddkfegaeiaaGreatDoor
