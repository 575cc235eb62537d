import Derived.Test.YtfkeddkfegaeiaaGreatDoorPnPure
set_option maxRecDepth 100000
set_option maxHeartbeats 20000000
namespace Go.Proofs.YtfkeddkfegaeiaaGreatDoor
section
open Go.RowKit Tryz
theorem pN: ∀(l:List UInt8) (n:Nat),(∀c,c∈l->aG c.toNat=true)->Lib.parseUint10 n l≠ .«syntax»
 | [],n,_=>by simp[Lib.parseUint10]
 |c::r,n,a=>by
  have b:=a c JK;unfold aG at b;simp only[Kc,JQ]at b;unfold Lib.parseUint10;rw[Jo (by omega)];split
  ·simp
  ·split
   ·simp
   ·exact pN r _ (fun d e=>a d (KQ _ e))
theorem Cp{l:List UInt8}(a: ∀c,c∈l->aG c.toNat=true)(e:l≠ []):Lib.atoiAll l≠ .«syntax»:=by
 match l,e with
 |c::b,_=>
  have d:=a c JK;unfold aG at d;simp only[Kc,JQ]at d;have f:=pN (c::b) 0 a;unfold Lib.atoiAll;simp only;rw[Jn (by omega: ¬(c.toNat=43∨c.toNat=45))];unfold Lib.parseMag;rw[Jn (by simp)]
  cases g:Lib.parseUint10 0 (c::b)with
  |«syntax»=>exact(f g).elim
  |range=>simp
  |ok h=>
   simp only;split
   ·simp
   ·split<;>simp
theorem Cq(l:List UInt8): ∀c,c∈l.takeWhile (fun c=>aG c.toNat)->aG c.toNat=true:=by
 induction l with
 |nil=>intro c a;cases a
 |cons d f e=>
  intro c a;rw[KH]at a;by_cases b:aG d.toNat=true
  ·rw[Jo b]at a;rcases JG.1 a with rfl|a
   ·exact b
   ·exact e c a
  ·rw[Jn b]at a;cases a
theorem uh(r:ByteArray)(e:0<r.size)(a:aG ((r.data.toList.headD 0).toNat:Int)=true):Lib.atoiAll (r.extract 0 (aY aG r.data.toList)).data.toList≠ .«syntax»:=by
 have d:(r.extract 0 (aY aG r.data.toList)).data.toList=r.data.toList.takeWhile (fun b=>aG b.toNat):=by rw[Kx,KP];unfold aY;simp only[KI,List.drop_zero,Nat.sub_zero];exact(Lk.1 (Lx _)).symm
 rw[d];refine Cp (Cq _) ?_
 cases c:r.data.toList with
 |nil=>have:=JE List.length c;rw[JP,Kr]at this;have f:r.size=r.data.size:=rfl;omega
 |cons b g=>rw[c]at a;simp only[List.headD_cons]at a;rw[KH,Jo a];simp
theorem xb(s t:ByteArray)(i:Nat)(w:World)(n:i<s.size)(o:s.size<=1000)(j:Hid (t=(s.extract i s.size).extract 0 (bK (s.extract i s.size).data.toList)))(b:Hid (aq (((s.extract i s.size).data.toList.headD 0).toNat:Int)=false))(k:Hid (aG (((s.extract i s.size).data.toList.headD 0).toNat:Int)=false))(hn:(t.toList== [])=false):
  Calls prog 95 #[.string s,.int .i64 i] w fun e w'=>e=.returned (.tuple #[.agg #[.int .i64 i,.int .i64 1,.string t,.int .i64 0],.nilIface])/\Below w.heap.size w w':=by
 have d:(s.extract i s.size).size=s.size-i:=dA s i;have f:=ab d;clear d;go_enter func95,ntmps95;go_wp2_with fail;have a:0<(s.extract i s.size).size:=by rw[U f];omega
 have g:=iT _ a;generalize(s.extract i s.size)[0]'a=p at*;rw[g]at b;have q:=U b;clear b g;have h:(s.extract i s.size).size<=maxLen:=by rw[U f];unfold maxLen;omega
 have l:=ab h;clear h;have c:=ab a;clear a;generalize s.extract i s.size=m at*;refine(ew _ _).mono ?_;rintro e w' ⟨rfl,rfl⟩;go_wp2_with fail;have r:aG ((m[0]'(U c)).toNat:Int)=false:=by rw[<-iT _ (U c)];exact k
 refine(hU _ _).mono ?_;rintro e w' ⟨rfl,rfl⟩;go_wp2_with fail;refine(nA _ _ c l).mono ?_;rintro e w' ⟨rfl,rfl⟩;rw[<-U j];go_wp2;refine Jr (v:=.tuple #[.agg #[.int .i64 i,.int .i64 1,.string t,.int .i64 0],.nilIface]) (by simp[results,results95,go_sem]) rfl ⟨rfl,?_⟩;exact((Jj _ _).alloc (Ji _) _).alloc (by simp) _
theorem xc(s t:ByteArray)(i:Nat)(a:Nat->Addr)(m:Nat)(w:World)(d:Hid (fD a m w))(r:i<s.size)(u:s.size<=1000)(n:Hid (t=(s.extract i s.size).extract 0 (bK (s.extract i s.size).data.toList)))(f:Hid (aq (((s.extract i s.size).data.toList.headD 0).toNat:Int)=false))(o:Hid (aG (((s.extract i s.size).data.toList.headD 0).toNat:Int)=false))(hn:(t.toList== [])=true):
  Calls prog 95 #[.string s,.int .i64 i] w fun e w'=> ∃b,e=.returned (.tuple #[wX,.iface 110 (.pointer (some ⟨b,0,none⟩))])/\w.heap.size<=b/\b<w'.heap.size/\cM w' b i (bI a jZ)/\Below w.heap.size w w':=by
 have x:=d.cell 1 (by decide);have y:1<w.heap.size:=by have:=d.low;have:=d.size;omega
 have z:0<w.heap.size:=by omega
 have h:(s.extract i s.size).size=s.size-i:=dA s i;have j:=ab h;clear h;go_enter func95,ntmps95;go_wp2_with fail;have c:0<(s.extract i s.size).size:=by rw[U j];omega
 have k:=iT _ c;generalize(s.extract i s.size)[0]'c=A at*;rw[k]at f;have B:=U f;clear f k;have l:(s.extract i s.size).size<=maxLen:=by rw[U j];unfold maxLen;omega
 have p:=ab l;clear l;have g:=ab c;clear c;generalize s.extract i s.size=q at*;refine(ew _ _).mono ?_;rintro e w' ⟨rfl,rfl⟩;go_wp2_with fail;have C:aG ((q[0]'(U g)).toNat:Int)=false:=by rw[<-iT _ (U g)];exact o
 refine(hU _ _).mono ?_;rintro e w' ⟨rfl,rfl⟩;go_wp2_with fail;refine(nA _ _ g p).mono ?_;rintro e w' ⟨rfl,rfl⟩;rw[<-U n];go_wp2_with fail;refine(lG _ _ _ _).mono ?_;rintro e w' ⟨rfl,rfl⟩;go_wp2;refine Jr (v:=.tuple #[wX,.iface 110 (.pointer (some ⟨w.heap.size+1+1+1,0,none⟩))]) (by simp[results,results95,go_sem]) rfl ⟨w.heap.size+1+1+1,rfl,by omega,by simp,af (by simp),?_⟩;exact((((Jj _ _).alloc (Ji _) _).alloc (by simp) _).alloc (by simp;omega) _).alloc (by simp;omega) _
theorem eS(r:ByteArray):r.data.toList.length=r.size:=by rw[JP];rfl
theorem xd(r:ByteArray)(k:Nat)(a:r.size<=1000):(r.extract 0 k).size<=1000:=by rw[La];omega
theorem nX(t:ByteArray):t.toList.length=t.size:=by rw[JA,eS]
theorem xe(r:ByteArray)(f:0<r.size):((r.extract 0 (bK r.data.toList)).toList== [])=decide (bK r.data.toList=0):=by
 have g:bK r.data.toList<=r.size:=by
  unfold bK;split
  ·rename_i b
   have: ¬ ¬2<=r.size:=fun e=>by rw[nV r e]at b;cases b
   omega
  ·split<;>omega
 have h:(r.extract 0 (bK r.data.toList)).size=bK r.data.toList:=by rw[La];omega
 generalize r.extract 0 (bK r.data.toList)=c at*;generalize bK r.data.toList=i at*;have a:=nX c
 cases d:c.toList with
 |nil=>rw[d]at a;simp at a;simp;omega
 |cons j k=>rw[d]at a;simp at a;simp;omega
theorem A5(s:ByteArray)(i:Nat)(t:Tk)(a:Nat->Addr)(n:Nat)(w:World)(o:fD a n w)(f:i<s.size)(g:s.size<=1000)(b:cy s i=.ok t):
  Calls prog 95 #[.string s,.int .i64 i] w fun e w'=>e=.returned (.tuple #[Iy t,.nilIface])/\Below w.heap.size w w':=by
 have p:(s.extract i s.size).size<=1000:=by rw[dA];omega
 have q:0<(s.extract i s.size).size:=by rw[dA];omega
 unfold cy at b;simp only at b;by_cases d:aq (((s.extract i s.size).data.toList.headD 0).toNat:Int)=true
 ·rw[Jo d]at b;by_cases h:dU ((s.extract i s.size).extract 0 (aY aq (s.extract i s.size).data.toList)).data.toList=true
  ·rw[Jo h]at b;cases b;refine(wY s _ i w f g rfl d h).mono ?_;rintro e w' ⟨rfl,c⟩;exact⟨rfl,c⟩
  ·rw[Jn h]at b;by_cases k:8<((s.extract i s.size).extract 0 (aY aq (s.extract i s.size).data.toList)).size
   ·rw[Jo k]at b;cases b
   ·rw[Jn k]at b;cases b;refine(wZ s _ i w f g rfl d (ab (by simpa using h)) (Nat.le_of_not_lt k)).mono ?_;rintro e w' ⟨rfl,c⟩;exact⟨rfl,c⟩
 ·rw[Jn d]at b;by_cases j:aG (((s.extract i s.size).data.toList.headD 0).toNat:Int)=true
  ·rw[Jo j]at b
   cases l:js ((s.extract i s.size).extract 0 (aY aG (s.extract i s.size).data.toList)).data.toList with
   |none=>rw[l]at b;cases b
   |some r=>rw[l]at b;cases b;refine(zn s _ i a n w o f g rfl (ab (by simpa using d)) j r l (xd _ _ p)).mono ?_;rintro e w' ⟨rfl,c⟩;exact⟨rfl,c⟩
  ·rw[Jn j]at b;by_cases m:bK (s.extract i s.size).data.toList=0
   ·rw[Jo m]at b;cases b
   ·rw[Jn m]at b;cases b;refine(xb s _ i w f g rfl (ab (by simpa using d)) (ab (by simpa using j)) (by rw[xe _ q];simpa using m)).mono ?_;rintro e w' ⟨rfl,c⟩;exact⟨rfl,c⟩
theorem zv(s:ByteArray)(i:Nat)(p e:Nat)(a:Nat->Addr)(g:Nat)(w:World)(h:fD a g w)(j:i<s.size)(k:s.size<=1000)(c:cy s i=.error (p,e)):
  Calls prog 95 #[.string s,.int .i64 i] w fun r w'=> ∃b,r=.returned (.tuple #[wX,.iface 110 (.pointer (some ⟨b,0,none⟩))])/\w.heap.size<=b/\b<w'.heap.size/\cM w' b p (bI a e)/\Below w.heap.size w w':=by
 have t:(s.extract i s.size).size<=1000:=by rw[dA];omega
 have q:0<(s.extract i s.size).size:=by rw[dA];omega
 unfold cy at c;simp only at c;by_cases d:aq (((s.extract i s.size).data.toList.headD 0).toNat:Int)=true
 ·rw[Jo d]at c;by_cases l:dU ((s.extract i s.size).extract 0 (aY aq (s.extract i s.size).data.toList)).data.toList=true
  ·rw[Jo l]at c;cases c
  ·rw[Jn l]at c;by_cases m:8<((s.extract i s.size).extract 0 (aY aq (s.extract i s.size).data.toList)).size
   ·rw[Jo m]at c;cases c;exact xa s _ i a g w h j k rfl d (ab (by simpa using l)) m
   ·rw[Jn m]at c;cases c
 ·rw[Jn d]at c;by_cases f:aG (((s.extract i s.size).data.toList.headD 0).toNat:Int)=true
  ·rw[Jo f]at c
   cases n:js ((s.extract i s.size).extract 0 (aY aG (s.extract i s.size).data.toList)).data.toList with
   |none=>rw[n]at c;cases c;exact wm s _ i a g w h j k rfl (ab (by simpa using d)) f (uh _ q f) n (xd _ _ t)
   |some u=>rw[n]at c;cases c
  ·rw[Jn f]at c;by_cases o:bK (s.extract i s.size).data.toList=0
   ·rw[Jo o]at c;cases c;exact xc s _ i a g w h j k rfl (ab (by simpa using d)) (ab (by simpa using f)) (by rw[xe _ q];simpa using o)
   ·rw[Jn o]at c;cases c
def jt(i:Nat):Tk:=⟨i,0,⟨#[]⟩,0⟩
def bU(s:ByteArray):Nat->Nat->Except (Nat×Nat) (List Tk)
 |0,_=>.ok []
 |f+1,i=>
  let j:=i+aY bY (s.extract i s.size).data.toList
  if j=s.size then .ok [jt j]
  else match cy s j with
   |.error e=>.error e
   |.ok a=>match bU s f (j+a.text.size)with
    |.error e=>.error e
    |.ok r=>.ok (a::r)
def fH(s:ByteArray):Except (Nat×Nat) (List Tk):=bU s (s.size+1) 0
def eB(ts:List Tk):List Value:=ts.flatMap fun a=>[.int .i64 a.place,.int .i64 a.kind,.string a.text,.int .i64 a.value]
theorem pO(ts:List Tk)(t:Tk):eB ts++[.int .i64 t.place,.int .i64 t.kind,.string t.text,.int .i64 t.value]=eB (ts++[t]):=by simp[eB]
theorem fQ{w w':World}{b:Nat}{e:TypeId}{size:Nat}{v:Value}{n:Nat}{xs:List Value}(c:w.ownsRow b e size v n xs)(d:Below w.heap.size w w'):w'.ownsRow b e size v n xs:=by
 obtain⟨f,a⟩:=c;refine⟨f,?_⟩;rcases a with a|⟨g,cap,cur,hv,hg,hh,r⟩
 ·exact Or.inl a
 ·have h:g<w.heap.size:=by
   rcases J' g w.heap.size with h'|h'
   ·exact h'
   ·rw[KG h']at hh;cases hh
  exact Or.inr ⟨g,cap,cur,hv,hg,by rw[d.block g h];exact hh,r⟩
theorem mF(p:Int->Bool)(l:List UInt8)(a:p (l.headD 0).toNat=true)(b:0<l.length):0<aY p l:=by
 match l,b with
 |c::e,_=>have d:p c.toNat=true:=a;simp[aY,d]
theorem ld(s:ByteArray)(i:Nat)(t:Tk)(n:i<s.size)(a:cy s i=.ok t):0<t.text.size/\i+t.text.size<=s.size:=by
 have o:(s.extract i s.size).size=s.size-i:=dA s i;have k:=eS (s.extract i s.size);unfold cy at a;simp only at a
 have c: ∀b,0<b->b<=(s.extract i s.size).data.toList.length->0<((s.extract i s.size).extract 0 b).size/\i+((s.extract i s.size).extract 0 b).size<=s.size:=fun b h p=>by
  have l:((s.extract i s.size).extract 0 b).size=b:=by rw[La];omega
  rw[l];omega
 by_cases f:aq (((s.extract i s.size).data.toList.headD 0).toNat:Int)=true
 ·rw[Jo f]at a;have d:=mF aq _ f (by omega);have e:=jP aq (s.extract i s.size).data.toList;split at a
  ·cases a;exact c _ d e
  ·split at a
   ·cases a
   ·cases a;exact c _ d e
 ·rw[Jn f]at a;by_cases g:aG (((s.extract i s.size).data.toList.headD 0).toNat:Int)=true
  ·rw[Jo g]at a;have d:=mF aG _ g (by omega);have e:=jP aG (s.extract i s.size).data.toList;split at a
   ·cases a;exact c _ d e
   ·cases a
  ·rw[Jn g]at a;split at a
   ·cases a
   ·rename_i h
    cases a;refine c _ (Nat.pos_of_ne_zero h) ?_;rw[k];unfold bK;split
    ·rename_i j
     have: ¬ ¬2<=(s.extract i s.size).size:=fun m=>by rw[nV _ m]at j;cases j
     omega
    ·split<;>omega
theorem Hk:(prog.info? 173).map (fun i=>(i.zero,i.size,i.bytes))=some (some (.agg #[.int .i64 0,.int .i64 0,.string ⟨#[]⟩,.int .i64 0]),4,40):=by kernel_rfl
theorem cQ{w:World}{cs:List Value}{t:TypeId}{n:Nat}(hn:n=w.heap.size): ∀j u,cs[j]? =some u->(w.alloc (.cells cs.toArray t)).cell? ((⟨n,0,none⟩:Addr).add j)=some u:=by
 intro j u a;obtain⟨b,_⟩:=blk (af (w:=w) (o:=.cells cs.toArray t) hn);have c:((⟨n,0,none⟩:Addr).add j)=⟨n,j,none⟩:=by simp[Addr.add];omega
 rw[c,b]
 simpa using a
theorem Hl(a b:Int)(s:ByteArray)(c:Int): ∀u∈ [Value.int .i64 a,.int .i64 b,.string s,.int .i64 c],u.oneCell'=true:=by intro u d;simp only[JG,JO,Kg]at d;rcases d with rfl|rfl|rfl|rfl<;>rfl
def rL(a:Nat->Addr)(w:World)(R:Except (Nat×Nat) (List Tk))(e:Ending)(w':World):Prop:=match R with
 |.ok ts=> ∃c,e=.returned (.tuple #[c,.nilIface])/\w'.ownsRow w.heap.size 173 4 c ts.length (eB ts)/\Below w.heap.size w w'
 |.error (p,k)=> ∃b,e=.returned (.tuple #[.slice none 0 0,.iface 110 (.pointer (some ⟨b,0,none⟩))])/\w.heap.size<=b/\b<w'.heap.size/\cM w' b p (bI a k)/\Below w.heap.size w w'
theorem Ex{a:Nat->Addr}{w w' b:World}{R:Except (Nat×Nat) (List Tk)}{ts:List Tk}{i n:Nat}{v':Value}{row:Option Nat}{o:Obj}(d:R=.ok (ts++[jt (i+n)]))(c:Below w.heap.size w w')
  (e:b.ownsRow w.heap.size 173 4 v' (ts.length+1) (eB ts++[.int .i64 ((i:Int)+(n:Int)),.int .i64 0,.string ⟨#[]⟩,.int .i64 0]))
  (f:(w'.alloc o).grownBy b row) (g: ∀k,row=some k->w.heap.size<=k):rL a w R (.returned (.tuple #[v',.nilIface])) b:=by
 subst d;refine⟨v',rfl,?_,?_⟩
 ·have h:eB (ts++[jt (i+n)])=eB ts++[.int .i64 ((i:Int)+(n:Int)),.int .i64 0,.string ⟨#[]⟩,.int .i64 0]:=by
   rw[<-pO];simp[jt]
  rw[h,Jk];exact e
 ·exact(c.alloc c.size _).grown f (Jt c.size (by simp)) g
theorem Ey{a:Nat->Addr}{w w' c:World}{R:Except (Nat×Nat) (List Tk)}{p k b:Nat}{o:Obj}(f:R=.error (p,k))(d:Below w.heap.size w w')(e:Below w'.heap.size w' c)(h:w'.heap.size<=b)(i:b<c.heap.size)
  (g:cM c b p (bI a k)):rL a w R (.returned (.tuple #[.slice none 0 0,.iface 110 (.pointer (some ⟨b,0,none⟩))])) (c.alloc o):=by
 subst f;have:=d.size;have:=e.size;exact⟨b,rfl,by omega,by simp;omega,g.alloc _,(d.trans (e.mono d.size)).alloc (by omega) _⟩
theorem Cr{w' a b:World}{row:Option Nat}{c:Array Value}{t:TypeId}{o:Obj}(d:Below w'.heap.size w' a)(e:((a.alloc (.cells c t)).alloc o).grownBy b row)(f: ∀k,row=some k->k<w'.heap.size):
  ∀j,b.cell? ⟨a.heap.size,j,none⟩=c[j]? :=by
 have g:b.heap[a.heap.size]? =some (.cells c t (0,0)):=by rw[e.block _ (by simp;omega) (fun h=>by have:=f _ h.symm;have:=d.size;omega)];exact ai (af rfl)
 exact(blk g).1
def Aq(s:ByteArray)(w:World)(R:Except (Nat×Nat) (List Tk))(v:Value)(i:Nat)(wr:World):Prop:=
 ∃(f:Nat) (ts:List Tk),s.size<f+i/\ts.length<=i/\wr.ownsRow w.heap.size 173 4 v ts.length (eB ts)/\Below w.heap.size w wr/\
  R=match bU s f i with
   |.error e=>.error e
   |.ok r=>.ok (ts++r)
theorem Cs{s:ByteArray}{w w' b a:World}{R:Except (Nat×Nat) (List Tk)}{v':Value}{i n f:Nat}{ts:List Tk}{t:Tk}{row:Option Nat}{o g:Obj}(q:s.size<f+1+i)(u:ts.length<=i)(v:0<t.text.size)
  (h:R=match(match bU s f (i+n+t.text.size)with
     |.error e=>.error e
     |.ok r=>.ok (t::r):Except (Nat×Nat) (List Tk))with
     |.error e=>.error e
     |.ok r=>.ok (ts++r)) (c:Below w.heap.size w w') (d:Below w'.heap.size w' b)
  (j:a.ownsRow w.heap.size 173 4 v' (ts.length+1) (eB ts++[.int .i64 t.place,.int .i64 t.kind,.string t.text,.int .i64 t.value]))
  (l:((b.alloc o).alloc g).grownBy a row) (m: ∀k,row=some k->w.heap.size<=k):Aq s w R v' (i+n+t.text.size) a:=by
 have p:=c.size;have x:=d.size;refine⟨f,ts++[t],by omega,by simp;omega,?_,?_,?_⟩
 ·rw[<-pO,Jk];exact j
 ·exact((((c.trans (d.mono p)).alloc (by omega) _).alloc (by simp;omega) _).grown l (by simp;omega) m)
 ·rw[h]
  cases bU s f (i+n+t.text.size)with
  |error e=>rfl
  |ok r=>simp
theorem uS(s:ByteArray)(a:Nat->Addr)(y:Nat)(w:World)(t:Hid (fD a y w))(G:s.size<=1000)(R:Except (Nat×Nat) (List Tk))(ac:Hid (R=fH s)):
  Calls prog 60 #[.string s] w fun e w'=>rL a w R e w':=by
 have av:decide (1000<(s.size:Int))=false:=by simp;omega
 obtain⟨H,z,I⟩:=Jq.1 Hk;simp only[JB]at I;obtain⟨J,K,L⟩:=I;obtain⟨M,N,O,P⟩:=aP z J K L;clear z J K L;go_enter func60,ntmps60;go_wp2_with fail
 go_loopw [4,5] (fun ad c wr=> ∃b:Nat,b<=s.size/\c=.int .i64 b/\Aq s w R ad b wr) (fun _ c _=>s.size-(intOf c).toNat)
 case atStart=>exact⟨0,KO _,rfl,s.size+1,[],by omega,by simp,JF _ _ _ _,Jj _ _,by rw[U ac];unfold fH;cases bU s (s.size+1) 0<;>rfl⟩
 case round=>
  obtain⟨b,z,rfl,hrel⟩:=hrel;obtain⟨u,A,k,ae,Q,S,T⟩:=hrel;obtain⟨v,l,g⟩:=aC T Q S;clear T Q S
  match u,k,v with
  |0,k,_=>exact absurd k (by omega)
  |u+1,k,v=>
  have aj:=jP bY (s.extract b s.size).data.toList;rw[eS,dA]at aj;have V:(s.extract b s.size).size<=maxLen:=by rw[dA];unfold maxLen;omega
  have W:=ab V;clear V;have B:((s.extract b s.size).extract 0 (aY bY (s.extract b s.size).data.toList)).size=aY bY (s.extract b s.size).data.toList:=by rw[La,dA];omega
  have X:=ab B;clear B;go_wp2_with fail;refine(wk _ _ W).mono ?_;rintro e w' ⟨rfl,rfl⟩;have B:=U X;clear X W
  have i:Hid (R=match(if b+aY bY (s.extract b s.size).data.toList=s.size then .ok [jt (b+aY bY (s.extract b s.size).data.toList)]else match cy s (b+aY bY (s.extract b s.size).data.toList)with
   |.error e=>.error e
   |.ok c=>match bU s u (b+aY bY (s.extract b s.size).data.toList+c.text.size)with
    |.error e=>.error e
    |.ok r=>.ok (c::r):Except (Nat×Nat) (List Tk))with
   |.error e=>.error e
   |.ok r=>.ok (A++r)):=U v
  clear v;generalize(s.extract b s.size).extract 0 (aY bY (s.extract b s.size).data.toList)=ax at*;generalize aY bY (s.extract b s.size).data.toList=d at*;by_cases C:b+d=s.size
  ·have ak:(((b:Int)+(d:Int))==(s.size:Int))=true:=by simp;omega
   have m:Hid (R=.ok (A++[jt (b+d)])):=by have:=U i;rw[Jo C]at this;exact this
   clear i;go_wp2_with (at_builtin;refine Kd _ rfl _ _ 162 rfl w.heap.size 173 H (.agg #[.int .i64 0,.int .i64 0,.string ⟨#[]⟩,.int .i64 0]) 4 40 underlying162 M N O P rfl (by decide) _ _ _ rfl (l.alloc _) ⟨w'.heap.size,0,none⟩ 1 1 [.int .i64 ((b:Int)+(d:Int)),.int .i64 0,.string ⟨#[]⟩,.int .i64 0] rfl rfl ?c1 ?c2 ?c3 ?c4 ?c5 ?_)
   case c1=>exact cQ rfl
   case c2=>exact Hl _ _ _ _
   case c3=>unfold maxLen;omega
   case c4=>omega
   case c5=>have:=g.size;simp;omega
   intro al D n o _;obtain⟨E,x⟩:=ag n o;clear n o;go_wp2
   go_ret2
   exact Ex m g E x (fun f p=>(l.lt f p).1)
  ·have ak:(((b:Int)+(d:Int))==(s.size:Int))=false:=by simp;omega
   cases h:cy s (b+d)with
   |error an=>
    obtain⟨Y,f⟩:=an;have m:Hid (R=.error (Y,f)):=by have:=U i;rw[Jn C,h]at this;exact this
    have F:=ab h;clear i h;go_wp2_with fail;rw[show((b:Int)+(d:Int))=((b+d:Nat):Int)from by omega];refine(zv s (b+d) Y f a y _ (t.keep (g.mono t.size)) (by omega) G F).mono ?_;rintro e D ⟨ay,rfl,ao,ap,Z,q⟩;obtain⟨ar,j⟩:=ag Z q;clear Z q;go_wp2
    go_ret2
    exact Ey m g j ao ap ar
   |ok c=>
    have m:Hid (R=match(match bU s u (b+d+c.text.size)with
     |.error e=>.error e
     |.ok r=>.ok (c::r):Except (Nat×Nat) (List Tk))with
     |.error e=>.error e
     |.ok r=>.ok (A++r)):=by have:=U i;rw[Jn C,h]at this;exact this
    have au:=ld s (b+d) c (by omega) h;have F:=ab h;clear i h;go_wp2_with fail;rw[show((b:Int)+(d:Int))=((b+d:Nat):Int)from by omega];refine(A5 s (b+d) c a y _ (t.keep (g.mono t.size)) (by omega) G F).mono ?_;rintro e D ⟨rfl,q⟩;have j:=ab q;clear q;go_wp2_with (at_builtin;refine Kd _ rfl _ _ 162 rfl w.heap.size 173 H (.agg #[.int .i64 0,.int .i64 0,.string ⟨#[]⟩,.int .i64 0]) 4 40 underlying162 M N O P rfl (by decide) _ _ _ rfl (((fQ l j).alloc _).alloc _) ⟨D.heap.size+1,0,none⟩ 1 1 [.int .i64 c.place,.int .i64 c.kind,.string c.text,.int .i64 c.value] rfl rfl ?c1 ?c2 ?c3 ?c4 ?c5 ?_)
    case c1=>exact cQ (by simp)
    case c2=>exact Hl _ _ _ _
    case c3=>unfold maxLen;omega
    case c4=>omega
    case c5=>have:=g.size;have:=j.size;simp;omega
    intro al aA n o _;obtain⟨E,x⟩:=ag n o;have aI:=Cr j x (fun f p=>(l.lt f p).2);clear n o;go_wp2;exact⟨⟨b+d+c.text.size,by omega,by go_num,Cs k ae au.1 m g j E x (fun f p=>(l.lt f p).1)⟩,by simp[intOf];omega⟩
theorem Ct(s:ByteArray)(a:Nat->Addr)(c:Nat)(w:World)(b:fD a c w)(d:1000<s.size):
  Calls prog 60 #[.string s] w fun e w'=>e=.returned (.tuple #[.slice none 0 0,bI a fS])/\Below w.heap.size w w':=by
 have f:=b.cell 0 (by decide);clear b;have g:decide (1000<(s.size:Int))=true:=by simp;omega
 go_enter func60,ntmps60;go_wp2
 go_region
 go_wp2
 go_ret2
 exact⟨rfl,(Jj _ _).drew⟩
structure Cx where
 a:Nat->Addr
 B:Nat
 rb:Nat
 tb:Nat
 cap:Nat
 ts:List Tk
structure St where
 nx:Nat
 dp:Nat
 er:Option (Nat×Nat)
def ah(ts:List Tk)(i:Nat):Tk:=ts.getD i (jt 0)
def nB(c:Cx)(w:World)(a:Value):Option (Nat×Nat)->Prop
 |none=>a=.nilIface
 |some (p,k)=> ∃b,a=.iface 110 (.pointer (some ⟨b,0,none⟩))/\b≠c.rb/\cM w b p (bI c.a k)
structure RS(c:Cx)(w:World)(st:St)(ev:Value):Prop where
 env:fD c.a c.B w
 low:c.B<=c.rb
 ne:c.tb≠c.rb
 len:c.ts.length<=1001
 last: ∀i,i<c.ts.length->(ah c.ts i).kind≠0->i+1<c.ts.length
 nx:st.nx<c.ts.length
 dp:st.dp<=17
 reader:w.heap[c.rb]? =some (.cells #[.slice (some ⟨c.tb,0,none⟩) c.ts.length c.cap,.int .i64 st.nx,.int .i64 st.dp,ev] 167 (0,0))
 tokens: ∃cur:Array Value,w.heap[c.tb]? =some (.cells cur 173 (0,0))/\cur.toList.take (c.ts.length*4)=eB c.ts
 err:nB c w ev st.er
theorem aa{w:World}{b:Nat}{o:Obj}(a:w.heap[b]? =some o):b<w.heap.size:=by
 rcases J' b w.heap.size with h'|h'
 ·exact h'
 ·rw[KG h']at a;cases a
theorem nB.kp{c:Cx}{w w':World}{b:Value}{er:Option (Nat×Nat)}(a:nB c w b er)(g:Kp c.rb w w'):nB c w' b er:=by
 match er,a with
 |none,a=>exact a
 |some (i,j),⟨d,h,e,f⟩=>exact⟨d,h,e,(g.block d (aa f) e).trans f⟩
theorem RS.keep{c:Cx}{w w':World}{st:St}{d:Value}(a:RS c w st d)(b:Below w.heap.size w w'):RS c w' st d:=
 ⟨a.env.keep (b.mono a.env.size),a.low,a.ne,a.len,a.last,a.nx,a.dp,(b.block _ (aa a.reader)).trans a.reader,
  let⟨cur,h1,h2⟩:=a.tokens;⟨cur,(b.block _ (aa h1)).trans h1,h2⟩,a.err.kp (Kp.ofBelow b)⟩
theorem RS.alloc{c:Cx}{w:World}{st:St}{a:Value}(b:RS c w st a)(o:Obj):RS c (w.alloc o) st a:=b.keep ((Jj _ _).alloc (Ji _) _)
theorem RS.drew{c:Cx}{w:World}{st:St}{a:Value}(b:RS c w st a):RS c w.drew st a:=b.keep (Jj _ _).drew
theorem A6(ts:List Tk)(i:Nat)(c:i<ts.length):(eB ts)[i*4]? =some (.int .i64 (ah ts i).place)/\(eB ts)[i*4+1]? =some (.int .i64 (ah ts i).kind)/\(eB ts)[i*4+2]? =some (.string (ah ts i).text)/\(eB ts)[i*4+3]? =some (.int .i64 (ah ts i).value):=by
 induction ts generalizing i with
 |nil=>simp at c
 |cons a b e=>
  have d:eB (a::b)=[Value.int .i64 a.place,.int .i64 a.kind,.string a.text,.int .i64 a.value]++eB b:=rfl
  match i with
  |0=>rw[d];exact⟨rfl,rfl,rfl,rfl⟩
  |i+1=>
   have:=e i (by simpa using c);have f:(i+1)*4=i*4+4:=by omega
   have g:ah (a::b) (i+1)=ah b i:=rfl;rw[g,d,f];refine⟨?_,?_,?_,?_⟩
   ·rw[Jw (by simp)];simpa using this.1
   ·rw[Jw (by simp)];simpa [show i*4+4+1-4=i*4+1 from by omega]using this.2.1
   ·rw[Jw (by simp)];simpa [show i*4+4+2-4=i*4+2 from by omega]using this.2.2.1
   ·rw[Jw (by simp)];simpa [show i*4+4+3-4=i*4+3 from by omega]using this.2.2.2
theorem RS.token{c:Cx}{w:World}{st:St}{h:Value}(j:RS c w st h)(i:Nat)(k:i<c.ts.length):
  w.cell? ⟨c.tb,i*4,none⟩=some (.int .i64 (ah c.ts i).place)/\w.cell? ⟨c.tb,i*4+1,none⟩=some (.int .i64 (ah c.ts i).kind)/\w.cell? ⟨c.tb,i*4+2,none⟩=some (.string (ah c.ts i).text)/\w.cell? ⟨c.tb,i*4+3,none⟩=some (.int .i64 (ah c.ts i).value):=by
 obtain⟨g,l,m⟩:=j.tokens;obtain⟨n,_⟩:=blk l;have a:=A6 c.ts i k;rw[<-m]at a;simp only[n]
 have b: ∀e f,(g.toList.take (c.ts.length*4))[e]? =some f->g[e]? =some f:=fun e f d=>by
  rw[Kl]at d;split at d
  ·simpa using d
  ·cases d
 exact⟨b _ _ a.1,b _ _ a.2.1,b _ _ a.2.2.1,b _ _ a.2.2.2⟩
theorem cX(c:Cx)(w:World)(st:St)(d:Value)(a:RS c w st d):
  Calls prog 62 #[.pointer (some ⟨c.rb,0,none⟩)] w fun e w'=>e=.returned (.agg #[.int .i64 (ah c.ts st.nx).place,.int .i64 (ah c.ts st.nx).kind,.string (ah c.ts st.nx).text,.int .i64 (ah c.ts st.nx).value])/\Below w.heap.size w w':=by
 obtain⟨g,_⟩:=blk a.reader;obtain⟨t0,t1,t2,t3⟩:=a.token st.nx a.nx;have h:=a.nx;have i:=a.len;have j:=aa a.reader;have k:c.tb<w.heap.size:=by obtain⟨l,f,_⟩:=a.tokens;exact aa f
 generalize ah c.ts st.nx=b at*;clear a;go_enter func62,ntmps62;go_wp2
 go_region
 go_wp2;refine Jr (v:=.agg #[.int .i64 b.place,.int .i64 b.kind,.string b.text,.int .i64 b.value]) (by simp[results,results62,go_sem]) rfl ⟨rfl,?_⟩;exact((Jj _ _).alloc (Ji _) _).drew
theorem ec(p k:Int)(s:ByteArray)(v:Int)(w:World):Sem.run prog (Instr.field 173 (.agg #[.int .i64 p,.int .i64 k,.string s,.int .i64 v]) 0) w=.ok (.agg #[.int .i64 p]) w:=by kernel_rfl
theorem oQ(p k:Int)(s:ByteArray)(v:Int)(w:World):Sem.run prog (Instr.field 173 (.agg #[.int .i64 p,.int .i64 k,.string s,.int .i64 v]) 1) w=.ok (.int .i64 k) w:=by kernel_rfl
def eO(c:Cx)(w:World)(st':St)(w':World):Prop:=(∃a,RS c w' st' a)/\Kp c.rb w w'
theorem nB.setR{c:Cx}{w:World}{a:Value}{er:Option (Nat×Nat)}(b:nB c w a er)(off:Nat)(u:Value):nB c (w.setCell ⟨c.rb,off,none⟩ u) a er:=b.kp ((Kp.refl _ _).setCell _ _)
theorem am{w:World}{b off:Nat}{cs:Array Value}{t:TypeId}{f:Nat×Nat}(a:w.heap[b]? =some (.cells cs t f))(u:Value):(w.setCell ⟨b,off,none⟩ u).heap[b]? =some (.cells (cs.setIfInBounds off u) t f):=by simp only[World.setCell,Ly,Jo,a,Lc];rfl
theorem RS.set{c:Cx}{w:World}{st st':St}{d b:Value}{off:Nat}{u:Value}(a:RS c w st d)
  (e: #[.slice (some ⟨c.tb,0,none⟩) c.ts.length c.cap,.int .i64 st.nx,.int .i64 st.dp,d].setIfInBounds off u= #[.slice (some ⟨c.tb,0,none⟩) c.ts.length c.cap,.int .i64 st'.nx,.int .i64 st'.dp,b])
  (f:st'.nx<c.ts.length) (g:st'.dp<=17) (h:nB c (w.setCell ⟨c.rb,off,none⟩ u) b st'.er):RS c (w.setCell ⟨c.rb,off,none⟩ u) st' b:=by
 refine⟨a.env.kp ((Kp.refl _ _).setCell _ _) a.low,a.low,a.ne,a.len,a.last,f,g,?_,?_,h⟩
 ·rw[am a.reader,e]
 ·obtain⟨i,j,k⟩:=a.tokens;exact⟨i,by rw[Jp _ _ _ _ a.ne];exact j,k⟩
theorem RS.setNx{c:Cx}{w:World}{st:St}{b:Value}(a:RS c w st b)(n:Nat)(hn:n<c.ts.length):RS c (w.setCell ⟨c.rb,1,none⟩ (.int .i64 n)) {st with nx:=n} b:=
 a.set (st':= {st with nx:=n}) rfl hn a.dp (a.err.setR _ _)
theorem RS.setDp{c:Cx}{w:World}{st:St}{b:Value}(a:RS c w st b)(n:Nat)(hn:n<=17):RS c (w.setCell ⟨c.rb,2,none⟩ (.int .i64 n)) {st with dp:=n} b:=
 a.set (st':= {st with dp:=n}) rfl a.nx hn (a.err.setR _ _)
theorem RS.kpb{c:Cx}{w w':World}{st:St}{h:Value}{b:Nat}(a:RS c w st h)(d:Kp b w w')(k:b≠c.rb)(l:b≠c.tb)(m:c.B<=b)(n: ∀p e,w.heap[b]? ≠some (.cells #[.int .i64 p,e] 113 (0,0))):RS c w' st h:=by
 refine⟨a.env.kp d m,a.low,a.ne,a.len,a.last,a.nx,a.dp,(d.block _ (aa a.reader) (fun e=>k e.symm)).trans a.reader,?_,?_⟩
 ·obtain⟨o,i,q⟩:=a.tokens;exact⟨o,(d.block _ (aa i) (fun e=>l e.symm)).trans i,q⟩
 ·have f:=a.err
  match hr:st.er,f with
  |none,f=>exact f
  |some (p,t),⟨j,r,s,g⟩=>refine⟨j,r,s,(d.block j (aa g) (fun e=>?_)).trans g⟩;subst e;exact n _ _ g
def bM(ts:List Tk)(st:St)(k:Nat):St:= {nx:=ts.length-1,dp:=st.dp,er:=match st.er with|some a=>some a|none=>some ((ah ts st.nx).place,k)}
theorem RS.facts{c:Cx}{w:World}{st:St}{b:Value}(d:RS c w st b):w.cell? ⟨c.rb,0,none⟩=some (.slice (some ⟨c.tb,0,none⟩) c.ts.length c.cap)/\w.cell? ⟨c.rb,1,none⟩=some (.int .i64 st.nx)/\w.cell? ⟨c.rb,2,none⟩=some (.int .i64 st.dp)/\w.cell? ⟨c.rb,3,none⟩=some b/\(∀o,w.frozen? ⟨c.rb,o,none⟩=false)/\c.rb<w.heap.size:=by obtain⟨a,e⟩:=blk d.reader;exact⟨by rw[a];rfl,by rw[a];rfl,by rw[a];rfl,by rw[a];rfl,e,aa d.reader⟩
theorem Ez(c:Cx)(w:World)(st:St)(f:Value)(k:Nat)(a:RS c w st f)(x:Nat×Nat)(b:st.er=some x):
  Calls prog 63 #[.pointer (some ⟨c.rb,0,none⟩),bI c.a k] w fun e w'=>e=.returned (.tuple #[])/\eO c w (bM c.ts st k) w':=by
 obtain⟨l,m,_,n,o,p⟩:=a.facts;have q:=a.nx;have r:=a.len;have d:=a.err;rw[b]at d;obtain⟨g,rfl,s,h⟩:=d;obtain⟨i,j⟩:=ag a b;clear a b h;go_enter func63,ntmps63;go_wp2;go_end0;refine⟨rfl,⟨.iface 110 (.pointer (some ⟨g,0,none⟩)),?_⟩,(Kp.refl _ _).setCell _ _⟩;rw[show((c.ts.length:Int)-1)=((c.ts.length-1:Nat):Int)from by omega];have e:bM c.ts st k= {st with nx:=c.ts.length-1}:=by simp[bM,U j]
 rw[e];exact i.setNx _ (by omega)
theorem EA(c:Cx)(w:World)(st:St)(i:Value)(k:Nat)(a:RS c w st i)(d:st.er=none):
  Calls prog 63 #[.pointer (some ⟨c.rb,0,none⟩),bI c.a k] w fun e w'=>e=.returned (.tuple #[])/\eO c w (bM c.ts st k) w':=by
 obtain⟨j,l,_,m,n,y⟩:=a.facts;have t:=a.nx;have z:=a.len;have o:=a.err;rw[d]at o;obtain rfl:i=.nilIface:=o;obtain⟨p,u⟩:=ag a d;clear a d;have A:=ec;go_enter func63,ntmps63;go_wp2_with fail;refine(cX c _ st _ (by exact p)).mono ?_;rintro e B ⟨rfl,q⟩;have b:=ab q;clear q;go_wp2_with fail;refine(mD _ _ _ _).mono ?_;rintro e C ⟨f,rfl,D,E,r,g⟩;have v:=ab r;have h:=(p.keep b).keep g;have x:=ab (b.trans (g.mono b.size));have F:=b.size;clear r g j l m n;obtain⟨j,l,_,m,n,G⟩:=h.facts;have s:=ab h;clear h;go_wp2;go_end0;refine⟨rfl,⟨.iface 110 (.pointer (some ⟨f,0,none⟩)),?_⟩,((Kp.ofBelow x).setCell _ _).setCell _ _⟩;rw[show((c.ts.length:Int)-1)=((c.ts.length-1:Nat):Int)from by omega];have e:bM c.ts st k= {nx:=c.ts.length-1,dp:=st.dp,er:=some ((ah c.ts st.nx).place,k)}:=by simp[bM,U u]
 rw[e];refine RS.setNx (st:= {st with er:=some ((ah c.ts st.nx).place,k)}) ?_ _ (by omega);refine s.set rfl t s.dp ?_;exact⟨f,rfl,by omega,cM.set v (by show c.rb≠f;omega)⟩
theorem iC(c:Cx)(w:World)(st:St)(a:Value)(k:Nat)(b:RS c w st a):
  Calls prog 63 #[.pointer (some ⟨c.rb,0,none⟩),bI c.a k] w fun e w'=>e=.returned (.tuple #[])/\eO c w (bM c.ts st k) w':=by
 cases d:st.er with
 |none=>exact EA c w st a k b d
 |some f=>exact Ez c w st a k b f d
def az(ts:List Tk)(st:St)(xs:List ByteArray):Bool:=(ah ts st.nx).kind==1&&Lib.containsS xs (ah ts st.nx).text
def aD(st:St):St:= {st with nx:=st.nx+1}
theorem RS.adv{c:Cx}{w:World}{st:St}{b:Value}(a:RS c w st b)(d:(ah c.ts st.nx).kind≠0):RS c (w.setCell ⟨c.rb,1,none⟩ (.int .i64 ((st.nx:Int)+1))) (aD st) b:=by have:=a.setNx (st.nx+1) (a.last _ a.nx d);rw[show((st.nx:Int)+1)=((st.nx+1:Nat):Int)from by omega];exact this
def fI(w:World)(b:Nat)(xs:List ByteArray):Prop:=b<w.heap.size/\ ∀a,a<xs.length->w.cell? ⟨b,0+a,none⟩=some (.string (xs.getD a ByteArray.empty))
theorem fI.keep{w w':World}{b:Nat}{xs:List ByteArray}(a:fI w b xs)(c:Below w.heap.size w w'):fI w' b xs:=
 ⟨Js a.1 c.size,fun j d=>(c.cell (p:=⟨b,0+j,none⟩) a.1).trans (a.2 j d)⟩
theorem xg(c:Cx)(w:World)(st:St)(g:Value)(b:Nat)(xs:List ByteArray)(a:RS c w st g)(i:(((ah c.ts st.nx).kind:Int) !=1)=true):
  Calls prog 147 #[.pointer (some ⟨c.rb,0,none⟩),.slice (some ⟨b,0,none⟩) xs.length xs.length] w fun e w'=>e=.returned (.string ⟨#[]⟩)/\Below w.heap.size w w':=by
 have h:=ab a;clear a;go_enter func147,ntmps147;go_wp2_with fail;refine(cX c _ st _ (by exact h)).mono ?_;rintro e j ⟨rfl,d⟩;have f:=ab d;clear d;generalize ah c.ts st.nx=k at*;go_wp2;go_ret;exact⟨rfl,f.alloc f.size _⟩
theorem xh(c:Cx)(w:World)(st:St)(h:Value)(b:Nat)(xs:List ByteArray)(d:RS c w st h)(f:fI w b xs)(l:xs.length<=100)(m:(((ah c.ts st.nx).kind:Int) !=1)=false)(n:Lib.containsS xs (ah c.ts st.nx).text=false):
  Calls prog 147 #[.pointer (some ⟨c.rb,0,none⟩),.slice (some ⟨b,0,none⟩) xs.length xs.length] w fun e w'=>e=.returned (.string ⟨#[]⟩)/\Below w.heap.size w w':=by
 obtain⟨i,j⟩:=ag d f;clear d f;go_enter func147,ntmps147;go_wp2_with fail;refine(cX c _ st _ (by exact i)).mono ?_;rintro e o ⟨rfl,g⟩;have a:=ab g;clear g;generalize ah c.ts st.nx=k at*;go_wp2_with fail;refine(slices_Contains_string b 0 xs.length xs.length xs k.text _ (Ji _) (by omega) ?_).mono ?_
 ·exact((j.keep a).keep ((Jj _ _).alloc (Ji _) _)).2
 rintro e p ⟨rfl,rfl⟩;rw[LC];go_wp2;go_ret;exact⟨rfl,a.alloc a.size _⟩
theorem zB(c:Cx)(w:World)(st:St)(f:Value)(b:Nat)(xs:List ByteArray)(a:RS c w st f)(g:fI w b xs)(r:xs.length<=100)(h:(((ah c.ts st.nx).kind:Int) !=1)=false)(s:Lib.containsS xs (ah c.ts st.nx).text=true):
  Calls prog 147 #[.pointer (some ⟨c.rb,0,none⟩),.slice (some ⟨b,0,none⟩) xs.length xs.length] w fun e w'=>e=.returned (.string (ah c.ts st.nx).text)/\eO c w (aD st) w':=by
 have i:(ah c.ts st.nx).kind≠0:=by intro e;rw[e]at h;simp at h
 have o:=ab i;clear i;have t:=a.nx;have u:=a.len;obtain⟨j,p⟩:=ag a g;clear a g;go_enter func147,ntmps147;go_wp2_with fail;refine(cX c _ st _ (by exact j)).mono ?_;rintro e v ⟨rfl,d⟩;obtain⟨k,l⟩:=ag d (j.keep d);clear d;generalize m:ah c.ts st.nx=q at*;have n:=ab m;clear m;go_wp2_with fail;refine(slices_Contains_string b 0 xs.length xs.length xs q.text _ (Ji _) (by omega) ?_).mono ?_
 ·exact((p.keep k).keep ((Jj _ _).alloc (Ji _) _)).2
 rintro e x ⟨rfl,rfl⟩;rw[LC];obtain⟨y,z,_,_,A,B⟩:=l.facts;go_wp2;go_ret;rw[U n];exact⟨rfl,⟨f,(l.adv (by rw[U n];exact o)).alloc _⟩,((Kp.ofBelow k).setCell _ _).alloc _⟩
theorem eO.same{c:Cx}{w w':World}{st:St}{a:Value}(d:RS c w st a)(b:Below w.heap.size w w'):eO c w st w':=⟨⟨a,d.keep b⟩,Kp.ofBelow b⟩
theorem ji(c:Cx)(w:World)(st:St)(d:Value)(b:Nat)(xs:List ByteArray)(f:RS c w st d)(g:fI w b xs)(h:xs.length<=100)(a:az c.ts st xs=true):
  Calls prog 147 #[.pointer (some ⟨c.rb,0,none⟩),.slice (some ⟨b,0,none⟩) xs.length xs.length] w fun e w'=>e=.returned (.string (ah c.ts st.nx).text)/\eO c w (aD st) w':=by
 unfold az at a;rw[Kc]at a;exact zB c w st d b xs f g h (by have:=a.1;simp at this;rw[this];rfl) a.2
theorem kh(c:Cx)(w:World)(st:St)(a:Value)(b:Nat)(xs:List ByteArray)(g:RS c w st a)(h:fI w b xs)(i:xs.length<=100)(d:az c.ts st xs=false):
  Calls prog 147 #[.pointer (some ⟨c.rb,0,none⟩),.slice (some ⟨b,0,none⟩) xs.length xs.length] w fun e w'=>e=.returned (.string ⟨#[]⟩)/\Below w.heap.size w w':=by
 cases f:(((ah c.ts st.nx).kind:Int) !=1)with
 |true=>exact xg c w st a b xs g f
 |false=>
  refine xh c w st a b xs g h i f ?_;unfold az at d;have:((ah c.ts st.nx).kind==1)=true:=by simp at f;simp;omega
  rw[this]at d
  simpa using d
theorem mG{ts:List Tk}{st:St}{xs:List ByteArray}(a:az ts st xs=true)(b: ∀x∈xs,(x.toList== [])=false):((ah ts st.nx).text.toList== [])=false:=by unfold az at a;rw[Kc]at a;exact b _ ((J2 _ _).1 a.2)
def EB(xs:List ByteArray):Bool:=xs.all fun a=>a.size !=0
theorem dt{xs:List ByteArray}(c:EB xs=true): ∀x∈xs,(x.toList== [])=false:=by
 intro x d;have a:=LS.1 c x d;have b:=nX x
 cases e:x.toList with
 |nil=>rw[e]at b;rw[<-b]at a;cases a
 |cons f g=>rfl
theorem bo{w:World}{x:List ByteArray}{cs:Array Value}{t:TypeId}{n:Nat}(hn:n=w.heap.size)(a: ∀j,j<x.length->cs[j]? =some (.string (x.getD j ByteArray.empty))):fI (w.alloc (.cells cs t)) n x:=by subst hn;refine⟨by simp,fun j b=>?_⟩;rw[JV,(blk (af (w:=w) (o:=.cells cs t) rfl)).1];exact a j b
theorem fu(c:Cx)(w:World)(st:St)(b:Value)(x:ByteArray)(d:RS c w st b)(f:(x.toList== [])=false)(a:az c.ts st [x]=true):
  Calls prog 96 #[.pointer (some ⟨c.rb,0,none⟩),.string x] w fun e w'=>e=.returned (.bool true)/\eO c w (aD st) w':=by
 have n:=mG a (fun o g=>by rw[JN.1 g];exact f);obtain⟨h,i⟩:=ag d a;clear d a f;go_enter func96,ntmps96;go_wp2_with fail;refine(ji c _ st b w.heap.size [x] (h.alloc _) (bo rfl (fun j k=>by match j,k with|0,_=>rfl)) (by simp) i).mono ?_;rintro e p ⟨rfl,l,m⟩;go_wp2;go_ret;exact⟨rfl,l,((Kp.refl _ _).alloc _).trans m⟩
theorem eF(c:Cx)(w:World)(st:St)(a:Value)(x:ByteArray)(b:RS c w st a)(d:az c.ts st [x]=false):
  Calls prog 96 #[.pointer (some ⟨c.rb,0,none⟩),.string x] w fun e w'=>e=.returned (.bool false)/\Below w.heap.size w w':=by
 obtain⟨f,g⟩:=ag b d;clear b d;go_enter func96,ntmps96;go_wp2_with fail;refine(kh c _ st a w.heap.size [x] (f.alloc _) (bo rfl (fun h i=>by match h,i with|0,_=>rfl)) (by simp) g).mono ?_;rintro e k ⟨rfl,j⟩;go_wp2;go_ret;exact⟨rfl,((Jj _ _).alloc (Ji _) _).trans (j.mono (by simp))⟩
def aH(ts:List Tk)(st:St)(xs:List ByteArray):St:=if az ts st xs then aD st else bM ts st bE
def iu(ts:List Tk)(st:St)(xs:List ByteArray):ByteArray:=if az ts st xs then(ah ts st.nx).text else⟨#[]⟩
theorem eO.trans{c:Cx}{w a w':World}{st:St}(d:Kp c.rb w a)(b:eO c a st w'):eO c w st w':=⟨b.1,d.trans b.2⟩
theorem dv(c:Cx)(w:World)(st:St)(f:Value)(b:Nat)(xs:List ByteArray)(k:RS c w st f)(l:fI w b xs)(m:xs.length<=100)(hn: ∀x∈xs,(x.toList== [])=false):
  Calls prog 149 #[.pointer (some ⟨c.rb,0,none⟩),.slice (some ⟨b,0,none⟩) xs.length xs.length] w fun e w'=>e=.returned (.string (iu c.ts st xs))/\eO c w (aH c.ts st xs) w':=by
 obtain⟨n,g⟩:=ag l k;clear k l;unfold iu aH
 cases a:az c.ts st xs with
 |true=>have q:=mG a hn;have h:=ab a;clear a hn;go_enter func149,ntmps149;go_wp2_with fail;refine(ji c _ st f b xs (by exact g) n m h).mono ?_;rintro e p ⟨rfl,d⟩;have i:=ab d;clear d;go_wp2;go_ret;exact⟨rfl,i⟩
 |false=>have h:=ab a;clear a hn;go_enter func149,ntmps149;go_wp2_with fail;refine(kh c _ st f b xs (by exact g) n m h).mono ?_;rintro e p ⟨rfl,j⟩;have r:=(g.keep j).env.cell 3 (by decide);have o:=ab j;clear j;go_wp2_with fail;refine(iC c _ st f bE (g.keep o)).mono ?_;rintro e s ⟨rfl,d⟩;have i:=ab d;clear d;go_wp2;go_ret;exact⟨rfl,eO.trans (Kp.ofBelow o) i⟩
def cx(ts:List Tk)(st:St)(k:Nat):St:=if(ah ts st.nx).kind=k then aD st else bM ts st bE
def bP(ts:List Tk)(st:St)(k:Nat):Tk:=if(ah ts st.nx).kind=k then ah ts st.nx else⟨0,0,⟨#[]⟩,0⟩
theorem pP(c:Cx)(w:World)(st:St)(j:Value)(k:Nat)(n:RS c w st j)(A:k≠0):
  Calls prog 216 #[.pointer (some ⟨c.rb,0,none⟩),.int .i64 k] w fun e w'=>e=.returned (.agg #[.int .i64 (bP c.ts st k).place,.int .i64 (bP c.ts st k).kind,.string (bP c.ts st k).text,.int .i64 (bP c.ts st k).value])/\eO c w (cx c.ts st k) w':=by
 have M:=n.nx;have N:=n.len;have d:=ab n;clear n;unfold bP cx;by_cases f:(ah c.ts st.nx).kind=k
 ·rw[Jo f,Jo f];have B:=ab f;have C:(((ah c.ts st.nx).kind:Int) !=(k:Int))=false:=by rw[f];simp
  clear f;go_enter func216,ntmps216;go_wp2_with fail;refine(cX c _ st j (by exact d.alloc _)).mono ?_;rintro e g ⟨rfl,a⟩;have o:=ab a;have t:w.heap.size<g.heap.size:=by have:=a.size;simp at this;omega
  obtain⟨l,f0⟩:=blk ((a.block w.heap.size (by simp)).trans (af rfl));obtain⟨p,h⟩:=ag ((a.block w.heap.size (by simp)).trans (af rfl)) ((d.alloc _).keep a);obtain⟨O,P,_,_,Q,R⟩:=h.facts;have i:w.heap.size≠c.rb:=by have:=aa d.reader;omega
  have D:c.rb≠w.heap.size:=fun e=>i e.symm;clear a;generalize u:ah c.ts st.nx=m at*;have x:=ab u;clear u;go_wp2;have E:RS c (g.setCell ⟨c.rb,1,none⟩ (.int .i64 ((st.nx:Int)+1))) (aD st) j:=h.adv (by rw[U x,U B];exact A);have F:(g.setCell ⟨c.rb,1,none⟩ (.int .i64 ((st.nx:Int)+1))).heap[w.heap.size]? =some (.cells #[.int .i64 0,.int .i64 0,.string ⟨#[]⟩,.int .i64 0] 173 (0,0)):=by rw[Jp _ _ _ _ i];exact p
  refine Jr (v:=.agg #[.int .i64 m.place,.int .i64 m.kind,.string m.text,.int .i64 m.value]) (by simp[results,results216,go_sem,l,t]) rfl ⟨by rw[U x],⟨j,?_⟩,?_⟩
  ·refine E.kpb (b:=w.heap.size) ?_ i (fun e=>by have:=d.tokens;obtain⟨G,q,_⟩:=this;have:=aa q;omega) d.env.size (fun H e=>by rw[F];simp);exact((((((Kp.refl _ _).setCell _ _).setCell _ _).setCell _ _).setCell _ _).alloc _)
  ·have r:Kp c.rb w g:=((Kp.refl _ _).alloc _).trans (Kp.ofBelow o);exact((((((r.setCell _ _).setNew (Ji _) _).setNew (Ji _) _).setNew (Ji _) _).setNew (Ji _) _).alloc _)
 ·rw[Jn f,Jn f];have C:(((ah c.ts st.nx).kind:Int) !=(k:Int))=true:=by simp;omega
  clear f;go_enter func216,ntmps216;go_wp2_with fail;refine(cX c _ st j (by exact d.alloc _)).mono ?_;rintro e g ⟨rfl,a⟩;have o:=ab a;have t:w.heap.size<g.heap.size:=by have:=a.size;simp at this;omega
  obtain⟨l,f0⟩:=blk ((a.block w.heap.size (by simp)).trans (af rfl));obtain⟨p,h⟩:=ag ((a.block w.heap.size (by simp)).trans (af rfl)) ((d.alloc _).keep a);have i:w.heap.size≠c.rb:=by have:=aa d.reader;omega
  have D:c.rb≠w.heap.size:=fun e=>i e.symm;have S:=h.env.cell 3 (by decide);have T:3<g.heap.size:=by have:=h.env.low;have:=h.env.size;omega
  clear a l f0;generalize ah c.ts st.nx=m at*;go_wp2_with fail;refine(iC c _ st j bE (by exact h.alloc _)).mono ?_;rintro e I ⟨rfl,⟨J,y⟩,s⟩;have z:=ab ((s.block w.heap.size (by simp;omega) i).trans (ai p));obtain⟨l,f0⟩:=blk z;obtain⟨K,L⟩:=ag y s;clear y s;go_wp2;refine Jr (v:=.agg #[.int .i64 0,.int .i64 0,.string ⟨#[]⟩,.int .i64 0]) (by simp[results,results216,go_sem,l]) rfl ⟨rfl,⟨J,?_⟩,?_⟩
  ·refine K.kpb (b:=w.heap.size) ?_ i (fun e=>by have:=d.tokens;obtain⟨G,q,_⟩:=this;have:=aa q;omega) d.env.size (fun H e=>by rw[U z];simp);exact(((((Kp.refl _ _).setCell _ _).setCell _ _).setCell _ _).setCell _ _)
  ·have r:Kp c.rb w I:=(((Kp.refl _ _).alloc _).trans (Kp.ofBelow o)).alloc _|>.trans L;exact((((r.setNew (Ji _) _).setNew (Ji _) _).setNew (Ji _) _).setNew (Ji _) _)
theorem gN(c:Cx)(w:World)(st:St)(f:Value)(a:RS c w st f):
  Calls prog 148 #[.pointer (some ⟨c.rb,0,none⟩)] w fun e w'=>e=.returned (.agg #[.int .i64 (bP c.ts st 2).place,.string (bP c.ts st 2).text])/\eO c w (cx c.ts st 2) w':=by
 have g:w.heap.size≠c.rb:=by have:=aa a.reader;omega
 have m:w.heap.size≠c.tb:=by obtain⟨z,n,_⟩:=a.tokens;have:=aa n;omega
 have o:=a.env.size;have p:=ab a;clear a;go_enter func148,ntmps148;go_wp2_with fail;refine(pP c _ st f 2 (by exact p.alloc _) (by decide)).mono ?_;rintro e h ⟨rfl,⟨q,i⟩,d⟩;have j:=ab ((d.block w.heap.size (by simp) g).trans (af rfl));obtain⟨r,f0⟩:=blk j;have s:w.heap.size<h.heap.size:=by have:=d.size;simp at this;omega
 obtain⟨t,u⟩:=ag i d;clear i d;generalize k:bP c.ts st 2=l at*;have x:=ab k;clear k;go_wp2;refine Jr (v:=.agg #[.int .i64 l.place,.string l.text]) (by simp[results,results148,go_sem,r,s]) rfl ⟨by rw[U x],⟨q,?_⟩,?_⟩
 ·refine t.kpb (b:=w.heap.size) ?_ g m o (fun A e=>by rw[U j];simp);exact(((Kp.refl _ _).setCell _ _).setCell _ _).alloc _
 ·have y:Kp c.rb w h:=((Kp.refl _ _).alloc _).trans u;exact((y.setNew (Ji _) _).setNew (Ji _) _).alloc _
theorem su(c:Cx)(w:World)(st:St)(d:Value)(f:RS c w st d):
  Calls prog 273 #[.pointer (some ⟨c.rb,0,none⟩)] w fun e w'=> ∃b,e=.returned (.pointer (some ⟨b,0,none⟩))/\w.heap.size<=b/\w'.heap[b]? =some (.cells #[.int .i64 (bP c.ts st 3).place,.int .i64 (bP c.ts st 3).value,.string (bP c.ts st 3).text] 391 (0,0))/\eO c w (cx c.ts st 3) w':=by
 have i:=ab f;clear f;go_enter func273,ntmps273;go_wp2_with fail;refine(pP c _ st d 3 (by exact i) (by decide)).mono ?_;rintro e j ⟨rfl,⟨k,g⟩,a⟩;have o:=a.size;obtain⟨l,m⟩:=ag g a;clear g a;generalize h:bP c.ts st 3=p at*;have n:=ab h;clear h;go_wp2;go_ret;rw[U n];refine⟨j.heap.size+1,rfl,by omega,af (by simp),⟨k,(l.alloc _).alloc _⟩,(m.alloc _).alloc _⟩
def nY(ts:List Tk)(st:St):St:=cx ts (aH ts (cx ts st 2) [⟨#[46]⟩]) 2
theorem A7(c:Cx)(w:World)(st:St)(g:Value)(h:RS c w st g):
  Calls prog 329 #[.pointer (some ⟨c.rb,0,none⟩)] w fun e w'=> ∃b,e=.returned (.pointer (some ⟨b,0,none⟩))/\w.heap.size<=b/\w'.heap[b]? =some (.cells #[.int .i64 (bP c.ts st 2).place,.int .i64 (bP c.ts st 2).place,.string (bP c.ts st 2).text,.int .i64 (bP c.ts (aH c.ts (cx c.ts st 2) [⟨#[46]⟩]) 2).place,.string (bP c.ts (aH c.ts (cx c.ts st 2) [⟨#[46]⟩]) 2).text] 397 (0,0))/\eO c w (nY c.ts st) w':=by
 have v:=ab h;clear h;unfold nY;go_enter func329,ntmps329;go_wp2_with fail;refine(gN c _ st g (by exact v)).mono ?_;rintro e a ⟨rfl,⟨x,i⟩,j⟩;obtain⟨k,y⟩:=ag i j;clear i j;generalize l:bP c.ts st 2=L at*;generalize m:cx c.ts st 2=n at*;obtain⟨z,A⟩:=ag l m;clear l m;go_wp2_with fail;refine(dv c _ n x (a.heap.size+1) [⟨#[46]⟩] (by exact(k.alloc _).alloc _) (bo (by simp) (fun B C=>by match B,C with|0,_=>rfl)) (by simp) (dt (by decide))).mono ?_;rintro e D ⟨rfl,⟨E,o⟩,d⟩;have p:a.heap.size≠c.rb:=by have:=aa k.reader;omega
 have q:=ab ((d.block a.heap.size (by simp;omega) p).trans (ai (af rfl)));obtain⟨M,f0⟩:=blk q;have N:a.heap.size+1<D.heap.size:=by have:=d.size;simp at this;omega
 obtain⟨F,G⟩:=ag ((y.alloc _).alloc _|>.trans d) o;clear o d;generalize r:aH c.ts n [⟨#[46]⟩]=H at*;have I:=ab r;clear r;go_wp2_with fail
 go_region_with (go_at_call 148;refine(gN c _ H E (by exact G.drew)).mono ?_;rintro e s ⟨rfl,⟨J,t⟩,f⟩;have O:a.heap.size<s.heap.size:=(by have:=f.size;simp at this;omega);obtain⟨P,f3⟩:=blk ((f.block a.heap.size (by simp;omega) p).trans (by exact q));have K:=ab t;have u:=ab (F.drew.trans f);clear t f)
 all_goals
  go_wp2;go_ret;rw[U z,A,U I];refine⟨s.heap.size,rfl,?_,af rfl,⟨J,K.alloc _⟩,u.alloc _⟩;exact u.size
structure Nd where
 tag:Nat
 place:Nat
 s1:ByteArray
 s2:ByteArray
 p1:Nat
 p2:Nat
 v:Int
def mh(t:Tk):Nd:=⟨0,t.place,t.text,⟨#[]⟩,0,0,t.value⟩
def gv(p:Nat):Nd:=⟨1,p,⟨#[]⟩,⟨#[]⟩,0,0,0⟩
def dl(t u:Tk):Nd:=⟨2,t.place,t.text,u.text,t.place,u.place,0⟩
def mH(p:Nat):Nd:=⟨3,p,⟨#[]⟩,⟨#[]⟩,0,0,0⟩
def fZ(p:Nat)(a:ByteArray):Nd:=⟨4,p,a,⟨#[]⟩,0,0,0⟩
def ki(t:TypeId):Bool:=t==391||t==394||t==397||t==399||t==263
def bC(w:World)(P:Nat->Prop):Nat->Value->List Nd->Prop
 |0,_,_=>False
 |n+1,v,l=>
  (∃b t,v=.iface 386 (.pointer (some ⟨b,0,none⟩))/\P b/\w.heap[b]? =some (.cells #[.int .i64 t.place,.int .i64 t.value,.string t.text] 391 (0,0))/\l=[mh t])∨
  (∃b p x k,v=.iface 392 (.pointer (some ⟨b,0,none⟩))/\P b/\w.heap[b]? =some (.cells #[.int .i64 (p:Nat),x] 394 (0,0))/\bC w P n x k/\l=gv p::k)∨
  (∃b t u,v=.iface 395 (.pointer (some ⟨b,0,none⟩))/\P b/\w.heap[b]? =some (.cells #[.int .i64 (t:Tk).place,.int .i64 t.place,.string t.text,.int .i64 (u:Tk).place,.string u.text] 397 (0,0))/\l=[dl t u])∨
  (∃b p x k,v=.iface 398 (.pointer (some ⟨b,0,none⟩))/\P b/\w.heap[b]? =some (.cells #[.int .i64 (p:Nat),x] 399 (0,0))/\bC w P n x k/\l=mH p::k)∨
  (∃b p x a c k m,v=.iface 265 (.pointer (some ⟨b,0,none⟩))/\P b/\w.heap[b]? =some (.cells #[.int .i64 (p:Nat),x,.string a,c] 263 (0,0))/\bC w P n x k/\bC w P n c m/\l=fZ p a::(k++m))
abbrev rM(w:World)(lo:Nat)(n:Nat)(v:Value)(l:List Nd):Prop:=bC w (fun k=>lo<=k) n v l
def a7(lo:Nat)(w w':World):Prop:= ∀(a:Nat) (c:Array Value) (b:TypeId),lo<=a->w.heap[a]? =some (.cells c b (0,0))->ki b=true->w'.heap[a]? =w.heap[a]?
theorem a7.ofKp{lo r:Nat}{w w':World}(d:Kp r w w')(a:r<lo∨ ∀(cs:Array Value) (t:TypeId),w.heap[r]? =some (.cells cs t (0,0))->ki t=false):a7 lo w w':=fun e cs t g b c=>
 d.block e (aa b) (fun f=>by
  subst f;rcases a with a|a
  ·omega
  ·rw[a cs t b]at c;cases c)
theorem a7.ofBelow{lo:Nat}{w w':World}(a:Below w.heap.size w w'):a7 lo w w':=fun b _ _ _ c _=>a.block b (aa c)
theorem a7.trans{lo:Nat}{a b c:World}(l:a7 lo a b)(k:a7 lo b c):a7 lo a c:=fun d e f g h i=>by have j:=l d e f g h i;exact(k d e f g (j.trans h) i).trans j
theorem RS.nodes{c:Cx}{lo:Nat}{w w':World}{st:St}{a:Value}(b:RS c w st a)(d:Kp c.rb w w'):a7 lo w w':=
 a7.ofKp d (Or.inr fun cs t e=>by rw[b.reader]at e;cases e;rfl)
theorem bC.keep{w w':World}{P e:Nat->Prop}(a: ∀k,P k->e k)(c: ∀(k:Nat) (cs:Array Value) (t:TypeId),P k->w.heap[k]? =some (.cells cs t (0,0))->ki t=true->w'.heap[k]? =w.heap[k]?): ∀(n:Nat) (v:Value) (l:List Nd),bC w P n v l->bC w' e n v l
 |0,_,_,d=>d
 |n+1,v,l,d=>by
  rcases d with⟨b,t,h1,h0,h2,h3⟩|⟨b,p,x,k,h1,h0,h2,h3,h4⟩|⟨b,t,u,h1,h0,h2,h3⟩|⟨b,p,x,k,h1,h0,h2,h3,h4⟩|⟨b,p,x,sg,y,k,m,h1,h0,h2,h3,h4,h5⟩
  ·exact Or.inl ⟨b,t,h1,a _ h0,(c _ _ _ h0 h2 rfl).trans h2,h3⟩
  ·exact Or.inr (Or.inl ⟨b,p,x,k,h1,a _ h0,(c _ _ _ h0 h2 rfl).trans h2,bC.keep a c n x k h3,h4⟩)
  ·exact Or.inr (Or.inr (Or.inl ⟨b,t,u,h1,a _ h0,(c _ _ _ h0 h2 rfl).trans h2,h3⟩))
  ·exact Or.inr (Or.inr (Or.inr (Or.inl ⟨b,p,x,k,h1,a _ h0,(c _ _ _ h0 h2 rfl).trans h2,bC.keep a c n x k h3,h4⟩)))
  ·exact Or.inr (Or.inr (Or.inr (Or.inr ⟨b,p,x,sg,y,k,m,h1,a _ h0,(c _ _ _ h0 h2 rfl).trans h2,bC.keep a c n x k h3,bC.keep a c n y m h4,h5⟩)))
theorem rM.keep{w w':World}{lo a:Nat}(b:a<=lo)(c:a7 lo w w')(n:Nat)(v:Value)(l:List Nd)(d:rM w lo n v l):rM w' a n v l:=bC.keep (fun _ e=>Jt b e) c n v l d
theorem bC.up{w:World}{P:Nat->Prop}: ∀(n m:Nat) (v:Value) (l:List Nd),n<=m->bC w P n v l->bC w P m v l
 |0,_,_,_,_,a=>a.elim
 |n+1,m,v,l,e,a=>by
  obtain⟨m,rfl⟩: ∃c,m=c+1:=⟨m-1,by omega⟩
  have d:n<=m:=by omega
  rcases a with a|⟨b,p,x,k,h1,h0,h2,h3,h4⟩|a|⟨b,p,x,k,h1,h0,h2,h3,h4⟩|⟨b,p,x,sg,y,k,c,h1,h0,h2,h3,h4,h5⟩
  ·exact Or.inl a
  ·exact Or.inr (Or.inl ⟨b,p,x,k,h1,h0,h2,bC.up n m x k d h3,h4⟩)
  ·exact Or.inr (Or.inr (Or.inl a))
  ·exact Or.inr (Or.inr (Or.inr (Or.inl ⟨b,p,x,k,h1,h0,h2,bC.up n m x k d h3,h4⟩)))
  ·exact Or.inr (Or.inr (Or.inr (Or.inr ⟨b,p,x,sg,y,k,c,h1,h0,h2,bC.up n m x k d h3,bC.up n m y c d h4,h5⟩)))
def eD(w:World)(lo:Nat)(v:Value)(l:List Nd):Prop:= ∃a,rM w lo a v l
theorem eD.keep{w w':World}{lo a:Nat}{v:Value}{l:List Nd}(b:eD w lo v l)(c:a<=lo)(d:a7 lo w w'):eD w' a v l:=let⟨n,hn⟩:=b;⟨n,rM.keep c d n v l hn⟩
theorem eD.pair{w:World}{lo b p:Nat}{x a:Value}{c:ByteArray}{k m:List Nd}(d:lo<=b)(e:w.heap[b]? =some (.cells #[.int .i64 p,x,.string c,a] 263 (0,0)))(f:eD w lo x k)(g:eD w lo a m):eD w lo (.iface 265 (.pointer (some ⟨b,0,none⟩))) (fZ p c::(k++m)):=by obtain⟨h,i⟩:=f;obtain⟨j,l⟩:=g;exact⟨max h j+1,Or.inr (Or.inr (Or.inr (Or.inr ⟨b,p,x,c,a,k,m,rfl,d,e,bC.up _ _ _ _ (by omega) i,bC.up _ _ _ _ (by omega) l,rfl⟩)))⟩
def jG(w:World)(P:Nat->Prop)(v:Value)(l:List Nd):Prop:= ∃a,bC w P a v l
theorem jG.keep{w w':World}{P a:Nat->Prop}{v:Value}{l:List Nd}(b:jG w P v l)(c: ∀k,P k->a k)(d: ∀(k:Nat) (cs:Array Value) (t:TypeId),P k->w.heap[k]? =some (.cells cs t (0,0))->ki t=true->w'.heap[k]? =w.heap[k]?):jG w' a v l:=let⟨n,hn⟩:=b;⟨n,bC.keep c d n v l hn⟩
theorem bC.bound{w:World}{P:Nat->Prop}: ∀(n:Nat) (v:Value) (l:List Nd),bC w P n v l->bC w (fun k=>P k/\k<w.heap.size) n v l
 |0,_,_,a=>a
 |n+1,v,l,a=>by
  rcases a with⟨b,t,h1,h0,h2,h3⟩|⟨b,p,x,k,h1,h0,h2,h3,h4⟩|⟨b,t,u,h1,h0,h2,h3⟩|⟨b,p,x,k,h1,h0,h2,h3,h4⟩|⟨b,p,x,sg,y,k,m,h1,h0,h2,h3,h4,h5⟩
  ·exact Or.inl ⟨b,t,h1,⟨h0,aa h2⟩,h2,h3⟩
  ·exact Or.inr (Or.inl ⟨b,p,x,k,h1,⟨h0,aa h2⟩,h2,bC.bound n x k h3,h4⟩)
  ·exact Or.inr (Or.inr (Or.inl ⟨b,t,u,h1,⟨h0,aa h2⟩,h2,h3⟩))
  ·exact Or.inr (Or.inr (Or.inr (Or.inl ⟨b,p,x,k,h1,⟨h0,aa h2⟩,h2,bC.bound n x k h3,h4⟩)))
  ·exact Or.inr (Or.inr (Or.inr (Or.inr ⟨b,p,x,sg,y,k,m,h1,⟨h0,aa h2⟩,h2,bC.bound n x k h3,bC.bound n y m h4,h5⟩)))
theorem eD.bound{w:World}{lo:Nat}{v:Value}{l:List Nd}(a:eD w lo v l):jG w (fun k=>lo<=k/\k<w.heap.size) v l:=let⟨n,hn⟩:=a;⟨n,bC.bound n v l hn⟩
def jQ(v:Value):Prop:=v=.nilIface∨ ∃a b,v=.iface a b
abbrev Rx:=List Nd×St
def cD(ts:List Tk)(one:St->Rx)(xs:List ByteArray)(a:Nat):Nat->List Nd->St->Rx
 |0,l,st=>(l,st)
 |f+1,l,st=>if az ts st xs then cD ts one xs a f (fZ a (ah ts st.nx).text::(l++(one (aD st)).1)) (one (aD st)).2 else(l,st)
def iD(ts:List Tk)(one:St->Rx)(xs:List ByteArray)(st:St):Rx:=
 cD ts one xs (ah ts st.nx).place ts.length (one st).1 (one st).2
def xi:List ByteArray:=[⟨#[42]⟩]
def kj:List ByteArray:=[⟨#[43]⟩,⟨#[45]⟩]
def jH:List ByteArray:=[⟨#[45]⟩]
def ju:List ByteArray:=[⟨#[40]⟩]
def oe:List ByteArray:=[⟨#[41]⟩]
def jk(ts:List Tk)(a:St->Rx):St->Rx:=iD ts a xi
def ek(ts:List Tk)(a:St->Rx):St->Rx:=iD ts (jk ts a) kj
def eK(one:St->Rx)(st:St):Rx:=
 ((one {st with dp:=st.dp+1}).1,{(one {st with dp:=st.dp+1}).2 with dp:=(one {st with dp:=st.dp+1}).2.dp-1})
def aQ(ts:List Tk):Nat->St->Rx
 |0,st=>([],bM ts st cB)
 |n+1,st=>
  if az ts st jH then(gv (ah ts st.nx).place::(eK (aQ ts n) (aD st)).1,(eK (aQ ts n) (aD st)).2)
  else if az ts st ju then(mH (ah ts st.nx).place::(eK (ek ts (aQ ts n)) (aD st)).1,aH ts (eK (ek ts (aQ ts n)) (aD st)).2 oe)
  else if(ah ts st.nx).kind=3 then([mh (bP ts st 3)],cx ts st 3)
  else([dl (bP ts st 2) (bP ts (aH ts (cx ts st 2) [⟨#[46]⟩]) 2)],nY ts st)
structure cG(ts:List Tk)(st st':St):Prop where
 nx:st.nx<=st'.nx
 lt:st'.nx<ts.length
 dp:st'.dp=st.dp
 er:st'.er=none->st.er=none
 erp: ∀x,st'.er=some x->st.er=some x∨((∃i,i<ts.length/\x.1=(ah ts i).place)/\(x.2=bE∨x.2=cB))
theorem cG.refl{ts:List Tk}{st:St}(a:st.nx<ts.length):cG ts st st:=⟨Ji _,a,rfl,id,fun _=>Or.inl⟩
theorem cG.trans{ts:List Tk}{a b c:St}(d:cG ts a b)(k:cG ts b c):cG ts a c:=⟨Jt d.nx k.nx,k.lt,k.dp.trans d.dp,fun e=>d.er (k.er e),fun f e=>(k.erp f e).elim (d.erp f) Or.inr⟩
theorem mJ{ts:List Tk}{st:St}(c:st.nx<ts.length)(k:Nat)(d:k=bE∨k=cB:=by first|exact Or.inl rfl|exact Or.inr rfl):cG ts st (bM ts st k):=by
 refine⟨by show st.nx<=ts.length-1;omega,by show ts.length-1<ts.length;omega,rfl,fun a=>?_,fun e a=>?_⟩
 ·unfold bM at a
  cases b:st.er with
  |none=>rfl
  |some e=>rw[b]at a;cases a
 ·unfold bM at a
  cases b:st.er with
  |none=>rw[b]at a;cases a;exact Or.inr ⟨⟨st.nx,c,rfl⟩,d⟩
  |some f=>rw[b]at a;exact Or.inl a
def cO(ts:List Tk):Prop:= ∀a,a<ts.length->(ah ts a).kind≠0->a+1<ts.length
theorem bB{ts:List Tk}(a:cO ts){st:St}(b:st.nx<ts.length)(c:(ah ts st.nx).kind≠0):cG ts st (aD st):=
 ⟨by show st.nx<=st.nx+1;omega,a _ b c,rfl,id,fun _=>Or.inl⟩
theorem aW{ts:List Tk}{st:St}{xs:List ByteArray}(a:az ts st xs=true):(ah ts st.nx).kind≠0:=by unfold az at a;rw[Kc]at a;have:=a.1;simp at this;omega
theorem aM{ts:List Tk}(b:cO ts){st:St}(a:st.nx<ts.length)(xs:List ByteArray):cG ts st (aH ts st xs):=by
 unfold aH;split
 ·rename_i c;exact bB b a (aW c)
 ·exact mJ a _
theorem dx{ts:List Tk}(b:cO ts){st:St}(a:st.nx<ts.length){k:Nat}(c:k≠0):cG ts st (cx ts st k):=by
 unfold cx;split
 ·rename_i d;exact bB b a (by omega)
 ·exact mJ a _
theorem Ge{ts:List Tk}(a:cO ts){st:St}(d:st.nx<ts.length):cG ts st (nY ts st):=by have b:=dx a d (k:=2) (by decide);have c:=aM a b.lt [⟨#[46]⟩];exact b.trans (c.trans (dx a c.lt (by decide)))
def fT(ts:List Tk)(f:St->Rx):Prop:= ∀a,a.nx<ts.length->cG ts a (f a).2
theorem mL{ts:List Tk}(b:cO ts){one:St->Rx}(c:fT ts one)(xs:List ByteArray)(d:Nat): ∀(f:Nat) (l:List Nd) (st:St),st.nx<ts.length->cG ts st (cD ts one xs d f l st).2
 |0,_,st,a=>cG.refl a
 |f+1,l,st,a=>by
  unfold cD;split
  ·rename_i h
   have e:=bB b a (aW h);have g:=c _ e.lt;exact e.trans (g.trans (mL b c xs d f _ _ g.lt))
  ·exact cG.refl a
theorem iE{ts:List Tk}(d:cO ts){one:St->Rx}(a:fT ts one)(xs:List ByteArray):fT ts (iD ts one xs):=fun b c=>(a b c).trans (mL d a xs _ _ _ _ (a b c).lt)
theorem jI{ts:List Tk}(a:cO ts){b:St->Rx}(c:fT ts b):fT ts (ek ts b):=iE a (iE a c _) _
theorem mM{ts:List Tk}{one:St->Rx}(c:fT ts one):fT ts (eK one):=fun a d=>by
 have b:=c {a with dp:=a.dp+1} d;refine⟨b.nx,b.lt,?_,b.er,b.erp⟩
 show(one {a with dp:=a.dp+1}).2.dp-1=a.dp
 rw[b.dp];rfl
theorem cm{ts:List Tk}(a:cO ts): ∀n,fT ts (aQ ts n)
 |0=>fun st b=>mJ b _
 |n+1=>fun st b=>by
  unfold aQ;split
  ·rename_i d
   have c:=bB a b (aW d);exact c.trans (mM (cm a n) _ c.lt)
  ·split
   ·rename_i d
    have c:=bB a b (aW d);have e:=mM (jI a (cm a n)) _ c.lt;exact c.trans (e.trans (aM a e.lt _))
   ·split
    ·exact dx a b (by decide)
    ·exact Ge a b
def jl(c:Cx)(w:World)(r:Rx)(e:Ending)(w':World):Prop:= ∃a,e=.returned a/\jQ a/\eO c w r.2 w'/\(r.2.er=none->eD w' w.heap.size a r.1)
def lS(c:Cx)(e d:Nat)(f:St->Rx):Prop:= ∀(a:World) (b:St) (g:Value),RS c a b g->b.dp=d->Calls prog e #[.pointer (some ⟨c.rb,0,none⟩)] a fun h i=>jl c a (f b) h i
theorem wn(c:Cx)(w:World)(st:St)(j:Value)(a:St->Rx)(b:RS c w st j)(I:st.dp<=16)(k:fT c.ts a)(l:lS c 310 (st.dp+1) a):
  Calls prog 328 #[.pointer (some ⟨c.rb,0,none⟩),.func (.func 310) #[.pointer (some ⟨c.rb,0,none⟩)] #[]] w fun e w'=>jl c w (eK a st) e w':=by
 obtain⟨m,n,d,o,p,J⟩:=b.facts;obtain⟨q,z,A⟩:=aC b l k;clear b l k;unfold eK;go_enter func328,ntmps328;go_wp2_with fail;have f:=q.setDp (st.dp+1) (by omega);rw[show(((st.dp+1:Nat):Int))=((st.dp:Int)+1)from by omega]at f;refine(U z _ _ j f rfl).mono ?_;rintro e K ⟨B,rfl,r,⟨⟨C,g⟩,s⟩,hex⟩;have t:=U A {st with dp:=st.dp+1} q.nx;generalize u:a {st with dp:=st.dp+1}=h at*;have D:=ab u;have v:h.2.dp=st.dp+1:=t.dp;have i:=ab v;clear m n d o p u t v;obtain⟨m,n,d,o,p,L⟩:=g.facts;rw[U i]at d;obtain⟨x,E,F,G⟩:=aP g (((Kp.refl c.rb w).setCell 2 (.int .i64 ((st.dp:Int)+1))).trans s) hex r;clear f g s hex r;go_wp2;go_ret;rw[U D];have y:=x.setDp (h.2.dp-1) (by rw[U i];omega);rw[show(((h.2.dp-1:Nat):Int))=(st.dp:Int)from by rw[U i];omega]at y;refine⟨B,rfl,G,⟨⟨C,y⟩,E.setCell _ _⟩,fun H=>(U F H).keep (by simp[World.setCell]) (x.nodes ((Kp.refl _ _).setCell _ _))⟩
theorem zC(c:Cx)(w:World)(st:St)(j:Value)(a:St->Rx)(b:RS c w st j)(I:st.dp<=16)(k:fT c.ts a)(l:lS c 218 (st.dp+1) a):
  Calls prog 328 #[.pointer (some ⟨c.rb,0,none⟩),.func (.func 218) #[.pointer (some ⟨c.rb,0,none⟩)] #[]] w fun e w'=>jl c w (eK a st) e w':=by
 obtain⟨m,n,d,o,p,J⟩:=b.facts;obtain⟨q,z,A⟩:=aC b l k;clear b l k;unfold eK;go_enter func328,ntmps328;go_wp2_with fail;have f:=q.setDp (st.dp+1) (by omega);rw[show(((st.dp+1:Nat):Int))=((st.dp:Int)+1)from by omega]at f;refine(U z _ _ j f rfl).mono ?_;rintro e K ⟨B,rfl,r,⟨⟨C,g⟩,s⟩,hex⟩;have t:=U A {st with dp:=st.dp+1} q.nx;generalize u:a {st with dp:=st.dp+1}=h at*;have D:=ab u;have v:h.2.dp=st.dp+1:=t.dp;have i:=ab v;clear m n d o p u t v;obtain⟨m,n,d,o,p,L⟩:=g.facts;rw[U i]at d;obtain⟨x,E,F,G⟩:=aP g (((Kp.refl c.rb w).setCell 2 (.int .i64 ((st.dp:Int)+1))).trans s) hex r;clear f g s hex r;go_wp2;go_ret;rw[U D];have y:=x.setDp (h.2.dp-1) (by rw[U i];omega);rw[show(((h.2.dp-1:Nat):Int))=(st.dp:Int)from by rw[U i];omega]at y;refine⟨B,rfl,G,⟨⟨C,y⟩,E.setCell _ _⟩,fun H=>(U F H).keep (by simp[World.setCell]) (x.nodes ((Kp.refl _ _).setCell _ _))⟩
end
end Go.Proofs.YtfkeddkfegaeiaaGreatDoor
