import Derived.Test.YtfkeddkfegaeiaaGreatDoorPnAls
import Derived.Test.YtfkeddkfegaeiaaGreatDoorProg
set_option maxRecDepth 100000
set_option maxHeartbeats 20000000
namespace Go.Proofs.YtfkeddkfegaeiaaGreatDoor
section
open Tryz
def bY(n:Int):Bool:=n==32||n==9||n==10
def aq(n:Int):Bool:=(decide (97<=n)&&decide (n<=122))||n==95
def aG(n:Int):Bool:=decide (48<=n)&&decide (n<=57)
def aY(p:Int->Bool)(l:List UInt8):Nat:=(l.takeWhile fun a=>p a.toNat).length
theorem jP(p:Int->Bool)(l:List UInt8):aY p l<=l.length:=by
 unfold aY
 induction l with
 |nil=>simp
 |cons a b c=>simp only[KH];split<;>simp<;>omega
theorem mq(p:Int->Bool)(l:List UInt8)(k:Nat)(a:k<=l.length)(b: ∀j (f:j<k),p (l[j]'(by omega)).toNat=true)(c: ∀d:k<l.length,p (l[k]).toNat=false):aY p l=k:=by
 induction l generalizing k with
 |nil=>simp at a;subst a;rfl
 |cons h i g=>
  match k with
  |0=>have:=c (by simp);simp only[Mp]at this;simp[aY,this]
  |k+1=>have e:=b 0 (by omega);simp only[Mp]at e;have:=g k (by simpa using a) (fun j f=>by simpa using b (j+1) (by omega)) (fun d=>c (by simpa using d));unfold aY at this⊢;simp[e,this]
def oN:List (List UInt8):=[[97,110,100],[97,115],[98,121],[99,111,117,110,116],[102,114,111,109],[109,97,120],[109,105,110],[111,114,100,101,114],[111,118,101,114],[112,97,114,116,105,116,105,111,110],[112,114,101,99,101,100,105,110,103],[114,111,119,95,110,117,109,98,101,114],[114,111,119,115],[115,101,108,101,99,116],[115,117,109],[117,110,105,111,110],[119,104,101,114,101],[119,105,116,104]]
def dU(l:List UInt8):Bool:=oN.any fun a=>l==a
def g5:List UInt8:=[40,41,44,46,43,45,42,61,60,62]
def fY(l:List UInt8):Bool:=(l.take 2== [60,62])||(l.take 2== [60,61])||(l.take 2== [62,61])
def bK(l:List UInt8):Nat:=
 if fY l then 2 else if Lib.indexByte g5 (l.headD 0)<0 then 0 else 1
structure Tk where
 place:Nat
 kind:Nat
 text:ByteArray
 value:Int
end
section
open Go.RowKit Tryz
theorem q8(n:Int)(w:World):Calls prog 94 #[.int .u8 n] w fun e w'=>e=.returned (.bool (bY n))/\w'=w:=by
 by_cases c:n=32
 ·have a:(n==32)=true:=by simp[c]
  go_enter func94,ntmps94;go_wp2;go_ret;exact⟨by simp[bY,a],rfl⟩
 ·have a:(n==32)=false:=by simp[c]
  by_cases d:n=9
  ·have b:(n==9)=true:=by simp[d]
   go_enter func94,ntmps94;go_wp2;go_ret;exact⟨by simp[bY,a,b],rfl⟩
  ·have b:(n==9)=false:=by simp[d]
   go_enter func94,ntmps94;go_wp2;go_ret;exact⟨by simp[bY,a,b],rfl⟩
theorem ew(n:Int)(w:World):Calls prog 142 #[.int .u8 n] w fun e w'=>e=.returned (.bool (aq n))/\w'=w:=by
 by_cases a:97<=n
 ·have b:decide (97<=n)=true:=by simp[a]
  by_cases c:n<=122
  ·have d:decide (n<=122)=true:=by simp[c]
   go_enter func142,ntmps142;go_wp2;go_ret;exact⟨by simp[aq,a,c],rfl⟩
  ·have d:decide (n<=122)=false:=by simp;omega
   go_enter func142,ntmps142;go_wp2;go_ret;exact⟨by simp[aq,d],rfl⟩
 ·have b:decide (97<=n)=false:=by simp;omega
  go_enter func142,ntmps142;go_wp2;go_ret;exact⟨by simp[aq,b],rfl⟩
theorem hU(n:Int)(w:World):Calls prog 144 #[.int .u8 n] w fun e w'=>e=.returned (.bool (aG n))/\w'=w:=by
 by_cases a:48<=n
 ·have b:decide (48<=n)=true:=by simp[a]
  go_enter func144,ntmps144;go_wp2;go_ret;exact⟨by simp[aG,a],rfl⟩
 ·have b:decide (48<=n)=false:=by simp;omega
  go_enter func144,ntmps144;go_wp2;go_ret;exact⟨by simp[aG,b],rfl⟩
theorem mf(s:ByteArray)(w:World):Calls prog 208 #[.string s] w fun e w'=>e=.returned (.bool (dU s.data.toList))/\w'=w:=by
 go_enter func208,ntmps208;go_wp2
 all_goals first
  |(exfalso;simp_all;done)
  |(go_ret;refine⟨?_,rfl⟩;rw[<-JA];simp only[dU,oN,Kq,MG, *,Bool.or_true,Bool.true_or,My];rfl)
theorem wk(s:ByteArray)(w:World)(r:s.size<=maxLen):
  Calls prog 93 #[.string s,.func (.func 94) #[] #[]] w fun e w'=>e=.returned (.string (s.extract 0 (aY bY s.data.toList)))/\w'=w:=by
 unfold maxLen at r;go_enter func93,ntmps93;go_wp2
 go_loop [5] (fun g=> ∃a:Nat,a<=s.size/\(∀b (c:b<a) (h:b<s.data.toList.length),bY (s.data.toList[b]).toNat=true)/\g=.int .i64 a) (fun g=>s.size-(intOf g).toNat)
 case atStart=>exact⟨0,KO _,fun b c=>absurd c (Nat.not_lt_zero _),rfl⟩
 case round=>
  obtain⟨a,l,m,rfl⟩:=hrel;have i:Hid (∀b (c:b<a) (h:b<s.data.toList.length),bY (s.data.toList[b]).toNat=true):=m;clear m;have n:s.data.toList.length=s.size:=by rw[JP];rfl
  have d:Hid (s.data.toList.length=s.size):=n;clear n;by_cases o:a<s.size
  ·have p:((s[a]).toNat:Int)=((s.data.toList[a]'(by rw[d.out];exact o)).toNat:Int):=rfl;have t:Hid (((s[a]).toNat:Int)=((s.data.toList[a]'(by rw[d.out];exact o)).toNat:Int)):=p;clear p
   cases q:bY (s[a]).toNat with
   |true=>
    have j:Hid (bY (s[a]).toNat=true):=q;go_wp2_with (go_at_call 94;refine(q8 _ _).mono ?_;rintro e w' ⟨rfl,rfl⟩)
    go_round
    case rel=>
     refine⟨a+1,by omega,fun b c h=>?_,by go_num⟩;rcases J' b a with f|f
     ·exact i.out b f h
     ·obtain rfl:b=a:=by omega
      exact j.out
    case measure=>simp[intOf];omega
   |false=>have j:Hid (bY (s[a]).toNat=false):=q;go_wp2_with (go_at_call 94;refine(q8 _ _).mono ?_;rintro e w' ⟨rfl,rfl⟩);go_ret;have k:aY bY s.data.toList=a:=mq _ _ a (by rw[d.out];exact l) (fun b c=>i.out b c (by rw[d.out];omega)) (fun _=>j.out);exact⟨by rw[k];rfl,rfl⟩
  ·go_wp2;go_ret;have k:aY bY s.data.toList=a:=mq _ _ a (by rw[d.out];exact l) (fun b c=>i.out b c (by rw[d.out];omega)) (fun f=>absurd f (by rw[d.out];omega));exact⟨by rw[k];rfl,rfl⟩
theorem iS(s:ByteArray)(w:World)(r:s.size<=maxLen):
  Calls prog 93 #[.string s,.func (.func 142) #[] #[]] w fun e w'=>e=.returned (.string (s.extract 0 (aY aq s.data.toList)))/\w'=w:=by
 unfold maxLen at r;go_enter func93,ntmps93;go_wp2
 go_loop [5] (fun g=> ∃a:Nat,a<=s.size/\(∀b (c:b<a) (h:b<s.data.toList.length),aq (s.data.toList[b]).toNat=true)/\g=.int .i64 a) (fun g=>s.size-(intOf g).toNat)
 case atStart=>exact⟨0,KO _,fun b c=>absurd c (Nat.not_lt_zero _),rfl⟩
 case round=>
  obtain⟨a,l,m,rfl⟩:=hrel;have i:Hid (∀b (c:b<a) (h:b<s.data.toList.length),aq (s.data.toList[b]).toNat=true):=m;clear m;have n:s.data.toList.length=s.size:=by rw[JP];rfl
  have d:Hid (s.data.toList.length=s.size):=n;clear n;by_cases o:a<s.size
  ·have p:((s[a]).toNat:Int)=((s.data.toList[a]'(by rw[d.out];exact o)).toNat:Int):=rfl;have t:Hid (((s[a]).toNat:Int)=((s.data.toList[a]'(by rw[d.out];exact o)).toNat:Int)):=p;clear p
   cases q:aq (s[a]).toNat with
   |true=>
    have j:Hid (aq (s[a]).toNat=true):=q;go_wp2_with (go_at_call 142;refine(ew _ _).mono ?_;rintro e w' ⟨rfl,rfl⟩)
    go_round
    case rel=>
     refine⟨a+1,by omega,fun b c h=>?_,by go_num⟩;rcases J' b a with f|f
     ·exact i.out b f h
     ·obtain rfl:b=a:=by omega
      exact j.out
    case measure=>simp[intOf];omega
   |false=>have j:Hid (aq (s[a]).toNat=false):=q;go_wp2_with (go_at_call 142;refine(ew _ _).mono ?_;rintro e w' ⟨rfl,rfl⟩);go_ret;have k:aY aq s.data.toList=a:=mq _ _ a (by rw[d.out];exact l) (fun b c=>i.out b c (by rw[d.out];omega)) (fun _=>j.out);exact⟨by rw[k];rfl,rfl⟩
  ·go_wp2;go_ret;have k:aY aq s.data.toList=a:=mq _ _ a (by rw[d.out];exact l) (fun b c=>i.out b c (by rw[d.out];omega)) (fun f=>absurd f (by rw[d.out];omega));exact⟨by rw[k];rfl,rfl⟩
theorem pw(s:ByteArray)(w:World)(r:s.size<=maxLen):
  Calls prog 93 #[.string s,.func (.func 144) #[] #[]] w fun e w'=>e=.returned (.string (s.extract 0 (aY aG s.data.toList)))/\w'=w:=by
 unfold maxLen at r;go_enter func93,ntmps93;go_wp2
 go_loop [5] (fun g=> ∃a:Nat,a<=s.size/\(∀b (c:b<a) (h:b<s.data.toList.length),aG (s.data.toList[b]).toNat=true)/\g=.int .i64 a) (fun g=>s.size-(intOf g).toNat)
 case atStart=>exact⟨0,KO _,fun b c=>absurd c (Nat.not_lt_zero _),rfl⟩
 case round=>
  obtain⟨a,l,m,rfl⟩:=hrel;have i:Hid (∀b (c:b<a) (h:b<s.data.toList.length),aG (s.data.toList[b]).toNat=true):=m;clear m;have n:s.data.toList.length=s.size:=by rw[JP];rfl
  have d:Hid (s.data.toList.length=s.size):=n;clear n;by_cases o:a<s.size
  ·have p:((s[a]).toNat:Int)=((s.data.toList[a]'(by rw[d.out];exact o)).toNat:Int):=rfl;have t:Hid (((s[a]).toNat:Int)=((s.data.toList[a]'(by rw[d.out];exact o)).toNat:Int)):=p;clear p
   cases q:aG (s[a]).toNat with
   |true=>
    have j:Hid (aG (s[a]).toNat=true):=q;go_wp2_with (go_at_call 144;refine(hU _ _).mono ?_;rintro e w' ⟨rfl,rfl⟩)
    go_round
    case rel=>
     refine⟨a+1,by omega,fun b c h=>?_,by go_num⟩;rcases J' b a with f|f
     ·exact i.out b f h
     ·obtain rfl:b=a:=by omega
      exact j.out
    case measure=>simp[intOf];omega
   |false=>have j:Hid (aG (s[a]).toNat=false):=q;go_wp2_with (go_at_call 144;refine(hU _ _).mono ?_;rintro e w' ⟨rfl,rfl⟩);go_ret;have k:aY aG s.data.toList=a:=mq _ _ a (by rw[d.out];exact l) (fun b c=>i.out b c (by rw[d.out];omega)) (fun _=>j.out);exact⟨by rw[k];rfl,rfl⟩
  ·go_wp2;go_ret;have k:aY aG s.data.toList=a:=mq _ _ a (by rw[d.out];exact l) (fun b c=>i.out b c (by rw[d.out];omega)) (fun f=>absurd f (by rw[d.out];omega));exact⟨by rw[k];rfl,rfl⟩
theorem ab{p:Prop}(a:p):Hid p:=a
theorem U{p:Prop}(a:Hid p):p:=a
def mg(j:Nat):Bool:=j==0||j==1||j==2||j==3||j==4||j==11||j==12
theorem wP{j:Nat}(a:mg j=true):j<13:=by unfold mg at a;simp only[J8,KD]at a;omega
structure fD(a:Nat->Addr)(B:Nat)(w:World):Prop where
 low:13<=B
 size:B<=w.heap.size
 cell: ∀j,mg j=true->w.cell? ⟨j,0,none⟩=some (.iface 496 (.pointer (some (a j))))
 below: ∀j,mg j=true->(a j).block<B
 row: ∀j,mg j=true-> ∃c t,w.heap[(a j).block]? =some (.cells c t (0,0))
 ne: ∀i j,mg i=true->mg j=true->i≠j->a i≠a j
theorem fD.keep{a:Nat->Addr}{e:Nat}{w w':World}(b:fD a e w)(f:Below e w w'):fD a e w':=by
 refine⟨b.low,Jt b.size f.size,fun c d=>?_,b.below,fun c d=>?_,b.ne⟩
 ·rw[f.cell (p:=⟨c,0,none⟩) (Js (wP d) b.low)];exact b.cell c d
 ·obtain⟨g,h,i⟩:=b.row c d;exact⟨g,h,by rw[f.block _ (b.below c d)];exact i⟩
theorem fD.alloc{a:Nat->Addr}{b:Nat}{w:World}(c:fD a b w)(o:Obj):fD a b (w.alloc o):=
 c.keep ((Jj _ _).alloc c.size _)
theorem fD.drew{a:Nat->Addr}{b:Nat}{w:World}(c:fD a b w):fD a b w.drew:=c.keep (Jj _ _).drew
structure Kp(r:Nat)(w w':World):Prop where
 os:w'.os=w.os
 tape:w'.tape=w.tape
 output:w'.output=w.output
 size:w.heap.size<=w'.heap.size
 block: ∀k,k<w.heap.size->k≠r->w'.heap[k]? =w.heap[k]?
theorem Kp.refl(r:Nat)(w:World):Kp r w w:=⟨rfl,rfl,rfl,Ji _,fun _ _ _=>rfl⟩
theorem Kp.trans{r:Nat}{a b c:World}(d:Kp r a b)(k:Kp r b c):Kp r a c:=
 ⟨k.os.trans d.os,k.tape.trans d.tape,k.output.trans d.output,Jt d.size k.size,fun i e f=>(k.block i (Js e d.size) f).trans (d.block i e f)⟩
theorem Kp.ofBelow{r:Nat}{w w':World}(a:Below w.heap.size w w'):Kp r w w':=⟨a.os,a.tape,a.output,a.size,fun b c _=>a.block b c⟩
theorem Kp.drew{r:Nat}{a w:World}(b:Kp r a w):Kp r a w.drew:=⟨b.os,b.tape,b.output,b.size,b.block⟩
theorem Kp.alloc{r:Nat}{a w:World}(b:Kp r a w)(o:Obj):Kp r a (w.alloc o):=
 b.trans ⟨rfl,rfl,rfl,by simp,fun k c _=>J9 _ _ _ c⟩
theorem Kp.setCell{r:Nat}{a w:World}(b:Kp r a w)(off:Nat)(u:Value):Kp r a (w.setCell ⟨r,off,none⟩ u):=
 b.trans ⟨rfl,rfl,rfl,by simp[World.setCell],fun k _ c=>Jp _ _ _ _ c⟩
theorem Kp.setNew{r:Nat}{a w:World}(b:Kp r a w){p:Addr}(e:a.heap.size<=p.block)(u:Value):Kp r a (w.setCell p u):=
 ⟨b.os,b.tape,b.output,Jt b.size (by simp[World.setCell]),fun k c d=>(Jp _ _ _ _ (by omega)).trans (b.block k c d)⟩
theorem Kp.below{r b:Nat}{w w':World}(a:Kp r w w')(c:b<=r)(d:b<=w.heap.size):Below b w w':=
 ⟨a.os,a.tape,a.output,a.size,fun k e=>a.block k (by omega) (by omega)⟩
theorem fD.kp{a:Nat->Addr}{b r:Nat}{w w':World}(c:fD a b w)(d:Kp r w w')(e:b<=r):fD a b w':=c.keep (d.below e c.size)
theorem Kp.cell{r:Nat}{w w':World}(a:Kp r w w'){p:Addr}(b:p.block<w.heap.size)(c:p.block≠r):w'.cell? p=w.cell? p:=World.cell?_of_block (w:=w) (a.block p.block b c)
theorem af{w:World}{o:Obj}{n:Nat}(a:n=w.heap.size):(w.alloc o).heap[n]? =some o:=by
 subst a
 show(w.heap.push o)[w.heap.size]? =_
 rw[MB,Jo rfl]
theorem blk{w:World}{b:Nat}{c:Array Value}{t:TypeId}(a:w.heap[b]? =some (.cells c t (0,0))):(∀o,w.cell? ⟨b,o,none⟩=c[o]?)/\ ∀o,w.frozen? ⟨b,o,none⟩=false:=by refine⟨fun o=>by simp[World.cell?,a],fun o=>by simp[World.frozen?,a]⟩
theorem ai{w:World}{o:Obj}{n:Nat}{x:Obj}(a:w.heap[n]? =some x):(w.alloc o).heap[n]? =some x:=by
 have b:n<w.heap.size:=by
  rcases J' n w.heap.size with h'|h'
  ·exact h'
  ·rw[KG h']at a;cases a
 rw[J9 _ _ _ b];exact a
end
section
open Go.RowKit Go.Extern.Stop Go.Stop Go.Extern Tryz
theorem oO(v:Value)(w:World):(Extern.ReflectliteType.typeOf #[.iface 496 v]).run prog w=.ok (.iface 192 (.agg #[.pointer (some ⟨17,496,none⟩)])) w:=by kernel_rfl
def A1:Array Value->Sem Value:=Extern.ReflectliteType.method fun a=>do Rtype.noPackHeld "Comparable" a;pure (.bool (<-typeInfo a).comparable)
theorem mC(w:World):(A1 #[.agg #[.pointer (some ⟨17,496,none⟩)]]).run prog w=.ok (.bool true) w:=by kernel_rfl
theorem pK:(prog.info? 496).map (·.comparable)=some true:=by kernel_rfl
theorem pL:(prog.info? 498).map (·.size)=some 1:=by kernel_rfl
theorem FZ(v:Value)(a:TypeId)(w:World):(Instr.typeAssert (.iface 496 v) a 194 true).run prog w=.ok (.tuple #[.nilIface,.bool false]) w:=KV underlying194 (by kernel_rfl) (by kernel_rfl) v a w
theorem pM(v:Value)(a:TypeId)(w:World):(Instr.typeAssert (.iface 496 v) a 197 true).run prog w=.ok (.tuple #[.nilIface,.bool false]) w:=KV underlying197 (by kernel_rfl) (by kernel_rfl) v a w
theorem oP(v:Value)(a:TypeId)(w:World):(Instr.typeAssert (.iface 496 v) a 199 true).run prog w=.ok (.tuple #[.nilIface,.bool false]) w:=KV underlying199 (by kernel_rfl) (by kernel_rfl) v a w
theorem iB(v:Value)(w:World):(Go.method 639 192 v "Comparable").run prog w=.ok (376,v) w:=by kernel_rfl
theorem Ix(v:Value)(a:TypeId)(w:World):(Instr.typeAssert (.iface 471 v) a 194 true).run prog w=.ok (.tuple #[.nilIface,.bool false]) w:=KV underlying194 (by kernel_rfl) (by kernel_rfl) v a w
theorem A2(v:Value)(a:TypeId)(w:World):(Instr.typeAssert (.iface 471 v) a 197 true).run prog w=.ok (.tuple #[.iface 471 v,.bool true]) w:=run_typeAssert_hasB underlying197 (by kernel_rfl) v a w
theorem wl(v:Value)(w:World):(Go.method 639 471 v "Unwrap").run prog w=.ok (390,v) w:=by kernel_rfl
theorem qW(u:TypeId)(x:Value)(w:World):(binOp .eql 23 .nilIface (.iface u x)).run prog w=.ok (.bool false) w:=by
 have a:(Op.equalIn (9999+1) 23 .nilIface (.iface u x)).run prog w=.ok false w:=by rw[Op.equalIn];simp[run_underlying underlying23]
 simp only[binOp];simp[Op.equal,Op.maxDepth,a]
theorem Cn(v:Value)(w:World):
  Calls prog 18 #[.nilIface,.iface 496 v] w fun e w'=>e=.returned (.bool false)/\w'=w:=by
 have a:=qW;go_enter func18,ntmps18;go_wp2;go_ret;exact⟨rfl,rfl⟩
theorem Hj(a:Nat)(b:Addr)(w:World)(g:w.cell? ⟨a,2,none⟩=some (.iface 496 (.pointer (some b)))):
  Calls prog 18 #[.iface 471 (.pointer (some ⟨a,0,none⟩)),.iface 496 (.pointer (some b))] w fun e w'=>e=.returned (.bool true)/\w'=w:=by
 obtain⟨h,c,d⟩:=Jq.1 pK;obtain⟨i,f,j⟩:=Jq.1 pL;have k:= @JH prog 42 _ Extern.ReflectliteType.typeOf func42 (by kernel_rfl) (by kernel_rfl) (by kernel_rfl) (by kernel_rfl);have l:= @JH prog 376 _ A1 func376 (by kernel_rfl) (by kernel_rfl) (by kernel_rfl) (by kernel_rfl);have m:=oO;have n:=mC;have o:=iB;have p:=FZ;have q:=pM;have r:=oP;have s:=Ix;have t:=A2;have u:=wl;have v:=LP (P:=prog) w b underlying23 underlying496 c d f;have x:=run_eql_iface_types (P:=prog) 471 496 (.pointer (some ⟨a,0,none⟩)) (.pointer (some b)) underlying23 (by decide) w;go_enter func18,ntmps18;go_wp2;refine Lv 2 ?_;rw[Lq];go_wp2;rw[Lq];go_wp2;go_ret;exact⟨rfl,rfl⟩
end
end Go.Proofs.YtfkeddkfegaeiaaGreatDoor
namespace Go.Proofs
open Go.Shelf
def Tryz.lays137_ren:Go.Shelf.Ren:=⟨fun|137=>215|217=>271|266=>308|a=>a,fun|9=>9|5=>5|3=>3|a=>a,fun|a=>a⟩
theorem Tryz.lays137:Go.Proofs.Lays.n137 Tryz.prog Tryz.lays137_ren:= {
 mixed:=by kernel_rfl
 f137:=Tryz.func215.trans (congrArg some (by kernel_rfl))
 f217:=Tryz.func271.trans (congrArg some (by kernel_rfl))
 f266:=Tryz.func308.trans (congrArg some (by kernel_rfl))
 t3:=Tryz.underlying3
 a3:=Tryz.isAgg3
 z3:=Tryz.sizeOf3
 v3:=Tryz.zeroValue3
 t5:=Tryz.underlying5
 a5:=Tryz.isAgg5
 z5:=Tryz.sizeOf5
 v5:=Tryz.zeroValue5
 t9:=Tryz.underlying9
 a9:=Tryz.isAgg9
 z9:=Tryz.sizeOf9
 v9:=Tryz.zeroValue9}
open Go.RowKit in
theorem Tryz.strings_IndexByte(s:ByteArray)(c:Int)(w:World):
  Calls Tryz.prog 215 #[.string s,.int .u8 c] w fun e w'=>e=.returned (.int .i64 (Lib.indexByte s.data.toList c.toNat.toUInt8))/\w'=w:=Any.strings_IndexByte Tryz.lays137 s c w
def Tryz.lays172_ren:Go.Shelf.Ren:=⟨fun|172=>214|244=>269|245=>270|247=>303|279=>304|280=>305|281=>306|282=>307|287=>325|316=>121|171=>327|205=>326|321=>334|322=>335|243=>336|246=>338|283=>341|284=>342|285=>343|286=>344|129=>265|317=>346|318=>347|319=>348|320=>349|337=>351|338=>352|n=>n,fun|9=>9|3=>3|75=>23|76=>325|4=>4|5=>5|167=>468|37=>89|0=>0|85=>469|2=>2|168=>471|53=>276|175=>484|46=>334|210=>487|127=>183|145=>498|143=>496|21=>21|171=>503|173=>505|212=>509|51=>131|20=>20|213=>510|232=>511|233=>512|80=>95|n=>n,fun|15=>12|16=>11|17=>14|18=>15|19=>16|n=>n⟩
def Tryz.laysM316_ren:Go.Shelf.Ren:=⟨fun|316=>121|a=>a,fun|9=>9|3=>3|4=>4|37=>89|0=>0|127=>183|5=>5|a=>a,fun|a=>a⟩
theorem Tryz.laysM316:Go.Proofs.LaysM.n316 Tryz.prog Tryz.laysM316_ren:= {
 mixed:=by kernel_rfl
 f316:=Tryz.func121.trans (congrArg some (by kernel_rfl))
 t0:=Tryz.underlying0
 a0:=Tryz.isAgg0
 z0:=Tryz.sizeOf0
 v0:=Tryz.zeroValue0
 t3:=Tryz.underlying3
 a3:=Tryz.isAgg3
 z3:=Tryz.sizeOf3
 v3:=Tryz.zeroValue3
 t4:=Tryz.underlying4
 a4:=Tryz.isAgg4
 z4:=Tryz.sizeOf4
 v4:=Tryz.zeroValue4
 t9:=Tryz.underlying9
 a9:=Tryz.isAgg9
 z9:=Tryz.sizeOf9
 v9:=Tryz.zeroValue9
 t37:=Tryz.underlying89
 a37:=Tryz.isAgg89
 z37:=Tryz.sizeOf89
 v37:=Tryz.zeroValue89
 t127:=Tryz.underlying183
 a127:=Tryz.isAgg183
 z127:=Tryz.sizeOf183
 v127:=Tryz.zeroValue183
 t5:=Tryz.underlying5
 a5:=Tryz.isAgg5
 z5:=Tryz.sizeOf5
 v5:=Tryz.zeroValue5
 i0:=by kernel_rfl
 i3:=by kernel_rfl
 i4:=by kernel_rfl
 i5:=by kernel_rfl
 i9:=by kernel_rfl
 i37:=by kernel_rfl
 i127:=by kernel_rfl}
open Go.RowKit in
theorem Tryz.stringslite_Clone(s:ByteArray)(w:World)(a:s.size<=281474976710656):
  Calls Tryz.prog 121 #[.string s] w fun e w'=>e=.returned (.string s)/\Below w.heap.size w w':=Any.stringslite_Clone Tryz.laysM316 s w a
def Tryz.laysC172_ren:Go.Shelf.Ren:=⟨fun|172=>214|244=>269|245=>270|247=>303|279=>304|280=>305|281=>306|282=>307|287=>325|316=>121|171=>327|205=>326|321=>334|322=>335|243=>336|246=>338|283=>341|284=>342|285=>343|286=>344|129=>265|317=>346|318=>347|319=>348|320=>349|337=>351|338=>352|n=>n,fun|9=>9|3=>3|75=>23|76=>325|4=>4|5=>5|167=>468|37=>89|0=>0|85=>469|2=>2|168=>471|53=>276|175=>484|46=>334|210=>487|127=>183|145=>498|143=>496|21=>21|171=>503|173=>505|212=>509|51=>131|20=>20|213=>510|232=>511|233=>512|80=>95|n=>n,fun|15=>12|16=>11|17=>14|18=>15|19=>16|n=>n⟩
theorem Tryz.laysC172:Go.Proofs.LaysC.n172 Tryz.prog Tryz.laysC172_ren:= {
 mixed:=by kernel_rfl
 f129:=Tryz.func265.trans (congrArg some (by kernel_rfl))
 f171:=Tryz.func327.trans (congrArg some (by kernel_rfl))
 f172:=Tryz.func214.trans (congrArg some (by kernel_rfl))
 f205:=Tryz.func326.trans (congrArg some (by kernel_rfl))
 f243:=Tryz.func336.trans (congrArg some (by kernel_rfl))
 f244:=Tryz.func269.trans (congrArg some (by kernel_rfl))
 f245:=Tryz.func270.trans (congrArg some (by kernel_rfl))
 f246:=Tryz.func338.trans (congrArg some (by kernel_rfl))
 f247:=Tryz.func303.trans (congrArg some (by kernel_rfl))
 f279:=Tryz.func304.trans (congrArg some (by kernel_rfl))
 f280:=Tryz.func305.trans (congrArg some (by kernel_rfl))
 f281:=Tryz.func306.trans (congrArg some (by kernel_rfl))
 f282:=Tryz.func307.trans (congrArg some (by kernel_rfl))
 f283:=Tryz.func341.trans (congrArg some (by kernel_rfl))
 f284:=Tryz.func342.trans (congrArg some (by kernel_rfl))
 f285:=Tryz.func343.trans (congrArg some (by kernel_rfl))
 f286:=Tryz.func344.trans (congrArg some (by kernel_rfl))
 f287:=Tryz.func325.trans (congrArg some (by kernel_rfl))
 f316:=Tryz.func121.trans (congrArg some (by kernel_rfl))
 f317:=Tryz.func346.trans (congrArg some (by kernel_rfl))
 f318:=Tryz.func347.trans (congrArg some (by kernel_rfl))
 f319:=Tryz.func348.trans (congrArg some (by kernel_rfl))
 f320:=Tryz.func349.trans (congrArg some (by kernel_rfl))
 f321:=Tryz.func334.trans (congrArg some (by kernel_rfl))
 f322:=Tryz.func335.trans (congrArg some (by kernel_rfl))
 f337:=Tryz.func351.trans (congrArg some (by kernel_rfl))
 f338:=Tryz.func352.trans (congrArg some (by kernel_rfl))
 t0:=Tryz.underlying0
 a0:=Tryz.isAgg0
 z0:=Tryz.sizeOf0
 v0:=Tryz.zeroValue0
 t2:=Tryz.underlying2
 a2:=Tryz.isAgg2
 z2:=Tryz.sizeOf2
 v2:=Tryz.zeroValue2
 t3:=Tryz.underlying3
 a3:=Tryz.isAgg3
 z3:=Tryz.sizeOf3
 v3:=Tryz.zeroValue3
 t4:=Tryz.underlying4
 a4:=Tryz.isAgg4
 z4:=Tryz.sizeOf4
 v4:=Tryz.zeroValue4
 t5:=Tryz.underlying5
 a5:=Tryz.isAgg5
 z5:=Tryz.sizeOf5
 v5:=Tryz.zeroValue5
 t9:=Tryz.underlying9
 a9:=Tryz.isAgg9
 z9:=Tryz.sizeOf9
 v9:=Tryz.zeroValue9
 t20:=Tryz.underlying20
 a20:=Tryz.isAgg20
 z20:=Tryz.sizeOf20
 v20:=Tryz.zeroValue20
 t21:=Tryz.underlying21
 a21:=Tryz.isAgg21
 z21:=Tryz.sizeOf21
 v21:=Tryz.zeroValue21
 t37:=Tryz.underlying89
 a37:=Tryz.isAgg89
 z37:=Tryz.sizeOf89
 v37:=Tryz.zeroValue89
 t46:=Tryz.underlying334
 a46:=Tryz.isAgg334
 z46:=Tryz.sizeOf334
 v46:=Tryz.zeroValue334
 t51:=Tryz.underlying131
 a51:=Tryz.isAgg131
 z51:=Tryz.sizeOf131
 v51:=Tryz.zeroValue131
 t53:=Tryz.underlying276
 a53:=Tryz.isAgg276
 z53:=Tryz.sizeOf276
 v53:=Tryz.zeroValue276
 t75:=Tryz.underlying23
 a75:=Tryz.isAgg23
 z75:=Tryz.sizeOf23
 v75:=Tryz.zeroValue23
 t76:=Tryz.underlying325
 a76:=Tryz.isAgg325
 z76:=Tryz.sizeOf325
 v76:=Tryz.zeroValue325
 t85:=Tryz.underlying469
 a85:=Tryz.isAgg469
 z85:=Tryz.sizeOf469
 v85:=Tryz.zeroValue469
 t127:=Tryz.underlying183
 a127:=Tryz.isAgg183
 z127:=Tryz.sizeOf183
 v127:=Tryz.zeroValue183
 t143:=Tryz.underlying496
 a143:=Tryz.isAgg496
 z143:=Tryz.sizeOf496
 v143:=Tryz.zeroValue496
 t145:=Tryz.underlying498
 a145:=Tryz.isAgg498
 z145:=Tryz.sizeOf498
 v145:=Tryz.zeroValue498
 t167:=Tryz.underlying468
 a167:=Tryz.isAgg468
 z167:=Tryz.sizeOf468
 v167:=Tryz.zeroValue468
 t168:=Tryz.underlying471
 a168:=Tryz.isAgg471
 z168:=Tryz.sizeOf471
 v168:=Tryz.zeroValue471
 t171:=Tryz.underlying503
 a171:=Tryz.isAgg503
 z171:=Tryz.sizeOf503
 v171:=Tryz.zeroValue503
 t173:=Tryz.underlying505
 a173:=Tryz.isAgg505
 z173:=Tryz.sizeOf505
 v173:=Tryz.zeroValue505
 t175:=Tryz.underlying484
 a175:=Tryz.isAgg484
 z175:=Tryz.sizeOf484
 v175:=Tryz.zeroValue484
 t210:=Tryz.underlying487
 a210:=Tryz.isAgg487
 z210:=Tryz.sizeOf487
 v210:=Tryz.zeroValue487
 t212:=Tryz.underlying509
 a212:=Tryz.isAgg509
 z212:=Tryz.sizeOf509
 v212:=Tryz.zeroValue509
 t213:=Tryz.underlying510
 a213:=Tryz.isAgg510
 z213:=Tryz.sizeOf510
 t232:=Tryz.underlying511
 a232:=Tryz.isAgg511
 z232:=Tryz.sizeOf511
 v232:=Tryz.zeroValue511
 t233:=Tryz.underlying512
 a233:=Tryz.isAgg512
 z233:=Tryz.sizeOf512
 v233:=Tryz.zeroValue512
 g15:=by kernel_rfl
 g16:=by kernel_rfl
 g17:=by kernel_rfl
 g18:=by kernel_rfl
 g19:=by kernel_rfl
 t80:=Tryz.underlying95
 a80:=Tryz.isAgg95
 z80:=Tryz.sizeOf95
 v80:=Tryz.zeroValue95
 i0:=by kernel_rfl
 i2:=by kernel_rfl
 i3:=by kernel_rfl
 i4:=by kernel_rfl
 i5:=by kernel_rfl
 i9:=by kernel_rfl
 i20:=by kernel_rfl
 i21:=by kernel_rfl
 i37:=by kernel_rfl
 i46:=by kernel_rfl
 i51:=by kernel_rfl
 i53:=by kernel_rfl
 i75:=by kernel_rfl
 i76:=by kernel_rfl
 i80:=by kernel_rfl
 i85:=by kernel_rfl
 i127:=by kernel_rfl
 i143:=by kernel_rfl
 i145:=by kernel_rfl
 i167:=by kernel_rfl
 i168:=by kernel_rfl
 i171:=by kernel_rfl
 i173:=by kernel_rfl
 i175:=by kernel_rfl
 i210:=by kernel_rfl
 i212:=by kernel_rfl
 i232:=by kernel_rfl
 i233:=by kernel_rfl
 m15:=by kernel_rfl
 m16:=by kernel_rfl
 m17:=by kernel_rfl
 m18:=by kernel_rfl
 m19:=by kernel_rfl
 c0:=by kernel_rfl
 c2:=by kernel_rfl
 c3:=by kernel_rfl
 c4:=by kernel_rfl
 c5:=by kernel_rfl
 c9:=by kernel_rfl
 c20:=by kernel_rfl
 c21:=by kernel_rfl
 c37:=by kernel_rfl
 c46:=by kernel_rfl
 c51:=by kernel_rfl
 c53:=by kernel_rfl
 c75:=by kernel_rfl
 c76:=by kernel_rfl
 c80:=by kernel_rfl
 c85:=by kernel_rfl
 c127:=by kernel_rfl
 c143:=by kernel_rfl
 c145:=by kernel_rfl
 c167:=by kernel_rfl
 c168:=by kernel_rfl
 c171:=by kernel_rfl
 c173:=by kernel_rfl
 c175:=by kernel_rfl
 c210:=by kernel_rfl
 c212:=by kernel_rfl
 c213:=by kernel_rfl
 c232:=by kernel_rfl
 c233:=by kernel_rfl}
open Go.RowKit in
theorem Tryz.strconv_Atoi_ok(s:ByteArray)(a:s.size<=9223372036854775806)(v:Int)(b:Lib.atoiAll s.data.toList=.ok v)(w:World):
  Calls Tryz.prog 214 #[.string s] w fun e w'=>e=.returned (.tuple #[.int .i64 v,.nilIface])/\(w'=w∨ ∃t,w'=Lib.bytesWorld w 5 t):=Any.strconv_Atoi_ok Tryz.laysC172 s a v b w
open Go.RowKit in
theorem Tryz.strconv_Atoi_range(s:ByteArray)(c:s.size<=281474976710656)(d:Lib.atoiAll s.data.toList=.range)(a:Value)(w:World)(f:w.cell? ⟨11,0,none⟩=some a)(g:a=.nilIface∨ ∃h i,a=.iface h i):
  Calls Tryz.prog 214 #[.string s] w fun e w'=> ∃b,e=.returned (.tuple #[.int .i64 (Lib.atoiSat s.data.toList),.iface 471 (.pointer (some ⟨b,0,none⟩))])/\w.heap.size<=b/\w'.heap[b]? =some (.cells #[.string ⟨#[65,116,111,105]⟩,.string s,a] 487 (0,0))/\Below w.heap.size w w':=Any.strconv_Atoi_range Tryz.laysC172 s c d a w f g
def Tryz.lays110_ren:Go.Shelf.Ren:=⟨fun|110=>212|109=>268|a=>a,fun|31=>39|9=>9|4=>4|3=>3|0=>0|a=>a,fun|a=>a⟩
theorem Tryz.lays110:Go.Proofs.Lays.n110 Tryz.prog Tryz.lays110_ren:= {
 mixed:=by kernel_rfl
 f109:=Tryz.func268.trans (congrArg some (by kernel_rfl))
 f110:=Tryz.func212.trans (congrArg some (by kernel_rfl))
 t0:=Tryz.underlying0
 a0:=Tryz.isAgg0
 z0:=Tryz.sizeOf0
 v0:=Tryz.zeroValue0
 t3:=Tryz.underlying3
 a3:=Tryz.isAgg3
 z3:=Tryz.sizeOf3
 v3:=Tryz.zeroValue3
 t4:=Tryz.underlying4
 a4:=Tryz.isAgg4
 z4:=Tryz.sizeOf4
 v4:=Tryz.zeroValue4
 t9:=Tryz.underlying9
 a9:=Tryz.isAgg9
 z9:=Tryz.sizeOf9
 v9:=Tryz.zeroValue9
 t31:=Tryz.underlying39
 a31:=Tryz.isAgg39
 z31:=Tryz.sizeOf39
 v31:=Tryz.zeroValue39}
open Go.Lib in
theorem Tryz.slices_Contains_string(b off n c:Nat)(a:List ByteArray)(x:ByteArray)(w:World)(d:n<=a.length)(f:n<=9223372036854775807)(g: ∀j,j<a.length->w.cell? ⟨b,off+j,none⟩=some (.string (a.getD j ByteArray.empty))):
  Calls Tryz.prog 212 #[.slice (some ⟨b,off,none⟩) n c,.string x] w fun e w'=>e=.returned (.bool (Lib.containsS (a.take n) x))/\w'=w:=Any.slices_Contains_string Tryz.lays110 b off n c a x w d f g
def Tryz.laysNm215_ren:Go.Shelf.Ren:=⟨fun|15=>92|a=>a,fun|22=>32|3=>3|4=>4|a=>a,fun|a=>a⟩
theorem Tryz.laysNm215:Go.Proofs.Lays2.n15 Tryz.prog Tryz.laysNm215_ren:= {
 mixed:=by kernel_rfl
 f15:=Tryz.func92.trans (congrArg some (by kernel_rfl))
 t3:=Tryz.underlying3
 a3:=Tryz.isAgg3
 z3:=Tryz.sizeOf3
 v3:=Tryz.zeroValue3
 t4:=Tryz.underlying4
 a4:=Tryz.isAgg4
 z4:=Tryz.sizeOf4
 v4:=Tryz.zeroValue4
 t22:=Tryz.underlying32
 a22:=Tryz.isAgg32
 z22:=Tryz.sizeOf32
 v22:=Tryz.zeroValue32
 i3:=by kernel_rfl}
open Go.RowKit Go.Lib in
theorem Tryz.slices_Clone_int(b off n c:Nat)(a:List Int)(w:World)(d:n<=a.length)(f:n*8<=140737488355328)(g: ∀j,j<a.length->w.cell? ⟨b,off+j,none⟩=some (.int .i64 (a.getD j 0))):
  Calls Tryz.prog 92 #[.slice (some ⟨b,off,none⟩) n c] w fun e w'=> ∃v',e=.returned v'/\w'.ownsRow w.heap.size 3 1 v' n ((a.take n).map (Value.int .i64))/\v'≠ .slice none 0 0/\Below w.heap.size w w':=Any.slices_Clone_int Tryz.laysNm215 b off n c a w d f g
open Go.RowKit Go.Lib in
theorem Tryz.slices_Clone_int_nil(n c:Nat)(w:World):
  Calls Tryz.prog 92 #[.slice none n c] w fun e w'=>e=.returned (.slice none 0 0)/\w'=w:=Any.slices_Clone_int_nil Tryz.laysNm215 n c w
open Go.RowKit Go.Lib in
theorem Tryz.slices_Clone_int_zero(a:Addr)(c:Nat)(w:World):
  Calls Tryz.prog 92 #[.slice (some a) 0 c] w fun e w'=> ∃v',e=.returned v'/\w'.ownsRow w.heap.size 3 1 v' 0 []/\v'≠ .slice none 0 0/\Below w.heap.size w w':=Any.slices_Clone_int_zero Tryz.laysNm215 a c w
end Go.Proofs
namespace Go.Proofs.YtfkeddkfegaeiaaGreatDoor
section
open Go.RowKit Tryz
def cM(w:World)(b:Nat)(p:Int)(a:Value):Prop:=w.heap[b]? =some (.cells #[.int .i64 p,a] 113 (0,0))
theorem lG(p:Int)(u:TypeId)(x:Value)(w:World):
  Calls prog 99 #[.agg #[.int .i64 p],.iface u x] w fun e w'=>e=.returned (.iface 110 (.pointer (some ⟨w.heap.size+1,0,none⟩)))/\w'=(w.alloc (.cells #[.int .i64 p] 170)).alloc (.cells #[.int .i64 p,.iface u x] 113):=by
 go_enter func99,ntmps99;go_wp2;go_ret;exact⟨rfl,rfl⟩
theorem mD(p:Int)(u:TypeId)(x:Value)(w:World):
  Calls prog 99 #[.agg #[.int .i64 p],.iface u x] w fun e w'=> ∃b,e=.returned (.iface 110 (.pointer (some ⟨b,0,none⟩)))/\w.heap.size<=b/\b<w'.heap.size/\cM w' b p (.iface u x)/\Below w.heap.size w w':=by
 refine(lG p u x w).mono ?_;rintro e w' ⟨rfl,rfl⟩;refine⟨w.heap.size+1,rfl,by omega,by simp,?_,?_⟩
 ·show(((w.heap.push _).push _)[w.heap.size+1]?)=_
  rw[MB,Jo (by simp)]
 ·exact((Jj _ _).alloc (Ji _) _).alloc (by simp) _
theorem wE(s:ByteArray):(s.extract 0 2).toList=s.data.toList.take 2:=by rw[JA,Lib.extract_data];simp
theorem iT(s:ByteArray)(a:0<s.size):s.data.toList.headD 0=s[0]:=by
 obtain⟨⟨b⟩⟩:=s
 match b,a with
 |c::d,_=>rfl
theorem uR(s:ByteArray):s.extract 0 0=⟨#[]⟩:=by apply J5;simp
theorem rK(l:List UInt8)(a:fY l=true):bK l=2:=by simp[bK,a]
theorem wQ(s:ByteArray)(a:0<s.size)(b:fY s.data.toList=false)(c:Lib.indexByte [40,41,44,46,43,45,42,61,60,62] s[0]<0):bK s.data.toList=0:=by unfold bK;rw[iT s a,Jn (by simp[b]),Jo (by exact c)]
theorem wR(s:ByteArray)(a:0<s.size)(b:fY s.data.toList=false)(c:0<=Lib.indexByte [40,41,44,46,43,45,42,61,60,62] s[0]):bK s.data.toList=1:=by unfold bK;rw[iT s a,Jn (by simp[b]),Jn (by show¬(Lib.indexByte [40,41,44,46,43,45,42,61,60,62] s[0]<0);omega)]
theorem nV(s:ByteArray)(a: ¬2<=s.size):fY s.data.toList=false:=by
 have b:s.data.toList.length<2:=by rw[JP];exact Nat.lt_of_not_le a
 unfold fY
 match s.data.toList,b with
 | [],_=>rfl
 | [c],_=>simp
theorem nA(s:ByteArray)(w:World)(c:0<s.size)(k:s.size<=maxLen):
  Calls prog 146 #[.string s] w fun e w'=>e=.returned (.string (s.extract 0 (bK s.data.toList)))/\w'=w:=by
 unfold maxLen at k;by_cases l:2<=s.size
 ·cases a:fY s.data.toList with
  |true=>
   have b:Hid (bK s.data.toList=2):=rK _ a
   have m:((s.extract 0 2).toList== [60,62])=true∨((s.extract 0 2).toList== [60,62])=false/\((s.extract 0 2).toList== [60,61])=true∨((s.extract 0 2).toList== [60,62])=false/\((s.extract 0 2).toList== [60,61])=false/\((s.extract 0 2).toList== [62,61])=true:=by
    rw[wE];unfold fY at a;have n: ∀d f i:Bool,(d||f||i)=true->(d=true∨d=false/\f=true∨d=false/\f=false/\i=true):=by decide
    exact n _ _ _ a
   clear a;rcases m with g|⟨g,j⟩|⟨g,j,o⟩
   all_goals
    go_enter func146,ntmps146;go_wp2;go_ret;exact⟨by rw[b.out];rfl,rfl⟩
  |false=>
   have g:((s.extract 0 2).toList== [60,62])=false:=by rw[wE];unfold fY at a;simp only[LF]at a;exact a.1.1
   have j:((s.extract 0 2).toList== [60,61])=false:=by rw[wE];unfold fY at a;simp only[LF]at a;exact a.1.2
   have o:((s.extract 0 2).toList== [62,61])=false:=by rw[wE];unfold fY at a;simp only[LF]at a;exact a.2
   by_cases h:Lib.indexByte [40,41,44,46,43,45,42,61,60,62] s[0]<0
   ·have b:Hid (bK s.data.toList=0):=wQ s c a h;clear a;go_enter func146,ntmps146;go_wp2_with (go_at_call 215;refine(strings_IndexByte _ _ _).mono ?_;rintro e w' ⟨rfl,rfl⟩);go_ret;exact⟨by rw[b.out,uR];rfl,rfl⟩
   ·have b:Hid (bK s.data.toList=1):=wR s c a (by omega);clear a;go_enter func146,ntmps146;go_wp2_with (go_at_call 215;refine(strings_IndexByte _ _ _).mono ?_;rintro e w' ⟨rfl,rfl⟩);go_ret;exact⟨by rw[b.out];rfl,rfl⟩
 ·have a:=nV s l;by_cases h:Lib.indexByte [40,41,44,46,43,45,42,61,60,62] s[0]<0
  ·have b:Hid (bK s.data.toList=0):=wQ s c a h;clear a;go_enter func146,ntmps146;go_wp2_with (go_at_call 215;refine(strings_IndexByte _ _ _).mono ?_;rintro e w' ⟨rfl,rfl⟩);go_ret;exact⟨by rw[b.out,uR];rfl,rfl⟩
  ·have b:Hid (bK s.data.toList=1):=wR s c a (by omega);clear a;go_enter func146,ntmps146;go_wp2_with (go_at_call 215;refine(strings_IndexByte _ _ _).mono ?_;rintro e w' ⟨rfl,rfl⟩);go_ret;exact⟨by rw[b.out];rfl,rfl⟩
theorem wS(p:Int)(s:ByteArray)(w:World)(a:dU s.data.toList=true):
  Calls prog 143 #[.agg #[.int .i64 p,.int .i64 0,.string ⟨#[]⟩,.int .i64 0],.string s] w fun e w'=>e=.returned (.tuple #[.agg #[.int .i64 p,.int .i64 1,.string s,.int .i64 0],.nilIface])/\Below w.heap.size w w':=by
 go_enter func143,ntmps143;go_wp2_with (go_at_call 208;refine(mf _ _).mono ?_;rintro e w' ⟨rfl,rfl⟩);refine Jr (v:=.tuple #[.agg #[.int .i64 p,.int .i64 1,.string s,.int .i64 0],.nilIface]) (by simp[results,results143,go_sem]) rfl ⟨rfl,?_⟩;exact((Jj _ _).alloc (Ji _) _).alloc (by simp) _
theorem wT(p:Int)(s:ByteArray)(w:World)(a:dU s.data.toList=false)(b:s.size<=8):
  Calls prog 143 #[.agg #[.int .i64 p,.int .i64 0,.string ⟨#[]⟩,.int .i64 0],.string s] w fun e w'=>e=.returned (.tuple #[.agg #[.int .i64 p,.int .i64 2,.string s,.int .i64 0],.nilIface])/\Below w.heap.size w w':=by
 go_enter func143,ntmps143;go_wp2_with (go_at_call 208;refine(mf _ _).mono ?_;rintro e w' ⟨rfl,rfl⟩);refine Jr (v:=.tuple #[.agg #[.int .i64 p,.int .i64 2,.string s,.int .i64 0],.nilIface]) (by simp[results,results143,go_sem]) rfl ⟨rfl,?_⟩;exact((Jj _ _).alloc (Ji _) _).alloc (by simp) _
theorem wU(p:Int)(s:ByteArray)(a:Nat->Addr)(d:Nat)(w:World)(c:fD a d w)(f:dU s.data.toList=false)(g:8<s.size):
  Calls prog 143 #[.agg #[.int .i64 p,.int .i64 0,.string ⟨#[]⟩,.int .i64 0],.string s] w fun e w'=> ∃b,e=.returned (.tuple #[.agg #[.int .i64 0,.int .i64 0,.string ⟨#[]⟩,.int .i64 0],.iface 110 (.pointer (some ⟨b,0,none⟩))])/\w.heap.size<=b/\b<w'.heap.size/\cM w' b p (.iface 496 (.pointer (some (a 3))))/\Below w.heap.size w w':=by
 have h:=c.cell 3 (by decide);have i:3<w.heap.size:=by have:=c.low;have:=c.size;omega
 clear c;go_enter func143,ntmps143;go_wp2_with (first|(go_at_call 208;refine(mf _ _).mono ?_;rintro e w' ⟨rfl,rfl⟩)|(go_at_call 99;refine(lG _ _ _ _).mono ?_;rintro e w' ⟨rfl,rfl⟩));refine Jr (v:=.tuple #[.agg #[.int .i64 0,.int .i64 0,.string ⟨#[]⟩,.int .i64 0],.iface 110 (.pointer (some ⟨w.heap.size+1+1+1,0,none⟩))]) (by simp[results,results143,go_sem]) rfl ⟨w.heap.size+1+1+1,rfl,by omega,by simp,af (by simp),?_⟩;exact((((Jj _ _).alloc (Ji _) _).alloc (by simp) _).alloc (by simp;omega) _).alloc (by simp;omega) _
def js(l:List UInt8):Option Int:=match Lib.atoiAll l with
 |.ok v=>if 1000000000<v then none else some v
 |_=>none
theorem sr{w w':World}(a:w'=w∨ ∃t,w'=Lib.bytesWorld w 5 t):Below w.heap.size w w':=by
 rcases a with rfl|⟨t,rfl⟩
 ·exact Jj _ _
 ·exact Lib.bytesWorld_below _ _ _
theorem Co(p:Int)(s:ByteArray)(a:Nat->Addr)(j:Nat)(w:World)(f:fD a j w)(n:s.size<=1000)(v:Int)(g:Lib.atoiAll s.data.toList=.ok v)(o:v<=1000000000):
  Calls prog 145 #[.agg #[.int .i64 p,.int .i64 0,.string ⟨#[]⟩,.int .i64 0],.string s] w fun e w'=>e=.returned (.tuple #[.agg #[.int .i64 p,.int .i64 3,.string s,.int .i64 v],.nilIface])/\Below w.heap.size w w':=by
 have k:Hid (Lib.atoiAll s.data.toList=.ok v):=g;clear g;have c:=ab f;clear f;go_enter func145,ntmps145;go_wp2_with fail;refine(strconv_Atoi_ok s (by omega) v k.out _).mono ?_;rintro e d ⟨rfl,h⟩;have b:=sr h;clear h;have q:w.heap.size+1<d.heap.size:=by have:=b.size;simp at this;omega
 obtain⟨r,t⟩:=blk ((b.block w.heap.size (by simp;omega)).trans (ai (af rfl)));obtain⟨l,u⟩:=blk ((b.block (w.heap.size+1) (by simp)).trans (af (by simp)));have i:Hid (Below w.heap.size w d):=(((Jj _ _).alloc (Ji _) _).alloc (by simp) _).trans (b.mono (by simp;omega));have x:=(c.keep (i.mono c.size)).cell 11 (by decide);have y:11<d.heap.size:=by have:=c.low;have:=c.size;omega
 clear b;go_wp2_with fail;refine(Cn _ _).mono ?_;rintro e z ⟨rfl,m⟩;obtain rfl:=m.symm;go_wp2;refine Jr (v:=.tuple #[.agg #[.int .i64 p,.int .i64 3,.string s,.int .i64 v],.nilIface]) (by simp[results,results145,go_sem,l]) rfl ⟨rfl,?_⟩
 repeat(first|with_reducible exact i.out|refine J0 ?_ (by simp) _)
theorem wV(p:Int)(s:ByteArray)(a:Nat->Addr)(l:Nat)(w:World)(h:fD a l w)(t:s.size<=1000)(v:Int)(i:Lib.atoiAll s.data.toList=.ok v)(u:1000000000<v):
  Calls prog 145 #[.agg #[.int .i64 p,.int .i64 0,.string ⟨#[]⟩,.int .i64 0],.string s] w fun e w'=> ∃b,e=.returned (.tuple #[.agg #[.int .i64 0,.int .i64 0,.string ⟨#[]⟩,.int .i64 0],.iface 110 (.pointer (some ⟨b,0,none⟩))])/\w.heap.size<=b/\b<w'.heap.size/\cM w' b p (.iface 496 (.pointer (some (a 2))))/\Below w.heap.size w w':=by
 have m:=ab i;clear i;have c:=ab h;clear h;go_enter func145,ntmps145;go_wp2_with fail;refine(strconv_Atoi_ok s (by omega) v m _).mono ?_;rintro e d ⟨rfl,j⟩;have f:=sr j;clear j;have n:w.heap.size+1<d.heap.size:=by have:=f.size;simp at this;omega
 obtain⟨x,y⟩:=blk ((f.block w.heap.size (by simp;omega)).trans (ai (af rfl)));obtain⟨o,z⟩:=blk ((f.block (w.heap.size+1) (by simp)).trans (af (by simp)));have g:Below w.heap.size w d:=(((Jj _ _).alloc (Ji _) _).alloc (by simp) _).trans (f.mono (by simp;omega));have A:=(c.keep (g.mono c.size)).cell 2 (by decide);have B:2<d.heap.size:=by have:=c.low;have:=c.size;omega
 have k:=ab g;have q:w.heap.size<d.heap.size:=by omega
 have C:w.heap.size<=d.heap.size:=by omega
 clear f g;have D:=(c.keep (k.mono c.size)).cell 11 (by decide);have E:11<d.heap.size:=by have:=c.low;have:=c.size;omega
 go_wp2_with fail;refine(Cn _ _).mono ?_;rintro e F ⟨rfl,r⟩;obtain rfl:=r.symm;go_wp2_with (go_at_call 99;refine(lG _ _ _ _).mono ?_;rintro e w' ⟨rfl,rfl⟩);refine Jr (v:=.tuple #[.agg #[.int .i64 0,.int .i64 0,.string ⟨#[]⟩,.int .i64 0],.iface 110 (.pointer (some ⟨d.heap.size+1,0,none⟩))]) (by simp[results,results145,go_sem,o,n,q]) rfl ⟨d.heap.size+1,rfl,by omega,by simp,af (by simp),?_⟩
 repeat(first|with_reducible exact k.out|refine J0 ?_ (by simp) _|refine JY ?_ (by simp;omega) _)
theorem wW(p:Int)(s:ByteArray)(a:Nat->Addr)(m:Nat)(w:World)(h:fD a m w)(z:s.size<=1000)(i:Lib.atoiAll s.data.toList=.range):
  Calls prog 145 #[.agg #[.int .i64 p,.int .i64 0,.string ⟨#[]⟩,.int .i64 0],.string s] w fun e w'=> ∃b,e=.returned (.tuple #[.agg #[.int .i64 0,.int .i64 0,.string ⟨#[]⟩,.int .i64 0],.iface 110 (.pointer (some ⟨b,0,none⟩))])/\w.heap.size<=b/\b<w'.heap.size/\cM w' b p (.iface 496 (.pointer (some (a 2))))/\Below w.heap.size w w':=by
 have n:=ab i;clear i;have c:=ab h;clear h;go_enter func145,ntmps145;go_wp2_with fail;refine(strconv_Atoi_range s (by omega) n (.iface 496 (.pointer (some (a 11)))) _ ((c.alloc _).alloc _|>.cell 11 (by decide)) (Or.inr ⟨_,_,rfl⟩)).mono ?_;rintro e d ⟨o,rfl,q,j,f⟩;have k:d.cell? ⟨o,2,none⟩=some (.iface 496 (.pointer (some (a 11)))):=(blk j).1 2;clear q j;have r:w.heap.size+1<d.heap.size:=by have:=f.size;simp at this;omega
 obtain⟨A,B⟩:=blk ((f.block w.heap.size (by simp;omega)).trans (ai (af rfl)));obtain⟨t,C⟩:=blk ((f.block (w.heap.size+1) (by simp)).trans (af (by simp)));have g:Below w.heap.size w d:=(((Jj _ _).alloc (Ji _) _).alloc (by simp) _).trans (f.mono (by simp;omega));have D:=(c.keep (g.mono c.size)).cell 2 (by decide);have E:2<d.heap.size:=by have:=c.low;have:=c.size;omega
 have l:=ab g;have u:w.heap.size<d.heap.size:=by omega
 have F:w.heap.size<=d.heap.size:=by omega
 clear f g;have G:=(c.keep (l.mono c.size)).cell 11 (by decide);have H:11<d.heap.size:=by have:=c.low;have:=c.size;omega
 have x:=ab k;clear k;go_wp2_with fail;refine(Hj _ _ _ x).mono ?_;rintro e I ⟨rfl,y⟩;obtain rfl:=y.symm;go_wp2_with (go_at_call 99;refine(lG _ _ _ _).mono ?_;rintro e w' ⟨rfl,rfl⟩);refine Jr (v:=.tuple #[.agg #[.int .i64 0,.int .i64 0,.string ⟨#[]⟩,.int .i64 0],.iface 110 (.pointer (some ⟨d.heap.size+1,0,none⟩))]) (by simp[results,results145,go_sem,t,r,u]) rfl ⟨d.heap.size+1,rfl,by omega,by simp,af (by simp),?_⟩
 repeat(first|with_reducible exact l.out|refine J0 ?_ (by simp) _|refine JY ?_ (by simp;omega) _)
theorem A3(p:Int)(s:ByteArray)(a:Nat->Addr)(d:Nat)(w:World)(g:fD a d w)(h:s.size<=1000)(k:Lib.atoiAll s.data.toList≠ .«syntax»)(f:js s.data.toList=none):
  Calls prog 145 #[.agg #[.int .i64 p,.int .i64 0,.string ⟨#[]⟩,.int .i64 0],.string s] w fun e w'=> ∃b,e=.returned (.tuple #[.agg #[.int .i64 0,.int .i64 0,.string ⟨#[]⟩,.int .i64 0],.iface 110 (.pointer (some ⟨b,0,none⟩))])/\w.heap.size<=b/\b<w'.heap.size/\cM w' b p (.iface 496 (.pointer (some (a 2))))/\Below w.heap.size w w':=by
 unfold js at f
 cases c:Lib.atoiAll s.data.toList with
 |ok i=>
  rw[c]at f;by_cases j:1000000000<i
  ·exact wV p s a d w g h i c j
  ·simp[j]at f
 |range=>exact wW p s a d w g h c
 |«syntax»=>exact(k c).elim
theorem A4(p:Int)(s:ByteArray)(a:Nat->Addr)(d:Nat)(w:World)(h:fD a d w)(i:s.size<=1000)(v:Int)(b:js s.data.toList=some v):
  Calls prog 145 #[.agg #[.int .i64 p,.int .i64 0,.string ⟨#[]⟩,.int .i64 0],.string s] w fun e w'=>e=.returned (.tuple #[.agg #[.int .i64 p,.int .i64 3,.string s,.int .i64 v],.nilIface])/\Below w.heap.size w w':=by
 unfold js at b
 cases c:Lib.atoiAll s.data.toList with
 |ok f=>
  rw[c]at b;by_cases g:1000000000<f
  ·simp[g]at b
  ·simp[g]at b;subst b;exact Co p s a d w h i f c (by omega)
 |range=>rw[c]at b;simp at b
 |«syntax»=>rw[c]at b;simp at b
abbrev fS:Nat:=0
abbrev jZ:Nat:=1
abbrev fU:Nat:=2
abbrev bE:Nat:=3
abbrev cB:Nat:=4
abbrev bI(a:Nat->Addr)(e:Nat):Value:=.iface 496 (.pointer (some (a e)))
abbrev Iy(t:Tk):Value:=.agg #[.int .i64 t.place,.int .i64 t.kind,.string t.text,.int .i64 t.value]
abbrev wX:Value:=.agg #[.int .i64 0,.int .i64 0,.string ⟨#[]⟩,.int .i64 0]
def cy(s:ByteArray)(i:Nat):Except (Nat×Nat) Tk:=
 let c:=s.extract i s.size
 let b:=c.data.toList
 if aq (b.headD 0).toNat then
  let a:=c.extract 0 (aY aq b)
  if dU a.data.toList then .ok ⟨i,1,a,0⟩else if 8<a.size then .error (i,bE)else .ok ⟨i,2,a,0⟩
 else if aG (b.headD 0).toNat then
  let a:=c.extract 0 (aY aG b)
  match js a.data.toList with
  |some d=>.ok ⟨i,3,a,d⟩
  |none=>.error (i,fU)
 else if bK b=0 then .error (i,jZ)else .ok ⟨i,1,c.extract 0 (bK b),0⟩
theorem dA(s:ByteArray)(i:Nat):(s.extract i s.size).size=s.size-i:=by simp[ByteArray.size_extract]
theorem cM.set{w:World}{b:Nat}{p:Int}{a:Value}(c:cM w b p a){d:Addr}{u:Value}(e:d.block≠b):cM (w.setCell d u) b p a:=by unfold cM at c⊢;rw[Jp _ _ _ _ (by omega)];exact c
theorem cM.alloc{w:World}{b:Nat}{p:Int}{a:Value}(c:cM w b p a)(o:Obj):cM (w.alloc o) b p a:=ai c
theorem wY(s t:ByteArray)(i:Nat)(w:World)(p:i<s.size)(q:s.size<=1000)(k:Hid (t=(s.extract i s.size).extract 0 (aY aq (s.extract i s.size).data.toList)))(c:Hid (aq (((s.extract i s.size).data.toList.headD 0).toNat:Int)=true))(l:Hid (dU t.data.toList=true)):
  Calls prog 95 #[.string s,.int .i64 i] w fun e w'=>e=.returned (.tuple #[.agg #[.int .i64 i,.int .i64 1,.string t,.int .i64 0],.nilIface])/\Below w.heap.size w w':=by
 have f:(s.extract i s.size).size=s.size-i:=dA s i;have g:=ab f;clear f;go_enter func95,ntmps95;go_wp2_with fail;have a:0<(s.extract i s.size).size:=by rw[U g];omega
 have h:=iT _ a;generalize(s.extract i s.size)[0]'a=r at*;rw[h]at c;have u:=U c;clear c h;have j:(s.extract i s.size).size<=maxLen:=by rw[U g];unfold maxLen;omega
 have m:=ab j;clear j;have x:=ab a;clear a;generalize s.extract i s.size=y at*;refine(ew _ _).mono ?_;rintro e w' ⟨rfl,rfl⟩;go_wp2_with fail
 go_region_with (first|(go_at_call 93;refine(iS _ _ m).mono ?_;rintro e w' ⟨rfl,rfl⟩;rw[<-U k])|(go_at_call 143;refine(wS _ _ _ l).mono ?_;rintro e d ⟨rfl,b⟩;have z:w.heap.size+1<d.heap.size:=(by have:=b.size;simp at this;omega);have A:w.heap.size<d.heap.size:=(by omega);have B:w.heap.size<=d.heap.size:=(by omega);obtain⟨n,f0⟩:=blk ((b.block w.heap.size (by simp;omega)).trans (ai (af rfl)));have o:=ab ((((Jj w.heap.size w).alloc (Ji _) _).alloc (by simp) _).drew.trans (b.mono (by simp;omega)));clear b))
 all_goals
  go_wp2;refine Jr (v:=.tuple #[.agg #[.int .i64 i,.int .i64 1,.string t,.int .i64 0],.nilIface]) (by simp[results,results95,go_sem,n]) rfl ⟨rfl,?_⟩
  repeat(first|with_reducible exact U o|refine J0 ?_ (by simp) _)
theorem wZ(s t:ByteArray)(i:Nat)(w:World)(q:i<s.size)(r:s.size<=1000)(k:Hid (t=(s.extract i s.size).extract 0 (aY aq (s.extract i s.size).data.toList)))(c:Hid (aq (((s.extract i s.size).data.toList.headD 0).toNat:Int)=true))(l:Hid (dU t.data.toList=false))(m:Hid (t.size<=8)):
  Calls prog 95 #[.string s,.int .i64 i] w fun e w'=>e=.returned (.tuple #[.agg #[.int .i64 i,.int .i64 2,.string t,.int .i64 0],.nilIface])/\Below w.heap.size w w':=by
 have f:(s.extract i s.size).size=s.size-i:=dA s i;have g:=ab f;clear f;go_enter func95,ntmps95;go_wp2_with fail;have a:0<(s.extract i s.size).size:=by rw[U g];omega
 have h:=iT _ a;generalize(s.extract i s.size)[0]'a=u at*;rw[h]at c;have x:=U c;clear c h;have j:(s.extract i s.size).size<=maxLen:=by rw[U g];unfold maxLen;omega
 have n:=ab j;clear j;have y:=ab a;clear a;generalize s.extract i s.size=z at*;refine(ew _ _).mono ?_;rintro e w' ⟨rfl,rfl⟩;go_wp2_with fail
 go_region_with (first|(go_at_call 93;refine(iS _ _ n).mono ?_;rintro e w' ⟨rfl,rfl⟩;rw[<-U k])|(go_at_call 143;refine(wT _ _ _ l m).mono ?_;rintro e d ⟨rfl,b⟩;have A:w.heap.size+1<d.heap.size:=(by have:=b.size;simp at this;omega);have B:w.heap.size<d.heap.size:=(by omega);have C:w.heap.size<=d.heap.size:=(by omega);obtain⟨o,f0⟩:=blk ((b.block w.heap.size (by simp;omega)).trans (ai (af rfl)));have p:=ab ((((Jj w.heap.size w).alloc (Ji _) _).alloc (by simp) _).drew.trans (b.mono (by simp;omega)));clear b))
 all_goals
  go_wp2;refine Jr (v:=.tuple #[.agg #[.int .i64 i,.int .i64 2,.string t,.int .i64 0],.nilIface]) (by simp[results,results95,go_sem,o]) rfl ⟨rfl,?_⟩
  repeat(first|with_reducible exact U p|refine J0 ?_ (by simp) _)
theorem xa(s t:ByteArray)(i:Nat)(a:Nat->Addr)(h:Nat)(w:World)(p:Hid (fD a h w))(C:i<s.size)(D:s.size<=1000)(q:Hid (t=(s.extract i s.size).extract 0 (aY aq (s.extract i s.size).data.toList)))(f:Hid (aq (((s.extract i s.size).data.toList.headD 0).toNat:Int)=true))(r:Hid (dU t.data.toList=false))(u:Hid (8<t.size)):
  Calls prog 95 #[.string s,.int .i64 i] w fun e w'=> ∃b,e=.returned (.tuple #[wX,.iface 110 (.pointer (some ⟨b,0,none⟩))])/\w.heap.size<=b/\b<w'.heap.size/\cM w' b i (bI a bE)/\Below w.heap.size w w':=by
 have j:(s.extract i s.size).size=s.size-i:=dA s i;have k:=ab j;clear j;go_enter func95,ntmps95;go_wp2_with fail;have c:0<(s.extract i s.size).size:=by rw[U k];omega
 have l:=iT _ c;generalize(s.extract i s.size)[0]'c=E at*;rw[l]at f;have F:=U f;clear f l;have m:(s.extract i s.size).size<=maxLen:=by rw[U k];unfold maxLen;omega
 have x:=ab m;clear m;have G:=ab c;clear c;generalize s.extract i s.size=H at*;refine(ew _ _).mono ?_;rintro e w' ⟨rfl,rfl⟩;go_wp2_with fail
 go_region_with (first|(go_at_call 93;refine(iS _ _ x).mono ?_;rintro e w' ⟨rfl,rfl⟩;rw[<-U q])|(go_at_call 143;refine(wU _ _ a h _ (by exact((p.alloc _).alloc _).drew) r u).mono ?_;rintro e g ⟨b,rfl,n,y,o,d⟩;have z:=ab o;clear o;have I:w.heap.size+1<b:=(by have:=n;simp at this;omega);clear n;have J:w.heap.size+1<g.heap.size:=(by have:=d.size;simp at this;omega);have K:w.heap.size<g.heap.size:=(by omega);have L:w.heap.size<=g.heap.size:=(by omega);obtain⟨A,f0⟩:=blk ((d.block w.heap.size (by simp;omega)).trans (ai (af rfl)));have B:=ab ((((Jj w.heap.size w).alloc (Ji _) _).alloc (by simp) _).drew.trans (d.mono (by simp;omega)));clear d))
 all_goals
  go_wp2;refine Jr (v:=.tuple #[wX,.iface 110 (.pointer (some ⟨b,0,none⟩))]) (by simp[results,results95,go_sem,A]) rfl ⟨b,rfl,by omega,by simpa [World.setCell]using y,?_,?_⟩
  ·exact cM.set (cM.set (cM.set (cM.set z (by show w.heap.size≠b;omega)) (by show w.heap.size≠b;omega)) (by show w.heap.size≠b;omega)) (by show w.heap.size≠b;omega)
  repeat(first|with_reducible exact U B|refine J0 ?_ (by simp) _)
theorem zn(s t:ByteArray)(i:Nat)(a:Nat->Addr)(g:Nat)(w:World)(n:Hid (fD a g w))(A:i<s.size)(B:s.size<=1000)(o:Hid (t=(s.extract i s.size).extract 0 (aY aG (s.extract i s.size).data.toList)))(d:Hid (aq (((s.extract i s.size).data.toList.headD 0).toNat:Int)=false))(p:Hid (aG (((s.extract i s.size).data.toList.headD 0).toNat:Int)=true))(v:Int)(q:Hid (js t.data.toList=some v))(r:Hid (t.size<=1000)):
  Calls prog 95 #[.string s,.int .i64 i] w fun e w'=>e=.returned (.tuple #[.agg #[.int .i64 i,.int .i64 3,.string t,.int .i64 v],.nilIface])/\Below w.heap.size w w':=by
 have h:(s.extract i s.size).size=s.size-i:=dA s i;have j:=ab h;clear h;go_enter func95,ntmps95;go_wp2_with fail;have b:0<(s.extract i s.size).size:=by rw[U j];omega
 have k:=iT _ b;generalize(s.extract i s.size)[0]'b=C at*;rw[k]at d;have D:=U d;clear d k;have l:(s.extract i s.size).size<=maxLen:=by rw[U j];unfold maxLen;omega
 have u:=ab l;clear l;have m:=ab b;clear b;generalize s.extract i s.size=x at*;refine(ew _ _).mono ?_;rintro e w' ⟨rfl,rfl⟩;go_wp2_with fail;have E:aG ((x[0]'(U m)).toNat:Int)=true:=by rw[<-iT _ (U m)];exact p
 refine(hU _ _).mono ?_;rintro e w' ⟨rfl,rfl⟩;go_wp2_with fail
 go_region_with (first|(go_at_call 93;refine(pw _ _ u).mono ?_;rintro e w' ⟨rfl,rfl⟩;rw[<-U o])|(go_at_call 145;refine(A4 _ _ a g _ (by exact((n.alloc _).alloc _).drew) r v q).mono ?_;rintro e f ⟨rfl,c⟩;have F:w.heap.size+1<f.heap.size:=(by have:=c.size;simp at this;omega);have G:w.heap.size<f.heap.size:=(by omega);have H:w.heap.size<=f.heap.size:=(by omega);obtain⟨y,f0⟩:=blk ((c.block w.heap.size (by simp;omega)).trans (ai (af rfl)));have z:=ab ((((Jj w.heap.size w).alloc (Ji _) _).alloc (by simp) _).drew.trans (c.mono (by simp;omega)));clear c))
 all_goals
  go_wp2;refine Jr (v:=.tuple #[.agg #[.int .i64 i,.int .i64 3,.string t,.int .i64 v],.nilIface]) (by simp[results,results95,go_sem,y]) rfl ⟨rfl,?_⟩
  repeat(first|with_reducible exact U z|refine J0 ?_ (by simp) _)
theorem wm(s t:ByteArray)(i:Nat)(a:Nat->Addr)(h:Nat)(w:World)(q:Hid (fD a h w))(G:i<s.size)(H:s.size<=1000)(r:Hid (t=(s.extract i s.size).extract 0 (aY aG (s.extract i s.size).data.toList)))(f:Hid (aq (((s.extract i s.size).data.toList.headD 0).toNat:Int)=false))(u:Hid (aG (((s.extract i s.size).data.toList.headD 0).toNat:Int)=true))(x:Hid (Lib.atoiAll t.data.toList≠ .«syntax»))(y:Hid (js t.data.toList=none))(z:Hid (t.size<=1000)):
  Calls prog 95 #[.string s,.int .i64 i] w fun e w'=> ∃b,e=.returned (.tuple #[wX,.iface 110 (.pointer (some ⟨b,0,none⟩))])/\w.heap.size<=b/\b<w'.heap.size/\cM w' b i (bI a fU)/\Below w.heap.size w w':=by
 have j:(s.extract i s.size).size=s.size-i:=dA s i;have k:=ab j;clear j;go_enter func95,ntmps95;go_wp2_with fail;have c:0<(s.extract i s.size).size:=by rw[U k];omega
 have l:=iT _ c;generalize(s.extract i s.size)[0]'c=I at*;rw[l]at f;have J:=U f;clear f l;have m:(s.extract i s.size).size<=maxLen:=by rw[U k];unfold maxLen;omega
 have A:=ab m;clear m;have n:=ab c;clear c;generalize s.extract i s.size=B at*;refine(ew _ _).mono ?_;rintro e w' ⟨rfl,rfl⟩;go_wp2_with fail;have K:aG ((B[0]'(U n)).toNat:Int)=true:=by rw[<-iT _ (U n)];exact u
 refine(hU _ _).mono ?_;rintro e w' ⟨rfl,rfl⟩;go_wp2_with fail
 go_region_with (first|(go_at_call 93;refine(pw _ _ A).mono ?_;rintro e w' ⟨rfl,rfl⟩;rw[<-U r])|(go_at_call 145;refine(A3 _ _ a h _ (by exact((q.alloc _).alloc _).drew) z x y).mono ?_;rintro e g ⟨b,rfl,o,C,p,d⟩;have D:=ab p;clear p;have L:w.heap.size+1<b:=(by have:=o;simp at this;omega);clear o;have M:w.heap.size+1<g.heap.size:=(by have:=d.size;simp at this;omega);have N:w.heap.size<g.heap.size:=(by omega);have O:w.heap.size<=g.heap.size:=(by omega);obtain⟨E,f0⟩:=blk ((d.block w.heap.size (by simp;omega)).trans (ai (af rfl)));have F:=ab ((((Jj w.heap.size w).alloc (Ji _) _).alloc (by simp) _).drew.trans (d.mono (by simp;omega)));clear d))
 all_goals
  go_wp2;refine Jr (v:=.tuple #[wX,.iface 110 (.pointer (some ⟨b,0,none⟩))]) (by simp[results,results95,go_sem,E]) rfl ⟨b,rfl,by omega,by simpa [World.setCell]using C,?_,?_⟩
  ·exact cM.set (cM.set (cM.set (cM.set D (by show w.heap.size≠b;omega)) (by show w.heap.size≠b;omega)) (by show w.heap.size≠b;omega)) (by show w.heap.size≠b;omega)
  repeat(first|with_reducible exact U F|refine J0 ?_ (by simp) _)
end
end Go.Proofs.YtfkeddkfegaeiaaGreatDoor
