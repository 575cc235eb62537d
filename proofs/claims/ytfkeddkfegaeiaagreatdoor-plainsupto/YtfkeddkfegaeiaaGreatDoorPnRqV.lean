import Derived.Test.YtfkeddkfegaeiaaGreatDoorPnRqM
set_option maxRecDepth 100000
set_option maxHeartbeats 20000000
namespace Go.Proofs.YtfkeddkfegaeiaaGreatDoor
section
open Go.RowKit Tryz
structure IR(c:Cf)(w:World)(x0:Xs)(T:ByteArray)(rk pl:Int)(W:World)(st:St)(x:Xs)(call:ByteArray)(n:Int)(pv ov:Value)(rw:Int)(asx:ByteArray):Prop where
 rx:RX c W st x
 gx:GX c w x0 W x
 res:W.heap[w.heap.size]? =some (.cells #[.int .i64 0,.string ⟨#[]⟩,.int .i64 0,.slice none 0 0,.slice none 0 0,.int .i64 0,.string ⟨#[]⟩] 228 (0,0))
 tok:W.heap[w.heap.size+1]? =some (.cells #[.int .i64 rk,.int .i64 pl,.string T] 100 (0,0))
 box:W.heap[w.heap.size+1+1]? =some (.cells #[.int .i64 pl,.string call,.int .i64 n,pv,ov,.int .i64 rw,.string asx] 228 (0,0))
 off: ∀k,w.heap.size<=k->k<=w.heap.size+2->iR c x k
theorem IR.step{c:Cf}{w:World}{d:Xs}{T:ByteArray}{e f:Int}{W W':World}{st st':St}{x x':Xs}{g:ByteArray}{n:Int}{h i:Value}{rw:Int}{j:ByteArray}(a:IR c w d T e f W st x g n h i rw j)(l:RX c W' st' x')(b:GX c W x W' x'):IR c w d T e f W' st' x' g n h i rw j:=
 ⟨l,a.gx.trans b,(b.block (aa a.res) (a.off _ (by omega) (by omega))).trans a.res,(b.block (aa a.tok) (a.off _ (by omega) (by omega))).trans a.tok,(b.block (aa a.box) (a.off _ (by omega) (by omega))).trans a.box,fun k m o=>b.off (by have:=aa a.box;omega) (a.off k m o)⟩
theorem IR.keep{c:Cf}{w:World}{a:Xs}{T:ByteArray}{b d:Int}{W W':World}{st:St}{x:Xs}{e:ByteArray}{n:Int}{f g:Value}{rw:Int}{h:ByteArray}(i:IR c w a T b d W st x e n f g rw h)(j:Below W.heap.size W W'):IR c w a T b d W' st x e n f g rw h:=
 i.step (i.rx.keep j) (GX.below (GX.refl _ _ _) j)
theorem IR.set{c:Cf}{w:World}{e:Xs}{T:ByteArray}{f b:Int}{W:World}{st:St}{x:Xs}{g h:ByteArray}{n j:Int}{k l m o:Value}{rw p:Int}{q r:ByteArray}{i:Nat}{u:Value}(a:IR c w e T f b W st x g n k l rw q)
  (s: #[.int .i64 b,.string g,.int .i64 n,k,l,.int .i64 rw,.string q].setIfInBounds i u= #[.int .i64 b,.string h,.int .i64 j,m,o,.int .i64 p,.string r]):IR c w e T f b (W.setCell ⟨w.heap.size+1+1,i,none⟩ u) st x h j m o p r:=by
 have d:Kp (w.heap.size+1+1) W (W.setCell ⟨w.heap.size+1+1,i,none⟩ u):=(Kp.refl _ _).setCell _ _;refine⟨a.rx.kpb d (a.off _ (by omega) (by omega)),a.gx.kpNew d (by omega),(d.block _ (aa a.res) (by omega)).trans a.res,(d.block _ (aa a.tok) (by omega)).trans a.tok,?_,a.off⟩;rw[am a.box,s]
theorem IR.facts{c:Cf}{w:World}{i:Xs}{T:ByteArray}{d b:Int}{W:World}{st:St}{x:Xs}{e:ByteArray}{n:Int}{f g:Value}{rw:Int}{h:ByteArray}(a:IR c w i T d b W st x e n f g rw h):
  ((∀o,W.cell? ⟨w.heap.size,o,none⟩=(#[.int .i64 0,.string ⟨#[]⟩,.int .i64 0,.slice none 0 0,.slice none 0 0,.int .i64 0,.string ⟨#[]⟩]:Array Value)[o]?)/\ ∀o,W.frozen? ⟨w.heap.size,o,none⟩=false)/\
  ((∀o,W.cell? ⟨w.heap.size+1,o,none⟩=(#[.int .i64 d,.int .i64 b,.string T]:Array Value)[o]?)/\ ∀o,W.frozen? ⟨w.heap.size+1,o,none⟩=false)/\
  ((∀o,W.cell? ⟨w.heap.size+1+1,o,none⟩=(#[.int .i64 b,.string e,.int .i64 n,f,g,.int .i64 rw,.string h]:Array Value)[o]?)/\ ∀o,W.frozen? ⟨w.heap.size+1+1,o,none⟩=false)/\
  w.heap.size+1+1<W.heap.size:=
 ⟨blk a.res,blk a.tok,blk a.box,aa a.box⟩
def IQ(c:Cf)(w:World)(a:Xs)(T:ByteArray)(b d:Int)(W:World)(st:St):Prop:= ∃(e:Xs) (f:ByteArray) (g:Int) (h i:Option Addr) (j k l m:Nat) (n:Int),IR c w a T b d W st e f g (.slice h j k) (.slice i l m) n ⟨#[95]⟩
theorem AT{ts:List Tk}{st:St}{a:ByteArray}(b:az ts st [a]=true):ig ts st a=dE ts (bj ts) 1000 (aH ts (aD st) [⟨#[98,121]⟩]):=by unfold ig;rw[Jo b]
theorem AU{ts:List Tk}{st:St}{a:ByteArray}(b:az ts st [a]=false):ig ts st a=([],st):=by unfold ig;rw[b];rfl
theorem Ij{ts:List Tk}(b:jB ts)(st:St):(∀a,a∈(bP ts st 3).text.data.toList->aG a.toNat=true)/\(bP ts st 3).text.size<=1000:=by
 unfold bP;split
 ·rename_i c
  exact⟨(b _ c).1,(b _ c).2.1⟩
 ·refine⟨fun a d=>?_,by decide⟩;simp at d
theorem Ae{t:Tk}(a:Lib.containsS dW t.text=true):aq (t.text.data.toList.headD 0).toNat=true:=by rw[J2]at a;unfold dW at a;simp only[JG,JO,Kg]at a;rcases a with e|e|e|e|e<;>(rw[e];decide)
theorem GP{t:Tk}(a:(t.kind==1)=true)(b:Lib.containsS dW t.text=true):dh t=1:=by unfold dh;rw[Jo (by simpa using a),Jo (Ae b)]
theorem Dz{ts:List Tk}{st:St}(a:az ts st dW=true):dh (ah ts st.nx)=1/\Lib.containsS dW (ah ts st.nx).text=true:=by unfold az at a;rw[Kc]at a;exact⟨GP a.1 a.2,a.2⟩
theorem GQ{c:Cf}{w:World}{st:St}{x:Xs}(b:RX c w st x)(a:az c.ts st dW=false):(((dh (ah c.ts x.I):Nat):Int)==1)=false∨Lib.containsS dW (ah c.ts x.I).text=false∨(jq st.er==0)=false:=by
 by_cases d:st.er=none
 ·have e:x.I=st.nx:=RF.cor b d;rw[e];unfold az at a;rw[Bool.and_eq_false_iff]at a;rcases a with q|q
  ·left
   have f:=RF.kinds b st.nx;simp only[Kb,ne_eq]at q⊢;unfold dh;rw[Jn q];split<;>omega
  ·exact Or.inr (Or.inl q)
 ·exact Or.inr (Or.inr (by simp only[Kb,ne_eq];exact oz d))
theorem oc{w:World}{b:Nat}(a:b=w.heap.size):fI (w.alloc (.cells #[.string ⟨#[114,111,119,95,110,117,109,98,101,114]⟩,.string ⟨#[99,111,117,110,116]⟩,.string ⟨#[115,117,109]⟩,.string ⟨#[109,105,110]⟩,.string ⟨#[109,97,120]⟩] 9)) b dW:=
 bo a (fun j c=>by match j,c with|0,_|1,_|2,_|3,_|4,_=>rfl)
def rF(xs:List RE)(b:ByteArray)(n:Int)(c d:Value)(a:ByteArray)(i:bH):Prop:=i.win=none->b=⟨#[]⟩/\c=.slice none 0 0/\d=.slice none 0 0/\fF xs n i.val/\((i.asT=⟨#[]⟩/\a=⟨#[95]⟩)∨(0<i.asT.size/\a=i.asT))
theorem rF.more{xs:List RE}{c:ByteArray}{n:Int}{d e:Value}{f:ByteArray}{i:bH}(a:rF xs c n d e f i)(g:List RE):rF (xs++g) c n d e f i:=fun b=>⟨(a b).1,(a b).2.1,(a b).2.2.1,(a b).2.2.2.1.more g,(a b).2.2.2.2⟩
theorem GR(c:Cf)(a':Lw c.ts)(bN:jB c.ts)(w:World)(st:St)(x:Xs)(O:RX c w st x)(ba:st.dp=0):
  Calls prog 113 #[.pointer (some ⟨c.rb,0,none⟩)] w fun e w'=> ∃(c3:Int) (E:ByteArray) (n:Int) (F G:Option Addr) (H I J K:Nat) (rw:Int) (bS:ByteArray) (x':Xs),e=.returned (.agg #[.int .i64 c3,.string E,.int .i64 n,.slice F H I,.slice G J K,.int .i64 rw,.string bS])/\RX c w' (em c.ts st).2 x'/\GX c w x w' x'/\((em c.ts st).2.er=none->rF x'.en E n (.slice F H I) (.slice G J K) bS (em c.ts st).1):=by
 obtain⟨⟨c4,c5,c6,c7,c8⟩,c9,c',⟨t0,t1,t2⟩,dd,df,dk⟩:=RF.facts O;have gl:=RF.len O;have gm:=RF.inx O;have aR:=ab O;have o:=ab a'.last;obtain⟨ap,ar⟩:=ag a' bN;have dp:=RF.nx O;obtain⟨dq,bX⟩:=ag (GQ O) (RF.cor O);clear O a' bN;generalize b0:ah c.ts x.I=d at*;have b1:=ab b0;clear b0;generalize b2:((dh d:Nat):Int)=j at*;have ds:=ab b2;clear b2;generalize b3:jq st.er=b4 at*;have dw:=ab b3;clear b3;go_enter func113,ntmps113;go_wp2
 go_region
 go_upto_region 3 with(fail)
 have au:Hid (IR c w x d.text j d.place (((w.alloc (.cells #[.int .i64 0,.string ⟨#[]⟩,.int .i64 0,.slice none 0 0,.slice none 0 0,.int .i64 0,.string ⟨#[]⟩] 228)).alloc (.cells #[.int .i64 j,.int .i64 d.place,.string d.text] 100)).alloc (.cells #[.int .i64 d.place,.string ⟨#[]⟩,.int .i64 (-1),.slice none 0 0,.slice none 0 0,.int .i64 (-1),.string ⟨#[95]⟩] 228)).drew st x ⟨#[]⟩ (-1) (.slice none 0 0) (.slice none 0 0) (-1) ⟨#[95]⟩):=by have b5:Below w.heap.size w (((w.alloc (.cells #[.int .i64 0,.string ⟨#[]⟩,.int .i64 0,.slice none 0 0,.slice none 0 0,.int .i64 0,.string ⟨#[]⟩] 228)).alloc (.cells #[.int .i64 j,.int .i64 d.place,.string d.text] 100)).alloc (.cells #[.int .i64 d.place,.string ⟨#[]⟩,.int .i64 (-1),.slice none 0 0,.slice none 0 0,.int .i64 (-1),.string ⟨#[95]⟩] 228)).drew:=((((Jj _ _).alloc (Ji _) _).alloc (by simp) _).alloc (by simp;omega) _).drew;exact⟨aR.keep b5,GX.below (GX.refl _ _ _) b5,ai (ai (af rfl)),ai (af (by simp)),af (by simp),fun aT dT _=>aR.off dT⟩
 go_cut [5] (fun d' p=>d'=.bool (az c.ts st dW)/\IR c w x d.text j d.place p st x ⟨#[]⟩ (-1) (.slice none 0 0) (.slice none 0 0) (-1) ⟨#[95]⟩)
 case first=>
  have gn:c.rb<w.heap.size+1:=by omega
  have gq:c.rb<w.heap.size+1+1:=by omega
  have gr:c.rb<w.heap.size+1+1+1:=by omega
  cases f:az c.ts st dW with
  |true=>
   have ad:st.er=none:=RF.okHit aR f;have b6:x.I=st.nx:=(U bX) ad;have aU:=Dz f;have av:ah c.ts st.nx=d:=by rw[<-U b1,b6]
   rw[av]at aU;have b7:(j==1)=true:=by rw[<-U ds,aU.1];rfl
   have ea:(b4==0)=true:=by rw[<-U dw,ad];rfl
   have ax:=ab aU.2;have P:=ab f;clear aU f ad av b6;go_wp2_with fail;refine(fE _ _ _ dW (by exact oc (by first|rfl|simp)) (by decide)).mono ?_;rintro e aV ⟨rfl,rfl⟩;rw[U ax];go_wp2_with fail;go_meet
   case rel=>exact⟨by rw[U P],au.keep (by first|exact Jj _ _|exact⟨rfl,rfl,rfl,by simp,fun aT L=>J9 _ _ _ L⟩|repeat(first|exact Jj _ _|apply JI|refine JY ?_ (by first|exact Ji _|(simp;done)|(simp;omega)) _))⟩
  |false=>
   have bb:=(U dq) f;have P:=ab f;clear f
   cases b7:(j==1)with
   |false=>
    go_wp2_with fail;go_meet
    case rel=>exact⟨by rw[U P],au.keep (by first|exact Jj _ _|exact⟨rfl,rfl,rfl,by simp,fun aT L=>J9 _ _ _ L⟩|repeat(first|exact Jj _ _|apply JI|refine JY ?_ (by first|exact Ji _|(simp;done)|(simp;omega)) _))⟩
   |true=>
    cases ay:Lib.containsS dW d.text with
    |false=>
     have ax:=ab ay;clear ay bb;go_wp2_with fail;refine(fE _ _ _ dW (by exact oc (by first|rfl|simp)) (by decide)).mono ?_;rintro e aV ⟨rfl,rfl⟩;rw[U ax];go_wp2_with fail;go_meet
     case rel=>exact⟨by rw[U P],au.keep (by first|exact Jj _ _|exact⟨rfl,rfl,rfl,by simp,fun aT L=>J9 _ _ _ L⟩|repeat(first|exact Jj _ _|apply JI|refine JY ?_ (by first|exact Ji _|(simp;done)|(simp;omega)) _))⟩
    |true=>
     have ea:(b4==0)=false:=by
      rcases bb with q|q|q
      ·rw[b7]at q;cases q
      ·rw[ay]at q;cases q
      ·exact q
     have ax:=ab ay;clear ay bb;go_wp2_with fail;refine(fE _ _ _ dW (by exact oc (by first|rfl|simp)) (by decide)).mono ?_;rintro e aV ⟨rfl,rfl⟩;rw[U ax];go_wp2_with fail;go_meet
     case rel=>exact⟨by rw[U P],au.keep (by first|exact Jj _ _|exact⟨rfl,rfl,rfl,by simp,fun aT L=>J9 _ _ _ L⟩|repeat(first|exact Jj _ _|apply JI|refine JY ?_ (by first|exact Ji _|(simp;done)|(simp;omega)) _))⟩
 case rest=>
  obtain⟨rfl,g⟩:=hcut;have aA:=ab g;clear g au c4 c5 c6 c7 c8 c9 c' t0 t1 t2 dd df dk
  go_upto_if 44 with(fail)
  go_cut [5] (fun _ p=> ∃(a0:Xs) (E:ByteArray) (n:Int) (F G:Option Addr) (H I J K:Nat) (ae:Int),IR c w x d.text j d.place p (db c.ts st).2 a0 E n (.slice F H I) (.slice G J K) ae ⟨#[95]⟩/\((db c.ts st).2.er=none->(db c.ts st).1.1=none->E=⟨#[]⟩/\Value.slice F H I=.slice none 0 0/\Value.slice G J K=.slice none 0 0/\fF a0.en n (db c.ts st).1.2))
  case first=>
   obtain⟨⟨m,r⟩,⟨s,t⟩,⟨y,z⟩,A⟩:=aA.facts
   cases f:az c.ts st dW with
   |false=>
    have bc:Hid (db c.ts st=((none,(bj c.ts st).1),(bj c.ts st).2)):=by unfold Hid db;rw[f];rfl
    have P:=ab f;clear f;go_wp2_with fail;refine(oD c ap ar _ st x (by exact aA.rx) ba).mono ?_;rintro e gs ⟨eb,ed,rfl,b,a,b9⟩;obtain⟨aj,ef⟩:=ag (aA.step b a) b9;clear b9;clear m r s t y z A b a;obtain⟨⟨m,r⟩,⟨s,t⟩,⟨y,z⟩,A⟩:=aj.facts;generalize b':bj c.ts st=gt at*;have eg:=ab b';clear b';go_wp2_with fail;go_meet
    case rel=>rw[U bc];obtain rfl:=U eg;exact⟨ed,_,eb,_,_,_,_,_,_,_,aj.set rfl,fun e _=>⟨rfl,rfl,rfl,(U ef) e⟩⟩
   |true=>
    have ad:st.er=none:=RF.okHit aR f;have be:=aW f;have av:ah c.ts st.nx=d:=by rw[<-U b1,(U bX) ad]
    have ca:=bB o dp be;obtain⟨P,bg,ei,en⟩:=aP f ca be av;clear f be av ca
    obtain⟨k,aI⟩: ∃k,Hid (k=mP c.ts (aD st) d.text):=⟨_,rfl⟩
    obtain⟨l,a1⟩: ∃l,Hid (l=oS c.ts (km c.ts k.2)):=⟨_,rfl⟩
    obtain⟨hz,bk⟩: ∃hz,Hid (hz=ul c.ts l.2):=⟨_,rfl⟩
    obtain⟨M,bl⟩: ∃M,Hid (M=gp c.ts hz.2):=⟨_,rfl⟩
    have eo:Hid (lT c.ts (aD st) d.place d.text=(⟨d.place,d.text,k.1,l.1,hz.1,M.1⟩,aH c.ts M.2 [⟨#[41]⟩])):=by unfold Hid;rw[U bl,bk,a1,U aI];rfl
    have bc:Hid (db c.ts st=((some ⟨d.place,d.text,k.1,l.1,hz.1,M.1⟩,[]),aH c.ts M.2 [⟨#[41]⟩])):=by unfold Hid db;rw[Jo (U P),en,U eo]
    go_wp2_with fail;have aj:Hid (IR c w x d.text j d.place (wc.setCell ⟨w.heap.size+1+1,1,none⟩ (.string d.text)) st x d.text (-1) (.slice none 0 0) (.slice none 0 0) (-1) ⟨#[95]⟩):=aA.set rfl;refine(AR c _ st x (by exact aj.rx) ad ei).mono ?_;rintro e gw ⟨ep,rfl,b,a⟩;have bn:=ab (aj.step b a);clear b a aj;clear m r s t y z A;go_wp2_with fail;refine(eJ c _ (aD st) ep ⟨#[40]⟩ (by exact bn.rx)).mono ?_;rintro e aV ⟨cb,rfl,b,a⟩;have aJ:=ab (bn.step b a);clear b a bn;obtain⟨⟨m,r⟩,⟨s,t⟩,⟨y,z⟩,A⟩:=aJ.facts;have cc:(aH c.ts (aD st) [⟨#[40]⟩]).dp=0:=((aM o bg.lt _).dp).trans ba
    go_upto_region 9 with(fail)
    go_cut [62] (fun eq p=>p=aV/\eq=.bool (fV d.text))
    case first=>
     cases bq:(d.text.toList== [114,111,119,95,110,117,109,98,101,114])with
     |true=>
      go_wp2_with fail;go_meet
      case rel=>exact⟨rfl,by unfold fV;rw[bq];rfl⟩
     |false=>
      cases cd:(d.text.toList== [99,111,117,110,116])with
      |true=>
       go_wp2_with fail;go_meet
       case rel=>exact⟨rfl,by unfold fV;rw[bq,cd];rfl⟩
      |false=>
       go_wp2_with fail;go_meet
       case rel=>exact⟨rfl,by unfold fV;rw[bq,cd];rfl⟩
    case rest=>
     obtain⟨rfl,rfl⟩:=hcut
     go_upto_if 62 with(fail)
     go_cut [] (fun p=>IQ c w x d.text j d.place p k.2)
     case first=>
      cases aL:fV d.text with
      |false=>
       have br:Hid (k=(none,aH c.ts (aD st) [⟨#[40]⟩])):=by have:=U aI;unfold mP at this;rw[aL]at this;exact this
       clear aL;go_wp2_with fail;go_meet
       case rel=>rw[U br];exact⟨cb,_,_,_,_,_,_,_,_,_,aJ⟩
      |true=>
       have br:Hid (k=(some (bj c.ts (aH c.ts (aD st) [⟨#[40]⟩])).1,(bj c.ts (aH c.ts (aD st) [⟨#[40]⟩])).2)):=by have:=U aI;unfold mP at this;rw[aL]at this;exact this
       clear aL;go_wp2_with fail;refine(oD c ap ar _ _ cb (by exact aJ.rx) cc).mono ?_;rintro e bs ⟨er,S,rfl,b,a,-⟩;have B:=ab (aJ.step b a);clear m r s t y z A b a;obtain⟨⟨m,r⟩,⟨s,t⟩,⟨y,z⟩,A⟩:=B.facts;go_wp2_with fail;go_meet
       case rel=>rw[U br];exact⟨S,_,er,_,_,_,_,_,_,_,B.set rfl⟩
     case rest=>
      obtain⟨es,call6,ce,cf,cg,ch,ci,cj,cl,cp,g⟩:=hcut;have C:=ab g;clear g aJ m r s t y z A cc;have et:Hid (k.2.dp=0):=by unfold Hid;rw[U aI];exact((og o bg.lt _).dp).trans ba
      go_wp2_with fail;refine(eJ c _ k.2 es ⟨#[41]⟩ (by exact C.rx)).mono ?_;rintro e ak ⟨a2,rfl,b,a⟩;have T:=ab (C.step b a);clear b a C;go_wp2_with fail;refine(eJ c _ (aH c.ts k.2 [⟨#[41]⟩]) a2 ⟨#[111,118,101,114]⟩ (by exact T.rx)).mono ?_;rintro e gx ⟨ev,rfl,b,a⟩;have a3:=ab (T.step b a);clear b a T;go_wp2_with fail;refine(eJ c _ (aH c.ts (aH c.ts k.2 [⟨#[41]⟩]) [⟨#[111,118,101,114]⟩]) ev ⟨#[40]⟩ (by exact a3.rx)).mono ?_;rintro e ex ⟨cq,rfl,b,a⟩;have al:=ab (a3.step b a);clear b a a3;have an:Hid (IR c w x d.text j d.place ex (km c.ts k.2) cq call6 ce (.slice cf ch ci) (.slice cg cj cl) cp ⟨#[95]⟩):=U al;have cr:Hid ((km c.ts k.2).dp=0):=((pQ o (by have:=RF.nx an.rx;have cs:=og o bg.lt d.text;rw[<-U aI]at cs;exact cs.lt)).dp).trans et;clear al;generalize ct:km c.ts k.2=V at*;have gy:=ab ct;clear ct;have ez:Hid (V.nx<c.ts.length):=RF.nx an.rx;go_wp2_with fail;refine(kO c _ V cq ⟨#[112,97,114,116,105,116,105,111,110]⟩ (by exact an.rx)).mono ?_;rintro e eN ⟨bt,rfl,b,a⟩;have W:=ab (an.step b a);clear b a
      go_upto_if 74 with(fail)
      go_cut [6] (fun _ p=>IQ c w x d.text j d.place p l.2)
      case first=>
       cases f:az c.ts V [⟨#[112,97,114,116,105,116,105,111,110]⟩]with
       |false=>
        have D:Hid (l=([],V)):=by have:=U a1;unfold oS at this;rw[AU f]at this;exact this
        unfold b8 at W;rw[f]at W;clear f;go_wp2_with fail;go_meet
        case rel=>rw[U D];exact⟨bt,_,_,_,_,_,_,_,_,_,W⟩
       |true=>
        have D:Hid (l=ig c.ts V ⟨#[112,97,114,116,105,116,105,111,110]⟩):=U a1;unfold b8 at W;rw[f]at W;obtain⟨a4,X⟩:=ag f (RF.nx an.rx);have Q:=ab (bB o X (aW f));clear f;have cu:Hid (IR c w x d.text j d.place eN (aD V) bt call6 ce (.slice cf ch ci) (.slice cg cj cl) cp ⟨#[95]⟩):=U W;go_wp2_with fail;refine(eJ c _ (aD V) bt ⟨#[98,121]⟩ (by exact(U cu).rx)).mono ?_;rintro e gJ ⟨eR,rfl,b,a⟩;have cv:=ab ((U cu).step b a);clear b a;go_wp2_with fail;refine(yD c ap ar _ _ eR (by exact cv.rx) (((aM o Q.lt _).dp).trans cr)).mono ?_;rintro e gQ ⟨eT,eX,e0,e1,-,rfl,-,-,b,a,-⟩;have cz:=ab (cv.step b a);clear b a;obtain⟨⟨m,r⟩,⟨s,t⟩,⟨y,z⟩,A⟩:=cz.facts;go_wp2_with fail;go_meet
        case rel=>have g:=cz.set (i:=3) (u:=.slice eT eX e0) rfl;rw[<-AT (U a4),<-U D]at g;exact⟨e1,_,_,_,_,_,_,_,_,_,g⟩
      case rest=>
       obtain⟨e2,call14,e3,e4,e5,e6,e7,e8,e9,e',g⟩:=hcut;have a5:=ab g;clear g an W;have fa:Hid (l.2.dp=0):=by unfold Hid;rw[U a1];exact((lf o ez _).dp).trans cr
       go_wp2_with fail;refine(kO c _ l.2 e2 ⟨#[111,114,100,101,114]⟩ (by exact a5.rx)).mono ?_;rintro e fb ⟨bu,rfl,b,a⟩;have Y:=ab (a5.step b a);clear b a
       go_upto_if 82 with(fail)
       go_cut [6] (fun _ p=>IQ c w x d.text j d.place p hz.2)
       case first=>
        cases f:az c.ts l.2 [⟨#[111,114,100,101,114]⟩]with
        |false=>
         have D:Hid (hz=([],l.2)):=by have:=U bk;unfold ul at this;rw[AU f]at this;exact this
         unfold b8 at Y;rw[f]at Y;clear f;go_wp2_with fail;go_meet
         case rel=>rw[U D];exact⟨bu,_,_,_,_,_,_,_,_,_,Y⟩
        |true=>
         have D:Hid (hz=ig c.ts l.2 ⟨#[111,114,100,101,114]⟩):=U bk;unfold b8 at Y;rw[f]at Y;obtain⟨a4,X⟩:=ag f (RF.nx a5.rx);have Q:=ab (bB o X (aW f));clear f;have cF:Hid (IR c w x d.text j d.place fb (aD l.2) bu call14 e3 (.slice e4 e6 e7) (.slice e5 e8 e9) e' ⟨#[95]⟩):=U Y;go_wp2_with fail;refine(eJ c _ (aD l.2) bu ⟨#[98,121]⟩ (by exact(U cF).rx)).mono ?_;rintro e gW ⟨fc,rfl,b,a⟩;have cI:=ab ((U cF).step b a);clear b a;go_wp2_with fail;refine(yD c ap ar _ _ fc (by exact cI.rx) (((aM o Q.lt _).dp).trans fa)).mono ?_;rintro e g0 ⟨fe,fg,fk,fl,-,rfl,-,-,b,a,-⟩;have cL:=ab (cI.step b a);clear b a;obtain⟨⟨m,r⟩,⟨s,t⟩,⟨y,z⟩,A⟩:=cL.facts;go_wp2_with fail;go_meet
         case rel=>have g:=cL.set (i:=4) (u:=.slice fe fg fk) rfl;rw[<-AT (U a4),<-U D]at g;exact⟨fl,_,_,_,_,_,_,_,_,_,g⟩
       case rest=>
        obtain⟨fn,call18,fo,fp,fq,fr,fs,ft,fv,fw,g⟩:=hcut;have a9:=ab g;clear g a5 Y;go_wp2_with fail;refine(kO c _ hz.2 fn ⟨#[114,111,119,115]⟩ (by exact a9.rx)).mono ?_;rintro e fx ⟨bv,rfl,b,a⟩;have Z:=ab (a9.step b a);clear b a
        go_upto_if 90 with(fail)
        go_cut [6] (fun _ p=>IQ c w x d.text j d.place p M.2)
        case first=>
         cases f:az c.ts hz.2 [⟨#[114,111,119,115]⟩]with
         |false=>
          have D:Hid (M=(none,hz.2)):=by have:=U bl;unfold gp at this;rw[f]at this;exact this
          unfold b8 at Z;rw[f]at Z;clear f;go_wp2_with fail;go_meet
          case rel=>rw[U D];exact⟨bv,_,_,_,_,_,_,_,_,_,Z⟩
         |true=>
          have D:Hid (M=(some (bP c.ts (aD hz.2) 3),aH c.ts (cx c.ts (aD hz.2) 3) [⟨#[112,114,101,99,101,100,105,110,103]⟩])):=by have:=U bl;unfold gp at this;rw[f]at this;exact this
          unfold b8 at Z;rw[f]at Z;obtain⟨a4,X⟩:=ag f (RF.nx a9.rx);have Q:=ab (bB o X (aW f));clear f;have cN:Hid (IR c w x d.text j d.place fx (aD hz.2) bv call18 fo (.slice fp fr fs) (.slice fq ft fv) fw ⟨#[95]⟩):=U Z;have bx:=Ij ar (aD hz.2);have fy:=ab bx;have fz:(bP c.ts (aD hz.2) 3).text.size<=1000:=bx.2;clear bx;go_wp2_with fail;refine(qP c _ (aD hz.2) bv 3 (by exact(U cN).rx) (Or.inr rfl)).mono ?_;rintro e cR ⟨bz,bA,fO,rfl,b,a,-⟩;have f':=ab ((U cN).step b a);clear b a;generalize aN:(bP c.ts (aD hz.2) 3).text=R at*;have cT:=ab aN;clear aN;go_wp2_with fail;refine(nH R _ fz (by exact fy.1)).mono ?_;rintro e w' ⟨rfl,rfl⟩;generalize oq (dX 0 R.data.toList)=ga at*;have cV:=ab (f'.keep ((Jj cR.heap.size cR).alloc (Ji _) (.cells #[.int .i64 bz,.int .i64 bA,.string R] 100)));obtain⟨⟨m,r⟩,⟨s,t⟩,⟨y,z⟩,A⟩:=cV.facts;go_wp2_with fail;have cW:=ab (cV.set (i:=5) (u:=.int .i64 ga) rfl);refine(eJ c _ (cx c.ts (aD hz.2) 3) fO ⟨#[112,114,101,99,101,100,105,110,103]⟩ (by exact cW.rx)).mono ?_;rintro e g1 ⟨gb,rfl,b,a⟩;have bF:=ab (cW.step b a);clear b a;go_wp2_with fail;go_meet
          case rel=>rw[U D];exact⟨gb,_,_,_,_,_,_,_,_,_,bF⟩
        case rest=>
         obtain⟨gc,call23,g2,g3,g4,g6,g7,g8,g9,g',g⟩:=hcut;have bG:=ab g;clear g a9 Z;go_wp2_with fail;refine(eJ c _ M.2 gc ⟨#[41]⟩ (by exact bG.rx)).mono ?_;rintro e ha ⟨gf,rfl,b,a⟩;have bF:=ab (bG.step b a);clear b a bG;go_wp2_with fail;go_meet
         case rel=>rw[U bc];exact⟨gf,_,_,_,_,_,_,_,_,_,bF,fun _ e=>by cases e⟩
  case rest=>
   obtain⟨a0,E,n,F,G,H,I,J,K,ae,g,cZ⟩:=hcut;have c0:=ab cZ;clear cZ;have bJ:=ab g;clear g aA;go_wp2_with fail;refine(kO c _ (db c.ts st).2 a0 ⟨#[97,115]⟩ (by exact bJ.rx)).mono ?_;rintro e bs ⟨S,rfl,b,a⟩;obtain⟨B,c1,X⟩:=aC (bJ.step b a) a (RF.nx bJ.rx);clear b a
   cases f:az c.ts (db c.ts st).2 [⟨#[97,115]⟩]with
   |false=>
    have ac:Hid (eG c.ts (db c.ts st).2=((0,⟨#[]⟩),(db c.ts st).2)):=by unfold Hid eG;rw[f];rfl
    unfold b8 at B;rw[f]at B;have C:Hid (IR c w x d.text j d.place bs (db c.ts st).2 S E n (.slice F H I) (.slice G J K) ae ⟨#[95]⟩):=U B;clear f B;obtain⟨⟨m,r⟩,⟨s,t⟩,⟨y,z⟩,A⟩:=C.facts;go_wp2;refine Jr (v:=.agg #[.int .i64 d.place,.string E,.int .i64 n,.slice F H I,.slice G J K,.int .i64 ae,.string ⟨#[95]⟩]) (by simp[results,results113,go_sem,m]) rfl ⟨_,_,_,_,_,_,_,_,_,_,_,S,rfl,?_,?_,?_⟩
    ·show RX c _ (eG c.ts (db c.ts st).2).2 S
     rw[U ac];exact C.rx.kpb ((((((((Kp.refl w.heap.size _).setCell _ _).setCell _ _).setCell _ _).setCell _ _).setCell _ _).setCell _ _).setCell _ _) (C.off _ (Ji _) (by omega))
    ·exact C.gx.kpNew ((((((((Kp.refl w.heap.size _).setCell _ _).setCell _ _).setCell _ _).setCell _ _).setCell _ _).setCell _ _).setCell _ _) (Ji _)
    ·intro e bL;have ao:(eG c.ts (db c.ts st).2).2.er=none:=e;rw[U ac]at ao;have N:=(U c0) ao bL;refine⟨N.1,N.2.1,N.2.2.1,c1.re N.2.2.2,Or.inl ⟨?_,rfl⟩⟩
     show(eG c.ts (db c.ts st).2).1.2=_
     rw[U ac]
   |true=>
    have ac:Hid (eG c.ts (db c.ts st).2=(((bP c.ts (aD (db c.ts st).2) 2).place,(bP c.ts (aD (db c.ts st).2) 2).text),cx c.ts (aD (db c.ts st).2) 2)):=by unfold Hid eG;rw[f];rfl
    unfold b8 at B;rw[f]at B;have C:Hid (IR c w x d.text j d.place bs (aD (db c.ts st).2) S E n (.slice F H I) (.slice G J K) ae ⟨#[95]⟩):=U B;have Q:=ab (bB o X (aW f));clear f B;go_wp2_with fail;refine(qP c _ (aD (db c.ts st).2) S 2 (by exact C.rx) (Or.inl rfl)).mono ?_;rintro e ak ⟨bz,bA,a2,rfl,b,a,-⟩;obtain⟨gg,T⟩:=ag a (C.step b a);clear b a;generalize aN:(bP c.ts (aD (db c.ts st).2) 2).text=R at*;have cT:=ab aN;clear aN;have a3:=ab (T.keep ((Jj ak.heap.size ak).alloc (Ji _) (.cells #[.int .i64 bz,.int .i64 bA,.string R] 100)));obtain⟨⟨m,r⟩,⟨s,t⟩,⟨y,z⟩,A⟩:=T.facts;have gi:w.heap.size<ak.heap.size:=by omega
    have hb:w.heap.size+2<=ak.heap.size:=by omega
    have hc:w.heap.size<=ak.heap.size:=by omega
    go_wp2;have al:=ab (T.set (i:=6) (u:=.string R) rfl);refine Jr (v:=.agg #[.int .i64 d.place,.string E,.int .i64 n,.slice F H I,.slice G J K,.int .i64 ae,.string R]) (by simp[results,results113,go_sem,m,gi]) rfl ⟨_,_,_,_,_,_,_,_,_,_,_,a2,rfl,?_,?_,?_⟩
    ·show RX c _ (eG c.ts (db c.ts st).2).2 a2
     rw[U ac];exact(al.rx.kpb ((((((((Kp.refl w.heap.size _).setCell _ _).setCell _ _).setCell _ _).setCell _ _).setCell _ _).setCell _ _).setCell _ _) (al.off _ (Ji _) (by omega))).keep ((Jj _ _).alloc (Ji _) _)
    ·exact(al.gx.kpNew ((((((((Kp.refl w.heap.size _).setCell _ _).setCell _ _).setCell _ _).setCell _ _).setCell _ _).setCell _ _).setCell _ _) (Ji _)).below ((Jj _ _).alloc (Ji _) _)
    ·intro e bL;have ao:(eG c.ts (db c.ts st).2).2.er=none:=e;rw[U ac]at ao;have N:=(U c0) (Q.er ((dx o Q.lt (by decide)).er ao)) bL;have L:=sM ao;have aL:=ap.txt _ Q.lt (by rw[L];decide);have c2:(eG c.ts (db c.ts st).2).1.2=R:=by rw[U ac]
     refine⟨N.1,N.2.1,N.2.2.1,gg.re (c1.re N.2.2.2),Or.inr ⟨?_,c2.symm⟩⟩
     show 0<((eG c.ts (db c.ts st).2).1.2).size
     rw[c2,<-U cT];unfold bP;rw[Jo L];omega
theorem Ik:(prog.info? 228).map (fun i=>(i.zero,i.size,i.bytes))=some (some (.agg #[.int .i64 0,.string ⟨#[]⟩,.int .i64 0,.slice none 0 0,.slice none 0 0,.int .i64 0,.string ⟨#[]⟩]),7,104):=by kernel_rfl
theorem Il:(prog.info? 273).map (fun i=>(i.zero,i.size,i.bytes))=some (some (.agg #[.string ⟨#[]⟩,.int .i64 0,.int .i64 0]),3,32):=by kernel_rfl
theorem IY(a b d:Int)(s t:ByteArray)(p e:Option Addr)(f g h i:Nat): ∀u∈([.int .i64 a,.string s,.int .i64 b,.slice p f g,.slice e h i,.int .i64 d,.string t]:List Value),u.oneCell'=true:=by intro u c;simp only[JG,JO,Kg]at c;rcases c with rfl|rfl|rfl|rfl|rfl|rfl|rfl<;>rfl
theorem IN(s:ByteArray)(a b:Int): ∀u∈([.string s,.int .i64 a,.int .i64 b]:List Value),u.oneCell'=true:=by intro u c;simp only[JG,JO,Kg]at c;rcases c with rfl|rfl|rfl<;>rfl
structure SB(c:Cf)(w:World)(x0:Xs)(W:World)(st:St)(x:Xs)(vi vt vn vs:Value):Prop where
 rx:RX c W st x
 gx:GX c w x0 W x
 res:W.heap[w.heap.size]? =some (.cells #[.slice none 0 0,.slice none 0 0,.slice none 0 0,.slice none 0 0,.bool false] 105 (0,0))
 box:W.heap[w.heap.size+1]? =some (.cells #[vi,vt,vn,vs,.bool true] 105 (0,0))
 off: ∀k,w.heap.size<=k->k<=w.heap.size+1->iR c x k
theorem SB.step{c:Cf}{w:World}{d:Xs}{W W':World}{st st':St}{x x':Xs}{e f g h:Value}(a:SB c w d W st x e f g h)(i:RX c W' st' x')(b:GX c W x W' x'):SB c w d W' st' x' e f g h:=
 ⟨i,a.gx.trans b,(b.block (aa a.res) (a.off _ (by omega) (by omega))).trans a.res,(b.block (aa a.box) (a.off _ (by omega) (by omega))).trans a.box,fun k j l=>b.off (by have:=aa a.box;omega) (a.off k j l)⟩
theorem SB.keep{c:Cf}{w:World}{a:Xs}{W W':World}{st:St}{x:Xs}{b d e f:Value}(g:SB c w a W st x b d e f)(h:Below W.heap.size W W'):SB c w a W' st x b d e f:=
 g.step (g.rx.keep h) (GX.below (GX.refl _ _ _) h)
theorem SB.set{c:Cf}{w:World}{d:Xs}{W:World}{st:St}{x:Xs}{e f g h vi' j k vs':Value}{i:Nat}{u:Value}(a:SB c w d W st x e f g h)
  (l: #[e,f,g,h,.bool true].setIfInBounds i u= #[vi',j,k,vs',.bool true]):SB c w d (W.setCell ⟨w.heap.size+1,i,none⟩ u) st x vi' j k vs':=by
 have b:Kp (w.heap.size+1) W (W.setCell ⟨w.heap.size+1,i,none⟩ u):=(Kp.refl _ _).setCell _ _;refine⟨a.rx.kpb b (a.off _ (by omega) (by omega)),a.gx.kpNew b (by omega),(b.block _ (aa a.res) (by omega)).trans a.res,?_,a.off⟩;rw[am a.box,l]
theorem SB.facts{c:Cf}{w:World}{g:Xs}{W:World}{st:St}{x:Xs}{b d e f:Value}(a:SB c w g W st x b d e f):
  ((∀o,W.cell? ⟨w.heap.size,o,none⟩=(#[.slice none 0 0,.slice none 0 0,.slice none 0 0,.slice none 0 0,.bool false]:Array Value)[o]?)/\ ∀o,W.frozen? ⟨w.heap.size,o,none⟩=false)/\
  ((∀o,W.cell? ⟨w.heap.size+1,o,none⟩=(#[b,d,e,f,.bool true]:Array Value)[o]?)/\ ∀o,W.frozen? ⟨w.heap.size+1,o,none⟩=false)/\
  w.heap.size+1<W.heap.size:=
 ⟨blk a.res,blk a.box,aa a.box⟩
structure cS(c:Cf)(w:World)(T:TypeId)(sz:Nat)(W:World)(x:Xs)(v:Value)(n:Nat)(ys:List Value):Prop where
 row:W.ownsRow (w.heap.size+2) T sz v n ys
 off: ∀b,v.ownBlock=some b->iR c x b
theorem cS.step{c:Cf}{w:World}{T:TypeId}{d:Nat}{W W':World}{x x':Xs}{v:Value}{n:Nat}{f:List Value}(a:cS c w T d W x v n f)(g:GX c W x W' x'):cS c w T d W' x' v n f:=
 ⟨yC a.row g a.off,fun b e=>g.off (a.row.lt b e).2 (a.off b e)⟩
theorem cS.keep{c:Cf}{w:World}{T:TypeId}{a:Nat}{W W':World}{x:Xs}{v:Value}{n:Nat}{b:List Value}(d:cS c w T a W x v n b)(e:Below W.heap.size W W'):cS c w T a W' x v n b:=d.step (GX.below (GX.refl _ _ _) e)
theorem cS.set{c:Cf}{w:World}{T:TypeId}{a:Nat}{W:World}{x:Xs}{v:Value}{n i:Nat}{u:Value}{b:List Value}(d:cS c w T a W x v n b):cS c w T a (W.setCell ⟨w.heap.size+1,i,none⟩ u) x v n b:=
 ⟨fh d.row (by show w.heap.size+1<w.heap.size+2;omega),d.off⟩
theorem cS.grown{c:Cf}{w:World}{T:TypeId}{a:Nat}{W W':World}{st:St}{x:Xs}{v:Value}{n g cap m:Nat}{h f:List Value}(i:cS c w T a W x v n h)(j:RX c W st x)(k:W'.ownsRow (w.heap.size+2) T a (.slice (some ⟨g,0,none⟩) m cap) m f)(l:v.ownBlock=some g∨W.heap.size<=g):cS c w T a W' x (.slice (some ⟨g,0,none⟩) m cap) m f:=
 ⟨k,fun b e=>by
  have o:g=b:=by simpa [Value.ownBlock]using e
  subst o
  exact l.elim (fun d=>i.off g d) (fun d=>j.off d)⟩
theorem SB.grown{c:Cf}{w:World}{g:Xs}{T:TypeId}{m:Nat}{W W':World}{st:St}{x:Xs}{v h i j k:Value}{n:Nat}{o:List Value}(a:SB c w g W st x h i j k)(l:cS c w T m W x v n o)(e:W.grownBy W' v.ownBlock):SB c w g W' st x h i j k:=by
 have p:=l.row;have f: ∀d,v.ownBlock=some d->w.heap.size+2<=d:=fun d b=>(p.lt d b).1;refine⟨a.rx.grown e l.off,a.gx.grown e (fun d b=>by have:=f d b;omega),(e.block _ (aa a.res) (fun b=>?_)).trans a.res,(e.block _ (aa a.box) (fun b=>?_)).trans a.box,a.off⟩
 ·have:=f _ b.symm;omega
 ·have:=f _ b.symm;omega
theorem cS.other{c:Cf}{w:World}{T:TypeId}{e:Nat}{W W':World}{x:Xs}{v a:Value}{n:Nat}{f:List Value}(g:cS c w T e W x a n f)(k:W.grownBy W' v.ownBlock)(l: ∀b,v.ownBlock=some b->a.ownBlock≠some b):cS c w T e W' x a n f:=by have h:=g.row;refine⟨⟨h.1,h.2.imp id ?_⟩,g.off⟩;rintro⟨d,m,o,i,p,j,q⟩;refine⟨d,m,o,i,p,(k.block d (aa j) (fun r=>?_)).trans j,q⟩;exact l d r.symm (by rw[i];rfl)
theorem cS.nil(c:Cf)(w:World)(T:TypeId)(a:Nat)(W:World)(x:Xs):cS c w T a W x (.slice none 0 0) 0 []:=⟨JF _ _ _ _,fun d b=>by cases b⟩
theorem BP{W:World}{i j:Nat}{a c:TypeId}{k l m n:Nat}{d e:Value}{o p:List Value}(q:W.ownsRow i a k d m o)(r:W.ownsRow j c l e n p)(s:a≠c): ∀b,d.ownBlock=some b->e.ownBlock≠some b:=fun b f h=>by
 rcases q.2 with⟨rfl,_⟩|⟨g,cap,cur,rfl,_,hh,_⟩
 ·cases f
 ·rcases r.2 with⟨rfl,_⟩|⟨g2,cap2,cur2,rfl,_,hh2,_⟩
  ·cases h
  ·have t:g=b:=by simpa [Value.ownBlock]using f
   have u:g2=b:=by simpa [Value.ownBlock]using h
   subst t u;rw[hh]at hh2;simp only[Ke,L7]at hh2;exact s hh2.2.1
theorem cS.sep{c:Cf}{w:World}{a b:TypeId}{d h:Nat}{W W':World}{x:Xs}{v e:Value}{n i:Nat}{f j:List Value}(g:cS c w a d W x v n f)(k:cS c w b h W x e i j)(l:b≠a)(m:W.grownBy W' e.ownBlock):cS c w a d W' x v n f:=
 g.other m (BP k.row g.row l)
def di{c d:Type}(R:c->d->Prop):List c->List d->Prop
 | [],[]=>True
 |a::e,b::lb=>R a b/\di R e lb
 |_,_=>False
theorem di.imp{c d:Type}{R e:c->d->Prop}(f: ∀a b,R a b->e a b): ∀ {g:List c} {lb:List d},di R g lb->di e g lb
 | [],[],_=>trivial
 |_::_,_::_,h=>⟨f _ _ h.1,di.imp f h.2⟩
theorem di.snoc{c d:Type}{R:c->d->Prop}{a:c}{b:d}(hn:R a b): ∀ {e:List c} {lb:List d},di R e lb->di R (e++[a]) (lb++[b])
 | [],[],_=>⟨hn,trivial⟩
 |_::_,_::_,f=>⟨f.1,di.snoc hn f.2⟩
theorem di.len{a b:Type}{R:a->b->Prop}: ∀ {c:List a} {lb:List b},di R c lb->c.length=lb.length
 | [],[],_=>rfl
 |_::_,_::_,d=>JE (· +1) d.2.len
theorem di.at{g d:Type}{R:g->d->Prop}: ∀ {c:List g} {lb:List d},di R c lb-> ∀ {i:Nat} {b:d},lb[i]? =some b-> ∃a,c[i]? =some a/\R a b
 | [],[],_,i,b,e=>by simp at e
 |a::c,b::lb,f,0,_,e=>by
  obtain rfl:b=_:=by simpa using e
  exact⟨a,rfl,f.1⟩
 |a::c,b::lb,f,i+1,_,e=>di.at f.2 (i:=i) (by simpa using e)
structure RI where
 pl:Int
 call:ByteArray
 n:Int
 v1:Value
 v2:Value
 rw:Int
 asx:ByteArray
def AV(r:RI):List Value:=[.int .i64 r.pl,.string r.call,.int .i64 r.n,r.v1,r.v2,.int .i64 r.rw,.string r.asx]
def fX(l:List RI):List Value:=l.flatMap AV
theorem yE(l:List RI)(e:RI):fX (l++[e])=fX l++AV e:=by simp[fX]
structure RT where
 k:Int
 a:Int
 s:ByteArray
def pI(r:RT):List Value:=[.int .i64 r.k,.int .i64 r.a,.string r.s]
def fj(l:List RT):List Value:=l.flatMap pI
theorem qm(l:List RT)(e:RT):fj (l++[e])=fj l++pI e:=by simp[fj]
structure RP where
 s:ByteArray
 A:Int
 B:Int
def DA(r:RP):List Value:=[.string r.s,.int .i64 r.A,.int .i64 r.B]
def gF(l:List RP):List Value:=l.flatMap DA
theorem yF(l:List RP)(e:RP):gF (l++[e])=gF l++DA e:=by simp[gF]
def me(r:RT)(t:Tk):Prop:=r.a=t.place/\r.s=t.text
def vM(xs:List RE)(r:RP)(t:cn):Prop:=r.s=t.sg/\fF xs r.A t.l/\fF xs r.B t.r
structure qn(xs:List RE)(ri:List RI)(rt rn:List RT)(rs:List RP)(s:dP):Prop where
 items:di (fun r i=>rF xs r.call r.n r.v1 r.v2 r.asx i) ri s.items
 tabs:di (fun r (p:Tk×Tk)=>me r p.1) rt s.srcs
 names:di (fun r (p:Tk×Tk)=>me r p.2) rn s.srcs
 tests:di (vM xs) rs s.tests
end
end Go.Proofs.YtfkeddkfegaeiaaGreatDoor
