import Derived.Test.YtfkeddkfegaeiaaGreatDoorPnNwR
import Derived.Test.YtfkeddkfegaeiaaGreatDoorRows
set_option maxRecDepth 100000
set_option maxHeartbeats 20000000
namespace Go.Proofs.YtfkeddkfegaeiaaGreatDoor
section
open Go.RowKit Tryz
theorem Cd(a:Nat->Addr)(au:Nat)(cd c':Value)(l:List Tb)(J:List ByteArray)(w:World)(ce:cJ a au w)(dd:ij w)(bu:bp w cd l)(df:vY l)(dk:bT l=0)(bv:aS w c' (aB J))(hn:J.length<=1048576)(dp: ∀s∈J,s.size<=281474976710656)(dq: ∀s∈J,∀X,cP s=.ok X->s.size<=1000->Gb X):
  Calls prog 20 #[cd,c',.slice none 0 0] w fun e w'=>e=.returned (.bool true)/\Below w.heap.size w w':=by
 have a':=Cc dk;obtain⟨ds,bz,ft,fv,fw⟩:=dD (Cb a au cd l w ce bu df dk) ce dd bu bv;obtain⟨aj,ak,rfl,-⟩:=id bu;obtain⟨fx,hB,rfl,-⟩:=id bv;obtain⟨fy,dw⟩:=ag dp dq;clear ce dd bu bv dp dq;go_enter func20,ntmps20;go_wp2_with fail;refine ds.mono ?_;rintro e f ⟨h,A,av,d,hC,hD,rfl,Q⟩;have fz:=ab Q
 obtain⟨u,ax⟩: ∃u,u=f.alloc (.cells #[.pointer (some ⟨h,0,none⟩),.pointer (some ⟨d,0,none⟩)] 57):=⟨_,rfl⟩
 have fO:Hid (PI a u (u.alloc (.cells #[.slice none 0 0,.slice none 0 0,.slice none 0 0,.slice none 0 0] 66)) h A d (f.heap.size+1) (.slice (some ⟨av,0,none⟩) l.length l.length) 0 (.slice aj l.length ak) 0 d (.slice none 0 0) [] [] (fun c=>c=f.heap.size+1) (.slice none 0 0) (.slice none 0 0) (.slice none 0 0) [] [] []):=by rw[ax];exact PI.init Q _
 have aU:Hid (∀b,bw (Q3 h A d) u b->Below w.heap.size w b):=fun b z=>by rw[ax]at z;exact Q.below3 _ z
 have f':Hid (∀b,bw (Q3 h A d) u b->bp b (.slice (some ⟨av,0,none⟩) l.length l.length) l):=fun b z=>by rw[ax]at z;exact Q.tabs3 _ z (by have:=df.len;unfold maxLen;omega)
 have ga:Hid (u.heap[f.heap.size]? =some (.cells #[.pointer (some ⟨h,0,none⟩),.pointer (some ⟨d,0,none⟩)] 57 (0,0))):=by rw[ax];exact af rfl
 have hE:=aa Q.qbl;have hF:=aa Q.ybl;have hG:=Q.lmq;have hH:=Q.lqy;have hI:u.heap.size=f.heap.size+1:=by rw[ax];simp
 have dT:=ab ax;clear Q ds ax;go_wp2_with fail;rw[<-U dT];clear dT
 go_loopg [8,10] J.length (fun gb gc gf b=> ∃(o:Nat) (j:Nat) (R:Value) (aV n:List ByteArray) (S:Nat->Prop) (cf cg ch:Value) (bA bF bG:List (Value×Nat)),o+gb=J.length/\gf=.int .i64 (o:Nat)/\gc=.bool true/\PI a u b h A d (f.heap.size+1) (.slice (some ⟨av,0,none⟩) l.length l.length) 0 (.slice aj l.length ak) o j R aV n S cf cg ch bA bF bG)
 case atStart=>exact⟨0,d,_,[],[],_,_,_,_,[],[],[],by omega,rfl,rfl,fO⟩
 case round=>
  obtain⟨o,j,R,aV,n,S,cf,cg,ch,bA,bF,bG,hJ,rfl,rfl,a0⟩:=hrel;have q:=ab a0;have bJ:wr.heap[f.heap.size]? =some (.cells #[.pointer (some ⟨h,0,none⟩),.pointer (some ⟨d,0,none⟩)] 57 (0,0)):=(a0.turn.block _ (by omega) (fun e=>by rcases e with e|e|e<;>omega)).trans ga;obtain⟨bL,d'⟩:=blk bJ;have ci:=aa bJ;have cj:wr.cell? ⟨f.heap.size,0,none⟩=some (.pointer (some ⟨h,0,none⟩)):=bL 0;have cl:wr.cell? ⟨f.heap.size,1,none⟩=some (.pointer (some ⟨d,0,none⟩)):=bL 1;by_cases gg:o<J.length
  ·have gi:decide (o<J.length)=true:=by simp;omega
   obtain⟨cp,rfl⟩: ∃cp,gk=cp+1:=⟨gk-1,by omega⟩
   have ay:Hid (Below w.heap.size w wr):=(U aU) wr a0.turn
   obtain⟨s,cq⟩: ∃s,J[o]? =some s:=⟨_,Jl gg⟩
   obtain⟨K,aA,rfl,gl,gm⟩: ∃r bN,fx=some ⟨r,bN,none⟩/\r<w.heap.size/\w.cell? ⟨r,bN+o,none⟩=some (.string s):=by obtain⟨hK,hL,cr,-,cs⟩:=U fw;injection cr with cr hM hN;subst cr;obtain⟨r,bN,rfl,gn,cs⟩:=cs (by simp[aB];omega);exact⟨r,bN,rfl,gn,by rw[cs o (by simp[aB];omega),aB,J7,cq];rfl⟩
   have ea:=(ay.cell (p:=⟨K,aA+o,none⟩) gl).trans gm;have gq:K<wr.heap.size:=by have:=ay.size;omega
   have ct:=JL cq;obtain⟨a1,p,y,rows,cu⟩:=Vd.ex l s;have cv:=bz.env.size;have hO:=fz.lm;have eb:Hid (∀b,Below wr.heap.size wr b->Calls prog 25 #[.pointer (some ⟨h,0,none⟩),.string s] b fun e w'=> ∃aI aJ cz D V,e=.returned (.tuple #[.agg #[aI,aJ],cz])/\Xa a b w' a1 p y rows aI aJ cz/\aF h A b w'/\Qs a w' h A (.slice (some ⟨av,0,none⟩) l.length l.length) 0 D V/\oJ aV s D (n.length:Nat) V):=fun b z=>by have ba:=q.below z;have ed:=(U aU) b ba.turn;have hP:=ba.kl;have gr:=ba.tl;exact Ha a au b (bz.keep (ed.mono cv)) (ft.keep (Js (by decide) (Jt bz.env.low cv)) ed) h A (by omega) (by omega) av 0 l.length l 0 (n.length:Nat) ⟨by omega,by omega⟩ aV (by omega) ba.qs s (fy s ct) (dw s ct) (fun L cF=>(U f') L (ba.turn.trans (cF.turn (S:=Q3 h A d) (Or.inl rfl) (Or.inr (Or.inl rfl))) (fun _ _ e=>e))) (fun v W=>(a'.2 v W).1) (fun v W=>(a'.2 v W).2.1) (fun v W=>(a'.2 v W).2.2) cu
   have hQ:(0:Int)<=(o:Int):=by omega
   have hR:(o:Int)<(J.length:Int):=by omega
   have hS:decide ((o:Int)<0)=false:=by simp
   have gs:=ab cu;have ef:Hid (∀k,aF h A wr k->k.cell? ⟨f.heap.size,0,none⟩=some (.pointer (some ⟨h,0,none⟩))/\k.cell? ⟨f.heap.size,1,none⟩=some (.pointer (some ⟨d,0,none⟩))/\k.cell? ⟨K,aA+o,none⟩=some (.string s)):=fun k C=>by have al:=C.block f.heap.size ci (by omega) (by omega);have cI:=C.block K gq (by omega) (by omega);exact⟨(World.cell?_of_block (w:=wr) (a:=⟨f.heap.size,0,none⟩) al).trans cj,(World.cell?_of_block (w:=wr) (a:=⟨f.heap.size,1,none⟩) al).trans cl,(World.cell?_of_block (w:=wr) (a:=⟨K,aA+o,none⟩) cI).trans ea⟩
   clear a0 bL d' bJ cq cu
   go_upto_region 10 with(fail)
   go_cut [11,12]from 51 to 60 (fun gt gw b=> ∃bx aI aJ D V,gt=.pointer (some ⟨bx,0,none⟩)/\wr.heap.size<=bx/\b.heap[bx]? =some (.cells #[aI,aJ] 68 (0,0))/\Xa a wr b a1 p y rows aI aJ gw/\aF h A wr b/\Qs a b h A (.slice (some ⟨av,0,none⟩) l.length l.length) 0 D V/\oJ aV s D (n.length:Nat) V)
   case first=>
    go_region_held3 (fun b=>b.cell? ⟨f.heap.size,0,none⟩=some (.pointer (some ⟨h,0,none⟩))/\b.cell? ⟨K,aA+o,none⟩=some (.string s)) (first|go_keep|(refine⟨?_,?_⟩<;>(rw[dj _ _ _ _ (by omega),dj _ _ _ _ (by omega)];assumption))) (first
     |(go_at_call 25;refine(eb _ (by repeat(first|exact Jj _ _|apply JI|refine JY ?_ (by first|exact Ji _|simp) _))).mono ?_;rintro e k ⟨aI,aJ,cz,D,V,rfl,B,Y,bb,bc⟩;obtain⟨t,Z⟩:=id B.rws;obtain⟨E,F,rfl⟩:=bi B.own;obtain⟨G,H,rfl⟩:=bi Z.own;have bS:aF h A wr k:=aF.trans (Below.off2 (by repeat(first|exact Jj _ _|apply JI|refine JY ?_ (by first|exact Ji _|simp) _))) Y;obtain⟨eg,-,ei⟩:=(U ef) k bS;have gx:=bS.size;have en:=ab B;have eo:=ab bS;have ep:=ab bb;have eq:=ab bc;(try(have ac:k.heap[wr.heap.size]? =some (.cells #[.slice none 0 0,.slice none 0 0] 68 (0,0)):=(Y.block wr.heap.size (by simp) (by omega) (by omega)).trans (af rfl);obtain⟨bX,er⟩:=blk ac;have gy:=aa ac;have cL:=ab ac;clear ac));clear B Z Y bS bb bc))
    all_goals
     go_wp2_with fail;go_meet
     case rel=>
      first
       |exact⟨wr.heap.size,_,_,D,V,rfl,Ji _,(am (am cL _) _).trans rfl,en.box (by simp) (bx:=wr.heap.size) ((aF.setCell _ _ _ _ _).trans (aF.setCell _ _ _ _ _)) (fun a2 v e=>by rw[U cL]at e;injection e with e;injection e with _ e _;exact e.symm),eo.box ((aF.setCell _ _ _ _ _).trans (aF.setCell _ _ _ _ _)) (Ji _),ep.box ((aF.setCell _ _ _ _ _).trans (aF.setCell _ _ _ _ _)) cL iM (by omega) (by omega),eq⟩
       |exact⟨k.heap.size,_,_,D,V,rfl,gx,af rfl,en.box (by simp) (bx:=k.heap.size) (Below.off2 ((Jj _ _).alloc (Ji _) _)) (fun a2 v e=>absurd (aa e) (by omega)),eo.trans (Below.off2 ((Jj _ _).alloc (Ji _) _)),ep.below ((Jj _ _).alloc (Ji _) _),eq⟩
   case rest=>
    obtain⟨bx,aI,aJ,D,V,rfl,gy,ac,B,Y,bb,bc⟩:=hcut;generalize wc=i at*;obtain⟨eg,ei,gJ⟩:=(U ef) i Y;have hT:=Y.size;obtain⟨t,Z⟩:=id B.rws;obtain⟨E,F,rfl⟩:=bi B.own;obtain⟨G,H,rfl⟩:=bi Z.own;obtain⟨be,es,b0⟩:=q.ask Y ⟨by omega,by omega⟩ ⟨by omega,by omega,by omega⟩;have gQ:=(U aU) i b0
    have gW:Hid (∀b,Below i.heap.size i b->Calls prog 26 #[.agg #[.pointer (some ⟨h,0,none⟩),.pointer (some ⟨d,0,none⟩)],.agg #[.slice E y.length F,.slice G t.length H],u12,.string s] b fun e w'=>e=.returned (.bool true)/\aF d j i w'/\ ∃g m,Yq w' d g u.heap.size (.slice aj l.length ak) m (gI n s)/\(g=j∨i.heap.size<=g)/\(m.ownBlock=some g∨(g=j/\m=R))):=fun b z=>by
     have cN:=q.th;have gr:=q.tl;have hV:=z.size;have hW:=b0.size;have hX:=be.lt
     have b1: ∀L,Below b.heap.size b L->Calls prog 52 #[.pointer (some ⟨d,0,none⟩),.string s] L fun e w'=> ∃b2 b3,e=.returned (.tuple #[b2,b3,.agg #[.int .i64 a1,.int .i64 p]])/\aS w' b2 (aB y)/\bZ w' b3 rows/\aS w' (.slice E y.length F) (aB y)/\bZ w' (.slice G t.length H) rows/\aF d j L w'/\((aw kT 0 i w'/\cJ a au w')/\ ∃g m,Yq w' d g u.heap.size (.slice aj l.length ak) m (gI n s)/\(g=j∨i.heap.size<=g)/\(m.ownBlock=some g∨(g=j/\m=R))):=fun L cF=>by
      have aL:Below i.heap.size i L:=z.trans (cF.mono z.size);have hY:=aL.size;have g0:=q.tn;have ad: ∀a3,aF d j L a3->bw (Q3 h A d) u a3:=fun a3 M=>(b0.trans (bw.below (S:=fun _=>False) aL) (fun _ _ e=>e.elim)).trans (M.turn (S:=fun c=>c=d∨c=j) (Or.inl rfl) (Or.inr rfl)) (fun r I e=>by rcases e with e|e;exact Or.inr (Or.inr e);rcases cN with N|N;exact Or.inr (Or.inr (e.trans N));omega);refine(G8 L d j _ _ R n (be.below aL) (by omega) (by omega) s l (by omega) (dw s ct) (fun a3 M=>fv.keep (aU a3 (ad a3 M))) (fun v W=>(a'.2 v W).2.1) (fun v W=>(a'.2 v W).2.2) gs).mono ?_;rintro e w' ⟨b2,b3,rfl,N,M,bg,g,m,cR,C,g1⟩;have et:=q.yq.lt;have cT:bw (fun c=>c=d∨c=j) L w':=bg.turn (Or.inl rfl) (Or.inr rfl);have ev:=be.below aL;have b4:=cE (dJ B.own aL) cT (fun r I e=>by have:=(B.own.lt r I).1;rcases e with e|e<;>omega)
      have a4:=(Z.turn (T:=fun _=>False) (bw.below aL) (fun _ _ e=>e) (fun _ _ _ _ e=>e)).turn cT (fun r I e=>by have:=(Z.own.lt r I).1;rcases e with e|e<;>omega) (fun bk cV r I e=>by
       have hZ:=(B.blocks Z r (Or.inr (Or.inr ⟨bk,cV,I⟩))).1
       rcases e with e|e<;>omega)
      have g2:aw kT 0 L w':=aw.turn cT (fun c a2 v e x=>by
       by_cases cW:c=d
       ·rw[cW,ev.blk]at x;injection x with x;injection x with _ x _;rw[<-x];decide
       ·have ex:c=j:=e.elim (fun e=>absurd e cW) id;rcases g0 with bl|bl
        ·obtain⟨h0,g3⟩:=aO ev.txt bl;rw[ex,g3]at x;injection x with x;injection x with _ x _;rw[<-x];decide
        ·exact absurd (ex.trans bl) cW)
      exact⟨b2,b3,rfl,N,M,eL b4,⟨t,eL a4.own,a4.len,fun c g4 bk bl g6=>eL (a4.at' c bk g4 g6 bl).1⟩,bg,⟨(aw.ofBelow aL).trans g2,bz.keep ((aU w' (ad w' bg)).mono cv)⟩,g,m,cR,by rcases C with C|C;exact Or.inl C;exact Or.inr (by omega),g1⟩
     have ez: ∀O bn:World,Below O.heap.size O bn->((aw kT 0 i O/\cJ a au O)/\ ∃g m,Yq O d g u.heap.size (.slice aj l.length ak) m (gI n s)/\(g=j∨i.heap.size<=g)/\(m.ownBlock=some g∨(g=j/\m=R)))->((aw kT 0 i bn/\cJ a au bn)/\ ∃g m,Yq bn d g u.heap.size (.slice aj l.length ak) m (gI n s)/\(g=j∨i.heap.size<=g)/\(m.ownBlock=some g∨(g=j/\m=R))):=fun O bn cZ ⟨⟨g7,eN⟩,g,m,eR,eT⟩=>⟨⟨g7.trans (aw.ofBelow cZ),eN.keep (cZ.mono eN.env.size)⟩,g,m,eR.below cZ,eT⟩
     have eX:d<b.heap.size:=by omega
     have e0:j<b.heap.size:=by omega
     by_cases a5:a1=0
     ·obtain⟨g8,c0,h1,e1⟩:=B.ok a5;rw[c0];rw[a5,g8]at b1;refine(B7 b h d j eX e0 E _ F G _ H s 0 0 y rows _ (by omega) b1 ez (fun O _=>vO O)).mono ?_;rintro e w' ⟨rfl,c1,c2⟩;exact⟨rfl,(Below.off2 z).trans c1,c2.2⟩
     ·obtain⟨g9,g',bv,e1,⟨v,ha,c0,e2⟩,e3⟩:=B.err a5;rw[g9,g']at b1⊢;rw[c0]at e2 e3⊢;refine(Ai b h d j eX e0 v ha e2 s a1 p y rows _ (by rw[e1];exact KO _) b1 ez (fun O e4=>e3 au O e4.1.2 e4.1.1)).mono ?_;rintro e w' ⟨rfl,c1,c2⟩;exact⟨rfl,(Below.off2 z).trans c1,c2.2⟩
    obtain⟨bX,er⟩:=blk ac;have hb:=aa ac;have d0:i.cell? ⟨bx,0,none⟩=some (.slice E y.length F):=bX 0;have d1:i.cell? ⟨bx,1,none⟩=some (.slice G t.length H):=bX 1;have hc:f.heap.size<i.heap.size:=by omega
    have hd:K<i.heap.size:=by omega
    obtain⟨b5,c3,he,hf,hg,h2,hh,h3⟩:=A0 B Z Y bb bc be es ac;clear B Z Y bb bc be es b0 gQ ac bX er eb cj cl ea;have e5:Hid (∀k,aF d j i k->k.cell? ⟨f.heap.size,0,none⟩=some (.pointer (some ⟨h,0,none⟩))/\k.cell? ⟨f.heap.size,1,none⟩=some (.pointer (some ⟨d,0,none⟩))/\k.cell? ⟨K,aA+o,none⟩=some (.string s)/\k.cell? ⟨bx,0,none⟩=some (.slice E y.length F)/\k.cell? ⟨bx,1,none⟩=some (.slice G t.length H)):=fun k C=>by have cN:=q.th;have et:=q.yq.lt;have hi:=ay.size;have al:=C.block f.heap.size hc (by omega) (by omega);have cI:=C.block K hd (by omega) (by omega);have e6:=C.block bx hb (by omega) (by omega);exact⟨(World.cell?_of_block (w:=i) (a:=⟨f.heap.size,0,none⟩) al).trans eg,(World.cell?_of_block (w:=i) (a:=⟨f.heap.size,1,none⟩) al).trans ei,(World.cell?_of_block (w:=i) (a:=⟨K,aA+o,none⟩) cI).trans gJ,(World.cell?_of_block (w:=i) (a:=⟨bx,0,none⟩) e6).trans d0,(World.cell?_of_block (w:=i) (a:=⟨bx,1,none⟩) e6).trans d1⟩
    go_upto_region 11 with(fail)
    go_cut [8]from 61 to 68 (fun hj b=>hj=.bool true/\aF d j i b/\ ∃g m,Yq b d g u.heap.size (.slice aj l.length ak) m (gI n s)/\(g=j∨i.heap.size<=g)/\(m.ownBlock=some g∨(g=j/\m=R)))
    case first=>
     go_region_held3 (fun b=>b.cell? ⟨f.heap.size,0,none⟩=some (.pointer (some ⟨h,0,none⟩))/\b.cell? ⟨f.heap.size,1,none⟩=some (.pointer (some ⟨d,0,none⟩))/\b.cell? ⟨K,aA+o,none⟩=some (.string s)/\b.cell? ⟨bx,0,none⟩=some (.slice E y.length F)/\b.cell? ⟨bx,1,none⟩=some (.slice G t.length H)) (go_keep) (first
      |(go_at_call 26;refine(gW _ (by repeat(first|exact Jj _ _|apply JI))).mono ?_;rintro e c4 ⟨rfl,c5,e7⟩;obtain⟨b6,b7,e8,e9,e'⟩:=(U e5) c4 c5;have hk:=ab c5;have hl:=ab e7;clear c5 e7))
     all_goals
      go_wp2_with fail;go_meet
      case rel=>exact⟨rfl,hk,hl⟩
    case rest=>
     obtain⟨rfl,bq,g,m,fa,fb,fc⟩:=hcut;generalize wc=P at*;obtain⟨b6,b7,e8,e9,e'⟩:=(U e5) P bq;have cN:=q.th;have et:=q.yq.lt;have hi:=ay.size;have h4:=bq.size;have fe:=q.turn.size;have br:bw (fun c=>c=d∨c=j) i P:=bq.turn (Or.inl rfl) (Or.inr rfl);have bs:=b5.blocks c3;have bt: ∀c,jO (.slice E y.length F) (.slice G t.length H) t c-> ¬(c=d∨c=j):=fun c x e=>by have:=(bs c x).1;rcases e with e|e<;>omega
     have fg:=hh.turn br (fun r b9 e=>by
      rcases e with e|e
      ·have:=(q.bk.st r b9).1;omega
      ·exact q.nt (by rw[<-e];exact b9))
     have b4:=nU (cE b5.own br (fun r I=>bt r (Or.inl I))) fe;have a4:=(c3.turn br (fun r I=>bt r (Or.inr (Or.inl I))) (fun bk cV r I=>bt r (Or.inr (Or.inr ⟨bk,cV,I⟩)))).low fe
     have c6:y.length<=6/\t.length<=4000:=by
      have fk:=c3.len;by_cases a5:a1=0
      ·obtain⟨-,-,N,M⟩:=b5.ok a5;exact⟨N,by omega⟩
      ·obtain⟨-,-,N,M,-⟩:=b5.err a5;rw[M]at fk;rw[N,fk];exact⟨by simp,by simp⟩
     have h5:=q.el;have h6:=q.xl;have h7:=q.rl;have hm:=ab (DV P (f.heap.size+1) u.heap.size S cf cg ch bA bF bG fg (by omega) (by omega) (by omega) (by omega) _ y b4 c6.1 _ t rows a4 c6.2 (fun c x b9=>by have:=(bs c x).1;have:=(q.bk.st c b9).2.1;omega));have fl: ∀c,jO (.slice E y.length F) (.slice G t.length H) t c->wr.heap.size<=c/\c<i.heap.size/\ ∃a2 v,P.heap[c]? =some (.cells a2 v (0,0))/\kT v=false:=fun c x=>by obtain⟨N,M,a2,v,bg,cR⟩:=bs c x;exact⟨N,M,a2,v,(br.block c M (bt c x)).trans bg,cR⟩
     have ho:Hid (∀(ae:World) (aN aR aT:Value) (an ao ap:List (Value×Nat)) (ar:Nat->Prop),an.length=bA.length+4*t.length->ao.length=bF.length+4->ap.length=bG.length+4->Bk ae (f.heap.size+1) u.heap.size ar aN aR aT an ao ap->(∀c,ar c->S c∨jO (.slice E y.length F) (.slice G t.length H) t c∨P.heap.size<=c)->bw (fun c=>S c∨jO (.slice E y.length F) (.slice G t.length H) t c) P ae->PI a u ae h A d (f.heap.size+1) (.slice (some ⟨av,0,none⟩) l.length l.length) 0 (.slice aj l.length ak) (o+1) g m D (gI n s) ar aN aR aT an ao ap):=fun ae aN aR aT an ao ap ar c7 c8 c9 b' ca ad=>q.fin he ⟨by omega,by omega⟩ ⟨by omega,by omega,by omega⟩ hf hg bq fa fb fc fl b' ca ad c6.2 c7 c8 c9
     have hp:Hid (∀k,bw (fun c=>S c∨jO (.slice E y.length F) (.slice G t.length H) t c) P k->k.cell? ⟨f.heap.size,0,none⟩=some (.pointer (some ⟨h,0,none⟩))/\k.cell? ⟨f.heap.size,1,none⟩=some (.pointer (some ⟨d,0,none⟩))):=fun k C=>by
      have al:=C.block f.heap.size (by omega) (fun e=>by
       rcases e with e|e
       ·have:=(q.bk.st _ e).1;omega
       ·have:=(bs _ e).1;omega)
      exact⟨(World.cell?_of_block (w:=P) (a:=⟨f.heap.size,0,none⟩) al).trans b6,(World.cell?_of_block (w:=P) (a:=⟨f.heap.size,1,none⟩) al).trans b7⟩
     have h8:=q.turn.size;have h9:f.heap.size<P.heap.size:=by omega
     clear bq fa fb fc br bs bt fg b4 a4 fl;go_wp2_with fail;refine hm.mono ?_;rintro e ae ⟨rfl,aN,aR,aT,an,ao,ap,ar,c7,c8,c9,b',ca,ad⟩;obtain⟨hq,fn⟩:=(U hp) ae ad;have eR:=ad.size;have hr:f.heap.size<ae.heap.size:=by omega
     have fo:=ab (ho ae aN aR aT an ao ap ar c7 c8 c9 b' ca ad);clear b' ca ad b6 b7 e8 e9 e';have hs:=ab (tN a ae h A _ _ _ D fo.qs);go_wp2_with fail;refine hs.mono ?_;rintro e fp ⟨rfl,cb⟩;have h':=(cb.cell (p:=⟨f.heap.size,1,none⟩) hr).trans fn;have eT:=cb.size;have a9:=ab (fo.below cb);have ht:=ab (tX fp d g _ _ m (gI n s) a9.yq);have ic:=a9.el;have ih:=a9.xl;have ik:=a9.rl;have hu:=ab (FM fp (f.heap.size+1) u.heap.size ar aN aR aT an ao ap a9.bk (by omega) (by omega) (by omega));clear cb hq fn;go_wp2_with fail;refine ht.mono ?_;rintro e k ⟨rfl,hv⟩;obtain rfl:=hv.symm;go_wp2_with fail;refine hu.mono ?_;rintro e c4 ⟨rfl,fq⟩;have hw:=ab (a9.below fq);clear fq;have hx:(((gI n s).length:Int)==((gI n s).length:Int))=true:=by simp
     have il:(((gI n s).length:Int) !=((gI n s).length:Int))=false:=by simp
     go_wp2;go_roundg cp
     case measure=>omega
     case rel=>exact⟨o+1,g,m,D,gI n s,ar,aN,aR,aT,an,ao,ap,by omega,by go_num,rfl,hw⟩
  ·have gi:decide (o<J.length)=false:=by simp;omega
   have hy:Hid (∀b,Below wr.heap.size wr b->Calls prog 29 #[.pointer (some ⟨h,0,none⟩)] b fun e w'=>e=.returned (.int .i64 (n.length:Nat))/\Below b.heap.size b w'):=fun b z=>tN a b h A _ _ _ aV (q.qs.below z);have hz:Hid (∀b,Below wr.heap.size wr b->Calls prog 30 #[.pointer (some ⟨d,0,none⟩)] b fun e w'=>e=.returned (.int .i64 (n.length:Nat))/\w'=b):=fun b z=>tX b d j _ _ R n (q.yq.below z);have ay:Hid (Below w.heap.size w wr):=(U aU) wr a0.turn;clear a0 bL d' bJ;go_wp2_with fail;have hx:(((n.length:Nat):Int)==((n.length:Nat):Int))=true:=by simp
   generalize((n.length:Nat):Int)=ip at*
   go_region_held3 (fun b=>b.cell? ⟨f.heap.size,0,none⟩=some (.pointer (some ⟨h,0,none⟩))/\b.cell? ⟨f.heap.size,1,none⟩=some (.pointer (some ⟨d,0,none⟩))) (go_keep) (first
    |(go_at_call 29;refine(hy _ (by repeat(first|exact Jj _ _|apply JI))).mono ?_;rintro e k ⟨rfl,fr⟩;have cc:Below wr.heap.size wr k:=Kn (by repeat(first|exact Jj _ _|apply JI)) fr;have b6:=(cc.cell (p:=⟨f.heap.size,0,none⟩) ci).trans cj;have b7:=(cc.cell (p:=⟨f.heap.size,1,none⟩) ci).trans cl;have fs:=ab cc;clear fr cc)
    |(go_at_call 30;refine(hz _ (by first|exact U fs|(repeat(first|exact Jj _ _|apply JI)))).mono ?_;rintro e c4 ⟨rfl,hA⟩;obtain rfl:=hA.symm))
   all_goals
    go_wp2;go_ret;exact⟨rfl,ay.trans (fs.mono ay.size)⟩
def lF(l:List ByteArray):List ByteArray:=l.filter fun a=> !l6 a
theorem Ce{l:List ByteArray}{i:Nat}{s:ByteArray}(a:l[i]? =some s):lF (l.take (i+1))=lF (l.take i)++if l6 s then []else [s]:=by
 obtain⟨c,rfl⟩:=Jy.1 a;unfold lF;rw[K',a,Ma]
 congr 1
 cases b:l6 l[i]<;>simp[b]
theorem D7{l:List ByteArray}{s:ByteArray}(a:s∈lF l):s∈l/\l6 s=false:=by obtain⟨b,c⟩:=List.mem_filter.1 a;exact⟨b,by simpa using c⟩
theorem D8(l:List ByteArray):(lF l).length<=l.length:=Lz _ _
theorem Cg(a:Nat->Addr)(v:Nat)(i G:Value)(l:List Tb)(b:List ByteArray)(w:World)(j:cJ a v w)(H:ij w)(q:bp w i l)(x:vY l)(y:aS w G (aB b))(hn:b.length<=1048576)(z: ∀s∈b,s.size<=281474976710656):
  Calls prog 6 #[i,G] w fun e w'=>e=.returned (.bool true)/\Below w.heap.size w w':=by
 have A:=j.env.size
 have X:Hid (∀(d:World) (k:Value) (m:List ByteArray),Below w.heap.size w d->aS d k (aB m)->m.length<=1048576->(∀s∈m,s∈b/\l6 s=false)->Calls prog 20 #[i,k,.slice none 0 0] d fun e w'=>e=.returned (.bool true)/\Below d.heap.size d w'):=fun d k m n Y Z B=>by
  by_cases I:bT l=0
  ·exact Cd a v i k l m d (j.keep (n.mono A)) (H.keep (Js (by decide) (Jt j.env.low A)) n) (q.keep n) x I Y Z (fun s f=>z s (B s f).1) (fun s f ba ac ad=>G7 ac ad (vX (B s f).2).1 (vX (B s f).2).2)
  ·exact D6 a v i k l d (j.keep (n.mono A)) (q.keep n) x I
 obtain⟨ae,J,K⟩:=Jq.1 lh;simp only[JB]at K;obtain⟨L,M,N⟩:=K;obtain⟨aj,ak,al,an⟩:=aP J L M N;obtain⟨ao,ap,rfl,-⟩:=id q;have ar:=ab y;obtain⟨au,bb,rfl,-⟩:=id y;have av:=ab z;clear j H q x y z J L M N;rw[show(aB b).length=b.length from by simp[aB]]at*;go_enter func6,ntmps6;go_wp2_with fail
 go_loopg [5,6] b.length (fun ax ay aA d=> ∃c:Nat,c+ax=b.length/\aA=.int .i64 (c:Nat)/\d.ownsRow w.heap.size 9 1 ay (lF (b.take c)).length (aB (lF (b.take c)))/\Below w.heap.size w d)
 case atStart=>exact⟨0,by omega,rfl,JF _ _ _ _,Jj _ _⟩
 case round=>
  obtain⟨c,bc,rfl,g,hz⟩:=hrel;obtain⟨r,C⟩:=ag g hz;have O:=D8 (b.take c);rw[JU]at O;obtain⟨aI,aJ,rfl⟩:=dB g;have P:=hz.size;by_cases aL:c<b.length
  ·have aN:decide (c<b.length)=true:=by simp;omega
   obtain⟨t,rfl⟩: ∃t,gk=t+1:=⟨gk-1,by omega⟩
   obtain⟨s,f⟩: ∃s,b[c]? =some s:=⟨_,Jl aL⟩
   obtain⟨Q,aR,rfl,aT,R⟩: ∃o u,au=some ⟨o,u,none⟩/\o<w.heap.size/\w.cell? ⟨o,u+c,none⟩=some (.string s):=by obtain⟨be,bg,D,-,E⟩:=U ar;injection D with D bk bl;subst D;obtain⟨o,u,rfl,aU,E⟩:=E (by simp[aB];omega);exact⟨o,u,rfl,aU,by rw[E c (by simp[aB];omega),aB,J7,f];rfl⟩
   have c1:=(hz.cell (p:=⟨Q,aR+c,none⟩) aT).trans R;have bn:Q<wr.heap.size:=by omega
   obtain⟨S,aV⟩:=ag (Ce f) (fun d=>B' s d (av s (JL f)));have bq:(0:Int)<=(c:Int):=by omega
   have br:(c:Int)<(b.length:Int):=by omega
   have bs:decide ((c:Int)<0)=false:=by simp
   generalize lF (b.take c)=bt at*;clear g hz f R;go_wp2_with fail;refine(aV _).mono ?_;rintro e a0 ⟨rfl,a1⟩;obtain rfl:=a1.symm
   cases T:l6 s with
   |true=>
    go_wp2;go_roundg t
    case measure=>omega
    case rel=>refine⟨c+1,by omega,by go_num,?_,C⟩;rw[U S,T,Jo rfl,JD];exact r
   |false=>
    go_wp2_with (at_builtin;refine Kd _ rfl _ _ 39 rfl w.heap.size 9 ae (.string ⟨#[]⟩) 1 16 underlying39 aj ak al an rfl (by decide) _ _ _ rfl (r.alloc _) ⟨wr.heap.size,0,none⟩ 1 1 [.string s] rfl rfl ?c1 ?c2 ?c3 ?c4 ?c5 ?_)
    case c1=>exact ge (af rfl)
    case c2=>exact tD s
    case c3=>unfold maxLen;omega
    case c4=>omega
    case c5=>simp;omega
    intro bu bv g V _;obtain⟨a2,a3⟩:=ag g ((C.alloc P _).grown V (by simp;omega) (fun a4 a5=>(r.lt a4 a5).1));clear g V;go_wp2;go_roundg t
    case measure=>omega
    case rel=>refine⟨c+1,by omega,by go_num,?_,a3⟩;rw[U S,T,Jn (by simp),Jk,aB,Ks];exact a2
  ·have aN:decide (c<b.length)=false:=by simp;omega
   have F:b.take c=b:=JJ (by omega);rw[F]at r O;have a9:Hid (Calls prog 20 #[.slice ao l.length ap,.slice aI (lF b).length aJ,.slice none 0 0] wr fun e w'=>e=.returned (.bool true)/\Below wr.heap.size wr w'):=(U X) wr _ (lF b) hz (eL (by rw[F]at g;exact g)) (by omega) (fun s f=>D7 f);rw[F]at*;clear g hz;go_wp2_with fail;refine a9.mono ?_;rintro e a0 ⟨rfl,W⟩;have a':=ab W;clear W;go_wp2;go_ret;exact⟨rfl,C.trans (a'.mono P)⟩
end
section
open Go.RowKit Go.ChangeShapes Go.WideShapes Go.ChangeAt Go.ChangeMaps Tryz
section
variable {H : Type} {enc : TypeId × Value → H} {W : World} {sp : Nat → Bool} {held : Bool}
theorem FV(d:DataW H):1<=Rows.uptoBulk d:=by
 cases d with
 |lit a=>cases a<;>simp[Rows.uptoBulk]
 |nil=>simp[Rows.uptoBulk]
 |ptr d=>simp[Rows.uptoBulk]
 |slice b c=>simp[Rows.uptoBulk]
 |agg parts=>simp[Rows.uptoBulk]
 |iface e d=>simp[Rows.uptoBulk]
 |map f=>simp[Rows.uptoBulk]
 |held g=>simp[Rows.uptoBulk]
theorem nw(l:List (DataW H)):l.length<=Rows.uptoBulkAll l:=by
 induction l with
 |nil=>simp[Rows.uptoBulkAll]
 |cons a b c=>have:=FV a;simp only[Rows.uptoBulkAll,Ju];omega
theorem qA{d:DataW H}{l:List (DataW H)}(b:d∈l):Rows.uptoBulk d<=Rows.uptoBulkAll l:=by
 induction l with
 |nil=>cases b
 |cons e f c=>
  simp only[Rows.uptoBulkAll]
  cases JG.1 b with
  |inl a=>subst a;omega
  |inr a=>have:=c a;omega
theorem jc(a b:List (DataW H)):Rows.uptoBulkAll a<=Rows.uptoBulk (.slice a b):=by simp only[Rows.uptoBulk];omega
theorem y9:prog.cellsOf 9=1:=by kernel_rfl
theorem It:prog.cellsOf 3=1:=by kernel_rfl
theorem Iu:prog.cellsOf 32=1:=by kernel_rfl
theorem Iv:prog.cellsOf 39=1:=by kernel_rfl
theorem He:prog.cellsOf 42=1:=by kernel_rfl
theorem Hf:prog.cellsOf 204=3:=by kernel_rfl
theorem fC{b o:Nat}(j:Nat):(⟨b,o,none⟩:Addr).add j=⟨b,o+j,none⟩:=by unfold Addr.add;split<;>simp_all
theorem oM{b o:Nat}{v:Value}(a:W.cell? ⟨b,o,none⟩=some v):b<W.heap.size:=by
 rcases J' b W.heap.size with h'|h'
 ·exact h'
 ·simp[World.cell?,Array.getElem?_eq_none h']at a
theorem Ch{n:Nat}{cs:List Value}{d:DataW H}{p:List MemPlace}(g:DataW.trod enc prog W 0 sp held n 39 cs=some (d,p)): ∃(v:Value) (ts:List ByteArray),cs=[v]/\aS W v (aB ts)/\ts.length<=lX v/\ts.length<=Rows.uptoBulk d:=by
 rcases open_strings underlying39 underlying9 y9 g with⟨rfl,hx⟩|⟨a,len,cap,ss,rfl,_,hl,hm,hz,hx,hcell,_⟩
 ·exact⟨_,[],rfl,⟨none,0,rfl,by unfold maxLen;simp,fun c=>by simp at c⟩,by simp,by simp⟩
 ·have o:len<=ss.length:=by rw[hz];split<;>omega
  have b:(ss.take len).length=len:=by rw[JU];omega
  injection hx with h _;subst h;refine⟨_,ss.take len,rfl,⟨some a,cap,by rw[Jm,b],by rw[Jm,b];omega,fun c=>?_⟩,by rw[b];exact hl,?_⟩
  ·rw[Jm,b]at c;obtain⟨i,j,k⟩:=a;have e:=hcell 0 (by omega);have l:k=none:=by simpa [Addr.add]using LH e
   subst l;rw[fC]at e;refine⟨i,j,rfl,oM e,fun m f=>?_⟩;rw[Jm,b]at f;have:=hcell m (by omega);rw[fC]at this;rw[this,J7,Kh f,Jl (by omega),JC,Jl (by omega)];rfl
  ·have q:=jc (H:=H) (strs (ss.take len)) (strs (ss.drop len));have r:=nw (H:=H) (strs (ss.take len));have s:(strs (H:=H) (ss.take len)).length=(ss.take len).length:=by simp[strs]
   omega
theorem D9{n:Nat}{cs:List Value}{d:DataW H}{p:List MemPlace}(h:DataW.trod enc prog W 0 sp held n 32 cs=some (d,p)): ∃(v:Value) (f:List Int),cs=[v]/\aS W v (aE f)/\f.length<=Rows.uptoBulk d:=by
 rcases open_ints underlying32 underlying3 It h with⟨rfl,hx⟩|⟨a,len,cap,ss,rfl,_,hl,hm,hz,hx,hcell,_⟩
 ·exact⟨_,[],rfl,⟨none,0,rfl,by unfold maxLen;simp,fun c=>by simp at c⟩,by simp⟩
 ·have q:len<=ss.length:=by rw[hz];split<;>omega
  have b:(ss.take len).length=len:=by rw[JU];omega
  injection hx with i _;subst i;refine⟨_,ss.take len,rfl,⟨some a,cap,by rw[Jm,b],by rw[Jm,b];omega,fun c=>?_⟩,?_⟩
  ·rw[Jm,b]at c;obtain⟨j,k,l⟩:=a;have e:=hcell 0 (by omega);have m:l=none:=by simpa [Addr.add]using LH e
   subst m;rw[fC]at e;refine⟨j,k,rfl,oM e,fun o g=>?_⟩;rw[Jm,b]at g;have:=hcell o (by omega);rw[fC]at this;rw[this,J7,Kh g,Jl (by omega),JC,Jl (by omega)];rfl
  ·have r:=jc (H:=H) (lits .i64 (ss.take len)) (lits .i64 (ss.drop len));have s:=nw (H:=H) (lits .i64 (ss.take len));have t:(lits (H:=H) .i64 (ss.take len)).length=(ss.take len).length:=by simp[lits]
   omega
theorem rJ{d:Type}(n:Nat)(e:Nat->d->Prop)(b: ∀i,i<n-> ∃x,e i x): ∃l:List d,l.length=n/\ ∀i x,l[i]? =some x->e i x:=by
 induction n with
 |zero=>exact⟨[],rfl,fun i x b=>by simp at b⟩
 |succ n g=>
  obtain⟨l,c,h⟩:=g (fun i f=>b i (by omega));obtain⟨x,j⟩:=b n (by omega);refine⟨l++[x],by simp[c],fun i k a=>?_⟩;rcases J' i n with f|f
  ·rw[Jz (by omega)]at a;exact h i k a
  ·have m:i=n:=by
    have:=(Jy.1 a).1;simp[c]at this;omega
   subst m;rw[Jw (by omega),c,Kv]at a;simp at a;subst a;exact j
theorem D'{n:Nat}{cs:List Value}{d:DataW H}{p:List MemPlace}(w:DataW.trod enc prog W 0 sp held n 42 cs=some (d,p)): ∃(v:Value) (rows:List (List Int)),cs=[v]/\bZ W v rows/\rows.length<=Rows.uptoBulk d/\ ∀r∈rows,r.length<=Rows.uptoBulk d:=by
 rcases DataW.trod_slice underlying42 w with⟨rfl,c⟩|⟨a,len,cap,elems,rest,m,_,rfl,c,_,hl,hm,hlen,hel,_⟩
 ·exact⟨_,[],rfl,⟨[],⟨none,0,rfl,by unfold maxLen;simp,fun k=>by simp at k⟩,rfl,fun h r x y=>by simp at y⟩,by simp,fun r g=>by cases g⟩
 ·injection c with z _;subst z;rw[Iu]at hel;have A: ∀e,e<len-> ∃b:Value×List Int,W.cell? (a.add e)=some b.1/\aS W b.1 (aE b.2)/\b.2.length<=Rows.uptoBulk (.slice (elems.map (·.1)) (rest.map (·.1))):=by intro e B;have s:=hel e B;rw[Lb,Jl (by omega)]at s;obtain⟨P,C,f⟩:=Mo.1 s;obtain⟨v,D,rfl,g,E⟩:=D9 (d:=elems[e].1) (p:=elems[e].2) f;refine⟨(v,D),cell_of_cells?_one C,g,Jt E (Jt (qA (l:=elems.map (·.1)) ?_) (jc _ _))⟩;exact KM.2 ⟨elems[e],Ky _,rfl⟩
  obtain⟨l,i,j⟩:=rJ len _ A;refine⟨_,l.map (·.2),rfl,⟨l.map (·.1),⟨some a,cap,by rw[Jm,i],by rw[Jm,i];omega,fun k=>?_⟩,by simp,fun h r x t u=>?_⟩,?_,?_⟩
  ·rw[Jm,i]at k
   obtain⟨F,G⟩: ∃b,l[0]? =some b:=⟨l[0]'(by omega),Jl _⟩
   have o:=(j 0 F G).1;obtain⟨I,J,K⟩:=a;have L:K=none:=by simpa [Addr.add]using LH o
   subst L;rw[fC]at o;refine⟨I,J,rfl,oM o,fun M q=>?_⟩;rw[Jm]at q;have:=(j M _ (Jl q)).1;rw[fC]at this;rw[this,J7,Jl q];rfl
  ·rw[J7]at t u;obtain⟨b,c,rfl⟩:=Jq.1 t;obtain⟨Q,f,rfl⟩:=Jq.1 u;rw[c]at f;injection f with f;subst f;exact(j h b c).2.1
  ·rw[Jm,i];have R:=jc (H:=H) (elems.map (·.1)) (rest.map (·.1));have N:=nw (H:=H) (elems.map (·.1));rw[Jm]at N;omega
  ·intro r g;obtain⟨b,c,rfl⟩:=KM.1 g;obtain⟨h,O⟩:=Lh c;exact(j h b O).2.2
end
theorem ug{H:Type}: ∀(a:List (DataW H)) (l:List Tb),l.length=a.length->(∀(i:Nat) (t:Tb) (d:DataW H),l[i]? =some t->a[i]? =some d->t.rows.length<=Rows.uptoBulk d)->nrows l<=Rows.uptoBulkAll a
 | [],[],_,_=>by simp[nrows]
 |d::a,t::l,b,c=>by have j:=c 0 t d rfl rfl;have k:=ug a l (by simpa using b) (fun i e f g h=>c (i+1) e f (by simpa using g) (by simpa using h));simp only[nrows,Rows.uptoBulkAll];omega
 | [],_::_,b,_=>by simp at b
 |_::_,[],b,_=>by simp at b
theorem Gd{f:Type}{l:List f}(e:l.length=3): ∃a b c,l=[a,b,c]:=by
 rcases l with _|⟨a,_|⟨b,_|⟨c,_|⟨d,r⟩⟩⟩⟩
 ·simp at e
 ·simp at e
 ·simp at e
 ·exact⟨a,b,c,rfl⟩
 ·simp at e
theorem Ea{H:Type}{enc:TypeId×Value->H}{W:World}{h:Nat->Bool}{i:Bool}{n:Nat}{cs:List Value}{d:DataW H}{p:List MemPlace}(P:DataW.trod enc prog W 0 h i n 38 cs=some (d,p))(e:Nat)(Q:Rows.uptoBulk d<=e): ∃(v:Value) (l:List Tb),cs=[v]/\bp W v l/\l.length<=e/\nrows l<=e/\(∀t∈l,t.cols.length<=e)/\(∀t∈l,t.rows.length<=e)/\ ∀t∈l,∀r∈t.rows,r.length<=e:=by
 rcases DataW.trod_slice underlying38 P with⟨rfl,g⟩|⟨a,len,cap,elems,rest,m,_,rfl,g,_,hl,hm,hlen,hel,_⟩
 ·exact⟨_,[],rfl,⟨none,0,rfl,by unfold maxLen;simp,by simp,fun C=>by simp at C⟩,by simp,by simp[nrows],fun t j=>(by cases j),fun t j=>(by cases j),fun t j=>(by cases j)⟩
 ·injection g with R _;subst R;rw[Hf]at hel;have S:=jc (H:=H) (elems.map (·.1)) (rest.map (·.1))
  have T: ∀c,c<len-> ∃b:Value×Value×Tb,W.cell? (a.add (c*3))=some (.string b.2.2.name)/\W.cell? ((a.add (c*3)).add 1)=some b.1/\W.cell? ((a.add (c*3)).add 2)=some b.2.1/\xK W [.string b.2.2.name,b.1,b.2.1] b.2.2/\b.2.2.cols.length<=e/\(∀s,(elems.map (·.1))[c]? =some s->b.2.2.rows.length<=Rows.uptoBulk s)/\b.2.2.rows.length<=e/\ ∀r∈b.2.2.rows,r.length<=e:=by
   intro c V;have J:=hel c V;rw[Jl (by omega)]at J;obtain⟨a3,X,Y⟩:=Mo.1 J;obtain⟨_,Z,D⟩:=World.cells?_some X;obtain⟨a4,k,_,ac,_,ad,E⟩:=DataW.trod_struct underlying204 Y;have a5:Rows.uptoBulk elems[c].1<=Rows.uptoBulkAll (elems.map (·.1)):=qA (KM.2 ⟨elems[c],Ky _,rfl⟩);obtain⟨z,f,o,rfl⟩:=Gd Z;obtain⟨u,w,x,rfl⟩:=Gd (ad.trans rfl);have f0:DataW.trod enc prog W 0 h i k 9 (([z,f,o].drop 0).take (prog.cellsOf 9))=some u:=E 0 _ rfl;have f1:DataW.trod enc prog W 0 h i k 39 (([z,f,o].drop 1).take (prog.cellsOf 39))=some w:=E 1 _ rfl;have f2:DataW.trod enc prog W 0 h i k 42 (([z,f,o].drop 2).take (prog.cellsOf 42))=some x:=E 2 _ rfl;rw[y9]at f0;rw[Iv]at f1;rw[He]at f2;have ae:DataW.trod enc prog W 0 h i k 9 [z]=some u:=f0;have aj:DataW.trod enc prog W 0 h i k 39 [f]=some w:=f1;have ak:DataW.trod enc prog W 0 h i k 42 [o]=some x:=f2;obtain⟨al,F,_,_⟩:=DataW.trod_string underlying9 ae;obtain⟨a9,K,G,an,ao,a'⟩:=Ch (d:=w.1) (p:=w.2) aj;obtain⟨ba,rows,I,ap,bb,ar⟩:=D' (d:=x.1) (p:=x.2) ak;injection F with F _;injection G with G _;injection I with I _;subst F G I;have bc:Rows.uptoBulk elems[c].1=Rows.uptoBulk u.1+(Rows.uptoBulk w.1+(Rows.uptoBulk x.1+0))+1:=by rw[ac];simp only[Mz,List.map_nil,Rows.uptoBulk,Rows.uptoBulkAll]
   have au:(a.add (c*3)).add 0=a.add (c*3):=by simp[Addr.add]
   have q:=D 0 (by omega);rw[au]at q;refine⟨(f,o,⟨al,K,rows⟩),q,D 1 (by omega),D 2 (by omega),⟨f,o,rfl,an,ao,ap⟩,by show K.length<=_;omega,fun s A=>?_,by show rows.length<=_;omega,fun r av=>by have:=ar r av;omega⟩;rw[J7,Jl (by omega)]at A;injection A with A;subst A
   show rows.length<=Rows.uptoBulk elems[c].1
   omega
  obtain⟨l,y,B⟩:=rJ len _ T;have ax:(elems.map (·.1)).length=len:=by rw[Jm,hlen]
  have be:=nw (H:=H) (elems.map (·.1));refine⟨_,l.map (·.2.2),rfl,⟨some a,cap,by rw[Jm,y],by rw[Jm,y];omega,by rw[Jm,y];exact hl,fun C=>?_⟩,?_,?_,?_,?_,?_⟩
  ·rw[Jm,y]at C
   obtain⟨u,ay⟩: ∃b,l[0]? =some b:=⟨l[0]'(by omega),Jl _⟩
   have q:=(B 0 u ay).1;obtain⟨aA,aI,aJ⟩:=a;have aL:aJ=none:=by simpa [Addr.add]using LH q
   subst aL;rw[fC]at q;refine⟨aA,aI,rfl,oM q,fun aN t f=>?_⟩;rw[J7]at f;obtain⟨b,g,rfl⟩:=Jq.1 f;obtain⟨L,M,N,aR,_⟩:=B aN b g;rw[fC]at L;rw[fC,fC]at M N;exact⟨b.1,b.2.1,aR,L,M,N⟩
  ·rw[Jm];omega
  ·refine Jt (ug (elems.map (·.1)) _ (by rw[Jm,y,ax]) (fun c t s O aT=>?_)) (Jt S Q);rw[J7]at O;obtain⟨b,g,rfl⟩:=Jq.1 O;exact(B c b g).2.2.2.2.2.1 s aT
  all_goals
   intro t j;obtain⟨b,g,rfl⟩:=KM.1 j;obtain⟨aU,aV⟩:=Lh g;obtain⟨_,_,_,_,a0,_,a1,a2⟩:=B aU b aV
   first|exact a0|exact a1|exact a2
end
section
open Go.ChangeShapes Go.WideShapes Go.ChangeAt Go.RowKit Tryz
theorem wh{P:Program}{W:World}{nm:String}{w j k ts:TypeId}{I:Array (String×TypeId)}{f:Field}
  (y:P.underlying w=some (.interface I)) (z: ∀u,P.typeName? 3 u=some nm->u=j)
  (A:P.underlying j=some (.pointer k)) (B:P.underlying k=some (.struct #[f])) (C:f.type=ts) (D:f.offset=0) (E:P.underlying ts=some .string) (F:P.cellsOf k=1) (G:P.cellsOf ts=1):
  ∀(l:List (String×Nat×List UInt8)) (m:List MemPlace),
   (∀(i:Nat) (x:String×Nat×List UInt8),l[i]? =some x->P.globalNamed x.1=some x.2.1/\(P.globals[x.2.1]?).map (·.type)=some w)->
   DataW.LaidVars P W (l.map fun x=>(x.1,.iface nm (.ptr (.agg [.lit (.string x.2.2)])))) m->
   (∀b off,MemPlace.cell b off∈m->(∃c t,W.heap[b]? =some (.cells c t (0,0)))/\ ∀u v,W.cell? ⟨b,off,none⟩=some (.iface u v)->Value.okWide P W .any 0 u v)->
   ∃h:List Addr,h.length=l.length/\ ∀(i:Nat) (x:String×Nat×List UInt8) (a:Addr),l[i]? =some x->h[i]? =some a->
    W.cell? ⟨x.2.1,0,none⟩=some (.iface j (.pointer (some a)))/\(∃s:ByteArray,W.cell? a=some (.string s)/\s.data.toList=x.2.2/\s.size<=maxLen)/\ ∃c t,W.heap[a.block]? =some (.cells c t (0,0))
 | [],_,_,_,_=>⟨[],rfl,fun i x a o=>by simp at o⟩
 |(n,g,text)::r,m,hg,hv,hrows=>by
  obtain⟨ak,t0,J,f0,al,K,p,L,H,M,N,O⟩:=hv;obtain⟨Q,R⟩:=hg 0 _ rfl;obtain rfl:=K8 (Q.symm.trans p);obtain rfl:=K8 (R.symm.trans L);subst O;obtain⟨S⟩:=J;have T: ∀u v,S=[.iface u v]->Value.okWide P W .any 0 u v:=fun u v V=>by subst V;exact(hrows g 0 (by simp[MemPlace.row])).2 u v (by simpa using World.var?_cell p H 0)
  obtain⟨q,X,rfl,Y,Z,ac,rfl⟩:=errorString_of_trod y z A B C D E F G M T;obtain⟨h,ad,ae⟩:=wh y z A B C D E F G r K (fun i x o=>hg (i+1) x (by simpa using o)) N (fun b off aj=>hrows b off (KJ _ aj));refine⟨q::h,by simp[ad],fun i x a d e=>?_⟩
  match i,d,e with
  |0,d,e=>simp only[List.getElem?_cons_zero,Ke]at d e;subst d;subst e;exact⟨by simpa using World.var?_cell p H 0,⟨X,Y,Z,ac⟩,(hrows q.block q.off (by simp[MemPlace.row])).1⟩
  |i+1,d,e=>exact ae i x a (by simpa using d) (by simpa using e)
theorem own:ownKnob prog.godebug=none:=by kernel_rfl
theorem Hg:prog.cellsOf 498=1:=by kernel_rfl
theorem FW:prog.cellsOf 9=1:=by kernel_rfl
theorem Iw: "*"++ "errors.errorString"= "*errors.errorString":=by decide
theorem IU(u:TypeId)(a:prog.typeName? 3 u=some "*errors.errorString"):u=496:=
 typeName_ptr_named (nm:= "errors.errorString") (by rw[Iw];kernel_rfl) (by kernel_rfl) (by decide) u (by rw[Iw];exact a)
theorem qB{P:Program}{W:World}{n:String}{d:DataW Unit}{r:List (String×DataW Unit)}{a:List MemPlace}(c:DataW.LaidVars P W ((n,d)::r) a): ∃b,DataW.LaidVars P W r b/\ ∀m,m∈b->m∈a:=by obtain⟨i,t0,j,f0,k,e,l,o,p,q,f,g⟩:=c;exact⟨e,f,fun m h=>by rw[g];simp[h]⟩
def kX:List (String×Nat×List UInt8):=[
 ("quarry/api.ErrLong",0,[116,111,111,32,108,111,110,103]),
 ("quarry/api.ErrByte",1,[110,111,32,115,117,99,104,32,98,121,116,101]),
 ("quarry/api.ErrNumber",2,[116,111,111,32,103,114,101,97,116,32,97,32,110,117,109,98,101,114]),
 ("quarry/api.ErrSyntax",3,[110,111,116,32,97,115,32,105,116,32,109,117,115,116,32,98,101]),
 ("quarry/api.ErrTable",5,[110,111,32,115,117,99,104,32,116,97,98,108,101]),
 ("quarry/api.ErrColumn",6,[110,111,32,115,117,99,104,32,99,111,108,117,109,110]),
 ("quarry/api.ErrTwice",7,[116,104,101,114,101,32,116,119,105,99,101]),
 ("quarry/api.ErrWindow",8,[97,32,119,105,110,100,111,119,32,119,104,101,114,101,32,110,111,110,101,32,109,97,121,32,98,101]),
 ("quarry/api.ErrMany",4,[116,111,111,32,109,97,110,121]),
 ("quarry/api.ErrShape",9,[111,102,32,97,110,111,116,104,101,114,32,115,104,97,112,101]),
 ("strconv.ErrRange",11,[118,97,108,117,101,32,111,117,116,32,111,102,32,114,97,110,103,101]),
 ("strconv.ErrSyntax",12,[105,110,118,97,108,105,100,32,115,121,110,116,97,120])]
theorem Ci: ∀(i:Nat) (x:String×Nat×List UInt8),kX[i]? =some x->prog.globalNamed x.1=some x.2.1/\(prog.globals[x.2.1]?).map (·.type)=some 23:=by
 intro i x a
 have b:i<12:=by
  rcases J' i 12 with h'|h'
  ·exact h'
  ·rw[Kj (by simpa [kX]using h')]at a;cases a
 match i,b with
 |0,_|1,_|2,_|3,_|4,_|5,_|6,_|7,_|8,_|9,_|10,_|11,_=>simp only[kX,List.getElem?_cons_succ,List.getElem?_cons_zero,Ke]at a;subst a;exact⟨by kernel_rfl,by kernel_rfl⟩
theorem Cj: ∀(i j:Nat) (x b:String×Nat×List UInt8),kX[i]? =some x->kX[j]? =some b->x.2.2=b.2.2->i=j:=by
 have a: ∀i,i<12-> ∀j,j<12->(kX[i]?).map (·.2.2)=(kX[j]?).map (·.2.2)->i=j:=by decide
 intro i j x b c d f
 have e: ∀ {i x},kX[i]? =some x->i<12:=fun{i x} a=>by
  rcases J' i 12 with h'|h'
  ·exact h'
  ·rw[Kj (by simpa [kX]using h')]at a;cases a
 exact a i (e c) j (e d) (by rw[c,d];simpa using f)
def fL(j:Nat):Nat:=(kX.map (·.2.1)).idxOf j
theorem Eb: ∀j,j<13->mg j=true->tw j=true:=by decide
theorem ny{j:Nat}(a:mg j=true):tw j=true:=Eb j (wP a) a
theorem zd: ∀j,j<13->tw j=true->(kX[fL j]?).map (·.2.1)=some j:=by decide
theorem Hh: ∀j,j<13->tw j=true->fL j<12:=by decide
theorem Hi: ∀i,i<13->tw i=true-> ∀j,j<13->tw j=true->fL i=fL j->i=j:=by decide
theorem ze{W:World}{o:List MemPlace}(z:DataW.LaidVars prog W (kX.map fun x=>(x.1,.iface "*errors.errorString" (.ptr (.agg [.lit (.string x.2.2)])))) o)
  (A: ∀b off,MemPlace.cell b off∈o->(∃c t,W.heap[b]? =some (.cells c t (0,0)))/\ ∀u v,W.cell? ⟨b,off,none⟩=some (.iface u v)->Value.okWide prog W .any 0 u v): ∃a:Nat->Addr,cJ a W.heap.size W:=by
 obtain⟨g,B,k⟩:=wh (P:=prog) (W:=W) (nm:= "*errors.errorString") underlying23 IU underlying496 underlying498 rfl rfl underlying9 Hg FW kX o Ci z A;have C:g.length=12:=B;have l: ∀d,tw d=true-> ∃x,kX[fL d]? =some x/\x.2.1=d/\g[fL d]? =some (g.getD (fL d) default):=fun d e=>by obtain⟨x,h,m⟩:=Jq.1 (zd d (s6 e) e);exact⟨x,h,m,by rw[JC,Jl (by rw[C];exact Hh d (s6 e) e)];rfl⟩
 have p: ∀d,tw d=true->W.cell? ⟨d,0,none⟩=some (.iface 496 (.pointer (some (g.getD (fL d) default)))):=fun d e=>by
  obtain⟨x,h,m,i⟩:=l d e;have:=(k (fL d) x _ h i).1
  rwa[m]at this
 have q: ∀d,tw d=true-> ∃c t,W.heap[(g.getD (fL d) default).block]? =some (.cells c t (0,0)):=fun d e=>by obtain⟨x,h,m,i⟩:=l d e;exact(k (fL d) x _ h i).2.2
 have D:13<=W.heap.size:=by
  have E:=p 12 (by decide);rcases J' 12 W.heap.size with h'|h'
  ·exact h'
  ·simp[World.cell?,Array.getElem?_eq_none h']at E
 have r: ∀d,tw d=true->(g.getD (fL d) default).block<W.heap.size:=fun d e=>by obtain⟨c,t,F⟩:=q d e;exact aa F
 have s: ∀f d,tw f=true->tw d=true->f≠d->g.getD (fL f) default≠g.getD (fL d) default:=fun f d j e G H=>by
  obtain⟨x,h,O,i⟩:=l f j;obtain⟨w,y,Q,I⟩:=l d e;obtain⟨J,n,K,_⟩:=(k (fL f) x _ h i).2.1;obtain⟨t,L,M,_⟩:=(k (fL d) w _ y I).2.1;rw[H,L]at n;have N:t=J:=by injection n with n;injection n
  subst N;exact G (Hi f (s6 j) j d (s6 e) e (Cj (fL f) (fL d) x w h y (K.symm.trans M)))
 exact⟨fun d=>g.getD (fL d) default,⟨⟨D,Ji _,fun d e=>p d (ny e),fun d e=>r d (ny e),fun d e=>q d (ny e),fun f d j e=>s f d (ny j) (ny e)⟩,p,r,q,s⟩⟩
theorem Am{W:World}(b:laidMet prog Rows.namedRow.laid W): ∃a:Nat->Addr,cJ a W.heap.size W:=by obtain⟨n,c,_,d⟩:=b;obtain⟨o,e,f⟩:=qB c;obtain⟨p,g,h⟩:=qB e;obtain⟨q,i,j⟩:=qB g;exact ze i (fun k l m=>d k l (f _ (h _ (j _ m))))
end
section
open Go.RowKit Go.ChangeShapes Go.WideShapes Go.ChangeAt Go.ChangeMaps Tryz
theorem An{H:Type}{enc:TypeId×Value->H}{W:World}{g:Nat->Bool}{h:Bool}{n:Nat}{cs:List Value}{d:DataW H}{p:List MemPlace}(i:DataW.trod enc prog W 0 g h n 39 cs=some (d,p)): ∃(v:Value) (ts:List ByteArray),cs=[v]/\aS W v (aB ts)/\ts.length<=Rows.uptoBulk d/\ ∀t∈ts,t.size<=Rows.uptoBulk d:=by
 rcases open_strings underlying39 underlying9 y9 i with⟨rfl,hx⟩|⟨a,len,cap,ss,rfl,_,hl,hm,hz,hx,hcell,_⟩
 ·exact⟨_,[],rfl,⟨none,0,rfl,by unfold maxLen;simp,fun c=>by simp at c⟩,by simp,fun t b=>by cases b⟩
 ·have x:len<=ss.length:=by rw[hz];split<;>omega
  have b:(ss.take len).length=len:=by rw[JU];omega
  injection hx with j _;subst j;have y:=jc (H:=H) (strs (ss.take len)) (strs (ss.drop len));refine⟨_,ss.take len,rfl,⟨some a,cap,by rw[Jm,b],by rw[Jm,b];omega,fun c=>?_⟩,?_,fun t k=>?_⟩
  ·rw[Jm,b]at c;obtain⟨m,o,q⟩:=a;have e:=hcell 0 (by omega);have r:q=none:=by simpa [Addr.add]using LH e
   subst r;rw[fC]at e;refine⟨m,o,rfl,oM e,fun s f=>?_⟩;rw[Jm,b]at f;have:=hcell s (by omega);rw[fC]at this;rw[this,J7,Kh f,Jl (by omega),JC,Jl (by omega)];rfl
  ·have u:=nw (H:=H) (strs (ss.take len));have w:(strs (H:=H) (ss.take len)).length=(ss.take len).length:=by simp[strs]
   omega
  ·have u:=qA (H:=H) (d:=.lit (.string t.data.toList)) (l:=strs (ss.take len)) (KM.2 ⟨t,k,rfl⟩);have w:Rows.uptoBulk (H:=H) (.lit (.string t.data.toList))=t.size+1:=by simp[Rows.uptoBulk]
   omega
theorem Ec:(List.range prog.types.size).all (fun a=> !(prog.rowNamed a [101,114,114,111,114])||a==23)=true:=by kernel_rfl
theorem FX:(prog.cutTypes.find? (·.1== "internal/reflectlite.rtype")).map (·.2)=some 192:=by kernel_rfl
theorem FY:prog.globalNamed "errors.errorType"=some 10:=by kernel_rfl
theorem Ao:prog.globals.size=17:=by kernel_rfl
theorem Ck{W:World}(i:laidMetH prog Rows.plainsUptoRow.laid W):ij W:=by
 have g:=i.filter (fun e=>e.1== "errors.errorType")
 rw[show Rows.plainsUptoRow.laid.filter (fun e=>e.1== "errors.errorType")=[("errors.errorType",Rows.laid_errors_errorType)]from rfl]at g
 obtain⟨-,j⟩:laidMet prog [] W/\handlesMet prog [("errors.errorType",Rows.laid_errors_errorType)] W:=g
 obtain⟨c,d,b,k,l,m,n,a⟩: ∃c d b,Rows.laid_errors_errorType.handleName?=some c/\(prog.cutTypes.find? (·.1== "internal/reflectlite.rtype")).map (·.2)=some d/\b<prog.types.size/\prog.rowNamed b c=true/\W.var? prog "errors.errorType"=some #[.iface d (.agg #[typeHandle prog b])]:=j _ (JN.2 rfl);obtain rfl: [101,114,114,111,114]=c:=K8 k;obtain rfl:192=d:=K8 (FX.symm.trans l);have h:=LS.1 Ec b (Mt.2 m);rw[n]at h;obtain rfl:b=23:=by simpa using h
 unfold World.var? at a;rw[FY]at a;simp only[Option.bind_some]at a;unfold typeHandle at a;rw[Ao]at a;unfold ij
 cases f:W.heap[10]? with
 |none=>rw[f]at a;cases a
 |some o=>
  rw[f]at a
  cases o with
  |cells p q r=>obtain rfl:p= #[.iface 192 (.agg #[.pointer (some ⟨17,23,none⟩)])]:=K8 a;unfold World.cell?;simp only;rw[f];rfl
  |_=>cases a
end
section
open Tryz
theorem wi:laidOutB prog=true:=by kernel_rfl
theorem Ed:(Rows.plainsUptoRow.inPlace==prog.inPlace 6)=true:=by kernel_rfl
theorem Ee:(Rows.plainsUptoRow.unfollowed==prog.unfollowed 6)=true:=by kernel_rfl
theorem Ef:(Rows.plainsUptoRow.recurses==prog.recurses 6)=true:=by kernel_rfl
theorem Eg:(Rows.plainsUptoRow.named==prog.varsNamed 6)=true:=by kernel_rfl
theorem wC:joinedFacts prog 6 f6 Rows.plainsSpec Rows.plainsUptoRow=true:=by
 unfold joinedFacts;rw[wi,Ed,Ee,Ef,Eg]
 kernel_rfl
end
section
open Go.RowKit Go.ChangeShapes Go.WideShapes Go.ChangeAt Go.ChangeMaps Tryz
theorem Cl{W:World}(d:laidMetH prog Rows.plainsUptoRow.laid W): ∃a:Nat->Addr,cJ a W.heap.size W:=by
 have c:=d.filter (fun b=>b.1 != "errors.errorType")
 rw[show Rows.plainsUptoRow.laid.filter (fun b=>b.1 != "errors.errorType")=Rows.namedRow.laid from rfl,MakeChecks.laidMetH_plain _ _ _ (by kernel_rfl)]at c;exact Am c
theorem AZ:laidOutB prog=true:=wi
theorem Ap(a:Os)(args:Array Value):laidMetH prog Rows.plainsUptoRow.laid ((World.doorLaid prog 252 a).forCall (fun _ _=>0) ⟨#[],args,[]⟩).memory:=
 laidMetH_of_parts3 (fuel:=8) (laidMet_of_run' 8 (by kernel_rfl) (by kernel_rfl)) (by kernel_rfl) (by kernel_rfl)
theorem zh(a:Os){H:Type}(enc:TypeId×Value->H): ∃b,DataW.whole enc prog ((World.doorLaid prog 252 a).forCall (fun _ _=>0) ⟨#[], #[.slice none 0 0,.slice none 0 0],[]⟩).memory f6.params.toList Rows.plainsSpec.vars false #[Value.slice none 0 0,.slice none 0 0].toList 8=some ([.nil,.nil],[],b):=
 ⟨[],by kernel_rfl⟩
theorem wD(d:Os)(y:d.Started)(H:Type)(enc:TypeId×Value->H)(F:Stop.Interp):
  ReturnsInHanded {} checked d 6 .any ((Rows.OpenSpec.upto Rows.plainsSpec).preRow enc prog f6 Rows.plainsUptoRow.domain false Rows.plainsUptoRow.laid) (((Rows.OpenSpec.upto Rows.plainsSpec).at F).post enc prog f6 false true false false):=by
 obtain⟨ap,a⟩:=zh d enc
 refine returnsInHanded_of_row (C:=checked) (s:=Rows.OpenSpec.upto Rows.plainsSpec) own y (by kernel_rfl) func6
  (witness_row_atRef (enc:=enc) (C:=checked) false (World.doorLaid prog 252 d) #[.slice none 0 0,.slice none 0 0] rfl (by kernel_rfl) (by kernel_rfl) (by kernel_rfl)
   (OpenSpec.preRow_of_cond 8 a (by kernel_rfl) (fun ar z=>by cases z;kernel_rfl) (by kernel_rfl) (Ap d _))) ?_
 intro c au A B av ax e i _ D _ j _ _;have f:=i;obtain⟨E,ay,G,I,rfl,aA,aI⟩:=i;have k:DataW.TrodAll enc prog c 0 (fun _=>true) true f6.params.toList A.toList B E:=G;rw[params6]at k e;obtain⟨J,K,d0,d1,l,m,rfl,rfl,rfl,L,M⟩:=trodAll_two k;obtain⟨rfl,rfl⟩:=trodVars_none I;have aJ:Rows.uptoBulk d0+Rows.uptoBulk d1<=1048576:=by have N:=Lt (D _ rfl);simp only[JD,Rows.uptoBulkAll]at N;omega
 have O:=Ck j;obtain⟨P,Q⟩:=Cl j;simp only[JD]at f;have n: ∀b∈l++m,b.block<c.heap.size:=fun b a=>f.lt b (by simpa using a);obtain⟨R,o⟩:=L;obtain⟨S,p⟩:=M;obtain⟨T,V,W,X,f1,f2,f3,f4,f5⟩:=Ea o 1048576 (by omega);obtain⟨Y,Z,ac,ad,aL,ae⟩:=An p;obtain⟨q,r,t,rfl⟩:=okWide_slice underlying38 (e 0 38 J rfl rfl);obtain⟨u,v,w,rfl⟩:=okWide_slice underlying39 (e 1 39 K rfl rfl);obtain rfl:T=.slice q r t:=by simpa [Value.cells]using W.symm
 obtain rfl:Y=.slice u v w:=by simpa [Value.cells]using ac.symm
 refine(Cg P c.heap.size _ _ V Z c Q O X ⟨f1,f2,f3,f4,f5⟩ ad (by omega) (fun s aj=>by have:=ae s aj;omega)).mono fun aN x ⟨ak,g⟩=>?_;subst ak
 have al:DataW.Trod enc prog x 0 (fun h=>decide (h<c.heap.size)) true 38 (.slice q r t) d0 l:=
  Below.trod AZ (by kernel_rfl) (Lt (by kernel_rfl)) ⟨R,o⟩ g (fun b a=>n b (J4 _ a))
 have an:DataW.Trod enc prog x 0 (fun h=>decide (h<c.heap.size)) true 39 (.slice u v w) d1 m:=
  Below.trod AZ (by kernel_rfl) (Lt (by kernel_rfl)) ⟨S,p⟩ g (fun b a=>n b (KJ _ a))
 exact⟨_,rfl,_,_,_,[],_,[],f,trodAll_mk1 (shut_bool underlying4 true),trodAll_mk2 al an,rfl,g.frame _,fun ao=>by cases ao⟩
theorem zj:Rows.PlainsUptoSaid:=
 OpenClaim.holds_of_cond 6 f6 rfl rfl rfl rfl rfl rfl rfl ⟨rfl,rfl,rfl,rfl,rfl⟩ rfl rfl rfl rfl rfl (by kernel_rfl) func6 wC
  (Lt (by kernel_rfl)) (by unfold Func.isWrapper;rw[Jn (of_decide_eq_false (by kernel_rfl))];exact⟨rfl,rfl⟩)
  (fun a b H enc _ F=>by rw[OpenClaim.pre_eq_preRow];exact wD a b H enc F)
end
section
open Tryz
theorem Eh:Rows.plainsUptoRow.wfByText (Rows.OpenSpec.upto Rows.plainsSpec)=true:=by kernel_rfl
theorem Ei:prog.funcNamed "quarry/quarrylaw.Plains"=some 6:=by kernel_rfl
theorem Ej:true=prog.looks []:=by kernel_rfl
theorem wj:prog.wantsStandIn 38=false/\prog.wantsStandIn 39=false:=⟨by kernel_rfl,by kernel_rfl⟩
theorem Ek:true=Rows.plainsUptoRow.goesBy Tryz.pinned.checked.prog:=by kernel_rfl
end
section
open Go Tryz
theorem El:prog.worded (varsWordLater true)=true:=by kernel_rfl
theorem Em:prog.worded (varsWordLater !true)=false:=by kernel_rfl
theorem En:prog.worded rootWordLater=true:=by kernel_rfl
theorem Eo:Rows.plainsUptoRow.laid.map (fun x=>prog.kindOfLater x.1)=[.data,.data,.data,.handle,.sentinel,.sentinel,.sentinel,.sentinel,.sentinel,.sentinel,.sentinel,.sentinel,.sentinel,.sentinel,.sentinel,.sentinel].map some:=by kernel_rfl
theorem Ep:(prog.funcNamed "gosem.cut.vars").isSome=true:=by kernel_rfl
theorem Es:varsNamedLaterB prog (varsId prog) Rows.plainsUptoRow.laid=true:=by kernel_rfl
theorem Et(a:Os)(b:Tape):doorLeaves prog 259 8 65 Rows.plainsUptoRow.laid a b=some (Rows.plainsUptoRow.laid.filter fun x=>x.2.handleName?.isNone,(funcsListed Rows.plainsUptoRow.laid).map (·.2.funcsOut)):=by kernel_rfl
theorem Eu:prog.headLifts.contains "ownunsafe"=false:=by kernel_rfl
theorem Ev:prog.funcsFit Rows.plainsUptoRow.laid=true:=by kernel_rfl
theorem Cm:Rows.plainsUptoRow.laidByTextAt .later Tryz.pinned [.data,.data,.data,.handle,.sentinel,.sentinel,.sentinel,.sentinel,.sentinel,.sentinel,.sentinel,.sentinel,.sentinel,.sentinel,.sentinel,.sentinel] true:=
 OpenClaim.laidByTextAt_later rfl rfl (Program.laidByTextLater_by_one 259 8 65 El Em En Eo Ep Es Et) Eu Ev
theorem Ew{s:OpenSpec}{c:OpenClaim}(kinds:List LaidKind)(a:Bool×String)(g:Bool)
  (d:c.holds Tryz.pinned s) (e:c.wfByText s=true) (h:c.laidByTextAt .later Tryz.pinned kinds true) (i:c.start=.entering) (k:c.noBlocks=false/\c.again=false)
  (l:Tryz.pinned.checked.prog.mainIs=some (a.1,a.2.toList))
  (m: ∀f b,Tryz.pinned.checked.prog.funcNamed c.func=some f->Tryz.pinned.checked.prog.funcs[f]? =some b->true=Tryz.pinned.checked.prog.looks []/\ ∀(j:Nat) t,b.params[j]? =some t->Tryz.pinned.checked.prog.wantsStandIn t=false)
  (n:g=c.goesBy Tryz.pinned.checked.prog):
  Claim7.holds Tryz.pinned (.plain s) {stood:= {row:=c,standIns:=[],harness:=a,looks:=true},kinds:=[],alts:=[],goes:=g,laidByText:=true,laidKinds:=kinds,laidTests:=true,laidLooks:=.later}:=by
 have o:Claim7.isSixth {stood:= {row:=c,standIns:=[],harness:=a,looks:=true},kinds:=[]}=false:=by simp[Claim7.isSixth]
 exact⟨Claim7.tied_new_at .later kinds true (Claim7.new_of_sixth d a true i k l o m) e,(fun r p=>by cases p),h,(fun q=>by cases q),n⟩
end
end Go.Proofs.YtfkeddkfegaeiaaGreatDoor
