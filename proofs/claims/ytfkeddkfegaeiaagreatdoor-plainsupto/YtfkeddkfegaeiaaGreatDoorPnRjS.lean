import Derived.Test.YtfkeddkfegaeiaaGreatDoorPnNwR
set_option maxRecDepth 100000
set_option maxHeartbeats 20000000
namespace Go.Proofs.YtfkeddkfegaeiaaGreatDoor
section
open Go.RowKit Tryz
theorem Cd(a:Nat->Addr)(au:Nat)(cd c':Value)(l:List Tb)(J:List ByteArray)(w:World)(ce:cJ a au w)(dd:ij w)(bu:bp w cd l)(df:vY l)(dk:bT l=0)(bv:aS w c' (aB J))(hn:J.length<=1048576)(dp: ∀s∈J,s.size<=281474976710656)(dq: ∀s∈J,∀X,cP s=.ok X->s.size<=1000->Gb X):
  Calls prog 20 #[cd,c',.slice none 0 0] w fun e w'=>e=.returned (.bool true)/\Below w.heap.size w w':=by
 have a':=Cc dk;obtain⟨ds,bz,ft,fv,fw⟩:=dD (Cb a au cd l w ce bu df dk) ce dd bu bv;obtain⟨aj,ak,rfl,-⟩:=id bu;obtain⟨fx,hB,rfl,-⟩:=id bv;obtain⟨fy,dw⟩:=ag dp dq;clear ce dd bu bv dp dq;go_enter func20,ntmps20;go_wp2_with fail;refine ds.mono ?_;rintro e f ⟨h,A,av,d,hC,hD,rfl,Q⟩;have fz:=ab Q
 obtain⟨u,ax⟩: ∃u,u=f.alloc (.cells #[.pointer (some ⟨h,0,none⟩),.pointer (some ⟨d,0,none⟩)] 57):=⟨_,rfl⟩
 have fO:Hid (PI a u (u.alloc (.cells #[.slice none 0 0,.slice none 0 0,.slice none 0 0,.slice none 0 0] 66)) h A d (f.heap.size+1) (.slice (some ⟨av,0,none⟩) l.length l.length) 0 (.slice aj l.length ak) 0 d (.slice none 0 0) [] [] (fun c=>c=f.heap.size+1) (.slice none 0 0) (.slice none 0 0) (.slice none 0 0) [] [] []):=by rw[ax];exact PI.init Q _
 have aU:Hid (∀b,bw (Q3 h A d) u b->Below w.heap.size w b):=fun b z=>by rw[ax]at z;exact Q.below3 _ z
 have f':Hid (∀b,bw (Q3 h A d) u b->bp b (.slice (some ⟨av,0,none⟩) l.length l.length) l):=fun b z=>by rw[ax]at z;exact Q.tabs3 _ z (by have:=df.len;unfold maxLen;omega)
 have ga:Hid (u.heap[f.heap.size]? =some (.cells #[.pointer (some ⟨h,0,none⟩),.pointer (some ⟨d,0,none⟩)] 57 (0,0))):=by rw[ax];exact af rfl
 have hE:=aa Q.qbl;have hF:=aa Q.ybl;have hG:=Q.lmq;have hH:=Q.lqy;have hI:u.heap.size=f.heap.size+1:=by rw[ax];simp
 have dT:=ab ax;clear Q ds ax;go_wp2_with fail;rw[<-U dT];clear dT
 go_loopg [8,10] J.length (fun gb gc gf b=> ∃(o:Nat) (j:Nat) (R:Value) (aV n:List ByteArray) (S:Nat->Prop) (cf cg ch:Value) (bA bF bG:List (Value×Nat)),o+gb=J.length/\gf=.int .i64 (o:Nat)/\gc=.bool true/\PI a u b h A d (f.heap.size+1) (.slice (some ⟨av,0,none⟩) l.length l.length) 0 (.slice aj l.length ak) o j R aV n S cf cg ch bA bF bG)
 case atStart=>exact⟨0,d,_,[],[],_,_,_,_,[],[],[],by omega,rfl,rfl,fO⟩
 case round=>
  obtain⟨o,j,R,aV,n,S,cf,cg,ch,bA,bF,bG,hJ,rfl,rfl,a0⟩:=hrel;have q:=ab a0;have bJ:wr.heap[f.heap.size]? =some (.cells #[.pointer (some ⟨h,0,none⟩),.pointer (some ⟨d,0,none⟩)] 57 (0,0)):=(a0.turn.block _ (by omega) (fun e=>by rcases e with e|e|e<;>omega)).trans ga;obtain⟨bL,d'⟩:=blk bJ;have ci:=aa bJ;have cj:wr.cell? ⟨f.heap.size,0,none⟩=some (.pointer (some ⟨h,0,none⟩)):=bL 0;have cl:wr.cell? ⟨f.heap.size,1,none⟩=some (.pointer (some ⟨d,0,none⟩)):=bL 1;by_cases gg:o<J.length
  ·have gi:decide (o<J.length)=true:=by simp;omega
   obtain⟨cp,rfl⟩: ∃cp,gk=cp+1:=⟨gk-1,by omega⟩
   have ay:Hid (Below w.heap.size w wr):=(U aU) wr a0.turn
   obtain⟨s,cq⟩: ∃s,J[o]? =some s:=⟨_,Jl gg⟩
   obtain⟨K,aA,rfl,gl,gm⟩: ∃r bN,fx=some ⟨r,bN,none⟩/\r<w.heap.size/\w.cell? ⟨r,bN+o,none⟩=some (.string s):=by obtain⟨hK,hL,cr,-,cs⟩:=U fw;injection cr with cr hM hN;subst cr;obtain⟨r,bN,rfl,gn,cs⟩:=cs (by simp[aB];omega);exact⟨r,bN,rfl,gn,by rw[cs o (by simp[aB];omega),aB,J7,cq];rfl⟩
   have ea:=(ay.cell (p:=⟨K,aA+o,none⟩) gl).trans gm;have gq:K<wr.heap.size:=by have:=ay.size;omega
   have ct:=JL cq;obtain⟨a1,p,y,rows,cu⟩:=Vd.ex l s;have cv:=bz.env.size;have hO:=fz.lm;have eb:Hid (∀b,Below wr.heap.size wr b->Calls prog 25 #[.pointer (some ⟨h,0,none⟩),.string s] b fun e w'=> ∃aI aJ cz D V,e=.returned (.tuple #[.agg #[aI,aJ],cz])/\Xa a b w' a1 p y rows aI aJ cz/\aF h A b w'/\Qs a w' h A (.slice (some ⟨av,0,none⟩) l.length l.length) 0 D V/\oJ aV s D (n.length:Nat) V):=fun b z=>by have ba:=q.below z;have ed:=(U aU) b ba.turn;have hP:=ba.kl;have gr:=ba.tl;exact Ha a au b (bz.keep (ed.mono cv)) (ft.keep (Js (by decide) (Jt bz.env.low cv)) ed) h A (by omega) (by omega) av 0 l.length l 0 (n.length:Nat) ⟨by omega,by omega⟩ aV (by omega) ba.qs s (fy s ct) (dw s ct) (fun L cF=>(U f') L (ba.turn.trans (cF.turn (S:=Q3 h A d) (Or.inl rfl) (Or.inr (Or.inl rfl))) (fun _ _ e=>e))) (fun v W=>(a'.2 v W).1) (fun v W=>(a'.2 v W).2.1) (fun v W=>(a'.2 v W).2.2) cu
   have hQ:(0:Int)<=(o:Int):=by omega
   have hR:(o:Int)<(J.length:Int):=by omega
   have hS:decide ((o:Int)<0)=false:=by simp
   have gs:=ab cu;have ef:Hid (∀k,aF h A wr k->k.cell? ⟨f.heap.size,0,none⟩=some (.pointer (some ⟨h,0,none⟩))/\k.cell? ⟨f.heap.size,1,none⟩=some (.pointer (some ⟨d,0,none⟩))/\k.cell? ⟨K,aA+o,none⟩=some (.string s)):=fun k C=>by have al:=C.block f.heap.size ci (by omega) (by omega);have cI:=C.block K gq (by omega) (by omega);exact⟨(World.cell?_of_block (w:=wr) (a:=⟨f.heap.size,0,none⟩) al).trans cj,(World.cell?_of_block (w:=wr) (a:=⟨f.heap.size,1,none⟩) al).trans cl,(World.cell?_of_block (w:=wr) (a:=⟨K,aA+o,none⟩) cI).trans ea⟩
   clear a0 bL d' bJ cq cu
   go_upto_region 10 with(fail)
   go_cut [11,12]from 51 to 60 (fun gt gw b=> ∃bx aI aJ D V,gt=.pointer (some ⟨bx,0,none⟩)/\wr.heap.size<=bx/\b.heap[bx]? =some (.cells #[aI,aJ] 68 (0,0))/\Xa a wr b a1 p y rows aI aJ gw/\aF h A wr b/\Qs a b h A (.slice (some ⟨av,0,none⟩) l.length l.length) 0 D V/\oJ aV s D (n.length:Nat) V)
   case first=>
    go_region_held3 (fun b=>b.cell? ⟨f.heap.size,0,none⟩=some (.pointer (some ⟨h,0,none⟩))/\b.cell? ⟨K,aA+o,none⟩=some (.string s)) (first|go_keep|(refine⟨?_,?_⟩<;>(rw[dj _ _ _ _ (by omega),dj _ _ _ _ (by omega)];assumption))) (first
     |(go_at_call 25;refine(eb _ (by repeat(first|exact Jj _ _|apply JI|refine JY ?_ (by first|exact Ji _|simp) _))).mono ?_;rintro e k ⟨aI,aJ,cz,D,V,rfl,B,Y,bb,bc⟩;obtain⟨t,Z⟩:=id B.rws;obtain⟨E,F,rfl⟩:=bi B.own;obtain⟨G,H,rfl⟩:=bi Z.own;have bS:aF h A wr k:=aF.trans (Below.off2 (by repeat(first|exact Jj _ _|apply JI|refine JY ?_ (by first|exact Ji _|simp) _))) Y;obtain⟨eg,-,ei⟩:=(U ef) k bS;have gx:=bS.size;have en:=ab B;have eo:=ab bS;have ep:=ab bb;have eq:=ab bc;(try(have ac:k.heap[wr.heap.size]? =some (.cells #[.slice none 0 0,.slice none 0 0] 68 (0,0)):=(Y.block wr.heap.size (by simp) (by omega) (by omega)).trans (af rfl);obtain⟨bX,er⟩:=blk ac;have gy:=aa ac;have cL:=ab ac;clear ac));clear B Z Y bS bb bc))
    all_goals
     go_wp2_with fail;go_meet
     case rel=>
      first
       |exact⟨wr.heap.size,_,_,D,V,rfl,Ji _,(am (am cL _) _).trans rfl,en.box (by simp) (bx:=wr.heap.size) ((aF.setCell _ _ _ _ _).trans (aF.setCell _ _ _ _ _)) (fun a2 v e=>by rw[U cL]at e;injection e with e;injection e with _ e _;exact e.symm),eo.box ((aF.setCell _ _ _ _ _).trans (aF.setCell _ _ _ _ _)) (Ji _),ep.box ((aF.setCell _ _ _ _ _).trans (aF.setCell _ _ _ _ _)) cL iM (by omega) (by omega),eq⟩
       |exact⟨k.heap.size,_,_,D,V,rfl,gx,af rfl,en.box (by simp) (bx:=k.heap.size) (Below.off2 ((Jj _ _).alloc (Ji _) _)) (fun a2 v e=>absurd (aa e) (by omega)),eo.trans (Below.off2 ((Jj _ _).alloc (Ji _) _)),ep.below ((Jj _ _).alloc (Ji _) _),eq⟩
   case rest=>
    obtain⟨bx,aI,aJ,D,V,rfl,gy,ac,B,Y,bb,bc⟩:=hcut;generalize wc=i at*;obtain⟨eg,ei,gJ⟩:=(U ef) i Y;have hT:=Y.size;obtain⟨t,Z⟩:=id B.rws;obtain⟨E,F,rfl⟩:=bi B.own;obtain⟨G,H,rfl⟩:=bi Z.own;obtain⟨be,es,b0⟩:=q.ask Y ⟨by omega,by omega⟩ ⟨by omega,by omega,by omega⟩;have gQ:=(U aU) i b0
    have gW:Hid (∀b,Below i.heap.size i b->Calls prog 26 #[.agg #[.pointer (some ⟨h,0,none⟩),.pointer (some ⟨d,0,none⟩)],.agg #[.slice E y.length F,.slice G t.length H],u12,.string s] b fun e w'=>e=.returned (.bool true)/\aF d j i w'/\ ∃g m,Yq w' d g u.heap.size (.slice aj l.length ak) m (gI n s)/\(g=j∨i.heap.size<=g)/\(m.ownBlock=some g∨(g=j/\m=R))):=fun b z=>by
     have cN:=q.th;have gr:=q.tl;have hV:=z.size;have hW:=b0.size;have hX:=be.lt
     have b1: ∀L,Below b.heap.size b L->Calls prog 52 #[.pointer (some ⟨d,0,none⟩),.string s] L fun e w'=> ∃b2 b3,e=.returned (.tuple #[b2,b3,.agg #[.int .i64 a1,.int .i64 p]])/\aS w' b2 (aB y)/\bZ w' b3 rows/\aS w' (.slice E y.length F) (aB y)/\bZ w' (.slice G t.length H) rows/\aF d j L w'/\((aw kT 0 i w'/\cJ a au w')/\ ∃g m,Yq w' d g u.heap.size (.slice aj l.length ak) m (gI n s)/\(g=j∨i.heap.size<=g)/\(m.ownBlock=some g∨(g=j/\m=R))):=fun L cF=>by
      have aL:Below i.heap.size i L:=z.trans (cF.mono z.size);have hY:=aL.size;have g0:=q.tn;have ad: ∀a3,aF d j L a3->bw (Q3 h A d) u a3:=fun a3 M=>(b0.trans (bw.below (S:=fun _=>False) aL) (fun _ _ e=>e.elim)).trans (M.turn (S:=fun c=>c=d∨c=j) (Or.inl rfl) (Or.inr rfl)) (fun r I e=>by rcases e with e|e;exact Or.inr (Or.inr e);rcases cN with N|N;exact Or.inr (Or.inr (e.trans N));omega);refine(G8 L d j _ _ R n (be.below aL) (by omega) (by omega) s l (by omega) (dw s ct) (fun a3 M=>fv.keep (aU a3 (ad a3 M))) (fun v W=>(a'.2 v W).2.1) (fun v W=>(a'.2 v W).2.2) gs).mono ?_;rintro e w' ⟨b2,b3,rfl,N,M,bg,g,m,cR,C,g1⟩;have et:=q.yq.lt;have cT:bw (fun c=>c=d∨c=j) L w':=bg.turn (Or.inl rfl) (Or.inr rfl);have ev:=be.below aL;have b4:=cE (dJ B.own aL) cT (fun r I e=>by have:=(B.own.lt r I).1;rcases e with e|e<;>omega)
      have a4:=(Z.turn (T:=fun _=>False) (bw.below aL) (fun _ _ e=>e) (fun _ _ _ _ e=>e)).turn cT (fun r I e=>by have:=(Z.own.lt r I).1;rcases e with e|e<;>omega) (fun bk cV r I e=>by
       have hZ:=(B.blocks Z r (Or.inr (Or.inr ⟨bk,cV,I⟩))).1
       rcases e with e|e<;>omega)
      have g2:aw kT 0 L w':=aw.turn cT (fun c a2 v e x=>by
       by_cases cW:c=d
       ·rw[cW,ev.blk]at x;injection x with x;injection x with _ x _;rw[<-x];decide
       ·have ex:c=j:=e.elim (fun e=>absurd e cW) id;rcases g0 with bl|bl
        ·obtain⟨h0,g3⟩:=aO ev.txt bl;rw[ex,g3]at x;injection x with x;injection x with _ x _;rw[<-x];decide
        ·exact absurd (ex.trans bl) cW)
      exact⟨b2,b3,rfl,N,M,eL b4,⟨t,eL a4.own,a4.len,fun c g4 bk bl g6=>eL (a4.at' c bk g4 g6 bl).1⟩,bg,⟨(aw.ofBelow aL).trans g2,bz.keep ((aU w' (ad w' bg)).mono cv)⟩,g,m,cR,by rcases C with C|C;exact Or.inl C;exact Or.inr (by omega),g1⟩
     have ez: ∀O bn:World,Below O.heap.size O bn->((aw kT 0 i O/\cJ a au O)/\ ∃g m,Yq O d g u.heap.size (.slice aj l.length ak) m (gI n s)/\(g=j∨i.heap.size<=g)/\(m.ownBlock=some g∨(g=j/\m=R)))->((aw kT 0 i bn/\cJ a au bn)/\ ∃g m,Yq bn d g u.heap.size (.slice aj l.length ak) m (gI n s)/\(g=j∨i.heap.size<=g)/\(m.ownBlock=some g∨(g=j/\m=R))):=fun O bn cZ ⟨⟨g7,eN⟩,g,m,eR,eT⟩=>⟨⟨g7.trans (aw.ofBelow cZ),eN.keep (cZ.mono eN.env.size)⟩,g,m,eR.below cZ,eT⟩
     have eX:d<b.heap.size:=by omega
     have e0:j<b.heap.size:=by omega
     by_cases a5:a1=0
     ·obtain⟨g8,c0,h1,e1⟩:=B.ok a5;rw[c0];rw[a5,g8]at b1;refine(B7 b h d j eX e0 E _ F G _ H s 0 0 y rows _ (by omega) b1 ez (fun O _=>vO O)).mono ?_;rintro e w' ⟨rfl,c1,c2⟩;exact⟨rfl,(Below.off2 z).trans c1,c2.2⟩
     ·obtain⟨g9,g',bv,e1,⟨v,ha,c0,e2⟩,e3⟩:=B.err a5;rw[g9,g']at b1⊢;rw[c0]at e2 e3⊢;refine(Ai b h d j eX e0 v ha e2 s a1 p y rows _ (by rw[e1];exact KO _) b1 ez (fun O e4=>e3 au O e4.1.2 e4.1.1)).mono ?_;rintro e w' ⟨rfl,c1,c2⟩;exact⟨rfl,(Below.off2 z).trans c1,c2.2⟩
    obtain⟨bX,er⟩:=blk ac;have hb:=aa ac;have d0:i.cell? ⟨bx,0,none⟩=some (.slice E y.length F):=bX 0;have d1:i.cell? ⟨bx,1,none⟩=some (.slice G t.length H):=bX 1;have hc:f.heap.size<i.heap.size:=by omega
    have hd:K<i.heap.size:=by omega
    obtain⟨b5,c3,he,hf,hg,h2,hh,h3⟩:=A0 B Z Y bb bc be es ac;clear B Z Y bb bc be es b0 gQ ac bX er eb cj cl ea;have e5:Hid (∀k,aF d j i k->k.cell? ⟨f.heap.size,0,none⟩=some (.pointer (some ⟨h,0,none⟩))/\k.cell? ⟨f.heap.size,1,none⟩=some (.pointer (some ⟨d,0,none⟩))/\k.cell? ⟨K,aA+o,none⟩=some (.string s)/\k.cell? ⟨bx,0,none⟩=some (.slice E y.length F)/\k.cell? ⟨bx,1,none⟩=some (.slice G t.length H)):=fun k C=>by have cN:=q.th;have et:=q.yq.lt;have hi:=ay.size;have al:=C.block f.heap.size hc (by omega) (by omega);have cI:=C.block K hd (by omega) (by omega);have e6:=C.block bx hb (by omega) (by omega);exact⟨(World.cell?_of_block (w:=i) (a:=⟨f.heap.size,0,none⟩) al).trans eg,(World.cell?_of_block (w:=i) (a:=⟨f.heap.size,1,none⟩) al).trans ei,(World.cell?_of_block (w:=i) (a:=⟨K,aA+o,none⟩) cI).trans gJ,(World.cell?_of_block (w:=i) (a:=⟨bx,0,none⟩) e6).trans d0,(World.cell?_of_block (w:=i) (a:=⟨bx,1,none⟩) e6).trans d1⟩
    go_upto_region 11 with(fail)
    go_cut [8]from 61 to 68 (fun hj b=>hj=.bool true/\aF d j i b/\ ∃g m,Yq b d g u.heap.size (.slice aj l.length ak) m (gI n s)/\(g=j∨i.heap.size<=g)/\(m.ownBlock=some g∨(g=j/\m=R)))
    case first=>
     go_region_held3 (fun b=>b.cell? ⟨f.heap.size,0,none⟩=some (.pointer (some ⟨h,0,none⟩))/\b.cell? ⟨f.heap.size,1,none⟩=some (.pointer (some ⟨d,0,none⟩))/\b.cell? ⟨K,aA+o,none⟩=some (.string s)/\b.cell? ⟨bx,0,none⟩=some (.slice E y.length F)/\b.cell? ⟨bx,1,none⟩=some (.slice G t.length H)) (go_keep) (first
      |(go_at_call 26;refine(gW _ (by repeat(first|exact Jj _ _|apply JI))).mono ?_;rintro e c4 ⟨rfl,c5,e7⟩;obtain⟨b6,b7,e8,e9,e'⟩:=(U e5) c4 c5;have hk:=ab c5;have hl:=ab e7;clear c5 e7))
     all_goals
      go_wp2_with fail;go_meet
      case rel=>exact⟨rfl,hk,hl⟩
    case rest=>
     obtain⟨rfl,bq,g,m,fa,fb,fc⟩:=hcut;generalize wc=P at*;obtain⟨b6,b7,e8,e9,e'⟩:=(U e5) P bq;have cN:=q.th;have et:=q.yq.lt;have hi:=ay.size;have h4:=bq.size;have fe:=q.turn.size;have br:bw (fun c=>c=d∨c=j) i P:=bq.turn (Or.inl rfl) (Or.inr rfl);have bs:=b5.blocks c3;have bt: ∀c,jO (.slice E y.length F) (.slice G t.length H) t c-> ¬(c=d∨c=j):=fun c x e=>by have:=(bs c x).1;rcases e with e|e<;>omega
     have fg:=hh.turn br (fun r b9 e=>by
      rcases e with e|e
      ·have:=(q.bk.st r b9).1;omega
      ·exact q.nt (by rw[<-e];exact b9))
     have b4:=nU (cE b5.own br (fun r I=>bt r (Or.inl I))) fe;have a4:=(c3.turn br (fun r I=>bt r (Or.inr (Or.inl I))) (fun bk cV r I=>bt r (Or.inr (Or.inr ⟨bk,cV,I⟩)))).low fe
     have c6:y.length<=6/\t.length<=4000:=by
      have fk:=c3.len;by_cases a5:a1=0
      ·obtain⟨-,-,N,M⟩:=b5.ok a5;exact⟨N,by omega⟩
      ·obtain⟨-,-,N,M,-⟩:=b5.err a5;rw[M]at fk;rw[N,fk];exact⟨by simp,by simp⟩
     have h5:=q.el;have h6:=q.xl;have h7:=q.rl;have hm:=ab (DV P (f.heap.size+1) u.heap.size S cf cg ch bA bF bG fg (by omega) (by omega) (by omega) (by omega) _ y b4 c6.1 _ t rows a4 c6.2 (fun c x b9=>by have:=(bs c x).1;have:=(q.bk.st c b9).2.1;omega));have fl: ∀c,jO (.slice E y.length F) (.slice G t.length H) t c->wr.heap.size<=c/\c<i.heap.size/\ ∃a2 v,P.heap[c]? =some (.cells a2 v (0,0))/\kT v=false:=fun c x=>by obtain⟨N,M,a2,v,bg,cR⟩:=bs c x;exact⟨N,M,a2,v,(br.block c M (bt c x)).trans bg,cR⟩
     have ho:Hid (∀(ae:World) (aN aR aT:Value) (an ao ap:List (Value×Nat)) (ar:Nat->Prop),an.length=bA.length+4*t.length->ao.length=bF.length+4->ap.length=bG.length+4->Bk ae (f.heap.size+1) u.heap.size ar aN aR aT an ao ap->(∀c,ar c->S c∨jO (.slice E y.length F) (.slice G t.length H) t c∨P.heap.size<=c)->bw (fun c=>S c∨jO (.slice E y.length F) (.slice G t.length H) t c) P ae->PI a u ae h A d (f.heap.size+1) (.slice (some ⟨av,0,none⟩) l.length l.length) 0 (.slice aj l.length ak) (o+1) g m D (gI n s) ar aN aR aT an ao ap):=fun ae aN aR aT an ao ap ar c7 c8 c9 b' ca ad=>q.fin he ⟨by omega,by omega⟩ ⟨by omega,by omega,by omega⟩ hf hg bq fa fb fc fl b' ca ad c6.2 c7 c8 c9
     have hp:Hid (∀k,bw (fun c=>S c∨jO (.slice E y.length F) (.slice G t.length H) t c) P k->k.cell? ⟨f.heap.size,0,none⟩=some (.pointer (some ⟨h,0,none⟩))/\k.cell? ⟨f.heap.size,1,none⟩=some (.pointer (some ⟨d,0,none⟩))):=fun k C=>by
      have al:=C.block f.heap.size (by omega) (fun e=>by
       rcases e with e|e
       ·have:=(q.bk.st _ e).1;omega
       ·have:=(bs _ e).1;omega)
      exact⟨(World.cell?_of_block (w:=P) (a:=⟨f.heap.size,0,none⟩) al).trans b6,(World.cell?_of_block (w:=P) (a:=⟨f.heap.size,1,none⟩) al).trans b7⟩
     have h8:=q.turn.size;have h9:f.heap.size<P.heap.size:=by omega
     clear bq fa fb fc br bs bt fg b4 a4 fl;go_wp2_with fail;refine hm.mono ?_;rintro e ae ⟨rfl,aN,aR,aT,an,ao,ap,ar,c7,c8,c9,b',ca,ad⟩;obtain⟨hq,fn⟩:=(U hp) ae ad;have eR:=ad.size;have hr:f.heap.size<ae.heap.size:=by omega
     have fo:=ab (ho ae aN aR aT an ao ap ar c7 c8 c9 b' ca ad);clear b' ca ad b6 b7 e8 e9 e';have hs:=ab (tN a ae h A _ _ _ D fo.qs);go_wp2_with fail;refine hs.mono ?_;rintro e fp ⟨rfl,cb⟩;have h':=(cb.cell (p:=⟨f.heap.size,1,none⟩) hr).trans fn;have eT:=cb.size;have a9:=ab (fo.below cb);have ht:=ab (tX fp d g _ _ m (gI n s) a9.yq);have ic:=a9.el;have ih:=a9.xl;have ik:=a9.rl;have hu:=ab (FM fp (f.heap.size+1) u.heap.size ar aN aR aT an ao ap a9.bk (by omega) (by omega) (by omega));clear cb hq fn;go_wp2_with fail;refine ht.mono ?_;rintro e k ⟨rfl,hv⟩;obtain rfl:=hv.symm;go_wp2_with fail;refine hu.mono ?_;rintro e c4 ⟨rfl,fq⟩;have hw:=ab (a9.below fq);clear fq;have hx:(((gI n s).length:Int)==((gI n s).length:Int))=true:=by simp
     have il:(((gI n s).length:Int) !=((gI n s).length:Int))=false:=by simp
     go_wp2;go_roundg cp
     case measure=>omega
     case rel=>exact⟨o+1,g,m,D,gI n s,ar,aN,aR,aT,an,ao,ap,by omega,by go_num,rfl,hw⟩
  ·have gi:decide (o<J.length)=false:=by simp;omega
   have hy:Hid (∀b,Below wr.heap.size wr b->Calls prog 29 #[.pointer (some ⟨h,0,none⟩)] b fun e w'=>e=.returned (.int .i64 (n.length:Nat))/\Below b.heap.size b w'):=fun b z=>tN a b h A _ _ _ aV (q.qs.below z);have hz:Hid (∀b,Below wr.heap.size wr b->Calls prog 30 #[.pointer (some ⟨d,0,none⟩)] b fun e w'=>e=.returned (.int .i64 (n.length:Nat))/\w'=b):=fun b z=>tX b d j _ _ R n (q.yq.below z);have ay:Hid (Below w.heap.size w wr):=(U aU) wr a0.turn;clear a0 bL d' bJ;go_wp2_with fail;have hx:(((n.length:Nat):Int)==((n.length:Nat):Int))=true:=by simp
   generalize((n.length:Nat):Int)=ip at*
   go_region_held3 (fun b=>b.cell? ⟨f.heap.size,0,none⟩=some (.pointer (some ⟨h,0,none⟩))/\b.cell? ⟨f.heap.size,1,none⟩=some (.pointer (some ⟨d,0,none⟩))) (go_keep) (first
    |(go_at_call 29;refine(hy _ (by repeat(first|exact Jj _ _|apply JI))).mono ?_;rintro e k ⟨rfl,fr⟩;have cc:Below wr.heap.size wr k:=Kn (by repeat(first|exact Jj _ _|apply JI)) fr;have b6:=(cc.cell (p:=⟨f.heap.size,0,none⟩) ci).trans cj;have b7:=(cc.cell (p:=⟨f.heap.size,1,none⟩) ci).trans cl;have fs:=ab cc;clear fr cc)
    |(go_at_call 30;refine(hz _ (by first|exact U fs|(repeat(first|exact Jj _ _|apply JI)))).mono ?_;rintro e c4 ⟨rfl,hA⟩;obtain rfl:=hA.symm))
   all_goals
    go_wp2;go_ret;exact⟨rfl,ay.trans (fs.mono ay.size)⟩
def lF(l:List ByteArray):List ByteArray:=l.filter fun a=> !l6 a
theorem Ce{l:List ByteArray}{i:Nat}{s:ByteArray}(a:l[i]? =some s):lF (l.take (i+1))=lF (l.take i)++if l6 s then []else [s]:=by
 obtain⟨c,rfl⟩:=Jy.1 a;unfold lF;rw[K',a,Ma]
 congr 1
 cases b:l6 l[i]<;>simp[b]
theorem D7{l:List ByteArray}{s:ByteArray}(a:s∈lF l):s∈l/\l6 s=false:=by obtain⟨b,c⟩:=List.mem_filter.1 a;exact⟨b,by simpa using c⟩
theorem D8(l:List ByteArray):(lF l).length<=l.length:=Lz _ _
theorem Cg(a:Nat->Addr)(v:Nat)(i G:Value)(l:List Tb)(b:List ByteArray)(w:World)(j:cJ a v w)(H:ij w)(q:bp w i l)(x:vY l)(y:aS w G (aB b))(hn:b.length<=1048576)(z: ∀s∈b,s.size<=281474976710656):
  Calls prog 6 #[i,G] w fun e w'=>e=.returned (.bool true)/\Below w.heap.size w w':=by
 have A:=j.env.size
 have X:Hid (∀(d:World) (k:Value) (m:List ByteArray),Below w.heap.size w d->aS d k (aB m)->m.length<=1048576->(∀s∈m,s∈b/\l6 s=false)->Calls prog 20 #[i,k,.slice none 0 0] d fun e w'=>e=.returned (.bool true)/\Below d.heap.size d w'):=fun d k m n Y Z B=>by
  by_cases I:bT l=0
  ·exact Cd a v i k l m d (j.keep (n.mono A)) (H.keep (Js (by decide) (Jt j.env.low A)) n) (q.keep n) x I Y Z (fun s f=>z s (B s f).1) (fun s f ba ac ad=>G7 ac ad (vX (B s f).2).1 (vX (B s f).2).2)
  ·exact D6 a v i k l d (j.keep (n.mono A)) (q.keep n) x I
 obtain⟨ae,J,K⟩:=Jq.1 lh;simp only[JB]at K;obtain⟨L,M,N⟩:=K;obtain⟨aj,ak,al,an⟩:=aP J L M N;obtain⟨ao,ap,rfl,-⟩:=id q;have ar:=ab y;obtain⟨au,bb,rfl,-⟩:=id y;have av:=ab z;clear j H q x y z J L M N;rw[show(aB b).length=b.length from by simp[aB]]at*;go_enter func6,ntmps6;go_wp2_with fail
 go_loopg [5,6] b.length (fun ax ay aA d=> ∃c:Nat,c+ax=b.length/\aA=.int .i64 (c:Nat)/\d.ownsRow w.heap.size 9 1 ay (lF (b.take c)).length (aB (lF (b.take c)))/\Below w.heap.size w d)
 case atStart=>exact⟨0,by omega,rfl,JF _ _ _ _,Jj _ _⟩
 case round=>
  obtain⟨c,bc,rfl,g,hz⟩:=hrel;obtain⟨r,C⟩:=ag g hz;have O:=D8 (b.take c);rw[JU]at O;obtain⟨aI,aJ,rfl⟩:=dB g;have P:=hz.size;by_cases aL:c<b.length
  ·have aN:decide (c<b.length)=true:=by simp;omega
   obtain⟨t,rfl⟩: ∃t,gk=t+1:=⟨gk-1,by omega⟩
   obtain⟨s,f⟩: ∃s,b[c]? =some s:=⟨_,Jl aL⟩
   obtain⟨Q,aR,rfl,aT,R⟩: ∃o u,au=some ⟨o,u,none⟩/\o<w.heap.size/\w.cell? ⟨o,u+c,none⟩=some (.string s):=by obtain⟨be,bg,D,-,E⟩:=U ar;injection D with D bk bl;subst D;obtain⟨o,u,rfl,aU,E⟩:=E (by simp[aB];omega);exact⟨o,u,rfl,aU,by rw[E c (by simp[aB];omega),aB,J7,f];rfl⟩
   have c1:=(hz.cell (p:=⟨Q,aR+c,none⟩) aT).trans R;have bn:Q<wr.heap.size:=by omega
   obtain⟨S,aV⟩:=ag (Ce f) (fun d=>B' s d (av s (JL f)));have bq:(0:Int)<=(c:Int):=by omega
   have br:(c:Int)<(b.length:Int):=by omega
   have bs:decide ((c:Int)<0)=false:=by simp
   generalize lF (b.take c)=bt at*;clear g hz f R;go_wp2_with fail;refine(aV _).mono ?_;rintro e a0 ⟨rfl,a1⟩;obtain rfl:=a1.symm
   cases T:l6 s with
   |true=>
    go_wp2;go_roundg t
    case measure=>omega
    case rel=>refine⟨c+1,by omega,by go_num,?_,C⟩;rw[U S,T,Jo rfl,JD];exact r
   |false=>
    go_wp2_with (at_builtin;refine Kd _ rfl _ _ 39 rfl w.heap.size 9 ae (.string ⟨#[]⟩) 1 16 underlying39 aj ak al an rfl (by decide) _ _ _ rfl (r.alloc _) ⟨wr.heap.size,0,none⟩ 1 1 [.string s] rfl rfl ?c1 ?c2 ?c3 ?c4 ?c5 ?_)
    case c1=>exact ge (af rfl)
    case c2=>exact tD s
    case c3=>unfold maxLen;omega
    case c4=>omega
    case c5=>simp;omega
    intro bu bv g V _;obtain⟨a2,a3⟩:=ag g ((C.alloc P _).grown V (by simp;omega) (fun a4 a5=>(r.lt a4 a5).1));clear g V;go_wp2;go_roundg t
    case measure=>omega
    case rel=>refine⟨c+1,by omega,by go_num,?_,a3⟩;rw[U S,T,Jn (by simp),Jk,aB,Ks];exact a2
  ·have aN:decide (c<b.length)=false:=by simp;omega
   have F:b.take c=b:=JJ (by omega);rw[F]at r O;have a9:Hid (Calls prog 20 #[.slice ao l.length ap,.slice aI (lF b).length aJ,.slice none 0 0] wr fun e w'=>e=.returned (.bool true)/\Below wr.heap.size wr w'):=(U X) wr _ (lF b) hz (eL (by rw[F]at g;exact g)) (by omega) (fun s f=>D7 f);rw[F]at*;clear g hz;go_wp2_with fail;refine a9.mono ?_;rintro e a0 ⟨rfl,W⟩;have a':=ab W;clear W;go_wp2;go_ret;exact⟨rfl,C.trans (a'.mono P)⟩
end
end Go.Proofs.YtfkeddkfegaeiaaGreatDoor
