import Derived.Test.YtfkeddkfegaeiaaGreatDoorPnRdgB
set_option maxRecDepth 100000
set_option maxHeartbeats 20000000
namespace Go.Proofs.YtfkeddkfegaeiaaGreatDoor
section
open Go.RowKit Go.MuLone Go.Maps Go.WideMaps Tryz
theorem rD(w:World)(b x n:Nat)(T:DataW Value)(s:ByteArray)(a3:s.size<=1000)(N:Value)(O m:Int)(aJ:x≠b)(g:Option Addr)(F:Value)(aL:F=.nilIface∨ ∃t v,F=.iface t v)
  (G:w.heap[b]? =some (.cells (dr N 0 O x m) 140 (0,0))) (al:w.ownsMap prog 9 l9 x n T) (an:Maps.has T (.string s.data.toList)=true) (ao: ∀aN,T.atKey (.string s.data.toList) aN=.held (.agg #[.pointer g,F]))
  (Q:Value->World->Prop) (ap: ∀e W u,Q e W->Q e (W.setCell ⟨b,1,none⟩ u)) (ar: ∀W,(∀k,k<w.heap.size->k≠b->W.heap[k]? =w.heap[k]?)->w.heap.size<=W.heap.size->Calls prog 80 #[F] W fun e w'=> ∃H,e=.returned H/\Q H w'/\Below W.heap.size W w'):
  Calls prog 50 #[.pointer (some ⟨b,1,none⟩),.string s] w fun e w'=> ∃H,e=.returned (.tuple #[.pointer g,H])/\Q H w'/\Below w.heap.size w w':=by
 have aR:=Lo (P:=prog) underlying9 (s:=s) (by unfold maxLen;omega);obtain⟨q,y⟩:=blk G;have a4:=aa G;have z:w.cell? ⟨b,1,none⟩=some (.int .i32 0):=q 1;have f1:w.frozen? ⟨b,1,none⟩=false:=y 1;have au:w.cell? ⟨b,3,none⟩=some (.map (some x)):=q 3;obtain⟨av,aT⟩:=ag G (al.setCell (a:=⟨b,1,none⟩) aJ (.int .i32 1));have ax:=am (off:=1) G (.int .i32 1);have ay:Hid ((w.setCell ⟨b,1,none⟩ (.int .i32 1)).heap[b]? =some (.cells (dr N 1 O x m) 140 (0,0))):=ax;have aA:(Instr.lookup 136 (.map (some x)) (.string s) true).run prog (w.setCell ⟨b,1,none⟩ (.int .i32 1))=.ok (.tuple #[.agg #[.pointer g,F],.bool true]) (w.setCell ⟨b,1,none⟩ (.int .i32 1)):=by obtain⟨v,a5,aU,A⟩:=aT.look_ok lw (t:=136) (e:=209) underlying136 (zeroValue209 _) rfl aR;rw[ao]at A;injection A with A;injection A with A _;injection A with A;rw[aU,an,A]
 obtain⟨R,aI⟩:=ag ar ap;clear G al an ao q y ax ar ap;rcases aL with rfl|⟨t9,S,rfl⟩
 ·go_enter_defers func50,ntmps50
  go_wp2_with (go_at_call 76;refine(Mb jA ⟨b,1,none⟩ _ z f1).mono ?_;rintro e w' ⟨rfl,rfl⟩)
  obtain⟨c,h⟩: ∃c,c=(w.setCell ⟨b,1,none⟩ (.int .i32 1)).alloc (.cells #[.pointer g,.nilIface] 209):=⟨_,rfl⟩
  rw[<-h];have B:c.heap[w.heap.size]? =some (.cells #[.pointer g,.nilIface] 209 (0,0)):=by rw[h];exact af (by simp[World.setCell])
  have I:c.heap[b]? =some (.cells (dr N 1 O x m) 140 (0,0)):=by rw[h];exact ai ay
  have d:aF b b w c:=by rw[h];exact(aF.setCell b b w 1 _).trans (Below.off2 ((Jj _ _).alloc (Ji _) _))
  obtain⟨V,X,Y,J⟩:=aP (R c.drew (fun k i j=>d.block k i j j) d.size) (R c (fun k i j=>d.block k i j j) d.size) d I;obtain⟨C,Z⟩:=blk B;have K:=aa B;have ac:c.cell? ⟨w.heap.size,0,none⟩=some (.pointer g):=C 0;have ad:c.cell? ⟨w.heap.size,1,none⟩=some .nilIface:=C 1;clear h B I d C Z aA z f1 au
  go_region_held3 (fun w'=>w'.cell? ⟨w.heap.size,0,none⟩=some (.pointer g)/\w'.cell? ⟨w.heap.size,1,none⟩=some .nilIface) (go_keep) (first|(go_at_call 80;(first|refine V.mono ?_|refine X.mono ?_);rintro e l ⟨ae,rfl,L,r⟩;have aV:=(r.cell (p:=⟨w.heap.size,0,none⟩) (by simpa using K)).trans ac;have a0:=(r.cell (p:=⟨w.heap.size,1,none⟩) (by simpa using K)).trans ad;have M:Hid (Below c.heap.size c l):=Kn (by first|exact(Jj _ _).drew|exact Jj _ _) r;have aj:=ab L;clear r L))
  all_goals
   go_wp2;have D:=(M.block _ (aa J)).trans J;have ak:=ab D;obtain⟨q,y⟩:=blk D;have z:l.cell? ⟨b,1,none⟩=some (.int .i32 1):=q 1;have f1:l.frozen? ⟨b,1,none⟩=false:=y 1;clear D q y;refine LR (f:=77) (args:= #[.pointer (some ⟨b,1,none⟩)]) (by simp) (by simp[go_sem]) ?_;refine(Lp jA ⟨b,1,none⟩ .returning _ z f1).mono ?_;rintro e a1 a2 ⟨rfl,rfl,rfl⟩;refine⟨_,L5 rfl _ _ _,ae,rfl,(U aI) _ _ _ aj,?_⟩;have o:aF b b w (l.setCell ⟨b,1,none⟩ (.int .i32 0)):=(Y.trans (Below.off2 M)).trans (aF.setCell b b l 1 _);refine⟨o.os,o.tape,o.output,o.size,fun k i=>?_⟩;by_cases E:k=b
   ·rw[E,am (U ak),U av];rfl
   ·exact o.block k i E E
 ·go_enter_defers func50,ntmps50
  go_wp2_with (go_at_call 76;refine(Mb jA ⟨b,1,none⟩ _ z f1).mono ?_;rintro e w' ⟨rfl,rfl⟩)
  obtain⟨c,h⟩: ∃c,c=(w.setCell ⟨b,1,none⟩ (.int .i32 1)).alloc (.cells #[.pointer g,(.iface t9 S)] 209):=⟨_,rfl⟩
  rw[<-h];have B:c.heap[w.heap.size]? =some (.cells #[.pointer g,(.iface t9 S)] 209 (0,0)):=by rw[h];exact af (by simp[World.setCell])
  have I:c.heap[b]? =some (.cells (dr N 1 O x m) 140 (0,0)):=by rw[h];exact ai ay
  have d:aF b b w c:=by rw[h];exact(aF.setCell b b w 1 _).trans (Below.off2 ((Jj _ _).alloc (Ji _) _))
  obtain⟨V,X,Y,J⟩:=aP (R c.drew (fun k i j=>d.block k i j j) d.size) (R c (fun k i j=>d.block k i j j) d.size) d I;obtain⟨C,Z⟩:=blk B;have K:=aa B;have ac:c.cell? ⟨w.heap.size,0,none⟩=some (.pointer g):=C 0;have ad:c.cell? ⟨w.heap.size,1,none⟩=some (.iface t9 S):=C 1;clear h B I d C Z aA z f1 au
  go_region_held3 (fun w'=>w'.cell? ⟨w.heap.size,0,none⟩=some (.pointer g)/\w'.cell? ⟨w.heap.size,1,none⟩=some (.iface t9 S)) (go_keep) (first|(go_at_call 80;(first|refine V.mono ?_|refine X.mono ?_);rintro e l ⟨ae,rfl,L,r⟩;have aV:=(r.cell (p:=⟨w.heap.size,0,none⟩) (by simpa using K)).trans ac;have a0:=(r.cell (p:=⟨w.heap.size,1,none⟩) (by simpa using K)).trans ad;have M:Hid (Below c.heap.size c l):=Kn (by first|exact(Jj _ _).drew|exact Jj _ _) r;have aj:=ab L;clear r L))
  all_goals
   go_wp2;have D:=(M.block _ (aa J)).trans J;have ak:=ab D;obtain⟨q,y⟩:=blk D;have z:l.cell? ⟨b,1,none⟩=some (.int .i32 1):=q 1;have f1:l.frozen? ⟨b,1,none⟩=false:=y 1;clear D q y;refine LR (f:=77) (args:= #[.pointer (some ⟨b,1,none⟩)]) (by simp) (by simp[go_sem]) ?_;refine(Lp jA ⟨b,1,none⟩ .returning _ z f1).mono ?_;rintro e a1 a2 ⟨rfl,rfl,rfl⟩;refine⟨_,L5 rfl _ _ _,ae,rfl,(U aI) _ _ _ aj,?_⟩;have o:aF b b w (l.setCell ⟨b,1,none⟩ (.int .i32 0)):=(Y.trans (Below.off2 M)).trans (aF.setCell b b l 1 _);refine⟨o.os,o.tape,o.output,o.size,fun k i=>?_⟩;by_cases E:k=b
   ·rw[E,am (U ak),U av];rfl
   ·exact o.block k i E E
theorem vD(w:World)(v:Value):(binOp .eql 23 (.iface 110 v) .nilIface).run prog w=.ok (.bool false) w:=by
 have b: ∀a:Nat,(Op.equalIn (a+1) 23 (.iface 110 v) .nilIface).run prog w=.ok false w:=fun a=>by simp[Op.equalIn,run_underlying underlying23]
 simp only[binOp];simp[Op.equal,Op.maxDepth,b 9999]
theorem Fi(a:Nat->Addr)(J:Nat)(w:World)(h:cJ a J w)(c d n:Nat)(A:DataW Value)(s:ByteArray)(Z:s.size<=1000)(o:Value)(x q m:Int)(hn:n<1000000000)(ac:d≠c)
  (i:w.heap[c]? =some (.cells (dr o x q d m) 140 (0,0))) (B:w.ownsMap prog 9 l9 d n A) (b p k:Nat) (r:tw k=true/\k≠0) (u:cM w b p (bI a k)):
  Calls prog 79 #[.pointer (some ⟨c,1,none⟩),.string s,.agg #[.pointer none,.iface 110 (.pointer (some ⟨b,0,none⟩))]] w fun e w'=>e=.returned (.tuple #[])/\w'.ownsMap prog 9 l9 d (n+1) (A.put (.string s.data.toList) (.held (.agg #[.pointer none,.iface 110 (.pointer (some ⟨b,0,none⟩))])))/\w'.heap[c]? =some (.cells (dr o x q d m) 140 (0,0))/\aF c d w w':=by
 have K:=Lo (P:=prog) underlying9 (s:=s) (by unfold maxLen;omega);have L:w.cell? ⟨0,0,none⟩=some (bI a 0):=h.cell _ (by decide);have ad:0<w.heap.size:=JR w _ L;obtain⟨C,ae⟩:=blk i;have aj:=aa i;have ak:w.cell? ⟨c,3,none⟩=some (.map (some d)):=C 3;obtain⟨M,D⟩:=ag i B;have N:Hid (∀f,Below w.heap.size w f->Calls prog 18 #[.iface 110 (.pointer (some ⟨b,0,none⟩)),.iface 496 (.pointer (some (a 0)))] f fun e w'=>e=.returned (.bool false)/\w'=f):=fun f E=>by have v:=h.keep (E.mono h.env.size);have O:cM f b p (bI a k):=(E.block _ (aa u)).trans u;obtain⟨F,t1,Q⟩:=v.row k r.1;obtain⟨R,t2,S⟩:=v.row 0 (by decide);exact wq b (a 0) (a k) F R t1 t2 f ((blk O).1 1) (v.ne k _ r.1 (by decide) r.2) Q S
 have T:=ab (fun f=>vD f (.pointer (some ⟨b,0,none⟩)));clear i B h u;go_enter func79,ntmps79;go_wp2_with fail;refine(N _ (by repeat(first|exact Jj _ _|apply JI|refine JY ?_ (by first|exact Ji _|(simp)) _))).mono ?_;rintro e al ⟨rfl,V⟩;subst V;obtain⟨g,an,G,H⟩:=(D.alloc (.cells #[.pointer none,.iface 110 (.pointer (some ⟨b,0,none⟩))] 209)).drew.store (t:=136) (e:=209) lw underlying136 (by unfold maxLen;omega) (val:=.agg #[.pointer none,.iface 110 (.pointer (some ⟨b,0,none⟩))]) K rfl;have j:=H.grown;have W:=ab G;have ao:=D.lt;have l:g.heap[c]? =some (.cells (dr o x q d m) 140 (0,0)):=(j.block c (by simp;omega) (fun e=>by injection e with e;omega)).trans (ai M);have y:g.heap[w.heap.size]? =some (.cells #[.pointer none,.iface 110 (.pointer (some ⟨b,0,none⟩))] 209 (0,0)):=(j.block w.heap.size (by simp) (fun e=>by injection e with e;omega)).trans (af rfl);obtain⟨I,-⟩:=blk l;have ap:g.cell? ⟨c,3,none⟩=some (.map (some d)):=I 3;have ar:=aa l;obtain⟨z,-⟩:=blk y;have au:g.cell? ⟨w.heap.size,0,none⟩=some (.pointer none):=z 0;have F:g.cell? ⟨w.heap.size,1,none⟩=some (.iface 110 (.pointer (some ⟨b,0,none⟩))):=z 1;have av:w.heap.size<g.heap.size:=aa y;have X:=ab l;have Y:Hid (aF c d w g):=(Below.off2 ((Jj _ _).alloc (Ji _) _)).trans ((Below.off2 (Jj _ _).drew).trans (aF.grown j));have ax:=U T;clear H j G l y z C I;go_wp2_with fail
 go_region_held3 (fun w'=>w'.cell? ⟨c,3,none⟩=some (.map (some d))/\w'.cell? ⟨w.heap.size,0,none⟩=some (.pointer none)/\w'.cell? ⟨w.heap.size,1,none⟩=some (.iface 110 (.pointer (some ⟨b,0,none⟩)))) (go_keep) (first|fail)
 go_wp2;go_end0;exact⟨rfl,W,X,Y⟩
theorem Dg(a:Nat->Addr)(c:Nat)(w:World)(b:cJ a c w)(d:Nat)(s:ByteArray):
  Calls prog 79 #[.pointer (some ⟨d,1,none⟩),.string s,.agg #[.pointer none,bI a fS]] w fun e w'=>e=.returned (.tuple #[])/\Below w.heap.size w w':=by
 have f:w.cell? ⟨0,0,none⟩=some (bI a 0):=b.cell _ (by decide);have h:0<w.heap.size:=JR w _ f;clear b;go_enter func79,ntmps79;go_wp2_with fail;refine(Gs _ _).mono ?_;rintro e i ⟨rfl,g⟩;subst g;go_wp2;exact Jr (v:=.tuple #[]) (by simp[results,results79,go_sem]) rfl ⟨rfl,(Jj _ _).alloc (Ji _) _⟩
theorem vF(s:ByteArray)(w:World)(b:s.size<=281474976710656):Calls prog 78 #[.string s] w fun e w'=>e=.returned (.string s)/\Below w.heap.size w w':=by go_enter func78,ntmps78;go_wp2_with fail;refine(stringslite_Clone s _ b).mono ?_;rintro e d ⟨rfl,a⟩;have c:=ab a;clear a;go_wp2;go_ret;exact⟨rfl,c⟩
theorem Fj(s:ByteArray)(a:Nat->Addr)(f:Nat)(w:World)(i:fD a f w)(j:s.size<=1000)(p k:Nat)(c:cP s=.error (p,k)):
  Calls prog 36 #[.string s] w fun e w'=> ∃b,e=.returned (.tuple #[.pointer none,.iface 110 (.pointer (some ⟨b,0,none⟩))])/\cM w' b p (bI a k)/\Below w.heap.size w w':=by
 unfold cP at c
 cases d:fH s with
 |error l=>rw[d]at c;obtain⟨t,u⟩:=l;injection c with c;injection c with m n;subst m n;refine(CO s a f w i j _ _ d).mono ?_;rintro e w' ⟨g,b,rfl,h⟩;exact⟨b,rfl,h,g⟩
 |ok o=>rw[d]at c;obtain⟨q,r⟩:=jo d;refine(AF s a f w i j o q d r (.error (p,k)) c.symm).mono ?_;rintro e w' ⟨g,b,rfl,h⟩;exact⟨b,rfl,h,g⟩
theorem Dh(a:Nat->Addr)(v:Nat)(w:World)(aI:cJ a v w)(aJ:ij w)(c d n:Nat)(O:v<=c)(Q:v<=d)(l:DataW Value)(s:ByteArray)(aL:s.size<=1000)(p k:Nat)(bg:cP s=.error (p,k))(bk:tw k=true/\k≠0)(x:Value)(y m:Int)(hn:n<1000000000)(R:d≠c)
  (C:w.heap[c]? =some (.cells (dr x 0 y d m) 140 (0,0))) (S:w.ownsMap prog 9 l9 d n l) (T:Maps.has l (.string s.data.toList)=false) (V: ∀aN,l.atKey (.string s.data.toList) aN=aN):
  Calls prog 50 #[.pointer (some ⟨c,1,none⟩),.string s] w fun e w'=> ∃z,e=.returned (.tuple #[.pointer none,.iface 110 (.pointer (some ⟨z,0,none⟩))])/\w'.heap[z]? =some (.cells #[.int .i64 p,bI a k] 113 (0,0))/\(∃b,w'.heap[b]? =some (.cells #[.int .i64 p,bI a k] 113 (0,0))/\w'.ownsMap prog 9 l9 d (n+1) (l.put (.string s.data.toList) (.held (.agg #[.pointer none,.iface 110 (.pointer (some ⟨b,0,none⟩))]))))/\w'.heap[c]? =some (.cells (dr x 0 y d m) 140 (0,0))/\aF c d w w':=by
 have bl:=Lo (P:=prog) underlying9 (s:=s) (by unfold maxLen;omega);obtain⟨A,D⟩:=blk C;have bx:=aa C;have bz:=S.lt;have F:w.cell? ⟨c,1,none⟩=some (.int .i32 0):=A 1;have f1:w.frozen? ⟨c,1,none⟩=false:=D 1;have bn:w.cell? ⟨c,3,none⟩=some (.map (some d)):=A 3;obtain⟨bA,G,bq,bF,bG,W⟩:=io C aI aJ T V (S.setCell (a:=⟨c,1,none⟩) R (.int .i32 1));have aR:=am (off:=1) C (.int .i32 1);have aT:Hid ((w.setCell ⟨c,1,none⟩ (.int .i32 1)).heap[c]? =some (.cells (dr x 1 y d m) 140 (0,0))):=aR;have aU:Hid (aF c d w (w.setCell ⟨c,1,none⟩ (.int .i32 1))):=aF.setCell c d w 1 _;have br:(Instr.lookup 136 (.map (some d)) (.string s) true).run prog (w.setCell ⟨c,1,none⟩ (.int .i32 1))=.ok (.tuple #[.agg #[.pointer none,.nilIface],.bool false]) (w.setCell ⟨c,1,none⟩ (.int .i32 1)):=by obtain⟨bJ,bL,bs,j⟩:=W.look_ok lw (t:=136) (e:=209) underlying136 (zeroValue209 _) rfl bl;rw[V]at j;injection j with j;injection j with j _;injection j with j;rw[bs,T,j]
 clear C S aI aJ T V A D aR
 go_enter_defers func50,ntmps50
 go_wp2_with (go_at_call 76;refine(Mb jA ⟨c,1,none⟩ _ F f1).mono ?_;rintro e w' ⟨rfl,rfl⟩);have aV:Hid (Qy w x c d 1 y m n l ((w.setCell ⟨c,1,none⟩ (.int .i32 1)).alloc (.cells #[.pointer none,.nilIface] 209))):=Qy.below ⟨U aT,W,aU⟩ ((Jj _ _).alloc (Ji _) _);have a0:((w.setCell ⟨c,1,none⟩ (.int .i32 1)).alloc (.cells #[.pointer none,.nilIface] 209)).heap[w.heap.size]? =some (.cells #[.pointer none,.nilIface] 209 (0,0)):=af (by simp[World.setCell]);generalize(w.setCell ⟨c,1,none⟩ (.int .i32 1)).alloc (.cells #[.pointer none,.nilIface] 209)=bN at*;have H:v<=w.heap.size:=G.env.size;have X:=ab a0;clear br a0 F f1 bn W aT aU;refine(vF s _ (by omega)).mono ?_;rintro e bS ⟨rfl,Y⟩;obtain⟨Z,ac⟩:=ag (aV.below Y) ((Y.block _ (aa X)).trans X);clear Y aV X;go_wp2_with fail;refine(Fj s a v _ (by exact(G.keep (Z.off.below H O Q)).env) aL p k bg).mono ?_;rintro e B ⟨b,rfl,a1,ad⟩;have ae:=ab a1;clear a1;have a2:=ab (Z.below ad);have I:=(ad.block _ (aa ac)).trans ac;have aj:=ab I;obtain⟨q,a3⟩:=blk I;have ak:B.cell? ⟨w.heap.size,0,none⟩=some (.pointer none):=q 0;have al:B.cell? ⟨w.heap.size,1,none⟩=some .nilIface:=q 1;have J:=aa I;have an:w.heap.size≠c:=by omega
 have ao:w.heap.size≠d:=by omega
 clear ad I Z ac q;go_wp2_with fail;have r:=ab ((a2.set (o:=0) (Ji _) an ao (.pointer none)).set (o:=1) (Ji _) an ao (.iface 110 (.pointer (some ⟨b,0,none⟩))));have ap:Hid (((B.setCell ⟨w.heap.size,0,none⟩ (.pointer none)).setCell ⟨w.heap.size,1,none⟩ (.iface 110 (.pointer (some ⟨b,0,none⟩)))).heap[w.heap.size]? =some (.cells #[.pointer none,(.iface 110 (.pointer (some ⟨b,0,none⟩)))] 209 (0,0))):=by unfold Hid;rw[am (am (U aj) _)];rfl
 have E:Hid (cM ((B.setCell ⟨w.heap.size,0,none⟩ (.pointer none)).setCell ⟨w.heap.size,1,none⟩ (.iface 110 (.pointer (some ⟨b,0,none⟩)))) b p (bI a k)):=by
  have a4:w.heap.size≠b:=fun e=>by have g:=U aj;have h:B.heap[b]? =_:=U ae;rw[<-e,g]at h;injection h with h;injection h with _ h _;exact absurd h (by decide)
  exact cM.set (cM.set ae a4) a4
 generalize(B.setCell ⟨w.heap.size,0,none⟩ (.pointer none)).setCell ⟨w.heap.size,1,none⟩ (.iface 110 (.pointer (some ⟨b,0,none⟩)))=bt at*;clear a2 aj ae ak al J a3;refine(Fi a v _ (by exact G.keep (r.off.below H O Q)) c d n l s aL x 1 y m hn R (by exact r.blk) (by exact r.map) b p k bk (by exact E)).mono ?_;rintro e i ⟨rfl,a5,a9,K⟩
 have ar:Hid (Qy w x c d 1 y m (n+1) (l.put (.string s.data.toList) (.held (.agg #[.pointer none,.iface 110 (.pointer (some ⟨b,0,none⟩))]))) i):=⟨a9,a5,r.off.trans K⟩
 have au:=(K.block _ (aa ap) an ao).trans ap
 have av:b≠c/\b≠d:=by
  have h:bt.heap[b]? =_:=U E;refine⟨fun e=>?_,fun e=>?_⟩
  ·have g:=r.blk;rw[<-e,h]at g;injection g with g;injection g with _ g _;exact absurd g (by decide)
  ·obtain⟨bX,b0,g,-⟩:=r.map;rw[<-e,h]at g;injection g with g;cases g
 have a':i.heap[b]? =some (.cells #[.int .i64 p,bI a k] 113 (0,0)):=(K.block _ (aa E) av.1 av.2).trans E;have L:=ab a';obtain⟨q,a3⟩:=blk au;have ak:i.cell? ⟨w.heap.size,0,none⟩=some (.pointer none):=q 0;have al:i.cell? ⟨w.heap.size,1,none⟩=some (.iface 110 (.pointer (some ⟨b,0,none⟩))):=q 1;have J:=aa au;have bu:Hid (∀u,Below i.heap.size i u->Calls prog 80 #[.iface 110 (.pointer (some ⟨b,0,none⟩))] u fun e w'=> ∃z,e=.returned (.iface 110 (.pointer (some ⟨z,0,none⟩)))/\u.heap.size<=z/\w'.heap[z]? =some (.cells #[.int .i64 p,bI a k] 113 (0,0))/\Below u.heap.size u w'):=fun u ba=>Df b p (bI a k) ⟨_,rfl⟩ u (bq.keep (Js (by decide) G.env.low) ((ar.off.below H O Q).trans (ba.mono (Jt H ar.off.size)))) ((ba.block _ (aa L)).trans L);clear a5 a9 K au a' r ap E q;go_wp2_with fail
 go_region_held3 (fun w'=>w'.cell? ⟨w.heap.size,0,none⟩=some (.pointer none)/\w'.cell? ⟨w.heap.size,1,none⟩=some (.iface 110 (.pointer (some ⟨b,0,none⟩)))) (go_keep) (first|(go_at_call 80;refine(bu _ (by first|exact(Jj _ _).drew|exact Jj _ _)).mono ?_;rintro e M ⟨ax,rfl,bb,bc,N⟩;have b1:=(N.cell (p:=⟨w.heap.size,0,none⟩) (by simpa using J)).trans ak;have b2:=(N.cell (p:=⟨w.heap.size,1,none⟩) (by simpa using J)).trans al;have be:Hid (Below i.heap.size i M):=Kn (by first|exact(Jj _ _).drew|exact Jj _ _) N;have bv:=ab bc;have b3:i.heap.size<=ax:=(by simpa using bb);clear N bc bb))
 all_goals
  go_wp2;have ay:=ar.below be;have aA:=ab ay;obtain⟨A,D⟩:=blk ay.blk;have F:M.cell? ⟨c,1,none⟩=some (.int .i32 1):=A 1;have f1:M.frozen? ⟨c,1,none⟩=false:=D 1;clear ay A D;refine LR (f:=77) (args:= #[.pointer (some ⟨c,1,none⟩)]) (by simp) (by simp[go_sem]) ?_;refine(Lp jA ⟨c,1,none⟩ .returning _ F f1).mono ?_;rintro e b4 b5 ⟨rfl,rfl,rfl⟩;refine⟨_,L5 rfl _ _ _,ax,rfl,?_,⟨b,?_,aA.map.setCell (a:=⟨c,1,none⟩) R _⟩,?_,aA.off.trans (aF.setCell c d M 1 _)⟩
  ·rw[Jp _ _ _ _ (by show ax≠c;omega)];exact bv
  ·rw[Jp _ _ _ _ av.1];exact(be.block _ (aa L)).trans L
  ·rw[am aA.blk];rfl
theorem BI(a:Nat->Addr)(h:Nat)(w:World)(ad:cJ a h w)(ae:ij w)(b c n:Nat)(F:h<=b)(G:h<=c)(l:DataW Value)(s:ByteArray)(aI:1000<s.size)(a1:s.size<=281474976710656)(u:Value)(v m:Int)(aj:c≠b)
  (q:w.heap[b]? =some (.cells (dr u 0 v c m) 140 (0,0))) (H:w.ownsMap prog 9 l9 c n l) (I:Maps.has l (.string s.data.toList)=false) (J: ∀ak,l.atKey (.string s.data.toList) ak=ak):
  Calls prog 50 #[.pointer (some ⟨b,1,none⟩),.string s] w fun e w'=>e=.returned (.tuple #[.pointer none,bI a fS])/\w'.heap[b]? =some (.cells (dr u 0 v c m) 140 (0,0))/\w'.ownsMap prog 9 l9 c n l/\aF b c w w':=by
 have aJ:=Lo (P:=prog) underlying9 (s:=s) (by unfold maxLen;omega);obtain⟨i,r⟩:=blk q;have a2:=aa q;have a3:=H.lt;have x:w.cell? ⟨b,1,none⟩=some (.int .i32 0):=i 1;have f1:w.frozen? ⟨b,1,none⟩=false:=r 1;have aL:w.cell? ⟨b,3,none⟩=some (.map (some c)):=i 3;obtain⟨a4,y,aN,a5,a9,K⟩:=io q ad ae I J (H.setCell (a:=⟨b,1,none⟩) aj (.int .i32 1));have al:=am (off:=1) q (.int .i32 1);have an:Hid ((w.setCell ⟨b,1,none⟩ (.int .i32 1)).heap[b]? =some (.cells (dr u 1 v c m) 140 (0,0))):=al;have ao:Hid (aF b c w (w.setCell ⟨b,1,none⟩ (.int .i32 1))):=aF.setCell b c w 1 _;have aR:(Instr.lookup 136 (.map (some c)) (.string s) true).run prog (w.setCell ⟨b,1,none⟩ (.int .i32 1))=.ok (.tuple #[.agg #[.pointer none,.nilIface],.bool false]) (w.setCell ⟨b,1,none⟩ (.int .i32 1)):=by obtain⟨a',ba,aT,d⟩:=K.look_ok lw (t:=136) (e:=209) underlying136 (zeroValue209 _) rfl aJ;rw[J]at d;injection d with d;injection d with d _;injection d with d;rw[aT,I,d]
 clear q H ad ae I J i r al
 go_enter_defers func50,ntmps50
 go_wp2_with (go_at_call 76;refine(Mb jA ⟨b,1,none⟩ _ x f1).mono ?_;rintro e w' ⟨rfl,rfl⟩);have ap:Hid (Qy w u b c 1 v m n l ((w.setCell ⟨b,1,none⟩ (.int .i32 1)).alloc (.cells #[.pointer none,.nilIface] 209))):=Qy.below ⟨U an,K,ao⟩ ((Jj _ _).alloc (Ji _) _);have ar:((w.setCell ⟨b,1,none⟩ (.int .i32 1)).alloc (.cells #[.pointer none,.nilIface] 209)).heap[w.heap.size]? =some (.cells #[.pointer none,.nilIface] 209 (0,0)):=af (by simp[World.setCell]);generalize(w.setCell ⟨b,1,none⟩ (.int .i32 1)).alloc (.cells #[.pointer none,.nilIface] 209)=bb at*;have z:h<=w.heap.size:=y.env.size;have L:=ab ar;clear aR ar x f1 aL K an ao;refine(vF s _ (by omega)).mono ?_;rintro e bc ⟨rfl,M⟩;obtain⟨N,O⟩:=ag (ap.below M) ((M.block _ (aa L)).trans L);clear M ap L;go_wp2_with fail;refine(CP s a h _ (by exact(y.keep (N.off.below z F G)).env) aI).mono ?_;rintro e A ⟨rfl,Q⟩;have au:=ab (N.below Q);have B:=(Q.block _ (aa O)).trans O;have av:=ab B;obtain⟨g,ax⟩:=blk B;have R:A.cell? ⟨w.heap.size,0,none⟩=some (.pointer none):=g 0;have S:A.cell? ⟨w.heap.size,1,none⟩=some .nilIface:=g 1;have C:=aa B;have ay:w.heap.size≠b:=by omega
 have aA:w.heap.size≠c:=by omega
 clear Q B N O g;go_wp2_with fail;have T:=ab ((au.set (o:=0) (Ji _) ay aA (.pointer none)).set (o:=1) (Ji _) ay aA (bI a fS));have V:Hid (((A.setCell ⟨w.heap.size,0,none⟩ (.pointer none)).setCell ⟨w.heap.size,1,none⟩ (bI a fS)).heap[w.heap.size]? =some (.cells #[.pointer none,(bI a fS)] 209 (0,0))):=by unfold Hid;rw[am (am (U av) _)];rfl
 generalize(A.setCell ⟨w.heap.size,0,none⟩ (.pointer none)).setCell ⟨w.heap.size,1,none⟩ (bI a fS)=be at*;clear au av R S C ax;refine(Dg a h _ (by exact y.keep (T.off.below z F G)) b s).mono ?_;rintro e j ⟨rfl,W⟩;have X:=ab (T.below W);have Y:=(W.block _ (aa V)).trans V;obtain⟨g,ax⟩:=blk Y;have R:j.cell? ⟨w.heap.size,0,none⟩=some (.pointer none):=g 0;have S:j.cell? ⟨w.heap.size,1,none⟩=some (bI a fS):=g 1;have C:=aa Y;have aU:Hid (∀k,Below j.heap.size j k->Calls prog 80 #[bI a fS] k fun e w'=>e=.returned (bI a fS)/\Below k.heap.size k w'):=fun k aV=>GJ _ k (aN.keep (Js (by decide) y.env.low) ((X.off.below z F G).trans (aV.mono (Jt z X.off.size))));clear W Y T V g;go_wp2_with fail
 go_region_held3 (fun w'=>w'.cell? ⟨w.heap.size,0,none⟩=some (.pointer none)/\w'.cell? ⟨w.heap.size,1,none⟩=some (bI a fS)) (go_keep) (first|(go_at_call 80;refine(aU _ (by first|exact(Jj _ _).drew|exact Jj _ _)).mono ?_;rintro e D ⟨rfl,E⟩;have bg:=(E.cell (p:=⟨w.heap.size,0,none⟩) (by simpa using C)).trans R;have bk:=(E.cell (p:=⟨w.heap.size,1,none⟩) (by simpa using C)).trans S;have a0:Hid (Below j.heap.size j D):=Kn (by first|exact(Jj _ _).drew|exact Jj _ _) E;clear E))
 all_goals
  go_wp2;have Z:=X.below a0;have ac:=ab Z;obtain⟨i,r⟩:=blk Z.blk;have x:D.cell? ⟨b,1,none⟩=some (.int .i32 1):=i 1;have f1:D.frozen? ⟨b,1,none⟩=false:=r 1;clear Z i r;refine LR (f:=77) (args:= #[.pointer (some ⟨b,1,none⟩)]) (by simp) (by simp[go_sem]) ?_;refine(Lp jA ⟨b,1,none⟩ .returning _ x f1).mono ?_;rintro e bl bn ⟨rfl,rfl,rfl⟩;refine⟨_,L5 rfl _ _ _,rfl,?_,ac.map.setCell (a:=⟨b,1,none⟩) aj _,ac.off.trans (aF.setCell b c D 1 _)⟩;rw[am ac.blk];rfl
theorem vG(a:Nat->Addr)(C:Nat)(w:World)(L:cJ a C w)(f h:Nat)(bc:C<=f)(be:C<=h)(s:ByteArray)(X:cH)(o p q:Nat)(T:List Tb)(bg m:Int)(bS:f<w.heap.size)(bX:h<w.heap.size)(M:World->Prop)
  (ad: ∀g,g=w.alloc (.cells #[.slice none 0 0,.slice none 0 0] 68)->Calls prog 50 #[.pointer (some ⟨f,1,none⟩),.string s] g fun e d=> ∃b,e=.returned (.tuple #[.pointer (some ⟨b,0,none⟩),.nilIface])/\(∃lo,de d lo (.pointer (some ⟨b,0,none⟩)) X)/\d.heap[f]? =some (.cells (dr (.slice (some ⟨o,p,none⟩) T.length q) 0 bg h m) 140 (0,0))/\M d/\aF f h g d)
  (ae:X.wth=none) (aj: ∀i∈X.main.items,i.win=none) (ak:0<X.main.items.length) (al:X.main.items.length<=6) (an:0<X.main.srcs.length) (ao:X.main.srcs.length<=3) (ap:X.main.tests.length<=1000)
  (ar: ∀W,aF f h w W->bp W (.slice (some ⟨o,p,none⟩) T.length q) T) (au: ∀t∈T,t.cols.length<=6) (av: ∀t∈T,t.rows.length<=200) (ax: ∀t∈T,∀r∈t.rows,r.length=t.cols.length)
  (ay:Fs) (u:Nat) (aA l:List (List Int)) (R:Option (Nat×Nat)) (aI:Pn T X.main ay u aA l R):
  Calls prog 25 #[.pointer (some ⟨f,0,none⟩),.string s] w fun e w'=>sh a w f h u l X.main.items R e w'/\ ∃d cs,M d/\aF w.heap.size w.heap.size d w'/\d.heap[w.heap.size]? =some (.cells cs 68 (0,0)):=by
 obtain⟨g,x⟩: ∃g,g=w.alloc (.cells #[.slice none 0 0,.slice none 0 0] 68):=⟨_,rfl⟩
 have D:Below w.heap.size w g:=by rw[x];exact(Jj _ _).alloc (Ji _) _
 have N:g.heap[w.heap.size]? =some (.cells #[.slice none 0 0,.slice none 0 0] 68 (0,0)):=by rw[x];exact af rfl
 obtain⟨aJ,aL⟩:=ag (L.keep (D.mono L.env.size)) (ad g x);have aN:Hid (∀d b lo,aF f h g d->de d lo (.pointer (some ⟨b,0,none⟩)) X-> ∃j:List (bH×Value×Option Addr),j.map (·.1)=X.main.items/\Calls prog 51 #[.pointer (some ⟨b,0,none⟩),.slice (some ⟨o,p,none⟩) T.length q] d fun e w'=>sf a d u l j R e w'):=fun d b lo k E=>zT a d C (aJ.keep (k.below aJ.env.size bc be)) lo b X E ae aj ak al an ao ap o p q T (ar d ((Below.off2 D).trans k)) au av ax ay u aA l R aI;have bk:Hid (aF f h w g):=Below.off2 D;have bl:=ab N;have bn:=aa N;have bq:=ab x;clear L ad ae aj ak al an ao ap ar au av ax aI D N x;go_enter func25,ntmps25;go_wp2_with fail;rw[<-U bq];refine aL.mono ?_;rintro e d ⟨b,rfl,⟨lo,aR⟩,O,aT,y⟩;obtain⟨j,aU,aV⟩:=(U aN) d b lo y aR;obtain⟨br,a0⟩:=ag aT aV;have P:=(y.block _ bn (by omega) (by omega)).trans bl;have a1:=ab P;have a2:=aa P;have bs:Hid (aF f h w d):=bk.trans y;obtain⟨a3,-⟩:=blk O;have bt:d.cell? ⟨f,0,none⟩=some (.slice (some ⟨o,p,none⟩) T.length q):=a3 0;have b0:=aa O;have b1:=y.size;clear aR O aT y aV P a3 aL aN;go_wp2_with fail;refine a0.mono ?_;rintro e n ⟨F,G,H,I⟩;have J:=(F.block _ a2).trans a1;have bu:=ab J;obtain⟨Q,S⟩:=blk J;have b2:=aa J;have b3:n.cell? ⟨w.heap.size,0,none⟩=some (.slice none 0 0):=Q 0;have b4:n.cell? ⟨w.heap.size,1,none⟩=some (.slice none 0 0):=Q 1;have b5:n.frozen? ⟨w.heap.size,0,none⟩=false:=S 0;have b6:n.frozen? ⟨w.heap.size,1,none⟩=false:=S 1;have V:Hid (∀z v,aF f h w ((n.setCell ⟨w.heap.size,0,none⟩ z).setCell ⟨w.heap.size,1,none⟩ v)):=fun z v=>by have k:=bs.trans (Below.off2 F);refine⟨k.os,k.tape,k.output,by simpa [World.setCell]using k.size,fun A bv bx bz=>?_⟩;rw[Jp _ _ _ _ (by show A≠w.heap.size;omega),Jp _ _ _ _ (by show A≠w.heap.size;omega)];exact k.block A bv bx bz
 have b7:w.heap.size<d.heap.size:=a2
 have Y:Hid (∀z v,∃d cs,M d/\aF w.heap.size w.heap.size d ((n.setCell ⟨w.heap.size,0,none⟩ z).setCell ⟨w.heap.size,1,none⟩ v)/\d.heap[w.heap.size]? =some (.cells cs 68 (0,0))):=fun z v=>⟨d,_,br,(Below.off2 F).trans ((aF.setCell _ _ _ _ _).trans (aF.setCell _ _ _ _ _)),a1⟩
 clear F J Q S a0 bt
 cases R with
 |some bA=>obtain⟨bF,A⟩:=bA;obtain⟨b9,rfl,K,rfl,k,E⟩:=G bF A rfl;have bG:=ab E;clear G H I E;go_wp2;refine Jr (v:=.tuple #[.agg #[.slice none 0 0,.slice none 0 0],.iface 110 (.pointer (some ⟨K,0,none⟩))]) (by simp[results,results25,go_sem, *]) rfl ⟨⟨(U V) _ _,fun a4 a5 e=>?_,(fun e=>by cases e),(fun e=>by cases e)⟩,(U Y) _ _⟩;cases e;refine⟨K,rfl,by omega,?_⟩;rw[Jp _ _ _ _ (by show K≠w.heap.size;omega),Jp _ _ _ _ (by show K≠w.heap.size;omega)];exact bG
 |none=>
  by_cases Z:4000<u
  ·obtain rfl:=H rfl Z;clear G H I;go_wp2;exact Jr (v:=.tuple #[.agg #[.slice none 0 0,.slice none 0 0],bI a cB]) (by simp[results,results25,go_sem, *]) rfl ⟨⟨(U V) _ _,(fun a4 a5 e=>by cases e),fun _ _=>rfl,fun _ a9=>absurd Z (by omega)⟩,(U Y) _ _⟩
  ·obtain⟨B,ac,rfl,b',ca,a',ba⟩:=I rfl (by omega);obtain⟨bJ,bL,bb⟩:=aC a' ba aU;clear G H I a' ba aU;go_wp2;refine Jr (v:=.tuple #[.agg #[.slice (some ⟨B,0,none⟩) j.length j.length,.slice (some ⟨ac,0,none⟩) l.length l.length],.nilIface]) (by simp[results,results25,go_sem, *]) rfl ⟨⟨(U V) _ _,(fun a4 a5 e=>by cases e),(fun _ a9=>absurd a9 Z),fun _ _=>⟨B,ac,j,bb,rfl,by omega,by omega,?_,?_⟩⟩,(U Y) _ _⟩
   ·rw[Jp _ _ _ _ (by show B≠w.heap.size;omega),Jp _ _ _ _ (by show B≠w.heap.size;omega)];exact bJ
   ·have bN:=bL.off (c:=w.heap.size) (w':=(n.setCell ⟨w.heap.size,0,none⟩ (.slice (some ⟨B,0,none⟩) j.length j.length)).setCell ⟨w.heap.size,1,none⟩ (.slice (some ⟨ac,0,none⟩) l.length l.length)) ((aF.setCell _ _ _ _ _).trans (aF.setCell _ _ _ _ _)) (by omega) (fun cs e=>by rw[U bu]at e;injection e with e;injection e with _ e _;exact absurd e (by decide));rw[show X.main.items.length=j.length by rw[<-U bb,Jm]];exact bN.mono (by omega)
theorem Di(w:World)(c d:Nat)(s:ByteArray)(G:c<w.heap.size)(H:d<w.heap.size)(i:Value->World->Prop)
  (n: ∀a,a=w.alloc (.cells #[.slice none 0 0,.slice none 0 0] 68)->Calls prog 50 #[.pointer (some ⟨c,1,none⟩),.string s] a fun e b=> ∃t v,e=.returned (.tuple #[.pointer none,.iface t v])/\i (.iface t v) b/\aF c d a b) (o: ∀t v W,i (.iface t v) W-> ∀W',(binOp .neq 23 (.iface t v) .nilIface).run prog W'=.ok (.bool true) W'):
  Calls prog 25 #[.pointer (some ⟨c,0,none⟩),.string s] w fun e w'=> ∃v,e=.returned (.tuple #[.agg #[.slice none 0 0,.slice none 0 0],v])/\aF c d w w'/\ ∃b cs,i v b/\aF w.heap.size w.heap.size b w'/\b.heap[w.heap.size]? =some (.cells cs 68 (0,0)):=by
 obtain⟨a,f⟩: ∃a,a=w.alloc (.cells #[.slice none 0 0,.slice none 0 0] 68):=⟨_,rfl⟩
 have p:Below w.heap.size w a:=by rw[f];exact(Jj _ _).alloc (Ji _) _
 have j:a.heap[w.heap.size]? =some (.cells #[.slice none 0 0,.slice none 0 0] 68 (0,0)):=by rw[f];exact af rfl
 obtain⟨q,r⟩:=ag (n a f) o;have u:Hid (aF c d w a):=Below.off2 p;have x:=ab j;have y:=aa j;have z:=ab f;clear n p j f o;go_enter func25,ntmps25;go_wp2_with fail;rw[<-U z];refine q.mono ?_;rintro e b ⟨t,v,rfl,k,l⟩;have A:=ab k;have I:=(U r) t v b k;have h:=(l.block _ y (by omega) (by omega)).trans x;have B:=ab h;obtain⟨J,K⟩:=blk h;have L:=aa h;have C:Hid (aF c d w b):=u.trans l;clear l h q k;go_wp2;refine Jr (v:=.tuple #[.agg #[.slice none 0 0,.slice none 0 0],.iface t v]) (by simp[results,results25,go_sem, *]) rfl ⟨_,rfl,?_,b,_,A,(aF.setCell _ _ _ _ _).trans (aF.setCell _ _ _ _ _),B⟩;have g:=U C;refine⟨g.os,g.tape,g.output,by simpa [World.setCell]using g.size,fun m D E F=>?_⟩;rw[Jp _ _ _ _ (by show m≠w.heap.size;omega),Jp _ _ _ _ (by show m≠w.heap.size;omega)];exact g.block m D E F
def kT(t:TypeId):Bool:=qT t||t==180||t==113
theorem aw.qt{w w':World}{lo:Nat}(a:aw kT 0 w w'):aw qT lo w w':=a.mono (fun c b=>by unfold kT;rw[b];rfl) (KO _)
theorem de.kt{w w':World}{lo:Nat}{v:Value}{x:cH}(e:de w lo v x)(a:aw kT 0 w w'):de w' lo v x:=by obtain⟨b,f,g,h,i,c,j,k⟩:=e;have d:aw qT lo w w':=a.qt;exact⟨b,f,g,h,i,(a b _ _ (KO _) c rfl).trans c,j.keep (Ji _) d,k.keep (Ji _) d.sel⟩
theorem aw.off2{w w':World}{p d:Nat}(e:aF p d w w')(f: ∀cs t,w.heap[p]? =some (.cells cs t (0,0))->kT t=false)(g: ∀cs t,w.heap[d]? =some (.cells cs t (0,0))->kT t=false):aw kT 0 w w':=fun h cs t _ b a=>e.block h (aa b) (fun c=>by subst c;rw[f cs t b]at a;cases a) (fun c=>by subst c;rw[g cs t b]at a;cases a)
abbrev lx(s:ByteArray):Lit:=.string s.data.toList
theorem qL{s t:ByteArray}(b:s≠t):lx s≠lx t:=fun a=>b (by
 injection a with a;obtain⟨⟨c⟩⟩:=s;obtain⟨⟨d⟩⟩:=t;simp only at a
 rw[a])
structure AN(a:Nat->Addr)(W:World)(s:ByteArray)(v:Value):Prop where
 ok: ∀X,cP s=.ok X-> ∃b lo,v=.agg #[.pointer (some ⟨b,0,none⟩),.nilIface]/\de W lo (.pointer (some ⟨b,0,none⟩)) X
 bad: ∀p k,cP s=.error (p,k)-> ∃b,v=.agg #[.pointer none,.iface 110 (.pointer (some ⟨b,0,none⟩))]/\W.heap[b]? =some (.cells #[.int .i64 (p:Nat),bI a k] 113 (0,0))
theorem AN.keep{a:Nat->Addr}{W W':World}{s:ByteArray}{v:Value}(e:AN a W s v)(f:aw kT 0 W W'):AN a W' s v:=
 ⟨fun X g=>by obtain⟨b,lo,d,c⟩:=e.ok X g;exact⟨b,lo,d,c.kt f⟩,fun h i j=>by obtain⟨b,d,c⟩:=e.bad h i j;exact⟨b,d,(f b _ _ (KO _) c rfl).trans c⟩⟩
structure Qs(a:Nat->Addr)(W:World)(qb mb:Nat)(tv:Value)(y:Int)(ks:List ByteArray)(m:Int):Prop where
 blk:W.heap[qb]? =some (.cells (dr tv 0 y mb m) 140 (0,0))
 map: ∃D,W.ownsMap prog 9 l9 mb ks.length D/\(∀s,s∈ks->s.size<=1000/\Maps.has D (lx s)=true/\ ∃v,(∀z,D.atKey (lx s) z=.held v)/\AN a W s v)/\(∀s,s∉ks->Maps.has D (lx s)=false/\ ∀z,D.atKey (lx s) z=z)
 ne:mb≠qb
theorem Qs.keep{a:Nat->Addr}{W W':World}{b c:Nat}{g:Value}{h m:Int}{i:List ByteArray}(d:Qs a W b c g h i m)(j:aw kT 0 W W')(k:W'.heap[b]? =W.heap[b]?)(l:W'.heap[c]? =W.heap[c]?):Qs a W' b c g h i m:=by
 obtain⟨n,o,p,q⟩:=d.map;refine⟨k.trans d.blk,⟨n,?_,fun r s=>?_,q⟩,d.ne⟩
 ·obtain⟨t,u,e,f⟩:=o;exact⟨t,u,l.trans e,f⟩
 ·obtain⟨e,f,v,w,x⟩:=p r s;exact⟨e,f,v,w,x.keep j⟩
theorem Qs.box{a:Nat->Addr}{W W':World}{e d c:Nat}{i:Value}{j m:Int}{k:List ByteArray}(f:Qs a W e d i j k m)(g:aF c c W W'){cs:Array Value}{t:TypeId}(q:W.heap[c]? =some (.cells cs t (0,0)))(r:kT t=false)(l:e≠c)(n:d≠c):Qs a W' e d i j k m:=by
 have s:d<W.heap.size:=by obtain⟨v,u,-⟩:=f.map;exact u.lt
 have o: ∀p h,W.heap[c]? =some (.cells p h (0,0))->kT h=false:=fun p h b=>by rw[q]at b;injection b with b;injection b with _ b _;rw[<-b];exact r
 exact f.keep (aw.off2 g o o) (g.block _ (aa f.blk) l l) (g.block _ s n n)
theorem Qs.below{a:Nat->Addr}{W W':World}{e b:Nat}{f:Value}{g m:Int}{h:List ByteArray}(c:Qs a W e b f g h m)(d:Below W.heap.size W W'):Qs a W' e b f g h m:=by
 have i:b<W.heap.size:=by obtain⟨k,j,-⟩:=c.map;exact j.lt
 exact c.keep (aw.ofBelow d) (d.block _ (aa c.blk)) (d.block _ i)
theorem Qs.more{a:Nat->Addr}{W W':World}{j g:Nat}{n:Value}{o p:Int}{d:List ByteArray}{e:DataW Value}(t:aw kT 0 W W')(q:IsMap e){s:ByteArray}{v:Value}(u:s.size<=1000)(w:AN a W' s v)
  (x: ∀s,s∈d->s.size<=1000/\Maps.has e (lx s)=true/\ ∃v,(∀b,e.atKey (lx s) b=.held v)/\AN a W s v) (y: ∀s,s∉d->Maps.has e (lx s)=false/\ ∀b,e.atKey (lx s) b=b)
  (z:W'.heap[j]? =some (.cells (dr n 0 o g p) 140 (0,0))) (A:W'.ownsMap prog 9 l9 g (d.length+1) (e.put (lx s) (.held v))) (B:g≠j) (H:s∉d):Qs a W' j g n o (s::d) p:=by
 refine⟨z,⟨_,A,fun c h=>?_,fun c h=>?_⟩,B⟩
 ·by_cases i:c=s
  ·subst i;exact⟨u,has_put_same q (k:=lx c) trivial _,v,fun b=>atKey_put_same q (k:=lx c) trivial _ b,w⟩
  ·have C:c∈d:=by rcases JG.1 h with f|f;exact absurd f i;exact f
   obtain⟨l,m,D,E,F⟩:=x c C;exact⟨l,by rw[has_put_other (qL i)];exact m,D,fun b=>by rw[atKey_put_other (qL i)];exact E b,F.keep t⟩
 ·have r:c≠s:=fun G=>h (by rw[G];exact JK);obtain⟨l,m⟩:=y c (fun f=>h (KQ _ f));exact⟨by rw[has_put_other (qL r)];exact l,fun b=>by rw[atKey_put_other (qL r)];exact m b⟩
theorem Dj:kT 140=false:=by decide
theorem iM:kT 68=false:=by decide
theorem Qs.off{a:Nat->Addr}{W W':World}{c d:Nat}{f:Value}{g m:Int}{h:List ByteArray}(e:Qs a W c d f g h m)(i:aF c d W W'):aw kT 0 W W':=by
 refine aw.off2 i (fun j k b=>?_) (fun j k b=>?_)
 ·rw[e.blk]at b;injection b with b;injection b with _ b _;rw[<-b];exact Dj
 ·obtain⟨n,⟨o,p,l,-⟩,-⟩:=e.map;rw[l]at b;injection b with b;cases b
theorem IJ(v:Value)(W:World):(binOp .neq 23 (.iface 110 v) .nilIface).run prog W=.ok (.bool true) W:=by
 have b: ∀a:Nat,(Op.equalIn (a+1) 23 (.iface 110 v) .nilIface).run prog W=.ok false W:=fun a=>by simp[Op.equalIn,run_underlying underlying23]
 simp only[binOp];simp[Op.equal,Op.maxDepth,b 9999]
theorem Ih(v:Value)(W:World):(binOp .neq 23 (.iface 496 v) .nilIface).run prog W=.ok (.bool true) W:=by
 have b: ∀a:Nat,(Op.equalIn (a+1) 23 (.iface 496 v) .nilIface).run prog W=.ok false W:=fun a=>by simp[Op.equalIn,run_underlying underlying23]
 simp only[binOp];simp[Op.equal,Op.maxDepth,b 9999]
theorem Qs.lt{a:Nat->Addr}{W:World}{b c:Nat}{e:Value}{f m:Int}{g:List ByteArray}(d:Qs a W b c e f g m):b<W.heap.size/\c<W.heap.size:=⟨aa d.blk,by obtain⟨i,h,-⟩:=d.map;exact h.lt⟩
theorem Dk(a:Nat->Addr)(h:Nat)(w:World)(n:cJ a h w)(o:ij w)(b c:Nat)(z:h<=b)(A:h<=c)(i:Value)(j m:Int)(d:List ByteArray)(p:Qs a w b c i j d m)(s:ByteArray)(B:1000<s.size)(C:s.size<=281474976710656):
  Calls prog 25 #[.pointer (some ⟨b,0,none⟩),.string s] w fun e w'=>e=.returned (.tuple #[.agg #[.slice none 0 0,.slice none 0 0],bI a fS])/\aF b c w w'/\Qs a w' b c i j d m:=by
 obtain⟨D,E⟩:=p.lt;have F:10<w.heap.size:=JR w _ o;refine(Di w b c s D E (fun f q=>f=bI a fS/\Qs a q b c i j d m) (fun r G=>?_) (fun t f q H X=>?_)).mono ?_
 ·have k:Below w.heap.size w r:=by rw[G];exact(Jj _ _).alloc (Ji _) _
  have g:=p.below k;obtain⟨u,I,v,l⟩:=g.map;have x:s∉d:=fun J=>by have:=(v s J).1;omega
  refine(BI a h r (n.keep (k.mono n.env.size)) (o.keep F k) b c d.length z A u s B C i j m g.ne g.blk I (l s x).1 (l s x).2).mono ?_;rintro e K ⟨rfl,L,M,y⟩;refine⟨_,_,rfl,⟨rfl,L,⟨u,M,fun t N=>?_,l⟩,g.ne⟩,y⟩;obtain⟨O,P,f,Q,R⟩:=v t N;exact⟨O,P,f,Q,R.keep (g.off y)⟩
 ·rw[H.1];exact Ih _ _
 ·rintro e w' ⟨f,rfl,S,K,Y,⟨rfl,T⟩,V,W⟩;exact⟨rfl,S,T.box V W iM (by omega) (by omega)⟩
theorem Fk(a:Nat->Addr)(u:Nat)(w:World)(B:cJ a u w)(G:ij w)(f l:Nat)(T:u<=f)(V:u<=l)(v:Value)(x m:Int)(d:List ByteArray)(W:d.length<1000000000)(H:Qs a w f l v x d m)(s:ByteArray)(C:s.size<=1000)(p k:Nat)(z:cP s=.error (p,k))(X:tw k=true/\k≠0):
  Calls prog 25 #[.pointer (some ⟨f,0,none⟩),.string s] w fun e w'=> ∃b h,e=.returned (.tuple #[.agg #[.slice none 0 0,.slice none 0 0],.iface 110 (.pointer (some ⟨b,0,none⟩))])/\w'.heap[b]? =some (.cells #[.int .i64 (p:Nat),bI a k] 113 (0,0))/\aF f l w w'/\Qs a w' f l v x h m/\(h=d/\s∈d∨h=s::d/\s∉d):=by
 obtain⟨Y,Z⟩:=H.lt;have I:10<w.heap.size:=JR w _ G;refine(Di w f l s Y Z (fun q i=> ∃b h,q=.iface 110 (.pointer (some ⟨b,0,none⟩))/\i.heap[b]? =some (.cells #[.int .i64 (p:Nat),bI a k] 113 (0,0))/\Qs a i f l v x h m/\(h=d/\s∈d∨h=s::d/\s∉d)) (fun r ac=>?_) (fun aI q i J aJ=>?_)).mono ?_
 ·have A:Below w.heap.size w r:=by rw[ac];exact(Jj _ _).alloc (Ji _) _
  have j:=H.below A;obtain⟨K,D,L,E⟩:=j.map;have ad:=B.keep (A.mono B.env.size);have M:ij r:=G.keep I A;by_cases t:s∈d
  ·obtain⟨aL,ae,q,aj,ak⟩:=L s t;obtain⟨b,rfl,n⟩:=ak.bad p k z;have al:=aa n;have an:b≠f:=fun e=>by have c:=j.blk;rw[<-e,n]at c;injection c with c;injection c with _ c _;exact absurd c (by decide)
   have aN:10<u:=Js (by decide) B.env.low;refine(rD r f l d.length K s C v x m j.ne none _ (Or.inr ⟨_,_,rfl⟩) j.blk D ae aj (fun q i=> ∃g,q=.iface 110 (.pointer (some ⟨g,0,none⟩))/\g≠f/\i.heap[g]? =some (.cells #[.int .i64 (p:Nat),bI a k] 113 (0,0))) (fun e i aR F=>?_) (fun i N J=>?_)).mono ?_
   ·obtain⟨g,c,o,y⟩:=F;exact⟨g,c,o,by rw[Jp _ _ _ _ o];exact y⟩
   ·have ao:ij i:=by
     have c:i.heap[10]? =r.heap[10]? :=N _ (Js I A.size) (by omega);exact(World.cell?_of_block (w:=r) (a:=⟨10,0,none⟩) c).trans M
    refine(Df b p (bI a k) ⟨_,rfl⟩ i ao ((N b al an).trans n)).mono ?_;rintro e w' ⟨g,rfl,c,o,y⟩;exact⟨_,rfl,⟨g,rfl,by have:=j.lt.1;omega,o⟩,y⟩
   ·rintro e w' ⟨aT,rfl,⟨g,rfl,c,o⟩,O⟩;exact⟨_,_,rfl,⟨g,d,rfl,o,j.below O,Or.inl ⟨rfl,t⟩⟩,Below.off2 O⟩
  ·refine(Dh a u r ad M f l d.length T V K s C p k z X v x m W j.ne j.blk D (E s t).1 (E s t).2).mono ?_;rintro e ap ⟨g,rfl,c,⟨b,o,y⟩,ar,P⟩;refine⟨_,_,rfl,⟨g,s::d,rfl,c,?_,Or.inr ⟨rfl,t⟩⟩,P⟩;refine Qs.more (j.off P) D.isMap C ⟨fun aU e=>(by rw[z]at e;cases e),fun aV a0 e=>?_⟩ L E ar y j.ne t;rw[z]at e;injection e with e;injection e with au av;subst au av;exact⟨b,rfl,o⟩
 ·obtain⟨b,h,F,-⟩:=J;rw[F];exact IJ _ _
 ·rintro e w' ⟨q,rfl,ax,ap,a1,⟨b,h,rfl,n,ay,aA⟩,Q,R⟩;have S:b≠w.heap.size:=fun e=>by rw[e,R]at n;injection n with c;injection c with _ c _;exact absurd c (by decide)
  exact⟨b,h,rfl,(Q.block _ (aa n) S S).trans n,ax,ay.box Q R iM (by omega) (by omega),aA⟩
theorem GK(a:Nat->Addr)(n:Nat)(w:World)(p:cJ a n w)(b d:Nat)(y:n<=b)(z:n<=d)(h j k:Nat)(T:List Tb)(g m:Int)(aI:0<=m/\m<1000000000)(c:List ByteArray)(aJ:c.length<1000000000)(N:Qs a w b d (.slice (some ⟨h,j,none⟩) T.length k) g c m)(s:ByteArray)(A:s.size<=1000)(X:cH)(q:cP s=.ok X)
  (O:X.wth=none) (P: ∀i∈X.main.items,i.win=none) (Q:0<X.main.items.length) (S:X.main.items.length<=6) (V:0<X.main.srcs.length) (Y:X.main.srcs.length<=3) (Z:X.main.tests.length<=1000)
  (ac: ∀W,aF b d w W->bp W (.slice (some ⟨h,j,none⟩) T.length k) T) (ad: ∀t∈T,t.cols.length<=6) (ae: ∀t∈T,t.rows.length<=200) (aj: ∀t∈T,∀r∈t.rows,r.length=t.cols.length)
  (B:Fs) (u:Nat) (C l:List (List Int)) (R:Option (Nat×Nat)) (ak:Pn T X.main B u C l R):
  Calls prog 25 #[.pointer (some ⟨b,0,none⟩),.string s] w fun e w'=>sh a w b d u l X.main.items R e w'/\ ∃D E,Qs a w' b d (.slice (some ⟨h,j,none⟩) T.length k) g D E/\((D=c/\E=m/\s∈c)∨D=s::c/\E=m+1/\s∉c):=by
 obtain⟨al,an⟩:=N.lt;have ao:Below w.heap.size w (w.alloc (.cells #[.slice none 0 0,.slice none 0 0] 68)):=(Jj _ _).alloc (Ji _) _;have f:=N.below ao;obtain⟨ap,F,ar,G⟩:=f.map;have aL:=p.keep (ao.mono p.env.size);by_cases o:s∈c
 ·obtain⟨a3,aN,au,aR,aT⟩:=ar s o;obtain⟨v,aU,rfl,aV⟩:=aT.ok X q;refine(vG a n w p b d y z s X h j k T g m al an (fun W=>Qs a W b d (.slice (some ⟨h,j,none⟩) T.length k) g c m) (fun a0 H=>?_) O P Q S V Y Z ac ad ae aj B u C l R ak).mono ?_
  ·subst H;refine(rD _ b d c.length ap s A _ g m f.ne _ _ (Or.inl rfl) f.blk F aN aR (fun au _=>au=.nilIface) (fun e W a4 I=>I) (fun W a5 a9=>?_)).mono ?_
   ·refine(tF W).mono ?_;rintro e w' ⟨rfl,I⟩;exact⟨_,rfl,rfl,I⟩
   ·rintro e w' ⟨a',rfl,rfl,x⟩;exact⟨v,rfl,⟨aU,aV.keepB x⟩,(f.below x).blk,f.below x,Below.off2 x⟩
  ·rintro e w' ⟨J,av,a1,K,L,M⟩;exact⟨J,c,m,K.box L M iM (by omega) (by omega),Or.inl ⟨rfl,rfl,o⟩⟩
 ·refine(vG a n w p b d y z s X h j k T g (m+1) al an (fun W=>Qs a W b d (.slice (some ⟨h,j,none⟩) T.length k) g (s::c) (m+1)) (fun a0 H=>?_) O P Q S V Y Z ac ad ae aj B u C l R ak).mono ?_
  ·subst H;refine(Da a n _ aL b d c.length y z ap s A X q _ g m aI aJ f.ne f.blk F (G s o).1 (G s o).2).mono ?_;rintro e av ⟨v,rfl,ax,ay,a2,aA⟩;refine⟨v,rfl,⟨_,ax⟩,ay,?_,aA⟩;refine Qs.more (f.off aA) F.isMap A ⟨fun ba e=>?_,fun bb bc e=>(by rw[q]at e;cases e)⟩ ar G ay a2 f.ne o;rw[q]at e;injection e with e;subst e;exact⟨v,_,rfl,ax⟩
  ·rintro e w' ⟨J,av,a1,K,L,M⟩;exact⟨J,_,_,K.box L M iM (by omega) (by omega),Or.inr ⟨rfl,rfl,o⟩⟩
end
section
open Go.RowKit Tryz
theorem gL{s:ByteArray}{i:Nat}{c:UInt8}{a:List UInt8}(e:i<s.size)(b:s.data.toList.drop i=c::a):s[i]=c:=by
 have:s.data.toList[i]? =some c:=by
  have:=JE (fun d=>d[0]?) b
  simpa using this
 rw[Kt]at this;exact(J3.1 this).2
theorem Dl(s:ByteArray)(i n:Nat)(c:UInt8)(a:List UInt8)(w:World)(g:i<s.size)(h:s.size<=1000)(b:Hid (s.data.toList.drop i=c::a))(p:aq c.toNat=false)(q:aG c.toNat=true)(j:Hid (aY aG (c::a)=n))(hn:i+n<=s.size)(k:Hid (∀c,c∈(s.extract i (i+n)).data.toList->aG c.toNat=true))(l:(s.extract i (i+n)).size<=1000)(v:Nat)(m:Hid (dX 0 (s.extract i (i+n)).data.toList=some v)):
  Calls prog 108 #[.string s,.int .i64 i] w fun e w'=>e=.returned (.tuple #[.agg #[.int .i64 3,.int .i64 i,.string (s.extract i (i+n))],.int .i64 0])/\Below w.heap.size w w':=by
 have r:s[i]=c:=gL g b;go_enter func108,ntmps108;go_wp2_with (first|(go_at_call 163;refine(cY _ _).mono ?_;rintro e w' ⟨rfl,rfl⟩)|(go_at_call 164;refine(dF _ _).mono ?_;rintro e w' ⟨rfl,rfl⟩));refine(u8 s i (c::a) _ (by omega) h b).mono ?_;rintro e w' ⟨rfl,rfl⟩;rw[U j];go_wp2_with fail;generalize d:s.extract i (i+n)=f at*;have o:=ab d;clear d;refine(nH f _ l k).mono ?_;rintro e w' ⟨rfl,rfl⟩;rw[U m];have t:decide ((v:Int)<0)=false:=by simp
 unfold oq;go_wp2;refine Jr (v:=.tuple #[.agg #[.int .i64 3,.int .i64 i,.string f],.int .i64 0]) (by simp[results,results108,go_sem]) rfl ⟨by rw[U o],?_⟩;exact((Jj _ _).alloc (Ji _) _).alloc (by simp) _
theorem zU(s:ByteArray)(i n:Nat)(c:UInt8)(a:List UInt8)(w:World)(g:i<s.size)(h:s.size<=1000)(b:Hid (s.data.toList.drop i=c::a))(p:aq c.toNat=false)(q:aG c.toNat=true)(j:Hid (aY aG (c::a)=n))(hn:i+n<=s.size)(k:Hid (∀c,c∈(s.extract i (i+n)).data.toList->aG c.toNat=true))(l:(s.extract i (i+n)).size<=1000)(m:Hid (dX 0 (s.extract i (i+n)).data.toList=none)):
  Calls prog 108 #[.string s,.int .i64 i] w fun e w'=>e=.returned (.tuple #[.agg #[.int .i64 3,.int .i64 i,.string (s.extract i (i+n))],.int .i64 3])/\Below w.heap.size w w':=by
 have r:s[i]=c:=gL g b;go_enter func108,ntmps108;go_wp2_with (first|(go_at_call 163;refine(cY _ _).mono ?_;rintro e w' ⟨rfl,rfl⟩)|(go_at_call 164;refine(dF _ _).mono ?_;rintro e w' ⟨rfl,rfl⟩));refine(u8 s i (c::a) _ (by omega) h b).mono ?_;rintro e w' ⟨rfl,rfl⟩;rw[U j];go_wp2_with fail;generalize d:s.extract i (i+n)=f at*;have o:=ab d;clear d;refine(nH f _ l k).mono ?_;rintro e w' ⟨rfl,rfl⟩;rw[U m];unfold oq;go_wp2;refine Jr (v:=.tuple #[.agg #[.int .i64 3,.int .i64 i,.string f],.int .i64 3]) (by simp[results,results108,go_sem]) rfl ⟨by rw[U o],?_⟩;exact((Jj _ _).alloc (Ji _) _).alloc (by simp) _
def l5:List ByteArray:=[⟨#[60,62]⟩,⟨#[60,61]⟩,⟨#[62,61]⟩]
def gU:List ByteArray:=[⟨#[40]⟩,⟨#[41]⟩,⟨#[44]⟩,⟨#[46]⟩,⟨#[43]⟩,⟨#[45]⟩,⟨#[42]⟩,⟨#[61]⟩,⟨#[60]⟩,⟨#[62]⟩,⟨#[60,62]⟩,⟨#[60,61]⟩,⟨#[62,61]⟩]
theorem zV(s:ByteArray)(i:Nat)(c:UInt8)(f:List UInt8)(w:World)(g:i<s.size)(l:s.size<=1000)(h:Hid (s.data.toList.drop i=c::f))(m:aq c.toNat=false)(n:aG c.toNat=false)(o:i+1<s.size)(j:Hid (Lib.containsS l5 (s.extract i (i+2))=true))(k:Hid (Lib.containsS gU (s.extract i (i+2))=true)):
  Calls prog 108 #[.string s,.int .i64 i] w fun e w'=>e=.returned (.tuple #[.agg #[.int .i64 4,.int .i64 i,.string (s.extract i (i+2))],.int .i64 0])/\Below w.heap.size w w':=by
 have p:s[i]=c:=gL g h;have q:decide ((i:Int)+1<(s.size:Int))=true:=by simp;omega
 go_enter func108,ntmps108;go_wp2_with (first|(go_at_call 163;refine(cY _ _).mono ?_;rintro e w' ⟨rfl,rfl⟩)|(go_at_call 164;refine(dF _ _).mono ?_;rintro e w' ⟨rfl,rfl⟩))
 refine(fE _ _ _ l5 (by exact bo (by first|rfl|simp) (fun a b=>by
  match a,b with
  |0,_|1,_|2,_=>rfl
  |_+3,d=>exact absurd d (by simp[l5]))) (by decide)).mono ?_
 rintro e w' ⟨rfl,rfl⟩;rw[U j];go_wp2_with fail
 refine(fE _ _ _ gU (by exact bo (by first|rfl|simp) (fun a b=>by
  match a,b with
  |0,_|1,_|2,_|3,_|4,_|5,_|6,_|7,_|8,_|9,_|10,_|11,_|12,_=>rfl
  |_+13,d=>exact absurd d (by simp[gU]))) (by decide)).mono ?_
 rintro e w' ⟨rfl,rfl⟩;rw[U k];go_wp2;refine Jr (v:=.tuple #[.agg #[.int .i64 4,.int .i64 i,.string (s.extract i (i+2))],.int .i64 0]) (by simp[results,results108,go_sem]) rfl ⟨rfl,?_⟩
 repeat(first|exact Jj _ _|refine JY ?_ (by first|exact Ji _|(simp;done)|(simp;omega)) _)
theorem yn(s:ByteArray)(i:Nat)(c:UInt8)(a:List UInt8)(w:World)(b:i<s.size)(l:s.size<=1000)(d:Hid (s.data.toList.drop i=c::a))(m:aq c.toNat=false)(n:aG c.toNat=false)(f:i+1=s.size)(g:Hid (Lib.containsS gU (s.extract i (i+1))=true)):
  Calls prog 108 #[.string s,.int .i64 i] w fun e w'=>e=.returned (.tuple #[.agg #[.int .i64 4,.int .i64 i,.string (s.extract i (i+1))],.int .i64 0])/\Below w.heap.size w w':=by
 have o:s[i]=c:=gL b d;have p:decide ((i:Int)+1<(s.size:Int))=false:=by simp;omega
 have q:i+1<=s.size:=by omega
 have r:s.size<=i+1:=by omega
 clear f;go_enter func108,ntmps108;go_wp2_with (first|(go_at_call 163;refine(cY _ _).mono ?_;rintro e w' ⟨rfl,rfl⟩)|(go_at_call 164;refine(dF _ _).mono ?_;rintro e w' ⟨rfl,rfl⟩))
 refine(fE _ _ _ gU (by exact bo (by first|rfl|simp) (fun h j=>by
  match h,j with
  |0,_|1,_|2,_|3,_|4,_|5,_|6,_|7,_|8,_|9,_|10,_|11,_|12,_=>rfl
  |_+13,k=>exact absurd k (by simp[gU]))) (by decide)).mono ?_
 rintro e w' ⟨rfl,rfl⟩;rw[U g];go_wp2;refine Jr (v:=.tuple #[.agg #[.int .i64 4,.int .i64 i,.string (s.extract i (i+1))],.int .i64 0]) (by simp[results,results108,go_sem]) rfl ⟨rfl,?_⟩
 repeat(first|exact Jj _ _|refine JY ?_ (by first|exact Ji _|(simp;done)|(simp;omega)) _)
theorem yo(s:ByteArray)(i:Nat)(c:UInt8)(f:List UInt8)(w:World)(g:i<s.size)(l:s.size<=1000)(h:Hid (s.data.toList.drop i=c::f))(m:aq c.toNat=false)(n:aG c.toNat=false)(o:i+1<s.size)(j:Hid (Lib.containsS l5 (s.extract i (i+2))=false))(k:Hid (Lib.containsS gU (s.extract i (i+1))=true)):
  Calls prog 108 #[.string s,.int .i64 i] w fun e w'=>e=.returned (.tuple #[.agg #[.int .i64 4,.int .i64 i,.string (s.extract i (i+1))],.int .i64 0])/\Below w.heap.size w w':=by
 have p:s[i]=c:=gL g h;have q:decide ((i:Int)+1<(s.size:Int))=true:=by simp;omega
 go_enter func108,ntmps108;go_wp2_with (first|(go_at_call 163;refine(cY _ _).mono ?_;rintro e w' ⟨rfl,rfl⟩)|(go_at_call 164;refine(dF _ _).mono ?_;rintro e w' ⟨rfl,rfl⟩))
 refine(fE _ _ _ l5 (by exact bo (by first|rfl|simp) (fun a b=>by
  match a,b with
  |0,_|1,_|2,_=>rfl
  |_+3,d=>exact absurd d (by simp[l5]))) (by decide)).mono ?_
 rintro e w' ⟨rfl,rfl⟩;rw[U j];go_wp2_with fail
 refine(fE _ _ _ gU (by exact bo (by first|rfl|simp) (fun a b=>by
  match a,b with
  |0,_|1,_|2,_|3,_|4,_|5,_|6,_|7,_|8,_|9,_|10,_|11,_|12,_=>rfl
  |_+13,d=>exact absurd d (by simp[gU]))) (by decide)).mono ?_
 rintro e w' ⟨rfl,rfl⟩;rw[U k];go_wp2;refine Jr (v:=.tuple #[.agg #[.int .i64 4,.int .i64 i,.string (s.extract i (i+1))],.int .i64 0]) (by simp[results,results108,go_sem]) rfl ⟨rfl,?_⟩
 repeat(first|exact Jj _ _|refine JY ?_ (by first|exact Ji _|(simp;done)|(simp;omega)) _)
theorem zX(s:ByteArray)(i:Nat)(c:UInt8)(a:List UInt8)(w:World)(b:i<s.size)(l:s.size<=1000)(d:Hid (s.data.toList.drop i=c::a))(m:aq c.toNat=false)(n:aG c.toNat=false)(f:i+1=s.size)(g:Hid (Lib.containsS gU (s.extract i (i+1))=false)):
  Calls prog 108 #[.string s,.int .i64 i] w fun e w'=>e=.returned (.tuple #[.agg #[.int .i64 4,.int .i64 i,.string (s.extract i (i+1))],.int .i64 2])/\Below w.heap.size w w':=by
 have o:s[i]=c:=gL b d;have p:decide ((i:Int)+1<(s.size:Int))=false:=by simp;omega
 have q:i+1<=s.size:=by omega
 have r:s.size<=i+1:=by omega
 clear f;go_enter func108,ntmps108;go_wp2_with (first|(go_at_call 163;refine(cY _ _).mono ?_;rintro e w' ⟨rfl,rfl⟩)|(go_at_call 164;refine(dF _ _).mono ?_;rintro e w' ⟨rfl,rfl⟩))
 refine(fE _ _ _ gU (by exact bo (by first|rfl|simp) (fun h j=>by
  match h,j with
  |0,_|1,_|2,_|3,_|4,_|5,_|6,_|7,_|8,_|9,_|10,_|11,_|12,_=>rfl
  |_+13,k=>exact absurd k (by simp[gU]))) (by decide)).mono ?_
 rintro e w' ⟨rfl,rfl⟩;rw[U g];go_wp2;refine Jr (v:=.tuple #[.agg #[.int .i64 4,.int .i64 i,.string (s.extract i (i+1))],.int .i64 2]) (by simp[results,results108,go_sem]) rfl ⟨rfl,?_⟩
 repeat(first|exact Jj _ _|refine JY ?_ (by first|exact Ji _|(simp;done)|(simp;omega)) _)
theorem zY(s:ByteArray)(i:Nat)(c:UInt8)(f:List UInt8)(w:World)(g:i<s.size)(l:s.size<=1000)(h:Hid (s.data.toList.drop i=c::f))(m:aq c.toNat=false)(n:aG c.toNat=false)(o:i+1<s.size)(j:Hid (Lib.containsS l5 (s.extract i (i+2))=false))(k:Hid (Lib.containsS gU (s.extract i (i+1))=false)):
  Calls prog 108 #[.string s,.int .i64 i] w fun e w'=>e=.returned (.tuple #[.agg #[.int .i64 4,.int .i64 i,.string (s.extract i (i+1))],.int .i64 2])/\Below w.heap.size w w':=by
 have p:s[i]=c:=gL g h;have q:decide ((i:Int)+1<(s.size:Int))=true:=by simp;omega
 go_enter func108,ntmps108;go_wp2_with (first|(go_at_call 163;refine(cY _ _).mono ?_;rintro e w' ⟨rfl,rfl⟩)|(go_at_call 164;refine(dF _ _).mono ?_;rintro e w' ⟨rfl,rfl⟩))
 refine(fE _ _ _ l5 (by exact bo (by first|rfl|simp) (fun a b=>by
  match a,b with
  |0,_|1,_|2,_=>rfl
  |_+3,d=>exact absurd d (by simp[l5]))) (by decide)).mono ?_
 rintro e w' ⟨rfl,rfl⟩;rw[U j];go_wp2_with fail
 refine(fE _ _ _ gU (by exact bo (by first|rfl|simp) (fun a b=>by
  match a,b with
  |0,_|1,_|2,_|3,_|4,_|5,_|6,_|7,_|8,_|9,_|10,_|11,_|12,_=>rfl
  |_+13,d=>exact absurd d (by simp[gU]))) (by decide)).mono ?_
 rintro e w' ⟨rfl,rfl⟩;rw[U k];go_wp2;refine Jr (v:=.tuple #[.agg #[.int .i64 4,.int .i64 i,.string (s.extract i (i+1))],.int .i64 2]) (by simp[results,results108,go_sem]) rfl ⟨rfl,?_⟩
 repeat(first|exact Jj _ _|refine JY ?_ (by first|exact Ji _|(simp;done)|(simp;omega)) _)
end
end Go.Proofs.YtfkeddkfegaeiaaGreatDoor
