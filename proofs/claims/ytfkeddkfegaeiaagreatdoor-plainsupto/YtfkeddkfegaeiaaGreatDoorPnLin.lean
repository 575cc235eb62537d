import Derived.Test.YtfkeddkfegaeiaaGreatDoorPnSelA
set_option maxRecDepth 100000
set_option maxHeartbeats 20000000
namespace Go.Proofs.YtfkeddkfegaeiaaGreatDoor
section
open Tryz
def pA(ts:List Tk)(a b:Nat):List ByteArray:=((ts.map (·.text)).drop a).take (b-a)
theorem Ay{ts:List Tk}{a b c:Nat}(d:a<=b)(e:b<=c):pA ts a b++pA ts b c=pA ts a c:=by unfold pA;rw[show(ts.map (·.text)).drop b=((ts.map (·.text)).drop a).drop (b-a)by rw[Mr];congr 1;omega];rw[show c-a=(b-a)+(c-b)by omega,List.take_add]
theorem Gj(ts:List Tk)(a:Nat):pA ts a a=[]:=by simp[pA]
theorem Az{ts:List Tk}{a:Nat}(b:a<ts.length):pA ts a (a+1)=[(ah ts a).text]:=by unfold pA;rw[show a+1-a=1 by omega,List.take_one];simp[ah,b]
def iW(x:ByteArray):Bool:=dW.any fun a=>a.data.toList==x.data.toList
abbrev sL(x:ByteArray)(g:Bool):Prop:=iW x=false/\(g=true->x.data.toList=[45])
def n7:List TT->Prop
 | []=>True
 | [a]=>sL a.1 a.2
 |a::b::r=>(iW a.1=true->b.1.data.toList=[40])/\(a.2=true->a.1.data.toList=[45])/\n7 (b::r)
theorem EF{a:TT}{r:List TT}(b:sL a.1 a.2)(d:n7 r):n7 (a::r):=by
 cases r with
 |nil=>exact b
 |cons e r=>exact⟨fun c=>(by rw[b.1]at c;cases c),b.2,d⟩
theorem rm: ∀ {m n:List TT},n7 m->n7 n->n7 (m++n)
 | [],_,_,hn=>hn
 | [_],_,a,hn=>EF a hn
 |_::b::r,_,a,hn=>⟨a.1,a.2.1,rm (m:=b::r) a.2.2 hn⟩
theorem CE{x a:TT}{r:List TT}(c:x.2=false)(d:a.1.data.toList=[40])(e:n7 (a::r)):n7 (x::a::r):=⟨fun _=>d,fun b=>(by rw[c]at b;cases b),e⟩
def xD(ts:List Tk):Prop:= ∀a,a<ts.length->(ah ts a).kind≠0->0<(ah ts a).text.size
structure Lw(ts:List Tk):Prop where
 last:cO ts
 wrd: ∀i,(ah ts i).kind=2∨(ah ts i).kind=3->iW (ah ts i).text=false
 txt:xD ts
structure ee(ts:List Tk)(st st':St)(m:List TT):Prop where
 le:st.nx<=st'.nx
 eq:m.map (·.1)=pA ts st.nx st'.nx
 good:n7 m
theorem ee.refl{ts:List Tk}(st:St):ee ts st st []:=⟨Ji _,by rw[Gj];rfl,trivial⟩
theorem ee.trans{ts:List Tk}{a b c:St}{m n:List TT}(d:ee ts a b m)(k:ee ts b c n):ee ts a c (m++n):=
 ⟨Jt d.le k.le,by rw[Ks,d.eq,k.eq,Ay d.le k.le],rm d.good k.good⟩
theorem ee.cast{ts:List Tk}{a b:St}{m n:List TT}(c:ee ts a b m)(e:m=n):ee ts a b n:=e▸c
theorem qG{ts:List Tk}{st:St}(a:st.nx<ts.length)(g:Bool)(b:sL (ah ts st.nx).text g):ee ts st (aD st) [((ah ts st.nx).text,g)]:=
 ⟨KN _,by show [(ah ts st.nx).text]=pA ts st.nx (st.nx+1);rw[Az a],b⟩
theorem eC{ts:List Tk}{st:St}{k:Nat}(a:(bM ts st k).er=none):False:=by
 unfold bM at a
 cases b:st.er with
 |none=>rw[b]at a;cases a
 |some c=>rw[b]at a;cases a
theorem qH{ts:List Tk}{st:St}{xs:List ByteArray}(a:az ts st xs=true):(ah ts st.nx).text∈xs:=by unfold az at a;rw[Kc]at a;exact(J2 _ _).1 a.2
theorem om{ts:List Tk}{st:St}{x:ByteArray}(a:az ts st [x]=true):(ah ts st.nx).text=x:=by simpa using qH a
theorem ib{ts:List Tk}{st:St}(b:st.nx<ts.length){x:ByteArray}(a:az ts st [x]=true)(g:Bool)(c:sL x g:=by decide):ee ts st (aD st) [(x,g)]:=by
 have:=qG b g (by rw[om a];exact c)
 rwa[om a]at this
theorem rT{ts:List Tk}{st:St}{xs:List ByteArray}(a:(aH ts st xs).er=none):az ts st xs=true:=by
 unfold aH at a;by_cases b:az ts st xs=true
 ·exact b
 ·rw[Jn b]at a;exact(eC a).elim
theorem CF{ts:List Tk}{st:St}(b:st.nx<ts.length){xs:List ByteArray}(c: ∀x,x∈xs->sL x false)(d:(aH ts st xs).er=none):ee ts st (aH ts st xs) [tx (iu ts st xs)]:=by have a:=rT d;unfold aH iu;rw[Jo a,Jo a];exact qG b false (c _ (qH a))
theorem dC{ts:List Tk}{st:St}(b:st.nx<ts.length){x:ByteArray}(c:(aH ts st [x]).er=none)(d:sL x false:=by decide):ee ts st (aH ts st [x]) [tx x]:=by have a:=rT c;unfold aH;rw[Jo a];exact ib b a false d
theorem sM{ts:List Tk}{st:St}{k:Nat}(a:(cx ts st k).er=none):(ah ts st.nx).kind=k:=by
 unfold cx at a;by_cases b:(ah ts st.nx).kind=k
 ·exact b
 ·rw[Jn b]at a;exact(eC a).elim
theorem kC{ts:List Tk}(b:Lw ts){st:St}(c:st.nx<ts.length){k:Nat}(d:k=2∨k=3)(e:(cx ts st k).er=none):ee ts st (cx ts st k) [tx (bP ts st k).text]:=by have a:=sM e;unfold cx bP;rw[Jo a,Jo a];exact qG c false ⟨b.wrd _ (by rw[a];exact d),fun f=>by cases f⟩
def oV(ts:List Tk)(f:St->Rx):Prop:= ∀a,a.nx<ts.length->(f a).2.er=none->oh (f a).1/\ee ts a (f a).2 (jd (f a).1)
theorem xE{ts:List Tk}(g:Lw ts){one:St->Rx}(h:fT ts one)(i:oV ts one)(xs:List ByteArray)(j: ∀x,x∈xs->sL x false)(a:Nat)(bR:St): ∀(f:Nat) (l:List Nd) (st:St),st.nx<ts.length->oh l->ee ts bR st (jd l)->(cD ts one xs a f l st).2.er=none->
  oh (cD ts one xs a f l st).1/\ee ts bR (cD ts one xs a f l st).2 (jd (cD ts one xs a f l st).1)
 |0,l,st,_,c,d,_=>⟨c,d⟩
 |f+1,l,st,k,c,d,b=>by
  unfold cD at b⊢;by_cases e:az ts st xs=true
  ·rw[Jo e]at b⊢;have m:=bB g.last k (aW e);have n:=h _ m.lt;have q:=mL g.last h xs a f (fZ a (ah ts st.nx).text::(l++(one (aD st)).1)) _ n.lt;have o:=i _ m.lt (q.er b);have p:=Gh c o.1 a (ah ts st.nx).text;refine xE g h i xs j a bR f _ _ n.lt p.1 ?_ b;rw[p.2];exact((d.trans (qG k false (j _ (qH e)))).trans o.2).cast (by simp[tx])
  ·rw[Jn e]at b⊢;exact⟨c,d⟩
theorem uY{ts:List Tk}(c:Lw ts){one:St->Rx}(b:fT ts one)(d:oV ts one)(xs:List ByteArray)(i: ∀x,x∈xs->sL x false):oV ts (iD ts one xs):=fun a e f=>by have g:=b a e;have j:=mL c.last b xs (ah ts a.nx).place ts.length (one a).1 _ g.lt;have h:=d a e (j.er f);exact xE c b d xs i _ a _ _ _ g.lt h.1 h.2 f
theorem sN{ts:List Tk}(a:Lw ts){b:St->Rx}(c:fT ts b)(d:oV ts b):oV ts (ek ts b):=uY a (iE a.last c _) (uY a c d _ (by decide)) _ (by decide)
theorem xF{ts:List Tk}{one:St->Rx}(b:oV ts one):oV ts (eK one):=fun a c d=>by have:=b {a with dp:=a.dp+1} c d;exact⟨this.1,this.2.le,this.2.eq,this.2.good⟩
theorem oW{ts:List Tk}(a:Lw ts): ∀n,oV ts (aQ ts n)
 |0=>fun _ _ b=>(eC b).elim
 |n+1=>fun st d b=>by
  unfold aQ at b⊢;by_cases g:az ts st jH=true
  ·rw[Jo g]at b⊢;have e:=bB a.last d (aW g);have c:=xF (oW a n) _ e.lt b;have f:=EC c.1 (ah ts st.nx).place;refine⟨f.1,?_⟩;rw[f.2];exact(ib d g true).trans c.2
  ·rw[Jn g]at b⊢;by_cases h:az ts st ju=true
   ·rw[Jo h]at b⊢;have e:=bB a.last d (aW h);have i:=mM (jI a.last (cm a.last n)) _ e.lt;have c:=xF (sN a (cm a.last n) (oW a n)) _ e.lt ((aM a.last i.lt _).er b);have f:=Iz c.1 (ah ts st.nx).place;refine⟨f.1,?_⟩;rw[f.2];exact(((ib d h false).trans c.2).trans (dC i.lt b)).cast (by simp[tx])
   ·rw[Jn h]at b⊢;by_cases j:(ah ts st.nx).kind=3
    ·rw[Jo j]at b⊢;refine⟨(Cw _).1,?_⟩;rw[(Cw _).2];exact kC a d (by decide) b
    ·rw[Jn j]at b⊢;refine⟨(Cy _ _).1,?_⟩;rw[(Cy _ _).2];have e:=dx a.last d (k:=2) (by decide);have c:=aM a.last e.lt [⟨#[46]⟩];have f:=dx a.last c.lt (k:=2) (by decide);have l:=f.er b;exact(((kC a d (by decide) (c.er l)).trans (dC e.lt l)).trans (kC a c.lt (by decide) b)).cast rfl
theorem CG{ts:List Tk}(a:Lw ts):oV ts (bj ts):=sN a (cm a.last 17) (oW a 17)
def rU{b:Type}(ts:List Tk)(c:b->List TT)(f:St->b×St):Prop:= ∀a,a.nx<ts.length->(f a).2.er=none->ee ts a (f a).2 (c (f a).1)
theorem pU{g:Type}{ts:List Tk}{h:g->List TT}(i:Lw ts){one:St->g×St}(j:mN ts one)(n:rU ts h one)(a:Nat)(bR:St): ∀(f:Nat) (l:List g) (st:St),st.nx<ts.length->l≠ []->ee ts bR st (eP (l.map h))->(cA ts one a f l st).2.er=none->
  (cA ts one a f l st).1≠ []/\ee ts bR (cA ts one a f l st).2 (eP ((cA ts one a f l st).1.map h))
 |0,l,st,_,hn,c,_=>⟨hn,c⟩
 |f+1,l,st,o,hn,c,b=>by
  unfold cA at b⊢;by_cases d:az ts st jm=true
  ·rw[Jo d]at b⊢;have p:=bB i.last o (aW d);have r:=eh (st:=aD st) p.lt a l.length;have e:=j _ r.lt;have s:=iF i.last j a f (l++[(one (many ts a l.length (aD st))).1]) _ e.lt;have k:=s.er b;have m:=e.er k
   have t:many ts a l.length (aD st)=aD st:=by
    unfold many at m⊢;by_cases q:l.length=a
    ·rw[Jo q]at m;exact(eC m).elim
    ·rw[Jn q]
   rw[t]at b e k⊢;refine pU i j n a bR f _ _ e.lt (by simp) ?_ b;rw[Ks,Mz,List.map_nil,rj,Jn (by simpa using hn)];exact(c.trans (ib o d false)).trans (n _ p.lt k)
  ·rw[Jn d]at b⊢;exact⟨hn,c⟩
theorem oX{c:Type}{ts:List Tk}{d:c->List TT}(e:Lw ts){one:St->c×St}(b:mN ts one)(f:rU ts d one)(a:Nat){st:St}(g:st.nx<ts.length)(h:(dE ts one a st).2.er=none):
  (dE ts one a st).1≠ []/\ee ts st (dE ts one a st).2 (eP ((dE ts one a st).1.map d)):=by
 have i:=b st g;have j:=iF e.last b a ts.length [(one st).1] _ i.lt;exact pU e b f a st _ _ _ i.lt (by simp) (by simpa [eP]using f st g (j.er h)) h
theorem EG{ts:List Tk}(a:Lw ts):rU ts CC (gP ts):=fun _ b c=>kC a b (by decide) c
theorem Gk{ts:List Tk}(a:Lw ts):rU ts F7 (dH ts):=fun f b c=>by have d:=dx a.last b (k:=2) (by decide);have e:=dx a.last d.lt (k:=2) (by decide);exact(kC a b (by decide) (e.er c)).trans (kC a d.lt (by decide) c)
theorem sO{ts:List Tk}(a:Lw ts):rU ts jd (bj ts):=fun b c d=>(CG a b c d).2
theorem AA{ts:List Tk}(a:Lw ts){st:St}(d:st.nx<ts.length)(x:ByteArray)(h:sL x false)(b:(ig ts st x).2.er=none):ee ts st (ig ts st x).2 (Bf x (ig ts st x).1):=by
 unfold ig at b⊢;by_cases c:az ts st [x]=true
 ·rw[Jo c]at b⊢;have e:=bB a.last d (aW c);have f:=aM a.last e.lt [⟨#[98,121]⟩];have i:=iG a.last (dn a.last) 1000 _ f.lt;have g:=oX a (dn a.last) (sO a) 1000 f.lt b;unfold Bf;rw[Jn g.1];exact(((ib d c false h).trans (dC e.lt (i.er b))).trans g.2).cast rfl
 ·rw[Jn c];exact ee.refl _
theorem Gl{ts:List Tk}(c:Lw ts){st:St}(d:st.nx<ts.length)(b:ByteArray)(a:(mP ts st b).2.er=none):ee ts st (mP ts st b).2 ([tx ⟨#[40]⟩]++Hs (mP ts st b).1):=by
 have e:=aM c.last d [⟨#[40]⟩];unfold mP at a⊢;by_cases f:fV b=true
 ·rw[Jo f]at a⊢;have g:=dn c.last _ e.lt;exact(dC d (g.er a)).trans (sO c _ e.lt a)
 ·rw[Jn f]at a⊢;exact(dC d a).cast rfl
theorem CH{ts:List Tk}(a:Lw ts){st:St}(c:st.nx<ts.length)(d:(km ts st).er=none):ee ts st (km ts st) [tx ⟨#[41]⟩,tx ⟨#[111,118,101,114]⟩,tx ⟨#[40]⟩]:=by have e:=aM a.last c [⟨#[41]⟩];have b:=aM a.last e.lt [⟨#[111,118,101,114]⟩];have g:=aM a.last b.lt [⟨#[40]⟩];have f:=g.er d;exact((dC c (b.er f)).trans (dC e.lt f)).trans (dC b.lt d)
theorem CI{ts:List Tk}(a:Lw ts){st:St}(d:st.nx<ts.length)(b:(gp ts st).2.er=none):ee ts st (gp ts st).2 (CD (gp ts st).1):=by
 unfold gp at b⊢;by_cases c:az ts st [⟨#[114,111,119,115]⟩]=true
 ·rw[Jo c]at b⊢;have e:=bB a.last d (aW c);have f:=dx a.last e.lt (k:=3) (by decide);have g:=aM a.last f.lt [⟨#[112,114,101,99,101,100,105,110,103]⟩];exact((ib d c false).trans (kC a e.lt (by decide) (g.er b))).trans (dC f.lt b)
 ·rw[Jn c];exact ee.refl _
theorem Gm{ts:List Tk}(a:Lw ts){st:St}(g:st.nx<ts.length)(p:Nat)(b:ByteArray)(h:(lT ts st p b).2.er=none): ∃m,ee ts st (lT ts st p b).2 (tx ⟨#[40]⟩::m)/\sK (lT ts st p b).1=tx b::tx ⟨#[40]⟩::m:=by have i:=og a.last g b;have c:=pQ a.last i.lt;have d:cG ts _ (oS ts (km ts (mP ts st b).2)).2:=lf a.last c.lt _;have e:cG ts _ (ul ts (oS ts (km ts (mP ts st b).2)).2).2:=lf a.last d.lt _;have f:=uV a.last e.lt;have o:=aM a.last f.lt [⟨#[41]⟩];have j:=o.er h;have k:=f.er j;have l:=e.er k;have n:=d.er l;have q:=c.er n;refine⟨_,((((((Gl a g b q).trans (CH a i.lt n)).trans (AA a c.lt _ (by decide) l)).trans (AA a d.lt _ (by decide) k)).trans (CI a e.lt j)).trans (dC f.lt h)).cast (by simp only[Kf,KS,LK];rfl),?_⟩;simp only[sK,lT,oS,ul];simp
theorem EH{ts:List Tk}(c:Lw ts){st:St}(d:st.nx<ts.length)(a:(db ts st).2.er=none)(p f:Nat)(s:ByteArray):ee ts st (db ts st).2 (xA ⟨p,(db ts st).1.1,(db ts st).1.2,f,s⟩):=by
 unfold db at a⊢;by_cases e:az ts st dW=true
 ·rw[Jo e]at a⊢;have g:=bB c.last d (aW e);obtain⟨i,b,h⟩:=Gm c g.lt _ _ a;refine ee.cast ?_ h.symm;exact⟨Jt (KN _) b.le,by rw[Mz,b.eq,show(tx (ah ts st.nx).text).1=(ah ts st.nx).text from rfl,<-Ay (KN st.nx) b.le,Az d];rfl,CE rfl rfl b.good⟩
 ·rw[Jn e]at a⊢;exact sO c st d a
theorem EI{ts:List Tk}(c:Lw ts)(g:xD ts){st:St}(d:st.nx<ts.length)(a:(eG ts st).2.er=none):ee ts st (eG ts st).2 (xz (eG ts st).1.2):=by
 unfold eG at a⊢;by_cases b:az ts st [⟨#[97,115]⟩]=true
 ·rw[Jo b]at a⊢;have e:=bB c.last d (aW b);have f:=sM a;have j:=g _ e.lt (by rw[f];decide)
  have h:((bP ts (aD st) 2).text.toList== [])=false:=by
   unfold bP;rw[Jo f];have:=nX (ah ts (aD st).nx).text
   cases i:(ah ts (aD st).nx).text.toList with
   |nil=>rw[i]at this;simp at this;omega
   |cons k l=>rfl
  show ee ts st (cx ts (aD st) 2) (xz (bP ts (aD st) 2).text)
  unfold xz;rw[h];exact(ib d b false).trans (kC c e.lt (by decide) a)
 ·rw[Jn b];exact(ee.refl _).cast (by simp[xz,ByteArray.toList_eq])
theorem EJ{ts:List Tk}(a:Lw ts)(e:xD ts):rU ts xB (em ts):=fun g b c=>by have d:=oT a.last b;have f:=xn a.last d.lt;exact(EH a b (f.er c) _ _ _).trans (EI a e d.lt c)
theorem xG{ts:List Tk}(a:Lw ts):rU ts ol (eE ts):=fun h c d=>by have e:=dn a.last _ c;have b:=aM a.last e.lt eH;have g:=dn a.last _ b.lt;have f:=g.er d;exact(((sO a _ c (b.er f)).trans (CF e.lt (by decide) f)).trans (sO a _ b.lt d)).cast (by simp[ol,eE])
theorem AB{ts:List Tk}(a:Lw ts)(bR:St): ∀(f:Nat) (l:List cn) (st:St),st.nx<ts.length->l≠ []->ee ts bR st (fW l)->(eU ts f l st).2.er=none->ee ts bR (eU ts f l st).2 (fW (eU ts f l st).1)
 |0,l,st,_,_,c,_=>c
 |f+1,l,st,e,hn,c,b=>by
  unfold eU at b⊢;by_cases d:az ts st [⟨#[97,110,100]⟩]=true
  ·rw[Jo d]at b⊢;have g:=bB a.last e (aW d);have h:=jJ a.last _ g.lt;have i:=qE a.last f (l++[(eE ts (aD st)).1]) _ h.lt;refine AB a bR f _ _ h.lt (by simp) ?_ b;rw[xC,Jn hn];exact c.trans ((ib e d false).trans (xG a _ g.lt (i.er b)))
  ·rw[Jn d]at b⊢;exact c
theorem CJ{ts:List Tk}(a:Lw ts){st:St}(d:st.nx<ts.length)(b:(ey ts st).2.er=none):ee ts st (ey ts st).2 (fW (ey ts st).1):=by
 unfold ey at b⊢;by_cases c:az ts st [⟨#[119,104,101,114,101]⟩]=true
 ·rw[Jo c]at b⊢;have e:=bB a.last d (aW c);have f:=jJ a.last _ e.lt;have g:=qE a.last ts.length [(eE ts (aD st)).1] _ f.lt;refine AB a st _ _ _ f.lt (by simp) ?_ b;exact((ib d c false).trans (xG a _ e.lt (g.er b))).cast (by simp[fW,tx])
 ·rw[Jn c];exact(ee.refl _).cast rfl
theorem xH{a:Type}{l:List a}(b:l≠ []):0<l.length:=List.length_pos_iff.2 b
theorem uw{ts:List Tk}(a:Lw ts)(m:xD ts){st:St}(e:st.nx<ts.length)(f:(fJ ts st).2.er=none):(fJ ts st).1.Full/\ee ts st (fJ ts st).2 (qF (fJ ts st).1):=by have g:=aM a.last e [⟨#[115,101,108,101,99,116]⟩];have b:cG ts _ (jf ts st).2:=iG a.last (iH a.last) 6 _ g.lt;have c:=aM a.last b.lt [⟨#[102,114,111,109]⟩];have d:cG ts _ (jK ts (jf ts st).2).2:=iG a.last (iV a.last) 3 _ c.lt;have n:=nD a.last d.lt;have h:=n.er f;have i:=d.er h;have j:=c.er i;have o:=b.er j;have k:=oX a (iH a.last) (EJ a m) 6 g.lt j;have l:=oX a (iV a.last) (Gk a) 3 c.lt h;exact⟨⟨xH k.1,xH l.1⟩,((((dC e o).trans k.2).trans (dC b.lt i)).trans l.2).trans (CJ a d.lt f)⟩
theorem EK{ts:List Tk}(a:Lw ts)(j:xD ts){st:St}(l:st.nx<ts.length)(p:Nat)(n:(iy ts st p).2.er=none):(iy ts st p).1.Full/\ ∃m,ee ts st (iy ts st p).2 m/\pT (iy ts st p).1=tx ⟨#[119,105,116,104]⟩::m:=by have o:=dx a.last l (k:=2) (by decide);have b:=aM a.last o.lt [⟨#[40]⟩];have c:cG ts _ (gA ts st).2:=iG a.last (mO a.last) 6 _ b.lt;have d:=aM a.last c.lt [⟨#[41]⟩];have e:=aM a.last d.lt [⟨#[97,115]⟩];have f:cG ts _ (jn ts (gA ts st).2):=aM a.last e.lt [⟨#[40]⟩];have g:cG ts _ (oj ts st).2:=gz a.last f.lt;have h:=aM a.last g.lt [⟨#[117,110,105,111,110]⟩];have i:cG ts _ (sH ts (oj ts st).2).2:=gz a.last h.lt;have B:=aM a.last i.lt [⟨#[41]⟩];have q:=B.er n;have r:=i.er q;have s:=h.er r;have t:=g.er s;have u:=f.er t;have v:=e.er u;have w:=d.er v;have x:=c.er w;have C:=b.er x;have y:=oX a (mO a.last) (EG a) 6 b.lt w;have z:=uw a j f.lt s;have A:=uw a j h.lt q;refine⟨⟨xH y.1,z.1,A.1⟩,_,((((((((kC a l (by decide) C).trans (dC o.lt x)).trans y.2).trans (((dC c.lt v).trans (dC d.lt u)).trans (dC e.lt t))).trans z.2).trans (dC g.lt r)).trans A.2).trans (dC i.lt n)),?_⟩;simp only[pT,iy];simp[gA,oj,sH]
theorem CK{ts:List Tk}(a:Lw ts)(g:xD ts){st:St}(d:st.nx<ts.length)(h:(da ts st).2.er=none):(da ts st).1.Full/\ee ts st (da ts st).2 (ia (da ts st).1):=by
 have i:=nF a.last d;have l:=gz a.last i.lt;have j:=uw a g i.lt h;have e:=l.er h
 have k:(∀b,(eV ts st).1=some b->b.Full)/\ee ts st (eV ts st).2 (Ht (eV ts st).1):=by
  unfold eV at e⊢;by_cases c:az ts st [⟨#[119,105,116,104]⟩]=true
  ·rw[Jo c]at e⊢;have m:=bB a.last d (aW c);obtain⟨n,q,o,p⟩:=EK a g m.lt _ e;refine⟨fun b f=>by cases f;exact n,?_⟩;exact((ib d c false).trans o).cast p.symm
  ·rw[Jn c];exact⟨fun b f=>(by cases f),ee.refl _⟩
 exact⟨⟨k.1,j.1⟩,k.2.trans j.2⟩
def lB:List (List UInt8):=[[40],[41],[44],[46],[43],[45],[42],[61],[60],[62],[60,62],[60,61],[62,61]]
inductive wJ(t:Tk):Prop
 |word (h1:t.text.data.toList≠ []) (h2: ∀c,c∈t.text.data.toList->aq c.toNat=true) (h3:dU t.text.data.toList=true) (hk:t.kind=1) (hv:t.value=0)
 |name (h1:t.text.data.toList≠ []) (h2: ∀c,c∈t.text.data.toList->aq c.toNat=true) (h3:dU t.text.data.toList=false) (h4:t.text.size<=8) (hk:t.kind=2) (hv:t.value=0)
 |num (h1:t.text.data.toList≠ []) (h2: ∀c,c∈t.text.data.toList->aG c.toNat=true) (h3:js t.text.data.toList=some t.value) (hk:t.kind=3)
 |sign (h1:t.text.data.toList∈lB) (hk:t.kind=1) (hv:t.value=0)
theorem rV(p:UInt8->Bool)(a: ∀n,n<256->p (UInt8.ofNat n)=true)(c:UInt8):p c=true:=by
 have:=a c.toNat (UInt8.toNat_lt c)
 rwa[UInt8.ofNat_toNat]at this
theorem mT(r:ByteArray)(n:Nat):(r.extract 0 n).data.toList=r.data.toList.take n:=by simp[ByteArray.data_extract]
theorem lH(p:Int->Bool)(l:List UInt8):l.take (aY p l)=l.takeWhile fun c=>p c.toNat:=by unfold aY;exact(Lk.1 (Lx _)).symm
theorem lI(p:Int->Bool)(l:List UInt8): ∀c,c∈l.takeWhile (fun c=>p c.toNat)->p c.toNat=true:=by
 induction l with
 |nil=>intro c a;cases a
 |cons d f e=>
  intro c a;rw[KH]at a;by_cases b:p d.toNat=true
  ·rw[Jo b]at a;rcases JG.1 a with rfl|a
   ·exact b
   ·exact e c a
  ·rw[Jn b]at a;cases a
theorem sP{p:Int->Bool}: ∀ {l:List UInt8},(∀c,c∈l->p c.toNat=true)->l.takeWhile (fun c=>p c.toNat)=l
 | [],_=>rfl
 |a::r,b=>by rw[KH,Jo (b a JK),sP (fun c d=>b c (KQ _ d))]
theorem Gn(c:UInt8):(decide (Lib.indexByte g5 c<0)||lB.contains [c])=true:=rV (fun c=>decide (Lib.indexByte g5 c<0)||lB.contains [c]) (by decide) c
theorem mi{r:ByteArray}(b:0<r.size):r.data.toList≠ []:=fun a=>by have:=eS r;rw[a]at this;simp at this;omega
theorem pB{s:ByteArray}{i:Nat}{t:Tk}(n:i<s.size)(a:cy s i=.ok t):wJ t:=by
 have j:=(ld s i t n a).1;unfold cy at a;simp only at a;generalize s.extract i s.size=g at a;split at a
 ·split at a
  ·rename_i k h
   cases a;refine .word (mi j) (fun e c=>?_) h rfl rfl;rw[mT,lH]at c;exact lI _ _ e c
  ·split at a
   ·cases a
   ·rename_i k h d
    cases a;refine .name (mi j) (fun e c=>?_) (by simpa using h) (Nat.le_of_not_lt d) rfl rfl;rw[mT,lH]at c;exact lI _ _ e c
 ·split at a
  ·split at a
   ·rename_i k h o d
    cases a;refine .num (mi j) (fun e c=>?_) d rfl;rw[mT,lH]at c;exact lI _ _ e c
   ·cases a
  ·split at a
   ·cases a
   ·rename_i k h d
    cases a;refine .sign ?_ rfl rfl;have f:=mi j
    show(g.extract 0 (bK g.data.toList)).data.toList∈lB
    change (g.extract 0 (bK g.data.toList)).data.toList≠ []at f
    rw[mT]at f⊢;generalize g.data.toList=l at*;unfold bK at f d⊢;by_cases b:fY l=true
    ·rw[Jo b];unfold fY at b;simp only[J8,KD]at b;rcases b with(b|b)|b<;>rw[b]<;>decide
    ·rw[Jn b]at f d⊢;by_cases m:Lib.indexByte g5 (l.headD 0)<0
     ·rw[Jo m]at d;exact(d rfl).elim
     ·rw[Jn m]at f⊢
      cases l with
      |nil=>exact(f rfl).elim
      |cons e p=>
       have:=Gn e;rw[J8]at this;rcases this with h6|h6
       ·exact(m (by simpa using h6)).elim
       ·simpa using h6
theorem oY{p:Int->Bool}{a b:List UInt8}(d: ∀c,c∈a->p c.toNat=true)(e: ∀c r,b=c::r->p c.toNat=false):aY p (a++b)=a.length:=by
 unfold aY;rw[List.takeWhile_append];have f:a.takeWhile (fun c=>p c.toNat)=a:=sP d;rw[f,Jo rfl]
 cases b with
 |nil=>simp
 |cons c r=>rw[KH,e c r rfl];simp
theorem EL{a:List UInt8}(b:a≠ []):a.headD 0∈a:=by
 cases a with
 |nil=>exact(b rfl).elim
 |cons c d=>simp
theorem kD(c:UInt8):(!(aq c.toNat&&aG c.toNat))=true:=rV (fun c=> !(aq c.toNat&&aG c.toNat)) (by decide) c
end
section
open Go.RowKit Tryz
theorem pV{s:ByteArray}{i:Nat}{t:Tk}(a:cy s i=.ok t):t.kind≠0/\t.place=i:=by
 unfold cy at a;simp only at a;split at a
 ·split at a
  ·cases a;exact⟨by simp,rfl⟩
  ·split at a
   ·cases a
   ·cases a;exact⟨by simp,rfl⟩
 ·split at a
  ·split at a
   ·cases a;exact⟨by simp,rfl⟩
   ·cases a
  ·split at a
   ·cases a
   ·cases a;exact⟨by simp,rfl⟩
theorem oa{s:ByteArray}{i p k:Nat}(a:cy s i=.error (p,k)):p=i/\(k=bE∨k=fU∨k=jZ):=by
 unfold cy at a;simp only at a;split at a
 ·split at a
  ·cases a
  ·split at a
   ·cases a;exact⟨rfl,Or.inl rfl⟩
   ·cases a
 ·split at a
  ·split at a
   ·cases a
   ·cases a;exact⟨rfl,Or.inr (Or.inl rfl)⟩
  ·split at a
   ·cases a;exact⟨rfl,Or.inr (Or.inr rfl)⟩
   ·cases a
structure gB(s:ByteArray)(i:Nat)(ts l:List Tk):Prop where
 eq:ts=l++[jt s.size]
 tok: ∀t∈l,wJ t
 all: ∀t∈l,t.kind≠0/\0<t.text.size/\t.place<=s.size
 sum:(l.map fun t=>t.text.size).sum+i<=s.size
theorem AC(s:ByteArray)(i:Nat)(b:i<=s.size):i+aY bY (s.extract i s.size).data.toList<=s.size:=by have a:=jP bY (s.extract i s.size).data.toList;rw[eS,dA]at a;omega
theorem sQ(s:ByteArray): ∀(f i:Nat),i<=s.size->s.size<f+i-> ∀ts,bU s f i=.ok ts-> ∃l,gB s i ts l
 |0,i,g,p,_,_=>by omega
 |f+1,i,g,p,ts,a=>by
  have q:=AC s i g;unfold bU at a;simp only at a;generalize x:i+aY bY (s.extract i s.size).data.toList=c at a q;have y:i<=c:=by omega
  by_cases h:c=s.size
  ·rw[Jo h]at a;cases a;exact⟨[],by rw[h];rfl,fun d j=>(by cases j),fun d j=>(by cases j),by simpa using g⟩
  ·rw[Jn h]at a
   cases e:cy s c with
   |error r=>rw[e]at a;cases a
   |ok d=>
    rw[e]at a;simp only at a;have n:=ld s c d (by omega) e;have o:=pV e
    cases k:bU s f (c+d.text.size)with
    |error r=>rw[k]at a;cases a
    |ok t=>
     rw[k]at a;cases a;obtain⟨l,u,v,w,z⟩:=sQ s f (c+d.text.size) n.2 (by omega) t k;refine⟨d::l,by rw[u];rfl,fun m b=>?_,fun m b=>?_,?_⟩
     ·rcases JG.1 b with rfl|b
      ·exact pB (by omega) e
      ·exact v m b
     ·rcases JG.1 b with rfl|b
      ·exact⟨o.1,n.1,by rw[o.2];omega⟩
      ·exact w m b
     ·simp only[Mz,List.sum_cons];omega
theorem uZ(s:ByteArray)(p k:Nat): ∀(f i:Nat),i<=s.size->bU s f i=.error (p,k)->p<=s.size/\(k=bE∨k=fU∨k=jZ)
 |0,i,e,a=>by cases a
 |f+1,i,e,a=>by
  have j:=AC s i e;unfold bU at a;simp only at a;generalize n:i+aY bY (s.extract i s.size).data.toList=b at a j;by_cases g:b=s.size
  ·rw[Jo g]at a;cases a
  ·rw[Jn g]at a
   cases c:cy s b with
   |error l=>rw[c]at a;cases a;have:=oa c;exact⟨by omega,this.2⟩
   |ok h=>
    rw[c]at a;simp only at a;have m:=ld s b h (by omega) c
    cases d:bU s f (b+h.text.size)with
    |error l=>rw[d]at a;cases a;exact uZ s p k f _ m.2 d
    |ok o=>rw[d]at a;cases a
theorem iI{l:List Tk}{e:Tk}{i:Nat}(a:i<l.length):ah (l++[e]) i∈l:=by unfold ah;rw[JC,Jz a,Jl a];exact Ky a
theorem lg(l:List Tk)(e:Tk):ah (l++[e]) l.length=e:=by unfold ah;rw[JC,Jw (Ji _)];simp
theorem gB.last{s:ByteArray}{i:Nat}{ts l:List Tk}(d:gB s i ts l):cO ts:=fun b c a=>by
 rw[d.eq]at c a⊢;simp only[Jk,JZ]at c⊢;rcases J' b l.length with hlt|hge
 ·omega
 ·have:b=l.length:=by omega
  subst this;rw[lg]at a;exact(a rfl).elim
theorem gB.txt{s:ByteArray}{i:Nat}{ts l:List Tk}(a:gB s i ts l):xD ts:=fun b d e=>by have c:b+1<ts.length:=a.last b d e;rw[a.eq]at c⊢;simp only[Jk,JZ]at c;exact(a.all _ (iI (by omega))).2.1
theorem CL(x:ByteArray)(a:iW x=true):dU x.data.toList=true:=by unfold iW dW at a;simp only[Kq,MG,My,J8,KD]at a;rcases a with a|a|a|a|a<;>rw[<-a]<;>decide
theorem CM(x:ByteArray)(a:iW x=true):aq (x.data.toList.headD 0).toNat=true:=by unfold iW dW at a;simp only[Kq,MG,My,J8,KD]at a;rcases a with a|a|a|a|a<;>rw[<-a]<;>decide
theorem EM{t:Tk}(a:wJ t)(e:t.kind=2∨t.kind=3):iW t.text=false:=by
 cases b:iW t.text with
 |false=>rfl
 |true=>
  rcases a with⟨_,_,_,a,_⟩|⟨_,_,h3,_,a,_⟩|⟨h1,h2,_,a⟩|⟨_,a,_⟩
  ·omega
  ·rw[CL _ b]at h3;cases h3
  ·have c:=CM _ b;have d:=h2 _ (EL h1);have:=kD (t.text.data.toList.headD 0);rw[c,d]at this;cases this
  ·omega
theorem nG{ts:List Tk}{i:Nat}(a:ts.length<=i):ah ts i=jt 0:=by unfold ah;rw[JC,Kj a];rfl
theorem gB.lw{s:ByteArray}{i:Nat}{ts l:List Tk}(b:gB s i ts l):Lw ts:=by
 refine⟨b.last,fun c a=>?_,b.txt⟩
 have d:c<l.length:=by
  rcases J' c l.length with hlt|hge
  ·exact hlt
  ·rcases J' c ts.length with h1|h1
   ·have e:c=l.length:=by rw[b.eq]at h1;simp only[Jk,JZ]at h1;omega
    rw[b.eq,e,lg]at a;rcases a with a|a<;>cases a
   ·rw[nG h1]at a;rcases a with a|a<;>cases a
 rw[b.eq]at a⊢;exact EM (b.tok _ (iI d)) a
theorem gB.zero{s:ByteArray}{i:Nat}{ts l:List Tk}(a:gB s i ts l){j:Nat}(b:j<ts.length)(c:(ah ts j).kind=0):j=l.length:=by
 rw[a.eq]at b c;simp only[Jk,JZ]at b;rcases J' j l.length with hlt|hge
 ·exact((a.all _ (iI hlt)).1 c).elim
 ·omega
theorem gB.place{s:ByteArray}{i:Nat}{ts l:List Tk}(a:gB s i ts l){j:Nat}(b:j<ts.length):(ah ts j).place<=s.size:=by
 rw[a.eq]at b⊢;simp only[Jk,JZ]at b;rcases J' j l.length with hlt|hge
 ·exact(a.all _ (iI hlt)).2.2
 ·have:j=l.length:=by omega
  subst this;rw[lg];exact Ji _
theorem AD: ∀(l:List Tk),(∀t∈l,0<t.text.size)->l.length<=(l.map fun t=>t.text.size).sum
 | [],_=>by simp
 |t::r,a=>by have d:=AD r (fun b c=>a b (KQ _ c));have e:=a t JK;simp only[Ju,Mz,List.sum_cons];omega
theorem gB.len{s:ByteArray}{i:Nat}{ts l:List Tk}(a:gB s i ts l):l.length<=s.size/\ts.length=l.length+1:=by have d:=AD l (fun b c=>(a.all b c).2.1);have e:=a.sum;exact⟨by omega,by rw[a.eq];simp⟩
theorem Gp(l:List Tk)(e:Tk):pA (l++[e]) 0 l.length=l.map (·.text):=by unfold pA;simp
def gR(ts:List Tk)(st:St):St:=if(ah ts st.nx).kind=0 then st else bM ts st bE
def bR:St:=⟨0,0,none⟩
def jy(ts:List Tk):Except (Nat×Nat) cH:=match(gR ts (da ts bR).2).er with
 |some a=>.error a
 |none=>.ok (da ts bR).1
def cP(s:ByteArray):Except (Nat×Nat) cH:=match fH s with
 |.error e=>.error e
 |.ok ts=>jy ts
theorem AE{ts:List Tk}{st:St}(a:st.nx<ts.length):cG ts st (gR ts st):=by
 unfold gR;split
 ·exact cG.refl a
 ·exact mJ a _
theorem jo{s:ByteArray}{ts:List Tk}(a:fH s=.ok ts): ∃l,gB s 0 ts l:=sQ s (s.size+1) 0 (KO _) (by omega) ts a
theorem gB.pos{s:ByteArray}{i:Nat}{ts l:List Tk}(a:gB s i ts l):0<ts.length:=by have:=a.len;omega
theorem EN{s:ByteArray}{ts l:List Tk}{x:cH}(a:gB s 0 ts l)(c:jy ts=.ok x):(da ts bR).2.er=none/\(da ts bR).1=x/\(da ts bR).2.nx=l.length/\x.Full/\(ia x).map (·.1)=l.map (·.text)/\n7 (ia x):=by
 have g:=uX a.last (st:=bR) a.pos;have k:=AE g.lt;unfold jy at c
 cases b:(gR ts (da ts bR).2).er with
 |some m=>rw[b]at c;cases c
 |none=>
  rw[b]at c;have h:=k.er b
  have d:(ah ts (da ts bR).2.nx).kind=0:=by
   unfold gR at b;by_cases d:(ah ts (da ts bR).2.nx).kind=0
   ·exact d
   ·rw[Jn d]at b;exact(eC b).elim
  have i:=a.zero g.lt d;have e:(da ts bR).1=x:=by cases c;rfl
  have f:=CK a.lw a.txt (st:=bR) a.pos h;refine⟨h,e,i,by rw[<-e];exact f.1,?_,by rw[<-e];exact f.2.good⟩;have j:=f.2.eq;rw[i]at j;rw[<-e,j];rw[a.eq];exact Gp l _
theorem CN{s:ByteArray}{ts l:List Tk}{p k:Nat}(b:gB s 0 ts l)(a:jy ts=.error (p,k)):p<=s.size/\(k=bE∨k=cB):=by
 have d:=uX b.last (st:=bR) b.pos;have e:=d.trans (AE d.lt);unfold jy at a
 cases c:(gR ts (da ts bR).2).er with
 |none=>rw[c]at a;cases a
 |some f=>
  rw[c]at a;have g:f=(p,k):=by cases a;rfl
  subst g;rcases e.erp _ c with h2|⟨⟨i,hi,hp⟩,hk⟩
  ·cases h2
  ·exact⟨by rw[show p=(ah ts i).place from hp];exact b.place hi,hk⟩
theorem u0{s:ByteArray}{p k:Nat}(a:cP s=.error (p,k)):p<=s.size/\(k=bE∨k=fU∨k=jZ∨k=cB):=by
 unfold cP at a
 cases b:fH s with
 |error c=>
  rw[b]at a;have d:c=(p,k):=by cases a;rfl
  subst d;have:=uZ s p k _ 0 (KO _) b;exact⟨this.1,by rcases this.2 with a|a|a<;>simp[a]⟩
 |ok f=>rw[b]at a;obtain⟨g,e⟩:=jo b;have:=CN e a;exact⟨this.1,by rcases this.2 with a|a<;>simp[a]⟩
def ux:Option (Nat×Nat)->cH->Except (Nat×Nat) cH
 |some e,_=>.error e
 |none,x=>.ok x
theorem rW{ts:List Tk}{X:cH×St}(a:X=da ts bR):jy ts=ux (gR ts X.2).er X.1:=by subst a;unfold jy;cases(gR ts (da ts bR).2).er<;>rfl
theorem Bg{ts:List Tk}{X:cH×St}(a:X=da ts bR)(b:(ah ts X.2.nx).kind=0):jy ts=ux X.2.er X.1:=by rw[rW a];unfold gR;rw[Jo b]
theorem Bh{ts:List Tk}{X:cH×St}(a:X=da ts bR)(b: ¬(ah ts X.2.nx).kind=0):jy ts=ux (bM ts X.2 bE).er X.1:=by rw[rW a];unfold gR;rw[Jn b]
def xI(a:Nat->Addr)(w:World)(R:Except (Nat×Nat) cH)(e:Ending)(w':World):Prop:=Below w.heap.size w w'/\match R with
 |.ok x=> ∃b,e=.returned (.tuple #[b,.nilIface])/\de w' w.heap.size b x
 |.error (p,k)=> ∃c,e=.returned (.tuple #[.pointer none,.iface 110 (.pointer (some ⟨c,0,none⟩))])/\cM w' c p (bI a k)
theorem CO(s:ByteArray)(a:Nat->Addr)(c:Nat)(w:World)(d:fD a c w)(j:s.size<=1000)(p k:Nat)(l:fH s=.error (p,k)):
  Calls prog 36 #[.string s] w fun e w'=>xI a w (.error (p,k)) e w':=by
 have m:=ab d;clear d
 obtain⟨b,f⟩: ∃b,Hid (b=fH s):=⟨_,rfl⟩
 have n:b=.error (p,k):=f.trans l;go_enter func36,ntmps36;go_wp2_with fail;refine(uS s a c _ (by exact m) j b f).mono ?_;rintro e t g;rw[n]at g;obtain⟨o,rfl,u,v,h,i⟩:=g;obtain⟨q,r⟩:=ag h i;clear h i;go_wp2
 go_ret2
 exact⟨U r,o,rfl,q⟩
theorem CP(s:ByteArray)(a:Nat->Addr)(b:Nat)(w:World)(c:fD a b w)(f:1000<s.size):
  Calls prog 36 #[.string s] w fun e w'=>e=.returned (.tuple #[.pointer none,bI a fS])/\Below w.heap.size w w':=by
 have g:=ab c;clear c;go_enter func36,ntmps36;go_wp2_with fail;refine(Ct s a b _ (by exact g) f).mono ?_;rintro e i ⟨rfl,d⟩;have h:=ab d;clear d;go_wp2
 go_ret2
 exact⟨rfl,h⟩
theorem AF(s:ByteArray)(a:Nat->Addr)(k:Nat)(w:World)(X:fD a k w)(ay:s.size<=1000)(ts l:List Tk)(Y:fH s=.ok ts)(x:gB s 0 ts l)(R:Except (Nat×Nat) cH)(y:Hid (R=jy ts)):
  Calls prog 36 #[.string s] w fun e w'=>xI a w R e w':=by
 have z:=ab X;clear X
 obtain⟨Z,C⟩: ∃R,Hid (R=fH s):=⟨_,rfl⟩
 have ac:Z=.ok ts:=C.trans Y;go_enter func36,ntmps36;go_wp2_with fail;refine(uS s a k _ (by exact z) ay Z C).mono ?_;rintro e f m;rw[ac]at m;obtain⟨a9,rfl,n,h⟩:=m;have a':ts.length<=1001:=by have:=x.len;omega
 rcases n.2 with⟨_,h0⟩|⟨g,cap,cur,hv,hg0,hg,c1,c2,c3,c4⟩
 ·have:=x.pos;omega
 subst hv;obtain⟨D,i,ad,ae⟩:=aP (z.keep (h.mono z.size)) h hg c4;have aA:=aa hg;have aj:=ab x;clear n h hg c4 z C ac Y x c3;have ak:RS ⟨a,k,f.heap.size,g,cap,ts⟩ (f.alloc (.cells #[.slice (some ⟨g,0,none⟩) ts.length cap,.int .i64 0,.int .i64 0,.nilIface] 167)) bR .nilIface:=by refine⟨D.alloc _,D.size,by show g≠f.heap.size;omega,by show ts.length<=1001;omega,aj.last,aj.pos,by decide,af rfl,⟨cur,ai ad,ae⟩,rfl⟩
 have al:=ab ak;clear ak
 obtain⟨b,p⟩: ∃b,Hid (b=da ts bR):=⟨_,rfl⟩
 go_wp2_with fail;refine(CB ⟨a,k,f.heap.size,g,cap,ts⟩ _ bR .nilIface b (by exact al) rfl p).mono ?_;rintro e E ⟨an,rfl,aI,⟨⟨F,ao⟩,ap⟩,ar⟩;have q:=ab ao;have G:Hid (Below w.heap.size w E):=i.trans ((((Jj _ _).alloc (Ji _) _).mono i.size).trans (ap.below i.size (by simp;have:=i.size;omega)))
 have au:Hid (b.2.er=none->de E w.heap.size (.pointer (some ⟨an,0,none⟩)) b.1):=fun H=>by
  obtain⟨I,J,K,m,n,h,L,M⟩:=ar H;have N:w.heap.size<=(f.alloc (.cells #[.slice (some ⟨g,0,none⟩) ts.length cap,.int .i64 0,.int .i64 0,.nilIface] 167)).heap.size:=by simp;have:=i.size;omega
  exact⟨I,J,K,m,Jt N n,h,L.keep N (aw.ofBelow (Jj _ _)),M.keep N (aw.ofBelow (Jj _ _))⟩
 clear ao ap ar aI al;have ba:=oQ;have aJ:f.heap.size<E.heap.size:=aa q.reader;have aL:w.heap.size<=f.heap.size:=i.size;generalize O:f.heap.size=P at*;clear O D i ad ae aA hg0;have bb:Hid (b.2.nx<ts.length):=q.nx;go_wp2_with fail;refine(cX ⟨a,k,P,g,cap,ts⟩ _ b.2 F (by exact q)).mono ?_;rintro e av ⟨rfl,o⟩;obtain⟨r,A⟩:=ag (q.keep o) (G.trans (o.mono G.size));have B:Hid (b.2.er=none->de av w.heap.size (.pointer (some ⟨an,0,none⟩)) b.1):=fun H=>by obtain⟨I,J,K,m,n,h,L,M⟩:=(U au) H;exact⟨I,J,K,m,n,(o.block _ (aa h)).trans h,L.keep (Ji _) (aw.ofBelow o),M.keep (Ji _) (aw.ofBelow o)⟩
 clear o q G au aJ;have bc:P<av.heap.size:=aa r.reader;by_cases t:(ah ts b.2.nx).kind=0
 ·have aN:(((ah ts b.2.nx).kind:Int) !=0)=false:=by rw[t];rfl
  have j:Hid (R=ux b.2.er b.1):=y.trans (Bg p t);clear t y p;generalize ah ts b.2.nx=aR at*;obtain⟨aT,aU,aV,a0,a1,O⟩:=r.facts;have c:=ab r.err
  cases d:b.2.er with
  |none=>
   rw[d]at c j;have u:F=.nilIface:=U c;subst u;have a2:=ab (B d);clear B c d;go_wp2
   go_ret2
   rw[U j];exact⟨U A,_,rfl,a2⟩
  |some Q=>
   obtain⟨a3,a4⟩:=Q;rw[d]at c j;obtain⟨S,u,T,v⟩:=U c;subst u;have V:=ab v;clear B c d v T;go_wp2
   go_region
   go_wp2
   go_ret2
   rw[U j];exact⟨A.drew,S,rfl,V⟩
 ·have aN:(((ah ts b.2.nx).kind:Int) !=0)=true:=by simp;omega
  have j:Hid (R=ux (bM ts b.2 bE).er b.1):=y.trans (Bh p t);clear t y p B;generalize ah ts b.2.nx=aR at*;have be:=r.env.cell 3 (by decide);go_wp2_with fail;refine(iC ⟨a,k,P,g,cap,ts⟩ _ b.2 F bE (by exact r)).mono ?_;rintro e bg ⟨rfl,⟨bk,W⟩,ax⟩;have a5:=ab (A.trans ((ax.below aL (by have:=A.size;omega))));obtain⟨aT,aU,aV,a0,a1,O⟩:=W.facts;have c:=ab W.err;clear W ax
  cases d:(bM ts b.2 bE).er with
  |none=>exact(eC d).elim
  |some Q=>
   obtain⟨a3,a4⟩:=Q;rw[d]at c j;obtain⟨S,u,T,v⟩:=U c;subst u;have V:=ab v;clear c d v T;go_wp2
   go_region
   go_wp2
   go_ret2
   rw[U j];exact⟨a5.drew,S,rfl,V⟩
theorem de.keepB{w w':World}{lo:Nat}{v:Value}{x:cH}(c:de w lo v x)(a:Below w.heap.size w w'):de w' lo v x:=by obtain⟨d,e,f,g,h,b,i,j⟩:=c;exact⟨d,e,f,g,h,(a.block _ (aa b)).trans b,i.keep (Ji _) (aw.ofBelow a),j.keep (Ji _) (aw.ofBelow a)⟩
theorem cY(n:Int)(w:World):Calls prog 163 #[.int .u8 n] w fun e w'=>e=.returned (.bool (aq n))/\w'=w:=by
 by_cases a:97<=n
 ·have b:decide (97<=n)=true:=by simp[a]
  by_cases c:n<=122
  ·have d:decide (n<=122)=true:=by simp[c]
   go_enter func163,ntmps163;go_wp2;go_ret;exact⟨by simp[aq,a,c],rfl⟩
  ·have d:decide (n<=122)=false:=by simp;omega
   go_enter func163,ntmps163;go_wp2;go_ret;exact⟨by simp[aq,d],rfl⟩
 ·have b:decide (97<=n)=false:=by simp;omega
  go_enter func163,ntmps163;go_wp2;go_ret;exact⟨by simp[aq,b],rfl⟩
theorem dF(n:Int)(w:World):Calls prog 164 #[.int .u8 n] w fun e w'=>e=.returned (.bool (aG n))/\w'=w:=by
 by_cases a:48<=n
 ·have b:decide (48<=n)=true:=by simp[a]
  go_enter func164,ntmps164;go_wp2;go_ret;exact⟨by simp[aG,a],rfl⟩
 ·have b:decide (48<=n)=false:=by simp;omega
  go_enter func164,ntmps164;go_wp2;go_ret;exact⟨by simp[aG,b],rfl⟩
theorem AG{S:ByteArray}{pre r:List UInt8}{c:UInt8}(a:S.data.toList=pre++c::r)(b:pre.length<S.size):S[pre.length]=c:=by
 have:S.data.toList[pre.length]? =some c:=by rw[a];simp
 rw[Kt]at this;exact(J3.1 this).2
theorem uy{pre suf:List ByteArray}{s:ByteArray}(c: ¬s∈pre):Lib.containsS (pre++suf) s=Lib.containsS suf s:=by
 cases b:Lib.containsS suf s with
 |true=>rw[J2]at b⊢;exact KJ _ b
 |false=>
  cases a:Lib.containsS (pre++suf) s with
  |false=>rfl
  |true=>
   rw[J2,JW]at a;rcases a with a|a
   ·exact(c a).elim
   ·rw[(J2 _ _).2 a]at b;cases b
theorem fE(s:ByteArray)(w:World)(b:Nat)(xs:List ByteArray)(l:fI w b xs)(z:xs.length<=100):
  Calls prog 40 #[.string s,.slice (some ⟨b,0,none⟩) xs.length xs.length] w fun e w'=>e=.returned (.bool (Lib.containsS xs s))/\w'=w:=by
 obtain⟨A,h⟩:=l;have m:=ab h;clear h;go_enter func40,ntmps40;go_wp2_with fail
 go_loop [5] (fun f=> ∃a g,xs=a++g/\f=.int .i64 a.length/\ ¬s∈a) (fun f=>xs.length-(intOf f).toNat)
 case atStart=>exact⟨[],xs,rfl,rfl,by simp⟩
 case round=>
  obtain⟨a,g,i,rfl,j⟩:=hrel;obtain⟨k,c⟩:=ag j i;clear j i
  match g,c with
  | [],c=>
   have B:xs.length<=a.length:=by rw[U c];simp
   have C: ¬((a.length:Int)<(xs.length:Int)):=by omega
   have n:decide ((a.length:Int)<(xs.length:Int))=false:=by simp;omega
   have o:Hid (Lib.containsS xs s=false):=by unfold Hid;rw[U c,uy (U k)];rfl
   go_wp2;go_ret;rw[U o];exact⟨rfl,rfl⟩
  |x::p,c=>
   have q:a.length<xs.length:=by rw[U c];simp
   have n:decide ((a.length:Int)<(xs.length:Int))=true:=by simp;omega
   have r:w.cell? ⟨b,0+a.length,none⟩=some (.string x):=by rw[(U m) a.length q,U c];simp
   rw[JV]at r;by_cases d:x=s
   ·subst d;have t:Hid (Lib.containsS xs x=true):=by unfold Hid;rw[J2,U c];simp
    go_wp2;go_ret;rw[U t];exact⟨rfl,rfl⟩
   ·have D:(x.toList==s.toList)=false:=by
     simp only[Kb,ne_eq];intro e;rw[JA,JA]at e;exact d (J5 e)
    have u:=ab d;clear d;go_wp2
    go_round
    case rel=>exact⟨a++[x],p,by rw[U c];simp,by simp,fun v=>(JW.1 v).elim k (fun y=>U u (JN.1 y).symm)⟩
    case measure=>simp[intOf];omega
theorem oZ(s:ByteArray)(b:Nat)(f:List UInt8)(w:World)(A:b<=s.size)(B:s.size<=1000)(g:s.data.toList.drop b=f):
  Calls prog 165 #[.string s,.int .i64 b,.bool true] w fun e w'=>e=.returned (.int .i64 ((b:Int)+(aY aq f:Int)))/\w'=w:=by
 have r:=ab g;have m:Hid (f.length+b=s.size):=by unfold Hid;rw[<-g,J6,eS];omega
 clear g;go_enter func165,ntmps165;go_wp2_with fail
 go_loop [1] (fun h=> ∃a i,f=a++i/\h=.int .i64 ((b:Int)+(a.length:Int))/\ ∀c,c∈a->aq c.toNat=true) (fun h=>s.size-(intOf h).toNat)
 case atStart=>exact⟨[],f,rfl,by simp,fun c t=>by cases t⟩
 case round=>
  obtain⟨a,i,n,rfl,o⟩:=hrel;obtain⟨j,d⟩:=ag o n;clear o n
  match i,d with
  | [],d=>
   have C:s.size<=b+a.length:=by have:=U m;rw[U d,JD]at this;omega
   have k:decide ((b:Int)+(a.length:Int)<(s.size:Int))=false:=by simp;omega
   have l:Hid (aY aq f=a.length):=by unfold Hid;rw[U d];exact oY j (fun c p e=>by cases e)
   go_wp2;go_ret;rw[U l];exact⟨rfl,rfl⟩
  |c::p,d=>
   have D:b+a.length<s.size:=by have:=U m;rw[U d]at this;simp at this;omega
   have k:decide ((b:Int)+(a.length:Int)<(s.size:Int))=true:=by simp;omega
   have E:s[b+a.length]=c:=by
    have:s.data.toList[b+a.length]? =some c:=by rw[<-Ln,r,U d];simp
    rw[Kt]at this;exact(J3.1 this).2
   cases q:aq c.toNat with
   |false=>
    have l:Hid (aY aq f=a.length):=by unfold Hid;rw[U d];exact oY j (fun F G e=>by injection e with u H;subst u;exact q)
    cases v:aG c.toNat<;>
     (go_wp2_with (first|(go_at_call 163;refine(cY _ _).mono ?_;rintro e w' ⟨rfl,rfl⟩)|(go_at_call 164;refine(dF _ _).mono ?_;rintro e w' ⟨rfl,rfl⟩))
      go_ret;rw[U l]
      exact⟨rfl,rfl⟩)
   |true=>
    have x:=ab q
    cases v:aG c.toNat<;>
     (go_wp2_with (first|(go_at_call 163;refine(cY _ _).mono ?_;rintro e w' ⟨rfl,rfl⟩)|(go_at_call 164;refine(dF _ _).mono ?_;rintro e w' ⟨rfl,rfl⟩))
      go_round
      case rel=>exact⟨a++[c],p,by rw[U d];simp,by rw[Jk];go_num,fun y k=>(JW.1 k).elim (U j y) (fun z=>by rw[JN.1 z];exact x)⟩
      case measure=>simp[intOf];omega)
theorem u8(s:ByteArray)(b:Nat)(f:List UInt8)(w:World)(A:b<=s.size)(B:s.size<=1000)(g:s.data.toList.drop b=f):
  Calls prog 165 #[.string s,.int .i64 b,.bool false] w fun e w'=>e=.returned (.int .i64 ((b:Int)+(aY aG f:Int)))/\w'=w:=by
 have r:=ab g;have m:Hid (f.length+b=s.size):=by unfold Hid;rw[<-g,J6,eS];omega
 clear g;go_enter func165,ntmps165;go_wp2_with fail
 go_loop [1] (fun h=> ∃a i,f=a++i/\h=.int .i64 ((b:Int)+(a.length:Int))/\ ∀c,c∈a->aG c.toNat=true) (fun h=>s.size-(intOf h).toNat)
 case atStart=>exact⟨[],f,rfl,by simp,fun c t=>by cases t⟩
 case round=>
  obtain⟨a,i,n,rfl,o⟩:=hrel;obtain⟨j,d⟩:=ag o n;clear o n
  match i,d with
  | [],d=>
   have C:s.size<=b+a.length:=by have:=U m;rw[U d,JD]at this;omega
   have k:decide ((b:Int)+(a.length:Int)<(s.size:Int))=false:=by simp;omega
   have l:Hid (aY aG f=a.length):=by unfold Hid;rw[U d];exact oY j (fun c p e=>by cases e)
   go_wp2;go_ret;rw[U l];exact⟨rfl,rfl⟩
  |c::p,d=>
   have D:b+a.length<s.size:=by have:=U m;rw[U d]at this;simp at this;omega
   have k:decide ((b:Int)+(a.length:Int)<(s.size:Int))=true:=by simp;omega
   have E:s[b+a.length]=c:=by
    have:s.data.toList[b+a.length]? =some c:=by rw[<-Ln,r,U d];simp
    rw[Kt]at this;exact(J3.1 this).2
   cases q:aG c.toNat with
   |false=>
    have l:Hid (aY aG f=a.length):=by unfold Hid;rw[U d];exact oY j (fun F G e=>by injection e with u H;subst u;exact q)
    cases v:aq c.toNat<;>
     (go_wp2_with (first|(go_at_call 163;refine(cY _ _).mono ?_;rintro e w' ⟨rfl,rfl⟩)|(go_at_call 164;refine(dF _ _).mono ?_;rintro e w' ⟨rfl,rfl⟩))
      go_ret;rw[U l]
      exact⟨rfl,rfl⟩)
   |true=>
    have x:=ab q
    cases v:aq c.toNat<;>
     (go_wp2_with (first|(go_at_call 163;refine(cY _ _).mono ?_;rintro e w' ⟨rfl,rfl⟩)|(go_at_call 164;refine(dF _ _).mono ?_;rintro e w' ⟨rfl,rfl⟩))
      go_round
      case rel=>exact⟨a++[c],p,by rw[U d];simp,by rw[Jk];go_num,fun y k=>(JW.1 k).elim (U j y) (fun z=>by rw[JN.1 z];exact x)⟩
      case measure=>simp[intOf];omega)
def dX:Nat->List UInt8->Option Nat
 |n,[]=>some n
 |n,c::r=>if 1000000000<10*n+(c.toNat-48)then none else dX (10*n+(c.toNat-48)) r
def oq:Option Nat->Int
 |some v=>v
 |none=> -1
theorem xJ: ∀(l:List UInt8) (n u:Nat),Lib.parseUint10 n l=.ok u->n<=u
 | [],n,u,a=>by simp only[Lib.parseUint10]at a;injection a with a;omega
 |c::r,n,u,a=>by
  simp only[Lib.parseUint10]at a;split at a
  ·split at a
   ·cases a
   ·split at a
    ·cases a
    ·have:=xJ r _ u a;omega
  ·cases a
theorem rq: ∀(l:List UInt8) (n:Nat),(∀c,c∈l->aG c.toNat=true)->n<=1000000000->
  (∀v,dX n l=some v->Lib.parseUint10 n l=.ok v/\v<=1000000000)/\(dX n l=none-> ∀u,Lib.parseUint10 n l=.ok u->1000000000<u)
 | [],n,_,hn=>⟨fun v a=>by simp only[dX]at a;injection a with a;subst a;exact⟨rfl,hn⟩,fun a=>by cases a⟩
 |c::r,n,b,hn=>by
  have d:=b c JK;have f:48<=c.toNat/\c.toNat<=57:=by unfold aG at d;simp only[Kc,JQ]at d;omega
  have g:Lib.parseUint10 n (c::r)=Lib.parseUint10 (n*10+(c.toNat-48)) r:=by simp only[Lib.parseUint10];rw[Jo f,Jn (by omega),Jn (by omega)]
  rw[g,dX,Nat.mul_comm n 10];by_cases e:1000000000<10*n+(c.toNat-48)
  ·rw[Jo e];exact⟨fun v a=>(by cases a),fun _ u h=>(by have:=xJ r _ u h;omega)⟩
  ·rw[Jn e];exact rq r _ (fun i j=>b i (KQ _ j)) (by omega)
theorem pW{l:List UInt8}(d: ∀c,c∈l->aG c.toNat=true)(i:l≠ []):js l=(dX 0 l).map fun n=>(n:Int):=by
 match l,i with
 |c::a,_=>
  have e:=d c JK;have q:48<=c.toNat/\c.toNat<=57:=by unfold aG at e;simp only[Kc,JQ]at e;omega
  obtain⟨j,k⟩:=rq (c::a) 0 d (by omega);unfold js Lib.atoiAll;simp only;rw[Jn (by omega: ¬(c.toNat=43∨c.toNat=45))];unfold Lib.parseMag;rw[Jn (by simp)]
  cases f:dX 0 (c::a)with
  |some m=>obtain⟨b,o⟩:=j m f;rw[b];simp only;rw[Jn (by omega),Jn (by omega),Jn (by omega)];simp only;rw[Jn (by omega)];rfl
  |none=>
   have b:=k f
   cases p:Lib.parseUint10 0 (c::a)with
   |«syntax»=>rfl
   |range=>rfl
   |ok g=>
    have o:=b g p;simp only;by_cases h: ¬c.toNat=45/\9223372036854775808<=g
    ·rw[Jo h];rfl
    ·rw[Jn h,Jn (by omega),Jn (by omega)];simp only;rw[Jo (by omega)];rfl
theorem nH(s:ByteArray)(w:World)(A:s.size<=1000)(m: ∀c,c∈s.data.toList->aG c.toNat=true):
  Calls prog 167 #[.string s] w fun e w'=>e=.returned (.int .i64 (oq (dX 0 s.data.toList)))/\w'=w:=by
 have r:=ab m;clear m
 obtain⟨f,k⟩: ∃f,Hid (f=dX 0 s.data.toList):=⟨_,rfl⟩
 rw[<-U k];go_enter func167,ntmps167;go_wp2_with fail
 go_loop [3,4] (fun t l=> ∃(b j:List UInt8) (a:Nat),s.data.toList=b++j/\t=.int .i64 (a:Int)/\l=.int .i64 b.length/\a<=1000000000/\f=dX a j) (fun _ l=>s.size-(intOf l).toNat)
 case atStart=>exact⟨[],s.data.toList,0,rfl,rfl,rfl,by omega,k⟩
 case round=>
  obtain⟨b,j,a,n,rfl,rfl,B,o⟩:=hrel;obtain⟨d,g⟩:=ag n o;clear n o k
  match j,d,g with
  | [],d,g=>
   have C:s.size<=b.length:=by rw[<-eS,U d];simp
   have u:decide ((b.length:Int)<(s.size:Int))=false:=by simp;omega
   have h:Hid (f=some a):=U g;go_wp2;go_ret;rw[U h];exact⟨rfl,rfl⟩
  |c::p,d,g=>
   have v:b.length<s.size:=by rw[<-eS,U d];simp
   have u:decide ((b.length:Int)<(s.size:Int))=true:=by simp;omega
   have D:s[b.length]=c:=AG d v;have x:48<=c.toNat/\c.toNat<=57:=by have q:=(U r) c (by rw[U d];simp);unfold aG at q;simp only[Kc,JQ]at q;omega
   obtain⟨E,F⟩:=x;by_cases i:1000000000<10*a+(c.toNat-48)
   ·have y:decide ((1000000000:Int)<10*(a:Int)+((c.toNat:Int)-48))=true:=by simp;omega
    have h:Hid (f=none):=by unfold Hid;rw[U g,dX,Jo i]
    clear i;go_wp2;go_ret;rw[U h];exact⟨rfl,rfl⟩
   ·have y:decide ((1000000000:Int)<10*(a:Int)+((c.toNat:Int)-48))=false:=by simp;omega
    have h:Hid (f=dX (10*a+(c.toNat-48)) p):=by unfold Hid;rw[U g,dX,Jn i]
    have z:=ab i;clear i;go_wp2
    go_round
    case rel=>exact⟨b++[c],p,10*a+(c.toNat-48),by rw[U d];simp,by congr 1;omega,by rw[Jk];go_num,by have:=U z;omega,h⟩
    case measure=>simp[intOf];omega
def gC:List ByteArray:=oN.map fun a=>⟨a.toArray⟩
theorem o0(s:ByteArray):Lib.containsS gC s=dU s.data.toList:=by
 rw[KY,J2];unfold gC dU;simp only[KM,Mj,KD]
 constructor
 ·rintro⟨a,b,rfl⟩;exact⟨a,b,by simp⟩
 ·rintro⟨a,b,c⟩;exact⟨a,b,J5 (by simp[c])⟩
theorem nI(w:World):
  Calls prog 166 #[] w fun e w'=>e=.returned (.slice (some ⟨w.heap.size,0,none⟩) 18 18)/\fI w' w.heap.size gC/\Below w.heap.size w w':=by
 go_enter func166,ntmps166;go_wp2;go_ret;refine⟨rfl,?_,(Jj _ _).alloc (Ji _) _⟩
 exact bo rfl (fun a b=>by
  match a,b with
  |0,_|1,_|2,_|3,_|4,_|5,_|6,_|7,_|8,_|9,_|10,_|11,_|12,_|13,_|14,_|15,_|16,_|17,_=>rfl
  |_+18,c=>exact absurd c (by simp[gC,oN]))
theorem Bi(s:ByteArray)(i n:Nat)(c:UInt8)(f:List UInt8)(w:World)(E:i<s.size)(q:s.size<=1000)(h:Hid (s.data.toList.drop i=c::f))(r:aq c.toNat=true)(t:Hid (aY aq (c::f)=n))(hn:i+n<=s.size)(j:dU (s.extract i (i+n)).data.toList=true):
  Calls prog 108 #[.string s,.int .i64 i] w fun e w'=>e=.returned (.tuple #[.agg #[.int .i64 1,.int .i64 i,.string (s.extract i (i+n))],.int .i64 0])/\Below w.heap.size w w':=by
 have F:s[i]=c:=by
  have:s.data.toList[i]? =some c:=by
   have:=JE (fun u=>u[0]?) h
   simpa using this
  rw[Kt]at this;exact(J3.1 this).2
 have G:aG c.toNat=false:=by
  have:=kD c;rw[r]at this
  simpa using this
 have x:=ab j;clear j;go_enter func108,ntmps108;go_wp2_with (first|(go_at_call 163;refine(cY _ _).mono ?_;rintro e w' ⟨rfl,rfl⟩)|(go_at_call 164;refine(dF _ _).mono ?_;rintro e w' ⟨rfl,rfl⟩));refine(oZ s i (c::f) _ (by omega) q h).mono ?_;rintro e w' ⟨rfl,rfl⟩;rw[U t];go_wp2_with fail;generalize k:s.extract i (i+n)=a at*;have y:=ab k;clear k;have l:Hid (((w.alloc (.cells #[.int .i64 0,.int .i64 0,.string ⟨#[]⟩] 100)).alloc (.cells #[.int .i64 2,.int .i64 i,.string a] 100)).heap[w.heap.size]? =some (.cells #[.int .i64 0,.int .i64 0,.string ⟨#[]⟩] 100 (0,0))):=ai (af rfl);have g:Hid (((w.alloc (.cells #[.int .i64 0,.int .i64 0,.string ⟨#[]⟩] 100)).alloc (.cells #[.int .i64 2,.int .i64 i,.string a] 100)).heap[w.heap.size+1]? =some (.cells #[.int .i64 2,.int .i64 i,.string a] 100 (0,0))):=af (by simp);have b:Hid (Below w.heap.size w ((w.alloc (.cells #[.int .i64 0,.int .i64 0,.string ⟨#[]⟩] 100)).alloc (.cells #[.int .i64 2,.int .i64 i,.string a] 100))):=((Jj _ _).alloc (Ji _) _).alloc (by simp) _;generalize(w.alloc (.cells #[.int .i64 0,.int .i64 0,.string ⟨#[]⟩] 100)).alloc (.cells #[.int .i64 2,.int .i64 i,.string a] 100)=H at*;obtain⟨I,f0⟩:=blk l;obtain⟨J,f1⟩:=blk g;have K:=aa g;have L:Lib.containsS gC a=true:=by rw[o0];exact x
 go_region_with (first
  |(go_at_call 166;refine(nI _).mono ?_;rintro e M ⟨rfl,m,d⟩;have z:=ab m;have o:=ab d;have p:=ab ((d.block (w.heap.size+1) (by simp;omega)).trans (by exact g));have A:=ab ((d.block w.heap.size (by simp;omega)).trans (by exact l));obtain⟨N,f3⟩:=blk p;obtain⟨B,f4⟩:=blk A;have O:=aa p;clear m d)
  |(go_at_call 40;refine(fE _ _ _ gC (by exact z) (by decide)).mono ?_;rintro e C ⟨rfl,rfl⟩))
 all_goals
  go_wp2;refine Jr (v:=.tuple #[.agg #[.int .i64 1,.int .i64 i,.string a],.int .i64 0]) (by simp[results,results108,go_sem,B]) rfl ⟨by rw[U y],?_⟩
  have D:Below w.heap.size w C:=by
   first
    |exact b.trans (o.mono (by have:=b.size;omega))
    |exact b.drew.trans (o.mono b.size)
  repeat(first|exact D|apply JI|refine J0 ?_ (by first|exact Ji _|exact KN _) _)
theorem Bj(s:ByteArray)(i n:Nat)(c:UInt8)(f:List UInt8)(w:World)(G:i<s.size)(r:s.size<=1000)(h:Hid (s.data.toList.drop i=c::f))(t:aq c.toNat=true)(u:Hid (aY aq (c::f)=n))(hn:i+n<=s.size)(j:dU (s.extract i (i+n)).data.toList=false)(k:(s.extract i (i+n)).size<=8):
  Calls prog 108 #[.string s,.int .i64 i] w fun e w'=>e=.returned (.tuple #[.agg #[.int .i64 2,.int .i64 i,.string (s.extract i (i+n))],.int .i64 0])/\Below w.heap.size w w':=by
 have H:s[i]=c:=by
  have:s.data.toList[i]? =some c:=by
   have:=JE (fun x=>x[0]?) h
   simpa using this
  rw[Kt]at this;exact(J3.1 this).2
 have I:aG c.toNat=false:=by
  have:=kD c;rw[t]at this
  simpa using this
 obtain⟨y,z⟩:=ag j k;clear j k;go_enter func108,ntmps108;go_wp2_with (first|(go_at_call 163;refine(cY _ _).mono ?_;rintro e w' ⟨rfl,rfl⟩)|(go_at_call 164;refine(dF _ _).mono ?_;rintro e w' ⟨rfl,rfl⟩));refine(oZ s i (c::f) _ (by omega) r h).mono ?_;rintro e w' ⟨rfl,rfl⟩;rw[U u];go_wp2_with fail;generalize l:s.extract i (i+n)=a at*;have A:=ab l;clear l;have m:Hid (((w.alloc (.cells #[.int .i64 0,.int .i64 0,.string ⟨#[]⟩] 100)).alloc (.cells #[.int .i64 2,.int .i64 i,.string a] 100)).heap[w.heap.size]? =some (.cells #[.int .i64 0,.int .i64 0,.string ⟨#[]⟩] 100 (0,0))):=ai (af rfl);have g:Hid (((w.alloc (.cells #[.int .i64 0,.int .i64 0,.string ⟨#[]⟩] 100)).alloc (.cells #[.int .i64 2,.int .i64 i,.string a] 100)).heap[w.heap.size+1]? =some (.cells #[.int .i64 2,.int .i64 i,.string a] 100 (0,0))):=af (by simp);have b:Hid (Below w.heap.size w ((w.alloc (.cells #[.int .i64 0,.int .i64 0,.string ⟨#[]⟩] 100)).alloc (.cells #[.int .i64 2,.int .i64 i,.string a] 100))):=((Jj _ _).alloc (Ji _) _).alloc (by simp) _;generalize(w.alloc (.cells #[.int .i64 0,.int .i64 0,.string ⟨#[]⟩] 100)).alloc (.cells #[.int .i64 2,.int .i64 i,.string a] 100)=J at*;obtain⟨K,f0⟩:=blk m;obtain⟨L,f1⟩:=blk g;have M:=aa g;have N:Lib.containsS gC a=false:=by rw[o0];exact y
 have O:a.size<=8:=U z;have P:decide (8<(a.size:Int))=false:=by simp;omega
 go_region_with (first
  |(go_at_call 166;refine(nI _).mono ?_;rintro e Q ⟨rfl,o,d⟩;have B:=ab o;have p:=ab d;have q:=ab ((d.block (w.heap.size+1) (by simp;omega)).trans (by exact g));have C:=ab ((d.block w.heap.size (by simp;omega)).trans (by exact m));obtain⟨R,f3⟩:=blk q;obtain⟨D,f4⟩:=blk C;have S:=aa q;clear o d)
  |(go_at_call 40;refine(fE _ _ _ gC (by exact B) (by decide)).mono ?_;rintro e E ⟨rfl,rfl⟩))
 all_goals
  go_wp2;refine Jr (v:=.tuple #[.agg #[.int .i64 2,.int .i64 i,.string a],.int .i64 0]) (by simp[results,results108,go_sem,D]) rfl ⟨by rw[U A],?_⟩
  have F:Below w.heap.size w E:=by
   first
    |exact b.trans (p.mono (by have:=b.size;omega))
    |exact b.drew.trans (p.mono b.size)
  repeat(first|exact F|apply JI|refine J0 ?_ (by first|exact Ji _|exact KN _) _)
theorem Bl(s:ByteArray)(i n:Nat)(c:UInt8)(f:List UInt8)(w:World)(G:i<s.size)(r:s.size<=1000)(h:Hid (s.data.toList.drop i=c::f))(t:aq c.toNat=true)(u:Hid (aY aq (c::f)=n))(hn:i+n<=s.size)(j:dU (s.extract i (i+n)).data.toList=false)(k:8<(s.extract i (i+n)).size):
  Calls prog 108 #[.string s,.int .i64 i] w fun e w'=>e=.returned (.tuple #[.agg #[.int .i64 2,.int .i64 i,.string (s.extract i (i+n))],.int .i64 4])/\Below w.heap.size w w':=by
 have H:s[i]=c:=by
  have:s.data.toList[i]? =some c:=by
   have:=JE (fun x=>x[0]?) h
   simpa using this
  rw[Kt]at this;exact(J3.1 this).2
 have I:aG c.toNat=false:=by
  have:=kD c;rw[t]at this
  simpa using this
 obtain⟨y,z⟩:=ag j k;clear j k;go_enter func108,ntmps108;go_wp2_with (first|(go_at_call 163;refine(cY _ _).mono ?_;rintro e w' ⟨rfl,rfl⟩)|(go_at_call 164;refine(dF _ _).mono ?_;rintro e w' ⟨rfl,rfl⟩));refine(oZ s i (c::f) _ (by omega) r h).mono ?_;rintro e w' ⟨rfl,rfl⟩;rw[U u];go_wp2_with fail;generalize l:s.extract i (i+n)=a at*;have A:=ab l;clear l;have m:Hid (((w.alloc (.cells #[.int .i64 0,.int .i64 0,.string ⟨#[]⟩] 100)).alloc (.cells #[.int .i64 2,.int .i64 i,.string a] 100)).heap[w.heap.size]? =some (.cells #[.int .i64 0,.int .i64 0,.string ⟨#[]⟩] 100 (0,0))):=ai (af rfl);have g:Hid (((w.alloc (.cells #[.int .i64 0,.int .i64 0,.string ⟨#[]⟩] 100)).alloc (.cells #[.int .i64 2,.int .i64 i,.string a] 100)).heap[w.heap.size+1]? =some (.cells #[.int .i64 2,.int .i64 i,.string a] 100 (0,0))):=af (by simp);have b:Hid (Below w.heap.size w ((w.alloc (.cells #[.int .i64 0,.int .i64 0,.string ⟨#[]⟩] 100)).alloc (.cells #[.int .i64 2,.int .i64 i,.string a] 100))):=((Jj _ _).alloc (Ji _) _).alloc (by simp) _;generalize(w.alloc (.cells #[.int .i64 0,.int .i64 0,.string ⟨#[]⟩] 100)).alloc (.cells #[.int .i64 2,.int .i64 i,.string a] 100)=J at*;obtain⟨K,f0⟩:=blk m;obtain⟨L,f1⟩:=blk g;have M:=aa g;have N:Lib.containsS gC a=false:=by rw[o0];exact y
 have O:8<a.size:=U z;have P:decide (8<(a.size:Int))=true:=by simp;omega
 go_region_with (first
  |(go_at_call 166;refine(nI _).mono ?_;rintro e Q ⟨rfl,o,d⟩;have B:=ab o;have p:=ab d;have q:=ab ((d.block (w.heap.size+1) (by simp;omega)).trans (by exact g));have C:=ab ((d.block w.heap.size (by simp;omega)).trans (by exact m));obtain⟨R,f3⟩:=blk q;obtain⟨D,f4⟩:=blk C;have S:=aa q;clear o d)
  |(go_at_call 40;refine(fE _ _ _ gC (by exact B) (by decide)).mono ?_;rintro e E ⟨rfl,rfl⟩))
 all_goals
  go_wp2;refine Jr (v:=.tuple #[.agg #[.int .i64 2,.int .i64 i,.string a],.int .i64 4]) (by simp[results,results108,go_sem,D]) rfl ⟨by rw[U A],?_⟩
  have F:Below w.heap.size w E:=by
   first
    |exact b.trans (p.mono (by have:=b.size;omega))
    |exact b.drew.trans (p.mono b.size)
  repeat(first|exact F|apply JI|refine J0 ?_ (by first|exact Ji _|exact KN _) _)
end
end Go.Proofs.YtfkeddkfegaeiaaGreatDoor
