import Derived.Test.YtiafamacjpgjoaaGreatDoorGCjB
import Derived.Test.YtiafamacjpgjoaaGreatDoorGApp
import Derived.Test.YtiafamacjpgjoaaGreatDoorGPlCa
import Derived.Test.YtiafamacjpgjoaaGreatDoorGChE
import Derived.Deep.RegionHeld3
set_option maxRecDepth 100000
set_option maxHeartbeats 4000000
namespace Go.Proofs.YtiafamacjpgjoaaGreatDoor
open Go Go.RowKit Go.Shelf Tide
theorem qQ (Y:World) {b k j:Nat} (y:Value) (h:k≠j):(Y.setCell ⟨b,k,none⟩ y).cell? ⟨b,j,none⟩=Y.cell? ⟨b,j,none⟩:=
 World.cell?_setCell_other _ _ _ _ (by intro e;injection e with _ e;exact h e)
theorem nN {w:World} {base g:Nat} {e:TypeId} (hb:base<=g) (h:w.heap[g]? =some (.cells #[] e (0,0))):w.ownsRow base e 1 (.slice (some ⟨g,0,none⟩) 0 0) 0 []:=
 ⟨rfl,.inr ⟨g,0,#[],rfl,hb,h,Nat.le_refl _,by simp[maxLen],rfl,rfl⟩⟩
theorem lS (w:World) (o:Obj) (g:Nat) (hg:g=w.heap.size):(w.alloc o).heap[g]? =some o:=by subst hg;exact heap_alloc_new w o
theorem lT (w:World) (o o2:Obj) (g:Nat) (hg:g=w.heap.size):((w.alloc o).alloc o2).heap[g]? =some o:=by subst hg;exact(Below.heap_alloc _ _ _ (by simp)).trans (heap_alloc_new w o)
theorem uG {P:Program} (w:World) {ops:Array Oper} {o:Oper} {a:Act} {K:Act->World->Prop} {Q:Exit->Act->World->Prop} {E:Prop} (hgd:o.guard=none) (s x:Operand) (t:TypeId)
 (ho:o.op= .call { callee:= .builtin .append,args:= #[s,x],argTypes:= #[t,t] })
 (base:Nat) (e:TypeId) (i:TypeInfo) (ht:P.underlying t=some (.slice e)) (hi:P.info? e=some i) (hz:i.zero=some (.pointer none))
 (hsize:i.size=1) (hby:i.bytes=8) (g:Nat) (hs:a.eval s= .slice (some ⟨g,0,none⟩) 0 0) (hbg:base<=g) (hg:w.heap[g]? =some (.cells #[] e (0,0)))
 (B:Nat) (y:Value) (l:List Nat) (hl:l.length=6) (hx:a.eval x=y) (hr:Row w B y (cP l))
 (h:∀v' w',w'.ownsRow base e 1 v' 6 (cP l)->Kept (λk=>k=g) w w'->Below base w w'->K (a.put o.dst v') w'):
 if Region.wanted o (yielded ops a.tmps)=true then Oper.wp P o a w K Q else E:=by
 have hgl:g < w.heap.size:=by
  rcases Nat.lt_or_ge g w.heap.size with hlt|hge
  · exact hlt
  · rw[Array.getElem?_eq_none hge]at hg;cases hg
 have h6:(cP l).length=6:=by rw[By,hl]
 refine jw w hgd s x t ho base e i (.pointer none) 8 ht hi hz hsize hby rfl _ 0 [] hs (nN hbg hg) B y (cP l) hx hr (Bz l) ?_ ?_ (by omega) (λv' w' h1 h2 h3 h4=> ?_)
 · rw[h6];unfold maxLen;omega
 · rw[h6];omega
 · rw[h6,Nat.zero_add,List.nil_append]at h1;exact h v' w' h1 (Kept.grown (Kept.refl (λk=>k=g) w) h2 (λk hk=> .inl (by injection hk with hk;exact hk.symm))) h4
theorem dL.form {W:World} {base:Nat} {v:Value} {l:List Nat} (h:dL W base v l):∃A c,v= .slice A l.length c:=by
 rcases h.2 with⟨rfl,e⟩|⟨g,cap,cur,rfl,_⟩
 · exact⟨none,0,by rw[e]⟩
 · exact⟨_,_,rfl⟩
theorem dK.form {W:World} {base:Nat} {v:Value} {l:List Nat} (h:dK W base v l):∃A c,v= .slice A l.length c:=by
 rcases h.2 with⟨rfl,e⟩|⟨g,cap,cur,rfl,_⟩
 · exact⟨none,0,by rw[e]⟩
 · exact⟨_,_,rfl⟩
def ql (D:aB) (w W:World) (ep:Int) (cs:List (List Int)) (vp:Value) (e:Ending) (w':World):Prop:=
 ∃K F H,e= .returned (.pointer (some ⟨K.X,0,none⟩))/\K.ep=ep/\K.cs=cs/\K.vp=vp/\aP D w w' K F H (λ_=>bI) (λ_=>bI) gH 0/\Below W.heap.size W w'
theorem wo {D:aB} {a:Nat->Addr} {w W:World} (hD:ay (three a) D) (hE:av w a) (hb:Below w.heap.size w W) (ep:Int) (cs:List (List Int)) (vg:Value) (B:Nat) (hg:b7 W B vg cs) (hB:B<=W.heap.size) (hl:ig cs=false):
 Calls Tryz.prog 7 #[cA ep vg] W (ql D w W ep cs vg):=by
 have HD:=ab hD;have HE:=ab hE;have HB:=ab hb;have HGv:=ab hg;have HBl:=ab hB;have B0:=ab ((Below.refl W.heap.size W).alloc (Nat.le_refl _) (.cells #[.int .i64 ep,vg] 24));have P0:=ab (aI.new W 24 (.int .i64 ep) vg);have hl2:cs.length<=1000/\∀c ∈ cs,c.length<=1000:=by unfold ig at hl;rw[Bool.or_eq_false_iff]at hl;refine⟨by have:=hl.1;simp at this;omega,λc hc=> ?_⟩;have:=List.any_eq_false.1 hl.2 c hc;simp at this;omega
 have CC:=ab (show Calls Tryz.prog 18 #[.agg #[.int .i64 ep,vg]] (W.alloc (.cells #[.int .i64 ep,vg] 24)).drew _ from Br ep cs vg B (W.alloc (.cells #[.int .i64 ep,vg] 24)).drew (hg.below ((B0.out.drew).mono hB)) (Nat.le_trans hB B0.out.size) hl2.1 hl2.2);obtain⟨_,A,c,rfl,_⟩:=hg.form;have K1:=ab (show(W.alloc (.cells #[.int .i64 ep,.slice A cs.length c] 24)).cell? ⟨W.heap.size,0,none⟩=some (.int .i64 ep)/\(W.alloc (.cells #[.int .i64 ep,.slice A cs.length c] 24)).cell? ⟨W.heap.size,1,none⟩=some (.slice A cs.length c) from by obtain⟨_,h0,h1,_⟩:=P0.out.facts;exact⟨h0,h1⟩);have HZ:=ab (show W.heap.size < (W.alloc (.cells #[.int .i64 ep,.slice A cs.length c] 24)).heap.size by rw[World.size_alloc];omega);unfold cA at *;clear hD hE hb hg hl hl2 hB
 go_enter Tryz.func7,Tryz.ntmps7
 go_wp2_with fail
 go_region_held3 (λY=>Y.cell? ⟨W.heap.size,0,none⟩=some (.int .i64 ep)/\Y.cell? ⟨W.heap.size,1,none⟩=some (.slice A cs.length c))
  (first|exact K1.out|exact K2.out|exact⟨(World.cell?_alloc_lt w3 _ ⟨W.heap.size,0,none⟩ HZ3.out).trans K2.out.1,(World.cell?_alloc_lt w3 _ ⟨W.heap.size,1,none⟩ HZ3.out).trans K2.out.2⟩)
  (first
    | ((with_reducible refine CC.out.mono ?_);rintro en w3 ⟨v',vs,rfl,hG,hb3⟩;have K2:=ab (And.intro ((hb3.cell (p:=⟨W.heap.size,0,none⟩) HZ.out).trans K1.out.1) ((hb3.cell (p:=⟨W.heap.size,1,none⟩) HZ.out).trans K1.out.2));have HZ3:=ab (show W.heap.size < w3.heap.size from Nat.lt_of_lt_of_le HZ.out hb3.size)))
 have HB3:=ab (show Below W.heap.size W w3 from(B0.out.drew).trans (hb3.mono B0.out.size));have HG3:=ab hG;clear hG hb3 CC K1 K2
 go_wp2_with fail
 obtain⟨W4,hW4⟩:∃W4,W4=w3.alloc (.cells #[.slice none 0 0,.slice none 0 0,.slice none 0 0,.slice none 0 0,.int .i64 ep,.slice A cs.length c,.int .i64 ep,v'] 36):=⟨_,rfl⟩;have h4:dV W4 w3.heap.size (.slice none 0 0) (.slice none 0 0) (.slice none 0 0) (.slice none 0 0) ep (.slice A cs.length c) v':=by rw[hW4];exact heap_alloc_new w3 _
 have hz4:W4.heap.size=w3.heap.size+1:=by rw[hW4,World.size_alloc]
 have hb4:Below w3.heap.size w3 W4:=by rw[hW4];exact(Below.refl _ _).alloc (Nat.le_refl _) _
 have hb04:Below W.heap.size W W4:=HB3.out.trans (hb4.mono HB3.out.size);have CU:=ab (uW HD.out HE.out (HB.out.trans (hb04.mono HB.out.size)) 6 (Nat.le_refl _));rw[<-hW4];have H4:=ab h4;have HZ4:=ab hz4;have HB4:=ab hb4;have HB04:=ab hb04;clear hW4 h4 hz4 hb4 hb04;refine CU.out.mono ?_;rintro en w5 ⟨v,u,gs,qs,F,H,rfl,hlen,hN⟩;have HN:=ab hN;have HLen:=ab hlen;have HLq:=ab (show qs.length=6 from by rw[hN.len];exact hlen);have hc5:dV w5 w3.heap.size (.slice none 0 0) (.slice none 0 0) (.slice none 0 0) (.slice none 0 0) ep (.slice A cs.length c) v':=(hN.be.block w3.heap.size (by rw[HZ4.out];omega)).trans H4.out;have HC5:=ab hc5;obtain⟨c0,c1,c2,c3,hfz⟩:=hc5.facts;have f0:=hfz 0;have f2:=hfz 2;obtain⟨Av,cv,hv⟩:=dL.form hN.iW;obtain⟨Au,cu,hu⟩:=dK.form hN.iT;subst hv hu;have hlq:=HLq.out;rw[hlen,hlq];rw[hlen]at HN;rw[hlq]at HN;clear hN hlen CU hfz hc5 hlq
 go_wp2_with fail
 clear c0 c1 c2 c3 f0 f2;obtain⟨w6,hw6⟩:=aa ((w5.setCell ⟨w3.heap.size,0,none⟩ (.slice Av 6 cv)).setCell ⟨w3.heap.size,2,none⟩ (.slice Au 6 cu));have HC6:=ab (show dV w6 w3.heap.size (.slice Av 6 cv) (.slice none 0 0) (.slice Au 6 cu) (.slice none 0 0) ep (.slice A cs.length c) v' from by rw[<-hw6];exact(HC5.out.Dw _).pF _);have HK6:=ab (show Kept (λk=>k=w3.heap.size) w5 w6 from by rw[<-hw6];exact((Kept.refl (λk=>k=w3.heap.size) w5).setCell (p:=⟨w3.heap.size,0,none⟩) (.inl rfl) _).setCell (p:=⟨w3.heap.size,2,none⟩) (.inl rfl) _);rw[hw6];clear hw6;obtain⟨c0,c1,c2,c3,hfz⟩:=HC6.out.facts;have f1:=hfz 1;have f3:=hfz 3;have BgI:=ab (Below.refl w6.heap.size w6).drew;have HZ6:=ab (show W4.heap.size<=w5.heap.size/\w5.heap.size<=w6.heap.size from⟨HN.out.be.size,HK6.out.size⟩);have RU:=ab (λ(Z:World) (hb:Below w6.heap.size w6 Z)=>(show Row Z Z.heap.size (.slice Av 6 cv) (cP gs) from by have h1:=HN.out.iW.row;have h2:Row w6 w6.heap.size (.slice Av 6 cv) (cP gs):=Row.more (dP h1 HK6.out (Nat.le_refl _) (λk e e2=>by have:=(ij HN.out.iW k e).1;have:=HZ4.out;omega)) HK6.out.size;exact Row.more (h2.aj (eH hb)) hb.size));have RE:=ab (λ(Z:World) (hb:Below w6.heap.size w6 Z)=>(show Row Z Z.heap.size (.slice Au 6 cu) (cP qs) from by have h1:=HN.out.iT.row;have h2:Row w6 w6.heap.size (.slice Au 6 cu) (cP qs):=Row.more (dP h1 HK6.out (Nat.le_refl _) (λk e e2=>by have:=(ij HN.out.iT k e).1;have:=HZ4.out;omega)) HK6.out.size;exact Row.more (h2.aj (eH hb)) hb.size));obtain⟨iu,hiu,hu0,hu1,hu2⟩:=info_parts sx;obtain⟨ir,hir,hr0,hr1,hr2⟩:=info_parts sw;have HIU:=ab hiu;have HIR:=ab hir;have HLast:=ab (λ(Y:World) (va vo:Value) (hb:Below w6.heap.size w6 Y) (ha:Y.ownsRow w6.heap.size 70 1 va 6 (cP gs)) (ho:Y.ownsRow w6.heap.size 72 1 vo 6 (cP qs))=>(show ql D w W ep cs (.slice A cs.length c) (.returned (.pointer (some ⟨w3.heap.size,0,none⟩))) ((Y.setCell ⟨w3.heap.size,1,none⟩ va).setCell ⟨w3.heap.size,3,none⟩ vo) from by
  have hX6:w3.heap.size < w6.heap.size:=by have h1:=HZ6.out;have h2:=HZ4.out;omega
  have hcY:dV Y w3.heap.size (.slice Av 6 cv) (.slice none 0 0) (.slice Au 6 cu) (.slice none 0 0) ep (.slice A cs.length c) v':=(hb.block w3.heap.size hX6).trans HC6.out;have hkY:Kept (λk=>k=w3.heap.size) w6 ((Y.setCell ⟨w3.heap.size,1,none⟩ va).setCell ⟨w3.heap.size,3,none⟩ vo):=(((Kept.an hb (F:=λk=>k=w3.heap.size)).setCell (p:=⟨w3.heap.size,1,none⟩) (.inl rfl) va).setCell (p:=⟨w3.heap.size,3,none⟩) (.inl rfl) vo);have hk0:Kept (λk=>k=w3.heap.size) Y ((Y.setCell ⟨w3.heap.size,1,none⟩ va).setCell ⟨w3.heap.size,3,none⟩ vo):=((Kept.refl (λk=>k=w3.heap.size) Y).setCell (p:=⟨w3.heap.size,1,none⟩) (.inl rfl) va).setCell (p:=⟨w3.heap.size,3,none⟩) (.inl rfl) vo;have h56:=HZ6.out.2;have hgB:∀ {Z:World} {g:Value},Below w3.heap.size w3 Z->b7 w3 w3.heap.size g cs->b7 Z w3.heap.size g cs:=λhb hg=>hg.below hb;have hb35:Below w3.heap.size w3 w5:=HB4.out.trans (HN.out.be.mono HB4.out.size)
  obtain⟨K,F',H',us,up,e1,e2,e3,e4,e5,e6,e7,e8,e9,hP⟩:=Bu HD.out HN.out HLen.out (X:=w3.heap.size) (lo:=w3.heap.size) (ep:=ep) (cs:=cs) (vp:= .slice A cs.length c) (vr:=v') (Y:=(Y.setCell ⟨w3.heap.size,1,none⟩ va).setCell ⟨w3.heap.size,3,none⟩ vo)
   (Nat.le_trans HB.out.size HB3.out.size) ⟨Nat.le_refl _,by rw[HZ4.out];omega⟩ (hgB hb35 ((HGv.out.below (HB3.out.mono HBl.out)).more (Nat.le_trans HBl.out HB3.out.size))) (hgB hb35 HG3.out.bQ) (HK6.out.trans hkY (λ_ e=> .inl e)) ((hcY.pE va).pG vo)
   (kz (hk0.own ha (λk e e2=>by have:=(ij ha k e).1;omega)) h56) (kz (hk0.own ho (λk e e2=>by have:=(ij ho k e).1;omega)) h56)
  subst e8 e9;have hbW:Below W.heap.size W ((Y.setCell ⟨w3.heap.size,1,none⟩ va).setCell ⟨w3.heap.size,3,none⟩ vo):=by have h0:Below W.heap.size W w5:=HB04.out.trans (HN.out.be.mono HB04.out.size);have hk5:=HK6.out.trans hkY (λ_ e=> .inl e);exact h0.trans ⟨hk5.os,hk5.tape,hk5.output,hk5.size,λk hk=>hk5.block k (by have:=h0.size;omega) (λe=>by have:=HB3.out.size;omega)⟩
  exact⟨K,F',H',by rw[e1],e3,e4,e5,hP,hbW⟩))
 have HS:=ab (λ(Y:World) (hb:Below w6.heap.size w6 Y)=>(show Y.cell? ⟨w3.heap.size,0,none⟩=some (.slice Av 6 cv)/\Y.cell? ⟨w3.heap.size,2,none⟩=some (.slice Au 6 cu) from by
  have hX6:w3.heap.size < w6.heap.size:=by have h1:=HZ6.out;have h2:=HZ4.out;omega
  exact⟨(hb.cell (p:=⟨w3.heap.size,0,none⟩) hX6).trans c0,(hb.cell (p:=⟨w3.heap.size,2,none⟩) hX6).trans c2⟩))
 have HCX:=ab (λ(Y:World) (hb:Below w6.heap.size w6 Y)=>(show Y.cell? ⟨w3.heap.size,1,none⟩=some (.slice none 0 0)/\Y.cell? ⟨w3.heap.size,3,none⟩=some (.slice none 0 0)/\Y.frozen? ⟨w3.heap.size,1,none⟩=false/\Y.frozen? ⟨w3.heap.size,3,none⟩=false from by
  have hX6:w3.heap.size < w6.heap.size:=by have h1:=HZ6.out;have h2:=HZ4.out;omega
  have hcY:dV Y w3.heap.size (.slice Av 6 cv) (.slice none 0 0) (.slice Au 6 cu) (.slice none 0 0) ep (.slice A cs.length c) v':=(hb.block w3.heap.size hX6).trans HC6.out;exact⟨hcY.facts.2.1,hcY.facts.2.2.2.1,hcY.facts.2.2.2.2 1,hcY.facts.2.2.2.2 3⟩))
 have HSt:=ab (λ(Y:World) (k:Nat) (y:Value) (h:Y.cell? ⟨w3.heap.size,0,none⟩=some (.slice Av 6 cv)/\Y.cell? ⟨w3.heap.size,2,none⟩=some (.slice Au 6 cu)) (h0:k≠0) (h2:k≠2)=>(show(Y.setCell ⟨w3.heap.size,k,none⟩ y).cell? ⟨w3.heap.size,0,none⟩=some (.slice Av 6 cv)/\(Y.setCell ⟨w3.heap.size,k,none⟩ y).cell? ⟨w3.heap.size,2,none⟩=some (.slice Au 6 cu) from
  ⟨(qQ Y _ h0).trans h.1,(qQ Y _ h2).trans h.2⟩))
 clear hiu hir hfz c0 c1 c2 c3 f1 f3
 go_region_held3 (λY=>Y.cell? ⟨w3.heap.size,0,none⟩=some (.slice Av 6 cv)/\Y.cell? ⟨w3.heap.size,2,none⟩=some (.slice Au 6 cu))
  (first|exact HS.out _ BgI.out|exact HS.out _ Bg1.out|exact HS.out _ Bg2.out|exact HS.out _ (BgI.out.alloc BgI.out.size _)|exact HS.out _ (Bg1.out.alloc Bg1.out.size _)|exact HS.out _ (Bg2.out.alloc Bg2.out.size _)|(refine HS.out _ ((BgI.out.alloc BgI.out.size _).alloc ?_ _);simp;done)|(refine HSt.out _ 1 _ ?_ (by decide) (by decide);assumption)|(refine HSt.out _ 3 _ ?_ (by decide) (by decide);assumption))
  (first|(refine uG _ rfl (.tmp 21) (.tmp 25) 31 rfl w6.heap.size 70 iu Tryz.underlying31 HIU.out hu0 hu1 hu2 _ rfl ?_ ?_ _ _ gs HLen.out rfl (RU.out _ ?_) ?_;(solve|exact Nat.le_refl _|omega|exact Bg2.out.size|(simp;done)|(have hz:=Bg2.out.size;simp;omega));(solve|exact E1.out|(refine lS _ _ _ ?_;simp)|(refine lT _ _ _ _ ?_;simp));(solve|exact Bg2.out|exact Bg2.out.alloc Bg2.out.size _|exact BgI.out.alloc BgI.out.size _|(refine(BgI.out.alloc BgI.out.size _).alloc ?_ _;simp));intro v1' w1' h1 h2 h3;obtain⟨b1',k1',rfl,_,_⟩:=jJ h1 (by decide);have Bg1:=ab (show Below w6.heap.size w6 w1' from Below.trans (by(solve|exact Bg2.out|exact Bg2.out.alloc Bg2.out.size _|exact BgI.out.alloc BgI.out.size _|(refine(BgI.out.alloc BgI.out.size _).alloc ?_ _;simp))) h3);have V1a:=ab h1;(first|(have V1b:=ab (h2.own V2b.out (λk e e2=>dF V2b.out (nN (Nat.zero_le _) E1.out) (by decide) k e (by rw[e2];rfl))))|(have V1b:=ab (h2.own (bf V2b.out ((Below.refl _ _).alloc (Nat.le_refl _) _)) (λk e e2=>by have h9:=(ij V2b.out k e).2;have e2:k=w2'.heap.size:=e2;omega)))|skip);(first|(have E2:=ab (show w1'.heap[w6.heap.size+1]? =some (.cells #[] 72 (0,0)) from h2.heap (by refine lS _ _ _ ?_;simp) (by show ¬w6.heap.size+1=w6.heap.size;omega)))|(have E2:=ab (show w1'.heap[w6.heap.size]? =some (.cells #[] 72 (0,0)) from h2.heap (by refine lT _ _ _ _ ?_;rfl) (by show ¬w6.heap.size=w6.heap.size+1;omega)))|skip);obtain⟨q1,q3,g1,g3⟩:=HCX.out _ Bg1.out;clear h1 h2 h3)|(refine uG _ rfl (.tmp 27) (.tmp 31) 33 rfl w6.heap.size 72 ir Tryz.underlying33 HIR.out hr0 hr1 hr2 _ rfl ?_ ?_ _ _ qs HLq.out rfl (RE.out _ ?_) ?_;(solve|exact Nat.le_refl _|omega|exact Bg1.out.size|(simp;done)|(have hz:=Bg1.out.size;simp;omega));(solve|exact E2.out|(refine lS _ _ _ ?_;simp)|(refine lT _ _ _ _ ?_;simp));(solve|exact Bg1.out|exact Bg1.out.alloc Bg1.out.size _|exact BgI.out.alloc BgI.out.size _|(refine(BgI.out.alloc BgI.out.size _).alloc ?_ _;simp));intro v2' w2' h1 h2 h3;obtain⟨b2',k2',rfl,_,_⟩:=jJ h1 (by decide);have Bg2:=ab (show Below w6.heap.size w6 w2' from Below.trans (by(solve|exact Bg1.out|exact Bg1.out.alloc Bg1.out.size _|exact BgI.out.alloc BgI.out.size _|(refine(BgI.out.alloc BgI.out.size _).alloc ?_ _;simp))) h3);have V2b:=ab h1;(first|(have V2a:=ab (h2.own V1a.out (λk e e2=>dF V1a.out (nN (Nat.zero_le _) E2.out) (by decide) k e (by rw[e2];rfl))))|(have V2a:=ab (h2.own (bf V1a.out ((Below.refl _ _).alloc (Nat.le_refl _) _)) (λk e e2=>by have h9:=(ij V1a.out k e).2;have e2:k=w1'.heap.size:=e2;omega)))|skip);(first|(have E1:=ab (show w2'.heap[w6.heap.size+1]? =some (.cells #[] 70 (0,0)) from h2.heap (by refine lS _ _ _ ?_;simp) (by show ¬w6.heap.size+1=w6.heap.size;omega)))|(have E1:=ab (show w2'.heap[w6.heap.size]? =some (.cells #[] 70 (0,0)) from h2.heap (by refine lT _ _ _ _ ?_;rfl) (by show ¬w6.heap.size=w6.heap.size+1;omega)))|skip);obtain⟨q1,q3,g1,g3⟩:=HCX.out _ Bg2.out;clear h1 h2 h3))
 all_goals go_wp2_with fail
 all_goals go_ret
 all_goals(first|exact HLast.out _ _ _ Bg1.out V1a.out V1b.out|exact HLast.out _ _ _ Bg2.out V2a.out V2b.out)
end Go.Proofs.YtiafamacjpgjoaaGreatDoor
