import Derived.Test.YtdilnodbfnlhdaaGreatDoorGPlR
import Derived.Test.YtdilnodbfnlhdaaGreatDoorGPush
import Derived.Test.YtdilnodbfnlhdaaGreatDoorGBits7
import Derived.Lib.SliceRun
import Derived.Laws.IdiomCopy
namespace Go.Proofs.YtdilnodbfnlhdaaGreatDoor
open Go.RowKit Tide
theorem yq:(Tryz.prog.info? 71).map (λi=>(i.zero,i.size,i.bytes))=some (some (.slice none 0 0),1,24):=by kernel_rfl
section
variable {W:World} {base b n c:Nat} {e:TypeId} {xs:List Value}
theorem An {u:Value} (h:W.ownsRow base e 1 u n xs) (hne:n≠0):∃b c,u= .slice (some ⟨b,0,none⟩) n c/\base<=b:=by
 rcases h.2 with⟨_,h0⟩|⟨g,cap,cur,rfl,hb,_⟩
 · exact absurd h0 hne
 · exact⟨g,cap,rfl,hb⟩
theorem lR {u:Value} (h:W.ownsRow base e 1 u n xs):xs.length=n:=by rw[h.1,Nat.mul_one]
theorem Am (h:W.ownsRow base e 1 (.slice (some ⟨b,0,none⟩) n c) n xs) (j:Nat) (u:Value) (hu:xs[j]? =some u):W.cell? ⟨b,j,none⟩=some u:=by
 have hj:j < n:=by have:=(List.getElem?_eq_some_iff.1 hu).1;rw[lR h]at this;exact this
 rw[World.ownsRow.cellAt h j (by omega),hu]
theorem Aq (h:W.ownsRow base e 1 (.slice (some ⟨b,0,none⟩) n c) n xs) (j:Nat):W.frozen? ⟨b,j,none⟩=false:=by
 rcases h.2 with⟨h1,_⟩|⟨g,cap,cur,h1,hb,hg,_⟩
 · cases h1
 · injection h1 with e1 _ _;injection e1 with e1;injection e1 with e1 _;subst e1;unfold World.frozen?;rw[show W.heap[(⟨b,j,none⟩:Addr).block]? =_ from hg];simp
theorem As (h:W.ownsRow base e 1 (.slice (some ⟨b,0,none⟩) n c) n xs) (j:Nat) (x:Value):(W.setCell ⟨b,j,none⟩ x).ownsRow base e 1 (.slice (some ⟨b,0,none⟩) n c) n (xs.set j x):=by
 refine⟨by rw[List.length_set];exact h.1,?_⟩;rcases h.2 with⟨h1,_⟩|⟨g',cap',cur,h1,hb,hg,h2,h3,h4,h5⟩
 · cases h1
 · injection h1 with e1 e2 e3;injection e1 with e1;injection e1 with e1 _;subst e1 e3;obtain⟨hlt,hk⟩:=Array.getElem?_eq_some_iff.1 hg;refine .inr ⟨b,c,cur.setIfInBounds j x,rfl,hb,?_,h2,h3,by rw[Array.size_setIfInBounds];exact h4,?_⟩
   · show(W.heap.modify b _)[b]? =_;rw[Array.getElem?_eq_getElem (by rw[Array.size_modify];exact hlt),Array.getElem_modify_self,hk];simp
   · rw[Array.toList_setIfInBounds,List.take_set,h5]
theorem rV {k:Nat} {v:Value} (h:W.ownsRow base e 1 v n xs) (hv:v.ownBlock=some k):∃cur,W.heap[k]? =some (.cells cur e (0,0)):=by
 rcases h.2 with⟨rfl,_⟩|⟨g,cap,cur,rfl,_,hg,_⟩
 · cases hv
 · have:g=k:=by simpa[Value.ownBlock]using hv
   subst this;exact⟨cur,hg⟩
theorem Ar {base' n':Nat} {e':TypeId} {v v':Value} {xs':List Value} (h:W.ownsRow base e 1 v n xs) (h':W.ownsRow base' e' 1 v' n' xs') (hne:e≠e'):∀k,v.ownBlock=some k->v'.ownBlock≠some k:=λk hk hk'=>by obtain⟨c,h1⟩:=rV h hk;obtain⟨c',h2⟩:=rV h' hk';rw[h1]at h2;injection h2 with h2;injection h2 with _ h2 _;exact hne h2
end
structure ik (w:World) (base:Nat) (v:Value) (vs:List Value) (cs:List (List Int)):Prop where
 outer:w.ownsRow base 71 1 v cs.length vs
 rows:∀ (i:Nat) (u:Value) (c:List Int),vs[i]? =some u->cs[i]? =some c->Own w base u c
 apart:∀ (i j:Nat) (u u':Value) (k:Nat),i < j->vs[i]? =some u->vs[j]? =some u'->u.ownBlock=some k->u'.ownBlock≠some k
structure iH (w:World) (base lo:Nat) (v:Value) (k:Nat) (vs:List Value) (cs:List (List Int)):Prop where
 outer:w.ownsRow base 71 1 v cs.length vs
 rows:∀ (i:Nat) (u:Value) (c:List Int),i < k->vs[i]? =some u->cs[i]? =some c->Own w base u c
 olds:∀ (i:Nat) (u:Value) (c:List Int),k<=i->vs[i]? =some u->cs[i]? =some c->Row w lo u (ay c)
 apart:∀ (i j:Nat) (u u':Value) (k':Nat),i < j->j < k->vs[i]? =some u->vs[j]? =some u'->u.ownBlock=some k'->u'.ownBlock≠some k'
section
variable {w w':World} {base lo:Nat} {v:Value} {vs:List Value} {cs:List (List Int)}
theorem ik.kept {F:Nat->Prop} (h:ik w base v vs cs) (hk:Kept F w w') (hF:∀k,F k->k < base):ik w' base v vs cs:=
 ⟨hk.own h.outer (λk hk' hf=>by have:=(World.ownsRow.lt h.outer k hk').1;have:=hF k hf;omega),
   λi u c hu hc=>hk.own (h.rows i u c hu hc) (λk hk' hf=>by have:=(World.ownsRow.lt (h.rows i u c hu hc) k hk').1;have:=hF k hf;omega),h.apart⟩
theorem ik.later {base':Nat} (h:ik w base v vs cs) (hb:base'<=base):ik w base' v vs cs:=
 ⟨eW h.outer hb,λi u c hu hc=>eW (h.rows i u c hu hc) hb,h.apart⟩
theorem iH.step {b n c k:Nat} {u':Value} {w1:World} (h:iH w base lo (.slice (some ⟨b,0,none⟩) n c) k vs cs) (hk:k < cs.length) (hlo:lo<=base) (hw:Below w.heap.size w w1) (ho:Own w1 w.heap.size u' cs[k]):
 iH (w1.setCell ⟨b,k,none⟩ u') base lo (.slice (some ⟨b,0,none⟩) n c) (k+1) (vs.set k u') cs:=by
 have hn0:n=cs.length:=by
  rcases h.outer.2 with⟨h1,_⟩|⟨_,_,_,h1,_⟩
  · cases h1
  · injection h1
 subst hn0;have hb:=World.ownsRow.lt h.outer b rfl;have hkl:k < vs.length:=by rw[lR h.outer];exact hk
 have hO1:w1.ownsRow base 71 1 (.slice (some ⟨b,0,none⟩) cs.length c) cs.length vs:=bp h.outer hw;have hS:Kept (λj=>j=b) w1 (w1.setCell ⟨b,k,none⟩ u'):=(Kept.refl (λj=>j=b) w1).setCell (p:=⟨b,k,none⟩) (.inl rfl) u';have hset:∀ {base':Nat} {x:Value} {m:List Int},Own w1 base' x m->Own (w1.setCell ⟨b,k,none⟩ u') base' x m:=λ{base' x m} hx=>hS.own hx (λj hj hf=>Ar hx hO1 (by decide) j hj (by rw[show j=b from hf];rfl));refine⟨As hO1 k u',λi x m hi hx hm=> ?_,λi x m hi hx hm=> ?_,λi j x x' k' hij hjk hx hx' hk'=> ?_⟩
 · by_cases hik:i=k
   · subst hik;rw[List.getElem?_set_self hkl]at hx;rw[List.getElem?_eq_getElem hk]at hm;injection hx with hx;injection hm with hm;subst hx hm;exact eW (hset ho) (by omega)
   · rw[List.getElem?_set_ne (Ne.symm hik)]at hx;exact hset (bp (h.rows i x m (by omega) hx hm) hw)
 · rw[List.getElem?_set_ne (by omega)]at hx;refine Row.an (h.olds i x m (by omega) hx hm) (λb' o hb'=> ?_);exact(hS.cell (p:=⟨b',o,none⟩) (by have:=hw.size;show b' < _;omega) (by show ¬b'=b;omega)).trans (hw.cell (p:=⟨b',o,none⟩) (by show b' < _;omega))
 · by_cases hjk':j=k
   · subst hjk';rw[List.getElem?_set_self hkl]at hx';rw[List.getElem?_set_ne (by omega)]at hx;injection hx' with hx';subst hx';intro hk2;have h1:=(World.ownsRow.lt ho k' hk2).1;have hi:i < cs.length:=by omega
     have h2:=(World.ownsRow.lt (h.rows i x _ hij hx (List.getElem?_eq_getElem hi)) k' hk').2;omega
   · rw[List.getElem?_set_ne (by omega)]at hx hx';exact h.apart i j x x' k' hij (by omega) hx hx' hk'
theorem iH.done {k:Nat} (h:iH w base lo v k vs cs) (hk:cs.length<=k):ik w base v vs cs:=by have hl:=lR h.outer;exact⟨h.outer,λi u c hu hc=>h.rows i u c (by have:=(List.getElem?_eq_some_iff.1 hc).1;omega) hu hc,λi j u u' k' hij hu hu' hk'=>h.apart i j u u' k' hij (by have:=(List.getElem?_eq_some_iff.1 hu').1;omega) hu hu' hk'⟩
end
theorem Dh {w:World} {B:Nat} {vs:List Value} {cs:List (List Int)} (hl:vs.length=cs.length) (h:∀ (i:Nat) (u:Value) (c:List Int),vs[i]? =some u->cs[i]? =some c->Row w B u (ay c)):∀u ∈ vs,u.oneCell'=true:=λu hu=>by obtain⟨i,hi,rfl⟩:=List.getElem_of_mem hu;obtain⟨_,A,c,e,_⟩:=h i _ _ (List.getElem?_eq_getElem hi) (List.getElem?_eq_getElem (by omega));rw[e];rfl
end Go.Proofs.YtdilnodbfnlhdaaGreatDoor
namespace Go.Proofs.YtdilnodbfnlhdaaGreatDoor
open Go.RowKit Tide
section
variable {W:World} {base b n c:Nat} {l:List Int}
end
theorem wh (v:Value) (L:List Int) (B:Nat) (w:World) (hp:Row w B v (ay L)) (hB:B<=w.heap.size) (hL:L.length<=1000000):
 Calls Tryz.prog 56 #[v] w λe w'=>∃v',e= .returned v'/\Own w' w.heap.size v' L/\Below w.heap.size w w':=by
 obtain⟨i0,hi,hz0,hz1,hz2⟩:=info_parts jF;have HI:=ab hi;have HP:=ab (hp.more hB);obtain⟨hl,A,c,rfl,hc⟩:=dn hp;clear hi hp hB;rcases A with _|a
 · have hn:L= []:=by
    rcases L with _|⟨x,L⟩
    · rfl
    · obtain⟨_,_,h,_⟩:=hc 0 (by simp);cases h
   subst hn;have hq:=λW:World=>Lib.run_eql_slice_nil (P:=Tryz.prog) W 71 3 none 0 c 0 0 Tryz.underlying71
   go_enter Tryz.func56,Tryz.ntmps56
   go_wp2
   go_ret
   exact⟨_,rfl,⟨by simp[ay],.inl ⟨rfl,rfl⟩⟩,Below.refl _ _⟩
 · clear hc;have hq:=λW:World=>Lib.run_eql_slice_nil (P:=Tryz.prog) W 71 3 (some a) L.length c 0 0 Tryz.underlying71
   go_enter Tryz.func56,Tryz.ntmps56
   go_wp2_with (at_builtin;refine kU _ rfl (.tmp 5) (.tmp 6) _ rfl w.heap.size 3 i0 (.int .i64 0) 8 Tryz.underlying71 HI.out hz0 hz1 hz2 rfl _ 0 [] rfl ?c1 w.heap.size _ (ay L) rfl (Row.an HP.out (ew ((Below.refl _ _).alloc (Nat.le_refl _) _))) (lE _) ?d1 ?d2 ?d3 ?_)
   case c1=>exact kG _ _ _ _ _ _ _ _ rfl (Nat.le_refl _) (by simp) (by simp[maxLen]) rfl (by simp)
   case d1=>rw[dk];unfold maxLen;omega
   case d2=>rw[dk];omega
   case d3=>simp
   intro v4 w4 hown4 hg4 _;have hb5:=((Below.refl w.heap.size w).alloc (Nat.le_refl _) _).grown hg4 (by simp) (λg hg=>by simp[Value.ownBlock]at hg;omega);rw[dk]at hown4
   go_wp2_with fail
   go_ret
   exact⟨_,rfl,hown4,hb5⟩
end Go.Proofs.YtdilnodbfnlhdaaGreatDoor
namespace Go.Proofs.YtdilnodbfnlhdaaGreatDoor
open Go.RowKit Tide
theorem wg (v:Value) (vs:List Value) (B:Nat) (w:World) (hp:Row w B v vs) (h1:∀u ∈ vs,u.oneCell'=true) (hB:B<=w.heap.size) (hL:vs.length<=1000000):
 Calls Tryz.prog 55 #[v] w λe w'=>∃v',e= .returned v'/\w'.ownsRow w.heap.size 71 1 v' vs.length vs/\Below w.heap.size w w':=by
 obtain⟨i0,hi,hz0,hz1,hz2⟩:=info_parts yq;have HI:=ab hi;have H1:=ab h1;have HP:=ab (hp.more hB);obtain⟨hl,A,c,rfl,hc1,hc2,hc⟩:=hp;clear hi hB h1;rcases A with _|a
 · have hn:vs= []:=Classical.byContradiction λhne=>by obtain⟨_,_,h,_⟩:=hc hne;cases h
   subst hn;have hq:=λW:World=>Lib.run_eql_slice_nil (P:=Tryz.prog) W 22 71 none 0 c 0 0 Tryz.underlying22
   go_enter Tryz.func55,Tryz.ntmps55
   go_wp2
   go_ret
   exact⟨_,rfl,⟨rfl,.inl ⟨rfl,rfl⟩⟩,Below.refl _ _⟩
 · clear hc;have hq:=λW:World=>Lib.run_eql_slice_nil (P:=Tryz.prog) W 22 71 (some a) vs.length c 0 0 Tryz.underlying22
   go_enter Tryz.func55,Tryz.ntmps55
   go_wp2_with (at_builtin;refine kU _ rfl (.tmp 5) (.tmp 6) _ rfl w.heap.size 71 i0 (.slice none 0 0) 24 Tryz.underlying22 HI.out hz0 hz1 hz2 rfl _ 0 [] rfl ?c1 w.heap.size _ vs rfl (Row.an HP.out (ew ((Below.refl _ _).alloc (Nat.le_refl _) _))) H1.out ?d1 ?d2 ?d3 ?_)
   case c1=>exact kG _ _ _ _ _ _ _ _ rfl (Nat.le_refl _) (by simp) (by simp[maxLen]) rfl (by simp)
   case d1=>unfold maxLen;omega
   case d2=>omega
   case d3=>simp
   intro v4 w4 hown4 hg4 _;have hb5:=((Below.refl w.heap.size w).alloc (Nat.le_refl _) _).grown hg4 (by simp) (λg hg=>by simp[Value.ownBlock]at hg;omega)
   go_wp2_with fail
   go_ret
   exact⟨_,rfl,hown4,hb5⟩
abbrev oh (W:World) (g:Nat) (p q:Value):World:=(W.setCell ⟨g,0,none⟩ p).setCell ⟨g,1,none⟩ q
theorem Bc {W:World} {g:Nat} {t:TypeId} {x y:Value} (h:aH W g t x y) (p q:Value):aH (oh W g p q) g t p q:=(h.jX p).jY q
theorem Ba {W0 W:World} {B g:Nat} (h:Below B W0 W) (hg:B<=g) (p q:Value):Below B W0 (oh W g p q):=(h.setCell (p:=⟨g,0,none⟩) hg p).setCell (p:=⟨g,1,none⟩) hg q
theorem Bb {W0 W:World} {F:Nat->Prop} {g:Nat} (h:Kept F W0 W) (hg:F g\/W0.heap.size<=g) (p q:Value):Kept F W0 (oh W g p q):=(h.setCell (p:=⟨g,0,none⟩) hg p).setCell (p:=⟨g,1,none⟩) hg q
set_option maxHeartbeats 2000000 in
theorem AJ (ep:Int) (cs:List (List Int)) (v:Value) (B:Nat) (w:World) (hv:cO w B v cs) (hB:B<=w.heap.size) (hn:cs.length<=1000) (hl:∀c ∈ cs,c.length<=1000):
 Calls Tryz.prog 25 #[cL ep v] w λe w'=>∃v' vs,e= .returned (cL ep v')/\ik w' w.heap.size v' vs cs/\Below w.heap.size w w':=by
 obtain⟨us,hrow,hul,hus⟩:=hv;have B0:=ab (((Below.refl w.heap.size w).alloc (Nat.le_refl _) (.cells #[.int .i64 ep,v] 24)).alloc (by simp) (.cells #[.int .i64 0,.slice none 0 0] 24));have P0:=ab ((aH.new w 24 (.int .i64 ep) v).alloc (.cells #[.int .i64 0,.slice none 0 0] 24));have R0:=ab (show aH _ (w.heap.size+1) 24 _ _ from by
  have:=aH.new (w.alloc (.cells #[.int .i64 ep,v] 24)) 24 (.int .i64 0) (.slice none 0 0)
  rwa[World.size_alloc]at this)
 have HU:=ab hus;have HRow:=ab hrow;have HN:=ab hn;have HL:=ab hl;have HBs:=ab hB;have HUl:=ab hul;have CC:=ab (λW (h:Below w.heap.size w W)=>wg v us B W (Row.an hrow (ew (h.mono hB))) (Dh hul hus) (Nat.le_trans hB h.size) (by omega));clear hus hrow hn hl hB hul
 go_enter Tryz.func25,Tryz.ntmps25
 go_wp2_with fail
 refine(CC.out _ B0.out).mono ?_;rintro e w1 ⟨v1,rfl,ho,hb⟩;have B1:=ab (B0.out.trans (hb.mono B0.out.size));have P1:=ab (P0.out.below hb P0.out.lt);have R1:=ab (R0.out.below hb R0.out.lt);rw[HUl.out]at ho;have M1:=ab (show iH w1 (w.heap.size+2) B v1 0 us cs from⟨eW ho (by simp),λi _ _ h=>absurd h (Nat.not_lt_zero _),λi u c _ hu hc=>Row.an (HU.out i u c hu hc) (ew (B1.out.mono HBs.out)),λi j _ _ _ _ h=>absurd h (Nat.not_lt_zero _)⟩);obtain⟨A1,c1,hv1⟩:∃A1 c1,v1= .slice A1 cs.length c1:=by
  rcases ho.2 with⟨h1,h2⟩|⟨g,cap,_,h1,_⟩
  · exact⟨none,0,by rw[h1,h2]⟩
  · exact⟨_,cap,h1⟩
 subst hv1;clear hb ho CC
 go_wp2_with fail
 go_loopw [11] (λi wr=>∃ (k:Nat) (vs:List Value),i= .int .i64 k/\k<=cs.length/\Hid (iH wr (w.heap.size+2) B (.slice A1 cs.length c1) k vs cs)/\Hid (aH wr w.heap.size 24 (.int .i64 ep) v)/\Hid (aH wr (w.heap.size+1) 24 (.int .i64 0) (.slice none 0 0))/\Hid (Below w.heap.size w wr)) (λi _=>cs.length - (intOf i).toNat)
 case atStart=>exact⟨0,us,rfl,Nat.zero_le _,M1,P1,R1,B1⟩
 case round=>
  clear P1 R1 M1 P0 R0;obtain⟨k,vs,rfl,hk,hM,hP,hR,hBr⟩:=hrel;have hn9:=HN.out;by_cases hlt:k < cs.length
  · obtain⟨b,c,hv2,hbb⟩:=An hM.out.outer (by omega);injection hv2 with e1 e2 e3;subst e1 e3;have hkl:k < vs.length:=by rw[lR hM.out.outer];exact hlt
    have hc1:=Am hM.out.outer k _ (List.getElem?_eq_getElem hkl);have hOld:=hM.out.olds k _ _ (Nat.le_refl _) (List.getElem?_eq_getElem hkl) (List.getElem?_eq_getElem hlt);have i1:(k:Int) < (cs.length:Int):=by omega
    have CI:=ab (wh _ _ B wr hOld (Nat.le_trans HBs.out hBr.out.size) (by have:=HL.out _ (List.getElem_mem hlt);omega));have HSt:=ab (λ(w1:World) (u':Value) (hw:Below wr.heap.size wr w1) (ho:Own w1 wr.heap.size u' cs[k])=>hM.out.step hlt (by have:=HBs.out;omega) hw ho);have HMo:=ab (λ(w1:World) (hw:Below wr.heap.size wr w1)=>(show w1.ownsRow (w.heap.size+2) 71 1 (.slice (some ⟨b,0,none⟩) cs.length c1) cs.length vs from bp hM.out.outer hw));clear hOld hM;generalize vs[k]=u at *;generalize cs[k]=cc at *
    go_wp2_with fail
    refine CI.out.mono ?_;rintro e w2 ⟨u',rfl,ho,hb⟩;obtain⟨_,Au,cu,rfl,_⟩:=dn ho.row;have hM2:=HMo.out w2 hb;have hc2:(w2.cell? ⟨b,k,none⟩)=some u:=(hb.cell (p:=⟨b,k,none⟩) (World.block_lt_of_cell? _ _ hc1)).trans hc1;have hf2:=Aq hM2 k;have M2:=ab (HSt.out w2 _ hb ho);have B2:=ab ((hBr.out.trans (hb.mono hBr.out.size)).setCell (p:=⟨b,k,none⟩) (by show _<=b;omega) (.slice Au cc.length cu));have P2:=ab ((hP.out.below hb hP.out.lt).other (g':=b) (by omega) k (.slice Au cc.length cu));have R2:=ab ((hR.out.below hb hR.out.lt).other (g':=b) (by omega) k (.slice Au cc.length cu));clear hM2 ho hb hc1
    go_wp2_with fail
    go_roundw
    case rel=>exact⟨k+1,vs.set k (.slice Au cc.length cu),by go_num,by omega,M2,P2,R2,B2⟩
    case measure=>simp[intOf];omega
  · have HG:=ab (hM.out.done (by omega));obtain⟨_,hc0,hc1,_⟩:=hP.out.facts;obtain⟨_,hd0,hd1,hdf⟩:=hR.out.facts
    go_wp2_with fail
    obtain⟨_,e0,e1,_⟩:=(Bc hR.out (.int .i64 ep) (.slice A1 cs.length c1)).facts;have HG2:=(HG.out.kept (Bb (Kept.refl (λj=>j=w.heap.size+1) wr) (.inl rfl) (.int .i64 ep) (.slice A1 cs.length c1)) (λk hk=>by omega)).later (base':=w.heap.size) (by omega);exact bodyPost_ret (v:=cL ep (.slice A1 cs.length c1)) (by simp[results,Tryz.results25,go_sem,e0,e1]) rfl ⟨_,vs,rfl,HG2,Ba hBr.out (by omega) _ _⟩
end Go.Proofs.YtdilnodbfnlhdaaGreatDoor
