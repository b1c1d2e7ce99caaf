/- A device's Write: a write more is pending, and what is read has it; or there is no such sector. -/
import Derived.Test.YtcjneloelbgboaaDoorDkU
import Derived.Deep.AppendLies
import Derived.Deep.RegionLaw
namespace Go.Proofs.YtcjneloelbgboaaDoor
open Go.RowKit Tide

theorem infoW : (Tryd.prog.info? 56).map (fun i => (i.zero, i.size, i.bytes)) = some (some (.agg #[.int .i64 0, .slice none 0 0]), 2, 32) := by kernel_rfl
theorem sizeB1 : (Tryd.prog.info? 5).map (·.size) = some 1 := by kernel_rfl

theorem news_at {w : World} {n : Nat} {t : TypeId} {cs : List Value} (hn : n = w.heap.size) : ∀ j u, cs[j]? = some u → (w.alloc (.cells cs.toArray t)).cell? ((⟨n, 0, none⟩ : Addr).add j) = some u := by
  subst hn
  intro j u hu
  exact World.news_of_block (heap_alloc_new w _) j u (by simpa using hu)
/-- Bytes as the source of a copy. -/
theorem row_src {W : World} {B n c vb vo : Nat} {l : List UInt8} (h : Bytes W B (.slice (some ⟨vb, vo, none⟩) n c) l) (hn : l.length = n) : ∃ ad, some (⟨vb, vo, none⟩ : Addr) = some ad ∧ ∀ j v, (u8s l)[j]? = some v → W.cell? (ad.add j) = some v := by
  subst hn
  obtain ⟨A, c', e, _, _, hc⟩ := h.form
  injection e with e _ _
  subst e
  refine ⟨_, rfl, fun j v hv => ?_⟩
  have hj : j < l.length := by
    have := (List.getElem?_eq_some_iff.1 hv).1
    rwa [u8s_length] at this
  obtain ⟨b, o, e, _, hcell⟩ := hc j hj
  injection e with e
  injection e with e1 e2
  subst e1 e2
  rw [u8s_get l j hj] at hv
  rw [add_none, hcell j hj, hv]
theorem DevB.grown {W W9 : World} {F : Nat → Prop} {p : Nat} {img now : List UInt8} {ts : List Wr} {bd cd bn cn : Nat} {vp : Value} (h : DevB W F p img now ts bd cd bn cn vp) (hg : W.grownBy W9 vp.ownBlock) :
    W9.cell? ⟨p, 2, none⟩ = some vp ∧ W9.frozen? ⟨p, 2, none⟩ = false ∧ p < W9.heap.size := by
  have hK : Kept (fun k => vp.ownBlock = some k) W W9 := (Kept.refl _ _).grown hg (fun k e => .inl e)
  have hb := hK.heap h.block (fun e => (h.nep p e).1 rfl)
  refine ⟨by rw [cell_of_row _ _ 2 _ _ _ hb]; rfl, ?_, Nat.lt_of_lt_of_le h.plt hK.size⟩
  unfold World.frozen?
  rw [show W9.heap[(⟨p, 2, none⟩ : Addr).block]? = _ from hb]
  simp
set_option maxRecDepth 100000 in
set_option maxHeartbeats 2000000 in
theorem write_any {W : World} {F : Nat → Prop} {p : Nat} {img now : List UInt8} {ts : List Wr} {bd cd bn cn : Nat} {vp : Value} (h : DevB W F p img now ts bd cd bn cn vp) (hL : img.length ≤ 3000) (hn : ts.length ≤ 100) (i : Nat) (hi : i < img.length / 64)
    {v : Value} {B : Nat} {b : List UInt8} (hv : Bytes W B v b) (hB : B ≤ W.heap.size) (hap : ∀ k, v.ownBlock = some k → ¬ F k) (hb : b.length = 64) :
    Calls Tryd.prog 15 #[.pointer (some ⟨p, 0, none⟩), .int .i64 (i : Nat), v] W fun e w' => e = .returned .nilIface ∧ ∃ F' ts' vp', DevB w' F' p img (putS now (i, b)) ts' bd cd bn cn vp' ∧ ts'.map Wr.pair = ts.map Wr.pair ++ [(i, b)] ∧ (∀ k, F' k → F k ∨ W.heap.size ≤ k) ∧ Kept F W w' := by
  obtain ⟨i0, hinf, hz0, hz1, hz2⟩ := info_parts infoW
  have HIn := Lib.hid hinf
  obtain ⟨A, c, rfl, _, _, hcell⟩ := hv.form
  obtain ⟨vb, vo, rfl, _, _⟩ := hcell 0 (by omega)
  rw [hb] at hv hap ⊢
  have CH := has_any h hL i
  rw [decide_eq_true (show (0 : Int) ≤ (i : Int) by omega), decide_eq_true (show (i : Int) < ((img.length / 64 : Nat) : Int) by omega)] at CH
  have CP := Lib.hid (power_any h)
  have HD := Lib.hid (h.below (Below.refl W.heap.size W).drew)
  have CC := clone_any (.slice (some ⟨vb, vo, none⟩) 64 c) b B W.drew hv hB (by omega)
  rw [hb] at CC
  have HC := Lib.hid CC
  obtain ⟨A2, c2, rfl, _, _⟩ := vp_form h
  obtain ⟨_, c1, c2', _, _, hfr⟩ := h.facts
  have HV := Lib.hid hv
  have HB64 := Lib.hid hb
  clear hinf hv hb hcell CC
  go_enter Tryd.func15, Tryd.ntmps15
  go_wp2_with fail
  refine CH.mono ?_
  rintro en w1 ⟨rfl, rfl⟩
  go_wp2_with fail
  refine CP.out.mono ?_
  rintro en w1 ⟨rfl, rfl⟩
  go_wp2_with fail
  go_region_law (first
    | (go_simp; (with_reducible refine (HC.out).mono ?_); rintro en w1 ⟨v1, rfl, ho, hb1⟩; obtain ⟨g1, cap1, rfl, _, _⟩ := ho.form (by omega); have HO1 := Lib.hid ho; have HB1 := Lib.hid hb1; have D1 := Lib.hid (HD.out.below hb1); have hp1 := D1.out.plt; obtain ⟨_, _, d2, _, _, _⟩ := D1.out.facts; clear ho hb1)
    | (refine step_append_lies _ rfl (.tmp 26) (.tmp 31) _ rfl 0 56 i0 _ 2 32 Tryd.underlying50 HIn.out hz0 hz1 hz2 rfl (by omega) _ ts.length (ts.flatMap Wr.cells) rfl (own_below D1.out.pend ((Below.refl _ _).alloc (Nat.le_refl _) _)) _ 1 _ [.int .i64 (i : Int), sl g1 64 cap1] rfl rfl ?_ ?_ (by omega) ?_ ?_ ?_ _ rfl ?_; (exact news_at rfl); (intro u hu; simp only [List.mem_cons, List.not_mem_nil, or_false] at hu; rcases hu with rfl | rfl <;> rfl); (unfold maxLen; omega); omega; (exact Nat.zero_le _); intro g cap w9 h1 h2 h3 h4; have hba := (Below.refl w1.heap.size w1).alloc (Nat.le_refl _) (.cells #[.int .i64 (i : Int), sl g1 64 cap1] 56); obtain ⟨e1, e2, e3⟩ := (D1.out.below hba).grown h2; have H9 := Lib.hid (HD.out.snoc (HB1.out.trans (hba.mono HB1.out.size)) (own_below HO1.out hba) h2 h1 h3); clear h1 h2 h3 h4 hba))
  all_goals
    generalize hW2 : World.setCell w9 ⟨p, 2, none⟩ (sl g (ts.length + 1) cap) = W2 at *
    obtain ⟨D2', K2'⟩ := H9.out
    have K2 := Lib.hid ((Kept.refl F W).drew.trans K2' (fun k hk => .inl hk))
    have D2 := Lib.hid D2'
    obtain ⟨_, n1, _, _, _, _⟩ := D2'.facts
    have HV2 := Lib.hid (bytes_off HV.out hB K2.out hap)
    have CS := Lib.hid (sector_any bn img.length cn i (by omega) hL (caps D2').2 W2)
    clear D2' K2' hW2 e1 e2 e3 H9 HO1 HB1 D1 HD HC c1 c2' d2 hp1
    go_wp2_with fail
    refine CS.out.mono ?_
    rintro en w3 ⟨rfl, rfl⟩
    go_wp2_with (refine wpList_copy_onto rfl (.tmp 40) (.tmp 41) _ _ rfl 5 Tryd.underlying22 sizeB1 bn (64 * i) 64 _ rfl (some ⟨vb, vo, none⟩) 64 c rfl 0 img.length cn 5 (u8s now) D2.out.now (u8s b) ?d1 ?d2 (u8s_one b) ?d3 ?_)
    case d1 => rw [u8s_length, HB64.out]; rfl
    case d2 => rw [u8s_length, HB64.out]; omega
    case d3 => exact fun _ => row_src HV2.out (by rw [HB64.out])
    intro w4 o4 g4 z4
    have h4 := o4.out
    rw [splice_put _ _ _ HB64.out] at h4
    obtain ⟨D4', K4'⟩ := D2.out.renow h4 g4.out
    have D4 := Lib.hid D4'
    have K4 := Lib.hid (K2.out.trans K4' (fun k hk => hk.elim .inl (fun e => .inr e.1)))
    clear o4 g4 z4 h4 D4' K4'
    go_wp2_with fail
    go_ret
    exact ⟨rfl, _, _, _, D4.out, by rw [List.map_append]; rfl, fun k hk => hk.elim .inl (fun e => .inr e.1), K4.out⟩

/-- No such sector: nothing is done. -/
theorem write_wrong {x : Nat → Addr} {W : World} {F : Nat → Prop} {p : Nat} {img now : List UInt8} {ts : List Wr} {bd cd bn cn : Nat} {vp : Value} (hE : E3 x W) (h : DevB W F p img now ts bd cd bn cn vp) (hL : img.length ≤ 3000) (i : Int) (hi : i < 0 ∨ ((img.length / 64 : Nat) : Int) ≤ i) (v : Value) :
    Calls Tryd.prog 15 #[.pointer (some ⟨p, 0, none⟩), .int .i64 i, v] W fun e w' => e = .returned (errAt (x 0)) ∧ W = w' := by
  have ce := hE.range
  have CH := has_any h hL i
  have hf : (decide (0 ≤ i) && decide (i < ((img.length / 64 : Nat) : Int))) = false := by
    rw [Bool.and_eq_false_iff, decide_eq_false_iff_not, decide_eq_false_iff_not]
    omega
  rw [hf] at CH
  clear hE h hi hf hL
  go_enter Tryd.func15, Tryd.ntmps15
  go_wp2_with fail
  refine CH.mono ?_
  rintro en w1 ⟨rfl, rfl⟩
  go_wp2_with fail
  go_ret
  exact ⟨rfl, rfl⟩
end Go.Proofs.YtcjneloelbgboaaDoor
