/- Package unit's Has, Tail, Epoch, Trimmed, admit, forget: a unit as it lies in memory. -/
import Derived.Test.YtiafamacjpgjoaaGreatDoorGUiM
import Derived.Test.YtiafamacjpgjoaaGreatDoorGErr
namespace Go.Proofs.YtiafamacjpgjoaaGreatDoor
open Go Go.RowKit Tide

structure UnW (W : World) (g p bm : Nat) (s : StU) : Prop where
  cells : W.heap[g]? = some (.cells #[.pointer (some ⟨p, 0, none⟩), .map (some bm), .int .i64 (s.trimmed : Int), .int .i64 (s.epoch : Int)] 112)
  map : PMap W bm s.pages
structure OkS (s : StU) : Prop where
  trimmed : s.trimmed ≤ 4096
  epoch : s.epoch ≤ 1073741824
  adrs : ∀ q ∈ s.pages, q.adr ≤ 4095
  segs : ∀ q ∈ s.pages, q.seg ≤ 100000
  once : (s.pages.map PageU.adr).Nodup
section
variable {W W' : World} {g p bm : Nat} {s : StU}
theorem UnW.lt (h : UnW W g p bm s) : g < W.heap.size := by
  rcases Nat.lt_or_ge g W.heap.size with hlt | hge
  · exact hlt
  · have := h.cells; rw [Array.getElem?_eq_none hge] at this; cases this
theorem UnW.ne (h : UnW W g p bm s) : g ≠ bm := fun e => by
  obtain ⟨D, ⟨es, clock, h1, _⟩, _⟩ := h.map
  have := h.cells
  rw [e, h1] at this
  cases this
theorem UnW.facts (h : UnW W g p bm s) : g < W.heap.size ∧ W.cell? ⟨g, 0, none⟩ = some (.pointer (some ⟨p, 0, none⟩)) ∧ W.cell? ⟨g, 1, none⟩ = some (.map (some bm)) ∧ W.cell? ⟨g, 2, none⟩ = some (.int .i64 (s.trimmed : Int)) ∧ W.cell? ⟨g, 3, none⟩ = some (.int .i64 (s.epoch : Int)) ∧ ∀ i, W.frozen? ⟨g, i, none⟩ = false := by
  refine ⟨h.lt, by rw [cell_of_row _ _ 0 _ _ _ h.cells]; rfl, by rw [cell_of_row _ _ 1 _ _ _ h.cells]; rfl, by rw [cell_of_row _ _ 2 _ _ _ h.cells]; rfl, by rw [cell_of_row _ _ 3 _ _ _ h.cells]; rfl, fun i => ?_⟩
  unfold World.frozen?
  rw [show W.heap[(⟨g, i, none⟩ : Addr).block]? = _ from h.cells]
  simp
theorem UnW.kept {F : Nat → Prop} (h : UnW W g p bm s) (hk : Kept F W W') (hg : ¬ F g) (hb : ¬ F bm) : UnW W' g p bm s := ⟨hk.heap h.cells hg, h.map.kept hk hb⟩
theorem UnW.below (h : UnW W g p bm s) (hb : Below W.heap.size W W') : UnW W' g p bm s := h.kept (F := fun _ => False) (Kept.of_below hb) (fun h => h) (fun h => h)

theorem uhas_any (h : UnW W g p bm s) (a : Int) (h0 : -9223372036854775808 ≤ a) (h1 : a ≤ 9223372036854775807) :
    Calls Tryz.prog 106 #[.pointer (some ⟨g, 0, none⟩), .int .i64 a] W fun e w' => e = .returned (.bool (s.pages.any fun q => (q.adr : Int) == a)) ∧ Below W.heap.size W w' := by
  obtain ⟨_, c0, c1, c2, c3, _⟩ := h.facts
  have hM := Lib.hid h.map
  obtain ⟨R, hR⟩ : ∃ R, (s.pages.any fun q => (q.adr : Int) == a) = R := ⟨_, rfl⟩
  have HR := Lib.hid hR
  rw [hR]
  clear h hR
  go_enter Tryz.func106, Tryz.ntmps106
  go_wp2_with (at_lookup; refine wpList_page_ok _ hM.out rfl _ _ rfl rfl a rfl h0 h1 ?_; intro s' g' _; rw [HR.out])
  go_ret
  exact ⟨rfl, (Below.refl _ _).alloc (Nat.le_refl _) _⟩

theorem same_key (a b : Int) : (keyI a).sameKey (keyI b) = true ↔ a = b := by
  constructor
  · intro h
    have := WideAt.sameKey_eq h
    injection this
  · intro h; subst h; simp [Lit.sameKey]
theorem left_no {left : Lit → Bool} {a b : Int} : (left (keyI a) && !(keyI a).sameKey (keyI b)) = false ↔ left (keyI a) = false ∨ a = b := by
  cases h : left (keyI a) with
  | false => simp
  | true =>
    rw [Bool.true_and]
    constructor
    · intro h1
      exact .inr ((same_key a b).1 (by simpa using h1))
    · rintro (h1 | h1)
      · cases h1
      · rw [(same_key a b).2 h1]; rfl

set_option maxHeartbeats 1000000 in
theorem forget_any (h : UnW W g p bm s) (hk : OkS s) : Calls Tryz.prog 82 #[.pointer (some ⟨g, 0, none⟩)] W fun e w' => e = .returned (.tuple #[]) ∧ UnW w' g p bm (forgetU s) ∧ Kept (fun k => k = bm) W w' := by
  obtain ⟨hg, c0, c1, c2, c3, _⟩ := h.facts
  have H := Lib.hid h
  have hM := Lib.hid h.map
  have HK := Lib.hid hk
  have hbm := h.map.lt
  have hne := h.ne
  have HTr := hk.trimmed
  clear h hk
  go_enter Tryz.func82, Tryz.ntmps82
  go_wp2_with (at_range; refine wpList_range_pages _ hM.out rfl _ rfl rfl ?_; intro w0 left0 cnt0 hr0 hl0 hb0 hs0)
  go_frame
  have R0 := Lib.hid (show Rng w0 bm W.heap.size (s.pages.filter fun q => decide (s.trimmed ≤ q.adr) || left0 (keyI q.adr)) left0 cnt0 from by
    rw [List.filter_eq_self.2 (fun q hq => by
      rw [hl0, Bool.or_eq_true]
      exact .inr (List.any_eq_true.2 ⟨q, hq, by simp⟩))]
    exact hr0)
  have K0 := Lib.hid (Kept.of_below (F := fun k => k = bm) hb0)
  clear hr0 hb0 hl0 c0 c1 c2 c3
  go_loopw [2] (fun _ wr => ∃ (left : Lit → Bool) (cnt : Nat), Hid (Rng wr bm W.heap.size (s.pages.filter fun q => decide (s.trimmed ≤ q.adr) || left (keyI q.adr)) left cnt) ∧ Hid (Kept (fun k => k = bm) W wr)) (fun _ wr => wr.rangeLeft bm W.heap.size)
  case atStart => exact ⟨left0, cnt0, R0, K0⟩
  case round =>
    clear R0 K0
    obtain ⟨left, cnt, hRg0, hKr⟩ := hrel
    obtain ⟨L, hL⟩ : ∃ L, (s.pages.filter fun q => decide (s.trimmed ≤ q.adr) || left (keyI q.adr)) = L := ⟨_, rfl⟩
    have HL := Lib.hid hL
    have hRg := Lib.hid (show Rng wr bm W.heap.size L left cnt from by rw [← hL]; exact hRg0.out)
    clear hL hRg0
    go_wp2_with (at_next; refine wpList_next_pages _ hRg.out rfl _ rfl rfl ?_ ?_)
    · intro hl
      have HU := Lib.hid (show UnW wr g p bm (forgetU s) from ⟨hKr.out.heap H.out.cells (fun e => hne e), by
        have := hRg.out.map
        rw [← HL.out] at this
        unfold forgetU
        rw [List.filter_congr (fun q _ => by rw [hl, Bool.or_false])] at this
        exact this⟩)
      clear hl
      go_wp2_with fail
      go_end0
      exact ⟨rfl, HU.out, hKr.out⟩
    · intro q w1 cnt1 hq hlq hr1 hlt hk1 hs1 hen
      have hq2 := List.mem_filter.1 (show q ∈ (s.pages.filter fun q => decide (s.trimmed ≤ q.adr) || left (keyI q.adr)) from by rw [HL.out]; exact hq)
      have hqa := HK.out.adrs q hq2.1
      have K1 := Lib.hid (hKr.out.trans hk1 (fun i hi => .inr (by rw [show i = W.heap.size from hi]; exact Nat.le_refl _)))
      obtain ⟨_, d0, d1, d2, d3, _⟩ := (show UnW w1 g p bm ⟨L, s.trimmed, s.epoch⟩ from ⟨K1.out.heap H.out.cells (fun e => hne e), hr1.map⟩).facts
      have R1 := Lib.hid hr1
      have HM := Lib.hid (show wr.rangeLeft bm W.heap.size = cnt from hRg.out.left_eq)
      have HM1 := Lib.hid (show w1.rangeLeft bm W.heap.size = cnt1 from hr1.left_eq)
      have HN := Lib.hid (show (L.map PageU.adr).Nodup from by rw [← HL.out]; exact HK.out.once.sublist (List.Sublist.map _ List.filter_sublist))
      have HQ := Lib.hid hq2.1
      clear hr1 hk1 hq hq2
      by_cases hm : (q.adr : Int) < (s.trimmed : Int)
      · have HF := Lib.hid (show L.filter (fun x => !((x.adr : Int) == (q.adr : Int))) = s.pages.filter fun x => decide (s.trimmed ≤ x.adr) || (left (keyI x.adr) && !(keyI x.adr).sameKey (keyI q.adr)) from by
          rw [← HL.out, List.filter_filter]
          refine List.filter_congr (fun x _ => ?_)
          by_cases e : (x.adr : Int) = (q.adr : Int)
          · have h1 : ¬ s.trimmed ≤ x.adr := by omega
            have h2 := (same_key (x.adr : Int) (q.adr : Int)).2 e
            simp [h1, e]
            rw [e] at h2
            intro _
            simpa using h2
          · have h2 : (keyI (x.adr : Int)).sameKey (keyI (q.adr : Int)) = false := by
              rw [Bool.eq_false_iff]; intro h; exact e ((same_key _ _).1 h)
            simp [e, h2])
        go_wp2_with (at_delete; refine wpList_delete_pages _ R1.out HN.out rfl _ _ rfl rfl (q.adr : Int) rfl (by omega) (by omega) ?_; intro w2 cnt2 hr2 hle hk2; go_frame)
        have R2 := Lib.hid (show Rng w2 bm W.heap.size (s.pages.filter fun x => decide (s.trimmed ≤ x.adr) || (left (keyI x.adr) && !(keyI x.adr).sameKey (keyI q.adr))) (fun z => left z && !z.sameKey (keyI q.adr)) cnt2 from by
          rw [← HF.out]
          have : (fun z : Lit => (left z && !z.sameKey (keyI q.adr)) && !z.sameKey (keyI q.adr)) = fun z => left z && !z.sameKey (keyI q.adr) := Maps.strike_twice _ _
          rw [this] at hr2
          exact hr2)
        have K2 := Lib.hid (K1.out.trans hk2 (fun i hi => .inl hi))
        have HM2 := Lib.hid (show w2.rangeLeft bm W.heap.size = cnt2 from hr2.left_eq)
        clear hr2 hk2
        go_roundw
        case rel => exact ⟨_, cnt2, R2, K2⟩
        case measure => rw [HM.out, HM2.out]; omega
      · have HF := Lib.hid (show L = s.pages.filter fun x => decide (s.trimmed ≤ x.adr) || (left (keyI x.adr) && !(keyI x.adr).sameKey (keyI q.adr)) from by
          rw [← HL.out]
          refine List.filter_congr (fun x _ => ?_)
          by_cases e : (x.adr : Int) = (q.adr : Int)
          · have h1 : s.trimmed ≤ x.adr := by omega
            simp [h1]
          · have h2 : (keyI (x.adr : Int)).sameKey (keyI (q.adr : Int)) = false := by
              rw [Bool.eq_false_iff]; intro h; exact e ((same_key _ _).1 h)
            simp [h2])
        rw [HF.out] at R1
        go_wp2_with fail
        go_roundw
        case rel => exact ⟨_, cnt1, R1, K1⟩
        case measure => rw [HM.out, HM1.out]; exact hlt
end
end Go.Proofs.YtiafamacjpgjoaaGreatDoor
