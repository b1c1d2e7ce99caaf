/- The token laws' long: is there more than is asked. Not tied to package token's code. -/
import Derived.Test.YtfgpjelnijeoaaaDoorTkB
namespace Go.Proofs.YtfgpjelnijeoaaaDoor
open Go Go.RowKit Tide

/-- With what a sequencer begins, as a value. -/
def startV (ep nx : Int) (u : Value) : Value := .agg #[.int .i64 ep, .int .i64 nx, u]
def longB (bs aks : List (Int × List Int)) : Bool := decide (20 < bs.length ∨ 60 < aks.length ∨ (∃ b ∈ bs, 20 < b.2.length) ∨ ∃ a ∈ aks, 10 < a.2.length)
theorem longB_no {bs aks : List (Int × List Int)} (h : longB bs aks = false) : bs.length ≤ 20 ∧ aks.length ≤ 60 ∧ (∀ b ∈ bs, b.2.length ≤ 20) ∧ ∀ a ∈ aks, a.2.length ≤ 10 := by
  have h := of_decide_eq_false h
  refine ⟨by omega, by omega, fun b hb => Nat.le_of_not_lt fun e => h (.inr (.inr (.inl ⟨b, hb, e⟩))), fun b hb => Nat.le_of_not_lt fun e => h (.inr (.inr (.inr ⟨b, hb, e⟩)))⟩

set_option maxRecDepth 100000 in
set_option maxHeartbeats 2000000 in
theorem long13_any (ep nx : Int) (bs aks : List (Int × List Int)) (u v : Value) (B B' : Nat) (w : World) (hx : Backs w B u bs) (hy : Backs w B' v aks) (hB : B ≤ w.heap.size) (hB' : B' ≤ w.heap.size) :
    Calls Tryd.prog 7 #[startV ep nx u, v] w fun e w' => e = .returned (.bool (longB bs aks)) ∧ Below w.heap.size w w' := by
  have HX := Lib.hid (fun W (h : Below w.heap.size w W) => (hx.below (h.mono hB)))
  have HY := Lib.hid (fun W (h : Below w.heap.size w W) => (hy.below (h.mono hB')))
  obtain ⟨hl, A, c, rfl, _⟩ := hx.form
  obtain ⟨hl', A', c', rfl, _⟩ := hy.form
  have B0 := Lib.hid ((Below.refl w.heap.size w).alloc (Nat.le_refl _) (.cells #[.int .i64 ep, .int .i64 nx, .slice A bs.length c] 24))
  clear hx hy hB hB'
  unfold startV
  by_cases h1 : 20 < bs.length
  · have HR := Lib.hid (show longB bs aks = true from decide_eq_true (.inl h1))
    have i1 : (20 : Int) < (bs.length : Int) := by omega
    clear HX HY
    go_enter Tryd.func7, Tryd.ntmps7
    go_wp2_with fail
    go_ret
    exact ⟨by rw [HR.out] <;> rfl, B0.out⟩
  · have i1 : ¬ (20 : Int) < (bs.length : Int) := by omega
    by_cases h2 : 60 < aks.length
    · have HR := Lib.hid (show longB bs aks = true from decide_eq_true (.inr (.inl h2)))
      have i2 : (60 : Int) < (aks.length : Int) := by omega
      clear HX HY
      go_enter Tryd.func7, Tryd.ntmps7
      go_wp2_with fail
      go_ret
      exact ⟨by rw [HR.out] <;> rfl, B0.out⟩
    · have i2 : ¬ (60 : Int) < (aks.length : Int) := by omega
      have H1 := Lib.hid h1
      have H2 := Lib.hid h2
      clear h1 h2
      go_enter Tryd.func7, Tryd.ntmps7
      go_wp2_with fail
      go_loopw [21] (fun z wr => ∃ i : Nat, z = .int .i64 i ∧ i ≤ bs.length ∧ Hid (∀ b ∈ bs.take i, ¬ 20 < b.2.length) ∧ Hid (Below w.heap.size w wr)) (fun z _ => bs.length - (intOf z).toNat)
      case atStart => exact ⟨0, rfl, Nat.zero_le _, Lib.hid (by simp), B0⟩
      case round =>
        clear B0
        obtain ⟨i, rfl, hi, hS, hBr⟩ := hrel
        by_cases hlt : i < bs.length
        · obtain ⟨_, A1, c1, e1, hcA⟩ := (HX.out wr hBr.out).form
          injection e1 with e1 _ e1c
          subst e1 e1c
          obtain ⟨b, o, ux, rfl, _, hx0, hx1, hr1⟩ := hcA i hlt
          obtain ⟨_, Au, cu, rfl, _⟩ := row_ints hr1
          have i3 : (i : Int) < (bs.length : Int) := by omega
          have HM := Lib.hid (List.getElem_mem hlt)
          have HT := Lib.hid (List.take_succ_eq_append_getElem hlt)
          have BA := Lib.hid (hBr.out.alloc hBr.out.size (.cells #[.int .i64 bs[i].1, .slice Au bs[i].2.length cu] 51))
          clear hr1 hcA
          generalize bs[i] = x at *
          by_cases hx : 20 < x.2.length
          · have HR := Lib.hid (show longB bs aks = true from decide_eq_true (.inr (.inr (.inl ⟨x, HM.out, hx⟩))))
            have i4 : (20 : Int) < (x.2.length : Int) := by omega
            go_wp2_with fail
            go_ret
            exact ⟨by rw [HR.out] <;> rfl, BA.out⟩
          · have i4 : ¬ (20 : Int) < (x.2.length : Int) := by omega
            have HN := Lib.hid (show ∀ b ∈ bs.take (i + 1), ¬ 20 < b.2.length from fun b hb => by
              rw [HT.out] at hb
              rcases List.mem_append.1 hb with hb | hb
              · exact hS.out b hb
              · simp at hb; rw [hb]; exact hx)
            go_wp2_with fail
            go_roundw
            case rel => exact ⟨i + 1, by go_num, by omega, HN, BA⟩
            case measure => simp [intOf]; omega
        · have HS1 := Lib.hid (show ∀ b ∈ bs, ¬ 20 < b.2.length from by have := hS.out; rwa [List.take_of_length_le (by omega)] at this)
          clear HX
          go_wp2_with fail
          go_loopw [32] (fun z wr => ∃ i : Nat, z = .int .i64 i ∧ i ≤ aks.length ∧ Hid (∀ b ∈ aks.take i, ¬ 10 < b.2.length) ∧ Hid (Below w.heap.size w wr)) (fun z _ => aks.length - (intOf z).toNat)
          case atStart => exact ⟨0, rfl, Nat.zero_le _, Lib.hid (by simp), hBr⟩
          case round =>
            obtain ⟨i, rfl, hi, hS, hBr⟩ := hrel
            by_cases hlt : i < aks.length
            · obtain ⟨_, A1, c1, e1, hcA⟩ := (HY.out _ hBr.out).form
              injection e1 with e1 _ e1c
              subst e1 e1c
              obtain ⟨b, o, ux, rfl, _, hx0, hx1, hr1⟩ := hcA i hlt
              obtain ⟨_, Au, cu, rfl, _⟩ := row_ints hr1
              have i3 : (i : Int) < (aks.length : Int) := by omega
              have HM := Lib.hid (List.getElem_mem hlt)
              have HT := Lib.hid (List.take_succ_eq_append_getElem hlt)
              have BA := Lib.hid (hBr.out.alloc hBr.out.size (.cells #[.int .i64 aks[i].1, .slice Au aks[i].2.length cu] 39))
              clear hr1 hcA
              generalize aks[i] = x at *
              by_cases hx : 10 < x.2.length
              · have HR := Lib.hid (show longB bs aks = true from decide_eq_true (.inr (.inr (.inr ⟨x, HM.out, hx⟩))))
                have i4 : (10 : Int) < (x.2.length : Int) := by omega
                go_wp2_with fail
                go_ret
                exact ⟨by rw [HR.out] <;> rfl, BA.out⟩
              · have i4 : ¬ (10 : Int) < (x.2.length : Int) := by omega
                have HN := Lib.hid (show ∀ b ∈ aks.take (i + 1), ¬ 10 < b.2.length from fun b hb => by
                  rw [HT.out] at hb
                  rcases List.mem_append.1 hb with hb | hb
                  · exact hS.out b hb
                  · simp at hb; rw [hb]; exact hx)
                go_wp2_with fail
                go_roundw
                case rel => exact ⟨i + 1, by go_num, by omega, HN, BA⟩
                case measure => simp [intOf]; omega
            · have HR := Lib.hid (show longB bs aks = false from decide_eq_false (fun h => by
                have hS' := hS.out
                rw [List.take_of_length_le (by omega)] at hS'
                rcases h with h | h | ⟨b, hb, h⟩ | ⟨b, hb, h⟩
                · exact H1.out h
                · exact H2.out h
                · exact HS1.out b hb h
                · exact hS' b hb h))
              go_wp2_with fail
              go_ret
              exact ⟨by rw [HR.out] <;> rfl, hBr.out⟩
end Go.Proofs.YtfgpjelnijeoaaaDoor
