/- The document's own sequencer: Backs. Not tied to package token's code. -/
import Derived.Test.YtfgpjelnijeoaaaDoorTkE
namespace Go.Proofs.YtfgpjelnijeoaaaDoor
open Go Go.RowKit Tide

/-- What is told of stream x, if anything. -/
def backD (all : List (List Int)) (x : Nat) : Option (Int × List Int) := if all.getD x [] = [] then none else some ((x : Int), (all.getD x []).take 4)
def backsD (all : List (List Int)) : List (Int × List Int) := (List.range 13).filterMap (backD all)
theorem backs_snoc (all : List (List Int)) (k : Nat) : (List.range (k + 1)).filterMap (backD all) = (List.range k).filterMap (backD all) ++ (backD all k).toList := by
  rw [List.range_succ, List.filterMap_append]
  congr 1

theorem index13 (vs : List Value) (hn : vs.length = 13) (k : Nat) (v : Value) (hv : vs[k]? = some v) (W : World) : (Instr.index 68 (.agg vs.toArray) (.int .i64 (k : Int))).run Tryd.prog W = .ok v W := by
  obtain ⟨hk, rfl⟩ := List.getElem?_eq_some_iff.1 hv
  have ht : Tryd.prog.underlying 68 = some (.array 13 37) := by kernel_rfl
  have hs : ∀ W : World, (Go.sizeOf 37).run Tryd.prog W = .ok 1 W := fun W => by kernel_rfl
  have h13 : k < 13 := by omega
  simp [Instr.index, run_underlying ht, asIntOf, part, hs]
  rw [if_pos h13, hv]
  rfl

theorem len13 (vs : List Value) (h : vs.length = 13) : ∃ v0 v1 v2 v3 v4 v5 v6 v7 v8 v9 v10 v11 v12, vs = [v0, v1, v2, v3, v4, v5, v6, v7, v8, v9, v10, v11, v12] :=
  match vs, h with
  | [v0, v1, v2, v3, v4, v5, v6, v7, v8, v9, v10, v11, v12], _ => ⟨v0, v1, v2, v3, v4, v5, v6, v7, v8, v9, v10, v11, v12, rfl⟩

set_option maxRecDepth 100000 in
set_option maxHeartbeats 2000000 in
theorem backs13_any (s : SeqD) (R : Nat → Prop) (g : Nat) (w : World) (h : SeqIs w R g s) :
    Calls Tryd.prog 30 #[.pointer (some ⟨g, 0, none⟩)] w fun e w' => ∃ v, e = .returned v ∧ OwnB w' w.heap.size v (backsD s.all) ∧ Below w.heap.size w w' := by
  obtain ⟨vs, hs⟩ := h
  have hg := hs.low g hs.inR
  obtain ⟨ep, nx, all⟩ := s
  obtain ⟨v0, v1, v2, v3, v4, v5, v6, v7, v8, v9, v10, v11, v12, rfl⟩ := len13 vs hs.nv
  have c0 : w.cell? ⟨g, 2, none⟩ = some v0 := hs.cell (i := 2) rfl
  have c1 : w.cell? ⟨g, 3, none⟩ = some v1 := hs.cell (i := 3) rfl
  have c2 : w.cell? ⟨g, 4, none⟩ = some v2 := hs.cell (i := 4) rfl
  have c3 : w.cell? ⟨g, 5, none⟩ = some v3 := hs.cell (i := 5) rfl
  have c4 : w.cell? ⟨g, 6, none⟩ = some v4 := hs.cell (i := 6) rfl
  have c5 : w.cell? ⟨g, 7, none⟩ = some v5 := hs.cell (i := 7) rfl
  have c6 : w.cell? ⟨g, 8, none⟩ = some v6 := hs.cell (i := 8) rfl
  have c7 : w.cell? ⟨g, 9, none⟩ = some v7 := hs.cell (i := 9) rfl
  have c8 : w.cell? ⟨g, 10, none⟩ = some v8 := hs.cell (i := 10) rfl
  have c9 : w.cell? ⟨g, 11, none⟩ = some v9 := hs.cell (i := 11) rfl
  have c10 : w.cell? ⟨g, 12, none⟩ = some v10 := hs.cell (i := 12) rfl
  have c11 : w.cell? ⟨g, 13, none⟩ = some v11 := hs.cell (i := 13) rfl
  have c12 : w.cell? ⟨g, 14, none⟩ = some v12 := hs.cell (i := 14) rfl
  have HS := Lib.hid hs
  have O0 := Lib.hid (OwnB.new w w.heap.size (Nat.le_refl _) _ rfl)
  have B0 := Lib.hid ((Below.refl w.heap.size w).alloc (Nat.le_refl _) (.cells #[] 51))
  clear hs
  go_enter Tryd.func30, Tryd.ntmps30
  go_wp2_with fail
  clear c0 c1 c2 c3 c4 c5 c6 c7 c8 c9 c10 c11 c12
  go_loopw [3, 11] (fun u z wr => ∃ k : Nat, z = .int .i64 k ∧ k ≤ 13 ∧ Hid (OwnB wr w.heap.size u ((List.range k).filterMap (backD all))) ∧ Hid (Below w.heap.size w wr)) (fun _ z _ => 13 - (intOf z).toNat)
  case atStart => exact ⟨0, rfl, Nat.zero_le _, O0, B0⟩
  case round =>
    clear O0 B0
    obtain ⟨k, rfl, hk, hO, hBr⟩ := hrel
    by_cases hlt : k < 13
    · obtain ⟨v, hv, _, hown⟩ := (HS.out.below hBr.out).stream hlt
      have i1 : (k : Int) < 13 := by omega
      have hna : all.length = 13 := HS.out.na
      have hgd : all.getD k [] = all[k]'(by omega) := by rw [List.getD_eq_getElem?_getD, List.getElem?_eq_getElem (by omega)]; rfl
      have HBD := Lib.hid (backs_snoc all k)
      have HB1 := Lib.hid (show backD all k = if all.getD k [] = [] then none else some ((k : Int), (all.getD k []).take 4) from rfl)
      simp only [] at hown
      rw [← hgd] at hown
      clear hgd
      generalize all.getD k [] = l at *
      have CN := Lib.hid (newest_any l v wr.heap.size wr hown.row (Nat.le_refl _))
      have hl13 : ((List.range k).filterMap (backD all)).length ≤ 13 := by
        have := List.length_filterMap_le (backD all) (List.range k)
        rw [List.length_range] at this
        omega
      obtain ⟨_, A, c, rfl, _⟩ := row_ints hown.row
      have i9 : ∀ W : World, (Instr.index 68 (.agg #[v0, v1, v2, v3, v4, v5, v6, v7, v8, v9, v10, v11, v12]) (.int .i64 (k : Int))).run Tryd.prog W = .ok (.slice A l.length c) W := fun W => index13 _ rfl k _ hv W
      clear hv hown
      by_cases hz : l = []
      · have H9 := Lib.hid (show (List.range (k + 1)).filterMap (backD all) = (List.range k).filterMap (backD all) from by rw [HBD.out, HB1.out, if_pos hz]; simp)
        have i2 : ¬ (0 : Int) < (l.length : Int) := by rw [hz]; simp
        have O2 := Lib.hid (show OwnB wr w.heap.size u3 ((List.range (k + 1)).filterMap (backD all)) from by rw [H9.out]; exact hO.out)
        go_wp2_with fail
        go_roundw
        case rel => exact ⟨k + 1, by go_num, by omega, O2, hBr⟩
        case measure => simp [intOf]; omega
      · have H9 := Lib.hid (show (List.range (k + 1)).filterMap (backD all) = (List.range k).filterMap (backD all) ++ [((k : Int), l.take 4)] from by rw [HBD.out, HB1.out, if_neg hz]; rfl)
        have i2 : (0 : Int) < (l.length : Int) := by have := List.length_pos_iff.2 hz; omega
        go_wp2_with fail
        refine CN.out.mono ?_
        rintro en w2 ⟨u', rfl, ho, hb⟩
        obtain ⟨Au, nu, cu, rfl⟩ := ho.form
        have B2 := Lib.hid (hBr.out.trans (hb.mono hBr.out.size))
        have O2 := Lib.hid (hO.out.below hb)
        have U2 := Lib.hid ho
        have HAP := Lib.hid (show ∀ k, u3.ownBlock = some k → (Value.slice Au nu cu).ownBlock ≠ some k from fun k h1 h2 => by
          have := (hO.out.lt k h1).2
          have := (ho.lt k h2).1
          omega)
        clear ho hb CN
        go_wp2_with (at_builtin; refine wpList_pushB rfl (.tmp 18) (.tmp 23) rfl (k : Int) (.slice Au nu cu) _ rfl rfl O2.out (own_later U2.out hBr.out.size) HAP.out U2.out.one (by omega) B2.out.size ?_; intro vo w3 h1 h2 h3; have O3 := Lib.hid (show OwnB w3 w.heap.size vo ((List.range (k + 1)).filterMap (backD all)) from by rw [H9.out]; exact h1); have B3 := Lib.hid (Tide.Below.kept B2.out h2 B2.out.size (fun j hj => (O2.out.lt j hj).1)); clear h1 h2 h3)
        go_roundw
        case rel => exact ⟨k + 1, by go_num, by omega, O3, B3⟩
        case measure => simp [intOf]; omega
    · have e : k = 13 := by omega
      subst e
      go_wp2_with fail
      go_ret
      exact ⟨_, rfl, hO.out, hBr.out⟩
end Go.Proofs.YtfgpjelnijeoaaaDoor
