/- An act of the laws on stores, and its record. -/
import Derived.Test.YtidbmagpnaingaaDoorGStO
import Derived.Test.YtidbmagpnaingaaDoorGSpL
namespace Go.Proofs.YtidbmagpnaingaaDoor
open Go.RowKit Go.Shelf Tide

/-- An act. -/
structure ActS where
  len : Int
  n : Int
  byte : UInt8
  drops : Bool
  opens : Bool
abbrev ActS.cells (a : ActS) : Array Value := #[.int .i64 a.len, .int .i64 a.n, .int .u8 (a.byte.toNat : Int), .bool a.drops, .bool a.opens]
/-- How many bytes its record has. -/
def ActS.size (a : ActS) : Nat := if a.len < 0 ∨ 3970 < a.len then 3970 else a.len.toNat
def ActS.bs (a : ActS) : List UInt8 := List.replicate a.size a.byte
theorem ActS.size_le (a : ActS) : a.size ≤ 3970 := by unfold ActS.size; split <;> omega
theorem ActS.bs_len (a : ActS) : a.bs.length = a.size := by simp [ActS.bs]
/-- A record as it is filled. -/
def fillR (b : UInt8) (n k : Nat) : List UInt8 := List.replicate k b ++ noughts (n - k)
theorem fillR_len (b : UInt8) (n k : Nat) (h : k ≤ n) : (fillR b n k).length = n := by simp [fillR, noughts_len]; omega
theorem fillR_step (b : UInt8) (n k : Nat) (h : k < n) : (fillR b n k).set k b = fillR b n (k + 1) := by
  unfold fillR noughts
  rw [show n - k = (n - (k + 1)) + 1 by omega, List.replicate_succ, List.set_append_right _ _ (by simp)]
  simp [List.replicate_succ', List.append_assoc]
set_option maxHeartbeats 1000000 in
theorem record_any (a : ActS) (w : World) : Calls Tryd.prog 22 #[.agg a.cells] w fun e w' => ∃ v, e = .returned v ∧ w'.ownsRow w.heap.size 5 1 v a.size (u8s a.bs) ∧ Below w.heap.size w w' := by
  obtain ⟨len, n, byte, drops, opens⟩ := a
  obtain ⟨z, hz⟩ : ∃ z, ActS.size ⟨len, n, byte, drops, opens⟩ = z := ⟨_, rfl⟩
  have hzl := ActS.size_le ⟨len, n, byte, drops, opens⟩
  rw [hz] at hzl
  have hrec : ActS.bs ⟨len, n, byte, drops, opens⟩ = fillR byte z z := by unfold ActS.bs fillR; rw [hz]; simp [noughts]
  rw [hz, hrec]
  have mk := make_bytes z (by omega)
  have HZl := Lib.hid hzl
  have hcase : (decide (len < 0) = true ∧ z = 3970) ∨ (decide (len < 0) = false ∧ decide (3970 < len) = true ∧ z = 3970) ∨ (decide (len < 0) = false ∧ decide (3970 < len) = false ∧ len = (z : Int)) := by
    unfold ActS.size at hz
    simp only at hz
    split at hz
    · rename_i h
      by_cases h1 : len < 0
      · exact .inl ⟨decide_eq_true h1, hz.symm⟩
      · exact .inr (.inl ⟨decide_eq_false h1, decide_eq_true (by omega), hz.symm⟩)
    · exact .inr (.inr ⟨decide_eq_false (by omega), decide_eq_false (by omega), by omega⟩)
  clear hrec hz hzl
  rcases hcase with ⟨q1, hl⟩ | ⟨q1, q2, hl⟩ | ⟨q1, q2, hl⟩
  case inl =>
    have mk3 : ∀ W : World, (Instr.makeSlice 52 (.int .i64 3970) (.int .i64 3970)).run Tryd.prog W = .ok (.slice (some ⟨W.heap.size, 0, none⟩) z z) (W.alloc (.cells (u8s (noughts z)).toArray 5)) := by rwa [show ((z : Nat) : Int) = 3970 by omega] at mk
    have HZ3 := Lib.hid hl
    clear mk hl
    go_enter Tryd.func22, Tryd.ntmps22
    go_wp2_with fail
    go_loopw [18] (fun i wr => ∃ k : Nat, i = .int .i64 k ∧ k ≤ z ∧ Hid (wr.heap[w.heap.size + 1]? = some (.cells (u8s (fillR byte z k)).toArray 5)) ∧ Hid (wr.cell? ⟨w.heap.size, 2, none⟩ = some (.int .u8 (byte.toNat : Int))) ∧ Hid (Below w.heap.size w wr)) (fun i _ => z - (intOf i).toNat)
    case atStart =>
      refine ⟨0, rfl, Nat.zero_le _, Lib.hid ?_, Lib.hid ?_, Lib.hid (((Below.refl _ w).alloc (Nat.le_refl _) _).alloc (by simp) _)⟩
      · have := heap_alloc_new (w.alloc (.cells #[.int .i64 len, .int .i64 n, .int .u8 (byte.toNat : Int), .bool drops, .bool opens] 30)) (.cells (u8s (noughts z)).toArray 5)
        rw [World.size_alloc] at this
        exact this
      · rw [World.cell?_alloc_lt _ _ _ (by simp), cell_of_row _ _ 2 _ _ _ (heap_alloc_new w _)]
        rfl
    case round =>
      obtain ⟨k, rfl, hk, hc, hx, hb⟩ := hrel
      have fz : wr.frozen? ⟨w.heap.size + 1, k, none⟩ = false := by
        unfold World.frozen?
        rw [show wr.heap[(⟨w.heap.size + 1, k, none⟩ : Addr).block]? = _ from hc.out]
        simp
      have cx := hx.out
      by_cases hlt : k < z
      · have hl := fillR_len byte z k hk
        have ck : wr.cell? ⟨w.heap.size + 1, k, none⟩ = some (.int .u8 (((fillR byte z k)[k]'(by omega)).toNat : Int)) := by
          rw [cell_of_row _ _ k _ _ _ hc.out]
          simpa using u8s_get _ k (by omega)
        generalize (fillR byte z k)[k]'(by omega) = old at ck
        have HS := Lib.hid (fillR_step byte z k hlt)
        have i1 : (k : Int) < (z : Int) := by omega
        have hZ := HZl.out
        clear hl
        go_wp2_with fail
        go_roundw
        case rel =>
          refine ⟨k + 1, by go_num, by omega, Lib.hid ?_, Lib.hid ?_, Lib.hid (hb.out.setCell (p := ⟨w.heap.size + 1, k, none⟩) (by show w.heap.size ≤ w.heap.size + 1; omega) _)⟩
          · rw [← HS.out]
            exact set_block hc.out byte _ rfl
          · rw [World.cell?_setCell_other _ _ _ _ (fun e => by injection e with e _ _; omega)]
            exact hx.out
        case measure => simp [intOf]; omega
      · have hkz : k = z := by omega
        subst hkz
        go_wp2_with fail
        go_ret
        exact ⟨_, rfl, own_of_block hc.out (fillR_len byte _ _ (Nat.le_refl _)) (Nat.le_succ _) (by have := HZl.out; omega), hb.out⟩
  case inr.inl =>
    have mk3 : ∀ W : World, (Instr.makeSlice 52 (.int .i64 3970) (.int .i64 3970)).run Tryd.prog W = .ok (.slice (some ⟨W.heap.size, 0, none⟩) z z) (W.alloc (.cells (u8s (noughts z)).toArray 5)) := by rwa [show ((z : Nat) : Int) = 3970 by omega] at mk
    have HZ3 := Lib.hid hl
    clear mk hl
    go_enter Tryd.func22, Tryd.ntmps22
    go_wp2_with fail
    go_loopw [18] (fun i wr => ∃ k : Nat, i = .int .i64 k ∧ k ≤ z ∧ Hid (wr.heap[w.heap.size + 1]? = some (.cells (u8s (fillR byte z k)).toArray 5)) ∧ Hid (wr.cell? ⟨w.heap.size, 2, none⟩ = some (.int .u8 (byte.toNat : Int))) ∧ Hid (Below w.heap.size w wr)) (fun i _ => z - (intOf i).toNat)
    case atStart =>
      refine ⟨0, rfl, Nat.zero_le _, Lib.hid ?_, Lib.hid ?_, Lib.hid (((Below.refl _ w).alloc (Nat.le_refl _) _).alloc (by simp) _)⟩
      · have := heap_alloc_new (w.alloc (.cells #[.int .i64 len, .int .i64 n, .int .u8 (byte.toNat : Int), .bool drops, .bool opens] 30)) (.cells (u8s (noughts z)).toArray 5)
        rw [World.size_alloc] at this
        exact this
      · rw [World.cell?_alloc_lt _ _ _ (by simp), cell_of_row _ _ 2 _ _ _ (heap_alloc_new w _)]
        rfl
    case round =>
      obtain ⟨k, rfl, hk, hc, hx, hb⟩ := hrel
      have fz : wr.frozen? ⟨w.heap.size + 1, k, none⟩ = false := by
        unfold World.frozen?
        rw [show wr.heap[(⟨w.heap.size + 1, k, none⟩ : Addr).block]? = _ from hc.out]
        simp
      have cx := hx.out
      by_cases hlt : k < z
      · have hl := fillR_len byte z k hk
        have ck : wr.cell? ⟨w.heap.size + 1, k, none⟩ = some (.int .u8 (((fillR byte z k)[k]'(by omega)).toNat : Int)) := by
          rw [cell_of_row _ _ k _ _ _ hc.out]
          simpa using u8s_get _ k (by omega)
        generalize (fillR byte z k)[k]'(by omega) = old at ck
        have HS := Lib.hid (fillR_step byte z k hlt)
        have i1 : (k : Int) < (z : Int) := by omega
        have hZ := HZl.out
        clear hl
        go_wp2_with fail
        go_roundw
        case rel =>
          refine ⟨k + 1, by go_num, by omega, Lib.hid ?_, Lib.hid ?_, Lib.hid (hb.out.setCell (p := ⟨w.heap.size + 1, k, none⟩) (by show w.heap.size ≤ w.heap.size + 1; omega) _)⟩
          · rw [← HS.out]
            exact set_block hc.out byte _ rfl
          · rw [World.cell?_setCell_other _ _ _ _ (fun e => by injection e with e _ _; omega)]
            exact hx.out
        case measure => simp [intOf]; omega
      · have hkz : k = z := by omega
        subst hkz
        go_wp2_with fail
        go_ret
        exact ⟨_, rfl, own_of_block hc.out (fillR_len byte _ _ (Nat.le_refl _)) (Nat.le_succ _) (by have := HZl.out; omega), hb.out⟩
  case inr.inr =>
    subst hl
    go_enter Tryd.func22, Tryd.ntmps22
    go_wp2_with fail
    go_loopw [18] (fun i wr => ∃ k : Nat, i = .int .i64 k ∧ k ≤ z ∧ Hid (wr.heap[w.heap.size + 1]? = some (.cells (u8s (fillR byte z k)).toArray 5)) ∧ Hid (wr.cell? ⟨w.heap.size, 2, none⟩ = some (.int .u8 (byte.toNat : Int))) ∧ Hid (Below w.heap.size w wr)) (fun i _ => z - (intOf i).toNat)
    case atStart =>
      refine ⟨0, rfl, Nat.zero_le _, Lib.hid ?_, Lib.hid ?_, Lib.hid (((Below.refl _ w).alloc (Nat.le_refl _) _).alloc (by simp) _)⟩
      · have := heap_alloc_new (w.alloc (.cells #[.int .i64 (z : Int), .int .i64 n, .int .u8 (byte.toNat : Int), .bool drops, .bool opens] 30)) (.cells (u8s (noughts z)).toArray 5)
        rw [World.size_alloc] at this
        exact this
      · rw [World.cell?_alloc_lt _ _ _ (by simp), cell_of_row _ _ 2 _ _ _ (heap_alloc_new w _)]
        rfl
    case round =>
      obtain ⟨k, rfl, hk, hc, hx, hb⟩ := hrel
      have fz : wr.frozen? ⟨w.heap.size + 1, k, none⟩ = false := by
        unfold World.frozen?
        rw [show wr.heap[(⟨w.heap.size + 1, k, none⟩ : Addr).block]? = _ from hc.out]
        simp
      have cx := hx.out
      by_cases hlt : k < z
      · have hl := fillR_len byte z k hk
        have ck : wr.cell? ⟨w.heap.size + 1, k, none⟩ = some (.int .u8 (((fillR byte z k)[k]'(by omega)).toNat : Int)) := by
          rw [cell_of_row _ _ k _ _ _ hc.out]
          simpa using u8s_get _ k (by omega)
        generalize (fillR byte z k)[k]'(by omega) = old at ck
        have HS := Lib.hid (fillR_step byte z k hlt)
        have i1 : (k : Int) < (z : Int) := by omega
        have hZ := HZl.out
        clear hl
        go_wp2_with fail
        go_roundw
        case rel =>
          refine ⟨k + 1, by go_num, by omega, Lib.hid ?_, Lib.hid ?_, Lib.hid (hb.out.setCell (p := ⟨w.heap.size + 1, k, none⟩) (by show w.heap.size ≤ w.heap.size + 1; omega) _)⟩
          · rw [← HS.out]
            exact set_block hc.out byte _ rfl
          · rw [World.cell?_setCell_other _ _ _ _ (fun e => by injection e with e _ _; omega)]
            exact hx.out
        case measure => simp [intOf]; omega
      · have hkz : k = z := by omega
        subst hkz
        go_wp2_with fail
        go_ret
        exact ⟨_, rfl, own_of_block hc.out (fillR_len byte _ _ (Nat.le_refl _)) (Nat.le_succ _) (by have := HZl.out; omega), hb.out⟩
end Go.Proofs.YtidbmagpnaingaaDoor
