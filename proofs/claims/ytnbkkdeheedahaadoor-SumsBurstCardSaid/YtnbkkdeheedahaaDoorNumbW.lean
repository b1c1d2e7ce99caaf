/- What sums.number and bytes.Clone answer: the number whose low bytes these are; a copy in memory of the call's own. -/
import Derived.Test.YtnbkkdeheedahaaDoorFrameW
namespace Go.Proofs.YtnbkkdeheedahaaDoor
open Go.RowKit Tide

/-- The number whose bytes these are, the low one first. -/
def leNum : List UInt8 → Nat
  | [] => 0
  | c :: l => c.toNat + 256 * leNum l
theorem leNum_lt : ∀ l : List UInt8, leNum l < 256 ^ l.length
  | [] => by simp [leNum]
  | c :: l => by
    have := leNum_lt l
    have hc := c.toNat_lt
    simp only [leNum, List.length_cons, Nat.pow_succ]
    omega
theorem leNum_snoc : ∀ (l : List UInt8) (c : UInt8), leNum (l ++ [c]) = leNum l + 256 ^ l.length * c.toNat
  | [], c => by simp [leNum]
  | d :: l, c => by
    have := leNum_snoc l c
    simp only [leNum, List.cons_append, this, List.length_cons, Nat.pow_succ, Nat.mul_add]
    rw [Nat.mul_assoc, Nat.mul_left_comm, Nat.add_assoc]
theorem leNum_or (l : List UInt8) (c : UInt8) (j : Nat) (hj : l.length = j) : leNum l ||| c.toNat * 2 ^ (8 * j) = leNum (l ++ [c]) := by
  have h1 := leNum_lt l
  have e : (256 : Nat) ^ l.length = 2 ^ (8 * j) := by rw [hj, show (256 : Nat) = 2 ^ 8 by rfl, ← Nat.pow_mul]
  rw [e] at h1
  rw [leNum_snoc, e, Nat.or_comm, Nat.mul_comm, ← Nat.two_pow_add_eq_or_of_lt h1, Nat.add_comm]

theorem or_step (l : List UInt8) (c : UInt8) (j : Nat) (hj : l.length = j) (h4 : j < 4) : bits .or .u32 (leNum l : Int) ((c.toNat : Int) * 2 ^ (8 * j) % 4294967296) = ((leNum (l ++ [c]) : Nat) : Int) := by
  have h1 := leNum_lt l
  have hc := c.toNat_lt
  have h24 : (2 : Nat) ^ (8 * j) ≤ 2 ^ 24 := Nat.pow_le_pow_right (by omega) (by omega)
  have e : (256 : Nat) ^ l.length = 2 ^ (8 * j) := by rw [hj, show (256 : Nat) = 2 ^ 8 by rfl, ← Nat.pow_mul]
  have hm : c.toNat * 2 ^ (8 * j) ≤ 255 * 2 ^ 24 := Nat.mul_le_mul (by omega) h24
  have hb : ((c.toNat : Int) * 2 ^ (8 * j) % 4294967296) = ((c.toNat * 2 ^ (8 * j) : Nat) : Int) := by
    have : ((c.toNat : Int) * 2 ^ (8 * j)) = ((c.toNat * 2 ^ (8 * j) : Nat) : Int) := by push_cast; rfl
    rw [this]
    omega
  rw [hb, u32_or_nat _ _ (by omega) (by omega), leNum_or l c j hj]

set_option maxHeartbeats 400000 in
theorem number_any (v : Value) (L : List UInt8) (B : Nat) (w : World) (hp : Bytes w B v L) (hL : L.length ≤ 4) :
    Calls Tryd.prog 21 #[v] w fun e w' => e = .returned (.int .u32 (leNum L : Nat)) ∧ w = w' := by
  obtain ⟨A2, c2, rfl, _, _, hb⟩ := hp.form
  have hB := Lib.hid hb
  clear hb hp
  go_enter Tryd.func21, Tryd.ntmps21
  go_wp2
  go_loop [3, 8] (fun r i => ∃ j : Nat, j ≤ L.length ∧ i = .int .i64 j ∧ r = .int .u32 (leNum (L.take j) : Nat)) (fun _ i => L.length - (intOf i).toNat)
  case atStart => exact ⟨0, Nat.zero_le _, rfl, by simp [leNum]⟩
  case round =>
    obtain ⟨j, hj, rfl, rfl⟩ := hrel
    by_cases hlt2 : j < L.length
    · obtain ⟨b2, o2, rfl, _, hcs⟩ := hB.out j hlt2
      have hc2 := hcs j hlt2
      clear hcs
      have hcl := L[j].toNat_lt
      have hor := or_step (L.take j) L[j] j (by simp; omega) (by omega)
      rw [show L.take j ++ [L[j]] = L.take (j + 1) by rw [List.take_succ_eq_append_getElem hlt2]] at hor
      go_wp2
      go_round
      case rel => exact ⟨j + 1, by omega, by go_num, rfl⟩
      case measure => simp [intOf]; omega
    · have hkl := Lib.hid (show L.take j = L from List.take_of_length_le (by omega))
      go_wp2
      go_ret
      exact ⟨ret_int (by rw [hkl.out]), rfl⟩

theorem leNum_le (n : Nat) : ∀ k, leNum (le n k) = n % 256 ^ k
  | 0 => by simp [le, leNum]; omega
  | k + 1 => by
    rw [le, leNum_snoc, le_length, leNum_le n k]
    have e : (UInt8.ofNat (n / 2 ^ (8 * k))).toNat = n / 256 ^ k % 256 := by
      rw [show (256 : Nat) ^ k = 2 ^ (8 * k) by rw [show (256 : Nat) = 2 ^ 8 by rfl, ← Nat.pow_mul]]
      simp
    rw [e, Nat.pow_succ, Nat.mod_mul]

/-- A copy: nil of nil, and else new memory of the call's own. -/
theorem clone_any (v : Value) (L : List UInt8) (w : World) (hp : Bytes w w.heap.size v L) (hL : L.length ≤ 65536) :
    Calls Tryd.prog 22 #[v] w fun e w' => ∃ v', e = .returned v' ∧ w'.ownsRow w.heap.size 5 1 v' L.length (u8s L) ∧ Below w.heap.size w w' := by
  obtain ⟨i0, hi, hz0, hz1, hz2⟩ := info_parts infoB
  have HI := Lib.hid hi
  have HP := Lib.hid hp
  obtain ⟨A, c, rfl, _, _, hb⟩ := hp.form
  clear hi hp
  rcases A with _ | a
  · have hl : L = [] := by
      rcases L with _ | ⟨x, L⟩
      · rfl
      · obtain ⟨_, _, h, _⟩ := hb 0 (by simp)
        cases h
    subst hl
    have hq := fun W : World => Lib.run_eql_slice_nil (P := Tryd.prog) W 24 5 none 0 c 0 0 Tryd.underlying24
    go_enter Tryd.func22, Tryd.ntmps22
    go_wp2
    go_ret
    exact ⟨_, rfl, ⟨by simp [u8s], .inl ⟨rfl, rfl⟩⟩, Below.refl _ _⟩
  · clear hb
    have hq := fun W : World => Lib.run_eql_slice_nil (P := Tryd.prog) W 24 5 (some a) L.length c 0 0 Tryd.underlying24
    go_enter Tryd.func22, Tryd.ntmps22
    go_wp2_with (at_builtin; refine wpList_append_row _ rfl (.tmp 5) (.tmp 6) _ rfl w.heap.size 5 i0 (.int .u8 0) 1 Tryd.underlying24 HI.out hz0 hz1 hz2 rfl _ 0 [] rfl ?c1 w.heap.size _ (u8s L) rfl (HP.out.alloc (Nat.le_refl _)) (u8s_one _) ?d1 ?d2 ?d3 ?_)
    case c1 => exact own_new _ _ _ _ _ _ _ _ rfl (Nat.le_refl _) (by simp) (by simp [maxLen]) rfl (by simp)
    case d1 => rw [u8s_length]; unfold maxLen; omega
    case d2 => rw [u8s_length]; omega
    case d3 => simp
    intro v4 w4 hown4 hg4 _
    have hb5 := ((Below.refl w.heap.size w).alloc (Nat.le_refl _) _).grown hg4 (by simp) (fun g hg => by simp [Value.ownBlock] at hg; omega)
    rw [u8s_length] at hown4
    go_wp2_with fail
    go_ret
    exact ⟨_, rfl, hown4, hb5⟩
end Go.Proofs.YtnbkkdeheedahaaDoor
