/- What sums.Sum and the bit by bit sum answer: the check sum of all the parts' bytes, for every world in which the table of package sums lies and the parts can be read. -/
import Derived.Test.YtnbkkdeheedahaaDoorSumW
import Derived.Test.YtnbkkdeheedahaaDoorMem
namespace Go.Proofs.YtnbkkdeheedahaaDoor
open Go.RowKit Tide

/-- The table's numbers. -/
def tab : List Nat := [0, 498536548, 997073096, 651767980, 1994146192, 1802195444, 1303535960, 1342533948, 3988292384, 4027552580, 3604390888, 3412177804, 2607071920, 2262029012, 2685067896, 3183342108]
/-- The table's number at a place. -/
def tabF (i : Nat) : Nat := tab.getD i 0
theorem tab_bits : ∀ i, i < 16 → tab.getD i 0 = Crc.bits 4 i := by decide
theorem tab_lt : ∀ i, i < 16 → tabF i < 4294967296 := by decide
/-- The table lies in its variable. -/
def TabIn (w : World) : Prop := ∀ i, i < 16 → w.cell? ⟨0, i, none⟩ = some (.int .u32 (tabF i : Nat))
theorem TabIn.keep {w w' : World} (h : TabIn w) (hk : ∀ o, w'.cell? ⟨0, o, none⟩ = w.cell? ⟨0, o, none⟩) : TabIn w' := fun i hi => (hk i).trans (h i hi)

theorem TabIn.lt {w : World} (h : TabIn w) : 0 < w.heap.size := World.block_lt_of_cell? _ _ (h 0 (by omega))
theorem TabIn.alloc {w : World} (h : TabIn w) (o : Obj) : TabIn (w.alloc o) := h.keep fun o' => World.cell?_alloc_lt w o ⟨0, o', none⟩ h.lt
theorem TabIn.below {w w' : World} (h : TabIn w) (hb : Below w.heap.size w w') : TabIn w' := h.keep fun o => hb.cell (p := ⟨0, o, none⟩) h.lt
theorem x32 (a b : Nat) (ha : a < 4294967296) (hb : b < 4294967296) : bits .xor .u32 (a : Int) (b : Int) = ((a ^^^ b : Nat) : Int) := u32_xor_nat a b ha hb
theorem low4 (y : Nat) (h : y < 4294967296) : bits .and .u32 (y : Int) 15 = ((y % 16 : Nat) : Int) := by
  have h := u32_and_nat y 15 h (by omega)
  rw [show y &&& 15 = y % 16 from nat_mask4 y] at h
  exact h
theorem step4 (y : Nat) (h : y < 4294967296) : bits .xor .u32 ((y : Int) / 16) ((tabF (y % 16) : Nat) : Int) = ((Crc.bits 4 y : Nat) : Int) := by
  have h1 := x32 (y / 16) (tabF (y % 16)) (by omega) (tab_lt _ (by omega))
  rw [show y / 16 ^^^ tabF (y % 16) = Crc.bits 4 y from Crc.nibble tab tab_bits y] at h1
  rw [show (y : Int) / 16 = ((y / 16 : Nat) : Int) by omega]
  exact h1

set_option maxHeartbeats 400000 in
theorem sum_any (v : Value) (ps : List (List UInt8)) (B : Nat) (w : World) (hp : Parts w B v ps) (ht : TabIn w) :
    Calls Tryd.prog 9 #[v] w fun e w' => e = .returned (.int .u32 (Crc.sum ps.flatten : Nat)) ∧ w = w' := by
  obtain ⟨hn, A, c, rfl, hcells⟩ := hp.form
  clear hp
  have hC := Lib.hid hcells
  have hT := Lib.hid ht
  clear hcells ht
  go_enter Tryd.func9, Tryd.ntmps9
  go_wp2
  go_loop [3, 10] (fun r i => ∃ k : Nat, k ≤ ps.length ∧ i = .int .i64 k ∧ r = .int .u32 (Crc.run 4294967295 (ps.take k).flatten : Nat)) (fun _ i => ps.length - (intOf i).toNat)
  case atStart => exact ⟨0, Nat.zero_le _, rfl, by simp [Crc.run]⟩
  case round =>
    obtain ⟨k, hk, rfl, rfl⟩ := hrel
    have hr0 := Crc.run_lt (r := 4294967295) (by omega) (ps.take k).flatten
    by_cases hlt : k < ps.length
    · obtain ⟨b, o, u, rfl, hcell, hu⟩ := hC.out k hlt
      obtain ⟨A2, c2, rfl, _, _, hb⟩ := hu.form
      have hl2 := hu.len
      have hB := Lib.hid hb
      have hnext := Lib.hid (show Crc.run 4294967295 (ps.take (k + 1)).flatten = Crc.run (Crc.run 4294967295 (ps.take k).flatten) ps[k] by
        rw [List.take_succ_eq_append_getElem hlt, List.flatten_append, Crc.run_append]; simp)
      clear hb hu
      generalize hR : Crc.run 4294967295 (ps.take k).flatten = R at *
      generalize hL : ps[k] = L at *
      clear hR hL
      go_wp2
      go_loop [3, 16] (fun r i => ∃ j : Nat, j ≤ L.length ∧ i = .int .i64 j ∧ r = .int .u32 (Crc.run R (L.take j) : Nat)) (fun _ i => L.length - (intOf i).toNat)
      case atStart => exact ⟨0, Nat.zero_le _, rfl, by simp [Crc.run]⟩
      case round =>
        obtain ⟨j, hj, rfl, rfl⟩ := hrel
        have hr1 := Crc.run_lt hr0 (L.take j)
        by_cases hlt2 : j < L.length
        · obtain ⟨b2, o2, rfl, _, hcs⟩ := hB.out j hlt2
          have hc2 := hcs j hlt2
          clear hcs
          have hnext2 := Lib.hid (show Crc.run R (L.take (j + 1)) = Crc.byte (Crc.run R (L.take j)) L[j].toNat by
            rw [List.take_succ_eq_append_getElem hlt2, Crc.run_snoc])
          have hcl := L[j].toNat_lt
          generalize hR : Crc.run R (L.take j) = S at *
          generalize hL : L[j].toNat = d at *
          clear hR hL
          have hx := x32 S d hr1 (by omega)
          have hxl : S ^^^ d < 4294967296 := by have := Nat.xor_lt_two_pow (n := 32) (x := S) (y := d) (by omega) (by omega); simpa using this
          go_wp2
          clear hx
          unfold Crc.byte at hnext2
          generalize S ^^^ d = X at *
          go_loop [3, 24] (fun r i => ∃ m : Nat, m ≤ 2 ∧ i = .int .i64 m ∧ r = .int .u32 (Crc.bits (4 * m) X : Nat)) (fun _ i => 2 - (intOf i).toNat)
          case atStart => exact ⟨0, Nat.zero_le _, rfl, by simp [Crc.bits]⟩
          case round =>
            obtain ⟨m, hm, rfl, rfl⟩ := hrel
            have hyl := Crc.bits_lt (4 * m) hxl
            by_cases hlt3 : m < 2
            · have hnext3 := Lib.hid (show Crc.bits (4 * (m + 1)) X = Crc.bits 4 (Crc.bits (4 * m) X) from Crc.bits_add (4 * m) 4 X)
              generalize Crc.bits (4 * m) X = Y at *
              have h4 := low4 Y hyl
              have h5 := step4 Y hyl
              have h6 := hT.out (Y % 16) (by omega)
              go_wp2
              go_round
              case rel => exact ⟨m + 1, by omega, by go_num, by rw [hnext3.out]⟩
              case measure => simp [intOf]; omega
            · have hm2 : m = 2 := by omega
              subst hm2
              go_wp2
              go_round
              case rel => exact ⟨j + 1, by omega, by go_num, by rw [hnext2.out]⟩
              case measure => simp [intOf]; omega
        · have hjl : L.take j = L := List.take_of_length_le (by omega)
          have hjl2 := Lib.hid hjl
          clear hjl
          go_wp2
          go_round
          case rel => exact ⟨k + 1, by omega, by go_num, by rw [hnext.out, hjl2.out]⟩
          case measure => simp [intOf]; omega
    · have hkl := Lib.hid (show ps.take k = ps from List.take_of_length_le (by omega))
      generalize hR : Crc.run 4294967295 (ps.take k).flatten = R at *
      have hR2 := Lib.hid hR
      clear hR
      have hx : bits .xor .u32 IntKind.u32.max (R : Int) = ((4294967295 ^^^ R : Nat) : Int) := x32 4294967295 R (by omega) hr0
      have hsg : IntKind.u32.signed = false := rfl
      go_wp2
      go_ret
      exact ⟨ret_int (by unfold Crc.sum; rw [← hkl.out, hR2.out, Nat.xor_comm]), rfl⟩
end Go.Proofs.YtnbkkdeheedahaaDoor
