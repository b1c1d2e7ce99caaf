/- The chapter's example of a device holds, over what a device's functions do; sixty-four bytes that are made. -/
import Derived.Test.YtcjneloelbgboaaDoorDkS
import Derived.Laws.MakeOwn
import Derived.WalkKit
import Derived.WalkSpells
import Derived.Deep.QuietTactic
import Derived.BigQuiet
namespace Go.Proofs.YtcjneloelbgboaaDoor
open Go.RowKit Tide

/-- Sixty-four noughts, as they are made. -/
abbrev made64 (w : World) : World := w.alloc (.cells (madeCells #[.int .u8 0] 64) 5)
theorem make_64 : ∀ W : World, (Instr.makeSlice 22 (.int .i64 64) (.int .i64 64)).run Tryd.prog W = .ok (.slice (some ⟨W.heap.size, 0, none⟩) 64 64) (made64 W) := fun W => by
  obtain ⟨i0, hi, hz0, hz1, hz2⟩ := info_parts infoB
  have h := run_makeSlice (P := Tryd.prog) W 22 5 i0 (.int .u8 0) Tryd.underlying22 hi hz0 .i64 .i64 64 64 (by omega) (by omega) (by rw [hz1]; decide) (by rw [hz2]; omega) (by omega)
  rw [hz1] at h
  exact h
theorem made_at (n i : Nat) (h : i < n) : (madeCells #[.int .u8 0] n)[i]? = some (.int .u8 0) := by
  have h1 : i % 1 = 0 := Nat.mod_one i
  simp [madeCells, h, h1]
theorem cell64 (w : World) (i : Nat) (h : i < 64) : (made64 w).cell? ⟨w.heap.size, i, none⟩ = some (.int .u8 0) := by
  rw [cell_of_row _ _ i _ _ _ (heap_alloc_new w _)]
  exact made_at 64 i h
theorem free64 (w : World) (i : Nat) : (made64 w).frozen? ⟨w.heap.size, i, none⟩ = false := by
  have h := heap_alloc_new w (.cells (madeCells #[.int .u8 0] 64) 5)
  unfold World.frozen?
  rw [show (made64 w).heap[(⟨w.heap.size, i, none⟩ : Addr).block]? = _ from h]
  simp
/-- Bytes out of their cells. -/
theorem bytes_of_cells {W : World} {B b n : Nat} {l : List UInt8} (hl : l.length = n) (hn : n ≤ 65536) (hb : b < B) (hc : ∀ j (h : j < l.length), W.cell? ⟨b, j, none⟩ = some (.int .u8 (l[j].toNat : Int))) : Bytes W B (.slice (some ⟨b, 0, none⟩) n n) l := by
  subst hl
  refine ⟨by rw [u8s_length]; omega, some ⟨b, 0, none⟩, l.length, by rw [u8s_length], by rw [u8s_length]; exact Nat.le_refl _, by omega, fun _ => ⟨b, 0, rfl, hb, fun j u hu => ?_⟩⟩
  have hj : j < l.length := by
    have := (List.getElem?_eq_some_iff.1 hu).1
    rwa [u8s_length] at this
  rw [Nat.zero_add, hc j hj, ← hu, u8s_get l j hj]
theorem noughts_get (n j : Nat) (h : j < (noughts n).length) : (noughts n)[j] = 0 := by simp [noughts]
theorem bytes64 (w : World) : Bytes (made64 w) (w.heap.size + 1) (.slice (some ⟨w.heap.size, 0, none⟩) 64 64) (noughts 64) :=
  bytes_of_cells (noughts_len 64) (by omega) (Nat.lt_succ_self _) (fun j hj => by
    rw [noughts_get]
    exact cell64 w j (by rwa [noughts_len] at hj))
/-- Sixty-four noughts, of which one was set. -/
abbrev set64 (w : World) (i : Nat) (v : Value) : World := w.alloc (.cells ((madeCells #[.int .u8 0] 64).setIfInBounds i v) 5)
theorem bytes64_set (w : World) (i : Nat) (hi : i < 64) (c : UInt8) : Bytes (set64 w i (.int .u8 (c.toNat : Int))) (w.heap.size + 1) (.slice (some ⟨w.heap.size, 0, none⟩) 64 64) ((noughts 64).set i c) :=
  bytes_of_cells (by rw [List.length_set, noughts_len]) (by omega) (Nat.lt_succ_self _) (fun j hj => by
    rw [List.length_set, noughts_len] at hj
    rw [cell_of_row _ _ j _ _ _ (heap_alloc_new w _), Array.getElem?_setIfInBounds]
    by_cases hij : i = j
    · subst hij
      rw [if_pos rfl, if_pos (by simp [madeCells]; exact hi), List.getElem_set_self]
    · rw [if_neg hij, made_at 64 j hj, List.getElem_set_ne hij, noughts_get]
      rfl)

set_option maxRecDepth 100000 in
set_option maxHeartbeats 2000000 in
theorem dalive_any (E : World → Prop) (xF : Value) (D : DevP) (hS : DevSpec E xF D) (w : World) (hE : E w) : Calls Tryd.prog 5 #[] w fun e w' => e = .returned (.bool true) ∧ Below w.heap.size w w' := by
  have HS := Lib.hid hS
  have CN := Lib.hid (hS.new w 2 hE (by omega) (by omega))
  have mk := make_64
  have hb64 := Lib.hid (fun W => bytes64_set W 0 (by omega) 7)
  clear hS hE
  go_enter Tryd.func5, Tryd.ntmps5
  go_wp2_with fail
  refine CN.out.mono ?_
  rintro en w1 hn
  obtain ⟨p, rfl, hd⟩ := DS.start (Below.refl w.heap.size w) hn
  have S1 := Lib.hid hd
  have S2 := Lib.hid (hd.allocF HS.out (.cells ((madeCells #[.int .u8 0] 64).setIfInBounds 0 (.int .u8 7)) 5))
  have c0 := cell64 w1 0 (by omega)
  have fz := free64 w1 0
  clear hn hd CN
  go_wp2_with fail
  refine (S2.out.call (fun F hD hk => HS.out.write _ F p _ _ 1 _ (w1.heap.size + 1) _ hD (by rw [noughts_len]; omega) (by simp) (by omega) (by omega) (hb64.out w1) (by simp) (fun j e => by rw [own_is e rfl]; exact hk) (by rw [List.length_set, noughts_len]) (by omega) (by rw [noughts_len]; decide))).mono ?_
  rintro en w3 ⟨_, rfl, rfl, hd, _⟩
  have S3 := Lib.hid hd
  clear hd S1 S2 hb64 c0 fz mk
  go_wp2_with fail
  have e1 : readD (noughts (64 * 2)) ([] ++ [((1 : Int).toNat, (noughts 64).set 0 7)]) 1 = 7 :: noughts 63 := by decide +kernel
  have CR := S3.out.read (by rw [e1]; simp) (fun F hD => HS.out.read _ F p _ _ 1 hD (by rw [noughts_len]; omega) (by simp) (by rw [noughts_len]; decide))
  rw [e1] at CR
  refine CR.mono ?_
  rintro en w4 ⟨u, rfl, hx⟩
  have X4 := Lib.hid hx
  obtain ⟨A4, c4, hu, _, _, _⟩ := hx.bytes.form
  subst hu
  clear hx CR e1
  go_wp2_with fail
  refine (X4.out.call (fun F hD => HS.out.crash _ F p _ _ hD (by rw [noughts_len]; omega) (by simp))).mono ?_
  rintro en w5 ⟨_, rfl, rfl, hx⟩
  have X5 := Lib.hid hx
  clear hx X4
  go_wp2_with fail
  have e1 : readD (noughts (64 * 2)) [] 1 = 0 :: noughts 63 := by decide +kernel
  have CR := X5.out.read' (by rw [e1]; simp) (fun F hD => HS.out.read _ F p _ _ 1 hD (by rw [noughts_len]; omega) (by simp) (by rw [noughts_len]; decide))
  rw [e1] at CR
  refine CR.mono ?_
  rintro en w6 ⟨u, rfl, hy, hx, hb⟩
  have HB6 := Lib.hid hb
  obtain ⟨A6, c6, rfl, _, _, hcy⟩ := hy.form
  obtain ⟨A7, c7, hxe, _, _, hcx⟩ := hx.form
  obtain ⟨b6, o6, rfl, _, hc6⟩ := hcy 0 (by simp)
  obtain ⟨b7, o7, hA7, _, hc7⟩ := hcx 0 (by simp)
  have k6 := hc6 0 (by simp)
  have k7 := hc7 0 (by simp)
  have hA4 : A4 = some ⟨b7, o7, none⟩ := by
    injection hxe with h1 _ _
    rw [h1]; exact hA7
  subst hA4
  clear hy hx hb hcy hcx hc6 hc7 CR e1 hxe hA7 X5
  simp only [List.length_cons, noughts_len, List.getElem_cons_zero, Nat.add_zero] at k6 k7 ⊢
  have k6' : w6.cell? ⟨b6, o6, none⟩ = some (.int .u8 0) := k6
  have k7' : w6.cell? ⟨b7, o7, none⟩ = some (.int .u8 7) := k7
  clear k6 k7
  go_wp2_with fail
  go_ret
  exact ⟨rfl, HB6.out⟩
end Go.Proofs.YtcjneloelbgboaaDoor
