/- What the document's own tidewaterref02.Runes answers: the runes of a right text, in memory of the call's own; nothing of another one. -/
import Derived.Test.YtlblappalhofmaaDoorUtf
import Derived.Test.YtlblappalhofmaaDoorMem
import Derived.Test.YtlblappalhofmaaDoorApp
import Derived.Test.YtlblappalhofmaaDoorLaw
import Derived.WalkKit
import Derived.WalkSpells
import Derived.WalkLawsBesides
import Derived.Deep.QuietTactic
import Derived.BigQuiet
namespace Go.Proofs.YtlblappalhofmaaDoor
open Go.RowKit Tide Utf

theorem infoI : (Tryd.prog.info? 3).map (fun i => (i.zero, i.size, i.bytes)) = some (some (.int .i64 0), 1, 8) := by kernel_rfl
/-- The cells of numbers. -/
def ints (l : List Nat) : List Value := l.map fun c : Nat => Value.int .i64 (c : Int)
theorem ints_length (l : List Nat) : (ints l).length = l.length := by simp [ints]
theorem ints_snoc (l : List Nat) (c : Nat) : ints l ++ [Value.int .i64 (c : Int)] = ints (l ++ [c]) := by simp [ints]
/-- The two answers. -/
def RunesR (s : ByteArray) (w : World) (e : Ending) (w' : World) : Prop :=
  (∃ l v, runes s 0 = some l ∧ e = .returned (.tuple #[v, .bool true]) ∧ w'.ownsRow w.heap.size 3 1 v l.length (ints l) ∧ Below w.heap.size w w') ∨
  (runes s 0 = none ∧ e = .returned (.tuple #[.slice none 0 0, .bool false]) ∧ Below w.heap.size w w')
/-- What has been read stands ahead of what is to come. -/
def Upto (s : ByteArray) (i : Nat) (pre : List Nat) : Prop := i ≤ s.size ∧ pre.length ≤ i ∧ runes s 0 = (runes s i).map (pre ++ ·)
theorem upto_zero (s : ByteArray) : Upto s 0 [] := ⟨Nat.zero_le _, Nat.le_refl _, by simp⟩
theorem Upto.step {s : ByteArray} {i c n : Nat} {pre : List Nat} (h : Upto s i pre) (hi : i < s.size) (ho : one s i = some (c, n)) : Upto s (i + n) (pre ++ [c]) := by
  have h1 := one_some hi ho
  refine ⟨h1.2.2.1, by simp; have := h.2.1; omega, ?_⟩
  rw [h.2.2, runes_some hi ho]
  cases runes s (i + n) <;> simp
theorem Upto.bad {s : ByteArray} {i : Nat} {pre : List Nat} (h : Upto s i pre) (hi : i < s.size) (ho : one s i = none) : runes s 0 = none := by
  rw [h.2.2, runes_none hi ho]; rfl
theorem Upto.done {s : ByteArray} {i : Nat} {pre : List Nat} (h : Upto s i pre) (hi : ¬ i < s.size) : runes s 0 = some pre := by
  rw [h.2.2, runes_end (by omega)]; simp

theorem one_cell (w : World) (x : Value) (e : TypeId) : ∀ (j : Nat) (u : Value), [x][j]? = some u → (w.alloc (.cells #[x] e)).cell? ⟨w.heap.size, j, none⟩ = some u := fun j u hu => by
  rw [cell_of_row _ _ j _ _ _ (heap_alloc_new w (.cells #[x] e))]
  simpa using hu
theorem val_i64 {a b : Int} (h : a = b) : Value.int .i64 a = Value.int .i64 b := by rw [h]
theorem stepb {A d k : Nat} (h1 : 32 * 64 ^ (k + 1) = 64 * (32 * 64 ^ k)) (h2 : A < 32 * 64 ^ k) (h3 : 128 ≤ d) (h4 : d ≤ 191) : A * 64 + d - 128 < 32 * 64 ^ (k + 1) := by
  rw [h1]; omega
theorem below_draws {B : Nat} {a w : World} (h : Below B a w) (n : Nat) : Below B a (w.drewN n) := ⟨h.os, h.tape, h.output, h.size, h.block⟩

set_option maxHeartbeats 4000000 in
set_option maxRecDepth 100000 in
theorem runes_any (s : ByteArray) (w : World) (hs : s.size ≤ 65536) :
    Calls Tryd.prog 28 #[.string s] w (RunesR s w) := by
  obtain ⟨i0, hi, hz0, hz1, hz2⟩ := info_parts infoI
  have HI := Lib.hid hi
  clear hi
  go_enter Tryd.func28, Tryd.ntmps28
  go_wp2_with fail
  go_loopw [4, 5] (fun u x wr => ∃ (i : Nat) (pre : List Nat), x = .int .i64 i ∧ Hid (Upto s i pre) ∧ i ≤ s.size ∧ wr.ownsRow w.heap.size 3 1 u pre.length (ints pre) ∧ Below w.heap.size w wr) (fun _ x _ => s.size - (intOf x).toNat)
  case atStart =>
    refine ⟨0, [], rfl, Lib.hid (upto_zero s), Nat.zero_le _, ?_, (Below.refl _ _).alloc (Nat.le_refl _) _⟩
    exact own_new _ _ _ _ _ _ _ _ rfl (Nat.le_refl _) (by simp) (by simp [maxLen]) rfl (by simp [ints])
  case round =>
    obtain ⟨i, pre, rfl, hup, hle, hown, hb⟩ := hrel
    have HO := Lib.hid hown
    have HB := Lib.hid hb
    have hpl := hup.out.2.1
    clear hown hb
    by_cases hlt : i < s.size
    · have hg := at_get s i hlt
      have hil : (i : Int) < (s.size : Int) := by omega
      have hb0 := at_lt s i
      generalize hB0 : at' s i = b0 at *
      have HB0 := Lib.hid hB0
      clear hB0
      have hone0 := Lib.hid (one0 s i)
      by_cases h1 : b0 < 128
      · have hone := Lib.hid (one1 s i (by rw [HB0.out]; exact h1))
        rw [HB0.out] at hone
        go_wp2_with fail
        go_quiet (fail)
        have HOd := Lib.hid (show (wr.drewN nq).ownsRow w.heap.size 3 1 _ pre.length (ints pre) from HO.out)
        go_wp2_with fail
        go_loop [8, 9] (fun c k => c = .int .i64 b0 ∧ k = .int .i64 1) (fun _ _ => 0)
        case atStart => exact ⟨rfl, rfl⟩
        case round =>
          obtain ⟨rfl, rfl⟩ := hrel
          go_wp2_with (at_builtin; refine wpList_append_own _ rfl _ _ 48 rfl w.heap.size 3 i0 (.int .i64 0) 1 8 Tryd.underlying48 HI.out hz0 hz1 hz2 rfl (by decide) _ _ _ rfl (HOd.out.alloc _) ⟨(wr.drewN nq).heap.size, 0, none⟩ 1 1 [.int .i64 (b0 : Int)] rfl rfl ?_ ?_ ?_ ?_ ?_ ?_)
          · exact one_cell (wr.drewN nq) _ _
          · simp [Value.oneCell']
          · unfold maxLen; omega
          · omega
          · have := HB.out.size; simp; omega
          intro v9 w9 hown9 hg9 _
          have hb9 := ((below_draws HB.out nq).alloc (by have := HB.out.size; simp; omega) _).grown hg9 (by have := HB.out.size; simp; omega) (fun g hg => (HO.out.lt g hg).1)
          rw [ints_snoc, show pre.length + 1 = (pre ++ [b0]).length by simp] at hown9
          have HO9 := Lib.hid hown9
          have HB9 := Lib.hid hb9
          have HU9 := Lib.hid (hup.out.step hlt hone.out)
          have hle9 := HU9.out.1
          clear hown9 hg9 hb9
          go_wp2_with fail
          go_roundw
          case rel => exact ⟨i + 1, _, by go_num, HU9, hle9, HO9.out, HB9.out⟩
          case measure => simp [intOf]; omega
      by_cases h2 : b0 < 192
      · have hbad := Lib.hid (hone0.out (by rw [HB0.out]; omega) (.inl (by rw [HB0.out]; omega)))
        go_wp2_with fail
        go_quiet (fail)
        go_wp2_with fail
        go_ret2
        exact .inr ⟨hup.out.bad hlt hbad.out, rfl, below_draws HB.out _⟩
      by_cases h3 : b0 < 224
      · have hcl : ∀ a, acc s i (b0 - 192) 2 = a → _ := fun a ha => class2 (s := s) (i := i) (a := a) (by rw [HB0.out]; omega) (by rw [HB0.out]; omega) (by rw [HB0.out]; exact ha)
        have HCL := Lib.hid hcl
        clear hcl
        by_cases hsz : s.size - i < 2
        · have hbad := Lib.hid ((HCL.out _ rfl).2 (fun hx => by have := (hx.1 1 (by omega) (by omega)).1; omega))
          go_wp2_with fail
          go_quiet (fail)
          go_wp2_with fail
          go_ret2
          exact .inr ⟨hup.out.bad hlt hbad.out, rfl, below_draws HB.out _⟩
        · have q0 : decide ((b0 : Int) < 128) = false := by simp; omega
          have q1 : decide (192 ≤ (b0 : Int)) = true := by simp; omega
          have q2 : decide ((b0 : Int) < 224) = true := by simp; omega
          have qs : decide ((s.size : Int) - (i : Int) < 2) = false := by simp; omega
          go_wp2_with fail
          go_quiet (fail)
          have HOd := Lib.hid (show (wr.drewN nq).ownsRow w.heap.size 3 1 _ pre.length (ints pre) from HO.out)
          go_wp2_with fail
          go_loop [8, 9] (fun c x => ∃ k A : Nat, 1 ≤ k ∧ k ≤ 2 ∧ x = .int .i64 k ∧ c = .int .i64 A ∧ Hid (acc s i (b0 - 192) k = A) ∧ Hid (Conts s i k) ∧ A < 32 * 64 ^ k) (fun _ x => 2 - (intOf x).toNat)
          case atStart => exact ⟨1, b0 - 192, by omega, by omega, rfl, val_i64 (by omega), Lib.hid rfl, Lib.hid (conts_one s i), by omega⟩
          case round =>
            obtain ⟨k, A, hk1, hk2, rfl, rfl, hA, hK, hAl⟩ := hrel
            have hP : (64 : Nat) ^ k ≤ 64 ^ 4 := Nat.pow_le_pow_right (by omega) (by omega)
            have hP2 : 32 * 64 ^ (k + 1) = 64 * (32 * 64 ^ k) := by rw [Nat.pow_succ]; omega
            have HP2 := Lib.hid hP2
            have hAb : A < 1000000000 := by omega
            have HAl := Lib.hid hAl
            clear hP hP2 hAl
            by_cases hkn : k < 2
            · have hik : i + k < s.size := by omega
              have hgk := at_get s (i + k) hik
              have hd0 := at_lt s (i + k)
              generalize hD : at' s (i + k) = d at *
              have HD := Lib.hid hD
              clear hD
              by_cases hd1 : d < 128
              · have hbad := Lib.hid ((HCL.out _ rfl).2 (fun hx => by have := (hx.1 k hk1 hkn).2; rw [HD.out] at this; omega))
                go_wp2_with fail
                go_ret2
                exact .inr ⟨hup.out.bad hlt hbad.out, rfl, below_draws HB.out _⟩
              by_cases hd2 : 191 < d
              · have hbad := Lib.hid ((HCL.out _ rfl).2 (fun hx => by have := (hx.1 k hk1 hkn).2; rw [HD.out] at this; omega))
                go_wp2_with fail
                go_ret2
                exact .inr ⟨hup.out.bad hlt hbad.out, rfl, below_draws HB.out _⟩
              have hA' := Lib.hid (show acc s i (b0 - 192) (k + 1) = A * 64 + d - 128 by rw [acc_step s i _ k hk1, hA.out, HD.out])
              have hK' := Lib.hid (hK.out.step ⟨hik, by rw [HD.out]; omega⟩)
              go_wp2_with fail
              go_round
              case rel => first | exact ⟨k + 1, A * 64 + d - 128, by omega, by omega, by go_num, val_i64 (by omega), hA', hK', stepb HP2.out HAl.out (by omega) (by omega)⟩ | (refine ⟨trivial, ?_⟩; (repeat apply Exists.intro); refine ⟨?_, rfl⟩; exact ⟨k + 1, A * 64 + d - 128, by omega, by omega, by go_num, val_i64 (by omega), hA', hK', stepb HP2.out HAl.out (by omega) (by omega)⟩)
              case measure => simp [intOf]; omega
            · have hkN : k = 2 := by omega
              subst hkN
              have hc := Lib.hid (HCL.out A hA.out)
              by_cases hr1 : A < 128
              · have hbad := Lib.hid (hc.out.2 (fun hx => by have := hx.2.1; omega))
                go_wp2_with fail
                go_ret2
                exact .inr ⟨hup.out.bad hlt hbad.out, rfl, below_draws HB.out _⟩
              by_cases hr2 : 1114111 < A
              · have hbad := Lib.hid (hc.out.2 (fun hx => by have := hx.2.2.1; omega))
                go_wp2_with fail
                go_ret2
                exact .inr ⟨hup.out.bad hlt hbad.out, rfl, below_draws HB.out _⟩
              by_cases hr3 : 55296 ≤ A
              · by_cases hr4 : A ≤ 57343
                · have hbad := Lib.hid (hc.out.2 (fun hx => hx.2.2.2 ⟨hr3, hr4⟩))
                  go_wp2_with fail
                  go_ret2
                  exact .inr ⟨hup.out.bad hlt hbad.out, rfl, below_draws HB.out _⟩
                have hone := Lib.hid (hc.out.1 hK.out (by omega) (by omega) (by omega))
                go_wp2_with (at_builtin; refine wpList_append_own _ rfl _ _ 48 rfl w.heap.size 3 i0 (.int .i64 0) 1 8 Tryd.underlying48 HI.out hz0 hz1 hz2 rfl (by decide) _ _ _ rfl (HOd.out.alloc _) ⟨(wr.drewN nq).heap.size, 0, none⟩ 1 1 [.int .i64 (A : Int)] rfl rfl ?_ ?_ ?_ ?_ ?_ ?_)
                · exact one_cell (wr.drewN nq) _ _
                · simp [Value.oneCell']
                · unfold maxLen; omega
                · omega
                · have := HB.out.size; simp; omega
                intro v9 w9 hown9 hg9 _
                have hb9 := ((below_draws HB.out nq).alloc (by have := HB.out.size; simp; omega) _).grown hg9 (by have := HB.out.size; simp; omega) (fun g hg => (HO.out.lt g hg).1)
                rw [ints_snoc, show pre.length + 1 = (pre ++ [A]).length by simp] at hown9
                have HO9 := Lib.hid hown9
                have HB9 := Lib.hid hb9
                have HU9 := Lib.hid (hup.out.step hlt hone.out)
                have hle9 := HU9.out.1
                clear hown9 hg9 hb9
                go_wp2_with fail
                go_roundw
                case rel => exact ⟨i + 2, _, by go_num, HU9, hle9, HO9.out, HB9.out⟩
                case measure => simp [intOf]; omega
              have hone := Lib.hid (hc.out.1 hK.out (by omega) (by omega) (by omega))
              go_wp2_with (at_builtin; refine wpList_append_own _ rfl _ _ 48 rfl w.heap.size 3 i0 (.int .i64 0) 1 8 Tryd.underlying48 HI.out hz0 hz1 hz2 rfl (by decide) _ _ _ rfl (HOd.out.alloc _) ⟨(wr.drewN nq).heap.size, 0, none⟩ 1 1 [.int .i64 (A : Int)] rfl rfl ?_ ?_ ?_ ?_ ?_ ?_)
              · exact one_cell (wr.drewN nq) _ _
              · simp [Value.oneCell']
              · unfold maxLen; omega
              · omega
              · have := HB.out.size; simp; omega
              intro v9 w9 hown9 hg9 _
              have hb9 := ((below_draws HB.out nq).alloc (by have := HB.out.size; simp; omega) _).grown hg9 (by have := HB.out.size; simp; omega) (fun g hg => (HO.out.lt g hg).1)
              rw [ints_snoc, show pre.length + 1 = (pre ++ [A]).length by simp] at hown9
              have HO9 := Lib.hid hown9
              have HB9 := Lib.hid hb9
              have HU9 := Lib.hid (hup.out.step hlt hone.out)
              have hle9 := HU9.out.1
              clear hown9 hg9 hb9
              go_wp2_with fail
              go_roundw
              case rel => exact ⟨i + 2, _, by go_num, HU9, hle9, HO9.out, HB9.out⟩
              case measure => simp [intOf]; omega
      by_cases h4 : b0 < 240
      · have hcl : ∀ a, acc s i (b0 - 224) 3 = a → _ := fun a ha => class3 (s := s) (i := i) (a := a) (by rw [HB0.out]; omega) (by rw [HB0.out]; omega) (by rw [HB0.out]; exact ha)
        have HCL := Lib.hid hcl
        clear hcl
        by_cases hsz : s.size - i < 3
        · have hbad := Lib.hid ((HCL.out _ rfl).2 (fun hx => by have := (hx.1 2 (by omega) (by omega)).1; omega))
          go_wp2_with fail
          go_quiet (fail)
          go_wp2_with fail
          go_ret2
          exact .inr ⟨hup.out.bad hlt hbad.out, rfl, below_draws HB.out _⟩
        · have q0 : decide ((b0 : Int) < 128) = false := by simp; omega
          have q1 : decide (192 ≤ (b0 : Int)) = true := by simp; omega
          have q2 : decide ((b0 : Int) < 224) = false := by simp; omega
          have q3 : decide (224 ≤ (b0 : Int)) = true := by simp; omega
          have q4 : decide ((b0 : Int) < 240) = true := by simp; omega
          have qs : decide ((s.size : Int) - (i : Int) < 3) = false := by simp; omega
          go_wp2_with fail
          go_quiet (fail)
          have HOd := Lib.hid (show (wr.drewN nq).ownsRow w.heap.size 3 1 _ pre.length (ints pre) from HO.out)
          go_wp2_with fail
          go_loop [8, 9] (fun c x => ∃ k A : Nat, 1 ≤ k ∧ k ≤ 3 ∧ x = .int .i64 k ∧ c = .int .i64 A ∧ Hid (acc s i (b0 - 224) k = A) ∧ Hid (Conts s i k) ∧ A < 32 * 64 ^ k) (fun _ x => 3 - (intOf x).toNat)
          case atStart => exact ⟨1, b0 - 224, by omega, by omega, rfl, val_i64 (by omega), Lib.hid rfl, Lib.hid (conts_one s i), by omega⟩
          case round =>
            obtain ⟨k, A, hk1, hk2, rfl, rfl, hA, hK, hAl⟩ := hrel
            have hP : (64 : Nat) ^ k ≤ 64 ^ 4 := Nat.pow_le_pow_right (by omega) (by omega)
            have hP2 : 32 * 64 ^ (k + 1) = 64 * (32 * 64 ^ k) := by rw [Nat.pow_succ]; omega
            have HP2 := Lib.hid hP2
            have hAb : A < 1000000000 := by omega
            have HAl := Lib.hid hAl
            clear hP hP2 hAl
            by_cases hkn : k < 3
            · have hik : i + k < s.size := by omega
              have hgk := at_get s (i + k) hik
              have hd0 := at_lt s (i + k)
              generalize hD : at' s (i + k) = d at *
              have HD := Lib.hid hD
              clear hD
              by_cases hd1 : d < 128
              · have hbad := Lib.hid ((HCL.out _ rfl).2 (fun hx => by have := (hx.1 k hk1 hkn).2; rw [HD.out] at this; omega))
                go_wp2_with fail
                go_ret2
                exact .inr ⟨hup.out.bad hlt hbad.out, rfl, below_draws HB.out _⟩
              by_cases hd2 : 191 < d
              · have hbad := Lib.hid ((HCL.out _ rfl).2 (fun hx => by have := (hx.1 k hk1 hkn).2; rw [HD.out] at this; omega))
                go_wp2_with fail
                go_ret2
                exact .inr ⟨hup.out.bad hlt hbad.out, rfl, below_draws HB.out _⟩
              have hA' := Lib.hid (show acc s i (b0 - 224) (k + 1) = A * 64 + d - 128 by rw [acc_step s i _ k hk1, hA.out, HD.out])
              have hK' := Lib.hid (hK.out.step ⟨hik, by rw [HD.out]; omega⟩)
              go_wp2_with fail
              go_round
              case rel => first | exact ⟨k + 1, A * 64 + d - 128, by omega, by omega, by go_num, val_i64 (by omega), hA', hK', stepb HP2.out HAl.out (by omega) (by omega)⟩ | (refine ⟨trivial, ?_⟩; (repeat apply Exists.intro); refine ⟨?_, rfl⟩; exact ⟨k + 1, A * 64 + d - 128, by omega, by omega, by go_num, val_i64 (by omega), hA', hK', stepb HP2.out HAl.out (by omega) (by omega)⟩)
              case measure => simp [intOf]; omega
            · have hkN : k = 3 := by omega
              subst hkN
              have hc := Lib.hid (HCL.out A hA.out)
              by_cases hr1 : A < 2048
              · have hbad := Lib.hid (hc.out.2 (fun hx => by have := hx.2.1; omega))
                go_wp2_with fail
                go_ret2
                exact .inr ⟨hup.out.bad hlt hbad.out, rfl, below_draws HB.out _⟩
              by_cases hr2 : 1114111 < A
              · have hbad := Lib.hid (hc.out.2 (fun hx => by have := hx.2.2.1; omega))
                go_wp2_with fail
                go_ret2
                exact .inr ⟨hup.out.bad hlt hbad.out, rfl, below_draws HB.out _⟩
              by_cases hr3 : 55296 ≤ A
              · by_cases hr4 : A ≤ 57343
                · have hbad := Lib.hid (hc.out.2 (fun hx => hx.2.2.2 ⟨hr3, hr4⟩))
                  go_wp2_with fail
                  go_ret2
                  exact .inr ⟨hup.out.bad hlt hbad.out, rfl, below_draws HB.out _⟩
                have hone := Lib.hid (hc.out.1 hK.out (by omega) (by omega) (by omega))
                go_wp2_with (at_builtin; refine wpList_append_own _ rfl _ _ 48 rfl w.heap.size 3 i0 (.int .i64 0) 1 8 Tryd.underlying48 HI.out hz0 hz1 hz2 rfl (by decide) _ _ _ rfl (HOd.out.alloc _) ⟨(wr.drewN nq).heap.size, 0, none⟩ 1 1 [.int .i64 (A : Int)] rfl rfl ?_ ?_ ?_ ?_ ?_ ?_)
                · exact one_cell (wr.drewN nq) _ _
                · simp [Value.oneCell']
                · unfold maxLen; omega
                · omega
                · have := HB.out.size; simp; omega
                intro v9 w9 hown9 hg9 _
                have hb9 := ((below_draws HB.out nq).alloc (by have := HB.out.size; simp; omega) _).grown hg9 (by have := HB.out.size; simp; omega) (fun g hg => (HO.out.lt g hg).1)
                rw [ints_snoc, show pre.length + 1 = (pre ++ [A]).length by simp] at hown9
                have HO9 := Lib.hid hown9
                have HB9 := Lib.hid hb9
                have HU9 := Lib.hid (hup.out.step hlt hone.out)
                have hle9 := HU9.out.1
                clear hown9 hg9 hb9
                go_wp2_with fail
                go_roundw
                case rel => exact ⟨i + 3, _, by go_num, HU9, hle9, HO9.out, HB9.out⟩
                case measure => simp [intOf]; omega
              have hone := Lib.hid (hc.out.1 hK.out (by omega) (by omega) (by omega))
              go_wp2_with (at_builtin; refine wpList_append_own _ rfl _ _ 48 rfl w.heap.size 3 i0 (.int .i64 0) 1 8 Tryd.underlying48 HI.out hz0 hz1 hz2 rfl (by decide) _ _ _ rfl (HOd.out.alloc _) ⟨(wr.drewN nq).heap.size, 0, none⟩ 1 1 [.int .i64 (A : Int)] rfl rfl ?_ ?_ ?_ ?_ ?_ ?_)
              · exact one_cell (wr.drewN nq) _ _
              · simp [Value.oneCell']
              · unfold maxLen; omega
              · omega
              · have := HB.out.size; simp; omega
              intro v9 w9 hown9 hg9 _
              have hb9 := ((below_draws HB.out nq).alloc (by have := HB.out.size; simp; omega) _).grown hg9 (by have := HB.out.size; simp; omega) (fun g hg => (HO.out.lt g hg).1)
              rw [ints_snoc, show pre.length + 1 = (pre ++ [A]).length by simp] at hown9
              have HO9 := Lib.hid hown9
              have HB9 := Lib.hid hb9
              have HU9 := Lib.hid (hup.out.step hlt hone.out)
              have hle9 := HU9.out.1
              clear hown9 hg9 hb9
              go_wp2_with fail
              go_roundw
              case rel => exact ⟨i + 3, _, by go_num, HU9, hle9, HO9.out, HB9.out⟩
              case measure => simp [intOf]; omega
      by_cases h5 : b0 < 248
      · have hcl : ∀ a, acc s i (b0 - 240) 4 = a → _ := fun a ha => class4 (s := s) (i := i) (a := a) (by rw [HB0.out]; omega) (by rw [HB0.out]; omega) (by rw [HB0.out]; exact ha)
        have HCL := Lib.hid hcl
        clear hcl
        by_cases hsz : s.size - i < 4
        · have hbad := Lib.hid ((HCL.out _ rfl).2 (fun hx => by have := (hx.1 3 (by omega) (by omega)).1; omega))
          go_wp2_with fail
          go_quiet (fail)
          go_wp2_with fail
          go_ret2
          exact .inr ⟨hup.out.bad hlt hbad.out, rfl, below_draws HB.out _⟩
        · have q0 : decide ((b0 : Int) < 128) = false := by simp; omega
          have q1 : decide (192 ≤ (b0 : Int)) = true := by simp; omega
          have q2 : decide ((b0 : Int) < 224) = false := by simp; omega
          have q3 : decide (224 ≤ (b0 : Int)) = true := by simp; omega
          have q4 : decide ((b0 : Int) < 240) = false := by simp; omega
          have q5 : decide (240 ≤ (b0 : Int)) = true := by simp; omega
          have q6 : decide ((b0 : Int) < 248) = true := by simp; omega
          have qs : decide ((s.size : Int) - (i : Int) < 4) = false := by simp; omega
          go_wp2_with fail
          go_quiet (fail)
          have HOd := Lib.hid (show (wr.drewN nq).ownsRow w.heap.size 3 1 _ pre.length (ints pre) from HO.out)
          go_wp2_with fail
          go_loop [8, 9] (fun c x => ∃ k A : Nat, 1 ≤ k ∧ k ≤ 4 ∧ x = .int .i64 k ∧ c = .int .i64 A ∧ Hid (acc s i (b0 - 240) k = A) ∧ Hid (Conts s i k) ∧ A < 32 * 64 ^ k) (fun _ x => 4 - (intOf x).toNat)
          case atStart => exact ⟨1, b0 - 240, by omega, by omega, rfl, val_i64 (by omega), Lib.hid rfl, Lib.hid (conts_one s i), by omega⟩
          case round =>
            obtain ⟨k, A, hk1, hk2, rfl, rfl, hA, hK, hAl⟩ := hrel
            have hP : (64 : Nat) ^ k ≤ 64 ^ 4 := Nat.pow_le_pow_right (by omega) (by omega)
            have hP2 : 32 * 64 ^ (k + 1) = 64 * (32 * 64 ^ k) := by rw [Nat.pow_succ]; omega
            have HP2 := Lib.hid hP2
            have hAb : A < 1000000000 := by omega
            have HAl := Lib.hid hAl
            clear hP hP2 hAl
            by_cases hkn : k < 4
            · have hik : i + k < s.size := by omega
              have hgk := at_get s (i + k) hik
              have hd0 := at_lt s (i + k)
              generalize hD : at' s (i + k) = d at *
              have HD := Lib.hid hD
              clear hD
              by_cases hd1 : d < 128
              · have hbad := Lib.hid ((HCL.out _ rfl).2 (fun hx => by have := (hx.1 k hk1 hkn).2; rw [HD.out] at this; omega))
                go_wp2_with fail
                go_ret2
                exact .inr ⟨hup.out.bad hlt hbad.out, rfl, below_draws HB.out _⟩
              by_cases hd2 : 191 < d
              · have hbad := Lib.hid ((HCL.out _ rfl).2 (fun hx => by have := (hx.1 k hk1 hkn).2; rw [HD.out] at this; omega))
                go_wp2_with fail
                go_ret2
                exact .inr ⟨hup.out.bad hlt hbad.out, rfl, below_draws HB.out _⟩
              have hA' := Lib.hid (show acc s i (b0 - 240) (k + 1) = A * 64 + d - 128 by rw [acc_step s i _ k hk1, hA.out, HD.out])
              have hK' := Lib.hid (hK.out.step ⟨hik, by rw [HD.out]; omega⟩)
              go_wp2_with fail
              go_round
              case rel => first | exact ⟨k + 1, A * 64 + d - 128, by omega, by omega, by go_num, val_i64 (by omega), hA', hK', stepb HP2.out HAl.out (by omega) (by omega)⟩ | (refine ⟨trivial, ?_⟩; (repeat apply Exists.intro); refine ⟨?_, rfl⟩; exact ⟨k + 1, A * 64 + d - 128, by omega, by omega, by go_num, val_i64 (by omega), hA', hK', stepb HP2.out HAl.out (by omega) (by omega)⟩)
              case measure => simp [intOf]; omega
            · have hkN : k = 4 := by omega
              subst hkN
              have hc := Lib.hid (HCL.out A hA.out)
              by_cases hr1 : A < 65536
              · have hbad := Lib.hid (hc.out.2 (fun hx => by have := hx.2.1; omega))
                go_wp2_with fail
                go_ret2
                exact .inr ⟨hup.out.bad hlt hbad.out, rfl, below_draws HB.out _⟩
              by_cases hr2 : 1114111 < A
              · have hbad := Lib.hid (hc.out.2 (fun hx => by have := hx.2.2.1; omega))
                go_wp2_with fail
                go_ret2
                exact .inr ⟨hup.out.bad hlt hbad.out, rfl, below_draws HB.out _⟩
              have hone := Lib.hid (hc.out.1 hK.out (by omega) (by omega) (by omega))
              go_wp2_with (at_builtin; refine wpList_append_own _ rfl _ _ 48 rfl w.heap.size 3 i0 (.int .i64 0) 1 8 Tryd.underlying48 HI.out hz0 hz1 hz2 rfl (by decide) _ _ _ rfl (HOd.out.alloc _) ⟨(wr.drewN nq).heap.size, 0, none⟩ 1 1 [.int .i64 (A : Int)] rfl rfl ?_ ?_ ?_ ?_ ?_ ?_)
              · exact one_cell (wr.drewN nq) _ _
              · simp [Value.oneCell']
              · unfold maxLen; omega
              · omega
              · have := HB.out.size; simp; omega
              intro v9 w9 hown9 hg9 _
              have hb9 := ((below_draws HB.out nq).alloc (by have := HB.out.size; simp; omega) _).grown hg9 (by have := HB.out.size; simp; omega) (fun g hg => (HO.out.lt g hg).1)
              rw [ints_snoc, show pre.length + 1 = (pre ++ [A]).length by simp] at hown9
              have HO9 := Lib.hid hown9
              have HB9 := Lib.hid hb9
              have HU9 := Lib.hid (hup.out.step hlt hone.out)
              have hle9 := HU9.out.1
              clear hown9 hg9 hb9
              go_wp2_with fail
              go_roundw
              case rel => exact ⟨i + 4, _, by go_num, HU9, hle9, HO9.out, HB9.out⟩
              case measure => simp [intOf]; omega
      have hbad := Lib.hid (hone0.out (by rw [HB0.out]; omega) (.inr (by rw [HB0.out]; omega)))
      go_wp2_with fail
      go_quiet (fail)
      go_wp2_with fail
      go_ret2
      exact .inr ⟨hup.out.bad hlt hbad.out, rfl, below_draws HB.out _⟩
    · go_wp2_with fail
      go_ret2
      exact .inl ⟨pre, _, hup.out.done hlt, rfl, HO.out, HB.out⟩
end Go.Proofs.YtlblappalhofmaaDoor
