/- The chapter's example of numbers as bytes holds, over what a writer's functions do. -/
import Derived.Test.YtcmihmilkcihcaaDoorPackWL
namespace Go.Proofs.YtcmihmilkcihcaaDoor
open Go.RowKit Tide

theorem num300 : num7 300 = [172, 2] := by
  rw [num7_ge (by omega), num7_lt (by omega)]
  rfl
/-- A writer on its own. -/
structure OS (O : OutP) (w0 : World) (p : Nat) (st : Option (List UInt8)) (n : Nat) (F : Nat → Prop) (W : World) : Prop where
  out : O W F p st n
  later : ∀ i, F i → w0.heap.size ≤ i
  below : Below w0.heap.size w0 W
section
variable {a : Nat → Addr} {O : OutP} {w0 W W' : World} {p n n' : Nat} {st st' : Option (List UInt8)} {F F' : Nat → Prop}
theorem OS.quiet (hS : OutSpec a O) (h : OS O w0 p st n F W) (hb : Below W.heap.size W W') : OS O w0 p st n F W' :=
  ⟨hS.keep _ _ _ (fun _ => False) _ _ _ h.out (Kept.of_below hb) (fun _ _ h => h), h.later, h.below.trans (hb.mono h.below.size)⟩
theorem OS.wrote (h : OS O w0 p st n F W) (h1 : O W' F' p st' n') (h2 : ∀ k, F' k → F k ∨ W.heap.size ≤ k) (h3 : Kept F W W') : OS O w0 p st' n' F' W' :=
  ⟨h1, fun i hi => (h2 i hi).elim (h.later i) (fun hw => Nat.le_trans h.below.size hw), Below.kept h.below h3 h.below.size h.later⟩
theorem os_start (hS : OutSpec a O) (hE0 : Errs w0 a) (hb : Below w0.heap.size w0 W) : OS O w0 W.heap.size (some []) 0 (fun k => k = W.heap.size) (W.alloc (.cells #[.slice none 0 0, .nilIface] 30)) :=
  ⟨hS.new W (hE0.below hb), fun i hi => by have := hb.size; omega, hb.alloc hb.size _⟩
end

set_option maxHeartbeats 1000000 in
theorem palive_any (a : Nat → Addr) (O : OutP) (hS : OutSpec a O) (w : World) (hE : Errs w a) : Calls Tryd.prog 6 #[] w fun e w' => e = .returned (.bool true) ∧ Below w.heap.size w w' := by
  have HE := Lib.hid hE
  have HS := Lib.hid hS
  have W1 := Lib.hid (os_start hS hE (Below.refl w.heap.size w))
  have cO := Lib.hid (hS.num _ _ _ _ _ 300 W1.out.out (by omega) (by omega) (by omega) (hE.below W1.out.below))
  have hst : stNum (some []) 300 = some [172, 2] := by rw [stNum_ok rfl]; show some ([] ++ num7 300) = _; rw [num300]; rfl
  rw [hst] at cO
  clear hE hS hst
  go_enter Tryd.func6, Tryd.ntmps6
  go_wp2_with fail
  refine cO.out.mono ?_
  rintro e w1 ⟨rfl, F', hO', hF', hK'⟩
  have W2 := Lib.hid (W1.out.wrote hO' hF' hK')
  have cD := Lib.hid (HS.out.done _ _ _ _ _ W2.out.out (by omega) (HE.out.below W2.out.below))
  clear hO' hF' hK'
  go_wp2_with fail
  refine cD.out.mono ?_
  rintro e w2 ⟨vd, x, rfl, hbv, hx, hkk⟩
  have hbv2 : Bytes w2 w2.heap.size vd [172, 2] := hbv
  rcases hx with ⟨_, rfl⟩ | ⟨m, hm, h0, rfl⟩
  rotate_left
  · have h1 : (0 : Nat) = m + 1 := h0
    omega
  have hB := Lib.hid (Below.kept W2.out.below hkk W2.out.below.size W2.out.later)
  have cv := conv_bytes hbv2
  have ht : text [172, 2] = ⟨#[172, 2]⟩ := rfl
  rw [ht] at cv
  clear hbv hbv2 hkk ht
  go_wp2_with fail
  go_ret
  exact ⟨rfl, hB.out⟩
end Go.Proofs.YtcmihmilkcihcaaDoor
