/- The project's Right and Count: which texts are right, and how many runes they have. The library's functions are met by the shelf's contracts. -/
import Derived.Test.YtcddgllckadodaaDoorGShelf
import Derived.Test.YtcddgllckadodaaDoorGUtfV
import Derived.Test.YtcddgllckadodaaDoorGMem
import Derived.Test.YtcddgllckadodaaDoorRows
import Derived.WalkKit
import Derived.WalkMore
import Derived.WalkSpells
namespace Go.Proofs.YtcddgllckadodaaDoor
open Go.RowKit Go.Shelf Tide Utf

/-- The library's two tables lie. -/
def Tabs (w : World) : Prop := Lib.Utf8Tabs 19 20 w
theorem Tabs.below {w w' : World} (h : Tabs w) (hb : Below w.heap.size w w') : Tabs w' := Utf8Tabs_below h hb
theorem Tabs.alloc {w : World} (h : Tabs w) (o : Obj) : Tabs (w.alloc o) := h.below ((Below.refl _ _).alloc (Nat.le_refl _) o)
theorem below_drawn {B : Nat} {a w : World} (h : Below B a w) (n : Nat) : Below B a (w.drewN n) := ⟨h.os, h.tape, h.output, h.size, h.block⟩
theorem below_iter {B : Nat} {a w : World} (h : Below B a w) (hB : B ≤ w.heap.size) (s : ByteArray) (p : Nat) : Below B a (w.iter s p) := h.alloc hB _

theorem right_any (s : ByteArray) (w : World) (hs : s.size ≤ 9223372036854775807) (hT : Tabs w) :
    Calls Tryd.prog 72 #[.string s] w fun e w' => e = .returned (.bool (ok s)) ∧ Below w.heap.size w w' := by
  have cV : Calls Tryd.prog 74 #[.string s] w _ := Any.utf8_ValidString Tryd.lays196 s w hs hT
  rw [valid_ok] at cV
  generalize ok s = V at cV ⊢
  go_enter Tryd.func72, Tryd.ntmps72
  go_wp2_with (go_at_call 74; refine cV.mono ?_; rintro e w' ⟨rfl, hb⟩)
  go_ret
  exact ⟨rfl, hb⟩
theorem right_true (s : ByteArray) (w : World) (hs : s.size ≤ 9223372036854775807) (hT : Tabs w) (h : ok s = true) :
    Calls Tryd.prog 72 #[.string s] w fun e w' => e = .returned (.bool true) ∧ Below w.heap.size w w' :=
  (right_any s w hs hT).mono fun _ _ ⟨he, hb⟩ => ⟨by rw [he, h], hb⟩
theorem right_false (s : ByteArray) (w : World) (hs : s.size ≤ 9223372036854775807) (hT : Tabs w) (h : ok s = false) :
    Calls Tryd.prog 72 #[.string s] w fun e w' => e = .returned (.bool false) ∧ Below w.heap.size w w' :=
  (right_any s w hs hT).mono fun _ _ ⟨he, hb⟩ => ⟨by rw [he, h], hb⟩
theorem right_pos {s : ByteArray} {l : List Nat} (w : World) (hs : s.size ≤ 9223372036854775807) (hT : Tabs w) (h : runes s 0 = some l) :
    Calls Tryd.prog 72 #[.string s] w fun e w' => e = .returned (.bool true) ∧ Below w.heap.size w w' := right_true s w hs hT (ok_some h)
theorem right_neg {s : ByteArray} (w : World) (hs : s.size ≤ 9223372036854775807) (hT : Tabs w) (h : runes s 0 = none) :
    Calls Tryd.prog 72 #[.string s] w fun e w' => e = .returned (.bool false) ∧ Below w.heap.size w w' := right_false s w hs hT (ok_none h)

theorem count_none (s : ByteArray) (w : World) (hs : s.size ≤ 9223372036854775806) (hT : Tabs w) (h : runes s 0 = none) :
    Calls Tryd.prog 71 #[.string s] w fun e w' => e = .returned (.int .i64 (-1)) ∧ Below w.heap.size w w' := by
  have cR := right_neg w (by omega) hT h
  clear h
  go_enter Tryd.func71, Tryd.ntmps71
  go_wp2_with (go_at_call 72; refine cR.mono ?_; rintro e w' ⟨rfl, hb⟩)
  go_ret
  exact ⟨rfl, hb⟩
theorem count_some {s : ByteArray} {l : List Nat} (w : World) (hs : s.size ≤ 9223372036854775806) (hT : Tabs w) (h : runes s 0 = some l) :
    Calls Tryd.prog 71 #[.string s] w fun e w' => e = .returned (.int .i64 (l.length : Nat)) ∧ Below w.heap.size w w' := by
  have cR := right_pos w (by omega) hT h
  have cC : ∀ W, Calls Tryd.prog 73 #[.string s] W _ := fun W => Any.utf8_RuneCountInString Tryd.lays195 s W (by omega)
  rw [count_runes h] at cC
  clear h
  go_enter Tryd.func71, Tryd.ntmps71
  go_wp2_with fail
  refine cR.mono ?_
  rintro e w1 ⟨rfl, hb⟩
  go_wp2_with fail
  refine (cC _).mono ?_
  rintro e w2 ⟨rfl, p, rfl⟩
  go_wp2_with fail
  go_ret
  exact ⟨rfl, below_iter hb hb.size _ _⟩
end Go.Proofs.YtcddgllckadodaaDoor
