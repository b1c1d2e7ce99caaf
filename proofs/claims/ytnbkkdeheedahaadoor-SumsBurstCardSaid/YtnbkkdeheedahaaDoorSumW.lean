/- What sums.Size and sums.Sum answer, by walking their text: for every world in which the table of package sums lies and the parts can be read. -/
import Derived.Test.YtnbkkdeheedahaaDoorRows
import Derived.Test.YtnbkkdeheedahaaDoorCrc
import Derived.WalkKit
import Derived.WalkSpells
import Derived.WalkLawsBesides
import Derived.Lib.Hide
import Derived.Laws.BitsAllLaws
import Derived.Laws.BytesArg
namespace Go.Proofs.YtnbkkdeheedahaaDoor
open Go.RowKit Tide

theorem ret_int {k : IntKind} {a b : Int} (h : a = b) : Ending.returned (.int k a) = .returned (.int k b) := by rw [h]
/-- What Size answers. -/
def sizeI (n : Int) : Int := if 0 ≤ n ∧ n ≤ 2048 then n + 6 else 0
theorem size_any (n : Int) (w : World) :
    Calls Tryd.prog 15 #[.int .i64 n] w fun e w' => e = .returned (.int .i64 (sizeI n)) ∧ w = w' := by
  by_cases h0 : n < 0
  · have hs := Lib.hid (show sizeI n = 0 by unfold sizeI; rw [if_neg (by omega)])
    go_enter Tryd.func15, Tryd.ntmps15
    go_wp2
    go_ret
    exact ⟨by rw [hs.out]; rfl, rfl⟩
  · by_cases h1 : n ≤ 2048
    · have hs := Lib.hid (show sizeI n = n + 6 by unfold sizeI; rw [if_pos (by omega)])
      go_enter Tryd.func15, Tryd.ntmps15
      go_wp2
      go_ret
      exact ⟨ret_int (by rw [hs.out]; omega), rfl⟩
    · have hs := Lib.hid (show sizeI n = 0 by unfold sizeI; rw [if_neg (by omega)])
      go_enter Tryd.func15, Tryd.ntmps15
      go_wp2
      go_ret
      exact ⟨by rw [hs.out]; rfl, rfl⟩

end Go.Proofs.YtnbkkdeheedahaaDoor
