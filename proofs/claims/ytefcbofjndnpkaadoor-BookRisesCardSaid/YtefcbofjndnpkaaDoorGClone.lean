/- What bytes.Clone answers: a copy in memory of the call's own, nil of nil. -/
import Derived.Test.YtefcbofjndnpkaaDoorGAppS
import Derived.Test.YtefcbofjndnpkaaDoorGLaw
import Derived.WalkKit
import Derived.WalkSpells
namespace Go.Proofs.YtefcbofjndnpkaaDoor
open Go.RowKit Tide

/-- A copy: nil of nil, and else new memory of the call's own. -/
theorem clone_any (v : Value) (L : List UInt8) (B : Nat) (w : World) (hp : Bytes w B v L) (hB : B ≤ w.heap.size) (hL : L.length ≤ 1000000) :
    Calls Tryd.prog 50 #[v] w fun e w' => ∃ v', e = .returned v' ∧ w'.ownsRow w.heap.size 5 1 v' L.length (u8s L) ∧ Below w.heap.size w w' := by
  obtain ⟨i0, hi, hz0, hz1, hz2⟩ := info_parts infoB
  have HI := Lib.hid hi
  have HP := Lib.hid (hp.more hB)
  obtain ⟨A, c, rfl, _, _, hb⟩ := hp.form
  clear hi hp hB
  rcases A with _ | a
  · have hl : L = [] := by
      rcases L with _ | ⟨x, L⟩
      · rfl
      · obtain ⟨_, _, h, _⟩ := hb 0 (by simp)
        cases h
    subst hl
    have hq := fun W : World => Lib.run_eql_slice_nil (P := Tryd.prog) W 58 5 none 0 c 0 0 Tryd.underlying58
    go_enter Tryd.func50, Tryd.ntmps50
    go_wp2
    go_ret
    exact ⟨_, rfl, ⟨by simp [u8s], .inl ⟨rfl, rfl⟩⟩, Below.refl _ _⟩
  · clear hb
    have hq := fun W : World => Lib.run_eql_slice_nil (P := Tryd.prog) W 58 5 (some a) L.length c 0 0 Tryd.underlying58
    go_enter Tryd.func50, Tryd.ntmps50
    go_wp2_with (at_builtin; refine wpList_append_row _ rfl (.tmp 5) (.tmp 6) _ rfl w.heap.size 5 i0 (.int .u8 0) 1 Tryd.underlying58 HI.out hz0 hz1 hz2 rfl _ 0 [] rfl ?c1 w.heap.size _ (u8s L) rfl (HP.out.alloc (Nat.le_refl _)) (u8s_one _) ?d1 ?d2 ?d3 ?_)
    case c1 => exact own_new _ _ _ _ _ _ _ _ rfl (Nat.le_refl _) (by simp) (by simp [maxLen]) rfl (by simp)
    case d1 => rw [u8s_length]; unfold maxLen; omega
    case d2 => rw [u8s_length]; omega
    case d3 => simp
    intro v4 w4 hown4 hg4 _
    have hb5 := ((Below.refl w.heap.size w).alloc (Nat.le_refl _) _).grown hg4 (by simp) (fun g hg => by simp [Value.ownBlock] at hg; omega)
    rw [u8s_length] at hown4
    go_wp2_with fail
    go_ret
    exact ⟨_, rfl, hown4, hb5⟩
end Go.Proofs.YtefcbofjndnpkaaDoor
