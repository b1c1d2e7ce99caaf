/- []byte of a text. It speaks of no law. -/
import Derived.Test.YtefcbofjndnpkaaDoorGMem
import Derived.Test.YtefcbofjndnpkaaDoorGLaw
import Derived.Test.YtefcbofjndnpkaaDoorGApp
import Derived.Lib.ConvBytes
import Derived.WalkSpells
namespace Go.Proofs.YtefcbofjndnpkaaDoor
open Go Go.RowKit Tide

theorem conv_str (w : World) (l : List UInt8) (hl : l.length ≤ 100000) : ∃ v w', (convert 9 58 (.string ⟨l.toArray⟩)).run Tryd.prog w = .ok v w' ∧ Bytes w' w'.heap.size v l ∧ Below w.heap.size w w' := by
  have hs : (⟨l.toArray⟩ : ByteArray).size = l.length := by show l.toArray.size = _; simp
  have hb : Below w.heap.size w (Lib.bytesWorld w 5 ⟨l.toArray⟩) := ⟨rfl, rfl, rfl, by rw [Lib.bytesWorld_size]; omega, fun k hk => Lib.bytesWorld_at_old w _ _ k hk⟩
  refine ⟨_, _, Lib.run_convert_string_bytes w 9 58 5 ⟨l.toArray⟩ Tryd.underlying9 Tryd.underlying58 Tryd.underlying5, ?_, hb⟩
  have hcap : (⟨l.toArray⟩ : ByteArray).size ≤ grownCap w (⟨l.toArray⟩ : ByteArray).size 0 5 := grownCap_ge w _ _ _
  have hcap2 : grownCap w (⟨l.toArray⟩ : ByteArray).size 0 5 ≤ 9223372036854775807 := by
    have := grownCap_le_maxLen w (⟨l.toArray⟩ : ByteArray).size 0 5 (by rw [hs]; unfold maxLen; omega)
    unfold maxLen at this; exact this
  refine ⟨by rw [u8s_length]; omega, some ⟨w.heap.size, 0, none⟩, _, by rw [u8s_length, hs], by rw [u8s_length, ← hs]; exact hcap, hcap2, fun _ => ⟨w.heap.size, 0, rfl, by rw [Lib.bytesWorld_size]; omega, fun j u hu => ?_⟩⟩
  have hj : j < l.length := by
    have := (List.getElem?_eq_some_iff.1 hu).1
    rwa [u8s_length] at this
  rw [Nat.zero_add, Lib.bytesWorld_cell w _ _ j (by rw [hs]; exact hj), ← hu, u8s_get l j hj]
  simp [hj]
end Go.Proofs.YtefcbofjndnpkaaDoor
