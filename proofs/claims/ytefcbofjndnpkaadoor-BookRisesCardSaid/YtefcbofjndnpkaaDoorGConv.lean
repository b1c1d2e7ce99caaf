/- string(v), for bytes v that lie in memory. It speaks of no law. -/
import Derived.Test.YtefcbofjndnpkaaDoorGMem
import Derived.Test.YtefcbofjndnpkaaDoorGLaw
import Derived.Laws.BytesArg
import Derived.Laws.IdiomStrings
import Derived.WalkSpells
namespace Go.Proofs.YtefcbofjndnpkaaDoor
open Go.RowKit Tide

/-- The text of bytes. -/
def text (l : List UInt8) : ByteArray := ⟨l.toArray⟩
/-- string(v), for bytes v. -/
theorem conv_bytes {w : World} {B : Nat} {v : Value} {l : List UInt8} (h : Bytes w B v l) : (convert 58 9 v).run Tryd.prog w = .ok (.string (text l)) w := by
  obtain ⟨A, c, rfl, _, _, hb⟩ := h.form
  rcases A with _ | a
  · have hl : l = [] := by
      rcases l with _ | ⟨x, l⟩
      · rfl
      · obtain ⟨_, _, h, _⟩ := hb 0 (by simp)
        cases h
    subst hl
    exact run_convert_bytes_nil (P := Tryd.prog) w 58 5 Tryd.underlying58 Tryd.underlying5 _ c 9 Tryd.underlying9
  · refine run_convert_bytes_back (P := Tryd.prog) w 58 9 5 a c l Tryd.underlying58 Tryd.underlying5 Tryd.underlying9 (fun j hj => ?_)
    obtain ⟨b, o, e, _, hc⟩ := hb j hj
    injection e with e
    subst e
    rw [show (⟨b, o, none⟩ : Addr).add j = ⟨b, o + j, none⟩ by unfold Addr.add; split <;> simp_all]
    exact hc j hj
end Go.Proofs.YtefcbofjndnpkaaDoor
