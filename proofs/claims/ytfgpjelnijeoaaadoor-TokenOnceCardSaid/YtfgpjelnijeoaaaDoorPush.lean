/- A whole number appended to a row of the call's own. It speaks of no function. -/
import Derived.Test.YtfgpjelnijeoaaaDoorPlS
import Derived.Test.YtfgpjelnijeoaaaDoorApp
import Derived.Test.YtfgpjelnijeoaaaDoorKeep
import Derived.WalkKit
namespace Go.Proofs.YtfgpjelnijeoaaaDoor
open Go Go.RowKit Tide

theorem infoInt : (Tryd.prog.info? 3).map (fun i => (i.zero, i.size, i.bytes)) = some (some (.int .i64 0), 1, 8) := by kernel_rfl
theorem ints_one (l : List Int) : ∀ u ∈ int64s l, u.oneCell' = true := by
  intro u hu
  simp only [int64s, List.mem_map] at hu
  obtain ⟨z, _, rfl⟩ := hu
  rfl
theorem ints_app (l m : List Int) : int64s (l ++ m) = int64s l ++ int64s m := by simp [int64s]
/-- A row of whole numbers of the call's own. -/
def Own (w : World) (base : Nat) (v : Value) (l : List Int) : Prop := w.ownsRow base 3 1 v l.length (int64s l)
theorem Own.row {w : World} {base : Nat} {v : Value} {l : List Int} (h : Own w base v l) : Row w w.heap.size v (int64s l) := Row.of_own h (Nat.le_refl _)
theorem Own.below {w w' : World} {base : Nat} {v : Value} {l : List Int} (h : Own w base v l) (hb : Below w.heap.size w w') : Own w' base v l := own_below h hb
theorem Own.new (w : World) (base : Nat) (hb : base ≤ w.heap.size) (g : Nat) (hg : g = w.heap.size) : Own (w.alloc (.cells #[] 3)) base (.slice (some ⟨g, 0, none⟩) 0 0) [] :=
  own_new _ _ _ _ _ _ _ _ hg hb (Nat.le_refl _) (by simp [maxLen]) rfl rfl
/-- append of one. -/
theorem wpList_push {ops : Array Oper} {rest : List Oper} {o : Oper} {a : Act} {Q : Exit → Act → World → Prop} (hgd : o.guard = none) (s y : Operand) (ho : o.op = .call { callee := .builtin .append, args := #[s, y], argTypes := #[37, 37] })
    {W : World} {base : Nat} {v : Value} {l : List Int} (x : Int) (hs : a.eval s = v) (hy : a.eval y = .slice (some ⟨W.heap.size, 0, none⟩) 1 1) (hown : Own W base v l) (hl : l.length ≤ 1000000) (hb : base ≤ W.heap.size)
    (h : ∀ v' w', Own w' base v' (l ++ [x]) → Kept (fun k => v.ownBlock = some k) W w' → Below base W w' → wpList Tryd.prog ops Q rest (a.put o.dst v') w') : wpList Tryd.prog ops Q (o :: rest) a (W.alloc (.cells #[.int .i64 x] 3)) := by
  obtain ⟨i0, hi, hz0, hz1, hz2⟩ := info_parts infoInt
  refine wpList_append_row (W.alloc (.cells #[.int .i64 x] 3)) hgd s y _ ho base 3 i0 (.int .i64 0) 8 Tryd.underlying37 hi hz0 hz1 hz2 rfl _ l.length (int64s l) hs (own_below hown ((Below.refl _ _).alloc (Nat.le_refl _) _)) (W.heap.size + 1) _ [.int .i64 x] hy (Row.new W _ #[.int .i64 x] (0, 0) W.heap.size 1 rfl rfl (by omega)) (by simp [Value.oneCell']) (by simp [maxLen]; omega) (by simp; omega) (by simp; omega) ?_
  intro v' w' h1 h2 _
  refine h v' w' ?_ (Kept.grown ((Kept.refl (fun k => v.ownBlock = some k) W).alloc _) h2 (fun k hk => .inl hk)) ?_
  · unfold Own
    rw [ints_app, List.length_append]
    exact h1
  · exact ((Below.refl base W).alloc hb _).grown h2 (by simp; omega) (fun k hk => (hown.lt k hk).1)
end Go.Proofs.YtfgpjelnijeoaaaDoor
