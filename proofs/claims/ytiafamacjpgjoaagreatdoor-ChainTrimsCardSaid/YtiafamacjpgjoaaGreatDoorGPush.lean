/- A whole number appended to a row of the call's own. It speaks of no function. -/
import Derived.Test.YtiafamacjpgjoaaGreatDoorGKeep
import Derived.Test.YtiafamacjpgjoaaGreatDoorGApp
import Derived.WalkKit
namespace Go.Proofs.YtiafamacjpgjoaaGreatDoor
open Go Go.RowKit Tide

theorem infoInt : (Tryz.prog.info? 3).map (fun i => (i.zero, i.size, i.bytes)) = some (some (.int .i64 0), 1, 8) := by kernel_rfl
theorem ints_one (l : List Int) : ∀ u ∈ int64s l, u.oneCell' = true := by
  intro u hu
  simp only [int64s, List.mem_map] at hu
  obtain ⟨z, _, rfl⟩ := hu
  rfl
theorem ints_app (l m : List Int) : int64s (l ++ m) = int64s l ++ int64s m := by simp [int64s]
def Own (w : World) (base : Nat) (v : Value) (l : List Int) : Prop := w.ownsRow base 3 1 v l.length (int64s l)
theorem Own.row {w : World} {base : Nat} {v : Value} {l : List Int} (h : Own w base v l) : Row w w.heap.size v (int64s l) := Row.of_own h (Nat.le_refl _)
end Go.Proofs.YtiafamacjpgjoaaGreatDoor

/- Rows of units of the call's own: an append of one. It speaks of no function. -/
namespace Go.Proofs.YtiafamacjpgjoaaGreatDoor
open Go Go.RowKit Tide

def ptrs (l : List Nat) : List Value := l.map fun g => .pointer (some ⟨g, 0, none⟩)
theorem ptrs_one (l : List Nat) : ∀ u ∈ ptrs l, u.oneCell' = true := by
  intro u hu
  simp only [ptrs, List.mem_map] at hu
  obtain ⟨z, _, rfl⟩ := hu
  rfl
theorem ptrs_app (l m : List Nat) : ptrs (l ++ m) = ptrs l ++ ptrs m := by simp [ptrs]
theorem ptrs_len (l : List Nat) : (ptrs l).length = l.length := by simp [ptrs]
theorem infoUn : (Tryz.prog.info? 70).map (fun i => (i.zero, i.size, i.bytes)) = some (some (.pointer none), 1, 8) := by kernel_rfl
def OwnUn (w : World) (base : Nat) (v : Value) (l : List Nat) : Prop := w.ownsRow base 70 1 v l.length (ptrs l)
theorem OwnUn.row {w : World} {base : Nat} {v : Value} {l : List Nat} (h : OwnUn w base v l) : Row w w.heap.size v (ptrs l) := Row.of_own h (Nat.le_refl _)
theorem OwnUn.below {w w' : World} {base : Nat} {v : Value} {l : List Nat} (h : OwnUn w base v l) (hb : Below w.heap.size w w') : OwnUn w' base v l := own_below h hb
theorem OwnUn.kept {K : Nat → Prop} {w w' : World} {base : Nat} {v : Value} {l : List Nat} (h : OwnUn w base v l) (hk : Kept K w w') (hf : ∀ k, v.ownBlock = some k → ¬ K k) : OwnUn w' base v l := hk.own h hf
theorem OwnUn.new (w : World) (base : Nat) (hb : base ≤ w.heap.size) (g : Nat) (hg : g = w.heap.size) : OwnUn (w.alloc (.cells #[] 70)) base (.slice (some ⟨g, 0, none⟩) 0 0) [] :=
  own_new _ _ _ _ _ _ _ _ hg hb (Nat.le_refl _) (by simp [maxLen]) rfl rfl
theorem wpList_pushUn {ops : Array Oper} {rest : List Oper} {o : Oper} {a : Act} {Q : Exit → Act → World → Prop} (hgd : o.guard = none) (s y : Operand) (ho : o.op = .call { callee := .builtin .append, args := #[s, y], argTypes := #[31, 31] })
    {W : World} {base : Nat} {v : Value} {l : List Nat} (x : Nat) (hs : a.eval s = v) (hy : a.eval y = .slice (some ⟨W.heap.size, 0, none⟩) 1 1) (hown : OwnUn W base v l) (hl : l.length ≤ 1000000) (hb : base ≤ W.heap.size)
    (h : ∀ v' w', OwnUn w' base v' (l ++ [x]) → Kept (fun k => v.ownBlock = some k) W w' → (v'.ownBlock = v.ownBlock ∨ ∃ k, v'.ownBlock = some k ∧ W.heap.size ≤ k) → wpList Tryz.prog ops Q rest (a.put o.dst v') w') : wpList Tryz.prog ops Q (o :: rest) a (W.alloc (.cells #[.pointer (some ⟨x, 0, none⟩)] 70)) := by
  obtain ⟨i0, hi, hz0, hz1, hz2⟩ := info_parts infoUn
  refine wpList_append_row (W.alloc (.cells #[.pointer (some ⟨x, 0, none⟩)] 70)) hgd s y _ ho base 70 i0 (.pointer none) 8 Tryz.underlying31 hi hz0 hz1 hz2 rfl _ l.length (ptrs l) hs (own_below hown ((Below.refl _ _).alloc (Nat.le_refl _) _)) (W.heap.size + 1) _ [.pointer (some ⟨x, 0, none⟩)] hy (Row.new W _ #[.pointer (some ⟨x, 0, none⟩)] (0, 0) W.heap.size 1 rfl rfl (by omega)) (by simp [Value.oneCell']) (by simp [maxLen]; omega) (by simp; omega) (by simp; omega) ?_
  intro v' w' h1 h2 h3
  refine h v' w' ?_ (Kept.grown ((Kept.refl (fun k => v.ownBlock = some k) W).alloc _) h2 (fun k hk => .inl hk)) ?_
  · unfold OwnUn
    rw [ptrs_app, List.length_append]
    exact h1
  · exact h3.imp id (fun e => ⟨_, e, by rw [World.size_alloc]; omega⟩)
theorem infoRe : (Tryz.prog.info? 72).map (fun i => (i.zero, i.size, i.bytes)) = some (some (.pointer none), 1, 8) := by kernel_rfl
def OwnRe (w : World) (base : Nat) (v : Value) (l : List Nat) : Prop := w.ownsRow base 72 1 v l.length (ptrs l)
theorem OwnRe.row {w : World} {base : Nat} {v : Value} {l : List Nat} (h : OwnRe w base v l) : Row w w.heap.size v (ptrs l) := Row.of_own h (Nat.le_refl _)
theorem OwnRe.below {w w' : World} {base : Nat} {v : Value} {l : List Nat} (h : OwnRe w base v l) (hb : Below w.heap.size w w') : OwnRe w' base v l := own_below h hb
theorem OwnRe.kept {K : Nat → Prop} {w w' : World} {base : Nat} {v : Value} {l : List Nat} (h : OwnRe w base v l) (hk : Kept K w w') (hf : ∀ k, v.ownBlock = some k → ¬ K k) : OwnRe w' base v l := hk.own h hf
theorem OwnRe.new (w : World) (base : Nat) (hb : base ≤ w.heap.size) (g : Nat) (hg : g = w.heap.size) : OwnRe (w.alloc (.cells #[] 72)) base (.slice (some ⟨g, 0, none⟩) 0 0) [] :=
  own_new _ _ _ _ _ _ _ _ hg hb (Nat.le_refl _) (by simp [maxLen]) rfl rfl
theorem wpList_pushRe {ops : Array Oper} {rest : List Oper} {o : Oper} {a : Act} {Q : Exit → Act → World → Prop} (hgd : o.guard = none) (s y : Operand) (ho : o.op = .call { callee := .builtin .append, args := #[s, y], argTypes := #[33, 33] })
    {W : World} {base : Nat} {v : Value} {l : List Nat} (x : Nat) (hs : a.eval s = v) (hy : a.eval y = .slice (some ⟨W.heap.size, 0, none⟩) 1 1) (hown : OwnRe W base v l) (hl : l.length ≤ 1000000) (hb : base ≤ W.heap.size)
    (h : ∀ v' w', OwnRe w' base v' (l ++ [x]) → Kept (fun k => v.ownBlock = some k) W w' → (v'.ownBlock = v.ownBlock ∨ ∃ k, v'.ownBlock = some k ∧ W.heap.size ≤ k) → wpList Tryz.prog ops Q rest (a.put o.dst v') w') : wpList Tryz.prog ops Q (o :: rest) a (W.alloc (.cells #[.pointer (some ⟨x, 0, none⟩)] 72)) := by
  obtain ⟨i0, hi, hz0, hz1, hz2⟩ := info_parts infoRe
  refine wpList_append_row (W.alloc (.cells #[.pointer (some ⟨x, 0, none⟩)] 72)) hgd s y _ ho base 72 i0 (.pointer none) 8 Tryz.underlying33 hi hz0 hz1 hz2 rfl _ l.length (ptrs l) hs (own_below hown ((Below.refl _ _).alloc (Nat.le_refl _) _)) (W.heap.size + 1) _ [.pointer (some ⟨x, 0, none⟩)] hy (Row.new W _ #[.pointer (some ⟨x, 0, none⟩)] (0, 0) W.heap.size 1 rfl rfl (by omega)) (by simp [Value.oneCell']) (by simp [maxLen]; omega) (by simp; omega) (by simp; omega) ?_
  intro v' w' h1 h2 h3
  refine h v' w' ?_ (Kept.grown ((Kept.refl (fun k => v.ownBlock = some k) W).alloc _) h2 (fun k hk => .inl hk)) ?_
  · unfold OwnRe
    rw [ptrs_app, List.length_append]
    exact h1
  · exact h3.imp id (fun e => ⟨_, e, by rw [World.size_alloc]; omega⟩)
end Go.Proofs.YtiafamacjpgjoaaGreatDoor
