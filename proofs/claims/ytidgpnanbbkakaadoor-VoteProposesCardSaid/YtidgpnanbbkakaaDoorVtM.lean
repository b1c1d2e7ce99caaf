/- Package vote's Voter: as it lies in memory; of, keep, Prepare, Accept, Promised, Accepted. -/
import Derived.Test.YtidgpnanbbkakaaDoorIm
import Derived.Test.YtidgpnanbbkakaaDoorVtP
namespace Go.Proofs.YtidgpnanbbkakaaDoor
open Go Go.RowKit Tide

/-- What a voter has of a matter, as a value. -/
abbrev heldV (h : HeldV) : Value := .agg #[.int .i64 h.promised, .int .i64 h.accepted, .string h.text]
def heldR (v : Value) : Option (DataW Unit × List MemPlace) := match v with
  | .agg xs => match xs.toList with
    | [.int .i64 p, .int .i64 a, .string t] => some (.agg [.lit (.int .i64 p), .lit (.int .i64 a), .lit (.string t.data.toList)], [])
    | _ => none
  | _ => none
def heldK : ElemK HeldV where
  R := heldR
  val := heldV
  dd := fun h => .agg [.lit (.int .i64 h.promised), .lit (.int .i64 h.accepted), .lit (.string h.text.data.toList)]
  rd := fun _ => rfl
  inv := fun {v y} h => by
    unfold heldR at h
    split at h
    · rename_i xs
      split at h
      · rename_i p a t e
        injection h with h
        exact ⟨⟨p, a, t⟩, by rw [← Array.toArray_toList (xs := xs), e], h.symm⟩
      · cases h
    · cases h
  inj := fun {x y} h => by
    obtain ⟨p, a, t⟩ := x
    obtain ⟨p', a', t'⟩ := y
    injection h with h
    injection h with h1 h
    injection h with h2 h
    injection h with h3 _
    injection h1 with h1
    injection h1 with _ h1
    injection h2 with h2
    injection h2 with _ h2
    injection h3 with h3
    injection h3 with h3
    subst h1 h2
    have : t = t' := by
      obtain ⟨⟨t⟩⟩ := t
      obtain ⟨⟨t'⟩⟩ := t'
      simp at h3
      rw [h3]
    rw [this]
theorem zeroHeld (w : World) : (zeroValue 75).run Tryd.prog w = .ok (heldK.val ⟨0, 0, ⟨#[]⟩⟩) w := by kernel_rfl
/-- A voter: its cell, and its map, if it has one; what it has of each matter. -/
structure VotW (W : World) (q : Nat) (o : Option Nat) (n : Nat) (h : Int → HeldV) : Prop where
  cell : W.heap[q]? = some (.cells #[.map o] 51 (0, 0))
  map : ∃ g : Int → Option HeldV, (∀ m, (g m).getD noneV = h m) ∧ ((o = none ∧ ∀ m, g m = none) ∨ ∃ b, o = some b ∧ IMap heldK W b n g)
/-- Numbers that fit. -/
def fitsI (k : Int) : Prop := -9223372036854775808 ≤ k ∧ k ≤ 9223372036854775807
section
variable {W W' : World} {q n : Nat} {o : Option Nat} {h : Int → HeldV}
theorem VotW.lt (H : VotW W q o n h) : q < W.heap.size := by
  rcases Nat.lt_or_ge q W.heap.size with hlt | hge
  · exact hlt
  · have := H.cell; rw [Array.getElem?_eq_none hge] at this; cases this
theorem VotW.fp (H : VotW W q o n h) : ∀ k, k = q ∨ o = some k → k < W.heap.size := fun k hk => by
  rcases hk with rfl | hk
  · exact H.lt
  · obtain ⟨g, _, h2⟩ := H.map
    rcases h2 with ⟨rfl, _⟩ | ⟨b, rfl, h3⟩
    · cases hk
    · injection hk with hk
      subst hk
      exact h3.lt
theorem VotW.kept {F : Nat → Prop} (H : VotW W q o n h) (hk : Kept F W W') (hF : ∀ k, k = q ∨ o = some k → ¬ F k) : VotW W' q o n h := by
  refine ⟨hk.heap H.cell (hF q (.inl rfl)), ?_⟩
  obtain ⟨g, h1, h2⟩ := H.map
  refine ⟨g, h1, h2.imp id ?_⟩
  rintro ⟨b, rfl, h3⟩
  exact ⟨b, rfl, h3.kept hk (hF b (.inr rfl))⟩
theorem VotW.below (H : VotW W q o n h) (hb : Below W.heap.size W W') : VotW W' q o n h := H.kept (F := fun _ => False) (Kept.of_below hb) (fun _ _ h => h)
theorem VotW.new (W : World) (q : Nat) (hq : q = W.heap.size) : VotW (W.alloc (.cells #[.map none] 51)) q none 0 (fun _ => noneV) := by
  subst hq
  exact ⟨heap_alloc_new W _, fun _ => none, fun _ => rfl, .inl ⟨rfl, fun _ => rfl⟩⟩
theorem VotW.facts (H : VotW W q o n h) : q < W.heap.size ∧ W.cell? ⟨q, 0, none⟩ = some (.map o) ∧ ∀ i, W.frozen? ⟨q, i, none⟩ = false := by
  refine ⟨H.lt, by rw [cell_of_row _ _ 0 _ _ _ H.cell]; rfl, fun i => ?_⟩
  unfold World.frozen?
  rw [show W.heap[(⟨q, i, none⟩ : Addr).block]? = _ from H.cell]
  simp

set_option maxRecDepth 100000 in
theorem vof_any (H : VotW W q o n h) (k : Int) (hk : fitsI k) : Calls Tryd.prog 23 #[.pointer (some ⟨q, 0, none⟩), .int .i64 k] W fun e w' => e = .returned (heldV (h k)) ∧ Below W.heap.size W w' := by
  obtain ⟨hq, c0, _⟩ := H.facts
  obtain ⟨g, h1, h2⟩ := H.map
  obtain ⟨h3, h4⟩ := hk
  have hgk := h1 k
  obtain ⟨x, hx⟩ : ∃ x, h k = x := ⟨_, rfl⟩
  rw [hx] at hgk ⊢
  have HG := Lib.hid hgk
  clear H h1 hgk hx
  rcases h2 with ⟨rfl, hn⟩ | ⟨b, rfl, hM⟩
  · have hnil : ∀ w : World, (Instr.lookup 49 (.map none) (.int .i64 k) true).run Tryd.prog w = .ok (.tuple #[.agg #[.int .i64 0, .int .i64 0, .string ⟨#[]⟩], .bool false]) w := fun w => Maps.look_nil (w := w) true imLaw Tryd.underlying49 (zeroHeld w) (kI_of k h3 h4)
    have e : x = noneV := by rw [← HG.out, hn k]; rfl
    subst e
    clear hn HG
    go_enter Tryd.func23, Tryd.ntmps23
    go_wp2_with fail
    refine bodyPost_ret (v := heldV ⟨-1, -1, ⟨#[]⟩⟩) (by simp [results, Tryd.results23, go_sem]) rfl ⟨rfl, ?_⟩
    exact (((Below.refl _ _).alloc (Nat.le_refl _) _).alloc (by rw [World.size_alloc]; omega) _)
  · have HM := Lib.hid hM
    clear hM
    cases hg : g k with
    | none =>
      have e : x = noneV := by rw [← HG.out, hg]; rfl
      subst e
      have HN := Lib.hid hg
      clear hg HG
      go_enter Tryd.func23, Tryd.ntmps23
      go_wp2_with (at_lookup; refine wpList_im_ok _ Tryd.underlying49 (HM.out.below ((Below.refl _ _).alloc (Nat.le_refl _) _)) (zeroHeld _) rfl _ _ rfl rfl k rfl h3 h4 ?_; intro y _; obtain ⟨p, a, t⟩ := y; rw [HN.out]; simp only [heldK, Option.isSome])
      refine bodyPost_ret (v := heldV ⟨-1, -1, ⟨#[]⟩⟩) (by simp [results, Tryd.results23, go_sem]) rfl ⟨rfl, ?_⟩
      exact (((Below.refl _ _).alloc (Nat.le_refl _) _).alloc (by rw [World.size_alloc]; omega) _)
    | some y =>
      have e : x = y := by rw [← HG.out, hg]; rfl
      subst e
      have HN := Lib.hid hg
      clear hg HG
      obtain ⟨p, a, t⟩ := x
      go_enter Tryd.func23, Tryd.ntmps23
      go_wp2_with (at_lookup; refine wpList_im_ok _ Tryd.underlying49 (HM.out.below ((Below.refl _ _).alloc (Nat.le_refl _) _)) (zeroHeld _) rfl _ _ rfl rfl k rfl h3 h4 ?_; intro z hz; rw [hz _ HN.out, HN.out]; simp only [heldK, Option.isSome])
      refine bodyPost_ret (v := heldV ⟨p, a, t⟩) (by simp [results, Tryd.results23, go_sem]) rfl ⟨rfl, ?_⟩
      exact (((Below.refl _ _).alloc (Nat.le_refl _) _).alloc (by rw [World.size_alloc]; omega) _)
theorem mapNil (w : World) : (binOp BinOp.eql 49 (.map none) (.map none)).run Tryd.prog w = .ok (.bool true) w := by kernel_rfl
theorem mapNot (b : Nat) (w : World) : (binOp BinOp.eql 49 (.map (some b)) (.map none)).run Tryd.prog w = .ok (.bool false) w := by kernel_rfl
set_option maxRecDepth 100000 in
/-- A voter, kept. -/
theorem vkeep_any (H : VotW W q o n h) (hn : n ≤ 1000000) (k : Int) (hk : fitsI k) (x : HeldV) : Calls Tryd.prog 24 #[.pointer (some ⟨q, 0, none⟩), .int .i64 k, heldV x] W fun e w' => e = .returned (.tuple #[]) ∧ ∃ o', VotW w' q o' (n + 1) (fun m => if m = k then x else h m) ∧ Kept (fun j => j = q ∨ o = some j) W w' ∧ ∀ b, o' = some b → o = some b ∨ W.heap.size ≤ b := by
  obtain ⟨h3, h4⟩ := hk
  obtain ⟨g, h1, h2⟩ := H.map
  have HSet := Lib.hid (show ∀ m, (imSet g k x m).getD noneV = if m = k then x else h m from fun m => by
    unfold imSet
    by_cases e : m = k
    · rw [if_pos e, if_pos e]; rfl
    · rw [if_neg e, if_neg e]; exact h1 m)
  have HC := Lib.hid H.cell
  obtain ⟨hq, c0, f0⟩ := H.facts
  obtain ⟨p, a, t⟩ := x
  clear H h1
  rcases h2 with ⟨rfl, hg⟩ | ⟨b, rfl, hM⟩
  · have hmm := @run_makeMap Tryd.prog
    have HG := Lib.hid (show g = fun _ => none from funext hg)
    have hn1 := mapNil
    clear hg
    obtain ⟨W3, hW3⟩ : ∃ W3, ((W.setCell ⟨q, 0, none⟩ (.map (some (W.heap.size + 1)))).alloc (.cells #[.int .i64 p, .int .i64 a, .string t] 75)).alloc (.map #[] 0) = W3 := ⟨_, rfl⟩
    have hk3 : Kept (fun j => j = q) W W3 := by rw [← hW3]; exact ((Kept.setCell (F := fun j => j = q) (Kept.refl _ W) (p := ⟨q, 0, none⟩) (.inl rfl) _).alloc _).alloc _
    have hz3 : W3.heap.size = W.heap.size + 2 := by rw [← hW3]; simp [World.setCell]
    have hm3 : IMap heldK W3 (W.heap.size + 1) 0 (fun _ => none) := by rw [← hW3]; exact IMap.made _ _ (by simp [World.setCell])
    have hc3 : W3.heap[q]? = some (.cells #[.map (some (W.heap.size + 1))] 51 (0, 0)) := by
      rw [← hW3, Below.heap_alloc _ _ _ (by simp [World.setCell]; omega), Below.heap_alloc _ _ _ (by simp [World.setCell]; omega), heap_setCell_same _ _ _ _ _ _ HC.out]
      rfl
    obtain ⟨w2, hrun, hM2, hK2⟩ := hm3.drew.put_run Tryd.underlying49 (Nat.zero_le _) k h3 h4 ⟨p, a, t⟩
    have hrun' : (Instr.mapUpdate 49 (.map (some (W.heap.size + 1))) (.int .i64 k) (.agg #[.int .i64 p, .int .i64 a, .string t])).run Tryd.prog W3.drew = .ok () w2 := hrun
    have hd3 : W3.cell? ⟨q, 0, none⟩ = some (.map (some (W.heap.size + 1))) := by rw [cell_of_row _ _ 0 _ _ _ hc3]; rfl
    have hb3 : W3.heap[W.heap.size]? = some (.cells #[.int .i64 p, .int .i64 a, .string t] 75 (0, 0)) := by
      rw [← hW3, Below.heap_alloc _ _ _ (by simp [World.setCell])]
      have := heap_alloc_new (W.setCell ⟨q, 0, none⟩ (.map (some (W.heap.size + 1)))) (.cells #[.int .i64 p, .int .i64 a, .string t] 75)
      rwa [show (W.setCell ⟨q, 0, none⟩ (.map (some (W.heap.size + 1)))).heap.size = W.heap.size from by simp [World.setCell]] at this
    have e0 : W3.cell? ⟨W.heap.size, 0, none⟩ = some (.int .i64 p) := by rw [cell_of_row _ _ 0 _ _ _ hb3]; rfl
    have e1 : W3.cell? ⟨W.heap.size, 1, none⟩ = some (.int .i64 a) := by rw [cell_of_row _ _ 1 _ _ _ hb3]; rfl
    have e2 : W3.cell? ⟨W.heap.size, 2, none⟩ = some (.string t) := by rw [cell_of_row _ _ 2 _ _ _ hb3]; rfl
    have HV := Lib.hid (show VotW w2 q (some (W.heap.size + 1)) (n + 1) (fun m => if m = k then ⟨p, a, t⟩ else h m) from ⟨hK2.heap (show W3.heap[q]? = _ from hc3) (fun e => by omega), imSet g k ⟨p, a, t⟩, HSet.out, .inr ⟨_, rfl, by rw [HG.out]; exact hM2.mono (by omega)⟩⟩)
    have HK := Lib.hid (show Kept (fun j => j = q ∨ (none : Option Nat) = some j) W w2 from hk3.drew.trans hK2 (fun i hi => .inr (by omega)) |>.mono (fun i _ h => .inl h))
    clear hk3 hm3 hM2 hK2 hrun hc3 hb3
    go_enter Tryd.func24, Tryd.ntmps24
    go_wp2_with fail
    go_region
    go_wp2_with fail
    go_end0
    exact ⟨rfl, _, HV.out, HK.out, fun b' h => by injection h with h; exact .inr (by omega)⟩
  · have HM := Lib.hid hM
    have hn1 := mapNot b
    obtain ⟨w2, hrun, hM2, hK2⟩ := (hM.below ((Below.refl _ _).alloc (Nat.le_refl _) (.cells #[.int .i64 p, .int .i64 a, .string t] 75))).drew.put_run Tryd.underlying49 hn k h3 h4 ⟨p, a, t⟩
    have hrun' : (Instr.mapUpdate 49 (.map (some b)) (.int .i64 k) (.agg #[.int .i64 p, .int .i64 a, .string t])).run Tryd.prog (W.alloc (.cells #[.int .i64 p, .int .i64 a, .string t] 75)).drew = .ok () w2 := hrun
    have hK3 : Kept (fun j => j = q ∨ some b = some j) W w2 := (((Kept.refl _ W).alloc _).drew).trans hK2 (fun i hi => .inl (.inr (by rw [hi])))
    have HV := Lib.hid (show VotW w2 q (some b) (n + 1) (fun m => if m = k then ⟨p, a, t⟩ else h m) from ⟨hK2.heap (show (W.alloc _).heap[q]? = _ from ((Kept.refl (fun _ => False) W).alloc _).heap HC.out (fun h => h)) (fun e => hM.ne_cells HC.out e.symm), imSet g k ⟨p, a, t⟩, HSet.out, .inr ⟨b, rfl, hM2⟩⟩)
    have HK := Lib.hid hK3
    clear hM hM2 hK2 hK3 hrun
    go_enter Tryd.func24, Tryd.ntmps24
    go_wp2_with fail
    go_region
    go_wp2_with fail
    go_end0
    exact ⟨rfl, _, HV.out, HK.out, fun b' h => .inl h⟩
end
end Go.Proofs.YtidgpnanbbkakaaDoor
