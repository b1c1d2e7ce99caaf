/- A map keyed by whole numbers, of elements of any kind that read through no place: what lies in memory, as a function; what is looked up, stored, and what a range over it gives. It speaks of no function of the program. -/
import Derived.Test.YtefcbofjndnpkaaDoorGKeep
import Derived.Test.YtefcbofjndnpkaaDoorGLaw
import Derived.Test.YtefcbofjndnpkaaDoorGMem
import Derived.Maps.OwnOps
import Derived.Maps.OwnSet
import Derived.Maps.RangeWalk
import Derived.WalkKit
import Derived.WalkSpells
namespace Go.Proofs.YtefcbofjndnpkaaDoor
open Go Go.RowKit Tide
open Go.Maps (Keyed IsMap)

/-- Elements of a kind: how a value reads, and back. -/
structure ElemK (α : Type) where
  R : Value → Option (DataW Unit × List MemPlace)
  val : α → Value
  dd : α → DataW Unit
  rd : ∀ x, R (val x) = some (dd x, [])
  inv : ∀ {v y}, R v = some y → ∃ x, v = val x ∧ y = (dd x, [])
  inj : ∀ {x y}, dd x = dd y → x = y
theorem imLaw : Keyed Tryd.prog 3 := Maps.int_keyed Tryd.underlying3
/-- A whole number as a key. -/
abbrev kI (a : Int) : Lit := .int .i64 a
theorem kI_of (a : Int) (h0 : -9223372036854775808 ≤ a) (h1 : a ≤ 9223372036854775807) : keyOf Tryd.prog 3 (.int .i64 a) = some (kI a) :=
  Maps.keyOf_int_mk Tryd.underlying3 (by first | exact WalkArith.wf_i64 (by omega) | (unfold Lit.wf; simp; omega))
theorem kI_ne {a b : Int} (h : a ≠ b) : kI a ≠ kI b := fun e => h (by injection e)
theorem kI_is (a : Int) : WideAt.IsKeyLit (kI a) := trivial
theorem kI_same (a b : Int) : (kI a).sameKey (kI b) = true ↔ a = b := by
  constructor
  · intro h
    have := WideAt.sameKey_eq h
    injection this
  · intro h; subst h; simp [Lit.sameKey]
/-- A function with one answer changed. -/
def imSet {α : Type} (g : Int → Option α) (k : Int) (x : α) : Int → Option α := fun a => if a = k then some x else g a
/-- Block b is the map of just those answers, of at most n of them. -/
def IMap {α : Type} (K : ElemK α) (W : World) (b n : Nat) (g : Int → Option α) : Prop := ∃ D, W.ownsMap Tryd.prog 3 K.R b (Maps.size D) D ∧ Maps.Tidy D ∧ Maps.size D ≤ n ∧ ∀ a, Maps.has D (kI a) = (g a).isSome ∧ ∀ x, g a = some x → ∀ z, D.atKey (kI a) z = K.dd x
/-- A range over such a map is under way. -/
def IRng {α : Type} (K : ElemK α) (W : World) (b r : Nat) (g : Int → Option α) (left : Lit → Bool) (cnt : Nat) : Prop := ∃ n D, W.ranges Tryd.prog 3 K.R b r n D left cnt ∧ ∀ a, Maps.has D (kI a) = (g a).isSome ∧ ∀ x, g a = some x → ∀ z, D.atKey (kI a) z = K.dd x
theorem im_least {α : Type} {K : ElemK α} {W : World} {b n : Nat} {D : DataW Unit} (h : W.ownsMap Tryd.prog 3 K.R b n D) : W.ownsMap Tryd.prog 3 K.R b (Maps.size D) D := by
  obtain ⟨es, clock, h1, h2, _, rfl⟩ := h
  exact ⟨es, clock, h1, h2, by rw [Maps.size_eq, length_read]; exact Nat.le_refl _, rfl⟩
section
variable {α : Type} {K : ElemK α} {W W' : World} {b n : Nat} {g : Int → Option α}
theorem IMap.lt (h : IMap K W b n g) : b < W.heap.size := by obtain ⟨D, h1, _⟩ := h; exact h1.lt
theorem IMap.mono (h : IMap K W b n g) {m : Nat} (hm : n ≤ m) : IMap K W b m g := by obtain ⟨D, h1, h2, h3, h4⟩ := h; exact ⟨D, h1, h2, Nat.le_trans h3 hm, h4⟩
theorem IMap.kept {F : Nat → Prop} (h : IMap K W b n g) (hk : Kept F W W') (hF : ¬ F b) : IMap K W' b n g := by
  obtain ⟨D, ⟨es, clock, h1, h2⟩, h3⟩ := h
  exact ⟨D, ⟨es, clock, hk.heap h1 hF, h2⟩, h3⟩
theorem IMap.below (h : IMap K W b n g) (hb : Below W.heap.size W W') : IMap K W' b n g := h.kept (F := fun _ => False) (Kept.of_below hb) (fun h => h)
theorem IMap.made (W : World) (g0 : Nat) (hg : g0 = W.heap.size) : IMap K (W.alloc (.map #[] 0)) g0 0 (fun _ => none) := by
  subst hg
  exact ⟨.map [], im_least (World.ownsMap_made W Tryd.prog 3 K.R), Maps.tidy_empty, Nat.le_refl _, fun _ => ⟨rfl, fun _ h => by cases h⟩⟩
/-- A map is no row. -/
theorem IMap.ne_cells (h : IMap K W b n g) {q : Nat} {cs : Array Value} {t : TypeId} {m : Nat × Nat} (hq : W.heap[q]? = some (.cells cs t m)) : b ≠ q := fun e => by
  obtain ⟨D, ⟨es, clock, h1, _⟩, _⟩ := h
  rw [e, hq] at h1
  cases h1
theorem im_turned {w w' : World} {b : Nat} (h : w.mapTurned w' b) : Kept (fun k => k = b) w w' := (Kept.refl _ _).grown h.grown (fun k hk => .inl (by injection hk with hk; exact hk.symm))
theorem im_grown {w w' : World} {row : Option Nat} {F : Nat → Prop} (h : w.grownBy w' row) (hF : ∀ k, row = some k → F k) : Kept F w w' := (Kept.refl _ _).grown h (fun k hk => .inl (hF k hk))
theorem IRng.left_eq {r cnt : Nat} {left : Lit → Bool} (h : IRng K W b r g left cnt) : W.rangeLeft b r = cnt := by obtain ⟨n, D, h1, h2⟩ := h; exact h1.left_eq
theorem IRng.kept {r cnt : Nat} {left : Lit → Bool} {F : Nat → Prop} (h : IRng K W b r g left cnt) (hk : Kept F W W') (hb : ¬ F b) (hr : ¬ F r) : IRng K W' b r g left cnt := by
  obtain ⟨n, D, ⟨es, clock, since, seen, c0, h1, h2, h3, h4, h5, h6⟩, h7⟩ := h
  exact ⟨n, D, ⟨es, clock, since, seen, c0, hk.heap h1 hb, h2, h3, h4, hk.heap h5 hr, h6⟩, h7⟩
end
theorem IMap.drew {α : Type} {K : ElemK α} {W : World} {b n : Nat} {g : Int → Option α} (h : IMap K W b n g) : IMap K W.drew b n g := h
set_option maxRecDepth 100000 in
/-- 'm[k] = x', as an equation. -/
theorem IMap.put_run {α : Type} {K : ElemK α} {w : World} {b n : Nat} {g : Int → Option α} (hown : IMap K w b n g) {T E : TypeId} (hT : Tryd.prog.underlying T = some (.map 3 E)) (hsz : n ≤ 1000000) (k : Int) (h0 : -9223372036854775808 ≤ k) (h1 : k ≤ 9223372036854775807) (y : α) :
    ∃ w', (Instr.mapUpdate T (.map (some b)) (.int .i64 k) (K.val y)).run Tryd.prog w = .ok () w' ∧ IMap K w' b (n + 1) (imSet g k y) ∧ Kept (fun j => j = b) w w' := by
  obtain ⟨D, h2, ht, hs, h3⟩ := hown
  obtain ⟨w', hrun, h4, h5⟩ := h2.store imLaw hT (by unfold maxLen; omega) (kI_of k h0 h1) (K.rd y)
  refine ⟨w', hrun, ⟨_, im_least h4, ht.put (kI_is _) _, ?_, fun c => ?_⟩, im_turned h5⟩
  · rw [Maps.size_put ht]
    split <;> omega
  · unfold imSet
    by_cases e : c = k
    · subst e
      rw [if_pos rfl]
      exact ⟨by rw [Maps.has_put_same ht.isMap (kI_is _)]; rfl, fun x hx z => by
        injection hx with hx
        subst hx
        exact Maps.atKey_put_same ht.isMap (kI_is _) _ _⟩
    · rw [if_neg e]
      exact ⟨by rw [Maps.has_put_other (kI_ne e)]; exact (h3 c).1, fun x hx z => by rw [Maps.atKey_put_other (kI_ne e)]; exact (h3 c).2 x hx z⟩
section
variable {α : Type} {K : ElemK α} (w : World) {ops : Array Oper} {rest : List Oper} {o : Oper} {a : Act} {Q : Exit → Act → World → Prop} {b n : Nat} {g : Int → Option α}
variable {T E : TypeId} (hT : Tryd.prog.underlying T = some (.map 3 E))
include hT
set_option maxRecDepth 100000 in
/-- 'x, ok := m[k]'. -/
theorem wpList_im_ok (hown : IMap K w b n g) {z0 : α} (hz : (zeroValue E).run Tryd.prog w = .ok (K.val z0) w) (hg : o.guard = none) (m x : Operand) (hop : o.op = Op.lookup T m x true) (hm : a.eval m = .map (some b)) (k : Int) (hx : a.eval x = .int .i64 k) (h0 : -9223372036854775808 ≤ k) (h1 : k ≤ 9223372036854775807)
    (hK : ∀ y, (∀ z, g k = some z → y = z) → wpList Tryd.prog ops Q rest (a.put o.dst (.tuple #[K.val y, .bool (g k).isSome])) w) : wpList Tryd.prog ops Q (o :: rest) a w := by
  obtain ⟨D, h2, _, _, h3⟩ := hown
  refine wpList_lookup_own_ok w hg m x _ hop 3 E imLaw hT K.R hz _ [] (K.rd z0) b _ D hm h2 _ _ hx (kI_of k h0 h1) (fun v q hv => ?_)
  obtain ⟨y, rfl, hy⟩ := K.inv hv
  rw [(h3 k).1]
  refine hK y (fun z hz => K.inj ?_)
  have h4 := (h3 k).2 z hz (K.dd z0)
  injection hy with hy _
  exact hy.symm.trans h4
/-- 'range m'. -/
theorem wpList_im_range (hown : IMap K w b n g) (hg : o.guard = none) (m : Operand) (hop : o.op = Op.range T m) (hm : a.eval m = .map (some b))
    (hK : ∀ w' left cnt, IRng K w' b w.heap.size g left cnt → (∀ k : Int, left (kI k) = (g k).isSome) → Below w.heap.size w w' → w'.heap.size = w.heap.size + 1 → wpList Tryd.prog ops Q rest (a.put o.dst (.pointer (some ⟨w.heap.size, 0, none⟩))) w') : wpList Tryd.prog ops Q (o :: rest) a w := by
  obtain ⟨D, h2, _, _, h3⟩ := hown
  exact wpList_range_own w hg m _ hop 3 E imLaw hT K.R b _ D hm h2 (fun w' h4 h5 h6 => hK w' _ _ ⟨_, D, h4, h3⟩ (fun k => (h3 k).1) ⟨h5.os, h5.tape, h5.output, h5.size, fun i hi => h5.block i hi (by simp)⟩ h6)
end
section
variable {α : Type} {K : ElemK α} (w : World) {ops : Array Oper} {rest : List Oper} {o : Oper} {a : Act} {Q : Exit → Act → World → Prop} {b r cnt : Nat} {g : Int → Option α} {left : Lit → Bool}
set_option maxRecDepth 100000 in
/-- The next of a range: none is left, or one that was. -/
theorem wpList_im_next (h : IRng K w b r g left cnt) (hg : o.guard = none) (it : Operand) (hop : o.op = Op.next it false) (hit : a.eval it = .pointer (some ⟨r, 0, none⟩))
    (hDone : (∀ kl, left kl = false) → wpList Tryd.prog ops Q rest (a.put o.dst (.tuple #[.bool false])) w)
    (hMore : ∀ (k : Int) (x : α) (w' : World) (cnt' : Nat), g k = some x → left (kI k) = true → IRng K w' b r g (fun z => left z && !z.sameKey (kI k)) cnt' → cnt' < cnt → Kept (fun k => k = r) w w' → w'.heap.size = w.heap.size →
      (Instr.entry (.pointer (some ⟨r, 0, none⟩))).run Tryd.prog w' = .ok (.tuple #[.int .i64 k, K.val x]) w' → wpList Tryd.prog ops Q rest (a.put o.dst (.tuple #[.bool true, .int .i64 k, K.val x])) w') :
    wpList Tryd.prog ops Q (o :: rest) a w := by
  obtain ⟨n, D, h2, h3⟩ := h
  refine wpList_next_ranges w hg it hop 3 imLaw K.R (Value.int .i64) K.val (fun key kl hkey => by obtain ⟨x, rfl, _⟩ := Maps.keyOf_int_inv Tryd.underlying3 hkey; exact ⟨x, rfl⟩) (fun v y hv => by obtain ⟨x, rfl, _⟩ := K.inv hv; exact ⟨x, rfl⟩)
    b r n D left cnt hit h2 (fun _ hl => hDone hl) (fun x c kl y w' cnt' hkey hl hv hat hrg hlt hgr hsz hen => ?_)
  obtain ⟨x', ex, rfl, _⟩ := Maps.keyOf_int_inv Tryd.underlying3 hkey
  cases ex
  have hs := (h3 x).1.symm.trans (Maps.has_true_of_atKey hat)
  obtain ⟨z, hz⟩ := Option.isSome_iff_exists.1 hs
  obtain ⟨z', ez, hy⟩ := K.inv hv
  have h5 : y.1 = K.dd z := (hat (.agg [])).symm.trans ((h3 x).2 z hz (.agg []))
  rw [hy] at h5
  have h6 : z' = z := K.inj h5
  have h7 : K.val c = K.val z := by rw [← h6]; exact ez
  rw [h7] at hen ⊢
  exact hMore x z w' cnt' hz hl ⟨n, D, hrg, h3⟩ hlt (im_grown (F := fun k => k = r) hgr (fun k hk => (Option.some.inj hk).symm)) hsz hen
end
end Go.Proofs.YtefcbofjndnpkaaDoor

/- Package vote's Voter: as it lies in memory; of, keep, Prepare, Accept, Promised, Accepted. -/
namespace Go.Proofs.YtefcbofjndnpkaaDoor
open Go Go.RowKit Tide

/-- What a voter has of a matter, as a value. -/
abbrev heldV (h : HeldV) : Value := .agg #[.int .i64 h.promised, .int .i64 h.accepted, .string h.text]
def heldR (v : Value) : Option (DataW Unit × List MemPlace) := match v with
  | .agg xs => match xs.toList with
    | [.int .i64 p, .int .i64 a, .string t] => some (.agg [.lit (.int .i64 p), .lit (.int .i64 a), .lit (.string t.data.toList)], [])
    | _ => none
  | _ => none
def heldK : ElemK HeldV where
  R := heldR
  val := heldV
  dd := fun h => .agg [.lit (.int .i64 h.promised), .lit (.int .i64 h.accepted), .lit (.string h.text.data.toList)]
  rd := fun _ => rfl
  inv := fun {v y} h => by
    unfold heldR at h
    split at h
    · rename_i xs
      split at h
      · rename_i p a t e
        injection h with h
        exact ⟨⟨p, a, t⟩, by rw [← Array.toArray_toList (xs := xs), e], h.symm⟩
      · cases h
    · cases h
  inj := fun {x y} h => by
    obtain ⟨p, a, t⟩ := x
    obtain ⟨p', a', t'⟩ := y
    injection h with h
    injection h with h1 h
    injection h with h2 h
    injection h with h3 _
    injection h1 with h1
    injection h1 with _ h1
    injection h2 with h2
    injection h2 with _ h2
    injection h3 with h3
    injection h3 with h3
    subst h1 h2
    have : t = t' := by
      obtain ⟨⟨t⟩⟩ := t
      obtain ⟨⟨t'⟩⟩ := t'
      simp at h3
      rw [h3]
    rw [this]
theorem zeroHeld (w : World) : (zeroValue 112).run Tryd.prog w = .ok (heldK.val ⟨0, 0, ⟨#[]⟩⟩) w := by kernel_rfl
/-- A voter: its cell, and its map, if it has one; what it has of each matter. -/
structure VotW (W : World) (q : Nat) (o : Option Nat) (n : Nat) (h : Int → HeldV) : Prop where
  cell : W.heap[q]? = some (.cells #[.map o] 73 (0, 0))
  map : ∃ g : Int → Option HeldV, (∀ m, (g m).getD noneV = h m) ∧ ((o = none ∧ ∀ m, g m = none) ∨ ∃ b, o = some b ∧ IMap heldK W b n g)
/-- Numbers that fit. -/
def fitsI (k : Int) : Prop := -9223372036854775808 ≤ k ∧ k ≤ 9223372036854775807
section
variable {W W' : World} {q n : Nat} {o : Option Nat} {h : Int → HeldV}
theorem VotW.lt (H : VotW W q o n h) : q < W.heap.size := by
  rcases Nat.lt_or_ge q W.heap.size with hlt | hge
  · exact hlt
  · have := H.cell; rw [Array.getElem?_eq_none hge] at this; cases this
theorem VotW.fp (H : VotW W q o n h) : ∀ k, k = q ∨ o = some k → k < W.heap.size := fun k hk => by
  rcases hk with rfl | hk
  · exact H.lt
  · obtain ⟨g, _, h2⟩ := H.map
    rcases h2 with ⟨rfl, _⟩ | ⟨b, rfl, h3⟩
    · cases hk
    · injection hk with hk
      subst hk
      exact h3.lt
theorem VotW.kept {F : Nat → Prop} (H : VotW W q o n h) (hk : Kept F W W') (hF : ∀ k, k = q ∨ o = some k → ¬ F k) : VotW W' q o n h := by
  refine ⟨hk.heap H.cell (hF q (.inl rfl)), ?_⟩
  obtain ⟨g, h1, h2⟩ := H.map
  refine ⟨g, h1, h2.imp id ?_⟩
  rintro ⟨b, rfl, h3⟩
  exact ⟨b, rfl, h3.kept hk (hF b (.inr rfl))⟩
theorem VotW.below (H : VotW W q o n h) (hb : Below W.heap.size W W') : VotW W' q o n h := H.kept (F := fun _ => False) (Kept.of_below hb) (fun _ _ h => h)
theorem VotW.new (W : World) (q : Nat) (hq : q = W.heap.size) : VotW (W.alloc (.cells #[.map none] 73)) q none 0 (fun _ => noneV) := by
  subst hq
  exact ⟨heap_alloc_new W _, fun _ => none, fun _ => rfl, .inl ⟨rfl, fun _ => rfl⟩⟩
theorem VotW.facts (H : VotW W q o n h) : q < W.heap.size ∧ W.cell? ⟨q, 0, none⟩ = some (.map o) ∧ ∀ i, W.frozen? ⟨q, i, none⟩ = false := by
  refine ⟨H.lt, by rw [cell_of_row _ _ 0 _ _ _ H.cell]; rfl, fun i => ?_⟩
  unfold World.frozen?
  rw [show W.heap[(⟨q, i, none⟩ : Addr).block]? = _ from H.cell]
  simp

set_option maxRecDepth 100000 in
theorem vof_any (H : VotW W q o n h) (k : Int) (hk : fitsI k) : Calls Tryd.prog 52 #[.pointer (some ⟨q, 0, none⟩), .int .i64 k] W fun e w' => e = .returned (heldV (h k)) ∧ Below W.heap.size W w' := by
  obtain ⟨hq, c0, _⟩ := H.facts
  obtain ⟨g, h1, h2⟩ := H.map
  obtain ⟨h3, h4⟩ := hk
  have hgk := h1 k
  obtain ⟨x, hx⟩ : ∃ x, h k = x := ⟨_, rfl⟩
  rw [hx] at hgk ⊢
  have HG := Lib.hid hgk
  clear H h1 hgk hx
  rcases h2 with ⟨rfl, hn⟩ | ⟨b, rfl, hM⟩
  · have hnil : ∀ w : World, (Instr.lookup 71 (.map none) (.int .i64 k) true).run Tryd.prog w = .ok (.tuple #[.agg #[.int .i64 0, .int .i64 0, .string ⟨#[]⟩], .bool false]) w := fun w => Maps.look_nil (w := w) true imLaw Tryd.underlying71 (zeroHeld w) (kI_of k h3 h4)
    have e : x = noneV := by rw [← HG.out, hn k]; rfl
    subst e
    clear hn HG
    go_enter Tryd.func52, Tryd.ntmps52
    go_wp2_with fail
    refine bodyPost_ret (v := heldV ⟨-1, -1, ⟨#[]⟩⟩) (by simp [results, Tryd.results52, go_sem]) rfl ⟨rfl, ?_⟩
    exact (((Below.refl _ _).alloc (Nat.le_refl _) _).alloc (by rw [World.size_alloc]; omega) _)
  · have HM := Lib.hid hM
    clear hM
    cases hg : g k with
    | none =>
      have e : x = noneV := by rw [← HG.out, hg]; rfl
      subst e
      have HN := Lib.hid hg
      clear hg HG
      go_enter Tryd.func52, Tryd.ntmps52
      go_wp2_with (at_lookup; refine wpList_im_ok _ Tryd.underlying71 (HM.out.below ((Below.refl _ _).alloc (Nat.le_refl _) _)) (zeroHeld _) rfl _ _ rfl rfl k rfl h3 h4 ?_; intro y _; obtain ⟨p, a, t⟩ := y; rw [HN.out]; simp only [heldK, Option.isSome])
      refine bodyPost_ret (v := heldV ⟨-1, -1, ⟨#[]⟩⟩) (by simp [results, Tryd.results52, go_sem]) rfl ⟨rfl, ?_⟩
      exact (((Below.refl _ _).alloc (Nat.le_refl _) _).alloc (by rw [World.size_alloc]; omega) _)
    | some y =>
      have e : x = y := by rw [← HG.out, hg]; rfl
      subst e
      have HN := Lib.hid hg
      clear hg HG
      obtain ⟨p, a, t⟩ := x
      go_enter Tryd.func52, Tryd.ntmps52
      go_wp2_with (at_lookup; refine wpList_im_ok _ Tryd.underlying71 (HM.out.below ((Below.refl _ _).alloc (Nat.le_refl _) _)) (zeroHeld _) rfl _ _ rfl rfl k rfl h3 h4 ?_; intro z hz; rw [hz _ HN.out, HN.out]; simp only [heldK, Option.isSome])
      refine bodyPost_ret (v := heldV ⟨p, a, t⟩) (by simp [results, Tryd.results52, go_sem]) rfl ⟨rfl, ?_⟩
      exact (((Below.refl _ _).alloc (Nat.le_refl _) _).alloc (by rw [World.size_alloc]; omega) _)
theorem mapNil (w : World) : (binOp BinOp.eql 71 (.map none) (.map none)).run Tryd.prog w = .ok (.bool true) w := by kernel_rfl
theorem mapNot (b : Nat) (w : World) : (binOp BinOp.eql 71 (.map (some b)) (.map none)).run Tryd.prog w = .ok (.bool false) w := by kernel_rfl
set_option maxRecDepth 100000 in
/-- A voter, kept. -/
theorem vkeep_any (H : VotW W q o n h) (hn : n ≤ 1000000) (k : Int) (hk : fitsI k) (x : HeldV) : Calls Tryd.prog 53 #[.pointer (some ⟨q, 0, none⟩), .int .i64 k, heldV x] W fun e w' => e = .returned (.tuple #[]) ∧ ∃ o', VotW w' q o' (n + 1) (fun m => if m = k then x else h m) ∧ Kept (fun j => j = q ∨ o = some j) W w' ∧ ∀ b, o' = some b → o = some b ∨ W.heap.size ≤ b := by
  obtain ⟨h3, h4⟩ := hk
  obtain ⟨g, h1, h2⟩ := H.map
  have HSet := Lib.hid (show ∀ m, (imSet g k x m).getD noneV = if m = k then x else h m from fun m => by
    unfold imSet
    by_cases e : m = k
    · rw [if_pos e, if_pos e]; rfl
    · rw [if_neg e, if_neg e]; exact h1 m)
  have HC := Lib.hid H.cell
  obtain ⟨hq, c0, f0⟩ := H.facts
  obtain ⟨p, a, t⟩ := x
  clear H h1
  rcases h2 with ⟨rfl, hg⟩ | ⟨b, rfl, hM⟩
  · have hmm := @run_makeMap Tryd.prog
    have HG := Lib.hid (show g = fun _ => none from funext hg)
    have hn1 := mapNil
    clear hg
    obtain ⟨W3, hW3⟩ : ∃ W3, ((W.setCell ⟨q, 0, none⟩ (.map (some (W.heap.size + 1)))).alloc (.cells #[.int .i64 p, .int .i64 a, .string t] 112)).alloc (.map #[] 0) = W3 := ⟨_, rfl⟩
    have hk3 : Kept (fun j => j = q) W W3 := by rw [← hW3]; exact ((Kept.setCell (F := fun j => j = q) (Kept.refl _ W) (p := ⟨q, 0, none⟩) (.inl rfl) _).alloc _).alloc _
    have hz3 : W3.heap.size = W.heap.size + 2 := by rw [← hW3]; simp [World.setCell]
    have hm3 : IMap heldK W3 (W.heap.size + 1) 0 (fun _ => none) := by rw [← hW3]; exact IMap.made _ _ (by simp [World.setCell])
    have hc3 : W3.heap[q]? = some (.cells #[.map (some (W.heap.size + 1))] 73 (0, 0)) := by
      rw [← hW3, Below.heap_alloc _ _ _ (by simp [World.setCell]; omega), Below.heap_alloc _ _ _ (by simp [World.setCell]; omega), heap_setCell_same _ _ _ _ _ _ HC.out]
      rfl
    obtain ⟨w2, hrun, hM2, hK2⟩ := hm3.drew.put_run Tryd.underlying71 (Nat.zero_le _) k h3 h4 ⟨p, a, t⟩
    have hrun' : (Instr.mapUpdate 71 (.map (some (W.heap.size + 1))) (.int .i64 k) (.agg #[.int .i64 p, .int .i64 a, .string t])).run Tryd.prog W3.drew = .ok () w2 := hrun
    have hd3 : W3.cell? ⟨q, 0, none⟩ = some (.map (some (W.heap.size + 1))) := by rw [cell_of_row _ _ 0 _ _ _ hc3]; rfl
    have hb3 : W3.heap[W.heap.size]? = some (.cells #[.int .i64 p, .int .i64 a, .string t] 112 (0, 0)) := by
      rw [← hW3, Below.heap_alloc _ _ _ (by simp [World.setCell])]
      have := heap_alloc_new (W.setCell ⟨q, 0, none⟩ (.map (some (W.heap.size + 1)))) (.cells #[.int .i64 p, .int .i64 a, .string t] 112)
      rwa [show (W.setCell ⟨q, 0, none⟩ (.map (some (W.heap.size + 1)))).heap.size = W.heap.size from by simp [World.setCell]] at this
    have e0 : W3.cell? ⟨W.heap.size, 0, none⟩ = some (.int .i64 p) := by rw [cell_of_row _ _ 0 _ _ _ hb3]; rfl
    have e1 : W3.cell? ⟨W.heap.size, 1, none⟩ = some (.int .i64 a) := by rw [cell_of_row _ _ 1 _ _ _ hb3]; rfl
    have e2 : W3.cell? ⟨W.heap.size, 2, none⟩ = some (.string t) := by rw [cell_of_row _ _ 2 _ _ _ hb3]; rfl
    have HV := Lib.hid (show VotW w2 q (some (W.heap.size + 1)) (n + 1) (fun m => if m = k then ⟨p, a, t⟩ else h m) from ⟨hK2.heap (show W3.heap[q]? = _ from hc3) (fun e => by omega), imSet g k ⟨p, a, t⟩, HSet.out, .inr ⟨_, rfl, by rw [HG.out]; exact hM2.mono (by omega)⟩⟩)
    have HK := Lib.hid (show Kept (fun j => j = q ∨ (none : Option Nat) = some j) W w2 from hk3.drew.trans hK2 (fun i hi => .inr (by omega)) |>.mono (fun i _ h => .inl h))
    clear hk3 hm3 hM2 hK2 hrun hc3 hb3
    go_enter Tryd.func53, Tryd.ntmps53
    go_wp2_with fail
    go_region
    go_wp2_with fail
    go_end0
    exact ⟨rfl, _, HV.out, HK.out, fun b' h => by injection h with h; exact .inr (by omega)⟩
  · have HM := Lib.hid hM
    have hn1 := mapNot b
    obtain ⟨w2, hrun, hM2, hK2⟩ := (hM.below ((Below.refl _ _).alloc (Nat.le_refl _) (.cells #[.int .i64 p, .int .i64 a, .string t] 112))).drew.put_run Tryd.underlying71 hn k h3 h4 ⟨p, a, t⟩
    have hrun' : (Instr.mapUpdate 71 (.map (some b)) (.int .i64 k) (.agg #[.int .i64 p, .int .i64 a, .string t])).run Tryd.prog (W.alloc (.cells #[.int .i64 p, .int .i64 a, .string t] 112)).drew = .ok () w2 := hrun
    have hK3 : Kept (fun j => j = q ∨ some b = some j) W w2 := (((Kept.refl _ W).alloc _).drew).trans hK2 (fun i hi => .inl (.inr (by rw [hi])))
    have HV := Lib.hid (show VotW w2 q (some b) (n + 1) (fun m => if m = k then ⟨p, a, t⟩ else h m) from ⟨hK2.heap (show (W.alloc _).heap[q]? = _ from ((Kept.refl (fun _ => False) W).alloc _).heap HC.out (fun h => h)) (fun e => hM.ne_cells HC.out e.symm), imSet g k ⟨p, a, t⟩, HSet.out, .inr ⟨b, rfl, hM2⟩⟩)
    have HK := Lib.hid hK3
    clear hM hM2 hK2 hK3 hrun
    go_enter Tryd.func53, Tryd.ntmps53
    go_wp2_with fail
    go_region
    go_wp2_with fail
    go_end0
    exact ⟨rfl, _, HV.out, HK.out, fun b' h => .inl h⟩
end
end Go.Proofs.YtefcbofjndnpkaaDoor

/- Package vote's Voter: Prepare, Accept, Promised, Accepted. -/
namespace Go.Proofs.YtefcbofjndnpkaaDoor
open Go Go.RowKit Tide

/-- A voter is one that may be. -/
structure OkVo (h : Int → HeldV) : Prop where
  low : ∀ m, -1 ≤ (h m).promised ∧ -1 ≤ (h m).accepted
/-- One matter changed. -/
def updI (h : Int → HeldV) (k : Int) (x : HeldV) : Int → HeldV := fun m => if m = k then x else h m
theorem updI_self (h : Int → HeldV) (k : Int) : updI h k (h k) = h := by
  funext m
  unfold updI
  split
  · rename_i e; rw [e]
  · rfl
section
variable {W W' : World} {q n : Nat} {o : Option Nat} {h : Int → HeldV}
theorem VotW.mono (H : VotW W q o n h) {m : Nat} (hm : n ≤ m) : VotW W q o m h := by
  refine ⟨H.cell, ?_⟩
  obtain ⟨g, h1, h2⟩ := H.map
  refine ⟨g, h1, h2.imp id ?_⟩
  rintro ⟨b, rfl, h3⟩
  exact ⟨b, rfl, h3.mono hm⟩
/-- What a call leaves of a voter. -/
def VotB (W : World) (q : Nat) (o : Option Nat) (n : Nat) (h : Int → HeldV) (w' : World) : Prop := ∃ o', VotW w' q o' n h ∧ Kept (fun j => j = q ∨ o = some j) W w' ∧ ∀ b, o' = some b → o = some b ∨ W.heap.size ≤ b
theorem VotW.stay (H : VotW W q o n h) (hb : Below W.heap.size W W') : VotB W q o (n + 1) h W' := ⟨o, (H.below hb).mono (Nat.le_succ n), Kept.of_below hb, fun _ h => .inl h⟩
theorem VotB.late {W1 : World} (hb : Below W.heap.size W W1) (H : VotB W1 q o n h W') : VotB W q o n h W' := by
  obtain ⟨o', h1, h2, h3⟩ := H
  exact ⟨o', h1, (Kept.of_below (F := fun j => j = q ∨ o = some j) hb).trans h2 (fun i hi => .inl hi), fun b e => (h3 b e).imp id (fun h => Nat.le_trans hb.size h)⟩
/-- A block of the call's own, written besides. -/
theorem VotB.write {W1 : World} (H : VotB W q o n h W1) {r : Nat} {cs : Array Value} {t : TypeId} (hr : W.heap.size ≤ r) (hq : q < W.heap.size) (hc : W1.heap[r]? = some (.cells cs t (0, 0))) (hk : Kept (fun j => j = r) W1 W') : VotB W q o n h W' := by
  obtain ⟨o', h1, h2, h3⟩ := H
  refine ⟨o', h1.kept hk (fun j hj e => ?_), h2.trans hk (fun i hi => .inr (by omega)), h3⟩
  rcases hj with hj | hj
  · omega
  · obtain ⟨g, _, h4⟩ := h1.map
    rcases h4 with ⟨h4, _⟩ | ⟨b, h4, h5⟩
    · rw [h4] at hj; cases hj
    · rw [h4] at hj
      injection hj with hj
      exact h5.ne_cells hc (by omega)
theorem heldField (p a : Int) (t : ByteArray) (w : World) : (Instr.field 112 (.agg #[.int .i64 p, .int .i64 a, .string t]) 0).run Tryd.prog w = .ok (.int .i64 p) w ∧ (Instr.field 112 (.agg #[.int .i64 p, .int .i64 a, .string t]) 1).run Tryd.prog w = .ok (.int .i64 a) w ∧ (Instr.field 112 (.agg #[.int .i64 p, .int .i64 a, .string t]) 2).run Tryd.prog w = .ok (.string t) w := ⟨by kernel_rfl, by kernel_rfl, by kernel_rfl⟩
/-- A row of three cells, set anew. -/
theorem row3 {w : World} {r : Nat} {x y z : Value} {t : TypeId} (h : w.heap[r]? = some (.cells #[x, y, z] t (0, 0))) (u v s : Value) : (((w.setCell ⟨r, 0, none⟩ u).setCell ⟨r, 1, none⟩ v).setCell ⟨r, 2, none⟩ s).heap[r]? = some (.cells #[u, v, s] t (0, 0)) :=
  heap_setCell_same _ _ _ _ _ _ (heap_setCell_same _ _ _ _ _ _ (heap_setCell_same _ _ _ _ _ _ h))
theorem kept3 (w : World) (r : Nat) (x y z : Value) : Kept (fun j => j = r) w (((w.setCell ⟨r, 0, none⟩ x).setCell ⟨r, 1, none⟩ y).setCell ⟨r, 2, none⟩ z) :=
  Kept.setCell (F := fun j => j = r) (Kept.setCell (F := fun j => j = r) (Kept.setCell (F := fun j => j = r) (Kept.refl _ w) (p := ⟨r, 0, none⟩) (.inl rfl) x) (p := ⟨r, 1, none⟩) (.inl rfl) y) (p := ⟨r, 2, none⟩) (.inl rfl) z
theorem box3 {w : World} {b : Nat} {x y z : Value} {t : TypeId} (h : w.heap[b]? = some (.cells #[x, y, z] t (0, 0))) : w.cell? ⟨b, 0, none⟩ = some x ∧ w.cell? ⟨b, 1, none⟩ = some y ∧ w.cell? ⟨b, 2, none⟩ = some z ∧ ∀ i, w.frozen? ⟨b, i, none⟩ = false :=
  ⟨by rw [cell_of_row _ _ 0 _ _ _ h]; rfl, by rw [cell_of_row _ _ 1 _ _ _ h]; rfl, by rw [cell_of_row _ _ 2 _ _ _ h]; rfl, fun i => frozen_of_row _ _ i _ _ h⟩

set_option maxRecDepth 100000 in
theorem vprepare_any (H : VotW W q o n h) (hn : n ≤ 1000000) (k b : Int) (hk : fitsI k) : Calls Tryd.prog 37 #[.pointer (some ⟨q, 0, none⟩), .int .i64 k, .int .i64 b] W fun e w' => e = .returned (.agg #[.bool (prepYes (h k) b), .int .i64 (h k).accepted, .string (h k).text]) ∧ VotB W q o (n + 1) (updI h k (prepV (h k) b)) w' := by
  have hb0 := (Below.refl W.heap.size W).alloc (Nat.le_refl _) (.cells #[.bool false, .int .i64 0, .string ⟨#[]⟩] 91)
  have H1 := Lib.hid (H.below hb0)
  have CO := Lib.hid (vof_any H1.out k hk)
  have HB0 := Lib.hid hb0
  have HK := Lib.hid hk
  have HQ := Lib.hid (show q < W.heap.size ∧ ∀ j, j = q ∨ o = some j → j < W.heap.size from ⟨H.lt, H.fp⟩)
  obtain ⟨yes, hy⟩ : ∃ y, prepYes (h k) b = y := ⟨_, rfl⟩
  rw [hy]
  obtain ⟨x, hx⟩ : ∃ x, h k = x := ⟨_, rfl⟩
  have hcmp : decide (x.promised < b) = yes := by rw [← hx]; exact hy
  have HNew := Lib.hid (show prepV x b = if yes then ⟨b, x.accepted, x.text⟩ else x from by rw [← hx]; unfold prepV; rw [hy])
  have HX := Lib.hid hx
  rw [hx] at CO ⊢
  obtain ⟨p, a, t⟩ := x
  simp only at hcmp ⊢
  clear H hb0 hk hx hy
  go_enter Tryd.func37, Tryd.ntmps37
  go_wp2_with fail
  refine CO.out.mono ?_
  rintro e w1 ⟨rfl, hb1⟩
  have hr := heap_alloc_new W (.cells #[.bool false, .int .i64 0, .string ⟨#[]⟩] 91)
  have hz0 : (W.alloc (.cells #[.bool false, .int .i64 0, .string ⟨#[]⟩] 91)).heap.size = W.heap.size + 1 := World.size_alloc _ _
  have hr1 := (Kept.of_below (F := fun _ => False) hb1).heap hr (fun h => h)
  have H2 := Lib.hid (H1.out.below hb1)
  have B1 := Lib.hid (HB0.out.trans (hb1.mono HB0.out.size))
  have hz1 := hb1.size
  rw [hz0] at hz1
  obtain ⟨r, hrr⟩ : ∃ r, W.heap.size = r := ⟨_, rfl⟩
  rw [hrr] at hr1 hz1
  have hl1 : r < w1.heap.size := by omega
  obtain ⟨d0, d1, d2, f0⟩ := box3 hr1
  have HR1 := Lib.hid hr1
  clear hb1 CO HB0 H1 hr hz0 hr1
  have HZ := Lib.hid hz1
  have HR := Lib.hid hrr
  cases yes with
  | false =>
    go_wp2_with fail
    refine bodyPost_ret (v := .agg #[.bool false, .int .i64 a, .string t]) (results_cell_row (P := Tryd.prog) Tryd.results37 _ _ r 91 _ (0, 0) _ rfl ((Below.heap_alloc _ _ _ (by simp [World.setCell]; omega)).trans (row3 HR1.out _ _ _)) Tryd.underlying91 rfl (by kernel_rfl)) rfl ⟨rfl, ?_⟩
    rw [HNew.out, if_neg (by decide), ← HX.out, updI_self]
    exact VotB.write (VotB.late B1.out (H2.out.stay (Below.refl _ _))) (r := r) (by rw [HR.out]; exact Nat.le_refl _) HQ.out.1 HR1.out ((kept3 w1 r _ _ _).alloc _)
  | true =>
    have hb2 := (Below.refl w1.heap.size w1).alloc (Nat.le_refl _) (.cells #[.int .i64 b, .int .i64 a, .string t] 112)
    have H3 := Lib.hid (H2.out.below hb2)
    have CK := Lib.hid (vkeep_any H3.out hn k HK.out ⟨b, a, t⟩)
    dsimp only [heldV] at CK
    have HR2 := Lib.hid ((Kept.of_below (F := fun _ => False) hb2).heap HR1.out (fun h => h))
    have B2 := Lib.hid (B1.out.trans (hb2.mono B1.out.size))
    have hbox := heap_alloc_new w1 (.cells #[.int .i64 b, .int .i64 a, .string t] 112)
    have HBox := Lib.hid hbox
    have hz2 : (w1.alloc (.cells #[.int .i64 b, .int .i64 a, .string t] 112)).heap.size = w1.heap.size + 1 := World.size_alloc _ _
    have HZ2 := Lib.hid hz2
    clear hb2 hbox hz2
    go_wp2_with fail
    refine CK.out.mono ?_
    rintro e w2 ⟨rfl, o', h1, h2, h3⟩
    have HV2 := Lib.hid (show VotB W q o (n + 1) (updI h k ⟨b, a, t⟩) w2 from VotB.late B2.out ⟨o', h1, h2, h3⟩)
    have hr2 := h2.heap HR2.out (fun e => by have := HQ.out.2 r e; have := HR.out; omega)
    have hx2 := h2.heap HBox.out (fun e => by have := HQ.out.2 _ e; have := HR.out; have := HZ.out; omega)
    have hl2 : r < w2.heap.size := Nat.lt_of_lt_of_le hl1 (Nat.le_trans (by have := HZ2.out; omega) h2.size)
    obtain ⟨x0, x1, x2, x3⟩ := box3 hx2
    obtain ⟨y0, y1, y2, y3⟩ := box3 hr2
    have HRR := Lib.hid hr2
    clear h1 h2 h3 hr2 hx2 CK H3 HBox d0 d1 d2 f0
    generalize w1.heap.size = x at *
    go_wp2_with fail
    refine bodyPost_ret (v := .agg #[.bool true, .int .i64 a, .string t]) (results_cell_row (P := Tryd.prog) Tryd.results37 _ _ r 91 _ (0, 0) _ rfl (row3 HRR.out _ _ _) Tryd.underlying91 rfl (by kernel_rfl)) rfl ⟨rfl, ?_⟩
    rw [HNew.out, if_pos trivial]
    exact VotB.write HV2.out (r := r) (by rw [HR.out]; exact Nat.le_refl _) HQ.out.1 HRR.out (kept3 w2 r _ _ _)
set_option maxRecDepth 100000 in
theorem vaccept_any (H : VotW W q o n h) (hn : n ≤ 1000000) (k b : Int) (hk : fitsI k) (u : ByteArray) : Calls Tryd.prog 40 #[.pointer (some ⟨q, 0, none⟩), .int .i64 k, .int .i64 b, .string u] W fun e w' => e = .returned (.bool (accYes (h k) b)) ∧ VotB W q o (n + 1) (updI h k (accV (h k) b u)) w' := by
  have CO := Lib.hid (vof_any H k hk)
  have H1 := Lib.hid H
  have HK := Lib.hid hk
  have HQ := Lib.hid (show q < W.heap.size ∧ ∀ j, j = q ∨ o = some j → j < W.heap.size from ⟨H.lt, H.fp⟩)
  obtain ⟨yes, hy⟩ : ∃ y, accYes (h k) b = y := ⟨_, rfl⟩
  rw [hy]
  obtain ⟨x, hx⟩ : ∃ x, h k = x := ⟨_, rfl⟩
  have hcmp : (decide (0 ≤ b) && decide (x.promised ≤ b)) = yes := by rw [← hx]; exact hy
  have HNew := Lib.hid (show accV x b u = if yes = true then ⟨b, b, u⟩ else x from by rw [← hx]; unfold accV; rw [hy])
  have HX := Lib.hid hx
  rw [hx] at CO ⊢
  obtain ⟨p, a, t⟩ := x
  dsimp only [heldV] at CO
  simp only at hcmp
  clear H hk hx hy
  go_enter Tryd.func40, Tryd.ntmps40
  go_wp2_with fail
  refine CO.out.mono ?_
  rintro e w1 ⟨rfl, hb1⟩
  have H2 := Lib.hid (H1.out.below hb1)
  have B1 := Lib.hid hb1
  clear hb1 CO H1
  cases yes with
  | false =>
    have HN2 := Lib.hid (show accV ⟨p, a, t⟩ b u = h k from by rw [HNew.out, if_neg (by decide)]; exact HX.out.symm)
    have HE := Lib.hid (VotB.late B1.out (H2.out.stay ((Below.refl w1.heap.size w1).alloc (Nat.le_refl _) (.cells #[.int .i64 p, .int .i64 a, .string t] 112))))
    cases q0 : decide (b < 0) with
    | true =>
      clear hcmp
      go_wp2_with fail
      go_ret
      exact ⟨rfl, by rw [HN2.out, updI_self]; exact HE.out⟩
    | false =>
      have q1 : decide (b < p) = true := by
        simp at q0 hcmp ⊢
        exact hcmp q0
      clear hcmp
      go_wp2_with fail
      go_ret
      exact ⟨rfl, by rw [HN2.out, updI_self]; exact HE.out⟩
  | true =>
    have q0 : decide (b < 0) = false := by simp at hcmp ⊢; omega
    have q1 : decide (b < p) = false := by simp at hcmp ⊢; omega
    have HN2 := Lib.hid (show accV ⟨p, a, t⟩ b u = ⟨b, b, u⟩ from by rw [HNew.out, if_pos rfl])
    have hb2 := (Below.refl w1.heap.size w1).alloc (Nat.le_refl _) (.cells #[.int .i64 b, .int .i64 b, .string u] 112)
    have H3 := Lib.hid (H2.out.below hb2)
    have CK := Lib.hid (vkeep_any H3.out hn k HK.out ⟨b, b, u⟩)
    dsimp only [heldV] at CK
    have B2 := Lib.hid (B1.out.trans (hb2.mono B1.out.size))
    clear hb2 hcmp
    go_wp2_with fail
    refine CK.out.mono ?_
    rintro e w2 ⟨rfl, o', h1, h2, h3⟩
    have HV2 := Lib.hid (show VotB W q o (n + 1) (updI h k ⟨b, b, u⟩) w2 from VotB.late B2.out ⟨o', h1, h2, h3⟩)
    clear h1 h2 h3 CK H3
    go_wp2_with fail
    go_ret
    exact ⟨rfl, by rw [HN2.out]; exact HV2.out⟩
end
end Go.Proofs.YtefcbofjndnpkaaDoor

/- Package vote's Voter where it lies within a greater block (a row of structs that embed it): of, keep, Prepare, Accept. Written out of XVtM and XVtV by a program. -/
namespace Go.Proofs.YtefcbofjndnpkaaDoor
open Go Go.RowKit Tide

theorem set_self {cs : Array Value} {i : Nat} {x : Value} (h : cs[i]? = some x) : cs.setIfInBounds i x = cs := by
  apply Array.ext_getElem?
  intro j
  rw [Array.getElem?_setIfInBounds]
  split
  · next e => subst e; rw [if_pos (Array.getElem?_eq_some_iff.1 h).1, h]
  · rfl
theorem set_get {cs : Array Value} {i : Nat} {x y : Value} (h : cs[i]? = some x) : (cs.setIfInBounds i y)[i]? = some y := by
  rw [Array.getElem?_setIfInBounds, if_pos rfl, if_pos (Array.getElem?_eq_some_iff.1 h).1]
/-- A voter within a block: its cell, and its map, if it has one; what it has of each matter. -/
structure VotA (W : World) (q off : Nat) (cs : Array Value) (ty : TypeId) (o : Option Nat) (n : Nat) (h : Int → HeldV) : Prop where
  cell : W.heap[q]? = some (.cells cs ty (0, 0))
  at' : cs[off]? = some (.map o)
  map : ∃ g : Int → Option HeldV, (∀ m, (g m).getD noneV = h m) ∧ ((o = none ∧ ∀ m, g m = none) ∨ ∃ b, o = some b ∧ IMap heldK W b n g)
section
variable {W W' : World} {q off n : Nat} {cs : Array Value} {ty : TypeId} {o : Option Nat} {h : Int → HeldV}
theorem VotA.lt (H : VotA W q off cs ty o n h) : q < W.heap.size := by
  rcases Nat.lt_or_ge q W.heap.size with hlt | hge
  · exact hlt
  · have := H.cell; rw [Array.getElem?_eq_none hge] at this; cases this
theorem VotA.fp (H : VotA W q off cs ty o n h) : ∀ k, k = q ∨ o = some k → k < W.heap.size := fun k hk => by
  rcases hk with rfl | hk
  · exact H.lt
  · obtain ⟨g, _, h2⟩ := H.map
    rcases h2 with ⟨rfl, _⟩ | ⟨b, rfl, h3⟩
    · cases hk
    · injection hk with hk
      subst hk
      exact h3.lt
theorem VotA.kept {F : Nat → Prop} (H : VotA W q off cs ty o n h) (hk : Kept F W W') (hF : ∀ k, k = q ∨ o = some k → ¬ F k) : VotA W' q off cs ty o n h := by
  refine ⟨hk.heap H.cell (hF q (.inl rfl)), H.at', ?_⟩
  obtain ⟨g, h1, h2⟩ := H.map
  refine ⟨g, h1, h2.imp id ?_⟩
  rintro ⟨b, rfl, h3⟩
  exact ⟨b, rfl, h3.kept hk (hF b (.inr rfl))⟩
theorem VotA.below (H : VotA W q off cs ty o n h) (hb : Below W.heap.size W W') : VotA W' q off cs ty o n h := H.kept (F := fun _ => False) (Kept.of_below hb) (fun _ _ h => h)
theorem VotA.facts (H : VotA W q off cs ty o n h) : q < W.heap.size ∧ W.cell? ⟨q, off, none⟩ = some (.map o) ∧ ∀ i, W.frozen? ⟨q, i, none⟩ = false := by
  refine ⟨H.lt, by rw [cell_of_row _ _ off _ _ _ H.cell]; exact H.at', fun i => ?_⟩
  exact frozen_of_row _ _ i _ _ H.cell
set_option maxRecDepth 100000 in
theorem aof_any (H : VotA W q off cs ty o n h) (k : Int) (hk : fitsI k) : Calls Tryd.prog 52 #[.pointer (some ⟨q, off, none⟩), .int .i64 k] W fun e w' => e = .returned (heldV (h k)) ∧ Below W.heap.size W w' := by
  obtain ⟨hq, c0, _⟩ := H.facts
  obtain ⟨g, h1, h2⟩ := H.map
  obtain ⟨h3, h4⟩ := hk
  have hgk := h1 k
  obtain ⟨x, hx⟩ : ∃ x, h k = x := ⟨_, rfl⟩
  rw [hx] at hgk ⊢
  have HG := Lib.hid hgk
  clear H h1 hgk hx
  rcases h2 with ⟨rfl, hn⟩ | ⟨b, rfl, hM⟩
  · have hnil : ∀ w : World, (Instr.lookup 71 (.map none) (.int .i64 k) true).run Tryd.prog w = .ok (.tuple #[.agg #[.int .i64 0, .int .i64 0, .string ⟨#[]⟩], .bool false]) w := fun w => Maps.look_nil (w := w) true imLaw Tryd.underlying71 (zeroHeld w) (kI_of k h3 h4)
    have e : x = noneV := by rw [← HG.out, hn k]; rfl
    subst e
    clear hn HG
    go_enter Tryd.func52, Tryd.ntmps52
    go_wp2_with fail
    refine bodyPost_ret (v := heldV ⟨-1, -1, ⟨#[]⟩⟩) (by simp [results, Tryd.results52, go_sem]) rfl ⟨rfl, ?_⟩
    exact (((Below.refl _ _).alloc (Nat.le_refl _) _).alloc (by rw [World.size_alloc]; omega) _)
  · have HM := Lib.hid hM
    clear hM
    cases hg : g k with
    | none =>
      have e : x = noneV := by rw [← HG.out, hg]; rfl
      subst e
      have HN := Lib.hid hg
      clear hg HG
      go_enter Tryd.func52, Tryd.ntmps52
      go_wp2_with (at_lookup; refine wpList_im_ok _ Tryd.underlying71 (HM.out.below ((Below.refl _ _).alloc (Nat.le_refl _) _)) (zeroHeld _) rfl _ _ rfl rfl k rfl h3 h4 ?_; intro y _; obtain ⟨p, a, t⟩ := y; rw [HN.out]; simp only [heldK, Option.isSome])
      refine bodyPost_ret (v := heldV ⟨-1, -1, ⟨#[]⟩⟩) (by simp [results, Tryd.results52, go_sem]) rfl ⟨rfl, ?_⟩
      exact (((Below.refl _ _).alloc (Nat.le_refl _) _).alloc (by rw [World.size_alloc]; omega) _)
    | some y =>
      have e : x = y := by rw [← HG.out, hg]; rfl
      subst e
      have HN := Lib.hid hg
      clear hg HG
      obtain ⟨p, a, t⟩ := x
      go_enter Tryd.func52, Tryd.ntmps52
      go_wp2_with (at_lookup; refine wpList_im_ok _ Tryd.underlying71 (HM.out.below ((Below.refl _ _).alloc (Nat.le_refl _) _)) (zeroHeld _) rfl _ _ rfl rfl k rfl h3 h4 ?_; intro z hz; rw [hz _ HN.out, HN.out]; simp only [heldK, Option.isSome])
      refine bodyPost_ret (v := heldV ⟨p, a, t⟩) (by simp [results, Tryd.results52, go_sem]) rfl ⟨rfl, ?_⟩
      exact (((Below.refl _ _).alloc (Nat.le_refl _) _).alloc (by rw [World.size_alloc]; omega) _)
set_option maxRecDepth 100000 in
/-- A voter, kept. -/
theorem akeep_any (H : VotA W q off cs ty o n h) (hn : n ≤ 1000000) (k : Int) (hk : fitsI k) (x : HeldV) : Calls Tryd.prog 53 #[.pointer (some ⟨q, off, none⟩), .int .i64 k, heldV x] W fun e w' => e = .returned (.tuple #[]) ∧ ∃ o', VotA w' q off (cs.setIfInBounds off (.map o')) ty o' (n + 1) (fun m => if m = k then x else h m) ∧ Kept (fun j => j = q ∨ o = some j) W w' ∧ ∀ b, o' = some b → o = some b ∨ W.heap.size ≤ b := by
  obtain ⟨h3, h4⟩ := hk
  obtain ⟨g, h1, h2⟩ := H.map
  have HSet := Lib.hid (show ∀ m, (imSet g k x m).getD noneV = if m = k then x else h m from fun m => by
    unfold imSet
    by_cases e : m = k
    · rw [if_pos e, if_pos e]; rfl
    · rw [if_neg e, if_neg e]; exact h1 m)
  have HC := Lib.hid H.cell
  have HAt := Lib.hid H.at'
  obtain ⟨hq, c0, f0⟩ := H.facts
  obtain ⟨p, a, t⟩ := x
  clear H h1
  rcases h2 with ⟨rfl, hg⟩ | ⟨b, rfl, hM⟩
  · have hmm := @run_makeMap Tryd.prog
    have HG := Lib.hid (show g = fun _ => none from funext hg)
    have hn1 := mapNil
    clear hg
    obtain ⟨W3, hW3⟩ : ∃ W3, ((W.setCell ⟨q, off, none⟩ (.map (some (W.heap.size + 1)))).alloc (.cells #[.int .i64 p, .int .i64 a, .string t] 112)).alloc (.map #[] 0) = W3 := ⟨_, rfl⟩
    have hk3 : Kept (fun j => j = q) W W3 := by rw [← hW3]; exact ((Kept.setCell (F := fun j => j = q) (Kept.refl _ W) (p := ⟨q, off, none⟩) (.inl rfl) _).alloc _).alloc _
    have hz3 : W3.heap.size = W.heap.size + 2 := by rw [← hW3]; simp [World.setCell]
    have hm3 : IMap heldK W3 (W.heap.size + 1) 0 (fun _ => none) := by rw [← hW3]; exact IMap.made _ _ (by simp [World.setCell])
    have hc3 : W3.heap[q]? = some (.cells (cs.setIfInBounds off (.map (some (W.heap.size + 1)))) ty (0, 0)) := by
      rw [← hW3, Below.heap_alloc _ _ _ (by simp [World.setCell]; omega), Below.heap_alloc _ _ _ (by simp [World.setCell]; omega), heap_setCell_same _ _ _ _ _ _ HC.out]
    obtain ⟨w2, hrun, hM2, hK2⟩ := hm3.drew.put_run Tryd.underlying71 (Nat.zero_le _) k h3 h4 ⟨p, a, t⟩
    have hrun' : (Instr.mapUpdate 71 (.map (some (W.heap.size + 1))) (.int .i64 k) (.agg #[.int .i64 p, .int .i64 a, .string t])).run Tryd.prog W3.drew = .ok () w2 := hrun
    have hd3 : W3.cell? ⟨q, off, none⟩ = some (.map (some (W.heap.size + 1))) := by rw [cell_of_row _ _ off _ _ _ hc3]; exact set_get HAt.out
    have hb3 : W3.heap[W.heap.size]? = some (.cells #[.int .i64 p, .int .i64 a, .string t] 112 (0, 0)) := by
      rw [← hW3, Below.heap_alloc _ _ _ (by simp [World.setCell])]
      have := heap_alloc_new (W.setCell ⟨q, off, none⟩ (.map (some (W.heap.size + 1)))) (.cells #[.int .i64 p, .int .i64 a, .string t] 112)
      rwa [show (W.setCell ⟨q, off, none⟩ (.map (some (W.heap.size + 1)))).heap.size = W.heap.size from by simp [World.setCell]] at this
    have e0 : W3.cell? ⟨W.heap.size, 0, none⟩ = some (.int .i64 p) := by rw [cell_of_row _ _ 0 _ _ _ hb3]; rfl
    have e1 : W3.cell? ⟨W.heap.size, 1, none⟩ = some (.int .i64 a) := by rw [cell_of_row _ _ 1 _ _ _ hb3]; rfl
    have e2 : W3.cell? ⟨W.heap.size, 2, none⟩ = some (.string t) := by rw [cell_of_row _ _ 2 _ _ _ hb3]; rfl
    have HV := Lib.hid (show VotA w2 q off (cs.setIfInBounds off (.map (some (W.heap.size + 1)))) ty (some (W.heap.size + 1)) (n + 1) (fun m => if m = k then ⟨p, a, t⟩ else h m) from ⟨hK2.heap (show W3.heap[q]? = _ from hc3) (fun e => by omega), set_get HAt.out, imSet g k ⟨p, a, t⟩, HSet.out, .inr ⟨_, rfl, by rw [HG.out]; exact hM2.mono (by omega)⟩⟩)
    have HK := Lib.hid (show Kept (fun j => j = q ∨ (none : Option Nat) = some j) W w2 from hk3.drew.trans hK2 (fun i hi => .inr (by omega)) |>.mono (fun i _ h => .inl h))
    clear hk3 hm3 hM2 hK2 hrun hc3 hb3
    go_enter Tryd.func53, Tryd.ntmps53
    go_wp2_with fail
    go_region
    go_wp2_with fail
    go_end0
    exact ⟨rfl, _, HV.out, HK.out, fun b' h => by injection h with h; exact .inr (by omega)⟩
  · have HM := Lib.hid hM
    have hn1 := mapNot b
    obtain ⟨w2, hrun, hM2, hK2⟩ := (hM.below ((Below.refl _ _).alloc (Nat.le_refl _) (.cells #[.int .i64 p, .int .i64 a, .string t] 112))).drew.put_run Tryd.underlying71 hn k h3 h4 ⟨p, a, t⟩
    have hrun' : (Instr.mapUpdate 71 (.map (some b)) (.int .i64 k) (.agg #[.int .i64 p, .int .i64 a, .string t])).run Tryd.prog (W.alloc (.cells #[.int .i64 p, .int .i64 a, .string t] 112)).drew = .ok () w2 := hrun
    have hK3 : Kept (fun j => j = q ∨ some b = some j) W w2 := (((Kept.refl _ W).alloc _).drew).trans hK2 (fun i hi => .inl (.inr (by rw [hi])))
    have HV := Lib.hid (show VotA w2 q off (cs.setIfInBounds off (.map (some b))) ty (some b) (n + 1) (fun m => if m = k then ⟨p, a, t⟩ else h m) from by
      rw [set_self HAt.out]
      exact ⟨hK2.heap (show (W.alloc _).heap[q]? = _ from ((Kept.refl (fun _ => False) W).alloc _).heap HC.out (fun h => h)) (fun e => hM.ne_cells HC.out e.symm), HAt.out, imSet g k ⟨p, a, t⟩, HSet.out, .inr ⟨b, rfl, hM2⟩⟩)
    have HK := Lib.hid hK3
    clear hM hM2 hK2 hK3 hrun
    go_enter Tryd.func53, Tryd.ntmps53
    go_wp2_with fail
    go_region
    go_wp2_with fail
    go_end0
    exact ⟨rfl, _, HV.out, HK.out, fun b' h => .inl h⟩
theorem VotA.mono (H : VotA W q off cs ty o n h) {m : Nat} (hm : n ≤ m) : VotA W q off cs ty o m h := by
  refine ⟨H.cell, H.at', ?_⟩
  obtain ⟨g, h1, h2⟩ := H.map
  refine ⟨g, h1, h2.imp id ?_⟩
  rintro ⟨b, rfl, h3⟩
  exact ⟨b, rfl, h3.mono hm⟩
/-- What a call leaves of a voter. -/
def VotC (W : World) (q off : Nat) (cs : Array Value) (ty : TypeId) (o : Option Nat) (n : Nat) (h : Int → HeldV) (w' : World) : Prop := ∃ o', VotA w' q off (cs.setIfInBounds off (.map o')) ty o' n h ∧ Kept (fun j => j = q ∨ o = some j) W w' ∧ ∀ b, o' = some b → o = some b ∨ W.heap.size ≤ b
theorem VotA.stay (H : VotA W q off cs ty o n h) (hb : Below W.heap.size W W') : VotC W q off cs ty o (n + 1) h W' := ⟨o, by rw [set_self H.at']; exact (H.below hb).mono (Nat.le_succ n), Kept.of_below hb, fun _ h => .inl h⟩
theorem VotC.late {W1 : World} (hb : Below W.heap.size W W1) (H : VotC W1 q off cs ty o n h W') : VotC W q off cs ty o n h W' := by
  obtain ⟨o', h1, h2, h3⟩ := H
  exact ⟨o', h1, (Kept.of_below (F := fun j => j = q ∨ o = some j) hb).trans h2 (fun i hi => .inl hi), fun b e => (h3 b e).imp id (fun h => Nat.le_trans hb.size h)⟩
/-- A block of the call's own, written besides. -/
theorem VotC.write {W1 : World} (H : VotC W q off cs ty o n h W1) {r : Nat} {xs : Array Value} {t : TypeId} (hr : W.heap.size ≤ r) (hq : q < W.heap.size) (hc : W1.heap[r]? = some (.cells xs t (0, 0))) (hk : Kept (fun j => j = r) W1 W') : VotC W q off cs ty o n h W' := by
  obtain ⟨o', h1, h2, h3⟩ := H
  refine ⟨o', h1.kept hk (fun j hj e => ?_), h2.trans hk (fun i hi => .inr (by omega)), h3⟩
  rcases hj with hj | hj
  · omega
  · obtain ⟨g, _, h4⟩ := h1.map
    rcases h4 with ⟨h4, _⟩ | ⟨b, h4, h5⟩
    · rw [h4] at hj; cases hj
    · rw [h4] at hj
      injection hj with hj
      exact h5.ne_cells hc (by omega)
set_option maxRecDepth 100000 in
theorem aprepare_any (H : VotA W q off cs ty o n h) (hn : n ≤ 1000000) (k b : Int) (hk : fitsI k) : Calls Tryd.prog 37 #[.pointer (some ⟨q, off, none⟩), .int .i64 k, .int .i64 b] W fun e w' => e = .returned (.agg #[.bool (prepYes (h k) b), .int .i64 (h k).accepted, .string (h k).text]) ∧ VotC W q off cs ty o (n + 1) (updI h k (prepV (h k) b)) w' := by
  have hb0 := (Below.refl W.heap.size W).alloc (Nat.le_refl _) (.cells #[.bool false, .int .i64 0, .string ⟨#[]⟩] 91)
  have H1 := Lib.hid (H.below hb0)
  have CO := Lib.hid (aof_any H1.out k hk)
  have HB0 := Lib.hid hb0
  have HK := Lib.hid hk
  have HQ := Lib.hid (show q < W.heap.size ∧ ∀ j, j = q ∨ o = some j → j < W.heap.size from ⟨H.lt, H.fp⟩)
  obtain ⟨yes, hy⟩ : ∃ y, prepYes (h k) b = y := ⟨_, rfl⟩
  rw [hy]
  obtain ⟨x, hx⟩ : ∃ x, h k = x := ⟨_, rfl⟩
  have hcmp : decide (x.promised < b) = yes := by rw [← hx]; exact hy
  have HNew := Lib.hid (show prepV x b = if yes then ⟨b, x.accepted, x.text⟩ else x from by rw [← hx]; unfold prepV; rw [hy])
  have HX := Lib.hid hx
  rw [hx] at CO ⊢
  obtain ⟨p, a, t⟩ := x
  simp only at hcmp ⊢
  clear H hb0 hk hx hy
  go_enter Tryd.func37, Tryd.ntmps37
  go_wp2_with fail
  refine CO.out.mono ?_
  rintro e w1 ⟨rfl, hb1⟩
  have hr := heap_alloc_new W (.cells #[.bool false, .int .i64 0, .string ⟨#[]⟩] 91)
  have hz0 : (W.alloc (.cells #[.bool false, .int .i64 0, .string ⟨#[]⟩] 91)).heap.size = W.heap.size + 1 := World.size_alloc _ _
  have hr1 := (Kept.of_below (F := fun _ => False) hb1).heap hr (fun h => h)
  have H2 := Lib.hid (H1.out.below hb1)
  have B1 := Lib.hid (HB0.out.trans (hb1.mono HB0.out.size))
  have hz1 := hb1.size
  rw [hz0] at hz1
  obtain ⟨r, hrr⟩ : ∃ r, W.heap.size = r := ⟨_, rfl⟩
  rw [hrr] at hr1 hz1
  have hl1 : r < w1.heap.size := by omega
  obtain ⟨d0, d1, d2, f0⟩ := box3 hr1
  have HR1 := Lib.hid hr1
  clear hb1 CO HB0 H1 hr hz0 hr1
  have HZ := Lib.hid hz1
  have HR := Lib.hid hrr
  cases yes with
  | false =>
    go_wp2_with fail
    refine bodyPost_ret (v := .agg #[.bool false, .int .i64 a, .string t]) (results_cell_row (P := Tryd.prog) Tryd.results37 _ _ r 91 _ (0, 0) _ rfl ((Below.heap_alloc _ _ _ (by simp [World.setCell]; omega)).trans (row3 HR1.out _ _ _)) Tryd.underlying91 rfl (by kernel_rfl)) rfl ⟨rfl, ?_⟩
    rw [HNew.out, if_neg (by decide), ← HX.out, updI_self]
    exact VotC.write (VotC.late B1.out (H2.out.stay (Below.refl _ _))) (r := r) (by rw [HR.out]; exact Nat.le_refl _) HQ.out.1 HR1.out ((kept3 w1 r _ _ _).alloc _)
  | true =>
    have hb2 := (Below.refl w1.heap.size w1).alloc (Nat.le_refl _) (.cells #[.int .i64 b, .int .i64 a, .string t] 112)
    have H3 := Lib.hid (H2.out.below hb2)
    have CK := Lib.hid (akeep_any H3.out hn k HK.out ⟨b, a, t⟩)
    dsimp only [heldV] at CK
    have HR2 := Lib.hid ((Kept.of_below (F := fun _ => False) hb2).heap HR1.out (fun h => h))
    have B2 := Lib.hid (B1.out.trans (hb2.mono B1.out.size))
    have hbox := heap_alloc_new w1 (.cells #[.int .i64 b, .int .i64 a, .string t] 112)
    have HBox := Lib.hid hbox
    have hz2 : (w1.alloc (.cells #[.int .i64 b, .int .i64 a, .string t] 112)).heap.size = w1.heap.size + 1 := World.size_alloc _ _
    have HZ2 := Lib.hid hz2
    clear hb2 hbox hz2
    go_wp2_with fail
    refine CK.out.mono ?_
    rintro e w2 ⟨rfl, o', h1, h2, h3⟩
    have HV2 := Lib.hid (show VotC W q off cs ty o (n + 1) (updI h k ⟨b, a, t⟩) w2 from VotC.late B2.out ⟨o', h1, h2, h3⟩)
    have hr2 := h2.heap HR2.out (fun e => by have := HQ.out.2 r e; have := HR.out; omega)
    have hx2 := h2.heap HBox.out (fun e => by have := HQ.out.2 _ e; have := HR.out; have := HZ.out; omega)
    have hl2 : r < w2.heap.size := Nat.lt_of_lt_of_le hl1 (Nat.le_trans (by have := HZ2.out; omega) h2.size)
    obtain ⟨x0, x1, x2, x3⟩ := box3 hx2
    obtain ⟨y0, y1, y2, y3⟩ := box3 hr2
    have HRR := Lib.hid hr2
    clear h1 h2 h3 hr2 hx2 CK H3 HBox d0 d1 d2 f0
    generalize w1.heap.size = x at *
    go_wp2_with fail
    refine bodyPost_ret (v := .agg #[.bool true, .int .i64 a, .string t]) (results_cell_row (P := Tryd.prog) Tryd.results37 _ _ r 91 _ (0, 0) _ rfl (row3 HRR.out _ _ _) Tryd.underlying91 rfl (by kernel_rfl)) rfl ⟨rfl, ?_⟩
    rw [HNew.out, if_pos trivial]
    exact VotC.write HV2.out (r := r) (by rw [HR.out]; exact Nat.le_refl _) HQ.out.1 HRR.out (kept3 w2 r _ _ _)
set_option maxRecDepth 100000 in
theorem aaccept_any (H : VotA W q off cs ty o n h) (hn : n ≤ 1000000) (k b : Int) (hk : fitsI k) (u : ByteArray) : Calls Tryd.prog 40 #[.pointer (some ⟨q, off, none⟩), .int .i64 k, .int .i64 b, .string u] W fun e w' => e = .returned (.bool (accYes (h k) b)) ∧ VotC W q off cs ty o (n + 1) (updI h k (accV (h k) b u)) w' := by
  have CO := Lib.hid (aof_any H k hk)
  have H1 := Lib.hid H
  have HK := Lib.hid hk
  have HQ := Lib.hid (show q < W.heap.size ∧ ∀ j, j = q ∨ o = some j → j < W.heap.size from ⟨H.lt, H.fp⟩)
  obtain ⟨yes, hy⟩ : ∃ y, accYes (h k) b = y := ⟨_, rfl⟩
  rw [hy]
  obtain ⟨x, hx⟩ : ∃ x, h k = x := ⟨_, rfl⟩
  have hcmp : (decide (0 ≤ b) && decide (x.promised ≤ b)) = yes := by rw [← hx]; exact hy
  have HNew := Lib.hid (show accV x b u = if yes = true then ⟨b, b, u⟩ else x from by rw [← hx]; unfold accV; rw [hy])
  have HX := Lib.hid hx
  rw [hx] at CO ⊢
  obtain ⟨p, a, t⟩ := x
  dsimp only [heldV] at CO
  simp only at hcmp
  clear H hk hx hy
  go_enter Tryd.func40, Tryd.ntmps40
  go_wp2_with fail
  refine CO.out.mono ?_
  rintro e w1 ⟨rfl, hb1⟩
  have H2 := Lib.hid (H1.out.below hb1)
  have B1 := Lib.hid hb1
  clear hb1 CO H1
  cases yes with
  | false =>
    have HN2 := Lib.hid (show accV ⟨p, a, t⟩ b u = h k from by rw [HNew.out, if_neg (by decide)]; exact HX.out.symm)
    have HE := Lib.hid (VotC.late B1.out (H2.out.stay ((Below.refl w1.heap.size w1).alloc (Nat.le_refl _) (.cells #[.int .i64 p, .int .i64 a, .string t] 112))))
    cases q0 : decide (b < 0) with
    | true =>
      clear hcmp
      go_wp2_with fail
      go_ret
      exact ⟨rfl, by rw [HN2.out, updI_self]; exact HE.out⟩
    | false =>
      have q1 : decide (b < p) = true := by
        simp at q0 hcmp ⊢
        exact hcmp q0
      clear hcmp
      go_wp2_with fail
      go_ret
      exact ⟨rfl, by rw [HN2.out, updI_self]; exact HE.out⟩
  | true =>
    have q0 : decide (b < 0) = false := by simp at hcmp ⊢; omega
    have q1 : decide (b < p) = false := by simp at hcmp ⊢; omega
    have HN2 := Lib.hid (show accV ⟨p, a, t⟩ b u = ⟨b, b, u⟩ from by rw [HNew.out, if_pos rfl])
    have hb2 := (Below.refl w1.heap.size w1).alloc (Nat.le_refl _) (.cells #[.int .i64 b, .int .i64 b, .string u] 112)
    have H3 := Lib.hid (H2.out.below hb2)
    have CK := Lib.hid (akeep_any H3.out hn k HK.out ⟨b, b, u⟩)
    dsimp only [heldV] at CK
    have B2 := Lib.hid (B1.out.trans (hb2.mono B1.out.size))
    clear hb2 hcmp
    go_wp2_with fail
    refine CK.out.mono ?_
    rintro e w2 ⟨rfl, o', h1, h2, h3⟩
    have HV2 := Lib.hid (show VotC W q off cs ty o (n + 1) (updI h k ⟨b, b, u⟩) w2 from VotC.late B2.out ⟨o', h1, h2, h3⟩)
    clear h1 h2 h3 CK H3
    go_wp2_with fail
    go_ret
    exact ⟨rfl, by rw [HN2.out]; exact HV2.out⟩
end
end Go.Proofs.YtefcbofjndnpkaaDoor

/- Package vote's Proposer: as it lies in memory; most, awaits. -/
namespace Go.Proofs.YtefcbofjndnpkaaDoor
open Go Go.RowKit Tide

def boolR (v : Value) : Option (DataW Unit × List MemPlace) := match v with
  | .bool x => some (.lit (.bool x), [])
  | _ => none
def boolK : ElemK Bool where
  R := boolR
  val := .bool
  dd := fun x => .lit (.bool x)
  rd := fun _ => rfl
  inv := fun {v y} h => by
    unfold boolR at h
    split at h
    · injection h with h
      exact ⟨_, rfl, h.symm⟩
    · cases h
  inj := fun {x y} h => by
    injection h with h
    injection h
theorem zeroBool (w : World) : (zeroValue 4).run Tryd.prog w = .ok (boolK.val false) w := by kernel_rfl
/-- Who proposes: its five cells, its two maps. -/
structure ProW (W : World) (q bp ba N : Nat) (p : PropV) : Prop where
  cells : W.heap[q]? = some (.cells #[.int .i64 (p.voters : Int), .string p.text, .int .i64 p.greatest, .map (some bp), .map (some ba)] 88 (0, 0))
  prom : IMap boolK W bp N p.prom
  acc : IMap boolK W ba N p.acc
  two : bp ≠ ba
def FPro (q bp ba : Nat) (k : Nat) : Prop := k = q ∨ k = bp ∨ k = ba
section
variable {W W' : World} {q bp ba N : Nat} {p : PropV}
theorem ProW.lt (h : ProW W q bp ba N p) : q < W.heap.size := by
  rcases Nat.lt_or_ge q W.heap.size with hlt | hge
  · exact hlt
  · have := h.cells; rw [Array.getElem?_eq_none hge] at this; cases this
theorem ProW.fp (h : ProW W q bp ba N p) : ∀ k, FPro q bp ba k → k < W.heap.size := fun k hk => by
  rcases hk with rfl | rfl | rfl
  · exact h.lt
  · exact h.prom.lt
  · exact h.acc.lt
theorem ProW.ne (h : ProW W q bp ba N p) : bp ≠ q ∧ ba ≠ q := ⟨h.prom.ne_cells h.cells, h.acc.ne_cells h.cells⟩
theorem ProW.kept {F : Nat → Prop} (h : ProW W q bp ba N p) (hk : Kept F W W') (hF : ∀ k, FPro q bp ba k → ¬ F k) : ProW W' q bp ba N p :=
  ⟨hk.heap h.cells (hF q (.inl rfl)), h.prom.kept hk (hF bp (.inr (.inl rfl))), h.acc.kept hk (hF ba (.inr (.inr rfl))), h.two⟩
theorem ProW.below (h : ProW W q bp ba N p) (hb : Below W.heap.size W W') : ProW W' q bp ba N p := h.kept (F := fun _ => False) (Kept.of_below hb) (fun _ _ h => h)
theorem ProW.mono (h : ProW W q bp ba N p) {M : Nat} (hM : N ≤ M) : ProW W q bp ba M p := ⟨h.cells, h.prom.mono hM, h.acc.mono hM, h.two⟩
theorem ProW.facts (h : ProW W q bp ba N p) : q < W.heap.size ∧ W.cell? ⟨q, 0, none⟩ = some (.int .i64 (p.voters : Int)) ∧ W.cell? ⟨q, 1, none⟩ = some (.string p.text) ∧ W.cell? ⟨q, 2, none⟩ = some (.int .i64 p.greatest) ∧ W.cell? ⟨q, 3, none⟩ = some (.map (some bp)) ∧ W.cell? ⟨q, 4, none⟩ = some (.map (some ba)) ∧ ∀ i, W.frozen? ⟨q, i, none⟩ = false := by
  refine ⟨h.lt, by rw [cell_of_row _ _ 0 _ _ _ h.cells]; rfl, by rw [cell_of_row _ _ 1 _ _ _ h.cells]; rfl, by rw [cell_of_row _ _ 2 _ _ _ h.cells]; rfl, by rw [cell_of_row _ _ 3 _ _ _ h.cells]; rfl, by rw [cell_of_row _ _ 4 _ _ _ h.cells]; rfl, fun i => ?_⟩
  unfold World.frozen?
  rw [show W.heap[(⟨q, i, none⟩ : Addr).block]? = _ from h.cells]
  simp

/-- How many of n voters have said yes, of those that a range has passed. -/
def cntL (n : Nat) (g : Int → Option Bool) (left : Lit → Bool) : Nat := (List.range n).countP fun j : Nat => !left (kI (j : Int)) && g (j : Int) == some true
theorem cntL_le (n : Nat) (g : Int → Option Bool) (left : Lit → Bool) : cntL n g left ≤ n := by
  have := List.countP_le_length (p := fun j : Nat => !left (kI (j : Int)) && g (j : Int) == some true) (l := List.range n)
  rw [List.length_range] at this
  exact this
theorem cntL_start (n : Nat) (g : Int → Option Bool) (left : Lit → Bool) (h : ∀ k : Int, left (kI k) = (g k).isSome) : cntL n g left = 0 := by
  unfold cntL
  rw [List.countP_eq_zero]
  intro j _ hj
  rw [h] at hj
  cases hg : g (j : Int) with
  | none => rw [hg] at hj; simp at hj
  | some x => rw [hg] at hj; simp at hj
theorem cntL_end (n : Nat) (g : Int → Option Bool) (left : Lit → Bool) (h : ∀ l, left l = false) : cntL n g left = countV n g := by
  unfold cntL countV
  refine List.countP_congr fun j _ => ?_
  rw [h]; simp
theorem cntL_step (n : Nat) (g : Int → Option Bool) (left : Lit → Bool) (k : Int) (x : Bool) (hg : g k = some x) (hl : left (kI k) = true) (h0 : 0 ≤ k) (h1 : k < (n : Int)) : cntL n g (fun z => left z && !z.sameKey (kI k)) = cntL n g left + if x then 1 else 0 := by
  obtain ⟨m, rfl⟩ : ∃ m : Nat, k = (m : Int) := ⟨k.toNat, by omega⟩
  unfold cntL
  rw [count_one (fun j : Nat => !left (kI (j : Int)) && g (j : Int) == some true) (fun j : Nat => !(left (kI (j : Int)) && !(kI (j : Int)).sameKey (kI (m : Int))) && g (j : Int) == some true) m (List.range n) List.nodup_range (List.mem_range.2 (by omega)) (fun j _ hj => by
    have : (kI (j : Int)).sameKey (kI (m : Int)) = false := by
      rw [Bool.eq_false_iff]; intro h; exact hj (by have := (kI_same _ _).1 h; omega)
    show (!(left (kI (j : Int)) && !(kI (j : Int)).sameKey (kI (m : Int))) && _) = _
    rw [this]; simp) (by show (!left (kI (m : Int)) && _) = false; rw [hl]; rfl)]
  have : (kI (m : Int)).sameKey (kI (m : Int)) = true := (kI_same _ _).2 rfl
  rw [this, hg]
  cases x <;> simp

set_option maxRecDepth 100000 in
set_option maxHeartbeats 1000000 in
theorem most_any {b m : Nat} {g : Int → Option Bool} (c0 : W.cell? ⟨q, 0, none⟩ = some (.int .i64 (p.voters : Int))) (hM : IMap boolK W b m g) (hn : p.voters ≤ 5) (hs : SuppV p.voters g) : Calls Tryd.prog 41 #[.pointer (some ⟨q, 0, none⟩), .map (some b)] W fun e w' => e = .returned (.bool (mostV p.voters g)) ∧ Below W.heap.size W w' := by
  have hq := World.block_lt_of_cell? _ _ c0
  obtain ⟨n, hN⟩ : ∃ n, p.voters = n := ⟨_, rfl⟩
  rw [hN] at c0 hn hs ⊢
  have HM := Lib.hid hM
  have HS := Lib.hid hs
  have hb := hM.lt
  have C0 := Lib.hid c0
  obtain ⟨Z, hZ⟩ : ∃ Z, mostV n g = Z := ⟨_, rfl⟩
  rw [hZ]
  have HZ := Lib.hid hZ
  clear hM hs hN hZ
  go_enter Tryd.func41, Tryd.ntmps41
  go_wp2_with (at_range; refine wpList_im_range _ Tryd.underlying86 HM.out rfl _ rfl rfl ?_; intro w0 left0 cnt0 hr0 hl0 hb0 hs0)
  have R0 := Lib.hid hr0
  have B0 := Lib.hid hb0
  have L0 := Lib.hid (show 0 = cntL n g left0 from (cntL_start n g left0 hl0).symm)
  clear hr0 hb0 hl0
  go_loopw [5] (fun t wr => ∃ (left : Lit → Bool) (cnt T : Nat), t = .int .i64 (T : Int) ∧ T ≤ 5 ∧ Hid (IRng boolK wr b W.heap.size g left cnt) ∧ Hid (T = cntL n g left) ∧ Hid (Below W.heap.size W wr)) (fun _ wr => wr.rangeLeft b W.heap.size)
  case atStart => exact ⟨left0, cnt0, 0, rfl, by omega, R0, L0, B0⟩
  case round =>
    clear R0 L0 B0
    obtain ⟨left, cnt, T, rfl, hT, hRg, hL, hBr⟩ := hrel
    have hc := (below_cells hBr.out _ _ hq).trans C0.out
    go_wp2_with (at_next; refine wpList_im_next _ hRg.out rfl _ rfl rfl ?_ ?_; rotate_left; intro k x w1 cnt1 hg hlk hr1 hlt hk1 hs1 hen; rotate_left)
    · intro hl
      have HE := Lib.hid (show T = countV n g from by rw [hL.out]; exact cntL_end n g left hl)
      obtain ⟨Q, hQ⟩ : ∃ Q, n / 2 = Q := ⟨_, rfl⟩
      have hdv : (n : Int).tdiv 2 = (Q : Int) := by rw [Int.tdiv_eq_ediv_of_nonneg (by omega)]; omega
      have hdw : (n : Int) / 2 = (Q : Int) := by omega
      have hw1 : wrap64 (Q : Int) = (Q : Int) := by unfold wrap64; omega
      have hw2 : IntKind.i64.wrap (Q : Int) = (Q : Int) := by simp [IntKind.wrap, IntKind.signed, IntKind.bits]; omega
      have HM2 := Lib.hid (show decide (Q < T) = mostV n g from by rw [HE.out]; unfold mostV; rw [hQ])
      rw [HZ.out] at HM2
      have hcm : decide ((Q : Int) < (T : Int)) = decide (Q < T) := by
        rw [Bool.eq_iff_iff]; simp only [decide_eq_true_eq]; omega
      rw [HM2.out] at hcm
      have hcn := HM2.out
      clear hl hQ hn
      go_wp2_with fail
      go_ret
      exact ⟨rfl, hBr.out⟩
    all_goals
      rename_i hx
      have R1 := Lib.hid hr1
      have B1 := Lib.hid (hBr.out.trans (hk1.below hBr.out.size (fun i hi => by rw [show i = W.heap.size from hi]; exact Nat.le_refl _)))
      obtain ⟨hk0, hk5⟩ := HS.out k x hg
      have L1 := Lib.hid (show T + (if x then 1 else 0) = cntL n g (fun z => left z && !z.sameKey (kI k)) from by rw [cntL_step n g left k x hg hlk hk0 hk5, ← hL.out])
      have HT1 := Lib.hid (show T + (if x then 1 else 0) ≤ 5 from by rw [L1.out]; exact Nat.le_trans (cntL_le _ _ _) hn)
      have HM1 := Lib.hid (show wr.rangeLeft b W.heap.size = cnt from hRg.out.left_eq)
      have HM2 := Lib.hid (show w1.rangeLeft b W.heap.size = cnt1 from hr1.left_eq)
      clear hr1 hk1 hg hlk hk0 hk5
    · subst hx
      refine ⟨⟨_, cnt1, T + 1, by go_num, HT1.out, R1, L1, B1⟩, ?_⟩
      rw [HM1.out, HM2.out]; exact hlt
    · subst hx
      refine ⟨⟨_, cnt1, T, rfl, hT, R1, L1, B1⟩, ?_⟩
      rw [HM1.out, HM2.out]; exact hlt
set_option maxRecDepth 100000 in
theorem awaits_any {b m : Nat} {g : Int → Option Bool} (c0 : W.cell? ⟨q, 0, none⟩ = some (.int .i64 (p.voters : Int))) (hM : IMap boolK W b m g) (k : Int) (hk : fitsI k) : Calls Tryd.prog 51 #[.pointer (some ⟨q, 0, none⟩), .map (some b), .int .i64 k] W fun e w' => e = .returned (.bool (awaitsV p.voters g k)) ∧ W = w' := by
  have hq := World.block_lt_of_cell? _ _ c0
  obtain ⟨n, hN⟩ : ∃ n, p.voters = n := ⟨_, rfl⟩
  rw [hN] at c0 ⊢
  have HM := Lib.hid hM
  obtain ⟨h3, h4⟩ := hk
  obtain ⟨R, hR⟩ : ∃ R, (g k).isSome = R := ⟨_, rfl⟩
  have HR := Lib.hid hR
  have HA := Lib.hid (show awaitsV n g k = (!R && (decide (0 ≤ k) && decide (k < (n : Int)))) from by unfold awaitsV; rw [← hR]; cases g k <;> rfl)
  rw [HA.out]
  clear hM hR hN
  go_enter Tryd.func51, Tryd.ntmps51
  go_wp2_with (at_lookup; refine wpList_im_ok _ Tryd.underlying86 HM.out (zeroBool _) rfl _ _ rfl rfl k rfl h3 h4 ?_; intro y _; rw [HR.out]; simp only [boolK])
  · go_ret
    exact ⟨rfl, rfl⟩
  · go_ret
    exact ⟨rfl, rfl⟩
  · rename_i hneg
    have e : decide (0 ≤ k) = false := decide_eq_false (by omega)
    rw [e]
    go_ret
    exact ⟨rfl, rfl⟩
end
end Go.Proofs.YtefcbofjndnpkaaDoor
