/- A map keyed by whole numbers, of elements of any kind that read through no place: what lies in memory, as a function; what is looked up, stored, and what a range over it gives. It speaks of no function of the program. -/
import Derived.Test.YtfgpjelnijeoaaaDoorKeep
import Derived.Test.YtfgpjelnijeoaaaDoorLaw
import Derived.Maps.OwnOps
import Derived.Maps.OwnSet
import Derived.Maps.RangeWalk
import Derived.WalkKit
import Derived.WalkSpells
namespace Go.Proofs.YtfgpjelnijeoaaaDoor
open Go Go.RowKit Tide
open Go.Maps (Keyed IsMap)

/-- Elements of a kind: how a value reads, and back. -/
structure ElemK (α : Type) where
  R : Value → Option (DataW Unit × List MemPlace)
  val : α → Value
  dd : α → DataW Unit
  rd : ∀ x, R (val x) = some (dd x, [])
  inv : ∀ {v y}, R v = some y → ∃ x, v = val x ∧ y = (dd x, [])
  inj : ∀ {x y}, dd x = dd y → x = y
theorem imLaw : Keyed Tryd.prog 3 := Maps.int_keyed Tryd.underlying3
/-- A whole number as a key. -/
abbrev kI (a : Int) : Lit := .int .i64 a
theorem kI_of (a : Int) (h0 : -9223372036854775808 ≤ a) (h1 : a ≤ 9223372036854775807) : keyOf Tryd.prog 3 (.int .i64 a) = some (kI a) :=
  Maps.keyOf_int_mk Tryd.underlying3 (by first | exact WalkArith.wf_i64 (by omega) | (unfold Lit.wf; simp; omega))
theorem kI_ne {a b : Int} (h : a ≠ b) : kI a ≠ kI b := fun e => h (by injection e)
theorem kI_is (a : Int) : WideAt.IsKeyLit (kI a) := trivial
theorem kI_same (a b : Int) : (kI a).sameKey (kI b) = true ↔ a = b := by
  constructor
  · intro h
    have := WideAt.sameKey_eq h
    injection this
  · intro h; subst h; simp [Lit.sameKey]
/-- A function with one answer changed. -/
def imSet {α : Type} (g : Int → Option α) (k : Int) (x : α) : Int → Option α := fun a => if a = k then some x else g a
/-- Block b is the map of just those answers, of at most n of them. -/
def IMap {α : Type} (K : ElemK α) (W : World) (b n : Nat) (g : Int → Option α) : Prop := ∃ D, W.ownsMap Tryd.prog 3 K.R b (Maps.size D) D ∧ Maps.Tidy D ∧ Maps.size D ≤ n ∧ ∀ a, Maps.has D (kI a) = (g a).isSome ∧ ∀ x, g a = some x → ∀ z, D.atKey (kI a) z = K.dd x
/-- A range over such a map is under way. -/
def IRng {α : Type} (K : ElemK α) (W : World) (b r : Nat) (g : Int → Option α) (left : Lit → Bool) (cnt : Nat) : Prop := ∃ n D, W.ranges Tryd.prog 3 K.R b r n D left cnt ∧ ∀ a, Maps.has D (kI a) = (g a).isSome ∧ ∀ x, g a = some x → ∀ z, D.atKey (kI a) z = K.dd x
theorem im_least {α : Type} {K : ElemK α} {W : World} {b n : Nat} {D : DataW Unit} (h : W.ownsMap Tryd.prog 3 K.R b n D) : W.ownsMap Tryd.prog 3 K.R b (Maps.size D) D := by
  obtain ⟨es, clock, h1, h2, _, rfl⟩ := h
  exact ⟨es, clock, h1, h2, by rw [Maps.size_eq, length_read]; exact Nat.le_refl _, rfl⟩
section
variable {α : Type} {K : ElemK α} {W W' : World} {b n : Nat} {g : Int → Option α}
theorem IMap.lt (h : IMap K W b n g) : b < W.heap.size := by obtain ⟨D, h1, _⟩ := h; exact h1.lt
theorem IMap.mono (h : IMap K W b n g) {m : Nat} (hm : n ≤ m) : IMap K W b m g := by obtain ⟨D, h1, h2, h3, h4⟩ := h; exact ⟨D, h1, h2, Nat.le_trans h3 hm, h4⟩
theorem IMap.kept {F : Nat → Prop} (h : IMap K W b n g) (hk : Kept F W W') (hF : ¬ F b) : IMap K W' b n g := by
  obtain ⟨D, ⟨es, clock, h1, h2⟩, h3⟩ := h
  exact ⟨D, ⟨es, clock, hk.heap h1 hF, h2⟩, h3⟩
theorem IMap.below (h : IMap K W b n g) (hb : Below W.heap.size W W') : IMap K W' b n g := h.kept (F := fun _ => False) (Kept.of_below hb) (fun h => h)
theorem IMap.made (W : World) (g0 : Nat) (hg : g0 = W.heap.size) : IMap K (W.alloc (.map #[] 0)) g0 0 (fun _ => none) := by
  subst hg
  exact ⟨.map [], im_least (World.ownsMap_made W Tryd.prog 3 K.R), Maps.tidy_empty, Nat.le_refl _, fun _ => ⟨rfl, fun _ h => by cases h⟩⟩
/-- A map is no row. -/
theorem IMap.ne_cells (h : IMap K W b n g) {q : Nat} {cs : Array Value} {t : TypeId} {m : Nat × Nat} (hq : W.heap[q]? = some (.cells cs t m)) : b ≠ q := fun e => by
  obtain ⟨D, ⟨es, clock, h1, _⟩, _⟩ := h
  rw [e, hq] at h1
  cases h1
theorem im_turned {w w' : World} {b : Nat} (h : w.mapTurned w' b) : Kept (fun k => k = b) w w' := (Kept.refl _ _).grown h.grown (fun k hk => .inl (by injection hk with hk; exact hk.symm))
theorem im_grown {w w' : World} {row : Option Nat} {F : Nat → Prop} (h : w.grownBy w' row) (hF : ∀ k, row = some k → F k) : Kept F w w' := (Kept.refl _ _).grown h (fun k hk => .inl (hF k hk))
theorem IRng.left_eq {r cnt : Nat} {left : Lit → Bool} (h : IRng K W b r g left cnt) : W.rangeLeft b r = cnt := by obtain ⟨n, D, h1, h2⟩ := h; exact h1.left_eq
theorem IRng.kept {r cnt : Nat} {left : Lit → Bool} {F : Nat → Prop} (h : IRng K W b r g left cnt) (hk : Kept F W W') (hb : ¬ F b) (hr : ¬ F r) : IRng K W' b r g left cnt := by
  obtain ⟨n, D, ⟨es, clock, since, seen, c0, h1, h2, h3, h4, h5, h6⟩, h7⟩ := h
  exact ⟨n, D, ⟨es, clock, since, seen, c0, hk.heap h1 hb, h2, h3, h4, hk.heap h5 hr, h6⟩, h7⟩
end
theorem IMap.drew {α : Type} {K : ElemK α} {W : World} {b n : Nat} {g : Int → Option α} (h : IMap K W b n g) : IMap K W.drew b n g := h
set_option maxRecDepth 100000 in
/-- 'm[k] = x', as an equation. -/
theorem IMap.put_run {α : Type} {K : ElemK α} {w : World} {b n : Nat} {g : Int → Option α} (hown : IMap K w b n g) {T E : TypeId} (hT : Tryd.prog.underlying T = some (.map 3 E)) (hsz : n ≤ 1000000) (k : Int) (h0 : -9223372036854775808 ≤ k) (h1 : k ≤ 9223372036854775807) (y : α) :
    ∃ w', (Instr.mapUpdate T (.map (some b)) (.int .i64 k) (K.val y)).run Tryd.prog w = .ok () w' ∧ IMap K w' b (n + 1) (imSet g k y) ∧ Kept (fun j => j = b) w w' := by
  obtain ⟨D, h2, ht, hs, h3⟩ := hown
  obtain ⟨w', hrun, h4, h5⟩ := h2.store imLaw hT (by unfold maxLen; omega) (kI_of k h0 h1) (K.rd y)
  refine ⟨w', hrun, ⟨_, im_least h4, ht.put (kI_is _) _, ?_, fun c => ?_⟩, im_turned h5⟩
  · rw [Maps.size_put ht]
    split <;> omega
  · unfold imSet
    by_cases e : c = k
    · subst e
      rw [if_pos rfl]
      exact ⟨by rw [Maps.has_put_same ht.isMap (kI_is _)]; rfl, fun x hx z => by
        injection hx with hx
        subst hx
        exact Maps.atKey_put_same ht.isMap (kI_is _) _ _⟩
    · rw [if_neg e]
      exact ⟨by rw [Maps.has_put_other (kI_ne e)]; exact (h3 c).1, fun x hx z => by rw [Maps.atKey_put_other (kI_ne e)]; exact (h3 c).2 x hx z⟩
section
variable {α : Type} {K : ElemK α} (w : World) {ops : Array Oper} {rest : List Oper} {o : Oper} {a : Act} {Q : Exit → Act → World → Prop} {b n : Nat} {g : Int → Option α}
variable {T E : TypeId} (hT : Tryd.prog.underlying T = some (.map 3 E))
include hT
set_option maxRecDepth 100000 in
/-- 'x, ok := m[k]'. -/
theorem wpList_im_ok (hown : IMap K w b n g) {z0 : α} (hz : (zeroValue E).run Tryd.prog w = .ok (K.val z0) w) (hg : o.guard = none) (m x : Operand) (hop : o.op = Op.lookup T m x true) (hm : a.eval m = .map (some b)) (k : Int) (hx : a.eval x = .int .i64 k) (h0 : -9223372036854775808 ≤ k) (h1 : k ≤ 9223372036854775807)
    (hK : ∀ y, (∀ z, g k = some z → y = z) → wpList Tryd.prog ops Q rest (a.put o.dst (.tuple #[K.val y, .bool (g k).isSome])) w) : wpList Tryd.prog ops Q (o :: rest) a w := by
  obtain ⟨D, h2, _, _, h3⟩ := hown
  refine wpList_lookup_own_ok w hg m x _ hop 3 E imLaw hT K.R hz _ [] (K.rd z0) b _ D hm h2 _ _ hx (kI_of k h0 h1) (fun v q hv => ?_)
  obtain ⟨y, rfl, hy⟩ := K.inv hv
  rw [(h3 k).1]
  refine hK y (fun z hz => K.inj ?_)
  have h4 := (h3 k).2 z hz (K.dd z0)
  injection hy with hy _
  exact hy.symm.trans h4
/-- 'range m'. -/
theorem wpList_im_range (hown : IMap K w b n g) (hg : o.guard = none) (m : Operand) (hop : o.op = Op.range T m) (hm : a.eval m = .map (some b))
    (hK : ∀ w' left cnt, IRng K w' b w.heap.size g left cnt → (∀ k : Int, left (kI k) = (g k).isSome) → Below w.heap.size w w' → w'.heap.size = w.heap.size + 1 → wpList Tryd.prog ops Q rest (a.put o.dst (.pointer (some ⟨w.heap.size, 0, none⟩))) w') : wpList Tryd.prog ops Q (o :: rest) a w := by
  obtain ⟨D, h2, _, _, h3⟩ := hown
  exact wpList_range_own w hg m _ hop 3 E imLaw hT K.R b _ D hm h2 (fun w' h4 h5 h6 => hK w' _ _ ⟨_, D, h4, h3⟩ (fun k => (h3 k).1) ⟨h5.os, h5.tape, h5.output, h5.size, fun i hi => h5.block i hi (by simp)⟩ h6)
end
section
variable {α : Type} {K : ElemK α} (w : World) {ops : Array Oper} {rest : List Oper} {o : Oper} {a : Act} {Q : Exit → Act → World → Prop} {b r cnt : Nat} {g : Int → Option α} {left : Lit → Bool}
set_option maxRecDepth 100000 in
/-- The next of a range: none is left, or one that was. -/
theorem wpList_im_next (h : IRng K w b r g left cnt) (hg : o.guard = none) (it : Operand) (hop : o.op = Op.next it false) (hit : a.eval it = .pointer (some ⟨r, 0, none⟩))
    (hDone : (∀ kl, left kl = false) → wpList Tryd.prog ops Q rest (a.put o.dst (.tuple #[.bool false])) w)
    (hMore : ∀ (k : Int) (x : α) (w' : World) (cnt' : Nat), g k = some x → left (kI k) = true → IRng K w' b r g (fun z => left z && !z.sameKey (kI k)) cnt' → cnt' < cnt → Kept (fun k => k = r) w w' → w'.heap.size = w.heap.size →
      (Instr.entry (.pointer (some ⟨r, 0, none⟩))).run Tryd.prog w' = .ok (.tuple #[.int .i64 k, K.val x]) w' → wpList Tryd.prog ops Q rest (a.put o.dst (.tuple #[.bool true, .int .i64 k, K.val x])) w') :
    wpList Tryd.prog ops Q (o :: rest) a w := by
  obtain ⟨n, D, h2, h3⟩ := h
  refine wpList_next_ranges w hg it hop 3 imLaw K.R (Value.int .i64) K.val (fun key kl hkey => by obtain ⟨x, rfl, _⟩ := Maps.keyOf_int_inv Tryd.underlying3 hkey; exact ⟨x, rfl⟩) (fun v y hv => by obtain ⟨x, rfl, _⟩ := K.inv hv; exact ⟨x, rfl⟩)
    b r n D left cnt hit h2 (fun _ hl => hDone hl) (fun x c kl y w' cnt' hkey hl hv hat hrg hlt hgr hsz hen => ?_)
  obtain ⟨x', ex, rfl, _⟩ := Maps.keyOf_int_inv Tryd.underlying3 hkey
  cases ex
  have hs := (h3 x).1.symm.trans (Maps.has_true_of_atKey hat)
  obtain ⟨z, hz⟩ := Option.isSome_iff_exists.1 hs
  obtain ⟨z', ez, hy⟩ := K.inv hv
  have h5 : y.1 = K.dd z := (hat (.agg [])).symm.trans ((h3 x).2 z hz (.agg []))
  rw [hy] at h5
  have h6 : z' = z := K.inj h5
  have h7 : K.val c = K.val z := by rw [← h6]; exact ez
  rw [h7] at hen ⊢
  exact hMore x z w' cnt' hz hl ⟨n, D, hrg, h3⟩ hlt (im_grown (F := fun k => k = r) hgr (fun k hk => (Option.some.inj hk).symm)) hsz hen
end
end Go.Proofs.YtfgpjelnijeoaaaDoor
