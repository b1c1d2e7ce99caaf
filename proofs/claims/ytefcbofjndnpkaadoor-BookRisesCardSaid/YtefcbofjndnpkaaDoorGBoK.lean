/- A map of plans by epoch, as values; what a book may change and what it leaves, by what lies in a block. No walk stands here. -/
import Derived.Test.YtefcbofjndnpkaaDoorGPlCa
import Derived.Test.YtefcbofjndnpkaaDoorGIm
import Derived.Test.YtefcbofjndnpkaaDoorGMem
namespace Go.Proofs.YtefcbofjndnpkaaDoor
open Go Go.RowKit Tide

/-- A plan as an element of a map: its epoch, its chains' slice. -/
structure PlanE where
  ep : Int
  blk : Option Nat
  len : Nat
  cap : Nat
def PlanE.sl (x : PlanE) : Value := .slice (x.blk.map fun b => (⟨b, 0, none⟩ : Addr)) x.len x.cap
def PlanE.val (x : PlanE) : Value := planV x.ep x.sl
def planR (v : Value) : Option (DataW Unit × List MemPlace) := match v with
  | .agg xs => match xs.toList with
    | [.int .i64 e, .slice none l c] => some (.agg [.lit (.int .i64 e), .lit (.bool false), .lit (.int .i64 0), .lit (.int .i64 (l : Int)), .lit (.int .i64 (c : Int))], [])
    | [.int .i64 e, .slice (some ⟨b, 0, none⟩) l c] => some (.agg [.lit (.int .i64 e), .lit (.bool true), .lit (.int .i64 (b : Int)), .lit (.int .i64 (l : Int)), .lit (.int .i64 (c : Int))], [])
    | _ => none
  | _ => none
def PlanE.dd (x : PlanE) : DataW Unit := .agg [.lit (.int .i64 x.ep), .lit (.bool x.blk.isSome), .lit (.int .i64 ((x.blk.getD 0 : Nat) : Int)), .lit (.int .i64 (x.len : Int)), .lit (.int .i64 (x.cap : Int))]
def planK : ElemK PlanE where
  R := planR
  val := PlanE.val
  dd := PlanE.dd
  rd := fun x => by obtain ⟨e, b, l, c⟩ := x; cases b <;> rfl
  inv := fun {v y} h => by
    unfold planR at h
    split at h
    · rename_i xs
      split at h
      · rename_i e l c hx
        injection h with h
        exact ⟨⟨e, none, l, c⟩, by rw [← Array.toArray_toList (xs := xs), hx]; rfl, h.symm⟩
      · rename_i e b l c hx
        injection h with h
        exact ⟨⟨e, some b, l, c⟩, by rw [← Array.toArray_toList (xs := xs), hx]; rfl, h.symm⟩
      · cases h
    · cases h
  inj := fun {x y} h => by
    obtain ⟨e, b, l, c⟩ := x
    obtain ⟨e', b', l', c'⟩ := y
    injection h with h
    injection h with h1 h
    injection h with h2 h
    injection h with h3 h
    injection h with h4 h
    injection h with h5 _
    injection h1 with h1; injection h1 with _ h1
    injection h2 with h2; injection h2 with h2
    injection h3 with h3; injection h3 with _ h3
    injection h4 with h4; injection h4 with _ h4
    injection h5 with h5; injection h5 with _ h5
    simp only at h1 h2 h3 h4 h5
    have e1 : l = l' := by omega
    have e2 : c = c' := by omega
    subst h1 e1 e2
    cases b with
    | none => cases b' with
      | none => rfl
      | some _ => cases h2
    | some b => cases b' with
      | none => cases h2
      | some b' =>
        have : b = b' := by simp only [Option.getD_some] at h3; omega
        subst this; rfl
theorem zeroPlan (w : World) : (zeroValue 27).run Tryd.prog w = .ok (planK.val ⟨0, none, 0, 0⟩) w := by kernel_rfl
theorem own_planE {w : World} {base n : Nat} {t : TypeId} {v : Value} {xs : List Value} (ep : Int) (h : w.ownsRow base t 1 v n xs) : ∃ x : PlanE, planV ep v = x.val ∧ v = x.sl ∧ x.ep = ep := by
  rcases h.2 with ⟨rfl, _⟩ | ⟨g, cap, cur, rfl, _⟩
  · exact ⟨⟨ep, none, 0, 0⟩, rfl, rfl, rfl⟩
  · exact ⟨⟨ep, some g, n, cap⟩, rfl, rfl, rfl⟩

/-- Block b is the map of just those answers, of just n of them. -/
def IMapE {α : Type} (K : ElemK α) (W : World) (b n : Nat) (g : Int → Option α) : Prop := ∃ D, W.ownsMap Tryd.prog 3 K.R b (Maps.size D) D ∧ Maps.Tidy D ∧ Maps.size D = n ∧ ∀ a, Maps.has D (kI a) = (g a).isSome ∧ ∀ x, g a = some x → ∀ z, D.atKey (kI a) z = K.dd x
section
variable {α : Type} {K : ElemK α} {W W' : World} {b n : Nat} {g : Int → Option α}
theorem IMapE.im (h : IMapE K W b n g) : IMap K W b n g := by obtain ⟨D, h1, h2, h3, h4⟩ := h; exact ⟨D, h1, h2, Nat.le_of_eq h3, h4⟩
theorem IMapE.kept {F : Nat → Prop} (h : IMapE K W b n g) (hk : Kept F W W') (hF : ¬ F b) : IMapE K W' b n g := by
  obtain ⟨D, ⟨es, clock, h1, h2⟩, h3⟩ := h
  exact ⟨D, ⟨es, clock, hk.heap h1 hF, h2⟩, h3⟩
theorem IMapE.below (h : IMapE K W b n g) (hb : Below W.heap.size W W') : IMapE K W' b n g := h.kept (F := fun _ => False) (Kept.of_below hb) (fun h => h)
theorem IMapE.made (W : World) (g0 : Nat) (hg : g0 = W.heap.size) : IMapE K (W.alloc (.map #[] 0)) g0 0 (fun _ => none) := by
  subst hg
  exact ⟨.map [], im_least (World.ownsMap_made W Tryd.prog 3 K.R), Maps.tidy_empty, rfl, fun _ => ⟨rfl, fun _ h => by cases h⟩⟩
theorem IMapE.drew (h : IMapE K W b n g) : IMapE K W.drew b n g := h
set_option maxRecDepth 100000 in
/-- 'm[k] = x' of a key that wasn't there. -/
theorem IMapE.put_run (hown : IMapE K W b n g) {T E : TypeId} (hT : Tryd.prog.underlying T = some (.map 3 E)) (hsz : n ≤ 1000000) (k : Int) (h0 : -9223372036854775808 ≤ k) (h1 : k ≤ 9223372036854775807) (hg : g k = none) (y : α) :
    ∃ w', (Instr.mapUpdate T (.map (some b)) (.int .i64 k) (K.val y)).run Tryd.prog W = .ok () w' ∧ IMapE K w' b (n + 1) (imSet g k y) ∧ Kept (fun j => j = b) W w' := by
  obtain ⟨D, h2, ht, hs, h3⟩ := hown
  obtain ⟨w', hrun, h4, h5⟩ := h2.store imLaw hT (by unfold maxLen; omega) (kI_of k h0 h1) (K.rd y)
  refine ⟨w', hrun, ⟨_, im_least h4, ht.put (kI_is _) _, ?_, fun c => ?_⟩, im_turned h5⟩
  · rw [Maps.size_put ht]
    rw [if_neg (by rw [(h3 k).1, hg]; simp)]
    omega
  · unfold imSet
    by_cases e : c = k
    · subst e
      rw [if_pos rfl]
      exact ⟨by rw [Maps.has_put_same ht.isMap (kI_is _)]; rfl, fun x hx z => by
        injection hx with hx
        subst hx
        exact Maps.atKey_put_same ht.isMap (kI_is _) _ _⟩
    · rw [if_neg e]
      exact ⟨by rw [Maps.has_put_other (kI_ne e)]; exact (h3 c).1, fun x hx z => by rw [Maps.atKey_put_other (kI_ne e)]; exact (h3 c).2 x hx z⟩
end
section
variable {α : Type} {K : ElemK α} (w : World) {ops : Array Oper} {rest : List Oper} {o : Oper} {a : Act} {Q : Exit → Act → World → Prop} {b n : Nat} {g : Int → Option α}
variable {T E : TypeId} (hT : Tryd.prog.underlying T = some (.map 3 E))
include hT
/-- 'len(m)'. -/
theorem wpList_ime_len (hown : IMapE K w b n g) (hg : o.guard = none) (m : Operand) (hop : o.op = Op.call { callee := Callee.builtin Builtin.len, args := #[m], argTypes := #[T] }) (hm : a.eval m = .map (some b))
    (hK : wpList Tryd.prog ops Q rest (a.put o.dst (.int .i64 (n : Int))) w) : wpList Tryd.prog ops Q (o :: rest) a w := by
  obtain ⟨D, h2, _, hs, _⟩ := hown
  refine wpList_len_own w hg m T hop 3 E hT K.R b _ D hm h2 ?_
  rw [hs]; exact hK
set_option maxRecDepth 100000 in
/-- 'm[k]', as an equation. -/
theorem IMap.get_run (hown : IMap K w b n g) {z0 : α} (hz : (zeroValue E).run Tryd.prog w = .ok (K.val z0) w) (k : Int) (h0 : -9223372036854775808 ≤ k) (h1 : k ≤ 9223372036854775807) {x : α} (hx : g k = some x) :
    (Instr.lookup T (.map (some b)) (.int .i64 k) false).run Tryd.prog w = .ok (K.val x) w := by
  obtain ⟨D, h2, _, _, h3⟩ := hown
  obtain ⟨v, q, hrun, hv⟩ := h2.lookup imLaw hT hz (K.rd z0) (kI_of k h0 h1)
  obtain ⟨y, rfl, hy⟩ := K.inv hv
  have h4 := (h3 k).2 x hx (K.dd z0)
  injection hy with hy _
  have : y = x := K.inj (hy.symm.trans h4)
  rw [← this]
  exact hrun
end

/-- What may lie in a block that a book, its voters, or who proposes own: a map, or one of their structs. -/
def Soft (W : World) (k : Nat) : Prop := ∀ cur t m, W.heap[k]? = some (.cells cur t m) → t = 54 ∨ t = 75 ∨ t = 88
/-- From base on only such blocks are changed. -/
def KeptS (base : Nat) (W W' : World) : Prop := Kept (fun k => base ≤ k ∧ Soft W k) W W'
section
variable {base : Nat} {W W' W'' : World}
theorem KeptS.trans (h : KeptS base W W') (k : KeptS base W' W'') : KeptS base W W'' := by
  refine Kept.trans h k (fun i hi => ?_)
  rcases Nat.lt_or_ge i W.heap.size with hlt | hge
  · refine .inl (Classical.byContradiction fun hF => hF ⟨hi.1, fun cur t m hc => ?_⟩)
    exact hi.2 cur t m ((h.block i hlt hF).trans hc)
  · exact .inr hge
theorem KeptS.of_below (hb : Below W.heap.size W W') : KeptS base W W' := Kept.of_below hb
theorem KeptS.refl (base : Nat) (W : World) : KeptS base W W := KeptS.of_below (Below.refl _ _)
theorem KeptS.of_kept {F : Nat → Prop} (hk : Kept F W W') (hF : ∀ k, F k → k < W.heap.size → base ≤ k ∧ Soft W k) : KeptS base W W' := hk.mono fun i hi h => hF i h hi
theorem KeptS.below (h : KeptS base W W') (hB : base ≤ W.heap.size) : Below base W W' := Kept.below h hB (fun _ hi => hi.1)
theorem KeptS.size (h : KeptS base W W') : W.heap.size ≤ W'.heap.size := Kept.size h
theorem KeptS.later {base' : Nat} (h : KeptS base' W W') (hb : base ≤ base') : KeptS base W W' := Kept.mono h fun _ _ hi => ⟨Nat.le_trans hb hi.1, hi.2⟩
theorem rowS_obj {b0 n s : Nat} {e : TypeId} {v : Value} {xs : List Value} {k : Nat} (h : W.ownsRow b0 e s v n xs) (hv : v.ownBlock = some k) : ∃ cur, W.heap[k]? = some (.cells cur e (0, 0)) := by
  rcases h.2 with ⟨rfl, _⟩ | ⟨g, cap, cur, rfl, _, hg, _⟩
  · cases hv
  · have : g = k := by simpa [Value.ownBlock] using hv
    subst this
    exact ⟨cur, hg⟩
/-- No struct of theirs. -/
def HardT (e : TypeId) : Prop := ¬ (e = 54 ∨ e = 75 ∨ e = 88)
theorem KeptS.own (h : KeptS base W W') {b0 n s : Nat} {e : TypeId} {v : Value} {xs : List Value} (he : HardT e) (ho : W.ownsRow b0 e s v n xs) : W'.ownsRow b0 e s v n xs :=
  Kept.own h ho fun k hk hf => by
    obtain ⟨cur, hc⟩ := rowS_obj ho hk
    exact he (hf.2 _ _ _ hc)
theorem KeptS.heap (h : KeptS base W W') {k : Nat} {cur : Array Value} {e : TypeId} {m : Nat × Nat} (he : HardT e) (hc : W.heap[k]? = some (.cells cur e m)) : W'.heap[k]? = some (.cells cur e m) :=
  Kept.heap h hc fun hf => he (hf.2 _ _ _ hc)
theorem hard_int : HardT 3 := by unfold HardT; decide
theorem hard_ints : HardT 34 := by unfold HardT; decide
theorem hard_plan : HardT 27 := by unfold HardT; decide
theorem GridO.keptS {b0 : Nat} {v : Value} {vs : List Value} {cs : List (List Int)} (g : GridO W b0 v vs cs) (h : KeptS base W W') : GridO W' b0 v vs cs :=
  ⟨h.own hard_ints g.outer, fun i u c hu hc => h.own hard_int (g.rows i u c hu hc), g.apart⟩
end
end Go.Proofs.YtefcbofjndnpkaaDoor

/- A book in memory: its three cells, the row of its voters, their maps, the map of its plans; whose each map is, by a number. No walk stands here. -/
namespace Go.Proofs.YtefcbofjndnpkaaDoor
open Go Go.RowKit Tide

/-- The cells of a row of voters: each one's map, and whether it is up. -/
def voteC (n : Nat) (os : Nat → Option Nat) (up : Nat → Bool) : Array Value := Array.ofFn (n := n * 2) fun j => if j.val % 2 = 0 then .map (os (j.val / 2)) else .bool (up (j.val / 2))
theorem vote_size (n : Nat) (os : Nat → Option Nat) (up : Nat → Bool) : (voteC n os up).size = n * 2 := by simp [voteC]
theorem vote_get (n : Nat) (os : Nat → Option Nat) (up : Nat → Bool) (j : Nat) (hj : j < n * 2) : (voteC n os up)[j]? = some (if j % 2 = 0 then .map (os (j / 2)) else .bool (up (j / 2))) := by
  unfold voteC
  rw [Array.getElem?_ofFn, dif_pos hj]
theorem vote_map {n i : Nat} (os : Nat → Option Nat) (up : Nat → Bool) (h : i < n) : (voteC n os up)[i * 2]? = some (.map (os i)) := by
  rw [vote_get _ _ _ _ (by omega), if_pos (by omega), show i * 2 / 2 = i by omega]
theorem vote_up {n i : Nat} (os : Nat → Option Nat) (up : Nat → Bool) (h : i < n) : (voteC n os up)[i * 2 + 1]? = some (.bool (up i)) := by
  rw [vote_get _ _ _ _ (by omega), if_neg (by omega), show (i * 2 + 1) / 2 = i by omega]
theorem vote_setM {n i : Nat} (os : Nat → Option Nat) (up : Nat → Bool) (h : i < n) (o : Option Nat) : (voteC n os up).setIfInBounds (i * 2) (.map o) = voteC n (upd os i o) up := by
  apply Array.ext_getElem?
  intro j
  rw [Array.getElem?_setIfInBounds]
  by_cases e : i * 2 = j
  · subst e
    rw [if_pos rfl, if_pos (by rw [vote_size]; omega), vote_map _ _ h, upd_same]
  · rw [if_neg e]
    by_cases hj : j < n * 2
    · rw [vote_get _ _ _ _ hj, vote_get _ _ _ _ hj]
      by_cases hp : j % 2 = 0
      · rw [if_pos hp, if_pos hp, upd_other _ _ (by omega)]
      · rw [if_neg hp, if_neg hp]
    · rw [Array.getElem?_eq_none (by rw [vote_size]; omega), Array.getElem?_eq_none (by rw [vote_size]; omega)]
theorem vote_setU {n i : Nat} (os : Nat → Option Nat) (up : Nat → Bool) (h : i < n) (u : Bool) : (voteC n os up).setIfInBounds (i * 2 + 1) (.bool u) = voteC n os (upd up i u) := by
  apply Array.ext_getElem?
  intro j
  rw [Array.getElem?_setIfInBounds]
  by_cases e : i * 2 + 1 = j
  · subst e
    rw [if_pos rfl, if_pos (by rw [vote_size]; omega), vote_up _ _ h, upd_same]
  · rw [if_neg e]
    by_cases hj : j < n * 2
    · rw [vote_get _ _ _ _ hj, vote_get _ _ _ _ hj]
      by_cases hp : j % 2 = 0
      · rw [if_pos hp, if_pos hp]
      · rw [if_neg hp, if_neg hp, upd_other _ _ (by omega)]
    · rw [Array.getElem?_eq_none (by rw [vote_size]; omega), Array.getElem?_eq_none (by rw [vote_size]; omega)]

/-- A voter's map. -/
def MapV (W : World) (o : Option Nat) (N : Nat) (h : Int → HeldV) : Prop := ∃ g : Int → Option HeldV, (∀ m, (g m).getD noneV = h m) ∧ ((o = none ∧ ∀ m, g m = none) ∨ ∃ b, o = some b ∧ IMap heldK W b N g)
/-- The plans that are known, of epochs from 0 on. -/
def KnownW (W : World) (base bk : Nat) (P : List (List (List Int))) : Prop :=
  ∃ g : Int → Option PlanE, IMapE planK W bk P.length g ∧ (∀ e : Int, (P.length : Int) ≤ e → g e = none) ∧ ∀ (i : Nat) (h : i < P.length), ∃ x vs, g (i : Int) = some x ∧ x.ep = (i : Int) ∧ GridO W base x.sl vs P[i]
structure BookW (W : World) (base : Nat) (T : Nat → Nat) (q bv bk n N : Nat) (os : Nat → Option Nat) (up : Nat → Bool) (V : BookV) (lat : Int) (P : List (List (List Int))) : Prop where
  cell : W.heap[q]? = some (.cells #[.slice (some ⟨bv, 0, none⟩) n n, .map (some bk), .int .i64 lat] 54 (0, 0))
  row : W.heap[bv]? = some (.cells (voteC n os up) 75 (0, 0))
  maps : ∀ i, i < n → MapV W (os i) N (V i)
  known : KnownW W base bk P
  since : base ≤ q ∧ base ≤ bv ∧ base ≤ bk ∧ ∀ i b, i < n → os i = some b → base ≤ b
  tagk : T bk = 0
  tags : ∀ i b, i < n → os i = some b → T b = i + 1
section
variable {W W' : World} {base q bv bk n N : Nat} {T : Nat → Nat} {os : Nat → Option Nat} {up : Nat → Bool} {V : BookV} {lat : Int} {P : List (List (List Int))}
theorem MapV.kept {F : Nat → Prop} {o : Option Nat} {h : Int → HeldV} (H : MapV W o N h) (hk : Kept F W W') (hF : ∀ b, o = some b → ¬ F b) : MapV W' o N h := by
  obtain ⟨g, h1, h2⟩ := H
  refine ⟨g, h1, h2.imp id ?_⟩
  rintro ⟨b, rfl, h3⟩
  exact ⟨b, rfl, h3.kept hk (hF b rfl)⟩
theorem MapV.mono {o : Option Nat} {h : Int → HeldV} (H : MapV W o N h) {M : Nat} (hM : N ≤ M) : MapV W o M h := by
  obtain ⟨g, h1, h2⟩ := H
  refine ⟨g, h1, h2.imp id ?_⟩
  rintro ⟨b, rfl, h3⟩
  exact ⟨b, rfl, h3.mono hM⟩
theorem MapV.obj {o : Option Nat} {h : Int → HeldV} (H : MapV W o N h) {b : Nat} (hb : o = some b) : ∃ es cl, W.heap[b]? = some (.map es cl) ∧ b < W.heap.size := by
  obtain ⟨g, h1, h2⟩ := H
  rcases h2 with ⟨h2, _⟩ | ⟨b', h2, h3⟩
  · rw [h2] at hb; cases hb
  · rw [h2] at hb
    injection hb with hb
    subst hb
    have hl := h3.lt
    obtain ⟨D, ⟨es, cl, h4, _⟩, _⟩ := h3
    exact ⟨es, cl, h4, hl⟩
theorem KnownW.kept {F : Nat → Prop} (H : KnownW W base bk P) (hk : Kept F W W') (hF : ¬ F bk) (hS : ∀ k cur, W.heap[k]? = some (.cells cur 3 (0, 0)) ∨ W.heap[k]? = some (.cells cur 34 (0, 0)) → ¬ F k) : KnownW W' base bk P := by
  obtain ⟨g, h1, h2, h3⟩ := H
  refine ⟨g, h1.kept hk hF, h2, fun i hi => ?_⟩
  obtain ⟨x, vs, h4, h5, h6⟩ := h3 i hi
  refine ⟨x, vs, h4, h5, hk.own h6.outer (fun k hv => ?_), fun i u c hu hc => hk.own (h6.rows i u c hu hc) (fun k hv => ?_), h6.apart⟩
  · obtain ⟨cur, hcur⟩ := rowS_obj h6.outer hv
    exact hS k cur (.inr hcur)
  · obtain ⟨cur, hcur⟩ := rowS_obj (h6.rows i u c hu hc) hv
    exact hS k cur (.inl hcur)
theorem KnownW.obj (H : KnownW W base bk P) : ∃ es cl, W.heap[bk]? = some (.map es cl) ∧ bk < W.heap.size := by
  obtain ⟨g, h1, _⟩ := H
  have hl := h1.im.lt
  obtain ⟨D, ⟨es, cl, h4, _⟩, _⟩ := h1
  exact ⟨es, cl, h4, hl⟩
theorem lt_of_obj {k : Nat} {o : Obj} (h : W.heap[k]? = some o) : k < W.heap.size := by
  rcases Nat.lt_or_ge k W.heap.size with hlt | hge
  · exact hlt
  · rw [Array.getElem?_eq_none hge] at h; cases h
theorem soft_map {k : Nat} {es : Array _} {cl : Nat} (h : W.heap[k]? = some (.map es cl)) : Soft W k := fun cur t m hc => by rw [h] at hc; cases hc
theorem soft_cells {k : Nat} {cs : Array Value} {t : TypeId} {m : Nat × Nat} (h : W.heap[k]? = some (.cells cs t m)) (ht : t = 54 ∨ t = 75 ∨ t = 88) : Soft W k := fun cur t' m' hc => by
  rw [h] at hc
  injection hc with hc
  injection hc with _ hc _
  rw [← hc]; exact ht
/-- A call that changes other blocks leaves a book. -/
theorem BookW.kept {F : Nat → Prop} (H : BookW W base T q bv bk n N os up V lat P) (hk : Kept F W W') (hq : ¬ F q) (hv : ¬ F bv) (hb : ¬ F bk) (hm : ∀ i b, i < n → os i = some b → ¬ F b)
    (hS : ∀ k cur, W.heap[k]? = some (.cells cur 3 (0, 0)) ∨ W.heap[k]? = some (.cells cur 34 (0, 0)) → ¬ F k) : BookW W' base T q bv bk n N os up V lat P :=
  { H with
    cell := hk.heap H.cell hq
    row := hk.heap H.row hv
    maps := fun i hi => (H.maps i hi).kept hk (fun b e => hm i b hi e)
    known := H.known.kept hk hb hS }
theorem BookW.below (H : BookW W base T q bv bk n N os up V lat P) (hb : Below W.heap.size W W') : BookW W' base T q bv bk n N os up V lat P :=
  H.kept (F := fun _ => False) (Kept.of_below hb) id id id (fun _ _ _ _ => id) (fun _ _ _ => id)
theorem BookW.mono (H : BookW W base T q bv bk n N os up V lat P) {M : Nat} (hM : N ≤ M) : BookW W base T q bv bk n M os up V lat P := { H with maps := fun i hi => (H.maps i hi).mono hM }
theorem BookW.lt (H : BookW W base T q bv bk n N os up V lat P) : q < W.heap.size ∧ bv < W.heap.size ∧ bk < W.heap.size ∧ ∀ i b, i < n → os i = some b → b < W.heap.size :=
  ⟨lt_of_obj H.cell, lt_of_obj H.row, by obtain ⟨_, _, _, h⟩ := H.known.obj; exact h, fun i b hi e => by obtain ⟨_, _, _, h⟩ := (H.maps i hi).obj e; exact h⟩
theorem BookW.facts (H : BookW W base T q bv bk n N os up V lat P) : q < W.heap.size ∧ W.cell? ⟨q, 0, none⟩ = some (.slice (some ⟨bv, 0, none⟩) n n) ∧ W.cell? ⟨q, 1, none⟩ = some (.map (some bk)) ∧ W.cell? ⟨q, 2, none⟩ = some (.int .i64 lat) ∧ ∀ i, W.frozen? ⟨q, i, none⟩ = false :=
  ⟨lt_of_obj H.cell, by rw [cell_of_row _ _ 0 _ _ _ H.cell]; rfl, by rw [cell_of_row _ _ 1 _ _ _ H.cell]; rfl, by rw [cell_of_row _ _ 2 _ _ _ H.cell]; rfl, fun i => frozen_of_row _ _ i _ _ H.cell⟩
theorem BookW.upAt (H : BookW W base T q bv bk n N os up V lat P) {i : Nat} (hi : i < n) : bv < W.heap.size ∧ W.cell? ⟨bv, i * 2 + 1, none⟩ = some (.bool (up i)) ∧ ∀ i, W.frozen? ⟨bv, i, none⟩ = false :=
  ⟨lt_of_obj H.row, by rw [cell_of_row _ _ _ _ _ _ H.row]; exact vote_up _ _ hi, fun i => frozen_of_row _ _ i _ _ H.row⟩
theorem BookW.ne (H : BookW W base T q bv bk n N os up V lat P) : q ≠ bv ∧ q ≠ bk ∧ bv ≠ bk := by
  obtain ⟨es, cl, hk, _⟩ := H.known.obj
  refine ⟨fun e => ?_, fun e => ?_, fun e => ?_⟩
  · have h1 := H.cell; rw [e, H.row] at h1; injection h1 with h1; injection h1 with _ h1 _; exact absurd h1 (by decide)
  · have h1 := H.cell; rw [e, hk] at h1; cases h1
  · have h1 := H.row; rw [e, hk] at h1; cases h1
/-- One of its voters, within the row. -/
theorem BookW.voter (H : BookW W base T q bv bk n N os up V lat P) {i : Nat} (hi : i < n) : VotA W bv (i * 2) (voteC n os up) 75 (os i) N (V i) :=
  ⟨H.row, vote_map _ _ hi, H.maps i hi⟩
/-- New blocks are t's. -/
def tagN (W : World) (T : Nat → Nat) (t : Nat) : Nat → Nat := fun b => if b < W.heap.size then T b else t
theorem tagN_old {t b : Nat} (h : b < W.heap.size) : tagN W T t b = T b := by unfold tagN; rw [if_pos h]
theorem tagN_new {t b : Nat} (h : W.heap.size ≤ b) : tagN W T t b = t := by unfold tagN; rw [if_neg (by omega)]
/-- Behind a call of one of its voters. -/
theorem BookW.vote (H : BookW W base T q bv bk n N os up V lat P) {i : Nat} (hi : i < n) {x : Int → HeldV} (hbase : base ≤ W.heap.size) (hv : VotC W bv (i * 2) (voteC n os up) 75 (os i) (N + 1) x W') :
    ∃ T' os', BookW W' base T' q bv bk n (N + 1) os' up (fun j => if j = i then x else V j) lat P ∧ KeptS base W W' ∧ (∀ b, b < W.heap.size → T' b = T b) ∧ Kept (fun j => j = bv ∨ os i = some j) W W' ∧ (∀ j b, j < n → os' j = some b → os j = some b ∨ W.heap.size ≤ b) := by
  obtain ⟨o', h1, h2, h3⟩ := hv
  obtain ⟨hl0, hl1, hl2, hl3⟩ := H.lt
  obtain ⟨n1, n2, n3⟩ := H.ne
  have hmo : ∀ b, os i = some b → ∃ es cl, W.heap[b]? = some (.map es cl) := fun b e => by obtain ⟨es, cl, h, _⟩ := (H.maps i hi).obj e; exact ⟨es, cl, h⟩
  have hsoft : ∀ k, (k = bv ∨ os i = some k) → k < W.heap.size → base ≤ k ∧ Soft W k := fun k hk _ => by
    rcases hk with rfl | hk
    · exact ⟨H.since.2.1, soft_cells H.row (.inr (.inl rfl))⟩
    · obtain ⟨es, cl, h⟩ := hmo k hk
      exact ⟨H.since.2.2.2 i k hi hk, soft_map h⟩
  have hne : ∀ {k : Nat} {cs : Array Value} {t : TypeId} {m : Nat × Nat}, W.heap[k]? = some (.cells cs t m) → os i ≠ some k := fun {k cs t m} hc e => by
    obtain ⟨es, cl, h⟩ := hmo k e
    rw [h] at hc; cases hc
  have hfk : ¬ (bk = bv ∨ os i = some bk) := fun h => h.elim (fun e => n3 e.symm) (fun e => by have := H.tags i bk hi e; rw [H.tagk] at this; omega)
  refine ⟨tagN W T (i + 1), upd os i o', ⟨?_, ?_, ?_, ?_, ?_, ?_, ?_⟩, KeptS.of_kept h2 hsoft, fun b hb => tagN_old hb, h2, ?_⟩
  · exact h2.heap H.cell (fun h => h.elim n1 (hne H.cell))
  · have := h1.cell
    rwa [vote_setM _ _ hi] at this
  · intro j hj
    by_cases e : j = i
    · subst e
      rw [upd_same, if_pos rfl]
      exact h1.map
    · rw [upd_other _ _ e, if_neg e]
      refine ((H.maps j hj).kept h2 (fun b hb h => ?_)).mono (Nat.le_succ N)
      rcases h with h | h
      · obtain ⟨es, cl, h5, _⟩ := (H.maps j hj).obj hb
        have h6 := H.row
        rw [← h, h5] at h6; cases h6
      · have := H.tags i b hi h
        have := H.tags j b hj hb
        omega
  · refine H.known.kept h2 hfk (fun k cur hc h => ?_)
    rcases h with h | h
    · have h6 := H.row
      rw [← h] at h6
      rcases hc with hc | hc <;> (rw [hc] at h6; injection h6 with h6; injection h6 with _ h6 _; exact absurd h6 (by decide))
    · rcases hc with hc | hc <;> exact hne hc h
  · refine ⟨H.since.1, H.since.2.1, H.since.2.2.1, fun j b hj hb => ?_⟩
    by_cases e : j = i
    · subst e
      rw [upd_same] at hb
      rcases h3 b hb with h | h
      · exact H.since.2.2.2 j b hj h
      · exact Nat.le_trans hbase h
    · rw [upd_other _ _ e] at hb
      exact H.since.2.2.2 j b hj hb
  · rw [tagN_old hl2]; exact H.tagk
  · intro j b hj hb
    by_cases e : j = i
    · subst e
      rw [upd_same] at hb
      rcases h3 b hb with h | h
      · rw [tagN_old (hl3 j b hj h)]; exact H.tags j b hj h
      · exact tagN_new h
    · rw [upd_other _ _ e] at hb
      rw [tagN_old (hl3 j b hj hb)]; exact H.tags j b hj hb
  · intro j b hj hb
    by_cases e : j = i
    · subst e
      rw [upd_same] at hb
      exact h3 b hb
    · rw [upd_other _ _ e] at hb
      exact .inl hb
/-- A voter is up, or down. -/
theorem BookW.setUp (H : BookW W base T q bv bk n N os up V lat P) {i : Nat} (hi : i < n) (u : Bool) : BookW (W.setCell ⟨bv, i * 2 + 1, none⟩ (.bool u)) base T q bv bk n N os (upd up i u) V lat P ∧ KeptS base W (W.setCell ⟨bv, i * 2 + 1, none⟩ (.bool u)) := by
  obtain ⟨n1, n2, n3⟩ := H.ne
  have hk : Kept (fun k => k = bv) W (W.setCell ⟨bv, i * 2 + 1, none⟩ (.bool u)) := (Kept.refl (fun k => k = bv) W).setCell (p := ⟨bv, i * 2 + 1, none⟩) (.inl rfl) _
  refine ⟨{ H with cell := ?_, row := ?_, maps := ?_, known := ?_ }, KeptS.of_kept hk (fun k hk _ => by rw [show k = bv from hk]; exact ⟨H.since.2.1, soft_cells H.row (.inr (.inl rfl))⟩)⟩
  · exact hk.heap H.cell n1
  · rw [← vote_setU _ _ hi]
    exact heap_setCell_same _ _ _ _ _ _ H.row
  · intro j hj
    refine (H.maps j hj).kept hk (fun b hb e => ?_)
    obtain ⟨es, cl, h5, _⟩ := (H.maps j hj).obj hb
    have h6 := H.row
    rw [← show b = bv from e, h5] at h6; cases h6
  · refine H.known.kept hk (fun e => n3 e.symm) (fun k cur hc h => ?_)
    have h6 := H.row
    rw [← show k = bv from h] at h6
    rcases hc with hc | hc <;> (rw [hc] at h6; injection h6 with h6; injection h6 with _ h6 _; exact absurd h6 (by decide))
theorem BookW.drew (H : BookW W base T q bv bk n N os up V lat P) : BookW W.drew base T q bv bk n N os up V lat P :=
  H.kept (F := fun _ => False) (Kept.refl (fun _ => False) W).drew id id id (fun _ _ _ _ => id) (fun _ _ _ => id)
set_option maxRecDepth 100000 in
/-- A plan that is learnt. -/
theorem BookW.put (H : BookW W base T q bv bk n N os up V lat P) {x : PlanE} {vs : List Value} {cs : List (List Int)} (hx : x.ep = (P.length : Int)) (hG : GridO W base x.sl vs cs) (hP : P.length ≤ 1000000) :
    ∃ W2, (Instr.mapUpdate 52 (.map (some bk)) (.int .i64 (P.length : Int)) x.val).run Tryd.prog W = .ok () W2 ∧ q < W2.heap.size ∧ W2.cell? ⟨q, 2, none⟩ = some (.int .i64 lat) ∧ W2.frozen? ⟨q, 2, none⟩ = false ∧ Kept (fun k => k = bk) W W2 ∧
      BookW (W2.setCell ⟨q, 2, none⟩ (.int .i64 (P.length : Int))) base T q bv bk n N os up V (P.length : Int) (P ++ [cs]) ∧ KeptS base W (W2.setCell ⟨q, 2, none⟩ (.int .i64 (P.length : Int))) := by
  obtain ⟨g, h1, h2, h3⟩ := H.known
  obtain ⟨n1, n2, n3⟩ := H.ne
  obtain ⟨W2, hrun, hM, hK⟩ := h1.put_run Tryd.underlying52 hP (P.length : Int) (by omega) (by omega) (h2 _ (Int.le_refl _)) x
  have hc2 : W2.heap[q]? = some (.cells #[.slice (some ⟨bv, 0, none⟩) n n, .map (some bk), .int .i64 lat] 54 (0, 0)) := hK.heap H.cell n2
  have hk2 : Kept (fun k => k = bk ∨ k = q) W (W2.setCell ⟨q, 2, none⟩ (.int .i64 (P.length : Int))) := (hK.mono (G := fun k => k = bk ∨ k = q) (fun _ _ h => .inl h)).setCell (p := ⟨q, 2, none⟩) (.inl (.inr rfl)) _
  have hS : Kept (fun k => k = q) W2 (W2.setCell ⟨q, 2, none⟩ (.int .i64 (P.length : Int))) := (Kept.refl (fun k => k = q) W2).setCell (p := ⟨q, 2, none⟩) (.inl rfl) _
  have hob := H.known.obj
  have hhard : ∀ k cur, W.heap[k]? = some (.cells cur 3 (0, 0)) ∨ W.heap[k]? = some (.cells cur 34 (0, 0)) → ¬ (k = bk ∨ k = q) := fun k cur hc h => by
    rcases h with h | h
    · obtain ⟨es, cl, h6, _⟩ := hob
      rw [← h] at h6
      rcases hc with hc | hc <;> (rw [hc] at h6; cases h6)
    · have h6 := H.cell
      rw [← h] at h6
      rcases hc with hc | hc <;> (rw [hc] at h6; injection h6 with h6; injection h6 with _ h6 _; exact absurd h6 (by decide))
  have hGk : ∀ {v : Value} {vs : List Value} {cs : List (List Int)}, GridO W base v vs cs → GridO (W2.setCell ⟨q, 2, none⟩ (.int .i64 (P.length : Int))) base v vs cs := fun {v vs cs} h6 =>
    ⟨hk2.own h6.outer (fun k hv => by obtain ⟨cur, hcur⟩ := rowS_obj h6.outer hv; exact hhard k cur (.inr hcur)), fun i u c hu hc => hk2.own (h6.rows i u c hu hc) (fun k hv => by obtain ⟨cur, hcur⟩ := rowS_obj (h6.rows i u c hu hc) hv; exact hhard k cur (.inl hcur)), h6.apart⟩
  refine ⟨W2, hrun, lt_of_obj hc2, by rw [cell_of_row _ _ 2 _ _ _ hc2]; rfl, frozen_of_row _ _ 2 _ _ hc2, hK, ⟨?_, ?_, ?_, ?_, H.since, H.tagk, H.tags⟩, KeptS.of_kept hk2 (fun k hk _ => ?_)⟩
  · exact heap_setCell_same _ _ _ _ _ _ hc2
  · exact hk2.heap H.row (fun h => h.elim n3 (fun e => n1 e.symm))
  · intro j hj
    refine (H.maps j hj).kept hk2 (fun b hb e => ?_)
    rcases e with e | e
    · have := H.tags j b hj hb
      rw [e, H.tagk] at this
      omega
    · obtain ⟨es, cl, h5, _⟩ := (H.maps j hj).obj hb
      have h6 := H.cell
      rw [← e, h5] at h6; cases h6
  · refine ⟨imSet g (P.length : Int) x, ?_, fun e he => ?_, fun i hi => ?_⟩
    · rw [List.length_append]
      exact hM.kept hS n2.symm
    · rw [List.length_append, List.length_singleton] at he
      unfold imSet
      rw [if_neg (by omega)]
      exact h2 e (by omega)
    · rw [List.length_append, List.length_singleton] at hi
      by_cases e : i < P.length
      · obtain ⟨y, ws, h4, h5, h6⟩ := h3 i e
        refine ⟨y, ws, by unfold imSet; rw [if_neg (by omega)]; exact h4, h5, ?_⟩
        rw [List.getElem_append_left e]
        exact hGk h6
      · obtain rfl : i = P.length := by omega
        refine ⟨x, vs, by unfold imSet; rw [if_pos rfl], hx, ?_⟩
        rw [List.getElem_append_right (by omega)]
        simpa using hGk hG
  · rcases hk with rfl | rfl
    · obtain ⟨es, cl, h6, _⟩ := hob
      exact ⟨H.since.2.2.1, soft_map h6⟩
    · exact ⟨H.since.1, soft_cells H.cell (.inl rfl)⟩
end
end Go.Proofs.YtefcbofjndnpkaaDoor
