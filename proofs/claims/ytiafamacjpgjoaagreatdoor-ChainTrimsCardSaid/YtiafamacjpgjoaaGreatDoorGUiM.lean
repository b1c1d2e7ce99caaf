/- A map of a unit's pages: what lies in memory, as a list; what is looked up, stored, struck, and what a range over it gives. -/
import Derived.Test.YtiafamacjpgjoaaGreatDoorGMem
import Derived.Test.YtiafamacjpgjoaaGreatDoorGKeep
import Derived.Maps.OwnOps
import Derived.Maps.OwnSet
import Derived.Maps.RangeWalk
import Derived.WalkKit
import Derived.WalkSpells
namespace Go.Proofs.YtiafamacjpgjoaaGreatDoor
open Go Go.RowKit Tide
open Go.Maps (Keyed IsMap)

def pageElem (v : Value) : Option (DataW Unit × List MemPlace) := match v with
  | .agg xs => match xs.toList with
    | [.string s, .int .i64 g] => some (.agg [.lit (.string s.data.toList), .lit (.int .i64 g)], [])
    | _ => none
  | _ => none
abbrev pageV (s : ByteArray) (g : Int) : Value := .agg #[.string s, .int .i64 g]
theorem pageElem_mk (s : ByteArray) (g : Int) : pageElem (pageV s g) = some (.agg [.lit (.string s.data.toList), .lit (.int .i64 g)], []) := rfl
theorem pageElem_inv {v : Value} {y : DataW Unit × List MemPlace} (h : pageElem v = some y) : ∃ s g, v = pageV s g ∧ y = (.agg [.lit (.string s.data.toList), .lit (.int .i64 g)], []) := by
  unfold pageElem at h
  split at h
  · rename_i xs
    split at h
    · rename_i s g e
      injection h with h
      exact ⟨s, g, by rw [← Array.toArray_toList (xs := xs), e], h.symm⟩
    · cases h
  · cases h
def pd (p : PageU) : DataW Unit := .agg [.lit (.string p.bs), .lit (.int .i64 (p.seg : Int))]
theorem pd_inv {s : ByteArray} {g : Int} {p : PageU} (h : (DataW.agg [.lit (.string s.data.toList), .lit (.int .i64 g)] : DataW Unit) = pd p) : s = ⟨p.bs.toArray⟩ ∧ g = (p.seg : Int) := by
  unfold pd at h
  injection h with h
  injection h with h1 h2
  injection h1 with h1
  injection h1 with h1
  injection h2 with h2 _
  injection h2 with h2
  injection h2 with _ h2
  refine ⟨?_, h2⟩
  rw [← h1]
theorem lawI : Keyed Tryz.prog 3 := Maps.int_keyed Tryz.underlying3
theorem zeroPg (w : World) : (zeroValue 171).run Tryz.prog w = .ok (pageV ⟨#[]⟩ 0) w := by kernel_rfl
abbrev keyI (a : Int) : Lit := .int .i64 a
theorem keyI_of (a : Int) (h0 : -9223372036854775808 ≤ a) (h1 : a ≤ 9223372036854775807) : keyOf Tryz.prog 3 (.int .i64 a) = some (keyI a) :=
  Maps.keyOf_int_mk Tryz.underlying3 (by first | exact WalkArith.wf_i64 (by omega) | (unfold Lit.wf; simp; omega))
theorem keyI_ne {a b : Int} (h : a ≠ b) : keyI a ≠ keyI b := fun e => h (by injection e)
theorem keyI_is (a : Int) : WideAt.IsKeyLit (keyI a) := trivial
structure Agr (D : DataW Unit) (ps : List PageU) : Prop where
  tidy : Maps.Tidy D
  size : Maps.size D = ps.length
  has : ∀ a : Int, Maps.has D (keyI a) = ps.any fun p => (p.adr : Int) == a
  at' : ∀ p ∈ ps, ∀ z, D.atKey (keyI p.adr) z = pd p
theorem any_find {ps : List PageU} {a : Int} (h : (ps.any fun p => (p.adr : Int) == a) = true) : ∃ p ∈ ps, (p.adr : Int) = a := by
  obtain ⟨p, hp, he⟩ := List.any_eq_true.1 h
  exact ⟨p, hp, by simpa using he⟩
theorem any_none {ps : List PageU} {a : Int} (h : (ps.any fun p => (p.adr : Int) == a) = false) : ∀ p ∈ ps, (p.adr : Int) ≠ a := fun p hp e => by
  have := List.any_eq_false.1 h p hp
  simp at this; exact this e
theorem Agr.nil : Agr (.map []) [] := ⟨Maps.tidy_empty, rfl, fun _ => rfl, fun p hp => by cases hp⟩
theorem Agr.put {D : DataW Unit} {ps : List PageU} (h : Agr D ps) (p : PageU) (hp : (ps.any fun q => (q.adr : Int) == (p.adr : Int)) = false) : Agr (D.put (keyI p.adr) (pd p)) (ps ++ [p]) := by
  have hh : Maps.has D (keyI p.adr) = false := by rw [h.has]; exact hp
  refine ⟨h.tidy.put (keyI_is _) _, ?_, fun a => ?_, fun q hq z => ?_⟩
  · rw [Maps.size_put h.tidy, hh, if_neg (by simp), h.size, List.length_append]; rfl
  · by_cases e : (p.adr : Int) = a
    · subst e
      rw [Maps.has_put_same h.tidy.isMap (keyI_is _), List.any_append]; simp
    · rw [Maps.has_put_other (keyI_ne (Ne.symm e)), h.has, List.any_append]; simp [e]
  · rcases List.mem_append.1 hq with hq | hq
    · have hne := any_none hp q hq
      rw [Maps.atKey_put_other (keyI_ne hne)]
      exact h.at' q hq z
    · simp at hq
      subst hq
      exact Maps.atKey_put_same h.tidy.isMap (keyI_is _) _ _
theorem Agr.del {D : DataW Unit} {ps : List PageU} (h : Agr D ps) (hn : (ps.map PageU.adr).Nodup) (a : Int) : Agr (D.del (keyI a)) (ps.filter fun p => !((p.adr : Int) == a)) := by
  refine ⟨h.tidy.del _, ?_, fun b => ?_, fun q hq z => ?_⟩
  · have h1 := Maps.size_del h.tidy (k := keyI a)
    rw [h.has, h.size] at h1
    have h2 : ∀ l : List PageU, (l.map PageU.adr).Nodup → (l.filter fun p => !((p.adr : Int) == a)).length + (if (l.any fun p => (p.adr : Int) == a) = true then 1 else 0) = l.length := by
      intro l
      induction l with
      | nil => intro _; rfl
      | cons p l ih =>
        intro hl
        rw [List.map_cons, List.nodup_cons] at hl
        have := ih hl.2
        by_cases e : (p.adr : Int) = a
        · have h3 : (l.any fun p => (p.adr : Int) == a) = false := by
            rw [List.any_eq_false]
            intro q hq hqa
            have hqa : (q.adr : Int) = a := by simpa using hqa
            exact hl.1 (List.mem_map.2 ⟨q, hq, by omega⟩)
          rw [h3] at this
          simp [e] at this ⊢
          omega
        · simp [e] at this ⊢
          omega
    have := h2 ps hn
    omega
  · by_cases e : b = a
    · subst e
      rw [Maps.has_del_same, Eq.comm, List.any_eq_false]
      intro p hp he
      have := (List.mem_filter.1 hp).2
      rw [he] at this
      cases this
    · rw [Maps.has_del_other (keyI_ne e), h.has, List.any_filter]
      congr 1
      funext p
      by_cases e2 : (p.adr : Int) = b
      · have : ¬ (p.adr : Int) = a := by omega
        simp [e2, e]
      · simp [e2]
  · have h1 := List.mem_filter.1 hq
    have h2 : ¬ (q.adr : Int) = a := by simpa using h1.2
    rw [Maps.atKey_del_other (keyI_ne h2)]
    exact h.at' q h1.1 z

def PMap (W : World) (b : Nat) (ps : List PageU) : Prop := ∃ D, W.ownsMap Tryz.prog 3 pageElem b (Maps.size D) D ∧ Agr D ps
section
variable {W W' : World} {b : Nat} {ps : List PageU}
theorem own_least {n : Nat} {D : DataW Unit} (h : W.ownsMap Tryz.prog 3 pageElem b n D) : W.ownsMap Tryz.prog 3 pageElem b (Maps.size D) D := by
  obtain ⟨es, clock, h1, h2, _, rfl⟩ := h
  exact ⟨es, clock, h1, h2, by rw [Maps.size_eq, length_read]; exact Nat.le_refl _, rfl⟩
theorem PMap.lt (h : PMap W b ps) : b < W.heap.size := by obtain ⟨D, h1, _⟩ := h; exact h1.lt
theorem PMap.kept {F : Nat → Prop} (h : PMap W b ps) (hk : Kept F W W') (hF : ¬ F b) : PMap W' b ps := by
  obtain ⟨D, ⟨es, clock, h1, h2⟩, h3⟩ := h
  exact ⟨D, ⟨es, clock, hk.heap h1 hF, h2⟩, h3⟩
theorem PMap.below (h : PMap W b ps) (hb : Below W.heap.size W W') : PMap W' b ps := h.kept (F := fun _ => False) (Kept.of_below hb) (fun h => h)
theorem turned_kept (h : W.mapTurned W' b) : Kept (fun k => k = b) W W' := (Kept.refl _ _).grown h.grown (fun k hk => .inl (by injection hk with hk; exact hk.symm))
end
section
variable (w : World) {ops : Array Oper} {rest : List Oper} {o : Oper} {a : Act} {Q : Exit → Act → World → Prop}
theorem wpList_page_ok {b : Nat} {ps : List PageU} (hown : PMap w b ps) (hg : o.guard = none) (m x : Operand) (hop : o.op = Op.lookup 110 m x true) (hm : a.eval m = .map (some b)) (k : Int) (hx : a.eval x = .int .i64 k) (h0 : -9223372036854775808 ≤ k) (h1 : k ≤ 9223372036854775807)
    (hK : ∀ s g, (∀ p ∈ ps, (p.adr : Int) = k → s = ⟨p.bs.toArray⟩ ∧ g = (p.seg : Int)) → wpList Tryz.prog ops Q rest (a.put o.dst (.tuple #[pageV s g, .bool (ps.any fun p => (p.adr : Int) == k)])) w) : wpList Tryz.prog ops Q (o :: rest) a w := by
  obtain ⟨D, h2, h3⟩ := hown
  refine wpList_lookup_own_ok w hg m x _ hop 3 171 lawI Tryz.underlying110 pageElem (zeroPg w) _ [] (pageElem_mk _ _) b _ D hm h2 _ _ hx (keyI_of k h0 h1) (fun v q hv => ?_)
  obtain ⟨s, g, rfl, hy⟩ := pageElem_inv hv
  rw [h3.has]
  refine hK s g (fun p hp he => ?_)
  have h4 := h3.at' p hp (.agg [.lit (.string (⟨#[]⟩ : ByteArray).data.toList), .lit (.int .i64 0)])
  rw [he] at h4
  injection hy with hy _
  exact pd_inv (hy.symm.trans h4)
theorem wpList_page {b : Nat} {ps : List PageU} (hown : PMap w b ps) (hg : o.guard = none) (m x : Operand) (hop : o.op = Op.lookup 110 m x false) (hm : a.eval m = .map (some b)) (k : Int) (hx : a.eval x = .int .i64 k) (h0 : -9223372036854775808 ≤ k) (h1 : k ≤ 9223372036854775807)
    (hK : ∀ s g, (∀ p ∈ ps, (p.adr : Int) = k → s = ⟨p.bs.toArray⟩ ∧ g = (p.seg : Int)) → wpList Tryz.prog ops Q rest (a.put o.dst (pageV s g)) w) : wpList Tryz.prog ops Q (o :: rest) a w := by
  obtain ⟨D, h2, h3⟩ := hown
  refine wpList_plain hg fun K' hK' => ?_
  obtain ⟨v, q, hrun, hv⟩ := h2.lookup lawI Tryz.underlying110 (zeroPg w) (pageElem_mk _ _) (keyI_of k h0 h1)
  obtain ⟨s, g, rfl, hy⟩ := pageElem_inv hv
  unfold Oper.wp
  simp [execOp, hop, hm, hx, hrun, Result.andThen]
  refine hK' _ _ (hK s g (fun p hp he => ?_))
  have h4 := h3.at' p hp (.agg [.lit (.string (⟨#[]⟩ : ByteArray).data.toList), .lit (.int .i64 0)])
  rw [he] at h4
  injection hy with hy _
  exact pd_inv (hy.symm.trans h4)
end
def Rng (W : World) (b r : Nat) (ps : List PageU) (left : Lit → Bool) (cnt : Nat) : Prop := ∃ n D, W.ranges Tryz.prog 3 pageElem b r n D left cnt ∧ Agr D ps
section
variable {W W' : World} {b r cnt : Nat} {ps : List PageU} {left : Lit → Bool}
theorem Rng.map (h : Rng W b r ps left cnt) : PMap W b ps := by obtain ⟨n, D, h1, h2⟩ := h; exact ⟨D, own_least h1.owns, h2⟩
theorem Rng.left_eq (h : Rng W b r ps left cnt) : W.rangeLeft b r = cnt := by obtain ⟨n, D, h1, h2⟩ := h; exact h1.left_eq
theorem Rng.kept {F : Nat → Prop} (h : Rng W b r ps left cnt) (hk : Kept F W W') (hb : ¬ F b) (hr : ¬ F r) : Rng W' b r ps left cnt := by
  obtain ⟨n, D, ⟨es, clock, since, seen, c0, h1, h2, h3, h4, h5, h6⟩, h7⟩ := h
  exact ⟨n, D, ⟨es, clock, since, seen, c0, hk.heap h1 hb, h2, h3, h4, hk.heap h5 hr, h6⟩, h7⟩
theorem grown_kept {row : Option Nat} {F : Nat → Prop} (h : W.grownBy W' row) (hF : ∀ k, row = some k → F k) : Kept F W W' := (Kept.refl _ _).grown h (fun k hk => .inl (hF k hk))
end
section
variable (w : World) {ops : Array Oper} {rest : List Oper} {o : Oper} {a : Act} {Q : Exit → Act → World → Prop}
theorem wpList_range_pages {b : Nat} {ps : List PageU} (hown : PMap w b ps) (hg : o.guard = none) (m : Operand) (hop : o.op = Op.range 110 m) (hm : a.eval m = .map (some b))
    (hK : ∀ w' left cnt, Rng w' b w.heap.size ps left cnt → (∀ k : Int, left (keyI k) = ps.any fun p => (p.adr : Int) == k) → Below w.heap.size w w' → w'.heap.size = w.heap.size + 1 → wpList Tryz.prog ops Q rest (a.put o.dst (.pointer (some ⟨w.heap.size, 0, none⟩))) w') : wpList Tryz.prog ops Q (o :: rest) a w := by
  obtain ⟨D, h2, h3⟩ := hown
  exact wpList_range_own w hg m _ hop 3 171 lawI Tryz.underlying110 pageElem b _ D hm h2 (fun w' h4 h5 h6 => hK w' _ _ ⟨_, D, h4, h3⟩ h3.has ⟨h5.os, h5.tape, h5.output, h5.size, fun i hi => h5.block i hi (by simp)⟩ h6)
set_option maxRecDepth 100000 in
theorem wpList_next_pages {b r cnt : Nat} {ps : List PageU} {left : Lit → Bool} (h : Rng w b r ps left cnt) (hg : o.guard = none) (it : Operand) (hop : o.op = Op.next it false) (hit : a.eval it = .pointer (some ⟨r, 0, none⟩))
    (hDone : (∀ kl, left kl = false) → wpList Tryz.prog ops Q rest (a.put o.dst (.tuple #[.bool false])) w)
    (hMore : ∀ (p : PageU) (w' : World) (cnt' : Nat), p ∈ ps → left (keyI p.adr) = true → Rng w' b r ps (fun z => left z && !z.sameKey (keyI p.adr)) cnt' → cnt' < cnt → Kept (fun k => k = r) w w' → w'.heap.size = w.heap.size →
      (Instr.entry (.pointer (some ⟨r, 0, none⟩))).run Tryz.prog w' = .ok (.tuple #[.int .i64 (p.adr : Int), pageV ⟨p.bs.toArray⟩ (p.seg : Int)]) w' → wpList Tryz.prog ops Q rest (a.put o.dst (.tuple #[.bool true, .int .i64 (p.adr : Int), pageV ⟨p.bs.toArray⟩ (p.seg : Int)])) w') :
    wpList Tryz.prog ops Q (o :: rest) a w := by
  obtain ⟨n, D, h2, h3⟩ := h
  refine wpList_next_ranges w hg it hop 3 lawI pageElem (Value.int .i64) (fun c : ByteArray × Int => pageV c.1 c.2) (fun key kl hkey => by obtain ⟨x, rfl, _⟩ := Maps.keyOf_int_inv Tryz.underlying3 hkey; exact ⟨x, rfl⟩) (fun v y hv => by obtain ⟨s, g, rfl, _⟩ := pageElem_inv hv; exact ⟨(s, g), rfl⟩)
    b r n D left cnt hit h2 (fun _ hl => hDone hl) (fun x c kl y w' cnt' hkey hl hv hat hrg hlt hgr hsz hen => ?_)
  obtain ⟨x', ex, rfl, _⟩ := Maps.keyOf_int_inv Tryz.underlying3 hkey
  cases ex
  obtain ⟨p, hp, he⟩ := any_find ((h3.has x).symm.trans (Maps.has_true_of_atKey hat))
  subst he
  obtain ⟨s, g, ev, hy⟩ := pageElem_inv hv
  obtain ⟨cs, cg⟩ := c
  injection ev with ev
  have e1 : cs = s ∧ cg = g := by
    have := congrArg Array.toList ev
    simp at this
    exact this
  obtain ⟨rfl, rfl⟩ := e1
  have h4 := (hat (.agg [])).symm.trans (h3.at' p hp (.agg []))
  rw [hy] at h4
  obtain ⟨rfl, rfl⟩ := pd_inv h4
  exact hMore p w' cnt' hp hl ⟨n, D, hrg, h3⟩ hlt (grown_kept (F := fun k => k = r) hgr (fun k hk => (Option.some.inj hk).symm)) hsz hen
theorem wpList_delete_pages {b r cnt : Nat} {ps : List PageU} {left : Lit → Bool} (h : Rng w b r ps left cnt) (hn : (ps.map PageU.adr).Nodup) (hg : o.guard = none) (m x : Operand) (hop : o.op = Op.call { callee := Callee.builtin Builtin.delete, args := #[m, x], argTypes := #[110, 3] })
    (hm : a.eval m = .map (some b)) (k : Int) (hx : a.eval x = .int .i64 k) (h0 : -9223372036854775808 ≤ k) (h1 : k ≤ 9223372036854775807)
    (hK : ∀ w' cnt', Rng w' b r (ps.filter fun p => !((p.adr : Int) == k)) (fun z => left z && !z.sameKey (keyI k)) cnt' → cnt' ≤ cnt → Kept (fun j => j = b) w w' → wpList Tryz.prog ops Q rest (a.put o.dst (.tuple #[])) w') : wpList Tryz.prog ops Q (o :: rest) a w := by
  obtain ⟨n, D, h2, h3⟩ := h
  exact wpList_delete_ranges w hg m x 110 3 hop 171 lawI Tryz.underlying110 pageElem b r n D left cnt hm h2 _ _ hx (keyI_of k h0 h1) (fun w' cnt' h4 h5 h6 => hK w' cnt' ⟨n, _, h4, h3.del hn k⟩ h5 (turned_kept h6))
end
end Go.Proofs.YtiafamacjpgjoaaGreatDoor
