/- Three rows of a unit, each of which grows by one, in whatever order small rows are made: what lies meanwhile. -/
import Derived.Test.YtcpanaokfbojnaaGreatDoorGUrV
import Derived.Test.YtcpanaokfbojnaaGreatDoorGUrG
namespace Go.Proofs.YtcpanaokfbojnaaGreatDoor
open Go Go.RowKit Tide

theorem infoInt9 : (Tryz.prog.info? 3).map (fun i => (i.zero, i.size, i.bytes)) = some (some (.int .i64 0), 1, 8) := by kernel_rfl
structure PutW (w5 : World) (R : Nat → Prop) (xa xp xi : Value) (la lp li : List Value) (nb : List (Value × List UInt8)) (sm : List (Nat × Value)) (em : List Nat) (W : World) : Prop where
  kept : Kept R w5 W
  low : ∀ k, R k → k < w5.heap.size
  a : W.ownsRow 0 3 1 xa la.length la
  p : W.ownsRow 0 45 1 xp lp.length lp
  i : W.ownsRow 0 3 1 xi li.length li
  own : ∀ k, xa.ownBlock = some k ∨ xp.ownBlock = some k ∨ xi.ownBlock = some k → R k ∨ w5.heap.size ≤ k
  two : ∀ k, xa.ownBlock = some k → xi.ownBlock ≠ some k
  nb : ∀ x ∈ nb, W.ownsRow w5.heap.size 5 1 x.1 x.2.length (u8s x.2)
  sm : ∀ x ∈ sm, W.cell? ⟨x.1, 0, none⟩ = some x.2 ∧ w5.heap.size ≤ x.1 ∧ x.1 < W.heap.size
  em : ∀ g ∈ em, W.heap[g]? = some (.cells #[] 5 (0, 0)) ∧ w5.heap.size ≤ g
section
variable {w5 W W' : World} {R Z : Nat → Prop} {xa xp xi : Value} {la lp li : List Value} {nb : List (Value × List UInt8)} {sm : List (Nat × Value)} {em : List Nat}
theorem lt_of_heap {W : World} {g : Nat} {o : Obj} (h : W.heap[g]? = some o) : g < W.heap.size := (Array.getElem?_eq_some_iff.1 h).1
theorem PutW.below (h : PutW w5 R xa xp xi la lp li nb sm em W) (hb : Below W.heap.size W W') : PutW w5 R xa xp xi la lp li nb sm em W' where
  kept := h.kept.trans (Kept.of_below (F := R) hb) (fun _ h => .inl h)
  low := h.low
  a := own_below h.a hb
  p := own_below h.p hb
  i := own_below h.i hb
  own := h.own
  two := h.two
  nb := fun x hx => own_below (h.nb x hx) hb
  sm := fun x hx => ⟨(hb.cell (p := ⟨x.1, 0, none⟩) (h.sm x hx).2.2).trans (h.sm x hx).1, (h.sm x hx).2.1, Nat.lt_of_lt_of_le (h.sm x hx).2.2 hb.size⟩
  em := fun g hg => ⟨(hb.block g (lt_of_heap (h.em g hg).1)).trans (h.em g hg).1, (h.em g hg).2⟩
theorem PutW.drew (h : PutW w5 R xa xp xi la lp li nb sm em W) : PutW w5 R xa xp xi la lp li nb sm em W.drew := h.below (Below.refl _ _).drew
theorem PutW.small (h : PutW w5 R xa xp xi la lp li nb sm em W) (x : Value) (t : TypeId) : PutW w5 R xa xp xi la lp li nb ((W.heap.size, x) :: sm) em (W.alloc (.cells #[x] t)) := by
  have h' := h.below ((Below.refl W.heap.size W).alloc (Nat.le_refl _) (.cells #[x] t))
  refine { h' with sm := fun y hy => ?_ }
  rcases List.mem_cons.1 hy with rfl | hy
  · refine ⟨?_, h.kept.size, by rw [World.size_alloc]; exact Nat.lt_succ_self _⟩
    rw [cell_of_row _ _ 0 _ _ _ (heap_alloc_new W _)]
    rfl
  · exact h'.sm y hy
theorem PutW.empty (h : PutW w5 R xa xp xi la lp li nb sm em W) : PutW w5 R xa xp xi la lp li nb sm (W.heap.size :: em) (W.alloc (.cells #[] 5)) := by
  have h' := h.below ((Below.refl W.heap.size W).alloc (Nat.le_refl _) (.cells #[] 5))
  refine { h' with em := fun y hy => ?_ }
  rcases List.mem_cons.1 hy with rfl | hy
  · exact ⟨heap_alloc_new W _, h.kept.size⟩
  · exact h'.em y hy
theorem PutW.turn (h : PutW w5 R xa xp xi la lp li nb sm em W) {v : Value} (hk : Kept (fun k => v.ownBlock = some k) W W') (hR : ∀ k, v.ownBlock = some k → R k) {ya yp yi : Value} {ma mp mi : List Value}
    (ha : W'.ownsRow 0 3 1 ya ma.length ma) (hp : W'.ownsRow 0 45 1 yp mp.length mp) (hi : W'.ownsRow 0 3 1 yi mi.length mi)
    (ho : ∀ k, ya.ownBlock = some k ∨ yp.ownBlock = some k ∨ yi.ownBlock = some k → R k ∨ w5.heap.size ≤ k) (ht : ∀ k, ya.ownBlock = some k → yi.ownBlock ≠ some k) : PutW w5 R ya yp yi ma mp mi nb sm em W' where
  kept := h.kept.trans hk (fun k e => .inl (hR k e))
  low := h.low
  a := ha
  p := hp
  i := hi
  own := ho
  two := ht
  nb := fun x hx => hk.own (h.nb x hx) (fun k e e' => by have := ((h.nb x hx).lt k e).1; have := h.low k (hR k e'); omega)
  sm := fun x hx => ⟨(hk.cell (p := ⟨x.1, 0, none⟩) (h.sm x hx).2.2 (fun e => by have := (h.sm x hx).2.1; have := h.low x.1 (hR x.1 e); omega)).trans (h.sm x hx).1, (h.sm x hx).2.1, Nat.lt_of_lt_of_le (h.sm x hx).2.2 hk.size⟩
  em := fun g hg => ⟨hk.heap (h.em g hg).1 (fun e => by have := (h.em g hg).2; have := h.low g (hR g e); omega), (h.em g hg).2⟩
theorem cell_news {g : Nat} {x : Value} (h : W.cell? ⟨g, 0, none⟩ = some x) : ∀ j u, ([x] : List Value)[j]? = some u → W.cell? ((⟨g, 0, none⟩ : Addr).add j) = some u := fun j u hu => by
  have hj : j = 0 := by have := (List.getElem?_eq_some_iff.1 hu).1; simpa using this
  subst hj
  simp at hu
  subst hu
  exact h
section
variable {ops : Array Oper} {o : Oper} {a : Act} {K : Act → World → Prop} {Q : Exit → Act → World → Prop} {E : Prop}
theorem PutW.stepA (h : PutW w5 R xa xp xi la lp li nb sm em W) (hR : ∀ k, xa.ownBlock = some k → R k) (hl : la.length ≤ 100000) (hgd : o.guard = none) (s x : Operand) (ho : o.op = .call { callee := .builtin .append, args := #[s, x], argTypes := #[68, 68] })
    (g : Nat) (n : Int) (hg : (g, .int .i64 n) ∈ sm) (hs : a.eval s = xa) (hx : a.eval x = .slice (some ⟨g, 0, none⟩) 1 1)
    (hK : ∀ gv cap w', PutW w5 R (.slice (some ⟨gv, 0, none⟩) (la.length + 1) cap) xp xi (la ++ [.int .i64 n]) lp li nb sm em w' → K (a.put o.dst (.slice (some ⟨gv, 0, none⟩) (la.length + 1) cap)) w') : if Region.wanted o (yielded ops a.tmps) = true then Oper.wp Tryz.prog o a W K Q else E := by
  obtain ⟨i0, hi, hz0, hz1, hz2⟩ := info_parts infoInt9
  refine step_append_lies W hgd s x 68 ho 0 3 i0 (.int .i64 0) 1 8 Tryz.underlying68 hi hz0 hz1 hz2 rfl (by omega) xa la.length la hs h.a ⟨g, 0, none⟩ 1 1 [.int .i64 n] hx rfl (cell_news (h.sm _ hg).1) (by simp [Value.oneCell']) (by omega) (by unfold maxLen; omega) (by omega) (Nat.zero_le _) W.heap.size rfl ?_
  intro gv cap w' h1 h2 h3 h4
  have hk : Kept (fun k => xa.ownBlock = some k) W w' := (Kept.refl _ W).grown h2 (fun k e => .inl e)
  have hz := h.kept.size
  refine hK gv cap w' (h.turn hk hR (by rw [List.length_append]; exact h1) (hk.own h.p (fun k e e' => own_ne h.p h.a (by decide) k e e')) (hk.own h.i (fun k e e' => h.two k e' e)) (fun k e => ?_) (fun k e => ?_))
  · rcases e with e | e
    · obtain rfl : gv = k := by injection e
      rcases h3 with h3 | h3
      · exact .inl (hR _ h3)
      · exact .inr (by omega)
    · exact h.own k (.inr e)
  · obtain rfl : gv = k := by injection e
    rcases h3 with h3 | h3
    · exact h.two _ h3
    · intro e
      have := (h.i.lt _ e).2
      omega
theorem PutW.stepI (h : PutW w5 R xa xp xi la lp li nb sm em W) (hR : ∀ k, xi.ownBlock = some k → R k) (hl : li.length ≤ 100000) (hgd : o.guard = none) (s x : Operand) (ho : o.op = .call { callee := .builtin .append, args := #[s, x], argTypes := #[68, 68] })
    (g : Nat) (n : Int) (hg : (g, .int .i64 n) ∈ sm) (hs : a.eval s = xi) (hx : a.eval x = .slice (some ⟨g, 0, none⟩) 1 1)
    (hK : ∀ gv cap w', PutW w5 R xa xp (.slice (some ⟨gv, 0, none⟩) (li.length + 1) cap) la lp (li ++ [.int .i64 n]) nb sm em w' → K (a.put o.dst (.slice (some ⟨gv, 0, none⟩) (li.length + 1) cap)) w') : if Region.wanted o (yielded ops a.tmps) = true then Oper.wp Tryz.prog o a W K Q else E := by
  obtain ⟨i0, hi, hz0, hz1, hz2⟩ := info_parts infoInt9
  refine step_append_lies W hgd s x 68 ho 0 3 i0 (.int .i64 0) 1 8 Tryz.underlying68 hi hz0 hz1 hz2 rfl (by omega) xi li.length li hs h.i ⟨g, 0, none⟩ 1 1 [.int .i64 n] hx rfl (cell_news (h.sm _ hg).1) (by simp [Value.oneCell']) (by omega) (by unfold maxLen; omega) (by omega) (Nat.zero_le _) W.heap.size rfl ?_
  intro gv cap w' h1 h2 h3 h4
  have hk : Kept (fun k => xi.ownBlock = some k) W w' := (Kept.refl _ W).grown h2 (fun k e => .inl e)
  have hz := h.kept.size
  refine hK gv cap w' (h.turn hk hR (hk.own h.a (fun k e e' => h.two k e e')) (hk.own h.p (fun k e e' => own_ne h.p h.i (by decide) k e e')) (by rw [List.length_append]; exact h1) (fun k e => ?_) (fun k e e' => ?_))
  · rcases e with e | e | e
    · exact h.own k (.inl e)
    · exact h.own k (.inr (.inl e))
    · obtain rfl : gv = k := by injection e
      rcases h3 with h3 | h3
      · exact .inl (hR _ h3)
      · exact .inr (by omega)
  · obtain rfl : gv = k := by injection e'
    rcases h3 with h3 | h3
    · exact h.two _ e h3
    · have := (h.a.lt _ e).2
      omega
theorem PutW.stepP (h : PutW w5 R xa xp xi la lp li nb sm em W) (hR : ∀ k, xp.ownBlock = some k → R k) (hl : lp.length ≤ 100000) (hgd : o.guard = none) (s x : Operand) (ho : o.op = .call { callee := .builtin .append, args := #[s, x], argTypes := #[69, 69] })
    (g : Nat) (y : Value) (hy : y.oneCell' = true) (hg : (g, y) ∈ sm) (hs : a.eval s = xp) (hx : a.eval x = .slice (some ⟨g, 0, none⟩) 1 1)
    (hK : ∀ gv cap w', PutW w5 R xa (.slice (some ⟨gv, 0, none⟩) (lp.length + 1) cap) xi la (lp ++ [y]) li nb sm em w' → K (a.put o.dst (.slice (some ⟨gv, 0, none⟩) (lp.length + 1) cap)) w') : if Region.wanted o (yielded ops a.tmps) = true then Oper.wp Tryz.prog o a W K Q else E := by
  obtain ⟨i0, hi, hz0, hz1, hz2⟩ := info_parts infoL
  refine step_append_lies W hgd s x 69 ho 0 45 i0 (.slice none 0 0) 1 24 Tryz.underlying69 hi hz0 hz1 hz2 rfl (by omega) xp lp.length lp hs h.p ⟨g, 0, none⟩ 1 1 [y] hx rfl (cell_news (h.sm _ hg).1) (by simpa using hy) (by omega) (by unfold maxLen; omega) (by omega) (Nat.zero_le _) W.heap.size rfl ?_
  intro gv cap w' h1 h2 h3 h4
  have hk : Kept (fun k => xp.ownBlock = some k) W w' := (Kept.refl _ W).grown h2 (fun k e => .inl e)
  have hz := h.kept.size
  refine hK gv cap w' (h.turn hk hR (hk.own h.a (fun k e e' => own_ne h.a h.p (by decide) k e e')) (by rw [List.length_append]; exact h1) (hk.own h.i (fun k e e' => own_ne h.i h.p (by decide) k e e')) (fun k e => ?_) h.two)
  rcases e with e | e | e
  · exact h.own k (.inl e)
  · obtain rfl : gv = k := by injection e
    rcases h3 with h3 | h3
    · exact .inl (hR _ h3)
    · exact .inr (by omega)
  · exact h.own k (.inr (.inr e))
set_option maxRecDepth 100000 in
theorem PutW.stepN {g : Nat} (h : PutW w5 R xa xp xi la lp li [] sm [g] W) {B : Nat} {y : Value} {b : List UInt8} (hy : Bytes W B y b) (hl : b.length ≤ 100000) (hgd : o.guard = none) (s x : Operand) (ho : o.op = .call { callee := .builtin .append, args := #[s, x], argTypes := #[45, 45] })
    (hs : a.eval s = .slice (some ⟨g, 0, none⟩) 0 0) (hx : a.eval x = y)
    (hK : ∀ A cap w', PutW w5 R xa xp xi la lp li [(.slice A b.length cap, b)] sm [] w' → K (a.put o.dst (.slice A b.length cap)) w') : if Region.wanted o (yielded ops a.tmps) = true then Oper.wp Tryz.prog o a W K Q else E := by
  obtain ⟨i0, hi, hz0, hz1, hz2⟩ := info_parts infoB
  have he := h.em g (by simp)
  have hown : W.ownsRow w5.heap.size 5 1 (.slice (some ⟨g, 0, none⟩) 0 0) 0 [] := own_none he.2 he.1
  have hw : Region.wanted o (yielded ops a.tmps) = true := by simp [Region.wanted, hgd]
  rw [if_pos hw]
  obtain ⟨v', w', hr, h1, h2, h3⟩ := run_append_row (P := Tryz.prog) W w5.heap.size 45 o.type 5 i0 (.int .u8 0) 1 Tryz.underlying45 hi hz0 hz1 hz2 rfl _ 0 [] hown B y (u8s b) hy (u8s_one b) (by rw [u8s_length]; unfold maxLen; omega) (by rw [u8s_length]; omega) h.kept.size
  unfold Oper.wp execOp
  simp only [ho, resolve, invoke, builtin, Sem.run_bind, Sem.run_pure, Result.andThen_ok, List.map_toArray, List.map_cons, List.map_nil, hs, hx, hr]
  rw [u8s_length, Nat.zero_add, List.nil_append] at h1
  have hk : Kept (fun k => k = g) W w' := (Kept.refl _ W).grown h2 (fun k e => .inl (by have e' : some g = some k := e; injection e' with e'; exact e'.symm))
  obtain ⟨A, cap, rfl, _, _⟩ := own_form h1
  have hgo : ∀ {e : TypeId} {v : Value} {n : Nat} {xs : List Value}, W.ownsRow 0 e 1 v n xs → e ≠ 5 → ∀ k, v.ownBlock = some k → ¬ k = g := fun hv hne k e e' => by
    subst e'
    exact own_ne hv hown hne k e rfl
  refine hK A cap w' { kept := h.kept.mono (fun _ _ h => h) |>.trans hk (fun k e => .inr (by rw [e]; exact he.2)), low := h.low, a := hk.own h.a (hgo h.a (by decide +kernel)), p := hk.own h.p (hgo h.p (by decide +kernel)), i := hk.own h.i (hgo h.i (by decide +kernel)), own := h.own, two := h.two, nb := fun x hx => ?_, sm := fun x hx => ?_, em := fun _ h => (by cases h) }
  · obtain rfl : x = _ := by simpa using hx
    exact h1
  · have hsx := h.sm x hx
    refine ⟨(hk.cell (p := ⟨x.1, 0, none⟩) hsx.2.2 (fun e => ?_)).trans hsx.1, hsx.2.1, Nat.lt_of_lt_of_le hsx.2.2 hk.size⟩
    have h9 := hsx.1
    rw [show x.1 = g from e, cell_of_row _ _ 0 _ _ _ he.1] at h9
    cases h9
theorem PutW.stepB1 (h : PutW w5 R xa xp xi la lp li nb sm em W) (hgd : o.guard = none) (x : Operand) (ho : o.op = .buildSlice 68 1 #[(0, x)]) (n : Int) (hx : a.eval x = .int .i64 n)
    (hK : ∀ g w', PutW w5 R xa xp xi la lp li nb ((g, .int .i64 n) :: sm) em w' → K (a.put o.dst (.slice (some ⟨g, 0, none⟩) 1 1)) w') : if Region.wanted o (yielded ops a.tmps) = true then Oper.wp Tryz.prog o a W K Q else E := by
  have hw : Region.wanted o (yielded ops a.tmps) = true := by simp [Region.wanted, hgd]
  rw [if_pos hw]
  obtain ⟨dst, op, ty, pos, after, guard⟩ := o
  simp only at ho hgd
  subst ho hgd
  have h1 := hK W.heap.size _ (h.small (.int .i64 n) 3)
  clear hK
  unfold Oper.wp
  generalize a.eval = ρ at *
  go_simp
  exact h1
theorem PutW.stepB2 (h : PutW w5 R xa xp xi la lp li nb sm em W) (hgd : o.guard = none) (x : Operand) (ho : o.op = .buildSlice 69 1 #[(0, x)]) (A : Option Addr) (n c : Nat) (hx : a.eval x = .slice A n c)
    (hK : ∀ g w', PutW w5 R xa xp xi la lp li nb ((g, .slice A n c) :: sm) em w' → K (a.put o.dst (.slice (some ⟨g, 0, none⟩) 1 1)) w') : if Region.wanted o (yielded ops a.tmps) = true then Oper.wp Tryz.prog o a W K Q else E := by
  have hw : Region.wanted o (yielded ops a.tmps) = true := by simp [Region.wanted, hgd]
  rw [if_pos hw]
  obtain ⟨dst, op, ty, pos, after, guard⟩ := o
  simp only at ho hgd
  subst ho hgd
  have h1 := hK W.heap.size _ (h.small (.slice A n c) 45)
  clear hK
  unfold Oper.wp
  generalize a.eval = ρ at *
  go_simp
  exact h1
theorem PutW.stepB0 (h : PutW w5 R xa xp xi la lp li nb sm [] W) (hgd : o.guard = none) (ho : o.op = .buildSlice 45 0 #[])
    (hK : ∀ g w', PutW w5 R xa xp xi la lp li nb sm [g] w' → K (a.put o.dst (.slice (some ⟨g, 0, none⟩) 0 0)) w') : if Region.wanted o (yielded ops a.tmps) = true then Oper.wp Tryz.prog o a W K Q else E := by
  have hw : Region.wanted o (yielded ops a.tmps) = true := by simp [Region.wanted, hgd]
  rw [if_pos hw]
  obtain ⟨dst, op, ty, pos, after, guard⟩ := o
  simp only at ho hgd
  subst ho hgd
  have h1 := hK W.heap.size _ h.empty
  clear hK
  unfold Oper.wp
  generalize a.eval = ρ at *
  go_simp
  exact h1
end
end
def RowsU (va vp vi : Value) (k : Nat) : Prop := va.ownBlock = some k ∨ vp.ownBlock = some k ∨ vi.ownBlock = some k
section
variable {W W' : World} {F S : Nat → Prop} {q p : Nat} {va vp vi xa xp xi : Value} {rs : List Value} {u : UnitD}
theorem own_later0 {W : World} {base : Nat} {e : TypeId} {size n : Nat} {v : Value} {xs : List Value} (h : W.ownsRow base e size v n xs) : W.ownsRow 0 e size v n xs := by
  obtain ⟨h1, h2⟩ := h
  refine ⟨h1, h2.imp id ?_⟩
  rintro ⟨g, cap, cur, e, _, h3⟩
  exact ⟨g, cap, cur, e, Nat.zero_le _, h3⟩
theorem RefU.rows_q (h : RefU W F S q p va vp vi rs u) : ¬ RowsU va vp vi q := by
  have hq := h.cells
  have hne : ∀ {e : TypeId} {v : Value} {n : Nat} {xs : List Value}, W.ownsRow 0 e 1 v n xs → e ≠ 71 → v.ownBlock ≠ some q := fun hv hne e => by
    obtain ⟨cur, hc⟩ := own_obj hv e
    rw [hq] at hc
    injection hc with hc
    injection hc with _ hc
    exact hne hc.symm
  rintro (e | e | e)
  · exact hne h.ats (by decide) e
  · exact hne h.pages (by decide) e
  · exact hne h.ins (by decide) e
theorem int64s_len (l : List Int) : (int64s l).length = l.length := by simp [int64s]
theorem RefU.putw (h : RefU W F S q p va vp vi rs u) : PutW W (RowsU va vp vi) va vp vi (int64s (adrsU u)) rs (int64s (insU u)) [] [] [] W where
  kept := Kept.refl _ _
  low := fun k hk => (h.mine k (.inr hk)).2.2
  a := by rw [int64s_len]; unfold adrsU; rw [List.length_map]; exact h.ats
  p := by have := h.pages; have h1 := h.pages.1; rw [Nat.mul_one] at h1; rw [h1]; exact this
  i := by rw [int64s_len]; unfold insU; rw [List.length_map]; exact h.ins
  own := fun k hk => .inl hk
  two := h.two
  nb := fun x hx => by cases hx
  sm := fun x hx => by cases hx
  em := fun x hx => by cases hx
def EndW (w5 : World) (F2 S2 : Nat → Prop) (q p : Nat) (va vp vi : Value) (u : UnitD) (W : World) : Prop :=
  ∃ xa xp xi ss S3, RefU W F2 S3 q p xa xp xi ss u ∧ (∀ k, S3 k → S2 k ∨ w5.heap.size ≤ k) ∧ (∀ k, MineU q xa xp xi k → MineU q va vp vi k ∨ w5.heap.size ≤ k) ∧ Kept (MineU q va vp vi) w5 W
theorem putw_end {w5 : World} {s : StoD} (h : RefU w5 F S q p va vp vi rs { u with store := s }) {n no : Nat} {b : List UInt8} {x : Value} {sm : List (Nat × Value)} {em : List Nat}
    (hp : PutW w5 (RowsU va vp vi) xa xp xi (int64s (adrsU u) ++ [.int .i64 (n : Int)]) (rs ++ [x]) (int64s (insU u) ++ [.int .i64 (no : Int)]) [(x, b)] sm em W)
    (hk : Kept (fun k => k = q) W W') (hc : W'.heap[q]? = some (.cells (cellsU p xa xp xi u) 71 (0, 0))) :
    EndW w5 F S q p va vp vi { u with store := s, rows := u.rows ++ [⟨n, b, no⟩] } W' := by
  have hx := hp.nb (x, b) (by simp)
  have hxl := fun k e => hx.lt k e
  have hlt5 := fun k e => h.mine k e
  have hz := hp.kept.size
  have hqr := h.rows_q
  have hrq : ∀ k, (xa.ownBlock = some k ∨ xp.ownBlock = some k ∨ xi.ownBlock = some k) → k ≠ q := fun k e e' => by
    rcases hp.own k e with h1 | h1
    · rw [e'] at h1; exact hqr h1
    · have := (h.mine q (.inl rfl)).2.2; omega
  have hK : Kept (MineU q va vp vi) w5 W' := (hp.kept.mono (fun k _ e => .inr e)).trans hk (fun k e => .inl (.inl e))
  have hM : ∀ k, MineU q xa xp xi k → MineU q va vp vi k ∨ w5.heap.size ≤ k := fun k e => by
    rcases e with e | e
    · exact .inl (.inl e)
    · exact (hp.own k e).imp .inr id
  have hMl : ∀ k, MineU q xa xp xi k → k < W'.heap.size := fun k e => by
    have hz2 := hk.size
    rcases e with e | e | e | e
    · have := (h.mine q (.inl rfl)).2.2; omega
    · have := (hp.a.lt k e).2; omega
    · have := (hp.p.lt k e).2; omega
    · have := (hp.i.lt k e).2; omega
  have hap : ∀ k, x.ownBlock = some k → ¬ MineU q xa xp xi k := fun k e e' => by
    rcases e' with e' | e' | e' | e'
    · have := (hxl k e).1; have := (h.mine q (.inl rfl)).2.2; omega
    · exact own_ne hx hp.a (by decide) k e e'
    · exact own_ne hx hp.p (by decide) k e e'
    · exact own_ne hx hp.i (by decide) k e e'
  refine ⟨xa, xp, xi, rs ++ [x], fun k => S k ∨ x.ownBlock = some k, { cells := hc, store := ?_, ats := ?_, pages := ?_, ins := ?_, bytes := ?_, two := hp.two, mine := fun k e => ⟨?_, ?_, hMl k e⟩, apart := ?_, lt := ?_ }, fun k e => e.imp id (fun e => (hxl k e).1), hM, hK⟩
  · refine (h.store.keep hK (fun k e e' => ?_)).more (fun k e => .inl e) (fun k e => ?_)
    · rcases e with e | e
      · exact (h.mine k e').1 e
      · exact (h.mine k e').2.1 e
    · have hz2 := hK.size
      have hz3 := hk.size
      rcases e with e | e
      · have := h.lt k (.inr e); omega
      · have := (hxl k e).2; omega
  · have := hk.own hp.a (fun k e => hrq k (.inl e))
    rw [List.length_append, int64s_len] at this
    unfold adrsU at this ⊢
    rw [List.length_map] at this
    simp only [List.length_append, List.map_append, List.map_cons, List.map_nil] at this ⊢
    simpa [int64s] using this
  · have := hk.own hp.p (fun k e => hrq k (.inr (.inl e)))
    have h1 := h.pages.1
    rw [List.length_append, h1] at this
    simpa using this
  · have := hk.own hp.i (fun k e => hrq k (.inr (.inr e)))
    rw [List.length_append, int64s_len] at this
    unfold insU at this ⊢
    rw [List.length_map] at this
    simp only [List.length_append, List.map_append, List.map_cons, List.map_nil] at this ⊢
    simpa [int64s] using this
  · have hb := h.bytes.keep hK (fun k e e' => (h.mine k e').2.1 e)
    have hx' := hk.own hx (fun k e e' => hap k e (.inl e'))
    refine ⟨by have := hb.1; simp only [List.length_append, List.map_append] at this ⊢; rw [this]; simp, fun i v c hv hc => ?_⟩
    simp only [List.map_append, List.map_cons, List.map_nil] at hc
    rcases Nat.lt_or_ge i rs.length with hi | hi
    · rw [List.getElem?_append_left hi] at hv
      rw [List.getElem?_append_left (by rw [← hb.1]; exact hi)] at hc
      obtain ⟨g1, g2⟩ := hb.2 i v c hv hc
      exact ⟨g1, fun k e => .inl (g2 k e)⟩
    · rw [List.getElem?_append_right hi] at hv
      have hi2 : (u.rows.map PageU.bs).length ≤ i := by have := hb.1; dsimp only at this; omega
      rw [List.getElem?_append_right hi2] at hc
      have j0 : i - rs.length = 0 := by have := (List.getElem?_eq_some_iff.1 hv).1; simpa using this
      have j1 : i - (u.rows.map PageU.bs).length = 0 := by have := (List.getElem?_eq_some_iff.1 hc).1; simpa using this
      rw [j0] at hv
      rw [j1] at hc
      simp at hv hc
      subst hv hc
      exact ⟨own_later0 hx', fun k e => .inr e⟩
  · intro hf
    rcases hM k e with h1 | h1
    · exact (h.mine k h1).1 hf
    · have := h.lt k (.inl hf); omega
  · rintro (hs | hs)
    · rcases hM k e with h1 | h1
      · exact (h.mine k h1).2.1 hs
      · have := h.lt k (.inr hs); omega
    · exact hap k hs e
  · intro k hf hs
    rcases hs with hs | hs
    · exact h.apart k hf hs
    · have := (hxl k hs).1; have := h.lt k (.inl hf); omega
  · intro k hk'
    have hz2 := hK.size
    have hz3 := hk.size
    rcases hk' with e | e | e
    · have := h.lt k (.inl e); omega
    · have := h.lt k (.inr e); omega
    · have := (hxl k e).2; omega
def CellsQ (q : Nat) (x0 x1 x2 x3 x4 x5 x6 : Value) (W : World) : Prop := W.heap[q]? = some (.cells #[x0, x1, x2, x3, x4, x5, x6] 71 (0, 0))
theorem CellsQ.facts {x0 x1 x2 x3 x4 x5 x6 : Value} (h : CellsQ q x0 x1 x2 x3 x4 x5 x6 W) : q < W.heap.size ∧ (∀ i, W.frozen? ⟨q, i, none⟩ = false) ∧ W.cell? ⟨q, 1, none⟩ = some x1 ∧ W.cell? ⟨q, 2, none⟩ = some x2 ∧ W.cell? ⟨q, 3, none⟩ = some x3 := by
  have hc : W.heap[q]? = _ := h
  refine ⟨lt_of_heap hc, fun i => ?_, ?_, ?_, ?_⟩
  · unfold World.frozen?
    rw [show W.heap[(⟨q, i, none⟩ : Addr).block]? = _ from hc]
    simp
  · rw [cell_of_row _ _ 1 _ _ _ hc]; rfl
  · rw [cell_of_row _ _ 2 _ _ _ hc]; rfl
  · rw [cell_of_row _ _ 3 _ _ _ hc]; rfl
theorem CellsQ.set1 {x0 x1 x2 x3 x4 x5 x6 : Value} (h : CellsQ q x0 x1 x2 x3 x4 x5 x6 W) (v : Value) : CellsQ q x0 v x2 x3 x4 x5 x6 (W.setCell ⟨q, 1, none⟩ v) := row_set8 h v
theorem CellsQ.set2 {x0 x1 x2 x3 x4 x5 x6 : Value} (h : CellsQ q x0 x1 x2 x3 x4 x5 x6 W) (v : Value) : CellsQ q x0 x1 v x3 x4 x5 x6 (W.setCell ⟨q, 2, none⟩ v) := row_set8 h v
theorem CellsQ.set3 {x0 x1 x2 x3 x4 x5 x6 : Value} (h : CellsQ q x0 x1 x2 x3 x4 x5 x6 W) (v : Value) : CellsQ q x0 x1 x2 v x4 x5 x6 (W.setCell ⟨q, 3, none⟩ v) := row_set8 h v
theorem RefU.setc (h : RefU W F S q p va vp vi rs u) (i : Nat) (v : Value) {u' : UnitD} (h1 : u'.store = u.store) (h2 : u'.rows = u.rows) (h3 : (cellsU p va vp vi u).setIfInBounds i v = cellsU p va vp vi u') : RefU (W.setCell ⟨q, i, none⟩ v) F S q p va vp vi rs u' := by
  have hk : Kept (fun k => k = q) W (W.setCell ⟨q, i, none⟩ v) := (Kept.refl (fun k => k = q) W).setCell (p := ⟨q, i, none⟩) (.inl rfl) _
  have hqr := h.rows_q
  have hr : ∀ k, RowsU va vp vi k → k ≠ q := fun k e e' => hqr (e' ▸ e)
  have hq := h.mine q (.inl rfl)
  refine { cells := ?_, store := ?_, ats := ?_, pages := ?_, ins := ?_, bytes := ?_, two := h.two, mine := fun k e => ⟨(h.mine k e).1, (h.mine k e).2.1, Nat.lt_of_lt_of_le (h.mine k e).2.2 hk.size⟩, apart := h.apart, lt := fun k e => Nat.lt_of_lt_of_le (h.lt k e) hk.size }
  · rw [row_set8 h.cells, h3]
  · rw [h1]
    exact h.store.keep hk (fun k e e' => by
      subst e'
      rcases e with e | e
      · exact hq.1 e
      · exact hq.2.1 e)
  · unfold adrsU
    rw [h2]
    exact hk.own h.ats (fun k e => hr k (.inl e))
  · rw [h2]
    exact hk.own h.pages (fun k e => hr k (.inr (.inl e)))
  · unfold insU
    rw [h2]
    exact hk.own h.ins (fun k e => hr k (.inr (.inr e)))
  · rw [h2]
    exact h.bytes.keep hk (fun k e e' => hq.2.1 (e' ▸ e))
end
end Go.Proofs.YtcpanaokfbojnaaGreatDoor

/- The document's own unit: Copy. -/
namespace Go.Proofs.YtcpanaokfbojnaaGreatDoor
open Go Go.RowKit Tide

theorem ints9_one (l : List Int) : ∀ u ∈ int64s l, u.oneCell' = true := by
  intro u hu
  simp only [int64s, List.mem_map] at hu
  obtain ⟨z, _, rfl⟩ := hu
  rfl
section
variable {W : World} {F S G : Nat → Prop} {q p : Nat} {va vp vi : Value} {rs : List Value} {u : UnitD}
set_option maxRecDepth 100000 in
set_option maxHeartbeats 4000000 in
theorem rcopy_any (h : RefU W F S q p va vp vi rs u) (hs : Small u.store) (hr : u.rows.length ≤ 5000) : Calls Tryz.prog 11 #[.pointer (some ⟨q, 0, none⟩)] W fun e w' => ∃ q2 G2, e = .returned (.pointer (some ⟨q2, 0, none⟩)) ∧ RU w' G2 S q2 u ∧ (∀ k, G2 k → W.heap.size ≤ k) ∧ Below W.heap.size W w' := by
  obtain ⟨hq, c0, c1, c2, c3, c4, c5, c6, _⟩ := h.facts
  obtain ⟨Aa, ka, rfl, hka, _⟩ := own_form h.ats
  obtain ⟨Ap, kp, rfl, hkp, _⟩ := own_form h.pages
  obtain ⟨Ai, ki, rfl, hki, _⟩ := own_form h.ins
  have H := Lib.hid h
  obtain ⟨L, hL⟩ : ∃ L, u.rows.length = L := ⟨_, rfl⟩
  rw [hL] at c1 c2 c3
  obtain ⟨T, hT⟩ : ∃ T, u.trimmed = T := ⟨_, rfl⟩
  obtain ⟨E, hE⟩ : ∃ E, u.epoch = E := ⟨_, rfl⟩
  obtain ⟨O, hO⟩ : ∃ O, u.top = O := ⟨_, rfl⟩
  rw [hT] at c4
  rw [hE] at c5
  rw [hO] at c6
  have HL := Lib.hid hL
  have HT := Lib.hid (And.intro hT (And.intro hE hO))
  have CC := Lib.hid (fun (W' : World) (hb : Below W.heap.size W W') => copy_any (h.store.below hb) (by have := hs.segs; omega) (fun g hg => (hs.each g hg).2.2))
  have HLl := Lib.hid (show L ≤ 5000 by omega)
  have HSrc := Lib.hid (fun (Y : World) (hb : Below W.heap.size W Y) => show Y.ownsRow 0 3 1 (.slice Aa L ka) L (int64s (adrsU u)) ∧ Y.ownsRow 0 45 1 (.slice Ap L kp) L rs ∧ Y.ownsRow 0 3 1 (.slice Ai L ki) L (int64s (insU u)) from by
    have h9 := h.below hb
    have a1 := h9.ats
    have a2 := h9.pages
    have a3 := h9.ins
    rw [hL] at a1 a2 a3
    exact ⟨a1, a2, a3⟩)
  clear h hL hT hE hO hs
  go_enter Tryz.func11, Tryz.ntmps11
  go_wp2_with fail
  have hbx : (W.alloc (.cells #[.pointer (some ⟨p, 0, none⟩), .slice Aa L ka, .slice Ap L kp, .slice Ai L ki, .int .i64 (T : Int), .int .i64 (E : Int), .int .i64 (O : Int)] 71)).heap[W.heap.size]? = _ := heap_alloc_new W _
  have hz1 : (W.alloc (.cells #[.pointer (some ⟨p, 0, none⟩), .slice Aa L ka, .slice Ap L kp, .slice Ai L ki, .int .i64 (T : Int), .int .i64 (E : Int), .int .i64 (O : Int)] 71)).heap.size = W.heap.size + 1 := World.size_alloc _ _
  have hb1 := (Below.refl W.heap.size W).alloc (Nat.le_refl _) (.cells #[.pointer (some ⟨p, 0, none⟩), .slice Aa L ka, .slice Ap L kp, .slice Ai L ki, .int .i64 (T : Int), .int .i64 (E : Int), .int .i64 (O : Int)] 71)
  generalize W.alloc (.cells #[.pointer (some ⟨p, 0, none⟩), .slice Aa L ka, .slice Ap L kp, .slice Ai L ki, .int .i64 (T : Int), .int .i64 (E : Int), .int .i64 (O : Int)] 71) = w1 at *
  obtain ⟨q2, hq2⟩ : ∃ q2, W.heap.size = q2 := ⟨_, rfl⟩
  have CC1 := CC.out w1 hb1
  have HB1 := Lib.hid hb1
  have HZ1 := Lib.hid hz1
  have HQ2 := Lib.hid hq2
  rw [hq2] at hbx ⊢
  have HBx := Lib.hid hbx
  clear CC hb1 hz1 hbx
  refine CC1.mono ?_
  rintro e w2 ⟨p2, F', rfl, g1, g2, g3⟩
  have E2 := Lib.hid (show CellsQ q2 _ _ _ _ _ _ _ w2 from (g3.block q2 (by have := HZ1.out; have := HQ2.out; omega)).trans HBx.out)
  have HB2 := Lib.hid (HB1.out.trans (g3.mono HB1.out.size))
  have G2 := Lib.hid (And.intro g1 (And.intro g2 g3))
  clear g1 g2 g3 CC1
  obtain ⟨hl2, fz2, t1, t2, t3⟩ := E2.out.facts
  have t0 : w2.cell? ⟨q2, 0, none⟩ = some (.pointer (some ⟨p, 0, none⟩)) := by rw [cell_of_row _ _ 0 _ _ _ E2.out]; rfl
  have hqq : q ≠ q2 := by omega
  have HC := Lib.hid (fun (Y : World) (hb : Below W.heap.size W Y) => show Y.cell? ⟨q, 1, none⟩ = some (.slice Aa L ka) ∧ Y.cell? ⟨q, 2, none⟩ = some (.slice Ap L kp) ∧ Y.cell? ⟨q, 3, none⟩ = some (.slice Ai L ki) from ⟨(hb.cell (p := ⟨q, 1, none⟩) hq).trans c1, (hb.cell (p := ⟨q, 2, none⟩) hq).trans c2, (hb.cell (p := ⟨q, 3, none⟩) hq).trans c3⟩)
  have HB3 := Lib.hid (HB2.out.setCell (p := ⟨q2, 0, none⟩) (by show W.heap.size ≤ q2; omega) (.pointer (some ⟨p2, 0, none⟩)))
  have K3 := Lib.hid ((Kept.refl (fun k => k = q2) w2).setCell (p := ⟨q2, 0, none⟩) (.inl rfl) (.pointer (some ⟨p2, 0, none⟩)))
  have E3 := Lib.hid (show CellsQ q2 (.pointer (some ⟨p2, 0, none⟩)) _ _ _ _ _ _ (w2.setCell ⟨q2, 0, none⟩ (.pointer (some ⟨p2, 0, none⟩))) from row_set8 E2.out _)
  have hz3 : (w2.setCell ⟨q2, 0, none⟩ (.pointer (some ⟨p2, 0, none⟩))).heap.size = w2.heap.size := World.size_setCell _ _ _
  have HZ3 := Lib.hid hz3
  obtain ⟨k1, _, _⟩ := HC.out _ (HB3.out.alloc HB3.out.size (.cells #[] 3))
  obtain ⟨i0, hinf, hy0, hy1, hy2⟩ := info_parts infoInt9
  have HIn := Lib.hid hinf
  have hqs : q < w2.heap.size := Nat.lt_of_lt_of_le hq HB2.out.size
  clear hq2 c0 c1 c2 c3 c4 c5 c6 hz3 hinf
  go_wp2_with (at_builtin; refine wpList_append_row8 _ rfl (.tmp 13) (.tmp 17) _ rfl w2.heap.size 3 i0 (.int .i64 0) 8 Tryz.underlying68 HIn.out hy0 hy1 hy2 rfl _ 0 _ [] rfl ?d0 _ 0 L (int64s (adrsU u)) rfl ?d1 ?d2 ?d3 ?d4 ?d5 ?_)
  case d0 => exact own_none (Nat.le_refl _) (by have := heap_alloc_new (w2.setCell ⟨q2, 0, none⟩ (.pointer (some ⟨p2, 0, none⟩))) (.cells #[] 3); rw [HZ3.out] at this; exact this)
  case d1 => exact (HSrc.out _ (HB3.out.alloc HB3.out.size (.cells #[] 3))).1
  case d2 => exact ints9_one _
  case d3 => have := HLl.out; unfold maxLen; omega
  case d4 => have := HLl.out; omega
  case d5 => rw [World.size_alloc, HZ3.out]; omega
  intro g1 d1 w4 k5 k6
  have K4 := Lib.hid (show Below w2.heap.size (w2.setCell ⟨q2, 0, none⟩ (.pointer (some ⟨p2, 0, none⟩))) w4 from ((Below.refl _ _).alloc (by rw [HZ3.out]; omega) (.cells #[] 3)).trans k6)
  have R1 := Lib.hid k5
  have HB4 := Lib.hid (HB3.out.trans (K4.out.mono HB2.out.size))
  have E4 := Lib.hid (show CellsQ q2 (.pointer (some ⟨p2, 0, none⟩)) _ _ _ _ _ _ w4 from (K4.out.block q2 hl2).trans E3.out)
  clear hl2 fz2 t0 t1 t2 t3 k1 k5 k6 hqs
  obtain ⟨hl2, fz2, t1, t2, t3⟩ := E4.out.facts
  have HB5 := Lib.hid (HB4.out.setCell (p := ⟨q2, 1, none⟩) (by show W.heap.size ≤ q2; have := HQ2.out; omega) (.slice (some ⟨g1, 0, none⟩) L d1))
  have E5 := Lib.hid (E4.out.set1 (.slice (some ⟨g1, 0, none⟩) L d1))
  have K5 := Lib.hid ((Kept.refl (fun k => k = q2) w4).setCell (p := ⟨q2, 1, none⟩) (.inl rfl) (.slice (some ⟨g1, 0, none⟩) L d1))
  have HZ5 := Lib.hid (show (w4.setCell ⟨q2, 1, none⟩ (.slice (some ⟨g1, 0, none⟩) L d1)).heap.size = w4.heap.size from World.size_setCell _ _ _)
  obtain ⟨_, k1, _⟩ := HC.out _ (HB5.out.alloc HB5.out.size (.cells #[] 45))
  obtain ⟨i1, hinf1, hx0, hx1, hx2⟩ := info_parts infoL
  have HIn1 := Lib.hid hinf1
  have hqs : q < w4.heap.size := Nat.lt_of_lt_of_le hq HB4.out.size
  clear hinf1
  go_wp2_with (at_builtin; refine wpList_append_row8 _ rfl (.tmp 20) (.tmp 24) _ rfl w4.heap.size 45 i1 (.slice none 0 0) 24 Tryz.underlying69 HIn1.out hx0 hx1 hx2 rfl _ 0 _ [] rfl ?d0 _ 0 L rs rfl ?d1 ?d2 ?d3 ?d4 ?d5 ?_)
  case d0 => exact own_none (Nat.le_refl _) (by have := heap_alloc_new (w4.setCell ⟨q2, 1, none⟩ (.slice (some ⟨g1, 0, none⟩) L d1)) (.cells #[] 45); rw [HZ5.out] at this; exact this)
  case d1 => exact (HSrc.out _ (HB5.out.alloc HB5.out.size (.cells #[] 45))).2.1
  case d2 => exact fun u hu => own_recs H.out.bytes u hu
  case d3 => have := HLl.out; unfold maxLen; omega
  case d4 => have := HLl.out; omega
  case d5 => rw [World.size_alloc, HZ5.out]; omega
  intro g2 d2 w6 k5 k6
  have K6 := Lib.hid (show Below w4.heap.size (w4.setCell ⟨q2, 1, none⟩ (.slice (some ⟨g1, 0, none⟩) L d1)) w6 from ((Below.refl _ _).alloc (by rw [HZ5.out]; omega) (.cells #[] 45)).trans k6)
  have R2 := Lib.hid k5
  have HB6 := Lib.hid (HB5.out.trans (K6.out.mono HB4.out.size))
  have E6 := Lib.hid (show CellsQ q2 _ _ _ _ _ _ _ w6 from (K6.out.block q2 hl2).trans E5.out)
  clear hl2 fz2 t1 t2 t3 k1 k5 k6 hqs
  obtain ⟨hl2, fz2, t1, t2, t3⟩ := E6.out.facts
  have HB7 := Lib.hid (HB6.out.setCell (p := ⟨q2, 2, none⟩) (by show W.heap.size ≤ q2; have := HQ2.out; omega) (.slice (some ⟨g2, 0, none⟩) L d2))
  have E7 := Lib.hid (E6.out.set2 (.slice (some ⟨g2, 0, none⟩) L d2))
  have K7 := Lib.hid ((Kept.refl (fun k => k = q2) w6).setCell (p := ⟨q2, 2, none⟩) (.inl rfl) (.slice (some ⟨g2, 0, none⟩) L d2))
  have HZ7 := Lib.hid (show (w6.setCell ⟨q2, 2, none⟩ (.slice (some ⟨g2, 0, none⟩) L d2)).heap.size = w6.heap.size from World.size_setCell _ _ _)
  obtain ⟨_, _, k1⟩ := HC.out _ (HB7.out.alloc HB7.out.size (.cells #[] 3))
  have hqs : q < w6.heap.size := Nat.lt_of_lt_of_le hq HB6.out.size
  go_wp2_with (at_builtin; refine wpList_append_row8 _ rfl (.tmp 27) (.tmp 31) _ rfl w6.heap.size 3 i0 (.int .i64 0) 8 Tryz.underlying68 HIn.out hy0 hy1 hy2 rfl _ 0 _ [] rfl ?d0 _ 0 L (int64s (insU u)) rfl ?d1 ?d2 ?d3 ?d4 ?d5 ?_)
  case d0 => exact own_none (Nat.le_refl _) (by have := heap_alloc_new (w6.setCell ⟨q2, 2, none⟩ (.slice (some ⟨g2, 0, none⟩) L d2)) (.cells #[] 3); rw [HZ7.out] at this; exact this)
  case d1 => exact (HSrc.out _ (HB7.out.alloc HB7.out.size (.cells #[] 3))).2.2
  case d2 => exact ints9_one _
  case d3 => have := HLl.out; unfold maxLen; omega
  case d4 => have := HLl.out; omega
  case d5 => rw [World.size_alloc, HZ7.out]; omega
  intro g3 d3 w8 k5 k6
  have K8 := Lib.hid (show Below w6.heap.size (w6.setCell ⟨q2, 2, none⟩ (.slice (some ⟨g2, 0, none⟩) L d2)) w8 from ((Below.refl _ _).alloc (by rw [HZ7.out]; omega) (.cells #[] 3)).trans k6)
  have R3 := Lib.hid k5
  have HB8 := Lib.hid (HB7.out.trans (K8.out.mono HB6.out.size))
  have E8 := Lib.hid (show CellsQ q2 _ _ _ _ _ _ _ w8 from (K8.out.block q2 hl2).trans E7.out)
  clear hl2 fz2 t1 t2 t3 k1 k5 k6 hqs
  obtain ⟨hl2, fz2, t1, t2, t3⟩ := E8.out.facts
  have HB9 := Lib.hid (HB8.out.setCell (p := ⟨q2, 3, none⟩) (by show W.heap.size ≤ q2; have := HQ2.out; omega) (.slice (some ⟨g3, 0, none⟩) L d3))
  have E9 := Lib.hid (E8.out.set3 (.slice (some ⟨g3, 0, none⟩) L d3))
  have K9 := Lib.hid ((Kept.refl (fun k => k = q2) w8).setCell (p := ⟨q2, 3, none⟩) (.inl rfl) (.slice (some ⟨g3, 0, none⟩) L d3))
  go_wp2_with fail
  generalize w8.setCell ⟨q2, 3, none⟩ (.slice (some ⟨g3, 0, none⟩) L d3) = w9 at *
  generalize hw7 : w6.setCell ⟨q2, 2, none⟩ (.slice (some ⟨g2, 0, none⟩) L d2) = w7 at *
  generalize hw5 : w4.setCell ⟨q2, 1, none⟩ (.slice (some ⟨g1, 0, none⟩) L d1) = w5 at *
  generalize hw3 : w2.setCell ⟨q2, 0, none⟩ (.pointer (some ⟨p2, 0, none⟩)) = w3 at *
  go_ret
  clear hl2 fz2 t1 t2 t3
  have z3 := HZ3.out
  have z5 := HZ5.out
  have z7 := HZ7.out
  have z1 := HZ1.out
  have zq := HQ2.out
  have z12 := G2.out.2.2.size
  have z34 := K4.out.size
  have z56 := K6.out.size
  have z78 := K8.out.size
  have z89 := K9.out.size
  have k34 : Kept (fun k => k = q2) w3 w4 := Kept.of_below (by rw [z3]; exact K4.out)
  have k56 : Kept (fun k => k = q2) w5 w6 := Kept.of_below (by rw [z5]; exact K6.out)
  have k78 : Kept (fun k => k = q2) w7 w8 := Kept.of_below (by rw [z7]; exact K8.out)
  have k69 : Kept (fun k => k = q2) w6 w9 := (K7.out.trans k78 (fun k h => .inl h)).trans K9.out (fun k h => .inl h)
  have k49 : Kept (fun k => k = q2) w4 w9 := (K5.out.trans k56 (fun k h => .inl h)).trans k69 (fun k h => .inl h)
  have k29 : Kept (fun k => k = q2) w2 w9 := (K3.out.trans k34 (fun k h => .inl h)).trans k49 (fun k h => .inl h)
  have b1 := R1.out.lt g1 rfl
  have b2 := R2.out.lt g2 rfl
  have b3 := R3.out.lt g3 rfl
  have r1 := k49.own R1.out (fun k e e' => by have := (R1.out.lt k e).1; omega)
  have r2 := k69.own R2.out (fun k e e' => by have := (R2.out.lt k e).1; omega)
  have r3 := K9.out.own R3.out (fun k e e' => by have := (R3.out.lt k e).1; omega)
  obtain ⟨e1, e2, e3⟩ := HT.out
  have hSl : ∀ k, S k → k < W.heap.size := fun k hk => H.out.lt k (.inr hk)
  have hFl : ∀ k, F' k → w1.heap.size ≤ k ∧ k < w2.heap.size := fun k hk => ⟨G2.out.2.1 k hk, G2.out.1.lt k (.inl hk)⟩
  have hm : ∀ k, MineU q2 (.slice (some ⟨g1, 0, none⟩) L d1) (.slice (some ⟨g2, 0, none⟩) L d2) (.slice (some ⟨g3, 0, none⟩) L d3) k → k = q2 ∨ k = g1 ∨ k = g2 ∨ k = g3 := fun k hk => by
    rcases hk with e | e | e | e
    · exact .inl e
    · exact .inr (.inl (by injection e with e; exact e.symm))
    · exact .inr (.inr (.inl (by injection e with e; exact e.symm)))
    · exact .inr (.inr (.inr (by injection e with e; exact e.symm)))
  refine ⟨q2, fun k => F' k ∨ MineU q2 (.slice (some ⟨g1, 0, none⟩) L d1) (.slice (some ⟨g2, 0, none⟩) L d2) (.slice (some ⟨g3, 0, none⟩) L d3) k, rfl, ⟨F', p2, _, _, _, rs, { cells := ?_, store := ?_, ats := ?_, pages := ?_, ins := ?_, bytes := ?_, two := ?_, mine := fun k hk => ?_, apart := ?_, lt := ?_ }, fun k => Iff.rfl⟩, fun k hk => ?_, HB9.out⟩
  · have := E9.out
    rw [← e1, ← e2, ← e3] at this
    exact this
  · exact G2.out.1.keep k29 (fun k hk e => by
      rcases hk with hk | hk
      · have := (hFl k hk).1; omega
      · have := hSl k hk; omega)
  · rw [HL.out]; exact own_later0 r1
  · rw [HL.out]; exact own_later0 r2
  · rw [HL.out]; exact own_later0 r3
  · exact H.out.bytes.keep (G := fun _ => False) (Kept.of_below HB9.out) (fun _ _ h => h)
  · intro k e e'
    have e5 : g1 = k := by injection e
    have e6 : g3 = k := by injection e'
    omega
  · refine ⟨fun hf => ?_, fun hs => ?_, ?_⟩
    · have := hFl k hf
      rcases hm k hk with e | e | e | e <;> omega
    · have := hSl k hs
      rcases hm k hk with e | e | e | e <;> omega
    · rcases hm k hk with e | e | e | e <;> omega
  · intro k hf hs
    have := hFl k hf
    have := hSl k hs
    omega
  · intro k hk
    rcases hk with hk | hk
    · have := hFl k hk; omega
    · have := hSl k hk; omega
  · rcases hk with hk | hk
    · have := hFl k hk; omega
    · rcases hm k hk with e | e | e | e <;> omega
end
end Go.Proofs.YtcpanaokfbojnaaGreatDoor
