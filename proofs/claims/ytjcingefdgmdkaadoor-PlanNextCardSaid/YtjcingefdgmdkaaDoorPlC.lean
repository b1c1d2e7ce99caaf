/- The library's Index, Contains, IndexFunc, DeleteFunc and Clone of rows of whole numbers; a closure that tells which of them go. -/
import Derived.Test.YtjcingefdgmdkaaDoorPlN
import Derived.Test.YtjcingefdgmdkaaDoorPush
import Derived.Lib.SliceRun
import Derived.Laws.IdiomCopy
namespace Go.Proofs.YtjcingefdgmdkaaDoor
open Go.RowKit Tide

theorem indexI_any (x : Int) (l : List Int) (v : Value) (B : Nat) (w : World) (hv : Row w B v (int64s l)) :
    Calls Tryd.prog 43 #[v, .int .i64 x] w fun e w' => ∃ z : Int, e = .returned (.int .i64 z) ∧ (x ∈ l ∧ 0 ≤ z ∨ ¬ x ∈ l ∧ z = -1) ∧ w = w' := by
  obtain ⟨hl, A, c, rfl, hc⟩ := row_ints hv
  have HC := Lib.hid hc
  clear hv hc
  go_enter Tryd.func43, Tryd.ntmps43
  go_wp2_with fail
  go_loop [8] (fun i => ∃ k : Nat, i = .int .i64 k ∧ k ≤ l.length ∧ Hid (¬ x ∈ l.take k)) (fun i => l.length - (intOf i).toNat)
  case atStart => exact ⟨0, rfl, Nat.zero_le _, Lib.hid (by simp)⟩
  case round =>
    obtain ⟨k, rfl, hk, hS⟩ := hrel
    by_cases hlt : k < l.length
    · obtain ⟨b, o, rfl, hbl, hcu⟩ := HC.out k hlt
      have i1 : (k : Int) < (l.length : Int) := by omega
      have HY := Lib.hid (show (l[k] = x → x ∈ l) from fun h => by rw [← h]; exact List.getElem_mem hlt)
      have HN := Lib.hid (show (¬ l[k] = x → ¬ x ∈ l.take (k + 1)) from fun h hx => by
        rw [take_one l k hlt] at hx
        rcases List.mem_append.1 hx with h1 | h1
        · exact hS.out h1
        · simp at h1; exact h h1.symm)
      generalize l[k] = y at *
      by_cases he : y = x
      · have HR := Lib.hid (HY.out he)
        have q0 : (x == y) = true := by simp [he]
        clear he
        go_wp2_with fail
        go_ret
        exact ⟨k, rfl, .inl ⟨HR.out, by omega⟩, rfl⟩
      · have HR := Lib.hid (HN.out he)
        have q0 : (x == y) = false := by simp; exact fun h => he h.symm
        clear he
        go_wp2_with fail
        go_round
        case rel => exact ⟨k + 1, by go_num, by omega, HR⟩
        case measure => simp [intOf]; omega
    · have HR := Lib.hid (show ¬ x ∈ l from by have := hS.out; rwa [List.take_of_length_le (by omega)] at this)
      go_wp2_with fail
      go_ret
      exact ⟨-1, rfl, .inr ⟨HR.out, rfl⟩, rfl⟩
theorem containsI_any (x : Int) (l : List Int) (v : Value) (B : Nat) (w : World) (hv : Row w B v (int64s l)) :
    Calls Tryd.prog 33 #[v, .int .i64 x] w fun e w' => e = .returned (.bool (decide (x ∈ l))) ∧ w = w' := by
  have CI := Lib.hid (indexI_any x l v B w hv)
  clear hv
  go_enter Tryd.func33, Tryd.ntmps33
  go_wp2_with fail
  refine CI.out.mono ?_
  rintro e w' ⟨z, rfl, hz, rfl⟩
  rcases hz with ⟨hm, hz⟩ | ⟨hm, rfl⟩
  · have HR := Lib.hid (decide_eq_true hm)
    clear hm
    go_wp2_with fail
    go_ret
    exact ⟨by rw [HR.out] <;> rfl, rfl⟩
  · have HR := Lib.hid (decide_eq_false hm)
    clear hm
    go_wp2_with fail
    go_ret
    exact ⟨by rw [HR.out] <;> rfl, rfl⟩
/-- Which units go. -/
theorem goes_any (x : Int) (l : List Int) (gv : Value) (g B : Nat) (w : World) (hg : w.cell? ⟨g, 0, none⟩ = some gv) (hv : Row w B gv (int64s l)) :
    Calls Tryd.prog 40 #[.int .i64 x, .pointer (some ⟨g, 0, none⟩)] w fun e w' => e = .returned (.bool (decide (x ∈ l))) ∧ w = w' := by
  have CC := Lib.hid (containsI_any x l gv B w hv)
  clear hv
  go_enter Tryd.func40, Tryd.ntmps40
  go_wp2_with fail
  refine CC.out.mono ?_
  rintro e w' ⟨rfl, rfl⟩
  go_wp2_with fail
  go_ret
  exact ⟨rfl, rfl⟩
theorem idxF_any (l gl : List Int) (v gv : Value) (g B B' : Nat) (w : World) (hv : Row w B v (int64s l)) (hg : w.cell? ⟨g, 0, none⟩ = some gv) (hgv : Row w B' gv (int64s gl)) :
    Calls Tryd.prog 55 #[v, .func (.func 40) #[] #[.pointer (some ⟨g, 0, none⟩)]] w fun e w' => ∃ z : Int, e = .returned (.int .i64 z) ∧ ((z = -1 ∧ ∀ x ∈ l, ¬ x ∈ gl) ∨ ∃ k : Nat, z = k ∧ k < l.length ∧ (∀ x ∈ l.take k, ¬ x ∈ gl) ∧ ∃ x, l[k]? = some x ∧ x ∈ gl) ∧ w = w' := by
  obtain ⟨hl, A, c, rfl, hc⟩ := row_ints hv
  have HC := Lib.hid hc
  have CG := Lib.hid (fun x => goes_any x gl gv g B' w hg hgv)
  clear hv hc hg hgv
  go_enter Tryd.func55, Tryd.ntmps55
  go_wp2_with fail
  go_loop [8] (fun i => ∃ k : Nat, i = .int .i64 k ∧ k ≤ l.length ∧ Hid (∀ x ∈ l.take k, ¬ x ∈ gl)) (fun i => l.length - (intOf i).toNat)
  case atStart => exact ⟨0, rfl, Nat.zero_le _, Lib.hid (by simp)⟩
  case round =>
    obtain ⟨k, rfl, hk, hS⟩ := hrel
    by_cases hlt : k < l.length
    · obtain ⟨b, o, rfl, hbl, hcu⟩ := HC.out k hlt
      have i1 : (k : Int) < (l.length : Int) := by omega
      have HY := Lib.hid (show (l[k] ∈ gl → ∃ x, l[k]? = some x ∧ x ∈ gl) from fun h => ⟨_, List.getElem?_eq_getElem hlt, h⟩)
      have HN := Lib.hid (show (¬ l[k] ∈ gl → ∀ x ∈ l.take (k + 1), ¬ x ∈ gl) from fun h x hx => by
        rw [take_one l k hlt] at hx
        rcases List.mem_append.1 hx with h1 | h1
        · exact hS.out x h1
        · simp at h1; subst h1; exact h)
      generalize l[k] = y at *
      have CY := Lib.hid (CG.out y)
      by_cases he : y ∈ gl
      · have HR := Lib.hid (HY.out he)
        rw [decide_eq_true he] at CY
        clear he
        go_wp2_with fail
        refine CY.out.mono ?_
        rintro e w' ⟨rfl, rfl⟩
        go_wp2_with fail
        go_ret
        exact ⟨k, rfl, .inr ⟨k, rfl, hlt, hS.out, HR.out⟩, rfl⟩
      · have HR := Lib.hid (HN.out he)
        rw [decide_eq_false he] at CY
        clear he
        go_wp2_with fail
        refine CY.out.mono ?_
        rintro e w' ⟨rfl, rfl⟩
        go_wp2_with fail
        go_round
        case rel => exact ⟨k + 1, by go_num, by omega, HR⟩
        case measure => simp [intOf]; omega
    · have HR := Lib.hid (show ∀ x ∈ l, ¬ x ∈ gl from by have := hS.out; rwa [List.take_of_length_le (by omega)] at this)
      go_wp2_with fail
      go_ret
      exact ⟨-1, rfl, .inl ⟨rfl, HR.out⟩, rfl⟩

section
variable {W : World} {base b n c : Nat} {l : List Int}
theorem ownI_form {u : Value} (h : Own W base u l) (hne : l ≠ []) : ∃ b c, u = .slice (some ⟨b, 0, none⟩) l.length c ∧ base ≤ b := by
  rcases h.2 with ⟨_, h0⟩ | ⟨g, cap, cur, rfl, hb, _⟩
  · exact absurd (List.length_eq_zero_iff.1 h0) hne
  · exact ⟨g, cap, rfl, hb⟩
theorem ownI_parts (h : Own W base (.slice (some ⟨b, 0, none⟩) n c) l) : n = l.length ∧ base ≤ b ∧ b < W.heap.size ∧ l.length ≤ c ∧ c ≤ 9223372036854775807 := by
  have hlt := h.lt b rfl
  rcases h.2 with ⟨h1, _⟩ | ⟨g, cap, cur, h1, hb, _, h2, h3, _⟩
  · cases h1
  · injection h1 with e1 e2 e3
    subst e3
    exact ⟨e2, hlt.1, hlt.2, h2, by unfold maxLen at h3; exact h3⟩
theorem ownI_cell (h : Own W base (.slice (some ⟨b, 0, none⟩) n c) l) (j : Nat) (hj : j < l.length) : W.cell? ⟨b, j, none⟩ = some (.int .i64 l[j]) := by
  obtain ⟨rfl, _⟩ := ownI_parts h
  rw [World.ownsRow.cellAt h j (by omega)]
  simp [int64s, hj]
theorem ownI_free (h : Own W base (.slice (some ⟨b, 0, none⟩) n c) l) (j : Nat) : W.frozen? ⟨b, j, none⟩ = false := by
  rcases h.2 with ⟨h1, _⟩ | ⟨g, cap, cur, h1, hb, hg, _⟩
  · cases h1
  · injection h1 with e1 _ _
    injection e1 with e1
    injection e1 with e1 _
    subst e1
    unfold World.frozen?
    rw [show W.heap[(⟨b, j, none⟩ : Addr).block]? = _ from hg]
    simp
theorem ownI_set (h : Own W base (.slice (some ⟨b, 0, none⟩) n c) l) (j : Nat) (x : Int) : Own (W.setCell ⟨b, j, none⟩ (.int .i64 x)) base (.slice (some ⟨b, 0, none⟩) n c) (l.set j x) := by
  unfold Own
  rw [List.length_set]
  refine ⟨by rw [int64s_length, List.length_set, Nat.mul_one], ?_⟩
  rcases h.2 with ⟨h1, _⟩ | ⟨g', cap', cur, h1, hb, hg, h2, h3, h4, h5⟩
  · cases h1
  · injection h1 with e1 e2 e3
    injection e1 with e1
    injection e1 with e1 _
    subst e1 e2 e3
    obtain ⟨hlt, hk⟩ := Array.getElem?_eq_some_iff.1 hg
    refine .inr ⟨b, c, cur.setIfInBounds j (.int .i64 x), rfl, hb, ?_, h2, h3, by rw [Array.size_setIfInBounds]; exact h4, ?_⟩
    · show (W.heap.modify b _)[b]? = _
      rw [Array.getElem?_eq_getElem (by rw [Array.size_modify]; exact hlt), Array.getElem_modify_self, hk]
      simp
    · rw [Array.toList_setIfInBounds, List.take_set, h5]
      unfold int64s
      rw [List.map_set]
theorem ownI_cut (h : Own W base (.slice (some ⟨b, 0, none⟩) n c) l) (p : Nat) (hp : p ≤ l.length) : Own W base (.slice (some ⟨b, 0, none⟩) p c) (l.take p) := by
  unfold Own
  have hl : (l.take p).length = p := by rw [List.length_take]; omega
  refine ⟨by rw [int64s_length, hl, Nat.mul_one], ?_⟩
  rcases h.2 with ⟨h1, _⟩ | ⟨g', cap', cur, h1, hb, hg, h2, h3, h4, h5⟩
  · cases h1
  · injection h1 with e1 e2 e3
    injection e1 with e1
    injection e1 with e1 _
    subst e1 e2 e3
    refine .inr ⟨b, c, cur, by rw [hl], hb, hg, by omega, h3, h4, ?_⟩
    rw [Nat.mul_one] at h5 ⊢
    rw [hl]
    unfold int64s at h5 ⊢
    rw [List.map_take, ← h5, List.take_take, Nat.min_eq_left hp]
theorem ownI_beyond (h : Own W base (.slice (some ⟨b, 0, none⟩) n c) l) (o : Nat) (ho : n ≤ o) (x : Value) : Own (W.setCell ⟨b, o, none⟩ x) base (.slice (some ⟨b, 0, none⟩) n c) l := by
  refine ⟨h.1, ?_⟩
  rcases h.2 with ⟨h1, _⟩ | ⟨g', cap', cur, h1, hb, hg, h2, h3, h4, h5⟩
  · cases h1
  · injection h1 with e1 e2 e3
    injection e1 with e1
    injection e1 with e1 _
    subst e1 e2 e3
    obtain ⟨hlt, hk⟩ := Array.getElem?_eq_some_iff.1 hg
    refine .inr ⟨b, c, cur.setIfInBounds o x, rfl, hb, ?_, h2, h3, by rw [Array.size_setIfInBounds]; exact h4, ?_⟩
    · show (W.heap.modify b _)[b]? = _
      rw [Array.getElem?_eq_getElem (by rw [Array.size_modify]; exact hlt), Array.getElem_modify_self, hk]
      simp
    · rw [Array.toList_setIfInBounds, List.take_set_of_le (by omega)]
      exact h5
theorem ownI_setCells : ∀ (vs : List Value) (o : Nat) (W : World), Own W base (.slice (some ⟨b, 0, none⟩) n c) l → n ≤ o → Own (W.setCells b o vs) base (.slice (some ⟨b, 0, none⟩) n c) l
  | [], _, _, h, _ => h
  | v :: vs, o, _, h, ho => ownI_setCells vs (o + 1) _ (ownI_beyond h o ho v) (by omega)
theorem kept_setCells {F : Nat → Prop} {w : World} (hF : F b) : ∀ (vs : List Value) (o : Nat) (W : World), Kept F w W → Kept F w (W.setCells b o vs)
  | [], _, _, h => h
  | v :: vs, o, _, h => kept_setCells hF vs (o + 1) _ (h.setCell (p := ⟨b, o, none⟩) (.inl hF) v)
end

/-- What is left of a row. -/
def delL (gl l : List Int) : List Int := l.filter fun x => !decide (x ∈ gl)
theorem delL_all {gl l : List Int} (h : ∀ x ∈ l, ¬ x ∈ gl) : delL gl l = l := List.filter_eq_self.2 (fun x hx => by simp [h x hx])
theorem delL_snoc (gl l : List Int) (x : Int) : delL gl (l ++ [x]) = delL gl l ++ (if x ∈ gl then [] else [x]) := by
  unfold delL
  rw [List.filter_append]
  congr 1
  by_cases h : x ∈ gl
  · simp [h]
  · simp [h]
theorem delL_len (gl l : List Int) : (delL gl l).length ≤ l.length := List.length_filter_le _ _
theorem zeroInt (w : World) : (zeroValue 3).run Tryd.prog w = .ok (.int .i64 0) w := by kernel_rfl

set_option maxHeartbeats 2000000 in
theorem del_any (l gl : List Int) (u gv : Value) (g B' base : Nat) (w : World) (ho : Own w base u l) (hl : l.length ≤ 1000000) (hg : w.cell? ⟨g, 0, none⟩ = some gv) (hgb : g < w.heap.size) (hgo : u.ownBlock ≠ some g)
    (hgv : Row w B' gv (int64s gl)) (hB : B' ≤ base) :
    Calls Tryd.prog 41 #[u, .func (.func 40) #[] #[.pointer (some ⟨g, 0, none⟩)]] w fun e w' => ∃ u', e = .returned u' ∧ Own w' base u' (delL gl l) ∧ u'.ownBlock = u.ownBlock ∧ Kept (fun k => u.ownBlock = some k) w w' := by
  have CI := Lib.hid (idxF_any l gl u gv g _ B' w ho.row hg hgv)
  have HO := Lib.hid ho
  have CG := Lib.hid (show ∀ (b : Nat), u.ownBlock = some b → ∀ (x : Int) (W : World), Kept (fun k => k = b) w W → Calls Tryd.prog 40 #[.int .i64 x, .pointer (some ⟨g, 0, none⟩)] W fun e w' => e = .returned (.bool (decide (x ∈ gl))) ∧ W = w' from fun b hb x W hk =>
    goes_any x gl gv g B' W ((hk.cell (p := ⟨g, 0, none⟩) hgb (fun e => hgo (by rw [hb, show g = b from e]))).trans hg) (Row.keep hgv (fun b' o hb' => by
      have h1 := ho.lt b hb
      exact hk.cell (p := ⟨b', o, none⟩) (by show b' < _; omega) (by show ¬ b' = b; omega))))
  have HL := Lib.hid hl
  clear ho hl hg hgb hgo hgv hB
  go_enter Tryd.func41, Tryd.ntmps41
  go_wp2_with fail
  refine CI.out.mono ?_
  rintro e w0 ⟨z, rfl, hz, rfl⟩
  have hl6 := HL.out
  rcases hz with ⟨rfl, hall⟩ | ⟨k0, rfl, hk0, hall, hx0⟩
  · have HA := Lib.hid (delL_all hall)
    clear hall
    go_wp2_with fail
    go_ret
    exact ⟨u, rfl, by rw [HA.out]; exact HO.out, rfl, Kept.refl _ _⟩
  · obtain ⟨b, c, rfl, hbb⟩ := ownI_form HO.out (by intro e; subst e; simp at hk0)
    have CG2 := Lib.hid (CG.out b rfl)
    have HS := Lib.hid (show l.take k0 = delL gl (l.take (k0 + 1)) from by
      obtain ⟨x, hx1, hx2⟩ := hx0
      rw [List.take_add_one, hx1, Option.toList_some, delL_snoc, if_pos hx2, delL_all hall, List.append_nil])
    have hne1 : ((k0 : Int) == -1) = false := by simp
    clear hall hx0 CG CI
    go_wp2_with fail
    go_loopw [5, 6] (fun i j wr => ∃ (p q : Nat) (m : List Int), i = .int .i64 p ∧ j = .int .i64 q ∧ q ≤ l.length ∧ p < q ∧ Hid (Own wr base (.slice (some ⟨b, 0, none⟩) l.length c) m) ∧ Hid (m.length = l.length) ∧ Hid (m.take p = delL gl (l.take q)) ∧ Hid (m.drop q = l.drop q) ∧ Hid (Kept (fun k => k = b) w wr)) (fun _ j _ => l.length - (intOf j).toNat)
    case atStart => exact ⟨k0, k0 + 1, l, rfl, by go_num, by omega, by omega, HO, Lib.hid rfl, HS, Lib.hid rfl, Lib.hid (Kept.refl _ _)⟩
    case round =>
      obtain ⟨p, q, m, rfl, rfl, hq, hpq, hO, hM, hT, hD, hK⟩ := hrel
      by_cases hlt : q < l.length
      · have i1 : (q : Int) < (l.length : Int) := by omega
        have i2 : (p : Int) < (l.length : Int) := by omega
        have hmq : q < m.length := by rw [hM.out]; exact hlt
        have hc1 := ownI_cell hO.out q hmq
        have hc2 := ownI_cell hO.out p (by omega)
        have hf := ownI_free hO.out p
        have HX := Lib.hid (show l.take (q + 1) = l.take q ++ [m[q]] from by
          rw [take_one l q hlt]
          have h1 : (m.drop q)[0]? = (l.drop q)[0]? := by rw [hD.out]
          rw [List.getElem?_drop, List.getElem?_drop, Nat.add_zero, List.getElem?_eq_getElem hmq, List.getElem?_eq_getElem hlt] at h1
          injection h1 with h1
          rw [h1])
        have HD2 := Lib.hid (show m.drop (q + 1) = l.drop (q + 1) from by rw [← List.drop_drop, ← List.drop_drop, hD.out])
        have hpm : p < m.length := by omega
        generalize m[q] = x at *
        generalize m[p] = y at *
        have CX := Lib.hid (CG2.out x _ hK.out)
        by_cases he : x ∈ gl
        · rw [decide_eq_true he] at CX
          have HT2 := Lib.hid (show m.take p = delL gl (l.take (q + 1)) from by rw [HX.out, delL_snoc, if_pos he, List.append_nil]; exact hT.out)
          clear he hmq hpm
          go_wp2_with fail
          refine CX.out.mono ?_
          rintro e w1 ⟨rfl, rfl⟩
          go_wp2_with fail
          go_roundw
          case rel => exact ⟨p, q + 1, m, rfl, by go_num, by omega, by omega, hO, hM, HT2, HD2, hK⟩
          case measure => simp [intOf]; omega
        · rw [decide_eq_false he] at CX
          have HT2 := Lib.hid (show (m.set p x).take (p + 1) = delL gl (l.take (q + 1)) from by
            rw [HX.out, delL_snoc, if_neg he, ← hT.out, take_one (m.set p x) p (by rw [List.length_set]; exact hpm), List.getElem_set_self, List.take_set_of_le (Nat.le_refl p)])
          have HD3 := Lib.hid (show (m.set p x).drop (q + 1) = l.drop (q + 1) from by rw [List.drop_set_of_lt (by omega)]; exact HD2.out)
          have HM3 := Lib.hid (show (m.set p x).length = l.length from by rw [List.length_set]; exact hM.out)
          have HO3 := Lib.hid (ownI_set hO.out p x)
          have HK3 := Lib.hid (hK.out.setCell (p := ⟨b, p, none⟩) (.inl rfl) (.int .i64 x))
          clear he hmq hpm
          go_wp2_with fail
          refine CX.out.mono ?_
          rintro e w1 ⟨rfl, rfl⟩
          go_wp2_with fail
          go_roundw
          case rel => exact ⟨p + 1, q + 1, m.set p x, by go_num, by go_num, by omega, by omega, HO3, HM3, HT2, HD3, HK3⟩
          case measure => simp [intOf]; omega
      · obtain rfl : q = l.length := by omega
        have i1 : ¬ (l.length : Int) < (l.length : Int) := by omega
        have hpl : p < l.length := hpq
        have hcl : ∀ ty c', (Builtin.clear_ #[25] ty #[.slice (some ⟨b, p, none⟩) (l.length - p) c']).run Tryd.prog wr = .ok (.tuple #[]) (wr.setCells b p (List.replicate (l.length - p) (.int .i64 0))) := fun ty c' =>
          Lib.run_clear_slice wr _ _ ty _ Tryd.underlying25 zeroInt rfl rfl b p _ c' (by omega) (fun j hj => by rw [ownI_cell hO.out (p + j) (by rw [hM.out]; omega)]; rfl) (fun j hj => ownI_free hO.out (p + j))
        have HF := Lib.hid (show delL gl l = m.take p from by have := hT.out; rw [List.take_of_length_le (Nat.le_refl _)] at this; exact this.symm)
        have HO4 := Lib.hid (ownI_setCells (List.replicate (l.length - p) (.int .i64 0)) p wr (ownI_cut hO.out p (by rw [hM.out]; omega)) (Nat.le_refl _))
        have HK4 := Lib.hid (kept_setCells (F := fun k => k = b) (b := b) rfl (List.replicate (l.length - p) (.int .i64 0)) p wr hK.out)
        have hcap := (ownI_parts hO.out).2.2.2
        have hML := hM.out
        go_wp2
        go_ret
        exact ⟨_, rfl, by rw [HF.out]; exact HO4.out, rfl, HK4.out.mono (fun i _ h => by rw [show i = b from h]; rfl)⟩

/-- A copy: nil of nil, and else new memory of the call's own. -/
theorem cloneI_any (v : Value) (L : List Int) (B : Nat) (w : World) (hp : Row w B v (int64s L)) (hB : B ≤ w.heap.size) (hL : L.length ≤ 1000000) :
    Calls Tryd.prog 29 #[v] w fun e w' => ∃ v', e = .returned v' ∧ Own w' w.heap.size v' L ∧ Below w.heap.size w w' := by
  obtain ⟨i0, hi, hz0, hz1, hz2⟩ := info_parts infoInt
  have HI := Lib.hid hi
  have HP := Lib.hid (hp.more hB)
  obtain ⟨hl, A, c, rfl, hc⟩ := row_ints hp
  clear hi hp hB
  rcases A with _ | a
  · have hn : L = [] := by
      rcases L with _ | ⟨x, L⟩
      · rfl
      · obtain ⟨_, _, h, _⟩ := hc 0 (by simp)
        cases h
    subst hn
    have hq := fun W : World => Lib.run_eql_slice_nil (P := Tryd.prog) W 25 3 none 0 c 0 0 Tryd.underlying25
    go_enter Tryd.func29, Tryd.ntmps29
    go_wp2
    go_ret
    exact ⟨_, rfl, ⟨by simp [int64s], .inl ⟨rfl, rfl⟩⟩, Below.refl _ _⟩
  · clear hc
    have hq := fun W : World => Lib.run_eql_slice_nil (P := Tryd.prog) W 25 3 (some a) L.length c 0 0 Tryd.underlying25
    go_enter Tryd.func29, Tryd.ntmps29
    go_wp2_with (at_builtin; refine wpList_append_row _ rfl (.tmp 5) (.tmp 6) _ rfl w.heap.size 3 i0 (.int .i64 0) 8 Tryd.underlying25 HI.out hz0 hz1 hz2 rfl _ 0 [] rfl ?c1 w.heap.size _ (int64s L) rfl (Row.keep HP.out (below_cells ((Below.refl _ _).alloc (Nat.le_refl _) _))) (ints_one _) ?d1 ?d2 ?d3 ?_)
    case c1 => exact own_new _ _ _ _ _ _ _ _ rfl (Nat.le_refl _) (by simp) (by simp [maxLen]) rfl (by simp)
    case d1 => rw [int64s_length]; unfold maxLen; omega
    case d2 => rw [int64s_length]; omega
    case d3 => simp
    intro v4 w4 hown4 hg4 _
    have hb5 := ((Below.refl w.heap.size w).alloc (Nat.le_refl _) _).grown hg4 (by simp) (fun g hg => by simp [Value.ownBlock] at hg; omega)
    rw [int64s_length] at hown4
    go_wp2_with fail
    go_ret
    exact ⟨_, rfl, hown4, hb5⟩
end Go.Proofs.YtjcingefdgmdkaaDoor
