/- The law of plans that rise: acts that came in, and how they lie; the row of what was proposed. -/
import Derived.Test.YtefcbofjndnpkaaDoorGBoP
import Derived.Test.YtefcbofjndnpkaaDoorGRecs
import Derived.Test.YtefcbofjndnpkaaDoorGOpenG
import Derived.Deep.AppendLies
namespace Go.Proofs.YtefcbofjndnpkaaDoor
open Go Go.ChangeShapes Go.WideShapes Go.ChangeAt Go.RowKit Go.Deep Tide

/-- An act, with the two slices that it holds. -/
structure ActB where
  kind : Int
  ballot : Int
  voter : Int
  ahead : Int
  u : Value
  s : Value
  cs : List (List Int)
  l : List Int
def ActB.cells (m : ActB) : Array Value := #[.int .i64 m.kind, .int .i64 m.ballot, .int .i64 m.voter, .int .i64 m.ahead, m.u, m.s]
def ActsB (w : World) (B : Nat) (v : Value) (ms : List ActB) : Prop := Recs w B v 6 (ms.map fun m => m.cells.toList) ∧ ∀ m ∈ ms, Grid w B m.u m.cs ∧ Row w B m.s (int64s m.l)
theorem ActsB.below {w w' : World} {B : Nat} {v : Value} {ms : List ActB} (h : ActsB w B v ms) (hb : Below B w w') : ActsB w' B v ms :=
  ⟨h.1.below hb, fun m hm => ⟨(h.2 m hm).1.below hb, Row.keep (h.2 m hm).2 (below_cells hb)⟩⟩
theorem ActsB.form {w : World} {B : Nat} {v : Value} {ks : List ActB} (h : ActsB w B v ks) : ∃ A c, v = .slice A ks.length c ∧ ks.length ≤ 9223372036854775807 ∧ ∀ i (hi : i < ks.length), ∃ b o, A = some ⟨b, o, none⟩ ∧ b < B ∧
    w.cell? ⟨b, o + i * 6, none⟩ = some (.int .i64 ks[i].kind) ∧ w.cell? ⟨b, o + i * 6 + 1, none⟩ = some (.int .i64 ks[i].ballot) ∧ w.cell? ⟨b, o + i * 6 + 2, none⟩ = some (.int .i64 ks[i].voter) ∧ w.cell? ⟨b, o + i * 6 + 3, none⟩ = some (.int .i64 ks[i].ahead) ∧ w.cell? ⟨b, o + i * 6 + 4, none⟩ = some ks[i].u ∧ w.cell? ⟨b, o + i * 6 + 5, none⟩ = some ks[i].s := by
  obtain ⟨⟨hn, A, c, rfl, hc⟩, _⟩ := h
  refine ⟨A, c, by rw [List.length_map], by simpa using hn, fun i hi => ?_⟩
  obtain ⟨b, o, rfl, hb, hcell⟩ := hc (by
    intro e
    have h9 : (ks.map fun k => k.cells.toList).length = 0 := by rw [e]; rfl
    rw [List.length_map] at h9
    omega)
  have he : (ks.map fun k => k.cells.toList)[i]? = some (ks[i]).cells.toList := by simp [hi]
  have e : ∀ j, o + i * 6 + j = o + (i * 6 + j) := fun j => Nat.add_assoc _ _ _
  exact ⟨b, o, rfl, hb, hcell i 0 _ _ he rfl, by rw [e]; exact hcell i 1 _ _ he rfl, by rw [e]; exact hcell i 2 _ _ he rfl, by rw [e]; exact hcell i 3 _ _ he rfl, by rw [e]; exact hcell i 4 _ _ he rfl, by rw [e]; exact hcell i 5 _ _ he rfl⟩
/-- A box of six cells. -/
def Six (W : World) (g : Nat) (t : TypeId) (cs : Array Value) : Prop := W.heap[g]? = some (.cells cs t (0, 0))
theorem Six.facts {W : World} {g : Nat} {t : TypeId} {a b c d e f : Value} (h : Six W g t #[a, b, c, d, e, f]) : g < W.heap.size ∧ W.cell? ⟨g, 0, none⟩ = some a ∧ W.cell? ⟨g, 1, none⟩ = some b ∧ W.cell? ⟨g, 2, none⟩ = some c ∧ W.cell? ⟨g, 3, none⟩ = some d ∧ W.cell? ⟨g, 4, none⟩ = some e ∧ W.cell? ⟨g, 5, none⟩ = some f :=
  ⟨lt_of_obj h, by rw [cell_of_row _ _ 0 _ _ _ h]; rfl, by rw [cell_of_row _ _ 1 _ _ _ h]; rfl, by rw [cell_of_row _ _ 2 _ _ _ h]; rfl, by rw [cell_of_row _ _ 3 _ _ _ h]; rfl, by rw [cell_of_row _ _ 4 _ _ _ h]; rfl, by rw [cell_of_row _ _ 5 _ _ _ h]; rfl⟩
/-- Not more than is asked. -/
def okB (m : ActB) : Prop := m.cs.length ≤ 10 ∧ m.l.length ≤ 20 ∧ ∀ c ∈ m.cs, c.length ≤ 10
theorem pick_actB {α β : Type} {f : α → β} {P : α → Prop} : ∀ es : List β, (∀ x ∈ es, ∃ d, x = f d ∧ P d) → ∃ ds : List α, es = ds.map f ∧ ∀ d ∈ ds, P d
  | [], _ => ⟨[], rfl, fun d h => by cases h⟩
  | x :: es, h => by
    obtain ⟨d, hd, hp⟩ := h x (by simp)
    obtain ⟨ds, hl, hq⟩ := pick_actB es (fun y hy => h y (by simp [hy]))
    refine ⟨d :: ds, by rw [hd, hl]; rfl, fun y hy => ?_⟩
    rcases List.mem_cons.1 hy with rfl | hy
    · exact hp
    · exact hq y hy
theorem six_of {x : List Value} {a b c d e f : Value} (hl : x.length = 6) (h0 : x[0]? = some a) (h1 : x[1]? = some b) (h2 : x[2]? = some c) (h3 : x[3]? = some d) (h4 : x[4]? = some e) (h5 : x[5]? = some f) : x = [a, b, c, d, e, f] := by
  match x, hl with
  | [p, q, r, s, t, u], _ => simp at h0 h1 h2 h3 h4 h5; subst h0 h1 h2 h3 h4 h5; rfl
section
variable {H : Type} {enc : TypeId × Value → H} {P : Program} {W : World}
theorem open_actsB {t e r i q : TypeId} {f0 f1 f2 f3 f4 f5 : Field} {v : Value} {d : DataW H} {p : List MemPlace} (ht : P.underlying t = some (.slice e)) (he : P.underlying e = some (.struct #[f0, f1, f2, f3, f4, f5])) (hone : oneCellFields P #[f0, f1, f2, f3, f4, f5] = true) (hC : P.cellsOf e = 6)
    (k0 : P.underlying f0.type = some (.int .i64)) (k1 : P.underlying f1.type = some (.int .i64)) (k2 : P.underlying f2.type = some (.int .i64)) (k3 : P.underlying f3.type = some (.int .i64)) (k4 : P.underlying f4.type = some (.slice r)) (k5 : P.underlying f5.type = some (.slice i))
    (hr : P.underlying r = some (.slice q)) (hq : P.underlying q = some (.int .i64)) (hi : P.underlying i = some (.int .i64)) (cr : P.cellsOf r = 1) (cq : P.cellsOf q = 1) (ci : P.cellsOf i = 1)
    {base : Nat} (hok : Value.okWide P W .any base t v) (h : DataW.Trod enc P W 0 (fun _ => true) true t v d p) : ∃ ks, ActsB W W.heap.size v ks := by
  obtain ⟨es, hR, hx⟩ := open_recs ht he hone hC (by simp) hok h
  obtain ⟨ks, hks, hz⟩ := pick_actB (f := fun k : ActB => k.cells.toList) (P := fun m : ActB => Grid W W.heap.size m.u m.cs ∧ Row W W.heap.size m.s (int64s m.l)) es (fun x hxm => by
    obtain ⟨hlen, hf⟩ := hx x hxm
    obtain ⟨u0, n0, y0, g0, t0⟩ := hf 0 f0 rfl
    obtain ⟨u1, n1, y1, g1, t1⟩ := hf 1 f1 rfl
    obtain ⟨u2, n2, y2, g2, t2⟩ := hf 2 f2 rfl
    obtain ⟨u3, n3, y3, g3, t3⟩ := hf 3 f3 rfl
    obtain ⟨u4, n4, y4, g4, t4⟩ := hf 4 f4 rfl
    obtain ⟨u5, n5, y5, g5, t5⟩ := hf 5 f5 rfl
    obtain ⟨z0, rfl, _, _⟩ := open_int64 k0 t0
    obtain ⟨z1, rfl, _, _⟩ := open_int64 k1 t1
    obtain ⟨z2, rfl, _, _⟩ := open_int64 k2 t2
    obtain ⟨z3, rfl, _, _⟩ := open_int64 k3 t3
    obtain ⟨cs, hg⟩ := open_grid k4 hr hq cr cq t4
    obtain ⟨l, hl, _⟩ := open_int64s k5 hi ci t5
    exact ⟨⟨z0, z1, z2, z3, u4, u5, cs, l⟩, six_of hlen g0 g1 g2 g3 g4 g5, hg, hl⟩)
  subst hks
  exact ⟨ks, hR, hz⟩
end
end Go.Proofs.YtefcbofjndnpkaaDoor

/- The law of plans that rise: long. -/
namespace Go.Proofs.YtefcbofjndnpkaaDoor
open Go Go.RowKit Tide

/-- What long answers. -/
def LongR (ms : List ActB) (w : World) (e : Ending) (w' : World) : Prop := ∃ L, e = .returned (.bool L) ∧ (L = false → ms.length ≤ 40 ∧ ∀ m ∈ ms, okB m) ∧ Below w.heap.size w w'
set_option maxRecDepth 100000 in
set_option maxHeartbeats 4000000 in
theorem long_any (ms : List ActB) (v : Value) (B : Nat) (w : World) (hv : ActsB w B v ms) (hB : B ≤ w.heap.size) :
    Calls Tryd.prog 6 #[planV 0 (.slice none 0 0), v] w (LongR ms w) := by
  obtain ⟨A, c, rfl, hlen, _⟩ := hv.form
  have ba := (Below.refl w.heap.size w).alloc (Nat.le_refl _) (.cells #[.int .i64 0, .slice none 0 0] 27)
  obtain ⟨w1, hw1⟩ : ∃ w1, w.alloc (.cells #[.int .i64 0, .slice none 0 0] 27) = w1 := ⟨_, rfl⟩
  rw [hw1] at ba
  have P1 := Lib.hid (show Two w1 w.heap.size 27 (.int .i64 0) (.slice none 0 0) from by rw [← hw1]; exact Two.new w 27 _ _)
  have B1 := Lib.hid ba
  have HV := Lib.hid hv
  have HB := Lib.hid hB
  obtain ⟨_, p0, p1, _⟩ := P1.out.facts
  clear hv hB ba
  go_enter Tryd.func6, Tryd.ntmps6
  by_cases h40 : 40 < ms.length
  · have q1 : decide ((40 : Int) < (ms.length : Int)) = true := decide_eq_true (by omega)
    go_wp2_with fail
    go_ret
    exact ⟨true, rfl, (fun h => by cases h), B1.out⟩
  have q1 : decide ((40 : Int) < (ms.length : Int)) = false := decide_eq_false (by omega)
  have H40 := Lib.hid h40
  go_wp2_with fail
  go_loopw [23] (fun x wr => x = .int .i64 0 ∧ wr = w1) (fun _ _ => 0)
  case atStart => exact ⟨rfl, rfl⟩
  case round =>
    obtain ⟨rfl, rfl⟩ := hrel
    go_wp2_with fail
    go_loopw [33] (fun x wr => ∃ k : Nat, x = .int .i64 k ∧ k ≤ ms.length ∧ Hid (∀ m ∈ ms.take k, okB m) ∧ Hid (Below w.heap.size w wr)) (fun x _ => ms.length - (intOf x).toNat)
    case atStart => exact ⟨0, rfl, Nat.zero_le _, Lib.hid (fun m hm => by simp at hm), B1⟩
    case round =>
      obtain ⟨k, rfl, hk, hOk, hb⟩ := hrel
      have h40 := H40.out
      by_cases hlt : k < ms.length
      · have i1 : (k : Int) < (ms.length : Int) := by omega
        have hv2 := HV.out.below (hb.out.mono HB.out)
        obtain ⟨A', c', hA, _, hc⟩ := hv2.form
        injection hA with hA _ hc'
        subst hA hc'
        obtain ⟨b, o, rfl, hbB, d0, d1, d2, d3, d4, d5⟩ := hc k hlt
        obtain ⟨hg, hr⟩ := hv2.2 _ (List.getElem_mem hlt)
        have HNx := Lib.hid (show okB ms[k] → ∀ m ∈ ms.take (k + 1), okB m from fun h m hm => by
          rw [List.take_succ_eq_append_getElem hlt] at hm
          rcases List.mem_append.1 hm with hm | hm
          · exact hOk.out m hm
          · rw [List.mem_singleton] at hm; rw [hm]; exact h)
        obtain ⟨m, hm⟩ : ∃ m, ms[k] = m := ⟨_, rfl⟩
        rw [hm] at d0 d1 d2 d3 d4 d5 hg hr HNx
        obtain ⟨ki, bal, vo, ah, u, s, cs, l⟩ := m
        dsimp only at d0 d1 d2 d3 d4 d5 hg hr
        obtain ⟨_, Au, cu, rfl, hcc⟩ := hg.form
        obtain ⟨_, As, cl, rfl, _⟩ := row_ints hr
        have ba2 := (Below.refl wr.heap.size wr).alloc (Nat.le_refl _) (.cells #[.int .i64 ki, .int .i64 bal, .int .i64 vo, .int .i64 ah, .slice Au cs.length cu, .slice As l.length cl] 37)
        obtain ⟨w2, hw2⟩ : ∃ w2, wr.alloc (.cells #[.int .i64 ki, .int .i64 bal, .int .i64 vo, .int .i64 ah, .slice Au cs.length cu, .slice As l.length cl] 37) = w2 := ⟨_, rfl⟩
        have X2 := Lib.hid (show Six w2 wr.heap.size 37 #[.int .i64 ki, .int .i64 bal, .int .i64 vo, .int .i64 ah, .slice Au cs.length cu, .slice As l.length cl] from by rw [← hw2]; exact heap_alloc_new wr _)
        rw [hw2] at ba2
        have B2 := Lib.hid (hb.out.trans (ba2.mono hb.out.size))
        have HCC := Lib.hid (show ∀ j (hj : j < cs.length), ∃ b o Ax cx, Au = some ⟨b, o, none⟩ ∧ w2.cell? ⟨b, o + j, none⟩ = some (.slice Ax cs[j].length cx) from fun j hj => by
          obtain ⟨b, o, x, e, hb9, hx, hrow⟩ := hcc j hj
          obtain ⟨_, Ax, cx, rfl, _⟩ := row_ints hrow
          exact ⟨b, o, Ax, cx, e, (ba2.cell (p := ⟨b, o + j, none⟩) (Nat.lt_of_lt_of_le hb9 (Nat.le_trans HB.out hb.out.size))).trans hx⟩)
        obtain ⟨_, x0, x1, x2, x3, x4, x5⟩ := X2.out.facts
        clear hv2 hc hg hr hcc hm ba2 hOk hbB
        by_cases h10 : 10 < cs.length
        · have q2 : decide ((10 : Int) < (cs.length : Int)) = true := decide_eq_true (by omega)
          go_wp2_with fail
          go_ret
          exact ⟨true, rfl, (fun h => by cases h), B2.out⟩
        have q2 : decide ((10 : Int) < (cs.length : Int)) = false := decide_eq_false (by omega)
        by_cases h20 : 20 < l.length
        · have q3 : decide ((20 : Int) < (l.length : Int)) = true := decide_eq_true (by omega)
          go_wp2_with fail
          go_ret
          exact ⟨true, rfl, (fun h => by cases h), B2.out⟩
        have q3 : decide ((20 : Int) < (l.length : Int)) = false := decide_eq_false (by omega)
        have H12 := Lib.hid (And.intro h10 h20)
        have HW2 := Lib.hid hw2
        clear hw2
        go_wp2_with fail
        clear d0 d1 d2 d3 d4 d5 q2 q3 h10 h20 x0 x1 x2 x3 x4 x5
        go_loopw [50] (fun x wr2 => ∃ j : Nat, x = .int .i64 j ∧ j ≤ cs.length ∧ Hid (∀ c ∈ cs.take j, c.length ≤ 10) ∧ wr2 = w2) (fun x _ => cs.length - (intOf x).toNat)
        case atStart => exact ⟨0, rfl, Nat.zero_le _, Lib.hid (fun c hc => by simp at hc), HW2.out⟩
        case round =>
          obtain ⟨j, rfl, hj, hC, rfl⟩ := hrel
          have hcl : cs.length ≤ 10 := by have := H12.out.1; omega
          by_cases hjl : j < cs.length
          · have i2 : (j : Int) < (cs.length : Int) := by omega
            obtain ⟨b2, o2, Ax, cx, rfl, hx⟩ := HCC.out j hjl
            have HCx := Lib.hid (show cs[j].length ≤ 10 → ∀ c ∈ cs.take (j + 1), c.length ≤ 10 from fun h c hc => by
              rw [List.take_succ_eq_append_getElem hjl] at hc
              rcases List.mem_append.1 hc with hc | hc
              · exact hC.out c hc
              · rw [List.mem_singleton] at hc; rw [hc]; exact h)
            obtain ⟨cc, hcc⟩ : ∃ cc, cs[j] = cc := ⟨_, rfl⟩
            rw [hcc] at hx HCx
            clear hcc hC
            by_cases h10 : 10 < cc.length
            · have q2 : decide ((10 : Int) < (cc.length : Int)) = true := decide_eq_true (by omega)
              go_wp2_with fail
              go_ret
              exact ⟨true, rfl, (fun h => by cases h), B2.out⟩
            have q2 : decide ((10 : Int) < (cc.length : Int)) = false := decide_eq_false (by omega)
            have HC2 := Lib.hid (HCx.out (by omega))
            go_wp2_with fail
            go_roundw
            case rel => exact ⟨j + 1, by go_num, by omega, HC2, trivial⟩
            case measure => simp [intOf]; omega
          · have HO := Lib.hid (HNx.out ⟨by have := H12.out.1; dsimp only; omega, by have := H12.out.2; dsimp only; omega, by have := hC.out; rwa [List.take_of_length_le (by omega)] at this⟩)
            clear hC HNx
            go_wp2_with fail
            go_roundw
            case rel => exact ⟨k + 1, by go_num, by omega, HO, B2⟩
            case measure => simp [intOf]; omega
      · have HR := Lib.hid (show ms.length ≤ 40 ∧ ∀ m ∈ ms, okB m from ⟨by omega, by have := hOk.out; rwa [List.take_of_length_le (by omega)] at this⟩)
        clear hOk
        go_wp2_with fail
        go_ret
        exact ⟨false, rfl, fun _ => HR.out, hb.out⟩
end Go.Proofs.YtefcbofjndnpkaaDoor

/- The law of plans that rise: the row of what was proposed; among. -/
namespace Go.Proofs.YtefcbofjndnpkaaDoor
open Go Go.RowKit Tide

/-- A plan as an element of a row. -/
structure PrE where
  ep : Int
  u : Value
  cs : List (List Int)
def prC (a : PrE) : List Value := [.int .i64 a.ep, a.u]
theorem infoPlan : (Tryd.prog.info? 27).map (fun i => (i.zero, i.size, i.bytes)) = some (some (.agg #[.int .i64 0, .slice none 0 0]), 2, 32) := by kernel_rfl
theorem pr_len (l : List PrE) : (l.flatMap prC).length = l.length * 2 := by
  induction l with
  | nil => rfl
  | cons t l ih => rw [List.flatMap_cons, List.length_append, ih, List.length_cons]; simp [prC]; omega
theorem pr_at : ∀ (l : List PrE) (i j : Nat) (h : i < l.length), j < 2 → (l.flatMap prC)[i * 2 + j]? = (prC l[i])[j]?
  | [], _, _, h, _ => by simp at h
  | t :: l, 0, j, _, hj => by
    rw [List.flatMap_cons, List.getElem?_append_left (by simp [prC]; omega)]
    simp
  | t :: l, i + 1, j, h, hj => by
    have hl : (prC t).length = 2 := rfl
    rw [List.flatMap_cons, List.getElem?_append_right (by omega), hl, show (i + 1) * 2 + j - 2 = i * 2 + j by omega]
    exact pr_at l i j (by simpa using h) hj
/-- A row of plans of the call's own. -/
structure OwnP (W : World) (base : Nat) (v : Value) (l : List PrE) : Prop where
  row : W.ownsRow base 27 2 v l.length (l.flatMap prC)
  grids : ∀ p ∈ l, ∃ vs, GridO W base p.u vs p.cs
section
variable {W W' : World} {base : Nat} {v : Value} {l : List PrE}
theorem OwnP.below (h : OwnP W base v l) (hb : Below W.heap.size W W') : OwnP W' base v l := ⟨own_below h.row hb, fun p hp => by obtain ⟨vs, hg⟩ := h.grids p hp; exact ⟨vs, hg.below hb⟩⟩
theorem OwnP.keptS {b0 : Nat} (h : OwnP W base v l) (hk : KeptS b0 W W') : OwnP W' base v l := ⟨hk.own hard_plan h.row, fun p hp => by obtain ⟨vs, hg⟩ := h.grids p hp; exact ⟨vs, hg.keptS hk⟩⟩
theorem OwnP.form (h : OwnP W base v l) : ∃ A c, v = .slice A l.length c := rowS_form h.row
theorem OwnP.cells (h : OwnP W base v l) {i : Nat} (hi : i < l.length) : ∃ g c, v = .slice (some ⟨g, 0, none⟩) l.length c ∧ g < W.heap.size ∧ W.cell? ⟨g, i * 2, none⟩ = some (.int .i64 l[i].ep) ∧ W.cell? ⟨g, i * 2 + 1, none⟩ = some l[i].u := by
  obtain ⟨b, c, hv, _, hlt⟩ := World.ownsRow.form h.row (by omega)
  have hat : ∀ j u, (prC l[i])[j]? = some u → j < 2 → W.cell? ⟨b, i * 2 + j, none⟩ = some u := fun j u hu hj => by
    have h1 := World.ownsRow.cells h.row (g := b) (by rw [hv]; rfl) (i * 2 + j) u (by rw [pr_at l i j hi hj]; exact hu)
    rwa [show (⟨b, 0, none⟩ : Addr).add (i * 2 + j) = ⟨b, i * 2 + j, none⟩ from by unfold Addr.add; split <;> simp_all] at h1
  exact ⟨b, c, hv, hlt, hat 0 _ rfl (by omega), hat 1 _ rfl (by omega)⟩
theorem OwnP.new (W : World) (base : Nat) (hb : base ≤ W.heap.size) (g : Nat) (hg : g = W.heap.size) : OwnP (W.alloc (.cells #[] 27)) base (.slice (some ⟨g, 0, none⟩) 0 0) [] :=
  ⟨⟨rfl, .inr ⟨g, 0, #[], rfl, by omega, by rw [hg]; exact heap_alloc_new W _, Nat.le_refl _, by simp [maxLen], rfl, rfl⟩⟩, fun p hp => by cases hp⟩
end
/-- append of one plan. -/
theorem wpList_pushP {ops : Array Oper} {rest : List Oper} {o : Oper} {a : Act} {Q : Exit → Act → World → Prop} (hgd : o.guard = none) (s y : Operand) (ho : o.op = .call { callee := .builtin .append, args := #[s, y], argTypes := #[35, 35] })
    {W : World} {base : Nat} {v : Value} {l : List PrE} (x : PrE) (hs : a.eval s = v) (hy : a.eval y = .slice (some ⟨W.heap.size, 0, none⟩) 1 1) (hown : OwnP W base v l) (hx : ∃ vs, GridO W base x.u vs x.cs) (hl : l.length ≤ 1000000) (hb : base ≤ W.heap.size)
    (h : ∀ g cap w', OwnP w' base (.slice (some ⟨g, 0, none⟩) (l.length + 1) cap) (l ++ [x]) → Kept (fun k => v.ownBlock = some k) W w' → Below base W w' → wpList Tryd.prog ops Q rest (a.put o.dst (.slice (some ⟨g, 0, none⟩) (l.length + 1) cap)) w') : wpList Tryd.prog ops Q (o :: rest) a (W.alloc (.cells (prC x).toArray 27)) := by
  obtain ⟨i0, hi, hz0, hz1, hz2⟩ := info_parts infoPlan
  refine wpList_append_lies (W.alloc (.cells (prC x).toArray 27)) hgd s y _ ho base 27 i0 _ 2 32 Tryd.underlying35 hi hz0 hz1 hz2 rfl (by omega) v l.length (l.flatMap prC) hs (own_below hown.row ((Below.refl _ _).alloc (Nat.le_refl _) _)) ⟨W.heap.size, 0, none⟩ 1 1 (prC x) hy rfl ?_ ?_ (by omega) (by simp [maxLen]; omega) (by omega) (by simp; omega) _ rfl ?_
  · exact fun j u hu => World.news_of_block (heap_alloc_new W _) j u (by simpa using hu)
  · intro u hu
    simp only [prC, List.mem_cons, List.not_mem_nil, or_false] at hu
    rcases hu with rfl | rfl
    · rfl
    · obtain ⟨vs, hg⟩ := hx
      obtain ⟨A, c, e⟩ := rowS_form hg.outer
      rw [e]; rfl
  · intro g cap w' h1 h2 h3 _
    have hk : Kept (fun k => v.ownBlock = some k) W w' := Kept.grown ((Kept.refl (fun k => v.ownBlock = some k) W).alloc _) h2 (fun k hk => .inl hk)
    have hG : ∀ {u : Value} {vs : List Value} {cs : List (List Int)}, GridO W base u vs cs → GridO w' base u vs cs := fun {u vs cs} hg => by
      have hne : ∀ {k : Nat} {cur : Array Value} {t : TypeId}, W.heap[k]? = some (.cells cur t (0, 0)) → 27 ≠ t → v.ownBlock ≠ some k := fun {k cur t} hc ht e => by
        obtain ⟨cur', hc'⟩ := rowS_obj hown.row e
        exact cells_two hc' hc ht
      exact ⟨hk.own hg.outer (fun k hv => by obtain ⟨cur, hc⟩ := rowS_obj hg.outer hv; exact hne hc (by decide)), fun i u c hu hc => hk.own (hg.rows i u c hu hc) (fun k hv => by obtain ⟨cur, hcc⟩ := rowS_obj (hg.rows i u c hu hc) hv; exact hne hcc (by decide)), hg.apart⟩
    refine h g cap w' ⟨?_, fun p hp => ?_⟩ hk ?_
    · rw [List.flatMap_append, List.length_append]
      simpa using h1
    · rcases List.mem_append.1 hp with hp | hp
      · obtain ⟨vs, hg⟩ := hown.grids p hp; exact ⟨vs, hG hg⟩
      · rw [List.mem_singleton] at hp; subst hp
        obtain ⟨vs, hg⟩ := hx; exact ⟨vs, hG hg⟩
    · exact ((Below.refl base W).alloc hb _).grown h2 (by simp; omega) (fun k hk => (World.ownsRow.lt hown.row k hk).1)
set_option maxRecDepth 100000 in
set_option maxHeartbeats 4000000 in
theorem among_any (ep : Int) (ds : List (List Int)) (u : Value) (B : Nat) (v : Value) (l : List PrE) (base : Nat) (w : World) (hu : Grid w B u ds) (hB : B ≤ w.heap.size) (hr : rightB ep ds = true) (hO : OwnP w base v l) (hl : l.length ≤ 1000) (hin : ∃ p ∈ l, p.ep = ep ∧ p.cs = ds) :
    Calls Tryd.prog 12 #[planV ep u, v] w fun e w' => e = .returned (.bool true) ∧ Below w.heap.size w w' := by
  obtain ⟨A, c, rfl⟩ := hO.form
  obtain ⟨_, Au, cu, rfl, _⟩ := hu.form
  have ba := (Below.refl w.heap.size w).alloc (Nat.le_refl _) (.cells #[.int .i64 ep, .slice Au ds.length cu] 27)
  obtain ⟨w1, hw1⟩ : ∃ w1, w.alloc (.cells #[.int .i64 ep, .slice Au ds.length cu] 27) = w1 := ⟨_, rfl⟩
  rw [hw1] at ba
  have P1 := Lib.hid (show Two w1 w.heap.size 27 (.int .i64 ep) (.slice Au ds.length cu) from by rw [← hw1]; exact Two.new w 27 _ _)
  have B1 := Lib.hid ba
  have HU := Lib.hid hu
  have HBB := Lib.hid hB
  have HR := Lib.hid hr
  have HO := Lib.hid hO
  have HIN := Lib.hid hin
  clear hu hB hr hO hin ba
  go_enter Tryd.func12, Tryd.ntmps12
  go_wp2_with fail
  go_loopw [9] (fun x wr => ∃ k : Nat, x = .int .i64 k ∧ k ≤ l.length ∧ Hid (∀ p ∈ l.take k, ¬ (p.ep = ep ∧ p.cs = ds)) ∧ Hid (Two wr w.heap.size 27 (.int .i64 ep) (.slice Au ds.length cu)) ∧ Hid (Below w.heap.size w wr)) (fun x _ => l.length - (intOf x).toNat)
  case atStart => exact ⟨0, rfl, Nat.zero_le _, Lib.hid (fun p hp => by simp at hp), P1, B1⟩
  case round =>
    clear P1 B1
    obtain ⟨k, rfl, hk, hN, hP, hb⟩ := hrel
    by_cases hlt : k < l.length
    · have i1 : (k : Int) < (l.length : Int) := by omega
      have hO2 := HO.out.below hb.out
      obtain ⟨g, c', hA, _, d0, d1⟩ := hO2.cells hlt
      injection hA with hA _ hc'
      subst hA hc'
      obtain ⟨vs, hG⟩ := hO2.grids _ (List.getElem_mem hlt)
      have HNx := Lib.hid (show ¬ (l[k].ep = ep ∧ l[k].cs = ds) → ∀ p ∈ l.take (k + 1), ¬ (p.ep = ep ∧ p.cs = ds) from fun h p hp => by
        rw [List.take_succ_eq_append_getElem hlt] at hp
        rcases List.mem_append.1 hp with hp | hp
        · exact hN.out p hp
        · rw [List.mem_singleton] at hp; rw [hp]; exact h)
      obtain ⟨x, hx⟩ : ∃ x, l[k] = x := ⟨_, rfl⟩
      rw [hx] at d0 d1 hG HNx
      obtain ⟨xe, xu, xc⟩ := x
      dsimp only at d0 d1 hG
      obtain ⟨Ax, cx, rfl⟩ := rowS_form hG.outer
      have ba2 := (Below.refl wr.heap.size wr).alloc (Nat.le_refl _) (.cells #[.int .i64 xe, .slice Ax xc.length cx] 27)
      obtain ⟨w2, hw2⟩ : ∃ w2, wr.alloc (.cells #[.int .i64 xe, .slice Ax xc.length cx] 27) = w2 := ⟨_, rfl⟩
      have X2 := Lib.hid (show Two w2 wr.heap.size 27 (.int .i64 xe) (.slice Ax xc.length cx) from by rw [← hw2]; exact Two.new wr 27 _ _)
      rw [hw2] at ba2
      have B2 := Lib.hid (hb.out.trans (ba2.mono hb.out.size))
      have Y2 := Lib.hid (hP.out.below ba2 hP.out.lt)
      have CS := psame_any ep xe ds xc (.slice Au ds.length cu) (.slice Ax xc.length cx) B wr.heap.size w2 (HU.out.below (B2.out.mono HBB.out)) (hG.grid.below ba2) (Nat.le_trans HBB.out B2.out.size) ba2.size
      rw [HR.out, Bool.true_and] at CS
      obtain ⟨y, hy⟩ : ∃ y, (decide (ep = xe) && decide (ds = xc)) = y := ⟨_, rfl⟩
      rw [hy] at CS
      have CS := Lib.hid CS
      have HY := Lib.hid hy
      obtain ⟨_, p0, p1, _⟩ := Y2.out.facts
      obtain ⟨_, x0, x1, _⟩ := X2.out.facts
      have hl1000 : l.length ≤ 1000 := hl
      clear hO2 hG hx hy ba2 hN
      go_wp2_with fail
      refine CS.out.mono ?_
      rintro e w3 ⟨rfl, hb3⟩
      have B3 := Lib.hid (B2.out.trans (hb3.mono B2.out.size))
      have Y3 := Lib.hid (Y2.out.below hb3 Y2.out.lt)
      clear hb3 CS p0 p1 x0 x1 d0 d1
      cases y with
      | true =>
        go_wp2_with fail
        go_ret
        exact ⟨rfl, B3.out⟩
      | false =>
        have HN2 := Lib.hid (HNx.out (fun h => by
          have h9 := HY.out
          rw [h.1, h.2] at h9
          simp at h9))
        go_wp2_with fail
        go_roundw
        case rel => exact ⟨k + 1, by go_num, by omega, HN2, Y3, B3⟩
        case measure => simp [intOf]; omega
    · exfalso
      obtain ⟨p, hp, he⟩ := HIN.out
      have := hN.out
      rw [List.take_of_length_le (by omega)] at this
      exact this p hp he
end Go.Proofs.YtefcbofjndnpkaaDoor
