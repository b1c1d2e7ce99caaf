/- The document's own sequencer: Take. Rows of backs of the call's own. Not tied to package token's code. -/
import Derived.Test.YtfgpjelnijeoaaaDoorTkC
import Derived.Deep.AppendLies
import Derived.Deep.RegionLaw
namespace Go.Proofs.YtfgpjelnijeoaaaDoor
open Go Go.RowKit Tide

/-- One stream of a Take: what is told of it, and its row behind that. -/
def stepT (nx : Nat) (p : List (Int × List Int) × List (List Int)) (x : Int) : List (Int × List Int) × List (List Int) :=
  (p.1 ++ [(x, (p.2.getD x.toNat []).take 4)], p.2.set x.toNat ((nx : Int) :: p.2.getD x.toNat []))
def takeL (nx : Nat) (all : List (List Int)) (l : List Int) : List (Int × List Int) × List (List Int) := l.foldl (stepT nx) ([], all)
theorem takeL_snoc (nx : Nat) (all : List (List Int)) (l : List Int) (x : Int) : takeL nx all (l ++ [x]) = stepT nx (takeL nx all l) x := by simp [takeL]
/-- Take: the address, the backs, the error's number; what it is then. -/
def takeD (s : SeqD) (ep : Int) (l : List Int) : (Int × List (Int × List Int) × Int) × SeqD :=
  if ep ≠ s.ep then ((0, [], 8), s)
  else if ¬ (1 ≤ l.length ∧ l.length ≤ 3 ∧ upB l = true) then ((0, [], 4), s)
  else if 4096 ≤ s.nx then ((0, [], 13), s)
  else (((s.nx : Int), (takeL s.nx s.all l).1, 0), { s with nx := s.nx + 1, all := (takeL s.nx s.all l).2 })

/-- A back's cells. -/
def bkC (p : Int × Value) : List Value := [.int .i64 p.1, p.2]
theorem infoBk : (Tryd.prog.info? 51).map (fun i => (i.zero, i.size, i.bytes)) = some (some (.agg #[.int .i64 0, .slice none 0 0]), 2, 32) := by kernel_rfl
theorem bk_len (l : List (Int × Value)) : (l.flatMap bkC).length = l.length * 2 := by
  induction l with
  | nil => rfl
  | cons t l ih => rw [List.flatMap_cons, List.length_append, ih, List.length_cons]; simp [bkC]; omega
theorem bk_at : ∀ (l : List (Int × Value)) (i j : Nat) (h : i < l.length), j < 2 → (l.flatMap bkC)[i * 2 + j]? = (bkC l[i])[j]?
  | [], _, _, h, _ => by simp at h
  | t :: l, 0, j, _, hj => by
    rw [List.flatMap_cons, List.getElem?_append_left (by simp [bkC]; omega)]
    simp
  | t :: l, i + 1, j, h, hj => by
    have hl : (bkC t).length = 2 := rfl
    rw [List.flatMap_cons, List.getElem?_append_right (by omega), hl, show (i + 1) * 2 + j - 2 = i * 2 + j by omega]
    exact bk_at l i j (by simpa using h) hj
/-- A row of backs of the call's own, made from lo on, and so their addresses. -/
def OwnB (w : World) (lo : Nat) (v : Value) (bs : List (Int × List Int)) : Prop :=
  ∃ ps : List (Int × Value), w.ownsRow lo 51 2 v ps.length (ps.flatMap bkC) ∧ ps.length = bs.length ∧ ∀ (i : Nat) (p : Int × Value) (b : Int × List Int), ps[i]? = some p → bs[i]? = some b → p.1 = b.1 ∧ Own w lo p.2 b.2 ∧ ∀ k, v.ownBlock = some k → p.2.ownBlock ≠ some k
section
variable {w w' : World} {lo : Nat} {v : Value} {bs : List (Int × List Int)} {F : Nat → Prop}
theorem OwnB.kept (h : OwnB w lo v bs) (hk : Kept F w w') (hF : ∀ k, F k → k < lo ∨ w.heap.size ≤ k) : OwnB w' lo v bs := by
  obtain ⟨ps, h1, h2, h3⟩ := h
  refine ⟨ps, hk.own h1 (fun k e f => ?_), h2, fun i p b hp hb => ⟨(h3 i p b hp hb).1, hk.own (h3 i p b hp hb).2.1 (fun k e f => ?_), (h3 i p b hp hb).2.2⟩⟩
  · have := h1.lt k e
    have := hF k f
    omega
  · have := (h3 i p b hp hb).2.1.lt k e
    have := hF k f
    omega
theorem OwnB.below (h : OwnB w lo v bs) (hb : Below w.heap.size w w') : OwnB w' lo v bs := h.kept (Kept.of_below (F := fun _ => False) hb) (fun _ h => h.elim)
theorem OwnB.new (w : World) (lo : Nat) (hb : lo ≤ w.heap.size) (g : Nat) (hg : g = w.heap.size) : OwnB (w.alloc (.cells #[] 51)) lo (.slice (some ⟨g, 0, none⟩) 0 0) [] :=
  ⟨[], ⟨rfl, .inr ⟨g, 0, #[], rfl, by omega, by rw [hg]; exact heap_alloc_new w _, Nat.le_refl _, by simp [maxLen], rfl, rfl⟩⟩, rfl, fun i p b hp _ => by simp at hp⟩
theorem OwnB.nil (w : World) (lo : Nat) : OwnB w lo (.slice none 0 0) [] := ⟨[], World.ownsRow_nil w lo _ 2, rfl, fun i p b hp _ => by simp at hp⟩
theorem OwnB.lt (h : OwnB w lo v bs) (k : Nat) (hk : v.ownBlock = some k) : lo ≤ k ∧ k < w.heap.size := by
  obtain ⟨ps, h1, _⟩ := h
  exact h1.lt k hk
theorem OwnB.backs (h : OwnB w lo v bs) : Backs w w.heap.size v bs := by
  obtain ⟨ps, h1, h2, h3⟩ := h
  have hn : ps.length ≤ 9223372036854775807 := by
    rcases h1.2 with ⟨_, h0⟩ | ⟨g, cap, cur, _, _, _, h4, h5, _⟩
    · omega
    · unfold maxLen at h5; omega
  refine ⟨ps.map bkC, ⟨by simpa using hn, ?_⟩, by simp [h2], fun i hi => ?_⟩
  · have h1' := h1
    rcases h1.2 with ⟨rfl, h0⟩ | ⟨g, cap, cur, rfl, h4, h5, _⟩
    · have : ps = [] := List.eq_nil_of_length_eq_zero h0
      subst this
      exact ⟨none, 0, rfl, fun e => absurd rfl e⟩
    · refine ⟨some ⟨g, 0, none⟩, cap, by simp, fun _ => ⟨g, 0, rfl, (Array.getElem?_eq_some_iff.1 h5).1, fun i j e u he hu => ?_⟩⟩
      rw [List.getElem?_map] at he
      obtain ⟨p, hp, rfl⟩ := Option.map_eq_some_iff.1 he
      have hi := (List.getElem?_eq_some_iff.1 hp).1
      have hj : j < 2 := (List.getElem?_eq_some_iff.1 hu).1
      have := World.ownsRow.cells h1' (g := g) rfl (i * 2 + j) u (by rw [bk_at ps i j hi hj, ← hu]; congr 2; exact (List.getElem?_eq_some_iff.1 hp).2)
      rwa [show (⟨g, 0, none⟩ : Addr).add (i * 2 + j) = ⟨g, 0 + (i * 2 + j), none⟩ from by unfold Addr.add; split <;> simp_all] at this
  · have hp : ps[i]? = some ps[i] := List.getElem?_eq_getElem (by omega)
    obtain ⟨e, ho, _⟩ := h3 i _ _ hp (List.getElem?_eq_getElem hi)
    exact ⟨(ps[i]'(by omega)).2, by rw [List.getElem?_map, hp, ← e]; rfl, ho.row⟩
end
/-- append of one back. -/
theorem wpList_pushB {ops : Array Oper} {rest : List Oper} {o : Oper} {a : Act} {Q : Exit → Act → World → Prop} (hgd : o.guard = none) (s y : Operand) (ho : o.op = .call { callee := .builtin .append, args := #[s, y], argTypes := #[22, 22] })
    {W : World} {lo : Nat} {v : Value} {bs : List (Int × List Int)} (x : Int) (u : Value) (m : List Int) (hs : a.eval s = v) (hy : a.eval y = .slice (some ⟨W.heap.size, 0, none⟩) 1 1) (hown : OwnB W lo v bs) (hu : Own W lo u m) (hap : ∀ k, v.ownBlock = some k → u.ownBlock ≠ some k) (hone : u.oneCell' = true) (hl : bs.length ≤ 1000000) (hb : lo ≤ W.heap.size)
    (h : ∀ v' w', OwnB w' lo v' (bs ++ [(x, m)]) → Kept (fun k => v.ownBlock = some k) W w' → (∀ k, v'.ownBlock = some k → v.ownBlock = some k ∨ W.heap.size ≤ k) → wpList Tryd.prog ops Q rest (a.put o.dst v') w') : wpList Tryd.prog ops Q (o :: rest) a (W.alloc (.cells #[.int .i64 x, u] 51)) := by
  obtain ⟨i0, hi, hz0, hz1, hz2⟩ := info_parts infoBk
  obtain ⟨ps, h1, h2, h3⟩ := hown
  refine wpList_append_lies (W.alloc (.cells #[.int .i64 x, u] 51)) hgd s y _ ho lo 51 i0 _ 2 32 Tryd.underlying22 hi hz0 hz1 hz2 rfl (by omega) v ps.length (ps.flatMap bkC) hs (own_below h1 ((Below.refl _ _).alloc (Nat.le_refl _) _)) ⟨W.heap.size, 0, none⟩ 1 1 [.int .i64 x, u] hy rfl ?_ ?_ (by omega) (by simp [maxLen]; omega) (by omega) (by simp; omega) _ rfl ?_
  · exact fun j u hu => World.news_of_block (heap_alloc_new W _) j u (by simpa using hu)
  · intro z hz
    simp only [List.mem_cons, List.not_mem_nil, or_false] at hz
    rcases hz with rfl | rfl
    · rfl
    · exact hone
  · intro g cap w' e1 e2 e3 _
    have hk : Kept (fun k => v.ownBlock = some k) W w' := Kept.grown ((Kept.refl (fun k => v.ownBlock = some k) W).alloc _) e2 (fun k hk => .inl hk)
    refine h _ w' ⟨ps ++ [(x, u)], ?_, by simp [h2], fun i p b hp hb => ?_⟩ hk (fun k hk => by
      have : g = k := by injection hk
      subst this
      exact e3.imp id (fun e => by rw [World.size_alloc] at e; omega))
    · rw [List.flatMap_append, List.length_append]
      simpa [bkC] using e1
    · have hnew : ∀ k z m', (∀ k, v.ownBlock = some k → z.ownBlock ≠ some k) → Own W lo z m' → (Value.slice (some ⟨g, 0, none⟩) (ps.length + 1) cap).ownBlock = some k → z.ownBlock ≠ some k := fun k z m' h4 h5 h6 h7 => by
        have : g = k := by injection h6
        subst this
        rcases e3 with e3 | e3
        · exact h4 _ e3 h7
        · have := (h5.lt _ h7).2
          rw [World.size_alloc] at e3
          omega
      rcases Nat.lt_trichotomy i ps.length with hlt | rfl | hgt
      · rw [List.getElem?_append_left hlt] at hp
        rw [List.getElem?_append_left (by omega)] at hb
        obtain ⟨f1, f2, f3⟩ := h3 i p b hp hb
        exact ⟨f1, hk.own f2 (fun k e e' => f3 k e' e), fun k => hnew k _ _ f3 f2⟩
      · rw [List.getElem?_append_right (Nat.le_refl _)] at hp
        rw [List.getElem?_append_right (by omega)] at hb
        simp only [Nat.sub_self, List.getElem?_cons_zero, Option.some.injEq, h2] at hp hb
        subst hp hb
        exact ⟨rfl, hk.own hu (fun k e e' => hap k e' e), fun k => hnew k _ _ hap hu⟩
      · rw [List.getElem?_eq_none (by simp; omega)] at hp
        cases hp

/-- A stream's row with an address ahead, stored. -/
theorem SeqR.push {W w' : World} {R : Nat → Prop} {g : Nat} {s : SeqD} {vs : List Value} (h : SeqR W R g s vs) {x : Nat} (hx : x < 13) {v' : Value} {m l : List Int} (hm : m = l) (ho : Own w' W.heap.size v' l) (hb : Below W.heap.size W w') :
    g < w'.heap.size ∧ (∃ v, w'.cell? ⟨g, 2 + x, none⟩ = some v) ∧ w'.frozen? ⟨g, 2 + x, none⟩ = false ∧
      Hid (SeqR (w'.setCell ⟨g, 2 + x, none⟩ v') (fun k => R k ∨ v'.ownBlock = some k) g { s with all := s.all.set x m } (vs.set x v') ∧ Kept (fun k => k = g) W (w'.setCell ⟨g, 2 + x, none⟩ v') ∧ ∀ k, v'.ownBlock = some k → W.heap.size ≤ k) := by
  subst hm
  have h' := h.below hb
  obtain ⟨v, _, hc, _⟩ := h'.stream hx
  have hg := h.low g h.inR
  refine ⟨h'.low g h'.inR, ⟨v, hc⟩, h'.free _, Lib.hid ⟨h'.setRow (own_later ho (Nat.zero_le _)) (fun e => ?_), (Kept.of_below (F := fun k => k = g) hb).setCell (p := ⟨g, 2 + x, none⟩) (.inl rfl) v', fun k hk => (ho.lt k hk).1⟩⟩
  have := (ho.lt g e).1
  omega
theorem stepT_facts (nx : Nat) : ∀ (l : List Int) (p : List (Int × List Int) × List (List Int)) (n : Nat), p.2.length = 13 → (∀ r ∈ p.2, r.length ≤ n) →
    (l.foldl (stepT nx) p).1.length = p.1.length + l.length ∧ (l.foldl (stepT nx) p).2.length = 13 ∧ ∀ r ∈ (l.foldl (stepT nx) p).2, r.length ≤ n + l.length
  | [], p, n, h1, h2 => ⟨rfl, h1, h2⟩
  | x :: l, p, n, h1, h2 => by
    rw [List.foldl_cons]
    obtain ⟨e1, e2, e3⟩ := stepT_facts nx l (stepT nx p x) (n + 1) (by simp [stepT, h1]) (fun r hr => by
      unfold stepT at hr
      rcases List.mem_or_eq_of_mem_set hr with hr | rfl
      · have := h2 r hr; omega
      · by_cases hx : x.toNat < p.2.length
        · have := h2 _ (List.getElem_mem hx)
          rw [List.getD_eq_getElem?_getD, List.getElem?_eq_getElem hx]
          simp; omega
        · rw [List.getD_eq_getElem?_getD, List.getElem?_eq_none (by omega)]
          simp)
    refine ⟨by rw [e1]; simp [stepT]; omega, e2, fun r hr => ?_⟩
    have := e3 r hr
    rw [List.length_cons]; omega
theorem takeL_facts (nx : Nat) (all : List (List Int)) (ha : all.length = 13) (hb : ∀ r ∈ all, r.length ≤ 100000) (l : List Int) : (takeL nx all l).1.length = l.length ∧ (takeL nx all l).2.length = 13 ∧ ∀ r ∈ (takeL nx all l).2, r.length ≤ 100000 + l.length := by
  have := stepT_facts nx l ([], all) 100000 ha hb
  simpa [takeL] using this

theorem Own.one {w : World} {base : Nat} {v : Value} {l : List Int} (h : Own w base v l) : v.oneCell' = true := by
  rcases h.2 with ⟨rfl, _⟩ | ⟨g, cap, cur, rfl, _⟩ <;> rfl
theorem Own.form {w : World} {base : Nat} {v : Value} {l : List Int} (h : Own w base v l) : ∃ A n c, v = .slice A n c := by
  rcases h.2 with ⟨rfl, _⟩ | ⟨g, cap, cur, rfl, _⟩
  · exact ⟨_, _, _, rfl⟩
  · exact ⟨_, _, _, rfl⟩
set_option maxRecDepth 100000 in
set_option maxHeartbeats 2000000 in
/-- Take of streams that are right, where there is room. -/
theorem take_ok (s : SeqD) (l : List Int) (v : Value) (B : Nat) (R : Nat → Prop) (g : Nat) (w : World) (h : SeqIs w R g s) (hv : Row w B v (int64s l)) (hB : B ≤ g) (hb : ∀ r ∈ s.all, r.length ≤ 100000)
    (h1 : 1 ≤ l.length) (h3 : l.length ≤ 3) (hu : upB l = true) (hn : s.nx < 4096) :
    Calls Tryd.prog 13 #[.pointer (some ⟨g, 0, none⟩), .int .i64 s.ep, v] w fun e w' => ∃ vb, e = .returned (.tuple #[.int .i64 s.nx, vb, .int .i64 0]) ∧ OwnB w' w.heap.size vb (takeL s.nx s.all l).1 ∧
      (∃ R', SeqIs w' R' g { s with nx := s.nx + 1, all := (takeL s.nx s.all l).2 } ∧ ∀ k, R' k → R k ∨ w.heap.size ≤ k) ∧ Kept (fun k => k = g) w w' := by
  obtain ⟨vs, hs⟩ := h
  obtain ⟨hl, A, c, rfl, hc⟩ := row_ints hv
  have hg := hs.low g hs.inR
  have CR := right13_any l _ B w hv
  rw [hu] at CR
  have HCR := Lib.hid CR
  have HV := Lib.hid (fun W (hk : Kept (fun k => k = g) w W) => hv.keep (w' := W) (fun b o hb => hk.cell (p := ⟨b, o, none⟩) (by show b < w.heap.size; omega) (by show ¬ b = g; omega)))
  have c0 := hs.epoch
  have c1 := hs.next
  have HS := Lib.hid hs
  have HF := Lib.hid (And.intro hs.na hb)
  have HU := Lib.hid (upB_mem hu)
  have i1 : ¬ (l.length : Int) < 1 := by omega
  have i3 : ¬ (3 : Int) < (l.length : Int) := by omega
  have i4 : ¬ (4096 : Int) ≤ (s.nx : Int) := by omega
  have HN := Lib.hid hn
  obtain ⟨ep, nx, all⟩ := s
  clear hv hc CR hs hu hb hl
  go_enter Tryd.func13, Tryd.ntmps13
  go_wp2_with fail
  refine HCR.out.mono ?_
  rintro en w1 ⟨rfl, rfl⟩
  clear HCR
  go_wp2_with fail
  have O0 := Lib.hid (OwnB.new w w.heap.size (Nat.le_refl _) _ rfl)
  have W0 := Lib.hid (show Kept (fun k => k = g) w (w.alloc (.cells #[] 51)) from (Kept.refl _ w).alloc _)
  have S0 := Lib.hid (show ∃ us, SeqR (w.alloc (.cells #[] 51)) R g ⟨ep, nx, all⟩ us from ⟨_, HS.out.below ((Below.refl _ _).alloc (Nat.le_refl _) _)⟩)
  obtain ⟨i0, hi, hz0, hz1, hz2⟩ := info_parts infoInt
  have HI := Lib.hid hi
  clear hi
  go_loopw [9, 39] (fun u z wr => ∃ k : Nat, z = .int .i64 k ∧ k ≤ l.length ∧ Hid (OwnB wr w.heap.size u (takeL nx all (l.take k)).1) ∧ Hid (Kept (fun k => k = g) w wr) ∧ Hid (∃ R' us, SeqR wr R' g ⟨ep, nx, (takeL nx all (l.take k)).2⟩ us ∧ (∀ k, R' k → R k ∨ w.heap.size ≤ k) ∧ ∀ k, R' k → u.ownBlock ≠ some k)) (fun _ z _ => l.length - (intOf z).toNat)
  case atStart => exact ⟨0, rfl, Nat.zero_le _, O0, W0, Lib.hid (by
    obtain ⟨us, h⟩ := S0.out
    refine ⟨R, us, h, fun k h => .inl h, fun k h e => ?_⟩
    have e : w.heap.size = k := by injection e
    have := HS.out.low k h
    omega)⟩
  case round =>
    clear O0 W0 S0 c0 c1
    obtain ⟨k, rfl, hk, hO, hK, hS⟩ := hrel
    by_cases hlt : k < l.length
    · obtain ⟨_, A1, c1, e1, hcA⟩ := row_ints (HV.out wr hK.out)
      injection e1 with e1 _ e1c
      subst e1 e1c
      obtain ⟨b, o, rfl, hbl, hcu⟩ := hcA k hlt
      obtain ⟨R1, us, hS1, hR1, hR2⟩ := hS.out
      have HR1 := Lib.hid hR1
      have HR2 := Lib.hid hR2
      have i1 : (k : Int) < (l.length : Int) := by omega
      obtain ⟨hx0, hx1⟩ := HU.out _ (List.getElem_mem hlt)
      obtain ⟨y, hy⟩ : ∃ y : Nat, l[k] = (y : Int) := ⟨l[k].toNat, by omega⟩
      rw [hy] at hcu hx1
      have hy13 : y < 13 := by omega
      have i13 : (y : Int) < 13 := by omega
      have HT := Lib.hid (show takeL nx all (l.take (k + 1)) = stepT nx (takeL nx all (l.take k)) y by rw [take_one l k hlt, takeL_snoc, hy])
      obtain ⟨hT1, hT2, hT3⟩ := takeL_facts nx all HF.out.1 HF.out.2 (l.take k)
      have hlk : (l.take k).length ≤ 3 := by rw [List.length_take]; omega
      generalize takeL nx all (l.take k) = p at *
      obtain ⟨row, hrow, hcell, hown⟩ := hS1.stream hy13
      have hgd : p.2.getD y [] = p.2[y]'(by rw [hT2]; exact hy13) := by rw [List.getD_eq_getElem?_getD, List.getElem?_eq_getElem (by rw [hT2]; exact hy13)]; rfl
      have hgs : p.2[y]? = some (p.2.getD y []) := by rw [hgd]; exact List.getElem?_eq_getElem _
      have hrl3 : (p.2.getD y []).length ≤ 200000 := by
        have := hT3 (p.2[y]'(by rw [hT2]; exact hy13)) (List.getElem_mem _)
        rw [hgd]
        omega
      have CN := Lib.hid (newest_any _ row wr.heap.size wr hown.row (Nat.le_refl _))
      rw [hgd.symm] at CN hown
      have HST := Lib.hid (show stepT nx p y = (p.1 ++ [((y : Int), (p.2.getD y []).take 4)], p.2.set y ((nx : Int) :: p.2.getD y [])) from rfl)
      clear hgd
      generalize p.2.getD y [] = rl at *
      obtain ⟨Ar, nr, cr, rfl⟩ := hown.form
      have HROW := Lib.hid hrow
      have HGS := Lib.hid hgs
      clear hrow hgs hy hx0 hT3 hR1 hR2 hcA
      go_wp2_with fail
      refine CN.out.mono ?_
      rintro en w2 ⟨u', rfl, ho, hb⟩
      obtain ⟨Au, nu, cu, rfl⟩ := ho.form
      have K2 := Lib.hid (hK.out.trans (Kept.of_below (F := fun k => k = g) hb) (fun k hk => .inl hk))
      have S2 := Lib.hid (hS1.below hb)
      have O2 := Lib.hid (hO.out.below hb)
      have U2 := Lib.hid ho
      have hap : ∀ k, u9.ownBlock = some k → (Value.slice Au nu cu).ownBlock ≠ some k := fun k h1 h2 => by
        have := (hO.out.lt k h1).2
        have := (ho.lt k h2).1
        omega
      have HAP := Lib.hid hap
      clear ho hb CN hap hS1 hown
      go_wp2_with (at_builtin; refine wpList_pushB rfl (.tmp 43) (.tmp 53) rfl (y : Int) (.slice Au nu cu) _ rfl rfl O2.out (own_later U2.out hK.out.size) HAP.out U2.out.one (by rw [hT1]; omega) K2.out.size ?_; intro vo w3 h1 h2 h3; have O3 := Lib.hid h1; have K3 := Lib.hid h2; have N3 := Lib.hid h3; clear h1 h2 h3)
      have S3 := Lib.hid (S2.out.kept K3.out (fun k h e => HR2.out k h e))
      have W3 := Lib.hid (K2.out.trans K3.out (fun k e => .inr (O2.out.lt k e).1))
      have c1 := S3.out.next
      have c2 : w3.cell? ⟨g, 2 + y, none⟩ = some (.slice Ar nr cr) := S3.out.cell (by rw [Nat.add_comm]; exact HROW.out)
      have X3 := Lib.hid (S3.out.rows y _ _ HROW.out HGS.out)
      have hg3 := S3.out.low g S3.out.inR
      have c3 : (w3.alloc (.cells #[.int .i64 (nx : Int)] 3)).cell? ⟨g, 2 + y, none⟩ = some (.slice Ar nr cr) := by rw [World.cell?_alloc_lt w3 _ ⟨g, 2 + y, none⟩ hg3]; exact c2
      have BA := Lib.hid ((Below.refl w3.heap.size w3).alloc (Nat.le_refl _) (.cells #[.int .i64 (nx : Int)] 3)).drew
      have XR := Lib.hid (X3.out.row.keep (below_cells BA.out))
      clear hcell
      go_region_law (first
        | (refine step_append_row _ rfl (.tmp 61) (.tmp 67) _ rfl w3.heap.size 3 i0 (.int .i64 0) 8 Tryd.underlying37 HI.out hz0 hz1 hz2 rfl _ 1 [.int .i64 (nx : Int)] rfl (own_new w3 _ _ _ _ _ _ _ rfl (Nat.le_refl _) (Nat.le_refl _) (by unfold maxLen; omega) rfl rfl) w3.heap.size _ (int64s rl) rfl XR.out (ints_one rl) ?_ ?_ ?_ ?_; (rw [int64s_length]; unfold maxLen; omega); (rw [int64s_length]; omega); (simp); intro v4 w4 h1 h2 h3 h4; have h9 : Own w4 w3.heap.size v4 ((nx : Int) :: rl) := (by unfold Own; rw [List.length_cons, ← int64s_length rl, Nat.add_comm]; exact h1); obtain ⟨A4, n4, c4, rfl⟩ := h9.form; obtain ⟨e1, ⟨e2, e3⟩, e4, E4⟩ := S3.out.push hy13 rfl h9 (BA.out.trans h4); clear h1 h2 h3 h4 h9))
      all_goals
        generalize World.setCell w4 ⟨g, 2 + y, none⟩ (.slice A4 n4 c4) = w5 at *
        have hsz := W3.out.size
        have O5 := Lib.hid (show OwnB w5 w.heap.size vo (takeL nx all (l.take (k + 1))).1 from by rw [HT.out, HST.out]; exact O3.out.kept E4.out.2.1 (fun k e => .inl (by omega)))
        have W5 := Lib.hid (W3.out.trans E4.out.2.1 (fun k e => .inl e))
        have S5 := Lib.hid (show ∃ R' us, SeqR w5 R' g ⟨ep, nx, (takeL nx all (l.take (k + 1))).2⟩ us ∧ (∀ k, R' k → R k ∨ w.heap.size ≤ k) ∧ ∀ k, R' k → vo.ownBlock ≠ some k from by
          rw [HT.out, HST.out]
          refine ⟨_, _, E4.out.1, fun k h => ?_, fun k h e => ?_⟩
          · rcases h with h | h
            · exact HR1.out k h
            · have := E4.out.2.2 k h
              exact .inr (by omega)
          · rcases h with h | h
            · rcases N3.out k e with h2 | h2
              · exact HR2.out k h h2
              · have := S2.out.low k h
                omega
            · have := E4.out.2.2 k h
              have := (O3.out.lt k e).2
              omega)
        clear c1 c2 c3 e1 e2 e3 e4 hsz hg3
        go_wp2_with fail
        go_roundw
        case rel => exact ⟨k + 1, by go_num, by omega, O5, W5, S5⟩
        case measure => simp [intOf]; omega
    · have ek : l.take k = l := List.take_of_length_le (by omega)
      rw [ek] at hO hS
      obtain ⟨R1, us, hS1, hR1, _⟩ := hS.out
      have c1 := hS1.next
      have hg1 := hS1.low g hS1.inR
      have hf := hS1.free 1
      have S1 := Lib.hid (show SeqR (wr.setCell ⟨g, 1, none⟩ (.int .i64 ((nx : Int) + 1))) R1 g ⟨ep, nx + 1, (takeL nx all l).2⟩ us from hS1.setNext (nx + 1))
      have HR1 := Lib.hid hR1
      have O1 := Lib.hid (hO.out.kept (w' := wr.setCell ⟨g, 1, none⟩ (.int .i64 ((nx : Int) + 1))) (Kept.setCell (F := fun k => k = g) (Kept.refl _ wr) (p := ⟨g, 1, none⟩) (.inl rfl) _) (fun k e => .inl (by omega)))
      have W1 := Lib.hid (hK.out.setCell (p := ⟨g, 1, none⟩) (.inl rfl) (.int .i64 ((nx : Int) + 1)))
      clear hS1 hR1
      go_wp2_with fail
      go_ret3
      exact ⟨_, by first | rfl | (congr 4; go_num) | (congr 4; omega), O1.out, ⟨R1, ⟨_, S1.out⟩, HR1.out⟩, W1.out⟩
end Go.Proofs.YtfgpjelnijeoaaaDoor
