/- What the document's own tidewaterref02.Fields answers: a row of runes' parts between blanks, without empty ones, as texts. -/
import Derived.Test.YtbjhmpjnffhioaaDoorFieldW
import Derived.Test.YtbjhmpjnffhioaaDoorRAfterW
import Derived.Test.YtbjhmpjnffhioaaDoorCutL
namespace Go.Proofs.YtbjhmpjnffhioaaDoor
open Go.RowKit Tide Utf

/-- The parts, gone over rune by rune. -/
def runF (out : List (List Nat)) (part : List Nat) : List Nat → List (List Nat)
  | [] => out
  | c :: r => if c = 32 then runF (if part = [] then out else out ++ [part]) [] r else runF out (part ++ [c]) r
theorem runF_all : ∀ (l : List Nat) (out : List (List Nat)) (part : List Nat), runF out part (l ++ [32]) = out ++ (splitN part l).filter fun p => !p.isEmpty
  | [], out, part => by
    show (if (32 : Nat) = 32 then runF (if part = [] then out else out ++ [part]) [] [] else _) = _
    rw [if_pos rfl]
    cases part with
    | nil => simp [runF, splitN]
    | cons a part => simp [runF, splitN]
  | c :: l, out, part => by
    by_cases hc : c = 32
    · show (if c = 32 then runF (if part = [] then out else out ++ [part]) [] (l ++ [32]) else _) = _
      have e : splitN part (c :: l) = part :: splitN [] l := by
        show (if c = 32 then _ else _) = _
        rw [if_pos hc]
      rw [if_pos hc, runF_all l, e]
      cases part with
      | nil => simp
      | cons a part => simp
    · show (if c = 32 then _ else runF out (part ++ [c]) (l ++ [32])) = _
      have e : splitN part (c :: l) = splitN (part ++ [c]) l := by
        show (if c = 32 then _ else _) = _
        rw [if_neg hc]
      rw [if_neg hc, runF_all l, e]
theorem runF_drop {L out part : List _} {k : Nat} (hk : k < L.length) : runF out part (L.drop k) = if L.getD k 0 = 32 then runF (if part = [] then out else out ++ [part]) [] (L.drop (k + 1)) else runF out (part ++ [L.getD k 0]) (L.drop (k + 1)) := by
  have e1 : L.getD k 0 = L[k] := by rw [List.getD_eq_getElem?_getD, List.getElem?_eq_getElem hk]; rfl
  rw [List.drop_eq_getElem_cons hk, e1]
  rfl

/-- Rows of different types are apart. -/
theorem own_apart {w : World} {b1 b2 e1 e2 n1 n2 : Nat} {v1 v2 : Value} {xs ys : List Value} (h1 : w.ownsRow b1 e1 1 v1 n1 xs) (h2 : w.ownsRow b2 e2 1 v2 n2 ys) (hne : e1 ≠ e2) : v1.ownBlock = none ∨ v1.ownBlock ≠ v2.ownBlock := by
  rcases h1.2 with ⟨rfl, _⟩ | ⟨g, cap, cur, rfl, _, hg, _⟩
  · exact .inl rfl
  rcases h2.2 with ⟨rfl, _⟩ | ⟨g', cap', cur', rfl, _, hg', _⟩
  · exact .inr (by simp [Value.ownBlock])
  · refine .inr fun e => ?_
    obtain rfl : g = g' := by simpa [Value.ownBlock] using e
    rw [hg] at hg'
    cases hg'
    exact hne rfl
theorem own_below {w w' : World} {b e n : Nat} {v : Value} {xs : List Value} (h : w.ownsRow b e 1 v n xs) (hb : Below w.heap.size w w') : w'.ownsRow b e 1 v n xs :=
  h.kept (row := none) ⟨hb.os, hb.tape, hb.output, hb.size, fun k hk _ => hb.block k hk⟩ (by cases h : v.ownBlock <;> simp)

set_option maxRecDepth 100000 in
set_option maxHeartbeats 4000000 in
theorem rfields_any (v : Value) (l : List Nat) (w : World) (hx : Row w w.heap.size v (intCells l)) (hl : l.length ≤ 65000) (hv : ∀ c ∈ l, c ≤ 1114111) :
    Calls Tryd.prog 25 #[v] w (FieldsR ((fieldsOf l).map txt) w) := by
  obtain ⟨i0, hi, hz0, hz1, hz2⟩ := info_parts infoI
  have HI := Lib.hid hi
  obtain ⟨j0, hj, hy0, hy1, hy2⟩ := info_parts infoS
  have HJ := Lib.hid hj
  obtain ⟨hxl, A, c, rfl, _⟩ := ints_form hx
  have HX := Lib.hid hx
  have HV := Lib.hid hv
  clear hi hj hx hv
  go_enter Tryd.func25, Tryd.ntmps25
  go_wp2_with (at_builtin; refine wpList_append_row _ rfl (.tmp 9) (.tmp 10) _ rfl w.heap.size 3 i0 (.int .i64 0) 8 Tryd.underlying23 HI.out hz0 hz1 hz2 rfl _ 0 [] rfl ?a1 w.heap.size _ (intCells l) rfl ?a2 (int_one _) ?a3 ?a4 ?a5 ?_)
  case a1 => exact own_new _ _ _ _ _ _ _ _ (by simp) (by simp; omega) (by simp) (by simp [maxLen]) rfl (by simp)
  case a2 => exact (HX.out.keep fun b' o' h => ((World.cell?_alloc_lt _ _ ⟨b', o', none⟩ (by simp; omega)).trans ((World.cell?_alloc_lt _ _ ⟨b', o', none⟩ (by simp; omega)).trans (World.cell?_alloc_lt w _ ⟨b', o', none⟩ h))))
  case a3 => rw [intCells_length]; unfold maxLen; omega
  case a4 => rw [intCells_length]; omega
  case a5 => simp; omega
  intro v5 w5 hown5 hg5 hbl5
  have hO3 : (((w.alloc (.cells #[] 9)).alloc (.cells #[] 3)).alloc (.cells #[] 3)).ownsRow w.heap.size 9 1 (.slice (some ⟨w.heap.size, 0, none⟩) 0 0) 0 [] :=
    ((own_new w _ #[] w.heap.size 0 0 w.heap.size [] rfl (Nat.le_refl _) (Nat.le_refl _) (by simp [maxLen]) rfl rfl).alloc _).alloc _
  have hP3 : (((w.alloc (.cells #[] 9)).alloc (.cells #[] 3)).alloc (.cells #[] 3)).ownsRow w.heap.size 3 1 (.slice (some ⟨w.heap.size + 1, 0, none⟩) 0 0) 0 [] :=
    (own_new (w.alloc (.cells #[] 9)) _ #[] w.heap.size 0 0 (w.heap.size + 1) [] (by simp) (by simp) (Nat.le_refl _) (by simp [maxLen]) rfl rfl).alloc _
  have hB3 : Below w.heap.size w (((w.alloc (.cells #[] 9)).alloc (.cells #[] 3)).alloc (.cells #[] 3)) := (((Below.refl _ w).alloc (Nat.le_refl _) _).alloc (by simp) _).alloc (by simp; omega) _
  have hb5 : ∃ g, v5.ownBlock = some g ∧ w.heap.size + 2 ≤ g := by
    rcases hbl5 with h | h
    · exact ⟨w.heap.size + 2, by rw [h]; simp [Value.ownBlock], Nat.le_refl _⟩
    · exact ⟨_, h, by simp⟩
  have hO5 := hO3.kept hg5 (.inr (by simp [Value.ownBlock]; omega))
  have hP5 := hP3.kept hg5 (.inr (by simp [Value.ownBlock]))
  have hB5 := hB3.grown hg5 hB3.size (by intro k e; simp [Value.ownBlock] at e; omega)
  rw [intCells_length] at hown5
  have HS5 := Lib.hid hown5
  have HO5 := Lib.hid hO5
  have HP5 := Lib.hid hP5
  have HB5 := Lib.hid hB5
  have hz5 := hB5.size
  clear hown5 hg5 hbl5 hO3 hP3 hB3 hO5 hP5 hB5
  go_wp2_with (at_builtin; refine wpList_append_row _ rfl (.tmp 11) (.tmp 12) _ rfl w.heap.size 3 i0 (.int .i64 0) 8 Tryd.underlying23 HI.out hz0 hz1 hz2 rfl v5 l.length (intCells l) rfl (HS5.out.alloc _) (w5.heap.size + 1) _ [.int .i64 32] rfl ?b1 ?b2 ?b3 ?b4 ?b5 ?_)
  case b1 => exact Row.new w5 _ #[.int .i64 32] (0, 0) _ 1 rfl rfl (by omega)
  case b2 => simp [Value.oneCell']
  case b3 => simp; unfold maxLen; omega
  case b4 => simp; omega
  case b5 => simp; omega
  intro v6 w6 hown6 hg6 hbl6
  obtain ⟨g5, hg5, hge5⟩ := hb5
  rw [hg5] at hg6 hbl6
  have hO6 := (HO5.out.alloc (.cells #[.int .i64 32] 3)).kept hg6 (.inr (by simp [Value.ownBlock]; omega))
  have hP6 := (HP5.out.alloc (.cells #[.int .i64 32] 3)).kept hg6 (.inr (by simp [Value.ownBlock]; omega))
  have hB6 := (HB5.out.alloc hz5 (.cells #[.int .i64 32] 3)).grown hg6 (by simp; omega) (by intro k e; injection e with e; omega)
  have hb6 : ∃ g, v6.ownBlock = some g ∧ w.heap.size + 2 ≤ g := by
    rcases hbl6 with h | h
    · exact ⟨_, h, hge5⟩
    · exact ⟨_, h, by
        have := (HS5.out.lt g5 hg5).2
        simp; omega⟩
  have hown6' : w6.ownsRow w.heap.size 3 1 v6 (l.length + 1) (intCells (l ++ [32])) := by
    rw [show intCells (l ++ [32]) = intCells l ++ [Value.int .i64 32] by simp [intCells]]
    simpa using hown6
  obtain ⟨g6, cap6, rfl⟩ := ownsRow_succ hown6'
  have hg6' : w.heap.size + 2 ≤ g6 := by
    obtain ⟨g, h1, h2⟩ := hb6
    have : g6 = g := by simpa [Value.ownBlock] using h1
    omega
  have hLl : (l ++ [32]).length = l.length + 1 := by simp
  have hLv : ∀ j, j < (l ++ [32]).length → (l ++ [32]).getD j 0 ≤ 1114111 := fun j hj => by
    rw [List.getD_eq_getElem?_getD, List.getElem?_eq_getElem hj]
    have hm : (l ++ [32])[j] ∈ l ++ [32] := List.getElem_mem hj
    rcases List.mem_append.1 hm with h | h
    · exact HV.out _ h
    · simp only [List.mem_cons, List.not_mem_nil, or_false] at h
      show (l ++ [32])[j] ≤ _
      rw [h]; omega
  have hfin : runF [] [] (l ++ [32]) = fieldsOf l := by rw [runF_all, List.nil_append]; rfl
  have hS6 : w6.ownsRow w.heap.size 3 1 (.slice (some ⟨g6, 0, none⟩) (l.length + 1) cap6) (l ++ [32]).length (intCells (l ++ [32])) := by rw [hLl]; exact hown6'
  rw [← hLl] at hS6 ⊢
  generalize l ++ [32] = L at hLv hfin hLl hS6 ⊢
  have hLb : L.length ≤ 65001 := by omega
  have HLV := Lib.hid hLv
  have HF := Lib.hid hfin
  have HS6 := Lib.hid hS6
  have HO6 := Lib.hid hO6
  have HP6 := Lib.hid hP6
  have HB6 := Lib.hid hB6
  clear hown6 hown6' hb6 hbl6 hg6 hg5 hLl hLv hfin hS6 hO6 hP6 hB6 HS5 HO5 HP5 HB5
  go_wp2_with fail
  go_loopw [3, 4, 15] (fun o p z wr => ∃ (k : Nat) (out : List (List Nat)) (part : List Nat), z = .int .i64 k ∧ k ≤ L.length ∧ out.length ≤ k ∧ part.length ≤ k ∧ Hid (runF out part (L.drop k) = fieldsOf l) ∧ Hid (∀ c ∈ part, c ≤ 1114111) ∧
    Hid (wr.ownsRow w.heap.size 9 1 o out.length (strs (out.map txt))) ∧ Hid (wr.ownsRow w.heap.size 3 1 p part.length (intCells part)) ∧ Hid (p.ownBlock ≠ some g6) ∧
    Hid (wr.ownsRow w.heap.size 3 1 (.slice (some ⟨g6, 0, none⟩) L.length cap6) L.length (intCells L)) ∧ Hid (Below w.heap.size w wr)) (fun _ _ z _ => L.length - (intOf z).toNat)
  case atStart => exact ⟨0, [], [], rfl, Nat.zero_le _, Nat.le_refl _, Nat.le_refl _, Lib.hid (by simpa using HF.out), Lib.hid (by simp), HO6, HP6, Lib.hid (by simp [Value.ownBlock]; omega), HS6, HB6⟩
  case round =>
    obtain ⟨k, out, part, rfl, hk, hol, hpl, hrun, hpv, hO, hP, hPg, hS, hB⟩ := hrel
    by_cases hlt : k < L.length
    · have hcell : wr.cell? ⟨g6, k, none⟩ = some (.int .i64 (L.getD k 0 : Nat)) := by
        rw [hS.out.cellAt k (by omega)]
        simp [intCells, hlt]
      have hstep := Lib.hid (hrun.out.symm.trans (runF_drop hlt))
      have hc0 := HLV.out k hlt
      generalize L.getD k 0 = q at *
      by_cases hq : q = 32
      · have hstep := Lib.hid (hstep.out.trans (if_pos hq))
        have t1 : ((q : Int) == 32) = true := by rw [hq]; rfl
        have t1' : ((q : Int) != 32) = false := by rw [hq]; rfl
        obtain ⟨_, A2, c2, rfl, _⟩ := ints_form (show Row wr wr.heap.size _ (intCells part) from Row.of_own hP.out (Nat.le_refl _))
        clear hq
        have hgl := (hS.out.lt g6 rfl).2
        by_cases hp0 : part = []
        · subst hp0
          have hrun2 := Lib.hid (show runF out [] (L.drop (k + 1)) = fieldsOf l by rw [hstep.out, if_pos rfl])
          go_wp2_with fail
          go_roundw
          case rel => exact ⟨k + 1, out, [], by go_num, by omega, by omega, by simp, hrun2, Lib.hid (by simp), Lib.hid (hO.out.alloc _), Lib.hid (own_new wr _ #[] w.heap.size 0 0 wr.heap.size [] rfl hB.out.size (Nat.le_refl _) (by simp [maxLen]) rfl rfl), Lib.hid (by simp [Value.ownBlock]; omega), Lib.hid (hS.out.alloc _), Lib.hid (hB.out.alloc hB.out.size _)⟩
          case measure => simp [intOf]; omega
        · have hp1 : 0 < part.length := List.length_pos_iff.2 hp0
          have hrun2 := Lib.hid (show runF (out ++ [part]) [] (L.drop (k + 1)) = fieldsOf l by rw [hstep.out, if_neg hp0])
          obtain ⟨tp, htp⟩ : ∃ tp, Hid (txt part = tp) := ⟨_, Lib.hid rfl⟩
          clear hp0
          go_wp2_with fail
          refine (rtext_t _ part tp wr (Row.of_own hP.out (Nat.le_refl _)) (by omega) hpv.out htp).mono ?_
          rintro e w7 ⟨rfl, hb7⟩
          have HO7 := Lib.hid (own_below hO.out hb7)
          have HS7 := Lib.hid (own_below hS.out hb7)
          have HB7 := Lib.hid (hB.out.trans (hb7.mono hB.out.size))
          have hz7 := hb7.size
          have hz7' := HB7.out.size
          clear hb7
          go_wp2_with (at_builtin; refine wpList_append_row _ rfl (.tmp 28) (.tmp 31) _ rfl w.heap.size 9 j0 (.string ⟨#[]⟩) 16 Tryd.underlying40 HJ.out hy0 hy1 hy2 rfl _ out.length (strs (out.map txt)) rfl (HO7.out.alloc _) (w7.heap.size + 1) _ [.string tp] rfl ?c1 ?c2 ?c3 ?c4 ?c5 ?_)
          case c1 => exact Row.new w7 _ #[.string tp] (0, 0) _ 1 rfl rfl (by omega)
          case c2 => simp [Value.oneCell']
          case c3 => simp; unfold maxLen; omega
          case c4 => simp; omega
          case c5 => simp; omega
          intro v8 w8 hown8 hg8 _
          have HO8 : Hid (w8.ownsRow w.heap.size 9 1 v8 (out ++ [part]).length (strs ((out ++ [part]).map txt))) := Lib.hid (by
            rw [show strs ((out ++ [part]).map txt) = strs (out.map txt) ++ [Value.string tp] by rw [← htp.out]; simp [strs], show (out ++ [part]).length = out.length + 1 by simp]
            simpa using hown8)
          have HS8 := Lib.hid ((HS7.out.alloc (.cells #[.string tp] 9)).kept hg8 (own_apart HS7.out HO7.out (by decide)))
          have HB8 := Lib.hid ((HB7.out.alloc hz7' (.cells #[.string tp] 9)).grown hg8 (by simp; omega) (fun g hg => (HO7.out.lt g hg).1))
          have hgl8 := (HS8.out.lt g6 rfl).2
          clear hown8 hg8
          go_wp2_with fail
          go_roundw
          case rel => exact ⟨k + 1, out ++ [part], [], by go_num, by omega, by simp; omega, by simp, hrun2, Lib.hid (by simp), Lib.hid (HO8.out.alloc _), Lib.hid (own_new w8 _ #[] w.heap.size 0 0 w8.heap.size [] rfl HB8.out.size (Nat.le_refl _) (by simp [maxLen]) rfl rfl), Lib.hid (by simp [Value.ownBlock]; omega), Lib.hid (HS8.out.alloc _), Lib.hid (HB8.out.alloc HB8.out.size _)⟩
          case measure => simp [intOf]; omega
      · have hrun2 := Lib.hid (show runF out (part ++ [q]) (L.drop (k + 1)) = fieldsOf l from (hstep.out.trans (if_neg hq)).symm)
        have t1 : ((q : Int) == 32) = false := by rw [beq_eq_false_iff_ne]; omega
        have t1' : ((q : Int) != 32) = true := by rw [bne_iff_ne]; omega
        have hgl := (hS.out.lt g6 rfl).2
        have hzw := hB.out.size
        clear hq
        go_wp2_with (at_builtin; refine wpList_append_row _ rfl (.tmp 21) (.tmp 23) _ rfl w.heap.size 3 i0 (.int .i64 0) 8 Tryd.underlying23 HI.out hz0 hz1 hz2 rfl _ part.length (intCells part) rfl (hP.out.alloc _) (wr.heap.size + 1) _ [.int .i64 (q : Int)] rfl ?d1 ?d2 ?d3 ?d4 ?d5 ?_)
        case d1 => exact Row.new wr _ #[.int .i64 (q : Int)] (0, 0) _ 1 rfl rfl (by omega)
        case d2 => simp [Value.oneCell']
        case d3 => simp; unfold maxLen; omega
        case d4 => simp; omega
        case d5 => simp; omega
        intro v8 w8 hown8 hg8 hbl8
        have HP8 : Hid (w8.ownsRow w.heap.size 3 1 v8 (part ++ [q]).length (intCells (part ++ [q]))) := Lib.hid (by
          rw [show intCells (part ++ [q]) = intCells part ++ [Value.int .i64 (q : Int)] by simp [intCells], show (part ++ [q]).length = part.length + 1 by simp]
          simpa using hown8)
        have HO8 := Lib.hid ((hO.out.alloc (.cells #[.int .i64 (q : Int)] 3)).kept hg8 (own_apart hO.out hP.out (by decide)))
        have HS8 := Lib.hid ((hS.out.alloc (.cells #[.int .i64 (q : Int)] 3)).kept hg8 (.inr (fun e => hPg.out e.symm)))
        have HG8 : Hid (v8.ownBlock ≠ some g6) := Lib.hid (by
          rcases hbl8 with h | h
          · rw [h]; exact hPg.out
          · rw [h]; simp; omega)
        have HB8 := Lib.hid ((hB.out.alloc hzw (.cells #[.int .i64 (q : Int)] 3)).grown hg8 (by simp; omega) (fun g hg => (hP.out.lt g hg).1))
        have hpv8 : Hid (∀ c ∈ part ++ [q], c ≤ 1114111) := Lib.hid (fun c hc => by
          rcases List.mem_append.1 hc with h | h
          · exact hpv.out c h
          · simp only [List.mem_cons, List.not_mem_nil, or_false] at h
            rw [h]; exact hc0)
        clear hown8 hg8 hbl8
        go_wp2_with fail
        go_roundw
        case rel => exact ⟨k + 1, out, part ++ [q], by go_num, by omega, by omega, by simp; omega, hrun2, hpv8, HO8, HP8, HG8, HS8, HB8⟩
        case measure => simp [intOf]; omega
    · have hout := Lib.hid (show out = fieldsOf l by
        have := hrun.out
        rw [List.drop_of_length_le (by omega)] at this
        exact this)
      go_wp2_with fail
      go_ret
      refine ⟨_, rfl, ?_, hB.out⟩
      rw [← hout.out]
      exact Row.of_own hO.out (Nat.le_refl _)
end Go.Proofs.YtbjhmpjnffhioaaDoor
