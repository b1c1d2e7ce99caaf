/- What the document's own tidewaterref02.After answers: the least row behind all that begin with one. -/
import Derived.Test.YtbjhmpjnffhioaaDoorRunesW
import Derived.Test.YtbjhmpjnffhioaaDoorCutI
import Derived.Test.YtbjhmpjnffhioaaDoorUtfN
import Derived.Test.YtbjhmpjnffhioaaDoorApp
namespace Go.Proofs.YtbjhmpjnffhioaaDoor
open Go.RowKit Tide Utf

theorem int_one (l : List Nat) : ∀ u ∈ intCells l, u.oneCell' = true := by
  intro u hu
  simp only [intCells, List.mem_map] at hu
  obtain ⟨c, _, rfl⟩ := hu
  rfl
/-- The two answers. -/
def AfterR (l : List Nat) (w : World) (e : Ending) (w' : World) : Prop :=
  (∃ m v, after l = some m ∧ e = .returned (.tuple #[v, .bool true]) ∧ Row w' w'.heap.size v (intCells m) ∧ Below w.heap.size w w') ∨
  (after l = none ∧ e = .returned (.tuple #[.slice none 0 0, .bool false]) ∧ Below w.heap.size w w')
set_option maxHeartbeats 2000000 in
set_option maxRecDepth 100000 in
theorem rafter_any (v : Value) (l : List Nat) (w : World) (hx : Row w w.heap.size v (intCells l)) (hl : l.length ≤ 65536) (hv : ∀ j, j < l.length → l.getD j 0 ≤ 1114111) :
    Calls Tryd.prog 22 #[v] w (AfterR l w) := by
  obtain ⟨i0, hi, hz0, hz1, hz2⟩ := info_parts infoI
  have HI := Lib.hid hi
  obtain ⟨hxl, A, c, rfl, hcx⟩ := ints_form hx
  have HX := Lib.hid hx
  have HC := Lib.hid hcx
  have HV := Lib.hid hv
  clear hi hx hcx hv
  go_enter Tryd.func22, Tryd.ntmps22
  go_wp2_with fail
  go_loop [4] (fun z => ∃ k : Nat, z = .int .i64 k ∧ k ≤ l.length ∧ Hid (after l = afterAt l k)) (fun z => (intOf z).toNat)
  case atStart => exact ⟨l.length, rfl, Nat.le_refl _, Lib.hid rfl⟩
  case round =>
    obtain ⟨k, rfl, hk, hA⟩ := hrel
    cases k with
    | zero =>
      have hno := Lib.hid (show after l = none from hA.out)
      go_wp2_with fail
      go_ret2
      exact .inr ⟨hno.out, rfl, Below.refl _ _⟩
    | succ k =>
      obtain ⟨b, o, rfl, hcell⟩ := HC.out k (by omega)
      have hstep := Lib.hid (show after l = if l.getD k 0 = 1114111 then afterAt l k else some (l.take k ++ [nxt (l.getD k 0)]) from hA.out)
      have hc0 := HV.out k (by omega)
      obtain ⟨A1, c1, hs1, hr1⟩ := cuti_h HX.out k _ rfl (show k ≤ l.length by omega)
      have e1 : ((k + 1 : Nat) : Int) - 1 = (k : Int) := by omega
      generalize hx1 : l.take k = x1 at hs1 hr1 hstep
      have hxl1 : x1.length ≤ 65536 := by rw [← hx1, List.length_take]; omega
      have HR1 := Lib.hid hr1
      generalize l.getD k 0 = q at *
      clear hx1 hA hr1
      by_cases h1 : q = 1114111
      · have hgo := Lib.hid (hstep.out.trans (if_pos h1))
        have t1 : ((q : Int) == 1114111) = true := by rw [h1]; rfl
        clear h1
        go_wp2_with fail
        go_round
        case rel => exact ⟨k, rfl, by omega, hgo⟩
        case measure => simp [intOf]
      · have hgo := Lib.hid (hstep.out.trans (if_neg h1))
        have t1 : ((q : Int) == 1114111) = false := by rw [beq_eq_false_iff_ne]; omega
        have hq : q ≤ 1114110 := by omega
        clear h1 hc0
        by_cases h2 : q = 55295
        · have t2 : (((q : Int) + 1) == 55296) = true := by rw [h2]; rfl
          have hn := Lib.hid (show nxt q = 57344 by unfold nxt; rw [if_pos h2])
          clear h2
          go_wp2_with (at_builtin; refine wpList_append_row _ rfl (.tmp 23) (.tmp 27) _ rfl w.heap.size 3 i0 (.int .i64 0) 8 Tryd.underlying23 HI.out hz0 hz1 hz2 rfl _ 0 [] rfl ?a1 w.heap.size _ (intCells x1) rfl ?a2 (int_one _) ?a3 ?a4 ?a5 ?_)
          case a1 => exact own_new _ _ _ _ _ _ _ _ rfl (Nat.le_refl _) (by simp) (by simp [maxLen]) rfl (by simp)
          case a2 => exact HR1.out.keep fun b' o' h => World.cell?_alloc_lt w _ ⟨b', o', none⟩ h
          case a3 => rw [intCells_length]; unfold maxLen; omega
          case a4 => rw [intCells_length]; omega
          intro v5 w5 hown5 hg5 _
          have hb5 := ((Below.refl w.heap.size w).alloc (Nat.le_refl _) (.cells #[] 3)).grown hg5 (by simp) (fun g hg => by simp [Value.ownBlock] at hg; omega)
          rw [intCells_length] at hown5
          have HO5 := Lib.hid hown5
          have HB5 := Lib.hid hb5
          have hs5 := hb5.size
          clear hown5 hb5 hg5
          go_wp2_with (at_builtin; refine wpList_append_row _ rfl (.tmp 28) (.tmp 30) _ rfl w.heap.size 3 i0 (.int .i64 0) 8 Tryd.underlying23 HI.out hz0 hz1 hz2 rfl v5 x1.length (intCells x1) rfl (HO5.out.alloc _) (w5.heap.size + 1) _ [.int .i64 57344] rfl ?b1 ?b2 ?b3 ?b4 ?b5 ?_)
          case b1 => exact Row.new w5 _ #[.int .i64 57344] (0, 0) _ 1 rfl rfl (by omega)
          case b2 => simp [Value.oneCell']
          case b3 => simp; unfold maxLen; omega
          case b4 => simp; omega
          case b5 => simp; omega
          intro v6 w6 hown6 hg6 _
          have hb6 := (HB5.out.alloc hs5 _).grown hg6 (HB5.out.alloc hs5 _).size (fun g hg => (HO5.out.lt g hg).1)
          have hfin := Row.of_own hown6 (Nat.le_refl _)
          rw [show intCells x1 ++ [Value.int .i64 57344] = intCells (x1 ++ [nxt q]) by rw [hn.out]; simp [intCells]] at hfin
          have HF := Lib.hid hfin
          have HB6 := Lib.hid hb6
          clear hg6 hown6 hfin hb6
          go_wp2_with fail
          go_ret2
          exact .inl ⟨_, v6, hgo.out, rfl, HF.out, HB6.out⟩
        · have t2 : (((q : Int) + 1) == 55296) = false := by rw [beq_eq_false_iff_ne]; omega
          have hn := Lib.hid (show nxt q = q + 1 by unfold nxt; rw [if_neg h2])
          clear h2
          go_wp2_with (at_builtin; refine wpList_append_row _ rfl (.tmp 23) (.tmp 27) _ rfl w.heap.size 3 i0 (.int .i64 0) 8 Tryd.underlying23 HI.out hz0 hz1 hz2 rfl _ 0 [] rfl ?a1' w.heap.size _ (intCells x1) rfl ?a2' (int_one _) ?a3' ?a4' ?a5' ?_)
          case a1' => exact own_new _ _ _ _ _ _ _ _ rfl (Nat.le_refl _) (by simp) (by simp [maxLen]) rfl (by simp)
          case a2' => exact HR1.out.keep fun b' o' h => World.cell?_alloc_lt w _ ⟨b', o', none⟩ h
          case a3' => rw [intCells_length]; unfold maxLen; omega
          case a4' => rw [intCells_length]; omega
          intro v5 w5 hown5 hg5 _
          have hb5 := ((Below.refl w.heap.size w).alloc (Nat.le_refl _) (.cells #[] 3)).grown hg5 (by simp) (fun g hg => by simp [Value.ownBlock] at hg; omega)
          rw [intCells_length] at hown5
          have HO5 := Lib.hid hown5
          have HB5 := Lib.hid hb5
          have hs5 := hb5.size
          clear hown5 hb5 hg5
          go_wp2_with (at_builtin; refine wpList_append_row _ rfl (.tmp 28) (.tmp 30) _ rfl w.heap.size 3 i0 (.int .i64 0) 8 Tryd.underlying23 HI.out hz0 hz1 hz2 rfl v5 x1.length (intCells x1) rfl (HO5.out.alloc _) (w5.heap.size + 1) _ [.int .i64 ((q : Int) + 1)] rfl ?b1' ?b2' ?b3' ?b4' ?b5' ?_)
          case b1' => exact Row.new w5 _ #[.int .i64 ((q : Int) + 1)] (0, 0) _ 1 rfl rfl (by omega)
          case b2' => simp [Value.oneCell']
          case b3' => simp; unfold maxLen; omega
          case b4' => simp; omega
          case b5' => simp; omega
          intro v6 w6 hown6 hg6 _
          have hb6 := (HB5.out.alloc hs5 _).grown hg6 (HB5.out.alloc hs5 _).size (fun g hg => (HO5.out.lt g hg).1)
          have hfin := Row.of_own hown6 (Nat.le_refl _)
          rw [show intCells x1 ++ [Value.int .i64 ((q : Int) + 1)] = intCells (x1 ++ [nxt q]) by rw [hn.out]; simp [intCells]] at hfin
          have HF := Lib.hid hfin
          have HB6 := Lib.hid hb6
          clear hg6 hown6 hfin hb6
          go_wp2_with fail
          go_ret2
          exact .inl ⟨_, v6, hgo.out, rfl, HF.out, HB6.out⟩
end Go.Proofs.YtbjhmpjnffhioaaDoor
