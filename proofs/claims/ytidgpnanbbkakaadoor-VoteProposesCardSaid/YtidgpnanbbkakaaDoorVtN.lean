/- Package vote's Proposer: as it lies in memory; most, awaits. -/
import Derived.Test.YtidgpnanbbkakaaDoorVtM
import Derived.Test.YtidgpnanbbkakaaDoorVtQ
namespace Go.Proofs.YtidgpnanbbkakaaDoor
open Go Go.RowKit Tide

def boolR (v : Value) : Option (DataW Unit × List MemPlace) := match v with
  | .bool x => some (.lit (.bool x), [])
  | _ => none
def boolK : ElemK Bool where
  R := boolR
  val := .bool
  dd := fun x => .lit (.bool x)
  rd := fun _ => rfl
  inv := fun {v y} h => by
    unfold boolR at h
    split at h
    · injection h with h
      exact ⟨_, rfl, h.symm⟩
    · cases h
  inj := fun {x y} h => by
    injection h with h
    injection h
theorem zeroBool (w : World) : (zeroValue 4).run Tryd.prog w = .ok (boolK.val false) w := by kernel_rfl
/-- Who proposes: its five cells, its two maps. -/
structure ProW (W : World) (q bp ba N : Nat) (p : PropV) : Prop where
  cells : W.heap[q]? = some (.cells #[.int .i64 (p.voters : Int), .string p.text, .int .i64 p.greatest, .map (some bp), .map (some ba)] 67 (0, 0))
  prom : IMap boolK W bp N p.prom
  acc : IMap boolK W ba N p.acc
  two : bp ≠ ba
def FPro (q bp ba : Nat) (k : Nat) : Prop := k = q ∨ k = bp ∨ k = ba
section
variable {W W' : World} {q bp ba N : Nat} {p : PropV}
theorem ProW.lt (h : ProW W q bp ba N p) : q < W.heap.size := by
  rcases Nat.lt_or_ge q W.heap.size with hlt | hge
  · exact hlt
  · have := h.cells; rw [Array.getElem?_eq_none hge] at this; cases this
theorem ProW.fp (h : ProW W q bp ba N p) : ∀ k, FPro q bp ba k → k < W.heap.size := fun k hk => by
  rcases hk with rfl | rfl | rfl
  · exact h.lt
  · exact h.prom.lt
  · exact h.acc.lt
theorem ProW.ne (h : ProW W q bp ba N p) : bp ≠ q ∧ ba ≠ q := ⟨h.prom.ne_cells h.cells, h.acc.ne_cells h.cells⟩
theorem ProW.kept {F : Nat → Prop} (h : ProW W q bp ba N p) (hk : Kept F W W') (hF : ∀ k, FPro q bp ba k → ¬ F k) : ProW W' q bp ba N p :=
  ⟨hk.heap h.cells (hF q (.inl rfl)), h.prom.kept hk (hF bp (.inr (.inl rfl))), h.acc.kept hk (hF ba (.inr (.inr rfl))), h.two⟩
theorem ProW.below (h : ProW W q bp ba N p) (hb : Below W.heap.size W W') : ProW W' q bp ba N p := h.kept (F := fun _ => False) (Kept.of_below hb) (fun _ _ h => h)
theorem ProW.mono (h : ProW W q bp ba N p) {M : Nat} (hM : N ≤ M) : ProW W q bp ba M p := ⟨h.cells, h.prom.mono hM, h.acc.mono hM, h.two⟩
theorem ProW.facts (h : ProW W q bp ba N p) : q < W.heap.size ∧ W.cell? ⟨q, 0, none⟩ = some (.int .i64 (p.voters : Int)) ∧ W.cell? ⟨q, 1, none⟩ = some (.string p.text) ∧ W.cell? ⟨q, 2, none⟩ = some (.int .i64 p.greatest) ∧ W.cell? ⟨q, 3, none⟩ = some (.map (some bp)) ∧ W.cell? ⟨q, 4, none⟩ = some (.map (some ba)) ∧ ∀ i, W.frozen? ⟨q, i, none⟩ = false := by
  refine ⟨h.lt, by rw [cell_of_row _ _ 0 _ _ _ h.cells]; rfl, by rw [cell_of_row _ _ 1 _ _ _ h.cells]; rfl, by rw [cell_of_row _ _ 2 _ _ _ h.cells]; rfl, by rw [cell_of_row _ _ 3 _ _ _ h.cells]; rfl, by rw [cell_of_row _ _ 4 _ _ _ h.cells]; rfl, fun i => ?_⟩
  unfold World.frozen?
  rw [show W.heap[(⟨q, i, none⟩ : Addr).block]? = _ from h.cells]
  simp

/-- How many of n voters have said yes, of those that a range has passed. -/
def cntL (n : Nat) (g : Int → Option Bool) (left : Lit → Bool) : Nat := (List.range n).countP fun j : Nat => !left (kI (j : Int)) && g (j : Int) == some true
theorem cntL_le (n : Nat) (g : Int → Option Bool) (left : Lit → Bool) : cntL n g left ≤ n := by
  have := List.countP_le_length (p := fun j : Nat => !left (kI (j : Int)) && g (j : Int) == some true) (l := List.range n)
  rw [List.length_range] at this
  exact this
theorem cntL_start (n : Nat) (g : Int → Option Bool) (left : Lit → Bool) (h : ∀ k : Int, left (kI k) = (g k).isSome) : cntL n g left = 0 := by
  unfold cntL
  rw [List.countP_eq_zero]
  intro j _ hj
  rw [h] at hj
  cases hg : g (j : Int) with
  | none => rw [hg] at hj; simp at hj
  | some x => rw [hg] at hj; simp at hj
theorem cntL_end (n : Nat) (g : Int → Option Bool) (left : Lit → Bool) (h : ∀ l, left l = false) : cntL n g left = countV n g := by
  unfold cntL countV
  refine List.countP_congr fun j _ => ?_
  rw [h]; simp
theorem cntL_step (n : Nat) (g : Int → Option Bool) (left : Lit → Bool) (k : Int) (x : Bool) (hg : g k = some x) (hl : left (kI k) = true) (h0 : 0 ≤ k) (h1 : k < (n : Int)) : cntL n g (fun z => left z && !z.sameKey (kI k)) = cntL n g left + if x then 1 else 0 := by
  obtain ⟨m, rfl⟩ : ∃ m : Nat, k = (m : Int) := ⟨k.toNat, by omega⟩
  unfold cntL
  rw [count_one (fun j : Nat => !left (kI (j : Int)) && g (j : Int) == some true) (fun j : Nat => !(left (kI (j : Int)) && !(kI (j : Int)).sameKey (kI (m : Int))) && g (j : Int) == some true) m (List.range n) List.nodup_range (List.mem_range.2 (by omega)) (fun j _ hj => by
    have : (kI (j : Int)).sameKey (kI (m : Int)) = false := by
      rw [Bool.eq_false_iff]; intro h; exact hj (by have := (kI_same _ _).1 h; omega)
    show (!(left (kI (j : Int)) && !(kI (j : Int)).sameKey (kI (m : Int))) && _) = _
    rw [this]; simp) (by show (!left (kI (m : Int)) && _) = false; rw [hl]; rfl)]
  have : (kI (m : Int)).sameKey (kI (m : Int)) = true := (kI_same _ _).2 rfl
  rw [this, hg]
  cases x <;> simp

set_option maxRecDepth 100000 in
set_option maxHeartbeats 1000000 in
theorem most_any {b m : Nat} {g : Int → Option Bool} (c0 : W.cell? ⟨q, 0, none⟩ = some (.int .i64 (p.voters : Int))) (hM : IMap boolK W b m g) (hn : p.voters ≤ 5) (hs : SuppV p.voters g) : Calls Tryd.prog 21 #[.pointer (some ⟨q, 0, none⟩), .map (some b)] W fun e w' => e = .returned (.bool (mostV p.voters g)) ∧ Below W.heap.size W w' := by
  have hq := World.block_lt_of_cell? _ _ c0
  obtain ⟨n, hN⟩ : ∃ n, p.voters = n := ⟨_, rfl⟩
  rw [hN] at c0 hn hs ⊢
  have HM := Lib.hid hM
  have HS := Lib.hid hs
  have hb := hM.lt
  have C0 := Lib.hid c0
  obtain ⟨Z, hZ⟩ : ∃ Z, mostV n g = Z := ⟨_, rfl⟩
  rw [hZ]
  have HZ := Lib.hid hZ
  clear hM hs hN hZ
  go_enter Tryd.func21, Tryd.ntmps21
  go_wp2_with (at_range; refine wpList_im_range _ Tryd.underlying65 HM.out rfl _ rfl rfl ?_; intro w0 left0 cnt0 hr0 hl0 hb0 hs0)
  have R0 := Lib.hid hr0
  have B0 := Lib.hid hb0
  have L0 := Lib.hid (show 0 = cntL n g left0 from (cntL_start n g left0 hl0).symm)
  clear hr0 hb0 hl0
  go_loopw [5] (fun t wr => ∃ (left : Lit → Bool) (cnt T : Nat), t = .int .i64 (T : Int) ∧ T ≤ 5 ∧ Hid (IRng boolK wr b W.heap.size g left cnt) ∧ Hid (T = cntL n g left) ∧ Hid (Below W.heap.size W wr)) (fun _ wr => wr.rangeLeft b W.heap.size)
  case atStart => exact ⟨left0, cnt0, 0, rfl, by omega, R0, L0, B0⟩
  case round =>
    clear R0 L0 B0
    obtain ⟨left, cnt, T, rfl, hT, hRg, hL, hBr⟩ := hrel
    have hc := (below_cells hBr.out _ _ hq).trans C0.out
    go_wp2_with (at_next; refine wpList_im_next _ hRg.out rfl _ rfl rfl ?_ ?_; rotate_left; intro k x w1 cnt1 hg hlk hr1 hlt hk1 hs1 hen; rotate_left)
    · intro hl
      have HE := Lib.hid (show T = countV n g from by rw [hL.out]; exact cntL_end n g left hl)
      obtain ⟨Q, hQ⟩ : ∃ Q, n / 2 = Q := ⟨_, rfl⟩
      have hdv : (n : Int).tdiv 2 = (Q : Int) := by rw [Int.tdiv_eq_ediv_of_nonneg (by omega)]; omega
      have hdw : (n : Int) / 2 = (Q : Int) := by omega
      have hw1 : wrap64 (Q : Int) = (Q : Int) := by unfold wrap64; omega
      have hw2 : IntKind.i64.wrap (Q : Int) = (Q : Int) := by simp [IntKind.wrap, IntKind.signed, IntKind.bits]; omega
      have HM2 := Lib.hid (show decide (Q < T) = mostV n g from by rw [HE.out]; unfold mostV; rw [hQ])
      rw [HZ.out] at HM2
      have hcm : decide ((Q : Int) < (T : Int)) = decide (Q < T) := by
        rw [Bool.eq_iff_iff]; simp only [decide_eq_true_eq]; omega
      rw [HM2.out] at hcm
      have hcn := HM2.out
      clear hl hQ hn
      go_wp2_with fail
      go_ret
      exact ⟨rfl, hBr.out⟩
    all_goals
      rename_i hx
      have R1 := Lib.hid hr1
      have B1 := Lib.hid (hBr.out.trans (hk1.below hBr.out.size (fun i hi => by rw [show i = W.heap.size from hi]; exact Nat.le_refl _)))
      obtain ⟨hk0, hk5⟩ := HS.out k x hg
      have L1 := Lib.hid (show T + (if x then 1 else 0) = cntL n g (fun z => left z && !z.sameKey (kI k)) from by rw [cntL_step n g left k x hg hlk hk0 hk5, ← hL.out])
      have HT1 := Lib.hid (show T + (if x then 1 else 0) ≤ 5 from by rw [L1.out]; exact Nat.le_trans (cntL_le _ _ _) hn)
      have HM1 := Lib.hid (show wr.rangeLeft b W.heap.size = cnt from hRg.out.left_eq)
      have HM2 := Lib.hid (show w1.rangeLeft b W.heap.size = cnt1 from hr1.left_eq)
      clear hr1 hk1 hg hlk hk0 hk5
    · subst hx
      refine ⟨⟨_, cnt1, T + 1, by go_num, HT1.out, R1, L1, B1⟩, ?_⟩
      rw [HM1.out, HM2.out]; exact hlt
    · subst hx
      refine ⟨⟨_, cnt1, T, rfl, hT, R1, L1, B1⟩, ?_⟩
      rw [HM1.out, HM2.out]; exact hlt
set_option maxRecDepth 100000 in
theorem awaits_any {b m : Nat} {g : Int → Option Bool} (c0 : W.cell? ⟨q, 0, none⟩ = some (.int .i64 (p.voters : Int))) (hM : IMap boolK W b m g) (k : Int) (hk : fitsI k) : Calls Tryd.prog 22 #[.pointer (some ⟨q, 0, none⟩), .map (some b), .int .i64 k] W fun e w' => e = .returned (.bool (awaitsV p.voters g k)) ∧ W = w' := by
  have hq := World.block_lt_of_cell? _ _ c0
  obtain ⟨n, hN⟩ : ∃ n, p.voters = n := ⟨_, rfl⟩
  rw [hN] at c0 ⊢
  have HM := Lib.hid hM
  obtain ⟨h3, h4⟩ := hk
  obtain ⟨R, hR⟩ : ∃ R, (g k).isSome = R := ⟨_, rfl⟩
  have HR := Lib.hid hR
  have HA := Lib.hid (show awaitsV n g k = (!R && (decide (0 ≤ k) && decide (k < (n : Int)))) from by unfold awaitsV; rw [← hR]; cases g k <;> rfl)
  rw [HA.out]
  clear hM hR hN
  go_enter Tryd.func22, Tryd.ntmps22
  go_wp2_with (at_lookup; refine wpList_im_ok _ Tryd.underlying65 HM.out (zeroBool _) rfl _ _ rfl rfl k rfl h3 h4 ?_; intro y _; rw [HR.out]; simp only [boolK])
  · go_ret
    exact ⟨rfl, rfl⟩
  · go_ret
    exact ⟨rfl, rfl⟩
  · rename_i hneg
    have e : decide (0 ≤ k) = false := decide_eq_false (by omega)
    rw [e]
    go_ret
    exact ⟨rfl, rfl⟩
end
end Go.Proofs.YtidgpnanbbkakaaDoor
