/- Package vote's New, and Asks, Decided, Accepted, Promise of who proposes. -/
import Derived.Test.YtefcbofjndnpkaaDoorGIm
import Derived.Deep.RegionLaw
import Derived.Deep.RegionWith
import Derived.Deep.QuietTactic
import Derived.BigQuiet
import Derived.Deep.RegionHeld3
namespace Go.Proofs.YtefcbofjndnpkaaDoor
open Go Go.RowKit Tide

section
variable {W W' : World} {q bp ba N : Nat} {p : PropV}
set_option maxRecDepth 100000 in
theorem vnew_any (W : World) (n : Nat) (h1 : 1 ≤ n) (h5 : n ≤ 5) (mt b : Int) (hb : 0 ≤ b) (t : ByteArray) : Calls Tryd.prog 23 #[.int .i64 (n : Int), .int .i64 mt, .int .i64 b, .string t] W fun e w' => ∃ q bp ba, e = .returned (.tuple #[.pointer (some ⟨q, 0, none⟩), .nilIface]) ∧ ProW w' q bp ba 0 (newV n t) ∧ Below W.heap.size W w' ∧ ∀ k, FPro q bp ba k → W.heap.size ≤ k := by
  have q1 : decide ((n : Int) < 1) = false := decide_eq_false (by omega)
  have q2 : decide ((5 : Int) < (n : Int)) = false := decide_eq_false (by omega)
  have q3 : decide (b < 0) = false := decide_eq_false (by omega)
  have hmm := @run_makeMap Tryd.prog
  have HF := Lib.hid (show ∃ w', w' = ((W.alloc (.map #[] 0)).alloc (.map #[] 0)).alloc (.cells #[.int .i64 (n : Int), .string t, .int .i64 (-1), .map (some W.heap.size), .map (some (W.heap.size + 1))] 88) ∧ ProW w' (W.heap.size + 2) W.heap.size (W.heap.size + 1) 0 (newV n t) ∧ Below W.heap.size W w' from by
    have e1 : (W.alloc (.map #[] 0)).heap.size = W.heap.size + 1 := World.size_alloc _ _
    have e2 : ((W.alloc (.map #[] 0)).alloc (.map #[] 0)).heap.size = W.heap.size + 2 := by rw [World.size_alloc, e1]
    have m1 := IMap.made (K := boolK) W W.heap.size rfl
    have m2 := IMap.made (K := boolK) (W.alloc (.map #[] 0)) (W.heap.size + 1) e1.symm
    have b2 := (Below.refl (W.alloc (.map #[] 0)).heap.size (W.alloc (.map #[] 0))).alloc (Nat.le_refl _) (.map #[] 0)
    have b3 := fun o => (Below.refl ((W.alloc (.map #[] 0)).alloc (.map #[] 0)).heap.size ((W.alloc (.map #[] 0)).alloc (.map #[] 0))).alloc (Nat.le_refl _) o
    refine ⟨_, rfl, ⟨?_, (m1.below b2).below (b3 _), m2.below (b3 _), by omega⟩, ?_⟩
    · have := heap_alloc_new ((W.alloc (.map #[] 0)).alloc (.map #[] 0)) (.cells #[.int .i64 (n : Int), .string t, .int .i64 (-1), .map (some W.heap.size), .map (some (W.heap.size + 1))] 88)
      rw [e2] at this
      exact this
    · exact (((Below.refl W.heap.size W).alloc (Nat.le_refl _) _).alloc (by omega) _).alloc (by omega) _)
  clear h1 h5 hb
  go_enter Tryd.func23, Tryd.ntmps23
  go_wp2_with fail
  go_ret2
  obtain ⟨w', rfl, h1, h2⟩ := HF.out
  exact ⟨_, _, _, rfl, h1, h2, fun k hk => by rcases hk with rfl | rfl | rfl <;> omega⟩
set_option maxRecDepth 100000 in
theorem pasks_any (h : ProW W q bp ba N p) (hk : OkPr p) : Calls Tryd.prog 38 #[.pointer (some ⟨q, 0, none⟩)] W fun e w' => e = .returned (.tuple #[.string (if asksV p then p.text else ⟨#[]⟩), .bool (asksV p)]) ∧ Below W.heap.size W w' := by
  obtain ⟨hq, c0, c1, c2, c3, c4, _⟩ := h.facts
  have CM := Lib.hid (most_any c0 h.prom hk.small hk.prom)
  have C1 := Lib.hid c1
  have HQ := Lib.hid hq
  obtain ⟨M, hM⟩ : ∃ M, asksV p = M := ⟨_, rfl⟩
  rw [hM]
  rw [show mostV p.voters p.prom = M from hM] at CM
  clear h hk hM c0 c1 c2 c4
  go_enter Tryd.func38, Tryd.ntmps38
  go_wp2_with fail
  refine CM.out.mono ?_
  rintro e w1 ⟨rfl, hb⟩
  have d1 := (below_cells hb _ _ HQ.out).trans C1.out
  have HB := Lib.hid hb
  have hq1 : q < w1.heap.size := Nat.lt_of_lt_of_le hq hb.size
  clear hb c3 CM
  cases M with
  | true =>
    go_wp2_with fail
    go_ret2
    exact ⟨rfl, HB.out⟩
  | false =>
    go_wp2_with fail
    go_ret2
    exact ⟨rfl, HB.out⟩
set_option maxRecDepth 100000 in
theorem pdecided_any (h : ProW W q bp ba N p) (hk : OkPr p) : Calls Tryd.prog 26 #[.pointer (some ⟨q, 0, none⟩)] W fun e w' => e = .returned (.tuple #[.string (if decV p then p.text else ⟨#[]⟩), .bool (decV p)]) ∧ Below W.heap.size W w' := by
  obtain ⟨hq, c0, c1, c2, c3, c4, _⟩ := h.facts
  have CM := Lib.hid (most_any c0 h.acc hk.small hk.acc)
  have C1 := Lib.hid c1
  have HQ := Lib.hid hq
  obtain ⟨M, hM⟩ : ∃ M, decV p = M := ⟨_, rfl⟩
  rw [hM]
  rw [show mostV p.voters p.acc = M from hM] at CM
  clear h hk hM c0 c1 c2 c3
  go_enter Tryd.func26, Tryd.ntmps26
  go_wp2_with fail
  refine CM.out.mono ?_
  rintro e w1 ⟨rfl, hb⟩
  have d1 := (below_cells hb _ _ HQ.out).trans C1.out
  have HB := Lib.hid hb
  have hq1 : q < w1.heap.size := Nat.lt_of_lt_of_le hq hb.size
  clear hb c4 CM
  cases M with
  | true =>
    go_wp2_with fail
    go_ret2
    exact ⟨rfl, HB.out⟩
  | false =>
    go_wp2_with fail
    go_ret2
    exact ⟨rfl, HB.out⟩
/-- What a call leaves of who proposes. -/
def ProB (W : World) (q bp ba N : Nat) (p : PropV) (w' : World) : Prop := ProW w' q bp ba N p ∧ Kept (FPro q bp ba) W w'
theorem ProB.late {W1 : World} (hb : Below W.heap.size W W1) (h : ProB W1 q bp ba N p W') : ProB W q bp ba N p W' := ⟨h.1, (Kept.of_below (F := FPro q bp ba) hb).trans h.2 (fun _ hi => .inl hi)⟩
theorem ProW.stay (h : ProW W q bp ba N p) (hb : Below W.heap.size W W') : ProB W q bp ba (N + 1) p W' := ⟨(h.below hb).mono (Nat.le_succ N), Kept.of_below hb⟩
theorem ProB.below {W1 : World} (h : ProB W q bp ba N p W1) (hb : Below W1.heap.size W1 W') : ProB W q bp ba N p W' := ⟨h.1.below hb, h.2.trans (Kept.of_below (F := fun _ => False) hb) (fun _ h => h.elim)⟩
theorem ProW.put_acc (h : ProW W q bp ba N p) {w' : World} {k : Int} {yes : Bool} (hm : IMap boolK w' ba (N + 1) (imSet p.acc k yes)) (hk : Kept (fun j => j = ba) W w') : ProB W q bp ba (N + 1) ⟨p.voters, p.text, p.greatest, p.prom, setV p.acc k yes⟩ w' :=
  ⟨⟨hk.heap h.cells (fun e => h.ne.2 e.symm), (h.prom.kept hk (fun e => h.two e)).mono (Nat.le_succ N), hm, h.two⟩, hk.mono (fun _ _ e => .inr (.inr e))⟩
theorem ProW.put_prom (h : ProW W q bp ba N p) {w' : World} {k : Int} {yes : Bool} (hm : IMap boolK w' bp (N + 1) (imSet p.prom k yes)) (hk : Kept (fun j => j = bp) W w') : ProB W q bp ba (N + 1) ⟨p.voters, p.text, p.greatest, setV p.prom k yes, p.acc⟩ w' :=
  ⟨⟨hk.heap h.cells (fun e => h.ne.1 e.symm), hm, (h.acc.kept hk (fun e => h.two e.symm)).mono (Nat.le_succ N), h.two⟩, hk.mono (fun _ _ e => .inr (.inl e))⟩
set_option maxRecDepth 100000 in
theorem paccepted_any (h : ProW W q bp ba N p) (hk : OkPr p) (hN : N ≤ 1000000) (k : Int) (hf : fitsI k) (yes : Bool) : Calls Tryd.prog 39 #[.pointer (some ⟨q, 0, none⟩), .int .i64 k, .bool yes] W fun e w' => e = .returned (.bool (decV (accpV p k yes))) ∧ ProB W q bp ba (N + 1) (accpV p k yes) w' := by
  obtain ⟨hq, c0, c1, c2, c3, c4, _⟩ := h.facts
  have CM := Lib.hid (most_any c0 h.prom hk.small hk.prom)
  have H := Lib.hid h
  have HK := Lib.hid hk
  have HF := Lib.hid hf
  obtain ⟨M, hM⟩ : ∃ M, mostV p.voters p.prom = M := ⟨_, rfl⟩
  obtain ⟨A, hA⟩ : ∃ A, awaitsV p.voters p.acc k = A := ⟨_, rfl⟩
  rw [hM] at CM
  have HM := Lib.hid hM
  have HA := Lib.hid hA
  have hP : accpV p k yes = if M && A then ⟨p.voters, p.text, p.greatest, p.prom, setV p.acc k yes⟩ else p := by unfold accpV; rw [hM, hA]
  have HP := Lib.hid hP
  obtain ⟨P, hPP⟩ : ∃ P, accpV p k yes = P := ⟨_, rfl⟩
  have HP2 := Lib.hid hPP
  rw [hPP]
  clear h hk hM hA hP hPP c0 c1 c2 hf
  go_enter Tryd.func39, Tryd.ntmps39
  go_wp2_with fail
  refine CM.out.mono ?_
  rintro e w1 ⟨rfl, hb⟩
  have H1 := Lib.hid (H.out.below hb)
  have B1 := Lib.hid hb
  obtain ⟨hq1, d0, d1, d2, d3, d4, f1⟩ := H1.out.facts
  clear hb c3 c4 CM hq
  cases M with
  | false =>
    have e : P = p := by rw [← HP2.out, HP.out]; rfl
    subst e
    have CN := Lib.hid (most_any d0 H1.out.acc HK.out.small HK.out.acc)
    clear d0 d1 d2 d3
    go_wp2_with fail
    refine CN.out.mono ?_
    rintro e w2 ⟨rfl, hb2⟩
    have HE := Lib.hid (ProB.late B1.out (H1.out.stay hb2))
    clear hb2 d4 CN
    go_wp2_with fail
    go_ret
    exact ⟨rfl, HE.out⟩
  | true =>
    have CA := Lib.hid (awaits_any d0 H1.out.acc k HF.out)
    rw [HA.out] at CA
    cases A with
    | false =>
      have e : P = p := by rw [← HP2.out, HP.out]; rfl
      subst e
      have CN := Lib.hid (most_any d0 H1.out.acc HK.out.small HK.out.acc)
      clear d0 d1 d2 d3
      go_wp2_with fail
      refine CA.out.mono ?_
      rintro e w2 ⟨rfl, rfl⟩
      go_wp2_with fail
      refine CN.out.mono ?_
      rintro e w2 ⟨rfl, hb2⟩
      have HE := Lib.hid (ProB.late B1.out (H1.out.stay hb2))
      clear hb2 d4 CN CA
      go_wp2_with fail
      go_ret
      exact ⟨rfl, HE.out⟩
    | true =>
      have e : P = ⟨p.voters, p.text, p.greatest, p.prom, setV p.acc k yes⟩ := by rw [← HP2.out, HP.out]; rfl
      have HPE := Lib.hid e
      have HKP := Lib.hid (show OkPr P from by rw [← HP2.out]; exact HK.out.accepted k yes)
      obtain ⟨w2, hrun, hm2, hk2⟩ := H1.out.acc.put_run Tryd.underlying86 hN k HF.out.1 HF.out.2 yes
      have hrun' : (Instr.mapUpdate 86 (.map (some ba)) (.int .i64 k) (.bool yes)).run Tryd.prog w1 = .ok () w2 := hrun
      have HE0 := Lib.hid (show ProB w1 q bp ba (N + 1) P w2 from by rw [HPE.out]; exact H1.out.put_acc hm2 hk2)
      obtain ⟨hq2, e0, e1, e2, e3, e4, f2⟩ := HE0.out.1.facts
      have CN := Lib.hid (most_any e0 HE0.out.1.acc HKP.out.small HKP.out.acc)
      clear d0 d1 d2 d3 hrun hm2 hk2 e e0 e1 e2 e3
      go_wp2_with fail
      refine CA.out.mono ?_
      rintro e w2' ⟨rfl, rfl⟩
      go_wp2_with fail
      refine CN.out.mono ?_
      rintro e w3 ⟨rfl, hb2⟩
      have HE := Lib.hid (ProB.late B1.out (HE0.out.below hb2))
      clear hb2 d4 CN CA e4
      go_wp2_with fail
      go_ret
      exact ⟨rfl, HE.out⟩
end
end Go.Proofs.YtefcbofjndnpkaaDoor
