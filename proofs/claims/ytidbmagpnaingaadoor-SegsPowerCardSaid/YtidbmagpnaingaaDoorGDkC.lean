/- copy onto a row of the call's own: plain, within a fence, and as a step of a region that draws. It speaks of no program. -/
import Derived.Test.YtidbmagpnaingaaDoorGKeep
import Derived.Laws.CopyOwn
import Derived.OwnWalkIn
import Derived.Deep.RegionLaw
namespace Tide
open Go Go.RowKit

theorem splice_nil {α : Type} (xs : List α) (off : Nat) : splice xs off [] = xs := by simp [splice]
theorem take_splice {α : Type} (cur cs : List α) (off n : Nat) (h : off + cs.length ≤ n) (hn : n ≤ cur.length) : (cur.take off ++ cs ++ cur.drop (off + cs.length)).take n = splice (cur.take n) off cs := by
  have hl : (cur.take off).length = off := by rw [List.length_take]; omega
  have e1 : (cur.take off).take n = cur.take off := List.take_of_length_le (by omega)
  have e2 : cs.take (n - off) = cs := List.take_of_length_le (by omega)
  have e3 : (cur.take n).take off = cur.take off := by rw [List.take_take, Nat.min_eq_left (by omega)]
  unfold splice
  rw [List.append_assoc, List.take_append, List.take_append, hl, e1, e2, e3, List.drop_take, Nat.sub_sub]

section
variable {P : Program}
/-- The law. -/
theorem run_copy_onto (w : World) (dT sT ty elem : TypeId) (hu : P.underlying dT = some (.slice elem)) (hsz : (P.info? elem).map (·.size) = some 1)
    (g off dLen dCap : Nat) (sp : Option Addr) (sLen sCap base n cap : Nat) (e : TypeId) (xs : List Value) (hown : w.ownsRow base e 1 (.slice (some ⟨g, 0, none⟩) n cap) n xs) (cs : List Value) (hn : cs.length = Nat.min sLen dLen) (hfit : off + cs.length ≤ n)
    (h1 : ∀ v ∈ cs, v.oneCell' = true) (hsrc : 0 < cs.length → ∃ ad, sp = some ad ∧ ∀ j v, cs[j]? = some v → w.cell? (ad.add j) = some v) :
    ∃ w', (Builtin.copy_ #[dT, sT] ty #[.slice (some ⟨g, off, none⟩) dLen dCap, .slice sp sLen sCap]).run P w = .ok (goInt cs.length) w' ∧ w'.ownsRow base e 1 (.slice (some ⟨g, 0, none⟩) n cap) n (splice xs off cs) ∧ w.grownBy w' (some g) ∧ w'.heap.size = w.heap.size := by
  by_cases h0 : cs.length = 0
  · obtain rfl : cs = [] := List.eq_nil_of_length_eq_zero h0
    refine ⟨w, run_copy_none w dT sT ty elem _ _ dLen dCap sLen sCap hu hsz (by simpa using hn.symm), by rw [splice_nil]; exact hown, ⟨rfl, rfl, rfl, Nat.le_refl _, fun _ _ _ => rfl⟩, rfl⟩
  · obtain ⟨ad, rfl, hcell⟩ := hsrc (by omega)
    obtain ⟨hl, hb⟩ := hown
    rcases hb with ⟨hb, _⟩ | ⟨g', cap', cur, he, hbase, hg, hnc, hcm, hcs, hx⟩
    · cases hb
    injection he with he1 _ he3
    injection he1 with he1
    injection he1 with he1
    subst he1 he3
    rw [Nat.mul_one] at hcs hx hl
    have hfit2 : off + cs.length ≤ cur.size := by omega
    refine ⟨_, run_copy_row P w dT sT ty elem g off dLen dCap ad sLen sCap cur e cs hu hsz hg hn hcell hfit2 h1, ⟨by rw [length_splice _ _ _ (by omega), hl, Nat.mul_one], .inr ⟨g, cap, _, rfl, hbase, setRow_heap w g _ _ e _ hg, hnc, hcm, ?_, ?_⟩⟩, ⟨rfl, rfl, rfl, by simp [World.setRow], fun k _ hk => setRow_other w g k _ (fun e => hk (by rw [e]))⟩, by simp [World.setRow]⟩
    · simp; omega
    · rw [Nat.mul_one, ← hx]
      exact take_splice _ _ _ _ hfit (by simp; omega)

theorem wpList_copy_onto {w : World} {ops : Array Oper} {rest : List Oper} {o : Oper} {a : Act} {Q : Exit → Act → World → Prop} (hgd : o.guard = none) (d s : Operand) (dT sT : TypeId)
    (ho : o.op = .call { callee := .builtin .copy, args := #[d, s], argTypes := #[dT, sT] }) (elem : TypeId) (hu : P.underlying dT = some (.slice elem)) (hsz : (P.info? elem).map (·.size) = some 1)
    (g off dLen dCap : Nat) (hd : a.eval d = .slice (some ⟨g, off, none⟩) dLen dCap) (sp : Option Addr) (sLen sCap : Nat) (hs : a.eval s = .slice sp sLen sCap) (base n cap : Nat) (e : TypeId) (xs : List Value) (hown : w.ownsRow base e 1 (.slice (some ⟨g, 0, none⟩) n cap) n xs)
    (cs : List Value) (hn : cs.length = Nat.min sLen dLen) (hfit : off + cs.length ≤ n) (h1 : ∀ v ∈ cs, v.oneCell' = true) (hsrc : 0 < cs.length → ∃ ad, sp = some ad ∧ ∀ j v, cs[j]? = some v → w.cell? (ad.add j) = some v)
    (h : ∀ w', Hid (w'.ownsRow base e 1 (.slice (some ⟨g, 0, none⟩) n cap) n (splice xs off cs)) → Hid (w.grownBy w' (some g)) → Hid (w'.heap.size = w.heap.size) → wpList P ops Q rest (a.put o.dst (goInt cs.length)) w') :
    wpList P ops Q (o :: rest) a w := by
  refine wpList_plain hgd fun K hK => ?_
  obtain ⟨w', hrun, r1, r2, r3⟩ := run_copy_onto (P := P) w dT sT o.type elem hu hsz g off dLen dCap sp sLen sCap base n cap e xs hown cs hn hfit h1 hsrc
  unfold Oper.wp
  simp [execOp, ho, resolve, invoke, builtin, hd, hs, hrun, Result.andThen]
  exact hK _ _ (h w' r1 r2 r3)

theorem wpListIn_copy_onto {F : Fence} {nF : Nat} {w : World} {ops : Array Oper} {rest : List Oper} {o : Oper} {a : Act} {Q : Exit → Act → World → Prop} (hgd : o.guard = none) (d s : Operand) (dT sT : TypeId)
    (ho : o.op = .call { callee := .builtin .copy, args := #[d, s], argTypes := #[dT, sT] }) (elem : TypeId) (hu : P.underlying dT = some (.slice elem)) (hsz : (P.info? elem).map (·.size) = some 1)
    (g off dLen dCap : Nat) (hd : a.eval d = .slice (some ⟨g, off, none⟩) dLen dCap) (sp : Option Addr) (sLen sCap : Nat) (hs : a.eval s = .slice sp sLen sCap) (base n cap : Nat) (e : TypeId) (xs : List Value) (hown : w.ownsRow base e 1 (.slice (some ⟨g, 0, none⟩) n cap) n xs)
    (cs : List Value) (hn : cs.length = Nat.min sLen dLen) (hfit : off + cs.length ≤ n) (h1 : ∀ v ∈ cs, v.oneCell' = true) (hsrc : 0 < cs.length → ∃ ad, sp = some ad ∧ ∀ j v, cs[j]? = some v → w.cell? (ad.add j) = some v)
    (h : ∀ w', Hid (w'.ownsRow base e 1 (.slice (some ⟨g, 0, none⟩) n cap) n (splice xs off cs)) → Hid (w.grownBy w' (some g)) → Hid (w'.heap.size = w.heap.size) → wpListIn F nF P ops Q rest (a.put o.dst (goInt cs.length)) w') :
    wpListIn F nF P ops Q (o :: rest) a w := by
  refine wpListIn_plain hgd fun K hK => ?_
  obtain ⟨w', hrun, r1, r2, r3⟩ := run_copy_onto (P := P) w dT sT o.type elem hu hsz g off dLen dCap sp sLen sCap base n cap e xs hown cs hn hfit h1 hsrc
  unfold Oper.wpIn
  refine ⟨by simp [Oper.about, ho, resolve, Target.leads, Sem.run_pure], ?_⟩
  rw [Oper.semAt_plain F _ _ (by rw [ho]; intro c hc'; cases hc')]
  simp [execOp, ho, resolve, invoke, builtin, hd, hs, hrun, Result.andThen]
  exact hK _ _ (h w' r1 r2 r3)

theorem step_copy_onto {ops : Array Oper} {o : Oper} {a : Act} {w : World} {K : Act → World → Prop} {Q : Exit → Act → World → Prop} {E : Prop} (hgd : o.guard = none) (d s : Operand) (dT sT : TypeId)
    (ho : o.op = .call { callee := .builtin .copy, args := #[d, s], argTypes := #[dT, sT] }) (elem : TypeId) (hu : P.underlying dT = some (.slice elem)) (hsz : (P.info? elem).map (·.size) = some 1)
    (g off dLen dCap : Nat) (hd : a.eval d = .slice (some ⟨g, off, none⟩) dLen dCap) (sp : Option Addr) (sLen sCap : Nat) (hs : a.eval s = .slice sp sLen sCap) (base n cap : Nat) (e : TypeId) (xs : List Value) (hown : w.ownsRow base e 1 (.slice (some ⟨g, 0, none⟩) n cap) n xs)
    (cs : List Value) (hn : cs.length = Nat.min sLen dLen) (hfit : off + cs.length ≤ n) (h1 : ∀ v ∈ cs, v.oneCell' = true) (hsrc : 0 < cs.length → ∃ ad, sp = some ad ∧ ∀ j v, cs[j]? = some v → w.cell? (ad.add j) = some v)
    (h : ∀ w', Hid (w'.ownsRow base e 1 (.slice (some ⟨g, 0, none⟩) n cap) n (splice xs off cs)) → Hid (w.grownBy w' (some g)) → Hid (w'.heap.size = w.heap.size) → K (a.put o.dst (goInt cs.length)) w') :
    if Region.wanted o (yielded ops a.tmps) = true then Oper.wp P o a w K Q else E := by
  have hw : Region.wanted o (yielded ops a.tmps) = true := by simp [Region.wanted, hgd]
  rw [if_pos hw]
  obtain ⟨w', hrun, r1, r2, r3⟩ := run_copy_onto (P := P) w dT sT o.type elem hu hsz g off dLen dCap sp sLen sCap base n cap e xs hown cs hn hfit h1 hsrc
  unfold Oper.wp
  simp [execOp, ho, resolve, invoke, builtin, hd, hs, hrun, Result.andThen]
  exact h w' r1 r2 r3
end
end Tide
