/- A device's bytes: sectors, writes, what a flush makes; bytes that are made (noughts); the state of a device that may go down. -/
import Derived.Test.YtiafamacjpgjoaaGreatDoorGKeep
import Derived.Test.YtiafamacjpgjoaaGreatDoorGConv
import Derived.Laws.MakeOwn
import Derived.WalkKit
import Derived.WalkSpells
import Derived.Deep.QuietTactic
import Derived.BigQuiet
import Derived.Laws.CopyOwn
import Derived.OwnWalkIn
import Derived.Deep.RegionLaw
import Derived.RangeFuncNested
import Derived.RangeFuncCalls
import Derived.RangeFuncLeaves
import Derived.Laws.Bits64
import Derived.Laws.BitsAllLaws
namespace Go.Proofs.YtiafamacjpgjoaaGreatDoor
open Go.RowKit Tide

def noughts (n : Nat) : List UInt8 := List.replicate n 0
theorem noughts_len (n : Nat) : (noughts n).length = n := by simp [noughts]
def sect (img : List UInt8) (i : Nat) : List UInt8 := (img.drop (64 * i)).take 64
def readD (img : List UInt8) (pend : List (Nat × List UInt8)) (i : Nat) : List UInt8 := pend.foldl (fun b x => if x.1 = i then x.2 else b) (sect img i)
def putS (img : List UInt8) (x : Nat × List UInt8) : List UInt8 := img.take (64 * x.1) ++ x.2 ++ img.drop (64 * x.1 + 64)
def flushD (img : List UInt8) (pend : List (Nat × List UInt8)) : List UInt8 := pend.foldl putS img

structure Dv where
  img : List UInt8
  pend : List (Nat × List UInt8)
  stop : Option Nat
abbrev DvP := World → (Nat → Prop) → Nat → Dv → Prop
theorem bytes_off {W W' : World} {F : Nat → Prop} {u : Value} {l : List UInt8} {B : Nat} (h : Bytes W B u l) (hB : B ≤ W.heap.size) (hk : Kept F W W') (hf : ∀ k, u.ownBlock = some k → ¬ F k) : Bytes W' B u l := by
  obtain ⟨hn, A, c, rfl, hc1, hc2, hc⟩ := h
  refine ⟨hn, A, c, rfl, hc1, hc2, fun hx => ?_⟩
  obtain ⟨b, o, e, hb, hcell⟩ := hc hx
  subst e
  exact ⟨b, o, rfl, hb, fun j u hu => (hk.cell (p := ⟨b, o + j, none⟩) (Nat.lt_of_lt_of_le hb hB) (hf b rfl)).trans (hcell j u hu)⟩
abbrev made64 (w : World) : World := w.alloc (.cells (madeCells #[.int .u8 0] 64) 5)
theorem make_64 : ∀ W : World, (Instr.makeSlice 47 (.int .i64 64) (.int .i64 64)).run Tryz.prog W = .ok (.slice (some ⟨W.heap.size, 0, none⟩) 64 64) (made64 W) := fun W => by
  obtain ⟨i0, hi, hz0, hz1, hz2⟩ := info_parts infoB
  have h := run_makeSlice (P := Tryz.prog) W 47 5 i0 (.int .u8 0) Tryz.underlying47 hi hz0 .i64 .i64 64 64 (by omega) (by omega) (by rw [hz1]; decide) (by rw [hz2]; omega) (by omega)
  rw [hz1] at h
  exact h
theorem made_at (n i : Nat) (h : i < n) : (madeCells #[.int .u8 0] n)[i]? = some (.int .u8 0) := by
  have h1 : i % 1 = 0 := Nat.mod_one i
  simp [madeCells, h, h1]
theorem bytes_of_cells {W : World} {B b n : Nat} {l : List UInt8} (hl : l.length = n) (hn : n ≤ 65536) (hb : b < B) (hc : ∀ j (h : j < l.length), W.cell? ⟨b, j, none⟩ = some (.int .u8 (l[j].toNat : Int))) : Bytes W B (.slice (some ⟨b, 0, none⟩) n n) l := by
  subst hl
  refine ⟨by rw [u8s_length]; omega, some ⟨b, 0, none⟩, l.length, by rw [u8s_length], by rw [u8s_length]; exact Nat.le_refl _, by omega, fun _ => ⟨b, 0, rfl, hb, fun j u hu => ?_⟩⟩
  have hj : j < l.length := by
    have := (List.getElem?_eq_some_iff.1 hu).1
    rwa [u8s_length] at this
  rw [Nat.zero_add, hc j hj, ← hu, u8s_get l j hj]
theorem noughts_get (n j : Nat) (h : j < (noughts n).length) : (noughts n)[j] = 0 := by simp [noughts]
end Go.Proofs.YtiafamacjpgjoaaGreatDoor

/- copy onto a row of the call's own: plain, within a fence, and as a step of a region that draws. It speaks of no program. -/
namespace Tide
open Go Go.RowKit

theorem splice_nil {α : Type} (xs : List α) (off : Nat) : splice xs off [] = xs := by simp [splice]
theorem take_splice {α : Type} (cur cs : List α) (off n : Nat) (h : off + cs.length ≤ n) (hn : n ≤ cur.length) : (cur.take off ++ cs ++ cur.drop (off + cs.length)).take n = splice (cur.take n) off cs := by
  have hl : (cur.take off).length = off := by rw [List.length_take]; omega
  have e1 : (cur.take off).take n = cur.take off := List.take_of_length_le (by omega)
  have e2 : cs.take (n - off) = cs := List.take_of_length_le (by omega)
  have e3 : (cur.take n).take off = cur.take off := by rw [List.take_take, Nat.min_eq_left (by omega)]
  unfold splice
  rw [List.append_assoc, List.take_append, List.take_append, hl, e1, e2, e3, List.drop_take, Nat.sub_sub]

section
variable {P : Program}
theorem run_copy_onto (w : World) (dT sT ty elem : TypeId) (hu : P.underlying dT = some (.slice elem)) (hsz : (P.info? elem).map (·.size) = some 1)
    (g off dLen dCap : Nat) (sp : Option Addr) (sLen sCap base n cap : Nat) (e : TypeId) (xs : List Value) (hown : w.ownsRow base e 1 (.slice (some ⟨g, 0, none⟩) n cap) n xs) (cs : List Value) (hn : cs.length = Nat.min sLen dLen) (hfit : off + cs.length ≤ n)
    (h1 : ∀ v ∈ cs, v.oneCell' = true) (hsrc : 0 < cs.length → ∃ ad, sp = some ad ∧ ∀ j v, cs[j]? = some v → w.cell? (ad.add j) = some v) :
    ∃ w', (Builtin.copy_ #[dT, sT] ty #[.slice (some ⟨g, off, none⟩) dLen dCap, .slice sp sLen sCap]).run P w = .ok (goInt cs.length) w' ∧ w'.ownsRow base e 1 (.slice (some ⟨g, 0, none⟩) n cap) n (splice xs off cs) ∧ w.grownBy w' (some g) ∧ w'.heap.size = w.heap.size := by
  by_cases h0 : cs.length = 0
  · obtain rfl : cs = [] := List.eq_nil_of_length_eq_zero h0
    refine ⟨w, run_copy_none w dT sT ty elem _ _ dLen dCap sLen sCap hu hsz (by simpa using hn.symm), by rw [splice_nil]; exact hown, ⟨rfl, rfl, rfl, Nat.le_refl _, fun _ _ _ => rfl⟩, rfl⟩
  · obtain ⟨ad, rfl, hcell⟩ := hsrc (by omega)
    obtain ⟨hl, hb⟩ := hown
    rcases hb with ⟨hb, _⟩ | ⟨g', cap', cur, he, hbase, hg, hnc, hcm, hcs, hx⟩
    · cases hb
    injection he with he1 _ he3
    injection he1 with he1
    injection he1 with he1
    subst he1 he3
    rw [Nat.mul_one] at hcs hx hl
    have hfit2 : off + cs.length ≤ cur.size := by omega
    refine ⟨_, run_copy_row P w dT sT ty elem g off dLen dCap ad sLen sCap cur e cs hu hsz hg hn hcell hfit2 h1, ⟨by rw [length_splice _ _ _ (by omega), hl, Nat.mul_one], .inr ⟨g, cap, _, rfl, hbase, setRow_heap w g _ _ e _ hg, hnc, hcm, ?_, ?_⟩⟩, ⟨rfl, rfl, rfl, by simp [World.setRow], fun k _ hk => setRow_other w g k _ (fun e => hk (by rw [e]))⟩, by simp [World.setRow]⟩
    · simp; omega
    · rw [Nat.mul_one, ← hx]
      exact take_splice _ _ _ _ hfit (by simp; omega)

theorem wpList_copy_onto {w : World} {ops : Array Oper} {rest : List Oper} {o : Oper} {a : Act} {Q : Exit → Act → World → Prop} (hgd : o.guard = none) (d s : Operand) (dT sT : TypeId)
    (ho : o.op = .call { callee := .builtin .copy, args := #[d, s], argTypes := #[dT, sT] }) (elem : TypeId) (hu : P.underlying dT = some (.slice elem)) (hsz : (P.info? elem).map (·.size) = some 1)
    (g off dLen dCap : Nat) (hd : a.eval d = .slice (some ⟨g, off, none⟩) dLen dCap) (sp : Option Addr) (sLen sCap : Nat) (hs : a.eval s = .slice sp sLen sCap) (base n cap : Nat) (e : TypeId) (xs : List Value) (hown : w.ownsRow base e 1 (.slice (some ⟨g, 0, none⟩) n cap) n xs)
    (cs : List Value) (hn : cs.length = Nat.min sLen dLen) (hfit : off + cs.length ≤ n) (h1 : ∀ v ∈ cs, v.oneCell' = true) (hsrc : 0 < cs.length → ∃ ad, sp = some ad ∧ ∀ j v, cs[j]? = some v → w.cell? (ad.add j) = some v)
    (h : ∀ w', Hid (w'.ownsRow base e 1 (.slice (some ⟨g, 0, none⟩) n cap) n (splice xs off cs)) → Hid (w.grownBy w' (some g)) → Hid (w'.heap.size = w.heap.size) → wpList P ops Q rest (a.put o.dst (goInt cs.length)) w') :
    wpList P ops Q (o :: rest) a w := by
  refine wpList_plain hgd fun K hK => ?_
  obtain ⟨w', hrun, r1, r2, r3⟩ := run_copy_onto (P := P) w dT sT o.type elem hu hsz g off dLen dCap sp sLen sCap base n cap e xs hown cs hn hfit h1 hsrc
  unfold Oper.wp
  simp [execOp, ho, resolve, invoke, builtin, hd, hs, hrun, Result.andThen]
  exact hK _ _ (h w' r1 r2 r3)

theorem wpListIn_copy_onto {F : Fence} {nF : Nat} {w : World} {ops : Array Oper} {rest : List Oper} {o : Oper} {a : Act} {Q : Exit → Act → World → Prop} (hgd : o.guard = none) (d s : Operand) (dT sT : TypeId)
    (ho : o.op = .call { callee := .builtin .copy, args := #[d, s], argTypes := #[dT, sT] }) (elem : TypeId) (hu : P.underlying dT = some (.slice elem)) (hsz : (P.info? elem).map (·.size) = some 1)
    (g off dLen dCap : Nat) (hd : a.eval d = .slice (some ⟨g, off, none⟩) dLen dCap) (sp : Option Addr) (sLen sCap : Nat) (hs : a.eval s = .slice sp sLen sCap) (base n cap : Nat) (e : TypeId) (xs : List Value) (hown : w.ownsRow base e 1 (.slice (some ⟨g, 0, none⟩) n cap) n xs)
    (cs : List Value) (hn : cs.length = Nat.min sLen dLen) (hfit : off + cs.length ≤ n) (h1 : ∀ v ∈ cs, v.oneCell' = true) (hsrc : 0 < cs.length → ∃ ad, sp = some ad ∧ ∀ j v, cs[j]? = some v → w.cell? (ad.add j) = some v)
    (h : ∀ w', Hid (w'.ownsRow base e 1 (.slice (some ⟨g, 0, none⟩) n cap) n (splice xs off cs)) → Hid (w.grownBy w' (some g)) → Hid (w'.heap.size = w.heap.size) → wpListIn F nF P ops Q rest (a.put o.dst (goInt cs.length)) w') :
    wpListIn F nF P ops Q (o :: rest) a w := by
  refine wpListIn_plain hgd fun K hK => ?_
  obtain ⟨w', hrun, r1, r2, r3⟩ := run_copy_onto (P := P) w dT sT o.type elem hu hsz g off dLen dCap sp sLen sCap base n cap e xs hown cs hn hfit h1 hsrc
  unfold Oper.wpIn
  refine ⟨by simp [Oper.about, ho, resolve, Target.leads, Sem.run_pure], ?_⟩
  rw [Oper.semAt_plain F _ _ (by rw [ho]; intro c hc'; cases hc')]
  simp [execOp, ho, resolve, invoke, builtin, hd, hs, hrun, Result.andThen]
  exact hK _ _ (h w' r1 r2 r3)

theorem step_copy_onto {ops : Array Oper} {o : Oper} {a : Act} {w : World} {K : Act → World → Prop} {Q : Exit → Act → World → Prop} {E : Prop} (hgd : o.guard = none) (d s : Operand) (dT sT : TypeId)
    (ho : o.op = .call { callee := .builtin .copy, args := #[d, s], argTypes := #[dT, sT] }) (elem : TypeId) (hu : P.underlying dT = some (.slice elem)) (hsz : (P.info? elem).map (·.size) = some 1)
    (g off dLen dCap : Nat) (hd : a.eval d = .slice (some ⟨g, off, none⟩) dLen dCap) (sp : Option Addr) (sLen sCap : Nat) (hs : a.eval s = .slice sp sLen sCap) (base n cap : Nat) (e : TypeId) (xs : List Value) (hown : w.ownsRow base e 1 (.slice (some ⟨g, 0, none⟩) n cap) n xs)
    (cs : List Value) (hn : cs.length = Nat.min sLen dLen) (hfit : off + cs.length ≤ n) (h1 : ∀ v ∈ cs, v.oneCell' = true) (hsrc : 0 < cs.length → ∃ ad, sp = some ad ∧ ∀ j v, cs[j]? = some v → w.cell? (ad.add j) = some v)
    (h : ∀ w', Hid (w'.ownsRow base e 1 (.slice (some ⟨g, 0, none⟩) n cap) n (splice xs off cs)) → Hid (w.grownBy w' (some g)) → Hid (w'.heap.size = w.heap.size) → K (a.put o.dst (goInt cs.length)) w') :
    if Region.wanted o (yielded ops a.tmps) = true then Oper.wp P o a w K Q else E := by
  have hw : Region.wanted o (yielded ops a.tmps) = true := by simp [Region.wanted, hgd]
  rw [if_pos hw]
  obtain ⟨w', hrun, r1, r2, r3⟩ := run_copy_onto (P := P) w dT sT o.type elem hu hsz g off dLen dCap sp sLen sCap base n cap e xs hown cs hn hfit h1 hsrc
  unfold Oper.wp
  simp [execOp, ho, resolve, invoke, builtin, hd, hs, hrun, Result.andThen]
  exact h w' r1 r2 r3
end
end Tide

/- Sectors: what an image reads as behind a write; that what is read behind writes is what the last of them wrote; that what is put back sector by sector is the image. It speaks of no program. -/
namespace Go.Proofs.YtiafamacjpgjoaaGreatDoor
open Go.RowKit Tide

theorem sect_get (l : List UInt8) (i j : Nat) (h : j < 64) : (sect l i)[j]? = l[64 * i + j]? := by
  unfold sect
  rw [List.getElem?_take_of_lt h, List.getElem?_drop]
theorem sect_len (l : List UInt8) (i : Nat) (h : 64 * i + 64 ≤ l.length) : (sect l i).length = 64 := by
  unfold sect
  rw [List.length_take, List.length_drop]; omega
theorem put_len (l : List UInt8) (x : Nat × List UInt8) (h : 64 * x.1 + 64 ≤ l.length) (hb : x.2.length = 64) : (putS l x).length = l.length := by
  unfold putS
  rw [List.length_append, List.length_append, List.length_take, List.length_drop]; omega
theorem put_get (l : List UInt8) (x : Nat × List UInt8) (h : 64 * x.1 + 64 ≤ l.length) (hb : x.2.length = 64) (k : Nat) : (putS l x)[k]? = if k < 64 * x.1 then l[k]? else if k < 64 * x.1 + 64 then x.2[k - 64 * x.1]? else l[k]? := by
  have h1 : (l.take (64 * x.1)).length = 64 * x.1 := by rw [List.length_take]; omega
  unfold putS
  by_cases h2 : k < 64 * x.1
  · rw [if_pos h2, List.append_assoc, List.getElem?_append_left (by omega), List.getElem?_take_of_lt h2]
  · rw [if_neg h2]
    by_cases h3 : k < 64 * x.1 + 64
    · rw [if_pos h3, List.append_assoc, List.getElem?_append_right (by omega), h1, List.getElem?_append_left (by omega)]
    · rw [if_neg h3, List.getElem?_append_right (by rw [List.length_append]; omega), List.length_append, h1, List.getElem?_drop]
      congr 1
      omega
theorem sect_put (l : List UInt8) (x : Nat × List UInt8) (h : 64 * x.1 + 64 ≤ l.length) (hb : x.2.length = 64) (i : Nat) : sect (putS l x) i = if x.1 = i then x.2 else sect l i := by
  apply List.ext_getElem?
  intro j
  by_cases hj : j < 64
  · rw [sect_get _ _ _ hj, put_get l x h hb]
    by_cases hi : x.1 = i
    · rw [if_neg (by omega), if_pos (by omega), if_pos hi]
      congr 1
      omega
    · rw [if_neg hi, sect_get _ _ _ hj]
      by_cases h2 : 64 * i + j < 64 * x.1
      · rw [if_pos h2]
      · rw [if_neg h2, if_neg (by omega)]
  · rw [List.getElem?_eq_none (by unfold sect; rw [List.length_take]; omega)]
    symm
    apply List.getElem?_eq_none
    split
    · omega
    · unfold sect; rw [List.length_take]; omega
theorem sect_ext (a b : List UInt8) (m : Nat) (ha : a.length = 64 * m) (hb : b.length = 64 * m) (h : ∀ i, i < m → sect a i = sect b i) : a = b := by
  apply List.ext_getElem?
  intro k
  by_cases hk : k < 64 * m
  · have h1 : k / 64 < m := by omega
    have h2 := congrArg (fun l => l[k % 64]?) (h _ h1)
    rw [sect_get _ _ _ (Nat.mod_lt _ (by omega)), sect_get _ _ _ (Nat.mod_lt _ (by omega))] at h2
    rwa [show 64 * (k / 64) + k % 64 = k by omega] at h2
  · rw [List.getElem?_eq_none (by omega), List.getElem?_eq_none (by omega)]
def FitsD (m : Nat) (pend : List (Nat × List UInt8)) : Prop := ∀ x ∈ pend, x.1 < m ∧ x.2.length = 64
theorem flushD_len (m : Nat) (pend : List (Nat × List UInt8)) (h : FitsD m pend) : ∀ img : List UInt8, img.length = 64 * m → (flushD img pend).length = 64 * m := by
  induction pend with
  | nil => intro img hi; exact hi
  | cons x r ih =>
    intro img hi
    have hx := h x (by simp)
    exact ih (fun y hy => h y (by simp [hy])) (putS img x) (by rw [put_len _ _ (by omega) hx.2]; exact hi)
theorem read_flush (m i : Nat) (pend : List (Nat × List UInt8)) (h : FitsD m pend) : ∀ img : List UInt8, img.length = 64 * m → sect (flushD img pend) i = readD img pend i := by
  induction pend with
  | nil => intro img _; rfl
  | cons x r ih =>
    intro img hi
    have hx := h x (by simp)
    have h2 := ih (fun y hy => h y (by simp [hy])) (putS img x) (by rw [put_len _ _ (by omega) hx.2]; exact hi)
    show sect (flushD (putS img x) r) i = _
    rw [h2]
    unfold readD
    rw [sect_put _ _ (by omega) hx.2]
    rfl
theorem flush_snoc (img : List UInt8) (pend : List (Nat × List UInt8)) (x : Nat × List UInt8) : flushD img (pend ++ [x]) = putS (flushD img pend) x := by
  unfold flushD
  rw [List.foldl_append]
  rfl
def backD (d : List UInt8) (now : List UInt8) (pend : List (Nat × List UInt8)) : List UInt8 := flushD now (pend.map fun x => (x.1, sect d x.1))
theorem read_far (i : Nat) (pend : List (Nat × List UInt8)) (h : ∀ x ∈ pend, x.1 ≠ i) : ∀ b : List UInt8, pend.foldl (fun b x => if x.1 = i then x.2 else b) b = b := by
  induction pend with
  | nil => intro b; rfl
  | cons x r ih =>
    intro b
    rw [List.foldl_cons, if_neg (h x (by simp))]
    exact ih (fun y hy => h y (by simp [hy])) b
theorem read_back (d : List UInt8) (i : Nat) (pend : List (Nat × List UInt8)) (h : ∃ x ∈ pend, x.1 = i) : ∀ b : List UInt8, (pend.map fun x => (x.1, sect d x.1)).foldl (fun b x => if x.1 = i then x.2 else b) b = sect d i := by
  induction pend with
  | nil => obtain ⟨x, hx, _⟩ := h; cases hx
  | cons x r ih =>
    intro b
    rw [List.map_cons, List.foldl_cons]
    by_cases hr : ∃ y ∈ r, y.1 = i
    · exact ih hr _
    · obtain ⟨y, hy, hyi⟩ := h
      have hxy : y = x := by
        rcases List.mem_cons.1 hy with e | e
        · exact e
        · exact absurd ⟨y, e, hyi⟩ hr
      subst hxy
      rw [if_pos hyi, read_far i _ (by
        intro z hz
        obtain ⟨u, hu, rfl⟩ := List.mem_map.1 hz
        intro e
        exact hr ⟨u, hu, e⟩), hyi]
theorem fits_back (m : Nat) (d : List UInt8) (hd : d.length = 64 * m) (pend : List (Nat × List UInt8)) (h : FitsD m pend) : FitsD m (pend.map fun x => (x.1, sect d x.1)) := by
  intro z hz
  obtain ⟨u, hu, rfl⟩ := List.mem_map.1 hz
  have := (h u hu).1
  exact ⟨this, sect_len _ _ (by omega)⟩
theorem back_all (m : Nat) (img d : List UInt8) (pend : List (Nat × List UInt8)) (hi : img.length = 64 * m) (hd : d.length = 64 * m) (h : FitsD m pend) (hfar : ∀ i, i < m → (∀ x ∈ pend, x.1 ≠ i) → sect d i = sect img i) :
    backD d (flushD img pend) pend = d := by
  have hf := flushD_len m pend h img hi
  have hb := fits_back m d hd pend h
  refine sect_ext _ _ m (flushD_len m _ hb _ hf) hd fun i him => ?_
  unfold backD
  rw [read_flush m i _ hb _ hf]
  unfold readD
  by_cases hx : ∃ x ∈ pend, x.1 = i
  · exact read_back d i pend hx _
  · have hne : ∀ x ∈ pend, x.1 ≠ i := fun x hx' e => hx ⟨x, hx', e⟩
    rw [read_far i _ (by
      intro z hz
      obtain ⟨u, hu, rfl⟩ := List.mem_map.1 hz
      exact hne u hu), read_flush m i pend h img hi]
    unfold readD
    rw [read_far i _ hne, hfar i him hne]
theorem splice_put (l : List UInt8) (i : Nat) (b : List UInt8) (hb : b.length = 64) : splice (u8s l) (64 * i) (u8s b) = u8s (putS l (i, b)) := by
  unfold splice putS u8s
  rw [List.length_map, hb, List.map_append, List.map_append, List.map_take, List.map_drop, List.append_assoc]
end Go.Proofs.YtiafamacjpgjoaaGreatDoor

/- A range over a function whose iterator makes new memory alone between the rounds, and says which element comes behind which; the body is never left early. It speaks of no program. -/
namespace Tide
open Go Go.RowKit

def SeqZ {α : Type} (F : Fence) (n : Nat) (P : Program) (g : Nat) (lb : Array Value) (encs : α → Array Value) (Kp : World → World → Prop) (S : List α → Prop) (Z : List α → α → Prop) (w : World) : Prop :=
  ∀ (l : Nat) (J : List α → World → Prop) (W : World), Below w.heap.size w W → (∀ s A B, J s A → A.grownBy B none → J s B) →
    (∀ pre x A, J pre A → Z pre x → YieldAt F (n - 1) P l (encs x) A fun e B => e = .returned (.bool true) ∧ J (pre ++ [x]) B ∧ Kp A B) →
    J [] W → CallsIn F n P g (#[.func (.yield l) #[] #[]] ++ lb) W fun e W' => (∃ v, e = .returned v) ∧ ∃ xs, S xs ∧ J xs W'

variable {F : Fence} {n : Nat} {P : Program}

theorem range_z {α : Type} {g : Operand} {ps : Array Tmp} {assign body : Code} {Q : Exit → Act → World → Prop} {a : Act} {w : World}
    (hro : F.round = none) (h1 : 1 ≤ n) {gf : Nat} {lb : Array Value} (hg : a.eval g = .func (.func gf) #[] lb) (hF : F.fn gf) (eg : ∀ args w, (callFunc gf args).run P w = .ok (.enter gf args) w)
    {encs : α → Array Value} (hps : ∀ x, (encs x).size = ps.size) {Kp : World → World → Prop} {S : List α → Prop} {Z : List α → α → Prop} (hseq : SeqZ F (n - 1) P gf lb encs Kp S Z w)
    (hKt : ∀ {A B C : World}, Kp A B → Kp B C → Kp A C) (hKb : ∀ (W : World) (l : Nat) (o : Obj), w.heap.size ≤ l → Kp W (W.putObj l o))
    (I : List α → World → Prop) (hI : ∀ s A B, I s A → A.grownBy B none → I s B) (hIo : ∀ s A l o o', I s A → w.heap.size ≤ l → A.heap[l]? = some o → o.isCells = false → I s (A.putObj l o')) (h0 : I [] w)
    (a₁ : α → Act)
    (hassign : ∀ (l : Nat) (x : α) (W : World) (K : Act → World → Prop), K (a₁ x) W →
      assign.wpIn (F.inRound l) (n - 1 - 1) P (Exit.then K (fun _ _ _ => False)) { tmps := (ps.zip (encs x)).foldl (fun t (p, v) => t.setIfInBounds p v) a.tmps, defers := [] } W)
    (hbody : ∀ (l : Nat) (pre : List α) (x : α) (W : World), I pre W → Z pre x →
      body.wpIn (F.inRound l) (n - 1 - 1) P (fun e _ W' => e = .normal ∧ KeepsOthers W W' ∧ Kp W W' ∧ I (pre ++ [x]) W') (a₁ x) W)
    (hdone : ∀ (D : Nat) (xs : List α) (W : World), w.heap.size ≤ D → S xs → I xs W → W.heap[D]? = some (.deferred (some [])) → Q .normal { a with defers := { target := .collected D, args := #[] } :: a.defers } W) :
    (Code.rangeFunc g ps assign body).wpIn F n P Q a w := by
  refine wpIn_rangeFunc fun fn hfn => ?_
  rw [hro]
  -- the loop's record, at rest, at work, and behind the last round
  generalize hr : (fun st => ({ state := st, pending := none, fn, tmps := a.tmps, params := ps, assign, body, defers := w.heap.size } : Loop)) = r
  have hst : ∀ st, (r st).state = st := fun st => by rw [← hr]
  have hpe : ∀ st, (r st).pending = none := fun st => by rw [← hr]
  have hbusy : { r .ready with state := .busy } = r .busy := by rw [← hr]
  have hback : { r .busy with state := (if (none : Option Code).isNone then .ready else .done), pending := (none : Option Code) } = r .ready := by rw [← hr]; rfl
  -- what holds between two rounds
  let J : List α → World → Prop := fun pre W => I pre W ∧ W.heap[w.heap.size + 1]? = some (.loop (r .ready)) ∧ W.heap[w.heap.size]? = some (.deferred (some []))
  have hA : ∀ o, w.grownBy (w.alloc o) none := fun o => World.grownBy_alloc w o none
  let W1 := (w.alloc (.deferred (some []))).alloc (.loop (r .ready))
  have hJ1 : J [] W1 := by
    refine ⟨hI _ _ _ (hI _ _ _ h0 (hA _)) (World.grownBy_alloc _ _ none), ?_, ?_⟩
    · have := World.alloc_heap_new (w.alloc (.deferred (some []))) (.loop (r .ready))
      rwa [World.size_alloc] at this
    · exact (Below.heap_alloc _ _ _ (by simp)).trans (World.alloc_heap_new w _)
  have hJk : ∀ s A B, J s A → A.grownBy B none → J s B := fun s A B h hg => by
    have keep : ∀ (k : Nat) (o : Obj), w.heap.size ≤ k → A.heap[k]? = some o → B.heap[k]? = some o := fun k o hk ho =>
      (hg.block k (Array.getElem?_eq_some_iff.1 ho).1 (by simp)).trans ho
    exact ⟨hI _ _ _ h.1 hg, keep _ _ (by omega) h.2.1, keep _ _ (Nat.le_refl _) h.2.2⟩
  refine ⟨w.heap.size + 1, [{ target := .collected w.heap.size, args := #[] }], W1, { target := .fn (.func gf) lb, args := #[.func (.yield (w.heap.size + 1)) #[] #[]] }, W1, gf,
    #[.func (.yield (w.heap.size + 1)) #[] #[]] ++ lb, W1, ?_, ?_, ?_, ?_, fun _ => h1, ?_⟩
  · have := run_enterLoop_outer (P := P) (w := w) fn a.tmps ps assign body
    rw [this]
    show _ = Result.ok _ ((w.alloc (.deferred (some []))).alloc (.loop (r .ready)))
    rw [← hr]
  · simp only [resolve, hg]
    simp [go_sem]
  · intro f' h
    simp [Target.leads] at h
    exact h ▸ hF
  · simp [invoke, go_sem, eg]
  refine (hseq (w.heap.size + 1) J W1 ?_ hJk ?_ hJ1).mono ?_
  · exact ((Below.refl _ w).alloc (Nat.le_refl _) _).alloc (by simp) _
  · -- one round
    rintro pre x A ⟨hi, hl, hd⟩ hN
    have hlt : w.heap.size + 1 < A.heap.size := (Array.getElem?_eq_some_iff.1 hl).1
    have hy := run_yield (P := P) (args := encs x) hl (by rw [← hr]; exact hps x)
    have hbg := run_beginRound (P := P) hl (hst _)
    rw [hbusy] at hbg
    refine ⟨fn, _, assign, body, by rw [hy, ← hr], roundIn_of_wpIn hfn (hassign _ x A _ ⟨_, hbg, ?_⟩)⟩
    refine wpIn_mono (hbody _ pre x _ (hIo _ _ _ _ _ hi (by omega) hl rfl) hN) ?_
    rintro e a' B ⟨rfl, hk, hkp, hi'⟩
    have hl2 : B.heap[w.heap.size + 1]? = some (.loop (r .busy)) := hk.same _ _ (World.putObj_heap_same hlt) rfl
    have hd2 : B.heap[w.heap.size]? = some (.deferred (some [])) := hk.same _ _ ((World.putObj_heap_other (by omega)).trans hd) rfl
    have hend := run_endRound (P := P) none hl2
    rw [hback] at hend
    refine ⟨_, _, hend, rfl, ⟨hIo _ _ _ _ _ hi' (by omega) hl2 rfl, World.putObj_heap_same (Array.getElem?_eq_some_iff.1 hl2).1, (World.putObj_heap_other (by omega)).trans hd2⟩, ?_⟩
    exact hKt (hKt (hKb _ _ _ (by omega)) hkp) (hKb _ _ _ (by omega))
  · rintro e W2 ⟨⟨v, rfl⟩, xs, hS, hi, hl, hd⟩
    have hend := run_endLoop (P := P) hl (by rw [hst]; simp)
    rw [hpe] at hend
    exact ⟨none, _, hend, hdone _ xs _ (Nat.le_refl _) hS (hIo _ _ _ _ _ hi (by omega) hl rfl) ((World.putObj_heap_other (by omega)).trans hd)⟩
end Tide

/- Numbers as bytes, heads, what stands in an image of segments. It speaks of no program. -/
namespace Go.Proofs.YtiafamacjpgjoaaGreatDoor
open Go Go.RowKit Tide

def leN : List UInt8 → Nat
  | [] => 0
  | c :: l => c.toNat + 256 * leN l
theorem leN_lt : ∀ l : List UInt8, leN l < 256 ^ l.length
  | [] => by simp [leN]
  | c :: l => by
    have := leN_lt l
    have hc := c.toNat_lt
    simp only [leN, List.length_cons, Nat.pow_succ]
    omega
theorem leN_snoc : ∀ (l : List UInt8) (c : UInt8), leN (l ++ [c]) = leN l + 256 ^ l.length * c.toNat
  | [], c => by simp [leN]
  | d :: l, c => by
    have := leN_snoc l c
    simp only [leN, List.cons_append, this, List.length_cons, Nat.pow_succ, Nat.mul_add]
    rw [Nat.mul_assoc, Nat.mul_left_comm, Nat.add_assoc]
theorem leN_or (l : List UInt8) (c : UInt8) (j : Nat) (hj : l.length = j) : leN l ||| c.toNat * 2 ^ (8 * j) = leN (l ++ [c]) := by
  have h1 := leN_lt l
  have e : (256 : Nat) ^ l.length = 2 ^ (8 * j) := by rw [hj, show (256 : Nat) = 2 ^ 8 by rfl, ← Nat.pow_mul]
  rw [e] at h1
  rw [leN_snoc, e, Nat.or_comm, Nat.mul_comm, ← Nat.two_pow_add_eq_or_of_lt h1, Nat.add_comm]
theorem i64_or_nat (a b : Nat) (ha : a < 2 ^ 63) (hb : b < 2 ^ 63) : bits .or .i64 (a : Int) (b : Int) = ((a ||| b : Nat) : Int) := by
  have hx : a ||| b < 2 ^ 63 := Nat.or_lt_two_pow ha hb
  have e1 : (BitVec.ofInt 64 (a : Int)).toNat = a := by rw [BitVec.ofInt_natCast, BitVec.toNat_ofNat]; exact Nat.mod_eq_of_lt (by omega)
  have e2 : (BitVec.ofInt 64 (b : Int)).toNat = b := by rw [BitVec.ofInt_natCast, BitVec.toNat_ofNat]; exact Nat.mod_eq_of_lt (by omega)
  show IntKind.i64.wrap ((BitVec.ofInt 64 (a : Int) ||| BitVec.ofInt 64 (b : Int)).toNat : Int) = _
  rw [BitVec.toNat_or, e1, e2]
  simp [IntKind.wrap, IntKind.signed, IntKind.bits]
  omega
theorem leN_mono (l r : List UInt8) : leN l ≤ leN (l ++ r) := by
  induction l with
  | nil => simp [leN]
  | cons c l ih => simp only [List.cons_append, leN]; omega
theorem or_step8 (l : List UInt8) (c : UInt8) (j : Nat) (hj : l.length = j) (h : leN (l ++ [c]) < 2 ^ 63) : bits .or .i64 (leN l : Int) (((c.toNat * 2 ^ (8 * j) : Nat)) : Int) = ((leN (l ++ [c]) : Nat) : Int) := by
  have h1 := leN_mono l [c]
  have e : (256 : Nat) ^ l.length = 2 ^ (8 * j) := by rw [hj, show (256 : Nat) = 2 ^ 8 by rfl, ← Nat.pow_mul]
  have h2 : c.toNat * 2 ^ (8 * j) ≤ leN (l ++ [c]) := by rw [leN_snoc, e, Nat.mul_comm]; omega
  rw [i64_or_nat _ _ (by omega) (by omega), leN_or l c j hj]

def leB (n : Nat) : Nat → List UInt8
  | 0 => []
  | k + 1 => leB n k ++ [UInt8.ofNat (n / 2 ^ (8 * k))]
theorem leB_len (n k : Nat) : (leB n k).length = k := by
  induction k with
  | zero => rfl
  | succ k ih => rw [leB, List.length_append, ih]; rfl
theorem leN_leB (n : Nat) : ∀ k, leN (leB n k) = n % 256 ^ k
  | 0 => by simp [leB, leN]; omega
  | k + 1 => by
    rw [leB, leN_snoc, leB_len, leN_leB n k]
    have e : (UInt8.ofNat (n / 2 ^ (8 * k))).toNat = n / 256 ^ k % 256 := by
      rw [show (256 : Nat) ^ k = 2 ^ (8 * k) by rw [show (256 : Nat) = 2 ^ 8 by rfl, ← Nat.pow_mul]]
      simp
    rw [e, Nat.pow_succ, Nat.mod_mul]
def headB (n : Nat) : List UInt8 := leB n 8 ++ noughts 55 ++ [1]
theorem headB_len (n : Nat) : (headB n).length = 64 := by simp [headB, leB_len, noughts_len]
theorem headB_mark (n : Nat) : (headB n)[63]? = some 1 := by
  unfold headB
  rw [List.getElem?_append_right (by simp [leB_len, noughts_len])]
  simp [leB_len, noughts_len]
theorem headB_num (n : Nat) (h : n < 2 ^ 63) : leN ((headB n).take 8) = n := by
  unfold headB
  rw [List.append_assoc, List.take_append_of_le_length (by rw [leB_len]; omega), List.take_of_length_le (by rw [leB_len]; omega), leN_leB]
  exact Nat.mod_eq_of_lt (by omega)
theorem leB_take (n : Nat) (j : Nat) : ∀ k, j ≤ k → (leB n k).take j = leB n j := by
  intro k
  induction k with
  | zero => intro h; obtain rfl : j = 0 := by omega
            rfl
  | succ k ih =>
    intro h
    by_cases hk : j ≤ k
    · rw [leB, List.take_append_of_le_length (by rw [leB_len]; omega), ih hk]
    · obtain rfl : j = k + 1 := by omega
      exact List.take_of_length_le (by rw [leB_len]; omega)
theorem headB_size (n : Nat) (h : n < 65536) : leN ((headB n).take 2) = n := by
  unfold headB
  rw [List.append_assoc, List.take_append_of_le_length (by rw [leB_len]; omega), leB_take n 2 8 (by omega), leN_leB]
  exact Nat.mod_eq_of_lt (by omega)
def headP (n k : Nat) : List UInt8 := leB n k ++ noughts (64 - k)
theorem headP_len (n k : Nat) (h : k ≤ 64) : (headP n k).length = 64 := by simp [headP, leB_len, noughts_len]; omega
theorem headP_step (n k : Nat) (h : k < 64) : (headP n k).set k (UInt8.ofNat (n / 2 ^ (8 * k))) = headP n (k + 1) := by
  unfold headP
  have e : noughts (64 - k) = 0 :: noughts (64 - (k + 1)) := by
    unfold noughts
    rw [show 64 - k = (64 - (k + 1)) + 1 by omega, List.replicate_succ]
  rw [e, List.set_append_right _ _ (by rw [leB_len]; omega), leB_len, Nat.sub_self, List.set_cons_zero]
  simp [leB]
theorem headP_mark (n : Nat) : (headP n 8).set 63 1 = headB n := by
  unfold headP headB
  rw [List.set_append_right _ _ (by rw [leB_len]; omega), leB_len, List.append_assoc]
  congr 1

def behindN (at_ size : Nat) : Nat := at_ + 1 + (size + 63) / 64
def markD (im : List UInt8) (i : Nat) : Option UInt8 := im[64 * i + 63]?
def sizeD (im : List UInt8) (i : Nat) : Nat := leN ((sect im i).take 2)
def headsD (im : List UInt8) (lim : Nat) : Nat → Nat → List (Nat × Nat)
  | 0, _ => []
  | k + 1, i => if i < lim ∧ markD im i = some 1 ∧ sizeD im i ≠ 0 ∧ behindN i (sizeD im i) ≤ lim then (i, sizeD im i) :: headsD im lim k (behindN i (sizeD im i)) else []
def headsS (im : List UInt8) (first : Nat) : List (Nat × Nat) := headsD im (first + 64) 64 (first + 1)
def endS (im : List UInt8) (first : Nat) : Nat := ((headsS im first).getLast?.map fun x => behindN x.1 x.2).getD (first + 1)
def bodyD (im : List UInt8) (i size : Nat) : List UInt8 := (im.drop (64 * i)).take size
theorem sizeD_lt (im : List UInt8) (i : Nat) : sizeD im i < 65536 := by
  have h := leN_lt ((sect im i).take 2)
  have h2 : ((sect im i).take 2).length ≤ 2 := by rw [List.length_take]; omega
  have h3 : 256 ^ ((sect im i).take 2).length ≤ 256 ^ 2 := Nat.pow_le_pow_right (by omega) h2
  unfold sizeD
  omega
end Go.Proofs.YtiafamacjpgjoaaGreatDoor
