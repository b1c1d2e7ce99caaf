/- tidewaternum's In and SameInts of rows of whole numbers. -/
import Derived.Test.YtiafamacjpgjoaaGreatDoorGUlA
import Derived.Test.YtiafamacjpgjoaaGreatDoorGUiG
import Derived.Test.YtiafamacjpgjoaaGreatDoorGSgA
import Derived.Test.YtiafamacjpgjoaaGreatDoorGConv
import Derived.Test.YtiafamacjpgjoaaGreatDoorGPush
import Derived.Test.YtiafamacjpgjoaaGreatDoorGErr
import Derived.Test.YtiafamacjpgjoaaGreatDoorGPlW
import Derived.Test.YtiafamacjpgjoaaGreatDoorGUrG
import Derived.Test.YtiafamacjpgjoaaGreatDoorGMem
import Derived.Test.YtiafamacjpgjoaaGreatDoorGKeep
import Derived.Test.YtiafamacjpgjoaaGreatDoorGApp
import Derived.Test.YtiafamacjpgjoaaGreatDoorGBits7
import Derived.Test.YtiafamacjpgjoaaGreatDoorGPlR
import Derived.Deep.RegionHeld3
import Derived.Deep.QuietTactic
import Derived.BigQuiet
import Derived.IntWalk
import Derived.Deep.DeepCutAuto
import Derived.Deep.CutBlock
import Derived.WalkKit
import Derived.WalkSpells
namespace Go.Proofs.YtiafamacjpgjoaaGreatDoor
open Go.RowKit Tide

end Go.Proofs.YtiafamacjpgjoaaGreatDoor
/- Package page's Junk and IsJunk; bytes.Equal. -/
namespace Go.Proofs.YtiafamacjpgjoaaGreatDoor
open Go.RowKit Tide

theorem bytes_zero (w : World) : Bytes (w.alloc (.cells #[.int .u8 0] 5)) (w.alloc (.cells #[.int .u8 0] 5)).heap.size (.slice (some ⟨w.heap.size, 0, none⟩) 1 1) [0] := by
  refine ⟨by simp [u8s], some ⟨w.heap.size, 0, none⟩, 1, by simp [u8s], by simp [u8s], by simp, fun _ => ⟨w.heap.size, 0, rfl, by simp, fun j u hu => ?_⟩⟩
  have e : u8s [0] = [Value.int .u8 0] := rfl
  rw [e] at hu
  rw [Nat.zero_add, cell_of_row _ _ j _ _ _ (heap_alloc_new w _)]
  simpa using hu
theorem junk_any (w : World) : Calls Tryz.prog 44 #[] w fun e w' => (∃ v, e = .returned v ∧ Bytes w' w'.heap.size v [0]) ∧ Below w.heap.size w w' := by
  go_enter Tryz.func44, Tryz.ntmps44
  go_wp2_with fail
  go_ret
  exact ⟨⟨_, rfl, bytes_zero w⟩, (Below.refl _ _).alloc (Nat.le_refl _) _⟩
theorem equal_any (x y : List UInt8) (v u : Value) (B B' : Nat) (w : World) (hx : Bytes w B v x) (hy : Bytes w B' u y) : Calls Tryz.prog 46 #[v, u] w fun e w' => e = .returned (.bool (decide (x = y))) ∧ w = w' := by
  have cx := conv_bytes hx
  have cy := conv_bytes hy
  have HQ := Lib.hid (show ((text x).toList == (text y).toList) = decide (x = y) from by
    rw [show (text x).toList = x by rw [ByteArray.toList_eq]; simp [text], show (text y).toList = y by rw [ByteArray.toList_eq]; simp [text], Bool.eq_iff_iff]
    simp)
  generalize text x = s at *
  generalize text y = t at *
  clear hx hy
  go_enter Tryz.func46, Tryz.ntmps46
  go_wp2_with fail
  go_ret
  exact ⟨by rw [← HQ.out] <;> rfl, rfl⟩
theorem isJunk_any (x : List UInt8) (v : Value) (B : Nat) (w : World) (hx : Bytes w B v x) (hB : B ≤ w.heap.size) : Calls Tryz.prog 17 #[v] w fun e w' => e = .returned (.bool (decide (x = [0]))) ∧ Below w.heap.size w w' := by
  have CJ := Lib.hid (junk_any w)
  have HX := Lib.hid hx
  clear hx
  go_enter Tryz.func17, Tryz.ntmps17
  go_wp2_with fail
  refine CJ.out.mono ?_
  rintro en w1 ⟨⟨u, rfl, hu⟩, hb⟩
  have HB := Lib.hid hb
  have CE := Lib.hid (equal_any x [0] v u B w1.heap.size w1 (HX.out.below (hb.mono hB)) hu)
  clear hu hb CJ
  go_wp2_with fail
  refine CE.out.mono ?_
  rintro en w2 ⟨rfl, rfl⟩
  go_wp2_with fail
  go_ret
  exact ⟨rfl, HB.out⟩
end Go.Proofs.YtiafamacjpgjoaaGreatDoor
/- The document's own chains: place. Not tied to package chain's code. -/
namespace Go.Proofs.YtiafamacjpgjoaaGreatDoor
open Go Go.RowKit Tide

theorem int64s_chain {cs : List (List Int)} {a : Int} {k : Nat} (hk : k < cs.length) (h : a.toNat % cs.length = k) : chainAt cs a = cs[k] := by
  unfold chainAt
  rw [h, List.getD_eq_getElem?_getD, List.getElem?_eq_getElem hk]
  rfl
end Go.Proofs.YtiafamacjpgjoaaGreatDoor
/- A unit and the document's own, side by side: a step of either. -/
namespace Go.Proofs.YtiafamacjpgjoaaGreatDoor
open Go Go.RowKit Go.Shelf Tide

section
variable {D : DvP} {a : Nat → Addr} {w W W' : World} {FX0 : Nat → Prop} {X0 : World → Prop} {g q dev n N M : Nat} {u ur : UnitD} {G S : Nat → Prop}
end
end Go.Proofs.YtiafamacjpgjoaaGreatDoor

/- A landed unit with blocks of its own: what a call of it leaves as it was. Not tied to package chain's code. -/
namespace Go.Proofs.YtiafamacjpgjoaaGreatDoor
open Go Go.RowKit Tide

def RestF (W : World) (F : Nat → Prop) (k : Nat) : Prop := k < W.heap.size ∧ ¬ F k
def SameF (W : World) (F : Nat → Prop) (Y : World) : Prop := W.heap.size ≤ Y.heap.size ∧ ∀ k, RestF W F k → Y.heap[k]? = W.heap[k]?
theorem stays_rest (W : World) (F : Nat → Prop) : Stays (RestF W F) (SameF W F) := fun _ _ _ h hl hk hf =>
  ⟨Nat.le_trans h.1 hk.size, fun k hr => (hk.block k (hl k hr) (hf k hr)).trans (h.2 k hr)⟩
theorem sameF_refl (W : World) (F : Nat → Prop) : SameF W F W := ⟨Nat.le_refl _, fun _ _ => rfl⟩
def UnF (D : DvP) (w W : World) (F : Nat → Prop) (g n N : Nat) (u : UnitD) : Prop :=
  (∃ p bm dev, UL D w (RestF W F) (fun _ => True) g p bm dev n N u W) ∧ ∀ k, F k → w.heap.size ≤ k ∧ k < W.heap.size
def UnStep (D : DvP) (w W : World) (F : Nat → Prop) (g n N : Nat) (u : UnitD) (w' : World) : Prop := ∃ F', UnF D w w' F' g n N u ∧ (∀ k, F' k → F k ∨ W.heap.size ≤ k) ∧ Kept F W w'
section
variable {D : DvP} {a : Nat → Addr} {x : Nat → Addr} {w W W' : World} {F K : Nat → Prop} {g p bm dev n N M : Nat} {u u' : UnitD}
theorem UnF.since (h : UnF D w W F g n N u) : Below w.heap.size w W := by
  obtain ⟨⟨p, bm, dev, h1⟩, _⟩ := h
  exact h1.since
theorem UnF.mono (h : UnF D w W F g n N u) (hNM : N ≤ M) : UnF D w W F g n M u := by
  obtain ⟨⟨p, bm, dev, h1⟩, h2⟩ := h
  exact ⟨⟨p, bm, dev, h1.mono hNM⟩, h2⟩
theorem UnF.kept (hD : DvSpec x D) (h : UnF D w W F g n N u) (hk : Kept K W W') (hK : ∀ k, K k → ¬ F k ∧ w.heap.size ≤ k) : UnF D w W' F g n N u := by
  obtain ⟨⟨p, bm, dev, h1⟩, h2⟩ := h
  have hz := hk.size
  refine ⟨⟨p, bm, dev, h1.swap hD (K := fun k => K k ∧ k < W.heap.size) (hk.mono (fun i hi e => ⟨e, hi⟩)) (fun k e => ⟨⟨e.2, (hK k e.1).1⟩, (hK k e.1).2⟩) (fun k e => ?_) (fun k e => e.1) trivial⟩, fun k e => ⟨(h2 k e).1, Nat.lt_of_lt_of_le (h2 k e).2 hz⟩⟩
  rcases Nat.lt_or_ge k W.heap.size with hlt | hge
  · exact .inl ⟨hlt, e.2⟩
  · exact .inr hge
theorem UL.unStep (hs : Below w.heap.size w W) (hF : ∀ k, F k → w.heap.size ≤ k ∧ k < W.heap.size) (h : UL D w (RestF W F) (SameF W F) g p bm dev n N u W') : UnStep D w W F g n N u W' := by
  have hx := h.else'
  have hw := h.since
  refine ⟨fun k => w.heap.size ≤ k ∧ k < W'.heap.size ∧ ¬ RestF W F k, ⟨⟨p, bm, dev, h.less (fun k e => ?_) (fun _ _ => trivial)⟩, fun k e => ⟨e.1, e.2.1⟩⟩, fun k e => ?_, ⟨hw.os.trans hs.os.symm, hw.tape.trans hs.tape.symm, hw.output.trans hs.output.symm, hx.1, fun k hlt hf => hx.2 k ⟨hlt, hf⟩⟩⟩
  · by_cases hlt : k < w.heap.size
    · exact ⟨Nat.lt_of_lt_of_le hlt hs.size, fun hf => by have := (hF k hf).1; omega⟩
    · exact Classical.byContradiction fun hn => e.2 ⟨by omega, e.1, hn⟩
  · by_cases hlt : k < W.heap.size
    · exact .inl (Classical.byContradiction fun hn => e.2.2 ⟨hlt, hn⟩)
    · exact .inr (by omega)
theorem UnF.beside (hD : DvSpec x D) (h : UnF D w W F g n N u) : ∃ p bm dev, UL D w (RestF W F) (SameF W F) g p bm dev n N u W := by
  obtain ⟨⟨p, bm, dev, h1⟩, h2⟩ := h
  exact ⟨p, bm, dev, h1.swap hD (K := fun _ => False) (Kept.refl _ W) (fun _ h => h.elim) (fun _ e => .inl e) (fun _ e => e.1) (sameF_refl W F)⟩
theorem UnF.write (hD : DvSpec (three a) D) (hE : Errs w a) (hn : n ≤ 1000) (hNl : N ≤ 90000) (h : UnF D w W F g n N u) (ep a' : Int) (vb : Value) (b : List UInt8) (hv : Bytes W W.heap.size vb b) :
    Calls Tryz.prog 83 #[.pointer (some ⟨g, 0, none⟩), .int .i64 ep, .int .i64 a', vb] W fun e w' => ∃ x, e = .returned x ∧ IsErr a x (writeD u ep a' b).2 ∧ UnStep D w W F g n (N + 1) (writeD u ep a' b).1 w' := by
  obtain ⟨p, bm, dev, h1⟩ := h.beside hD
  refine (h1.write hD (stays_rest W F) hE hn hNl ep a' vb b hv).mono ?_
  rintro e w' ⟨x, he, hx, hU⟩
  exact ⟨x, he, hx, hU.unStep h.since h.2⟩
theorem UnF.trim (hD : DvSpec (three a) D) (hE : Errs w a) (hn : n ≤ 1000) (hNl : N ≤ 90000) (h : UnF D w W F g n N u) (ep to' : Int) :
    Calls Tryz.prog 75 #[.pointer (some ⟨g, 0, none⟩), .int .i64 ep, .int .i64 to'] W fun e w' => ∃ x, e = .returned x ∧ IsErr a x (trimD u ep to').2 ∧ UnStep D w W F g n (N + 1) (trimD u ep to').1 w' := by
  obtain ⟨p, bm, dev, h1⟩ := h.beside hD
  refine (h1.trim hD (stays_rest W F) hE hn hNl ep to').mono ?_
  rintro e w' ⟨x, he, hx, hU⟩
  exact ⟨x, he, hx, hU.unStep h.since h.2⟩
theorem UnF.read (hD : DvSpec (three a) D) (hE : Errs w a) (h : UnF D w W F g n N u) (ep a' : Int) :
    Calls Tryz.prog 69 #[.pointer (some ⟨g, 0, none⟩), .int .i64 ep, .int .i64 a'] W fun e w' => ∃ v x, e = .returned (.tuple #[v, x]) ∧ Bytes w' w'.heap.size v (readU u ep a').1 ∧ (∀ k, v.ownBlock = some k → W.heap.size ≤ k ∧ k < w'.heap.size) ∧ IsErr a x (readU u ep a').2 ∧ Below W.heap.size W w' := by
  obtain ⟨p, bm, dev, h1⟩ := h.beside hD
  refine (h1.readO hD (stays_rest W F) hE ep a').mono ?_
  rintro e w' ⟨v, x, he, hv, ho, hx, hb, _⟩
  exact ⟨v, x, he, hv, ho, hx, hb⟩
end

end Go.Proofs.YtiafamacjpgjoaaGreatDoor

/- The document's own units side by side: each with blocks of its own; a row of them by number, some of them down. Not tied to package chain's code. -/
namespace Go.Proofs.YtiafamacjpgjoaaGreatDoor
open Go Go.RowKit Tide

def RefF (W : World) (H : Nat → Prop) (q : Nat) (u : UnitD) : Prop := (∃ G S, RU W G S q u ∧ ∀ k, G k ∨ S k → H k) ∧ ∀ k, H k → k < W.heap.size
section
variable {W W' : World} {H K : Nat → Prop} {q : Nat} {u : UnitD}
theorem RefF.kept (h : RefF W H q u) (hk : Kept K W W') (hK : ∀ k, H k → ¬ K k) : RefF W' H q u := by
  obtain ⟨⟨G, S, h1, h2⟩, h3⟩ := h
  exact ⟨⟨G, S, h1.keep hk (fun k e => hK k (h2 k e)), h2⟩, fun k e => Nat.lt_of_lt_of_le (h3 k e) hk.size⟩
end

def cellC (up : Nat → Bool) (q : Nat → Nat) (i : Nat) : Value := if up i = true then .pointer (some ⟨q i, 0, none⟩) else .pointer none
def rowC6 (up : Nat → Bool) (q : Nat → Nat) : List Value := (List.range 6).map (cellC up q)
structure Refs (W : World) (q : Nat → Nat) (H : Nat → Nat → Prop) (us : Nat → UnitD) : Prop where
  un : ∀ i, i < 6 → RefF W (H i) (q i) (us i)
  apart : ∀ i j, i < 6 → j < 6 → i ≠ j → ∀ k, H i k → ¬ H j k
def AllC (H : Nat → Nat → Prop) (k : Nat) : Prop := ∃ i, i < 6 ∧ H i k
section
variable {W W' : World} {H : Nat → Nat → Prop} {K : Nat → Prop} {q : Nat → Nat} {us : Nat → UnitD}
theorem Refs.kept (h : Refs W q H us) (hk : Kept K W W') (hK : ∀ k, AllC H k → ¬ K k) : Refs W' q H us := ⟨fun i hi => (h.un i hi).kept hk (fun k e => hK k ⟨i, hi, e⟩), h.apart⟩
theorem Refs.below (h : Refs W q H us) (hb : Below W.heap.size W W') : Refs W' q H us := h.kept (K := fun _ => False) (Kept.of_below hb) (fun _ _ h => h)
theorem Refs.lt (h : Refs W q H us) : ∀ k, AllC H k → k < W.heap.size := fun k ⟨i, hi, e⟩ => (h.un i hi).2 k e
end
end Go.Proofs.YtiafamacjpgjoaaGreatDoor

/- The landed units side by side: each with blocks of its own; what a call of them leaves. Not tied to package chain's code. -/
namespace Go.Proofs.YtiafamacjpgjoaaGreatDoor
open Go Go.RowKit Tide

structure Unim (D : DvP) (w W : World) (g : Nat → Nat) (H : Nat → Nat → Prop) (m n N : Nat) (us : Nat → UnitD) : Prop where
  un : ∀ i, i < m → UnF D w W (H i) (g i) n N (us i)
  apart : ∀ i j, i < m → j < m → i ≠ j → ∀ k, H i k → ¬ H j k
  since : Below w.heap.size w W
def AllM (m : Nat) (H : Nat → Nat → Prop) (k : Nat) : Prop := ∃ i, i < m ∧ H i k
def UnimStep (D : DvP) (w W : World) (g : Nat → Nat) (H : Nat → Nat → Prop) (m n N : Nat) (us : Nat → UnitD) (w' : World) : Prop := ∃ H', Unim D w w' g H' m n N us ∧ (∀ i k, H' i k → H i k ∨ W.heap.size ≤ k) ∧ Kept (AllM m H) W w'
section
variable {D : DvP} {x : Nat → Addr} {w W W' : World} {H : Nat → Nat → Prop} {K : Nat → Prop} {g : Nat → Nat} {m n N M : Nat} {us : Nat → UnitD}
theorem Unim.mono (h : Unim D w W g H m n N us) (hNM : N ≤ M) : Unim D w W g H m n M us := ⟨fun i hi => (h.un i hi).mono hNM, h.apart, h.since⟩
theorem Unim.kept (hD : DvSpec x D) (h : Unim D w W g H m n N us) (hk : Kept K W W') (hK : ∀ k, K k → ¬ AllM m H k ∧ w.heap.size ≤ k) : Unim D w W' g H m n N us :=
  ⟨fun i hi => (h.un i hi).kept hD hk (fun k e => ⟨fun hf => (hK k e).1 ⟨i, hi, hf⟩, (hK k e).2⟩), h.apart, h.since.trans ⟨hk.os, hk.tape, hk.output, hk.size, fun k hl => hk.block k (Nat.lt_of_lt_of_le hl h.since.size) (fun e => Nat.not_lt.2 (hK k e).2 hl)⟩⟩
theorem Unim.below (hD : DvSpec x D) (h : Unim D w W g H m n N us) (hb : Below W.heap.size W W') : Unim D w W' g H m n N us := h.kept hD (K := fun _ => False) (Kept.of_below hb) (fun _ h => h.elim)
theorem Unim.lt (h : Unim D w W g H m n N us) : ∀ k, AllM m H k → w.heap.size ≤ k ∧ k < W.heap.size := fun k ⟨i, hi, e⟩ => (h.un i hi).2 k e
theorem UnimStep.refl (hD : DvSpec x D) (h : Unim D w W g H m n N us) (hb : Below W.heap.size W W') : UnimStep D w W g H m n N us W' := ⟨H, h.below hD hb, fun _ _ h => .inl h, Kept.of_below hb⟩
theorem UnimStep.mono (h : UnimStep D w W g H m n N us W') (hNM : N ≤ M) : UnimStep D w W g H m n M us W' := by
  obtain ⟨H', h1, h2, h3⟩ := h
  exact ⟨H', h1.mono hNM, h2, h3⟩
theorem Unim.step (hD : DvSpec x D) (h : Unim D w W g H m n N us) {i : Nat} (hi : i < m) {u : UnitD} (hs : UnStep D w W (H i) (g i) n (N + 1) u W') : UnimStep D w W g H m n (N + 1) (updC us i u) W' := by
  obtain ⟨H', h1, h2, h3⟩ := hs
  refine ⟨fun j => if j = i then H' else H j, ⟨fun j hj => ?_, fun j l hj hl hne k => ?_, h1.since⟩, fun j k hk => ?_, h3.mono (fun k _ e => ⟨i, hi, e⟩)⟩
  · show UnF D w W' (if j = i then H' else H j) (g j) n (N + 1) (updC us i u j)
    by_cases e : j = i
    · subst e
      rw [if_pos rfl, updC_at]
      exact h1
    · rw [if_neg e, updC_ne _ _ e]
      exact ((h.un j hj).kept hD h3 (fun k hk => ⟨fun hf => h.apart j i hj hi e k hf hk, ((h.un i hi).2 k hk).1⟩)).mono (Nat.le_succ _)
  · show (if j = i then H' else H j) k → ¬ (if l = i then H' else H l) k
    by_cases e1 : j = i
    · subst e1
      rw [if_pos rfl, if_neg (fun e => hne e.symm)]
      intro a b
      rcases h2 k a with a | a
      · exact h.apart j l hj hl hne k a b
      · have := ((h.un l hl).2 k b).2; omega
    · rw [if_neg e1]
      by_cases e2 : l = i
      · subst e2
        rw [if_pos rfl]
        intro a b
        rcases h2 k b with b | b
        · exact h.apart j l hj hl hne k a b
        · have := ((h.un j hj).2 k a).2; omega
      · rw [if_neg e2]
        exact h.apart j l hj hl hne k
  · show H j k ∨ _
    by_cases e : j = i
    · subst e
      have hk : (if j = j then H' else H j) k := hk
      rw [if_pos rfl] at hk
      exact h2 k hk
    · have hk : (if j = i then H' else H j) k := hk
      rw [if_neg e] at hk
      exact .inl hk
theorem UnimStep.trans {us3 : Nat → UnitD} {W1 W2 : World} {H1 : Nat → Nat → Prop} (h1 : ∀ i k, H1 i k → H i k ∨ W.heap.size ≤ k) (hk : Kept (AllM m H) W W1) (h2 : UnimStep D w W1 g H1 m n N us3 W2) : UnimStep D w W g H m n N us3 W2 := by
  obtain ⟨H2, a1, a2, a3⟩ := h2
  have hz := hk.size
  refine ⟨H2, a1, fun i k e => ?_, hk.trans a3 (fun k ⟨i, hi, e⟩ => (h1 i k e).imp (fun e => ⟨i, hi, e⟩) id)⟩
  rcases a2 i k e with e | e
  · exact h1 i k e
  · exact .inr (by omega)
theorem UnimStep.after {W1 W2 : World} (hb : Below W.heap.size W W1) (h2 : UnimStep D w W1 g H m n N us W2) : UnimStep D w W g H m n N us W2 :=
  UnimStep.trans (fun _ _ e => .inl e) (Kept.of_below hb) h2
end

def rowM (m : Nat) (up : Nat → Bool) (q : Nat → Nat) : List Value := (List.range m).map (cellC up q)
theorem rowM_len (m : Nat) (up : Nat → Bool) (q : Nat → Nat) : (rowM m up q).length = m := by simp [rowM]
theorem rowM_at {m : Nat} (up : Nat → Bool) (q : Nat → Nat) {i : Nat} (h : i < m) : (rowM m up q)[i]? = some (cellC up q i) := by simp [rowM, h]
theorem rowM_form {W : World} {B m : Nat} {v : Value} {up : Nat → Bool} {q : Nat → Nat} (hm : 0 < m) (h : Row W B v (rowM m up q)) : ∃ b o c, v = .slice (some ⟨b, o, none⟩) m c ∧ b < B ∧ ∀ i, i < m → W.cell? ⟨b, o + i, none⟩ = some (cellC up q i) := by
  obtain ⟨_, A, c, rfl, _, _, hc⟩ := h
  obtain ⟨b, o, rfl, hb, hcell⟩ := hc (by intro e; have := rowM_len m up q; rw [e] at this; simp at this; omega)
  exact ⟨b, o, c, by rw [rowM_len], hb, fun i hi => hcell i _ (rowM_at up q hi)⟩
def UpM (m : Nat) (up : Nat → Bool) : Prop := 0 < m ∧ m ≤ 6 ∧ ∀ i, m ≤ i → i < 6 → up i = false
theorem upM_at {m : Nat} {up : Nat → Bool} (hm : UpM m up) {n : Int} (h : upC up n = true) : ∃ i : Nat, n = i ∧ i < m ∧ up i = true := by
  obtain ⟨hn0, hn6, hup⟩ := upC_at h
  obtain ⟨i, rfl⟩ : ∃ i : Nat, n = (i : Int) := ⟨n.toNat, by omega⟩
  rw [Int.toNat_natCast] at hup
  refine ⟨i, rfl, ?_, hup⟩
  rcases Nat.lt_or_ge i m with hlt | hge
  · exact hlt
  · have := hm.2.2 i hge (by omega)
    rw [this] at hup
    cases hup
def SpotW (W : World) (s : Nat) (v : Value) (ep : Int) (vc : Value) (own : Int) : Prop := W.heap[s]? = some (.cells #[v, .int .i64 ep, vc, .int .i64 own] 79 (0, 0))
theorem SpotW.new (W : World) (v : Value) (ep : Int) (vc : Value) (own : Int) : SpotW (W.alloc (.cells #[v, .int .i64 ep, vc, .int .i64 own] 79)) W.heap.size v ep vc own := heap_alloc_new W _
theorem SpotW.lt {W : World} {s : Nat} {v : Value} {ep : Int} {vc : Value} {own : Int} (h : SpotW W s v ep vc own) : s < W.heap.size := by
  rcases Nat.lt_or_ge s W.heap.size with hlt | hge
  · exact hlt
  · unfold SpotW at h; rw [Array.getElem?_eq_none hge] at h; cases h
theorem SpotW.kept {W W' : World} {K : Nat → Prop} {s : Nat} {v : Value} {ep : Int} {vc : Value} {own : Int} (h : SpotW W s v ep vc own) (hk : Kept K W W') (hK : ¬ K s) : SpotW W' s v ep vc own := (hk.block s h.lt hK).trans h
theorem SpotW.below {W W' : World} {s : Nat} {v : Value} {ep : Int} {vc : Value} {own : Int} (h : SpotW W s v ep vc own) (hb : Below W.heap.size W W') : SpotW W' s v ep vc own := (hb.block s h.lt).trans h
theorem SpotW.facts {W : World} {s : Nat} {v : Value} {ep : Int} {vc : Value} {own : Int} (h : SpotW W s v ep vc own) : W.cell? ⟨s, 0, none⟩ = some v ∧ W.cell? ⟨s, 1, none⟩ = some (.int .i64 ep) ∧ W.cell? ⟨s, 2, none⟩ = some vc ∧ W.cell? ⟨s, 3, none⟩ = some (.int .i64 own) :=
  ⟨cell_of_row _ _ 0 _ _ _ h, cell_of_row _ _ 1 _ _ _ h, cell_of_row _ _ 2 _ _ _ h, cell_of_row _ _ 3 _ _ _ h⟩
end Go.Proofs.YtiafamacjpgjoaaGreatDoor

/- The document's own chains: up, put, from. Not tied to package chain's code. -/
namespace Go.Proofs.YtiafamacjpgjoaaGreatDoor
open Go Go.RowKit Tide

theorem write_err {u : UnitD} {ep a : Int} {b : List UInt8} (h : (writeD u ep a b).2 ≠ 0) : (writeD u ep a b).1 = u := by
  unfold writeD at h ⊢
  split
  · rfl
  split
  · rfl
  split
  · rfl
  split
  · rfl
  split
  · rename_i h1; exact put_same _ h1
  · rename_i h0 h1 h2 h3 h4
    rw [if_neg h0, if_neg h1, if_neg h2, if_neg h3, if_neg h4] at h
    exact absurd rfl h
end Go.Proofs.YtiafamacjpgjoaaGreatDoor

/- Package chain: up, a spot's read. -/
namespace Go.Proofs.YtiafamacjpgjoaaGreatDoor
open Go Go.RowKit Tide

def UpIs (a : Nat → Addr) (m : Nat) (up : Nat → Bool) (g : Nat → Nat) (n : Int) (v : Value) : Prop :=
  (upC up n = false ∧ v = .tuple #[.pointer none, errAt (a 11)]) ∨ (upC up n = true ∧ ∃ i : Nat, n = i ∧ i < m ∧ v = .tuple #[.pointer (some ⟨g i, 0, none⟩), .nilIface])
set_option maxHeartbeats 1000000 in
theorem up_any {a : Nat → Addr} {w : World} {m : Nat} {up : Nat → Bool} (hE : Errs w a) (hm : UpM m up) (g : Nat → Nat) (n : Int) (v : Value) (B : Nat) (hv : Row w B v (rowM m up g)) :
    Calls Tryz.prog 56 #[v, .int .i64 n] w fun e w' => ∃ x, e = .returned x ∧ UpIs a m up g n x ∧ Below w.heap.size w w' := by
  obtain ⟨b, o, c, rfl, _, hcell⟩ := rowM_form hm.1 hv
  have e11 : w.cell? ⟨11, 0, none⟩ = some (errAt (a 11)) := hE.var 11 (by omega)
  clear hv hE
  by_cases h0 : n < 0
  · have hu : upC up n = false := by unfold upC; simp; omega
    have HU := Lib.hid hu
    clear hcell hu
    go_enter Tryz.func56, Tryz.ntmps56
    go_wp2_with fail
    go_quiet (fail)
    go_wp2_with fail
    go_ret2
    exact ⟨_, rfl, .inl ⟨HU.out, rfl⟩, pl_drawn (Below.refl _ _) _⟩
  by_cases h6 : (m : Int) ≤ n
  · have hu : upC up n = false := by
      cases hu : upC up n with
      | false => rfl
      | true =>
        obtain ⟨i, e, hi, _⟩ := upM_at hm hu
        omega
    have HU := Lib.hid hu
    clear hcell hu
    go_enter Tryz.func56, Tryz.ntmps56
    go_wp2_with fail
    go_quiet (fail)
    go_wp2_with fail
    go_ret2
    exact ⟨_, rfl, .inl ⟨HU.out, rfl⟩, pl_drawn (Below.refl _ _) _⟩
  obtain ⟨i, rfl⟩ : ∃ i : Nat, n = (i : Int) := ⟨n.toNat, by omega⟩
  have hi : i < m := by omega
  have hm6 := hm.2.1
  have hcu := hcell i hi
  have i1 : (i : Int) < (m : Int) := by omega
  have hu : upC up (i : Int) = up i := by unfold upC; simp; omega
  have HI := Lib.hid hi
  clear hcell h0 h6
  unfold cellC at hcu
  cases hup : up i with
  | false =>
    rw [hup] at hcu hu
    have hcu : w.cell? ⟨b, o + i, none⟩ = some (.pointer none) := hcu
    have HU := Lib.hid hu
    clear hu hi
    go_enter Tryz.func56, Tryz.ntmps56
    go_wp2_with fail
    go_quiet (fail)
    go_wp2_with fail
    go_ret2
    exact ⟨_, rfl, .inl ⟨HU.out, rfl⟩, pl_drawn (Below.refl _ _) _⟩
  | true =>
    rw [hup] at hcu hu
    have hcu : w.cell? ⟨b, o + i, none⟩ = some (.pointer (some ⟨g i, 0, none⟩)) := hcu
    have HU := Lib.hid hu
    clear hu hi
    go_enter Tryz.func56, Tryz.ntmps56
    go_wp2_with fail
    go_ret2
    exact ⟨_, rfl, .inr ⟨HU.out, i, rfl, HI.out, rfl⟩, Below.refl _ _⟩
theorem kept_lowU {K : Nat → Prop} {W W' : World} {lo : Nat} (hk : Kept K W W') (hK : ∀ k, K k → lo ≤ k) (hl : lo ≤ W.heap.size) : ∀ b o, b < lo → W'.cell? ⟨b, o, none⟩ = W.cell? ⟨b, o, none⟩ := fun b o hb =>
  below_cells (B := lo) ⟨hk.os, hk.tape, hk.output, hk.size, fun k hkl => hk.block k (by omega) (fun e => by have := hK k e; omega)⟩ b o hb
def RowS (W : World) (S : Nat → Prop) (v : Value) (xs : List Value) : Prop := Row W W.heap.size v xs ∧ (xs ≠ [] → ∀ k, v.ownBlock = some k → S k)
theorem RowS.kept {K S : Nat → Prop} {W W' : World} {v : Value} {xs : List Value} (h : RowS W S v xs) (hk : Kept K W W') (hK : ∀ k, K k → ¬ S k) : RowS W' S v xs := by
  obtain ⟨⟨h1, A, c, rfl, h2, h3, h4⟩, h5⟩ := h
  refine ⟨⟨h1, A, c, rfl, h2, h3, fun hne => ?_⟩, h5⟩
  obtain ⟨b, o, rfl, hb, hc⟩ := h4 hne
  exact ⟨b, o, rfl, Nat.lt_of_lt_of_le hb hk.size, fun j u hu => (hk.cell (p := ⟨b, o + j, none⟩) hb (fun e => hK b e (h5 hne b rfl))).trans (hc j u hu)⟩
theorem RowS.below {S : Nat → Prop} {W W' : World} {v : Value} {xs : List Value} (h : RowS W S v xs) (hb : Below W.heap.size W W') : RowS W' S v xs := h.kept (Kept.of_below hb (F := fun _ => False)) (fun _ e => e.elim)
theorem RowS.of_low {W : World} {lo : Nat} {v : Value} {xs : List Value} (h : Row W lo v xs) (hl : lo ≤ W.heap.size) : RowS W (fun k => k < lo) v xs := by
  refine ⟨h.more hl, fun hne k e => ?_⟩
  obtain ⟨_, A, c, rfl, _, _, h4⟩ := h
  obtain ⟨b, o, rfl, hb, _⟩ := h4 hne
  injection e with e
  have e : b = k := e
  omega
def GridS (W : World) (S : Nat → Prop) (v : Value) (cs : List (List Int)) : Prop :=
  ∃ vs : List Value, RowS W S v vs ∧ vs.length = cs.length ∧ ∀ (i : Nat) (u : Value) (c : List Int), vs[i]? = some u → cs[i]? = some c → RowS W S u (int64s c)
theorem GridS.grid {S : Nat → Prop} {W : World} {v : Value} {cs : List (List Int)} (h : GridS W S v cs) : Grid W W.heap.size v cs := by
  obtain ⟨vs, h1, h2, h3⟩ := h
  exact ⟨vs, h1.1, h2, fun i u c hu hc => (h3 i u c hu hc).1⟩
theorem GridS.kept {K S : Nat → Prop} {W W' : World} {v : Value} {cs : List (List Int)} (h : GridS W S v cs) (hk : Kept K W W') (hK : ∀ k, K k → ¬ S k) : GridS W' S v cs := by
  obtain ⟨vs, h1, h2, h3⟩ := h
  exact ⟨vs, h1.kept hk hK, h2, fun i u c hu hc => (h3 i u c hu hc).kept hk hK⟩
theorem GridS.below {S : Nat → Prop} {W W' : World} {v : Value} {cs : List (List Int)} (h : GridS W S v cs) (hb : Below W.heap.size W W') : GridS W' S v cs := h.kept (Kept.of_below hb (F := fun _ => False)) (fun _ e => e.elim)
theorem GridS.of_low {W : World} {lo : Nat} {v : Value} {cs : List (List Int)} (h : Grid W lo v cs) (hl : lo ≤ W.heap.size) : GridS W (fun k => k < lo) v cs := by
  obtain ⟨vs, h1, h2, h3⟩ := h
  exact ⟨vs, RowS.of_low h1 hl, h2, fun i u c hu hc => RowS.of_low (h3 i u c hu hc) hl⟩
theorem GridS.form {S : Nat → Prop} {W : World} {v : Value} {cs : List (List Int)} (h : GridS W S v cs) : ∃ A c, v = .slice A cs.length c ∧ ∀ i (hi : i < cs.length), ∃ b o u, A = some ⟨b, o, none⟩ ∧ b < W.heap.size ∧ W.cell? ⟨b, o + i, none⟩ = some u ∧ RowS W S u (int64s cs[i]) := by
  obtain ⟨vs, h1, h2, h3⟩ := h
  obtain ⟨⟨_, A, c, rfl, _, _, h4⟩, _⟩ := h1
  refine ⟨A, c, by rw [h2], fun i hi => ?_⟩
  have hv : i < vs.length := by omega
  obtain ⟨b, o, rfl, hb, hc⟩ := h4 (by intro e; rw [e] at hv; simp at hv)
  exact ⟨b, o, vs[i], rfl, hb, hc i _ (List.getElem?_eq_getElem hv), h3 i _ _ (List.getElem?_eq_getElem hv) (List.getElem?_eq_getElem hi)⟩
theorem GridS.formS {S : Nat → Prop} {W : World} {v : Value} {cs : List (List Int)} (h : GridS W S v cs) : ∃ A c, v = .slice A cs.length c ∧ ∀ i (hi : i < cs.length), ∃ b o u, A = some ⟨b, o, none⟩ ∧ b < W.heap.size ∧ S b ∧ W.cell? ⟨b, o + i, none⟩ = some u ∧ RowS W S u (int64s cs[i]) := by
  obtain ⟨vs, h1, h2, h3⟩ := h
  obtain ⟨⟨_, A, c, rfl, _, _, h4⟩, h5⟩ := h1
  refine ⟨A, c, by rw [h2], fun i hi => ?_⟩
  have hv : i < vs.length := by omega
  have hne : vs ≠ [] := by intro e; rw [e] at hv; simp at hv
  obtain ⟨b, o, rfl, hb, hc⟩ := h4 hne
  exact ⟨b, o, vs[i], rfl, hb, h5 hne b rfl, hc i _ (List.getElem?_eq_getElem hv), h3 i _ _ (List.getElem?_eq_getElem hv) (List.getElem?_eq_getElem hi)⟩
theorem RowS.ints {S : Nat → Prop} {W : World} {v : Value} {l : List Int} (h : RowS W S v (int64s l)) : ∃ A c, v = .slice A l.length c ∧ ∀ j (hj : j < l.length), ∃ b o, A = some ⟨b, o, none⟩ ∧ b < W.heap.size ∧ S b ∧ W.cell? ⟨b, o + j, none⟩ = some (.int .i64 l[j]) := by
  obtain ⟨_, A, c, rfl, hc⟩ := row_ints h.1
  refine ⟨A, c, rfl, fun j hj => ?_⟩
  obtain ⟨b, o, rfl, hb, hcj⟩ := hc j hj
  exact ⟨b, o, rfl, hb, h.2 (by intro e; have := congrArg List.length e; simp [int64s] at this; rw [this] at hj; simp at hj) b rfl, hcj⟩
structure UCall (D : DvP) (w W : World) (lo : Nat → Prop) (g : Nat → Nat) (H : Nat → Nat → Prop) (m : Nat) (us : Nat → UnitD) (up : Nat → Bool) (v vp : Value) (cs : List (List Int)) (N : Nat) : Prop where
  unis : Unim D w W g H m 128 N us
  ups : UpM m up
  rows : ∀ W', Kept (AllM m H) W W' → Row W' W.heap.size v (rowM m up g)
  lo_le : ∀ k, lo k → k < W.heap.size
  above : ∀ k, AllM m H k → ¬ lo k
  grid : GridS W lo vp cs
section
variable {D : DvP} {a x : Nat → Addr} {w W W' : World} {lo : Nat → Prop} {m N M : Nat} {g : Nat → Nat} {H : Nat → Nat → Prop} {us us' : Nat → UnitD} {up : Nat → Bool} {v vp : Value} {cs : List (List Int)}
theorem UCall.step (h : UCall D w W lo g H m us up v vp cs N) (hs : UnimStep D w W g H m 128 M us' W') : ∃ H', UCall D w W' lo g H' m us' up v vp cs M ∧ (∀ i k, H' i k → H i k ∨ W.heap.size ≤ k) ∧ Kept (AllM m H) W W' := by
  obtain ⟨H', g1, g2, g3⟩ := hs
  refine ⟨H', ⟨g1, h.ups, fun W2 hk => (h.rows W2 (g3.trans hk (fun k ⟨i, hi, e⟩ => (g2 i k e).imp (fun e => ⟨i, hi, e⟩) id))).more g3.size, fun k e => Nat.lt_of_lt_of_le (h.lo_le k e) g3.size, fun k ⟨i, hi, e⟩ hs => ?_, h.grid.kept g3 h.above⟩, g2, g3⟩
  rcases g2 i k e with e | e
  · exact h.above k ⟨i, hi, e⟩ hs
  · have := h.lo_le k hs; omega
theorem UCall.below (hD : DvSpec x D) (h : UCall D w W lo g H m us up v vp cs N) (hb : Below W.heap.size W W') : UCall D w W' lo g H m us up v vp cs N :=
  ⟨h.unis.below hD hb, h.ups, fun W2 hk => (h.rows W2 ((Kept.of_below hb (F := AllM m H)).trans hk (fun _ e => .inl e))).more hb.size, fun k e => Nat.lt_of_lt_of_le (h.lo_le k e) hb.size, h.above, h.grid.below hb⟩
theorem UCall.errs (hE : Errs w a) (h : UCall D w W lo g H m us up v vp cs N) : Errs W a := hE.below h.unis.since
theorem up_down (hE : Errs w a) (h : UCall D w W lo g H m us up v vp cs N) {n : Int} (hu : upC up n = false) :
    Calls Tryz.prog 56 #[v, .int .i64 n] W fun e w' => e = .returned (.tuple #[.pointer none, errAt (a 11)]) ∧ Below W.heap.size W w' := by
  refine (up_any (h.errs hE) h.ups g n v _ (h.rows W (Kept.refl _ _))).mono ?_
  rintro e w' ⟨x, rfl, hx, hb⟩
  rcases hx with ⟨_, rfl⟩ | ⟨h, _⟩
  · exact ⟨rfl, hb⟩
  · rw [hu] at h; cases h
theorem up_is (hE : Errs w a) (h : UCall D w W lo g H m us up v vp cs N) {i : Nat} (hu : upC up (i : Int) = true) :
    Calls Tryz.prog 56 #[v, .int .i64 (i : Int)] W fun e w' => e = .returned (.tuple #[.pointer (some ⟨g i, 0, none⟩), .nilIface]) ∧ Below W.heap.size W w' := by
  refine (up_any (h.errs hE) h.ups g i v _ (h.rows W (Kept.refl _ _))).mono ?_
  rintro e w' ⟨x, rfl, hx, hb⟩
  rcases hx with ⟨h, _⟩ | ⟨_, j, ej, _, rfl⟩
  · rw [hu] at h; cases h
  · obtain rfl : i = j := by omega
    exact ⟨rfl, hb⟩
def sreadC (up : Nat → Bool) (ep at' : Int) (us : Nat → UnitD) (n : Int) : List UInt8 × Nat := if upC up n = false then ([], 12) else readU (us n.toNat) ep at'
set_option maxRecDepth 100000 in
set_option maxHeartbeats 1000000 in
theorem sread_any (hD : DvSpec (three a) D) (hE : Errs w a) (h : UCall D w W lo g H m us up v vp cs N) (ep at' : Int) (l : List Int) (vc : Value) (hc : RowS W lo vc (int64s l)) (k : Nat) (hk : k < l.length) :
    Calls Tryz.prog 36 #[.agg #[v, .int .i64 ep, vc, .int .i64 at'], .int .i64 (k : Int)] W fun e w' => ∃ vb x, e = .returned (.tuple #[vb, x]) ∧ Bytes w' w'.heap.size vb (sreadC up ep at' us l[k]).1 ∧ (∀ j, vb.ownBlock = some j → W.heap.size ≤ j ∧ j < w'.heap.size) ∧ IsErr a x (sreadC up ep at' us l[k]).2 ∧ Below W.heap.size W w' := by
  have HD := Lib.hid hD
  have HC := Lib.hid h
  obtain ⟨b0, o0, c0, rfl, _, hrow6⟩ := rowM_form h.ups.1 (h.rows W (Kept.refl _ _))
  clear hrow6
  obtain ⟨hcl, A1, c1, rfl, hcu⟩ := row_ints hc.1
  obtain ⟨b1, o1, rfl, hb1, hcj⟩ := hcu k hk
  have B0 := Lib.hid ((Below.refl W.heap.size W).alloc (Nat.le_refl _) (.cells #[.slice (some ⟨b0, o0, none⟩) m c0, .int .i64 ep, .slice (some ⟨b1, o1, none⟩) l.length c1, .int .i64 at'] 79))
  have P0 := Lib.hid (SpotW.new W (.slice (some ⟨b0, o0, none⟩) m c0) ep (.slice (some ⟨b1, o1, none⟩) l.length c1) at')
  replace hcj := (B0.out.cell (p := ⟨b1, o1 + k, none⟩) hb1).trans hcj
  have hks : (k : Int) < (l.length : Int) := by omega
  have CR := Lib.hid (fun W1 (hb : Below W.heap.size W W1) (i : Nat) (hi : i < m) => ((h.below hD hb).unis.un i hi).read hD hE ep at')
  obtain ⟨n, hn⟩ : ∃ n, l[k] = n := ⟨_, rfl⟩
  rw [hn] at hcj ⊢
  obtain ⟨L, hL⟩ : ∃ L, l.length = L := ⟨_, rfl⟩
  rw [hL] at B0 P0 hcj hks ⊢
  obtain ⟨r, hr⟩ : ∃ r, sreadC up ep at' us n = r := ⟨_, rfl⟩
  have HR := Lib.hid hr
  rw [hr]
  obtain ⟨p0, p1, p2, p3⟩ := P0.out.facts
  have K1 := Lib.hid (And.intro p0 (And.intro p2 hcj))
  have HPl := Lib.hid P0.out.lt
  have Hb1 := Lib.hid (Nat.lt_of_lt_of_le hb1 B0.out.size)
  have P1 := Lib.hid (And.intro p1 p3)
  have HE := Lib.hid hE
  clear h hc hcu hcl hL hn hk hr hD hE p0 p1 p2 p3 hcj
  cases hu : upC up n with
  | false =>
    have hr0 := HR.out
    unfold sreadC at hr0
    rw [if_pos hu] at hr0
    subst hr0
    have CU := Lib.hid (up_down HE.out (HC.out.below HD.out B0.out.drew) hu)
    clear hu CR
    go_enter Tryz.func36, Tryz.ntmps36
    go_wp2_with fail
    go_region_held3 (fun Y => Y.cell? ⟨W.heap.size, 0, none⟩ = some (.slice (some ⟨b0, o0, none⟩) m c0) ∧ Y.cell? ⟨W.heap.size, 2, none⟩ = some (.slice (some ⟨b1, o1, none⟩) L c1) ∧ Y.cell? ⟨b1, o1 + k, none⟩ = some (.int .i64 n))
      (first | exact K1.out | exact K2.out)
      (first
        | ((with_reducible refine CU.out.mono ?_); rintro en w2 ⟨rfl, hb2⟩; have K2 := Lib.hid (And.intro ((hb2.cell (p := ⟨W.heap.size, 0, none⟩) HPl.out).trans K1.out.1) (And.intro ((hb2.cell (p := ⟨W.heap.size, 2, none⟩) HPl.out).trans K1.out.2.1) ((hb2.cell (p := ⟨b1, o1 + k, none⟩) Hb1.out).trans K1.out.2.2)))))
    have HB2 := Lib.hid (B0.out.trans (((Below.refl _ _).drew.trans (hb2.mono (Nat.le_refl _))).mono B0.out.size))
    clear K1 K2 CU hb2
    go_wp2_with fail
    go_ret2
    exact ⟨_, _, rfl, bytes_nil' _ _, (fun j e => by cases e), isErr_at a 11 (by decide), HB2.out⟩
  | true =>
    obtain ⟨i, rfl, hi, _⟩ := upM_at HC.out.ups hu
    have hr0 := HR.out
    unfold sreadC at hr0
    rw [if_neg (by rw [hu]; simp), Int.toNat_natCast] at hr0
    have HR := Lib.hid hr0
    have CU := Lib.hid (up_is HE.out (HC.out.below HD.out B0.out.drew) hu)
    have CR := Lib.hid (fun W1 hb => CR.out W1 hb i hi)
    rw [hr0] at CR
    clear hu hr0 hi
    go_enter Tryz.func36, Tryz.ntmps36
    go_wp2_with fail
    go_region_held3 (fun Y => Y.cell? ⟨W.heap.size, 0, none⟩ = some (.slice (some ⟨b0, o0, none⟩) m c0) ∧ Y.cell? ⟨W.heap.size, 2, none⟩ = some (.slice (some ⟨b1, o1, none⟩) L c1) ∧ Y.cell? ⟨b1, o1 + k, none⟩ = some (.int .i64 (i : Int)))
      (first | exact K1.out | exact K2.out)
      (first
        | ((with_reducible refine CU.out.mono ?_); rintro en w2 ⟨rfl, hb2⟩; have K2 := Lib.hid (And.intro ((hb2.cell (p := ⟨W.heap.size, 0, none⟩) HPl.out).trans K1.out.1) (And.intro ((hb2.cell (p := ⟨W.heap.size, 2, none⟩) HPl.out).trans K1.out.2.1) ((hb2.cell (p := ⟨b1, o1 + k, none⟩) Hb1.out).trans K1.out.2.2)))))
    have HB2 := Lib.hid (B0.out.trans (((Below.refl _ _).drew.trans (hb2.mono (Nat.le_refl _))).mono B0.out.size))
    have p1 := (hb2.cell (p := ⟨W.heap.size, 1, none⟩) HPl.out).trans P1.out.1
    have p3 := (hb2.cell (p := ⟨W.heap.size, 3, none⟩) HPl.out).trans P1.out.2
    have C2 := Lib.hid (CR.out w2 HB2.out)
    clear K1 K2 CU hb2 CR
    go_wp2_with fail
    refine C2.out.mono ?_
    rintro en w3 ⟨vb, x, rfl, h1, h2, h3, h4⟩
    have H1 := Lib.hid h1
    have H2 := Lib.hid h2
    have H3 := Lib.hid h3
    have H4 := Lib.hid h4
    clear h1 h2 h3 h4 C2
    go_wp2_with fail
    go_ret2
    exact ⟨_, _, rfl, H1.out, (fun j e => ⟨Nat.le_trans HB2.out.size (H2.out j e).1, (H2.out j e).2⟩), H3.out, HB2.out.trans (H4.out.mono HB2.out.size)⟩
end
end Go.Proofs.YtiafamacjpgjoaaGreatDoor

/- The document's own chains: from, Others. Not tied to package chain's code. -/
namespace Go.Proofs.YtiafamacjpgjoaaGreatDoor
open Go Go.RowKit Tide

theorem from_cons (up : Nat → Bool) (ep at' : Int) (b : List UInt8) (us : Nat → UnitD) (k : Nat) (n : Int) (l : List Int) : fromC up ep at' b us k (n :: l) = if (putC up ep at' b us n (k == 0)).2 ≠ 0 then putC up ep at' b us n (k == 0) else fromC up ep at' b (putC up ep at' b us n (k == 0)).1 (k + 1) l := rfl
end Go.Proofs.YtiafamacjpgjoaaGreatDoor

/- The document's own chains: Others, Write, Step. Not tied to package chain's code. -/
namespace Go.Proofs.YtiafamacjpgjoaaGreatDoor
open Go Go.RowKit Tide

section
variable {W W' : World} {lo : Nat} {q : Nat → Nat} {H : Nat → Nat → Prop} {us us' : Nat → UnitD} {up : Nat → Bool} {v vp : Value} {cs : List (List Int)} {Ap : Option Addr} {cp : Nat}
end
end Go.Proofs.YtiafamacjpgjoaaGreatDoor

/- The document's own chains: Step. Not tied to package chain's code. -/
namespace Go.Proofs.YtiafamacjpgjoaaGreatDoor
open Go Go.RowKit Tide

section
variable {W W' : World} {lo : Nat} {q : Nat → Nat} {H : Nat → Nat → Prop} {us us' : Nat → UnitD} {up : Nat → Bool} {v vp : Value} {cs : List (List Int)} {Ap : Option Addr} {cp : Nat}
end
end Go.Proofs.YtiafamacjpgjoaaGreatDoor

/- The document's own chains: Read. Not tied to package chain's code. -/
namespace Go.Proofs.YtiafamacjpgjoaaGreatDoor
open Go Go.RowKit Tide

theorem row_kept {w w' : World} {B : Nat} {v : Value} {xs : List Value} {K : Nat → Prop} (h : Row w B v xs) (hk : Kept K w w') (hB : B ≤ w.heap.size) (hf : ∀ k, v.ownBlock = some k → ¬ K k) : Row w' B v xs := by
  obtain ⟨h1, A, c, rfl, h2, h3, h4⟩ := h
  refine ⟨h1, A, c, rfl, h2, h3, fun hne => ?_⟩
  obtain ⟨b, o, rfl, hb, hc⟩ := h4 hne
  exact ⟨b, o, rfl, hb, fun j u hu => (hk.cell (p := ⟨b, o + j, none⟩) (Nat.lt_of_lt_of_le hb hB) (hf b rfl)).trans (hc j u hu)⟩
theorem last_at (l : List Int) (m : Nat) (hm : l.length = m + 1) : l.getLastD 0 = l[m]'(by omega) := by
  have h : l.getLast? = some (l[m]'(by omega)) := by
    rw [List.getLast?_eq_getElem?]
    have : l.length - 1 = m := by omega
    rw [this, List.getElem?_eq_getElem]
  rw [List.getLastD_eq_getLast?, h]
  rfl
theorem place_ok {ep : Int} {cs : List (List Int)} {a : Int} (h : placeE ep cs a = 0) : 1 ≤ (chainAt cs a).length ∧ (chainAt cs a).length ≤ 3 := by
  unfold placeE at h
  cases hr : rightB ep cs with
  | false => rw [hr] at h; exact absurd h (by simp)
  | true =>
    obtain ⟨_, _, h1, _, h5, _⟩ := right_parts hr
    have hk : a.toNat % cs.length < cs.length := Nat.mod_lt _ (by omega)
    rw [int64s_chain hk rfl]
    exact h5 _ (List.getElem_mem hk)
section
variable {W W' : World} {lo : Nat} {q : Nat → Nat} {H : Nat → Nat → Prop} {us us' : Nat → UnitD} {up : Nat → Bool} {v vp : Value} {cs : List (List Int)} {Ap : Option Addr} {cp b0 o0 c0 : Nat}
def readC14 (up : Nat → Bool) (ep : Int) (cs : List (List Int)) (a : Int) (us : Nat → UnitD) : (Nat → UnitD) × List UInt8 × Nat :=
  if placeE ep cs a ≠ 0 then (us, [], placeE ep cs a) else readC up ep (a / cs.length) us (chainAt cs a)
end
end Go.Proofs.YtiafamacjpgjoaaGreatDoor

/- Package chain: a spot's write. -/
namespace Go.Proofs.YtiafamacjpgjoaaGreatDoor
open Go Go.RowKit Tide

section
variable {D : DvP} {a x : Nat → Addr} {w W W' : World} {lo : Nat → Prop} {m N M : Nat} {g : Nat → Nat} {H : Nat → Nat → Prop} {us us' : Nat → UnitD} {up : Nat → Bool} {v vp : Value} {cs : List (List Int)}
set_option maxRecDepth 100000 in
set_option maxHeartbeats 2000000 in
theorem swrite_any (hD : DvSpec (three a) D) (hE : Errs w a) (hN : N ≤ 90000) (h : UCall D w W lo g H m us up v vp cs N) (ep at' : Int) (l : List Int) (vc : Value) (hc : RowS W lo vc (int64s l)) (k : Nat) (hk : k < l.length) (vb : Value) (b : List UInt8) (hvb : Bytes W W.heap.size vb b) (hap : ∀ j, vb.ownBlock = some j → ¬ AllM m H j) :
    Calls Tryz.prog 45 #[.agg #[v, .int .i64 ep, vc, .int .i64 at'], .int .i64 (k : Int), vb] W fun e w' => ∃ x, e = .returned x ∧ IsErr a x (putC up ep at' b us l[k] (k == 0)).2 ∧ UnimStep D w W g H m 128 (N + 1) (putC up ep at' b us l[k] (k == 0)).1 w' := by
  have HD := Lib.hid hD
  have HE := Lib.hid hE
  have HC := Lib.hid h
  obtain ⟨b0, o0, c0, rfl, _, hrow6⟩ := rowM_form h.ups.1 (h.rows W (Kept.refl _ _))
  clear hrow6
  obtain ⟨hcl, A1, c1, rfl, hcu⟩ := row_ints hc.1
  obtain ⟨b1, o1, rfl, hb1, hcj⟩ := hcu k hk
  obtain ⟨Ab, cb, rfl, _⟩ := hvb.form
  have B0 := Lib.hid ((Below.refl W.heap.size W).alloc (Nat.le_refl _) (.cells #[.slice (some ⟨b0, o0, none⟩) m c0, .int .i64 ep, .slice (some ⟨b1, o1, none⟩) l.length c1, .int .i64 at'] 79))
  have P0 := Lib.hid (SpotW.new W (.slice (some ⟨b0, o0, none⟩) m c0) ep (.slice (some ⟨b1, o1, none⟩) l.length c1) at')
  replace hcj := (B0.out.cell (p := ⟨b1, o1 + k, none⟩) hb1).trans hcj
  have hks : (k : Int) < (l.length : Int) := by omega
  have HRow := Lib.hid hc
  have HVb := Lib.hid hvb
  have HAp := Lib.hid hap
  have CS := Lib.hid (fun (W1 : World) (H1 : Nat → Nat → Prop) (M : Nat) (h1 : UCall D w W1 lo g H1 m us up (.slice (some ⟨b0, o0, none⟩) m c0) vp cs M) (hc1 : RowS W1 lo (.slice (some ⟨b1, o1, none⟩) l.length c1) (int64s l)) => sread_any HD.out HE.out h1 ep at' l _ hc1 k hk)
  obtain ⟨n, hn⟩ : ∃ n, l[k] = n := ⟨_, rfl⟩
  rw [hn] at hcj CS ⊢
  obtain ⟨L, hL⟩ : ∃ L, l.length = L := ⟨_, rfl⟩
  rw [hL] at B0 P0 hcj hks CS HRow ⊢
  obtain ⟨p0, p1, p2, p3⟩ := P0.out.facts
  have K1 := Lib.hid (And.intro p0 (And.intro p2 hcj))
  have HPl := Lib.hid P0.out.lt
  have Hb1 := Lib.hid (Nat.lt_of_lt_of_le hb1 B0.out.size)
  clear h hc hcu hcl hL hn hk hD hE p0 p1 p2 p3 hcj hvb hap
  cases hu : upC up n with
  | false =>
    have hp := Lib.hid (put_down (ep := ep) (at' := at') (b := b) (us := us) (first := k == 0) hu)
    rw [hp.out]
    have CU := Lib.hid (up_down HE.out (HC.out.below HD.out B0.out.drew) hu)
    clear hu CS
    go_enter Tryz.func45, Tryz.ntmps45
    go_wp2_with fail
    go_region_held3 (fun Y => Y.cell? ⟨W.heap.size, 0, none⟩ = some (.slice (some ⟨b0, o0, none⟩) m c0) ∧ Y.cell? ⟨W.heap.size, 2, none⟩ = some (.slice (some ⟨b1, o1, none⟩) L c1) ∧ Y.cell? ⟨b1, o1 + k, none⟩ = some (.int .i64 n))
      (first | exact K1.out | exact K2.out)
      (first
        | ((with_reducible refine CU.out.mono ?_); rintro en w2 ⟨rfl, hb2⟩; have K2 := Lib.hid (And.intro ((hb2.cell (p := ⟨W.heap.size, 0, none⟩) HPl.out).trans K1.out.1) (And.intro ((hb2.cell (p := ⟨W.heap.size, 2, none⟩) HPl.out).trans K1.out.2.1) ((hb2.cell (p := ⟨b1, o1 + k, none⟩) Hb1.out).trans K1.out.2.2)))))
    have HB2 := Lib.hid (B0.out.trans (((Below.refl _ _).drew.trans (hb2.mono (Nat.le_refl _))).mono B0.out.size))
    clear K1 K2 CU hb2
    go_wp2_with fail
    go_ret
    exact ⟨_, rfl, isErr_at a 11 (by decide), (UnimStep.refl HD.out HC.out.unis HB2.out).mono (Nat.le_succ _)⟩
  | true =>
    obtain ⟨i, rfl, hi, _⟩ := upM_at HC.out.ups hu
    have CU := Lib.hid (up_is HE.out (HC.out.below HD.out B0.out.drew) hu)
    have CW := Lib.hid (fun (W1 : World) (hb : Below W.heap.size W W1) => ((HC.out.below HD.out hb).unis.un i hi).write HD.out HE.out (by decide) hN ep at' _ b ((HVb.out.below hb).more hb.size))
    have HPut := Lib.hid (show putC up ep at' b us (i : Int) (k == 0) = if (writeD (us i) ep at' b).2 ≠ 9 ∨ (k == 0) = true then (updC us i (writeD (us i) ep at' b).1, (writeD (us i) ep at' b).2) else (us, if (readU (us i) ep at').2 = 0 ∧ (readU (us i) ep at').1 ≠ b then 17 else (readU (us i) ep at').2) from by
      unfold putC
      rw [if_neg (by rw [hu]; simp), Int.toNat_natCast])
    have HSr := Lib.hid (show sreadC up ep at' us (i : Int) = readU (us i) ep at' from by unfold sreadC; rw [if_neg (by rw [hu]; simp), Int.toNat_natCast])
    rw [HSr.out] at CS
    obtain ⟨r, hr⟩ : ∃ r, writeD (us i) ep at' b = r := ⟨_, rfl⟩
    have HWe := Lib.hid (fun h : r.2 ≠ 0 => show r.1 = us i from by rw [← hr] at h ⊢; exact write_err h)
    rw [hr] at CW HPut
    obtain ⟨rd, hrd⟩ : ∃ rd, readU (us i) ep at' = rd := ⟨_, rfl⟩
    rw [hrd] at CS HPut
    obtain ⟨p, hp⟩ : ∃ p, putC up ep at' b us (i : Int) (k == 0) = p := ⟨_, rfl⟩
    rw [hp] at HPut ⊢
    have HI := Lib.hid hi
    clear hu hr hrd hp hi HSr
    go_enter Tryz.func45, Tryz.ntmps45
    go_wp2_with fail
    go_region_held3 (fun Y => Y.cell? ⟨W.heap.size, 0, none⟩ = some (.slice (some ⟨b0, o0, none⟩) m c0) ∧ Y.cell? ⟨W.heap.size, 2, none⟩ = some (.slice (some ⟨b1, o1, none⟩) L c1) ∧ Y.cell? ⟨b1, o1 + k, none⟩ = some (.int .i64 (i : Int)))
      (first | exact K1.out | exact K2.out)
      (first
        | ((with_reducible refine CU.out.mono ?_); rintro en w2 ⟨rfl, hb2⟩; have K2 := Lib.hid (And.intro ((hb2.cell (p := ⟨W.heap.size, 0, none⟩) HPl.out).trans K1.out.1) (And.intro ((hb2.cell (p := ⟨W.heap.size, 2, none⟩) HPl.out).trans K1.out.2.1) ((hb2.cell (p := ⟨b1, o1 + k, none⟩) Hb1.out).trans K1.out.2.2)))))
    have B02 := Lib.hid ((Below.refl _ _).drew.trans hb2)
    have HB2 := Lib.hid (B0.out.trans (B02.out.mono B0.out.size))
    have P2 := Lib.hid (P0.out.below B02.out)
    obtain ⟨p0, p1, p2, p3⟩ := P2.out.facts
    have C2 := Lib.hid (CW.out w2 HB2.out)
    clear K1 K2 CU hb2 CW B02 p0 p2
    go_wp2_with fail
    refine C2.out.mono ?_
    rintro en w3 ⟨x3, rfl, hx3, hst⟩
    have HX3 := Lib.hid hx3
    have hC2 := HC.out.below HD.out HB2.out
    have HS3 := Lib.hid (hC2.unis.step HD.out HI.out hst)
    have HC2 := Lib.hid hC2
    have hfr : ¬ AllM m H W.heap.size := fun e => by have := (HC.out.unis.lt _ e).2; omega
    have P3 := Lib.hid (show SpotW w3 W.heap.size _ _ _ _ from by
      obtain ⟨_, _, _, g3⟩ := HS3.out
      exact P2.out.kept g3 hfr)
    have E3' := Lib.hid (HE.out.below (by
      obtain ⟨_, g1, _, _⟩ := HS3.out
      exact g1.since))
    have e9 : w3.cell? ⟨9, 0, none⟩ = some (errAt (a 8)) := E3'.out.var 8 (by decide)
    have CI := Lib.hid (is_num a x3 r.2 8 w3 E3'.out HX3.out (by decide))
    clear hx3 hst hC2 C2 p1 p3
    cases qk : ((k : Int) == 0) with
    | true =>
      have hk0 : (k == 0) = true := by simpa using qk
      have hpe := HPut.out
      rw [if_pos (.inr hk0)] at hpe
      have HP := Lib.hid hpe
      clear hpe HPut CI
      go_wp2_with fail
      go_ret
      exact ⟨_, rfl, by rw [HP.out]; exact HX3.out, by rw [HP.out]; exact UnimStep.after HB2.out HS3.out⟩
    | false =>
      have hk0 : (k == 0) = false := by simpa using qk
      cases q9 : (r.2 == 8 + 1) with
      | false =>
        have hpe := HPut.out
        rw [if_pos (.inl (by simpa using q9))] at hpe
        have HP := Lib.hid hpe
        rw [q9] at CI
        clear hpe HPut q9 hk0
        go_wp2_with fail
        refine CI.out.mono ?_
        rintro en w4 ⟨rfl, rfl⟩
        clear CI
        go_wp2_with fail
        go_ret
        exact ⟨_, rfl, by rw [HP.out]; exact HX3.out, by rw [HP.out]; exact UnimStep.after HB2.out HS3.out⟩
      | true =>
        have h9 : r.2 = 9 := by simpa using q9
        have hpe := HPut.out
        rw [if_neg (by rw [h9, hk0]; simp)] at hpe
        have hs3 := HS3.out
        rw [HWe.out (by rw [h9]; decide), updC_same] at hs3
        obtain ⟨H3, hC3, g2, g3⟩ := HC2.out.step hs3
        have HC3 := Lib.hid hC3
        have HTr := Lib.hid (fun (W4 : World) (h4 : UnimStep D w w3 g H3 m 128 (N + 1) us W4) => UnimStep.after HB2.out (UnimStep.trans g2 g3 h4))
        have C3 := Lib.hid (CS.out w3 H3 _ hC3 (RowS.kept (RowS.below HRow.out HB2.out) g3 HC2.out.above))
        have HV3 := Lib.hid (show Bytes w3 w3.heap.size _ b from Row.more (row_kept ((HVb.out.below HB2.out).more HB2.out.size) g3 (Nat.le_refl _) HAp.out) g3.size)
        rw [q9] at CI
        have HPe := Lib.hid hpe
        obtain ⟨p0, p1, p2, p3⟩ := P3.out.facts
        clear hpe HPut q9 hk0 h9 hs3 hC3 g2 g3 CS HS3
        go_wp2_with fail
        refine CI.out.mono ?_
        rintro en w4 ⟨rfl, rfl⟩
        clear CI
        go_wp2_with fail
        refine C3.out.mono ?_
        rintro en w4 ⟨v4, x4, rfl, hv4, _, hx4, hb4⟩
        obtain ⟨A4, c4, rfl, _⟩ := hv4.form
        have HX4 := Lib.hid hx4
        have HS4 := Lib.hid (HTr.out w4 (UnimStep.refl HD.out HC3.out.unis hb4))
        have CQ := Lib.hid (equal_any rd.1 b _ _ _ _ w4 hv4 (HV3.out.below hb4))
        have e17 : w4.cell? ⟨16, 0, none⟩ = some (errAt (a 16)) := (E3'.out.below hb4).var 16 (by decide)
        clear hv4 hx4 hb4 C3 p0 p1 p2 p3 e9
        by_cases h0 : rd.2 = 0
        · have hx4 := HX4.out
          rw [h0] at hx4
          obtain rfl := isErr_zero hx4 rfl
          cases qe : decide (rd.1 = b) with
          | true =>
            have hpx : p = (us, 0) := by rw [HPe.out, if_neg (by rintro ⟨_, hne⟩; exact hne (of_decide_eq_true qe)), h0]
            have HP := Lib.hid hpx
            rw [qe] at CQ
            clear hpx hx4 h0 qe HPe
            go_wp2_with fail
            refine CQ.out.mono ?_
            rintro en w5 ⟨rfl, rfl⟩
            clear CQ
            go_wp2_with fail
            go_ret
            exact ⟨_, rfl, by rw [HP.out]; exact isErr_nil a, by rw [HP.out]; exact HS4.out⟩
          | false =>
            have hpx : p = (us, 17) := by rw [HPe.out, if_pos ⟨h0, of_decide_eq_false qe⟩]
            have HP := Lib.hid hpx
            rw [qe] at CQ
            clear hpx hx4 h0 qe HPe
            go_wp2_with fail
            refine CQ.out.mono ?_
            rintro en w5 ⟨rfl, rfl⟩
            clear CQ
            go_wp2_with fail
            go_ret
            exact ⟨_, rfl, by rw [HP.out]; exact isErr_at a 16 (by decide), by rw [HP.out]; exact HS4.out⟩
        · obtain ⟨ad, rfl⟩ := isErr_pos HX4.out h0
          have hpx : p = (us, rd.2) := by rw [HPe.out, if_neg (by rintro ⟨h, _⟩; exact h0 h)]
          have HP := Lib.hid hpx
          clear hpx h0 HPe CQ
          go_wp2_with fail
          go_ret
          exact ⟨_, rfl, by rw [HP.out]; exact HX4.out, by rw [HP.out]; exact HS4.out⟩
end
end Go.Proofs.YtiafamacjpgjoaaGreatDoor

/- Package chain: a spot's writeFrom and finish; Others. -/
namespace Go.Proofs.YtiafamacjpgjoaaGreatDoor
open Go Go.RowKit Tide

section
variable {D : DvP} {a x : Nat → Addr} {w W W' : World} {lo : Nat → Prop} {m N M : Nat} {g : Nat → Nat} {H : Nat → Nat → Prop} {us us' : Nat → UnitD} {up : Nat → Bool} {v vp : Value} {cs : List (List Int)}
set_option maxRecDepth 100000 in
set_option maxHeartbeats 2000000 in
theorem sfrom_any (hD : DvSpec (three a) D) (hE : Errs w a) (h : UCall D w W lo g H m us up v vp cs N) (ep at' : Int) (l : List Int) (hN : N + l.length ≤ 90000) (vc : Value) (hc : RowS W lo vc (int64s l)) (k : Nat) (hk : k ≤ l.length) (vb : Value) (b : List UInt8) (hvb : Bytes W W.heap.size vb b) (hap : ∀ j, vb.ownBlock = some j → ¬ AllM m H j ∧ j < W.heap.size) :
    Calls Tryz.prog 35 #[.agg #[v, .int .i64 ep, vc, .int .i64 at'], .int .i64 (k : Int), vb] W fun e w' => ∃ x, e = .returned x ∧ IsErr a x (fromC up ep at' b us k (l.drop k)).2 ∧ UnimStep D w W g H m 128 (N + l.length) (fromC up ep at' b us k (l.drop k)).1 w' := by
  obtain ⟨b0, o0, c0, rfl, _, hrow6⟩ := rowM_form h.ups.1 (h.rows W (Kept.refl _ _))
  clear hrow6
  obtain ⟨hcl, A1, c1, rfl, hcu⟩ := row_ints hc.1
  clear hcu hcl
  obtain ⟨Ab, cb, rfl, _⟩ := hvb.form
  obtain ⟨W0, hW0⟩ : ∃ W0, W.alloc (.cells #[.slice (some ⟨b0, o0, none⟩) m c0, .int .i64 ep, .slice A1 l.length c1, .int .i64 at'] 79) = W0 := ⟨_, rfl⟩
  have B0 := Lib.hid (show Below W.heap.size W W0 from by rw [← hW0]; exact (Below.refl W.heap.size W).alloc (Nat.le_refl _) _)
  have P0 := Lib.hid (show SpotW W0 W.heap.size (.slice (some ⟨b0, o0, none⟩) m c0) ep (.slice A1 l.length c1) at' from by rw [← hW0]; exact SpotW.new W _ _ _ _)
  have CP := Lib.hid (fun (wr : World) (us' : Nat → UnitD) (j : Nat) (hj : j < l.length) (hs : UnimStep D w W0 g H m 128 (N + j) us' wr) =>
    (show Calls Tryz.prog 45 #[.agg #[.slice (some ⟨b0, o0, none⟩) m c0, .int .i64 ep, .slice A1 l.length c1, .int .i64 at'], .int .i64 (j : Int), .slice Ab b.length cb] wr fun e w' => ∃ x, e = .returned x ∧ IsErr a x (putC up ep at' b us' l[j] (j == 0)).2 ∧ UnimStep D w W0 g H m 128 (N + (j + 1)) (putC up ep at' b us' l[j] (j == 0)).1 w' from by
      have h0 := h.below hD B0.out
      obtain ⟨H', hC, g2, g3⟩ := h0.step hs
      have hv0 := (hvb.below B0.out).more B0.out.size
      refine (swrite_any hD hE (by omega) hC ep at' l _ (RowS.kept (RowS.below hc B0.out) g3 h0.above) j hj _ b (Row.more (row_kept hv0 g3 (Nat.le_refl _) (fun k e => (hap k e).1)) g3.size) (fun j' hj' ⟨i, hi, e⟩ => ?_)).mono ?_
      · rcases g2 i j' e with e | e
        · exact (hap j' hj').1 ⟨i, hi, e⟩
        · have := (hap j' hj').2; have := B0.out.size; omega
      · rintro e w' ⟨x, he, hx, hs⟩
        exact ⟨x, he, hx, UnimStep.trans g2 g3 hs⟩))
  have HS0 := Lib.hid (show UnimStep D w W0 g H m 128 (N + k) us W0 from (UnimStep.refl hD (h.unis.below hD B0.out) (Below.refl _ _)).mono (by omega))
  have HFr := Lib.hid (show ¬ AllM m H W.heap.size from fun e => by have := (h.unis.lt _ e).2; omega)
  obtain ⟨R, hR⟩ : ∃ R, fromC up ep at' b us k (l.drop k) = R := ⟨_, rfl⟩
  have HR := Lib.hid hR
  rw [hR]
  clear hc hvb hap h hR hE
  go_enter Tryz.func35, Tryz.ntmps35
  go_wp2_with fail
  clear hW0
  go_loopw [1] (fun i wr => ∃ (j : Nat) (us' : Nat → UnitD), i = .int .i64 j ∧ j ≤ l.length ∧ Hid (fromC up ep at' b us' j (l.drop j) = R) ∧ Hid (UnimStep D w W0 g H m 128 (N + j) us' wr)) (fun i _ => l.length - (intOf i).toNat)
  case atStart => exact ⟨k, us, rfl, hk, HR, HS0⟩
  case round =>
    obtain ⟨j, us', rfl, hj, hf, hs⟩ := hrel
    have PR := Lib.hid (show SpotW wr W.heap.size _ _ _ _ from by
      obtain ⟨_, _, _, g3⟩ := hs.out
      exact P0.out.kept g3 HFr.out)
    obtain ⟨p0, p1, p2, p3⟩ := PR.out.facts
    by_cases hlj : j < l.length
    · have hd : l.drop j = l[j] :: l.drop (j + 1) := List.drop_eq_getElem_cons hlj
      have hf := hf.out
      rw [hd, from_cons] at hf
      have C1 := CP.out wr us' j hlj hs.out
      obtain ⟨r, hr⟩ : ∃ r, putC up ep at' b us' l[j] (j == 0) = r := ⟨_, rfl⟩
      rw [hr] at C1 hf
      have C1 := Lib.hid C1
      have i1 : (j : Int) < (l.length : Int) := by omega
      by_cases hm0 : r.2 = 0
      · rw [if_neg (by rw [hm0]; simp)] at hf
        have HF := Lib.hid hf
        have HM0 := Lib.hid hm0
        clear hf hd hr hm0 hs
        go_wp2_with fail
        refine C1.out.mono ?_
        rintro e w1 ⟨x1, rfl, hx1, hs1⟩
        obtain rfl := isErr_zero hx1 HM0.out
        have HS1 := Lib.hid hs1
        clear hs1 C1 p0 p1 p2 p3 hx1
        go_wp2_with fail
        go_roundw
        case rel => exact ⟨j + 1, r.1, by go_num, by omega, HF, HS1⟩
        case measure => simp [intOf]; omega
      · rw [if_pos hm0] at hf
        have HF := Lib.hid hf
        have HM0 := Lib.hid hm0
        clear hf hd hr hm0 hs
        go_wp2_with fail
        refine C1.out.mono ?_
        rintro e w1 ⟨x1, rfl, hx1, hs1⟩
        obtain ⟨ad, rfl⟩ := isErr_pos hx1 HM0.out
        have HX1 := Lib.hid hx1
        have HS1 := Lib.hid (UnimStep.after B0.out (hs1.mono (show N + (j + 1) ≤ N + l.length by omega)))
        clear hs1 C1 p0 p1 p2 p3 hx1
        go_wp2_with fail
        go_ret
        exact ⟨_, rfl, by rw [← HF.out]; exact HX1.out, by rw [← HF.out]; exact HS1.out⟩
    · have hje : j = l.length := by omega
      have hf := hf.out
      rw [hje, List.drop_length] at hf
      have HF := Lib.hid hf
      have HS := Lib.hid (UnimStep.after B0.out (hs.out.mono (show N + j ≤ N + l.length by omega)))
      have i1 : ¬ (j : Int) < (l.length : Int) := by omega
      clear hf hs CP hje
      go_wp2_with fail
      go_ret
      exact ⟨_, rfl, by rw [← HF.out]; exact isErr_nil a, by rw [← HF.out]; exact HS.out⟩
def finV (vb : Value) (k : Nat) : Value := if k = 0 then vb else .slice none 0 0
set_option maxRecDepth 100000 in
set_option maxHeartbeats 1000000 in
theorem finish_any (hD : DvSpec (three a) D) (hE : Errs w a) (h : UCall D w W lo g H m us up v vp cs N) (ep at' : Int) (l : List Int) (hN : N + l.length ≤ 90000) (vc : Value) (hc : RowS W lo vc (int64s l)) (hl : 1 ≤ l.length) (vb : Value) (b : List UInt8) (hvb : Bytes W W.heap.size vb b) (hap : ∀ j, vb.ownBlock = some j → ¬ AllM m H j ∧ j < W.heap.size) :
    Calls Tryz.prog 38 #[.agg #[v, .int .i64 ep, vc, .int .i64 at'], vb] W fun e w' => ∃ x, e = .returned (.tuple #[finV vb (fromC up ep at' b us 1 (l.drop 1)).2, x]) ∧ IsErr a x (fromC up ep at' b us 1 (l.drop 1)).2 ∧ UnimStep D w W g H m 128 (N + l.length) (fromC up ep at' b us 1 (l.drop 1)).1 w' := by
  obtain ⟨b0, o0, c0, rfl, _, hrow6⟩ := rowM_form h.ups.1 (h.rows W (Kept.refl _ _))
  clear hrow6
  obtain ⟨hcl, A1, c1, rfl, hcu⟩ := row_ints hc.1
  clear hcu hcl
  obtain ⟨Ab, cb, rfl, _⟩ := hvb.form
  obtain ⟨W0, hW0⟩ : ∃ W0, W.alloc (.cells #[.slice (some ⟨b0, o0, none⟩) m c0, .int .i64 ep, .slice A1 l.length c1, .int .i64 at'] 79) = W0 := ⟨_, rfl⟩
  have B0 := Lib.hid (show Below W.heap.size W W0 from by rw [← hW0]; exact (Below.refl W.heap.size W).alloc (Nat.le_refl _) _)
  have P0 := Lib.hid (show SpotW W0 W.heap.size (.slice (some ⟨b0, o0, none⟩) m c0) ep (.slice A1 l.length c1) at' from by rw [← hW0]; exact SpotW.new W _ _ _ _)
  have h0 := h.below hD B0.out
  have CF := sfrom_any hD hE h0 ep at' l hN _ (RowS.below hc B0.out) 1 hl _ b ((hvb.below B0.out).more B0.out.size) (fun j hj => ⟨(hap j hj).1, Nat.lt_of_lt_of_le (hap j hj).2 B0.out.size⟩)
  obtain ⟨R, hR⟩ : ∃ R, fromC up ep at' b us 1 (l.drop 1) = R := ⟨_, rfl⟩
  rw [hR] at CF ⊢
  have CF := Lib.hid CF
  obtain ⟨p0, p1, p2, p3⟩ := P0.out.facts
  clear hc hvb hap h h0 hR hE
  by_cases hm0 : R.2 = 0
  · have HM0 := Lib.hid hm0
    clear hm0
    go_enter Tryz.func38, Tryz.ntmps38
    go_wp2_with fail
    refine CF.out.mono ?_
    rintro e w1 ⟨x1, rfl, hx1, hs1⟩
    obtain rfl := isErr_zero hx1 HM0.out
    have HX1 := Lib.hid hx1
    have HS1 := Lib.hid (UnimStep.after B0.out hs1)
    clear hs1 CF p0 p1 p2 p3 hx1 hW0
    go_wp2_with fail
    go_ret2
    exact ⟨_, by unfold finV; rw [if_pos HM0.out] <;> rfl, HX1.out, HS1.out⟩
  · have HM0 := Lib.hid hm0
    clear hm0
    go_enter Tryz.func38, Tryz.ntmps38
    go_wp2_with fail
    refine CF.out.mono ?_
    rintro e w1 ⟨x1, rfl, hx1, hs1⟩
    obtain ⟨ad, rfl⟩ := isErr_pos hx1 HM0.out
    have HX1 := Lib.hid hx1
    have HS1 := Lib.hid (UnimStep.after B0.out hs1)
    clear hs1 CF p0 p1 p2 p3 hx1 hW0
    go_wp2_with fail
    go_ret2
    exact ⟨_, by unfold finV; rw [if_neg HM0.out] <;> rfl, HX1.out, HS1.out⟩
end
end Go.Proofs.YtiafamacjpgjoaaGreatDoor

/- Package chain: place. -/
namespace Go.Proofs.YtiafamacjpgjoaaGreatDoor
open Go Go.RowKit Tide

def CPlaceIs (a : Nat → Addr) (ep : Int) (cs : List (List Int)) (q : Int) (lo : Nat → Prop) (W : World) (v : Value) (y : Value) : Prop :=
  (placeE ep cs q ≠ 0 ∧ ∃ x, y = .tuple #[.agg #[.slice none 0 0, .int .i64 0, .slice none 0 0, .int .i64 0], x] ∧ IsErr a x (placeE ep cs q)) ∨ (placeE ep cs q = 0 ∧ ∃ vc, y = .tuple #[.agg #[v, .int .i64 ep, vc, .int .i64 (q / cs.length)], .nilIface] ∧ RowS W lo vc (int64s (chainAt cs q)))
theorem errs_er2 {a : Nat → Addr} {W : World} (hE : Errs W a) : Er2 W a := ⟨hE.var 0 (by decide), hE.var 3 (by decide), World.block_lt_of_cell? _ _ (hE.var 0 (by decide)), World.block_lt_of_cell? _ _ (hE.var 3 (by decide))⟩
abbrev put4 (W : World) (g : Nat) (p q r s : Value) : World := (((W.setCell ⟨g, 0, none⟩ p).setCell ⟨g, 1, none⟩ q).setCell ⟨g, 2, none⟩ r).setCell ⟨g, 3, none⟩ s
theorem SpotW.put {W : World} {s : Nat} {v : Value} {ep : Int} {vc : Value} {own : Int} (h : SpotW W s v ep vc own) (v' : Value) (ep' : Int) (vc' : Value) (own' : Int) : SpotW (put4 W s v' (.int .i64 ep') vc' (.int .i64 own')) s v' ep' vc' own' :=
  heap_setCell_same _ _ _ _ _ _ (heap_setCell_same _ _ _ _ _ _ (heap_setCell_same _ _ _ _ _ _ (heap_setCell_same _ _ _ _ _ _ h)))
theorem SpotW.free {W : World} {s : Nat} {v : Value} {ep : Int} {vc : Value} {own : Int} (h : SpotW W s v ep vc own) (i : Nat) : W.frozen? ⟨s, i, none⟩ = false := frozen_of_row _ _ i _ _ h
theorem put4_below {W0 W : World} {B g : Nat} (h : Below B W0 W) (hg : B ≤ g) (p q r s : Value) : Below B W0 (put4 W g p q r s) :=
  (((h.setCell (p := ⟨g, 0, none⟩) hg p).setCell (p := ⟨g, 1, none⟩) hg q).setCell (p := ⟨g, 2, none⟩) hg r).setCell (p := ⟨g, 3, none⟩) hg s
section
variable {D : DvP} {a x : Nat → Addr} {w W W' : World} {lo : Nat → Prop} {m N M : Nat} {g : Nat → Nat} {H : Nat → Nat → Prop} {us us' : Nat → UnitD} {up : Nat → Bool} {v vp : Value} {cs : List (List Int)}
set_option maxRecDepth 100000 in
set_option maxHeartbeats 2000000 in
theorem cplace_any (hD : DvSpec (three a) D) (hE : Errs w a) (h : UCall D w W lo g H m us up v vp cs N) (ep q : Int) :
    Calls Tryz.prog 34 #[v, planV ep vp, .int .i64 q] W fun e w' => ∃ y, e = .returned y ∧ CPlaceIs a ep cs q lo w' v y ∧ Below W.heap.size W w' := by
  obtain ⟨b0, o0, c0, rfl, _, hrow6⟩ := rowM_form h.ups.1 (h.rows W (Kept.refl _ _))
  clear hrow6
  obtain ⟨A, c, rfl, hcl⟩ := h.grid.form
  obtain ⟨W0, hW0⟩ : ∃ W0, W.alloc (.cells #[.int .i64 ep, .slice A cs.length c] 24) = W0 := ⟨_, rfl⟩
  have B0 := Lib.hid (show Below W.heap.size W W0 from by rw [← hW0]; exact (Below.refl W.heap.size W).alloc (Nat.le_refl _) _)
  have P0 := Lib.hid (show Two W0 W.heap.size 24 (.int .i64 ep) (.slice A cs.length c) from by rw [← hW0]; exact Two.new W _ _ _)
  obtain ⟨W1, hW1⟩ : ∃ W1, W0.alloc (.cells #[.slice none 0 0, .int .i64 0, .slice none 0 0, .int .i64 0] 79) = W1 := ⟨_, rfl⟩
  have B1 := Lib.hid (show Below W0.heap.size W0 W1 from by rw [← hW1]; exact (Below.refl W0.heap.size W0).alloc (Nat.le_refl _) _)
  have S1 := Lib.hid (show SpotW W1 W0.heap.size (.slice none 0 0) 0 (.slice none 0 0) 0 from by rw [← hW1]; exact SpotW.new W0 _ _ _ _)
  have HC := Lib.hid (h.below hD (B0.out.trans (B1.out.mono B0.out.size)))
  have CP := Lib.hid (place_any a ep cs (.slice A cs.length c) q W1.heap.size W1 HC.out.grid.grid (Nat.le_refl _) (errs_er2 (HC.out.errs hE)))
  obtain ⟨hpl, p0, p1, _⟩ := (P0.out.below B1.out P0.out.lt).facts
  have HB1 := Lib.hid (B0.out.trans (B1.out.mono B0.out.size))
  have HGr := Lib.hid (fun (W2 : World) (hb : Below W1.heap.size W1 W2) => (HC.out.below hD hb).grid)
  have HP := Lib.hid (fun h => @right_parts ep cs h)
  have HCL := Lib.hid hcl
  clear h hD hE hcl
  have hcase : placeE ep cs q = 4 ∧ rightB ep cs = false ∨ placeE ep cs q = 1 ∧ rightB ep cs = true ∧ ¬ (0 ≤ q ∧ q ≤ 4095) ∨ placeE ep cs q = 0 ∧ rightB ep cs = true ∧ 0 ≤ q ∧ q ≤ 4095 := by
    unfold placeE
    cases hr : rightB ep cs with
    | false => exact .inl ⟨by rw [if_pos rfl], rfl⟩
    | true =>
      rw [if_neg (by decide)]
      by_cases hq : q < 0 ∨ 4095 < q
      · exact .inr (.inl ⟨by rw [if_pos hq], rfl, by omega⟩)
      · exact .inr (.inr ⟨by rw [if_neg hq], rfl, by omega, by omega⟩)
  rcases hcase with ⟨he, hr⟩ | ⟨he, hr, hq⟩ | ⟨he, hr, hq0, hq1⟩
  · have CP := Lib.hid (CP.out.mono (R' := fun e w' => e = .returned (.tuple #[.int .i64 0, .int .i64 0, errAt (a 3)]) ∧ Below W1.heap.size W1 w') (fun e w' ⟨x, h1, h2, h3⟩ => by
      rcases h2 with ⟨_, rfl⟩ | ⟨h, _⟩ | ⟨h, _⟩
      · exact ⟨h1, h3⟩
      · rw [hr] at h; cases h
      · rw [hr] at h; cases h))
    have HE := Lib.hid he
    clear he hr HP HCL
    go_enter Tryz.func34, Tryz.ntmps34
    go_wp2_with fail
    refine CP.out.mono ?_
    rintro e w2 ⟨rfl, hb⟩
    have S2 := Lib.hid (S1.out.below hb)
    obtain ⟨s0, s1, s2, s3⟩ := S2.out.facts
    have f0 := S2.out.free 0
    have f1 := S2.out.free 1
    have f2 := S2.out.free 2
    have f3 := S2.out.free 3
    have E4 := Lib.hid (S2.out.put (.slice none 0 0) 0 (.slice none 0 0) 0).facts
    have HB2 := Lib.hid (HB1.out.trans (hb.mono HB1.out.size))
    clear hb CP p0 p1
    go_wp2_with fail
    obtain ⟨e0, e1, e2, e3⟩ := E4.out
    exact bodyPost_ret (v := .tuple #[.agg #[.slice none 0 0, .int .i64 0, .slice none 0 0, .int .i64 0], errAt (a 3)]) (by simp [results, Tryz.results34, go_sem, e0, e1, e2, e3]) rfl ⟨_, rfl, .inl ⟨by rw [HE.out]; decide, _, rfl, by rw [HE.out]; exact isErr_at a 3 (by decide)⟩, put4_below HB2.out B0.out.size _ _ _ _⟩
  · have CP := Lib.hid (CP.out.mono (R' := fun e w' => e = .returned (.tuple #[.int .i64 0, .int .i64 0, errAt (a 0)]) ∧ Below W1.heap.size W1 w') (fun e w' ⟨x, h1, h2, h3⟩ => by
      rcases h2 with ⟨h, _⟩ | ⟨_, _, rfl⟩ | ⟨_, h4, h5, _⟩
      · rw [hr] at h; cases h
      · exact ⟨h1, h3⟩
      · exact absurd ⟨h4, h5⟩ hq))
    have HE := Lib.hid he
    clear he hr hq HP HCL
    go_enter Tryz.func34, Tryz.ntmps34
    go_wp2_with fail
    refine CP.out.mono ?_
    rintro e w2 ⟨rfl, hb⟩
    have S2 := Lib.hid (S1.out.below hb)
    obtain ⟨s0, s1, s2, s3⟩ := S2.out.facts
    have f0 := S2.out.free 0
    have f1 := S2.out.free 1
    have f2 := S2.out.free 2
    have f3 := S2.out.free 3
    have E4 := Lib.hid (S2.out.put (.slice none 0 0) 0 (.slice none 0 0) 0).facts
    have HB2 := Lib.hid (HB1.out.trans (hb.mono HB1.out.size))
    clear hb CP p0 p1
    go_wp2_with fail
    obtain ⟨e0, e1, e2, e3⟩ := E4.out
    exact bodyPost_ret (v := .tuple #[.agg #[.slice none 0 0, .int .i64 0, .slice none 0 0, .int .i64 0], errAt (a 0)]) (by simp [results, Tryz.results34, go_sem, e0, e1, e2, e3]) rfl ⟨_, rfl, .inl ⟨by rw [HE.out]; decide, _, rfl, by rw [HE.out]; exact isErr_at a 0 (by decide)⟩, put4_below HB2.out B0.out.size _ _ _ _⟩
  · have CP := Lib.hid (CP.out.mono (R' := fun e w' => e = .returned (.tuple #[.int .i64 (q % cs.length), .int .i64 (q / cs.length), .nilIface]) ∧ Below W1.heap.size W1 w') (fun e w' ⟨x, h1, h2, h3⟩ => by
      rcases h2 with ⟨h, _⟩ | ⟨_, h, _⟩ | ⟨_, _, _, rfl⟩
      · rw [hr] at h; cases h
      · exact absurd ⟨hq0, hq1⟩ h
      · exact ⟨h1, h3⟩))
    have hn := HP.out hr
    have n1 := hn.2.2.1
    have n3 := hn.2.2.2.1
    obtain ⟨k, hk⟩ : ∃ k : Nat, q.toNat % cs.length = k := ⟨_, rfl⟩
    have hkl : k < cs.length := by rw [← hk]; exact Nat.mod_lt _ (by omega)
    have hkI : q % (cs.length : Int) = (k : Int) := by rw [← hk, Int.natCast_emod]; congr 1; omega
    obtain ⟨b, o, u, rfl, hbB, hcu, hrow⟩ := HCL.out k hkl
    obtain ⟨_, Au, cu, rfl, _⟩ := row_ints hrow.1
    have HX := Lib.hid (show RowS W lo (.slice Au cs[k].length cu) (int64s (chainAt cs q)) from by rw [int64s_chain hkl hk]; exact hrow)
    rw [hkI] at CP
    have HE := Lib.hid he
    have hbW := Lib.hid hbB
    have HCU := Lib.hid hcu
    have nk : (k : Int) < (cs.length : Int) := by omega
    clear he hr HP HCL hn hk hkI hcu hrow n1 n3
    go_enter Tryz.func34, Tryz.ntmps34
    go_wp2_with fail
    refine CP.out.mono ?_
    rintro e w2 ⟨rfl, hb⟩
    have S2 := Lib.hid (S1.out.below hb)
    obtain ⟨s0, s1, s2, s3⟩ := S2.out.facts
    have f0 := S2.out.free 0
    have f1 := S2.out.free 1
    have f2 := S2.out.free 2
    have f3 := S2.out.free 3
    have HB2 := Lib.hid (HB1.out.trans (hb.mono HB1.out.size))
    obtain ⟨_, p0, p1, _⟩ := (P0.out.below (B1.out.trans (hb.mono B1.out.size)) P0.out.lt).facts
    have hcu := (HB2.out.cell (p := ⟨b, o + k, none⟩) hbW.out).trans HCU.out
    clear hb CP
    go_wp2_with fail
    clear HCU
    have E4 := Lib.hid (S2.out.put (.slice (some ⟨b0, o0, none⟩) m c0) ep (.slice Au cs[k].length cu) (q / cs.length)).facts
    have HB3 := Lib.hid (put4_below HB2.out B0.out.size (.slice (some ⟨b0, o0, none⟩) m c0) (.int .i64 ep) (.slice Au cs[k].length cu) (.int .i64 (q / cs.length))).drew
    go_region_law (fail)
    all_goals go_wp2_with fail
    all_goals obtain ⟨e0, e1, e2, e3⟩ := E4.out
    all_goals exact bodyPost_ret (v := .tuple #[.agg #[.slice (some ⟨b0, o0, none⟩) m c0, .int .i64 ep, .slice Au cs[k].length cu, .int .i64 (q / cs.length)], .nilIface]) (by simp [results, Tryz.results34, go_sem, e0, e1, e2, e3]) rfl ⟨_, rfl, .inr ⟨HE.out, _, rfl, RowS.below HX.out HB3.out⟩, HB3.out⟩
end
end Go.Proofs.YtiafamacjpgjoaaGreatDoor

/- Package chain: Others, Write, Step. -/
namespace Go.Proofs.YtiafamacjpgjoaaGreatDoor
open Go Go.RowKit Tide

section
variable {D : DvP} {a x : Nat → Addr} {w W W' : World} {lo : Nat → Prop} {m N M : Nat} {g : Nat → Nat} {H : Nat → Nat → Prop} {us us' : Nat → UnitD} {up : Nat → Bool} {v vp : Value} {cs : List (List Int)}
set_option maxRecDepth 100000 in
set_option maxHeartbeats 1000000 in
theorem cwrite_any (hD : DvSpec (three a) D) (hE : Errs w a) (h : UCall D w W lo g H m us up v vp cs N) (hN : N + 3 ≤ 90000) (ep q : Int) (vb : Value) (b : List UInt8) (hvb : Bytes W W.heap.size vb b) (hap : ∀ j, vb.ownBlock = some j → ¬ AllM m H j ∧ j < W.heap.size) :
    Calls Tryz.prog 11 #[v, planV ep vp, .int .i64 q, vb] W fun e w' => ∃ x, e = .returned x ∧ IsErr a x (writeC up ep cs q b us).2 ∧ UnimStep D w W g H m 128 (N + 3) (writeC up ep cs q b us).1 w' := by
  obtain ⟨A, c, rfl, hcl⟩ := h.grid.form
  obtain ⟨b0, o0, c0, rfl, _, hrow6⟩ := rowM_form h.ups.1 (h.rows W (Kept.refl _ _))
  clear hrow6 hcl
  obtain ⟨W0, hW0⟩ : ∃ W0, W.alloc (.cells #[.int .i64 ep, .slice A cs.length c] 24) = W0 := ⟨_, rfl⟩
  have B0 := Lib.hid (show Below W.heap.size W W0 from by rw [← hW0]; exact (Below.refl W.heap.size W).alloc (Nat.le_refl _) _)
  have P0 := Lib.hid (show Two W0 W.heap.size 24 (.int .i64 ep) (.slice A cs.length c) from by rw [← hW0]; exact Two.new W _ _ _)
  have HD := Lib.hid hD
  have HE := Lib.hid hE
  have HC := Lib.hid (h.below hD B0.out)
  have CP := Lib.hid (cplace_any hD hE HC.out ep q)
  have HVb := Lib.hid hvb
  have HAp := Lib.hid hap
  obtain ⟨_, p0, p1, _⟩ := P0.out.facts
  clear h hD hE hvb hap
  by_cases he : placeE ep cs q = 0
  · have hx := Lib.hid (show writeC up ep cs q b us = fromC up ep (q / cs.length) b us 0 (chainAt cs q) from by unfold writeC; rw [if_neg (by rw [he]; decide)])
    rw [hx.out]
    have hlen := place_ok he
    obtain ⟨l, hl⟩ : ∃ l, chainAt cs q = l := ⟨_, rfl⟩
    obtain ⟨at', hat⟩ : ∃ z, q / (cs.length : Int) = z := ⟨_, rfl⟩
    rw [hl] at hlen
    have HE0 := Lib.hid he
    obtain ⟨r, hr⟩ : ∃ r, fromC up ep at' b us 0 l = r := ⟨_, rfl⟩
    have CF := Lib.hid (fun (W1 : World) (vc : Value) (hb : Below W0.heap.size W0 W1) (hc : RowS W1 lo vc (int64s l)) => by
      have h1 := HC.out.below HD.out hb
      have hbw := B0.out.trans (hb.mono B0.out.size)
      have := sfrom_any HD.out HE.out h1 ep at' l (by omega) vc hc 0 (Nat.zero_le _) _ b ((HVb.out.below hbw).more hbw.size) (fun j hj => ⟨(HAp.out j hj).1, Nat.lt_of_lt_of_le (HAp.out j hj).2 hbw.size⟩)
      rw [List.drop_zero, hr] at this
      exact this)
    have HRow := Lib.hid (fun (W1 : World) (vc : Value) (hc : RowS W1 lo vc (int64s (chainAt cs q))) => show RowS W1 lo vc (int64s l) from hl ▸ hc)
    rw [hl, hat, hr]
    have HAt := Lib.hid hat
    have HL := Lib.hid hlen
    clear he hlen hl hat hr hx
    go_enter Tryz.func11, Tryz.ntmps11
    go_wp2_with fail
    refine CP.out.mono ?_
    rintro e w1 ⟨y, rfl, hy, hb⟩
    rcases hy with ⟨hne, _⟩ | ⟨_, vc, rfl, hrow⟩
    · exact absurd HE0.out hne
    have hrow := HRow.out _ _ hrow
    rw [HAt.out]
    obtain ⟨_, A1, c1, rfl, _⟩ := row_ints hrow.1
    obtain ⟨W1, hW1⟩ : ∃ W1, w1.alloc (.cells #[.slice (some ⟨b0, o0, none⟩) m c0, .int .i64 ep, .slice A1 l.length c1, .int .i64 at'] 79) = W1 := ⟨_, rfl⟩
    have B1 := Lib.hid (show Below W0.heap.size W0 W1 from by rw [← hW1]; exact hb.alloc hb.size _)
    have S1 := Lib.hid (show SpotW W1 w1.heap.size (.slice (some ⟨b0, o0, none⟩) m c0) ep (.slice A1 l.length c1) at' from by rw [← hW1]; exact SpotW.new w1 _ _ _ _)
    have C1 := Lib.hid (CF.out W1 _ B1.out (by rw [← hW1]; exact RowS.below hrow ((Below.refl w1.heap.size w1).alloc (Nat.le_refl _) _)))
    obtain ⟨s0, s1, s2, s3⟩ := S1.out.facts
    clear hb hrow CF CP HRow
    go_wp2_with fail
    refine C1.out.mono ?_
    rintro e w2 ⟨x2, rfl, hx2, hs⟩
    have HX := Lib.hid hx2
    have HS := Lib.hid (UnimStep.after (B0.out.trans (B1.out.mono B0.out.size)) (hs.mono (show N + l.length ≤ N + 3 by have := HL.out; omega)))
    clear hs hx2 C1 s0 s1 s2 s3 hW1
    go_wp2_with fail
    go_ret
    exact ⟨_, rfl, HX.out, HS.out⟩
  · have hx := Lib.hid (show writeC up ep cs q b us = (us, placeE ep cs q) from by unfold writeC; rw [if_pos he])
    rw [hx.out]
    have HE0 := Lib.hid he
    clear he hx
    go_enter Tryz.func11, Tryz.ntmps11
    go_wp2_with fail
    refine CP.out.mono ?_
    rintro e w1 ⟨y, rfl, hy, hb⟩
    rcases hy with ⟨_, x1, rfl, hx1⟩ | ⟨hne, _⟩
    · obtain ⟨ad, rfl⟩ := isErr_pos hx1 HE0.out
      have HX := Lib.hid hx1
      have HS := Lib.hid (fun (W2 : World) (hb2 : Below w1.heap.size w1 W2) => (UnimStep.after B0.out ((UnimStep.refl HD.out HC.out.unis (hb.trans (hb2.mono hb.size))).mono (show N ≤ N + 3 by omega))))
      clear hb hx1 CP
      go_wp2_with fail
      go_ret
      exact ⟨_, rfl, HX.out, HS.out _ ((Below.refl _ _).alloc (Nat.le_refl _) _)⟩
    · exact absurd hne HE0.out
end
end Go.Proofs.YtiafamacjpgjoaaGreatDoor
