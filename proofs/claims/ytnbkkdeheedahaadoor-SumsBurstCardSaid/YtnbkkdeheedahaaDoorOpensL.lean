/- The law of Open, walked: the code's answers and the document's are the same, for all bytes. -/
import Derived.Test.YtnbkkdeheedahaaDoorOpenW
import Derived.Test.YtnbkkdeheedahaaDoorROpenG
namespace Go.Proofs.YtnbkkdeheedahaaDoor
open Go.RowKit Tide

/-- What all bytes are opened to: the bytes, what is behind, the error's number. -/
def opened (L : List UInt8) : List UInt8 × List UInt8 × Nat :=
  if L.length < 6 then ([], [], 2) else
  if 2048 < leNum (L.take 2) then ([], [], 3) else
  if L.length < leNum (L.take 2) + 6 then ([], [], 2) else
  if leNum ((L.drop 2).take 4) = Crc.sum (L.take 2 ++ (L.drop 6).take (leNum (L.take 2))) then ((L.drop 6).take (leNum (L.take 2)), L.drop (leNum (L.take 2) + 6), 0) else ([], [], 5)
/-- The error of a number. -/
def IsErr (a : Nat → Addr) (x : Value) (k : Nat) : Prop := (k = 0 ∧ x = .nilIface) ∨ ∃ m, m < 19 ∧ k = m + 1 ∧ x = errAt (a m)
theorem num_any (a : Nat → Addr) (x : Value) (k : Nat) (w : World) (hE : Errs w a) (hx : IsErr a x k) :
    Calls Tryd.prog 14 #[x] w fun e w' => e = .returned (.int .i64 (k : Int)) ∧ Below w.heap.size w w' := by
  rcases hx with ⟨rfl, rfl⟩ | ⟨m, hm, rfl, rfl⟩
  · exact (num_nil w).mono fun _ _ ⟨h1, h2⟩ => ⟨h1, h2 ▸ Below.refl _ _⟩
  · exact (num_err a m hm w hE).mono fun _ _ ⟨h1, h2⟩ => ⟨by rw [h1]; push_cast; rfl, h2⟩

/-- Three answers: bytes, bytes and an error. -/
def Opened (a : Nat → Addr) (r : List UInt8 × List UInt8 × Nat) (w : World) (e : Ending) (w' : World) : Prop :=
  ∃ v1 v2 x, e = .returned (.tuple #[v1, v2, x]) ∧ Bytes w' w'.heap.size v1 r.1 ∧ Bytes w' w'.heap.size v2 r.2.1 ∧ IsErr a x r.2.2 ∧ Below w.heap.size w w'
theorem opened_bad {a : Nat → Addr} {m : Nat} (hm : m < 19) {w w' : World} {e : Ending} (h : BadOpen (errAt (a m)) w e w') : Opened a ([], [], m + 1) w e w' :=
  ⟨_, _, _, h.1, bytes_nil' _ _, bytes_nil' _ _, .inr ⟨m, hm, rfl, rfl⟩, h.2⟩
theorem open_all (v : Value) (L : List UInt8) (w : World) (a : Nat → Addr) (hp : Bytes w w.heap.size v L) (ht : TabIn w) (hE : Errs w a) (hLL : L.length ≤ 65536) :
    Calls Tryd.prog 16 #[v] w (Opened a (opened L) w) := by
  unfold opened
  by_cases h1 : L.length < 6
  · rw [if_pos h1]
    exact (open_short v L _ w a hp hE h1).mono fun _ _ h => opened_bad (by omega) h
  rw [if_neg h1]
  by_cases h2 : 2048 < leNum (L.take 2)
  · rw [if_pos h2]
    exact (open_long v L _ w a hp hE (by omega) h2).mono fun _ _ h => opened_bad (by omega) h
  rw [if_neg h2]
  by_cases h3 : L.length < leNum (L.take 2) + 6
  · rw [if_pos h3]
    exact (open_cut v L _ w a hp hE (by omega) (by omega) h3).mono fun _ _ h => opened_bad (by omega) h
  rw [if_neg h3]
  by_cases h4 : leNum ((L.drop 2).take 4) = Crc.sum (L.take 2 ++ (L.drop 6).take (leNum (L.take 2)))
  · rw [if_pos h4]
    exact (open_good v L w hp ht hLL _ rfl (by omega) (by omega) h4).mono fun _ _ ⟨v1, v2, h, hb1, hb2, hb⟩ => ⟨v1, v2, _, h, hb1, hb2, .inl ⟨rfl, rfl⟩, hb⟩
  · rw [if_neg h4]
    exact (open_sum v L w a hp ht hE _ rfl (by omega) (by omega) h4).mono fun _ _ h => opened_bad (by omega) h
/-- The document's three answers. -/
def OpenedN (r : List UInt8 × List UInt8 × Nat) (w : World) (e : Ending) (w' : World) : Prop :=
  ∃ v1 v2, e = .returned (.tuple #[v1, v2, .int .i64 r.2.2]) ∧ Bytes w' w'.heap.size v1 r.1 ∧ Bytes w' w'.heap.size v2 r.2.1 ∧ Below w.heap.size w w'
theorem openedN_bad {m : Nat} {w w' : World} {e : Ending} (h : BadNum m w e w') : OpenedN ([], [], m) w e w' := ⟨_, _, h.1, bytes_nil' _ _, bytes_nil' _ _, h.2⟩
theorem ropen_all (v : Value) (L : List UInt8) (w : World) (hp : Bytes w w.heap.size v L) (hLL : L.length ≤ 65536) :
    Calls Tryd.prog 18 #[v] w (OpenedN (opened L) w) := by
  unfold opened
  by_cases h1 : L.length < 6
  · rw [if_pos h1]
    exact (ropen_short v L _ w hp h1).mono fun _ _ h => openedN_bad h
  rw [if_neg h1]
  by_cases h2 : 2048 < leNum (L.take 2)
  · rw [if_pos h2]
    exact (ropen_long v L _ w hp (by omega) h2).mono fun _ _ h => openedN_bad h
  rw [if_neg h2]
  by_cases h3 : L.length < leNum (L.take 2) + 6
  · rw [if_pos h3]
    exact (ropen_cut v L _ w hp (by omega) (by omega) h3).mono fun _ _ h => openedN_bad h
  rw [if_neg h3]
  by_cases h4 : leNum ((L.drop 2).take 4) = Crc.sum (L.take 2 ++ (L.drop 6).take (leNum (L.take 2)))
  · rw [if_pos h4]
    exact (ropen_good v L w hp hLL _ rfl (by omega) (by omega) h4).mono fun _ _ ⟨v1, v2, h, hb1, hb2, hb⟩ => ⟨v1, v2, h, hb1, hb2, hb⟩
  · rw [if_neg h4]
    exact (ropen_sum v L w hp _ rfl (by omega) (by omega) h4).mono fun _ _ h => openedN_bad h

set_option maxHeartbeats 400000 in
theorem opens_law (v : Value) (L : List UInt8) (w : World) (a : Nat → Addr) (hp : Bytes w w.heap.size v L) (ht : TabIn w) (hE : Errs w a) :
    Calls Tryd.prog 5 #[v] w fun e w' => e = .returned (.bool true) ∧ Below w.heap.size w w' := by
  have HT := Lib.hid ht
  have HE := Lib.hid hE
  have HP := Lib.hid hp
  have hlen := hp.len
  obtain ⟨A, c, rfl, _, _, _⟩ := hp.form
  clear ht hE hp
  by_cases hl : 3000 < L.length
  · go_enter Tryd.func5, Tryd.ntmps5
    go_wp2_with fail
    refine (alive_any _ HT.out).mono ?_
    rintro e w1 ⟨rfl, hb1⟩
    go_wp2_with fail
    go_ret
    exact ⟨rfl, hb1⟩
  · go_enter Tryd.func5, Tryd.ntmps5
    go_wp2_with fail
    refine (alive_any _ HT.out).mono ?_
    rintro e w1 ⟨rfl, hb1⟩
    have HB1 := Lib.hid hb1
    have HP1 := Lib.hid ((HP.out.below hb1).more hb1.size)
    clear hb1
    go_wp2_with fail
    refine (nbytes_any _ L _ HP1.out (by omega)).mono ?_
    rintro e w2 ⟨vi, rfl, hri, hb2⟩
    have HB2 := Lib.hid (HB1.out.trans (hb2.mono HB1.out.size))
    have HRI := Lib.hid hri
    have HP2 := Lib.hid ((HP1.out.below hb2).more hb2.size)
    clear hri hb2
    go_wp2_with fail
    refine (open_all _ L _ a HRI.out.bytes (HT.out.below HB2.out) (HE.out.below HB2.out) (by omega)).mono ?_
    rintro e w3 ⟨v1, v2, x, rfl, h1, h2, hx, hb3⟩
    have HB3 := Lib.hid (HB2.out.trans (hb3.mono HB2.out.size))
    have HP3 := Lib.hid ((HP2.out.below hb3).more hb3.size)
    have HRI3 := Lib.hid ((HRI.out.below hb3).more hb3.size)
    have H1 := Lib.hid h1
    have H2 := Lib.hid h2
    have HX := Lib.hid hx
    clear h1 h2 hx hb3
    go_wp2_with fail
    refine (ropen_all _ L _ HP3.out (by omega)).mono ?_
    rintro e w4 ⟨v3, v4, rfl, h3, h4, hb4⟩
    have HB4 := Lib.hid (HB3.out.trans (hb4.mono HB3.out.size))
    have HP4 := Lib.hid ((HP3.out.below hb4).more hb4.size)
    have HRI4 := Lib.hid ((HRI3.out.below hb4).more hb4.size)
    have c1 := conv_bytes (H1.out.below hb4)
    have c2 := conv_bytes (H2.out.below hb4)
    have c3 := conv_bytes h3
    have c4 := conv_bytes h4
    generalize hO : opened L = O at *
    obtain ⟨body, rest, k⟩ := O
    have HO := Lib.hid hO
    clear h3 h4 hb4 hO
    simp only at c1 c2 c3 c4
    go_wp2_with fail
    clear c1 c2 c3 c4
    refine (num_any a x k _ (HE.out.below HB4.out) HX.out).mono ?_
    rintro e w5 ⟨rfl, hb5⟩
    have HB5 := Lib.hid (HB4.out.trans (hb5.mono HB4.out.size))
    have hr5 := HRI4.out.below hb5
    have hp5 := HP4.out.below hb5
    clear hb5
    go_wp2_with fail
    refine (kept_yes _ _ L _ _ hr5 hp5 (by omega)).mono ?_
    rintro e w6 ⟨rfl, n, rfl⟩
    clear hr5 hp5
    go_wp2_with fail
    go_ret
    exact ⟨rfl, below_drewN HB5.out n⟩
end Go.Proofs.YtnbkkdeheedahaaDoor
