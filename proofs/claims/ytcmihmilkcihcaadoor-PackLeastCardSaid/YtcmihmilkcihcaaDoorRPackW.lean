/- What the document's own tidewaterref04.Num, Text and Nums answer: bytes of the call's own. -/
import Derived.Test.YtcmihmilkcihcaaDoorNum7
import Derived.Test.YtcmihmilkcihcaaDoorKeep
import Derived.Test.YtcmihmilkcihcaaDoorAppS
import Derived.Test.YtcmihmilkcihcaaDoorLaw
import Derived.WalkKit
import Derived.WalkSpells
import Derived.IntWalk
namespace Go.Proofs.YtcmihmilkcihcaaDoor
open Go.RowKit Tide

/-- Bytes of the call's own are handed back. -/
def OwnR (l : List UInt8) (w : World) (e : Ending) (w' : World) : Prop := ∃ v, e = .returned v ∧ w'.ownsRow w.heap.size 5 1 v l.length (u8s l) ∧ Below w.heap.size w w'

theorem byte_of (n : Nat) (h : n < 256) : Value.int .u8 (n : Int) = .int .u8 ((UInt8.ofNat n).toNat : Int) := by
  rw [UInt8.toNat_ofNat_of_lt' h]

/-- A row of one byte, made new. -/
theorem own_one (w : World) (base g : Nat) (n : Int) (c : UInt8) (hg : g = w.heap.size) (hb : base ≤ w.heap.size) (h : n = (c.toNat : Int)) :
    (w.alloc (.cells #[.int .u8 n] 5)).ownsRow base 5 1 (.slice (some ⟨g, 0, none⟩) 1 1) 1 (u8s [c]) :=
  own_new _ _ _ _ _ _ _ _ hg hb (Nat.le_refl _) (by simp [maxLen]) rfl (by rw [h]; rfl)
theorem low_byte (n : Nat) (h : n < 128) : ((n : Int) % 256) = ((UInt8.ofNat n).toNat : Int) := by
  rw [UInt8.toNat_ofNat_of_lt' (show n < 256 by omega)]
  omega
theorem high_byte (n : Nat) : (n : Int) % 128 + 128 = ((UInt8.ofNat (n % 128 + 128)).toNat : Int) := by
  rw [UInt8.toNat_ofNat_of_lt' (show n % 128 + 128 < 256 by omega)]
  omega

set_option maxHeartbeats 1000000 in
theorem rnum7_any : ∀ (n : Nat) (w : World), n < 2 ^ 62 → Calls Tryd.prog 10 #[.int .i64 (n : Nat)] w (OwnR (num7 n) w)
  | n, w, hn => by
    obtain ⟨i0, hi, hz0, hz1, hz2⟩ := info_parts infoB
    have HI := Lib.hid hi
    clear hi
    by_cases h0 : n < 128
    · have HN := Lib.hid (num7_lt h0)
      have HO := Lib.hid (own_one w w.heap.size w.heap.size _ _ rfl (Nat.le_refl _) (low_byte n h0))
      have hq : decide ((n : Int) < 128) = true := by simp; omega
      clear h0
      go_enter Tryd.func10, Tryd.ntmps10
      go_wp2_with fail
      go_ret
      exact ⟨_, rfl, by rw [HN.out]; exact HO.out, (Below.refl _ _).alloc (Nat.le_refl _) _⟩
    · have HN := Lib.hid (num7_ge h0)
      have HO := Lib.hid (own_one w w.heap.size w.heap.size _ _ rfl (Nat.le_refl _) (high_byte n))
      have ih := Lib.hid (fun W => rnum7_any (n / 128) W (by omega))
      have HL := Lib.hid (num7_len9 (show n / 128 < 2 ^ 62 by omega))
      have HN2 := Lib.hid (show num7 n = [UInt8.ofNat (n % 128 + 128)] ++ num7 (n / 128) from HN.out)
      have hq : decide ((n : Int) < 128) = false := by simp; omega
      clear h0
      go_enter Tryd.func10, Tryd.ntmps10
      go_wp2_with fail
      refine (ih.out _).mono ?_
      rintro e w1 ⟨v, rfl, hown, hb⟩
      have HO1 := Lib.hid (own_below HO.out hb)
      have HR := Lib.hid (Row.of_own hown (Nat.le_refl _))
      have HB := Lib.hid (((Below.refl w.heap.size w).alloc (Nat.le_refl _) _).trans (hb.mono (by simp)))
      clear hown hb
      clear HN
      generalize num7 n = r at *
      generalize num7 (n / 128) = l at *
      generalize UInt8.ofNat (n % 128 + 128) = c at *
      go_wp2_with (at_builtin; refine wpList_append_bytes _ rfl (.tmp 12) (.tmp 15) _ rfl w.heap.size 5 i0 Tryd.underlying26 HI.out hz0 hz1 hz2 _ [c] rfl HO1.out w1.heap.size _ l rfl HR.out r HN2.out ?d2 ?d3 ?_)
      case d2 => have := HL.out; simp; omega
      case d3 => exact HB.out.size
      intro v4 w4 hown4 hg4 _
      have hb5 := HB.out.grown hg4 HB.out.size (fun g hg => by simp [Value.ownBlock] at hg; omega)
      have HO4 := Lib.hid hown4
      clear hown4 hg4
      go_wp2_with fail
      go_ret
      exact ⟨_, rfl, HO4.out, hb5⟩
termination_by n => n
decreasing_by omega

theorem text_len {s : ByteArray} (hs : s.size ≤ 65536) : (num7 s.size).length ≤ 9 := num7_len9 (by omega)
set_option maxHeartbeats 1000000 in
theorem rtext7_any (s : ByteArray) (w : World) (hs : s.size ≤ 65536) : Calls Tryd.prog 12 #[.string s] w (OwnR (text7 s) w) := by
  obtain ⟨i0, hi, hz0, hz1, hz2⟩ := info_parts infoB
  have HI := Lib.hid hi
  have HL := Lib.hid (text_len hs)
  have cN := rnum7_any s.size w (by omega)
  have HX := Lib.hid (show text7 s = num7 s.size ++ s.data.toList from rfl)
  clear hi
  generalize num7 s.size = l at *
  generalize text7 s = r at *
  go_enter Tryd.func12, Tryd.ntmps12
  go_wp2_with fail
  refine cN.mono ?_
  rintro e w1 ⟨v, rfl, hown, hb⟩
  have HO1 := Lib.hid hown
  have HB := Lib.hid hb
  clear hown hb cN
  go_wp2_with (at_builtin; refine wpList_append_text _ rfl (.tmp 5) (.tmp 6) _ _ rfl w.heap.size 5 i0 Tryd.underlying26 Tryd.underlying9 HI.out hz0 hz1 hz2 v l rfl HO1.out s rfl r HX.out ?d1 ?d2 ?_)
  case d1 => have := HL.out; omega
  case d2 => exact HB.out.size
  intro v4 w4 hown4 hg4 _
  have hb5 := HB.out.grown hg4 HB.out.size (fun g hg => (HO1.out.lt g hg).1)
  have HO4 := Lib.hid hown4
  clear hown4 hg4
  go_wp2_with fail
  go_ret
  exact ⟨_, rfl, HO4.out, hb5⟩

/-- A slice of numbers from nought on. -/
def nat64s (l : List Nat) : List Value := l.map fun n => Value.int .i64 (n : Nat)
theorem nat64s_length (l : List Nat) : (nat64s l).length = l.length := by simp [nat64s]
theorem flat_len {l : List Nat} (h : ∀ n ∈ l, n < 2 ^ 62) : (l.flatMap num7).length ≤ 9 * l.length := by
  induction l with
  | nil => simp
  | cons n l ih =>
    rw [List.flatMap_cons, List.length_append, List.length_cons]
    have := num7_len9 (h n (by simp))
    have := ih (fun m hm => h m (by simp [hm]))
    omega
theorem flat_snoc (l : List Nat) (k : Nat) (h : k < l.length) : (l.take (k + 1)).flatMap num7 = (l.take k).flatMap num7 ++ num7 (l.getD k 0) := by
  rw [List.take_succ_eq_append_getElem h, List.flatMap_append, List.getD_eq_getElem?_getD, List.getElem?_eq_getElem h]
  simp
theorem nums_form {w : World} {B : Nat} {v : Value} {l : List Nat} (h : Row w B v (nat64s l)) : ∃ A c, v = .slice A l.length c ∧ ∀ j, j < l.length → ∃ b o, A = some ⟨b, o, none⟩ ∧ b < B ∧ ∀ j, j < l.length → w.cell? ⟨b, o + j, none⟩ = some (.int .i64 (l.getD j 0 : Nat)) := by
  obtain ⟨_, A, c, rfl, _, _, hc⟩ := h
  refine ⟨A, c, by rw [nat64s_length], fun j hj => ?_⟩
  obtain ⟨b, o, e, hb, hcell⟩ := hc (by intro e; have := nat64s_length l; rw [e] at this; simp at this; omega)
  refine ⟨b, o, e, hb, fun i hi => hcell i _ ?_⟩
  simp [nat64s, hi]

set_option maxHeartbeats 2000000 in
theorem rnums7_any (v : Value) (l : List Nat) (w : World) (hr : Row w w.heap.size v (nat64s l)) (hl : l.length ≤ 65536) (hn : ∀ n ∈ l, n < 2 ^ 62) : Calls Tryd.prog 14 #[v] w (OwnR (nums7 l) w) := by
  obtain ⟨i0, hi, hz0, hz1, hz2⟩ := info_parts infoB
  have HI := Lib.hid hi
  have HL := Lib.hid (num7_len9 (show l.length < 2 ^ 62 by omega))
  have cN := rnum7_any l.length w (by omega)
  have HX := Lib.hid (show nums7 l = num7 l.length ++ l.flatMap num7 from rfl)
  obtain ⟨A, c, rfl, hcell⟩ := nums_form hr
  have HC := Lib.hid hcell
  have HN := Lib.hid hn
  clear hi hr hcell hn
  generalize nums7 l = r at *
  generalize num7 l.length = h at *
  go_enter Tryd.func14, Tryd.ntmps14
  go_wp2_with fail
  refine cN.mono ?_
  rintro e w1 ⟨v, rfl, hown, hb⟩
  have HO1 := Lib.hid hown
  have HB := Lib.hid hb
  clear hown hb cN
  go_wp2_with fail
  go_loopw [3, 11] (fun u i wr => ∃ (k : Nat) (q : List UInt8), i = .int .i64 k ∧ k ≤ l.length ∧ q.length ≤ 9 + 9 * k ∧ Hid (q = h ++ (l.take k).flatMap num7) ∧ wr.ownsRow w.heap.size 5 1 u q.length (u8s q) ∧ Below w.heap.size w wr) (fun _ i _ => l.length - (intOf i).toNat)
  case atStart => exact ⟨0, h, rfl, Nat.zero_le _, by have := HL.out; omega, Lib.hid (by simp), HO1.out, HB.out⟩
  case round =>
    obtain ⟨k, q, rfl, hk, hq, hqe, hown, hb⟩ := hrel
    have HOr := Lib.hid hown
    have HBr := Lib.hid hb
    clear hown hb
    by_cases hlt : k < l.length
    · obtain ⟨b, o, rfl, hbl, hcell⟩ := HC.out k hlt
      have hc : ∀ W, Below w.heap.size w W → W.cell? ⟨b, o + k, none⟩ = some (.int .i64 (l.getD k 0 : Nat)) := fun W h => (h.cell (p := ⟨b, o + k, none⟩) hbl).trans (hcell k hlt)
      have hc1 := hc _ HBr.out
      have hm : l.getD k 0 ∈ l := by
        rw [List.getD_eq_getElem?_getD, List.getElem?_eq_getElem hlt]; exact List.getElem_mem hlt
      have cN2 := Lib.hid (fun W => rnum7_any (l.getD k 0) W (HN.out _ hm))
      have hq9 := num7_len9 (HN.out _ hm)
      have hqq := Lib.hid (show q ++ num7 (l.getD k 0) = h ++ (l.take (k + 1)).flatMap num7 by rw [flat_snoc l k hlt, hqe.out, List.append_assoc])
      clear hc hm
      generalize num7 (l.getD k 0) = t at *
      generalize l.getD k 0 = n at *
      go_wp2_with fail
      refine (cN2.out _).mono ?_
      rintro e w3 ⟨v3, rfl, hown3, hb3⟩
      have HO3 := Lib.hid (own_below HOr.out hb3)
      have HR3 := Lib.hid (Row.of_own hown3 (Nat.le_refl _))
      have HB3 := Lib.hid (HBr.out.trans (hb3.mono HBr.out.size))
      clear hown3 hb3 hc1
      have hq2 : (q ++ t).length = q.length + t.length := List.length_append
      generalize hr2 : q ++ t = r2 at *
      have HR2 := Lib.hid hr2.symm
      have HQ2 := Lib.hid hq2
      clear hr2 hq2
      go_wp2_with (at_builtin; refine wpList_append_bytes _ rfl (.tmp 15) (.tmp 17) _ rfl w.heap.size 5 i0 Tryd.underlying26 HI.out hz0 hz1 hz2 _ q rfl HO3.out w3.heap.size _ t rfl HR3.out r2 HR2.out ?d1 ?d2 ?_)
      case d1 => omega
      case d2 => exact HB3.out.size
      intro v4 w4 hown4 hg4 _
      have hb5 := HB3.out.grown hg4 HB3.out.size (fun g hg => (HO3.out.lt g hg).1)
      have HO4 := Lib.hid hown4
      have HB4 := Lib.hid hb5
      clear hown4 hg4 hb5
      go_wp2_with fail
      go_roundw
      case rel => exact ⟨k + 1, r2, by go_num, by omega, by have := HQ2.out; omega, hqq, HO4.out, HB4.out⟩
      case measure => simp [intOf]; omega
    · have hall := Lib.hid (show q = r by rw [hqe.out, HX.out, List.take_of_length_le (by omega)])
      go_wp2_with fail
      go_ret
      exact ⟨_, rfl, by rw [← hall.out]; exact HOr.out, HBr.out⟩
end Go.Proofs.YtcmihmilkcihcaaDoor
