/- What the document's own tidewaterref04.Num and Text answer: bytes of the call's own. -/
import Derived.Test.YtcpanaokfbojnaaGreatDoorGMem
import Derived.Test.YtcpanaokfbojnaaGreatDoorGKeep
import Derived.Test.YtcpanaokfbojnaaGreatDoorGApp
import Derived.WalkKit
import Derived.WalkSpells
import Derived.IntWalk
namespace Go.Proofs.YtcpanaokfbojnaaGreatDoor
open Go.RowKit Tide

def OwnR (l : List UInt8) (w : World) (e : Ending) (w' : World) : Prop := ∃ v, e = .returned v ∧ w'.ownsRow w.heap.size 5 1 v l.length (u8s l) ∧ Below w.heap.size w w'

theorem own_one (w : World) (base g : Nat) (n : Int) (c : UInt8) (hg : g = w.heap.size) (hb : base ≤ w.heap.size) (h : n = (c.toNat : Int)) :
    (w.alloc (.cells #[.int .u8 n] 5)).ownsRow base 5 1 (.slice (some ⟨g, 0, none⟩) 1 1) 1 (u8s [c]) :=
  own_new _ _ _ _ _ _ _ _ hg hb (Nat.le_refl _) (by simp [maxLen]) rfl (by rw [h]; rfl)
theorem low_byte (n : Nat) (h : n < 128) : ((n : Int) % 256) = ((UInt8.ofNat n).toNat : Int) := by
  rw [UInt8.toNat_ofNat_of_lt' (show n < 256 by omega)]
  omega
theorem high_byte (n : Nat) : (n : Int) % 128 + 128 = ((UInt8.ofNat (n % 128 + 128)).toNat : Int) := by
  rw [UInt8.toNat_ofNat_of_lt' (show n % 128 + 128 < 256 by omega)]
  omega

set_option maxHeartbeats 1000000 in
theorem rnum7_any : ∀ (n : Nat) (w : World), n < 2 ^ 62 → Calls Tryz.prog 47 #[.int .i64 (n : Nat)] w (OwnR (num7 n) w)
  | n, w, hn => by
    obtain ⟨i0, hi, hz0, hz1, hz2⟩ := info_parts infoB
    have HI := Lib.hid hi
    clear hi
    by_cases h0 : n < 128
    · have HN := Lib.hid (num7_lt h0)
      have HO := Lib.hid (own_one w w.heap.size w.heap.size _ _ rfl (Nat.le_refl _) (low_byte n h0))
      have hq : decide ((n : Int) < 128) = true := by simp; omega
      clear h0
      go_enter Tryz.func47, Tryz.ntmps47
      go_wp2_with fail
      go_ret
      exact ⟨_, rfl, by rw [HN.out]; exact HO.out, (Below.refl _ _).alloc (Nat.le_refl _) _⟩
    · have HN := Lib.hid (num7_ge h0)
      have HO := Lib.hid (own_one w w.heap.size w.heap.size _ _ rfl (Nat.le_refl _) (high_byte n))
      have ih := Lib.hid (fun W => rnum7_any (n / 128) W (by omega))
      have HL := Lib.hid (num7_len9 (show n / 128 < 2 ^ 62 by omega))
      have HN2 := Lib.hid (show num7 n = [UInt8.ofNat (n % 128 + 128)] ++ num7 (n / 128) from HN.out)
      have hq : decide ((n : Int) < 128) = false := by simp; omega
      clear h0
      go_enter Tryz.func47, Tryz.ntmps47
      go_wp2_with fail
      refine (ih.out _).mono ?_
      rintro e w1 ⟨v, rfl, hown, hb⟩
      have HO1 := Lib.hid (own_below HO.out hb)
      have HR := Lib.hid (Row.of_own hown (Nat.le_refl _))
      have HB := Lib.hid (((Below.refl w.heap.size w).alloc (Nat.le_refl _) _).trans (hb.mono (by simp)))
      clear hown hb
      clear HN
      generalize num7 n = r at *
      generalize num7 (n / 128) = l at *
      generalize UInt8.ofNat (n % 128 + 128) = c at *
      go_wp2_with (at_builtin; refine wpList_append_bytes _ rfl (.tmp 12) (.tmp 15) _ rfl w.heap.size 5 i0 Tryz.underlying45 HI.out hz0 hz1 hz2 _ [c] rfl HO1.out w1.heap.size _ l rfl HR.out r HN2.out ?d2 ?d3 ?_)
      case d2 => have := HL.out; simp; omega
      case d3 => exact HB.out.size
      intro v4 w4 hown4 hg4 _
      have hb5 := HB.out.grown hg4 HB.out.size (fun g hg => by simp [Value.ownBlock] at hg; omega)
      have HO4 := Lib.hid hown4
      clear hown4 hg4
      go_wp2_with fail
      go_ret
      exact ⟨_, rfl, HO4.out, hb5⟩
termination_by n => n
decreasing_by omega

theorem text_len {s : ByteArray} (hs : s.size ≤ 65536) : (num7 s.size).length ≤ 9 := num7_len9 (by omega)
set_option maxHeartbeats 1000000 in
theorem rtext7_any (s : ByteArray) (w : World) (hs : s.size ≤ 65536) : Calls Tryz.prog 48 #[.string s] w (OwnR (text7 s) w) := by
  obtain ⟨i0, hi, hz0, hz1, hz2⟩ := info_parts infoB
  have HI := Lib.hid hi
  have HL := Lib.hid (text_len hs)
  have cN := rnum7_any s.size w (by omega)
  have HX := Lib.hid (show text7 s = num7 s.size ++ s.data.toList from rfl)
  clear hi
  generalize num7 s.size = l at *
  generalize text7 s = r at *
  go_enter Tryz.func48, Tryz.ntmps48
  go_wp2_with fail
  refine cN.mono ?_
  rintro e w1 ⟨v, rfl, hown, hb⟩
  have HO1 := Lib.hid hown
  have HB := Lib.hid hb
  clear hown hb cN
  go_wp2_with (at_builtin; refine wpList_append_text _ rfl (.tmp 5) (.tmp 6) _ _ rfl w.heap.size 5 i0 Tryz.underlying45 Tryz.underlying9 HI.out hz0 hz1 hz2 v l rfl HO1.out s rfl r HX.out ?d1 ?d2 ?_)
  case d1 => have := HL.out; omega
  case d2 => exact HB.out.size
  intro v4 w4 hown4 hg4 _
  have hb5 := HB.out.grown hg4 HB.out.size (fun g hg => (HO1.out.lt g hg).1)
  have HO4 := Lib.hid hown4
  clear hown4 hg4
  go_wp2_with fail
  go_ret
  exact ⟨_, rfl, HO4.out, hb5⟩
end Go.Proofs.YtcpanaokfbojnaaGreatDoor
