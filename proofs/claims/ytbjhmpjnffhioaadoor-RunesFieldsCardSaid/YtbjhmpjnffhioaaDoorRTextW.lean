/- Lemmas for tidewaterref02.Text: the cells of a rune's bytes, an own row of bytes as a text. -/
import Derived.Test.YtbjhmpjnffhioaaDoorRCmpW
import Derived.Test.YtbjhmpjnffhioaaDoorApp
import Derived.Laws.BytesArg
import Derived.Laws.IdiomStrings
namespace Go.Proofs.YtbjhmpjnffhioaaDoor
open Go.RowKit Tide Utf

theorem infoU : (Tryd.prog.info? 5).map (fun i => (i.zero, i.size, i.bytes)) = some (some (.int .u8 0), 1, 1) := by kernel_rfl
theorem u8c (n : Nat) (h : n < 256) : Value.int .u8 ((UInt8.ofNat n).toNat : Int) = .int .u8 (n : Int) := by
  rw [UInt8.toNat_ofNat_of_lt' (by simpa using h)]
theorem e1 (c : Nat) (h : c < 128) : [Value.int .u8 (c : Int)] = u8s (enc c) := by
  unfold enc; rw [if_pos h]
  simp only [u8s, List.map_cons, List.map_nil]
  rw [u8c c (by omega)]
theorem e2 (c : Nat) (h1 : ¬ c < 128) (h : c < 2048) : [Value.int .u8 (192 + (c : Int) / 64), .int .u8 (128 + (c : Int) % 64)] = u8s (enc c) := by
  unfold enc; rw [if_neg h1, if_pos h]
  simp only [u8s, List.map_cons, List.map_nil]
  rw [u8c _ (by omega), u8c _ (by omega)]
  simp
theorem e3 (c : Nat) (h1 : ¬ c < 2048) (h : c < 65536) : [Value.int .u8 (224 + (c : Int) / 4096), .int .u8 (128 + (c : Int) / 64 % 64), .int .u8 (128 + (c : Int) % 64)] = u8s (enc c) := by
  unfold enc; rw [if_neg (by omega), if_neg h1, if_pos h]
  simp only [u8s, List.map_cons, List.map_nil]
  rw [u8c _ (by omega), u8c _ (by omega), u8c _ (by omega)]
  simp
theorem e4 (c : Nat) (h1 : ¬ c < 65536) (h : c ≤ 1114111) : [Value.int .u8 (240 + (c : Int) / 262144), .int .u8 (128 + (c : Int) / 4096 % 64), .int .u8 (128 + (c : Int) / 64 % 64), .int .u8 (128 + (c : Int) % 64)] = u8s (enc c) := by
  unfold enc; rw [if_neg (by omega), if_neg (by omega), if_neg h1]
  simp only [u8s, List.map_cons, List.map_nil]
  rw [u8c _ (by omega), u8c _ (by omega), u8c _ (by omega), u8c _ (by omega)]
  simp
theorem enc_len (c : Nat) : (enc c).length ≤ 4 := by
  unfold enc
  split
  · simp
  · split
    · simp
    · split <;> simp
theorem own_text {w : World} {base : Nat} {v : Value} {l : List UInt8} (h : w.ownsRow base 5 1 v l.length (u8s l)) : (convert 48 9 v).run Tryd.prog w = .ok (.string ⟨l.toArray⟩) w := by
  have hb := Bytes.of_own h
  obtain ⟨A, c, rfl, _, _, hc⟩ := hb.form
  rcases A with _ | a
  · have hl : l = [] := by
      rcases l with _ | ⟨x, l⟩
      · rfl
      · obtain ⟨_, _, h', _⟩ := hc 0 (by simp)
        cases h'
    subst hl
    exact run_convert_bytes_nil (P := Tryd.prog) w 48 5 Tryd.underlying48 Tryd.underlying5 _ c 9 Tryd.underlying9
  · refine run_convert_bytes_back (P := Tryd.prog) w 48 9 5 a c l Tryd.underlying48 Tryd.underlying5 Tryd.underlying9 (fun j hj => ?_)
    obtain ⟨b, o, e, _, hc'⟩ := hc j hj
    injection e with e
    subst e
    rw [show (⟨b, o, none⟩ : Addr).add j = ⟨b, o + j, none⟩ by unfold Addr.add; split <;> simp_all]
    exact hc' j hj

end Go.Proofs.YtbjhmpjnffhioaaDoor
