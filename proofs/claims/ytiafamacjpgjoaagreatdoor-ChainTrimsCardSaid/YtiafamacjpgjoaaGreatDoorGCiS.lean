/- []byte of a text. It speaks of no law. -/
import Derived.Test.YtiafamacjpgjoaaGreatDoorGCiT
import Derived.Test.YtiafamacjpgjoaaGreatDoorGPlR
import Derived.Test.YtiafamacjpgjoaaGreatDoorGPlW
import Derived.Test.YtiafamacjpgjoaaGreatDoorGPush
import Derived.Test.YtiafamacjpgjoaaGreatDoorGSgT
import Derived.Test.YtiafamacjpgjoaaGreatDoorGUlR
import Derived.Test.YtiafamacjpgjoaaGreatDoorGMem
import Derived.Test.YtiafamacjpgjoaaGreatDoorGKeep
import Derived.Test.YtiafamacjpgjoaaGreatDoorGApp
import Derived.Deep.LoopGhost
import Derived.Deep.RegionHeld3
import Derived.Deep.RegionHeld
import Derived.Deep.DeepCutAuto
import Derived.Deep.CutBlock
import Derived.Lib.SlBytesConst
import Derived.Lib.ConvBytes
import Derived.WalkSpells
namespace Go.Proofs.YtiafamacjpgjoaaGreatDoor
open Go Go.RowKit Tide

theorem conv_str (w : World) (l : List UInt8) (hl : l.length ≤ 100000) : ∃ v w', (convert 9 47 (.string ⟨l.toArray⟩)).run Tryz.prog w = .ok v w' ∧ Bytes w' w'.heap.size v l ∧ Below w.heap.size w w' := by
  have hs : (⟨l.toArray⟩ : ByteArray).size = l.length := by show l.toArray.size = _; simp
  have hb : Below w.heap.size w (Lib.bytesWorld w 5 ⟨l.toArray⟩) := ⟨rfl, rfl, rfl, by rw [Lib.bytesWorld_size]; omega, fun k hk => Lib.bytesWorld_at_old w _ _ k hk⟩
  refine ⟨_, _, Lib.run_convert_string_bytes w 9 47 5 ⟨l.toArray⟩ Tryz.underlying9 Tryz.underlying47 Tryz.underlying5, ?_, hb⟩
  have hcap : (⟨l.toArray⟩ : ByteArray).size ≤ grownCap w (⟨l.toArray⟩ : ByteArray).size 0 5 := grownCap_ge w _ _ _
  have hcap2 : grownCap w (⟨l.toArray⟩ : ByteArray).size 0 5 ≤ 9223372036854775807 := by
    have := grownCap_le_maxLen w (⟨l.toArray⟩ : ByteArray).size 0 5 (by rw [hs]; unfold maxLen; omega)
    unfold maxLen at this; exact this
  refine ⟨by rw [u8s_length]; omega, some ⟨w.heap.size, 0, none⟩, _, by rw [u8s_length, hs], by rw [u8s_length, ← hs]; exact hcap, hcap2, fun _ => ⟨w.heap.size, 0, rfl, by rw [Lib.bytesWorld_size]; omega, fun j u hu => ?_⟩⟩
  have hj : j < l.length := by
    have := (List.getElem?_eq_some_iff.1 hu).1
    rwa [u8s_length] at this
  rw [Nat.zero_add, Lib.bytesWorld_cell w _ _ j (by rw [hs]; exact hj), ← hu, u8s_get l j hj]
  simp [hj]
end Go.Proofs.YtiafamacjpgjoaaGreatDoor

/- []byte of a text, as functions of the memory. -/
namespace Go.Proofs.YtiafamacjpgjoaaGreatDoor
open Go Go.RowKit Tide

def txC (w : World) (l : List UInt8) : Nat := grownCap w (⟨l.toArray⟩ : ByteArray).size 0 5
abbrev txV (w : World) (l : List UInt8) : Value := .slice (some ⟨w.heap.size, 0, none⟩) l.length (txC w l)
def txW (w : World) (l : List UInt8) : World := Lib.bytesWorld w 5 ⟨l.toArray⟩
theorem tx_run (w : World) (l : List UInt8) : (convert 9 47 (.string ⟨l.toArray⟩)).run Tryz.prog w = .ok (txV w l) (txW w l) := by
  rw [Lib.run_convert_string_bytes w 9 47 5 ⟨l.toArray⟩ Tryz.underlying9 Tryz.underlying47 Tryz.underlying5]
  rfl
theorem tx_facts (w : World) (l : List UInt8) (hl : l.length ≤ 100000) : Bytes (txW w l) (txW w l).heap.size (txV w l) l ∧ Below w.heap.size w (txW w l) ∧ (∀ j, (txV w l).ownBlock = some j → j = w.heap.size) ∧ w.heap.size < (txW w l).heap.size := by
  obtain ⟨v, w', h1, h2, h3⟩ := conv_str w l hl
  rw [tx_run w l] at h1
  injection h1 with h1 h4
  subst h1 h4
  refine ⟨h2, h3, fun j e => ?_, ?_⟩
  · injection e with e
    exact e.symm
  · show w.heap.size < (Lib.bytesWorld w 5 ⟨l.toArray⟩).heap.size
    rw [Lib.bytesWorld_size]; omega
end Go.Proofs.YtiafamacjpgjoaaGreatDoor
/- Package chain: firstKept, which searches; sort.Search for its closure; a unit's trim. -/
namespace Go.Proofs.YtiafamacjpgjoaaGreatDoor
open Go Go.RowKit Tide

set_option maxRecDepth 100000 in
set_option maxHeartbeats 1000000 in
theorem kept1_any (ep : Int) (cs : List (List Int)) (v : Value) (lo : Nat) (W : World) (hg : Grid W lo v cs) (hlo : lo ≤ W.heap.size) (gp gc gt : Nat) (ch o tz : Int)
    (h0 : W.cell? ⟨gp, 0, none⟩ = some (.int .i64 ep)) (h1 : W.cell? ⟨gp, 1, none⟩ = some v) (h2 : W.cell? ⟨gc, 0, none⟩ = some (.int .i64 ch)) (h3 : W.cell? ⟨gt, 0, none⟩ = some (.int .i64 tz)) (hl : gp < W.heap.size ∧ gc < W.heap.size ∧ gt < W.heap.size) :
    Calls Tryz.prog 73 #[.int .i64 o, .pointer (some ⟨gp, 0, none⟩), .pointer (some ⟨gc, 0, none⟩), .pointer (some ⟨gt, 0, none⟩)] W fun e w' => e = .returned (.bool (decide (tz ≤ addrI ep cs ch o))) ∧ Below W.heap.size W w' := by
  obtain ⟨_, A, c, rfl, _⟩ := hg.form
  have CA := Lib.hid (addr_any ep cs (.slice A cs.length c) ch o lo W.drew (hg.below ((Below.refl W.heap.size W).drew.mono hlo)) hlo)
  obtain ⟨x, hx⟩ : ∃ x, addrI ep cs ch o = x := ⟨_, rfl⟩
  rw [hx] at CA ⊢
  have K1 := Lib.hid (And.intro h0 (And.intro h1 (And.intro h2 h3)))
  have HL := Lib.hid hl
  clear hg hlo hx h0 h1 h2 h3 hl
  have hd : Hid (decide (tz ≤ x) = decide (tz ≤ x)) := Lib.hid rfl
  cases q : decide (tz ≤ x) with
  | true =>
    clear hd
    go_enter Tryz.func73, Tryz.ntmps73
    go_wp2_with fail
    go_region_held3 (fun Y => Y.cell? ⟨gp, 0, none⟩ = some (.int .i64 ep) ∧ Y.cell? ⟨gp, 1, none⟩ = some (.slice A cs.length c) ∧ Y.cell? ⟨gc, 0, none⟩ = some (.int .i64 ch) ∧ Y.cell? ⟨gt, 0, none⟩ = some (.int .i64 tz))
      (first | exact K1.out | exact K2.out)
      (first
        | ((with_reducible refine CA.out.mono ?_); rintro en w2 ⟨rfl, hb2⟩; have HB2 := Lib.hid hb2; have K2 := Lib.hid (And.intro ((hb2.cell (p := ⟨gp, 0, none⟩) HL.out.1).trans K1.out.1) (And.intro ((hb2.cell (p := ⟨gp, 1, none⟩) HL.out.1).trans K1.out.2.1) (And.intro ((hb2.cell (p := ⟨gc, 0, none⟩) HL.out.2.1).trans K1.out.2.2.1) ((hb2.cell (p := ⟨gt, 0, none⟩) HL.out.2.2).trans K1.out.2.2.2))))))
    clear K1 K2 CA hb2
    go_wp2_with fail
    go_ret
    exact ⟨rfl, (Below.refl _ _).drew.trans HB2.out⟩
  | false =>
    clear hd
    go_enter Tryz.func73, Tryz.ntmps73
    go_wp2_with fail
    go_region_held3 (fun Y => Y.cell? ⟨gp, 0, none⟩ = some (.int .i64 ep) ∧ Y.cell? ⟨gp, 1, none⟩ = some (.slice A cs.length c) ∧ Y.cell? ⟨gc, 0, none⟩ = some (.int .i64 ch) ∧ Y.cell? ⟨gt, 0, none⟩ = some (.int .i64 tz))
      (first | exact K1.out | exact K2.out)
      (first
        | ((with_reducible refine CA.out.mono ?_); rintro en w2 ⟨rfl, hb2⟩; have HB2 := Lib.hid hb2; have K2 := Lib.hid (And.intro ((hb2.cell (p := ⟨gp, 0, none⟩) HL.out.1).trans K1.out.1) (And.intro ((hb2.cell (p := ⟨gp, 1, none⟩) HL.out.1).trans K1.out.2.1) (And.intro ((hb2.cell (p := ⟨gc, 0, none⟩) HL.out.2.1).trans K1.out.2.2.1) ((hb2.cell (p := ⟨gt, 0, none⟩) HL.out.2.2).trans K1.out.2.2.2))))))
    clear K1 K2 CA hb2
    go_wp2_with fail
    go_ret
    exact ⟨rfl, (Below.refl _ _).drew.trans HB2.out⟩
theorem search_any (W : World) (n : Nat) (hn : n ≤ 100000) (p : Nat → Bool) (gp gc gt r : Nat) (hr : r ≤ n) (hlo : ∀ i, i < r → p i = false) (hhi : ∀ i, r ≤ i → i < n → p i = true)
    (hC : ∀ (W' : World) (i : Nat), Below W.heap.size W W' → i < n → Calls Tryz.prog 73 #[.int .i64 (i : Int), .pointer (some ⟨gp, 0, none⟩), .pointer (some ⟨gc, 0, none⟩), .pointer (some ⟨gt, 0, none⟩)] W' fun e w' => e = .returned (.bool (p i)) ∧ Below W'.heap.size W' w') :
    Calls Tryz.prog 72 #[.int .i64 (n : Int), .func (.func 73) #[] #[.pointer (some ⟨gp, 0, none⟩), .pointer (some ⟨gc, 0, none⟩), .pointer (some ⟨gt, 0, none⟩)]] W fun e w' => e = .returned (.int .i64 (r : Int)) ∧ Below W.heap.size W w' := by
  have HC := Lib.hid hC
  have HLo := Lib.hid hlo
  have HHi := Lib.hid hhi
  clear hC hlo hhi
  go_enter Tryz.func72, Tryz.ntmps72
  go_wp2_with fail
  go_loopw [5, 6] (fun i j wr => ∃ lo hi : Nat, i = .int .i64 lo ∧ j = .int .i64 hi ∧ lo ≤ r ∧ r ≤ hi ∧ hi ≤ n ∧ Hid (Below W.heap.size W wr)) (fun i j _ => (intOf j).toNat - (intOf i).toNat)
  case atStart => exact ⟨0, n, rfl, rfl, Nat.zero_le _, hr, Nat.le_refl _, Lib.hid (Below.refl _ _)⟩
  case round =>
    obtain ⟨lo, hi, rfl, rfl, h1, h2, h3, hb⟩ := hrel
    by_cases hlt : lo < hi
    · have i1 : (lo : Int) < (hi : Int) := by omega
      obtain ⟨h, hh⟩ : ∃ h, (lo + hi) / 2 = h := ⟨_, rfl⟩
      have hh1 : lo ≤ h ∧ h < hi := by omega
      have CC := Lib.hid (HC.out wr h hb.out (by omega))
      have hhI : ((lo : Int) + (hi : Int)) / 2 = (h : Int) := by omega
      cases hp : p h with
      | false =>
        have hrh : h < r := by
          rcases Nat.lt_or_ge h r with hx | hx
          · exact hx
          · have := HHi.out h hx (by omega); rw [hp] at this; cases this
        rw [hp] at CC
        clear hp hh
        go_wp2_with fail
        refine CC.out.mono ?_
        rintro e w1 ⟨rfl, hb1⟩
        have HB1 := Lib.hid (hb.out.trans (hb1.mono hb.out.size))
        clear hb1 CC hhI
        go_wp2_with fail
        go_roundw
        case rel => exact ⟨h + 1, hi, by go_num, rfl, by omega, h2, h3, HB1⟩
        case measure => simp [intOf]; omega
      | true =>
        have hrh : r ≤ h := by
          rcases Nat.lt_or_ge h r with hx | hx
          · have := HLo.out h hx; rw [hp] at this; cases this
          · exact hx
        rw [hp] at CC
        clear hp hh
        go_wp2_with fail
        refine CC.out.mono ?_
        rintro e w1 ⟨rfl, hb1⟩
        have HB1 := Lib.hid (hb.out.trans (hb1.mono hb.out.size))
        clear hb1 CC hhI
        go_wp2_with fail
        go_roundw
        case rel => exact ⟨lo, h, rfl, rfl, h1, hrh, by omega, HB1⟩
        case measure => simp [intOf]; omega
    · obtain rfl : lo = r := by omega
      have i1 : (hi : Int) ≤ (lo : Int) := by omega
      have HB := Lib.hid hb.out
      clear hb
      go_wp2_with fail
      go_ret
      exact ⟨rfl, HB.out⟩
theorem own_most {n c tz : Nat} (hn : 1 ≤ n) : ownC n c tz ≤ tz := by
  unfold ownC
  rw [Nat.div_le_iff_le_mul_add_pred (by omega)]
  have : tz ≤ n * tz := Nat.le_mul_of_pos_left _ (by omega)
  omega
set_option maxRecDepth 100000 in
set_option maxHeartbeats 1000000 in
theorem firstKept_any (ep : Int) (cs : List (List Int)) (v : Value) (lo : Nat) (W : World) (hg : Grid W lo v cs) (hlo : lo ≤ W.heap.size) (ch tz : Nat) (hR : rightB ep cs = true) (hch : ch < cs.length) (htz : tz ≤ 4096) :
    Calls Tryz.prog 39 #[planV ep v, .int .i64 (ch : Int), .int .i64 (tz : Int)] W fun e w' => e = .returned (.int .i64 (ownC cs.length ch tz : Nat)) ∧ Below W.heap.size W w' := by
  obtain ⟨_, A, c, rfl, _⟩ := hg.form
  have hn := (right_parts hR).2.2.1
  obtain ⟨W1, hW1⟩ : ∃ W1, W.alloc (.cells #[.int .i64 ep, .slice A cs.length c] 24) = W1 := ⟨_, rfl⟩
  have z1 : W1.heap.size = W.heap.size + 1 := by rw [← hW1, World.size_alloc]
  have b1 : Below W.heap.size W W1 := by rw [← hW1]; exact (Below.refl W.heap.size W).alloc (Nat.le_refl _) _
  have p1 : Two W1 W.heap.size 24 (.int .i64 ep) (.slice A cs.length c) := by rw [← hW1]; exact Two.new W _ _ _
  obtain ⟨W2, hW2⟩ : ∃ W2, W1.alloc (.cells #[.int .i64 (ch : Int)] 3) = W2 := ⟨_, rfl⟩
  have z2 : W2.heap.size = W1.heap.size + 1 := by rw [← hW2, World.size_alloc]
  have b2 : Below W1.heap.size W1 W2 := by rw [← hW2]; exact (Below.refl W1.heap.size W1).alloc (Nat.le_refl _) _
  have p2 : W2.heap[W1.heap.size]? = some (.cells #[.int .i64 (ch : Int)] 3 (0, 0)) := by rw [← hW2]; exact heap_alloc_new W1 _
  obtain ⟨W3, hW3⟩ : ∃ W3, W2.alloc (.cells #[.int .i64 (tz : Int)] 3) = W3 := ⟨_, rfl⟩
  have z3 : W3.heap.size = W2.heap.size + 1 := by rw [← hW3, World.size_alloc]
  have b3 : Below W2.heap.size W2 W3 := by rw [← hW3]; exact (Below.refl W2.heap.size W2).alloc (Nat.le_refl _) _
  have p3 : W3.heap[W2.heap.size]? = some (.cells #[.int .i64 (tz : Int)] 3 (0, 0)) := by rw [← hW3]; exact heap_alloc_new W2 _
  have b13 : Below W1.heap.size W1 W3 := b2.trans (b3.mono b2.size)
  have b03 : Below W.heap.size W W3 := b1.trans (b13.mono b1.size)
  obtain ⟨_, q0, q1, _⟩ := (p1.below b13 p1.lt).facts
  have q2 : W3.cell? ⟨W1.heap.size, 0, none⟩ = some (.int .i64 (ch : Int)) := (b3.cell (p := ⟨W1.heap.size, 0, none⟩) (show W1.heap.size < W2.heap.size by omega)).trans (cell_of_row _ _ 0 _ _ _ p2)
  have q3 : W3.cell? ⟨W2.heap.size, 0, none⟩ = some (.int .i64 (tz : Int)) := cell_of_row _ _ 0 _ _ _ p3
  have hN : (((4096 : Nat) : Int)) = 4096 := rfl
  have CS := search_any W3 4096 (by decide) (fun i => decide ((tz : Int) ≤ addrI ep cs ch i)) W.heap.size W1.heap.size W2.heap.size (ownC cs.length ch tz) (Nat.le_trans (own_most hn) htz) (fun i hi => by
    have hst := own_step (n := cs.length) (c := ch) (tz := tz) (by omega) (o := i) (by omega)
    have : i * cs.length + ch < tz := Classical.byContradiction fun h => by have := hst.2 h; omega
    have h4 : i ≤ 4096 := by have := own_most (c := ch) (tz := tz) hn; omega
    have hx : ((i * cs.length : Nat) : Int) = (i : Int) * (cs.length : Int) := Int.natCast_mul _ _
    refine decide_eq_false ?_
    unfold addrI
    rw [if_pos ⟨hR, by omega, by omega, by omega, by omega⟩]
    omega) (fun i hi h4 => by
    have hst := own_step (n := cs.length) (c := ch) (tz := tz) (by omega) (o := ownC cs.length ch tz) (Nat.le_refl _)
    have h1 : ¬ (ownC cs.length ch tz) * cs.length + ch < tz := fun h => by have := hst.1 h; omega
    have h2 : (ownC cs.length ch tz) * cs.length ≤ i * cs.length := Nat.mul_le_mul_right _ hi
    have hx : ((i * cs.length : Nat) : Int) = (i : Int) * (cs.length : Int) := Int.natCast_mul _ _
    refine decide_eq_true ?_
    unfold addrI
    rw [if_pos ⟨hR, by omega, by omega, by omega, by omega⟩]
    omega) (fun W' i hb hi => kept1_any ep cs _ lo W' (hg.below ((b03.trans (hb.mono b03.size)).mono hlo)) (Nat.le_trans hlo (b03.trans (hb.mono b03.size)).size) _ _ _ ch i tz
      ((hb.cell (p := ⟨W.heap.size, 0, none⟩) (show W.heap.size < W3.heap.size by omega)).trans q0) ((hb.cell (p := ⟨W.heap.size, 1, none⟩) (show W.heap.size < W3.heap.size by omega)).trans q1)
      ((hb.cell (p := ⟨W1.heap.size, 0, none⟩) (show W1.heap.size < W3.heap.size by omega)).trans q2) ((hb.cell (p := ⟨W2.heap.size, 0, none⟩) (show W2.heap.size < W3.heap.size by omega)).trans q3)
      (by have := hb.size; omega))
  rw [hN] at CS
  have CS := Lib.hid CS
  have HB := Lib.hid b03
  obtain ⟨O, hO⟩ : ∃ O, ownC cs.length ch tz = O := ⟨_, rfl⟩
  rw [hO] at CS ⊢
  have hmf : ∀ (fn : Fn) (first cap : Array Value) (w : World), (Instr.makeFunc fn first cap).run Tryz.prog w = .ok (.func fn first cap) w := fun _ _ _ _ => rfl
  clear hg hR hch htz hn z1 z2 z3 b1 b2 b3 p1 p2 p3 b13 b03 q0 q1 q2 q3 hN hO
  go_enter Tryz.func39, Tryz.ntmps39
  go_wp2_with fail
  refine CS.out.mono ?_
  rintro e w1 ⟨rfl, hb⟩
  have HB1 := Lib.hid (HB.out.trans (hb.mono HB.out.size))
  clear hb CS hW1 hW2 hW3
  go_wp2_with fail
  go_ret
  exact ⟨rfl, HB1.out⟩
section
variable {D : DvP} {a x : Nat → Addr} {w W W' : World} {lo : Nat → Prop} {m N M : Nat} {g : Nat → Nat} {H : Nat → Nat → Prop} {us us' : Nat → UnitD} {up : Nat → Bool} {v vp : Value} {cs : List (List Int)}
def trim1 (up : Nat → Bool) (ep own : Int) (us : Nat → UnitD) (n : Int) : (Nat → UnitD) × Nat := if upC up n = false then (us, 12) else (updC us n.toNat (trimD (us n.toNat) ep own).1, (trimD (us n.toNat) ep own).2)
set_option maxHeartbeats 1000000 in
theorem cutrim_any (hD : DvSpec (three a) D) (hE : Errs w a) (h : UCall D w W lo g H m us up v vp cs N) (hN : N ≤ 90000) (ep n own : Int) :
    Calls Tryz.prog 40 #[v, .int .i64 ep, .int .i64 n, .int .i64 own] W fun e w' => ∃ x, e = .returned x ∧ IsErr a x (trim1 up ep own us n).2 ∧ UnimStep D w W g H m 128 (N + 1) (trim1 up ep own us n).1 w' := by
  have HD := Lib.hid hD
  have HC := Lib.hid h
  obtain ⟨b0, o0, c0, rfl, _, hrow6⟩ := rowM_form h.ups.1 (h.rows W (Kept.refl _ _))
  clear hrow6
  unfold trim1
  cases hu : upC up n with
  | false =>
    have CU := Lib.hid (up_down hE h hu)
    rw [if_pos rfl]
    clear hu h hD hE
    go_enter Tryz.func40, Tryz.ntmps40
    go_wp2_with fail
    refine CU.out.mono ?_
    rintro e w1 ⟨rfl, hb⟩
    have HB := Lib.hid hb
    clear hb CU
    go_wp2_with fail
    go_ret
    exact ⟨_, rfl, isErr_at a 11 (by decide), (UnimStep.refl HD.out HC.out.unis HB.out).mono (Nat.le_succ _)⟩
  | true =>
    obtain ⟨i, rfl, hi, _⟩ := upM_at h.ups hu
    have CU := Lib.hid (up_is hE h hu)
    have CT := Lib.hid (fun (W1 : World) (hb : Below W.heap.size W W1) => ((h.below hD hb).unis.un i hi).trim hD hE (by decide) hN ep own)
    rw [if_neg (by decide), Int.toNat_natCast]
    obtain ⟨r, hr⟩ : ∃ r, trimD (us i) ep own = r := ⟨_, rfl⟩
    rw [hr] at CT ⊢
    have HI := Lib.hid hi
    clear hu h hD hE hr hi
    go_enter Tryz.func40, Tryz.ntmps40
    go_wp2_with fail
    refine CU.out.mono ?_
    rintro e w1 ⟨rfl, hb⟩
    have HB := Lib.hid hb
    have C1 := Lib.hid (CT.out w1 hb)
    clear hb CU CT
    go_wp2_with fail
    refine C1.out.mono ?_
    rintro e w2 ⟨x2, rfl, hx, hst⟩
    have HX := Lib.hid hx
    have HS := Lib.hid (UnimStep.after HB.out ((HC.out.unis.below HD.out HB.out).step HD.out HI.out hst))
    clear hx hst C1
    go_wp2_with fail
    go_ret
    exact ⟨_, rfl, HX.out, HS.out⟩
end
end Go.Proofs.YtiafamacjpgjoaaGreatDoor

/- Package chain: Trim. -/
namespace Go.Proofs.YtiafamacjpgjoaaGreatDoor
open Go Go.RowKit Tide

theorem trims_one (up : Nat → Bool) (ep own : Int) (us : Nat → UnitD) (n : Int) (l : List Int) : trimsC up ep own us (n :: l) = if (trim1 up ep own us n).2 ≠ 0 then trim1 up ep own us n else trimsC up ep own (trim1 up ep own us n).1 l := by
  rw [trims_cons]
  unfold trim1
  cases hu : upC up n with
  | false =>
    rw [if_pos rfl, if_pos rfl]
    exact (if_pos (show (12 : Nat) ≠ 0 by decide)).symm
  | true =>
    have h : ¬ (true = false) := by decide
    rw [if_neg h, if_neg h]
section
variable {D : DvP} {a x : Nat → Addr} {w W W' : World} {lo : Nat → Prop} {m N M : Nat} {g : Nat → Nat} {H : Nat → Nat → Prop} {us us' : Nat → UnitD} {up : Nat → Bool} {v vp : Value} {cs : List (List Int)}
set_option maxRecDepth 100000 in
set_option maxHeartbeats 2000000 in
theorem ctrim_any (hD : DvSpec (three a) D) (hE : Errs w a) (h : UCall D w W lo g H m us up v vp cs N) (hN : N + 10 ≤ 90000) (ep tq : Int) :
    Calls Tryz.prog 13 #[v, planV ep vp, .int .i64 tq] W fun e w' => ∃ x, e = .returned x ∧ IsErr a x (trimC14 up ep cs tq us).2 ∧ UnimStep D w W g H m 128 (N + 10) (trimC14 up ep cs tq us).1 w' := by
  obtain ⟨A, c, rfl, hcl⟩ := h.grid.form
  obtain ⟨b0, o0, c0, rfl, _, hrow6⟩ := rowM_form h.ups.1 (h.rows W (Kept.refl _ _))
  clear hrow6 hcl
  obtain ⟨W0, hW0⟩ : ∃ W0, W.alloc (.cells #[.int .i64 ep, .slice A cs.length c] 24) = W0 := ⟨_, rfl⟩
  have B0 := Lib.hid (show Below W.heap.size W W0 from by rw [← hW0]; exact (Below.refl W.heap.size W).alloc (Nat.le_refl _) _)
  have P0 := Lib.hid (show Two W0 W.heap.size 24 (.int .i64 ep) (.slice A cs.length c) from by rw [← hW0]; exact Two.new W _ _ _)
  have HD := Lib.hid hD
  have HE := Lib.hid hE
  have HC := Lib.hid (h.below hD B0.out)
  have HHl := Lib.hid h.unis.lt
  have CR := Lib.hid (right_any ep cs (.slice A cs.length c) W0.heap.size W0 HC.out.grid.grid (Nat.le_refl _))
  obtain ⟨_, p0, p1, _⟩ := P0.out.facts
  have HS0 := Lib.hid (fun (W1 : World) (hb : Below W0.heap.size W0 W1) => show UnimStep D w W g H m 128 (N + 10) us W1 from UnimStep.after B0.out ((UnimStep.refl HD.out HC.out.unis hb).mono (show N ≤ N + 10 by omega)))
  have HE2 := Lib.hid (fun (W1 : World) (hb : Below W0.heap.size W0 W1) => (HC.out.below HD.out hb).errs HE.out)
  have HP := Lib.hid (fun h => @right_parts ep cs h)
  clear h hD hE
  cases hr : rightB ep cs with
  | false =>
    have hx := Lib.hid (show trimC14 up ep cs tq us = (us, 4) by unfold trimC14; rw [if_pos hr])
    rw [hr] at CR
    clear hr HP
    go_enter Tryz.func13, Tryz.ntmps13
    go_wp2_with fail
    refine CR.out.mono ?_
    rintro en w1 ⟨rfl, hb⟩
    have HB := Lib.hid hb
    have e3 : w1.cell? ⟨1, 0, none⟩ = some (errAt (a 3)) := (HE2.out w1 hb).var 3 (by decide)
    clear hb CR
    go_wp2_with fail
    go_ret
    exact ⟨_, rfl, by rw [hx.out]; exact isErr_at a 3 (by decide), by rw [hx.out]; exact HS0.out _ HB.out⟩
  | true =>
    have HR := Lib.hid hr
    have hp := HP.out hr
    have n1 := hp.2.2.1
    have n3 := hp.2.2.2.1
    have HIn := Lib.hid hp.2.2.2.2.1
    rw [hr] at CR
    clear hr HP hp
    cases q0 : decide (tq < 0) with
    | true =>
      have hx := Lib.hid (show trimC14 up ep cs tq us = (us, 1) by unfold trimC14; rw [if_neg (by rw [HR.out]; decide), if_pos (.inl (by simpa using q0))])
      go_enter Tryz.func13, Tryz.ntmps13
      go_wp2_with fail
      refine CR.out.mono ?_
      rintro en w1 ⟨rfl, hb⟩
      have HB := Lib.hid hb
      have e3 : w1.cell? ⟨2, 0, none⟩ = some (errAt (a 0)) := (HE2.out w1 hb).var 0 (by decide)
      clear hb CR
      go_wp2_with fail
      go_ret
      exact ⟨_, rfl, by rw [hx.out]; exact isErr_at a 0 (by decide), by rw [hx.out]; exact HS0.out _ HB.out⟩
    | false =>
    cases q1 : decide (4096 < tq) with
    | true =>
      have hx := Lib.hid (show trimC14 up ep cs tq us = (us, 1) by unfold trimC14; rw [if_neg (by rw [HR.out]; decide), if_pos (.inr (by simpa using q1))])
      go_enter Tryz.func13, Tryz.ntmps13
      go_wp2_with fail
      refine CR.out.mono ?_
      rintro en w1 ⟨rfl, hb⟩
      have HB := Lib.hid hb
      have e3 : w1.cell? ⟨2, 0, none⟩ = some (errAt (a 0)) := (HE2.out w1 hb).var 0 (by decide)
      clear hb CR
      go_wp2_with fail
      go_ret
      exact ⟨_, rfl, by rw [hx.out]; exact isErr_at a 0 (by decide), by rw [hx.out]; exact HS0.out _ HB.out⟩
    | false =>
      obtain ⟨tz, rfl⟩ : ∃ tz : Nat, tq = (tz : Int) := ⟨tq.toNat, by simp at q0; omega⟩
      have hto : tz ≤ 4096 := by simp at q1; omega
      obtain ⟨R, hR⟩ : ∃ R, trimC up ep cs.length tz us 0 cs = R := ⟨_, rfl⟩
      have hx := Lib.hid (show trimC14 up ep cs (tz : Int) us = R by unfold trimC14; rw [if_neg (by rw [HR.out]; decide), if_neg (by omega), Int.toNat_natCast, hR])
      have HRx := Lib.hid hR
      clear hR
      go_enter Tryz.func13, Tryz.ntmps13
      go_wp2_with fail
      refine CR.out.mono ?_
      rintro en w1 ⟨rfl, hb⟩
      have HB := Lib.hid hb
      obtain ⟨hpl, p0, p1, _⟩ := (P0.out.below hb P0.out.lt).facts
      have HPl := Lib.hid hpl
      have HP0 := Lib.hid (And.intro p0 p1)
      have HC1 := Lib.hid (HC.out.below HD.out HB.out)
      have HFr := Lib.hid (show ¬ AllM m H W.heap.size from fun hk => by have := (HHl.out _ hk).2; omega)
      clear hb CR hW0 HE2
      obtain ⟨L0, hL0⟩ : ∃ N, cs.length = N := ⟨_, rfl⟩
      have HL0 := Lib.hid hL0
      have HRow := Lib.hid (fun (k : Nat) (hk : k < cs.length) => (show ∃ b o A2 c2, A = some ⟨b, o, none⟩ ∧ (b < w1.heap.size ∧ lo b) ∧ w1.cell? ⟨b, o + k, none⟩ = some (.slice A2 cs[k].length c2) ∧ RowS w1 lo (.slice A2 cs[k].length c2) (int64s cs[k]) from by
        obtain ⟨A', c', e, hcl⟩ := HC1.out.grid.formS
        injection e with e1 e2 e3
        subst e1
        obtain ⟨b, o, u, e, hb, hbS, hcu, hrow⟩ := hcl k hk
        obtain ⟨_, A2, c2, rfl, _⟩ := row_ints hrow.1
        exact ⟨b, o, A2, c2, e, ⟨hb, hbS⟩, hcu, hrow⟩))
      have HS1 := Lib.hid (show UnimStep D w w1 g H m 128 (N + 3 * 0) us w1 from UnimStep.refl HD.out HC1.out.unis (Below.refl _ _))
      have HGr := Lib.hid (fun (wr : World) (us1 : Nat → UnitD) (M : Nat) (hs : UnimStep D w w1 g H m 128 M us1 wr) => (show wr.cell? ⟨W.heap.size, 0, none⟩ = some (.int .i64 ep) ∧ wr.cell? ⟨W.heap.size, 1, none⟩ = some (.slice A L0 c) from by
        obtain ⟨_, _, _, g3⟩ := hs
        refine ⟨(g3.cell (p := ⟨W.heap.size, 0, none⟩) HPl.out HFr.out).trans HP0.out.1, ?_⟩
        rw [← HL0.out]
        exact (g3.cell (p := ⟨W.heap.size, 1, none⟩) HPl.out HFr.out).trans HP0.out.2))
      have CK := Lib.hid (fun (wr : World) (us1 : Nat → UnitD) (M k : Nat) (hs : UnimStep D w w1 g H m 128 M us1 wr) (hk : k < cs.length) => (show Calls Tryz.prog 39 #[planV ep (.slice A L0 c), .int .i64 (k : Int), .int .i64 (tz : Int)] wr fun e w' => e = .returned (.int .i64 (ownC L0 k tz : Nat)) ∧ Below wr.heap.size wr w' from by
        obtain ⟨H', hC', _, _⟩ := HC1.out.step hs
        rw [← HL0.out]
        exact firstKept_any ep cs _ wr.heap.size wr hC'.grid.grid (Nat.le_refl _) k tz HR.out hk hto))
      have CT := Lib.hid (fun (wr : World) (us1 : Nat → UnitD) (M : Nat) (n own : Int) (hM : M ≤ 90000) (hs : UnimStep D w w1 g H m 128 M us1 wr) => (show Calls Tryz.prog 40 #[.slice (some ⟨b0, o0, none⟩) m c0, .int .i64 ep, .int .i64 n, .int .i64 own] wr fun e w' => ∃ x, e = .returned x ∧ IsErr a x (trim1 up ep own us1 n).2 ∧ UnimStep D w w1 g H m 128 (M + 1) (trim1 up ep own us1 n).1 w' from by
        obtain ⟨H', hC', g2, g3⟩ := HC1.out.step hs
        refine (cutrim_any HD.out HE.out hC' hM ep n own).mono ?_
        rintro e w' ⟨x, h1, h2, h3⟩
        exact ⟨x, h1, h2, UnimStep.trans g2 g3 h3⟩))
      rw [hL0] at n1 n3 HRx p1 ⊢
      clear hL0
      go_wp2_with fail
      clear p0 p1
      go_loopw [27] (fun i wr => ∃ (k : Nat) (us1 : Nat → UnitD), i = .int .i64 k ∧ k ≤ L0 ∧ Hid (trimC up ep L0 tz us1 k (cs.drop k) = R) ∧ Hid (UnimStep D w w1 g H m 128 (N + 3 * k) us1 wr)) (fun i _ => L0 - (intOf i).toNat)
      case atStart => exact ⟨0, us, rfl, Nat.zero_le _, HRx, HS1⟩
      case round =>
        obtain ⟨k, us1, rfl, hk, hf, hs⟩ := hrel
        by_cases hlt : k < L0
        · have hlc : k < cs.length := by rw [HL0.out]; exact hlt
          obtain ⟨b1, o1, A2, c2, rfl, hb1, hcu, hrow⟩ := HRow.out k hlc
          have hd : cs.drop k = cs[k] :: cs.drop (k + 1) := List.drop_eq_getElem_cons hlc
          have hfo := hf.out
          rw [hd, trim_cons] at hfo
          have HIk := Lib.hid (HIn.out _ (List.getElem_mem hlc))
          obtain ⟨l, hl⟩ : ∃ l, cs[k] = l := ⟨_, rfl⟩
          rw [hl] at hfo hcu hrow HIk
          obtain ⟨L, hL⟩ : ∃ L, l.length = L := ⟨_, rfl⟩
          rw [hL] at hcu
          have hL3 : L ≤ 3 := by rw [← hL]; exact HIk.out.2
          have HL := Lib.hid hL
          have CK1 := CK.out wr us1 _ k hs.out hlc
          obtain ⟨OC, hOC⟩ : ∃ x, ownC L0 k tz = x := ⟨_, rfl⟩
          rw [hOC] at hfo CK1
          have CK1 := Lib.hid CK1
          obtain ⟨T, hT⟩ : ∃ T, trimsC up ep OC us1 l = T := ⟨_, rfl⟩
          rw [hT] at hfo
          have HT := Lib.hid hT
          have HFo := Lib.hid hfo
          have HRw := Lib.hid hrow
          have hcw : wr.cell? ⟨b1, o1 + k, none⟩ = some (.slice A2 L c2) := by
            obtain ⟨_, _, _, g3⟩ := hs.out
            exact (g3.cell (p := ⟨b1, o1 + k, none⟩) hb1.1 (fun e => HC1.out.above _ e hb1.2)).trans hcu
          obtain ⟨p0, p1⟩ := HGr.out wr us1 _ hs.out
          have i1 : (k : Int) < (L0 : Int) := by omega
          clear hd hl hL hrow hcu hOC hf hT hfo
          go_wp2_with fail
          refine CK1.out.mono ?_
          rintro en w2 ⟨rfl, hb2⟩
          have HS2 := Lib.hid (show UnimStep D w w1 g H m 128 (N + 3 * k + 0) us1 w2 from by
            obtain ⟨H', g1, g2, g3⟩ := hs.out
            exact UnimStep.trans g2 g3 (UnimStep.refl HD.out g1 hb2))
          clear CK1 hb2 hcw p0 p1
          go_wp2_with fail
          go_loopw [38] (fun i wx => ∃ (j : Nat) (us2 : Nat → UnitD), i = .int .i64 j ∧ j ≤ L ∧ Hid (trimsC up ep OC us2 (l.drop j) = T) ∧ Hid (UnimStep D w w1 g H m 128 (N + 3 * k + j) us2 wx)) (fun i _ => L - (intOf i).toNat)
          case atStart => exact ⟨0, us1, rfl, Nat.zero_le _, HT, HS2⟩
          case round =>
            clear hs
            obtain ⟨j, us2, rfl, hj, hf, hs⟩ := hrel
            by_cases hjl : j < L
            · have hjc : j < l.length := by rw [HL.out]; exact hjl
              have hd : l.drop j = l[j] :: l.drop (j + 1) := List.drop_eq_getElem_cons hjc
              have hfo := hf.out
              rw [hd, trims_one] at hfo
              obtain ⟨A3, c3, e3, hcu⟩ := HRw.out.ints
              injection e3 with e31 e32 e33
              subst e31 e33
              obtain ⟨b2, o2, rfl, hb2, hbS2, hcj⟩ := hcu j hjc
              have hcj : wr.cell? ⟨b2, o2 + j, none⟩ = some (.int .i64 l[j]) := by
                obtain ⟨_, _, _, g3⟩ := hs.out
                exact (g3.cell (p := ⟨b2, o2 + j, none⟩) hb2 (fun e => HC1.out.above _ e hbS2)).trans hcj
              obtain ⟨n, hn⟩ : ∃ n, l[j] = n := ⟨_, rfl⟩
              rw [hn] at hfo hcj
              obtain ⟨p0, p1⟩ := HGr.out wr us2 _ hs.out
              have CT1 := CT.out wr us2 _ n (OC : Int) (by omega) hs.out
              obtain ⟨r, hr⟩ : ∃ r, trim1 up ep (OC : Int) us2 n = r := ⟨_, rfl⟩
              rw [hr] at CT1 hfo
              have CT1 := Lib.hid CT1
              have i2 : (j : Int) < (L : Int) := by omega
              have HFf := Lib.hid hfo
              clear hfo hd hcu hn hf hr
              by_cases hr0 : r.2 = 0
              · have hT2 := HFf.out
                rw [if_neg (by rw [hr0]; decide)] at hT2
                have HT2 := Lib.hid hT2
                have HR0 := Lib.hid hr0
                clear hT2 hr0 hs
                go_wp2_with fail
                refine CT1.out.mono ?_
                rintro en w3 ⟨x3, rfl, hx3, hs3⟩
                obtain rfl := isErr_zero hx3 HR0.out
                have HS3 := Lib.hid (show UnimStep D w w1 g H m 128 (N + 3 * k + (j + 1)) r.1 w3 from hs3)
                clear CT1 hx3 hs3 hcj p0 p1
                go_wp2_with fail
                go_roundw
                case rel => exact ⟨j + 1, _, by go_num, by omega, HT2, HS3⟩
                case measure => simp [intOf]; omega
              · have hT2 := HFf.out
                rw [if_pos hr0] at hT2
                have hRx := HFo.out
                rw [← hT2, if_pos hr0] at hRx
                have HRr := Lib.hid hRx
                have HR0 := Lib.hid hr0
                clear hT2 hr0 hRx hs
                go_wp2_with fail
                refine CT1.out.mono ?_
                rintro en w3 ⟨x3, rfl, hx3, hs3⟩
                obtain ⟨ad, rfl⟩ := isErr_pos hx3 HR0.out
                have HX3 := Lib.hid hx3
                have HS3 := Lib.hid (UnimStep.after (B0.out.trans (HB.out.mono B0.out.size)) (hs3.mono (show N + 3 * k + j + 1 ≤ N + 10 by omega)))
                clear CT1 hx3 hs3 hcj p0 p1
                go_wp2_with fail
                go_ret
                exact ⟨_, rfl, by rw [hx.out, ← HRr.out]; exact HX3.out, by rw [hx.out, ← HRr.out]; exact HS3.out⟩
            · have hje : j = L := by omega
              have hT2 : (us2, 0) = T := by
                rw [← hf.out, hje, ← HL.out, List.drop_length]
                rfl
              have HR2 := Lib.hid (show trimC up ep L0 tz us2 (k + 1) (cs.drop (k + 1)) = R by have := HFo.out; rw [← hT2, if_neg (show ¬ (0 : Nat) ≠ 0 by decide)] at this; exact this)
              have HS3 := Lib.hid (show UnimStep D w w1 g H m 128 (N + 3 * (k + 1)) us2 wr from hs.out.mono (by omega))
              have i2 : (L : Int) ≤ (j : Int) := by omega
              clear hT2 hje hf hs
              go_wp2_with fail
              go_roundw
              case rel => exact ⟨k + 1, us2, by go_num, by omega, HR2, HS3⟩
              case measure => simp [intOf]; omega
        · have hke : k = L0 := by omega
          have hRx := Lib.hid (show R = (us1, 0) by rw [← hf.out, hke, ← HL0.out, List.drop_length]; rfl)
          have HS3 := Lib.hid (UnimStep.after (B0.out.trans (HB.out.mono B0.out.size)) (hs.out.mono (show N + 3 * k ≤ N + 10 by omega)))
          have i2 : (L0 : Int) ≤ (k : Int) := by omega
          clear hke hf hs
          go_wp2_with fail
          go_ret
          exact ⟨_, rfl, by rw [hx.out, hRx.out]; exact isErr_nil a, by rw [hx.out, hRx.out]; exact HS3.out⟩
end
end Go.Proofs.YtiafamacjpgjoaaGreatDoor

/- Package chain: Tail. -/
namespace Go.Proofs.YtiafamacjpgjoaaGreatDoor
open Go Go.RowKit Tide

section
variable {D : DvP} {a x : Nat → Addr} {w W W' : World} {lo : Nat → Prop} {m N M : Nat} {g : Nat → Nat} {H : Nat → Nat → Prop} {us us' : Nat → UnitD} {up : Nat → Bool} {v vp : Value} {cs : List (List Int)}
end
end Go.Proofs.YtiafamacjpgjoaaGreatDoor

/- A play of law 14: six landed units beside the document's own; rows of both, and of those that are up. -/
namespace Go.Proofs.YtiafamacjpgjoaaGreatDoor
open Go Go.RowKit Tide

structure PlayK where
  lo : Nat
  X : Nat
  bu : Nat
  ba : Nat
  bw : Nat
  bo : Nat
  cu : Nat
  ca : Nat
  cw : Nat
  co : Nat
  g : Nat → Nat
  q : Nat → Nat
  vp : Value
  vr : Value
  ep : Int
  cs : List (List Int)
abbrev PlayK.vu (K : PlayK) : Value := .slice (some ⟨K.bu, 0, none⟩) 6 K.cu
abbrev PlayK.va (K : PlayK) : Value := .slice (some ⟨K.ba, 0, none⟩) 6 K.ca
abbrev PlayK.vw (K : PlayK) : Value := .slice (some ⟨K.bw, 0, none⟩) 6 K.cw
abbrev PlayK.vo (K : PlayK) : Value := .slice (some ⟨K.bo, 0, none⟩) 6 K.co
def PlayK.mine (K : PlayK) (k : Nat) : Prop := k = K.X ∨ k = K.bu ∨ k = K.ba ∨ k = K.bw ∨ k = K.bo
structure PlayW (D : DvP) (w W : World) (K : PlayK) (F H : Nat → Nat → Prop) (us vs : Nat → UnitD) (up : Nat → Bool) (N : Nat) : Prop where
  cells : W.heap[K.X]? = some (.cells #[K.vu, K.va, K.vw, K.vo, .int .i64 K.ep, K.vp, .int .i64 K.ep, K.vr] 36 (0, 0))
  unis : Unim D w W K.g F 6 128 N us
  refs : Refs W K.q H vs
  apart : ∀ k, AllM 6 F k → ¬ AllC H k
  ru : W.ownsRow K.lo 70 1 K.vu 6 (rowM 6 up K.g)
  ra : W.ownsRow K.lo 70 1 K.va 6 (rowM 6 allUp K.g)
  rw : W.ownsRow K.lo 72 1 K.vw 6 (rowC6 up K.q)
  ro : W.ownsRow K.lo 72 1 K.vo 6 (rowC6 allUp K.q)
  ne : K.bu ≠ K.ba ∧ K.bu ≠ K.bw ∧ K.bu ≠ K.bo ∧ K.ba ≠ K.bw ∧ K.bw ≠ K.bo ∧ K.X ≠ K.bu ∧ K.X ≠ K.ba ∧ K.X ≠ K.bw ∧ K.X ≠ K.bo
  free : ∀ k, K.mine k → ¬ AllM 6 F k ∧ ¬ AllC H k ∧ k < W.heap.size
  above : ∀ k, AllM 6 F k ∨ AllC H k → K.lo ≤ k
  low : w.heap.size ≤ K.lo ∧ K.lo ≤ W.heap.size
  gp : Grid W K.lo K.vp K.cs
  gr : Grid W K.lo K.vr K.cs
section
variable {D : DvP} {x a : Nat → Addr} {w W W' : World} {K : PlayK} {F H : Nat → Nat → Prop} {us vs us' vs' : Nat → UnitD} {up : Nat → Bool} {N M : Nat}
theorem PlayW.facts (h : PlayW D w W K F H us vs up N) : W.cell? ⟨K.X, 0, none⟩ = some K.vu ∧ W.cell? ⟨K.X, 1, none⟩ = some K.va ∧ W.cell? ⟨K.X, 2, none⟩ = some K.vw ∧ W.cell? ⟨K.X, 3, none⟩ = some K.vo ∧ W.cell? ⟨K.X, 4, none⟩ = some (.int .i64 K.ep) ∧ W.cell? ⟨K.X, 5, none⟩ = some K.vp ∧ W.cell? ⟨K.X, 6, none⟩ = some (.int .i64 K.ep) ∧ W.cell? ⟨K.X, 7, none⟩ = some K.vr :=
  ⟨cell_of_row _ _ 0 _ _ _ h.cells, cell_of_row _ _ 1 _ _ _ h.cells, cell_of_row _ _ 2 _ _ _ h.cells, cell_of_row _ _ 3 _ _ _ h.cells, cell_of_row _ _ 4 _ _ _ h.cells, cell_of_row _ _ 5 _ _ _ h.cells, cell_of_row _ _ 6 _ _ _ h.cells, cell_of_row _ _ 7 _ _ _ h.cells⟩
theorem PlayW.mineX : K.mine K.X := .inl rfl
theorem PlayW.mineU : K.mine K.bu := .inr (.inl rfl)
theorem PlayW.mineA : K.mine K.ba := .inr (.inr (.inl rfl))
theorem PlayW.mineW : K.mine K.bw := .inr (.inr (.inr (.inl rfl)))
theorem PlayW.mineO : K.mine K.bo := .inr (.inr (.inr (.inr rfl)))
theorem own_kept1 {b c n base : Nat} {T : TypeId} {xs : List Value} {P : Nat → Prop} (h : W.ownsRow base T 1 (.slice (some ⟨b, 0, none⟩) n c) n xs) (hk : Kept P W W') (hP : ¬ P b) : W'.ownsRow base T 1 (.slice (some ⟨b, 0, none⟩) n c) n xs :=
  hk.own h (fun k e => by injection e with e; have e : b = k := e; subst e; exact hP)
theorem PlayW.keep (h : PlayW D w W K F H us vs up N) {P : Nat → Prop} (hk : Kept P W W') (hP : ∀ k, P k → ¬ K.mine k ∧ K.lo ≤ k) {F' H' : Nat → Nat → Prop} (hu : Unim D w W' K.g F' 6 128 M us') (hr : Refs W' K.q H' vs') (hF : ∀ i k, F' i k → F i k ∨ W.heap.size ≤ k) (hH : ∀ i k, H' i k → H i k ∨ W.heap.size ≤ k) (hx : ∀ k, AllM 6 F' k → ¬ AllC H' k) :
    PlayW D w W' K F' H' us' vs' up M := by
  have hz := hk.size
  refine { cells := hk.heap h.cells (fun e => (hP _ e).1 PlayW.mineX), unis := hu, refs := hr, apart := hx, ru := own_kept1 h.ru hk (fun e => (hP _ e).1 PlayW.mineU), ra := own_kept1 h.ra hk (fun e => (hP _ e).1 PlayW.mineA), rw := own_kept1 h.rw hk (fun e => (hP _ e).1 PlayW.mineW), ro := own_kept1 h.ro hk (fun e => (hP _ e).1 PlayW.mineO), ne := h.ne, free := fun k e => ⟨fun ⟨i, hi, e2⟩ => ?_, fun ⟨i, hi, e2⟩ => ?_, Nat.lt_of_lt_of_le (h.free k e).2.2 hz⟩, above := fun k e => ?_, low := ⟨h.low.1, Nat.le_trans h.low.2 hz⟩, gp := h.gp.keep (kept_lowU hk (fun k e => (hP k e).2) h.low.2), gr := h.gr.keep (kept_lowU hk (fun k e => (hP k e).2) h.low.2) }
  · rcases hF i k e2 with e3 | e3
    · exact (h.free k e).1 ⟨i, hi, e3⟩
    · have := (h.free k e).2.2; omega
  · rcases hH i k e2 with e3 | e3
    · exact (h.free k e).2.1 ⟨i, hi, e3⟩
    · have := (h.free k e).2.2; omega
  · rcases e with ⟨i, hi, e2⟩ | ⟨i, hi, e2⟩
    · rcases hF i k e2 with e3 | e3
      · exact h.above k (.inl ⟨i, hi, e3⟩)
      · exact Nat.le_trans h.low.2 e3
    · rcases hH i k e2 with e3 | e3
      · exact h.above k (.inr ⟨i, hi, e3⟩)
      · exact Nat.le_trans h.low.2 e3
theorem PlayW.below (hD : DvSpec x D) (h : PlayW D w W K F H us vs up N) (hb : Below W.heap.size W W') : PlayW D w W' K F H us vs up N :=
  h.keep (P := fun _ => False) (Kept.of_below hb) (fun _ e => e.elim) (h.unis.below hD hb) (h.refs.below hb) (fun _ _ e => .inl e) (fun _ _ e => .inl e) h.apart
theorem PlayW.mono (h : PlayW D w W K F H us vs up N) (hM : N ≤ M) : PlayW D w W K F H us vs up M := { h with unis := h.unis.mono hM }
theorem PlayW.landed (h : PlayW D w W K F H us vs up N) (hs : UnimStep D w W K.g F 6 128 M us' W') : ∃ F', PlayW D w W' K F' H us' vs up M := by
  obtain ⟨F', g1, g2, g3⟩ := hs
  refine ⟨F', h.keep g3 (fun k e => ⟨fun e2 => (h.free k e2).1 e, h.above k (.inl e)⟩) g1 (h.refs.kept g3 (fun k e e2 => h.apart k e2 e)) g2 (fun _ _ e => .inl e) fun k ⟨i, hi, e⟩ e2 => ?_⟩
  rcases g2 i k e with e3 | e3
  · exact h.apart k ⟨i, hi, e3⟩ e2
  · have := h.refs.lt k e2; omega
theorem row_kept1 {b c n base : Nat} {T : TypeId} {xs : List Value} {P : Nat → Prop} (h : W.ownsRow base T 1 (.slice (some ⟨b, 0, none⟩) n c) n xs) (hk : Kept P W W') (hP : ¬ P b) : Row W' W.heap.size (.slice (some ⟨b, 0, none⟩) n c) xs :=
  row_kept (Row.of_own h (Nat.le_refl _)) hk (Nat.le_refl _) (fun k e => by injection e with e; have e : b = k := e; subst e; exact hP)
theorem PlayW.ucall (h : PlayW D w W K F H us vs up N) : UCall D w W (fun k => k < K.lo) K.g F 6 us up K.vu K.vp K.cs N where
  unis := h.unis
  ups := ⟨by decide, by decide, fun i h1 h2 => by omega⟩
  rows := fun _ hk => row_kept1 h.ru hk (h.free _ PlayW.mineU).1
  lo_le := fun k e => Nat.lt_of_lt_of_le e h.low.2
  above := fun k e e2 => Nat.not_lt.2 (h.above k (.inl e)) e2
  grid := GridS.of_low h.gp h.low.2
end
end Go.Proofs.YtiafamacjpgjoaaGreatDoor

/- Law 14's do: what all of its acts share. -/
namespace Go.Proofs.YtiafamacjpgjoaaGreatDoor
open Go Go.RowKit Tide

structure ActC where
  kind : Int
  a : Int
  k : Int
  text : List UInt8
abbrev ActC.cells (x : ActC) : Array Value := #[.int .i64 x.kind, .int .i64 x.a, .int .i64 x.k, .string ⟨x.text.toArray⟩]
section
variable {D : DvP} {a : Nat → Addr} {w W : World} {K : PlayK} {F H : Nat → Nat → Prop} {us : Nat → UnitD} {up : Nat → Bool} {N : Nat}
theorem box_act {x : ActC} {b : Nat} (h : W.heap[b]? = some (.cells x.cells 38 (0, 0))) : W.cell? ⟨b, 0, none⟩ = some (.int .i64 x.kind) ∧ W.cell? ⟨b, 1, none⟩ = some (.int .i64 x.a) ∧ W.cell? ⟨b, 2, none⟩ = some (.int .i64 x.k) ∧ W.cell? ⟨b, 3, none⟩ = some (.string ⟨x.text.toArray⟩) :=
  ⟨cell_of_row _ _ 0 _ _ _ h, cell_of_row _ _ 1 _ _ _ h, cell_of_row _ _ 2 _ _ _ h, cell_of_row _ _ 3 _ _ _ h⟩
structure PlayB (D : DvP) (w W : World) (K : PlayK) (F H : Nat → Nat → Prop) (us vs : Nat → UnitD) (up : Nat → Bool) (N b : Nat) (x : ActC) : Prop where
  play : PlayW D w W K F H us vs up N
  box : W.heap[b]? = some (.cells x.cells 38 (0, 0))
  out : ¬ AllM 6 F b ∧ ¬ AllC H b
theorem box_lt {b : Nat} {o : Obj} (h : W.heap[b]? = some o) : b < W.heap.size := by
  rcases Nat.lt_or_ge b W.heap.size with hlt | hge
  · exact hlt
  · rw [Array.getElem?_eq_none hge] at h; cases h
section
variable {W' : World} {us' vs vs' : Nat → UnitD} {M b : Nat} {x : ActC} {y : Nat → Addr}
theorem PlayB.below (hD : DvSpec y D) (h : PlayB D w W K F H us vs up N b x) (hb : Below W.heap.size W W') : PlayB D w W' K F H us vs up N b x :=
  ⟨h.play.below hD hb, (hb.block b (box_lt h.box)).trans h.box, h.out⟩
theorem PlayB.landed (h : PlayB D w W K F H us vs up N b x) (hs : UnimStep D w W K.g F 6 128 M us' W') : ∃ F', PlayB D w W' K F' H us' vs up M b x := by
  obtain ⟨F', g1, g2, g3⟩ := hs
  obtain ⟨F'', h2⟩ := h.play.landed ⟨F', g1, g2, g3⟩
  refine ⟨F', ?_, (g3.block b (box_lt h.box) h.out.1).trans h.box, fun ⟨i, hi, e⟩ => ?_, h.out.2⟩
  · refine h.play.keep g3 (fun k e => ⟨fun e2 => (h.play.free k e2).1 e, h.play.above k (.inl e)⟩) g1 (h.play.refs.kept g3 (fun k e e2 => h.play.apart k e2 e)) g2 (fun _ _ e => .inl e) fun k ⟨i, hi, e⟩ e2 => ?_
    rcases g2 i k e with e3 | e3
    · exact h.play.apart k ⟨i, hi, e3⟩ e2
    · have := h.play.refs.lt k e2; omega
  · rcases g2 i b e with e3 | e3
    · exact h.out.1 ⟨i, hi, e3⟩
    · have := box_lt h.box; omega
theorem PlayB.start (hD : DvSpec y D) (h : PlayW D w W K F H us vs up N) (x : ActC) : PlayB D w (W.alloc (.cells x.cells 38)) K F H us vs up N W.heap.size x :=
  ⟨h.below hD ((Below.refl W.heap.size W).alloc (Nat.le_refl _) _), heap_alloc_new W _, fun e => by have := (h.unis.lt _ e).2; omega, fun e => by have := h.refs.lt _ e; omega⟩
end
section
variable {W' V : World} {us' vs vs' : Nat → UnitD} {M b : Nat} {x : ActC} {y : Nat → Addr}
theorem carry {W W' : World} (hb : Below W.heap.size W W') {p : Addr} {v : Value} (h : W.cell? p = some v) : W'.cell? p = some v := (hb.cell (p := p) (World.block_lt_of_cell? _ _ h)).trans h
end
end
end Go.Proofs.YtiafamacjpgjoaaGreatDoor

/- A play made: six new units and their models, rows of both, and copies of the rows. No walk stands here. -/
namespace Go.Proofs.YtiafamacjpgjoaaGreatDoor
open Go Go.RowKit Go.Shelf Tide

theorem own_lower {W : World} {base base' : Nat} {T : TypeId} {s n : Nat} {v : Value} {xs : List Value} (h : W.ownsRow base T s v n xs) (hb : base' ≤ base) : W.ownsRow base' T s v n xs := by
  refine ⟨h.1, ?_⟩
  rcases h.2 with h0 | ⟨g, cap, cur, e, hg, h2⟩
  · exact .inl h0
  · exact .inr ⟨g, cap, cur, e, Nat.le_trans hb hg, h2⟩
theorem own_some {W : World} {base : Nat} {T : TypeId} {v : Value} {n : Nat} {xs : List Value} (h : W.ownsRow base T 1 v n xs) (hn : 0 < n) : ∃ g c, v = .slice (some ⟨g, 0, none⟩) n c ∧ base ≤ g ∧ g < W.heap.size := by
  have hl := h.1
  rcases h.2 with ⟨_, e⟩ | ⟨g, cap, cur, e, hg, h2, _⟩
  · rw [e] at hl; simp at hl; omega
  · refine ⟨g, cap, e, hg, ?_⟩
    rcases Nat.lt_or_ge g W.heap.size with hlt | hge
    · exact hlt
    · rw [Array.getElem?_eq_none hge] at h2; cases h2
theorem ptrs_row {gs : List Nat} (h : gs.length = 6) : ptrs gs = rowM 6 allUp (fun i => gs.getD i 0) := by
  show gs.map (fun g => Value.pointer (some ⟨g, 0, none⟩)) = (List.range 6).map (cellC allUp (fun i => gs.getD i 0))
  refine List.ext_getElem (by simp [h]) fun i h1 h2 => ?_
  have hi : i < gs.length := by simpa using h1
  simp only [List.getElem_map, List.getElem_range]
  unfold cellC allUp
  rw [if_pos rfl]
  show _ = Value.pointer (some ⟨gs.getD i 0, 0, none⟩)
  rw [List.getD_eq_getElem?_getD, List.getElem?_eq_getElem hi]
  rfl
section
variable {D : DvP} {x : Nat → Addr} {w W0 W5 W6 Z Y : World} {gs qs : List Nat} {F H : Nat → Nat → Prop} {v u va vo vp vr : Value} {X lo : Nat} {ep : Int} {cs : List (List Int)}
def CellsP (W : World) (X : Nat) (v va u vo : Value) (ep : Int) (vp vr : Value) : Prop := W.heap[X]? = some (.cells #[v, va, u, vo, .int .i64 ep, vp, .int .i64 ep, vr] 36 (0, 0))
theorem CellsP.set0 (h : CellsP W6 X v va u vo ep vp vr) (y : Value) : CellsP (W6.setCell ⟨X, 0, none⟩ y) X y va u vo ep vp vr := heap_setCell_same _ _ _ _ _ _ h
theorem CellsP.set1 (h : CellsP W6 X v va u vo ep vp vr) (y : Value) : CellsP (W6.setCell ⟨X, 1, none⟩ y) X v y u vo ep vp vr := heap_setCell_same _ _ _ _ _ _ h
theorem CellsP.set2 (h : CellsP W6 X v va u vo ep vp vr) (y : Value) : CellsP (W6.setCell ⟨X, 2, none⟩ y) X v va y vo ep vp vr := heap_setCell_same _ _ _ _ _ _ h
theorem CellsP.set3 (h : CellsP W6 X v va u vo ep vp vr) (y : Value) : CellsP (W6.setCell ⟨X, 3, none⟩ y) X v va u y ep vp vr := heap_setCell_same _ _ _ _ _ _ h
theorem CellsP.facts (h : CellsP W6 X v va u vo ep vp vr) : W6.cell? ⟨X, 0, none⟩ = some v ∧ W6.cell? ⟨X, 1, none⟩ = some va ∧ W6.cell? ⟨X, 2, none⟩ = some u ∧ W6.cell? ⟨X, 3, none⟩ = some vo ∧ ∀ i, W6.frozen? ⟨X, i, none⟩ = false :=
  ⟨cell_of_row _ _ 0 _ _ _ h, cell_of_row _ _ 1 _ _ _ h, cell_of_row _ _ 2 _ _ _ h, cell_of_row _ _ 3 _ _ _ h, fun i => frozen_of_row _ _ i _ _ h⟩
theorem play_new (hD : DvSpec x D) (hN : NewU D w W0 W5 gs qs F H v u) (h6 : gs.length = 6) (hw : w.heap.size ≤ lo) (hX : lo ≤ X ∧ X < W0.heap.size) (hgp : Grid W5 lo vp cs) (hgr : Grid W5 lo vr cs)
    (hk : Kept (fun k => k = X) W5 Y) (hc : CellsP Y X v va u vo ep vp vr) (ha : Y.ownsRow W5.heap.size 70 1 va 6 (ptrs gs)) (ho : Y.ownsRow W5.heap.size 72 1 vo 6 (ptrs qs)) :
    ∃ K F' H' us up, K.X = X ∧ K.lo = lo ∧ K.ep = ep ∧ K.cs = cs ∧ K.vp = vp ∧ K.vr = vr ∧ K.vu = v ∧ us = (fun _ => newD) ∧ up = allUp ∧ PlayW D w Y K F' H' us us up 0 := by
  have hz := hk.size
  have hb0 := hN.be
  have hq6 : qs.length = 6 := by rw [hN.len]; exact h6
  have hvo : W5.ownsRow W0.heap.size 70 1 v 6 (ptrs gs) := by have := hN.vown; unfold OwnUn at this; rwa [h6] at this
  have huo : W5.ownsRow W0.heap.size 72 1 u 6 (ptrs qs) := by have := hN.uown; unfold OwnRe at this; rwa [hq6] at this
  obtain ⟨bu, cu, rfl, hbu, hbu2⟩ := own_some hvo (by decide)
  obtain ⟨bw, cw, rfl, hbw, hbw2⟩ := own_some huo (by decide)
  obtain ⟨ba, ca, rfl, hba, hba2⟩ := own_some ha (by decide)
  obtain ⟨bo, co, rfl, hbo, hbo2⟩ := own_some ho (by decide)
  have hvap := hN.vap bu rfl
  have huap := hN.uap bw rfl
  have hne : bu ≠ bw := fun e => hvap.1 (by rw [e]; rfl)
  have hFl : ∀ k, AllM 6 F k → W0.heap.size ≤ k ∧ k < W5.heap.size := fun k ⟨i, hi, e⟩ => ⟨hN.lo i (by omega) k (.inl e), ((hN.un i (by omega)).2 k e).2⟩
  have hHl : ∀ k, AllC H k → W0.heap.size ≤ k ∧ k < W5.heap.size := fun k ⟨i, hi, e⟩ => ⟨hN.lo i (by omega) k (.inr e), (hN.re i (by omega)).2 k e⟩
  have hun5 : Unim D w W5 (fun i => gs.getD i 0) F 6 128 0 (fun _ => newD) :=
    ⟨fun i hi => by have := hN.un i (by omega); rw [List.getD_eq_getElem?_getD, List.getElem?_eq_getElem (show i < gs.length by omega)]; exact this, fun i j hi hj hn => hN.apF i j (by omega) (by omega) hn, (hN.un 0 (by omega)).since⟩
  have hre5 : Refs W5 (fun i => qs.getD i 0) H (fun _ => newD) :=
    ⟨fun i hi => by have := hN.re i (by omega); rw [List.getD_eq_getElem?_getD, List.getElem?_eq_getElem (show i < qs.length by omega)]; exact this, fun i j hi hj hn => hN.apH i j (by omega) (by omega) hn⟩
  have hXF : ∀ k, k = X → ¬ AllM 6 F k ∧ ¬ AllC H k := fun k e => by subst e; exact ⟨fun h => by have := (hFl _ h).1; omega, fun h => by have := (hHl _ h).1; omega⟩
  refine ⟨⟨lo, X, bu, ba, bw, bo, cu, ca, cw, co, fun i => gs.getD i 0, fun i => qs.getD i 0, vp, vr, ep, cs⟩, F, H, _, _, rfl, rfl, rfl, rfl, rfl, rfl, rfl, rfl, rfl, { cells := hc, unis := hun5.kept hD hk (fun k e => ⟨(hXF k e).1, by subst e; show w.heap.size ≤ k; omega⟩), refs := hre5.kept hk (fun k e e2 => (hXF k e2).2 e), apart := fun k ⟨i, hi, e⟩ ⟨j, hj, e2⟩ => hN.apX i j (by omega) (by omega) k e e2, ru := ?_, ra := ?_, rw := ?_, ro := ?_, ne := ?_, free := fun k e => ?_, above := fun k e => ?_, low := ?_, gp := hgp.keep (kept_lowU hk (fun k e => by subst e; exact hX.1) (by have := hb0.size; omega)), gr := hgr.keep (kept_lowU hk (fun k e => by subst e; exact hX.1) (by have := hb0.size; omega)) }⟩
  · rw [← ptrs_row h6]
    exact own_lower (own_kept1 hvo hk (fun e => by have e : bu = X := e; omega)) (by show lo ≤ W0.heap.size; omega)
  · rw [← ptrs_row h6]
    exact own_lower ha (by show lo ≤ W5.heap.size; have := hb0.size; omega)
  · rw [show rowC6 allUp (fun i => qs.getD i 0) = rowM 6 allUp (fun i => qs.getD i 0) from rfl, ← ptrs_row hq6]
    exact own_lower (own_kept1 huo hk (fun e => by have e : bw = X := e; omega)) (by show lo ≤ W0.heap.size; omega)
  · rw [show rowC6 allUp (fun i => qs.getD i 0) = rowM 6 allUp (fun i => qs.getD i 0) from rfl, ← ptrs_row hq6]
    exact own_lower ho (by show lo ≤ W5.heap.size; have := hb0.size; omega)
  · have := hb0.size
    exact ⟨by show bu ≠ ba; omega, hne, by show bu ≠ bo; omega, by show ba ≠ bw; omega, by show bw ≠ bo; omega, by show X ≠ bu; omega, by show X ≠ ba; omega, by show X ≠ bw; omega, by show X ≠ bo; omega⟩
  · have hs := hb0.size
    have e : k = X ∨ k = bu ∨ k = ba ∨ k = bw ∨ k = bo := e
    rcases e with rfl | rfl | rfl | rfl | rfl
    · exact ⟨(hXF _ rfl).1, (hXF _ rfl).2, by omega⟩
    · exact ⟨fun ⟨i, hi, e⟩ => (hvap.2 i (by omega)).1 e, fun ⟨i, hi, e⟩ => (hvap.2 i (by omega)).2 e, by omega⟩
    · exact ⟨fun h => by have := (hFl _ h).2; omega, fun h => by have := (hHl _ h).2; omega, by omega⟩
    · exact ⟨fun ⟨i, hi, e⟩ => (huap i (by omega)).1 e, fun ⟨i, hi, e⟩ => (huap i (by omega)).2 e, by omega⟩
    · exact ⟨fun h => by have := (hFl _ h).2; omega, fun h => by have := (hHl _ h).2; omega, by omega⟩
  · show lo ≤ k
    rcases e with e | e
    · have := (hFl k e).1; omega
    · have := (hHl k e).1; omega
  · show w.heap.size ≤ lo ∧ lo ≤ Y.heap.size
    have := hb0.size
    omega
end
end Go.Proofs.YtiafamacjpgjoaaGreatDoor

/- Law 14's alive: two units, Fill, and a Write behind it. -/
namespace Go.Proofs.YtiafamacjpgjoaaGreatDoor
open Go Go.RowKit Go.Shelf Tide

def twoUp : Nat → Bool := fun i => decide (i < 2)
theorem upM_two : UpM 2 twoUp := ⟨by decide, by decide, fun i h _ => by unfold twoUp; exact decide_eq_false (by omega)⟩
theorem app_first (b : List UInt8) (h1 : 1 ≤ b.length) (h2 : b.length ≤ 100) : (appendD ⟨2, []⟩ b).2.2 = 0 := by
  unfold appendD
  rw [if_neg (by omega)]
  have hf : fitsD (StoD.mk 2 []).segs b.length = false := rfl
  rw [hf]
  have ht : takeD ⟨2, []⟩ = some ⟨2, [⟨0, 0, 0, []⟩]⟩ := rfl
  rw [if_neg (by decide), ht]
theorem enc_first (b : UInt8) : (encR ⟨1, 0, 0, [b]⟩).length = 4 := by
  unfold encR
  rw [if_pos rfl]
  show (num7 1 ++ num7 0 ++ (num7 1 ++ [b])).length = 4
  rw [num7_lt (show 1 < 128 by decide), num7_lt (show 0 < 128 by decide)]
  rfl
theorem write_first (b : UInt8) : (writeD newD 0 0 [b]).2 = 0 ∧ (writeD newD 0 0 [b]).1.rows.length = 1 ∧ (∀ r ∈ (writeD newD 0 0 [b]).1.rows, r.adr = 0) ∧ (writeD newD 0 0 [b]).1.trimmed = 0 ∧ (writeD newD 0 0 [b]).1.epoch = 0 := by
  have hp : (putRec newD ⟨1, (0 : Int).toNat, 0, [b]⟩).2.2 = 0 := app_first _ (by have := enc_first b; show 1 ≤ (encR ⟨1, 0, 0, [b]⟩).length; omega) (by have := enc_first b; show (encR ⟨1, 0, 0, [b]⟩).length ≤ 100; omega)
  have hw : writeD newD 0 0 [b] = ({ newD with store := (putRec newD ⟨1, (0 : Int).toNat, 0, [b]⟩).1, rows := newD.rows ++ [⟨(0 : Int).toNat, [b], (putRec newD ⟨1, (0 : Int).toNat, 0, [b]⟩).2.1.toNat⟩], top := max newD.top ((0 : Int).toNat + 1) }, 0) := by
    unfold writeD
    rw [if_neg (by decide), if_neg (by simp), if_neg (by decide), if_neg (by decide), if_neg (by rw [hp]; decide)]
  rw [hw]
  refine ⟨rfl, rfl, fun r hr => ?_, rfl, rfl⟩
  have hr : r ∈ ([] : List PageU) ++ [⟨(0 : Int).toNat, [b], (putRec newD ⟨1, (0 : Int).toNat, 0, [b]⟩).2.1.toNat⟩] := hr
  rw [List.nil_append, List.mem_singleton] at hr
  rw [hr]
  rfl
theorem write_second (b c : UInt8) : (writeD (writeD newD 0 0 [b]).1 0 0 [c]).2 = 9 := by
  obtain ⟨_, h2, h3, h4, h5⟩ := write_first b
  revert h2 h3 h4 h5
  generalize (writeD newD 0 0 [b]).1 = u
  intro h2 h3 h4 h5
  have hh : hasD u 0 = true := by
    unfold hasD
    rw [h4]
    match hr : u.rows, h2 with
    | [r], _ =>
      have := h3 r (by rw [hr]; exact List.mem_singleton.2 rfl)
      simp [this]
  unfold writeD
  rw [h5, h4, if_neg (by decide), if_neg (by simp), if_neg (by decide), if_pos hh]
def filledD : Nat → UnitD := updC (updC (fun _ => newD) 0 (writeD newD 0 0 [0]).1) 1 (writeD newD 0 0 [0]).1
theorem place_two : placeE 0 [[0, 1]] 0 = 0 := by decide
theorem chain_two : chainAt [[0, 1]] 0 = [0, 1] := by decide
theorem fill_two : fillC14 twoUp 0 [[0, 1]] 0 (fun _ => newD) = (filledD, [0], 0) := by
  obtain ⟨h1, _⟩ := write_first 0
  have hp : putC twoUp 0 0 [0] (fun _ => newD) 0 true = (updC (fun _ => newD) 0 (writeD newD 0 0 [0]).1, 0) := by
    unfold putC
    rw [if_neg (by decide), if_pos (.inr rfl), h1]
    rfl
  have hp2 : putC twoUp 0 0 [0] (updC (fun _ => newD) 0 (writeD newD 0 0 [0]).1) 1 false = (filledD, 0) := by
    unfold putC
    rw [if_neg (by decide), show (1 : Int).toNat = 1 from rfl, updC_ne _ _ (show (1 : Nat) ≠ 0 by decide), h1, if_pos (.inl (by decide))]
    rfl
  have hf : fill1 twoUp 0 0 (fun _ => newD) [0, 1] = (updC (fun _ => newD) 0 (writeD newD 0 0 [0]).1, [0], 0) := by
    unfold fill1
    rw [show ([0, 1] : List Int).headD 0 = 0 from rfl, hp, if_neg (show ¬ (0 : Nat) = 9 by decide)]
  have hr : fromC twoUp 0 0 [0] (updC (fun _ => newD) 0 (writeD newD 0 0 [0]).1) 1 (([0, 1] : List Int).drop 1) = (filledD, 0) := by
    show fromC twoUp 0 0 [0] (updC (fun _ => newD) 0 (writeD newD 0 0 [0]).1) 1 [1] = _
    rw [from_cons, show ((1 : Nat) == 0) = false from rfl, hp2, if_neg (show ¬ (0 : Nat) ≠ 0 by decide)]
    rfl
  unfold fillC14
  rw [place_two, if_neg (by decide), chain_two, show (0 : Int) / (([[0, 1]] : List (List Int)).length : Int) = 0 from rfl]
  unfold fillC
  rw [hf, if_neg (show ¬ (0 : Nat) ≠ 0 by decide)]
  show (if (fromC twoUp 0 0 [0] (updC (fun _ => newD) 0 (writeD newD 0 0 [0]).1) 1 (([0, 1] : List Int).drop 1)).2 ≠ 0 then _ else _) = _
  rw [hr, if_neg (show ¬ (0 : Nat) ≠ 0 by decide)]
theorem write_two : (writeC twoUp 0 [[0, 1]] 0 [97] filledD).2 = 9 := by
  have hp : putC twoUp 0 0 [97] filledD 0 true = (updC filledD 0 (writeD (writeD newD 0 0 [0]).1 0 0 [97]).1, 9) := by
    unfold putC
    have e : filledD (0 : Int).toNat = (writeD newD 0 0 [0]).1 := by
      show filledD 0 = _
      unfold filledD
      rw [updC_ne _ _ (show (0 : Nat) ≠ 1 by decide), updC_at]
    rw [if_neg (by decide), if_pos (.inr rfl), e, write_second]
    rfl
  unfold writeC
  rw [place_two, if_neg (by decide), chain_two, show (0 : Int) / (([[0, 1]] : List (List Int)).length : Int) = 0 from rfl, from_cons, show ((0 : Nat) == 0) = true from rfl, hp, if_pos (show (9 : Nat) ≠ 0 by decide)]
theorem ptrs_row2 {gs : List Nat} (h : gs.length = 2) : ptrs gs = rowM 2 twoUp (fun i => gs.getD i 0) := by
  match gs, h with
  | [a, b], _ => rfl
section
variable {D : DvP} {a : Nat → Addr} {w W : World}
set_option maxRecDepth 100000 in
set_option maxHeartbeats 4000000 in
theorem alive14_any (hD : DvSpec (three a) D) (hE : Errs w a) (hb : Below w.heap.size w W) :
    Calls Tryz.prog 5 #[] W fun e w' => e = .returned (.bool true) ∧ Below W.heap.size W w' := by
  have HD := Lib.hid hD
  have HE := Lib.hid hE
  have HB := Lib.hid hb
  have CU := Lib.hid (units14_any hD hE hb 2 (by decide))
  clear hD hE hb
  have kc := fun (w : World) (C : Array Value) (n c : Nat) => Lib.run_convert_bytes_const (P := Tryz.prog) w 47 5 C n c Tryz.underlying47 Tryz.underlying5
  go_enter Tryz.func5, Tryz.ntmps5
  go_wp2_with fail
  refine CU.out.mono ?_
  rintro en w1 ⟨v, u, gs, qs, F, H, rfl, hlen, hN⟩
  have hvo : w1.ownsRow W.heap.size 70 1 v 2 (ptrs gs) := by have := hN.vown; unfold OwnUn at this; rwa [hlen] at this
  obtain ⟨bu, cu, rfl, hbu, hbu2⟩ := own_some hvo (by decide)
  have HVo := Lib.hid hvo
  have hvap := hN.vap bu rfl
  obtain ⟨Au, zu, hu⟩ : ∃ A c, u = .slice A qs.length c := by
    rcases hN.uown.2 with ⟨rfl, e⟩ | ⟨g, cap, cur, rfl, _⟩
    · exact ⟨none, 0, by rw [e]⟩
    · exact ⟨_, _, rfl⟩
  subst hu
  obtain ⟨W2, hW2⟩ : ∃ W2, ((w1.alloc (.cells #[.int .i64 0, .int .i64 1] 3)).alloc (.cells #[.slice (some ⟨w1.heap.size, 0, none⟩) 2 2] 41)).alloc (.cells #[.int .i64 0, .slice (some ⟨w1.heap.size + 1, 0, none⟩) 1 1] 24) = W2 := ⟨_, rfl⟩
  have b2 : Below w1.heap.size w1 W2 := by rw [← hW2]; exact (((Below.refl w1.heap.size w1).alloc (Nat.le_refl _) _).alloc (by simp) _).alloc (by simp; omega) _
  have k0 : W2.heap[w1.heap.size]? = some (.cells #[.int .i64 0, .int .i64 1] 3 (0, 0)) := by
    rw [← hW2, (Below.heap_alloc _ _ _ (by simp; omega)), (Below.heap_alloc _ _ _ (by simp))]; exact heap_alloc_new w1 _
  have k1 : W2.heap[w1.heap.size + 1]? = some (.cells #[.slice (some ⟨w1.heap.size, 0, none⟩) 2 2] 41 (0, 0)) := by
    rw [← hW2, (Below.heap_alloc _ _ _ (by simp))]
    have := heap_alloc_new (w1.alloc (.cells #[.int .i64 0, .int .i64 1] 3)) (.cells #[.slice (some ⟨w1.heap.size, 0, none⟩) 2 2] 41)
    rwa [World.size_alloc] at this
  have z2 : W2.heap.size = w1.heap.size + 3 := by rw [← hW2]; simp
  have hFl : ∀ k, AllM 2 F k → W.heap.size ≤ k ∧ k < w1.heap.size := fun k ⟨i, hi, e⟩ => ⟨hN.lo i (by omega) k (.inl e), ((hN.un i (by omega)).2 k e).2⟩
  have hun1 : Unim D w w1 (fun i => gs.getD i 0) F 2 128 0 (fun _ => newD) :=
    ⟨fun i hi => by have := hN.un i (by omega); rw [List.getD_eq_getElem?_getD, List.getElem?_eq_getElem (show i < gs.length by omega)]; exact this, fun i j hi hj hn => hN.apF i j (by omega) (by omega) hn, (hN.un 0 (by omega)).since⟩
  have r0 : RowS W2 (fun k => k = w1.heap.size ∨ k = w1.heap.size + 1) (.slice (some ⟨w1.heap.size, 0, none⟩) 2 2) (int64s [0, 1]) := by
    refine ⟨⟨by simp [int64s], some ⟨w1.heap.size, 0, none⟩, 2, by simp [int64s], by simp [int64s], by decide, fun _ => ⟨w1.heap.size, 0, rfl, by omega, fun j x hx => ?_⟩⟩, fun _ k e => by injection e with e; exact .inl e.symm⟩
    rw [Nat.zero_add, cell_of_row _ _ j _ _ _ k0]
    simpa [int64s] using hx
  have r1 : RowS W2 (fun k => k = w1.heap.size ∨ k = w1.heap.size + 1) (.slice (some ⟨w1.heap.size + 1, 0, none⟩) 1 1) [.slice (some ⟨w1.heap.size, 0, none⟩) 2 2] := by
    refine ⟨⟨by simp, some ⟨w1.heap.size + 1, 0, none⟩, 1, by simp, by simp, by decide, fun _ => ⟨w1.heap.size + 1, 0, rfl, by omega, fun j x hx => ?_⟩⟩, fun _ k e => by injection e with e; exact .inr e.symm⟩
    rw [Nat.zero_add, cell_of_row _ _ j _ _ _ k1]
    simpa using hx
  have HC := Lib.hid (show UCall D w W2 (fun k => k = w1.heap.size ∨ k = w1.heap.size + 1) (fun i => gs.getD i 0) F 2 (fun _ => newD) twoUp (.slice (some ⟨bu, 0, none⟩) 2 cu) (.slice (some ⟨w1.heap.size + 1, 0, none⟩) 1 1) [[0, 1]] 0 from {
    unis := hun1.below HD.out b2
    ups := upM_two
    rows := fun W' hk => by
      rw [← ptrs_row2 hlen]
      exact row_kept1 (own_kept1 hvo (Kept.of_below b2 (F := fun _ => False)) (fun e => e)) hk (fun ⟨i, hi, e⟩ => (hvap.2 i (by omega)).1 e)
    lo_le := fun k e => by omega
    above := fun k e e2 => by have := (hFl k e).2; omega
    grid := ⟨_, r1, rfl, fun i x c hx hc => by
      cases i with
      | zero => injection hx with hx; injection hc with hc; subst hx hc; exact r0
      | succ i => simp at hx⟩ })
  have HBW := Lib.hid (show Below W.heap.size W W2 from hN.be.trans (b2.mono hN.be.size))
  have HFl := Lib.hid hFl
  have CF := cfill_any HD.out HE.out HC.out (by decide) 0 0
  rw [fill_two] at CF
  have CF := Lib.hid CF
  have p2 : Two W2 (w1.heap.size + 1 + 1) 24 (.int .i64 0) (.slice (some ⟨w1.heap.size + 1, 0, none⟩) 1 1) := by
    have := Two.new ((w1.alloc (.cells #[.int .i64 0, .int .i64 1] 3)).alloc (.cells #[.slice (some ⟨w1.heap.size, 0, none⟩) 2 2] 41)) 24 (.int .i64 0) (.slice (some ⟨w1.heap.size + 1, 0, none⟩) 1 1)
    rw [hW2] at this
    simpa using this
  have P2 := Lib.hid p2
  obtain ⟨_, p0, p1, _⟩ := p2.facts
  clear hvo hbu hbu2 hvap hN b2 k0 k1 r0 r1 hun1 hFl p2 CU
  go_wp2_with fail
  refine CF.out.mono ?_
  rintro en w3 ⟨vb, x, rfl, hvb, _, hx, hs⟩
  obtain rfl := isErr_zero hx rfl
  obtain ⟨H3, hC3, g2, g3⟩ := HC.out.step hs
  have HC3 := Lib.hid hC3
  have HK3 := Lib.hid g3
  have HG3 := Lib.hid g2
  have hfr : ¬ AllM 2 F (w1.heap.size + 1 + 1) := fun e => by have := (HFl.out _ e).2; omega
  have P3 := Lib.hid (P2.out.kept g3 hfr)
  have CJ := Lib.hid (isJunk_any [0] vb _ w3 hvb (Nat.le_refl _))
  obtain ⟨Ab, cb, rfl, _⟩ := hvb.form
  clear hs hC3 g2 g3 hvb hx CF p0 p1 hfr
  go_wp2_with fail
  refine CJ.out.mono ?_
  rintro en w4 ⟨rfl, hb4⟩
  have HC4 := Lib.hid (HC3.out.below HD.out hb4)
  have HB4 := Lib.hid hb4
  have P4 := Lib.hid (P3.out.below hb4 P3.out.lt)
  obtain ⟨W5, hW5⟩ : ∃ W5, w4.alloc (.cells #[.int .u8 97] 5 (1, 2)) = W5 := ⟨_, rfl⟩
  have b5 : Below w4.heap.size w4 W5 := by rw [← hW5]; exact (Below.refl w4.heap.size w4).alloc (Nat.le_refl _) _
  have hv5 : Bytes W5 W5.heap.size (.slice (some ⟨w4.heap.size, 0, none⟩) 1 1) [97] := by rw [← hW5, World.size_alloc]; exact Bytes.new w4 _ _ _ _ 1 [97] rfl rfl rfl (by omega)
  have z5 : W5.heap.size = w4.heap.size + 1 := by rw [← hW5, World.size_alloc]
  have CW := cwrite_any HD.out HE.out (HC4.out.below HD.out b5) (by decide) 0 0 (.slice (some ⟨w4.heap.size, 0, none⟩) 1 1) [97] hv5 (fun j e => by
    injection e with e
    have e : w4.heap.size = j := e
    exact ⟨fun h => by have := (HC4.out.unis.lt j h).2; omega, by omega⟩)
  have hw2 : (writeC twoUp 0 [[0, 1]] 0 [97] filledD).2 = 9 := write_two
  obtain ⟨r, hr⟩ : ∃ r, writeC twoUp 0 [[0, 1]] 0 [97] filledD = r := ⟨_, rfl⟩
  rw [hr] at hw2
  have hr2 : writeC twoUp 0 [[0, 1]] 0 [97] (filledD, ([0] : List UInt8), 0).1 = r := hr
  rw [hr2] at CW
  have CW := Lib.hid CW
  have HW9 := Lib.hid hw2
  have HB5 := Lib.hid b5
  obtain ⟨_, p0, p1, _⟩ := P4.out.facts
  clear hb4 CJ b5 hv5 z5 hr hr2 hw2
  go_wp2_with fail
  refine CW.out.mono ?_
  rintro en w6 ⟨x6, rfl, hx6, hs6⟩
  rw [HW9.out] at hx6
  have HX6 := Lib.hid hx6
  have HS6 := Lib.hid hs6
  have hB6 : Below W.heap.size W w6 := by
    obtain ⟨_, _, _, g6⟩ := hs6
    have s2 := HBW.out.size
    have k1 := HK3.out
    have b35 := HB4.out.trans (HB5.out.mono HB4.out.size)
    refine ⟨g6.os.trans (b35.os.trans (k1.os.trans HBW.out.os)), g6.tape.trans (b35.tape.trans (k1.tape.trans HBW.out.tape)), g6.output.trans (b35.output.trans (k1.output.trans HBW.out.output)), by have := g6.size; have := b35.size; have := k1.size; omega, fun k hk => ?_⟩
    have e1 := HBW.out.block k hk
    have e2 := k1.block k (by omega) (fun e => by have := (HFl.out k e).1; omega)
    have e3 := b35.block k (by have := k1.size; omega)
    have e4 := g6.block k (by have := k1.size; have := b35.size; omega) (fun ⟨i, hi, e⟩ => by
      rcases HG3.out i k e with e | e
      · have := (HFl.out k ⟨i, hi, e⟩).1; omega
      · omega)
    exact e4.trans (e3.trans (e2.trans e1))
  have HB6 := Lib.hid hB6
  have CN := Lib.hid (num_any a x6 9 w6 (by obtain ⟨_, g1, _, _⟩ := hs6; exact HE.out.below g1.since) hx6)
  clear hx6 hs6 hB6 CW p0 p1 hW5
  go_wp2_with fail
  refine CN.out.mono ?_
  rintro en w7 ⟨rfl, hb7⟩
  have HB7 := Lib.hid (HB6.out.trans (hb7.mono HB6.out.size))
  clear hb7 CN
  go_wp2_with fail
  go_ret
  exact ⟨rfl, HB7.out⟩
end
end Go.Proofs.YtiafamacjpgjoaaGreatDoor
