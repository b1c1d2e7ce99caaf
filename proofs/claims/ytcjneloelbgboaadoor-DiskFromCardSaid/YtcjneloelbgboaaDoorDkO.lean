/- A device of an image, or of noughts; its image; a sector that is read. -/
import Derived.Test.YtcjneloelbgboaaDoorDkN
import Derived.Test.YtcjneloelbgboaaDoorDkA
namespace Go.Proofs.YtcjneloelbgboaaDoor
open Go.RowKit Tide

theorem of_any (v : Value) (l : List UInt8) (B : Nat) (w : World) (hv : Bytes w B v l) (hB : B ≤ w.heap.size) (h0 : 64 ≤ l.length) (hl : l.length ≤ 3000) :
    Calls Tryd.prog 19 #[v] w fun e w' => ∃ p F bd cd bn cn, e = .returned (.pointer (some ⟨p, 0, none⟩)) ∧ DevB w' F p l l [] bd cd bn cn (.slice none 0 0) ∧ (∀ k, F k → w.heap.size ≤ k) ∧ Below w.heap.size w w' := by
  have C1 := Lib.hid (clone_any v l B w hv hB (by omega))
  have C2 := Lib.hid (fun W (h : Below w.heap.size w W) => clone_any v l w.heap.size W ((hv.more hB).below h) h.size (by omega))
  have HL := Lib.hid h0
  clear hv hB h0 hl
  go_enter Tryd.func19, Tryd.ntmps19
  go_wp2_with fail
  refine C1.out.mono ?_
  rintro en w1 ⟨v1, rfl, ho1, hb1⟩
  obtain ⟨bd, cd, rfl, hd1, hd2⟩ := ho1.form (by have := HL.out; omega)
  have H1 := Lib.hid ho1
  have B1 := Lib.hid hb1
  clear ho1 hb1 C1
  go_wp2_with fail
  refine (C2.out _ B1.out).mono ?_
  rintro en w2 ⟨v2, rfl, ho2, hb2⟩
  obtain ⟨bn, cn, rfl, hn1, hn2⟩ := ho2.form (by have := HL.out; omega)
  have H2 := Lib.hid ho2
  have B2 := Lib.hid hb2
  clear ho2 hb2 C2
  go_wp2_with fail
  go_ret
  have hz1 := B1.out.size
  have hz2 := B2.out.size
  have ba : ∀ o, Below w2.heap.size w2 (w2.alloc o) := fun o => (Below.refl _ _).alloc (Nat.le_refl _) o
  refine ⟨w2.heap.size, fun k => k = w2.heap.size ∨ k = bd ∨ k = bn, bd, cd, bn, cn, rfl, ?_, ?_, ?_⟩
  · exact {
      block := heap_alloc_new w2 _
      dur := own_below (own_below (own_later H1.out (Nat.zero_le _)) B2.out) (ba _)
      now := own_below (own_later H2.out (Nat.zero_le _)) (ba _)
      pend := ⟨rfl, .inl ⟨rfl, rfl⟩⟩
      wr := fun t ht => by cases ht
      fp := ⟨.inl rfl, .inr (.inl rfl), .inr (.inr rfl), (fun k e => by cases e), (fun t ht => by cases ht)⟩
      lt := fun k hk => by
        rw [World.size_alloc]
        rcases hk with rfl | rfl | rfl <;> omega
      ne := by refine ⟨?_, ?_, ?_⟩ <;> omega
      nep := fun k e => by cases e
      new := fun t ht => by cases ht }
  · rintro k (rfl | rfl | rfl) <;> omega
  · exact (B1.out.trans (B2.out.mono hz1)).alloc (by omega) _

theorem new_dev {W w' : World} {F : Nat → Prop} {p : Nat} {l : List UInt8} {bd cd bn cn : Nat} (h0 : 64 ≤ l.length) (hm : l.length % 64 = 0) (hD : DevB w' F p l l [] bd cd bn cn (.slice none 0 0)) (hF : ∀ k, F k → W.heap.size ≤ k) (hb : Below W.heap.size W w') :
    NewR DevS W l (.returned (.tuple #[.pointer (some ⟨p, 0, none⟩), .nilIface])) w' :=
  ⟨p, F, rfl, ⟨[], bd, cd, bn, cn, _, rfl, ⟨h0, hm, fun x hx => by cases hx⟩, hD⟩, hF, hb⟩

theorem make_noughts (n : Nat) (hn : 64 * n ≤ 65536) : ∀ W : World, (Instr.makeSlice 22 (.int .i64 ((n : Int) * 64)) (.int .i64 ((n : Int) * 64))).run Tryd.prog W = .ok (.slice (some ⟨W.heap.size, 0, none⟩) (64 * n) (64 * n)) (W.alloc (.cells (madeCells #[.int .u8 0] (64 * n)) 5)) := fun W => by
  obtain ⟨i0, hi, hz0, hz1, hz2⟩ := info_parts infoB
  have e : (n : Int) * 64 = ((64 * n : Nat) : Int) := by omega
  rw [e]
  have h := run_makeSlice (P := Tryd.prog) W 22 5 i0 (.int .u8 0) Tryd.underlying22 hi hz0 .i64 .i64 ((64 * n : Nat) : Int) ((64 * n : Nat) : Int) (by omega) (by omega) (by rw [hz1]; omega) (by rw [hz2]; omega) (by omega)
  rw [hz1, Int.toNat_natCast, Nat.mul_one] at h
  exact h
theorem bytes_noughts (n : Nat) (hn : 64 * n ≤ 65536) (w : World) : Bytes (w.alloc (.cells (madeCells #[.int .u8 0] (64 * n)) 5)) (w.heap.size + 1) (.slice (some ⟨w.heap.size, 0, none⟩) (64 * n) (64 * n)) (noughts (64 * n)) :=
  bytes_of_cells (noughts_len _) hn (Nat.lt_succ_self _) (fun j hj => by
    rw [noughts_get, cell_of_row _ _ j _ _ _ (heap_alloc_new w _)]
    exact made_at (64 * n) j (by rwa [noughts_len] at hj))

theorem new_any (n : Nat) (h1 : 1 ≤ n) (h6 : n ≤ 6) (W : World) : Calls Tryd.prog 14 #[.int .i64 (n : Nat)] W (NewR DevS W (noughts (64 * n))) := by
  have mk := make_noughts n (by omega)
  have CO := Lib.hid (of_any (.slice (some ⟨W.heap.size, 0, none⟩) (64 * n) (64 * n)) (noughts (64 * n)) (W.heap.size + 1) _ (bytes_noughts n (by omega) W) (by simp) (by rw [noughts_len]; omega) (by rw [noughts_len]; omega))
  have q1 : decide ((n : Int) < 1) = false := decide_eq_false (by omega)
  have q2 : decide ((4096 : Int) < (n : Int)) = false := decide_eq_false (by omega)
  have q3 : decide ((n : Int) > 4096) = false := decide_eq_false (by omega)
  have hw1 : wrap64 ((n : Int) * 64) = (n : Int) * 64 := by unfold wrap64; omega
  have hv1 : IntKind.i64.wrap ((n : Int) * 64) = (n : Int) * 64 := by simp [IntKind.wrap, IntKind.signed, IntKind.bits]; omega
  have HN := Lib.hid (show 64 ≤ (noughts (64 * n)).length ∧ (noughts (64 * n)).length % 64 = 0 from by rw [noughts_len]; omega)
  clear h1 h6
  generalize noughts (64 * n) = l at *
  go_enter Tryd.func14, Tryd.ntmps14
  go_wp2_with fail
  refine CO.out.mono ?_
  rintro en w2 ⟨p, F, bd, cd, bn, cn, rfl, hD, hF, hb⟩
  have HD := Lib.hid hD
  have HF := Lib.hid hF
  have HB := Lib.hid hb
  clear hD hF hb CO mk
  go_wp2_with fail
  go_ret2
  exact new_dev HN.out.1 HN.out.2 HD.out (fun k hk => by have := HF.out k hk; rw [World.size_alloc] at this; omega) (((Below.refl W.heap.size W).alloc (Nat.le_refl _) _).trans (HB.out.mono (by rw [World.size_alloc]; omega)))

theorem from_good (v : Value) (B : Nat) (l : List UInt8) (W : World) (hv : Bytes W B v l) (hB : B ≤ W.heap.size) (hl : l.length ≤ 3000) (hne : l ≠ []) (hm : l.length % 64 = 0) : Calls Tryd.prog 7 #[v] W (NewR DevS W l) := by
  have hpos : 0 < l.length := List.length_pos_iff.2 hne
  have h64 : 64 ≤ l.length := by omega
  have CO := Lib.hid (of_any v l B W hv hB h64 hl)
  obtain ⟨A, c, rfl, _, _, _⟩ := hv.form
  have HN := Lib.hid (And.intro h64 hm)
  obtain ⟨n, hn⟩ : ∃ n : Nat, l.length = 64 * n := ⟨l.length / 64, by omega⟩
  have q5 : ((l.length : Int) % 64 != 0) = false := by
    have : ((l.length : Int) % 64) = 0 := by omega
    rw [this]; rfl
  have q4 : ((l.length : Int).tmod 64 != 0) = false := by
    rw [Int.tmod_eq_emod_of_nonneg (by omega)]; exact q5
  have q6 : (l.length : Int).tdiv 64 = (n : Int) := by rw [Int.tdiv_eq_ediv_of_nonneg (by omega)]; omega
  have q7 : (l.length : Int) / 64 = (n : Int) := by omega
  have q1 : decide ((n : Int) < 1) = false := decide_eq_false (by omega)
  have q2 : decide ((4096 : Int) < (n : Int)) = false := decide_eq_false (by omega)
  have hw1 : wrap64 (n : Int) = (n : Int) := by unfold wrap64; omega
  have hv1 : IntKind.i64.wrap (n : Int) = (n : Int) := by simp [IntKind.wrap, IntKind.signed, IntKind.bits]; omega
  clear hv hB hl hne hm hpos h64 hn
  go_enter Tryd.func7, Tryd.ntmps7
  go_wp2_with fail
  refine CO.out.mono ?_
  rintro en w2 ⟨p, F, bd, cd, bn, cn, rfl, hD, hF, hb⟩
  have HD := Lib.hid hD
  have HF := Lib.hid hF
  have HB := Lib.hid hb
  clear hD hF hb CO
  go_wp2_with fail
  go_ret2
  exact new_dev HN.out.1 HN.out.2 HD.out HF.out HB.out

theorem below_drawn (W : World) (n : Nat) : Below W.heap.size W (W.drewN n) := ⟨rfl, rfl, rfl, Nat.le_refl _, fun _ _ => rfl⟩
theorem from_wrong (x : Nat → Addr) (v : Value) (B : Nat) (l : List UInt8) (W : World) (hE : E3 x W) (hv : Bytes W B v l) (hl : l.length ≤ 3000) (hbad : l = [] ∨ l.length % 64 ≠ 0) :
    Calls Tryd.prog 7 #[v] W fun e w' => e = .returned (.tuple #[.pointer none, errAt (x 1)]) ∧ Below W.heap.size W w' := by
  have ce := hE.form
  obtain ⟨A, c, rfl, _, _, _⟩ := hv.form
  clear hv hE
  obtain ⟨n, hn⟩ : ∃ n : Nat, l.length / 64 = n := ⟨_, rfl⟩
  have q6 : (l.length : Int).tdiv 64 = (n : Int) := by rw [Int.tdiv_eq_ediv_of_nonneg (by omega)]; omega
  have q7 : (l.length : Int) / 64 = (n : Int) := by omega
  have hw1 : wrap64 (n : Int) = (n : Int) := by unfold wrap64; omega
  have hv1 : IntKind.i64.wrap (n : Int) = (n : Int) := by simp [IntKind.wrap, IntKind.signed, IntKind.bits]; omega
  by_cases hm : l.length % 64 = 0
  · have h0 : l = [] := by
      rcases hbad with h | h
      · exact h
      · exact absurd hm h
    subst h0
    have hn0 : n = 0 := by simpa using hn.symm
    subst hn0
    clear hn hbad hl hm q6 q7 hw1 hv1
    go_enter Tryd.func7, Tryd.ntmps7
    go_wp2_with fail
    go_quiet (fail)
    go_wp2_with fail
    go_ret2
    exact ⟨rfl, below_drawn _ _⟩
  · have q5 : ((l.length : Int) % 64 != 0) = true := by rw [bne_iff_ne]; omega
    have q4 : ((l.length : Int).tmod 64 != 0) = true := by
      rw [Int.tmod_eq_emod_of_nonneg (by omega)]; exact q5
    clear hn hbad hl hm
    go_enter Tryd.func7, Tryd.ntmps7
    go_wp2_with fail
    go_quiet (fail)
    go_wp2_with fail
    go_ret2
    exact ⟨rfl, below_drawn _ _⟩

section
variable {W : World} {F : Nat → Prop} {p : Nat} {img now : List UInt8} {ts : List Wr} {bd cd bn cn : Nat} {vp : Value}
theorem image_any (h : DevB W F p img now ts bd cd bn cn vp) (hL : img.length ≤ 3000) : Calls Tryd.prog 9 #[.pointer (some ⟨p, 0, none⟩)] W fun e w' => ∃ v, e = .returned v ∧ Bytes w' w'.heap.size v img ∧ Below W.heap.size W w' := by
  obtain ⟨c0, _, _, _, _, _⟩ := h.facts
  have CC := Lib.hid (clone_any (sl bd img.length cd) img W.heap.size W (Bytes.of_own h.dur) (Nat.le_refl _) (by omega))
  clear h hL
  generalize img.length = L at *
  go_enter Tryd.func9, Tryd.ntmps9
  go_wp2_with fail
  refine CC.out.mono ?_
  rintro en w1 ⟨v, rfl, ho, hb⟩
  have HO := Lib.hid (Bytes.of_own ho)
  have HB := Lib.hid hb
  clear ho hb CC
  go_wp2_with fail
  go_ret
  exact ⟨v, rfl, HO.out, HB.out⟩
/-- A sector, as bytes. -/
theorem sect_bytes {b L cap i : Nat} {l : List UInt8} (h : W.ownsRow 0 5 1 (sl b L cap) L (u8s l)) (hi : 64 * i + 64 ≤ L) : Bytes W W.heap.size (.slice (some ⟨b, 64 * i, none⟩) 64 (cap - 64 * i)) (sect l i) := by
  have hL : l.length = L := by have := h.1; rw [u8s_length] at this; omega
  have hc : L ≤ cap ∧ cap ≤ 9223372036854775807 := by
    rcases h.2 with ⟨h1, _⟩ | ⟨g, c, cur, h1, _, _, h2, h3, _⟩
    · cases h1
    · injection h1 with _ _ e; subst e; exact ⟨h2, h3⟩
  have hs := (Bytes.of_own h).sub (lo := 64 * i) (hi := 64 * i + 64) (m := 64) (c' := cap - 64 * i) (l' := sect l i) (by omega) (by omega) (by unfold sect; rw [List.drop_take]; congr 1; omega) (by omega) (by omega) (by omega)
  rwa [Nat.zero_add] at hs
theorem caps (h : DevB W F p img now ts bd cd bn cn vp) : img.length ≤ cd ∧ img.length ≤ cn := by
  constructor
  · rcases h.dur.2 with ⟨h1, _⟩ | ⟨g, c, cur, h1, _, _, h2, _⟩
    · cases h1
    · injection h1 with _ _ e; subst e; exact h2
  · rcases h.now.2 with ⟨h1, _⟩ | ⟨g, c, cur, h1, _, _, h2, _⟩
    · cases h1
    · injection h1 with _ _ e; subst e; exact h2
theorem read_any (h : DevB W F p img now ts bd cd bn cn vp) (hL : img.length ≤ 3000) (i : Nat) (hi : i < img.length / 64) : Calls Tryd.prog 11 #[.pointer (some ⟨p, 0, none⟩), .int .i64 (i : Nat)] W fun e w' => ∃ v, e = .returned (.tuple #[v, .nilIface]) ∧ w'.ownsRow W.heap.size 5 1 v 64 (u8s (sect now i)) ∧ Below W.heap.size W w' := by
  obtain ⟨_, c1, _, _, _, _⟩ := h.facts
  have CH := has_any h hL i
  rw [decide_eq_true (show (0 : Int) ≤ (i : Int) by omega), decide_eq_true (show (i : Int) < ((img.length / 64 : Nat) : Int) by omega)] at CH
  have hcp := (caps h).2
  have CS := Lib.hid (sector_any bn img.length cn i (by omega) hL hcp W)
  have hsl : (sect now i).length = 64 := by
    have h1 := h.now.1
    rw [u8s_length] at h1
    exact sect_len _ _ (by omega)
  have CC := clone_any (.slice (some ⟨bn, 64 * i, none⟩) 64 (cn - 64 * i)) (sect now i) W.heap.size W (sect_bytes h.now (by omega)) (Nat.le_refl _) (by omega)
  rw [hsl] at CC
  have HC := Lib.hid CC
  clear h hL hi hcp hsl CC
  generalize img.length = L at *
  go_enter Tryd.func11, Tryd.ntmps11
  go_wp2_with fail
  refine CH.mono ?_
  rintro en w1 ⟨rfl, rfl⟩
  go_wp2_with fail
  refine CS.out.mono ?_
  rintro en w1 ⟨rfl, rfl⟩
  go_wp2_with fail
  refine HC.out.mono ?_
  rintro en w1 ⟨v, rfl, ho, hb⟩
  have HO := Lib.hid ho
  have HB := Lib.hid hb
  clear ho hb CS HC
  go_wp2_with fail
  go_ret2
  exact ⟨v, rfl, HO.out, HB.out⟩
end
end Go.Proofs.YtcjneloelbgboaaDoor
