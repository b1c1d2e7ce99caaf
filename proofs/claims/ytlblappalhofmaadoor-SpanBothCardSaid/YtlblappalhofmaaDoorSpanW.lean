/- What the project's functions of spans answer: bounds, what is ahead, which spans are right, which keys are in them. -/
import Derived.Test.YtlblappalhofmaaDoorSpanS
import Derived.Test.YtlblappalhofmaaDoorKeyW
import Derived.Test.YtlblappalhofmaaDoorCompB
import Derived.Laws.NewBlocks
namespace Go.Proofs.YtlblappalhofmaaDoor
open Go.RowKit Go.Shelf Tide Utf

/-- Two cells of a block: what they hold. -/
def Pair (W : World) (g : Nat) (x y : Value) : Prop := g < W.heap.size ∧ W.cell? ⟨g, 0, none⟩ = some x ∧ W.cell? ⟨g, 1, none⟩ = some y
theorem Pair.new (w : World) (t : TypeId) (x y : Value) : Pair (w.alloc (.cells #[x, y] t)) w.heap.size x y :=
  ⟨by simp, by rw [World.cell?_alloc_at _ _ _ _ rfl]; rfl, by rw [World.cell?_alloc_at _ _ _ _ rfl]; rfl⟩
theorem Pair.below {W W' : World} {B g : Nat} {x y : Value} (h : Pair W g x y) (hb : Below B W W') (hB : g < B) : Pair W' g x y :=
  ⟨by have := h.1; have := hb.size; omega, (hb.cell (p := ⟨g, 0, none⟩) hB).trans h.2.1, (hb.cell (p := ⟨g, 1, none⟩) hB).trans h.2.2⟩
theorem Pair.alloc {W : World} {g : Nat} {x y : Value} (h : Pair W g x y) (o : Obj) : Pair (W.alloc o) g x y := h.below ((Below.refl _ _).alloc (Nat.le_refl _) o) h.1
/-- A span as a value. -/
abbrev spanV (lo hi : ByteArray) : Value := .agg #[.string lo, .string hi]

theorem bound_is (a : Nat → Addr) (s : ByteArray) (w : World) (hs : s.size ≤ 65536) (hT : Tabs w) (hE : Errs w a) (b : Bool) (hb : bndB s = b) :
    Calls Tryd.prog 21 #[.string s] w fun e w' => e = .returned (.bool b) ∧ Below w.heap.size w w' := by
  by_cases h0 : s = mt
  · subst h0
    obtain rfl : b = true := by rw [← hb]; rfl
    clear hb
    go_enter Tryd.func21, Tryd.ntmps21
    go_wp2_with fail
    go_ret
    exact ⟨rfl, Below.refl _ _⟩
  · have cK := key_any a s w hs hT hE
    have hn := nonempty h0
    have hn2 := nonempty' h0
    have hk : decide (keyNum s = 0) = b := by rw [← hb]; unfold bndB; simp [h0]
    have HK := Lib.hid hk
    clear hb h0 hT hE hk
    go_enter Tryd.func21, Tryd.ntmps21
    go_wp2_with fail
    refine cK.mono ?_
    rintro e w1 ⟨x, rfl, hx, hb⟩
    have HB := Lib.hid hb
    clear hb cK
    rcases hx with ⟨h0, rfl⟩ | ⟨m, hm, h0, rfl⟩
    · obtain rfl : b = true := by rw [← HK.out, h0]; rfl
      clear h0
      go_wp2_with fail
      go_ret
      exact ⟨rfl, HB.out⟩
    · obtain rfl : b = false := by rw [← HK.out, h0]; rfl
      clear h0
      go_wp2_with fail
      go_ret
      exact ⟨rfl, HB.out⟩

theorem ahead_is {s h : ByteArray} {l m : List Nat} (w : World) (hs : s.size ≤ 65536) (hh : h.size ≤ 65536) (hT : Tabs w) (hl : runes s 0 = some l) (hm : runes h 0 = some m) (b : Bool) (hb : aheadB s h = b) :
    Calls Tryd.prog 22 #[.string s, .string h] w fun e w' => e = .returned (.bool b) ∧ Below w.heap.size w w' := by
  by_cases h0 : h = mt
  · subst h0
    obtain rfl : b = true := by rw [← hb]; rfl
    clear hb hm
    go_enter Tryd.func22, Tryd.ntmps22
    go_wp2_with fail
    go_ret
    exact ⟨rfl, Below.refl _ _⟩
  · have cC := comp_some w hs hh hT hl hm
    have hn := nonempty h0
    have hn2 := nonempty' h0
    have hk : decide (cmp l m < 0) = b := by rw [← hb, ← lts_cmp hl hm]; unfold aheadB; simp [h0]
    clear hb h0 hT hl hm
    generalize cmp l m = c at *
    go_enter Tryd.func22, Tryd.ntmps22
    go_wp2_with fail
    refine cC.mono ?_
    rintro e w1 ⟨rfl, hb⟩
    have HB := Lib.hid hb
    clear hb cC
    go_wp2_with fail
    go_ret
    exact ⟨rfl, HB.out⟩

set_option maxHeartbeats 1000000 in
theorem right_is (a : Nat → Addr) (lo hi : ByteArray) (w : World) (hlo : lo.size ≤ 65536) (hhi : hi.size ≤ 65536) (hT : Tabs w) (hE : Errs w a) (b : Bool) (hb : spanB lo hi = b) :
    Calls Tryd.prog 9 #[spanV lo hi] w fun e w' => e = .returned (.bool b) ∧ Below w.heap.size w w' := by
  have HT := Lib.hid hT
  have HE := Lib.hid hE
  have B0 := Lib.hid ((Below.refl w.heap.size w).alloc (Nat.le_refl _) (.cells #[.string lo, .string hi] 23))
  have P0 := Lib.hid (Pair.new w 23 (.string lo) (.string hi))
  clear hT hE
  cases h1 : bndB lo with
  | false =>
    obtain rfl : b = false := by rw [← hb]; unfold spanB; rw [h1]; rfl
    have cB := fun W (h : Below w.heap.size w W) => bound_is a lo W hlo (HT.out.below h) (HE.out.below h) false h1
    have CB := Lib.hid cB
    clear hb h1 cB
    go_enter Tryd.func9, Tryd.ntmps9
    go_wp2_with fail
    refine (CB.out _ B0.out).mono ?_
    rintro e w1 ⟨rfl, hb⟩
    have HB := Lib.hid (B0.out.trans (hb.mono B0.out.size))
    clear hb
    go_wp2_with fail
    go_ret
    exact ⟨rfl, HB.out⟩
  | true =>
    cases h2 : bndB hi with
    | false =>
      obtain rfl : b = false := by rw [← hb]; unfold spanB; rw [h1, h2]; rfl
      have cB := fun W (h : Below w.heap.size w W) => bound_is a lo W hlo (HT.out.below h) (HE.out.below h) true h1
      have CB := Lib.hid cB
      have cB2 := fun W (h : Below w.heap.size w W) => bound_is a hi W hhi (HT.out.below h) (HE.out.below h) false h2
      have CB2 := Lib.hid cB2
      clear hb h1 cB h2 cB2
      go_enter Tryd.func9, Tryd.ntmps9
      go_wp2_with fail
      refine (CB.out _ B0.out).mono ?_
      rintro e w1 ⟨rfl, hb⟩
      have HB := Lib.hid (B0.out.trans (hb.mono B0.out.size))
      obtain ⟨g1, hc0, hc1⟩ := P0.out.below hb P0.out.1
      clear hb
      go_wp2_with fail
      refine (CB2.out _ HB.out).mono ?_
      rintro e w2 ⟨rfl, hb⟩
      have HB2 := Lib.hid (HB.out.trans (hb.mono HB.out.size))
      clear hb
      go_wp2_with fail
      go_ret
      exact ⟨rfl, HB2.out⟩
    | true =>
      obtain ⟨l, hl⟩ := bnd_runes h1
      obtain ⟨m, hm⟩ := bnd_runes h2
      have h3 : aheadB lo hi = b := by rw [← hb]; unfold spanB; rw [h1, h2]; rfl
      have cB := fun W (h : Below w.heap.size w W) => bound_is a lo W hlo (HT.out.below h) (HE.out.below h) true h1
      have CB := Lib.hid cB
      have cB2 := fun W (h : Below w.heap.size w W) => bound_is a hi W hhi (HT.out.below h) (HE.out.below h) true h2
      have CB2 := Lib.hid cB2
      have cA := fun W (h : Below w.heap.size w W) => ahead_is W hlo hhi (HT.out.below h) hl hm b h3
      have CA := Lib.hid cA
      clear hb h1 cB h2 cB2 cA h3 hl hm
      go_enter Tryd.func9, Tryd.ntmps9
      go_wp2_with fail
      refine (CB.out _ B0.out).mono ?_
      rintro e w1 ⟨rfl, hb⟩
      have HB := Lib.hid (B0.out.trans (hb.mono B0.out.size))
      have P1 := Lib.hid (P0.out.below hb P0.out.1)
      obtain ⟨g1, hc0, hc1⟩ := P1.out
      clear hb
      go_wp2_with fail
      refine (CB2.out _ HB.out).mono ?_
      rintro e w2 ⟨rfl, hb⟩
      have HB2 := Lib.hid (HB.out.trans (hb.mono HB.out.size))
      obtain ⟨g2, hd0, hd1⟩ := P1.out.below hb P1.out.1
      clear hb hc0 hc1
      go_wp2_with fail
      refine (CA.out _ HB2.out).mono ?_
      rintro e w3 ⟨rfl, hb⟩
      have HB3 := Lib.hid (HB2.out.trans (hb.mono HB2.out.size))
      clear hb
      go_wp2_with fail
      go_ret
      exact ⟨rfl, HB3.out⟩

theorem hasIn_is {lo hi k : ByteArray} {l m n : List Nat} (w : World) (hlo : lo.size ≤ 65536) (hhi : hi.size ≤ 65536) (hk : k.size ≤ 65536) (hT : Tabs w) (hl : runes lo 0 = some l) (hm : runes hi 0 = some m) (hn : runes k 0 = some n) (b : Bool) (hb : inB lo hi k = b) :
    Calls Tryd.prog 19 #[spanV lo hi, .string k] w fun e w' => e = .returned (.bool b) ∧ Below w.heap.size w w' := by
  have HT := Lib.hid hT
  have B0 := Lib.hid ((Below.refl w.heap.size w).alloc (Nat.le_refl _) (.cells #[.string lo, .string hi] 23))
  have P0 := Lib.hid (Pair.new w 23 (.string lo) (.string hi))
  have cC := fun W (h : Below w.heap.size w W) => comp_some W hlo hk (HT.out.below h) hl hn
  have CC := Lib.hid cC
  have hsw : lts k lo = decide (0 < cmp l n) := lts_swap hl hn
  clear hT cC
  by_cases h1 : 0 < cmp l n
  · obtain rfl : b = false := by rw [← hb]; unfold inB; rw [hsw, decide_eq_true h1]; rfl
    have q : decide (cmp l n ≤ 0) = false := by simp; omega
    clear hb hsw hl hm hn
    generalize cmp l n = c at *
    go_enter Tryd.func19, Tryd.ntmps19
    go_wp2_with fail
    refine (CC.out _ B0.out).mono ?_
    rintro e w1 ⟨rfl, hb⟩
    have HB := Lib.hid (B0.out.trans (hb.mono B0.out.size))
    clear hb
    go_wp2_with fail
    go_ret
    exact ⟨rfl, HB.out⟩
  · have h3 : aheadB k hi = b := by rw [← hb]; unfold inB; rw [hsw, decide_eq_false h1]; rfl
    have cA := fun W (h : Below w.heap.size w W) => ahead_is W hk hhi (HT.out.below h) hn hm b h3
    have CA := Lib.hid cA
    have q : decide (cmp l n ≤ 0) = true := by simp; omega
    clear hb hsw hl hm hn cA h3
    generalize cmp l n = c at *
    go_enter Tryd.func19, Tryd.ntmps19
    go_wp2_with fail
    refine (CC.out _ B0.out).mono ?_
    rintro e w1 ⟨rfl, hb⟩
    have HB := Lib.hid (B0.out.trans (hb.mono B0.out.size))
    obtain ⟨g1, hc0, hc1⟩ := P0.out.below hb P0.out.1
    clear hb
    go_wp2_with fail
    refine (CA.out _ HB.out).mono ?_
    rintro e w2 ⟨rfl, hb⟩
    have HB2 := Lib.hid (HB.out.trans (hb.mono HB.out.size))
    clear hb
    go_wp2_with fail
    go_ret
    exact ⟨rfl, HB2.out⟩

set_option maxHeartbeats 1000000 in
theorem has_is (a : Nat → Addr) (lo hi k : ByteArray) (w : World) (hlo : lo.size ≤ 65536) (hhi : hi.size ≤ 65536) (hk : k.size ≤ 65536) (hT : Tabs w) (hE : Errs w a) (b : Bool) (hb : hasB lo hi k = b) :
    Calls Tryd.prog 11 #[spanV lo hi, .string k] w fun e w' => e = .returned (.bool b) ∧ Below w.heap.size w w' := by
  have HT := Lib.hid hT
  have HE := Lib.hid hE
  have B0 := Lib.hid ((Below.refl w.heap.size w).alloc (Nat.le_refl _) (.cells #[.string lo, .string hi] 23))
  have P0 := Lib.hid (Pair.new w 23 (.string lo) (.string hi))
  clear hT hE
  cases h1 : spanB lo hi with
  | false =>
    obtain rfl : b = false := by rw [← hb]; unfold hasB; rw [h1]; rfl
    have cB := fun W (h : Below w.heap.size w W) => right_is a lo hi W hlo hhi (HT.out.below h) (HE.out.below h) false h1
    have CB := Lib.hid cB
    clear hb h1 cB
    go_enter Tryd.func11, Tryd.ntmps11
    go_wp2_with fail
    refine (CB.out _ B0.out).mono ?_
    rintro e w1 ⟨rfl, hb⟩
    have HB := Lib.hid (B0.out.trans (hb.mono B0.out.size))
    clear hb
    go_wp2_with fail
    go_ret
    exact ⟨rfl, HB.out⟩
  | true =>
    have cB := fun W (h : Below w.heap.size w W) => right_is a lo hi W hlo hhi (HT.out.below h) (HE.out.below h) true h1
    have CB := Lib.hid cB
    have cK := fun W (h : Below w.heap.size w W) => key_any a k W hk (HT.out.below h) (HE.out.below h)
    have CK := Lib.hid cK
    obtain ⟨hb1, hb2, _⟩ := span_parts h1
    have hbb : b = (decide (keyNum k = 0) && inB lo hi k) := by rw [← hb]; unfold hasB; rw [h1]; rfl
    have HBB := Lib.hid hbb
    have H1 := Lib.hid hb1
    have H2 := Lib.hid hb2
    clear hb h1 cB cK hbb hb1 hb2
    go_enter Tryd.func11, Tryd.ntmps11
    go_wp2_with fail
    refine (CB.out _ B0.out).mono ?_
    rintro e w1 ⟨rfl, hb⟩
    have HB := Lib.hid (B0.out.trans (hb.mono B0.out.size))
    have P1 := Lib.hid (P0.out.below hb P0.out.1)
    clear hb
    go_wp2_with fail
    refine (CK.out _ HB.out).mono ?_
    rintro e w2 ⟨x, rfl, hx, hb⟩
    have HB2 := Lib.hid (HB.out.trans (hb.mono HB.out.size))
    have P2 := Lib.hid (P1.out.below hb P1.out.1)
    clear hb
    rcases hx with ⟨h0, rfl⟩ | ⟨m, hm, h0, rfl⟩
    · obtain ⟨l, hl⟩ := bnd_runes H1.out
      obtain ⟨m, hm⟩ := bnd_runes H2.out
      obtain ⟨n, hn⟩ := key_runes h0
      have cI := fun W (h : Below w.heap.size w W) => hasIn_is W hlo hhi hk (HT.out.below h) hl hm hn b (by rw [HBB.out, decide_eq_true h0]; rfl)
      have CI := Lib.hid cI
      obtain ⟨g2, hd0, hd1⟩ := P2.out
      clear cI h0 hl hm hn
      go_wp2_with fail
      refine (CI.out _ HB2.out).mono ?_
      rintro e w3 ⟨rfl, hb⟩
      have HB3 := Lib.hid (HB2.out.trans (hb.mono HB2.out.size))
      clear hb
      go_wp2_with fail
      go_ret
      exact ⟨rfl, HB3.out⟩
    · obtain rfl : b = false := by rw [HBB.out, h0]; rfl
      clear h0
      go_wp2_with fail
      go_ret
      exact ⟨rfl, HB2.out⟩

theorem bord_is (la ha lb hb' : ByteArray) (w : World) (b : Bool) (hb : bordB ha lb = b) :
    Calls Tryd.prog 25 #[spanV la ha, spanV lb hb'] w fun e w' => e = .returned (.bool b) ∧ Below w.heap.size w w' := by
  have B0 := Lib.hid (((Below.refl w.heap.size w).alloc (Nat.le_refl _) (.cells #[.string la, .string ha] 23)).alloc (by simp) (.cells #[.string lb, .string hb'] 23))
  by_cases h0 : ha = mt
  · subst h0
    obtain rfl : b = false := by rw [← hb]; rfl
    clear hb
    go_enter Tryd.func25, Tryd.ntmps25
    go_wp2_with fail
    go_ret
    exact ⟨rfl, B0.out⟩
  · have hn := nonempty h0
    have hn2 := nonempty' h0
    have hk : (ha.toList == lb.toList) = b := by
      rw [← hb]; unfold bordB; rw [decide_eq_false h0]
      rw [Bool.eq_iff_iff, beq_iff_eq]
      simp only [Bool.not_false, Bool.true_and, decide_eq_true_eq]
      exact ⟨fun h => bytes_ext (by rw [← Lib.toList_data, ← Lib.toList_data, h]), fun h => by rw [h]⟩
    clear hb h0
    go_enter Tryd.func25, Tryd.ntmps25
    go_wp2_with fail
    go_ret
    exact ⟨rfl, B0.out⟩
end Go.Proofs.YtlblappalhofmaaDoor
