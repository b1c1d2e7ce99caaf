/- The document's own store: Append. -/
import Derived.Test.YtcpanaokfbojnaaGreatDoorGSgT
import Derived.Test.YtcpanaokfbojnaaGreatDoorGApp
import Derived.Test.YtcpanaokfbojnaaGreatDoorGMem
import Derived.Test.YtcpanaokfbojnaaGreatDoorGKeep
import Derived.Deep.RegionLaw
namespace Go.Proofs.YtcpanaokfbojnaaGreatDoor
open Go.RowKit Tide

theorem infoL : (Tryz.prog.info? 45).map (fun i => (i.zero, i.size, i.bytes)) = some (some (.slice none 0 0), 1, 24) := by kernel_rfl
theorem own_free {W : World} {base g n cap : Nat} {e : TypeId} {size : Nat} {xs : List Value} (h : W.ownsRow base e size (.slice (some ⟨g, 0, none⟩) n cap) n xs) (i : Nat) : W.frozen? ⟨g, i, none⟩ = false := by
  obtain ⟨cur, hk⟩ := own_obj h (k := g) rfl
  unfold World.frozen?
  rw [show W.heap[(⟨g, i, none⟩ : Addr).block]? = _ from hk]
  simp
theorem own_none {W : World} {base g : Nat} {e : TypeId} (hb : base ≤ g) (hg : W.heap[g]? = some (.cells #[] e (0, 0))) : W.ownsRow base e 1 (.slice (some ⟨g, 0, none⟩) 0 0) 0 [] :=
  ⟨rfl, .inr ⟨g, 0, #[], rfl, hb, hg, Nat.le_refl _, Nat.zero_le _, rfl, rfl⟩⟩
theorem bytes_move {W W' : World} {F : Nat → Prop} {u : Value} {l : List UInt8} {B : Nat} (h : Bytes W B u l) (hB : B ≤ W.heap.size) (hk : Kept F W W') (hf : ∀ k, u.ownBlock = some k → ¬ F k) : Bytes W' B u l := by
  obtain ⟨hn, A, c, rfl, hc1, hc2, hc⟩ := h
  refine ⟨hn, A, c, rfl, hc1, hc2, fun hx => ?_⟩
  obtain ⟨b, o, e, hb, hcell⟩ := hc hx
  subst e
  exact ⟨b, o, rfl, hb, fun j u hu => (hk.cell (p := ⟨b, o + j, none⟩) (Nat.lt_of_lt_of_le hb hB) (hf b rfl)).trans (hcell j u hu)⟩
theorem RefW.ends {W : World} {F S : Nat → Prop} {p places : Nat} {l : List SegW} {x : SegW} {bs c : Nat} (h : RefW W F S p places (l ++ [x]) (.slice (some ⟨bs, 0, none⟩) (l.length + 1) c)) : bs < W.heap.size ∧ W.cell? ⟨bs, l.length * 4 + 1, none⟩ = some (.int .i64 (x.d.number : Int)) ∧ W.cell? ⟨bs, l.length * 4 + 3, none⟩ = some x.vr ∧ ∀ i, W.frozen? ⟨bs, i, none⟩ = false := by
  have hlen : (l ++ [x]).length = l.length + 1 := by simp
  obtain ⟨b, c', hv, hb, _, d1, _, d3⟩ := h.cells l.length (by omega)
  have hx : (l ++ [x])[l.length]'(by omega) = x := by simp
  rw [hx] at d1 d3
  injection hv with e1 _ _
  injection e1 with e1
  injection e1 with e1 _
  subst e1
  exact ⟨hb, d1, d3, own_free (show W.ownsRow 0 102 4 (.slice (some ⟨bs, 0, none⟩) (l ++ [x]).length c) (l ++ [x]).length _ from by have := h.segs; rw [hlen] at this ⊢; exact this)⟩
theorem RefW.vrgrown {W W9 : World} {F S : Nat → Prop} {p places : Nat} {l : List SegW} {x : SegW} {bs c : Nat} (h : RefW W F S p places (l ++ [x]) (.slice (some ⟨bs, 0, none⟩) (l.length + 1) c)) (hg : W.grownBy W9 x.vr.ownBlock) : W9.cell? ⟨bs, l.length * 4 + 3, none⟩ = some x.vr ∧ W9.cell? ⟨bs, l.length * 4 + 1, none⟩ = some (.int .i64 (x.d.number : Int)) ∧ bs < W9.heap.size ∧ W9.frozen? ⟨bs, l.length * 4 + 3, none⟩ = false := by
  obtain ⟨hb, d1, d3, hf⟩ := h.ends
  have hK : Kept (fun k => x.vr.ownBlock = some k) W W9 := (Kept.refl _ _).grown hg (fun k e => .inl e)
  have hne : x.vr.ownBlock ≠ some bs := own_ne h.segs (h.rows x (by simp)).1 (by decide) bs rfl
  refine ⟨(hK.cell (p := ⟨bs, _, none⟩) hb hne).trans d3, (hK.cell (p := ⟨bs, _, none⟩) hb hne).trans d1, Nat.lt_of_lt_of_le hb hK.size, ?_⟩
  obtain ⟨cur, hc⟩ := own_obj h.segs (k := bs) rfl
  have hc9 := hK.heap hc hne
  unfold World.frozen?
  rw [show W9.heap[(⟨bs, l.length * 4 + 3, none⟩ : Addr).block]? = _ from hc9]
  simp
def AppR2 (W : World) (F S : Nat → Prop) (p : Nat) (r : StoD × Int × Int) (e : Ending) (w' : World) : Prop :=
  e = .returned (.tuple #[.int .i64 r.2.1, .int .i64 r.2.2]) ∧ ∃ F' S', RefI2 w' F' S' p r.1 ∧ (∀ k, F' k → F k ∨ W.heap.size ≤ k) ∧ (∀ k, S' k → S k ∨ W.heap.size ≤ k) ∧ Kept F W w'
section
variable {W : World} {F S : Nat → Prop} {p places : Nat} {gs : List SegW} {vs : Value}
set_option maxRecDepth 100000 in
theorem rapp_wrong (W : World) (p : Nat) (A : Option Addr) (n c : Nat) (hn : n < 1 ∨ 3968 < n) : Calls Tryz.prog 45 #[.pointer (some ⟨p, 0, none⟩), .slice A n c] W fun e w' => e = .returned (.tuple #[.int .i64 0, .int .i64 4]) ∧ w' = W := by
  by_cases h1 : n < 1
  · have h0 : n = 0 := by omega
    subst h0
    clear hn h1
    go_enter Tryz.func45, Tryz.ntmps45
    go_wp2_with fail
    go_ret2
    exact ⟨rfl, rfl⟩
  · have q1 : decide ((n : Int) < 1) = false := decide_eq_false (by omega)
    have q2 : decide ((3968 : Int) < (n : Int)) = true := decide_eq_true (by omega)
    have q3 : decide (3968 < n) = true := decide_eq_true (by omega)
    have q4 : ¬ n = 0 := by omega
    have q5 : 3968 < n := by omega
    have q6 : decide (n = 0) = false := decide_eq_false q4
    clear hn h1
    go_enter Tryz.func45, Tryz.ntmps45
    go_wp2_with fail
    go_ret2
    exact ⟨rfl, rfl⟩

set_option maxRecDepth 100000 in
set_option maxHeartbeats 2000000 in
theorem rapp_fits {l : List SegW} {x : SegW} (h : RefW W F S p places (l ++ [x]) vs) (hs : ∀ g ∈ l ++ [x], g.d.sectors ≤ 63) (hmax : (l ++ [x]).length ≤ 1000) (hrs : x.rs.length ≤ 1000)
    {v : Value} {B : Nat} {b : List UInt8} (hv : Bytes W B v b) (hB : B ≤ W.heap.size) (hap : ∀ k, v.ownBlock = some k → ¬ F k) (hb : 1 ≤ b.length ∧ b.length ≤ 3968) (hf : x.d.sectors + needD b.length ≤ 63) :
    Calls Tryz.prog 45 #[.pointer (some ⟨p, 0, none⟩), v] W fun e w' => e = .returned (.tuple #[.int .i64 (x.d.number : Int), .int .i64 0]) ∧ ∃ F' S' vs' y, RefW w' F' S' p places (l ++ [y]) vs' ∧ y.d = x.d.push b ∧ (∀ k, F' k → F k ∨ W.heap.size ≤ k) ∧ (∀ k, S' k → S k ∨ W.heap.size ≤ k) ∧ Kept F W w' := by
  obtain ⟨A, cb, rfl, _, _, _⟩ := hv.form
  have hFit : fitsD ((l ++ [x]).map SegW.d) b.length = true := by
    rw [List.map_append, List.map_singleton, fits_snoc']
    exact decide_eq_true hf
  have CF := Lib.hid (fits_any h hs hmax A b.length cb (by omega))
  rw [hFit] at CF
  have CN := Lib.hid (fun W => need_any A b.length cb (by omega) W)
  have HL := Lib.hid hb
  have q1 : decide ((b.length : Int) < 1) = false := decide_eq_false (by omega)
  have q2 : decide ((3968 : Int) < (b.length : Int)) = false := decide_eq_false (by omega)
  have q3 : decide (3968 < b.length) = false := decide_eq_false (by omega)
  have q4 : ¬ b = [] := by intro e; subst e; simp at hb
  have q5 : ¬ 3968 < b.length := by omega
  have hlen : (l ++ [x]).length = l.length + 1 := by simp
  obtain ⟨bs, c, rfl, hbs, d0, d1, d2, d3⟩ := h.cells l.length (by omega)
  have hx : (l ++ [x])[l.length]'(by omega) = x := by simp
  rw [hx] at d0 d1 d2 d3
  rw [hlen] at h hmax
  obtain ⟨K, hK⟩ : ∃ K, l.length = K := ⟨_, rfl⟩
  have hKm : K ≤ 1000 := by omega
  have H := Lib.hid h
  rw [hK] at d0 d1 d2 d3
  have c1 := h.block.facts.2.2.1
  rw [hK] at c1
  have HKe := Lib.hid hK
  have fz := fun j => own_free (show W.ownsRow 0 102 4 (.slice (some ⟨bs, 0, none⟩) (l ++ [x]).length c) (l ++ [x]).length _ from by have := h.segs; rw [hlen] at this ⊢; exact this) (K * 4 + j)
  have HV := Lib.hid hv
  have HAp := Lib.hid hap
  clear hv hap hFit hlen hx h hmax
  go_enter Tryz.func45, Tryz.ntmps45
  go_wp2_with fail
  refine CF.out.mono ?_
  rintro en w1 ⟨rfl, n1, rfl⟩
  have kL : (K : Int) < (K : Int) + 1 := by omega
  have k0 : (0 : Int) ≤ (K : Int) := by omega
  have hK0 : (-1000000 : Int) ≤ (K : Int) := by omega
  have hK1 : (K : Int) ≤ 1000000 := by omega
  have hnd : needD b.length ≤ 63 := by omega
  have hS0 : (-1000000 : Int) ≤ (x.d.sectors : Int) + ((needD b.length : Nat) : Int) := by omega
  have hS1 : (x.d.sectors : Int) + ((needD b.length : Nat) : Int) ≤ 1000000 := by omega
  have HW := Lib.hid (And.intro (And.intro (small_w _ hK0 hK1) (small_v _ hK0 hK1)) (And.intro (small_w _ hS0 hS1) (small_v _ hS0 hS1)))
  clear hK0 hK1 hS0 hS1 hnd CF hK
  have hw := HW.out
  obtain ⟨⟨wK, vK⟩, wS, vS⟩ := hw
  go_wp2_with fail
  go_quiet (fail)
  go_wp2_with fail
  have HW0 := Lib.hid (show Below W.heap.size W ((W.drewN n1).drewN nq).drew from ⟨rfl, rfl, rfl, Nat.le_refl _, fun _ _ => rfl⟩)
  have e2 := (HW0.out.cell (p := ⟨bs, K * 4 + 2, none⟩) hbs).trans d2
  have e2f : ((W.drewN n1).drewN nq).drew.frozen? ⟨bs, K * 4 + 2, none⟩ = false := fz 2
  obtain ⟨sc, hsc⟩ : ∃ sc, x.d.sectors = sc := ⟨_, rfl⟩
  obtain ⟨nd, hnd⟩ : ∃ nd, needD b.length = nd := ⟨_, rfl⟩
  have HSc := Lib.hid (And.intro hsc hnd)
  rw [hsc] at e2 d2 wS vS hf
  rw [hnd] at wS vS hf CN
  clear hsc hnd
  go_region_with (first | (go_at_call 76; (with_reducible refine (CN.out _).mono ?_); rintro en w2 ⟨rfl, rfl⟩))
  all_goals
    have HB0 := Lib.hid (show Below W.heap.size W (W.drewN (n1 + nq + 1)) from ⟨rfl, rfl, rfl, Nat.le_refl _, fun _ _ => rfl⟩)
    have HY := (H.out.below HB0.out).reset (.int .i64 ((sc : Int) + (nd : Int))) 2 (y := ⟨{ x.d with sectors := sc + nd }, x.vr, x.rs⟩) (by omega) (by simp [SegW.cells]) rfl rfl rfl
    rw [HKe.out] at HY
    generalize hW6 : World.setCell (W.drewN (n1 + nq + 1)) ⟨bs, K * 4 + 2, none⟩ (.int .i64 ((sc : Int) + (nd : Int))) = W6 at *
    obtain ⟨R6', K6'⟩ := HY
    have K6 := Lib.hid ((Kept.of_below (F := F) HB0.out).trans K6' (fun k hk => .inl hk))
    rw [← HKe.out] at R6'
    have R6 := Lib.hid R6'
    obtain ⟨hbs6, g1, g3, gf⟩ := R6'.ends
    rw [HKe.out] at g1 g3
    obtain ⟨Ar, cr, hvr, _, _⟩ := R6'.vr_form (g := ⟨{ x.d with sectors := sc + nd }, x.vr, x.rs⟩) (by simp)
    have hvr : x.vr = .slice Ar x.rs.length cr := hvr
    have HVR := Lib.hid hvr
    have g3 : W6.cell? ⟨bs, K * 4 + 3, none⟩ = some (.slice Ar x.rs.length cr) := by rw [g3]; exact congrArg some hvr
    have g1 : W6.cell? ⟨bs, K * 4 + 1, none⟩ = some (.int .i64 (x.d.number : Int)) := g1
    have HBy := Lib.hid (bytes_move HV.out hB K6.out HAp.out)
    have HXr := Lib.hid (show W6.ownsRow 0 45 1 (.slice Ar x.rs.length cr) x.rs.length x.rs from by rw [← hvr]; exact (R6'.rows ⟨{ x.d with sectors := sc + nd }, x.vr, x.rs⟩ (by simp)).1)
    obtain ⟨i0, hinf, hz0, hz1, hz2⟩ := info_parts infoB
    have HI0 := Lib.hid hinf
    obtain ⟨i1, hinf1, hy0, hy1, hy2⟩ := info_parts infoL
    have HI1 := Lib.hid hinf1
    clear hW6 R6' K6' hvr hinf hinf1 e2 e2f d0 d1 d2 d3 fz HW0 c1
    have hB6 : B ≤ W6.heap.size := Nat.le_trans hB K6.out.size
    have HRb := Lib.hid (fun W' (h : Below W6.heap.size W6 W') => (show Row W' B (.slice A b.length cb) (u8s b) from HBy.out.below (h.mono hB6)))
    have HLb := Lib.hid (show (u8s b).length = b.length from u8s_length b)
    have hbl1 : 1 ≤ b.length := HL.out.1
    have hbl2 : b.length ≤ 3968 := HL.out.2
    go_wp2_with fail
    go_region_law (first
      | (refine step_append_row _ rfl (.tmp 49) (.tmp 50) _ rfl W6.heap.size 5 i0 (.int .u8 0) 1 Tryz.underlying45 HI0.out hz0 hz1 hz2 rfl _ 0 [] rfl ?_ B _ (u8s b) rfl ?_ (u8s_one b) ?_ ?_ ?_ ?_; (exact own_none (Nat.le_refl _) (heap_alloc_new W6 _)); (exact HRb.out _ ((Below.refl _ W6).alloc (Nat.le_refl _) _).drew); (rw [HLb.out]; unfold maxLen; omega); (rw [HLb.out]; omega); (simp); intro v2 w2 h1 h2 h3 h4; rw [Nat.zero_add, HLb.out, List.nil_append] at h1; obtain ⟨g2, cap2, rfl, _, _⟩ := h1.form hbl1; have HB2 := Lib.hid (((Below.refl _ W6).alloc (Nat.le_refl _) (.cells #[] 5)).drew.trans h4); have H1 := Lib.hid h1; have G3 := (HB2.out.cell (p := ⟨bs, K * 4 + 3, none⟩) hbs6).trans g3; have hbs2 := Nat.lt_of_lt_of_le hbs6 HB2.out.size; clear h1 h2 h3 h4)
      | (refine step_append_lies _ rfl (.tmp 48) (.tmp 52) _ rfl 0 45 i1 _ 1 24 Tryz.underlying69 HI1.out hy0 hy1 hy2 rfl (by omega) _ x.rs.length x.rs rfl ?_ _ 1 _ [.slice (some ⟨g2, 0, none⟩) b.length cap2] rfl rfl ?_ ?_ (by omega) ?_ ?_ ?_ _ rfl ?_; (exact own_below (own_below HXr.out HB2.out) ((Below.refl _ _).alloc (Nat.le_refl _) _)); (exact fun j u hu => World.news_of_block (heap_alloc_new w2 _) j u (by simpa using hu)); (intro u hu; simp only [List.mem_singleton] at hu; subst hu; rfl); (unfold maxLen; exact Nat.le_trans (Nat.succ_le_succ hrs) (by omega)); (exact Nat.le_trans (Nat.mul_le_mul_right 24 (Nat.succ_le_succ hrs)) (by omega)); (exact Nat.zero_le _); intro g cap w9 h1 h2 h3 h4; have hb9 := HB2.out.alloc HB2.out.size (.cells #[.slice (some ⟨g2, 0, none⟩) b.length cap2] 45); have h2' : (w2.alloc (.cells #[.slice (some ⟨g2, 0, none⟩) b.length cap2] 45)).grownBy w9 x.vr.ownBlock := (by rw [HVR.out]; exact h2); have h3' : x.vr.ownBlock = some g ∨ g = (w2.alloc (.cells #[.slice (some ⟨g2, 0, none⟩) b.length cap2] 45)).heap.size := (by rw [HVR.out]; first | exact h3 | (rw [World.size_alloc]; exact h3)); obtain ⟨G1, G2, G4, G5⟩ := (R6.out.below hb9).vrgrown (x := ⟨{ x.d with sectors := sc + nd }, x.vr, x.rs⟩) h2'; rw [HKe.out] at G1 G2 G5; have HX := Lib.hid (R6.out.rerec hb9 (own_below H1.out ((Below.refl _ _).alloc (Nat.le_refl _) _)) h2' h1 h3' (y := ⟨{ x.d with sectors := sc + nd, recs := x.d.recs ++ [b] }, .slice (some ⟨g, 0, none⟩) (x.rs.length + 1) cap, x.rs ++ [.slice (some ⟨g2, 0, none⟩) b.length cap2]⟩) rfl rfl rfl); clear h1 h2 h3 h4 h2' h3' hb9))
    all_goals
      obtain ⟨F', S', R10, hF', hS', hK10⟩ := HX.out
      obtain ⟨_, m1, _, _⟩ := R10.ends
      rw [HKe.out] at m1 R10 hK10
      have hsz : (⟨{ x.d with sectors := sc + nd }, x.vr, x.rs⟩ : SegW).rs.length = x.rs.length := rfl
      rw [hsz] at m1 R10 hK10
      generalize hW10 : World.setCell w9 ⟨bs, K * 4 + 3, none⟩ (.slice (some ⟨g, 0, none⟩) (x.rs.length + 1) cap) = W10 at *
      have M1 : W10.cell? ⟨bs, K * 4 + 1, none⟩ = some (.int .i64 (x.d.number : Int)) := m1
      have HR10 := Lib.hid R10
      have HK10 := Lib.hid (K6.out.trans hK10 (fun k hk => .inl hk))
      have HF10 := Lib.hid (fun k (hk : F' k) => (hF' k hk).imp_right (fun h => Nat.le_trans K6.out.size h))
      have HS10 := Lib.hid (fun k (hk : S' k) => (hS' k hk).imp_right (fun h => Nat.le_trans K6.out.size h))
      clear hW10 R10 hK10 hF' hS' m1 HX G1 G2 G4 G5 g1 g3 gf wK vK wS vS
      go_wp2_with fail
      go_ret2
      exact ⟨rfl, F', S', _, _, HR10.out, by unfold SegD.push; rw [HSc.out.1, HSc.out.2], HF10.out, HS10.out, HK10.out⟩
end

set_option maxRecDepth 100000 in
set_option maxHeartbeats 2000000 in
theorem rapp_take {W0 : World} {F0 S : Nat → Prop} {p places : Nat} {l : List SegW} {vs : Value} (h : RefW W0 F0 S p places l vs) (hP : places ≤ 1000) (hs : ∀ g ∈ l, g.d.sectors ≤ 63) (hmax : l.length ≤ 999) (hno : ∀ g ∈ l, g.d.number ≤ 100000)
    {v : Value} {B : Nat} {b : List UInt8} (hv : Bytes W0 B v b) (hB0 : B ≤ W0.heap.size) (hap : ∀ k, v.ownBlock = some k → ¬ F0 k) (hb : 1 ≤ b.length ∧ b.length ≤ 3968) (hfit : fitsD (l.map SegW.d) b.length = false) (hsc0 : 0 ≤ scanD (l.map SegW.d) places places) :
    Calls Tryz.prog 45 #[.pointer (some ⟨p, 0, none⟩), v] W0 fun e w' => e = .returned (.tuple #[.int .i64 ((lastNo (l.map SegW.d) + 1).toNat : Int), .int .i64 0]) ∧ ∃ F' S' vs' y, RefW w' F' S' p places (l ++ [y]) vs' ∧ y.d = SegD.push ⟨(scanD (l.map SegW.d) places places).toNat, (lastNo (l.map SegW.d) + 1).toNat, 0, []⟩ b ∧ (∀ k, F' k → F0 k ∨ W0.heap.size ≤ k) ∧ (∀ k, S' k → S k ∨ W0.heap.size ≤ k) ∧ Kept F0 W0 w' := by
  obtain ⟨A, cb, rfl, _, _, hcell⟩ := hv.form
  obtain ⟨vb, vo, rfl, hvb, _⟩ := hcell 0 (by omega)
  have CF := Lib.hid (fits_any h hs (by omega) (some ⟨vb, vo, none⟩) b.length cb (by omega))
  rw [hfit] at CF
  have CT := Lib.hid (fun k => take_any (h.below (show Below W0.heap.size W0 (W0.drewN k) from ⟨rfl, rfl, rfl, Nat.le_refl _, fun _ _ => rfl⟩)) hP (by omega) hno)
  have CN := Lib.hid (fun W => need_any (some ⟨vb, vo, none⟩) b.length cb (by omega) W)
  have HL := Lib.hid hb
  have HV0 := Lib.hid hv
  have HAp0 := Lib.hid hap
  have HSC0 := Lib.hid hsc0
  have hf : (0 : Nat) + needD b.length ≤ 63 := by unfold needD; omega
  have q1 : decide ((b.length : Int) < 1) = false := decide_eq_false (by omega)
  have q2 : decide ((3968 : Int) < (b.length : Int)) = false := decide_eq_false (by omega)
  have q3 : decide (3968 < b.length) = false := decide_eq_false (by omega)
  have q4 : ¬ b = [] := by intro e; subst e; simp at hb
  have q5 : ¬ 3968 < b.length := by omega
  obtain ⟨a0, ha0⟩ : ∃ a, (scanD (l.map SegW.d) places places).toNat = a := ⟨_, rfl⟩
  obtain ⟨m0, hm0⟩ : ∃ m, (lastNo (l.map SegW.d) + 1).toNat = m := ⟨_, rfl⟩
  have HAM := Lib.hid (And.intro ha0 hm0)
  clear hv hap hsc0 hcell h
  go_enter Tryz.func45, Tryz.ntmps45
  go_wp2_with fail
  refine CF.out.mono ?_
  rintro en w1 ⟨rfl, n0, rfl⟩
  go_wp2_with fail
  refine (CT.out n0).mono ?_
  rintro en W hT
  have hT2 : en = .returned (.bool true) ∧ ∃ F vs', RefW W F S p places (l ++ [⟨⟨a0, m0, 0, []⟩, .slice none 0 0, []⟩]) vs' ∧ (∀ k, F k → F0 k ∨ W0.heap.size ≤ k) ∧ Kept F0 W0 W := by
    rcases hT with ⟨h1, _⟩ | ⟨_, h2, F, vs', h3, h4, h5⟩
    · exact absurd h1 (by have := HSC0.out; omega)
    · rw [ha0, hm0] at h3
      exact ⟨h2, F, vs', h3, h4, (Kept.of_below (show Below W0.heap.size W0 (W0.drewN n0) from ⟨rfl, rfl, rfl, Nat.le_refl _, fun _ _ => rfl⟩)).trans h5 (fun k hk => .inl hk)⟩
  clear hT CF CT ha0 hm0
  obtain ⟨rfl, F, vs1, h, hF1, hK1⟩ := hT2
  obtain ⟨x, hx0⟩ : ∃ x : SegW, x = ⟨⟨a0, m0, 0, []⟩, .slice none 0 0, []⟩ := ⟨_, rfl⟩
  rw [← hx0] at h
  have hrs : x.rs.length ≤ 1000 := by rw [hx0]; exact Nat.zero_le _
  have hf : x.d.sectors + needD b.length ≤ 63 := by rw [hx0]; exact hf
  have HX0 := Lib.hid hx0
  have hB : B ≤ W.heap.size := Nat.le_trans hB0 hK1.size
  have HF1 := Lib.hid hF1
  have HK1 := Lib.hid hK1
  have HV := Lib.hid (bytes_move HV0.out hB0 hK1 HAp0.out)
  have HAp := Lib.hid (show ∀ k, (Value.slice (some ⟨vb, vo, none⟩) b.length cb).ownBlock = some k → ¬ F k from fun k e hf => by
    rcases hF1 k hf with h1 | h1
    · exact HAp0.out k e h1
    · have e : vb = k := by simpa [Value.ownBlock] using e
      omega)
  have hlen : (l ++ [x]).length = l.length + 1 := by simp
  obtain ⟨bs, c, rfl, hbs, d0, d1, d2, d3⟩ := h.cells l.length (by omega)
  have hx : (l ++ [x])[l.length]'(by omega) = x := by simp
  rw [hx] at d0 d1 d2 d3
  rw [hlen] at h
  obtain ⟨K, hK⟩ : ∃ K, l.length = K := ⟨_, rfl⟩
  have hKm : K ≤ 1000 := by omega
  have H := Lib.hid h
  rw [hK] at d0 d1 d2 d3
  have c1 := h.block.facts.2.2.1
  have hpl := h.block.facts.1
  rw [hK] at c1
  have HKe := Lib.hid hK
  have fz := fun j => own_free (show W.ownsRow 0 102 4 (.slice (some ⟨bs, 0, none⟩) (l ++ [x]).length c) (l ++ [x]).length _ from by have := h.segs; rw [hlen] at this ⊢; exact this) (K * 4 + j)
  clear hlen hx h hmax hx0 hF1 hK1 hs hno
  have kL : (K : Int) < (K : Int) + 1 := by omega
  have k0 : (0 : Int) ≤ (K : Int) := by omega
  have hK0 : (-1000000 : Int) ≤ (K : Int) := by omega
  have hK1 : (K : Int) ≤ 1000000 := by omega
  have hnd : needD b.length ≤ 63 := by omega
  have hS0 : (-1000000 : Int) ≤ (x.d.sectors : Int) + ((needD b.length : Nat) : Int) := by omega
  have hS1 : (x.d.sectors : Int) + ((needD b.length : Nat) : Int) ≤ 1000000 := by omega
  have HW := Lib.hid (And.intro (And.intro (small_w _ hK0 hK1) (small_v _ hK0 hK1)) (And.intro (small_w _ hS0 hS1) (small_v _ hS0 hS1)))
  clear hK0 hK1 hS0 hS1 hnd hK
  have hw := HW.out
  obtain ⟨⟨wK, vK⟩, wS, vS⟩ := hw
  go_wp2_with fail
  go_quiet (fail)
  go_wp2_with fail
  have HW0 := Lib.hid (show Below W.heap.size W (W.drewN nq).drew from ⟨rfl, rfl, rfl, Nat.le_refl _, fun _ _ => rfl⟩)
  have e2 := (HW0.out.cell (p := ⟨bs, K * 4 + 2, none⟩) hbs).trans d2
  have e2f : (W.drewN nq).drew.frozen? ⟨bs, K * 4 + 2, none⟩ = false := fz 2
  obtain ⟨sc, hsc⟩ : ∃ sc, x.d.sectors = sc := ⟨_, rfl⟩
  obtain ⟨nd, hnd⟩ : ∃ nd, needD b.length = nd := ⟨_, rfl⟩
  have HSc := Lib.hid (And.intro hsc hnd)
  rw [hsc] at e2 d2 wS vS hf
  rw [hnd] at wS vS hf CN
  clear hsc hnd
  go_region_with (first | (go_at_call 76; (with_reducible refine (CN.out _).mono ?_); rintro en w2 ⟨rfl, rfl⟩))
  all_goals
    have HB0 := Lib.hid (show Below W.heap.size W (W.drewN (nq + 1)) from ⟨rfl, rfl, rfl, Nat.le_refl _, fun _ _ => rfl⟩)
    have HY := (H.out.below HB0.out).reset (.int .i64 ((sc : Int) + (nd : Int))) 2 (y := ⟨{ x.d with sectors := sc + nd }, x.vr, x.rs⟩) (by omega) (by simp [SegW.cells]) rfl rfl rfl
    rw [HKe.out] at HY
    generalize hW6 : World.setCell (W.drewN (nq + 1)) ⟨bs, K * 4 + 2, none⟩ (.int .i64 ((sc : Int) + (nd : Int))) = W6 at *
    obtain ⟨R6', K6'⟩ := HY
    have K6 := Lib.hid ((Kept.of_below (F := F) HB0.out).trans K6' (fun k hk => .inl hk))
    rw [← HKe.out] at R6'
    have R6 := Lib.hid R6'
    obtain ⟨hbs6, g1, g3, gf⟩ := R6'.ends
    rw [HKe.out] at g1 g3
    obtain ⟨Ar, cr, hvr, _, _⟩ := R6'.vr_form (g := ⟨{ x.d with sectors := sc + nd }, x.vr, x.rs⟩) (by simp)
    have hvr : x.vr = .slice Ar x.rs.length cr := hvr
    have HVR := Lib.hid hvr
    have g3 : W6.cell? ⟨bs, K * 4 + 3, none⟩ = some (.slice Ar x.rs.length cr) := by rw [g3]; exact congrArg some hvr
    have g1 : W6.cell? ⟨bs, K * 4 + 1, none⟩ = some (.int .i64 (x.d.number : Int)) := g1
    have HBy := Lib.hid (bytes_move HV.out hB K6.out HAp.out)
    have HXr := Lib.hid (show W6.ownsRow 0 45 1 (.slice Ar x.rs.length cr) x.rs.length x.rs from by rw [← hvr]; exact (R6'.rows ⟨{ x.d with sectors := sc + nd }, x.vr, x.rs⟩ (by simp)).1)
    obtain ⟨i0, hinf, hz0, hz1, hz2⟩ := info_parts infoB
    have HI0 := Lib.hid hinf
    obtain ⟨i1, hinf1, hy0, hy1, hy2⟩ := info_parts infoL
    have HI1 := Lib.hid hinf1
    clear hW6 R6' K6' hvr hinf hinf1 e2 e2f d0 d1 d2 d3 fz HW0 c1
    have hB6 : B ≤ W6.heap.size := Nat.le_trans hB K6.out.size
    have HRb := Lib.hid (fun W' (h : Below W6.heap.size W6 W') => (show Row W' B (.slice (some ⟨vb, vo, none⟩) b.length cb) (u8s b) from HBy.out.below (h.mono hB6)))
    have HLb := Lib.hid (show (u8s b).length = b.length from u8s_length b)
    have hbl1 : 1 ≤ b.length := HL.out.1
    have hbl2 : b.length ≤ 3968 := HL.out.2
    go_wp2_with fail
    go_region_law (first
      | (refine step_append_row _ rfl (.tmp 49) (.tmp 50) _ rfl W6.heap.size 5 i0 (.int .u8 0) 1 Tryz.underlying45 HI0.out hz0 hz1 hz2 rfl _ 0 [] rfl ?_ B _ (u8s b) rfl ?_ (u8s_one b) ?_ ?_ ?_ ?_; (exact own_none (Nat.le_refl _) (heap_alloc_new W6 _)); (exact HRb.out _ ((Below.refl _ W6).alloc (Nat.le_refl _) _).drew); (rw [HLb.out]; unfold maxLen; omega); (rw [HLb.out]; omega); (simp); intro v2 w2 h1 h2 h3 h4; rw [Nat.zero_add, HLb.out, List.nil_append] at h1; obtain ⟨g2, cap2, rfl, _, _⟩ := h1.form hbl1; have HB2 := Lib.hid (((Below.refl _ W6).alloc (Nat.le_refl _) (.cells #[] 5)).drew.trans h4); have H1 := Lib.hid h1; have G3 := (HB2.out.cell (p := ⟨bs, K * 4 + 3, none⟩) hbs6).trans g3; have hbs2 := Nat.lt_of_lt_of_le hbs6 HB2.out.size; clear h1 h2 h3 h4)
      | (refine step_append_lies _ rfl (.tmp 48) (.tmp 52) _ rfl 0 45 i1 _ 1 24 Tryz.underlying69 HI1.out hy0 hy1 hy2 rfl (by omega) _ x.rs.length x.rs rfl ?_ _ 1 _ [.slice (some ⟨g2, 0, none⟩) b.length cap2] rfl rfl ?_ ?_ (by omega) ?_ ?_ ?_ _ rfl ?_; (exact own_below (own_below HXr.out HB2.out) ((Below.refl _ _).alloc (Nat.le_refl _) _)); (exact fun j u hu => World.news_of_block (heap_alloc_new w2 _) j u (by simpa using hu)); (intro u hu; simp only [List.mem_singleton] at hu; subst hu; rfl); (unfold maxLen; exact Nat.le_trans (Nat.succ_le_succ hrs) (by omega)); (exact Nat.le_trans (Nat.mul_le_mul_right 24 (Nat.succ_le_succ hrs)) (by omega)); (exact Nat.zero_le _); intro g cap w9 h1 h2 h3 h4; have hb9 := HB2.out.alloc HB2.out.size (.cells #[.slice (some ⟨g2, 0, none⟩) b.length cap2] 45); have h2' : (w2.alloc (.cells #[.slice (some ⟨g2, 0, none⟩) b.length cap2] 45)).grownBy w9 x.vr.ownBlock := (by rw [HVR.out]; exact h2); have h3' : x.vr.ownBlock = some g ∨ g = (w2.alloc (.cells #[.slice (some ⟨g2, 0, none⟩) b.length cap2] 45)).heap.size := (by rw [HVR.out]; first | exact h3 | (rw [World.size_alloc]; exact h3)); obtain ⟨G1, G2, G4, G5⟩ := (R6.out.below hb9).vrgrown (x := ⟨{ x.d with sectors := sc + nd }, x.vr, x.rs⟩) h2'; rw [HKe.out] at G1 G2 G5; have HX := Lib.hid (R6.out.rerec hb9 (own_below H1.out ((Below.refl _ _).alloc (Nat.le_refl _) _)) h2' h1 h3' (y := ⟨{ x.d with sectors := sc + nd, recs := x.d.recs ++ [b] }, .slice (some ⟨g, 0, none⟩) (x.rs.length + 1) cap, x.rs ++ [.slice (some ⟨g2, 0, none⟩) b.length cap2]⟩) rfl rfl rfl); clear h1 h2 h3 h4 h2' h3' hb9))
    all_goals
      obtain ⟨F', S', R10, hF', hS', hK10⟩ := HX.out
      obtain ⟨_, m1, _, _⟩ := R10.ends
      rw [HKe.out] at m1 R10 hK10
      have hsz : (⟨{ x.d with sectors := sc + nd }, x.vr, x.rs⟩ : SegW).rs.length = x.rs.length := rfl
      rw [hsz] at m1 R10 hK10
      generalize hW10 : World.setCell w9 ⟨bs, K * 4 + 3, none⟩ (.slice (some ⟨g, 0, none⟩) (x.rs.length + 1) cap) = W10 at *
      have M1 : W10.cell? ⟨bs, K * 4 + 1, none⟩ = some (.int .i64 (x.d.number : Int)) := m1
      have HR10 := Lib.hid R10
      have HK10 := Lib.hid (K6.out.trans hK10 (fun k hk => .inl hk))
      have HF10 := Lib.hid (fun k (hk : F' k) => (hF' k hk).imp_right (fun h => Nat.le_trans K6.out.size h))
      have HS10 := Lib.hid (fun k (hk : S' k) => (hS' k hk).imp_right (fun h => Nat.le_trans K6.out.size h))
      clear hW10 R10 hK10 hF' hS' m1 HX G1 G2 G4 G5 g1 g3 gf wK vK wS vS
      go_wp2_with fail
      go_ret2
      obtain ⟨y1, y2⟩ := HSc.out
      have hxd : x.d = ⟨a0, m0, 0, []⟩ := by rw [HX0.out]
      refine ⟨by rw [hxd, ← HAM.out.2]; simp [go_sem], F', S', _, _, HR10.out, ?_, fun k hk => (HF10.out k hk).elim (HF1.out k) (fun h => .inr (Nat.le_trans HK1.out.size h)), fun k hk => (HS10.out k hk).imp_right (fun h => Nat.le_trans HK1.out.size h), HK1.out.trans HK10.out HF1.out⟩
      rw [HAM.out.1, HAM.out.2, ← hxd]
      unfold SegD.push
      rw [y1, y2]
end Go.Proofs.YtcpanaokfbojnaaGreatDoor

/- The document's own store: Append, as told. -/
namespace Go.Proofs.YtcpanaokfbojnaaGreatDoor
open Go.RowKit Tide

set_option maxRecDepth 100000 in
theorem rapp_full {W : World} {F S : Nat → Prop} {p places : Nat} {gs : List SegW} {vs : Value} (h : RefW W F S p places gs vs) (hP : places ≤ 1000) (hs : ∀ g ∈ gs, g.d.sectors ≤ 63) (hmax : gs.length ≤ 999) (hno : ∀ g ∈ gs, g.d.number ≤ 100000) (A : Option Addr) (n cb : Nat) (hb : 1 ≤ n ∧ n ≤ 3968)
    (hfit : fitsD (gs.map SegW.d) n = false) (hneg : scanD (gs.map SegW.d) places places < 0) :
    Calls Tryz.prog 45 #[.pointer (some ⟨p, 0, none⟩), .slice A n cb] W fun e w' => e = .returned (.tuple #[.int .i64 0, .int .i64 13]) ∧ Below W.heap.size W w' := by
  have CF := Lib.hid (fits_any h hs (by omega) A n cb (by omega))
  rw [hfit] at CF
  have CT := Lib.hid (fun k => take_any (h.below (show Below W.heap.size W (W.drewN k) from ⟨rfl, rfl, rfl, Nat.le_refl _, fun _ _ => rfl⟩)) hP (by omega) hno)
  have HN := Lib.hid hneg
  have q1 : decide ((n : Int) < 1) = false := decide_eq_false (by omega)
  have q2 : decide ((3968 : Int) < (n : Int)) = false := decide_eq_false (by omega)
  have q3 : decide (3968 < n) = false := decide_eq_false (by omega)
  have q4 : ¬ n = 0 := by omega
  have q5 : ¬ 3968 < n := by omega
  have q6 : decide (n = 0) = false := decide_eq_false q4
  clear h hs hno hneg
  go_enter Tryz.func45, Tryz.ntmps45
  go_wp2_with fail
  refine CF.out.mono ?_
  rintro en w1 ⟨rfl, n0, rfl⟩
  go_wp2_with fail
  refine (CT.out n0).mono ?_
  rintro en w2 hT
  have hT2 : en = .returned (.bool false) ∧ Below W.heap.size W w2 := by
    rcases hT with ⟨_, h1, h2⟩ | ⟨h1, _⟩
    · exact ⟨h1, (show Below W.heap.size W (W.drewN n0) from ⟨rfl, rfl, rfl, Nat.le_refl _, fun _ _ => rfl⟩).trans h2⟩
    · exact absurd h1 (by have := HN.out; omega)
  clear hT CT CF
  obtain ⟨rfl, hb2⟩ := hT2
  have HB2 := Lib.hid hb2
  clear hb2
  go_wp2_with fail
  go_ret2
  exact ⟨rfl, HB2.out⟩

structure Small (s : StoD) : Prop where
  places : s.places ≤ 1000
  segs : s.segs.length ≤ 999
  each : ∀ g ∈ s.segs, g.sectors ≤ 63 ∧ g.number ≤ 100000 ∧ g.recs.length ≤ 1000
theorem rappend2 {W : World} {F S : Nat → Prop} {p : Nat} {s : StoD} (h : RefI2 W F S p s) (hs : Small s) {v : Value} {B : Nat} {b : List UInt8} (hv : Bytes W B v b) (hB : B ≤ W.heap.size) (hap : ∀ k, v.ownBlock = some k → ¬ F k) :
    Calls Tryz.prog 45 #[.pointer (some ⟨p, 0, none⟩), v] W (AppR2 W F S p (appendD s b)) := by
  obtain ⟨gs, vs, hgs, hR⟩ := h
  have hlen : gs.length = s.segs.length := by rw [hgs, List.length_map]
  have heach : ∀ g ∈ gs, g.d.sectors ≤ 63 ∧ g.d.number ≤ 100000 ∧ g.d.recs.length ≤ 1000 := fun g hg => hs.each g.d (by rw [hgs]; exact List.mem_map.2 ⟨g, hg, rfl⟩)
  have hsec : ∀ g ∈ gs, g.d.sectors ≤ 63 := fun g hg => (heach g hg).1
  have hno : ∀ g ∈ gs, g.d.number ≤ 100000 := fun g hg => (heach g hg).2.1
  have hm1 := hs.segs
  have hm2 := hs.places
  unfold appendD
  by_cases hw : b.length < 1 ∨ 3968 < b.length
  · rw [if_pos hw]
    obtain ⟨A, c, rfl, _, _, _⟩ := hv.form
    refine (rapp_wrong W p A b.length c hw).mono ?_
    rintro e w' ⟨rfl, rfl⟩
    exact ⟨rfl, F, S, ⟨gs, vs, hgs, hR⟩, fun k hk => .inl hk, fun k hk => .inl hk, Kept.refl _ _⟩
  rw [if_neg hw]
  cases hf : fitsD s.segs b.length with
  | true =>
    rw [if_pos rfl]
    rcases List.eq_nil_or_concat gs with h0 | ⟨l, x, hc⟩
    · rw [hgs, h0] at hf; cases hf
    rw [List.concat_eq_append] at hc
    subst hc
    have hx := heach x (by simp)
    have hxr := (hR.rows x (by simp)).2.2.1
    have hf2 := hf
    rw [hgs, List.map_append, List.map_singleton, fits_snoc'] at hf2
    refine (rapp_fits hR hsec (by omega) (by omega) hv hB hap (by omega) (of_decide_eq_true hf2)).mono ?_
    rintro e w' ⟨rfl, F', S', vs', y, h1, h2, h3, h3s, h4⟩
    have hl : lastNo s.segs = (x.d.number : Int) := by rw [hgs, List.map_append, List.map_singleton, last_snoc]
    refine ⟨by rw [hl], F', S', ⟨l ++ [y], vs', ?_, h1⟩, h3, h3s, h4⟩
    show pushD s.segs b = (l ++ [y]).map SegW.d
    rw [hgs, List.map_append, List.map_singleton, push_snoc, List.map_append, List.map_singleton, h2]
  | false =>
    rw [if_neg (by simp)]
    have hf2 := hf
    rw [hgs] at hf2
    by_cases hneg : scanD s.segs s.places s.places < 0
    · have ht : takeD s = none := by unfold takeD; rw [if_pos hneg]
      rw [ht]
      obtain ⟨A, c, rfl, _, _, _⟩ := hv.form
      refine (rapp_full hR hm2 hsec (by omega) hno A b.length c (by omega) hf2 (by rw [← hgs]; exact hneg)).mono ?_
      rintro e w' ⟨rfl, hb⟩
      exact ⟨rfl, F, S, ⟨gs, vs, hgs, hR.below hb⟩, fun k hk => .inl hk, fun k hk => .inl hk, Kept.of_below hb⟩
    · have ht : takeD s = some { s with segs := s.segs ++ [⟨(scanD s.segs s.places s.places).toNat, (lastNo s.segs + 1).toNat, 0, []⟩] } := by unfold takeD; rw [if_neg hneg]
      rw [ht]
      refine (rapp_take hR hm2 hsec (by omega) hno hv hB hap (by omega) hf2 (by rw [← hgs]; omega)).mono ?_
      rintro e w' ⟨rfl, F', S', vs', y, h1, h2, h3, h3s, h4⟩
      rw [← hgs] at h2
      refine ⟨?_, F', S', ⟨gs ++ [y], vs', ?_, h1⟩, h3, h3s, h4⟩
      · simp only [last_snoc, hgs]
      · show pushD (s.segs ++ [_]) b = (gs ++ [y]).map SegW.d
        rw [push_snoc, List.map_append, List.map_singleton, h2, ← hgs]
theorem RefIs.step {W w' : World} {G F S F' S' : Nat → Prop} {p : Nat} {s : StoD} (hG : ∀ k, F k ∨ S k → G k) (h : RefI2 w' F' S' p s) (h1 : ∀ k, F' k → F k ∨ W.heap.size ≤ k) (h2 : ∀ k, S' k → S k ∨ W.heap.size ≤ k) (hk : Kept F W w') :
    ∃ G', RefIs w' G' p s ∧ (∀ k, G' k → G k ∨ W.heap.size ≤ k) ∧ Kept G W w' := by
  have hlt : ∀ k, F' k ∨ S' k → k < w'.heap.size := by
    obtain ⟨gs, vs, _, hR⟩ := h
    exact hR.lt
  refine ⟨fun k => F' k ∨ S' k, ⟨F', S', fun _ h => h, hlt, h⟩, fun k hf => ?_, hk.mono (fun k _ hf => hG k (.inl hf))⟩
  rcases hf with hf | hf
  · exact (h1 k hf).imp_left (fun h => hG k (.inl h))
  · exact (h2 k hf).imp_left (fun h => hG k (.inr h))
end Go.Proofs.YtcpanaokfbojnaaGreatDoor

/- The document's own store: Drop. -/
namespace Go.Proofs.YtcpanaokfbojnaaGreatDoor
open Go.RowKit Tide

theorem step_append_any {P : Program} (w : World) {ops : Array Oper} {o : Oper} {a : Act} {K : Act → World → Prop} {Q : Exit → Act → World → Prop} {E : Prop} (hgd : o.guard = none) (s x : Operand) (t : TypeId)
    (ho : o.op = .call { callee := .builtin .append, args := #[s, x], argTypes := #[t, t] })
    (base : Nat) (e : TypeId) (i : TypeInfo) (z : Value) (size bytes : Nat) (ht : P.underlying t = some (.slice e)) (hi : P.info? e = some i) (hz : i.zero = some z)
    (hsize : i.size = size) (hby : i.bytes = bytes) (hzs : z.cells.size = size) (hsz : 0 < size)
    (v : Value) (n : Nat) (xs : List Value) (hs : a.eval s = v) (hown : w.ownsRow base e size v n xs)
    (ad : Addr) (m c : Nat) (news : List Value) (hx : a.eval x = .slice (some ad) m c) (hl : news.length = m * size) (hnews : ∀ j u, news[j]? = some u → w.cell? (ad.add j) = some u) (h1 : ∀ u ∈ news, u.oneCell' = true)
    (h63 : n + m ≤ maxLen) (hbytes : (n + m) * bytes ≤ 140737488355328) (hbase : base ≤ w.heap.size)
    (h : ∀ v' w', w'.ownsRow base e size v' (n + m) (xs ++ news) → Below base w w' → K (a.put o.dst v') w') :
    if Region.wanted o (yielded ops a.tmps) = true then Oper.wp P o a w K Q else E := by
  have hw : Region.wanted o (yielded ops a.tmps) = true := by simp [Region.wanted, hgd]
  rw [if_pos hw]
  obtain ⟨v', w', hr, h2, h3, _, _⟩ := run_append_own_at (P := P) w base t o.type e i z size bytes ht hi hz hsize hby hzs hsz v n xs hown ad m c news hl hnews h1 h63 hbytes hbase
  unfold Oper.wp execOp
  simp only [ho, resolve, invoke, builtin, Sem.run_bind, Sem.run_pure, Result.andThen_ok, List.map_toArray, List.map_cons, List.map_nil, hs, hx, hr]
  exact h v' w' h2 ((Below.refl base w).grown h3 hbase (fun k e => (hown.lt k e).1))
theorem sizeG (w : World) : (Go.sizeOf (Tryz.prog.elem 72)).run Tryz.prog w = .ok 4 w := by kernel_rfl
theorem elemG : Tryz.prog.underlying 72 = some (.slice (Tryz.prog.elem 72)) := by kernel_rfl
theorem seg_to (b n c hi : Nat) (ui : Int) (eu : ui = hi) (hhi : hi ≤ n) (hn : n ≤ c) (hc : 0 < c) (W : World) :
    (Instr.slice 72 (.slice (some ⟨b, 0, none⟩) n c) none (some (.int .i64 ui)) none).run Tryz.prog W = .ok (.slice (some ⟨b, 0, none⟩) hi c) W := by
  subst eu
  rw [run_slice_h _ _ _ _ _ elemG _ _ (by omega) (by omega), sizeG]
  simp only [Result.andThen, Int.toNat_natCast]
  have ha : (⟨b, 0, none⟩ : Addr).add (0 * 4) = ⟨b, 0 + 0 * 4, none⟩ := add_none b 0 _
  have hne : c ≠ 0 := by omega
  simp only [sliced, if_neg hne, Option.map_some, ha]
  simp
theorem seg_from (b n c lo : Nat) (li : Int) (el : li = lo) (hlo : lo ≤ n) (hc : lo < c) (W : World) :
    (Instr.slice 72 (.slice (some ⟨b, 0, none⟩) n c) (some (.int .i64 li)) none none).run Tryz.prog W = .ok (.slice (some ⟨b, lo * 4, none⟩) (n - lo) (c - lo)) W := by
  subst el
  rw [run_slice_l _ _ _ _ _ elemG _ _ (by omega) (by omega), sizeG]
  simp only [Result.andThen, Int.toNat_natCast]
  have ha : (⟨b, 0, none⟩ : Addr).add (lo * 4) = ⟨b, 0 + lo * 4, none⟩ := add_none b 0 _
  have hne : c ≠ lo := by omega
  simp only [sliced, if_neg hne, Option.map_some, ha, Nat.zero_add]
theorem segs_app (a b : List SegW) : (a ++ b).flatMap SegW.cells = a.flatMap SegW.cells ++ b.flatMap SegW.cells := List.flatMap_append
theorem segs_one (gs : List SegW) (hv : ∀ g ∈ gs, g.vr.oneCell' = true) : ∀ u ∈ gs.flatMap SegW.cells, u.oneCell' = true := by
  intro u hu
  obtain ⟨g, hg, hu⟩ := List.mem_flatMap.1 hu
  simp only [SegW.cells, List.mem_cons, List.not_mem_nil, or_false] at hu
  rcases hu with rfl | rfl | rfl | rfl
  · rfl
  · rfl
  · rfl
  · exact hv g hg
section
variable {W : World} {F S : Nat → Prop} {p places : Nat} {gs : List SegW} {vs : Value}
theorem RefW.one (h : RefW W F S p places gs vs) : ∀ g ∈ gs, g.vr.oneCell' = true := fun g hg => by
  obtain ⟨A, c, e, _, _⟩ := h.vr_form hg
  rw [e]; rfl
theorem RefW.part {b c : Nat} (h : RefW W F S p places gs (.slice (some ⟨b, 0, none⟩) gs.length c)) (lo : Nat) (l r : List SegW) (hg : gs = l ++ r) (hl : l.length = lo) : ∀ j u, (r.flatMap SegW.cells)[j]? = some u → W.cell? ((⟨b, lo * 4, none⟩ : Addr).add j) = some u := fun j u hu => by
  have h1 := h.segs.cells (g := b) rfl (lo * 4 + j) u (by
    rw [hg, segs_app, List.getElem?_append_right (by rw [segs_len]; omega), segs_len, hl, Nat.add_sub_cancel_left]
    exact hu)
  rw [add_none, Nat.zero_add] at h1
  rw [add_none]
  exact h1
theorem RefW.resegs (h : RefW W F S p places gs vs) {W9 : World} (hb : Below W.heap.size W W9) {gs' : List SegW} {vs' : Value} (hsub : gs'.Sublist gs) (hown : W9.ownsRow W.heap.size 102 4 vs' gs'.length (gs'.flatMap SegW.cells)) :
    ∃ F', RefW (W9.setCell ⟨p, 1, none⟩ vs') F' S p places gs' vs' ∧ (∀ k, F' k → F k ∨ W.heap.size ≤ k) ∧ Kept F W (W9.setCell ⟨p, 1, none⟩ vs') := by
  have hpl := h.block.lt
  have hl := fun k e => hown.lt k e
  have h9 := h.below hb
  have hKp : Kept (fun k => k = p) W9 (W9.setCell ⟨p, 1, none⟩ vs') := (Kept.refl (fun k => k = p) W9).setCell (p := ⟨p, 1, none⟩) (.inl rfl) _
  have hrow : ∀ {e : TypeId} {size n : Nat} {v : Value} {xs : List Value}, W9.ownsRow 0 e size v n xs → 74 ≠ e → (W9.setCell ⟨p, 1, none⟩ vs').ownsRow 0 e size v n xs := fun ho h2 =>
    hKp.own ho (fun k e hk => by subst hk; exact two_ne h9.block ho h2 e)
  refine ⟨fun k => F k ∨ (W.heap.size ≤ k ∧ k < W9.heap.size), { block := h9.block.setB _, segs := ?_, rows := ?_, fp := ?_, lt := ?_, apart := h.apart.sublist hsub }, ?_, ?_⟩
  · exact hKp.own (own_later hown (Nat.zero_le _)) (fun k e hk => by have := (hl k e).1; omega)
  · intro g hg
    obtain ⟨r1, r2, r3, r4⟩ := h9.rows g (hsub.subset hg)
    exact ⟨hrow r1 (by decide), fun k e => .inl (r2 k e), r3, fun i u b hu hb => ⟨hrow (r4 i u b hu hb).1 (by decide), (r4 i u b hu hb).2⟩⟩
  · exact ⟨.inl h.fp.1, fun k e => .inr ⟨(hl k e).1, (hl k e).2⟩⟩
  · intro k hk
    have hz : (W9.setCell ⟨p, 1, none⟩ vs').heap.size = W9.heap.size := by simp [World.setCell]
    rw [hz]
    have := hb.size
    rcases hk with (hk | hk) | hk
    · have := h.lt k (.inl hk); omega
    · exact hk.2
    · have := h.lt k (.inr hk); omega
  · rintro k (hk | hk)
    · exact .inl hk
    · exact .inr hk.1
  · exact (Kept.of_below (F := F) hb).setCell (.inl h.fp.1) _
end
theorem drop_some {gs : List SegW} {n : Int} {j : Nat} (hj : j < gs.length) (h : ((gs[j]).d.number : Int) = n) (hne : ∀ k (hk : k < gs.length), k < j → ((gs[k]).d.number : Int) ≠ n) : dropAt (gs.map SegW.d) n = some j := by
  unfold dropAt
  rw [List.findIdx?_eq_some_iff_getElem]
  refine ⟨by rw [List.length_map]; exact hj, by simpa using h, fun k hk => ?_⟩
  have := hne k (by omega) hk
  simpa using this
theorem drop_none {gs : List SegW} {n : Int} (hne : ∀ k (hk : k < gs.length), ((gs[k]).d.number : Int) ≠ n) : dropAt (gs.map SegW.d) n = none := by
  unfold dropAt
  rw [List.findIdx?_eq_none_iff]
  intro x hx
  obtain ⟨g, hg, rfl⟩ := List.mem_map.1 hx
  obtain ⟨k, hk, rfl⟩ := List.getElem_of_mem hg
  simpa using hne k hk
end Go.Proofs.YtcpanaokfbojnaaGreatDoor

/- The document's own store: Drop, walked. -/
namespace Go.Proofs.YtcpanaokfbojnaaGreatDoor
open Go.RowKit Tide

theorem own_empty {W : World} {base g size : Nat} {e : TypeId} (hb : base ≤ g) (hg : W.heap[g]? = some (.cells #[] e (0, 0))) : W.ownsRow base e size (.slice (some ⟨g, 0, none⟩) 0 0) 0 [] :=
  ⟨by simp, .inr ⟨g, 0, #[], rfl, hb, hg, Nat.le_refl _, Nat.zero_le _, by simp, by simp⟩⟩
def DropR2 (W : World) (F S : Nat → Prop) (p : Nat) (r : StoD × Int) (e : Ending) (w' : World) : Prop :=
  e = .returned (.int .i64 r.2) ∧ ∃ F', RefI2 w' F' S p r.1 ∧ (∀ k, F' k → F k ∨ W.heap.size ≤ k) ∧ Kept F W w'
set_option maxRecDepth 100000 in
set_option maxHeartbeats 4000000 in
theorem rdrop2 {W : World} {F S : Nat → Prop} {p : Nat} {s : StoD} (h0 : RefI2 W F S p s) (hS : Small s) (n : Int) :
    Calls Tryz.prog 50 #[.pointer (some ⟨p, 0, none⟩), .int .i64 n] W (DropR2 W F S p (dropD s n)) := by
  obtain ⟨gs, vs, hgs, h⟩ := h0
  have hmax : gs.length ≤ 999 := by have := hS.segs; rw [hgs, List.length_map] at this; exact this
  have hsl : s.segs.length = gs.length := by rw [hgs, List.length_map]
  obtain ⟨i0, hinf, hz0, hz1, hz2⟩ := info_parts infoG
  have HIn := Lib.hid hinf
  have HG := Lib.hid hgs
  have HSL := Lib.hid hsl
  obtain ⟨hpl, _, c1, _⟩ := h.block.facts
  obtain ⟨A, c, rfl, _, _⟩ := h.vform
  have H := Lib.hid h
  have HM := Lib.hid hmax
  have HD0 := Lib.hid (show RefI2 W F S p s from ⟨gs, _, hgs, h⟩)
  clear hS hgs h hmax hsl hinf
  go_enter Tryz.func50, Tryz.ntmps50
  go_wp2_with fail
  go_loopw [12] (fun i wr => ∃ j : Nat, i = .int .i64 j ∧ j ≤ gs.length ∧ Hid (∀ k (hk : k < gs.length), k < j → ((gs[k]).d.number : Int) ≠ n) ∧ Hid (Below W.heap.size W wr)) (fun i _ => gs.length - (intOf i).toNat)
  case atStart => exact ⟨0, rfl, Nat.zero_le _, Lib.hid (fun k _ hk => absurd hk (Nat.not_lt_zero k)), Lib.hid (Below.refl _ _)⟩
  case round =>
    obtain ⟨j, rfl, hj, hne, hb⟩ := hrel
    by_cases hlj : j < gs.length
    · obtain ⟨bs, cc, hv, hbb, d0, d1, d2, d3⟩ := (H.out.below hb.out).cells j hlj
      injection hv with e1 _ e3
      subst e1 e3
      obtain ⟨Av, cv, hvr, _, _⟩ := H.out.vr_form (List.getElem_mem hlj)
      rw [hvr] at d3
      have c1r := (hb.out.cell (p := ⟨p, 1, none⟩) hpl).trans c1
      have hpr := Nat.lt_of_lt_of_le hpl hb.out.size
      obtain ⟨no, hno⟩ : ∃ no, (gs[j]).d.number = no := ⟨_, rfl⟩
      have HNo := Lib.hid hno
      rw [hno] at d1
      have HB2 := Lib.hid (hb.out.alloc hb.out.size (.cells #[.int .i64 ((gs[j]).d.place : Int), .int .i64 (no : Int), .int .i64 ((gs[j]).d.sectors : Int), .slice Av (gs[j]).rs.length cv] 102))
      generalize (gs[j]).d.place = pl at *
      generalize (gs[j]).d.sectors = sc at *
      generalize (gs[j]).rs.length = rl at *
      clear hno hvr
      by_cases hnn : (no : Int) = n
      · have qn : ((no : Int) != n) = false := by rw [hnn]; simp
        have HNN := Lib.hid hnn
        clear hnn
        obtain ⟨L, hL⟩ : ∃ L, gs.length = L + 1 := ⟨gs.length - 1, by omega⟩
        have HL := Lib.hid hL
        have hLm : L ≤ 999 := by have := HM.out; omega
        have HDA := Lib.hid (show dropAt s.segs n = some j from by rw [HG.out]; exact drop_some hlj (by rw [HNo.out]; exact HNN.out) hne.out)
        rw [hL] at c1r hlj
        have hjl : j ≤ L := by omega
        have hK0 : (-1000000 : Int) ≤ (L : Int) := by omega
        have hK1 : (L : Int) ≤ 1000000 := by omega
        have hJ0 : (-1000000 : Int) ≤ (j : Int) + 1 := by omega
        have hJ1 : (j : Int) + 1 ≤ 1000000 := by omega
        by_cases hjL : j = L
        · have HR := Lib.hid (show dropD s n = (s, 17) from by unfold dropD; rw [HDA.out]; simp only; rw [if_pos (by rw [HSL.out, HL.out, hjL])])
          subst hjL
          have wK := small_w _ hK0 hK1
          have vK := small_v _ hK0 hK1
          clear hL hK0 hK1 hJ0 hJ1 hjl
          go_wp2_with fail
          go_ret
          refine ⟨by rw [HR.out] <;> rfl, F, ?_, fun k hk => .inl hk, Kept.of_below HB2.out⟩
          rw [HR.out]
          exact HD0.out.below HB2.out
        · have qj : ((j : Int) == (L : Int)) = false := by rw [beq_eq_false_iff_ne]; omega
          have qj2 : (j == L) = false := by rw [beq_eq_false_iff_ne]; exact hjL
          have HR := Lib.hid (show dropD s n = ({ s with segs := s.segs.eraseIdx j }, 0) from by unfold dropD; rw [HDA.out]; simp only; rw [if_neg (by rw [HSL.out, HL.out]; omega)])
          have hcap : L + 1 ≤ c := by obtain ⟨_, _, e, h1, _⟩ := H.out.vform; injection e with _ _ e; subst e; rw [HL.out] at h1; exact h1
          have hc1 := fun W => seg_to bs (L + 1) c j (j : Int) rfl (by omega) hcap (by omega) W
          have hc2 := fun W => seg_from bs (L + 1) c (j + 1) ((j : Int) + 1) (by omega) (by omega) (by omega) W
          have HJ := Lib.hid (show j < gs.length from by rw [HL.out]; omega)
          have HL1 := Lib.hid (show (gs.take j).length = j from by rw [List.length_take]; omega)
          have HL2 := Lib.hid (show (gs.take (j + 1)).length = j + 1 from by rw [List.length_take]; omega)
          have HL3 := Lib.hid (show (gs.drop (j + 1)).length = L - j from by rw [List.length_drop]; omega)
          have HT := Lib.hid (show gs = gs.take j ++ gs.drop j from (List.take_append_drop _ _).symm)
          have HT2 := Lib.hid (show gs = gs.take (j + 1) ++ gs.drop (j + 1) from (List.take_append_drop _ _).symm)
          have HE := Lib.hid (show gs.eraseIdx j = gs.take j ++ gs.drop (j + 1) from List.eraseIdx_eq_take_drop_succ _ _)
          have kL : (L : Int) < (L : Int) + 1 := by omega
          have hsub : L + 1 - (j + 1) = L - j := by omega
          have hJn : (j : Int) ≤ (L : Int) + 1 := by omega
          have HP1 := Lib.hid (fun W' (hw : Below W.heap.size W W') => show ∀ jj u, ((gs.take j).flatMap SegW.cells)[jj]? = some u → W'.cell? ((⟨bs, 0, none⟩ : Addr).add jj) = some u from fun jj u hu => by
            have h9 := H.out.below hw
            refine h9.segs.cells (g := bs) rfl jj u ?_
            rw [HT.out, segs_app, List.getElem?_append_left (List.getElem?_eq_some_iff.1 hu).1]
            exact hu)
          have HP2 := Lib.hid (fun W' (hw : Below W.heap.size W W') => show ∀ jj u, ((gs.drop (j + 1)).flatMap SegW.cells)[jj]? = some u → W'.cell? ((⟨bs, (j + 1) * 4, none⟩ : Addr).add jj) = some u from
            (show RefW W' F S p s.places gs (.slice (some ⟨bs, 0, none⟩) gs.length c) from H.out.below hw).part (j + 1) _ _ HT2.out HL2.out)
          have HO1 := Lib.hid (segs_one (gs.take j) (fun g hg => H.out.one g (List.mem_of_mem_take hg)))
          have HO2 := Lib.hid (segs_one (gs.drop (j + 1)) (fun g hg => H.out.one g (List.mem_of_mem_drop hg)))
          have c17 := (HB2.out.cell (p := ⟨p, 1, none⟩) hpl).trans c1
          have HA1 := Lib.hid (show 0 + j ≤ maxLen ∧ (0 + j) * 48 ≤ 140737488355328 from ⟨by unfold maxLen; omega, by omega⟩)
          have HA2 := Lib.hid (show 0 + j + (L - j) ≤ maxLen ∧ (0 + j + (L - j)) * 48 ≤ 140737488355328 ∧ 0 < 0 + j + (L - j) ∧ 0 + j + (L - j) = L from ⟨by unfold maxLen; omega, by omega, by omega, by omega⟩)
          have HN1 := Lib.hid (show ((gs.take j).flatMap SegW.cells).length = j * 4 from by rw [segs_len, HL1.out])
          have HN2 := Lib.hid (show ((gs.drop (j + 1)).flatMap SegW.cells).length = (L - j) * 4 from by rw [segs_len, HL3.out])
          rw [HL.out] at c17
          have wK := small_w _ hK0 hK1
          have vK := small_v _ hK0 hK1
          have wJ := small_w _ hJ0 hJ1
          have vJ := small_v _ hJ0 hJ1
          clear hK0 hK1 hJ0 hJ1 hjl
          have c10 := c1
          rw [HL.out] at c10
          clear hjL hL hLm c1 c1r hpr hsub
          go_wp2_with fail
          generalize hW7 : wr.alloc (.cells #[.int .i64 (pl : Int), .int .i64 (no : Int), .int .i64 (sc : Int), .slice Av rl cv] 102) = W7 at *
          have hsz7 := HB2.out.size
          have hp7 : p < W7.heap.size := Nat.lt_of_lt_of_le hpl hsz7
          clear wK vK hW7
          have HBW := Lib.hid ((Below.refl W7.heap.size W7).alloc (Nat.le_refl _) (.cells #[] 102)).drew
          go_region_law (first
            | (refine step_append_any _ rfl (.tmp 30) (.tmp 36) _ rfl W.heap.size 102 i0 _ 4 48 Tryz.underlying72 HIn.out hz0 hz1 hz2 rfl (Nat.succ_pos 3) _ 0 [] rfl ?_ ⟨bs, 0, none⟩ j _ ((gs.take j).flatMap SegW.cells) rfl HN1.out ?_ HO1.out HA1.out.1 HA1.out.2 ?_ ?_; (exact own_empty hsz7 (heap_alloc_new W7 _)); (exact HP1.out _ (HB2.out.trans (HBW.out.mono hsz7))); (exact Nat.le_trans hsz7 HBW.out.size); intro v2 w2 h1 h2; have HB8 := Lib.hid ((HB2.out.trans (HBW.out.mono hsz7)).trans h2); have H8 := Lib.hid h1; have c18 := (HB8.out.cell (p := ⟨p, 1, none⟩) hpl).trans c10; have hp8 := Nat.lt_of_lt_of_le hpl HB8.out.size; clear h1 h2)
            | (refine step_append_any _ rfl (.tmp 37) (.tmp 44) _ rfl W.heap.size 102 i0 _ 4 48 Tryz.underlying72 HIn.out hz0 hz1 hz2 rfl (Nat.succ_pos 3) _ (0 + j) ([] ++ (gs.take j).flatMap SegW.cells) rfl H8.out ⟨bs, (j + 1) * 4, none⟩ (L - j) _ ((gs.drop (j + 1)).flatMap SegW.cells) rfl HN2.out ?_ HO2.out HA2.out.1 HA2.out.2.1 ?_ ?_; (exact HP2.out _ HB8.out); (exact HB8.out.size); intro v3 w3 h1 h2; obtain ⟨g3, cap3, rfl, _, _⟩ := h1.form HA2.out.2.2.1; have HB9 := Lib.hid (HB8.out.trans h2); have H9 := Lib.hid h1; have hR9 := H.out.below HB9.out; obtain ⟨hp9, _, c19, fz9⟩ := hR9.block.facts; clear h1 h2 hR9))
          all_goals
            have hlg : (gs.take j ++ gs.drop (j + 1)).length = 0 + j + (L - j) := by rw [List.length_append, HL1.out, HL3.out, Nat.zero_add]
            have hX := H.out.resegs HB9.out (gs' := gs.take j ++ gs.drop (j + 1)) (vs' := .slice (some ⟨g3, 0, none⟩) (0 + j + (L - j)) cap3) (by rw [← HE.out]; exact List.eraseIdx_sublist gs j) (by rw [hlg, segs_app]; exact H9.out)
            rw [Nat.zero_add] at hX
            generalize hW10 : World.setCell w3 ⟨p, 1, none⟩ (.slice (some ⟨g3, 0, none⟩) (j + (L - j)) cap3) = W10 at *
            have HX := Lib.hid hX
            clear hX hW10 hlg wJ vJ
            go_wp2_with fail
            go_ret
            obtain ⟨F', r1, r2, r3⟩ := HX.out
            refine ⟨by rw [HR.out] <;> rfl, F', ?_, r2, r3⟩
            rw [HR.out]
            refine ⟨_, _, ?_, r1⟩
            show s.segs.eraseIdx j = _
            rw [HG.out, List.eraseIdx_eq_take_drop_succ, List.map_append, List.map_take, List.map_drop]
      · have qn : ((no : Int) != n) = true := by rw [bne_iff_ne]; exact hnn
        have HNe := Lib.hid (show ∀ k (hk : k < gs.length), k < j + 1 → ((gs[k]).d.number : Int) ≠ n from fun k hk hkj => by
          by_cases hkj2 : k < j
          · exact hne.out k hk hkj2
          · have : k = j := by omega
            subst this
            rw [HNo.out]; exact hnn)
        clear hnn
        go_wp2_with fail
        go_roundw
        case rel => exact ⟨j + 1, by go_num, by omega, HNe, HB2⟩
        case measure => simp [intOf]; omega
    · have hje : j = gs.length := by omega
      have HR := Lib.hid (show dropD s n = (s, 16) from by
        unfold dropD
        rw [HG.out, drop_none (fun k hk => hne.out k hk (by omega))])
      subst hje
      go_wp2_with fail
      go_ret
      refine ⟨by rw [HR.out] <;> rfl, F, ?_, fun k hk => .inl hk, Kept.of_below hb.out⟩
      rw [HR.out]
      exact HD0.out.below hb.out
end Go.Proofs.YtcpanaokfbojnaaGreatDoor

/- The document's own store: Copy. -/
namespace Go.Proofs.YtcpanaokfbojnaaGreatDoor
open Go.RowKit Tide

theorem wpList_append_none {P : Program} (w : World) {ops : Array Oper} {rest : List Oper} {o : Oper} {a : Act} {Q : Exit → Act → World → Prop} (hgd : o.guard = none) (s x : Operand) (t : TypeId)
    (ho : o.op = .call { callee := .builtin .append, args := #[s, x], argTypes := #[t, t] })
    (base : Nat) (e : TypeId) (i : TypeInfo) (size : Nat) (ht : P.underlying t = some (.slice e)) (hi : P.info? e = some i)
    (v : Value) (n : Nat) (xs : List Value) (hs : a.eval s = v) (hown : w.ownsRow base e size v n xs) (hx : a.eval x = .slice none 0 0)
    (h : wpList P ops Q rest (a.put o.dst v) w) : wpList P ops Q (o :: rest) a w := by
  refine wpList_plain hgd fun K hK => ?_
  have hr := run_append_owned_none (P := P) w base t o.type e i size ht hi v n xs hown
  unfold Oper.wp execOp
  simp only [ho, resolve, invoke, builtin, Sem.run_bind, Sem.run_pure, Result.andThen_ok, List.map_toArray, List.map_cons, List.map_nil, hs, hx, hr]
  exact hK _ _ h
theorem wpList_append_row8 {P : Program} (w : World) {ops : Array Oper} {rest : List Oper} {o : Oper} {a : Act} {Q : Exit → Act → World → Prop} (hgd : o.guard = none) (s x : Operand) (t : TypeId)
    (ho : o.op = .call { callee := .builtin .append, args := #[s, x], argTypes := #[t, t] })
    (base : Nat) (e : TypeId) (i : TypeInfo) (z : Value) (bytes : Nat) (ht : P.underlying t = some (.slice e)) (hi : P.info? e = some i) (hz : i.zero = some z)
    (hsize : i.size = 1) (hby : i.bytes = bytes) (hzs : z.cells.size = 1)
    (g n c0 : Nat) (xs : List Value) (hs : a.eval s = .slice (some ⟨g, 0, none⟩) n c0) (hown : w.ownsRow base e 1 (.slice (some ⟨g, 0, none⟩) n c0) n xs)
    (u : Value) (b2 m : Nat) (news : List Value) (hx : a.eval x = u) (hu : w.ownsRow b2 e 1 u m news) (h1 : ∀ u ∈ news, u.oneCell' = true)
    (h63 : n + m ≤ maxLen) (hbytes : (n + m) * bytes ≤ 140737488355328) (hbase : base ≤ w.heap.size)
    (h : ∀ g' c' w', w'.ownsRow base e 1 (.slice (some ⟨g', 0, none⟩) (n + m) c') (n + m) (xs ++ news) → Below base w w' → wpList P ops Q rest (a.put o.dst (.slice (some ⟨g', 0, none⟩) (n + m) c')) w') : wpList P ops Q (o :: rest) a w := by
  rcases hu.2 with ⟨rfl, rfl⟩ | ⟨g2, cap, cur, rfl, _⟩
  · have hn : news = [] := List.eq_nil_of_length_eq_zero (by have := hu.1; omega)
    subst hn
    refine wpList_append_none w hgd s x t ho base e i 1 ht hi _ n xs hs hown hx ?_
    have := h g c0 w (by simpa using hown) (Below.refl _ _)
    simpa using this
  · refine wpList_append_own_at w hgd s x t ho base e i z 1 bytes ht hi hz hsize hby hzs (by omega) _ n xs hs hown ⟨g2, 0, none⟩ m cap news hx (by simpa using hu.1) (hu.cells (g := g2) rfl) h1 h63 hbytes hbase ?_
    intro v' w' k1 k2 k3 k4
    have hform : ∃ g' c', v' = .slice (some ⟨g', 0, none⟩) (n + m) c' := by
      rcases k1.2 with ⟨k5, _⟩ | ⟨g', cap', cur', k5, _⟩
      · exact absurd (k3.1 k5).1 (by simp)
      · exact ⟨_, _, k5⟩
    obtain ⟨g', c', rfl⟩ := hform
    exact h g' c' w' k1 ((Below.refl base w).grown k2 hbase (fun k e => (hown.lt k e).1))
section
variable {W : World} {F S : Nat → Prop} {p places : Nat} {gs : List SegW} {vs : Value}
theorem RefW.snocR (h : RefW W F S p places gs vs) (x : SegW) {W1 W9 : World} (hb : Below W.heap.size W W1) (hg : W1.grownBy W9 vs.ownBlock) {g cap : Nat} (hxr : W1.ownsRow W.heap.size 45 1 x.vr x.rs.length x.rs) (hxs : RecRows W S x.rs x.d.recs)
    (hown : W9.ownsRow 0 102 4 (.slice (some ⟨g, 0, none⟩) (gs.length + 1) cap) (gs.length + 1) (gs.flatMap SegW.cells ++ x.cells)) (hat : vs.ownBlock = some g ∨ g = W1.heap.size) :
    ∃ F', RefW (W9.setCell ⟨p, 1, none⟩ (.slice (some ⟨g, 0, none⟩) (gs.length + 1) cap)) F' S p places (gs ++ [x]) (.slice (some ⟨g, 0, none⟩) (gs.length + 1) cap) ∧ (∀ k, F' k → F k ∨ W.heap.size ≤ k) ∧ Kept F W (W9.setCell ⟨p, 1, none⟩ (.slice (some ⟨g, 0, none⟩) (gs.length + 1) cap)) := by
  have hg2 := (hown.lt g rfl).2
  have hpl := h.block.lt
  have hz1 := hb.size
  have hz9 := hg.size
  have hxl := fun k e => hxr.lt k e
  have hK1 : Kept (fun k => vs.ownBlock = some k) W1 W9 := (Kept.refl _ _).grown hg (fun k e => .inl e)
  have hK : Kept (fun k => vs.ownBlock = some k) W W9 := (Kept.of_below hb).trans hK1 (fun k e => .inl e)
  have hvl : ∀ k, vs.ownBlock = some k → k < W.heap.size := fun k e => h.lt k (.inl (h.fp.2 k e))
  have hpv : vs.ownBlock ≠ some p := two_ne h.block h.segs (by decide)
  have hKp : Kept (fun k => k = p) W9 (W9.setCell ⟨p, 1, none⟩ (.slice (some ⟨g, 0, none⟩) (gs.length + 1) cap)) := (Kept.refl (fun k => k = p) W9).setCell (p := ⟨p, 1, none⟩) (.inl rfl) _
  have hgp : g ≠ p := by
    rcases hat with e | e
    · intro e2; subst e2; exact hpv e
    · omega
  have hall : Kept (fun k => vs.ownBlock = some k ∨ k = p) W (W9.setCell ⟨p, 1, none⟩ (.slice (some ⟨g, 0, none⟩) (gs.length + 1) cap)) := (hK.mono (fun k _ e => .inl e)).setCell (.inl (.inr rfl)) _
  have hrow : ∀ {e : TypeId} {size n : Nat} {v : Value} {xs : List Value}, W.ownsRow 0 e size v n xs → 102 ≠ e → 74 ≠ e → (W9.setCell ⟨p, 1, none⟩ (.slice (some ⟨g, 0, none⟩) (gs.length + 1) cap)).ownsRow 0 e size v n xs := fun ho h1 h2 =>
    hall.own ho (fun k e hk => hk.elim (fun hk => own_ne h.segs ho h1 k hk e) (fun hk => by subst hk; exact two_ne h.block ho h2 e))
  refine ⟨fun k => F k ∨ (W.heap.size ≤ k ∧ k < W9.heap.size), { block := ?_, segs := ?_, rows := ?_, fp := ?_, lt := ?_, apart := ?_ }, ?_, ?_⟩
  · exact (h.block.kept hK hpv).setB _
  · rw [List.length_append, List.flatMap_append]
    exact hKp.own (by simpa using hown) (fun k e => by cases e; exact hgp)
  · intro y hy
    rcases List.mem_append.1 hy with hy | hy
    · obtain ⟨r1, r2, r3, r4⟩ := h.rows y hy
      exact ⟨hrow r1 (by decide) (by decide), fun k e => .inl (r2 k e), r3, fun i u b hu hb => ⟨hrow (r4 i u b hu hb).1 (by decide) (by decide), (r4 i u b hu hb).2⟩⟩
    · simp only [List.mem_singleton] at hy
      subst hy
      refine ⟨hKp.own (hK1.own (own_later hxr (Nat.zero_le _)) (fun k e hk => ?_)) (fun k e hk => ?_), fun k e => .inr ⟨(hxl k e).1, ?_⟩, hxs.1, fun i u b hu hb => ⟨hrow (hxs.2 i u b hu hb).1 (by decide) (by decide), (hxs.2 i u b hu hb).2⟩⟩
      · have := (hxl k e).1; have := hvl k hk; omega
      · have := (hxl k e).1; omega
      · have := (hxl k e).2; omega
  · refine ⟨.inl h.fp.1, fun k e => ?_⟩
    have e : g = k := by simpa [Value.ownBlock] using e
    subst e
    rcases hat with e | e
    · exact .inl (h.fp.2 _ e)
    · exact .inr ⟨by omega, hg2⟩
  · intro k hk
    have hz : (W9.setCell ⟨p, 1, none⟩ (.slice (some ⟨g, 0, none⟩) (gs.length + 1) cap)).heap.size = W9.heap.size := by simp [World.setCell]
    rw [hz]
    rcases hk with (hk | hk) | hk
    · have := h.lt k (.inl hk); omega
    · exact hk.2
    · have := h.lt k (.inr hk); omega
  · refine List.pairwise_append.2 ⟨h.apart, by simp, fun a ha b hb k e e2 => ?_⟩
    simp only [List.mem_singleton] at hb
    subst hb
    have := (hxl k e2).1
    have := h.lt k (.inl ((h.rows a ha).2.1 k e))
    omega
  · rintro k (hk | hk)
    · exact .inl hk
    · exact .inr hk.1
  · exact (hK.mono (fun k _ e => h.fp.2 k e)).setCell (.inl h.fp.1) _
end
theorem row_set8 {W : World} {p i : Nat} {cs : Array Value} {t : TypeId} {fr : Nat × Nat} (h : W.heap[p]? = some (.cells cs t fr)) (v : Value) : (W.setCell ⟨p, i, none⟩ v).heap[p]? = some (.cells (cs.setIfInBounds i v) t fr) := by
  obtain ⟨hlt, hk⟩ := Array.getElem?_eq_some_iff.1 h
  show (W.heap.modify p _)[p]? = _
  rw [Array.getElem?_eq_getElem (by rw [Array.size_modify]; exact hlt), Array.getElem_modify_self, hk]
  simp
theorem own_recs {W : World} {S : Nat → Prop} {rs : List Value} {bs : List (List UInt8)} (h : RecRows W S rs bs) : ∀ u ∈ rs, u.oneCell' = true := fun u hu => by
  obtain ⟨i, hi, rfl⟩ := List.getElem_of_mem hu
  have ho := (h.2 i rs[i] (bs[i]'(by rw [← h.1]; exact hi)) (List.getElem?_eq_getElem hi) (List.getElem?_eq_getElem _)).1
  rcases ho.2 with ⟨e, _⟩ | ⟨_, _, _, e, _⟩
  · rw [e]; rfl
  · rw [e]; rfl
set_option maxRecDepth 100000 in
set_option maxHeartbeats 4000000 in
theorem copy_any {W : World} {F S : Nat → Prop} {p : Nat} {s : StoD} (h0 : RefI2 W F S p s) (hmax : s.segs.length ≤ 1000) (hrm : ∀ g ∈ s.segs, g.recs.length ≤ 1000) :
    Calls Tryz.prog 40 #[.pointer (some ⟨p, 0, none⟩)] W fun e w' => ∃ q F', e = .returned (.pointer (some ⟨q, 0, none⟩)) ∧ RefI2 w' F' S q s ∧ (∀ k, F' k → W.heap.size ≤ k) ∧ Below W.heap.size W w' := by
  obtain ⟨gs, vs, hgs, h⟩ := h0
  have hgl : gs.length ≤ 1000 := by rw [hgs, List.length_map] at hmax; exact hmax
  have hgr : ∀ g ∈ gs, g.rs.length ≤ 1000 := fun g hg => by
    rw [(h.rows g hg).2.2.1]
    exact hrm g.d (by rw [hgs]; exact List.mem_map.2 ⟨g, hg, rfl⟩)
  obtain ⟨hpl, c0, c1, _⟩ := h.block.facts
  obtain ⟨A, c, rfl, _, _⟩ := h.vform
  obtain ⟨P, hP⟩ : ∃ P, s.places = P := ⟨_, rfl⟩
  rw [hP] at h c0
  have H := Lib.hid h
  have HG := Lib.hid hgs
  have HP := Lib.hid hP
  have HM := Lib.hid hgl
  have HRm := Lib.hid hgr
  obtain ⟨i0, hinf, hz0, hz1, hz2⟩ := info_parts infoG
  have HIn := Lib.hid hinf
  obtain ⟨i1, hinf1, hy0, hy1, hy2⟩ := info_parts infoL
  have HIn1 := Lib.hid hinf1
  obtain ⟨L, hL⟩ : ∃ L, gs.length = L := ⟨_, rfl⟩
  have HL := Lib.hid hL
  rw [hL] at c1
  clear hgs hP hgl hgr hmax hrm h hinf hinf1 hL
  have hst : RefW (W.alloc (.cells #[.int .i64 (P : Int), .slice none 0 0] 74)) (fun b => b = W.heap.size) S W.heap.size P [] (.slice none 0 0) := by
    refine { block := Two.new W _ _ _, segs := ⟨rfl, .inl ⟨rfl, rfl⟩⟩, rows := (fun g hg => by cases hg), fp := ⟨rfl, (fun k e => by cases e)⟩, lt := fun k hk => ?_, apart := List.Pairwise.nil }
    rw [World.size_alloc]
    rcases hk with hk | hk
    · omega
    · have := H.out.lt k (.inr hk); omega
  have HSt := Lib.hid hst
  have HB0 := Lib.hid ((Below.refl W.heap.size W).alloc (Nat.le_refl _) (.cells #[.int .i64 (P : Int), .slice none 0 0] 74))
  have c1' := (HB0.out.cell (p := ⟨p, 1, none⟩) hpl).trans c1
  clear hst
  go_enter Tryz.func40, Tryz.ntmps40
  go_wp2_with fail
  go_loopw [17] (fun i wr => ∃ j : Nat, i = .int .i64 j ∧ j ≤ L ∧ Hid (Below W.heap.size W wr) ∧ Hid (∃ Fo gso vso, RefW wr Fo S W.heap.size P gso vso ∧ gso.map SegW.d = (gs.take j).map SegW.d ∧ (∀ k, Fo k → W.heap.size ≤ k))) (fun i _ => L - (intOf i).toNat)
  case atStart => exact ⟨0, rfl, Nat.zero_le _, HB0, Lib.hid ⟨_, _, _, HSt.out, rfl, fun k hk => by omega⟩⟩
  case round =>
    obtain ⟨j, rfl, hj, hb, ho⟩ := hrel
    by_cases hlj : j < L
    · obtain ⟨Fo, gso, vso, hR, hmap, hFo⟩ := ho.out
      have hjg : j < gs.length := by rw [HL.out]; exact hlj
      obtain ⟨bs, cc, hv, hbb, d0, d1, d2, d3⟩ := (H.out.below hb.out).cells j hjg
      injection hv with e1 _ e3
      subst e1 e3
      have hrow := (H.out.below hb.out).rows _ (List.getElem_mem hjg)
      have hrl := HRm.out _ (List.getElem_mem hjg)
      obtain ⟨Av, cv, hvr, hvc, _⟩ := H.out.vr_form (List.getElem_mem hjg)
      rw [hvr] at d3 hrow
      obtain ⟨x, hx⟩ : ∃ x : SegW, x = gs[j] := ⟨_, rfl⟩
      have HX := Lib.hid hx
      rw [← hx] at d0 d1 d2 d3 hrow hrl hvc
      obtain ⟨Ao, co, rfl, hoc, _⟩ := hR.vform
      have hgol : gso.length = j := by
        have := congrArg List.length hmap
        rw [List.length_map, List.length_map, List.length_take] at this
        omega
      rw [hgol] at hR hoc
      obtain ⟨hql, _, o1, hof⟩ := hR.block.facts
      have c1r := (hb.out.cell (p := ⟨p, 1, none⟩) hpl).trans c1
      have hpr := Nat.lt_of_lt_of_le hpl hb.out.size
      have HRo := Lib.hid hR
      have HMap := Lib.hid hmap
      have HFo := Lib.hid hFo
      have HGol := Lib.hid hgol
      obtain ⟨pl, hpl'⟩ : ∃ n, x.d.place = n := ⟨_, rfl⟩
      obtain ⟨no, hno⟩ : ∃ n, x.d.number = n := ⟨_, rfl⟩
      obtain ⟨sc, hsc⟩ : ∃ n, x.d.sectors = n := ⟨_, rfl⟩
      obtain ⟨rl, hrll⟩ : ∃ n, x.rs.length = n := ⟨_, rfl⟩
      rw [hpl'] at d0
      rw [hno] at d1
      rw [hsc] at d2
      rw [hrll] at d3 hrow hrl hvc
      have HXd := Lib.hid (And.intro hpl' (And.intro hno (And.intro hsc hrll)))
      have HRow := Lib.hid hrow
      have HRl := Lib.hid hrl
      have HLm := Lib.hid (show j + 1 ≤ 1000 by have := HM.out; omega)
      obtain ⟨W7, hW7⟩ : ∃ W7, wr.alloc (.cells #[.int .i64 (pl : Int), .int .i64 (no : Int), .int .i64 (sc : Int), .slice Av rl cv] 102) = W7 := ⟨_, rfl⟩
      have HB7 := Lib.hid (show Below wr.heap.size wr W7 by rw [← hW7]; exact (Below.refl _ _).alloc (Nat.le_refl _) _)
      have hbox : W7.heap[wr.heap.size]? = some (.cells #[.int .i64 (pl : Int), .int .i64 (no : Int), .int .i64 (sc : Int), .slice Av rl cv] 102) := by rw [← hW7]; exact heap_alloc_new _ _
      have HBox := Lib.hid hbox
      have hs7 : wr.heap.size < W7.heap.size := by rw [← hW7, World.size_alloc]; omega
      have e3 : W7.cell? ⟨wr.heap.size, 3, none⟩ = some (.slice Av rl cv) := by rw [cell_of_row _ _ 3 _ _ _ hbox]; rfl
      clear hR hmap hFo hgol hpl' hno hsc hrll hrow hrl hvc hoc hx hbox hvr ho
      go_wp2_with (at_builtin; refine wpList_append_row8 _ rfl (.tmp 21) (.tmp 23) _ rfl W7.heap.size 45 i1 (.slice none 0 0) 24 Tryz.underlying69 HIn1.out hy0 hy1 hy2 rfl _ 0 _ [] rfl ?d0 _ 0 rl x.rs rfl ?d1 ?d2 ?d3 ?d4 ?d5 ?_)
      case d0 => exact own_none (Nat.le_refl _) (heap_alloc_new W7 _)
      case d1 => exact own_below (own_below HRow.out.1 HB7.out) ((Below.refl _ _).alloc (Nat.le_refl _) _)
      case d2 => exact fun u hu => own_recs HRow.out.2.2 u hu
      case d3 => have := HRl.out; unfold maxLen; omega
      case d4 => have := HRl.out; omega
      intro g2 c2 w9 k1 k2
      replace k2 := ((Below.refl W7.heap.size W7).alloc (Nat.le_refl _) (.cells #[] 45)).trans k2
      have hs9 := k2.size
      have HK1 := Lib.hid k1
      have hbox9 := (k2.block _ hs7).trans HBox.out
      have HBox9 := Lib.hid hbox9
      have HB9 := Lib.hid (HB7.out.trans (k2.mono (Nat.le_of_lt hs7)))
      have b0 : w9.cell? ⟨wr.heap.size, 0, none⟩ = some (.int .i64 (pl : Int)) := by rw [cell_of_row _ _ 0 _ _ _ hbox9]; rfl
      have b1 : w9.cell? ⟨wr.heap.size, 1, none⟩ = some (.int .i64 (no : Int)) := by rw [cell_of_row _ _ 1 _ _ _ hbox9]; rfl
      have b2 : w9.cell? ⟨wr.heap.size, 2, none⟩ = some (.int .i64 (sc : Int)) := by rw [cell_of_row _ _ 2 _ _ _ hbox9]; rfl
      have b3 : w9.cell? ⟨wr.heap.size, 3, none⟩ = some (.slice Av rl cv) := by rw [cell_of_row _ _ 3 _ _ _ hbox9]; rfl
      have o9 := (HB9.out.cell (p := ⟨W.heap.size, 1, none⟩) hql).trans o1
      have hq9 := Nat.lt_of_lt_of_le hql HB9.out.size
      have hx9 : wr.heap.size < w9.heap.size := Nat.lt_of_lt_of_le hs7 hs9
      have fz9 : w9.frozen? ⟨wr.heap.size, 3, none⟩ = false := by
        unfold World.frozen?
        rw [show w9.heap[(⟨wr.heap.size, 3, none⟩ : Addr).block]? = _ from hbox9]
        simp
      have H7 := Lib.hid hs7
      clear k1 k2 hbox9 hs9 e3 hs7
      go_wp2_with fail
      clear fz9
      generalize hW10 : w9.setCell ⟨wr.heap.size, 3, none⟩ (.slice (some ⟨g2, 0, none⟩) rl c2) = W10
      have HB10 := Lib.hid (show Below wr.heap.size wr W10 by rw [← hW10]; exact HB9.out.setCell (p := ⟨wr.heap.size, 3, none⟩) (Nat.le_refl _) _)
      have hbox10 : W10.heap[wr.heap.size]? = some (.cells #[.int .i64 (pl : Int), .int .i64 (no : Int), .int .i64 (sc : Int), .slice (some ⟨g2, 0, none⟩) rl c2] 102) := by
        rw [← hW10]
        exact row_set8 HBox9.out _
      have HK10 := Lib.hid (show W10.ownsRow W7.heap.size 45 1 (.slice (some ⟨g2, 0, none⟩) rl c2) rl x.rs by
        rw [← hW10]
        exact ((Kept.refl (fun k => k = wr.heap.size) w9).setCell (p := ⟨wr.heap.size, 3, none⟩) (.inl rfl) _).own HK1.out (fun k e hk => by have := (HK1.out.lt k e).1; have := H7.out; omega))
      have t0 : W10.cell? ⟨wr.heap.size, 0, none⟩ = some (.int .i64 (pl : Int)) := by rw [cell_of_row _ _ 0 _ _ _ hbox10]; rfl
      have t1 : W10.cell? ⟨wr.heap.size, 1, none⟩ = some (.int .i64 (no : Int)) := by rw [cell_of_row _ _ 1 _ _ _ hbox10]; rfl
      have t2 : W10.cell? ⟨wr.heap.size, 2, none⟩ = some (.int .i64 (sc : Int)) := by rw [cell_of_row _ _ 2 _ _ _ hbox10]; rfl
      have t3 : W10.cell? ⟨wr.heap.size, 3, none⟩ = some (.slice (some ⟨g2, 0, none⟩) rl c2) := by rw [cell_of_row _ _ 3 _ _ _ hbox10]; rfl
      have o10 := (HB10.out.cell (p := ⟨W.heap.size, 1, none⟩) hql).trans o1
      have hq10 := Nat.lt_of_lt_of_le hql HB10.out.size
      have hx10 : wr.heap.size < W10.heap.size := by have := H7.out; have := HK10.out.lt g2 rfl; omega
      clear hW10 hbox10 b0 b1 b2 b3 o9 hq9 hx9
      go_region_law (first
        | (refine step_append_lies _ rfl (.tmp 30) (.tmp 32) _ rfl 0 102 i0 _ 4 48 Tryz.underlying72 HIn.out hz0 hz1 hz2 rfl (by omega) _ j (gso.flatMap SegW.cells) rfl ?_ _ 1 _ [.int .i64 (pl : Int), .int .i64 (no : Int), .int .i64 (sc : Int), .slice (some ⟨g2, 0, none⟩) rl c2] rfl rfl ?_ ?_ (by omega) ?_ ?_ ?_ _ rfl ?_; (have hsg := HRo.out.segs; rw [HGol.out] at hsg; exact own_below (own_below hsg HB10.out) ((Below.refl _ _).alloc (Nat.le_refl _) _).drew); (exact fun j u hu => World.news_of_block (heap_alloc_new W10 _) j u (by simpa using hu)); (intro u hu; simp only [List.mem_cons, List.not_mem_nil, or_false] at hu; rcases hu with rfl | rfl | rfl | rfl <;> rfl); (have := HLm.out; unfold maxLen; omega); (have := HLm.out; omega); (exact Nat.zero_le _); intro g cap w11 h1 h2 h3 h4; have hb11 := (HB10.out.alloc HB10.out.size (.cells #[.int .i64 (pl : Int), .int .i64 (no : Int), .int .i64 (sc : Int), .slice (some ⟨g2, 0, none⟩) rl c2] 102)).drew; obtain ⟨G1, G2, G4⟩ := (HRo.out.below hb11).grown h2; have HX11 := Lib.hid (And.intro hb11 (And.intro h1 (And.intro h2 h3))); clear h1 h2 h3 h4 hb11))
      all_goals
        obtain ⟨hb11, h1, h2, h3⟩ := HX11.out
        obtain ⟨x0, x1, x2, x3⟩ := HXd.out
        have hsn := HRo.out.snocR (g := g) (cap := cap) ⟨x.d, .slice (some ⟨g2, 0, none⟩) rl c2, x.rs⟩ hb11 h2 (by
          show World.ownsRow _ _ _ _ _ x.rs.length x.rs
          rw [x3]
          exact own_below (own_later HK10.out HB7.out.size) ((Below.refl _ _).alloc (Nat.le_refl _) _).drew) HRow.out.2.2 (by
          rw [HGol.out]
          unfold SegW.cells
          rw [x0, x1, x2]
          exact h1) h3
        rw [HGol.out] at hsn
        have HSn := Lib.hid hsn
        have hsz11 := hb11.size
        have HB12 := Lib.hid (hb.out.trans (show Below W.heap.size wr (w11.setCell ⟨W.heap.size, 1, none⟩ (.slice (some ⟨g, 0, none⟩) (j + 1) cap)) from by
          obtain ⟨_, _, _, hk⟩ := hsn
          exact hk.below hb.out.size HFo.out))
        have HMap2 := Lib.hid (show (gso ++ [(⟨x.d, .slice (some ⟨g2, 0, none⟩) rl c2, x.rs⟩ : SegW)]).map SegW.d = (gs.take (j + 1)).map SegW.d from by
          rw [List.map_append, HMap.out, List.take_succ_eq_append_getElem hjg, List.map_append]
          simp [HX.out])
        generalize w11.setCell ⟨W.heap.size, 1, none⟩ (.slice (some ⟨g, 0, none⟩) (j + 1) cap) = W12 at *
        clear hsn hb11 h1 h2 h3 x0 x1 x2 x3 hsz11 G1 G2 G4 HX11
        go_wp2_with fail
        go_roundw
        case rel =>
          obtain ⟨F', s1, s2, s3⟩ := HSn.out
          exact ⟨j + 1, by go_num, by omega, HB12, Lib.hid ⟨F', _, _, s1, HMap2.out, fun k hk => (s2 k hk).elim (HFo.out k) (fun h => Nat.le_trans hb.out.size h)⟩⟩
        case measure => simp [intOf]; omega
    · have hje : j = L := by omega
      subst hje
      go_wp2_with fail
      go_ret
      obtain ⟨Fo, gso, vso, hR, hmap, hFo⟩ := ho.out
      refine ⟨_, Fo, rfl, ⟨gso, vso, ?_, by rw [HP.out]; exact hR⟩, hFo, hb.out⟩
      rw [hmap, HG.out, ← HL.out, List.take_length]
end Go.Proofs.YtcpanaokfbojnaaGreatDoor

/- The document's own store in memory: no more than it needs; both parts in one. -/
namespace Go.Proofs.YtcpanaokfbojnaaGreatDoor
open Go.RowKit Tide

theorem RefI2.tight {W : World} {F S : Nat → Prop} {p : Nat} {s : StoD} (h : RefI2 W F S p s) : ∃ F' S', RefI2 W F' S' p s ∧ (∀ k, F' k → F k) ∧ (∀ k, S' k → S k) ∧ ∀ k, F' k → ¬ S' k := by
  obtain ⟨gs, vs, hgs, hR⟩ := h
  have hF : ∀ k, (k = p ∨ vs.ownBlock = some k ∨ ∃ g ∈ gs, g.vr.ownBlock = some k) → F k := fun k hk => by
    rcases hk with rfl | hk | ⟨g, hg, hk⟩
    · exact hR.fp.1
    · exact hR.fp.2 k hk
    · exact (hR.rows g hg).2.1 k hk
  have hS : ∀ k, (∃ g ∈ gs, ∃ (i : Nat) (u : Value) (b : List UInt8), g.rs[i]? = some u ∧ g.d.recs[i]? = some b ∧ u.ownBlock = some k) → S k := fun k hk => by
    obtain ⟨g, hg, i, u, b, h1, h2, h3⟩ := hk
    exact ((hR.rows g hg).2.2.2 i u b h1 h2).2 k h3
  refine ⟨fun k => k = p ∨ vs.ownBlock = some k ∨ ∃ g ∈ gs, g.vr.ownBlock = some k, fun k => ∃ g ∈ gs, ∃ (i : Nat) (u : Value) (b : List UInt8), g.rs[i]? = some u ∧ g.d.recs[i]? = some b ∧ u.ownBlock = some k, ⟨gs, vs, hgs, { block := hR.block, segs := hR.segs, rows := fun g hg => ⟨(hR.rows g hg).1, fun k e => .inr (.inr ⟨g, hg, e⟩), (hR.rows g hg).2.2.1, fun i u b hu hb => ⟨((hR.rows g hg).2.2.2 i u b hu hb).1, fun k e => ⟨g, hg, i, u, b, hu, hb, e⟩⟩⟩, fp := ⟨.inl rfl, fun k e => .inr (.inl e)⟩, lt := fun k hk => hR.lt k (hk.imp (hF k) (hS k)), apart := hR.apart }⟩, hF, hS, fun k hk hs => ?_⟩
  obtain ⟨g, hg, i, u, b, h1, h2, h3⟩ := hs
  have hu := ((hR.rows g hg).2.2.2 i u b h1 h2).1
  rcases hk with rfl | hk | ⟨g', hg', hk⟩
  · exact two_ne hR.block hu (by decide) h3
  · exact own_ne hR.segs hu (by decide) k hk h3
  · exact own_ne (hR.rows g' hg').1 hu (by decide) k hk h3
theorem RefI2.whole {W : World} {F S : Nat → Prop} {p : Nat} {s : StoD} (h : RefI2 W F S p s) : RefIs W (fun k => F k ∨ S k) p s := by
  have hlt : ∀ k, F k ∨ S k → k < W.heap.size := by
    obtain ⟨gs, vs, _, hR⟩ := h
    exact hR.lt
  exact ⟨F, S, fun _ h => h, hlt, h⟩
theorem RefI2.lt {W : World} {F S : Nat → Prop} {p : Nat} {s : StoD} (h : RefI2 W F S p s) : ∀ k, F k ∨ S k → k < W.heap.size := by
  obtain ⟨gs, vs, _, hR⟩ := h
  exact hR.lt
end Go.Proofs.YtcpanaokfbojnaaGreatDoor

/- The document's own unit as it lies in memory: its seven cells, its rows, its store. -/
namespace Go.Proofs.YtcpanaokfbojnaaGreatDoor
open Go Go.RowKit Tide

def adrsU (u : UnitD) : List Int := u.rows.map fun r => (r.adr : Int)
def insU (u : UnitD) : List Int := u.rows.map fun r => (r.seg : Int)
def cellsU (p : Nat) (va vp vi : Value) (u : UnitD) : Array Value := #[.pointer (some ⟨p, 0, none⟩), va, vp, vi, .int .i64 (u.trimmed : Int), .int .i64 (u.epoch : Int), .int .i64 (u.top : Int)]
def MineU (q : Nat) (va vp vi : Value) (k : Nat) : Prop := k = q ∨ va.ownBlock = some k ∨ vp.ownBlock = some k ∨ vi.ownBlock = some k
structure RefU (W : World) (F S : Nat → Prop) (q p : Nat) (va vp vi : Value) (rs : List Value) (u : UnitD) : Prop where
  cells : W.heap[q]? = some (.cells (cellsU p va vp vi u) 71 (0, 0))
  store : RefI2 W F S p u.store
  ats : W.ownsRow 0 3 1 va u.rows.length (int64s (adrsU u))
  pages : W.ownsRow 0 45 1 vp u.rows.length rs
  ins : W.ownsRow 0 3 1 vi u.rows.length (int64s (insU u))
  bytes : RecRows W S rs (u.rows.map PageU.bs)
  two : ∀ k, va.ownBlock = some k → vi.ownBlock ≠ some k
  mine : ∀ k, MineU q va vp vi k → ¬ F k ∧ ¬ S k ∧ k < W.heap.size
  apart : ∀ k, F k → ¬ S k
  lt : ∀ k, F k ∨ S k → k < W.heap.size
def RU (W : World) (G S : Nat → Prop) (q : Nat) (u : UnitD) : Prop :=
  ∃ F p va vp vi rs, RefU W F S q p va vp vi rs u ∧ ∀ k, F k ∨ MineU q va vp vi k ↔ G k
section
variable {W W' : World} {F G S K : Nat → Prop} {q p : Nat} {va vp vi : Value} {rs : List Value} {u : UnitD}
theorem RefU.keep (h : RefU W F S q p va vp vi rs u) (hk : Kept K W W') (hG : ∀ k, F k ∨ S k ∨ MineU q va vp vi k → ¬ K k) : RefU W' F S q p va vp vi rs u where
  cells := hk.heap h.cells (hG q (.inr (.inr (.inl rfl))))
  store := h.store.keep hk (fun k hf => hG k (hf.imp id .inl))
  ats := hk.own h.ats (fun k e => hG k (.inr (.inr (.inr (.inl e)))))
  pages := hk.own h.pages (fun k e => hG k (.inr (.inr (.inr (.inr (.inl e))))))
  ins := hk.own h.ins (fun k e => hG k (.inr (.inr (.inr (.inr (.inr e))))))
  bytes := h.bytes.keep hk (fun k e => hG k (.inr (.inl e)))
  two := h.two
  mine := fun k e => ⟨(h.mine k e).1, (h.mine k e).2.1, Nat.lt_of_lt_of_le (h.mine k e).2.2 hk.size⟩
  apart := h.apart
  lt := fun k e => Nat.lt_of_lt_of_le (h.lt k e) hk.size
theorem RefU.below (h : RefU W F S q p va vp vi rs u) (hb : Below W.heap.size W W') : RefU W' F S q p va vp vi rs u := h.keep (K := fun _ => False) (Kept.of_below hb) (fun _ _ h => h)
theorem RU.keep (h : RU W G S q u) (hk : Kept K W W') (hG : ∀ k, G k ∨ S k → ¬ K k) : RU W' G S q u := by
  obtain ⟨F, p, va, vp, vi, rs, h1, h2⟩ := h
  refine ⟨F, p, va, vp, vi, rs, h1.keep hk (fun k e => hG k ?_), h2⟩
  rcases e with e | e | e
  · exact .inl ((h2 k).1 (.inl e))
  · exact .inr e
  · exact .inl ((h2 k).1 (.inr e))
theorem RU.below (h : RU W G S q u) (hb : Below W.heap.size W W') : RU W' G S q u := h.keep (K := fun _ => False) (Kept.of_below hb) (fun _ _ h => h)
theorem RU.lt (h : RU W G S q u) : ∀ k, G k ∨ S k → k < W.heap.size := by
  obtain ⟨F, p, va, vp, vi, rs, h1, h2⟩ := h
  intro k hk
  rcases hk with hk | hk
  · rcases (h2 k).2 hk with h | h
    · exact h1.lt k (.inl h)
    · exact (h1.mine k h).2.2
  · exact h1.lt k (.inr hk)
theorem RU.apart (h : RU W G S q u) : ∀ k, G k → ¬ S k := by
  obtain ⟨F, p, va, vp, vi, rs, h1, h2⟩ := h
  intro k hk hs
  rcases (h2 k).2 hk with h | h
  · exact h1.apart k h hs
  · exact (h1.mine k h).2.1 hs
theorem RefU.facts (h : RefU W F S q p va vp vi rs u) : q < W.heap.size ∧ W.cell? ⟨q, 0, none⟩ = some (.pointer (some ⟨p, 0, none⟩)) ∧ W.cell? ⟨q, 1, none⟩ = some va ∧ W.cell? ⟨q, 2, none⟩ = some vp ∧ W.cell? ⟨q, 3, none⟩ = some vi ∧ W.cell? ⟨q, 4, none⟩ = some (.int .i64 (u.trimmed : Int)) ∧ W.cell? ⟨q, 5, none⟩ = some (.int .i64 (u.epoch : Int)) ∧ W.cell? ⟨q, 6, none⟩ = some (.int .i64 (u.top : Int)) ∧ ∀ i, W.frozen? ⟨q, i, none⟩ = false := by
  have hc := h.cells
  refine ⟨(h.mine q (.inl rfl)).2.2, ?_, ?_, ?_, ?_, ?_, ?_, ?_, fun i => ?_⟩
  · rw [cell_of_row _ _ 0 _ _ _ hc]; rfl
  · rw [cell_of_row _ _ 1 _ _ _ hc]; rfl
  · rw [cell_of_row _ _ 2 _ _ _ hc]; rfl
  · rw [cell_of_row _ _ 3 _ _ _ hc]; rfl
  · rw [cell_of_row _ _ 4 _ _ _ hc]; rfl
  · rw [cell_of_row _ _ 5 _ _ _ hc]; rfl
  · rw [cell_of_row _ _ 6 _ _ _ hc]; rfl
  · unfold World.frozen?
    rw [show W.heap[(⟨q, i, none⟩ : Addr).block]? = _ from hc]
    simp
theorem own_form {base : Nat} {e : TypeId} {size n : Nat} {v : Value} {xs : List Value} (h : W.ownsRow base e size v n xs) : ∃ A c, v = .slice A n c ∧ n ≤ c ∧ c ≤ 9223372036854775807 := by
  rcases h.2 with ⟨h1, h0⟩ | ⟨g, cap, cur, h1, _, _, h2, h3, _⟩
  · exact ⟨none, 0, by rw [h1, h0], by omega, by omega⟩
  · exact ⟨_, cap, h1, h2, h3⟩
theorem own_cell {base : Nat} {e : TypeId} {n : Nat} {v : Value} {xs : List Value} (h : W.ownsRow base e 1 v n xs) {i : Nat} {x : Value} (hi : xs[i]? = some x) : ∃ b c, v = .slice (some ⟨b, 0, none⟩) n c ∧ b < W.heap.size ∧ W.cell? ⟨b, i, none⟩ = some x := by
  have hl := h.1
  obtain ⟨hlt, _⟩ := List.getElem?_eq_some_iff.1 hi
  rcases h.2 with ⟨h1, h0⟩ | ⟨g, cap, cur, h1, _, _, h2, h3, _⟩
  · omega
  · subst h1
    have hc := h.cells (g := g) rfl i x hi
    exact ⟨g, cap, rfl, (h.lt g rfl).2, by rw [← hc]; congr 1; unfold Addr.add; simp⟩
end
end Go.Proofs.YtcpanaokfbojnaaGreatDoor

/- The document's own unit: find, Has, check, Tail. -/
namespace Go.Proofs.YtcpanaokfbojnaaGreatDoor
open Go Go.RowKit Tide

section
variable {W : World} {F S : Nat → Prop} {q p : Nat} {va vp vi : Value} {rs : List Value} {u : UnitD}
theorem int64s_at (l : List Int) (i : Nat) (x : Int) (h : l[i]? = some x) : (int64s l)[i]? = some (.int .i64 x) := by
  unfold int64s
  rw [List.getElem?_map, h]
  rfl
theorem adrs_at (u : UnitD) (i : Nat) (h : i < u.rows.length) : (adrsU u)[i]? = some ((u.rows[i]).adr : Int) := by
  unfold adrsU
  rw [List.getElem?_map, List.getElem?_eq_getElem h]
  rfl
theorem ins_at (u : UnitD) (i : Nat) (h : i < u.rows.length) : (insU u)[i]? = some ((u.rows[i]).seg : Int) := by
  unfold insU
  rw [List.getElem?_map, List.getElem?_eq_getElem h]
  rfl
set_option maxRecDepth 100000 in
set_option maxHeartbeats 2000000 in
theorem rfind_any (h : RefU W F S q p va vp vi rs u) (a : Int) : Calls Tryz.prog 55 #[.pointer (some ⟨q, 0, none⟩), .int .i64 a] W fun e w' => e = .returned (.int .i64 (ixV (findIx u a))) ∧ W = w' := by
  obtain ⟨hq, c0, c1, c2, c3, c4, c5, c6, _⟩ := h.facts
  obtain ⟨A, c, rfl, hc, hc2⟩ := own_form h.ats
  have H := Lib.hid h
  obtain ⟨L, hL⟩ : ∃ L, u.rows.length = L := ⟨_, rfl⟩
  rw [hL] at c1 hc
  have HL := Lib.hid hL
  clear h hL
  go_enter Tryz.func55, Tryz.ntmps55
  go_wp2_with fail
  go_loopw [12] (fun i wr => ∃ j : Nat, i = .int .i64 j ∧ j ≤ L ∧ Hid (∀ k (hk : k < u.rows.length), k < j → ¬ (((u.rows[k]).adr : Int) = a ∧ (u.trimmed : Int) ≤ a)) ∧ wr = W) (fun i _ => L - (intOf i).toNat)
  case atStart => exact ⟨0, rfl, Nat.zero_le _, Lib.hid (fun k _ hk => absurd hk (Nat.not_lt_zero k)), rfl⟩
  case round =>
    obtain ⟨j, rfl, hj, hne, rfl⟩ := hrel
    by_cases hlj : j < L
    · have hjr : j < u.rows.length := by rw [HL.out]; exact hlj
      obtain ⟨b, cc, hv, hb, d0⟩ := own_cell H.out.ats (int64s_at _ _ _ (adrs_at u j hjr))
      injection hv with e1 _ e3
      subst e1 e3
      obtain ⟨x, hx⟩ : ∃ x : Nat, (u.rows[j]).adr = x := ⟨_, rfl⟩
      rw [hx] at d0
      have HX := Lib.hid hx
      clear hx
      by_cases hxa : (x : Int) = a
      · by_cases hta : (u.trimmed : Int) ≤ a
        · have q1 : ((x : Int) == a) = true := by rw [hxa]; simp
          have q2 : decide ((u.trimmed : Int) ≤ a) = true := decide_eq_true hta
          have HR := Lib.hid (find_at hjr hne.out (by rw [HX.out]; exact hxa) hta)
          clear hxa hta
          go_wp2_with fail
          go_ret
          exact ⟨by rw [HR.out]; rfl, rfl⟩
        · have q1 : ((x : Int) == a) = true := by rw [hxa]; simp
          have q2 : decide ((u.trimmed : Int) ≤ a) = false := decide_eq_false hta
          have HN := Lib.hid (show ∀ k (hk : k < u.rows.length), k < j + 1 → ¬ (((u.rows[k]).adr : Int) = a ∧ (u.trimmed : Int) ≤ a) from fun k hk hkj h => hta h.2)
          clear hxa hta
          go_wp2_with fail
          go_roundw
          case rel => exact ⟨j + 1, by go_num, by omega, HN, trivial⟩
          case measure => simp [intOf]; omega
      · have q1 : ((x : Int) == a) = false := beq_eq_false_iff_ne.2 hxa
        have HN := Lib.hid (show ∀ k (hk : k < u.rows.length), k < j + 1 → ¬ (((u.rows[k]).adr : Int) = a ∧ (u.trimmed : Int) ≤ a) from fun k hk hkj h => by
          by_cases hkj2 : k = j
          · subst hkj2
            rw [HX.out] at h
            exact hxa h.1
          · exact hne.out k hk (by omega) h)
        clear hxa
        go_wp2_with fail
        go_roundw
        case rel => exact ⟨j + 1, by go_num, by omega, HN, trivial⟩
        case measure => simp [intOf]; omega
    · have hje : j = L := by omega
      subst hje
      have HR := Lib.hid (find_no (u := u) (a := a) (fun k hk => hne.out k hk (by rw [HL.out] at hk; exact hk)))
      go_wp2_with fail
      go_ret
      exact ⟨by rw [HR.out]; rfl, rfl⟩
theorem rhas_any (h : RefU W F S q p va vp vi rs u) (a : Int) : Calls Tryz.prog 33 #[.pointer (some ⟨q, 0, none⟩), .int .i64 a] W fun e w' => e = .returned (.bool (hasD u a)) ∧ W = w' := by
  have CF := Lib.hid (rfind_any h a)
  have HH := Lib.hid (has_ix u a)
  generalize ixV (findIx u a) = z at *
  clear h
  go_enter Tryz.func33, Tryz.ntmps33
  go_wp2_with fail
  refine CF.out.mono ?_
  rintro e w1 ⟨rfl, rfl⟩
  go_wp2_with fail
  go_ret
  exact ⟨by rw [HH.out]; rfl, rfl⟩
theorem rcheck_any (h : RefU W F S q p va vp vi rs u) (ep a m : Int) : Calls Tryz.prog 44 #[.pointer (some ⟨q, 0, none⟩), .int .i64 ep, .int .i64 a, .int .i64 m] W fun e w' => e = .returned (.int .i64 (checkD u.epoch ep a m : Nat)) ∧ W = w' := by
  obtain ⟨hq, c0, c1, c2, c3, c4, c5, c6, _⟩ := h.facts
  unfold checkD
  obtain ⟨E, hE⟩ : ∃ E, u.epoch = E := ⟨_, rfl⟩
  rw [hE] at c5 ⊢
  clear h hE c0 c1 c2 c3 c4 c6
  by_cases h1 : ep < (E : Int)
  · have q1 : decide (ep < (E : Int)) = true := decide_eq_true h1
    rw [if_pos (.inl h1)]
    clear h1
    go_enter Tryz.func44, Tryz.ntmps44
    go_wp2_with fail
    go_ret
    exact ⟨rfl, rfl⟩
  have q1 : decide (ep < (E : Int)) = false := decide_eq_false h1
  by_cases h2 : 1073741824 < ep
  · have q2 : decide ((1073741824 : Int) < ep) = true := decide_eq_true h2
    rw [if_pos (.inr h2)]
    clear h1 h2
    go_enter Tryz.func44, Tryz.ntmps44
    go_wp2_with fail
    go_ret
    exact ⟨rfl, rfl⟩
  have q2 : decide ((1073741824 : Int) < ep) = false := decide_eq_false h2
  rw [if_neg (fun h => h.elim h1 h2)]
  clear h1 h2
  by_cases h3 : a < 0
  · have q3 : decide (a < (0 : Int)) = true := decide_eq_true h3
    rw [if_pos (.inl h3)]
    clear h3
    go_enter Tryz.func44, Tryz.ntmps44
    go_wp2_with fail
    go_ret
    exact ⟨rfl, rfl⟩
  have q3 : decide (a < (0 : Int)) = false := decide_eq_false h3
  by_cases h4 : m < a
  · have q4 : decide (m < a) = true := decide_eq_true h4
    rw [if_pos (.inr h4)]
    clear h3 h4
    go_enter Tryz.func44, Tryz.ntmps44
    go_wp2_with fail
    go_ret
    exact ⟨rfl, rfl⟩
  have q4 : decide (m < a) = false := decide_eq_false h4
  rw [if_neg (fun h => h.elim h3 h4)]
  clear h3 h4
  go_enter Tryz.func44, Tryz.ntmps44
  go_wp2_with fail
  go_ret
  exact ⟨rfl, rfl⟩
theorem rtail_any (h : RefU W F S q p va vp vi rs u) : Calls Tryz.prog 30 #[.pointer (some ⟨q, 0, none⟩)] W fun e w' => e = .returned (.int .i64 ((max u.top u.trimmed : Nat) : Int)) ∧ Below W.heap.size W w' := by
  obtain ⟨hq, c0, c1, c2, c3, c4, c5, c6, _⟩ := h.facts
  obtain ⟨T, hT⟩ : ∃ T, u.top = T := ⟨_, rfl⟩
  obtain ⟨R, hR⟩ : ∃ R, u.trimmed = R := ⟨_, rfl⟩
  rw [hT] at c6 ⊢
  rw [hR] at c4 ⊢
  clear h hT hR c0 c1 c2 c3 c5
  by_cases h1 : (T : Int) < (R : Int)
  · rw [show max T R = R by omega]
    go_enter Tryz.func30, Tryz.ntmps30
    go_wp2_with fail
    go_quiet (fail)
    go_wp2_with fail
    go_ret
    exact ⟨rfl, ⟨rfl, rfl, rfl, Nat.le_refl _, fun _ _ => rfl⟩⟩
  · rw [show max T R = T by omega]
    go_enter Tryz.func30, Tryz.ntmps30
    go_wp2_with fail
    go_quiet (fail)
    go_wp2_with fail
    go_ret
    exact ⟨rfl, ⟨rfl, rfl, rfl, Nat.le_refl _, fun _ _ => rfl⟩⟩
end
end Go.Proofs.YtcpanaokfbojnaaGreatDoor

/- The document's own unit: Read. -/
namespace Go.Proofs.YtcpanaokfbojnaaGreatDoor
open Go Go.RowKit Tide

section
variable {W : World} {F S : Nat → Prop} {q p : Nat} {va vp vi : Value} {rs : List Value} {u : UnitD}
set_option maxRecDepth 100000 in
set_option maxHeartbeats 2000000 in
theorem refread_any (h : RefU W F S q p va vp vi rs u) (hs : ∀ r ∈ u.rows, u.trimmed ≤ r.adr → r.bs.length ≤ 2048) (ep a : Int) : Calls Tryz.prog 28 #[.pointer (some ⟨q, 0, none⟩), .int .i64 ep, .int .i64 a] W fun e w' => ∃ v, e = .returned (.tuple #[v, .int .i64 ((readU u ep a).2 : Nat)]) ∧ Bytes w' w'.heap.size v (readU u ep a).1 ∧ Below W.heap.size W w' := by
  obtain ⟨hq, c0, c1, c2, c3, c4, c5, c6, _⟩ := h.facts
  have CC := Lib.hid (rcheck_any h ep a 4095)
  have CF := Lib.hid (rfind_any h a)
  unfold readU
  obtain ⟨C, hC⟩ : ∃ C, checkD u.epoch ep a 4095 = C := ⟨_, rfl⟩
  rw [hC] at CC ⊢
  clear hC
  by_cases h1 : C = 0
  rotate_left
  · rw [if_pos h1]
    have q1 : ((C : Int) != 0) = true := by simp; omega
    clear h c0 c1 c2 c3 c4 c5 c6 CF h1
    go_enter Tryz.func28, Tryz.ntmps28
    go_wp2_with fail
    refine CC.out.mono ?_
    rintro e w1 ⟨rfl, rfl⟩
    go_wp2_with fail
    go_ret2
    exact ⟨_, rfl, bytes_nil' _ _, Below.refl _ _⟩
  subst h1
  rw [if_neg (by simp)]
  by_cases h2 : a < (u.trimmed : Int)
  · rw [if_pos h2]
    have q2 : decide (a < (u.trimmed : Int)) = true := decide_eq_true h2
    clear h CF h2
    go_enter Tryz.func28, Tryz.ntmps28
    go_wp2_with fail
    refine CC.out.mono ?_
    rintro e w1 ⟨rfl, rfl⟩
    go_wp2_with fail
    go_ret2
    exact ⟨_, rfl, bytes_nil' _ _, Below.refl _ _⟩
  rw [if_neg h2]
  have q2 : decide (a < (u.trimmed : Int)) = false := decide_eq_false h2
  rcases find_ix h2 with ⟨e1, e2⟩ | ⟨i, hi, e1, e2⟩
  · rw [e2]
    rw [e1, show ixV none = -1 from rfl] at CF
    clear h h2 e1 e2
    go_enter Tryz.func28, Tryz.ntmps28
    go_wp2_with fail
    refine CC.out.mono ?_
    rintro e w1 ⟨rfl, rfl⟩
    go_wp2_with fail
    refine CF.out.mono ?_
    rintro e w1 ⟨rfl, rfl⟩
    go_wp2_with fail
    go_ret2
    exact ⟨_, rfl, bytes_nil' _ _, Below.refl _ _⟩
  · rw [e2]
    rw [e1, show ixV (some i) = (i : Int) from rfl] at CF
    have hir : i < rs.length := by have := h.bytes.1; rw [List.length_map] at this; omega
    obtain ⟨b, cc, rfl, hb, d0⟩ := own_cell h.pages (List.getElem?_eq_getElem hir)
    have hrow := h.bytes.2 i rs[i] (u.rows[i]).bs (List.getElem?_eq_getElem hir) (by rw [List.getElem?_map, List.getElem?_eq_getElem hi]; rfl)
    obtain ⟨y, hy⟩ : ∃ y, rs[i] = y := ⟨_, rfl⟩
    rw [hy] at hrow d0
    have hsz := hs _ (List.getElem_mem hi) (by have h9 := List.find?_some e2; simp only [beq_iff_eq] at h9; omega)
    obtain ⟨l, hl⟩ : ∃ l, (u.rows[i]).bs = l := ⟨_, rfl⟩
    dsimp only
    rw [hl] at hrow hsz ⊢
    obtain ⟨L, hL⟩ : ∃ L, u.rows.length = L := ⟨_, rfl⟩
    rw [hL] at c2 hi
    have HO := Lib.hid hrow.1
    obtain ⟨i0, hinf, hz0, hz1, hz2⟩ := info_parts infoB
    have HI := Lib.hid hinf
    have HS := Lib.hid hsz
    clear h h2 e1 e2 hir hrow hy hsz hl hL hs hinf
    go_enter Tryz.func28, Tryz.ntmps28
    go_wp2_with fail
    refine CC.out.mono ?_
    rintro e w1 ⟨rfl, rfl⟩
    go_wp2_with fail
    refine CF.out.mono ?_
    rintro e w1 ⟨rfl, rfl⟩
    have d0' : (W.alloc (.cells #[] 5)).cell? ⟨b, i, none⟩ = some y := (((Below.refl _ _).alloc (Nat.le_refl _) _).cell (p := ⟨b, i, none⟩) hb).trans d0
    go_wp2_with (at_builtin; refine wpList_append_row8 _ rfl (.tmp 28) (.tmp 35) _ rfl W.heap.size 5 i0 (.int .u8 0) 1 Tryz.underlying45 HI.out hz0 hz1 hz2 rfl _ 0 _ [] rfl ?d0 y 0 l.length (u8s l) rfl ?d1 ?d2 ?d3 ?d4 ?d5 ?_)
    case d0 => exact own_none (Nat.le_refl _) (heap_alloc_new W _)
    case d1 => exact own_below HO.out ((Below.refl _ _).alloc (Nat.le_refl _) _)
    case d2 => exact u8s_one l
    case d3 => have := HS.out; unfold maxLen; omega
    case d4 => have := HS.out; omega
    case d5 => simp
    intro g2 c2' w9 k1 k2
    have HB := Lib.hid (((Below.refl W.heap.size W).alloc (Nat.le_refl _) (.cells #[] 5)).trans k2)
    have HO9 := Lib.hid k1
    clear k1 k2
    go_wp2_with fail
    go_ret2
    refine ⟨_, rfl, ?_, HB.out⟩
    exact Bytes.of_own HO9.out
end
end Go.Proofs.YtcpanaokfbojnaaGreatDoor
