/- A device and its store behind a call that changes both; the free segment that stands first is taken. -/
import Derived.Test.YtiafamacjpgjoaaGreatDoorGSsV
import Derived.Test.YtiafamacjpgjoaaGreatDoorGSsF
import Derived.Test.YtiafamacjpgjoaaGreatDoorGSsC
import Derived.Test.YtiafamacjpgjoaaGreatDoorGSsR
namespace Go.Proofs.YtiafamacjpgjoaaGreatDoor
open Go.RowKit Go.Shelf Tide
attribute [local go_sem] Oper.semAt_some

def RS (D : DvP) (W0 : World) (Fd Fs : Nat → Prop) (p dev : Nat) (us : List SegU) (d : Dv) (W : World) : Prop :=
  ∃ F' G' vs', D W F' dev d ∧ StW W G' p dev us vs' ∧ (∀ k, F' k → ¬ G' k) ∧ (∀ k, F' k → Fd k ∨ W0.heap.size ≤ k) ∧ (∀ k, G' k → Fs k ∨ W0.heap.size ≤ k) ∧ Kept (fun k => Fd k ∨ Fs k) W0 W
section
variable {D : DvP} {x : Nat → Addr} {W W0 W1 : World} {Fd Fs : Nat → Prop} {p dev : Nat} {us : List SegU} {vs : Value} {d : Dv}
theorem RS.cells (hD : DvSpec x D) (h : RS D W0 Fd Fs p dev us d W) : ∃ F' G' vs', D W F' dev d ∧ StW W G' p dev us vs' ∧ (∀ k, F' k → ¬ G' k) ∧ (∀ k, F' k → Fd k ∨ W0.heap.size ≤ k) ∧ (∀ k, G' k → Fs k ∨ W0.heap.size ≤ k) ∧ Kept (fun k => Fd k ∨ Fs k) W0 W ∧ (∀ k, F' k ∨ G' k → ∃ o, W.heap[k]? = some o ∧ o.isCells = true) := by
  obtain ⟨F, G, v, h1, h2, h3, h4, h5, h6⟩ := h
  obtain ⟨F', g1, g2, g3⟩ := hD.tight _ _ _ _ h1
  have ht := h2.tight
  refine ⟨F', _, v, g1, ht, fun k hk hg => ?_, fun k hk => h4 k (g2 k hk), fun k hk => ?_, h6, fun k hk => ?_⟩
  · rcases hg with rfl | e
    · exact h3 _ (g2 _ hk) h2.fp.1
    · exact h3 _ (g2 _ hk) (h2.fp.2 _ e)
  · rcases hk with rfl | e
    · exact h5 _ h2.fp.1
    · exact h5 _ (h2.fp.2 _ e)
  · rcases hk with hk | rfl | e
    · exact g3 k hk
    · exact ⟨_, h2.block, rfl⟩
    · obtain ⟨cur, ho⟩ := own_obj h2.used e
      exact ⟨_, ho, rfl⟩
theorem RS.kept (hD : DvSpec x D) (h : RS D W0 Fd Fs p dev us d W) {G : Nat → Prop} (hk : Kept G W W1) (hG : ∀ k, G k → W0.heap.size ≤ k ∧ ∀ o, W.heap[k]? = some o → o.isCells = false) : RS D W0 Fd Fs p dev us d W1 := by
  obtain ⟨F, G', v, h1, h2, h3, h4, h5, h6, h7⟩ := h.cells hD
  have hn : ∀ k, F k ∨ G' k → ¬ G k := fun k hf hg => by
    obtain ⟨o, ho, hc⟩ := h7 k hf
    rw [(hG k hg).2 o ho] at hc
    cases hc
  exact ⟨F, G', v, hD.keep _ _ _ _ _ _ h1 hk (fun k hf => hn k (.inl hf)), h2.keep hk (fun k hg => hn k (.inr hg)), h3, h4, h5, h6.trans hk (fun k hg => .inr (hG k hg).1)⟩
theorem own_rs {β : Type} (hD : DvSpec x D) {B : Nat} (hB : W0.heap.size ≤ B) (us : β → List SegU) (d : β → Dv) : OwnFrom B (fun (s : β) X => RS D W0 Fd Fs p dev (us s) (d s) X) := by
  rintro s A C row h hg hr
  refine h.kept hD (G := fun k => row = some k) ((Kept.refl _ A).grown hg (fun k e => .inl e)) (fun k e => ?_)
  obtain ⟨h1, o, ho, hc⟩ := hr k e
  exact ⟨by omega, fun o' ho' => by rw [ho] at ho'; injection ho' with ho'; rw [← ho', hc]⟩
theorem RS.start (hd : D W Fd dev d) (h : StW W Fs p dev us vs) (hap : ∀ k, Fd k → ¬ Fs k) : RS D W Fd Fs p dev us d W := ⟨Fd, Fs, vs, hd, h, hap, fun _ h => .inl h, fun _ h => .inl h, Kept.refl _ _⟩
theorem RS.below (hD : DvSpec x D) (h : RS D W0 Fd Fs p dev us d W) (hb : Below W.heap.size W W1) : RS D W0 Fd Fs p dev us d W1 := h.kept hD (G := fun _ => False) (Kept.of_below hb) (fun _ h => h.elim)
theorem RS.trans {W2 : World} {us' : List SegU} {d' : Dv} {F G : Nat → Prop} (hk : Kept (fun k => Fd k ∨ Fs k) W0 W1) (hf : ∀ k, F k → Fd k ∨ W0.heap.size ≤ k) (hg : ∀ k, G k → Fs k ∨ W0.heap.size ≤ k) (h : RS D W1 F G p dev us' d' W2) : RS D W0 Fd Fs p dev us' d' W2 := by
  obtain ⟨F', G', v, h1, h2, h3, h4, h5, h6⟩ := h
  have hz := hk.size
  refine ⟨F', G', v, h1, h2, h3, fun k hk => (h4 k hk).elim (hf k) (fun h => .inr (by omega)), fun k hk => (h5 k hk).elim (hg k) (fun h => .inr (by omega)), hk.trans h6 (fun k hk => ?_)⟩
  rcases hk with hk | hk
  · exact (hf k hk).imp .inl id
  · exact (hg k hk).imp .inr id
theorem RS.late {W2 : World} {b : Nat} (hD : DvSpec x D) (hb0 : Below W.heap.size W W0) (h : RS D W0 Fd Fs p dev us d W1) (hF : ∀ k, Fd k ∨ Fs k → k < W.heap.size) (hb : W.heap.size ≤ b) (hb' : b < W0.heap.size) (hk : Kept (fun k => k = b) W1 W2) : RS D W Fd Fs p dev us d W2 := by
  obtain ⟨F', G', v, h1, h2, h3, h4, h5, h6⟩ := h
  have hz := hb0.size
  have hn : ∀ k, F' k ∨ G' k → ¬ k = b := fun k hk e => by
    rcases hk with hk | hk
    · rcases h4 k hk with h7 | h7
      · have := hF k (.inl h7); omega
      · omega
    · rcases h5 k hk with h7 | h7
      · have := hF k (.inr h7); omega
      · omega
  exact ⟨F', G', v, hD.keep _ _ _ _ _ _ h1 hk (fun k hf => hn k (.inl hf)), h2.keep hk (fun k hg => hn k (.inr hg)), h3, fun k hk => (h4 k hk).imp id (fun h => by omega), fun k hk => (h5 k hk).imp id (fun h => by omega),
    ((Kept.of_below hb0).trans h6 (fun k h => .inl h)).trans hk (fun k e => .inr (by omega))⟩
theorem takeR_any (hD : DvSpec x D) (hE : E3 x W) (hd : D W Fd dev d) (hpe : d.pend = []) (h : StW W Fs p dev us vs) (hap : ∀ k, Fd k → ¬ Fs k) (hNG : ∀ k, Fd k → 19 ≤ k) (hNW : 19 ≤ W.heap.size) (f no : Nat) (hf : f + 64 ≤ d.img.length / 64) (hno : no < 2 ^ 63) (hmax : us.length ≤ 1000) :
    Calls Tryz.prog 150 #[.pointer (some ⟨p, 0, none⟩), .int .i64 (f : Nat), .int .i64 (no : Nat)] W fun e w' =>
      e = .returned (if (takeDv d f no).1 then .nilIface else errAt (x 2)) ∧ RS D W Fd Fs p dev (if (takeDv d f no).1 then us ++ [⟨no, f, f + 1⟩] else us) (takeDv d f no).2 w' := by
  have hlt := h.lt
  refine (takeS_any hD hE hd hpe h hap hNG hNW f no hf hno hmax).mono ?_
  rintro e w' (⟨h0, rfl, F', G', v, h1, h2, h3, h4, h5, h6⟩ | ⟨h0, rfl, F', h1, h4, h6⟩)
  · rw [h0]
    exact ⟨rfl, F', G', v, h1, h2, h3, h4, h5, h6⟩
  · rw [h0]
    refine ⟨rfl, F', Fs, vs, h1, h.keep h6 (fun k hs hf => hap k hf hs), fun k hk hs => ?_, h4, fun k hk => .inl hk, h6.mono (fun k _ h => .inl h)⟩
    rcases h4 k hk with h7 | h7
    · exact hap k h7 hs
    · have := hlt k hs; omega
end
end Go.Proofs.YtiafamacjpgjoaaGreatDoor

/- The free segment that stands first is taken, if there is one. -/
namespace Go.Proofs.YtiafamacjpgjoaaGreatDoor
open Go.RowKit Go.Shelf Tide
attribute [local go_sem] Oper.semAt_some

theorem Errs.full_ {W : World} {a : Nat → Addr} (h : Errs W a) : W.cell? ⟨12, 0, none⟩ = some (errAt (a 12)) := by
  have h0 := h.var 12 (by omega)
  simp only [evars, List.getD_cons_zero, List.getD_cons_succ] at h0
  exact h0
def nextU (us : List SegU) : Nat := (lastU us + 1).toNat
section
variable {D : DvP} {a : Nat → Addr} {W : World} {Fd Fs : Nat → Prop} {p dev : Nat} {us : List SegU} {vs : Value} {d : Dv}
set_option maxRecDepth 100000 in
set_option maxHeartbeats 4000000 in
theorem growS_any (hD : DvSpec (three a) D) (hE : Errs W a) (hd : D W Fd dev d) (hpe : d.pend = []) (h : StW W Fs p dev us vs) (hap : ∀ k, Fd k → ¬ Fs k) (hNG : ∀ k, Fd k → 19 ≤ k) (hNW : 19 ≤ W.heap.size) (hmax : us.length ≤ 1000) (hlast : -1 ≤ lastU us ∧ lastU us < 2 ^ 62) :
    Calls Tryz.prog 130 #[.pointer (some ⟨p, 0, none⟩)] W fun e w' =>
      (freeL us (d.img.length / 64 / 64) = [] ∧ e = .returned (errAt (a 12)) ∧ Below W.heap.size W w') ∨
      (∃ k r, freeL us (d.img.length / 64 / 64) = k :: r ∧ e = .returned (if (takeDv d (64 * k) (nextU us)).1 then .nilIface else errAt (a 11)) ∧
        RS D W Fd Fs p dev (if (takeDv d (64 * k) (nextU us)).1 then us ++ [⟨nextU us, 64 * k, 64 * k + 1⟩] else us) (takeDv d (64 * k) (nextU us)).2 w') := by
  have CF := Lib.hid (fun w => free_any p w)
  have HS := Lib.hid h
  have HDv := Lib.hid hd
  have HE := Lib.hid hE
  have HAp := Lib.hid hap
  have HG := Lib.hid hNG
  have HFl := Lib.hid (hD.lt _ _ _ _ hd)
  have HSl := Lib.hid h.lt
  have HR := Lib.hid (hD.right _ _ _ _ hd)
  have HLa := Lib.hid hlast
  obtain ⟨WA, hWA⟩ : ∃ WA, (W.alloc (.cells #[.pointer (some ⟨p, 0, none⟩)] 109)).alloc (.cells #[.nilIface] 44) = WA := ⟨_, rfl⟩
  have hza : WA.heap.size = W.heap.size + 2 := by rw [← hWA]; simp
  have hba : Below W.heap.size W WA := by rw [← hWA]; exact ((Below.refl W.heap.size W).alloc (Nat.le_refl _) _).alloc (by simp) _
  have xs : Boxed WA W.heap.size 109 (.pointer (some ⟨p, 0, none⟩)) := by rw [← hWA]; exact (Boxed.new W _ _).alloc _
  have xe : Boxed WA (W.heap.size + 1) 44 .nilIface := by
    rw [← hWA]
    have := Boxed.new (W.alloc (.cells #[.pointer (some ⟨p, 0, none⟩)] 109)) 44 .nilIface
    rwa [World.size_alloc] at this
  have CL := Lib.hid (last_any (h.below hba) hmax)
  have cs := xs.cell
  have HWA := Lib.hid hWA
  have HZA := Lib.hid hza
  have HBA := Lib.hid hba
  have XE := Lib.hid xe
  have XS := Lib.hid xs
  obtain ⟨la, hla⟩ : ∃ la, lastU us = la := ⟨_, rfl⟩
  have HLe := Lib.hid hla
  rw [hla] at CL
  have hlb := HLa.out
  rw [hla] at hlb
  have q0 : (la == 9223372036854775807) = false := by rw [beq_eq_false_iff_ne]; omega
  clear h hd hE hap hNG hlast hWA hza hba xs xe hla hlb
  refine (callsIn_wide (n := 7)).1 ?_
  refine callsIn_of_wp_marks Tryz.func130 rfl trivial ?_ rfl
  simp only [Tryz.ntmps130, List.size_toArray, List.length_cons, List.length_nil, Nat.reduceAdd, Nat.reduceSub, Array.replicate_succ, Array.replicate_zero, List.push_toArray, List.append_toArray, List.nil_append, List.cons_append]
  gi_wp2_with fail
  rw [HWA.out]
  refine ⟨trivial, (callsIn_wide.2 CL.out).mono ?_⟩
  rintro e w1 ⟨rfl, kq, rfl⟩
  have cs1 : (WA.drewN kq).cell? ⟨W.heap.size, 0, none⟩ = _ := cs
  gi_wp2_with fail
  have hzb : (WA.drewN kq).heap.size = W.heap.size + 2 := HZA.out
  have CF2 := CF.out (WA.drewN kq)
  rw [hzb] at CF2
  refine ⟨trivial, (callsIn_wide.2 CF2).mono ?_⟩
  rintro e w2 ⟨rfl, hw2⟩
  have hz2 : w2.heap.size = W.heap.size + 3 := by rw [hw2, World.size_alloc, hzb]
  have hb2 : Below W.heap.size W w2 := by rw [hw2]; exact (HBA.out.trans ((below_drawn WA kq).mono HBA.out.size)).alloc (by rw [hzb]; omega) _
  have xs2 : Boxed w2 W.heap.size 109 (.pointer (some ⟨p, 0, none⟩)) := by rw [hw2]; exact (show Boxed (WA.drewN kq) _ _ _ from XS.out).alloc _
  have xe2 : Boxed w2 (W.heap.size + 1) 44 .nilIface := by rw [hw2]; exact (show Boxed (WA.drewN kq) _ _ _ from XE.out).alloc _
  have xf2 : Boxed w2 (W.heap.size + 2) 109 (.pointer (some ⟨p, 0, none⟩)) := by
    rw [hw2]
    have := Boxed.new (WA.drewN kq) 109 (.pointer (some ⟨p, 0, none⟩))
    rwa [hzb] at this
  have HD2 := Lib.hid (hD.keep _ _ _ (fun _ => False) _ _ HDv.out (Kept.of_below hb2) (fun _ _ h => h))
  have HS2 := Lib.hid (HS.out.below hb2)
  have HE2 := Lib.hid (HE.out.below hb2)
  have HZ2 := Lib.hid hz2
  have HB2 := Lib.hid hb2
  have XE2 := Lib.hid xe2
  have XS2 := Lib.hid xs2
  have hE2 := HE2.out
  clear hw2 CF CF2 CL cs cs1 hzb HWA HZA HBA XE XS hz2 hb2 xs2 xe2 hE2
  gi_wp2_with fail
  refine range_y rfl (by omega) (gf := 160) rfl trivial (enters_of Tryz.func160 (by kernel_rfl) rfl) (encs := encF)
    (fun _ => rfl) (free_x _ (by omega) (W.heap.size + 2) w2 hD HD2.out HS2.out hmax xf2 (E := fun k => False) (fun k e => e.elim)) (fun h k => h.trans k (fun j hj => .inl hj)) kpF_b
    (fun pre X => pre = [] ∧ Below w2.heap.size w2 X)
    (fun cd _ X => cd = .ret ∧ ∃ k r, freeL us (d.img.length / 64 / 64) = k :: r ∧ Boxed X (W.heap.size + 1) 44 (if (takeDv d (64 * k) (nextU us)).1 then .nilIface else errAt (a 11)) ∧
        RS D W Fd Fs p dev (if (takeDv d (64 * k) (nextU us)).1 then us ++ [⟨nextU us, 64 * k, 64 * k + 1⟩] else us) (takeDv d (64 * k) (nextU us)).2 X)
    ?hI ?hIx ⟨rfl, Below.refl _ _⟩
    (fun y a' X => a' = { tmps := #[.pointer (some ⟨p, 0, none⟩), .pointer (some ⟨W.heap.size, 0, none⟩), .pointer (some ⟨W.heap.size + 1, 0, none⟩), .int .i64 ((64 * y : Nat) : Int), .pointer (some ⟨p, 0, none⟩), .int .i64 la, .bool false, undef, .pointer (some ⟨p, 0, none⟩), .func (.func 160) #[] #[.pointer (some ⟨W.heap.size + 2, 0, none⟩)], .int .i64 ((64 * y : Nat) : Int), undef, undef, undef, undef, undef, undef, undef], defers := [] })
    (fun _ _ => own_const _ _) ?assign ?body ?done ?stop
  case hI => exact OwnFrom.and (own_const _ _) (ownFrom_below (Nat.le_refl _) (Nat.le_refl _))
  case hIx =>
    refine fun cd => OwnFrom.and (own_const _ _) ?_
    rintro pre A C row ⟨k, r, h1, h2, h3⟩ hg hr
    exact ⟨k, r, h1, own_box (β := Unit) _ _ _ (fun _ => _) () A C row h2 hg hr, own_rs (β := Unit) hD (by have := HZ2.out; omega) (fun _ => _) (fun _ => _) () A C row h3 hg hr⟩
  case assign =>
    rintro l pre y A0 K ⟨hI1, hI2⟩ hN hK
    gi_wp2_with fail
    exact hK _ _ (KeepsFrom.refl _ _) (Kept.refl _ _) ⟨hI1, hI2⟩ (by simp)
  case body =>
    rintro l pre y a' A0 hl hr ⟨rfl, hI2⟩ rfl hN
    obtain ⟨r, hL⟩ : ∃ r, freeL us (d.img.length / 64 / 64) = y :: r := by
      have h1 := hN.elem
      cases hc : freeL us (d.img.length / 64 / 64) with
      | nil => rw [hc] at h1; simp at h1
      | cons z r => rw [hc] at h1; simp at h1; exact ⟨r, by rw [h1]⟩
    have hym : y < d.img.length / 64 / 64 := by
      have h1 := hN.mem
      unfold freeL at h1
      exact List.mem_range.1 (List.mem_filter.1 h1).1
    have hll := HR.out.2.2.1
    have hlb := HLa.out
    obtain ⟨no, hno⟩ : ∃ no, nextU us = no := ⟨_, rfl⟩
    have hlan : la + 1 = (no : Int) := by rw [← hno, ← HLe.out]; unfold nextU; omega
    have hno62 : no < 2 ^ 63 := by rw [HLe.out] at hlb; omega
    have hz2 := HZ2.out
    have hbA : Below W.heap.size W A0.drew := (HB2.out.trans (hI2.mono (by omega))).drew
    have bs := (show Boxed A0 W.heap.size 109 _ from (hI2.block _ XS2.out.lt).trans XS2.out)
    have be := (show Boxed A0 (W.heap.size + 1) 44 _ from (hI2.block _ XE2.out.lt).trans XE2.out)
    have c0 := bs.cell
    have hFS : ∀ k, Fd k ∨ Fs k → k < W.heap.size := fun k hk => hk.elim (HFl.out k) (HSl.out k)
    have CL2 := Lib.hid (show Calls Tryz.prog 139 #[.pointer (some ⟨p, 0, none⟩)] A0.drew (fun e w' => e = .returned (.int .i64 la) ∧ ∃ k, w' = A0.drew.drewN k) from by have := last_any (HS.out.below hbA) hmax; rw [HLe.out] at this; exact this)
    have ct : ∀ k5, Calls Tryz.prog 150 #[.pointer (some ⟨p, 0, none⟩), .int .i64 ((64 * y : Nat) : Int), .int .i64 (no : Int)] (A0.drewN (1 + k5)) (fun e w' => ∃ v, e = .returned v ∧ (v = .nilIface ∨ ∃ ad, v = errAt ad) ∧
        Hid (w'.cell? ⟨W.heap.size + 1, 0, none⟩ = some .nilIface ∧ w'.frozen? ⟨W.heap.size + 1, 0, none⟩ = false ∧ W.heap.size + 1 < w'.heap.size ∧ KeepsFrom w2.heap.size A0 (w'.setCell ⟨W.heap.size + 1, 0, none⟩ v) ∧
          Boxed (w'.setCell ⟨W.heap.size + 1, 0, none⟩ v) (W.heap.size + 1) 44 (if (takeDv d (64 * y) (nextU us)).1 then .nilIface else errAt (a 11)) ∧
          RS D W Fd Fs p dev (if (takeDv d (64 * y) (nextU us)).1 then us ++ [⟨nextU us, 64 * y, 64 * y + 1⟩] else us) (takeDv d (64 * y) (nextU us)).2 (w'.setCell ⟨W.heap.size + 1, 0, none⟩ v))) := fun k5 => by
      have hbk : Below W.heap.size W (A0.drewN (1 + k5)) := (HB2.out.trans (hI2.mono (by omega))).trans ((below_drawn A0 (1 + k5)).mono (by have := hI2.size; omega))
      have hbz : (A0.drewN (1 + k5)).heap.size = A0.heap.size := rfl
      have hAz := hI2.size
      refine (takeR_any hD (E3.of_errs (HE.out.below hbk)) (hD.keep _ _ _ (fun _ => False) _ _ HDv.out (Kept.of_below hbk) (fun _ _ h => h)) hpe (HS.out.below hbk) HAp.out HG.out (Nat.le_trans hNW hbk.size) (64 * y) no (by omega) hno62 hmax).mono ?_
      rintro e w6 ⟨rfl, hrs⟩
      rw [hno]
      obtain ⟨F', G', v', g1, g2, g3, g4, g5, g6⟩ := hrs
      have hne : ∀ k, W.heap.size ≤ k → ¬ (Fd k ∨ Fs k) := fun k hk h => by have := hFS k h; omega
      have be6 : Boxed w6 (W.heap.size + 1) 44 .nilIface := g6.heap (show (A0.drewN (1 + k5)).heap[W.heap.size + 1]? = _ from be) (hne _ (by omega))
      refine ⟨_, rfl, by split; exact .inl rfl; exact .inr ⟨_, rfl⟩, Lib.hid ⟨be6.cell, be6.frozen, be6.lt, ⟨?_, fun k o hB hk ho => ?_⟩, be6.set _, ?_⟩⟩
      · have := g6.size
        rw [hbz] at this
        simpa [World.setCell] using this
      · rw [Below.heap_setCell _ _ _ _ (show k ≠ W.heap.size + 1 by omega)]
        exact g6.heap (show (A0.drewN (1 + k5)).heap[k]? = _ from hk) (hne _ (by omega))
      · exact RS.late hD hbk ⟨F', G', v', g1, g2, g3, g4, g5, g6⟩ hFS (b := W.heap.size + 1) (by omega) (by rw [hbz]; omega) ((Kept.refl (fun k => k = W.heap.size + 1) w6).setCell (p := ⟨W.heap.size + 1, 0, none⟩) (.inl rfl) _)
    have CT := Lib.hid ct
    have HL := Lib.hid hL
    have HWq := Lib.hid (i64_fits (no : Int) (by omega) (by omega))
    obtain ⟨f, hf⟩ : ∃ f, (((64 * y : Nat)) : Int) = f := ⟨_, rfl⟩
    rw [hf] at CT ⊢
    clear ct hL hym hll hlb hno hno62 hz2 hbA bs be hFS hf hI2 hN hr xf2
    obtain ⟨wq, vq⟩ := HWq.out
    gi_wp2_with fail
    refine wpIn_region_any (by kernel_rfl) ?_
    refine wpAnyIn_round (noDefer (by kernel_rfl)) (fun ⟨_, _, h⟩ => h) _ _ _ _ ?_
    change wpAny _ _ _ _ _ _ _ (World.drew _)
    refine wpAny_take (i := 1) (v := ?v11) rfl (by kernel_rfl) (by kernel_rfl) (by kernel_rfl) (fun _ _ _ h => h) (Or.inl ⟨by rfl, ?h11⟩) ?r11
    case h11 =>
      intro w
      go_simp
      try with_reducible rfl
    refine wpAny_ready (rs := [0, 2]) (by kernel_rfl) (by simp) ?_
    refine AllReady.cons rfl (fun K hK => ?_) (AllReady.cons rfl (fun K hK => ?_) AllReady.nil)
    · go_simp
      refine hK _ _ ?_
      clear hK K
      refine wpAny_ready (rs := [2]) (by kernel_rfl) (by simp) ?_
      refine AllReady.cons rfl (fun K hK => ?_) AllReady.nil
      go_simp
      refine hK _ _ ?_
      clear hK K
      refine wpAny_ready (rs := [3]) (by kernel_rfl) (by simp) ?_
      refine AllReady.cons rfl (fun K hK => ?_) AllReady.nil
      go_simp
      (with_reducible refine (CL2.out).mono ?_)
      rintro e w5 ⟨rfl, k5, rfl⟩
      refine hK _ _ ?_
      clear hK K
      refine wpAny_take (i := 4) (v := ?v12) rfl (by kernel_rfl) (by kernel_rfl) (by kernel_rfl) (fun _ _ _ h => h) (Or.inl ⟨by rfl, ?h12⟩) ?r12
      case h12 =>
        intro w
        go_simp
        try with_reducible rfl
      refine wpAny_ready (rs := [5]) (by kernel_rfl) (by simp) ?_
      refine AllReady.cons rfl (fun K hK => ?_) AllReady.nil
      go_simp
      (with_reducible refine (CT.out k5).mono ?_)
      rintro e w6 ⟨v6, rfl, hv6, hr6⟩
      have c66 := hr6.out.1
      have f66 := hr6.out.2.1
      have l66 := hr6.out.2.2.1
      rcases hv6 with rfl | ⟨ad, rfl⟩
      all_goals
        refine hK _ _ ?_
        clear hK K
        refine wpAny_ready (rs := [6]) (by kernel_rfl) (by simp) ?_
        refine AllReady.cons rfl (fun K hK => ?_) AllReady.nil
        go_simp
        refine hK _ _ ?_
        clear hK K
        refine wpAny_done (by kernel_rfl) ?_ _
        gi_wp2_with fail
        obtain ⟨_, _, _, r1, r2⟩ := hr6.out
        exact ⟨r1, rfl, y, r, HL.out, r2⟩
    · go_simp
      refine hK _ _ ?_
      clear hK K
      refine wpAny_ready (rs := [0, 3]) (by kernel_rfl) (by simp) ?_
      refine AllReady.cons rfl (fun K hK => ?_) (AllReady.cons rfl (fun K hK => ?_) AllReady.nil)
      · go_simp
        refine hK _ _ ?_
        clear hK K
        refine wpAny_ready (rs := [3]) (by kernel_rfl) (by simp) ?_
        refine AllReady.cons rfl (fun K hK => ?_) AllReady.nil
        go_simp
        (with_reducible refine (CL2.out).mono ?_)
        rintro e w5 ⟨rfl, k5, rfl⟩
        refine hK _ _ ?_
        clear hK K
        refine wpAny_take (i := 4) (v := ?v13) rfl (by kernel_rfl) (by kernel_rfl) (by kernel_rfl) (fun _ _ _ h => h) (Or.inl ⟨by rfl, ?h13⟩) ?r13
        case h13 =>
          intro w
          go_simp
          try with_reducible rfl
        refine wpAny_ready (rs := [5]) (by kernel_rfl) (by simp) ?_
        refine AllReady.cons rfl (fun K hK => ?_) AllReady.nil
        go_simp
        (with_reducible refine (CT.out k5).mono ?_)
        rintro e w6 ⟨v6, rfl, hv6, hr6⟩
        have c66 := hr6.out.1
        have f66 := hr6.out.2.1
        have l66 := hr6.out.2.2.1
        rcases hv6 with rfl | ⟨ad, rfl⟩
        all_goals
          refine hK _ _ ?_
          clear hK K
          refine wpAny_ready (rs := [6]) (by kernel_rfl) (by simp) ?_
          refine AllReady.cons rfl (fun K hK => ?_) AllReady.nil
          go_simp
          refine hK _ _ ?_
          clear hK K
          refine wpAny_done (by kernel_rfl) ?_ _
          gi_wp2_with fail
          obtain ⟨_, _, _, r1, r2⟩ := hr6.out
          exact ⟨r1, rfl, y, r, HL.out, r2⟩
      · go_simp
        (with_reducible refine (CL2.out).mono ?_)
        rintro e w5 ⟨rfl, k5, rfl⟩
        refine hK _ _ ?_
        clear hK K
        refine wpAny_take (i := 4) (v := ?v14) rfl (by kernel_rfl) (by kernel_rfl) (by kernel_rfl) (fun _ _ _ h => h) (Or.inl ⟨by rfl, ?h14⟩) ?r14
        case h14 =>
          intro w
          go_simp
          try with_reducible rfl
        refine wpAny_ready (rs := [0]) (by kernel_rfl) (by simp) ?_
        refine AllReady.cons rfl (fun K hK => ?_) AllReady.nil
        go_simp
        refine hK _ _ ?_
        clear hK K
        refine wpAny_ready (rs := [5]) (by kernel_rfl) (by simp) ?_
        refine AllReady.cons rfl (fun K hK => ?_) AllReady.nil
        go_simp
        (with_reducible refine (CT.out k5).mono ?_)
        rintro e w6 ⟨v6, rfl, hv6, hr6⟩
        have c66 := hr6.out.1
        have f66 := hr6.out.2.1
        have l66 := hr6.out.2.2.1
        rcases hv6 with rfl | ⟨ad, rfl⟩
        all_goals
          refine hK _ _ ?_
          clear hK K
          refine wpAny_ready (rs := [6]) (by kernel_rfl) (by simp) ?_
          refine AllReady.cons rfl (fun K hK => ?_) AllReady.nil
          go_simp
          refine hK _ _ ?_
          clear hK K
          refine wpAny_done (by kernel_rfl) ?_ _
          gi_wp2_with fail
          obtain ⟨_, _, _, r1, r2⟩ := hr6.out
          exact ⟨r1, rfl, y, r, HL.out, r2⟩
  case done =>
    rintro D0 A0 hD0 ⟨hI1, hI2⟩ hdf
    have br := (show Boxed A0 (W.heap.size + 1) 44 .nilIface from (hI2.block _ XE2.out.lt).trans XE2.out)
    have cr := br.cell
    have fr := br.frozen
    have e12 := (HE2.out.below hI2).full_
    have BR := Lib.hid br
    have HDF := Lib.hid hdf
    have HI1 := Lib.hid hI1
    have HI2 := Lib.hid hI2
    clear hdf hI1 hI2 br
    gi_wp2_with fail
    refine ⟨by simp, .inl ⟨_, _, rfl, run_takeDeferred ((Below.heap_setCell _ _ _ _ (show D0 ≠ W.heap.size + 1 by have := HZ2.out; omega)).trans HDF.out), ?_⟩⟩
    have hc := (box_put (o := .deferred none) (BR.out.set (errAt (a 12))) (show D0 ≠ W.heap.size + 1 by have := HZ2.out; omega)).cell
    refine ⟨errAt (a 12), by simp [results, Tryz.results130, go_sem, hc], .inl ⟨HI1.out, rfl, ?_⟩⟩
    have hbb := (HB2.out.trans (HI2.out.mono (by have := HZ2.out; omega))).setCell (p := ⟨W.heap.size + 1, 0, none⟩) (by show W.heap.size ≤ W.heap.size + 1; omega) (errAt (a 12))
    exact below_put hbb hbb.size (by have := HZ2.out; omega)
  case stop =>
    rintro D0 cd pre A0 hD0 ⟨rfl, k, r, h1, h2, h3⟩ hdf
    have H1 := Lib.hid h1
    obtain ⟨v, hv⟩ : ∃ v, (if (takeDv d (64 * k) (nextU us)).1 then Value.nilIface else errAt (a 11)) = v := ⟨_, rfl⟩
    rw [hv] at h2
    have HV := Lib.hid hv
    have H2 := Lib.hid h2
    have H3 := Lib.hid h3
    have HDF := Lib.hid hdf
    clear h1 h2 h3 hdf hv
    gi_wp2_with fail
    refine ⟨by simp, .inl ⟨_, _, rfl, run_takeDeferred HDF.out, ?_⟩⟩
    have hc := (box_put (o := .deferred none) H2.out (show D0 ≠ W.heap.size + 1 by have := HZ2.out; omega)).cell
    refine ⟨v, by simp [results, Tryz.results130, go_sem, hc], .inr ⟨k, r, H1.out, by rw [HV.out], ?_⟩⟩
    refine H3.out.kept hD (G := fun j => j = D0) ((Kept.refl _ _).grown (grownBy_putObj' _ _ _) (fun j e => .inl (by injection e with e; exact e.symm))) (fun j e => ?_)
    subst e
    refine ⟨by have := HZ2.out; omega, fun o ho => ?_⟩
    rw [HDF.out] at ho
    injection ho with ho
    rw [← ho]; rfl
end
end Go.Proofs.YtiafamacjpgjoaaGreatDoor

/- Append, as a function of a store and its device; the last segment's end turned. -/
namespace Go.Proofs.YtiafamacjpgjoaaGreatDoor
open Go.RowKit Go.Shelf Tide

def lastDv (us : List SegU) (d : Dv) (b : List UInt8) : Option Nat × Nat × List SegU × Dv := match us.getLast? with
  | none => (some 12, 0, us, d)
  | some u => if (writeDv d u.first u.fin b).1 = true then (none, u.no, us.set (us.length - 1) ⟨u.no, u.first, behindN u.fin b.length⟩, (writeDv d u.first u.fin b).2) else (some 11, 0, us, (writeDv d u.first u.fin b).2)
def appendDv (us : List SegU) (d : Dv) (b : List UInt8) : Option Nat × Nat × List SegU × Dv :=
  if b.length < 1 ∨ 3968 < b.length then (some 3, 0, us, d)
  else if fitsU us b.length = true then lastDv us d b
  else match freeL us (d.img.length / 64 / 64) with
    | [] => (some 12, 0, us, d)
    | k :: _ => if (takeDv d (64 * k) (nextU us)).1 = true then lastDv (us ++ [⟨nextU us, 64 * k, 64 * k + 1⟩]) (takeDv d (64 * k) (nextU us)).2 b else (some 11, 0, us, (takeDv d (64 * k) (nextU us)).2)
def errV (a : Nat → Addr) : Option Nat → Value
  | none => .nilIface
  | some k => errAt (a k)
theorem us_set : ∀ (us : List SegU) (i : Nat) (u : SegU) (z : Nat) (h : i < us.length), us[i] = u → (us.flatMap SegU.cells).set (i * 3 + 2) (.int .i64 (z : Int)) = (us.set i ⟨u.no, u.first, z⟩).flatMap SegU.cells
  | [], _, _, _, h, _ => by simp at h
  | v :: r, 0, u, z, _, e => by
    simp only [List.getElem_cons_zero] at e
    subst e
    rfl
  | v :: r, i + 1, u, z, h, e => by
    have ih := us_set r i u z (by simpa using h) (by simpa using e)
    rw [List.flatMap_cons, List.set_cons_succ, List.flatMap_cons, ← ih, show (i + 1) * 3 + 2 = (i * 3 + 2) + 3 by omega]
    rfl
section
variable {W : World} {Fs : Nat → Prop} {p dev : Nat} {us : List SegU}
theorem StW.refin {b c i z : Nat} {u : SegU} (h : StW W Fs p dev us (.slice (some ⟨b, 0, none⟩) us.length c)) (hi : i < us.length) (hu : us[i] = u) :
    StW (W.setCell ⟨b, i * 3 + 2, none⟩ (.int .i64 (z : Int))) Fs p dev (us.set i ⟨u.no, u.first, z⟩) (.slice (some ⟨b, 0, none⟩) us.length c) := by
  have hpb : p ≠ b := fun e => two_ne h.block h.used (by decide) (by rw [e]; rfl)
  have hset : Kept (fun k => k = b) W (W.setCell ⟨b, i * 3 + 2, none⟩ (.int .i64 (z : Int))) := (Kept.refl (fun k => k = b) W).setCell (p := ⟨b, i * 3 + 2, none⟩) (.inl rfl) _
  have h2 := own_set h.used (i * 3 + 2) (.int .i64 (z : Int))
  rw [us_set us i u z hi hu] at h2
  exact { block := h.block.kept hset hpb
          used := by rw [List.length_set]; exact h2
          fp := h.fp
          lt := fun k hk => Nat.lt_of_lt_of_le (h.lt k hk) hset.size }
end
end Go.Proofs.YtiafamacjpgjoaaGreatDoor

/- Append of a record. -/
namespace Go.Proofs.YtiafamacjpgjoaaGreatDoor
open Go.RowKit Go.Shelf Tide

theorem Errs.form_ {W : World} {a : Nat → Addr} (h : Errs W a) : W.cell? ⟨1, 0, none⟩ = some (errAt (a 3)) := by
  have h0 := h.var 3 (by omega)
  simp only [evars, List.getD_cons_zero, List.getD_cons_succ] at h0
  exact h0
section
variable {D : DvP} {a x : Nat → Addr} {W : World} {Fd Fs : Nat → Prop} {p dev : Nat} {us : List SegU} {vs : Value} {d : Dv}
set_option maxRecDepth 100000 in
set_option maxHeartbeats 4000000 in
theorem append_bad (hE : Errs W a) {A : Option Addr} {n c : Nat} (hn : n < 1 ∨ 3968 < n) (hc : n ≤ 9223372036854775807) : Calls Tryz.prog 90 #[.pointer (some ⟨p, 0, none⟩), .slice A n c] W fun e w' => e = .returned (.tuple #[.int .i64 0, errAt (a 3)]) ∧ Below W.heap.size W w' := by
  have e3 := hE.form_
  have e3' : W.drew.cell? ⟨1, 0, none⟩ = some (errAt (a 3)) := e3
  rcases hn with hn | hn
  · have q1 : decide ((n : Int) < 1) = true := decide_eq_true (by omega)
    clear hn
    go_enter Tryz.func90, Tryz.ntmps90
    go_wp2_with fail
    go_quiet (fail)
    go_wp2_with fail
    go_ret2
    exact ⟨rfl, below_drawn W _⟩
  · have q1 : decide ((n : Int) < 1) = false := decide_eq_false (by omega)
    have q2 : decide ((3968 : Int) < n) = true := decide_eq_true (by omega)
    clear hn
    go_enter Tryz.func90, Tryz.ntmps90
    go_wp2_with fail
    go_quiet (fail)
    go_wp2_with fail
    go_ret2
    exact ⟨rfl, below_drawn W _⟩
theorem takeDv_len {d : Dv} {f no n : Nat} (hf : f + 64 ≤ n) (hn : d.img.length = 64 * n) : (takeDv d f no).2.img.length = 64 * n := by
  have h1 := putD_len (d := d) (i := f) (whole := noughts 4096) (m := 64) (noughts_len 4096) hf hn
  unfold takeDv
  split
  · exact putD_len (d := (putD d f (noughts 4096) 64).2) (i := f) (whole := headB no) (m := 1) (headB_len no) (by omega) h1
  · exact h1
theorem takeDv_pend {d : Dv} {f no : Nat} (h : (takeDv d f no).1 = true) : (takeDv d f no).2.pend = [] := by
  unfold takeDv at h ⊢
  split at h
  · rename_i hc
    rw [if_pos hc]
    exact putD_pend h
  · cases h
structure OkU (n : Nat) (us : List SegU) : Prop where
  len : us.length ≤ 999
  on : ∀ u ∈ us, u.first + 64 ≤ n ∧ u.first < u.fin ∧ u.fin ≤ 100000
  last : -1 ≤ lastU us ∧ lastU us < 2 ^ 61
theorem append_end {W1 : World} {F1 G1 : Nat → Prop} {us1 : List SegU} {u : SegU} {K gb cc be : Nat}
    (hK : us1.length = K + 1) (hu' : us1[K]? = some u)
    (hk01 : Kept (fun k => Fd k ∨ Fs k) W W1) (hf1 : ∀ k, F1 k → Fd k ∨ W.heap.size ≤ k) (hg1 : ∀ k, G1 k → Fs k ∨ W.heap.size ≤ k)
    (hs : StW W1 G1 p dev us1 (.slice (some ⟨gb, 0, none⟩) (K + 1) cc)) (hap : ∀ k, F1 k → ¬ G1 k)
    {W2 : World} {F2 : Nat → Prop} {d2 : Dv} (hD : DvSpec x D) (hd2 : D W2 F2 dev d2) (hf2 : ∀ k, F2 k → F1 k ∨ W1.heap.size ≤ k) (hk12 : Kept F1 W1 W2) :
    RS D W Fd Fs p dev (us1.set K ⟨u.no, u.first, be⟩) d2 (W2.setCell ⟨gb, K * 3 + 2, none⟩ (.int .i64 (be : Int))) := by
  obtain ⟨hi, hu⟩ := List.getElem?_eq_some_iff.1 hu'
  have hs2 := hs.keep hk12 (fun k hg hf => hap k hf hg)
  have hgb : G1 gb := hs.fp.2 gb rfl
  have hz := hk01.size
  have hne : ∀ k, F2 k → ¬ G1 k := fun k hf hg => by
    rcases hf2 k hf with h | h
    · exact hap k h hg
    · have := hs.lt k hg; omega
  rw [← hK] at hs2
  have hr := hs2.refin (z := be) hi hu
  have hset : Kept (fun k => k = gb) W2 (W2.setCell ⟨gb, K * 3 + 2, none⟩ (.int .i64 (be : Int))) := (Kept.refl (fun k => k = gb) W2).setCell (p := ⟨gb, K * 3 + 2, none⟩) (.inl rfl) _
  refine ⟨F2, G1, _, hD.keep _ _ _ _ _ _ hd2 hset (fun k hf e => hne k hf (e ▸ hgb)), hr, hne, fun k hk => ?_, hg1, ?_⟩
  · rcases hf2 k hk with h | h
    · exact hf1 k h
    · exact .inr (by omega)
  · refine ((hk01.trans hk12 (fun k hk => ?_)).trans hset (fun k e => ?_))
    · exact (hf1 k hk).imp .inl id
    · subst e
      exact (hg1 _ hgb).imp .inr id
set_option maxRecDepth 100000 in
set_option maxHeartbeats 4000000 in
theorem append_any (hD : DvSpec (three a) D) (hE : Errs W a) (hd : D W Fd dev d) (hpe : d.pend = []) (h : StW W Fs p dev us vs) (hap : ∀ k, Fd k → ¬ Fs k) (hNG : ∀ k, Fd k ∨ Fs k → 19 ≤ k) (hNW : 19 ≤ W.heap.size) (hok : OkU (d.img.length / 64) us)
    (vb : Value) (b : List UInt8) (B : Nat) (hb : Bytes W B vb b) (hB : B ≤ W.heap.size) (hbF : ∀ k, vb.ownBlock = some k → ¬ (Fd k ∨ Fs k)) :
    Calls Tryz.prog 90 #[.pointer (some ⟨p, 0, none⟩), vb] W fun e w' =>
      e = .returned (.tuple #[.int .i64 ((appendDv us d b).2.1 : Nat), errV a (appendDv us d b).1]) ∧ RS D W Fd Fs p dev (appendDv us d b).2.2.1 (appendDv us d b).2.2.2 w' := by
  obtain ⟨Ab, cb, rfl, hbc1, hbc2, _⟩ := hb.form
  by_cases hbad : b.length < 1 ∨ 3968 < b.length
  · have e : appendDv us d b = (some 3, 0, us, d) := by unfold appendDv; rw [if_pos hbad]
    rw [e]
    refine (append_bad hE hbad (by omega)).mono ?_
    rintro e w' ⟨rfl, hb⟩
    exact ⟨rfl, (RS.start hd h hap).below hD hb⟩
  · have hn1 : 1 ≤ b.length := by omega
    have hn2 : b.length ≤ 3968 := by omega
    have hlt := hD.lt _ _ _ _ hd
    have hr := hD.right _ _ _ _ hd
    obtain ⟨n, hn⟩ : ∃ n, b.length = n := ⟨_, rfl⟩
    have HN := Lib.hid hn
    have q1 : decide ((n : Int) < 1) = false := decide_eq_false (by omega)
    have q2 : decide ((3968 : Int) < (n : Int)) = false := decide_eq_false (by omega)
    have hfitU : ∀ u ∈ us, u.fin ≤ 100000 ∧ u.first ≤ 100000 := fun u hu => by have := hok.on u hu; omega
    have CFit := Lib.hid (fitsS_any h (by have := hok.len; omega) hfitU n (by omega))
    have HS := Lib.hid h
    have HDv := Lib.hid hd
    have HE := Lib.hid hE
    have HAp := Lib.hid hap
    have HG := Lib.hid hNG
    have HFl := Lib.hid hlt
    have HR := Lib.hid hr
    have HOk := Lib.hid hok
    have HBy := Lib.hid hb
    have HBF := Lib.hid hbF
    have HNb := Lib.hid (And.intro hn1 hn2)
    have HA := Lib.hid (show appendDv us d b = if fitsU us b.length = true then lastDv us d b
      else match freeL us (d.img.length / 64 / 64) with
        | [] => (some 12, 0, us, d)
        | k :: _ => if (takeDv d (64 * k) (nextU us)).1 = true then lastDv (us ++ [⟨nextU us, 64 * k, 64 * k + 1⟩]) (takeDv d (64 * k) (nextU us)).2 b else (some 11, 0, us, (takeDv d (64 * k) (nextU us)).2) by unfold appendDv; exact if_neg hbad)
    generalize appendDv us d b = R at *
    rw [hn] at HA hbc1 ⊢
    have hn9 : n ≤ 10000 := by omega
    clear h hd hE hap hNG hlt hr hok hb hbF hn1 hn2 hn hbad hfitU
    cases hfit : fitsU us n with
    | true =>
      rw [hfit] at HA CFit
      go_enter Tryz.func90, Tryz.ntmps90
      go_wp2_with fail
      refine CFit.out.mono ?_
      rintro en w1 ⟨rfl, hb1⟩
      have HB1 := Lib.hid hb1
      have hfu := hfit
      unfold fitsU at hfu
      cases hlu : us.getLast? with
      | none => rw [hlu] at hfu; cases hfu
      | some u =>
        rw [hlu] at hfu
        have hfu2 : behindN u.fin n ≤ u.first + 64 := of_decide_eq_true hfu
        have hne : us ≠ [] := fun e => by rw [e] at hlu; cases hlu
        have hpos := List.length_pos_iff.2 hne
        obtain ⟨K, hK⟩ : ∃ K, us.length = K + 1 := ⟨us.length - 1, by omega⟩
        have hgt : us[K]'(by omega) = u := by
          rw [List.getLast?_eq_getElem?, hK, Nat.add_sub_cancel, List.getElem?_eq_getElem (by omega)] at hlu
          injection hlu
        have hum : u ∈ us := hgt ▸ List.getElem_mem _
        have hon := HOk.out.on u hum
        obtain ⟨us1, hus1⟩ : ∃ l, us = l := ⟨_, rfl⟩
        obtain ⟨d1, hd1⟩ : ∃ x, d = x := ⟨_, rfl⟩
        have HRS1 := Lib.hid (show RS D W Fd Fs p dev us1 d1 w1 by rw [← hus1, ← hd1]; exact (RS.start HDv.out HS.out HAp.out).below hD hb1)
        have HPe1 := Lib.hid (show d1.pend = [] by rw [← hd1]; exact hpe)
        have HLn := Lib.hid (show d1.img.length / 64 = d.img.length / 64 by rw [hd1])
        have HA1 := Lib.hid (show R = lastDv us1 d1 b by rw [← hus1, ← hd1]; have := HA.out; rw [if_pos (by trivial)] at this; exact this)
        have HKl := Lib.hid (show K ≤ 1000 by have := HOk.out.len; omega)
        have HU1 := Lib.hid (show ∃ _ : us1.length = K + 1, us1[K]'(by omega) = u ∧ u.first < u.fin ∧ behindN u.fin n ≤ u.first + 64 ∧ u.first + 64 ≤ d1.img.length / 64 by subst hus1 hd1; exact ⟨hK, hgt, hon.2.1, hfu2, hon.1⟩)
        clear hfu hlu hfu2 hne hpos hK hgt hum hon hb1 hus1 hd1 HB1 CFit
        obtain ⟨F1, G1, vs1, hd1, hs1, hap1, hf1, hg1, hk1⟩ := HRS1.out
        obtain ⟨hL1, hgt, hfe, hfit1, himg1⟩ := HU1.out
        obtain ⟨gb, cc, rfl, hcc, hgb, hgp, k0, k1, k2, fz⟩ := hs1.cells K (by omega)
        obtain ⟨hp, c0, c1, fzp⟩ := hs1.block.facts
        rw [hgt] at k0 k1 k2
        obtain ⟨no, fi, en⟩ := u
        dsimp only at k0 k1 k2 hfe hfit1 himg1
        rw [hL1] at c1 hcc
        have hs1' := hs1
        rw [hL1] at hs1'
        have hNGd : ∀ k, F1 k → 19 ≤ k := fun k hk => (hf1 k hk).elim (fun h => HG.out k (.inl h)) (fun h => Nat.le_trans hNW h)
        have hNGa : ∀ k, Fd k ∨ Fs k → 19 ≤ k := HG.out
        have hE1 : E3 (three a) w1 := (E3.of_errs HE.out).keptN hk1 hNGa
        have hby1 : Bytes w1 B (.slice Ab n cb) b := by have := bytes_off HBy.out hB hk1 HBF.out; rw [HN.out] at this; exact this
        have hz1 := hk1.size
        have hlast : us1.getLast? = some ⟨no, fi, en⟩ := by
          rw [List.getLast?_eq_getElem?, hL1, Nat.add_sub_cancel, List.getElem?_eq_getElem (by omega), hgt]
        have hR : R = if (writeDv d1 fi en b).1 = true then (none, no, us1.set K ⟨no, fi, behindN en n⟩, (writeDv d1 fi en b).2) else (some 11, 0, us1, (writeDv d1 fi en b).2) := by
          rw [HA1.out]; unfold lastDv; rw [hlast, hL1, Nat.add_sub_cancel, HN.out]
        have CW := Lib.hid (fun k => writeS_any (no := no) hD (hE1.below (below_drawn w1 k)) (hD.keep _ _ _ (fun _ => False) _ _ hd1 (Kept.of_below (below_drawn w1 k)) (fun _ _ h => h)) HPe1.out (hs1.below (below_drawn w1 k)) hap1 hNGd (Nat.le_trans hNW hz1) (fi := fi) (en := en) (.slice Ab n cb) b B (hby1.below (below_drawn w1 k |>.mono (Nat.le_trans hB hz1))) (Nat.le_trans hB hz1) HNb.out.1 hfe (by rw [HN.out]; exact hfit1) himg1)
        obtain ⟨T, hT⟩ : ∃ T, writeDv d1 fi en b = T := ⟨_, rfl⟩
        rw [hT] at CW hR
        obtain ⟨be, hbe⟩ : ∃ be, behindN en n = be := ⟨_, rfl⟩
        rw [hbe] at hR
        have hbl : be ≤ 1000000 := by rw [← hbe]; have := himg1; have := HR.out.2.2.1; have := HLn.out; omega
        have CB := Lib.hid (fun W' => show Calls Tryz.prog 132 #[.int .i64 (en : Nat), .int .i64 (n : Nat)] W' (fun e w' => e = .returned (.int .i64 (be : Nat)) ∧ W' = w') from by rw [← hbe]; exact behind_any en n (by have := HR.out.2.2.1; have := HLn.out; unfold behindN at hfit1; omega) (by omega) W')
        have HR1 := Lib.hid hR
        have HS1 := Lib.hid hs1'
        have HSz := Lib.hid hs1
        have HAp1 := Lib.hid hap1
        have HF1 := Lib.hid hf1
        have HG1 := Lib.hid hg1
        have HK1 := Lib.hid hk1
        have HGb := Lib.hid (And.intro hgb (hs1.fp.2 gb rfl))
        have HL1 := Lib.hid hL1
        have HGt := Lib.hid (show us1[K]? = some ⟨no, fi, en⟩ by rw [List.getElem?_eq_getElem (by omega), hgt])
        have HZ1 := Lib.hid hz1
        have qK : (((K + 1 : Nat)) : Int) - 1 = (K : Int) := by omega
        have qK2 : (K : Int) + 1 - 1 = (K : Int) := by omega
        have qlt : (K : Int) < (K : Int) + 1 := by omega
        have q0K : (0 : Int) ≤ (K : Int) := by omega
        clear hd1 hs1 hs1' hap1 hf1 hg1 hk1 hL1 hgt hfit1 himg1 hgb hgp hp hNGd hNGa hE1 hby1 hz1 hlast hR hT hbe HRS1 HU1
        have hK9 : K ≤ 1000 := HKl.out
        go_wp2_with fail
        go_quiet (fail)
        go_wp2_with fail
        refine (CW.out _).mono ?_
        rintro en2 w2 ⟨⟨hok, rfl⟩ | ⟨hok, rfl⟩, F2, hd2, hf2, hk2⟩
        · have hnF : ¬ F1 gb := fun h => HAp1.out gb h HGb.out.2
          have hkx : Kept F1 w1 w2 := ((Kept.of_below (F := F1) (below_drawn w1 nq)).trans hk2 (fun k h => .inl h))
          have k0' := (hkx.cell (p := ⟨gb, K * 3, none⟩) HGb.out.1 hnF).trans k0
          have k2' := (hkx.cell (p := ⟨gb, K * 3 + 2, none⟩) HGb.out.1 hnF).trans k2
          obtain ⟨cur, hcur⟩ := own_obj (HSz.out.keep hkx (fun k hg hf => HAp1.out k hf hg)).used (k := gb) rfl
          have f2' : w2.frozen? ⟨gb, K * 3 + 2, none⟩ = false := by
            unfold World.frozen?
            rw [show w2.heap[(⟨gb, K * 3 + 2, none⟩ : Addr).block]? = _ from hcur]
            simp
          have hl2 : gb < w2.heap.size := Nat.lt_of_lt_of_le HGb.out.1 hkx.size
          have k0'' : (w2.setCell ⟨gb, K * 3 + 2, none⟩ (.int .i64 (be : Int))).cell? ⟨gb, K * 3, none⟩ = some (.int .i64 (no : Int)) := (World.cell?_setCell_other w2 ⟨gb, K * 3 + 2, none⟩ ⟨gb, K * 3, none⟩ _ (fun e => by injection e with _ e _; omega)).trans k0'
          have HD2 := Lib.hid hd2
          have HF2 := Lib.hid (show ∀ k, F2 k → F1 k ∨ w1.heap.size ≤ k from hf2)
          have HKx := Lib.hid hkx
          have HOk2 := Lib.hid hok
          clear hd2 hf2 hk2 hkx hok hcur k0 k1 k2 fz
          go_wp2_with fail
          refine (CB.out _).mono ?_
          rintro en3 w3 ⟨rfl, rfl⟩
          go_wp2_with fail
          go_ret2
          have hR := HR1.out
          rw [if_pos HOk2.out] at hR
          rw [hR]
          exact ⟨rfl, append_end (u := ⟨no, fi, en⟩) HL1.out HGt.out HK1.out HF1.out HG1.out HS1.out HAp1.out hD HD2.out HF2.out HKx.out⟩
        · have HD2 := Lib.hid hd2
          have HF2 := Lib.hid (show ∀ k, F2 k → F1 k ∨ w1.heap.size ≤ k from hf2)
          have HKx := Lib.hid (show Kept F1 w1 w2 from ((Kept.of_below (F := F1) (below_drawn w1 nq)).trans hk2 (fun k h => .inl h)))
          have HOk2 := Lib.hid hok
          clear hd2 hf2 hk2 hok k0 k1 k2 fz
          go_wp2_with fail
          go_ret2
          have hR := HR1.out
          rw [if_neg (by rw [HOk2.out]; exact Bool.false_ne_true)] at hR
          rw [hR]
          refine ⟨rfl, F2, G1, _, HD2.out, HSz.out.keep HKx.out (fun k hg hf => HAp1.out k hf hg), fun k hf hg => ?_, fun k hk => ?_, HG1.out, HK1.out.trans HKx.out (fun k hk => (HF1.out k hk).imp .inl id)⟩
          · rcases HF2.out k hf with h | h
            · exact HAp1.out k h hg
            · have := HSz.out.lt k hg; omega
          · rcases HF2.out k hk with h | h
            · exact HF1.out k h
            · exact .inr (Nat.le_trans HZ1.out h)
    | false =>
      rw [hfit] at HA CFit
      have CG := Lib.hid (fun W' (hb : Below W.heap.size W W') => growS_any hD (HE.out.below hb) (hD.keep _ _ _ (fun _ => False) _ _ HDv.out (Kept.of_below hb) (fun _ _ h => h)) hpe (HS.out.below hb) HAp.out (fun k hk => HG.out k (.inl hk)) (Nat.le_trans hNW hb.size) (by have := HOk.out.len; omega) (by have := HOk.out.last; omega))
      go_enter Tryz.func90, Tryz.ntmps90
      go_wp2_with fail
      refine CFit.out.mono ?_
      rintro en w0 ⟨rfl, hb1⟩
      have HB0 := Lib.hid hb1
      have CG1 := CG.out w0 HB0.out
      clear hb1
      go_wp2_with fail
      refine CG1.mono ?_
      rintro en w1 (⟨hf0, rfl, hb2⟩ | ⟨kf, rf, hf0, rfl, hrs⟩)
      · have hR : R = (some 12, 0, us, d) := by have := HA.out; rw [if_neg (by decide), hf0] at this; exact this
        have HR2 := Lib.hid hR
        have HB2 := Lib.hid (HB0.out.trans (hb2.mono HB0.out.size))
        clear hR hb2 hf0 CG CG1 HA CFit
        go_wp2_with fail
        go_ret2
        rw [HR2.out]
        exact ⟨rfl, (RS.start HDv.out HS.out HAp.out).below hD HB2.out⟩
      · have hA := HA.out
        rw [if_neg (by decide), hf0] at hA
        have hkm : kf < d.img.length / 64 / 64 := by
          have h1 : kf ∈ freeL us (d.img.length / 64 / 64) := by rw [hf0]; exact List.mem_cons_self
          unfold freeL at h1
          exact List.mem_range.1 (List.mem_filter.1 h1).1
        have hll := HR.out.2.2.1
        have htl := takeDv_len (d := d) (f := 64 * kf) (no := nextU us) (n := d.img.length / 64) (by omega) HR.out.1
        have htp := takeDv_pend (d := d) (f := 64 * kf) (no := nextU us)
        have hRS1 : RS D W Fd Fs p dev _ _ w1 := RS.trans (Kept.of_below HB0.out) (fun k h => .inl h) (fun k h => .inl h) hrs
        dsimp only at hA
        obtain ⟨T, hT⟩ : ∃ T, takeDv d (64 * kf) (nextU us) = T := ⟨_, rfl⟩
        rw [hT] at hRS1 hA htl htp ⊢
        obtain ⟨tb, d1⟩ := T
        dsimp only at hRS1 hA htl htp ⊢
        clear hrs CG CG1 HA CFit
        cases tb with
        | false =>
          have hR : R = (some 11, 0, us, d1) := by rw [hA]; rfl
          have HR2 := Lib.hid hR
          have HRS := Lib.hid (show RS D W Fd Fs p dev us d1 w1 from hRS1)
          clear hR hRS1 hA hkm htl htp hT hll hf0
          simp only [Bool.false_eq_true, if_false]
          go_wp2_with fail
          go_ret2
          rw [HR2.out]
          exact ⟨rfl, HRS.out⟩
        | true =>
          obtain ⟨u, hu0⟩ : ∃ u, (⟨nextU us, 64 * kf, 64 * kf + 1⟩ : SegU) = u := ⟨_, rfl⟩
          obtain ⟨K, hK0⟩ : ∃ K, us.length = K := ⟨_, rfl⟩
          have hu1 : u.first = 64 * kf := by rw [← hu0]
          have hu2 : u.fin = 64 * kf + 1 := by rw [← hu0]
          rw [if_pos rfl, hu0] at hRS1
          rw [if_pos rfl, hu0] at hA
          obtain ⟨us1, hus1⟩ : ∃ l, us ++ [u] = l := ⟨_, rfl⟩
          rw [hus1] at hRS1 hA
          have HRS1 := Lib.hid hRS1
          have HPe1 := Lib.hid (show d1.pend = [] from htp rfl)
          have HLn := Lib.hid (show d1.img.length / 64 = d.img.length / 64 by omega)
          have HA1 := Lib.hid hA
          have HKl := Lib.hid (show K ≤ 1000 by have := HOk.out.len; omega)
          have HU1 := Lib.hid (show ∃ _ : us1.length = K + 1, us1[K]'(by omega) = u ∧ u.first < u.fin ∧ behindN u.fin n ≤ u.first + 64 ∧ u.first + 64 ≤ d1.img.length / 64 from by
            refine ⟨by rw [← hus1, List.length_append, hK0]; rfl, ?_, by omega, by rw [hu1, hu2]; unfold behindN; have := HNb.out; have := HN.out; omega, by rw [hu1]; omega⟩
            subst hus1
            rw [List.getElem_append_right (by omega)]
            simp [hK0])
          clear hRS1 hA hkm htl htp hT hll hf0 hu0 hK0 hu1 hu2 hus1 HB0
          simp only [if_true]
          obtain ⟨F1, G1, vs1, hd1, hs1, hap1, hf1, hg1, hk1⟩ := HRS1.out
          obtain ⟨hL1, hgt, hfe, hfit1, himg1⟩ := HU1.out
          obtain ⟨gb, cc, rfl, hcc, hgb, hgp, k0, k1, k2, fz⟩ := hs1.cells K (by omega)
          obtain ⟨hp, c0, c1, fzp⟩ := hs1.block.facts
          rw [hgt] at k0 k1 k2
          obtain ⟨no, fi, en⟩ := u
          dsimp only at k0 k1 k2 hfe hfit1 himg1
          rw [hL1] at c1 hcc
          have hs1' := hs1
          rw [hL1] at hs1'
          have hNGd : ∀ k, F1 k → 19 ≤ k := fun k hk => (hf1 k hk).elim (fun h => HG.out k (.inl h)) (fun h => Nat.le_trans hNW h)
          have hNGa : ∀ k, Fd k ∨ Fs k → 19 ≤ k := HG.out
          have hE1 : E3 (three a) w1 := (E3.of_errs HE.out).keptN hk1 hNGa
          have hby1 : Bytes w1 B (.slice Ab n cb) b := by have := bytes_off HBy.out hB hk1 HBF.out; rw [HN.out] at this; exact this
          have hz1 := hk1.size
          have hlast : us1.getLast? = some ⟨no, fi, en⟩ := by
            rw [List.getLast?_eq_getElem?, hL1, Nat.add_sub_cancel, List.getElem?_eq_getElem (by omega), hgt]
          have hR : R = if (writeDv d1 fi en b).1 = true then (none, no, us1.set K ⟨no, fi, behindN en n⟩, (writeDv d1 fi en b).2) else (some 11, 0, us1, (writeDv d1 fi en b).2) := by
            rw [HA1.out]; unfold lastDv; rw [hlast, hL1, Nat.add_sub_cancel, HN.out]
          have CW := Lib.hid (fun k => writeS_any (no := no) hD (hE1.below (below_drawn w1 k)) (hD.keep _ _ _ (fun _ => False) _ _ hd1 (Kept.of_below (below_drawn w1 k)) (fun _ _ h => h)) HPe1.out (hs1.below (below_drawn w1 k)) hap1 hNGd (Nat.le_trans hNW hz1) (fi := fi) (en := en) (.slice Ab n cb) b B (hby1.below (below_drawn w1 k |>.mono (Nat.le_trans hB hz1))) (Nat.le_trans hB hz1) HNb.out.1 hfe (by rw [HN.out]; exact hfit1) himg1)
          obtain ⟨T, hT⟩ : ∃ T, writeDv d1 fi en b = T := ⟨_, rfl⟩
          rw [hT] at CW hR
          obtain ⟨be, hbe⟩ : ∃ be, behindN en n = be := ⟨_, rfl⟩
          rw [hbe] at hR
          have hbl : be ≤ 1000000 := by rw [← hbe]; have := himg1; have := HR.out.2.2.1; have := HLn.out; omega
          have CB := Lib.hid (fun W' => show Calls Tryz.prog 132 #[.int .i64 (en : Nat), .int .i64 (n : Nat)] W' (fun e w' => e = .returned (.int .i64 (be : Nat)) ∧ W' = w') from by rw [← hbe]; exact behind_any en n (by have := HR.out.2.2.1; have := HLn.out; unfold behindN at hfit1; omega) (by omega) W')
          have HR1 := Lib.hid hR
          have HS1 := Lib.hid hs1'
          have HSz := Lib.hid hs1
          have HAp1 := Lib.hid hap1
          have HF1 := Lib.hid hf1
          have HG1 := Lib.hid hg1
          have HK1 := Lib.hid hk1
          have HGb := Lib.hid (And.intro hgb (hs1.fp.2 gb rfl))
          have HL1 := Lib.hid hL1
          have HGt := Lib.hid (show us1[K]? = some ⟨no, fi, en⟩ by rw [List.getElem?_eq_getElem (by omega), hgt])
          have HZ1 := Lib.hid hz1
          have qK : (((K + 1 : Nat)) : Int) - 1 = (K : Int) := by omega
          have qK2 : (K : Int) + 1 - 1 = (K : Int) := by omega
          have qlt : (K : Int) < (K : Int) + 1 := by omega
          have q0K : (0 : Int) ≤ (K : Int) := by omega
          clear hd1 hs1 hs1' hap1 hf1 hg1 hk1 hL1 hgt hfit1 himg1 hgb hgp hp hNGd hNGa hE1 hby1 hz1 hlast hR hT hbe HRS1 HU1
          have hK9 : K ≤ 1000 := HKl.out
          go_wp2_with fail
          go_quiet (fail)
          go_wp2_with fail
          refine (CW.out _).mono ?_
          rintro en2 w2 ⟨⟨hok, rfl⟩ | ⟨hok, rfl⟩, F2, hd2, hf2, hk2⟩
          · have hnF : ¬ F1 gb := fun h => HAp1.out gb h HGb.out.2
            have hkx : Kept F1 w1 w2 := ((Kept.of_below (F := F1) (below_drawn w1 nq)).trans hk2 (fun k h => .inl h))
            have k0' := (hkx.cell (p := ⟨gb, K * 3, none⟩) HGb.out.1 hnF).trans k0
            have k2' := (hkx.cell (p := ⟨gb, K * 3 + 2, none⟩) HGb.out.1 hnF).trans k2
            obtain ⟨cur, hcur⟩ := own_obj (HSz.out.keep hkx (fun k hg hf => HAp1.out k hf hg)).used (k := gb) rfl
            have f2' : w2.frozen? ⟨gb, K * 3 + 2, none⟩ = false := by
              unfold World.frozen?
              rw [show w2.heap[(⟨gb, K * 3 + 2, none⟩ : Addr).block]? = _ from hcur]
              simp
            have hl2 : gb < w2.heap.size := Nat.lt_of_lt_of_le HGb.out.1 hkx.size
            have k0'' : (w2.setCell ⟨gb, K * 3 + 2, none⟩ (.int .i64 (be : Int))).cell? ⟨gb, K * 3, none⟩ = some (.int .i64 (no : Int)) := (World.cell?_setCell_other w2 ⟨gb, K * 3 + 2, none⟩ ⟨gb, K * 3, none⟩ _ (fun e => by injection e with _ e _; omega)).trans k0'
            have HD2 := Lib.hid hd2
            have HF2 := Lib.hid (show ∀ k, F2 k → F1 k ∨ w1.heap.size ≤ k from hf2)
            have HKx := Lib.hid hkx
            have HOk2 := Lib.hid hok
            clear hd2 hf2 hk2 hkx hok hcur k0 k1 k2 fz
            go_wp2_with fail
            refine (CB.out _).mono ?_
            rintro en3 w3 ⟨rfl, rfl⟩
            go_wp2_with fail
            go_ret2
            have hR := HR1.out
            rw [if_pos HOk2.out] at hR
            rw [hR]
            exact ⟨rfl, append_end (u := ⟨no, fi, en⟩) HL1.out HGt.out HK1.out HF1.out HG1.out HS1.out HAp1.out hD HD2.out HF2.out HKx.out⟩
          · have HD2 := Lib.hid hd2
            have HF2 := Lib.hid (show ∀ k, F2 k → F1 k ∨ w1.heap.size ≤ k from hf2)
            have HKx := Lib.hid (show Kept F1 w1 w2 from ((Kept.of_below (F := F1) (below_drawn w1 nq)).trans hk2 (fun k h => .inl h)))
            have HOk2 := Lib.hid hok
            clear hd2 hf2 hk2 hok k0 k1 k2 fz
            go_wp2_with fail
            go_ret2
            have hR := HR1.out
            rw [if_neg (by rw [HOk2.out]; exact Bool.false_ne_true)] at hR
            rw [hR]
            refine ⟨rfl, F2, G1, _, HD2.out, HSz.out.keep HKx.out (fun k hg hf => HAp1.out k hf hg), fun k hf hg => ?_, fun k hk => ?_, HG1.out, HK1.out.trans HKx.out (fun k hk => (HF1.out k hk).imp .inl id)⟩
            · rcases HF2.out k hf with h | h
              · exact HAp1.out k h hg
              · have := HSz.out.lt k hg; omega
            · rcases HF2.out k hk with h | h
              · exact HF1.out k h
              · exact .inr (Nat.le_trans HZ1.out h)
end
end Go.Proofs.YtiafamacjpgjoaaGreatDoor

/- A segment taken, a record written, a segment given back: what the image holds behind, and behind a loss of power. It speaks of no program. -/
namespace Go.Proofs.YtiafamacjpgjoaaGreatDoor
open Go.RowKit Tide

def Lost (n : Nat) (d : Dv) (Q : List UInt8 → Prop) : Prop := ∀ xs : List (Wr × Nat), xs.map (fun x => x.1.pair) = d.pend → FitsC n xs → Q (outC d.img xs)
theorem putD_cases {d : Dv} (i : Nat) (whole : List UInt8) (m : Nat) :
    ((putD d i whole m).1 = true ∧ ∃ st, (putD d i whole m).2 = ⟨flushD d.img (chunksD i whole m), [], st⟩ ∧ (d.stop = none → st = none)) ∨
    ((putD d i whole m).1 = false ∧ ∃ s, d.stop ≠ none ∧ s ≤ m ∧ (putD d i whole m).2 = ⟨d.img, (chunksD i whole m).take s, some 0⟩) := by
  unfold putD
  cases hs : d.stop with
  | none => exact .inl ⟨rfl, none, rfl, fun _ => rfl⟩
  | some s =>
    simp only
    by_cases h : s ≤ m
    · rw [if_pos h]
      exact .inr ⟨rfl, s, by simp, h, rfl⟩
    · rw [if_neg h]
      exact .inl ⟨rfl, some (s - (m + 1)), rfl, fun h => by cases h⟩
theorem lost_len {n : Nat} {img : List UInt8} (hi : img.length = 64 * n) {xs : List (Wr × Nat)} (hf : FitsC n xs) : (outC img xs).length = 64 * n := outC_len n xs img hf hi
theorem RecsAt.stop {im : List UInt8} {lim : Nat} : ∀ {bs : List (List UInt8)} {i : Nat}, RecsAt im lim i bs → endL i bs < lim → markD im (endL i bs) ≠ some 1
  | [], i, h, hl => by
    have e : endL i [] = i := by simp [endL]
    rw [e] at hl ⊢
    exact h hl
  | b :: bs, i, h, hl => by
    rw [endL_cons] at hl ⊢
    exact h.2.stop hl
section
variable {n : Nat} {d : Dv} {m : StoD}
theorem noughts_sect (k : Nat) (h : k < 64) : ((noughts 4096).drop (64 * k)).take 64 = noughts 64 := by
  unfold noughts
  rw [List.drop_replicate, List.take_replicate]
  congr 1
  omega
theorem head_chunk (l : List UInt8) (hl : l.length = 64) (i : Nat) : (l.drop (64 * (i - i))).take 64 = l := by
  rw [Nat.sub_self]
  exact List.take_of_length_le (by simp [hl])
theorem one_cases {img : List UInt8} {n i s : Nat} {whole : List UInt8} (himg : img.length = 64 * n) (hw : whole.length = 64) {xs : List (Wr × Nat)} (hp : xs.map (fun x => x.1.pair) = (chunksD i whole 1).take s) (hf : FitsC n xs) (hs : (sect img i).length = 64) :
    (∀ j, j ≠ i → sect (outC img xs) j = sect img j) ∧ (sect (outC img xs) i = whole ∨ (sect (outC img xs) i)[63]? = (sect img i)[63]?) ∧ ∃ c, c ≤ 64 ∧ sect (outC img xs) i = whole.take c ++ (sect img i).drop c := by
  refine ⟨fun j hj => ?_, ?_⟩
  · rcases sect_lost himg hp hf j with h | ⟨h1, h2, _, _⟩
    · exact h
    · omega
  · rcases sect_lost himg hp hf i with h | ⟨_, _, _, c, hc, h⟩
    · exact ⟨.inr (by rw [h]), 0, by omega, by rw [h]; simp⟩
    · rw [head_chunk whole hw] at h
      refine ⟨?_, c, hc, h⟩
      by_cases h64 : c = 64
      · left
        rw [h, h64, List.take_of_length_le (by omega), List.drop_of_length_le (by omega), List.append_nil]
      · right
        rw [h, cutc_at hw hc, if_neg (by omega)]
theorem one_flush {img : List UInt8} {n i : Nat} {whole : List UInt8} (himg : img.length = 64 * n) (hw : whole.length = 64) (hi : i + 1 ≤ n) : (∀ j, j ≠ i → sect (flushD img (chunksD i whole 1)) j = sect img j) ∧ sect (flushD img (chunksD i whole 1)) i = whole := by
  refine ⟨fun j hj => ?_, ?_⟩
  · rw [sect_chunks (by omega) hi himg, if_neg (by omega)]
  · rw [sect_chunks (by omega) hi himg, if_pos (by omega), head_chunk whole hw]
theorem take_lies (h : LiesM n d.img m) {P no : Nat} (hPn : P < n / 64) (hP : ∀ g ∈ m.segs, g.place ≠ P) (hno : no < 2 ^ 63) (hw : ({ m with segs := m.segs ++ [⟨P, no, 0, []⟩] } : StoD).Wf) :
    ((takeDv d (64 * P) no).1 = true ∧ LiesM n (takeDv d (64 * P) no).2.img { m with segs := m.segs ++ [⟨P, no, 0, []⟩] } ∧ (takeDv d (64 * P) no).2.pend = [] ∧ (d.stop = none → (takeDv d (64 * P) no).2.stop = none)) ∨
    ((takeDv d (64 * P) no).1 = false ∧ d.stop ≠ none ∧ (takeDv d (64 * P) no).2.img.length = 64 * n ∧ Lost n (takeDv d (64 * P) no).2 fun im => LiesM n im m ∨ LiesM n im { m with segs := m.segs ++ [⟨P, no, 0, []⟩] }) := by
  have hi : 64 * P + 64 ≤ n := by omega
  have hfree := h.free P (by rw [h.places]; exact hPn) hP
  unfold takeDv
  rcases putD_cases (d := d) (64 * P) (noughts 4096) 64 with ⟨h1, st, h2, h3⟩ | ⟨h1, s, h2, h3, h4⟩
  · rw [if_pos h1, h2]
    have hl1 : (flushD d.img (chunksD (64 * P) (noughts 4096) 64)).length = 64 * n := flush_chunks_len (noughts_len _) hi h.len
    have hs1 : ∀ j, sect (flushD d.img (chunksD (64 * P) (noughts 4096) 64)) j = if 64 * P ≤ j ∧ j < 64 * P + 64 then ((noughts 4096).drop (64 * (j - 64 * P))).take 64 else sect d.img j := sect_chunks (noughts_len _) hi h.len
    generalize flushD d.img (chunksD (64 * P) (noughts 4096) 64) = im1 at *
    have hn1 : ∀ j, 64 * P ≤ j → j < 64 * P + 64 → sect im1 j = noughts 64 := fun j h5 h6 => by rw [hs1, if_pos ⟨h5, h6⟩, noughts_sect _ (by omega)]
    have ho1 : ∀ j, j < 64 * P ∨ 64 * P + 64 ≤ j → sect im1 j = sect d.img j := fun j h5 => by rw [hs1, if_neg (by omega)]
    have hm1 : markD im1 (64 * P) ≠ some 1 := by rw [mark_sect, hn1 _ (by omega) (by omega), noughts_at]; decide
    have hL1 : LiesM n im1 m := h.outside hl1 hP ho1 hm1
    have hdone : ∀ im2 : List UInt8, im2.length = 64 * n → (∀ j, j ≠ 64 * P → sect im2 j = sect im1 j) → sect im2 (64 * P) = headB no → LiesM n im2 { m with segs := m.segs ++ [⟨P, no, 0, []⟩] } := fun im2 hl2 h5 h6 => by
      refine hL1.taken hl2 hP (fun j hj => h5 j (by omega)) ?_ ?_ ?_ hw
      · rw [mark_sect, h6, headB_mark]
      · rw [h6, headB_num no hno]
      · rw [mark_sect, h5 _ (by omega), hn1 _ (by omega) (by omega), noughts_at]; decide
    rcases putD_cases (d := ⟨im1, [], st⟩) (64 * P) (headB no) 1 with ⟨h5, st2, h6, h7⟩ | ⟨h5, s, h6, h7, h8⟩
    · left
      rw [h6]
      obtain ⟨h8, h9⟩ := one_flush (i := 64 * P) hl1 (headB_len no) (by omega)
      exact ⟨h5, hdone _ (flush_chunks_len (headB_len no) (by omega) hl1) h8 h9, rfl, fun h => h7 (h3 h)⟩
    · right
      rw [h8]
      refine ⟨h5, fun h => h6 (h3 h), hl1, fun xs hx hf => ?_⟩
      obtain ⟨h9, h10, _⟩ := one_cases hl1 (headB_len no) hx hf (by rw [hn1 _ (by omega) (by omega)]; exact noughts_len 64)
      rcases h10 with h10 | h10
      · exact .inr (hdone _ (lost_len hl1 hf) h9 h10)
      · refine .inl (hL1.outside (lost_len hl1 hf) hP (fun j hj => h9 j (by omega)) ?_)
        show markD (outC im1 xs) _ ≠ _
        rw [mark_sect, h10, ← mark_sect]
        exact hm1
  · right
    rw [if_neg (by rw [h1]; decide), h4]
    refine ⟨rfl, h2, h.len, fun xs hx hf => .inl (h.outside (lost_len h.len hf) hP (fun j hj => ?_) ?_)⟩
    · rcases sect_lost h.len hx hf j with h5 | ⟨h5, h6, _, _⟩
      · exact h5
      · omega
    · rw [mark_sect]
      rcases sect_lost h.len hx hf (64 * P) with h5 | ⟨_, _, _, c, hc, h5⟩
      · show (sect (outC d.img xs) (64 * P))[63]? ≠ _
        rw [h5, ← mark_sect]
        exact hfree
      · show (sect (outC d.img xs) (64 * P))[63]? ≠ _
        rw [h5, Nat.sub_self, noughts_sect 0 (by omega), cutc_at (noughts_len 64) hc]
        split
        · rw [noughts_at]; decide
        · rw [← mark_sect]; exact hfree
theorem bodyW_at {k : Nat} {b : List UInt8} (j : Nat) : (bodyW k b)[j]? = if j < b.length then b[j]? else if j < b.length + (64 * k - b.length) then some 0 else none := by
  unfold bodyW
  by_cases h : j < b.length
  · rw [if_pos h, List.getElem?_append_left h]
  · rw [if_neg h, List.getElem?_append_right (by omega), noughts_at]
    by_cases h2 : j < b.length + (64 * k - b.length)
    · rw [if_pos h2, if_pos (by omega)]
    · rw [if_neg h2, if_neg (by omega)]
theorem write_lies {l : List SegD} {g : SegD} {b : List UInt8} (h : LiesM n d.img { m with segs := l ++ [g] }) (hb1 : 1 ≤ b.length) (hb2 : b.length ≤ 3968) (hfit : behindN (endG g) b.length ≤ 64 * g.place + 64) (hw : ({ m with segs := l ++ [g.push b] } : StoD).Wf) :
    ((writeDv d (64 * g.place) (endG g) b).1 = true ∧ LiesM n (writeDv d (64 * g.place) (endG g) b).2.img { m with segs := l ++ [g.push b] } ∧ (writeDv d (64 * g.place) (endG g) b).2.pend = [] ∧ (d.stop = none → (writeDv d (64 * g.place) (endG g) b).2.stop = none)) ∨
    ((writeDv d (64 * g.place) (endG g) b).1 = false ∧ d.stop ≠ none ∧ (writeDv d (64 * g.place) (endG g) b).2.img.length = 64 * n ∧ Lost n (writeDv d (64 * g.place) (endG g) b).2 fun im => LiesM n im { m with segs := l ++ [g] } ∨ LiesM n im { m with segs := l ++ [g.push b] }) := by
  have hgm : g ∈ ({ m with segs := l ++ [g] } : StoD).segs := by simp
  have hon := h.on hgm
  have hE1 : 64 * g.place + 1 ≤ endG g := by unfold endG; omega
  have hstop := (h.segs g hgm).recs.stop
  rw [endG_of h.wf hgm] at hstop
  generalize hE : endG g = E at *
  obtain ⟨k, hk⟩ : ∃ k, roomW (64 * g.place) E b.length = k := ⟨_, rfl⟩
  have hk1 : b.length ≤ 64 * k ∧ E + 1 + k ≤ 64 * g.place + 64 ∧ E + 1 + k = min (behindN E b.length + 1) (64 * g.place + 64) := by
    rw [← hk]; unfold roomW behindN at *; omega
  unfold writeDv
  rw [hk]
  rcases putD_cases (d := d) (E + 1) (bodyW k b) k with ⟨h1, st, h2, h3⟩ | ⟨h1, s, h2, h3, h4⟩
  · rw [if_pos h1, h2]
    have hl1 : (flushD d.img (chunksD (E + 1) (bodyW k b) k)).length = 64 * n := flush_chunks_len (bodyW_len hk1.1) (by omega) h.len
    have hs1 : ∀ j, sect (flushD d.img (chunksD (E + 1) (bodyW k b) k)) j = if E + 1 ≤ j ∧ j < E + 1 + k then ((bodyW k b).drop (64 * (j - (E + 1)))).take 64 else sect d.img j := sect_chunks (bodyW_len hk1.1) (by omega) h.len
    generalize flushD d.img (chunksD (E + 1) (bodyW k b) k) = im1 at *
    have ho1 : ∀ j, j < E + 1 ∨ E + 1 + k ≤ j → sect im1 j = sect d.img j := fun j h5 => by rw [hs1, if_neg (by omega)]
    have hL1 : LiesM n im1 { m with segs := l ++ [g] } := h.behind hl1 hgm (fun j hj => ho1 j (by omega)) (fun hlt => by
      rw [hE] at hlt ⊢
      rw [mark_eq (ho1 E (by omega))]
      exact hstop hlt)
    have hdone : ∀ im2 : List UInt8, im2.length = 64 * n → (∀ j, j ≠ E → sect im2 j = sect im1 j) → sect im2 E = headB b.length → LiesM n im2 { m with segs := l ++ [g.push b] } := fun im2 hl2 h5 h6 => by
      have hat : ∀ j, j < 64 * k → im2[64 * (E + 1) + j]? = (bodyW k b)[j]? := fun j hj => by
        rw [at_sect, show (64 * (E + 1) + j) / 64 = E + 1 + j / 64 by omega, show (64 * (E + 1) + j) % 64 = j % 64 by omega, h5 _ (by omega), hs1, if_pos (by omega), piece_get _ _ _ (Nat.mod_lt _ (by omega))]
        congr 1
        omega
      refine hL1.pushed hl2 (fun j hj => h5 j (by omega)) ?_ ?_ hw
      · rw [hE]
        refine ⟨⟨hb1, hb2⟩, ?_, ?_, ?_, hfit⟩
        · rw [mark_sect, h6, headB_mark]
        · unfold sizeD
          rw [h6, headB_size _ (by omega)]
        · apply List.ext_getElem?
          intro j
          rw [bodyD_get]
          by_cases hj : j < b.length
          · rw [if_pos hj, hat j (by omega), bodyW_at, if_pos hj]
          · rw [if_neg hj, List.getElem?_eq_none (by omega)]
      · rw [hE]
        intro hlt
        rw [mark_sect, h5 _ (by unfold behindN; omega), ← mark_sect]
        have h7 : behindN E b.length = E + 1 + (b.length + 63) / 64 := rfl
        have h8 := hat (64 * ((b.length + 63) / 64) + 63) (by omega)
        have h9 : im1[64 * behindN E b.length + 63]? = im2[64 * (E + 1) + (64 * ((b.length + 63) / 64) + 63)]? := by
          rw [at_sect im1, at_sect im2, show (64 * behindN E b.length + 63) / 64 = behindN E b.length by omega, show (64 * (E + 1) + (64 * ((b.length + 63) / 64) + 63)) / 64 = behindN E b.length by omega, h5 _ (by omega), show (64 * behindN E b.length + 63) % 64 = (64 * (E + 1) + (64 * ((b.length + 63) / 64) + 63)) % 64 by omega]
        unfold markD
        rw [h9, h8, bodyW_at, if_neg (by omega), if_pos (by omega)]
        decide
    rcases putD_cases (d := ⟨im1, [], st⟩) E (headB b.length) 1 with ⟨h5, st2, h6, h7⟩ | ⟨h5, s, h6, h7, h8⟩
    · left
      rw [h6]
      obtain ⟨h8, h9⟩ := one_flush (i := E) hl1 (headB_len b.length) (by omega)
      exact ⟨h5, hdone _ (flush_chunks_len (headB_len b.length) (by omega) hl1) h8 h9, rfl, fun h => h7 (h3 h)⟩
    · right
      rw [h8]
      refine ⟨h5, fun h => h6 (h3 h), hl1, fun xs hx hf => ?_⟩
      obtain ⟨h9, h10, _⟩ := one_cases hl1 (headB_len b.length) hx hf (sect_len _ _ (by omega))
      rcases h10 with h10 | h10
      · exact .inr (hdone _ (lost_len hl1 hf) h9 h10)
      · refine .inl (hL1.behind (lost_len hl1 hf) hgm (fun j hj => h9 j (by omega)) (fun hlt => ?_))
        rw [hE] at hlt ⊢
        show markD (outC im1 xs) _ ≠ _
        rw [mark_sect, h10, ← mark_sect, mark_eq (ho1 E (by omega))]
        exact hstop hlt
  · right
    rw [if_neg (by rw [h1]; decide), h4]
    refine ⟨rfl, h2, h.len, fun xs hx hf => .inl (h.behind (lost_len h.len hf) hgm (fun j hj => ?_) (fun hlt => ?_))⟩
    · rcases sect_lost h.len hx hf j with h5 | ⟨h5, h6, _, _⟩
      · exact h5
      · omega
    · rw [hE] at hlt ⊢
      rcases sect_lost h.len hx hf E with h5 | ⟨h5, _, _, _⟩
      · rw [mark_eq h5]; exact hstop hlt
      · omega
theorem drop_lies (h : LiesM n d.img m) {i : Nat} (hi : i < m.segs.length) (hw : ({ m with segs := m.segs.eraseIdx i } : StoD).Wf) :
    ((putD d (64 * (m.segs[i]).place) ((sect d.img (64 * (m.segs[i]).place)).set 63 2) 1).1 = true ∧ LiesM n (putD d (64 * (m.segs[i]).place) ((sect d.img (64 * (m.segs[i]).place)).set 63 2) 1).2.img { m with segs := m.segs.eraseIdx i }) ∨
    ((putD d (64 * (m.segs[i]).place) ((sect d.img (64 * (m.segs[i]).place)).set 63 2) 1).1 = false ∧ Lost n (putD d (64 * (m.segs[i]).place) ((sect d.img (64 * (m.segs[i]).place)).set 63 2) 1).2 fun im => LiesM n im m ∨ LiesM n im { m with segs := m.segs.eraseIdx i }) := by
  have hon := h.on (List.getElem_mem hi)
  have hsl : (sect d.img (64 * (m.segs[i]).place)).length = 64 := sect_len _ _ (by have := h.len; omega)
  have hwl : ((sect d.img (64 * (m.segs[i]).place)).set 63 2).length = 64 := by rw [List.length_set]; exact hsl
  have hdone : ∀ im2 : List UInt8, im2.length = 64 * n → (∀ j, j ≠ 64 * (m.segs[i]).place → sect im2 j = sect d.img j) → sect im2 (64 * (m.segs[i]).place) = (sect d.img (64 * (m.segs[i]).place)).set 63 2 → LiesM n im2 { m with segs := m.segs.eraseIdx i } := fun im2 hl2 h5 h6 => by
    refine h.dropped hl2 hi h5 ?_ hw
    rw [mark_sect, h6, List.getElem?_set_self (by omega)]
    decide
  rcases putD_cases (d := d) (64 * (m.segs[i]).place) ((sect d.img (64 * (m.segs[i]).place)).set 63 2) 1 with ⟨h1, st, h2, h3⟩ | ⟨h1, s, h2, h3, h4⟩
  · left
    rw [h2]
    obtain ⟨h8, h9⟩ := one_flush (i := 64 * (m.segs[i]).place) h.len hwl (by omega)
    exact ⟨h1, hdone _ (flush_chunks_len hwl (by omega) h.len) h8 h9⟩
  · right
    rw [h4]
    refine ⟨h1, fun xs hx hf => ?_⟩
    obtain ⟨h9, h10, c, hc, h11⟩ := one_cases h.len hwl hx hf hsl
    rcases h10 with h10 | h10
    · exact .inr (hdone _ (lost_len h.len hf) h9 h10)
    · refine .inl (h.same (lost_len h.len hf) fun j => ?_)
      by_cases hj : j = 64 * (m.segs[i]).place
      · subst hj
        apply List.ext_getElem?
        intro q
        by_cases hq : q < 63
        · show (sect (outC d.img xs) _)[q]? = _
          rw [h11, cutc_at hwl hc]
          split
          · rw [List.getElem?_set_ne (by omega)]
          · rfl
        · by_cases hq2 : q = 63
          · subst hq2; exact h10
          · rw [List.getElem?_eq_none (by rw [sect_len _ _ (by rw [lost_len h.len hf]; omega)]; omega), List.getElem?_eq_none (by omega)]
      · exact h9 j hj
end
end Go.Proofs.YtiafamacjpgjoaaGreatDoor

/- A store in memory over the document's own: what fits, what is free, which number is where; Append, Drop, Records over an image that holds a store. It speaks of no program. -/
namespace Go.Proofs.YtiafamacjpgjoaaGreatDoor
open Go.RowKit Tide

def usOf (m : StoD) : List SegU := m.segs.map fun g => ⟨g.number, 64 * g.place, endG g⟩
theorem usOf_len (m : StoD) : (usOf m).length = m.segs.length := by unfold usOf; rw [List.length_map]
theorem usOf_last (m : StoD) : (usOf m).getLast? = m.segs.getLast?.map fun g => ⟨g.number, 64 * g.place, endG g⟩ := by unfold usOf; rw [List.getLast?_map]
theorem lastU_is (m : StoD) : lastU (usOf m) = lastNo m.segs := by
  unfold lastU lastNo
  rw [usOf_last]
  cases m.segs.getLast? <;> rfl
theorem fits_is (m : StoD) (n : Nat) : fitsU (usOf m) n = fitsD m.segs n := by
  unfold fitsU fitsD
  rw [usOf_last]
  cases m.segs.getLast? with
  | none => rfl
  | some g =>
    simp only [Option.map_some]
    rw [behind_need]
    unfold endG
    rw [decide_eq_decide]
    omega
theorem taken_is (m : StoD) (k : Nat) : takenU (usOf m) ((64 * k : Nat) : Int) = takenB m.segs (k : Int) := by
  unfold takenU takenB usOf
  rw [List.any_map]
  congr 1
  funext g
  rw [Bool.eq_iff_iff]
  simp only [Function.comp, beq_iff_eq]
  omega
theorem scan_is (gs : List SegD) (P : Nat) : ∀ k, k ≤ P → scanD gs P k = match ((List.range' (P - k) k).filter fun p : Nat => !takenB gs (p : Int)) with | [] => -1 | p :: _ => (p : Int)
  | 0, _ => rfl
  | k + 1, h => by
    have ih := scan_is gs P k (by omega)
    have e1 : List.range' (P - (k + 1)) (k + 1) = (P - (k + 1)) :: List.range' (P - k) k := by rw [List.range'_succ]; congr 2; omega
    have e2 : (P : Int) - 1 - (k : Int) = ((P - (k + 1) : Nat) : Int) := by omega
    unfold scanD
    rw [e1, e2, List.filter_cons]
    by_cases ht : takenB gs ((P - (k + 1) : Nat) : Int) = true
    · rw [if_pos ht, ht, ih]; rfl
    · rw [if_neg ht, eq_false_of_ne_true ht]; rfl
theorem take_is (m : StoD) : (freeL (usOf m) m.places = [] ∧ takeD m = none) ∨ ∃ k r, freeL (usOf m) m.places = k :: r ∧ takeD m = some { m with segs := m.segs ++ [⟨k, nextU (usOf m), 0, []⟩] } ∧ k < m.places ∧ ∀ g ∈ m.segs, g.place ≠ k := by
  have h1 := scan_is m.segs m.places m.places (Nat.le_refl _)
  have e : freeL (usOf m) m.places = (List.range' (m.places - m.places) m.places).filter fun p : Nat => !takenB m.segs (p : Int) := by
    unfold freeL
    rw [Nat.sub_self, ← List.range_eq_range']
    congr 1
    funext k
    rw [taken_is]
  rw [← e] at h1
  cases hc : freeL (usOf m) m.places with
  | nil =>
    left
    rw [hc] at h1
    refine ⟨rfl, ?_⟩
    unfold takeD
    rw [h1, if_pos (by decide)]
  | cons k r =>
    right
    rw [hc] at h1
    simp only at h1
    have hm : k ∈ freeL (usOf m) m.places := by rw [hc]; simp
    unfold freeL at hm
    obtain ⟨h2, h3⟩ := List.mem_filter.1 hm
    refine ⟨k, r, rfl, ?_, List.mem_range.1 h2, fun g hg e => ?_⟩
    · unfold takeD
      rw [h1, if_neg (by omega)]
      unfold nextU
      rw [lastU_is, Int.toNat_natCast]
    · rw [taken_is] at h3
      have := takenB_false (by simpa using h3) g hg
      omega
theorem last_split {gs : List SegD} {g : SegD} (h : gs.getLast? = some g) : ∃ l, gs = l ++ [g] := by
  rcases List.eq_nil_or_concat gs with rfl | ⟨l, x, hc⟩
  · cases h
  · rw [List.concat_eq_append] at hc
    subst hc
    rw [List.getLast?_append, List.getLast?_singleton] at h
    simp only [Option.some_or, Option.some.injEq] at h
    exact ⟨l, by rw [h]⟩
theorem push_end (g : SegD) (b : List UInt8) : endG (g.push b) = behindN (endG g) b.length := by
  rw [behind_need]
  unfold endG SegD.push
  simp only
  omega
theorem usOf_snoc (P : Nat) (l : List SegD) (g : SegD) : usOf ⟨P, l ++ [g]⟩ = usOf ⟨P, l⟩ ++ [⟨g.number, 64 * g.place, endG g⟩] := by
  unfold usOf
  simp only [List.map_append, List.map_cons, List.map_nil]
theorem set_lastU (l : List SegU) (x y : SegU) : (l ++ [x]).set ((l ++ [x]).length - 1) y = l ++ [y] := by
  rw [List.length_append, List.length_singleton, Nat.add_sub_cancel, List.set_append_right _ _ (Nat.le_refl _), Nat.sub_self]
  rfl
theorem last_lies {n P : Nat} {l : List SegD} {g : SegD} {d : Dv} {b : List UInt8} (h : LiesM n d.img ⟨P, l ++ [g]⟩) (hb1 : 1 ≤ b.length) (hb2 : b.length ≤ 3968) (hfit : fitsD (l ++ [g]) b.length = true) :
    (∃ d', lastDv (usOf ⟨P, l ++ [g]⟩) d b = (none, g.number, usOf ⟨P, l ++ [g.push b]⟩, d') ∧ LiesM n d'.img ⟨P, l ++ [g.push b]⟩ ∧ d'.pend = [] ∧ (d.stop = none → d'.stop = none)) ∨
    (∃ us' d', lastDv (usOf ⟨P, l ++ [g]⟩) d b = (some 11, 0, us', d') ∧ d.stop ≠ none ∧ d'.img.length = 64 * n ∧ Lost n d' fun im => LiesM n im ⟨P, l ++ [g]⟩ ∨ LiesM n im ⟨P, l ++ [g.push b]⟩) := by
  have hw := push_wf h.wf b ⟨hb1, hb2⟩ hfit
  simp only [push_snoc] at hw
  rw [fits_snoc'] at hfit
  have hf2 : behindN (endG g) b.length ≤ 64 * g.place + 64 := by have := of_decide_eq_true hfit; rw [behind_need]; unfold endG; omega
  have hl := write_lies (m := ⟨P, l ++ [g]⟩) (d := d) (b := b) h hb1 hb2 hf2 hw
  unfold lastDv
  rw [usOf_snoc, List.getLast?_append, List.getLast?_singleton]
  simp only [Option.some_or]
  rcases hl with ⟨h1, h2, h3, h4⟩ | ⟨h1, h2, h3, h4⟩
  · left
    rw [if_pos h1, set_lastU, usOf_snoc, push_end]
    exact ⟨_, rfl, h2, h3, h4⟩
  · right
    rw [if_neg (by rw [h1]; decide)]
    exact ⟨_, _, rfl, h2, h3, h4⟩
theorem append_lies {n : Nat} {m : StoD} {d : Dv} (h : LiesM n d.img m) (hno : lastNo m.segs < 2 ^ 61) (b : List UInt8) :
    (∃ e : Nat, appendDv (usOf m) d b = (some e, 0, usOf m, d) ∧ appendD m b = (m, 0, ((e + 1 : Nat) : Int)) ∧ (e = 3 ∨ e = 12)) ∨
    (∃ no d', appendDv (usOf m) d b = (none, no, usOf (appendD m b).1, d') ∧ (appendD m b).2 = ((no : Int), 0) ∧ LiesM n d'.img (appendD m b).1 ∧ d'.pend = [] ∧ (d.stop = none → d'.stop = none)) ∨
    (∃ us' d', appendDv (usOf m) d b = (some 11, 0, us', d') ∧ d.stop ≠ none ∧ d'.img.length = 64 * n ∧ Lost n d' fun im => LiesM n im m ∨ LiesM n im (appendD m b).1 ∨ (fitsD m.segs b.length = false ∧ ∃ t, takeD m = some t ∧ LiesM n im t)) := by
  have hpl : d.img.length / 64 / 64 = m.places := by have := h.len; have := h.places; omega
  unfold appendDv appendD
  by_cases hb : b.length < 1 ∨ 3968 < b.length
  · left
    rw [if_pos hb, if_pos hb]
    exact ⟨3, rfl, rfl, .inl rfl⟩
  rw [if_neg hb, if_neg hb, fits_is, hpl]
  cases hf : fitsD m.segs b.length with
  | true =>
    right
    rw [if_pos rfl]
    simp only [if_true]
    obtain ⟨P, gs⟩ := m
    simp only at hf ⊢
    cases hg : gs.getLast? with
    | none => unfold fitsD at hf; rw [hg] at hf; cases hf
    | some g =>
      obtain ⟨l, rfl⟩ := last_split hg
      rw [push_snoc, last_snoc]
      rcases last_lies h (by omega) (by omega) hf with ⟨d', h1, h2⟩ | ⟨us', d', h1, h2, h3, h4⟩
      · exact .inl ⟨g.number, d', h1, rfl, h2⟩
      · exact .inr ⟨us', d', h1, h2, h3, fun xs hx hfx => (h4 xs hx hfx).imp id .inl⟩
  | false =>
    rw [if_neg (by decide)]
    simp only [Bool.false_eq_true, if_false]
    rcases take_is m with ⟨h1, h2⟩ | ⟨k, r, h1, h2, hk, hfree⟩
    · left
      rw [h1, h2]
      exact ⟨12, rfl, rfl, .inr rfl⟩
    · right
      rw [h1, h2]
      simp only
      have hwt := take_wf h.wf h2
      have hft := take_fits h2 b.length (by omega)
      have hnx : nextU (usOf m) < 2 ^ 63 := by unfold nextU; rw [lastU_is]; omega
      obtain ⟨no, hno2⟩ : ∃ no, nextU (usOf m) = no := ⟨_, rfl⟩
      rw [hno2] at h2 hwt hft hnx ⊢
      obtain ⟨P, gs⟩ := m
      simp only at *
      rw [push_snoc, last_snoc]
      rcases take_lies (d := d) h (P := k) (no := no) (by rw [← h.places]; exact hk) hfree hnx hwt with ⟨g1, g2, g3, g4⟩ | ⟨g1, g2, g3, g4⟩
      · rw [if_pos g1]
        have hus : usOf ⟨P, gs⟩ ++ [⟨no, 64 * k, 64 * k + 1⟩] = usOf ⟨P, gs ++ [⟨k, no, 0, []⟩]⟩ := by rw [usOf_snoc]; rfl
        rw [hus]
        rcases last_lies (d := (takeDv d (64 * k) no).2) (b := b) g2 (by omega) (by omega) hft with ⟨d', e1, e2, e3, e4⟩ | ⟨us', d', e1, e2, e3, e4⟩
        · exact .inl ⟨no, d', e1, rfl, e2, e3, fun h => e4 (g4 h)⟩
        · refine .inr ⟨us', d', e1, fun h => e2 (g4 h), e3, fun xs hx hfx => ?_⟩
          rcases e4 xs hx hfx with e5 | e5
          · exact .inr (.inr ⟨trivial, _, rfl, e5⟩)
          · exact .inr (.inl e5)
      · rw [if_neg (by rw [g1]; decide)]
        refine .inr ⟨_, _, rfl, g2, g3, fun xs hx hfx => ?_⟩
        rcases g4 xs hx hfx with e5 | e5
        · exact .inl e5
        · exact .inr (.inr ⟨trivial, _, rfl, e5⟩)
theorem find_is {m : StoD} (h : m.Wf) (n : Int) :
    ((∀ g ∈ m.segs, (g.number : Int) ≠ n) ∧ dropAt m.segs n = none ∧ findU (usOf m) n = -1 ∧ (m.segs.find? fun g => (g.number : Int) == n) = none ∧ ((backL (usOf m)).find? fun x => (x.2.no : Int) == n) = none) ∨
    ∃ (i : Nat) (hi : i < m.segs.length), ((m.segs[i]).number : Int) = n ∧ dropAt m.segs n = some i ∧ findU (usOf m) n = (i : Int) ∧ (m.segs.find? fun g => (g.number : Int) == n) = some m.segs[i] ∧ ((backL (usOf m)).find? fun x => (x.2.no : Int) == n) = some (i, ⟨(m.segs[i]).number, 64 * (m.segs[i]).place, endG m.segs[i]⟩) := by
  have hat : ∀ (k : Nat) (hk : k < (usOf m).length), (usOf m)[k] = ⟨(m.segs[k]'(by rw [usOf_len] at hk; exact hk)).number, 64 * (m.segs[k]'(by rw [usOf_len] at hk; exact hk)).place, endG (m.segs[k]'(by rw [usOf_len] at hk; exact hk))⟩ := fun k hk => by simp only [usOf, List.getElem_map]
  by_cases hex : ∃ (i : Nat) (hi : i < m.segs.length), ((m.segs[i]).number : Int) = n
  · right
    obtain ⟨i, hi, hn⟩ := hex
    have huniq : ∀ (k : Nat) (hk : k < m.segs.length), ((m.segs[k]).number : Int) = n → k = i := fun k hk hkn => by
      have h1 := List.pairwise_iff_getElem.1 h.rise
      rcases Nat.lt_trichotomy k i with h2 | h2 | h2
      · have := h1 k i (by simpa using hk) (by simpa using hi) h2
        simp at this; omega
      · exact h2
      · have := h1 i k (by simpa using hi) (by simpa using hk) h2
        simp at this; omega
    have hb : ((backL (usOf m)).find? fun x => (x.2.no : Int) == n) = some (i, ⟨(m.segs[i]).number, 64 * (m.segs[i]).place, endG m.segs[i]⟩) := by
      have hsome : ((backL (usOf m)).find? fun x => (x.2.no : Int) == n).isSome = true := by
        rw [List.find?_isSome]
        refine ⟨(i, (usOf m)[i]'(by rw [usOf_len]; exact hi)), ?_, ?_⟩
        · unfold backL
          rw [List.mem_reverse]
          exact List.mem_mapIdx.2 ⟨i, by rw [usOf_len]; exact hi, rfl⟩
        · simp only [hat]
          simpa using hn
      obtain ⟨x, hx⟩ := Option.isSome_iff_exists.1 hsome
      obtain ⟨hxl, hxe⟩ := backL_mem (List.mem_of_find?_eq_some hx)
      have hp := List.find?_some hx
      have hxl2 : x.1 < m.segs.length := by rw [usOf_len] at hxl; exact hxl
      have hk : x.1 = i := huniq x.1 hxl2 (by
        rw [hat] at hxe
        rw [← hxe] at hp
        simpa using hp)
      rw [hx]
      congr 1
      obtain ⟨a, u⟩ := x
      simp only at hk hxe ⊢
      subst hk
      rw [← hxe, hat]
    refine ⟨i, hi, hn, ?_, ?_, ?_, hb⟩
    · unfold dropAt
      rw [List.findIdx?_eq_some_iff_getElem]
      refine ⟨hi, by simpa using hn, fun j hj hc => ?_⟩
      have := huniq j (by omega) (by simpa using hc)
      omega
    · unfold findU
      rw [hb]
    · have hsome : (m.segs.find? fun g => (g.number : Int) == n).isSome = true := by
        rw [List.find?_isSome]
        exact ⟨m.segs[i], List.getElem_mem hi, by simpa using hn⟩
      obtain ⟨x, hx⟩ := Option.isSome_iff_exists.1 hsome
      obtain ⟨k, hk, rfl⟩ := List.getElem_of_mem (List.mem_of_find?_eq_some hx)
      have := huniq k hk (by simpa using List.find?_some hx)
      subst this
      exact hx
  · left
    have hne : ∀ g ∈ m.segs, (g.number : Int) ≠ n := fun g hg e => by
      obtain ⟨i, hi, rfl⟩ := List.getElem_of_mem hg
      exact hex ⟨i, hi, e⟩
    have hb : ∀ y ∈ backL (usOf m), ((y.2.no : Int) == n) = false := fun y hy => by
      obtain ⟨hyl, hye⟩ := backL_mem hy
      rw [hat] at hye
      rw [← hye, beq_eq_false_iff_ne]
      exact hne _ (List.getElem_mem (by rw [usOf_len] at hyl; exact hyl))
    refine ⟨hne, ?_, findU_miss hb, ?_, ?_⟩
    · unfold dropAt
      rw [List.findIdx?_eq_none_iff]
      intro g hg
      rw [beq_eq_false_iff_ne]
      exact hne g hg
    · rw [List.find?_eq_none]
      intro g hg
      rw [beq_iff_eq]
      exact hne g hg
    · rw [List.find?_eq_none]
      intro y hy
      rw [hb y hy]
      exact Bool.false_ne_true
theorem segAt_heads {im : List UInt8} {g : SegD} (h : SegAt im g) : headsS im (64 * g.place) = headsL (64 * g.place + 1) g.recs := by
  unfold headsS
  refine headsD_of h.recs ?_
  have h1 := recsAt_end h.recs (by omega)
  have h2 := endL_len (64 * g.place + 1) g.recs
  omega
theorem segAt_end {im : List UInt8} {m : StoD} (hw : m.Wf) {g : SegD} (hg : g ∈ m.segs) (h : SegAt im g) : endS im (64 * g.place) = endG g := by
  unfold endS
  rw [segAt_heads h, headsL_end, endG_of hw hg]
theorem recs_is {n : Nat} {im : List UInt8} {m : StoD} (h : LiesM n im m) (no : Int) : recsU im (usOf m) no = recsOf m.segs no := by
  unfold recsU recsOf
  rcases find_is h.wf no with ⟨_, _, _, h1, h2⟩ | ⟨i, hi, _, _, _, h1, h2⟩
  · rw [h1, h2]
  · rw [h1, h2]
    simp only
    rw [segAt_heads (h.segs _ (List.getElem_mem hi)), headsL_body (h.segs _ (List.getElem_mem hi)).recs]
end Go.Proofs.YtiafamacjpgjoaaGreatDoor

/- What stands marked in an image, sorted, is the store that it holds. It speaks of no program. -/
namespace Go.Proofs.YtiafamacjpgjoaaGreatDoor
open Go.RowKit Tide

theorem marked_perm {n : Nat} {im : List UInt8} {m : StoD} (h : LiesM n im m) : (markedU im (n / 64)).Perm (usOf m) := by
  have hn1 : (markedU im (n / 64)).Nodup := by
    unfold markedU
    refine List.Pairwise.map (R := (· ≠ ·)) (S := (· ≠ ·)) _ (fun a b hab e => ?_) (List.nodup_range.filter _)
    have : 64 * a = 64 * b := congrArg SegU.first e
    omega
  have hn2 : (usOf m).Nodup := by
    unfold usOf
    refine (List.pairwise_map.1 h.wf.apart).map _ (fun a b hab e => ?_)
    have : 64 * a.place = 64 * b.place := congrArg SegU.first e
    omega
  rw [List.perm_ext_iff_of_nodup hn1 hn2]
  intro x
  unfold markedU usOf
  rw [List.mem_map, List.mem_map]
  constructor
  · rintro ⟨p, hp, rfl⟩
    obtain ⟨h1, h2⟩ := List.mem_filter.1 hp
    have h3 : markD im (64 * p) = some 1 := by simpa using h2
    have h4 := List.mem_range.1 h1
    by_cases hex : ∃ g ∈ m.segs, g.place = p
    · obtain ⟨g, hg, rfl⟩ := hex
      have hs := h.segs g hg
      exact ⟨g, hg, by rw [hs.num, segAt_end h.wf hg hs]⟩
    · exact absurd h3 (h.free p (by rw [h.places]; exact h4) (fun g hg e => hex ⟨g, hg, e⟩))
  · rintro ⟨g, hg, rfl⟩
    have hs := h.segs g hg
    have hpl := h.wf.place g hg
    refine ⟨g.place, List.mem_filter.2 ⟨List.mem_range.2 (by rw [← h.places]; exact hpl), by rw [hs.mark]; rfl⟩, by rw [hs.num, segAt_end h.wf hg hs]⟩
theorem open_is {n : Nat} {im : List UInt8} {m : StoD} (h : LiesM n im m) : sortN (markedU im (n / 64)) (markedU im (n / 64)).length = usOf m := by
  refine sorted_is (marked_perm h) ?_
  unfold usOf
  exact List.pairwise_map.2 (List.pairwise_map.1 h.wf.rise)
theorem blank_lies (n : Nat) : LiesM n (noughts (64 * n)) ⟨n / 64, []⟩ where
  len := noughts_len _
  places := rfl
  segs := fun g hg => by cases hg
  free := fun p hp _ => by
    unfold markD
    rw [noughts_at]
    split <;> decide
  wf := ⟨fun g hg => (by cases hg), .nil, .nil, fun g hg => (by cases hg)⟩
end Go.Proofs.YtiafamacjpgjoaaGreatDoor

/- Append where the device has power; segments that are filled one behind the other, their records of one size. It speaks of no program. -/
namespace Go.Proofs.YtiafamacjpgjoaaGreatDoor
open Go.RowKit Tide

variable {pre : List SegU} {base r e N M : Nat}
end Go.Proofs.YtiafamacjpgjoaaGreatDoor
