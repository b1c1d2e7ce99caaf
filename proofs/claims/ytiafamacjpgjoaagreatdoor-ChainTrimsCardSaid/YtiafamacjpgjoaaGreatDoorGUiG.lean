/- A unit on its device: a row more that is to stay; a segment of its store given back. -/
import Derived.Test.YtiafamacjpgjoaaGreatDoorGUiV
import Derived.Test.YtiafamacjpgjoaaGreatDoorGStO
import Derived.Test.YtiafamacjpgjoaaGreatDoorGUiR
import Derived.Test.YtiafamacjpgjoaaGreatDoorGPackD
import Derived.Test.YtiafamacjpgjoaaGreatDoorGMem
import Derived.Test.YtiafamacjpgjoaaGreatDoorGSsX
import Derived.Test.YtiafamacjpgjoaaGreatDoorGUrG
import Derived.Test.YtiafamacjpgjoaaGreatDoorGSgA
import Derived.Test.YtiafamacjpgjoaaGreatDoorGConv
import Derived.Test.YtiafamacjpgjoaaGreatDoorGKeep
import Derived.Test.YtiafamacjpgjoaaGreatDoorGApp
import Derived.Deep.RegionHeld3
import Derived.WalkKit
import Derived.WalkSpells
import Derived.IntWalk
namespace Go.Proofs.YtiafamacjpgjoaaGreatDoor
open Go Go.RowKit Go.Shelf Tide

section
variable {D : DvP} {x : Nat → Addr} {w W W' : World} {FX : Nat → Prop} {X : World → Prop} {g p bm dev : Nat} {us us' : List SegU} {d d' : Dv} {s s' : StU}
theorem Stays.row (hX : Stays FX X) (lo : Nat) (ty : TypeId) (size : Nat) (v : Value) (n : Nat) (xs : List Value) : Stays (fun k => FX k ∨ v.ownBlock = some k) (fun Y => X Y ∧ Y.ownsRow lo ty size v n xs) := fun Y Y' F h hl hk hf =>
  ⟨hX Y Y' F h.1 (fun k hk => hl k (.inl hk)) hk (fun k hk => hf k (.inl hk)), hk.own h.2 (fun k e => hf k (.inr e))⟩
theorem US.row (hD : DvSpec x D) (hX : Stays FX X) (h : US D w FX X g p bm dev us d s W) (hb : Below W.heap.size W W') {ty : TypeId} {size : Nat} {v : Value} {n : Nat} {xs : List Value} (hv : W'.ownsRow W.heap.size ty size v n xs) :
    US D w (fun k => FX k ∨ v.ownBlock = some k) (fun Y => X Y ∧ Y.ownsRow W.heap.size ty size v n xs) g p bm dev us d s W' := by
  have hz := hb.size
  have hx2 := (h.below hD hX hb).else'
  obtain ⟨Fd, Fs, vs, h1, h2, h3, h4, h5, h6, h7, h8, h9⟩ := h
  refine ⟨Fd, Fs, vs, hD.keep _ _ _ (fun _ => False) _ _ h1 (Kept.of_below hb) (fun _ _ h => h), h2.below hb, h3.below hb, h4, h5, fun k hk => ⟨fun hf => ?_, (h6 k hk).2.1, Nat.lt_of_lt_of_le (h6 k hk).2.2 hz⟩, fun k hk => ?_, h8.trans (hb.mono h8.size), hx2, hv⟩
  · rcases hf with hf | hf
    · exact (h6 k hk).1 hf
    · have := (World.ownsRow.lt hv k hf).1
      have := (h6 k hk).2.2
      omega
  · rcases hk with hk | hk
    · exact Nat.lt_of_lt_of_le (h7 k hk) hz
    · exact (World.ownsRow.lt hv k hk).2
end
section
variable {D : DvP} {a : Nat → Addr} {w W : World} {FX : Nat → Prop} {X : World → Prop} {g p bm dev n P : Nat} {d : Dv} {s : StU} {x y : SegD} {r : List SegD}
theorem US.drop1 (hD : DvSpec (three a) D) (hX : Stays FX X) (hE : Errs w a) (hn : n ≤ 1000) (h : US D w FX X g p bm dev (usOf ⟨P, x :: y :: r⟩) d s W) (hp : d.pend = []) (hL : LiesM n d.img ⟨P, x :: y :: r⟩) :
    Calls Tryz.prog 140 #[.pointer (some ⟨p, 0, none⟩), .int .i64 (x.number : Int)] W fun e w' =>
      (e = .returned .nilIface ∧ ∃ d', d'.pend = [] ∧ (d.stop = none → d'.stop = none) ∧ LiesM n d'.img ⟨P, y :: r⟩ ∧ US D w FX X g p bm dev (usOf ⟨P, y :: r⟩) d' s w') ∨
      (d.stop ≠ none ∧ e = .returned (errAt (a 11)) ∧ ∃ d', d'.img.length = 64 * n ∧ Lost n d' (fun im => LiesM n im ⟨P, x :: y :: r⟩ ∨ LiesM n im ⟨P, y :: r⟩) ∧ US D w FX X g p bm dev (usOf ⟨P, x :: y :: r⟩) d' s w') := by
  have hU := h
  obtain ⟨Fd, Fs, vs, g1, g2, h3, g3, h5, h6, h7, h8, h9⟩ := h
  have hz := h8.size
  have hng := u_ng hE
  obtain ⟨img, pend, sp⟩ := d
  simp only at hp hL
  subst hp
  have hil : img.length / 64 = n := by have := hL.len; omega
  have hul : (usOf ⟨P, x :: y :: r⟩).length ≤ 1000 := by rw [usOf_len]; have := wf_len hL.wf; have := hL.places; omega
  have hus : ∀ u ∈ usOf ⟨P, x :: y :: r⟩, u.first < img.length / 64 := fun u hu => by
    obtain ⟨g, hg, rfl⟩ := List.mem_map.1 hu
    have := hL.on hg
    simp only
    omega
  have h4 : ∀ k, Fd k ∨ Fs k → ¬ FX k ∧ w.heap.size ≤ k ∧ k < W.heap.size := fun k hk => h6 k (hk.imp id .inl)
  refine (drop_any hD (hE.below h8) g1 g2 g3 (fun k hk => Nat.le_trans hng (h4 k (.inl hk)).2.1) (Nat.le_trans hng hz) hul hus x.number).mono ?_
  have hfind := find_is hL.wf x.number
  have hf2 : findU (usOf ⟨P, x :: y :: r⟩) (x.number : Int) = ((0 : Nat) : Int) := by
    rcases hfind with ⟨f1, _⟩ | ⟨i, hi, f0, f1, f2, _⟩
    · exact absurd rfl (f1 x (by simp))
    · have h1 := List.pairwise_iff_getElem.1 hL.wf.rise
      have hi0 : i = 0 := by
        rcases Nat.eq_zero_or_pos i with h2 | h2
        · exact h2
        · have := h1 0 i (by simp) (by simpa using hi) h2
          rw [List.getElem_map, List.getElem_map] at this
          have e0 : (⟨P, x :: y :: r⟩ : StoD).segs[0] = x := rfl
          rw [e0] at this
          omega
      subst hi0
      exact f2
  rintro e w' (⟨e1, rfl, hb⟩ | ⟨i, e1, e2, rfl, hb⟩ | ⟨i, hi, e1, hr⟩)
  · omega
  · have : i = 0 := by omega
    subst this
    rw [usOf_len] at e2
    simp at e2
  · have : i = 0 := by omega
    subst this
    have hwf := drop_wf hL.wf x.number
    have e : dropD ⟨P, x :: y :: r⟩ x.number = (⟨P, y :: r⟩, 0) := by
      rcases hfind with ⟨f1, _⟩ | ⟨i, hi, f0, f1, f2, _⟩
      · exact absurd rfl (f1 x (by simp))
      · have : i = 0 := by omega
        subst this
        unfold dropD
        rw [f1]
        simp
    rw [e] at hwf
    have hdl := drop_lies (d := ⟨img, [], sp⟩) hL (i := 0) (by simp) hwf
    have hon := hL.on (show x ∈ (⟨P, x :: y :: r⟩ : StoD).segs by simp)
    have hln := flush_chunks_len (n := n) (i := 64 * x.place) (m := 1) (whole := (sect img (64 * x.place)).set 63 2) (img := img) (by rw [List.length_set, sect_len _ _ (by have := hL.len; omega)]) (by omega) hL.len
    have hus0 : (usOf ⟨P, x :: y :: r⟩)[0]'(by omega) = ⟨x.number, 64 * x.place, endG x⟩ := rfl
    rw [hus0] at hr
    simp only at hr
    have hel : (usOf ⟨P, x :: y :: r⟩).eraseIdx 0 = usOf ⟨P, y :: r⟩ := rfl
    rw [hel] at hr
    simp only [List.getElem_cons_zero, List.eraseIdx_cons_zero] at hdl
    have h5' := h5
    rcases hr with ⟨hpw, rfl, F', vs', r1, r2, r3, r4⟩ | ⟨k, e3, hs1, rfl, F', r1, r2, r3⟩
    · have hput := putD_ok (d := ⟨img, [], sp⟩) (i := 64 * x.place) (whole := (sect img (64 * x.place)).set 63 2) (m := 1) hpw
      rw [hput] at hdl
      rcases hdl with ⟨_, hl⟩ | ⟨hl, _⟩
      · refine .inl ⟨rfl, _, rfl, fun h => ?_, hl, US.rs hX hU h4 h5 ⟨F', Fs, vs', r1, r2, fun k hk hs => ?_, r3, fun k hk => .inl hk, r4⟩ hD⟩
        · show lessN sp 2 = none
          simp only at h
          rw [h]; rfl
        · rcases r3 k hk with h | h
          · exact g3 k h hs
          · have := (h4 k (.inr hs)).2.2; omega
      · cases hl
    · have hput : putD ⟨img, [], sp⟩ (64 * x.place) ((sect img (64 * x.place)).set 63 2) 1 = (false, ⟨img, (chunksD (64 * x.place) ((sect img (64 * x.place)).set 63 2) 1).take k, some 0⟩) := by
        unfold putD
        simp only [e3]
        rw [if_pos hs1]
      rw [hput] at hdl
      rcases hdl with ⟨hl, _⟩ | ⟨_, hl⟩
      · cases hl
      · refine .inr ⟨by simp only; rw [e3]; exact Option.some_ne_none _, rfl, _, hL.len, hl, US.rs hX hU h4 h5 ⟨F', Fs, vs, r1, g2.keep r3 (fun k h1 h2 => g3 k h2 h1), fun k hk hs => ?_, r2, fun k hk => .inl hk, r3.mono (fun k _ h => .inl h)⟩ hD⟩
        rcases r2 k hk with h | h
        · exact g3 k h hs
        · have := (h4 k (.inr hs)).2.2; omega
end
end Go.Proofs.YtiafamacjpgjoaaGreatDoor

/- Package unit's drop. -/
namespace Go.Proofs.YtiafamacjpgjoaaGreatDoor
open Go Go.RowKit Go.Shelf Tide

theorem dropWhile_at {α : Type} (f : α → Bool) : ∀ (l : List α) (j : Nat), (∀ (i : Nat) (h : i < l.length), i < j → f l[i] = true) → (∀ h : j < l.length, f l[j] = false) → j ≤ l.length → l.dropWhile f = l.drop j
  | [], j, _, _, h => by simp
  | x :: l, 0, _, h2, _ => by
    have := h2 (by simp)
    simp only [List.getElem_cons_zero] at this
    rw [List.dropWhile_cons_of_neg (by rw [this]; decide), List.drop_zero]
  | x :: l, j + 1, h1, h2, h3 => by
    have h0 := h1 0 (by simp) (by omega)
    simp only [List.getElem_cons_zero] at h0
    rw [List.dropWhile_cons_of_pos h0, List.drop_succ_cons]
    exact dropWhile_at f l j (fun i h hi => h1 (i + 1) (by simpa using h) (by omega)) (fun h => h2 (by simpa using h)) (by simpa using h3)
theorem drop_at {m : StoD} {j q : Nat} (h1 : ∀ (i : Nat) (h : i < m.segs.length), i < j → (m.segs[i]).number < q) (h2 : ∀ h : j < m.segs.length, q ≤ (m.segs[j]).number) (h3 : j ≤ m.segs.length) : dropBelow q m = ⟨m.places, m.segs.drop j⟩ := by
  unfold dropBelow
  rw [dropWhile_at _ m.segs j (fun i h hi => decide_eq_true (h1 i h hi)) (fun h => decide_eq_false (by have := h2 h; omega)) h3]
theorem once_inj : ∀ {ps : List PageU}, (ps.map PageU.adr).Nodup → ∀ {p q : PageU}, p ∈ ps → q ∈ ps → p.adr = q.adr → p = q
  | [], _, p, _, hp, _, _ => by cases hp
  | x :: ps, h, p, q, hp, hq, e => by
    rw [List.map_cons, List.nodup_cons] at h
    rcases List.mem_cons.1 hp with hp | hp
    · rcases List.mem_cons.1 hq with hq | hq
      · rw [hp, hq]
      · exact absurd (List.mem_map.2 ⟨q, hq, by rw [← e, hp]⟩) h.1
    · rcases List.mem_cons.1 hq with hq | hq
      · exact absurd (List.mem_map.2 ⟨p, hp, by rw [e, hq]⟩) h.1
      · exact once_inj h.2 hp hq e
section
variable {D : DvP} {a : Nat → Addr} {w W : World} {FX : Nat → Prop} {X : World → Prop} {g p bm dev n : Nat} {d : Dv} {s : StU} {m : StoD}
def DropsR (D : DvP) (a : Nat → Addr) (w : World) (FX : Nat → Prop) (X : World → Prop) (g p bm dev n : Nat) (m : StoD) (d : Dv) (s : StU) (N : Nat) (e : Ending) (w' : World) : Prop :=
  (e = .returned .nilIface ∧ ∃ d', d'.pend = [] ∧ (d.stop = none → d'.stop = none) ∧ LiesM n d'.img (dropBelow N m) ∧ US D w FX X g p bm dev (usOf (dropBelow N m)) d' s w') ∨
  (d.stop ≠ none ∧ e = .returned (errAt (a 11)) ∧ ∃ us' d', d'.img.length = 64 * n ∧ Lost n d' (fun im => ∃ q, q ≤ N ∧ LiesM n im (dropBelow q m)) ∧ US D w FX X g p bm dev us' d' s w')
set_option maxRecDepth 100000 in
set_option maxHeartbeats 4000000 in
theorem udrop_any (hD : DvSpec (three a) D) (hX : Stays FX X) (hE : Errs w a) (hn : n ≤ 1000) (h : US D w FX X g p bm dev (usOf m) d s W) (hp : d.pend = []) (hL : LiesM n d.img m) (hs : OkS s) {l : List SegD} {z : SegD} (hm : m.segs = l ++ [z]) (hz : z.number ≤ 100000) :
    Calls Tryz.prog 107 #[.pointer (some ⟨g, 0, none⟩)] W (DropsR D a w FX X g p bm dev n m d s (s.pages.foldl (fun n p => min n p.seg) z.number)) := by
  have HU := Lib.hid h
  have HD := Lib.hid hD
  have HX := Lib.hid hX
  have HA := Lib.hid hs.segs
  have hul : (usOf m).length ≤ 1000 := by rw [usOf_len]; have := wf_len hL.wf; have := hL.places; omega
  have hlast : lastU (usOf m) = (z.number : Int) := by rw [lastU_is, hm, last_snoc]
  obtain ⟨_, c0, c1, c2, c3, _⟩ := h.unit.facts
  have CL := Lib.hid (by
    obtain ⟨Fd, Fs, vs, h1, h2, _⟩ := h
    have := last_any h2 hul
    rw [hlast] at this
    exact this)
  have HUl := Lib.hid hul
  obtain ⟨Z, hZ⟩ : ∃ Z, z.number = Z := ⟨_, rfl⟩
  rw [hZ] at CL hz ⊢
  have HO := Lib.hid hs.once
  obtain ⟨N, hN⟩ : ∃ N, s.pages.foldl (fun n p => min n p.seg) Z = N := ⟨_, rfl⟩
  have HN := Lib.hid hN
  rw [hN]
  have HNZ := Lib.hid (show N ≤ Z from by have := (needed_le s.pages Z).1; omega)
  clear hN
  go_enter Tryz.func107, Tryz.ntmps107
  go_wp2_with fail
  refine CL.out.mono ?_
  rintro e w1 ⟨rfl, k, hk⟩
  have hb1 : Below W.heap.size W w1 := by rw [hk]; exact u_drawn (Below.refl _ _) k
  have U1 := Lib.hid (HU.out.below HD.out HX.out hb1)
  clear hk hb1 c0 c1 c2 c3 h hD hX hs hul hlast CL
  obtain ⟨hg1, d0, d1, d2, d3, _⟩ := U1.out.unit.facts
  have hM := Lib.hid U1.out.unit.map
  go_wp2_with (at_range; refine wpList_range_pages _ hM.out rfl _ rfl rfl ?_; intro w0 left0 cnt0 hr0 hl0 hb0 hs0)
  go_frame
  have R0 := Lib.hid hr0
  have B0 := Lib.hid hb0
  have L0 := Lib.hid (show ∀ n, n ≤ Z ↔ n ≤ Z ∧ ∀ q ∈ s.pages, left0 (keyI q.adr) = false → n ≤ q.seg from fun n => ⟨fun h => ⟨h, fun q hq hl => by
    rw [hl0, List.any_eq_false] at hl
    exact absurd (beq_self_eq_true (q.adr : Int)) (hl q hq)⟩, fun h => h.1⟩)
  clear hr0 hb0 hl0
  go_loopw [3] (fun t wr => ∃ (left : Lit → Bool) (cnt T : Nat), t = .int .i64 (T : Int) ∧ T ≤ 100000 ∧ Hid (Rng wr bm w1.heap.size s.pages left cnt) ∧ Hid (∀ n, n ≤ T ↔ n ≤ Z ∧ ∀ q ∈ s.pages, left (keyI q.adr) = false → n ≤ q.seg) ∧ Hid (Below w1.heap.size w1 wr)) (fun _ wr => wr.rangeLeft bm w1.heap.size)
  case atStart => exact ⟨left0, cnt0, Z, rfl, hz, R0, L0, B0⟩
  case round =>
    clear R0 L0 B0
    obtain ⟨left, cnt, T, rfl, hT, hRg, hLe, hBr⟩ := hrel
    go_wp2_with (at_next; refine wpList_next_pages _ hRg.out rfl _ rfl rfl ?_ ?_)
    · intro hl
      have HE := Lib.hid (show T = N from by
        have h2 := needed_le s.pages Z
        rw [HN.out] at h2
        have h1 : ∀ n, n ≤ T ↔ n ≤ N := fun n => by
          rw [hLe.out n]
          constructor
          · rintro ⟨k1, k2⟩
            rcases h2.2.2 with h3 | ⟨q, hq, h3⟩
            · omega
            · have := k2 q hq (hl _); omega
          · exact fun k1 => ⟨by omega, fun q hq _ => by have := h2.2.1 q hq; omega⟩
        exact Nat.le_antisymm ((h1 _).1 (Nat.le_refl _)) ((h1 _).2 (Nat.le_refl _)))
      have U2 := Lib.hid (U1.out.below HD.out HX.out hBr.out)
      clear hl hLe hRg hBr HA d0 d1 d2 d3 hM HU U1
      obtain ⟨_, d0, d1, d2, d3, _⟩ := U2.out.unit.facts
      have CS := Lib.hid (by
        obtain ⟨Fd, Fs, vs, h1, h2, _⟩ := U2.out
        exact segments_any h2 HUl.out)
      go_wp2_with fail
      refine CS.out.mono ?_
      rintro e w3 ⟨v, rfl, hv, hb3⟩
      have U3 := Lib.hid (U2.out.row HD.out HX.out hb3 hv)
      have HX3 := Lib.hid (fun S rb cv => HX.out.row wr.heap.size 3 1 (.slice (some ⟨rb, 0, none⟩) S cv) S ((usOf m).map fun u => .int .i64 (u.no : Int)))
      clear hb3 hv d0 d1 d2 d3 U2 CS
      obtain ⟨S, hS⟩ : ∃ S, m.segs.length = S := ⟨_, rfl⟩
      have hS' : (usOf m).length = S := by rw [usOf_len, hS]
      have HS := Lib.hid hS
      have HSl := Lib.hid hS'
      obtain ⟨rb, cv, rfl⟩ : ∃ rb cv, v = .slice (some ⟨rb, 0, none⟩) S cv := by
        rcases U3.out.else'.2.2 with ⟨h1, h2⟩ | ⟨gg, cap, _, h1, _⟩
        · rw [hS', ← hS, hm] at h2
          simp at h2
        · exact ⟨gg, cap, by rw [h1, hS']⟩
      have U3 := Lib.hid (by
        have := U3.out
        rw [hS'] at this
        exact this)
      have HX3 := Lib.hid (HX3.out S rb cv)
      have HNo := Lib.hid (show ∀ (j : Nat) (h : j < m.segs.length), ((usOf m).map fun u => Value.int .i64 (u.no : Int))[j]? = some (.int .i64 ((m.segs[j]).number : Int)) from fun j h => by
        rw [List.getElem?_map]
        unfold usOf
        rw [List.getElem?_map, List.getElem?_eq_getElem h]
        rfl)
      have HLess := Lib.hid (fun (us : List SegU) (d : Dv) (Y : World) (hu : US D w (fun k => FX k ∨ (Value.slice (some ⟨rb, 0, none⟩) S cv).ownBlock = some k) (fun Y => X Y ∧ Y.ownsRow wr.heap.size 3 1 (.slice (some ⟨rb, 0, none⟩) S cv) S ((usOf m).map fun u => .int .i64 (u.no : Int))) g p bm dev us d s Y) =>
        (show US D w FX X g p bm dev us d s Y from hu.less (fun _ h => .inl h) (fun _ h => h.1)))
      have HRow := Lib.hid (fun (us : List SegU) (d : Dv) (Y : World) (hu : US D w (fun k => FX k ∨ (Value.slice (some ⟨rb, 0, none⟩) S cv).ownBlock = some k) (fun Y => X Y ∧ Y.ownsRow wr.heap.size 3 1 (.slice (some ⟨rb, 0, none⟩) S cv) S ((usOf m).map fun u => .int .i64 (u.no : Int))) g p bm dev us d s Y) => hu.else'.2)
      generalize hFX : (fun k => FX k ∨ (Value.slice (some ⟨rb, 0, none⟩) S cv).ownBlock = some k) = FR at *
      generalize hXR : (fun Y : World => X Y ∧ Y.ownsRow wr.heap.size 3 1 (.slice (some ⟨rb, 0, none⟩) S cv) S ((usOf m).map fun u => .int .i64 (u.no : Int))) = XR at *
      clear hFX hXR
      have HE3 := Lib.hid hE
      have HL3 := Lib.hid hL
      have HP3 := Lib.hid hp
      have HM3 := Lib.hid hm
      have HZ3 := Lib.hid hZ
      have U3' := Lib.hid (show US D w FR XR g p bm dev (usOf ⟨m.places, m.segs.drop 0⟩) d s w3 from U3.out)
      have HTN : (T : Int) = (N : Int) := by rw [HE.out]
      rw [HTN]
      clear hE hL hp hm hZ hS' hS U3 HTN
      go_wp2_with fail
      go_loopw [33] (fun i w4 => ∃ j : Nat, i = .int .i64 (j : Int) ∧ j ≤ S ∧ ∃ d1, Hid (d1.pend = [] ∧ (d.stop = none → d1.stop = none) ∧ (d1.stop ≠ none → d.stop ≠ none)) ∧ Hid (LiesM n d1.img ⟨m.places, m.segs.drop j⟩) ∧ Hid (∀ (i : Nat) (h : i < m.segs.length), i < j → (m.segs[i]).number < N) ∧ Hid (US D w FR XR g p bm dev (usOf ⟨m.places, m.segs.drop j⟩) d1 s w4)) (fun i _ => S - (intOf i).toNat)
      case atStart => exact ⟨0, rfl, Nat.zero_le _, d, Lib.hid ⟨HP3.out, id, id⟩, HL3, Lib.hid (fun i _ h => absurd h (Nat.not_lt_zero _)), U3'⟩
      case round =>
        obtain ⟨j, rfl, hj, d1, HP4, HL4, HB4, U4⟩ := hrel
        by_cases hjs : j < S
        rotate_left
        · exfalso
          have h1 := HB4.out l.length (by rw [HM3.out]; simp) (by have := HS.out; rw [HM3.out] at this; simp at this; omega)
          have h2 : m.segs[l.length]'(by rw [HM3.out]; simp) = z := by simp [HM3.out]
          rw [h2, HZ3.out] at h1
          have := HNZ.out
          omega
        have hjl : j < m.segs.length := by rw [HS.out]; exact hjs
        have hjm : S ≤ 1000 := by have := HUl.out; rw [HSl.out] at this; exact this
        obtain ⟨_, e0, e1, e2, e3, _⟩ := U4.out.unit.facts
        have er : wr.cell? ⟨rb, j, none⟩ = some (.int .i64 ((m.segs[j]).number : Int)) := by
          rw [(HRow.out _ _ _ U4.out).cellAt j (by omega)]
          exact HNo.out j hjl
        obtain ⟨q, hq⟩ : ∃ q, (m.segs[j]).number = q := ⟨_, rfl⟩
        have HQ := Lib.hid hq
        rw [hq] at er
        clear hq
        by_cases hNq : N ≤ q
        · have HD4 := Lib.hid (show dropBelow N m = ⟨m.places, m.segs.drop j⟩ from drop_at HB4.out (fun h => by have := HQ.out; omega) (Nat.le_of_lt hjl))
          go_wp2_with fail
          go_ret
          exact .inl ⟨rfl, d1, HP4.out.1, HP4.out.2.1, by rw [HD4.out]; exact HL4.out, by rw [HD4.out]; exact HLess.out _ _ _ U4.out⟩
        have hj1 : j + 1 < m.segs.length := by
          rcases Nat.lt_or_ge (j + 1) m.segs.length with h | h
          · exact h
          · exfalso
            have h2 : m.segs[j] = z := by
              have h4 : m.segs.length = l.length + 1 := by rw [HM3.out]; simp
              have h3 : j = l.length := by omega
              subst h3
              simp [HM3.out]
            have h5 := HQ.out
            rw [h2, HZ3.out] at h5
            have := HNZ.out
            omega
        obtain ⟨x, hx⟩ : ∃ x, m.segs[j] = x := ⟨_, rfl⟩
        obtain ⟨y, hy⟩ : ∃ y, m.segs[j + 1] = y := ⟨_, rfl⟩
        have hdr : m.segs.drop j = x :: y :: m.segs.drop (j + 2) := by rw [List.drop_eq_getElem_cons hjl, hx, List.drop_eq_getElem_cons hj1, hy]
        have hdr1 : m.segs.drop (j + 1) = y :: m.segs.drop (j + 2) := by rw [List.drop_eq_getElem_cons hj1, hy]
        have hxq : x.number = q := by rw [← hx]; exact HQ.out
        have CD := Lib.hid (by
          have h1 := U4.out
          have h2 := HL4.out
          rw [hdr] at h1 h2
          have := US.drop1 HD.out HX3.out HE3.out hn h1 HP4.out.1 h2
          rw [← hdr, ← hdr1, hxq] at this
          exact this)
        have HRise := Lib.hid (List.pairwise_iff_getElem.1 HL3.out.wf.rise)
        have HB5 := Lib.hid (show ∀ (i : Nat) (h : i < m.segs.length), i < j + 1 → (m.segs[i]).number < q + 1 from fun i h hi => by
          by_cases e : i = j
          · subst e; have := HQ.out; omega
          · have := HRise.out i j (by simpa using h) (by simpa using hjl) (by omega)
            rw [List.getElem_map, List.getElem_map] at this
            have := HQ.out
            omega)
        have HL5 := Lib.hid (show dropBelow q m = ⟨m.places, m.segs.drop j⟩ from drop_at (fun i h hi => by
          have := HRise.out i j (by simpa using h) (by simpa using hjl) hi
          rw [List.getElem_map, List.getElem_map] at this
          have := HQ.out
          omega) (fun h => by have := HQ.out; omega) (Nat.le_of_lt hjl))
        have HL6 := Lib.hid (show dropBelow (q + 1) m = ⟨m.places, m.segs.drop (j + 1)⟩ from drop_at HB5.out (fun h => by
          have := HRise.out j (j + 1) (by simpa using hjl) (by simpa using h) (Nat.lt_succ_self _)
          rw [List.getElem_map, List.getElem_map] at this
          have := HQ.out
          omega) (Nat.le_of_lt hj1))
        clear hx hy hdr hdr1 hxq
        go_wp2_with fail
        refine CD.out.mono ?_
        rintro e w5 (⟨rfl, d2, h1, h2, h3, h4⟩ | ⟨h0, rfl, d2, h1, h2, h3⟩)
        · have HP6 := Lib.hid (show d2.pend = [] ∧ (d.stop = none → d2.stop = none) ∧ (d2.stop ≠ none → d.stop ≠ none) from ⟨h1, fun h => h2 (HP4.out.2.1 h), fun h hh => h (h2 (HP4.out.2.1 hh))⟩)
          have H3 := Lib.hid h3
          have H4 := Lib.hid h4
          have HB6 := Lib.hid (show ∀ (i : Nat) (h : i < m.segs.length), i < j + 1 → (m.segs[i]).number < N from fun i h hi => by have := HB5.out i h hi; omega)
          clear h1 h2 h3 h4 e0 e1 e2 e3 er
          go_wp2_with fail
          go_roundw
          case rel => exact ⟨j + 1, by go_num, by omega, d2, HP6, H3, HB6, H4⟩
          case measure => simp only [intOf]; omega
        · have H0 := Lib.hid (HP4.out.2.2 h0)
          have H1 := Lib.hid h1
          have H2 := Lib.hid h2
          have H3 := Lib.hid h3
          clear h0 h1 h2 h3 e0 e1 e2 e3 er
          go_wp2_with fail
          go_ret
          refine .inr ⟨H0.out, rfl, _, d2, H1.out, fun xs hx hf => ?_, HLess.out _ _ _ H3.out⟩
          rcases H2.out xs hx hf with h | h
          · exact ⟨q, by omega, by rw [HL5.out]; exact h⟩
          · exact ⟨q + 1, by omega, by rw [HL6.out]; exact h⟩
    · intro q w2 cnt1 hq hlq hr1 hlt hk1 hs1 hen
      have hqa := HA.out q hq
      have hba := (Below.refl w2.heap.size w2).alloc (Nat.le_refl _) (.cells #[.string ⟨q.bs.toArray⟩, .int .i64 (q.seg : Int)] 171)
      have hr2 := hr1.kept (F := fun _ => False) (Kept.of_below hba) (fun h => h) (fun h => h)
      have R1 := Lib.hid hr2
      have hb2 := hBr.out.trans (hk1.below hBr.out.size (fun i hi => by rw [show i = w1.heap.size from hi]; exact Nat.le_refl _))
      have B1 := Lib.hid (hb2.trans (hba.mono hb2.size))
      have L1 := Lib.hid (show ∀ n, n ≤ (if q.seg < T then q.seg else T) ↔ n ≤ Z ∧ ∀ q' ∈ s.pages, (left (keyI q'.adr) && !(keyI q'.adr).sameKey (keyI q.adr)) = false → n ≤ q'.seg from fun n => by
        constructor
        · intro h
          have h2 := (hLe.out n).1 (by split at h <;> omega)
          refine ⟨h2.1, fun q' hq' hl' => ?_⟩
          rcases left_no.1 hl' with h3 | h3
          · exact h2.2 q' hq' h3
          · rw [once_inj HO.out hq' hq (by omega)]
            split at h <;> omega
        · rintro ⟨h1, h2⟩
          have h3 := (hLe.out n).2 ⟨h1, fun q' hq' hl' => h2 q' hq' (left_no.2 (.inl hl'))⟩
          have h4 := h2 q hq (left_no.2 (.inr rfl))
          split <;> omega)
      have HM := Lib.hid (show wr.rangeLeft bm w1.heap.size = cnt from hRg.out.left_eq)
      have HM1 := Lib.hid hr2.left_eq
      clear hr1 hk1 hq hlq hba hb2 hr2
      go_wp2_with fail
      go_roundw
      case rel => exact ⟨_, cnt1, if q.seg < T then q.seg else T, by split <;> rfl, by split <;> omega, R1, L1, B1⟩
      case measure => rw [HM.out, HM1.out]; exact hlt
end
end Go.Proofs.YtiafamacjpgjoaaGreatDoor

/- Package unit's Trim. -/
namespace Go.Proofs.YtiafamacjpgjoaaGreatDoor
open Go Go.RowKit Go.Shelf Tide

def whyT (s : StU) (ep to : Int) : Nat := checkD s.epoch ep to 4096
def trimRec (s : StU) (t : Nat) : RecU := ⟨2, t, s.epoch, []⟩
def needS (s : StU) (z : Nat) : Nat := s.pages.foldl (fun n p => min n p.seg) z
section
variable {D : DvP} {a : Nat → Addr} {w W : World} {FX : Nat → Prop} {X : World → Prop} {g p bm dev n N : Nat} {d : Dv} {s : StU} {m : StoD}
theorem forget_ok {s : StU} (h : OkS s) : OkS (forgetU s) := ⟨h.trimmed, h.epoch, fun q hq => h.adrs q (List.mem_filter.1 hq).1, fun q hq => h.segs q (List.mem_filter.1 hq).1, h.once.sublist (List.Sublist.map _ List.filter_sublist)⟩
theorem count_trim (s : StU) (t g : Nat) : countU s (trimRec s t) g = { s with trimmed := t } := by
  unfold countU trimRec
  rw [if_neg (show ¬ (2 : Nat) = 1 by decide), if_pos rfl]
def TrimR (D : DvP) (a : Nat → Addr) (w : World) (FX : Nat → Prop) (X : World → Prop) (g p bm dev n : Nat) (m : StoD) (d : Dv) (s : StU) (ep to : Int) (e : Ending) (w' : World) : Prop :=
  (whyT s ep to ≠ 0 ∧ (∃ x, e = .returned x ∧ IsErr a x (whyT s ep to)) ∧ US D w FX X g p bm dev (usOf m) d s w') ∨
  (whyT s ep to = 0 ∧ to ≤ s.trimmed ∧ e = .returned .nilIface ∧ US D w FX X g p bm dev (usOf m) d s w') ∨
  (whyT s ep to = 0 ∧ s.trimmed < to ∧ (∃ k, (appendDv (usOf m) d (encR (trimRec s to.toNat))).1 = some k ∧ e = .returned (errAt (a k))) ∧ US D w FX X g p bm dev (appendDv (usOf m) d (encR (trimRec s to.toNat))).2.2.1 (appendDv (usOf m) d (encR (trimRec s to.toNat))).2.2.2 s w') ∨
  (whyT s ep to = 0 ∧ s.trimmed < to ∧ ∃ no d', appendDv (usOf m) d (encR (trimRec s to.toNat)) = (none, no, usOf (appendD m (encR (trimRec s to.toNat))).1, d') ∧ (appendD m (encR (trimRec s to.toNat))).2 = ((no : Int), 0) ∧ LiesM n d'.img (appendD m (encR (trimRec s to.toNat))).1 ∧ d'.pend = [] ∧ (d.stop = none → d'.stop = none) ∧
    DropsR D a w FX X g p bm dev n (appendD m (encR (trimRec s to.toNat))).1 d' (forgetU { s with trimmed := to.toNat }) (needS (forgetU { s with trimmed := to.toNat }) no) e w')
theorem ok_us (hL : LiesM n d.img m) (hn : n ≤ 1000) (hN : NumLe N m) (hNl : N ≤ 100000) : OkU (d.img.length / 64) (usOf m) := by
  have h1 := wf_len hL.wf
  have h2 := hL.places
  have h3 := hL.len
  refine ⟨by rw [usOf_len]; omega, fun u hu => ?_, ?_⟩
  · obtain ⟨g, hg, rfl⟩ := List.mem_map.1 hu
    have h4 := hL.on hg
    have h5 : endG g ≤ 64 * g.place + 64 := by
      have := (hL.wf.recs g hg).2.1
      unfold endG
      omega
    simp only
    refine ⟨by omega, by unfold endG; omega, by omega⟩
  · rw [lastU_is]
    have := hN.last
    refine ⟨?_, by omega⟩
    unfold lastNo
    cases m.segs.getLast? with
    | none => simp
    | some g => simp only; omega
set_option maxRecDepth 100000 in
set_option maxHeartbeats 4000000 in
theorem utrim_any (hD : DvSpec (three a) D) (hX : Stays FX X) (hE : Errs w a) (hn : n ≤ 1000) (h : US D w FX X g p bm dev (usOf m) d s W) (hpe : d.pend = []) (hL : LiesM n d.img m) (hN : NumLe N m) (hNl : N ≤ 90000) (hs : OkS s) (ep to : Int) :
    Calls Tryz.prog 75 #[.pointer (some ⟨g, 0, none⟩), .int .i64 ep, .int .i64 to] W (TrimR D a w FX X g p bm dev n m d s ep to) := by
  have hEW := hE.below h.since
  have hok := ok_us hL hn hN (by omega)
  have CA := Lib.hid (admit_any h.unit hEW ep to 4096)
  obtain ⟨k, hk⟩ : ∃ k, checkD s.epoch ep to 4096 = k := ⟨_, rfl⟩
  have HK := Lib.hid hk
  rw [hk] at CA
  have HW0 := Lib.hid h
  obtain ⟨_, c0, c1, c2, c3, _⟩ := h.unit.facts
  have HLie := Lib.hid (append_lies hL (by have := hN.last; omega))
  have HNum := Lib.hid (fun b => append_num (b := b) hN)
  have HRe := Lib.hid (fun b => append_recs (m := m) (b := b))
  have HPut := Lib.hid (fun t ht => uput_any hD hX hE (u_ng hE) h hpe hok hs (trimRec s t) (.inr (.inl ⟨rfl, ht, hs.epoch⟩)))
  have HD := Lib.hid hD
  have HX := Lib.hid hX
  have HE := Lib.hid hE
  have HS := Lib.hid hs
  clear h hEW hD hX hE hs hok hpe hk hL hN
  go_enter Tryz.func75, Tryz.ntmps75
  go_wp2_with fail
  refine CA.out.mono ?_
  rintro e w1 ⟨x, rfl, hx, rfl⟩
  by_cases hk0 : k = 0
  rotate_left
  · have HR := Lib.hid (show whyT s ep to = k from HK.out)
    have HIx := Lib.hid hx
    obtain ⟨ad, rfl⟩ := isErr_pos hx hk0
    have HK0 := Lib.hid hk0
    clear hx hk0
    go_wp2_with fail
    go_ret
    exact .inl ⟨by rw [HR.out]; exact HK0.out, ⟨_, rfl, by rw [HR.out]; exact HIx.out⟩, HW0.out⟩
  obtain rfl := isErr_zero hx hk0
  subst hk0
  have hc := check_zero HK.out
  have HR := Lib.hid (show whyT s ep to = 0 from HK.out)
  clear hx HK CA
  obtain ⟨t, rfl⟩ : ∃ t : Nat, to = t := ⟨to.toNat, by omega⟩
  have ht : t ≤ 4096 := by omega
  by_cases q1 : (t : Int) ≤ (s.trimmed : Int)
  · have HQ := Lib.hid q1
    go_wp2_with fail
    go_ret
    exact .inr (.inl ⟨HR.out, HQ.out, rfl, HW0.out⟩)
  have HQ := Lib.hid (show (s.trimmed : Int) < (t : Int) from by omega)
  have HPut2 := Lib.hid (show Calls Tryz.prog 61 #[.pointer (some ⟨g, 0, none⟩), .agg #[.int .i64 2, .int .i64 (t : Int), .int .i64 (s.epoch : Int), .string ⟨#[]⟩]] W (PutR D a w FX X g p bm dev (usOf m) d s (trimRec s t)) from HPut.out t ht)
  clear HPut
  go_wp2_with fail
  refine HPut2.out.mono ?_
  rintro e w2 ⟨rfl, hU⟩
  have hlie := HLie.out (encR (trimRec s t))
  obtain ⟨ap, hap⟩ : ∃ ap, appendDv (usOf m) d (encR (trimRec s t)) = ap := ⟨_, rfl⟩
  have HAp := Lib.hid hap
  rw [hap] at hU hlie
  rw [hap]
  obtain ⟨er, no, us', d'⟩ := ap
  simp only at hU hlie ⊢
  clear hap HPut2
  cases er with
  | some k =>
    rw [if_neg (by simp)] at hU
    have U2 := Lib.hid hU
    have hne : (errV a (some k) : Value) = errAt (a k) := rfl
    rw [hne]
    clear hU hlie
    go_wp2_with fail
    go_ret
    exact .inr (.inr (.inl ⟨HR.out, HQ.out, ⟨k, by rw [Int.toNat_natCast, HAp.out], rfl⟩, by rw [Int.toNat_natCast, HAp.out]; exact U2.out⟩))
  | none =>
    have hne : (errV a none : Value) = .nilIface := rfl
    rw [hne]
    rw [if_pos rfl, count_trim] at hU
    rcases hlie with ⟨er, h1, _⟩ | ⟨no', dd, h1, h2, h3, h4, h5⟩ | ⟨_, _, h1, _⟩
    · cases h1
    rotate_left
    · cases h1
    injection h1 with _ h1
    injection h1 with e1 h1
    injection h1 with e2 e3
    subst e1 e2 e3
    obtain ⟨mb, hmb⟩ : ∃ mb, (appendD m (encR (trimRec s t))).1 = mb := ⟨_, rfl⟩
    have hnum := HNum.out (encR (trimRec s t))
    have hrec := HRe.out (encR (trimRec s t)) (by rw [h2])
    rw [hmb] at hU h3 hnum hrec
    have HMb := Lib.hid hmb
    have HH2 := Lib.hid h2
    have H3 := Lib.hid h3
    have H4 := Lib.hid h4
    have H5 := Lib.hid h5
    obtain ⟨no2, e4, _, l, z, hseg, hzn⟩ := hrec
    rw [h2] at e4
    have hzno : z.number = no := by
      have : (no : Int) = (no2 : Int) := e4
      omega
    have hzle : z.number ≤ 100000 := by
      have := hnum z (by rw [hseg]; simp)
      omega
    have U2 := Lib.hid hU
    have CF := Lib.hid (forget_any hU.unit ⟨ht, HS.out.epoch, HS.out.adrs, HS.out.segs, HS.out.once⟩)
    have HOk := Lib.hid (forget_ok (s := { s with trimmed := t }) ⟨ht, HS.out.epoch, HS.out.adrs, HS.out.segs, HS.out.once⟩)
    obtain ⟨s', hs'⟩ : ∃ s', forgetU { s with trimmed := t } = s' := ⟨_, rfl⟩
    have HS' := Lib.hid hs'
    rw [hs'] at CF HOk
    have HSeg := Lib.hid hseg
    have HZn := Lib.hid hzno
    have HZl := Lib.hid hzle
    clear hU h2 h3 h4 h5 hmb hs' hseg hzno hzle e4 hzn hnum c0 c1 c2 c3
    obtain ⟨_, c0, c1, c2, c3, _⟩ := U2.out.unit.facts
    go_wp2_with fail
    refine CF.out.mono ?_
    rintro e w3 ⟨rfl, hu, hk⟩
    have U3 := Lib.hid (U2.out.own HD.out HX.out (hk.mono (fun k _ h => .inr h)) hu)
    have CD := Lib.hid (udrop_any HD.out HX.out HE.out hn U3.out H4.out H3.out HOk.out HSeg.out HZl.out)
    rw [HZn.out] at CD
    clear hu hk c0 c1 c2 c3
    go_wp2_with fail
    refine CD.out.mono ?_
    rintro e w4 hr
    have HFin := Lib.hid (show TrimR D a w FX X g p bm dev n m d s ep t e w4 from .inr (.inr (.inr ⟨HR.out, HQ.out, no, d', by rw [Int.toNat_natCast, HAp.out, HMb.out], by rw [Int.toNat_natCast]; exact HH2.out, by rw [Int.toNat_natCast, HMb.out]; exact H3.out, H4.out, H5.out, by
      rw [Int.toNat_natCast, HMb.out, HS'.out]; exact hr⟩)))
    rcases hr with ⟨rfl, _⟩ | ⟨_, rfl, _⟩
    · go_wp2_with fail
      go_ret
      exact HFin.out
    · go_wp2_with fail
      go_ret
      exact HFin.out
end
end Go.Proofs.YtiafamacjpgjoaaGreatDoor

/- Opening a unit, ahead of the walk: a device alone; right records; a unit's own blocks and what is read. -/
namespace Go.Proofs.YtiafamacjpgjoaaGreatDoor
open Go Go.RowKit Go.Shelf Tide

def UD (D : DvP) (w : World) (FX : Nat → Prop) (X : World → Prop) (dev : Nat) (d : Dv) (W : World) : Prop :=
  ∃ Fd, D W Fd dev d ∧ (∀ k, Fd k → ¬ FX k ∧ w.heap.size ≤ k ∧ k < W.heap.size) ∧ (∀ k, FX k → k < W.heap.size) ∧ Below w.heap.size w W ∧ X W
section
variable {D : DvP} {x : Nat → Addr} {w W W' : World} {FX : Nat → Prop} {X : World → Prop} {g p bm dev : Nat} {us : List SegU} {d : Dv} {s : StU}
theorem UD.below (hD : DvSpec x D) (hX : Stays FX X) (h : UD D w FX X dev d W) (hb : Below W.heap.size W W') : UD D w FX X dev d W' := by
  obtain ⟨Fd, h1, h2, h3, h4, h5⟩ := h
  have hz := hb.size
  exact ⟨Fd, hD.keep _ _ _ (fun _ => False) _ _ h1 (Kept.of_below hb) (fun _ _ h => h), fun k hk => ⟨(h2 k hk).1, (h2 k hk).2.1, Nat.lt_of_lt_of_le (h2 k hk).2.2 hz⟩, fun k hk => Nat.lt_of_lt_of_le (h3 k hk) hz, h4.trans (hb.mono h4.size), hX _ _ (fun _ => False) h5 h3 (Kept.of_below hb) (fun _ _ h => h)⟩
theorem bytes_own (hu : UnW W g p bm s) (hk : Kept (fun k => k = g ∨ k = bm) W W') {B : Nat} (hB : B ≤ W.heap.size) {v : Value} {l : List UInt8} (h : Bytes W B v l) : Bytes W' B v l := by
  obtain ⟨hn, A, c, rfl, h1, h2, hc⟩ := h
  refine ⟨hn, A, c, rfl, h1, h2, fun hx => ?_⟩
  obtain ⟨b, o, e, hb, hcell⟩ := hc hx
  refine ⟨b, o, e, hb, fun j u hu2 => ?_⟩
  have h0 := hcell j u hu2
  obtain ⟨y, hy⟩ : ∃ y : UInt8, u = .int .u8 (y.toNat : Int) := by
    have h3 := List.mem_of_getElem? hu2
    unfold u8s at h3
    obtain ⟨y, _, rfl⟩ := List.mem_map.1 h3
    exact ⟨y, rfl⟩
  subst hy
  rw [hk.cell (p := ⟨b, o + j, none⟩) (by show b < _; omega) (fun e => ?_)]
  · exact h0
  · rcases e with e | e
    · simp only at e
      subst e
      rw [cell_of_row _ _ _ _ _ _ hu.cells] at h0
      have h9 := Array.mem_of_getElem? h0
      simp at h9
    · simp only at e
      subst e
      obtain ⟨D, ⟨es, clock, k1, _⟩, _⟩ := hu.map
      unfold World.cell? at h0
      rw [show W.heap[(⟨b, o + j, none⟩ : Addr).block]? = _ from k1] at h0
      simp at h0
theorem parts_own (hu : UnW W g p bm s) (hk : Kept (fun k => k = g ∨ k = bm) W W') {B : Nat} (hB : B ≤ W.heap.size) {v : Value} {l : List (List UInt8)} (h : Parts W B v l) : Parts W' B v l := by
  obtain ⟨vs, ⟨hn, A, c, rfl, h1, h2, hc⟩, hlen, h3⟩ := h
  refine ⟨vs, ⟨hn, A, c, rfl, h1, h2, fun hx => ?_⟩, hlen, fun i u q hu2 hq => bytes_own hu hk hB (h3 i u q hu2 hq)⟩
  obtain ⟨b, o, e, hb, hcell⟩ := hc hx
  refine ⟨b, o, e, hb, fun j u hu2 => ?_⟩
  have h0 := hcell j u hu2
  have hj : j < l.length := by
    rw [← hlen]
    exact (List.getElem?_eq_some_iff.1 hu2).1
  obtain ⟨A', c', rfl, _⟩ := (h3 j u l[j] hu2 (List.getElem?_eq_getElem hj)).form
  rw [hk.cell (p := ⟨b, o + j, none⟩) (by show b < _; omega) (fun e => ?_)]
  · exact h0
  · rcases e with e | e
    · simp only at e
      subst e
      rw [cell_of_row _ _ _ _ _ _ hu.cells] at h0
      have h9 := Array.mem_of_getElem? h0
      simp at h9
    · simp only at e
      subst e
      obtain ⟨D, ⟨es, clock, k1, _⟩, _⟩ := hu.map
      unfold World.cell? at h0
      rw [show W.heap[(⟨b, o + j, none⟩ : Addr).block]? = _ from k1] at h0
      simp at h0
theorem rread_any (a : Nat → Addr) (W : World) (v : Value) (B : Nat) (r : RecU) (hg : GoodR r) (hn : NormR r) (hE : Errs W a) (hv : Bytes W B v (encR r)) (hB : B ≤ W.heap.size) :
    Calls Tryz.prog 80 #[v] W fun e w' => e = .returned (.tuple #[recV r, .nilIface]) ∧ Below W.heap.size W w' := by
  have hlen := encR_len hg
  obtain ⟨kind, adr, ep, page⟩ := r
  rcases hg with ⟨h1, h2, h3, h4⟩ | ⟨h1, h2, h3⟩ | ⟨h1, h2⟩
  · simp only at h1 h2 h3 h4
    subst h1
    have he : ep = 0 := hn.1 rfl
    subst he
    exact uread1 a W v B adr ⟨page.toArray⟩ h2 h3 h4 hE _ (by unfold encR text7; simp; rfl) (by omega) hv hB
  · simp only at h1 h2 h3
    subst h1
    have hp : page = [] := hn.2.1 (show ¬ (2 : Nat) = 1 by decide)
    subst hp
    exact uread2 a W v B adr ep h2 h3 hE _ (by unfold encR; simp) (by omega) hv hB
  · simp only at h1 h2
    subst h1
    have hp : page = [] := hn.2.1 (show ¬ (3 : Nat) = 1 by decide)
    have ha : adr = 0 := hn.2.2 rfl
    subst hp ha
    exact uread3 a W v B ep h2 hE _ (by unfold encR; simp) (by omega) hv hB
end
def decR (b : List UInt8) : RecU := (readRec b).getD ⟨0, 0, 0, []⟩
def recsL (gs : List SegD) : List (RecU × Nat) := gs.flatMap fun g => g.recs.map fun b => (decR b, g.number)
def RightM (m : StoD) : Prop := ∀ g ∈ m.segs, ∀ b ∈ g.recs, GoodR (decR b) ∧ NormR (decR b) ∧ encR (decR b) = b
theorem dec_enc {r : RecU} (hg : GoodR r) (hn : NormR r) : decR (encR r) = r := by unfold decR; rw [read_enc hg hn]; rfl
theorem recsL_with (gs : List SegD) : recsL gs = (recsWith gs).map fun x => (decR x.1, x.2) := by
  unfold recsL recsWith
  rw [List.map_flatMap]
  congr 1
  funext g
  rw [List.map_map]
  rfl
theorem recsL_is {gs : List SegD} {l : List (RecU × Nat)} (h : recsWith gs = l.map fun x => (encR x.1, x.2)) (hg : ∀ x ∈ l, GoodR x.1) (hn : ∀ x ∈ l, NormR x.1) : recsL gs = l := by
  rw [recsL_with, h, List.map_map]
  conv => rhs; rw [← List.map_id l]
  apply List.map_congr_left
  intro x hx
  show (decR (encR x.1), x.2) = x
  rw [dec_enc (hg x hx) (hn x hx)]
theorem right_of {m : StoD} {l : List (RecU × Nat)} (h : recsWith m.segs = l.map fun x => (encR x.1, x.2)) (hg : ∀ x ∈ l, GoodR x.1) (hn : ∀ x ∈ l, NormR x.1) : RightM m := fun g hgm b hb => by
  have h1 : (b, g.number) ∈ recsWith m.segs := by
    unfold recsWith
    exact List.mem_flatMap.2 ⟨g, hgm, List.mem_map.2 ⟨b, hb, rfl⟩⟩
  rw [h] at h1
  obtain ⟨x, hx, he⟩ := List.mem_map.1 h1
  injection he with e1 e2
  rw [← e1, dec_enc (hg x hx) (hn x hx)]
  exact ⟨hg x hx, hn x hx, rfl⟩
theorem recsL_snoc (gs : List SegD) (g : SegD) : recsL (gs ++ [g]) = recsL gs ++ g.recs.map fun b => (decR b, g.number) := by
  unfold recsL
  rw [List.flatMap_append]
  simp
theorem count_ok {s : StU} (h : OkS s) {r : RecU} (hr : GoodR r) {g : Nat} (hg : g ≤ 100000) : OkS (countU s r g) := by
  unfold countU
  by_cases hk : r.kind = 1
  · rw [if_pos hk]
    cases hh : hasU s r.adr with
    | true => exact h
    | false =>
      rw [if_neg (by decide)]
      have ha : r.adr ≤ 4095 := by
        rcases hr with ⟨_, h2, _⟩ | ⟨h1, _⟩ | ⟨h1, _⟩
        · exact h2
        · omega
        · omega
      refine ⟨h.trimmed, h.epoch, fun q hq => ?_, fun q hq => ?_, ?_⟩
      · rcases List.mem_append.1 hq with hq | hq
        · exact h.adrs q hq
        · simp only [List.mem_singleton] at hq
          subst hq
          exact ha
      · rcases List.mem_append.1 hq with hq | hq
        · exact h.segs q hq
        · simp only [List.mem_singleton] at hq
          subst hq
          exact hg
      · simp only [List.map_append, List.map_cons, List.map_nil]
        rw [List.nodup_append]
        refine ⟨h.once, by simp, fun x hx y hy e => ?_⟩
        obtain ⟨q, hq, rfl⟩ := List.mem_map.1 hx
        simp only [List.mem_singleton] at hy
        unfold hasU at hh
        rw [List.any_eq_false] at hh
        exact hh q hq (by simp [e, hy])
  · rw [if_neg hk]
    split
    · rename_i h2
      have : r.adr ≤ 4096 ∧ r.ep ≤ 1073741824 := by
        rcases hr with ⟨h1, _⟩ | ⟨_, h3, h4⟩ | ⟨h1, _⟩
        · omega
        · exact ⟨h3, h4⟩
        · omega
      exact ⟨this.1, this.2, h.adrs, h.segs, h.once⟩
    · rename_i h2
      have : r.ep ≤ 1073741824 := by
        rcases hr with ⟨h1, _⟩ | ⟨h1, _⟩ | ⟨_, h3⟩
        · omega
        · omega
        · exact h3
      exact ⟨h.trimmed, this, h.adrs, h.segs, h.once⟩
theorem replay_ok : ∀ (l : List (RecU × Nat)), (∀ x ∈ l, GoodR x.1 ∧ x.2 ≤ 100000) → OkS (replayU l) := by
  refine snoc_cases _ (fun _ => ⟨Nat.zero_le _, Nat.zero_le _, fun q hq => (by cases hq), fun q hq => (by cases hq), List.nodup_nil⟩) fun l x ih h => ?_
  rw [replay_snoc]
  exact count_ok (ih fun y hy => h y (by simp [hy])) (h x (by simp)).1 (h x (by simp)).2
end Go.Proofs.YtiafamacjpgjoaaGreatDoor

/- Opening a unit. -/
namespace Go.Proofs.YtiafamacjpgjoaaGreatDoor
open Go Go.RowKit Go.Shelf Tide

section
variable {D : DvP} {a : Nat → Addr} {w W : World} {FX : Nat → Prop} {X : World → Prop} {dev n N : Nat} {d : Dv} {m : StoD}
theorem US.made {x : Nat → Addr} {us : List SegU} {w1 : World} {Fd Fs : Nat → Prop} {p : Nat} {vs : Value} (hD : DvSpec x D) (hX : Stays FX X) (hU : UD D w FX X dev d w1) (hd : D w1 Fd dev d) (h2 : ∀ k, Fd k → ¬ FX k ∧ w.heap.size ≤ k ∧ k < W.heap.size) (h3 : ∀ k, FX k → k < W.heap.size) (hs : StW w1 Fs p dev us vs) (hf : ∀ k, Fs k → W.heap.size ≤ k) (hb : Below W.heap.size W w1) (hW : w.heap.size ≤ W.heap.size) :
    US D w FX X (w1.heap.size + 1) p w1.heap.size dev us d ⟨[], 0, 0⟩ ((w1.alloc (.map #[] 0)).alloc (.cells #[.pointer (some ⟨p, 0, none⟩), .map (some w1.heap.size), .int .i64 0, .int .i64 0] 112)) := by
  have hz := hb.size
  have hlt := hD.lt _ _ _ _ hd
  have hlt2 := hs.lt
  obtain ⟨W2, hW2⟩ : ∃ W2, w1.alloc (.map #[] 0) = W2 := ⟨_, rfl⟩
  have hb1 : Below w1.heap.size w1 W2 := by rw [← hW2]; exact (Below.refl _ _).alloc (Nat.le_refl _) _
  have hz2 : W2.heap.size = w1.heap.size + 1 := by rw [← hW2, World.size_alloc]
  have hmap : PMap W2 w1.heap.size [] := by
    rw [← hW2]
    exact ⟨.map [], own_least (World.ownsMap_made w1 Tryz.prog 3 pageElem), Agr.nil⟩
  rw [hW2]
  clear hW2
  have hb2 := (Below.refl W2.heap.size W2).alloc (Nat.le_refl _) (.cells #[.pointer (some ⟨p, 0, none⟩), .map (some w1.heap.size), .int .i64 0, .int .i64 0] 112)
  have hnew := heap_alloc_new W2 (.cells #[.pointer (some ⟨p, 0, none⟩), .map (some w1.heap.size), .int .i64 0, .int .i64 0] 112)
  have hz3 : (W2.alloc (.cells #[.pointer (some ⟨p, 0, none⟩), .map (some w1.heap.size), .int .i64 0, .int .i64 0] 112)).heap.size = W2.heap.size + 1 := World.size_alloc _ _
  generalize W2.alloc (.cells #[.pointer (some ⟨p, 0, none⟩), .map (some w1.heap.size), .int .i64 0, .int .i64 0] 112) = W3 at hb2 hnew hz3 ⊢
  have hb3 : Below w1.heap.size w1 W3 := hb1.trans (hb2.mono (by omega))
  have hx := (hU.below hD hX hb3)
  obtain ⟨_, _, _, _, hsin, hxw⟩ := hx
  refine ⟨Fd, Fs, vs, hD.keep _ _ _ (fun _ => False) _ _ hd (Kept.of_below hb3) (fun _ _ h => h), hs.below hb3, ⟨by rw [← hz2]; exact hnew, hmap.kept (F := fun _ => False) (Kept.of_below hb2) (fun h => h)⟩, fun k h4 h5 => ?_, ⟨fun h => ?_, fun h => ?_⟩, fun k hk => ?_, fun k hk => ?_, hsin, hxw⟩
  · have := (h2 k h4).2.2
    have := hf k h5
    omega
  · rcases h with h | h
    · have := hlt _ h; omega
    · have := hlt2 _ h; omega
  · rcases h with h | h
    · have := hlt _ h; omega
    · have := hlt2 _ h; omega
  · rcases hk with hk | hk | hk | hk
    · have := h2 k hk
      exact ⟨this.1, this.2.1, by omega⟩
    · have h4 := hf k hk
      exact ⟨fun h => by have := h3 k h; omega, by omega, by have := hlt2 k hk; omega⟩
    · exact ⟨fun h => by have := h3 k h; omega, by omega, by omega⟩
    · exact ⟨fun h => by have := h3 k h; omega, by omega, by omega⟩
  · have := h3 k hk
    omega
theorem recsL_take {gs : List SegD} {i j : Nat} {g : SegD} {b : List UInt8} (hj : g.recs[j]? = some b) :
    replayU (recsL (gs.take i) ++ (g.recs.take (j + 1)).map fun b => (decR b, g.number)) = countU (replayU (recsL (gs.take i) ++ (g.recs.take j).map fun b => (decR b, g.number))) (decR b) g.number := by
  rw [List.take_add_one, hj]
  simp only [Option.toList_some, List.map_append, List.map_cons, List.map_nil]
  rw [← List.append_assoc, replay_snoc]
theorem recsL_next {gs : List SegD} {i : Nat} {g : SegD} (hi : gs[i]? = some g) : recsL (gs.take (i + 1)) = recsL (gs.take i) ++ g.recs.map fun b => (decR b, g.number) := by
  rw [List.take_add_one, hi]
  simp only [Option.toList_some]
  rw [recsL_snoc]
theorem recsOf_at {n : Nat} {im : List UInt8} {m : StoD} (h : LiesM n im m) {i : Nat} (hi : i < m.segs.length) : recsU im (usOf m) ((m.segs[i]).number : Int) = (m.segs[i]).recs := by
  rw [recs_is h]
  unfold recsOf
  rcases find_is h.wf ((m.segs[i]).number : Int) with ⟨h1, _⟩ | ⟨k, hk, h0, _, _, h1, _⟩
  · exact absurd rfl (h1 _ (List.getElem_mem hi))
  · rw [h1]
    have h2 := List.pairwise_iff_getElem.1 h.wf.rise
    have : k = i := by
      rcases Nat.lt_trichotomy k i with h3 | h3 | h3
      · have := h2 k i (by simpa using hk) (by simpa using hi) h3
        rw [List.getElem_map, List.getElem_map] at this
        omega
      · exact h3
      · have := h2 i k (by simpa using hi) (by simpa using hk) h3
        rw [List.getElem_map, List.getElem_map] at this
        omega
    subst this
    rfl
theorem part_ok {N : Nat} {m : StoD} (hR : RightM m) (hN : NumLe N m) (hNl : N ≤ 100000) {i j : Nat} {g : SegD} (hi : m.segs[i]? = some g) : OkS (replayU (recsL (m.segs.take i) ++ (g.recs.take j).map fun b => (decR b, g.number))) := by
  have hg : g ∈ m.segs := List.mem_of_getElem? hi
  refine replay_ok _ (fun x hx => ?_)
  rcases List.mem_append.1 hx with hx | hx
  · unfold recsL at hx
    obtain ⟨y, hy, hx⟩ := List.mem_flatMap.1 hx
    obtain ⟨b, hb, rfl⟩ := List.mem_map.1 hx
    have hym := List.mem_of_mem_take hy
    exact ⟨(hR y hym b hb).1, by have := hN y hym; simp only; omega⟩
  · obtain ⟨b, hb, rfl⟩ := List.mem_map.1 hx
    exact ⟨(hR g hg b (List.mem_of_mem_take hb)).1, by have := hN g hg; simp only; omega⟩
set_option maxRecDepth 100000 in
set_option maxHeartbeats 4000000 in
theorem uopen_any (hD : DvSpec (three a) D) (hX : Stays FX X) (hE : Errs w a) (h : UD D w FX X dev d W) (hpe : d.pend = []) (hL : LiesM n d.img m) (hn : 64 ≤ n) (hn2 : n ≤ 1000) (hN : NumLe N m) (hNl : N ≤ 100000) (hR : RightM m) :
    Calls Tryz.prog 42 #[.pointer (some ⟨dev, 0, none⟩)] W fun e w' => ∃ g p bm, e = .returned (.tuple #[.pointer (some ⟨g, 0, none⟩), .nilIface]) ∧ US D w FX X g p bm dev (usOf m) d (forgetU (replayU (recsL m.segs))) w' := by
  have HL := Lib.hid hL
  have HN := Lib.hid hN
  have HR := Lib.hid hR
  have HD := Lib.hid hD
  have HX := Lib.hid hX
  have HE := Lib.hid hE
  have HU := Lib.hid h
  have hul : (usOf m).length ≤ 1000 := by rw [usOf_len]; have := wf_len hL.wf; have := hL.places; omega
  have HUl := Lib.hid hul
  have HPe := Lib.hid hpe
  have HF := Lib.hid (show ∀ u ∈ usOf m, u.first + 64 ≤ d.img.length / 64 from fun u hu => by
    obtain ⟨y, hy, rfl⟩ := List.mem_map.1 hu
    have := hL.on hy
    have := hL.len
    simp only
    omega)
  obtain ⟨Fd, h1, h2, h3, h4, h5⟩ := h
  have CO := Lib.hid (open_raw hD h1 hpe hL hn hn2 (fun g hg => by have := hN g hg; omega))
  have H2 := Lib.hid h2
  have hlt := Lib.hid (hD.lt _ _ _ _ h1)
  have H3 := Lib.hid h3
  have H4 := Lib.hid h4.size
  have hmm := @run_makeMap Tryz.prog
  clear h1 h2 h3 h4 h5 hL hN hR hD hX hE hpe hul
  go_enter Tryz.func42, Tryz.ntmps42
  go_wp2_with fail
  refine CO.out.mono ?_
  rintro e w1 ⟨p, Fs, vs, rfl, hd1, hs1, hf1, hb1⟩
  have U1 := Lib.hid (HU.out.below HD.out HX.out hb1)
  have HD1 := Lib.hid hd1
  have HS1 := Lib.hid hs1
  have HF1 := Lib.hid hf1
  have HB1 := Lib.hid hb1
  have U2 := Lib.hid (US.made HD.out HX.out U1.out hd1 H2.out H3.out hs1 hf1 hb1 H4.out)
  clear hd1 hs1 hf1 hb1 CO U1 HD1 HS1 HF1 HB1 H2 hlt HU H3 H4
  have hz2 : ((w1.alloc (.map #[] 0)).alloc (.cells #[.pointer (some ⟨p, 0, none⟩), .map (some w1.heap.size), .int .i64 0, .int .i64 0] 112)).heap.size = w1.heap.size + 2 := by rw [World.size_alloc, World.size_alloc]
  have CS := Lib.hid (by
    obtain ⟨Fd, Fs, vs, h1, h2, _⟩ := U2.out
    exact segments_any h2 HUl.out)
  go_wp2_with fail
  refine CS.out.mono ?_
  rintro e w3 ⟨v, rfl, hv, hb3⟩
  have U3 := Lib.hid (U2.out.row HD.out HX.out hb3 hv)
  have HX3 := Lib.hid (fun S rb cv => HX.out.row ((w1.alloc (.map #[] 0)).alloc (.cells #[.pointer (some ⟨p, 0, none⟩), .map (some w1.heap.size), .int .i64 0, .int .i64 0] 112)).heap.size 3 1 (.slice rb S cv) S ((usOf m).map fun u => .int .i64 (u.no : Int)))
  clear hb3 hv U2 CS
  rw [hz2] at U3 HX3
  generalize w1.heap.size = G at *
  clear hz2
  obtain ⟨S, hS⟩ : ∃ S, m.segs.length = S := ⟨_, rfl⟩
  have hS' : (usOf m).length = S := by rw [usOf_len, hS]
  have HS := Lib.hid hS
  have HSl := Lib.hid hS'
  obtain ⟨Av, cv, rfl⟩ : ∃ Av cv, v = .slice Av S cv := by
    rcases U3.out.else'.2.2 with ⟨h1, h2⟩ | ⟨gg, cap, _, h1, _⟩
    · exact ⟨none, 0, by rw [h1, ← hS', h2]⟩
    · exact ⟨_, cap, by rw [h1, hS']⟩
  have U3 := Lib.hid (by
    have := U3.out
    rw [hS'] at this
    exact this)
  have HX3 := Lib.hid (HX3.out S Av cv)
  have HNo := Lib.hid (show ∀ (j : Nat) (h : j < m.segs.length), ((usOf m).map fun u => Value.int .i64 (u.no : Int))[j]? = some (.int .i64 ((m.segs[j]).number : Int)) from fun j h => by
    rw [List.getElem?_map]
    unfold usOf
    rw [List.getElem?_map, List.getElem?_eq_getElem h]
    rfl)
  have HLess := Lib.hid (fun (us : List SegU) (d : Dv) (s : StU) (Y : World) (hu : US D w (fun k => FX k ∨ (Value.slice Av S cv).ownBlock = some k) (fun Y => X Y ∧ Y.ownsRow (G + 2) 3 1 (.slice Av S cv) S ((usOf m).map fun u => .int .i64 (u.no : Int))) (G + 1) p G dev us d s Y) =>
    (show US D w FX X (G + 1) p G dev us d s Y from hu.less (fun _ h => .inl h) (fun _ h => h.1)))
  have HRow := Lib.hid (fun (us : List SegU) (d : Dv) (s : StU) (Y : World) (hu : US D w (fun k => FX k ∨ (Value.slice Av S cv).ownBlock = some k) (fun Y => X Y ∧ Y.ownsRow (G + 2) 3 1 (.slice Av S cv) S ((usOf m).map fun u => .int .i64 (u.no : Int))) (G + 1) p G dev us d s Y) (j : Nat) (hj : j < S) => (show ∃ rb, Av = some ⟨rb, 0, none⟩ ∧ Y.cell? ⟨rb, j, none⟩ = ((usOf m).map fun u => Value.int .i64 (u.no : Int))[j]? from by
    have h0 := hu.else'.2
    rcases h0.2 with ⟨h1, h2⟩ | ⟨gg, cap, _, h1, _⟩
    · omega
    · injection h1 with h1
      subst h1
      exact ⟨gg, rfl, h0.cellAt j (by omega)⟩))
  generalize hFX : (fun k => FX k ∨ (Value.slice Av S cv).ownBlock = some k) = FR at *
  generalize hXR : (fun Y : World => X Y ∧ Y.ownsRow (G + 2) 3 1 (.slice Av S cv) S ((usOf m).map fun u => .int .i64 (u.no : Int))) = XR at *
  clear hFX hXR
  have U3' := Lib.hid (show US D w FR XR (G + 1) p G dev (usOf m) d (replayU (recsL (m.segs.take 0))) w3 from U3.out)
  clear U3 hS hS'
  go_wp2_with fail
  go_loopw [28] (fun i w4 => ∃ k : Nat, i = .int .i64 (k : Int) ∧ k ≤ S ∧ Hid (US D w FR XR (G + 1) p G dev (usOf m) d (replayU (recsL (m.segs.take k))) w4)) (fun i _ => S - (intOf i).toNat)
  case atStart => exact ⟨0, rfl, Nat.zero_le _, U3'⟩
  case round =>
    clear U3'
    obtain ⟨i, rfl, hi, U4⟩ := hrel
    have hSm : S ≤ 1000 := by have := HUl.out; rw [HSl.out] at this; exact this
    by_cases his : i < S
    rotate_left
    · have HEnd := Lib.hid (show m.segs.take i = m.segs from List.take_of_length_le (by have := HS.out; omega))
      rw [HEnd.out] at U4
      have CF := Lib.hid (forget_any U4.out.unit (replay_ok _ (fun x hx => by
        unfold recsL at hx
        obtain ⟨y, hy, hx⟩ := List.mem_flatMap.1 hx
        obtain ⟨b, hb, rfl⟩ := List.mem_map.1 hx
        exact ⟨(HR.out y hy b hb).1, by have := HN.out y hy; simp only; omega⟩)))
      go_wp2_with fail
      refine CF.out.mono ?_
      rintro e w5 ⟨rfl, hu, hk⟩
      have U5 := Lib.hid (HLess.out _ _ _ _ (U4.out.own HD.out HX3.out (hk.mono (fun k _ h => .inr h)) hu))
      clear hu hk
      go_wp2_with fail
      go_ret2
      exact ⟨G + 1, p, G, rfl, U5.out⟩
    have hil : i < m.segs.length := by rw [HS.out]; exact his
    obtain ⟨rb, rfl, er⟩ := HRow.out _ _ _ _ U4.out i his
    rw [HNo.out i hil] at er
    obtain ⟨gs, hgs⟩ : ∃ gs, m.segs[i] = gs := ⟨_, rfl⟩
    have HGi := Lib.hid (show m.segs[i]? = some gs from by rw [List.getElem?_eq_getElem hil, hgs])
    have HGm := Lib.hid (show gs ∈ m.segs from by rw [← hgs]; exact List.getElem_mem hil)
    have CR := Lib.hid (by
      obtain ⟨Fd, Fs, vs, h1, h2, _⟩ := U4.out
      have := records_any HD.out h1 h2 HUl.out HF.out (gs.number : Int)
      rw [show flushD d.img d.pend = d.img from by rw [HPe.out]; rfl, ← hgs, recsOf_at HL.out hil, hgs] at this
      exact this)
    rw [hgs] at er
    clear hgs hil
    go_wp2_with fail
    refine CR.out.mono ?_
    rintro e w5 ⟨vr, rfl, hpar, hb5⟩
    have U5 := Lib.hid (U4.out.below HD.out HX3.out hb5)
    obtain ⟨B, hB⟩ : ∃ B, w5.heap.size = B := ⟨_, rfl⟩
    rw [hB] at hpar
    have HP5 := Lib.hid hpar
    have HB5 := Lib.hid (Nat.le_of_eq hB.symm)
    obtain ⟨hRl, A, cr, rfl, _⟩ := hpar.form
    obtain ⟨R, hR⟩ : ∃ R, gs.recs.length = R := ⟨_, rfl⟩
    have HRl := Lib.hid hR
    rw [hR] at hRl HP5
    rw [hR]
    have U5' := Lib.hid (show US D w FR XR (G + 1) p G dev (usOf m) d (replayU (recsL (m.segs.take i) ++ (gs.recs.take 0).map fun b => (decR b, gs.number))) w5 from by
      rw [List.take_zero, List.map_nil, List.append_nil]
      exact U5.out)
    clear hpar hb5 hB hR U5 U4 CR er
    go_wp2_with fail
    go_loopw [36] (fun t w6 => ∃ k : Nat, t = .int .i64 (k : Int) ∧ k ≤ R ∧ Hid (US D w FR XR (G + 1) p G dev (usOf m) d (replayU (recsL (m.segs.take i) ++ (gs.recs.take k).map fun b => (decR b, gs.number))) w6) ∧ Hid (Parts w6 B (.slice A R cr) gs.recs) ∧ Hid (B ≤ w6.heap.size)) (fun t _ => R - (intOf t).toNat)
    case atStart => exact ⟨0, rfl, Nat.zero_le _, U5', HP5, HB5⟩
    case round =>
      clear U5' HP5 HB5
      obtain ⟨j, rfl, hj, U6, HP6, HB6⟩ := hrel
      by_cases hjr : j < R
      rotate_left
      · have hjR : j = R := by omega
        subst hjR
        have U7 := Lib.hid (show US D w FR XR (G + 1) p G dev (usOf m) d (replayU (recsL (m.segs.take (i + 1)))) wr from by
          have := U6.out
          rw [show gs.recs.take j = gs.recs from List.take_of_length_le (by have := HRl.out; omega)] at this
          rw [recsL_next HGi.out]
          exact this)
        clear U6 HP6 HB6
        go_wp2_with fail
        go_roundw
        case rel => exact ⟨i + 1, by go_num, by omega, U7⟩
        case measure => simp only [intOf]; omega
      have hjl : j < gs.recs.length := by rw [HRl.out]; exact hjr
      obtain ⟨_, A', c', he, hfm⟩ := HP6.out.form
      injection he with e1 e2 e3
      obtain ⟨bb, oo, u, hA, hc6, hby⟩ := hfm j hjl
      rw [← e1] at hA
      subst hA
      clear e1 e2 e3 hfm
      obtain ⟨b, hbe⟩ : ∃ b, gs.recs[j] = b := ⟨_, rfl⟩
      have HJ := Lib.hid (show gs.recs[j]? = some b from by rw [List.getElem?_eq_getElem hjl, hbe])
      have hbm : b ∈ gs.recs := by rw [← hbe]; exact List.getElem_mem hjl
      rw [hbe] at hby
      have hri := HR.out gs HGm.out b hbm
      have CB := Lib.hid (by
        have := hby
        rw [← hri.2.2] at this
        exact rread_any a wr u B (decR b) hri.1 hri.2.1 (HE.out.below U6.out.since) this HB6.out)
      have HGo := Lib.hid hri.1
      clear hby hri hbe hbm
      go_wp2_with fail
      refine CB.out.mono ?_
      rintro e w7 ⟨rfl, hb7⟩
      have U7 := Lib.hid (U6.out.below HD.out HX3.out hb7)
      have HP7 := Lib.hid (HP6.out.below (hb7.mono HB6.out))
      have HB7 := Lib.hid (Nat.le_trans HB6.out hb7.size)
      clear hb7 CB U6 HP6 HB6 hc6
      obtain ⟨r, hr⟩ : ∃ r, decR b = r := ⟨_, rfl⟩
      have HRr := Lib.hid hr
      rw [hr] at HGo
      rw [hr]
      have hba := (Below.refl w7.heap.size w7).alloc (Nat.le_refl _) (.cells #[.int .i64 (r.kind : Int), .int .i64 (r.adr : Int), .int .i64 (r.ep : Int), .string ⟨r.page.toArray⟩] 115)
      obtain ⟨_, c0, c1, c2, c3⟩ := rec_facts (heap_alloc_new w7 (.cells #[.int .i64 (r.kind : Int), .int .i64 (r.adr : Int), .int .i64 (r.ep : Int), .string ⟨r.page.toArray⟩] 115))
      have U8 := Lib.hid (U7.out.below HD.out HX3.out hba)
      have HP8 := Lib.hid (HP7.out.below (hba.mono HB7.out))
      have HB8 := Lib.hid (Nat.le_trans HB7.out hba.size)
      clear hba hr
      have CC := Lib.hid (count_any U8.out.unit (part_ok HR.out HN.out hNl HGi.out) r HGo.out gs.number)
      have HW := Lib.hid (show (w7.alloc (.cells #[.int .i64 (r.kind : Int), .int .i64 (r.adr : Int), .int .i64 (r.ep : Int), .string ⟨r.page.toArray⟩] 115)).heap.size = w7.heap.size + 1 from World.size_alloc _ _)
      go_wp2_with fail
      refine CC.out.mono ?_
      rintro e w9 ⟨rfl, hu, hk⟩
      have U9 := Lib.hid (show US D w FR XR (G + 1) p G dev (usOf m) d (replayU (recsL (m.segs.take i) ++ (gs.recs.take (j + 1)).map fun b => (decR b, gs.number))) w9 from by
        have := U8.out.own HD.out HX3.out hk hu
        rw [recsL_take HJ.out, HRr.out]
        exact this)
      have HP9 := Lib.hid (parts_own U8.out.unit hk HB8.out HP8.out)
      have HB9 := Lib.hid (Nat.le_trans HB8.out hk.size)
      clear hu hk U7 HP7 HB7 U8 HP8 HB8 HW c0 c1 c2 c3 CC
      have hRm : R ≤ 1000 := by
        have h1 := (HL.out.wf.recs gs HGm.out)
        have := sum_ge gs.recs
        have := HRl.out
        have := h1.2.1
        omega
      go_wp2_with fail
      go_roundw
      case rel => exact ⟨j + 1, by go_num, by omega, U9, HP9, HB9⟩
      case measure => simp only [intOf]; omega
end
end Go.Proofs.YtiafamacjpgjoaaGreatDoor

/- A unit's calls against the document's own unit: Write and Seal, perhaps broken off by a loss of power. -/
namespace Go.Proofs.YtiafamacjpgjoaaGreatDoor
open Go Go.RowKit Go.Shelf Tide

def NormL (l : List (RecU × Nat)) : Prop := ∀ x ∈ l, NormR x.1
def Like (u : UnitD) (m : StoD) : Prop := ∃ s l, Holds { u with store := m } s l ∧ NormL l
theorem holds_like {u : UnitD} {s : StU} {l : List (RecU × Nat)} (h : Holds u s l) (hn : NormL l) : Like u u.store := ⟨s, l, h, hn⟩
theorem NormL.snoc {l : List (RecU × Nat)} (h : NormL l) {r : RecU} (hr : NormR r) (g : Nat) : NormL (l ++ [(r, g)]) := fun x hx => by
  rcases List.mem_append.1 hx with hx | hx
  · exact h x hx
  · simp only [List.mem_singleton] at hx
    subst hx
    exact hr
theorem holds_taken {u : UnitD} {s : StU} {l : List (RecU × Nat)} (h : Holds u s l) {t : StoD} (ht : takeD u.store = some t) : Holds { u with store := t } s l where
  wf := take_wf h.wf ht
  recs := by
    have hts : ∃ P N, t.segs = u.store.segs ++ [⟨P, N, 0, []⟩] := by
      unfold takeD at ht
      split at ht
      · cases ht
      · injection ht with ht
        exact ⟨_, _, by rw [← ht]⟩
    obtain ⟨P, N, hts⟩ := hts
    show recsWith t.segs = _
    rw [hts, recsWith_empty]
    exact h.recs
  good := h.good
  apart := h.apart
  state := h.state
  trimmed := h.trimmed
  epoch := h.epoch
  pages := h.pages
  once := h.once
  low := h.low
  top := h.top
theorem holds_ok {u : UnitD} {s : StU} {l : List (RecU × Nat)} (h : Holds u s l) {N : Nat} (hN : NumLe N u.store) (hNl : N ≤ 100000) : OkS s := by
  rw [← h.state]
  refine forget_ok (replay_ok l (fun x hx => ⟨h.good x hx, ?_⟩))
  have h1 : (encR x.1, x.2) ∈ recsWith u.store.segs := by
    rw [h.recs]
    exact List.mem_map.2 ⟨x, hx, rfl⟩
  unfold recsWith at h1
  obtain ⟨g, hg, h2⟩ := List.mem_flatMap.1 h1
  obtain ⟨b, _, h3⟩ := List.mem_map.1 h2
  injection h3 with _ h3
  have := hN g hg
  omega
def StepR (D : DvP) (a : Nat → Addr) (w : World) (FX : Nat → Prop) (X : World → Prop) (g p bm dev n N : Nat) (u ub : UnitD) (r : Nat) (d : Dv) (x : Value) (w' : World) : Prop :=
  (IsErr a x r ∧ ∃ d' s' l', d'.pend = [] ∧ (d.stop = none → d'.stop = none) ∧ LiesM n d'.img ub.store ∧ Holds ub s' l' ∧ NormL l' ∧ NumLe (N + 1) ub.store ∧ US D w FX X g p bm dev (usOf ub.store) d' s' w') ∨
  (d.stop ≠ none ∧ IsErr a x 12 ∧ ∃ us' s' d', d'.img.length = 64 * n ∧ Lost n d' (fun im => ∃ m', LiesM n im m' ∧ NumLe (N + 1) m' ∧ (Like u m' ∨ Like ub m')) ∧ US D w FX X g p bm dev us' d' s' w')
section
variable {u : UnitD} {s : StU} {l : List (RecU × Nat)}
theorem why_err (h : Holds u s l) {ep a : Int} {b : List UInt8} (hw : whyW s ep a b ≠ 0) : writeD u ep a b = (u, whyW s ep a b) := by
  unfold whyW at hw ⊢
  unfold writeD
  rw [h.epoch, h.trimmed] at hw
  rw [h.epoch, h.trimmed]
  by_cases h1 : checkD u.epoch ep a 4095 ≠ 0
  · rw [if_pos h1, if_pos h1]
  rw [if_neg h1] at hw ⊢
  rw [if_neg h1]
  by_cases h2 : b.length < 1 ∨ 2048 < b.length
  · rw [if_pos h2, if_pos h2]
  rw [if_neg h2] at hw ⊢
  rw [if_neg h2]
  by_cases h3 : a < (u.trimmed : Int)
  · rw [if_pos h3, if_pos h3]
  rw [if_neg h3] at hw ⊢
  rw [if_neg h3]
  have hc := check_zero (show checkD u.epoch ep a 4095 = 0 by omega)
  have hh := h.hasPage a.toNat
  rw [Int.toNat_of_nonneg hc.2.2.1] at hh
  rw [hh] at hw ⊢
  cases hd : hasD u a with
  | true => rw [if_pos rfl, if_pos rfl]
  | false => rw [hd] at hw; exact absurd rfl hw
theorem why_ok (h : Holds u s l) {ep a : Int} {b : List UInt8} (hw : whyW s ep a b = 0) : (0 ≤ a ∧ a ≤ 4095 ∧ u.trimmed ≤ a.toNat ∧ hasU s a.toNat = false ∧ 1 ≤ b.length ∧ b.length ≤ 2048) ∧
    writeD u ep a b = if (putRec u ⟨1, a.toNat, 0, b⟩).2.2 ≠ 0 then ({ u with store := (putRec u ⟨1, a.toNat, 0, b⟩).1 }, (putRec u ⟨1, a.toNat, 0, b⟩).2.2.toNat)
      else ({ u with store := (putRec u ⟨1, a.toNat, 0, b⟩).1, rows := u.rows ++ [⟨a.toNat, b, (putRec u ⟨1, a.toNat, 0, b⟩).2.1.toNat⟩], top := max u.top (a.toNat + 1) }, 0) := by
  unfold whyW at hw
  unfold writeD
  rw [h.epoch, h.trimmed] at hw
  by_cases h1 : checkD u.epoch ep a 4095 ≠ 0
  · rw [if_pos h1] at hw; exact absurd hw h1
  rw [if_neg h1] at hw ⊢
  by_cases h2 : b.length < 1 ∨ 2048 < b.length
  · rw [if_pos h2] at hw; cases hw
  rw [if_neg h2] at hw ⊢
  by_cases h3 : a < (u.trimmed : Int)
  · rw [if_pos h3] at hw; cases hw
  rw [if_neg h3] at hw ⊢
  have hc := check_zero (show checkD u.epoch ep a 4095 = 0 by omega)
  have hh := h.hasPage a.toNat
  rw [Int.toNat_of_nonneg hc.2.2.1] at hh
  cases hd : hasD u a with
  | true => rw [hh, hd] at hw; cases hw
  | false =>
    rw [hd] at hh
    refine ⟨⟨hc.2.2.1, hc.2.2.2, by omega, hh, by omega, by omega⟩, ?_⟩
    rw [if_neg (by decide)]
def trimD (u : UnitD) (ep to : Int) : UnitD × Nat :=
  if checkD u.epoch ep to 4096 ≠ 0 then (u, checkD u.epoch ep to 4096)
  else if to ≤ u.trimmed then (u, 0)
  else if (putRec u ⟨2, to.toNat, u.epoch, []⟩).2.2 ≠ 0 then ({ u with store := (putRec u ⟨2, to.toNat, u.epoch, []⟩).1 }, (putRec u ⟨2, to.toNat, u.epoch, []⟩).2.2.toNat)
  else ({ u with store := dropBelow (neededU u.rows to.toNat (putRec u ⟨2, to.toNat, u.epoch, []⟩).2.1.toNat) (putRec u ⟨2, to.toNat, u.epoch, []⟩).1, trimmed := to.toNat }, 0)
theorem put_same (r : RecU) (h : (putRec u r).2.2 ≠ 0) : ({ u with store := (putRec u r).1 } : UnitD) = u := by
  have := append_err_same (m := u.store) (b := encR r) h
  show ({ u with store := (appendD u.store (encR r)).1 } : UnitD) = u
  rw [this]
end
section
variable {D : DvP} {a : Nat → Addr} {w W : World} {FX : Nat → Prop} {X : World → Prop} {g p bm dev n N : Nat} {d : Dv} {s : StU} {u : UnitD} {l : List (RecU × Nat)}
theorem append_down {m : StoD} (h : LiesM n d.img m) (b : List UInt8) (h11 : (appendDv (usOf m) d b).1 = some 11) : (appendD m b).2.2 = 0 := by
  have hpl : d.img.length / 64 / 64 = m.places := by have := h.len; have := h.places; omega
  unfold appendDv at h11
  unfold appendD
  by_cases hb : b.length < 1 ∨ 3968 < b.length
  · rw [if_pos hb] at h11; cases h11
  rw [if_neg hb] at h11 ⊢
  rw [fits_is, hpl] at h11
  cases hf : fitsD m.segs b.length with
  | true => rfl
  | false =>
    rw [hf, if_neg (by decide)] at h11
    rcases take_is m with ⟨h1, h2⟩ | ⟨k, r, h1, h2, _⟩
    · rw [h1] at h11
      cases h11
    · rw [h2]; rfl
theorem put_step (hL : LiesM n d.img u.store) (hN : NumLe N u.store) (hNl : N ≤ 90000) (hpe : d.pend = []) (h : Holds u s l) (hnl : NormL l) (r : RecU) (hnr : NormR r) (ub : UnitD)
    (hub : (putRec u r).2.2 = 0 → ∃ no : Nat, (putRec u r).2.1 = (no : Int) ∧ ub.store = (putRec u r).1 ∧ Holds ub (countU s r no) (l ++ [(r, no)])) {e : Ending} {w' : World} (hr : PutR D a w FX X g p bm dev (usOf u.store) d s r e w') :
    ∃ x, e = .returned x ∧ (((putRec u r).2.2 ≠ 0 ∧ StepR D a w FX X g p bm dev n N u u (putRec u r).2.2.toNat d x w' ∧ ∃ ad, x = errAt ad) ∨ ((putRec u r).2.2 = 0 ∧ StepR D a w FX X g p bm dev n N u ub 0 d x w')) := by
  obtain ⟨he, hU⟩ := hr
  refine ⟨_, he, ?_⟩
  rcases append_lies hL (by have := hN.last; omega) (encR r) with ⟨er, e1, e2, e3⟩ | ⟨no, d', e1, e2, e3, e4, e5⟩ | ⟨us', d', e1, e2, e3, e4⟩
  · left
    have e2' : putRec u r = (u.store, 0, ((er + 1 : Nat) : Int)) := e2
    rw [e1] at hU ⊢
    rw [e2']
    refine ⟨by simp only; omega, .inl ⟨?_, d, s, l, hpe, id, hL, h, hnl, hN.mono (Nat.le_succ _), ?_⟩, a er, rfl⟩
    · show IsErr a (errAt (a er)) _
      simp only [Int.toNat_natCast]
      exact isErr_at a er (by omega)
    · simpa using hU
  · right
    have e2' : (putRec u r).2 = ((no : Int), 0) := e2
    rw [e1] at hU ⊢
    obtain ⟨no', h1, h2, h3⟩ := hub (by rw [e2'])
    have hno : no' = no := by rw [e2'] at h1; simp only at h1; omega
    subst hno
    have hst : (appendD u.store (encR r)).1 = ub.store := h2.symm
    rw [hst] at hU e3
    refine ⟨by rw [e2'], .inl ⟨isErr_nil a, d', _, _, e4, e5, e3, h3, hnl.snoc hnr _, ?_, by simpa using hU⟩⟩
    rw [h2]
    exact append_num hN
  · rw [e1] at hU ⊢
    have hU' : US D w FX X g p bm dev us' d' s w' := by simpa using hU
    by_cases h0 : (putRec u r).2.2 = 0
    · right
      obtain ⟨no', h1, h2, h3⟩ := hub h0
      refine ⟨h0, .inr ⟨e2, isErr_at a 11 (by omega), us', s, d', e3, fun xs hx hf => ?_, hU'⟩⟩
      rcases e4 xs hx hf with h4 | h4 | ⟨h4, t, h5, h6⟩
      · exact ⟨_, h4, hN.mono (Nat.le_succ _), .inl (holds_like h hnl)⟩
      · exact ⟨_, h4, append_num hN, .inr (by
          have h7 := holds_like h3 (hnl.snoc hnr _)
          rw [h2] at h7
          exact h7)⟩
      · exact ⟨_, h6, takeD_num hN h5, .inl ⟨s, l, holds_taken h h5, hnl⟩⟩
    · exact absurd (append_down hL (encR r) (by rw [e1])) h0
end
end Go.Proofs.YtiafamacjpgjoaaGreatDoor

/- Write, Seal, Trim of a unit against the document's own unit, perhaps broken off. -/
namespace Go.Proofs.YtiafamacjpgjoaaGreatDoor
open Go Go.RowKit Go.Shelf Tide

section
variable {D : DvP} {a : Nat → Addr} {w W : World} {FX : Nat → Prop} {X : World → Prop} {g p bm dev n N : Nat} {d : Dv} {s : StU} {u : UnitD} {l : List (RecU × Nat)}
theorem same_step (hL : LiesM n d.img u.store) (hN : NumLe N u.store) (hpe : d.pend = []) (h : Holds u s l) (hnl : NormL l) {x : Value} {r : Nat} (hx : IsErr a x r) {w' : World} (hU : US D w FX X g p bm dev (usOf u.store) d s w') : StepR D a w FX X g p bm dev n N u u r d x w' :=
  .inl ⟨hx, d, s, l, hpe, id, hL, h, hnl, hN.mono (Nat.le_succ _), hU⟩
theorem write_step (hD : DvSpec (three a) D) (hX : Stays FX X) (hE : Errs w a) (hn : n ≤ 1000) (hU : US D w FX X g p bm dev (usOf u.store) d s W) (hpe : d.pend = []) (hL : LiesM n d.img u.store) (hN : NumLe N u.store) (hNl : N ≤ 90000) (h : Holds u s l) (hnl : NormL l) (ep a' : Int) (vb : Value) (b : List UInt8) (hv : Bytes W W.heap.size vb b) :
    Calls Tryz.prog 83 #[.pointer (some ⟨g, 0, none⟩), .int .i64 ep, .int .i64 a', vb] W fun e w' => ∃ x, e = .returned x ∧ StepR D a w FX X g p bm dev n N u (writeD u ep a' b).1 (writeD u ep a' b).2 d x w' := by
  refine (uwrite_any hD hX hE hU hpe (ok_us hL hn hN (by omega)) (holds_ok h hN (by omega)) ep a' vb b hv).mono ?_
  rintro e w' (⟨h0, ⟨x, rfl, hx⟩, hU'⟩ | ⟨h0, hr⟩)
  · rw [why_err h h0]
    exact ⟨x, rfl, same_step hL hN hpe h hnl hx hU'⟩
  · obtain ⟨⟨h1, h2, h3, h4, h5, h6⟩, hwr⟩ := why_ok h h0
    rw [hwr]
    obtain ⟨x, rfl, hc⟩ := put_step (N := N) hL hN hNl hpe h hnl ⟨1, a'.toNat, 0, b⟩ ⟨fun _ => rfl, fun h => absurd rfl h, fun h => absurd h (show ¬ (1 : Nat) = 3 by decide)⟩ ({ u with store := (putRec u ⟨1, a'.toNat, 0, b⟩).1, rows := u.rows ++ [⟨a'.toNat, b, (putRec u ⟨1, a'.toNat, 0, b⟩).2.1.toNat⟩], top := max u.top (a'.toNat + 1) }) (fun h7 => by
      obtain ⟨no, k1, k2⟩ := h.write h4 h3 (by omega) ⟨h5, h6⟩ h7
      refine ⟨no, k1, rfl, ?_⟩
      rw [k1, Int.toNat_natCast]
      exact k2) hr
    refine ⟨x, rfl, ?_⟩
    rcases hc with ⟨h7, h8, _⟩ | ⟨h7, h8⟩
    · rw [if_pos h7, put_same _ h7]
      exact h8
    · rw [if_neg (by rw [h7]; simp)]
      exact h8
theorem drop_num2 {m : StoD} (hN : NumLe N m) (q : Nat) : NumLe N (dropBelow q m) := fun g hg => hN g ((List.dropWhile_sublist _).subset hg)
theorem trim_step (hD : DvSpec (three a) D) (hX : Stays FX X) (hE : Errs w a) (hn : n ≤ 1000) (hU : US D w FX X g p bm dev (usOf u.store) d s W) (hpe : d.pend = []) (hL : LiesM n d.img u.store) (hN : NumLe N u.store) (hNl : N ≤ 90000) (h : Holds u s l) (hnl : NormL l) (ep to : Int) :
    Calls Tryz.prog 75 #[.pointer (some ⟨g, 0, none⟩), .int .i64 ep, .int .i64 to] W fun e w' => ∃ x, e = .returned x ∧ StepR D a w FX X g p bm dev n N u (trimD u ep to).1 (trimD u ep to).2 d x w' := by
  have hok := holds_ok h hN (by omega)
  refine (utrim_any hD hX hE hn hU hpe hL hN hNl hok ep to).mono ?_
  have hrc : trimRec s to.toNat = ⟨2, to.toNat, u.epoch, []⟩ := by unfold trimRec; rw [h.epoch]
  have hwt : whyT s ep to = checkD u.epoch ep to 4096 := by unfold whyT; rw [h.epoch]
  have hnr : NormR ⟨2, to.toNat, u.epoch, []⟩ := ⟨fun h => absurd h (show ¬ (2 : Nat) = 1 by decide), fun _ => rfl, fun h => absurd h (show ¬ (2 : Nat) = 3 by decide)⟩
  unfold TrimR
  rw [hrc, hwt, h.trimmed]
  rintro e w' (⟨h0, ⟨x, rfl, hx⟩, hU'⟩ | ⟨h0, h1, rfl, hU'⟩ | ⟨h0, h1, ⟨m, h2, rfl⟩, hU'⟩ | ⟨h0, h1, no, d1, h2, h3, h4, h5, h6, hr⟩)
  · have : trimD u ep to = (u, checkD u.epoch ep to 4096) := by unfold trimD; rw [if_pos h0]
    rw [this]
    exact ⟨x, rfl, same_step hL hN hpe h hnl hx hU'⟩
  · have : trimD u ep to = (u, 0) := by unfold trimD; rw [if_neg (by omega), if_pos h1]
    rw [this]
    exact ⟨_, rfl, same_step hL hN hpe h hnl (isErr_nil a) hU'⟩
  · have ht : trimD u ep to = if (putRec u ⟨2, to.toNat, u.epoch, []⟩).2.2 ≠ 0 then ({ u with store := (putRec u ⟨2, to.toNat, u.epoch, []⟩).1 }, (putRec u ⟨2, to.toNat, u.epoch, []⟩).2.2.toNat)
        else ({ u with store := dropBelow (neededU u.rows to.toNat (putRec u ⟨2, to.toNat, u.epoch, []⟩).2.1.toNat) (putRec u ⟨2, to.toNat, u.epoch, []⟩).1, trimmed := to.toNat }, 0) := by
      unfold trimD
      rw [if_neg (by omega), if_neg (by omega)]
    have hc := check_zero h0
    rcases append_lies hL (by have := hN.last; omega) (encR ⟨2, to.toNat, u.epoch, []⟩) with ⟨er, e1, e2, e3⟩ | ⟨no, d', e1, _⟩ | ⟨us', d', e1, e2, e3, e4⟩
    · rw [e1] at hU' h2
      have hm : er = m := by simpa using h2
      subst hm
      have e2' : putRec u ⟨2, to.toNat, u.epoch, []⟩ = (u.store, 0, ((er + 1 : Nat) : Int)) := e2
      have hne : (putRec u ⟨2, to.toNat, u.epoch, []⟩).2.2 ≠ 0 := by rw [e2']; simp only; omega
      rw [ht, if_pos hne, put_same _ hne, e2']
      exact ⟨_, rfl, same_step hL hN hpe h hnl (by simp only [Int.toNat_natCast]; exact isErr_at a er (by omega)) hU'⟩
    · rw [e1] at h2
      cases h2
    · rw [e1] at hU' h2
      have hm : 11 = m := by simpa using h2
      subst hm
      have h00 : (putRec u ⟨2, to.toNat, u.epoch, []⟩).2.2 = 0 := append_down hL _ (by rw [e1])
      rw [ht, if_neg (by rw [h00]; simp)]
      refine ⟨_, rfl, .inr ⟨e2, isErr_at a 11 (by omega), us', s, d', e3, fun xs hx hf => ?_, hU'⟩⟩
      obtain ⟨no, k1, k2⟩ := h.trim (t := to.toNat) (by omega) (by omega) (by have := hok.epoch; rw [h.epoch] at this; exact this) h00
      rcases e4 xs hx hf with h4 | h4 | ⟨h4, t, h5, h6⟩
      · exact ⟨_, h4, hN.mono (Nat.le_succ _), .inl (holds_like h hnl)⟩
      · exact ⟨_, h4, append_num hN, .inr ⟨_, _, k2, hnl.snoc hnr _⟩⟩
      · exact ⟨_, h6, takeD_num hN h5, .inl ⟨s, l, holds_taken h h5, hnl⟩⟩
  · have hc := check_zero h0
    have h00 : (putRec u ⟨2, to.toNat, u.epoch, []⟩).2.2 = 0 := by
      show (appendD u.store (encR ⟨2, to.toNat, u.epoch, []⟩)).2.2 = 0
      rw [h3]
    have h01 : (putRec u ⟨2, to.toNat, u.epoch, []⟩).2.1 = (no : Int) := by
      show (appendD u.store (encR ⟨2, to.toNat, u.epoch, []⟩)).2.1 = no
      rw [h3]
    have ht : trimD u ep to = ({ u with store := dropBelow (neededU u.rows to.toNat no) (putRec u ⟨2, to.toNat, u.epoch, []⟩).1, trimmed := to.toNat }, 0) := by
      unfold trimD
      rw [if_neg (by omega), if_neg (by omega), if_neg (by rw [h00]; simp), h01, Int.toNat_natCast]
    obtain ⟨no', k1, k2⟩ := h.trim (t := to.toNat) (by omega) (by omega) (by have := hok.epoch; rw [h.epoch] at this; exact this) h00
    have hno : no' = no := by rw [h01] at k1; omega
    subst hno
    have hcu : countU s ⟨2, to.toNat, u.epoch, []⟩ no' = { s with trimmed := to.toNat } := by
      have := count_trim s to.toNat no'
      rw [hrc] at this
      exact this
    rw [hcu] at k2
    obtain ⟨s', hs'⟩ : ∃ s', forgetU { s with trimmed := to.toNat } = s' := ⟨_, rfl⟩
    rw [hs'] at k2 hr
    have hneed : needS s' no' = neededU u.rows to.toNat no' := by
      unfold needS neededU
      rw [k2.pages]
    have hle := needed_le s'.pages no'
    have hle1 : needS s' no' ≤ no' := hle.1
    have hle2 : ∀ p ∈ s'.pages, needS s' no' ≤ p.seg := hle.2.1
    rw [ht, ← hneed]
    have hdr : ∀ q, q ≤ needS s' no' → ∃ l', Holds { u with store := dropBelow q (putRec u ⟨2, to.toNat, u.epoch, []⟩).1, trimmed := to.toNat } s' l' ∧ NormL l' := fun q hq =>
      ⟨_, k2.drops rfl (show q ≤ no' by omega) (fun p hp => by have := hle2 p hp; omega), fun x hx => by
        rcases List.mem_append.1 hx with hx | hx
        · exact hnl x (List.mem_filter.1 hx).1
        · simp only [List.mem_singleton] at hx
          subst hx
          exact hnr⟩
    rcases hr with ⟨rfl, d', r1, r2, r3, r4⟩ | ⟨r0, rfl, us', d', r1, r2, r3⟩
    · obtain ⟨l', g1, g2⟩ := hdr _ (Nat.le_refl _)
      exact ⟨_, rfl, .inl ⟨isErr_nil a, d', s', l', r1, fun hs => r2 (h6 hs), r3, g1, g2, drop_num2 (append_num hN) _, r4⟩⟩
    · refine ⟨_, rfl, .inr ⟨fun hs => r0 (h6 hs), isErr_at a 11 (by omega), us', s', d', r1, fun xs hx hf => ?_, r3⟩⟩
      obtain ⟨q, hq, r4⟩ := r2 xs hx hf
      obtain ⟨l', g1, g2⟩ := hdr q hq
      exact ⟨_, r4, drop_num2 (append_num hN) _, .inr ⟨s', l', g1, g2⟩⟩
end
end Go.Proofs.YtiafamacjpgjoaaGreatDoor

/- A unit with power, bound to the document's own unit: what its calls answer. -/
namespace Go.Proofs.YtiafamacjpgjoaaGreatDoor
open Go Go.RowKit Go.Shelf Tide

def UL (D : DvP) (w : World) (FX : Nat → Prop) (X : World → Prop) (g p bm dev n N : Nat) (u : UnitD) (W : World) : Prop :=
  ∃ d s l, US D w FX X g p bm dev (usOf u.store) d s W ∧ d.pend = [] ∧ d.stop = none ∧ LiesM n d.img u.store ∧ Holds u s l ∧ NormL l ∧ NumLe N u.store
def UO (D : DvP) (w : World) (FX : Nat → Prop) (X : World → Prop) (dev n N : Nat) (u : UnitD) (W : World) : Prop :=
  ∃ d, UD D w FX X dev d W ∧ d.pend = [] ∧ d.stop = none ∧ LiesM n d.img u.store ∧ Like u u.store ∧ NumLe N u.store
section
variable {D : DvP} {a : Nat → Addr} {w W W' : World} {FX : Nat → Prop} {X : World → Prop} {g p bm dev n N M : Nat} {u : UnitD}
theorem UL.mono (h : UL D w FX X g p bm dev n N u W) (hNM : N ≤ M) : UL D w FX X g p bm dev n M u W := by
  obtain ⟨d, s, l, h1, h2, h3, h4, h5, h6, h7⟩ := h
  exact ⟨d, s, l, h1, h2, h3, h4, h5, h6, h7.mono hNM⟩
theorem UL.since (h : UL D w FX X g p bm dev n N u W) : Below w.heap.size w W := by obtain ⟨d, s, l, h1, _⟩ := h; exact h1.since
theorem UL.else' (h : UL D w FX X g p bm dev n N u W) : X W := by obtain ⟨d, s, l, h1, _⟩ := h; exact h1.else'
theorem UL.below {x : Nat → Addr} (hD : DvSpec x D) (hX : Stays FX X) (h : UL D w FX X g p bm dev n N u W) (hb : Below W.heap.size W W') : UL D w FX X g p bm dev n N u W' := by
  obtain ⟨d, s, l, h1, h2⟩ := h
  exact ⟨d, s, l, h1.below hD hX hb, h2⟩
theorem step_done {d : Dv} {ub : UnitD} {r : Nat} {x : Value} (h : StepR D a w FX X g p bm dev n N u ub r d x W') (hs : d.stop = none) : IsErr a x r ∧ UL D w FX X g p bm dev n (N + 1) ub W' := by
  rcases h with ⟨h1, d', s', l', h2, h3, h4, h5, h6, h7, h8⟩ | ⟨h1, _⟩
  · exact ⟨h1, d', s', l', h8, h2, h3 hs, h4, h5, h6, h7⟩
  · exact absurd hs h1
theorem UL.write (hD : DvSpec (three a) D) (hX : Stays FX X) (hE : Errs w a) (hn : n ≤ 1000) (hNl : N ≤ 90000) (h : UL D w FX X g p bm dev n N u W) (ep a' : Int) (vb : Value) (b : List UInt8) (hv : Bytes W W.heap.size vb b) :
    Calls Tryz.prog 83 #[.pointer (some ⟨g, 0, none⟩), .int .i64 ep, .int .i64 a', vb] W fun e w' => ∃ x, e = .returned x ∧ IsErr a x (writeD u ep a' b).2 ∧ UL D w FX X g p bm dev n (N + 1) (writeD u ep a' b).1 w' := by
  obtain ⟨d, s, l, h1, h2, h3, h4, h5, h6, h7⟩ := h
  refine (write_step hD hX hE hn h1 h2 h4 h7 hNl h5 h6 ep a' vb b hv).mono ?_
  rintro e w' ⟨x, rfl, hr⟩
  exact ⟨x, rfl, step_done hr h3⟩
theorem UL.trim (hD : DvSpec (three a) D) (hX : Stays FX X) (hE : Errs w a) (hn : n ≤ 1000) (hNl : N ≤ 90000) (h : UL D w FX X g p bm dev n N u W) (ep to : Int) :
    Calls Tryz.prog 75 #[.pointer (some ⟨g, 0, none⟩), .int .i64 ep, .int .i64 to] W fun e w' => ∃ x, e = .returned x ∧ IsErr a x (trimD u ep to).2 ∧ UL D w FX X g p bm dev n (N + 1) (trimD u ep to).1 w' := by
  obtain ⟨d, s, l, h1, h2, h3, h4, h5, h6, h7⟩ := h
  refine (trim_step hD hX hE hn h1 h2 h4 h7 hNl h5 h6 ep to).mono ?_
  rintro e w' ⟨x, rfl, hr⟩
  exact ⟨x, rfl, step_done hr h3⟩
theorem read_is {s : StU} {l : List (RecU × Nat)} (h : Holds u s l) (ep a' : Int) : readS s ep a' = readU u ep a' := by
  unfold readS readU
  rw [h.epoch, h.trimmed]
  by_cases h1 : checkD u.epoch ep a' 4095 ≠ 0
  · rw [if_pos h1, if_pos h1]
  rw [if_neg h1, if_neg h1]
  by_cases h2 : a' < (u.trimmed : Int)
  · rw [if_pos h2, if_pos h2]
  rw [if_neg h2, if_neg h2]
  have : (s.pages.find? fun q => (q.adr : Int) == a') = u.rows.find? fun q => (q.adr : Int) == a' := by
    rw [h.pages, List.find?_filter]
    congr 1
    funext q
    by_cases e : (q.adr : Int) = a'
    · have : u.trimmed ≤ q.adr := by omega
      simp [e, this]
    · simp [e]
  rw [this]
  cases u.rows.find? fun q => (q.adr : Int) == a' <;> rfl
theorem page_small {s : StU} {l : List (RecU × Nat)} (h : Holds u s l) : ∀ q ∈ s.pages, 1 ≤ q.bs.length ∧ q.bs.length ≤ 2048 := fun q hq => by
  rw [← h.state] at hq
  unfold forgetU at hq
  have hq2 := (List.mem_filter.1 hq).1
  rw [replay_pages l h.apart] at hq2
  unfold pagesU at hq2
  obtain ⟨x, hx, he⟩ := List.mem_filterMap.1 hq2
  by_cases hk : x.1.kind = 1
  · rw [if_pos hk] at he
    injection he with he
    subst he
    rcases h.good x hx with ⟨_, _, h3, h4⟩ | ⟨h1, _⟩ | ⟨h1, _⟩
    · exact ⟨h3, h4⟩
    · omega
    · omega
  · rw [if_neg hk] at he
    cases he
theorem UL.readO {x : Nat → Addr} (hD : DvSpec x D) (hX : Stays FX X) (hE : Errs w a) (h : UL D w FX X g p bm dev n N u W) (ep a' : Int) :
    Calls Tryz.prog 69 #[.pointer (some ⟨g, 0, none⟩), .int .i64 ep, .int .i64 a'] W fun e w' => ∃ v x, e = .returned (.tuple #[v, x]) ∧ Bytes w' w'.heap.size v (readU u ep a').1 ∧ (∀ k, v.ownBlock = some k → W.heap.size ≤ k ∧ k < w'.heap.size) ∧ IsErr a x (readU u ep a').2 ∧ Below W.heap.size W w' ∧ UL D w FX X g p bm dev n N u w' := by
  have h0 := h
  obtain ⟨d, s, l, h1, h2, h3, h4, h5, h6, h7⟩ := h
  refine (uread_own h1.unit (hE.below h1.since) (fun q hq => (page_small h5 q hq).2) ep a').mono ?_
  rintro e w' ⟨v, y, rfl, h8, ho, h9, h10⟩
  rw [read_is h5] at h8 h9
  exact ⟨v, y, rfl, h8, ho, h9, h10, h0.below hD hX h10⟩
theorem UO.open (hD : DvSpec (three a) D) (hX : Stays FX X) (hE : Errs w a) (hn : 64 ≤ n) (hn2 : n ≤ 1000) (hNl : N ≤ 90000) (h : UO D w FX X dev n N u W) :
    Calls Tryz.prog 42 #[.pointer (some ⟨dev, 0, none⟩)] W fun e w' => ∃ g p bm, e = .returned (.tuple #[.pointer (some ⟨g, 0, none⟩), .nilIface]) ∧ UL D w FX X g p bm dev n N u w' := by
  obtain ⟨d, h1, h2, h3, h4, ⟨s, l, h5, h6⟩, h7⟩ := h
  refine (uopen_any hD hX hE h1 h2 h4 hn hn2 h7 (by omega) (right_of h5.recs h5.good h6)).mono ?_
  rintro e w' ⟨g, p, bm, rfl, hU⟩
  rw [recsL_is h5.recs h5.good h6, h5.state] at hU
  exact ⟨g, p, bm, rfl, d, s, l, hU, h2, h3, h4, h5, h6, h7⟩
theorem UO.new {x : Nat → Addr} (hD : DvSpec x D) (hX : Stays FX X) (hXw : X W) (hFX : ∀ k, FX k → k < W.heap.size) (hb : Below w.heap.size w W) (k : Nat) (hk : 1 ≤ k) (hk2 : k ≤ 5) :
    Calls Tryz.prog 41 #[.int .i64 ((64 * k : Nat) : Int)] W fun e w' => ∃ dev, e = .returned (.tuple #[.pointer (some ⟨dev, 0, none⟩), .nilIface]) ∧ UO D w FX X dev (64 * k) 0 ⟨⟨k, []⟩, [], 0, 0, 0⟩ w' := by
  refine (hD.new W (64 * k) (by omega) (by omega)).mono ?_
  rintro e w' ⟨dev, F, rfl, g1, g2, g3⟩
  have hlt := hD.lt _ _ _ _ g1
  have hz := g3.size
  have hz0 := hb.size
  have hl := blank_lies (64 * k)
  rw [show 64 * k / 64 = k by omega] at hl
  refine ⟨dev, rfl, _, ⟨F, g1, fun i hi => ⟨fun hf => by have := hFX i hf; have := g2 i hi; omega, by have := g2 i hi; omega, hlt i hi⟩, fun i hi => by have := hFX i hi; omega, hb.trans (g3.mono hz0), hX _ _ (fun _ => False) hXw hFX (Kept.of_below g3) (fun _ _ h => h)⟩, rfl, rfl, hl, ⟨_, [], Holds.new k, fun x hx => (by cases hx)⟩, fun g hg => (by cases hg)⟩
end
end Go.Proofs.YtiafamacjpgjoaaGreatDoor

/- The document's own unit, new: its two blocks. -/
namespace Go.Proofs.YtiafamacjpgjoaaGreatDoor
open Go Go.RowKit Go.Shelf Tide

def refNew (W : World) (k : Nat) : World := (W.alloc (.cells #[.int .i64 (k : Int), .slice none 0 0] 145)).alloc (.cells #[.pointer (some ⟨W.heap.size, 0, none⟩), .slice none 0 0, .slice none 0 0, .slice none 0 0, .int .i64 0, .int .i64 0, .int .i64 0] 119)
theorem unew_any (k : Nat) (W : World) : Calls Tryz.prog 43 #[.int .i64 (k : Int)] W fun e w' => e = .returned (.pointer (some ⟨W.heap.size + 1, 0, none⟩)) ∧ w' = refNew W k := by
  go_enter Tryz.func43, Tryz.ntmps43
  go_wp2_with fail
  go_ret
  exact ⟨rfl, rfl⟩
end Go.Proofs.YtiafamacjpgjoaaGreatDoor

/- The document's own unit: Seal. -/
namespace Go.Proofs.YtiafamacjpgjoaaGreatDoor
open Go Go.RowKit Tide

section
variable {W : World} {F S G : Nat → Prop} {q p : Nat} {va vp vi : Value} {rs : List Value} {u : UnitD}
end
end Go.Proofs.YtiafamacjpgjoaaGreatDoor

/- The document's own unit: Trim. -/
namespace Go.Proofs.YtiafamacjpgjoaaGreatDoor
open Go Go.RowKit Tide

section
variable {W : World} {F S G : Nat → Prop} {q p : Nat} {va vp vi : Value} {rs : List Value} {u : UnitD}
end
end Go.Proofs.YtiafamacjpgjoaaGreatDoor
