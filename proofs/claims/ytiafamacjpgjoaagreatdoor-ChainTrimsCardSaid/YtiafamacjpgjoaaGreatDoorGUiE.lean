/- A unit on its device and store, as a state; a record written. -/
import Derived.Test.YtiafamacjpgjoaaGreatDoorGUiC
import Derived.Test.YtiafamacjpgjoaaGreatDoorGSsX
import Derived.Test.YtiafamacjpgjoaaGreatDoorGMem
namespace Go.Proofs.YtiafamacjpgjoaaGreatDoor
open Go Go.RowKit Tide

def US (D : DvP) (w : World) (FX : Nat → Prop) (X : World → Prop) (g p bm dev : Nat) (us : List SegU) (d : Dv) (s : StU) (W : World) : Prop :=
  ∃ Fd Fs vs, D W Fd dev d ∧ StW W Fs p dev us vs ∧ UnW W g p bm s ∧ (∀ k, Fd k → ¬ Fs k) ∧ (¬ (Fd g ∨ Fs g) ∧ ¬ (Fd bm ∨ Fs bm)) ∧ (∀ k, Fd k ∨ Fs k ∨ k = g ∨ k = bm → ¬ FX k ∧ w.heap.size ≤ k ∧ k < W.heap.size) ∧ (∀ k, FX k → k < W.heap.size) ∧ Below w.heap.size w W ∧ X W
def Stays (FX : Nat → Prop) (X : World → Prop) : Prop := ∀ (W W' : World) (F : Nat → Prop), X W → (∀ k, FX k → k < W.heap.size) → Kept F W W' → (∀ k, FX k → ¬ F k) → X W'
section
variable {D : DvP} {x : Nat → Addr} {w W W' : World} {FX : Nat → Prop} {X : World → Prop} {g p bm dev : Nat} {us us' : List SegU} {d d' : Dv} {s s' : StU}
theorem US.unit (h : US D w FX X g p bm dev us d s W) : UnW W g p bm s := by obtain ⟨_, _, _, _, _, h3, _⟩ := h; exact h3
theorem US.since (h : US D w FX X g p bm dev us d s W) : Below w.heap.size w W := by obtain ⟨_, _, _, _, _, _, _, _, _, _, h8, _⟩ := h; exact h8
theorem US.else' (h : US D w FX X g p bm dev us d s W) : X W := by obtain ⟨_, _, _, _, _, _, _, _, _, _, _, h9⟩ := h; exact h9
theorem US.below (hD : DvSpec x D) (hX : Stays FX X) (h : US D w FX X g p bm dev us d s W) (hb : Below W.heap.size W W') : US D w FX X g p bm dev us d s W' := by
  obtain ⟨Fd, Fs, vs, h1, h2, h3, h4, h5, h6, h7, h8, h9⟩ := h
  have hz := hb.size
  exact ⟨Fd, Fs, vs, hD.keep _ _ _ (fun _ => False) _ _ h1 (Kept.of_below hb) (fun _ _ h => h), h2.below hb, h3.below hb, h4, h5, fun k hk => ⟨(h6 k hk).1, (h6 k hk).2.1, Nat.lt_of_lt_of_le (h6 k hk).2.2 hz⟩, fun k hk => Nat.lt_of_lt_of_le (h7 k hk) hz,
    h8.trans (hb.mono h8.size), hX _ _ (fun _ => False) h9 h7 (Kept.of_below hb) (fun _ _ h => h)⟩
theorem US.own (hD : DvSpec x D) (hX : Stays FX X) (h : US D w FX X g p bm dev us d s W) (hk : Kept (fun k => k = g ∨ k = bm) W W') (hu : UnW W' g p bm s') : US D w FX X g p bm dev us d s' W' := by
  obtain ⟨Fd, Fs, vs, h1, h2, h3, h4, h5, h6, h7, h8, h9⟩ := h
  have hz := hk.size
  refine ⟨Fd, Fs, vs, hD.keep _ _ _ _ _ _ h1 hk (fun k hf e => ?_), h2.keep hk (fun k hf e => ?_), hu, h4, h5, fun k hk => ⟨(h6 k hk).1, (h6 k hk).2.1, Nat.lt_of_lt_of_le (h6 k hk).2.2 hz⟩, fun k hk => Nat.lt_of_lt_of_le (h7 k hk) hz, h8.trans (hk.below h8.size (fun i hi => ?_)), hX _ _ _ h9 h7 hk (fun k hf e => ?_)⟩
  · rcases e with rfl | rfl
    · exact h5.1 (.inl hf)
    · exact h5.2 (.inl hf)
  · rcases e with rfl | rfl
    · exact h5.1 (.inr hf)
    · exact h5.2 (.inr hf)
  · rcases hi with rfl | rfl
    · exact (h6 _ (.inr (.inr (.inl rfl)))).2.1
    · exact (h6 _ (.inr (.inr (.inr rfl)))).2.1
  · rcases e with rfl | rfl
    · exact (h6 _ (.inr (.inr (.inl rfl)))).1 hf
    · exact (h6 _ (.inr (.inr (.inr rfl)))).1 hf
theorem US.rs (hX : Stays FX X) (h : US D w FX X g p bm dev us d s W) {Fd Fs : Nat → Prop} (h4 : ∀ k, Fd k ∨ Fs k → ¬ FX k ∧ w.heap.size ≤ k ∧ k < W.heap.size) (h5 : ¬ (Fd g ∨ Fs g) ∧ ¬ (Fd bm ∨ Fs bm)) (hr : RS D W Fd Fs p dev us' d' W') (hD : DvSpec x D) : US D w FX X g p bm dev us' d' s W' := by
  obtain ⟨_, _, _, _, _, h3, _, _, h6, h7, h8, h9⟩ := h
  obtain ⟨F', G', vs', g1, g2, g3, g4, g5, g6⟩ := hr
  have hz := g6.size
  have hgl := (h6 _ (.inr (.inr (.inl rfl)))).2.2
  have hbl := (h6 _ (.inr (.inr (.inr rfl)))).2.2
  have hnew : ∀ k, F' k ∨ G' k → (Fd k ∨ Fs k) ∨ W.heap.size ≤ k := fun k hk => by
    rcases hk with hk | hk
    · exact (g4 k hk).imp .inl id
    · exact (g5 k hk).imp .inr id
  have hlt : ∀ k, F' k ∨ G' k → k < W'.heap.size := fun k hk => by
    rcases hk with hk | hk
    · exact hD.lt _ _ _ _ g1 k hk
    · exact g2.lt k hk
  refine ⟨F', G', vs', g1, g2, h3.kept g6 h5.1 h5.2, g3, ⟨fun hk => ?_, fun hk => ?_⟩, fun k hk => ?_, fun k hk => Nat.lt_of_lt_of_le (h7 k hk) hz, h8.trans (g6.below h8.size (fun i hi => (h4 i hi).2.1)), hX _ _ _ h9 h7 g6 (fun k hf e => (h4 k e).1 hf)⟩
  · rcases hnew g hk with h | h
    · exact h5.1 h
    · omega
  · rcases hnew bm hk with h | h
    · exact h5.2 h
    · omega
  · rcases hk with hk | hk | rfl | rfl
    · rcases hnew k (.inl hk) with h | h
      · exact ⟨(h4 k h).1, (h4 k h).2.1, hlt k (.inl hk)⟩
      · exact ⟨fun hf => by have := h7 k hf; omega, by have := h8.size; omega, hlt k (.inl hk)⟩
    · rcases hnew k (.inr hk) with h | h
      · exact ⟨(h4 k h).1, (h4 k h).2.1, hlt k (.inr hk)⟩
      · exact ⟨fun hf => by have := h7 k hf; omega, by have := h8.size; omega, hlt k (.inr hk)⟩
    · exact ⟨(h6 _ (.inr (.inr (.inl rfl)))).1, (h6 _ (.inr (.inr (.inl rfl)))).2.1, by omega⟩
    · exact ⟨(h6 _ (.inr (.inr (.inr rfl)))).1, (h6 _ (.inr (.inr (.inr rfl)))).2.1, by omega⟩
theorem US.append {a : Nat → Addr} (hD : DvSpec (three a) D) (hX : Stays FX X) (hE : Errs w a) (hNG : 19 ≤ w.heap.size) (h : US D w FX X g p bm dev us d s W) (hpe : d.pend = []) (hok : OkU (d.img.length / 64) us) (hb : Below W.heap.size W W') (vb : Value) (b : List UInt8) (hv : W'.ownsRow W.heap.size 5 1 vb b.length (u8s b)) :
    Calls Tryz.prog 90 #[.pointer (some ⟨p, 0, none⟩), vb] W' fun e w' => e = .returned (.tuple #[.int .i64 ((appendDv us d b).2.1 : Nat), errV a (appendDv us d b).1]) ∧ US D w FX X g p bm dev (appendDv us d b).2.2.1 (appendDv us d b).2.2.2 s w' := by
  have h' := h.below hD hX hb
  have h0 := h
  obtain ⟨Fd, Fs, vs, h1, h2, h3, h4, h5, h6, h7, h8, h9⟩ := h
  have hz := hb.size
  refine (append_any hD (hE.below (h8.trans (hb.mono h8.size))) (hD.keep _ _ _ (fun _ => False) _ _ h1 (Kept.of_below hb) (fun _ _ h => h)) hpe (h2.below hb) h4 (fun k hk => Nat.le_trans hNG (h6 k (hk.elim .inl (fun h => .inr (.inl h)))).2.1) (by have := h8.size; omega) hok vb b W'.heap.size (Bytes.of_own hv) (Nat.le_refl _) (fun k e hk => ?_)).mono ?_
  · have h10 := (World.ownsRow.lt hv k e).1
    have h11 := (h6 k (hk.elim .inl (fun h => .inr (.inl h)))).2.2
    omega
  · rintro e w' ⟨he, hr⟩
    exact ⟨he, US.rs hX h' (fun k hk => ⟨(h6 k (hk.elim .inl (fun h => .inr (.inl h)))).1, (h6 k (hk.elim .inl (fun h => .inr (.inl h)))).2.1, Nat.lt_of_lt_of_le (h6 k (hk.elim .inl (fun h => .inr (.inl h)))).2.2 hz⟩) h5 hr hD⟩
theorem Stays.box (hX : Stays FX X) (b : Nat) (o : Obj) : Stays (fun k => FX k ∨ k = b) (fun Y => X Y ∧ Y.heap[b]? = some o) := fun Y Y' F h hl hk hf =>
  ⟨hX Y Y' F h.1 (fun k hk => hl k (.inl hk)) hk (fun k hk => hf k (.inl hk)), hk.heap h.2 (hf b (.inr rfl))⟩
theorem US.box (hD : DvSpec x D) (hX : Stays FX X) (h : US D w FX X g p bm dev us d s W) (o : Obj) : US D w (fun k => FX k ∨ k = W.heap.size) (fun Y => X Y ∧ Y.heap[W.heap.size]? = some o) g p bm dev us d s (W.alloc o) := by
  have hb := (Below.refl W.heap.size W).alloc (Nat.le_refl _) o
  obtain ⟨Fd, Fs, vs, h1, h2, h3, h4, h5, h6, h7, h8, h9⟩ := h
  exact ⟨Fd, Fs, vs, hD.keep _ _ _ (fun _ => False) _ _ h1 (Kept.of_below hb) (fun _ _ h => h), h2.below hb, h3.below hb, h4, h5, fun k hk => ⟨fun hf => by
      rcases hf with hf | rfl
      · exact (h6 k hk).1 hf
      · have := (h6 _ hk).2.2; omega, (h6 k hk).2.1, by have := (h6 k hk).2.2; simp; omega⟩, fun k hk => by
      rcases hk with hk | rfl
      · have := h7 k hk; simp; omega
      · simp, h8.trans (hb.mono h8.size), hX _ _ (fun _ => False) h9 h7 (Kept.of_below hb) (fun _ _ h => h), heap_alloc_new W o⟩
theorem US.less {FX' : Nat → Prop} {X' : World → Prop} (h : US D w FX X g p bm dev us d s W) (hF : ∀ k, FX' k → FX k) (hX : ∀ Y, X Y → X' Y) : US D w FX' X' g p bm dev us d s W := by
  obtain ⟨Fd, Fs, vs, h1, h2, h3, h4, h5, h6, h7, h8, h9⟩ := h
  exact ⟨Fd, Fs, vs, h1, h2, h3, h4, h5, fun k hk => ⟨fun hf => (h6 k hk).1 (hF k hf), (h6 k hk).2⟩, fun k hk => h7 k (hF k hk), h8, hX _ h9⟩
end
section
variable {D : DvP} {a : Nat → Addr} {w W : World} {FX : Nat → Prop} {X : World → Prop} {g p bm dev : Nat} {us : List SegU} {d : Dv} {s : StU}
set_option maxRecDepth 100000 in
set_option maxHeartbeats 2000000 in
theorem uput_any (hD : DvSpec (three a) D) (hX : Stays FX X) (hE : Errs w a) (hNG : 19 ≤ w.heap.size) (h : US D w FX X g p bm dev us d s W) (hpe : d.pend = []) (hok : OkU (d.img.length / 64) us) (hs : OkS s) (r : RecU) (hr : GoodR r) :
    Calls Tryz.prog 61 #[.pointer (some ⟨g, 0, none⟩), recV r] W fun e w' =>
      e = .returned (errV a (appendDv us d (encR r)).1) ∧ US D w FX X g p bm dev (appendDv us d (encR r)).2.2.1 (appendDv us d (encR r)).2.2.2 (if (appendDv us d (encR r)).1 = none then countU s r (appendDv us d (encR r)).2.1 else s) w' := by
  have U0 := h.box hD hX (.cells #[.int .i64 (r.kind : Int), .int .i64 (r.adr : Int), .int .i64 (r.ep : Int), .string ⟨r.page.toArray⟩] 115)
  have hX0 := hX.box W.heap.size (.cells #[.int .i64 (r.kind : Int), .int .i64 (r.adr : Int), .int .i64 (r.ep : Int), .string ⟨r.page.toArray⟩] 115)
  have CB := Lib.hid (recBytes_any a _ r (hE.below U0.since) hr)
  have CA := Lib.hid (fun W' vb (hb : Below _ _ W') hv => US.append (W' := W') hD hX0 hE hNG U0 hpe hok hb vb (encR r) hv)
  have HX := Lib.hid hX0
  have HD := Lib.hid hD
  have HS := Lib.hid hs
  have HR := Lib.hid hr
  have HU0 := Lib.hid U0
  obtain ⟨t, ht⟩ : ∃ t, appendDv us d (encR r) = t := ⟨_, rfl⟩
  rw [ht] at CA ⊢
  obtain ⟨er, no, us', d'⟩ := t
  simp only at CA ⊢
  have HLess := Lib.hid (fun (us : List SegU) (d : Dv) (s : StU) (Y : World) (hu : US D w (fun k => FX k ∨ k = W.heap.size) (fun Y => X Y ∧ Y.heap[W.heap.size]? = some (.cells #[.int .i64 (r.kind : Int), .int .i64 (r.adr : Int), .int .i64 (r.ep : Int), .string ⟨r.page.toArray⟩] 115)) g p bm dev us d s Y) => (show US D w FX X g p bm dev us d s Y from hu.less (fun _ h => .inl h) (fun _ h => h.1)))
  obtain ⟨_, c0, c1, c2, c3⟩ := rec_facts U0.else'.2
  clear h U0 hD hX hE hr hs hok hpe ht hX0
  go_enter Tryz.func61, Tryz.ntmps61
  go_wp2_with fail
  refine CB.out.mono ?_
  rintro e w1 ⟨v, rfl, ho, hb⟩
  obtain ⟨Av, cv, rfl⟩ : ∃ Av cv, v = .slice Av (encR r).length cv := by
    rcases ho.2 with ⟨h1, h2⟩ | ⟨gg, cap, _, h1, _⟩
    · exact ⟨none, 0, by rw [h1, h2]⟩
    · exact ⟨_, cap, h1⟩
  have U1 := Lib.hid (HU0.out.below HD.out HX.out hb)
  have CA1 := Lib.hid (CA.out w1 _ hb ho)
  clear hb ho c0 c1 c2 c3 CB CA
  obtain ⟨_, d0, d1, d2, d3, _⟩ := U1.out.unit.facts
  go_wp2_with fail
  refine CA1.out.mono ?_
  rintro e w2 ⟨rfl, hU⟩
  have U2 := Lib.hid hU
  clear hU d0 d1 d2 d3 CA1
  cases er with
  | some m =>
    have hne : (errV a (some m) : Value) = errAt (a m) := rfl
    rw [hne]
    go_wp2_with fail
    go_ret
    exact ⟨rfl, HLess.out _ _ _ _ U2.out⟩
  | none =>
    have hne : (errV a none : Value) = .nilIface := rfl
    rw [hne]
    obtain ⟨_, c0, c1, c2, c3⟩ := rec_facts U2.out.else'.2
    have CC := Lib.hid (count_any U2.out.unit HS.out r HR.out no)
    go_wp2_with fail
    refine CC.out.mono ?_
    rintro e w3 ⟨rfl, hu, hk⟩
    have U3 := Lib.hid (U2.out.own HD.out HX.out hk hu)
    clear hu hk c0 c1 c2 c3
    go_wp2_with fail
    go_ret
    exact ⟨rfl, HLess.out _ _ _ _ U3.out⟩
end
end Go.Proofs.YtiafamacjpgjoaaGreatDoor

/- Package unit's admit and Write. -/
namespace Go.Proofs.YtiafamacjpgjoaaGreatDoor
open Go Go.RowKit Tide

theorem u_ng {w : World} {a : Nat → Addr} (h : Errs w a) : 19 ≤ w.heap.size := by
  have h1 : ∃ i, i < 19 ∧ evars.getD i 0 + 1 = 19 := by decide
  obtain ⟨i, hi, h2⟩ := h1
  have := World.block_lt_of_cell? _ _ (h.var i hi)
  simp only at this
  omega
section
variable {D : DvP} {a : Nat → Addr} {w W : World} {FX : Nat → Prop} {X : World → Prop} {g p bm dev : Nat} {us : List SegU} {d : Dv} {s : StU}
theorem admit_any (h : UnW W g p bm s) (hE : Errs W a) (ep at' last : Int) :
    Calls Tryz.prog 105 #[.pointer (some ⟨g, 0, none⟩), .int .i64 ep, .int .i64 at', .int .i64 last] W fun e w' => ∃ x, e = .returned x ∧ IsErr a x (checkD s.epoch ep at' last) ∧ W = w' := by
  obtain ⟨_, c0, c1, c2, c3, _⟩ := h.facts
  have h7 := hE.var 7 (by omega)
  have h0 := hE.var 0 (by omega)
  simp only [evars, List.getD_cons_zero, List.getD_cons_succ] at h7 h0
  clear h hE
  cases q0 : decide (ep < (s.epoch : Int)) with
  | true =>
    have HR := Lib.hid (show checkD s.epoch ep at' last = 7 + 1 from by unfold checkD; rw [if_pos (.inl (by simpa using q0))])
    go_enter Tryz.func105, Tryz.ntmps105
    go_wp2_with fail
    go_ret
    exact ⟨_, rfl, by rw [HR.out]; exact isErr_at a 7 (by omega), rfl⟩
  | false =>
  cases q1 : decide (1073741824 < ep) with
  | true =>
    have HR := Lib.hid (show checkD s.epoch ep at' last = 7 + 1 from by unfold checkD; rw [if_pos (.inr (by simpa using q1))])
    go_enter Tryz.func105, Tryz.ntmps105
    go_wp2_with fail
    go_ret
    exact ⟨_, rfl, by rw [HR.out]; exact isErr_at a 7 (by omega), rfl⟩
  | false =>
  have hn : ¬ (ep < (s.epoch : Int) ∨ 1073741824 < ep) := by simp at q0 q1; omega
  cases q2 : decide (at' < 0) with
  | true =>
    have HR := Lib.hid (show checkD s.epoch ep at' last = 0 + 1 from by unfold checkD; rw [if_neg hn, if_pos (.inl (by simpa using q2))])
    clear hn
    go_enter Tryz.func105, Tryz.ntmps105
    go_wp2_with fail
    go_ret
    exact ⟨_, rfl, by rw [HR.out]; exact isErr_at a 0 (by omega), rfl⟩
  | false =>
  cases q3 : decide (last < at') with
  | true =>
    have HR := Lib.hid (show checkD s.epoch ep at' last = 0 + 1 from by unfold checkD; rw [if_neg hn, if_pos (.inr (by simpa using q3))])
    clear hn
    go_enter Tryz.func105, Tryz.ntmps105
    go_wp2_with fail
    go_ret
    exact ⟨_, rfl, by rw [HR.out]; exact isErr_at a 0 (by omega), rfl⟩
  | false =>
    have HR := Lib.hid (show checkD s.epoch ep at' last = 0 from by unfold checkD; rw [if_neg hn, if_neg (by simp at q2 q3; omega)])
    clear hn
    go_enter Tryz.func105, Tryz.ntmps105
    go_wp2_with fail
    go_ret
    exact ⟨_, rfl, by rw [HR.out]; exact isErr_nil a, rfl⟩

def whyW (s : StU) (ep at' : Int) (b : List UInt8) : Nat :=
  if checkD s.epoch ep at' 4095 ≠ 0 then checkD s.epoch ep at' 4095
  else if b.length < 1 ∨ 2048 < b.length then 3
  else if at' < s.trimmed then 11
  else if hasU s at'.toNat then 9 else 0
theorem check_zero {epoch : Nat} {ep at' last : Int} (h : checkD epoch ep at' last = 0) : (epoch : Int) ≤ ep ∧ ep ≤ 1073741824 ∧ 0 ≤ at' ∧ at' ≤ last := by
  unfold checkD at h
  split at h
  · cases h
  · split at h
    · cases h
    · omega
theorem has_nat {s : StU} {n : Nat} : (s.pages.any fun q => (q.adr : Int) == (n : Int)) = hasU s n := by
  unfold hasU
  congr 1
  funext q
  by_cases e : q.adr = n
  · rw [e, beq_self_eq_true, beq_self_eq_true]
  · rw [beq_eq_false_iff_ne.2 e, beq_eq_false_iff_ne.2 (show ¬ (q.adr : Int) = (n : Int) by omega)]
theorem isErr_pos {a : Nat → Addr} {x : Value} {k : Nat} (h : IsErr a x k) (hk : k ≠ 0) : ∃ ad, x = errAt ad := by
  rcases h with ⟨h1, _⟩ | ⟨m, _, _, h2⟩
  · exact absurd h1 hk
  · exact ⟨_, h2⟩
theorem isErr_zero {a : Nat → Addr} {x : Value} {k : Nat} (h : IsErr a x k) (hk : k = 0) : x = .nilIface := by
  rcases h with ⟨_, h2⟩ | ⟨m, _, h1, _⟩
  · exact h2
  · omega
def PutR (D : DvP) (a : Nat → Addr) (w : World) (FX : Nat → Prop) (X : World → Prop) (g p bm dev : Nat) (us : List SegU) (d : Dv) (s : StU) (r : RecU) (e : Ending) (w' : World) : Prop :=
  e = .returned (errV a (appendDv us d (encR r)).1) ∧ US D w FX X g p bm dev (appendDv us d (encR r)).2.2.1 (appendDv us d (encR r)).2.2.2 (if (appendDv us d (encR r)).1 = none then countU s r (appendDv us d (encR r)).2.1 else s) w'
def WriteR (D : DvP) (a : Nat → Addr) (w : World) (FX : Nat → Prop) (X : World → Prop) (g p bm dev : Nat) (us : List SegU) (d : Dv) (s : StU) (ep at' : Int) (b : List UInt8) (e : Ending) (w' : World) : Prop :=
  (whyW s ep at' b ≠ 0 ∧ (∃ x, e = .returned x ∧ IsErr a x (whyW s ep at' b)) ∧ US D w FX X g p bm dev us d s w') ∨ (whyW s ep at' b = 0 ∧ PutR D a w FX X g p bm dev us d s ⟨1, at'.toNat, 0, b⟩ e w')
set_option maxRecDepth 100000 in
set_option maxHeartbeats 4000000 in
theorem uwrite_any (hD : DvSpec (three a) D) (hX : Stays FX X) (hE : Errs w a) (h : US D w FX X g p bm dev us d s W) (hpe : d.pend = []) (hok : OkU (d.img.length / 64) us) (hs : OkS s) (ep at' : Int) (vb : Value) (b : List UInt8) (hv : Bytes W W.heap.size vb b) :
    Calls Tryz.prog 83 #[.pointer (some ⟨g, 0, none⟩), .int .i64 ep, .int .i64 at', vb] W (WriteR D a w FX X g p bm dev us d s ep at' b) := by
  have hEW := hE.below h.since
  obtain ⟨A, c, rfl, _, _, _⟩ := hv.form
  have CA := Lib.hid (admit_any h.unit hEW ep at' 4095)
  obtain ⟨k, hk⟩ : ∃ k, checkD s.epoch ep at' 4095 = k := ⟨_, rfl⟩
  have HK := Lib.hid hk
  rw [hk] at CA
  have HW0 := Lib.hid h
  obtain ⟨_, c0, c1, c2, c3, _⟩ := h.unit.facts
  have h2 := hEW.var 2 (by omega)
  have h10 := hEW.var 10 (by omega)
  simp only [evars, List.getD_cons_zero, List.getD_cons_succ] at h2 h10
  have HHas := Lib.hid (fun (n : Nat) (hn : n ≤ 4095) => uhas_any h.unit (n : Int) (by omega) (by omega))
  have HV := Lib.hid hv
  have HD := Lib.hid hD
  have HX := Lib.hid hX
  have HE := Lib.hid hE
  have HS := Lib.hid hs
  have HOk := Lib.hid hok
  have HPe := Lib.hid hpe
  clear h hEW hv hD hX hE hs hok hpe hk
  go_enter Tryz.func83, Tryz.ntmps83
  go_wp2_with fail
  refine CA.out.mono ?_
  rintro e w1 ⟨x, rfl, hx, rfl⟩
  by_cases hk0 : k = 0
  rotate_left
  · have HR := Lib.hid (show whyW s ep at' b = k from by unfold whyW; rw [HK.out, if_pos hk0])
    have HIx := Lib.hid hx
    obtain ⟨ad, rfl⟩ := isErr_pos hx hk0
    have HK0 := Lib.hid hk0
    clear hx hk0
    go_wp2_with fail
    go_ret
    exact .inl ⟨by rw [HR.out]; exact HK0.out, ⟨_, rfl, by rw [HR.out]; exact HIx.out⟩, HW0.out⟩
  obtain rfl := isErr_zero hx hk0
  subst hk0
  have hc := check_zero HK.out
  clear hx
  have HN0 := Lib.hid (show ¬ checkD s.epoch ep at' 4095 ≠ 0 from by rw [HK.out]; simp)
  obtain ⟨n, rfl⟩ : ∃ n : Nat, at' = n := ⟨at'.toNat, by omega⟩
  have hn4 : n ≤ 4095 := by omega
  cases q1 : decide ((b.length : Int) < 1) with
  | true =>
    have HR := Lib.hid (show whyW s ep n b = 2 + 1 from by unfold whyW; rw [if_neg HN0.out, if_pos (.inl (by have := of_decide_eq_true q1; omega))])
    go_wp2_with fail
    go_ret
    exact .inl ⟨by rw [HR.out]; omega, ⟨_, rfl, by rw [HR.out]; exact isErr_at a 2 (by omega)⟩, HW0.out⟩
  | false =>
  cases q2 : decide ((2048 : Int) < (b.length : Int)) with
  | true =>
    have HR := Lib.hid (show whyW s ep n b = 2 + 1 from by unfold whyW; rw [if_neg HN0.out, if_pos (.inr (by have := of_decide_eq_true q2; omega))])
    go_wp2_with fail
    go_ret
    exact .inl ⟨by rw [HR.out]; omega, ⟨_, rfl, by rw [HR.out]; exact isErr_at a 2 (by omega)⟩, HW0.out⟩
  | false =>
  have HN1 := Lib.hid (show ¬ (b.length < 1 ∨ 2048 < b.length) from by
    have e1 := of_decide_eq_false q1
    have e2 := of_decide_eq_false q2
    omega)
  cases q3 : decide ((n : Int) < (s.trimmed : Int)) with
  | true =>
    have HR := Lib.hid (show whyW s ep n b = 10 + 1 from by unfold whyW; rw [if_neg HN0.out, if_neg HN1.out, if_pos (of_decide_eq_true q3)])
    have q3' := of_decide_eq_true q3
    clear q3
    go_wp2_with fail
    go_ret
    exact .inl ⟨by rw [HR.out]; omega, ⟨_, rfl, by rw [HR.out]; exact isErr_at a 10 (by omega)⟩, HW0.out⟩
  | false =>
  have HN2 := Lib.hid (of_decide_eq_false q3)
  have q3' := of_decide_eq_false q3
  clear q3
  have CH := Lib.hid (HHas.out n hn4)
  rw [has_nat] at CH
  obtain ⟨R, hR⟩ : ∃ R, hasU s n = R := ⟨_, rfl⟩
  have HRh := Lib.hid hR
  rw [hR] at CH
  clear hR
  go_wp2_with fail
  refine CH.out.mono ?_
  rintro e w2 ⟨rfl, hb⟩
  have U2 := Lib.hid (HW0.out.below HD.out HX.out hb)
  have HV2 := Lib.hid (HV.out.below hb)
  have hE2 := HE.out.below U2.out.since
  have h8 := hE2.var 8 (by omega)
  simp only [evars, List.getD_cons_zero, List.getD_cons_succ] at h8
  clear hb CH hE2 h2 h10 c0 c1 c2 c3
  cases R with
  | true =>
    have HR := Lib.hid (show whyW s ep n b = 8 + 1 from by unfold whyW; rw [if_neg HN0.out, if_neg HN1.out, if_neg (by have := HN2.out; omega), Int.toNat_natCast, HRh.out]; rfl)
    go_wp2_with fail
    go_ret
    exact .inl ⟨by rw [HR.out]; omega, ⟨_, rfl, by rw [HR.out]; exact isErr_at a 8 (by omega)⟩, U2.out⟩
  | false =>
    have HR := Lib.hid (show whyW s ep n b = 0 from by unfold whyW; rw [if_neg HN0.out, if_neg HN1.out, if_neg (by have := HN2.out; omega), Int.toNat_natCast, HRh.out]; rfl)
    have cv := conv_bytes HV2.out
    have HPut := Lib.hid (uput_any HD.out HX.out HE.out (u_ng HE.out) U2.out HPe.out HOk.out HS.out ⟨1, n, 0, b⟩ (.inl ⟨rfl, hn4, by have := HN1.out; show 1 ≤ b.length; omega, by have := HN1.out; show b.length ≤ 2048; omega⟩))
    have HPut2 := Lib.hid (show Calls Tryz.prog 61 #[.pointer (some ⟨g, 0, none⟩), .agg #[.int .i64 1, .int .i64 (n : Int), .int .i64 0, .string (text b)]] w2 (PutR D a w FX X g p bm dev us d s ⟨1, n, 0, b⟩) from HPut.out)
    clear HPut
    go_wp2_with fail
    refine HPut2.out.mono ?_
    rintro e w3 ⟨rfl, hU⟩
    have U3 := Lib.hid hU
    clear hU
    obtain ⟨er, her⟩ : ∃ er, (appendDv us d (encR ⟨1, n, 0, b⟩)).1 = er := ⟨_, rfl⟩
    have HEr := Lib.hid her
    rw [her]
    clear her
    cases er with
    | none =>
      go_wp2_with fail
      go_ret
      exact .inr ⟨HR.out, by rw [Int.toNat_natCast]; exact ⟨by rw [HEr.out] <;> rfl, U3.out⟩⟩
    | some m =>
      go_wp2_with fail
      go_ret
      exact .inr ⟨HR.out, by rw [Int.toNat_natCast]; exact ⟨by rw [HEr.out] <;> rfl, U3.out⟩⟩
end
end Go.Proofs.YtiafamacjpgjoaaGreatDoor
