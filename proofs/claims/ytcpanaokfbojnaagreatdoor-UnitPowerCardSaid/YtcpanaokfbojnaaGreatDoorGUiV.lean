/- Package unit's Read, Seal, Free. -/
import Derived.Test.YtcpanaokfbojnaaGreatDoorGUiE
import Derived.Test.YtcpanaokfbojnaaGreatDoorGSsF
import Derived.Lib.ConvBytes
namespace Go.Proofs.YtcpanaokfbojnaaGreatDoor
open Go Go.RowKit Tide

theorem u_drawn {B : Nat} {a w : World} (h : Below B a w) (n : Nat) : Below B a (w.drewN n) := ⟨h.os, h.tape, h.output, h.size, h.block⟩
theorem conv_text (w : World) (l : List UInt8) (hl : l.length ≤ 100000) : ∃ v w', (convert 9 45 (.string ⟨l.toArray⟩)).run Tryz.prog w = .ok v w' ∧ Bytes w' w'.heap.size v l ∧ Below w.heap.size w w' := by
  have hs : (⟨l.toArray⟩ : ByteArray).size = l.length := by show l.toArray.size = _; simp
  have hb : Below w.heap.size w (Lib.bytesWorld w 5 ⟨l.toArray⟩) := ⟨rfl, rfl, rfl, by rw [Lib.bytesWorld_size]; omega, fun k hk => Lib.bytesWorld_at_old w _ _ k hk⟩
  refine ⟨_, _, Lib.run_convert_string_bytes w 9 45 5 ⟨l.toArray⟩ Tryz.underlying9 Tryz.underlying45 Tryz.underlying5, ?_, hb⟩
  have hcap : (⟨l.toArray⟩ : ByteArray).size ≤ grownCap w (⟨l.toArray⟩ : ByteArray).size 0 5 := grownCap_ge w _ _ _
  have hcap2 : grownCap w (⟨l.toArray⟩ : ByteArray).size 0 5 ≤ 9223372036854775807 := by
    have := grownCap_le_maxLen w (⟨l.toArray⟩ : ByteArray).size 0 5 (by rw [hs]; unfold maxLen; omega)
    unfold maxLen at this; exact this
  refine ⟨by rw [u8s_length]; omega, some ⟨w.heap.size, 0, none⟩, _, by rw [u8s_length, hs], by rw [u8s_length, ← hs]; exact hcap, hcap2, fun _ => ⟨w.heap.size, 0, rfl, by rw [Lib.bytesWorld_size]; omega, fun j u hu => ?_⟩⟩
  have hj : j < l.length := by
    have := (List.getElem?_eq_some_iff.1 hu).1
    rwa [u8s_length] at this
  rw [Nat.zero_add, Lib.bytesWorld_cell w _ _ j (by rw [hs]; exact hj), ← hu, u8s_get l j hj]
  simp [hj]
theorem page_field (t : ByteArray) (g : Int) (w : World) : (Instr.field 111 (.agg #[.string t, .int .i64 g]) 0).run Tryz.prog w = .ok (.string t) w := by kernel_rfl
section
variable {D : DvP} {a : Nat → Addr} {w W : World} {FX : Nat → Prop} {X : World → Prop} {g p bm dev : Nat} {us : List SegU} {d : Dv} {s : StU}
def readS (s : StU) (ep at' : Int) : List UInt8 × Nat :=
  if checkD s.epoch ep at' 4095 ≠ 0 then ([], checkD s.epoch ep at' 4095)
  else if at' < s.trimmed then ([], 11)
  else match s.pages.find? fun q => (q.adr : Int) == at' with
    | none => ([], 10)
    | some q => (q.bs, 0)
def ReadR (a : Nat → Addr) (W : World) (s : StU) (ep at' : Int) (e : Ending) (w' : World) : Prop :=
  ∃ v x, e = .returned (.tuple #[v, x]) ∧ Bytes w' w'.heap.size v (readS s ep at').1 ∧ IsErr a x (readS s ep at').2 ∧ Below W.heap.size W w'
set_option maxRecDepth 100000 in
set_option maxHeartbeats 4000000 in
theorem uread_any (h : UnW W g p bm s) (hE : Errs W a) (hp : ∀ q ∈ s.pages, q.bs.length ≤ 2048) (ep at' : Int) :
    Calls Tryz.prog 25 #[.pointer (some ⟨g, 0, none⟩), .int .i64 ep, .int .i64 at'] W (ReadR a W s ep at') := by
  have CA := Lib.hid (admit_any h hE ep at' 4095)
  obtain ⟨k, hk⟩ : ∃ k, checkD s.epoch ep at' 4095 = k := ⟨_, rfl⟩
  have HK := Lib.hid hk
  rw [hk] at CA
  have HU := Lib.hid h
  obtain ⟨_, c0, c1, c2, c3, _⟩ := h.facts
  have h10 := hE.var 10 (by omega)
  simp only [evars, List.getD_cons_zero, List.getD_cons_succ] at h10
  have HHas := Lib.hid (fun (n : Nat) (hn : n ≤ 4095) => uhas_any h (n : Int) (by omega) (by omega))
  have HE := Lib.hid hE
  have HP := Lib.hid hp
  clear h hE hp hk
  go_enter Tryz.func25, Tryz.ntmps25
  go_wp2_with fail
  refine CA.out.mono ?_
  rintro e w1 ⟨x, rfl, hx, rfl⟩
  by_cases hk0 : k = 0
  rotate_left
  · have HR := Lib.hid (show readS s ep at' = ([], k) from by unfold readS; rw [HK.out, if_pos hk0])
    have HIx := Lib.hid hx
    obtain ⟨ad, rfl⟩ := isErr_pos hx hk0
    clear hx hk0
    go_wp2_with fail
    go_ret2
    exact ⟨_, _, rfl, by rw [HR.out]; exact bytes_nil' _ _, by rw [HR.out]; exact HIx.out, Below.refl _ _⟩
  obtain rfl := isErr_zero hx hk0
  subst hk0
  have hc := check_zero HK.out
  clear hx
  have HN0 := Lib.hid (show ¬ checkD s.epoch ep at' 4095 ≠ 0 from by rw [HK.out]; simp)
  obtain ⟨n, rfl⟩ : ∃ n : Nat, at' = n := ⟨at'.toNat, by omega⟩
  have hn4 : n ≤ 4095 := by omega
  by_cases q3 : (n : Int) < (s.trimmed : Int)
  · have HR := Lib.hid (show readS s ep n = ([], 10 + 1) from by unfold readS; rw [if_neg HN0.out, if_pos q3])
    go_wp2_with fail
    go_quiet (fail)
    go_wp2_with fail
    go_ret2
    exact ⟨_, _, rfl, by rw [HR.out]; exact bytes_nil' _ _, by rw [HR.out]; exact isErr_at a 10 (by omega), u_drawn (Below.refl _ _) _⟩
  have HN2 := Lib.hid q3
  have q3' : (s.trimmed : Int) ≤ (n : Int) := by omega
  have CH := Lib.hid (HHas.out n hn4)
  obtain ⟨R, hR⟩ : ∃ R, (s.pages.any fun q => (q.adr : Int) == (n : Int)) = R := ⟨_, rfl⟩
  have HRh := Lib.hid hR
  rw [hR] at CH
  clear hR
  go_wp2_with fail
  refine CH.out.mono ?_
  rintro e w2 ⟨rfl, hb⟩
  have U2 := Lib.hid (HU.out.below hb)
  have B2 := Lib.hid hb
  have hE2 := HE.out.below hb
  have h9 := hE2.var 9 (by omega)
  simp only [evars, List.getD_cons_zero, List.getD_cons_succ] at h9
  clear hb CH hE2 h10 c0 c1 c2 c3
  obtain ⟨_, c0, c1, c2, c3, _⟩ := U2.out.facts
  cases R with
  | false =>
    have HR := Lib.hid (show readS s ep n = ([], 9 + 1) from by
      unfold readS
      rw [if_neg HN0.out, if_neg (by have := HN2.out; omega), List.find?_eq_none.2 (fun q hq he => by have := List.any_eq_false.1 HRh.out q hq; exact this he)])
    go_wp2_with fail
    go_quiet (fail)
    go_wp2_with fail
    go_ret2
    exact ⟨_, _, rfl, by rw [HR.out]; exact bytes_nil' _ _, by rw [HR.out]; exact isErr_at a 9 (by omega), u_drawn B2.out _⟩
  | true =>
    obtain ⟨q, hf⟩ : ∃ q, (s.pages.find? fun q => (q.adr : Int) == (n : Int)) = some q := by
      cases e : s.pages.find? fun q => (q.adr : Int) == (n : Int) with
      | some q => exact ⟨q, rfl⟩
      | none =>
        obtain ⟨q, hq, he⟩ := any_find HRh.out
        exact absurd (by simpa using he) (List.find?_eq_none.1 e q hq)
    have hq := List.mem_of_find?_eq_some hf
    have hqa : (q.adr : Int) = n := by have := List.find?_some hf; simpa using this
    have HR := Lib.hid (show readS s ep n = (q.bs, 0) from by unfold readS; rw [if_neg HN0.out, if_neg (by have := HN2.out; omega), hf])
    obtain ⟨v3, w3, hcv, hby, hb3⟩ := conv_text w2 q.bs (by have := HP.out q hq; omega)
    have HBy := Lib.hid hby
    have B3 := Lib.hid (B2.out.trans (hb3.mono B2.out.size))
    have HQ := Lib.hid hq
    have HM := Lib.hid U2.out.map
    have HQa := Lib.hid hqa
    have hpf := page_field ⟨q.bs.toArray⟩ (q.seg : Int) w2
    clear hby hb3 hf hq hqa
    go_wp2_with (at_lookup; refine wpList_page _ HM.out rfl _ _ rfl rfl (n : Int) rfl (by omega) (by omega) ?_; intro s' g' hsg; obtain ⟨rfl, rfl⟩ := hsg q HQ.out HQa.out; unfold pageV)
    go_ret2
    exact ⟨_, _, rfl, by rw [HR.out]; exact HBy.out, by rw [HR.out]; exact isErr_nil a, B3.out⟩
end
end Go.Proofs.YtcpanaokfbojnaaGreatDoor

/- Package unit's Seal and Free. -/
namespace Go.Proofs.YtcpanaokfbojnaaGreatDoor
open Go Go.RowKit Tide
section
variable {D : DvP} {a : Nat → Addr} {w W : World} {FX : Nat → Prop} {X : World → Prop} {g p bm dev : Nat} {us : List SegU} {d : Dv} {s : StU}
def whyS (s : StU) (ep : Int) : Nat := if ep < 0 ∨ 1073741824 < ep then 14 else if ep < s.epoch then 8 else 0
def SealR (D : DvP) (a : Nat → Addr) (w : World) (FX : Nat → Prop) (X : World → Prop) (g p bm dev : Nat) (us : List SegU) (d : Dv) (s : StU) (ep : Int) (e : Ending) (w' : World) : Prop :=
  (whyS s ep ≠ 0 ∧ (∃ x, e = .returned (.tuple #[.int .i64 0, x]) ∧ IsErr a x (whyS s ep)) ∧ US D w FX X g p bm dev us d s w') ∨
  (whyS s ep = 0 ∧ ep = s.epoch ∧ e = .returned (.tuple #[.int .i64 (tailU s : Int), .nilIface]) ∧ US D w FX X g p bm dev us d s w') ∨
  (whyS s ep = 0 ∧ s.epoch < ep ∧ (∃ m, (appendDv us d (encR ⟨3, 0, ep.toNat, []⟩)).1 = some m ∧ e = .returned (.tuple #[.int .i64 0, errAt (a m)])) ∧ US D w FX X g p bm dev (appendDv us d (encR ⟨3, 0, ep.toNat, []⟩)).2.2.1 (appendDv us d (encR ⟨3, 0, ep.toNat, []⟩)).2.2.2 s w') ∨
  (whyS s ep = 0 ∧ s.epoch < ep ∧ (appendDv us d (encR ⟨3, 0, ep.toNat, []⟩)).1 = none ∧ e = .returned (.tuple #[.int .i64 (tailU { s with epoch := ep.toNat } : Int), .nilIface]) ∧
    US D w FX X g p bm dev (appendDv us d (encR ⟨3, 0, ep.toNat, []⟩)).2.2.1 (appendDv us d (encR ⟨3, 0, ep.toNat, []⟩)).2.2.2 { s with epoch := ep.toNat } w')
set_option maxRecDepth 100000 in
set_option maxHeartbeats 4000000 in
theorem useal_any (hD : DvSpec (three a) D) (hX : Stays FX X) (hE : Errs w a) (h : US D w FX X g p bm dev us d s W) (hpe : d.pend = []) (hok : OkU (d.img.length / 64) us) (hs : OkS s) (ep : Int) :
    Calls Tryz.prog 18 #[.pointer (some ⟨g, 0, none⟩), .int .i64 ep] W (SealR D a w FX X g p bm dev us d s ep) := by
  have hEW := hE.below h.since
  have HW0 := Lib.hid h
  obtain ⟨_, c0, c1, c2, c3, _⟩ := h.unit.facts
  have h13 := hEW.var 13 (by omega)
  have h7 := hEW.var 7 (by omega)
  simp only [evars, List.getD_cons_zero, List.getD_cons_succ] at h13 h7
  have HD := Lib.hid hD
  have HX := Lib.hid hX
  have HS := Lib.hid hs
  have CT := Lib.hid (tailU_any h.unit hs)
  have HPut := Lib.hid (fun hr => uput_any hD hX hE (u_ng hE) h hpe hok hs ⟨3, 0, ep.toNat, []⟩ (.inr (.inr ⟨rfl, hr⟩)))
  clear h hEW hD hX hE hs hok hpe
  cases q0 : decide (ep < 0) with
  | true =>
    have HR := Lib.hid (show whyS s ep = 13 + 1 from by unfold whyS; rw [if_pos (.inl (of_decide_eq_true q0))])
    go_enter Tryz.func18, Tryz.ntmps18
    go_wp2_with fail
    go_quiet (fail)
    go_wp2_with fail
    go_ret2
    exact .inl ⟨by rw [HR.out]; omega, ⟨_, rfl, by rw [HR.out]; exact isErr_at a 13 (by omega)⟩, HW0.out.below HD.out HX.out (u_drawn (Below.refl _ _) _)⟩
  | false =>
  cases q1 : decide (1073741824 < ep) with
  | true =>
    have HR := Lib.hid (show whyS s ep = 13 + 1 from by unfold whyS; rw [if_pos (.inr (of_decide_eq_true q1))])
    go_enter Tryz.func18, Tryz.ntmps18
    go_wp2_with fail
    go_quiet (fail)
    go_wp2_with fail
    go_ret2
    exact .inl ⟨by rw [HR.out]; omega, ⟨_, rfl, by rw [HR.out]; exact isErr_at a 13 (by omega)⟩, HW0.out.below HD.out HX.out (u_drawn (Below.refl _ _) _)⟩
  | false =>
  have e0 := of_decide_eq_false q0
  have e1 := of_decide_eq_false q1
  obtain ⟨n, rfl⟩ : ∃ n : Nat, ep = n := ⟨ep.toNat, by omega⟩
  have hn : n ≤ 1073741824 := by omega
  have HN := Lib.hid (show ¬ ((n : Int) < 0 ∨ 1073741824 < (n : Int)) from by omega)
  clear e0 e1
  by_cases q2 : (n : Int) < (s.epoch : Int)
  · have HR := Lib.hid (show whyS s n = 7 + 1 from by unfold whyS; rw [if_neg HN.out, if_pos q2])
    go_enter Tryz.func18, Tryz.ntmps18
    go_wp2_with fail
    go_quiet (fail)
    go_wp2_with fail
    go_ret2
    exact .inl ⟨by rw [HR.out]; omega, ⟨_, rfl, by rw [HR.out]; exact isErr_at a 7 (by omega)⟩, HW0.out.below HD.out HX.out (u_drawn (Below.refl _ _) _)⟩
  have HR := Lib.hid (show whyS s n = 0 from by unfold whyS; rw [if_neg HN.out, if_neg q2])
  by_cases q3 : (s.epoch : Int) < (n : Int)
  rotate_left
  · have HEq := Lib.hid (show (n : Int) = (s.epoch : Int) from by omega)
    go_enter Tryz.func18, Tryz.ntmps18
    go_wp2_with fail
    refine CT.out.mono ?_
    rintro e w1 ⟨rfl, hb⟩
    have U1 := Lib.hid (HW0.out.below HD.out HX.out hb)
    clear hb
    go_wp2_with fail
    go_ret2
    exact .inr (.inl ⟨HR.out, HEq.out, rfl, U1.out⟩)
  have HLt := Lib.hid q3
  have HPut2 := Lib.hid (show Calls Tryz.prog 43 #[.pointer (some ⟨g, 0, none⟩), .agg #[.int .i64 3, .int .i64 0, .int .i64 (n : Int), .string ⟨#[]⟩]] W (PutR D a w FX X g p bm dev us d s ⟨3, 0, n, []⟩) from HPut.out (by show (n : Int).toNat ≤ _; omega))
  clear HPut
  go_enter Tryz.func18, Tryz.ntmps18
  go_wp2_with fail
  refine HPut2.out.mono ?_
  rintro e w2 ⟨rfl, hU⟩
  have U2 := Lib.hid hU
  clear hU
  obtain ⟨er, her⟩ : ∃ er, (appendDv us d (encR ⟨3, 0, n, []⟩)).1 = er := ⟨_, rfl⟩
  have HEr := Lib.hid her
  rw [her]
  rw [her] at U2
  clear her
  cases er with
  | some m =>
    have hne : (errV a (some m) : Value) = errAt (a m) := rfl
    rw [hne]
    rw [if_neg (by simp)] at U2
    go_wp2_with fail
    go_ret2
    exact .inr (.inr (.inl ⟨HR.out, HLt.out, ⟨m, by rw [Int.toNat_natCast]; exact HEr.out, rfl⟩, by rw [Int.toNat_natCast]; exact U2.out⟩))
  | none =>
    have hne : (errV a none : Value) = .nilIface := rfl
    rw [hne]
    rw [if_pos rfl] at U2
    have hcu : countU s ⟨3, 0, n, []⟩ (appendDv us d (encR ⟨3, 0, n, []⟩)).2.1 = { s with epoch := n } := by unfold countU; rw [if_neg (show ¬ (3 : Nat) = 1 by decide), if_neg (show ¬ (3 : Nat) = 2 by decide)]
    rw [hcu] at U2
    have CT2 := Lib.hid (tailU_any U2.out.unit ⟨HS.out.trimmed, hn, HS.out.adrs, HS.out.segs, HS.out.once⟩)
    clear hcu
    go_wp2_with fail
    refine CT2.out.mono ?_
    rintro e w3 ⟨rfl, hb⟩
    have U3 := Lib.hid (U2.out.below HD.out HX.out hb)
    clear hb
    go_wp2_with fail
    go_ret2
    exact .inr (.inr (.inr ⟨HR.out, HLt.out, by rw [Int.toNat_natCast]; exact HEr.out, by rw [Int.toNat_natCast] <;> rfl, by rw [Int.toNat_natCast]; exact U3.out⟩))
theorem ufree_any (hD : DvSpec (three a) D) (hX : Stays FX X) (h : US D w FX X g p bm dev us d s W) (hmax : us.length ≤ 1000) :
    Calls Tryz.prog 31 #[.pointer (some ⟨g, 0, none⟩)] W fun e w' => e = .returned (.int .i64 ((freeL us (d.img.length / 64 / 64)).length : Nat)) ∧ US D w FX X g p bm dev us d s w' := by
  obtain ⟨_, c0, c1, c2, c3, _⟩ := h.unit.facts
  have HU := Lib.hid h
  have HD := Lib.hid hD
  have HX := Lib.hid hX
  obtain ⟨Fd, Fs, vs, h1, h2, _⟩ := h
  have CF := Lib.hid (freeS_any hD h1 h2 hmax)
  clear h1 h2 hD hX hmax
  go_enter Tryz.func31, Tryz.ntmps31
  go_wp2_with fail
  refine CF.out.mono ?_
  rintro e w1 ⟨rfl, hb⟩
  have U1 := Lib.hid (HU.out.below HD.out HX.out hb)
  clear hb
  go_wp2_with fail
  go_ret
  exact ⟨rfl, U1.out⟩
end
end Go.Proofs.YtcpanaokfbojnaaGreatDoor
