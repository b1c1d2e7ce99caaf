/- Package unit's Read, Seal, Free. -/
import Derived.Test.YtiafamacjpgjoaaGreatDoorGUiE
import Derived.Test.YtiafamacjpgjoaaGreatDoorGSsF
import Derived.Lib.ConvBytes
namespace Go.Proofs.YtiafamacjpgjoaaGreatDoor
open Go Go.RowKit Tide

theorem u_drawn {B : Nat} {a w : World} (h : Below B a w) (n : Nat) : Below B a (w.drewN n) := ⟨h.os, h.tape, h.output, h.size, h.block⟩
theorem conv_text (w : World) (l : List UInt8) (hl : l.length ≤ 100000) : ∃ v w', (convert 9 47 (.string ⟨l.toArray⟩)).run Tryz.prog w = .ok v w' ∧ Bytes w' w'.heap.size v l ∧ Below w.heap.size w w' := by
  have hs : (⟨l.toArray⟩ : ByteArray).size = l.length := by show l.toArray.size = _; simp
  have hb : Below w.heap.size w (Lib.bytesWorld w 5 ⟨l.toArray⟩) := ⟨rfl, rfl, rfl, by rw [Lib.bytesWorld_size]; omega, fun k hk => Lib.bytesWorld_at_old w _ _ k hk⟩
  refine ⟨_, _, Lib.run_convert_string_bytes w 9 47 5 ⟨l.toArray⟩ Tryz.underlying9 Tryz.underlying47 Tryz.underlying5, ?_, hb⟩
  have hcap : (⟨l.toArray⟩ : ByteArray).size ≤ grownCap w (⟨l.toArray⟩ : ByteArray).size 0 5 := grownCap_ge w _ _ _
  have hcap2 : grownCap w (⟨l.toArray⟩ : ByteArray).size 0 5 ≤ 9223372036854775807 := by
    have := grownCap_le_maxLen w (⟨l.toArray⟩ : ByteArray).size 0 5 (by rw [hs]; unfold maxLen; omega)
    unfold maxLen at this; exact this
  refine ⟨by rw [u8s_length]; omega, some ⟨w.heap.size, 0, none⟩, _, by rw [u8s_length, hs], by rw [u8s_length, ← hs]; exact hcap, hcap2, fun _ => ⟨w.heap.size, 0, rfl, by rw [Lib.bytesWorld_size]; omega, fun j u hu => ?_⟩⟩
  have hj : j < l.length := by
    have := (List.getElem?_eq_some_iff.1 hu).1
    rwa [u8s_length] at this
  rw [Nat.zero_add, Lib.bytesWorld_cell w _ _ j (by rw [hs]; exact hj), ← hu, u8s_get l j hj]
  simp [hj]
theorem conv_textA (w : World) (l : List UInt8) (hl : l.length ≤ 100000) : ∃ v w', (convert 9 47 (.string ⟨l.toArray⟩)).run Tryz.prog w = .ok v w' ∧ Bytes w' w'.heap.size v l ∧ Below w.heap.size w w' ∧ v.ownBlock = some w.heap.size ∧ w.heap.size < w'.heap.size := by
  obtain ⟨v, w', h1, h2, h3⟩ := conv_text w l hl
  refine ⟨v, w', h1, h2, h3, ?_⟩
  rw [Lib.run_convert_string_bytes w 9 47 5 ⟨l.toArray⟩ Tryz.underlying9 Tryz.underlying47 Tryz.underlying5] at h1
  injection h1 with h1 h1'
  rw [← h1, ← h1']
  exact ⟨rfl, by rw [Lib.bytesWorld_size]; omega⟩
theorem page_field (t : ByteArray) (g : Int) (w : World) : (Instr.field 171 (.agg #[.string t, .int .i64 g]) 0).run Tryz.prog w = .ok (.string t) w := by kernel_rfl
section
variable {D : DvP} {a : Nat → Addr} {w W : World} {FX : Nat → Prop} {X : World → Prop} {g p bm dev : Nat} {us : List SegU} {d : Dv} {s : StU}
def readS (s : StU) (ep at' : Int) : List UInt8 × Nat :=
  if checkD s.epoch ep at' 4095 ≠ 0 then ([], checkD s.epoch ep at' 4095)
  else if at' < s.trimmed then ([], 11)
  else match s.pages.find? fun q => (q.adr : Int) == at' with
    | none => ([], 10)
    | some q => (q.bs, 0)
def ReadO (a : Nat → Addr) (W : World) (s : StU) (ep at' : Int) (e : Ending) (w' : World) : Prop :=
  ∃ v x, e = .returned (.tuple #[v, x]) ∧ Bytes w' w'.heap.size v (readS s ep at').1 ∧ (∀ k, v.ownBlock = some k → W.heap.size ≤ k ∧ k < w'.heap.size) ∧ IsErr a x (readS s ep at').2 ∧ Below W.heap.size W w'
set_option maxRecDepth 100000 in
set_option maxHeartbeats 4000000 in
theorem uread_own (h : UnW W g p bm s) (hE : Errs W a) (hp : ∀ q ∈ s.pages, q.bs.length ≤ 2048) (ep at' : Int) :
    Calls Tryz.prog 69 #[.pointer (some ⟨g, 0, none⟩), .int .i64 ep, .int .i64 at'] W (ReadO a W s ep at') := by
  have CA := Lib.hid (admit_any h hE ep at' 4095)
  obtain ⟨k, hk⟩ : ∃ k, checkD s.epoch ep at' 4095 = k := ⟨_, rfl⟩
  have HK := Lib.hid hk
  rw [hk] at CA
  have HU := Lib.hid h
  obtain ⟨_, c0, c1, c2, c3, _⟩ := h.facts
  have h10 := hE.var 10 (by omega)
  simp only [evars, List.getD_cons_zero, List.getD_cons_succ] at h10
  have HHas := Lib.hid (fun (n : Nat) (hn : n ≤ 4095) => uhas_any h (n : Int) (by omega) (by omega))
  have HE := Lib.hid hE
  have HP := Lib.hid hp
  clear h hE hp hk
  go_enter Tryz.func69, Tryz.ntmps69
  go_wp2_with fail
  refine CA.out.mono ?_
  rintro e w1 ⟨x, rfl, hx, rfl⟩
  by_cases hk0 : k = 0
  rotate_left
  · have HR := Lib.hid (show readS s ep at' = ([], k) from by unfold readS; rw [HK.out, if_pos hk0])
    have HIx := Lib.hid hx
    obtain ⟨ad, rfl⟩ := isErr_pos hx hk0
    clear hx hk0
    go_wp2_with fail
    go_ret2
    exact ⟨_, _, rfl, by rw [HR.out]; exact bytes_nil' _ _, fun _ h => by (cases h), by rw [HR.out]; exact HIx.out, Below.refl _ _⟩
  obtain rfl := isErr_zero hx hk0
  subst hk0
  have hc := check_zero HK.out
  clear hx
  have HN0 := Lib.hid (show ¬ checkD s.epoch ep at' 4095 ≠ 0 from by rw [HK.out]; simp)
  obtain ⟨n, rfl⟩ : ∃ n : Nat, at' = n := ⟨at'.toNat, by omega⟩
  have hn4 : n ≤ 4095 := by omega
  by_cases q3 : (n : Int) < (s.trimmed : Int)
  · have HR := Lib.hid (show readS s ep n = ([], 10 + 1) from by unfold readS; rw [if_neg HN0.out, if_pos q3])
    go_wp2_with fail
    go_quiet (fail)
    go_wp2_with fail
    go_ret2
    exact ⟨_, _, rfl, by rw [HR.out]; exact bytes_nil' _ _, fun _ h => by (cases h), by rw [HR.out]; exact isErr_at a 10 (by omega), u_drawn (Below.refl _ _) _⟩
  have HN2 := Lib.hid q3
  have q3' : (s.trimmed : Int) ≤ (n : Int) := by omega
  have CH := Lib.hid (HHas.out n hn4)
  obtain ⟨R, hR⟩ : ∃ R, (s.pages.any fun q => (q.adr : Int) == (n : Int)) = R := ⟨_, rfl⟩
  have HRh := Lib.hid hR
  rw [hR] at CH
  clear hR
  go_wp2_with fail
  refine CH.out.mono ?_
  rintro e w2 ⟨rfl, hb⟩
  have U2 := Lib.hid (HU.out.below hb)
  have B2 := Lib.hid hb
  have hE2 := HE.out.below hb
  have h9 := hE2.var 9 (by omega)
  simp only [evars, List.getD_cons_zero, List.getD_cons_succ] at h9
  clear hb CH hE2 h10 c0 c1 c2 c3
  obtain ⟨_, c0, c1, c2, c3, _⟩ := U2.out.facts
  cases R with
  | false =>
    have HR := Lib.hid (show readS s ep n = ([], 9 + 1) from by
      unfold readS
      rw [if_neg HN0.out, if_neg (by have := HN2.out; omega), List.find?_eq_none.2 (fun q hq he => by have := List.any_eq_false.1 HRh.out q hq; exact this he)])
    go_wp2_with fail
    go_quiet (fail)
    go_wp2_with fail
    go_ret2
    exact ⟨_, _, rfl, by rw [HR.out]; exact bytes_nil' _ _, fun _ h => by (cases h), by rw [HR.out]; exact isErr_at a 9 (by omega), u_drawn B2.out _⟩
  | true =>
    obtain ⟨q, hf⟩ : ∃ q, (s.pages.find? fun q => (q.adr : Int) == (n : Int)) = some q := by
      cases e : s.pages.find? fun q => (q.adr : Int) == (n : Int) with
      | some q => exact ⟨q, rfl⟩
      | none =>
        obtain ⟨q, hq, he⟩ := any_find HRh.out
        exact absurd (by simpa using he) (List.find?_eq_none.1 e q hq)
    have hq := List.mem_of_find?_eq_some hf
    have hqa : (q.adr : Int) = n := by have := List.find?_some hf; simpa using this
    have HR := Lib.hid (show readS s ep n = (q.bs, 0) from by unfold readS; rw [if_neg HN0.out, if_neg (by have := HN2.out; omega), hf])
    obtain ⟨v3, w3, hcv, hby, hb3, hown, hlt3⟩ := conv_textA w2 q.bs (by have := HP.out q hq; omega)
    have HBy := Lib.hid hby
    have HOw := Lib.hid (show ∀ k, v3.ownBlock = some k → W.heap.size ≤ k ∧ k < w3.heap.size from fun k e => by have := B2.out.size; rw [hown] at e; injection e with e; omega)
    have B3 := Lib.hid (B2.out.trans (hb3.mono B2.out.size))
    have HQ := Lib.hid hq
    have HM := Lib.hid U2.out.map
    have HQa := Lib.hid hqa
    have hpf := page_field ⟨q.bs.toArray⟩ (q.seg : Int) w2
    clear hby hb3 hf hq hqa hown hlt3
    go_wp2_with (at_lookup; refine wpList_page _ HM.out rfl _ _ rfl rfl (n : Int) rfl (by omega) (by omega) ?_; intro s' g' hsg; obtain ⟨rfl, rfl⟩ := hsg q HQ.out HQa.out; unfold pageV)
    go_ret2
    exact ⟨_, _, rfl, by rw [HR.out]; exact HBy.out, HOw.out, by rw [HR.out]; exact isErr_nil a, B3.out⟩
end
end Go.Proofs.YtiafamacjpgjoaaGreatDoor

/- Package unit's Seal and Free. -/
namespace Go.Proofs.YtiafamacjpgjoaaGreatDoor
open Go Go.RowKit Tide
section
variable {D : DvP} {a : Nat → Addr} {w W : World} {FX : Nat → Prop} {X : World → Prop} {g p bm dev : Nat} {us : List SegU} {d : Dv} {s : StU}
end
end Go.Proofs.YtiafamacjpgjoaaGreatDoor
