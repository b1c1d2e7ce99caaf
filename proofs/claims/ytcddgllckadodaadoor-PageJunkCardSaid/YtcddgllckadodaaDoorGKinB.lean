/- Package entry's writing: numbers in a row, an operation. -/
import Derived.Test.YtcddgllckadodaaDoorGKinO
import Derived.Test.YtcddgllckadodaaDoorGPackN
namespace Go.Proofs.YtcddgllckadodaaDoor
open Go.RowKit Tide Utf

/-- A writer, since the memory W, where it had the blocks F. -/
def PW (a : Nat → Addr) (W : World) (F : Nat → Prop) (p : Nat) (st : Option (List UInt8)) (w : World) : Prop := ∃ F1, OutS a w F1 p st 0 ∧ (∀ k, F1 k → F k ∨ W.heap.size ≤ k) ∧ Kept F W w
/-- Behind a call that answers nothing. -/
def PWR (a : Nat → Addr) (W : World) (F : Nat → Prop) (p : Nat) (st : Option (List UInt8)) (e : Ending) (w : World) : Prop := e = .returned (.tuple #[]) ∧ PW a W F p st w
section
variable {a : Nat → Addr} {W w w' : World} {F F1 : Nat → Prop} {p n : Nat} {st st' : Option (List UInt8)}
theorem PW.start (h : OutS a W F p st n) : PW a W F p st W := ⟨F, outS_n h, fun _ hk => .inl hk, Kept.refl _ _⟩
theorem PW.trans (hF1 : ∀ k, F1 k → F k ∨ W.heap.size ≤ k) (hK : Kept F W w) (h : PW a w F1 p st w') : PW a W F p st w' := by
  obtain ⟨F2, hO, hF2, hK2⟩ := h
  refine ⟨F2, hO, fun k hf => ?_, hK.trans hK2 hF1⟩
  rcases hF2 k hf with h | h
  · exact hF1 k h
  · exact .inr (Nat.le_trans hK.size h)
theorem PW.call (h : PW a W F p st w) {f : FuncId} {args : Array Value} (hc : ∀ F1, OutS a w F1 p st 0 → (∀ k, F1 k → F k ∨ W.heap.size ≤ k) → Kept F W w → Calls Tryd.prog f args w (PWR a w F1 p st')) : Calls Tryd.prog f args w (PWR a W F p st') := by
  obtain ⟨F1, hO, hF1, hK⟩ := h
  exact (hc F1 hO hF1 hK).mono fun e w' ⟨he, hp⟩ => ⟨he, hp.trans hF1 hK⟩
theorem PW.alloc (h : PW a W F p st w) (o : Obj) : PW a W F p st (w.alloc o) := by
  obtain ⟨F1, hO, hF1, hK⟩ := h
  exact ⟨F1, outS_keep hO ((Kept.refl (fun _ => False) w).alloc o) (fun _ _ h => h), hF1, hK.alloc o⟩
theorem PW.errs (h : PW a W F p st w) (hE : Errs W a) (hA : Away a F) : Errs w a := by
  obtain ⟨_, _, _, hK⟩ := h
  exact hE.kept hK hA
theorem PW.size (h : PW a W F p st w) : W.heap.size ≤ w.heap.size := by
  obtain ⟨_, _, _, hK⟩ := h
  exact hK.size
theorem PW.cell (h : PW a W F p st w) {b o : Nat} (hb : b < W.heap.size) (hf : ¬ F b) : w.cell? ⟨b, o, none⟩ = W.cell? ⟨b, o, none⟩ := by
  obtain ⟨_, _, _, hK⟩ := h
  exact hK.cell (p := ⟨b, o, none⟩) hb hf
theorem PW.num (h : PW a W F p st w) (hE : Errs W a) (hA : Away a F) (z : Int) : Calls Tryd.prog 18 #[.pointer (some ⟨p, 0, none⟩), .int .i64 z] w (PWR a W F p (stNum st z)) :=
  h.call fun F1 hO _ _ => (onum_any a w F1 p st 0 z hO (h.errs hE hA)).mono fun _ _ ⟨he, F2, hO2, hF2, hK2⟩ => ⟨he, F2, outS_n hO2, hF2, hK2⟩
theorem PW.text (h : PW a W F p st w) (hE : Errs W a) (hA : Away a F) (s : ByteArray) (hs : s.size ≤ 65546) : Calls Tryd.prog 20 #[.pointer (some ⟨p, 0, none⟩), .string s] w (PWR a W F p (stText st s)) :=
  h.call fun F1 hO _ _ => (otext_any a w F1 p st 0 s hO hs (h.errs hE hA)).mono fun _ _ ⟨he, F2, hO2, hF2, hK2⟩ => ⟨he, F2, outS_n hO2, hF2, hK2⟩
end

theorem fold_snoc (st : Option (List UInt8)) (l : List Int) (k : Nat) (h : k < l.length) : (l.take (k + 1)).foldl stNum st = stNum ((l.take k).foldl stNum st) l[k] := by
  rw [List.take_succ_eq_append_getElem h, List.foldl_append]
  rfl
set_option maxHeartbeats 1000000 in
theorem putNums_any (a : Nat → Addr) (W : World) (F : Nat → Prop) (p n b c : Nat) (st : Option (List UInt8)) (zs : List Int) (h : OutS a W F p st n) (hE : Errs W a) (hb : b < W.heap.size) (hnb : ¬ F b) (hz : zs.length ≤ 1000)
    (hc : ∀ j (h : j < zs.length), W.cell? ⟨b, j, none⟩ = some (.int .i64 zs[j])) :
    Calls Tryd.prog 64 #[.pointer (some ⟨p, 0, none⟩), .slice (some ⟨b, 0, none⟩) zs.length c] W (PWR a W F p (zs.foldl stNum st)) := by
  have HE := Lib.hid hE
  have HA := Lib.hid h.2.2.1
  have S0 := Lib.hid (PW.start h)
  have HC := Lib.hid hc
  clear hE h hc
  go_enter Tryd.func64, Tryd.ntmps64
  go_wp2_with fail
  go_loopw [8] (fun i wr => ∃ k : Nat, i = .int .i64 k ∧ k ≤ zs.length ∧ Hid (PW a W F p ((zs.take k).foldl stNum st) wr)) (fun i _ => zs.length - (intOf i).toNat)
  case atStart => exact ⟨0, rfl, Nat.zero_le _, S0⟩
  case round =>
    obtain ⟨k, rfl, hk, hS⟩ := hrel
    by_cases hlt : k < zs.length
    · have hc1 : wr.cell? ⟨b, 0 + k, none⟩ = some (.int .i64 zs[k]) := by
        rw [Nat.zero_add]
        exact (hS.out.cell hb hnb).trans (HC.out k hlt)
      have hc2 : wr.cell? ⟨b, k, none⟩ = some (.int .i64 zs[k]) := (hS.out.cell hb hnb).trans (HC.out k hlt)
      have C2 := hS.out.num HE.out HA.out zs[k]
      rw [← fold_snoc st zs k hlt] at C2
      have HC2 := Lib.hid C2
      clear C2
      generalize zs[k] = z at *
      go_wp2_with fail
      refine HC2.out.mono ?_
      rintro e w3 ⟨rfl, h3⟩
      have S3 := Lib.hid h3
      clear h3 hc1 hc2
      go_wp2_with fail
      go_roundw
      case rel => exact ⟨k + 1, by go_num, by omega, S3⟩
      case measure => simp [intOf]; omega
    · have hall := Lib.hid (show PW a W F p (zs.foldl stNum st) wr from by
        have h := hS.out
        rwa [List.take_of_length_le (by omega)] at h)
      go_wp2_with fail
      go_end0
      exact ⟨rfl, hall.out⟩

/-- What an operation's writing writes. -/
def stOp (st : Option (List UInt8)) (o : OpD) : Option (List UInt8) :=
  if o.kind = 1 then stText (stText (stNum st o.kind) o.key) o.value else if o.kind = 3 then stText (stText (stText (stNum st o.kind) o.key) o.old) o.value else
    if o.kind = 4 then stNum (stText (stNum st o.kind) o.key) o.version else stText (stNum st o.kind) o.key
end Go.Proofs.YtcddgllckadodaaDoor

/- What a writer's Done answers lies in memory of the call's own. -/
namespace Go.Proofs.YtcddgllckadodaaDoor
open Go.RowKit Tide

def DoneO (a : Nat → Addr) (W : World) (F : Nat → Prop) (st : Option (List UInt8)) (e : Ending) (w' : World) : Prop :=
  ∃ v x, e = .returned (.tuple #[v, x]) ∧ w'.ownsRow W.heap.size 5 1 v (doneOf st).1.length (u8s (doneOf st).1) ∧ IsErr a x (doneOf st).2 ∧ Kept F W w'
theorem own_nil (w : World) (n : Nat) : w.ownsRow n 5 1 (.slice none 0 0) (([] : List UInt8).length) (u8s []) := ⟨by simp [u8s], .inl ⟨rfl, rfl⟩⟩
theorem odone_own (a : Nat → Addr) (W : World) (F : Nat → Prop) (p : Nat) (st : Option (List UInt8)) (n : Nat) (h : OutS a W F p st n) :
    Calls Tryd.prog 21 #[.pointer (some ⟨p, 0, none⟩)] W (DoneO a W F st) := by
  have herr : ∀ (v : Value) (m : Nat), m < 19 → Two W p 55 v (errAt (a m)) → doneOf st = ([], m + 1) → Calls Tryd.prog 21 #[.pointer (some ⟨p, 0, none⟩)] W (DoneO a W F st) := fun v m hm h3 hd => by
    have HD := Lib.hid hd
    obtain ⟨_, g0, g1, gf⟩ := h3.facts
    clear hd h3 h
    go_enter Tryd.func21, Tryd.ntmps21
    go_wp2_with fail
    go_quiet (fail)
    go_wp2_with fail
    go_ret2
    exact ⟨_, _, rfl, by rw [HD.out]; exact own_nil _ _, by rw [HD.out]; exact isErr_at a m hm, ⟨rfl, rfl, rfl, Nat.le_refl _, fun _ _ _ => rfl⟩⟩
  obtain ⟨h1, h2, hA, v, x, h3, h4, h5⟩ := h
  cases st with
  | none =>
    obtain ⟨rfl, rfl⟩ := h5
    exact herr _ 0 (by omega) h3 rfl
  | some q =>
    by_cases hq : q.length ≤ 65536
    · rw [outV_ok a W v x hq] at h5
      obtain ⟨rfl, hown⟩ := h5
      have HD := Lib.hid (show doneOf (some q) = (q, 0) from if_pos hq)
      have cC := Lib.hid (clone_any v q W.heap.size W (Bytes.of_own hown) (Nat.le_refl _) (by omega))
      obtain ⟨A, c, rfl⟩ := pown_form hown
      obtain ⟨_, g0, g1, gf⟩ := h3.facts
      clear herr hown h3 hq
      go_enter Tryd.func21, Tryd.ntmps21
      go_wp2_with fail
      refine cC.out.mono ?_
      rintro e w1 ⟨v1, rfl, ho, hb⟩
      have HO := Lib.hid ho
      have HB := Lib.hid hb
      clear ho hb
      go_wp2_with fail
      go_ret2
      exact ⟨_, _, rfl, by rw [HD.out]; exact HO.out, by rw [HD.out]; exact isErr_nil a, Kept.of_below HB.out⟩
    · rw [outV_long a W v x hq] at h5
      obtain ⟨rfl, rfl⟩ := h5
      exact herr _ 2 (by omega) h3 (if_neg hq)
end Go.Proofs.YtcddgllckadodaaDoor

/- Package entry's writing: an operation, what an entry of each kind has. -/
namespace Go.Proofs.YtcddgllckadodaaDoor
open Go.RowKit Tide Utf

set_option maxRecDepth 100000 in
set_option maxHeartbeats 2000000 in
theorem putOp_any (a : Nat → Addr) (W : World) (F : Nat → Prop) (p n : Nat) (st : Option (List UInt8)) (o : OpD) (h : OutS a W F p st n) (hE : Errs W a) (hs : o.key.size ≤ 300 ∧ o.value.size ≤ 300 ∧ o.old.size ≤ 300) :
    Calls Tryd.prog 65 #[.pointer (some ⟨p, 0, none⟩), .agg #[.int .i64 o.kind, .string o.key, .string o.value, .string o.old, .int .i64 o.version]] W (PWR a W F p (stOp st o)) := by
  obtain ⟨kind, key, value, old, version⟩ := o
  simp only at hs ⊢
  obtain ⟨W1, hW1⟩ : ∃ W1, W1 = W.alloc (.cells #[.int .i64 kind, .string key, .string value, .string old, .int .i64 version] 40) := ⟨_, rfl⟩
  have HE1 := Lib.hid (show Errs W1 a from by rw [hW1]; exact hE.below ((Below.refl W.heap.size W).alloc (Nat.le_refl _) _))
  have HA := Lib.hid h.2.2.1
  have S1 := Lib.hid (show PW a W1 F p st W1 from by
    rw [hW1]
    exact PW.start (outS_keep (n := 0) (outS_n h) ((Kept.refl (fun _ => False) W).alloc _) (fun _ _ h => h)))
  have UP := Lib.hid (show ∀ st' w', PW a W1 F p st' w' → PW a W F p st' w' from fun st' w' hp => PW.trans (fun _ hk => .inl hk) (by rw [hW1]; exact (Kept.refl F W).alloc _) hp)
  have hlt : W.heap.size < W1.heap.size := by rw [hW1]; simp
  have HNF := Lib.hid (show ¬ F W.heap.size from fun hf => Nat.lt_irrefl _ (h.2.1 _ hf))
  have HC := Lib.hid (show ∀ st' w', PW a W1 F p st' w' → w'.cell? ⟨W.heap.size, 0, none⟩ = some (.int .i64 kind) ∧ w'.cell? ⟨W.heap.size, 1, none⟩ = some (.string key) ∧ w'.cell? ⟨W.heap.size, 2, none⟩ = some (.string value) ∧ w'.cell? ⟨W.heap.size, 3, none⟩ = some (.string old) ∧ w'.cell? ⟨W.heap.size, 4, none⟩ = some (.int .i64 version) from fun st' w' hp => by
    have hc := op_cells W kind version key value old W1 (by rw [hW1]; exact Below.refl _ _)
    rw [hp.cell hlt HNF.out, hp.cell hlt HNF.out, hp.cell hlt HNF.out, hp.cell hlt HNF.out, hp.cell hlt HNF.out]
    exact hc)
  have HZ := Lib.hid hs
  have CN := Lib.hid (fun st' w' (hp : PW a W1 F p st' w') z => hp.num HE1.out HA.out z)
  have CT := Lib.hid (fun st' w' (hp : PW a W1 F p st' w') s (h : s.size ≤ 300) => hp.text HE1.out HA.out s (by omega))
  have C1 := Lib.hid (CN.out _ _ S1.out kind)
  clear hE h hs hlt
  by_cases k1 : kind = 1
  · subst k1
    have FA := Lib.hid (show ∀ w, Calls Tryd.prog 40 #[.int .i64 1] w fun e w' => e = .returned (.tuple #[.bool false, .bool true, .bool false]) ∧ w = w' from fun w => fields_any 1 w)
    have HO := Lib.hid (show stOp st ⟨1, key, value, old, version⟩ = stText (stText (stNum st 1) key) value from rfl)
    skip
    go_enter Tryd.func65, Tryd.ntmps65
    go_wp2_with fail
    rw [← hW1]
    refine C1.out.mono ?_
    rintro en w2 ⟨rfl, hp⟩
    have Sw2 := Lib.hid hp
    obtain ⟨c0, c1, c2, c3, c4⟩ := HC.out _ _ hp
    clear hp 
    go_wp2_with fail
    refine (CT.out _ _ Sw2.out key HZ.out.1).mono ?_
    rintro en w3 ⟨rfl, hp⟩
    have Sw3 := Lib.hid hp
    obtain ⟨c0, c1, c2, c3, c4⟩ := HC.out _ _ hp
    clear hp 
    go_wp2_with fail
    refine (FA.out _).mono ?_
    rintro en wz ⟨rfl, rfl⟩
    go_wp2_with fail
    refine (CT.out _ _ Sw3.out value HZ.out.2.1).mono ?_
    rintro en w4 ⟨rfl, hp⟩
    have Sw4 := Lib.hid hp
    obtain ⟨c0, c1, c2, c3, c4⟩ := HC.out _ _ hp
    clear hp 
    go_wp2_with fail
    go_end0
    exact ⟨rfl, UP.out _ _ (HO.out ▸ Sw4.out)⟩
  by_cases k3 : kind = 3
  · subst k3
    have FA := Lib.hid (show ∀ w, Calls Tryd.prog 40 #[.int .i64 3] w fun e w' => e = .returned (.tuple #[.bool true, .bool true, .bool false]) ∧ w = w' from fun w => fields_any 3 w)
    have HO := Lib.hid (show stOp st ⟨3, key, value, old, version⟩ = stText (stText (stText (stNum st 3) key) old) value from rfl)
    clear k1
    go_enter Tryd.func65, Tryd.ntmps65
    go_wp2_with fail
    rw [← hW1]
    refine C1.out.mono ?_
    rintro en w2 ⟨rfl, hp⟩
    have Sw2 := Lib.hid hp
    obtain ⟨c0, c1, c2, c3, c4⟩ := HC.out _ _ hp
    clear hp 
    go_wp2_with fail
    refine (CT.out _ _ Sw2.out key HZ.out.1).mono ?_
    rintro en w3 ⟨rfl, hp⟩
    have Sw3 := Lib.hid hp
    obtain ⟨c0, c1, c2, c3, c4⟩ := HC.out _ _ hp
    clear hp 
    go_wp2_with fail
    refine (FA.out _).mono ?_
    rintro en wz ⟨rfl, rfl⟩
    go_wp2_with fail
    refine (CT.out _ _ Sw3.out old HZ.out.2.2).mono ?_
    rintro en w4 ⟨rfl, hp⟩
    have Sw4 := Lib.hid hp
    obtain ⟨c0, c1, c2, c3, c4⟩ := HC.out _ _ hp
    clear hp 
    go_wp2_with fail
    refine (CT.out _ _ Sw4.out value HZ.out.2.1).mono ?_
    rintro en w5 ⟨rfl, hp⟩
    have Sw5 := Lib.hid hp
    obtain ⟨c0, c1, c2, c3, c4⟩ := HC.out _ _ hp
    clear hp 
    go_wp2_with fail
    go_end0
    exact ⟨rfl, UP.out _ _ (HO.out ▸ Sw5.out)⟩
  by_cases k4 : kind = 4
  · subst k4
    have FA := Lib.hid (show ∀ w, Calls Tryd.prog 40 #[.int .i64 4] w fun e w' => e = .returned (.tuple #[.bool false, .bool false, .bool true]) ∧ w = w' from fun w => fields_any 4 w)
    have HO := Lib.hid (show stOp st ⟨4, key, value, old, version⟩ = stNum (stText (stNum st 4) key) version from rfl)
    clear k1 k3
    go_enter Tryd.func65, Tryd.ntmps65
    go_wp2_with fail
    rw [← hW1]
    refine C1.out.mono ?_
    rintro en w2 ⟨rfl, hp⟩
    have Sw2 := Lib.hid hp
    obtain ⟨c0, c1, c2, c3, c4⟩ := HC.out _ _ hp
    clear hp 
    go_wp2_with fail
    refine (CT.out _ _ Sw2.out key HZ.out.1).mono ?_
    rintro en w3 ⟨rfl, hp⟩
    have Sw3 := Lib.hid hp
    obtain ⟨c0, c1, c2, c3, c4⟩ := HC.out _ _ hp
    clear hp 
    go_wp2_with fail
    refine (FA.out _).mono ?_
    rintro en wz ⟨rfl, rfl⟩
    go_wp2_with fail
    refine (CN.out _ _ Sw3.out version).mono ?_
    rintro en w4 ⟨rfl, hp⟩
    have Sw4 := Lib.hid hp
    obtain ⟨c0, c1, c2, c3, c4⟩ := HC.out _ _ hp
    clear hp 
    go_wp2_with fail
    go_end0
    exact ⟨rfl, UP.out _ _ (HO.out ▸ Sw4.out)⟩
  · have FA := Lib.hid (show ∀ w, Calls Tryd.prog 40 #[.int .i64 kind] w fun e w' => e = .returned (.tuple #[.bool false, .bool false, .bool false]) ∧ w = w' from fun w => by
      have h := fields_any kind w
      rw [decide_eq_false k3, decide_eq_false k4, decide_eq_false (by omega)] at h
      exact h)
    have HO := Lib.hid (show stOp st ⟨kind, key, value, old, version⟩ = stText (stNum st kind) key from by unfold stOp; simp [k1, k3, k4])
    clear k1 k3 k4
    go_enter Tryd.func65, Tryd.ntmps65
    go_wp2_with fail
    rw [← hW1]
    refine C1.out.mono ?_
    rintro en w2 ⟨rfl, hp⟩
    have Sw2 := Lib.hid hp
    obtain ⟨c0, c1, c2, c3, c4⟩ := HC.out _ _ hp
    clear hp 
    go_wp2_with fail
    refine (CT.out _ _ Sw2.out key HZ.out.1).mono ?_
    rintro en w3 ⟨rfl, hp⟩
    have Sw3 := Lib.hid hp
    obtain ⟨c0, c1, c2, c3, c4⟩ := HC.out _ _ hp
    clear hp 
    go_wp2_with fail
    refine (FA.out _).mono ?_
    rintro en wz ⟨rfl, rfl⟩
    go_wp2_with fail
    go_end0
    exact ⟨rfl, UP.out _ _ (HO.out ▸ Sw3.out)⟩
end Go.Proofs.YtcddgllckadodaaDoor

/- Package entry's put of the five kinds. -/
namespace Go.Proofs.YtcddgllckadodaaDoor
open Go.RowKit Tide Utf

theorem two_keep {a : Nat → Addr} {W : World} {F : Nat → Prop} {p n : Nat} {st : Option (List UInt8)} (h : OutS a W F p st n) (o1 o2 : Obj) : OutS a ((W.alloc o1).alloc o2) F p st 0 :=
  outS_keep (n := 0) (outS_n h) (((Kept.refl (fun _ => False) W).alloc o1).alloc o2) (fun _ _ h => h)
theorem row_cells (w : World) (t : TypeId) (zs : List Int) (b : Nat) (hb : b = w.heap.size) : ∀ j (h : j < zs.length), (w.alloc (.cells (int64s zs).toArray t)).cell? ⟨b, j, none⟩ = some (.int .i64 zs[j]) := by
  subst hb
  intro j h
  rw [cell_of_row _ _ j _ _ _ (heap_alloc_new w _)]
  simp [int64s, h]

set_option maxRecDepth 100000 in
set_option maxHeartbeats 2000000 in
theorem move_put (a : Nat → Addr) (W : World) (F : Nat → Prop) (p n : Nat) (st : Option (List UInt8)) (sh sv : Int) (h : OutS a W F p st n) (hE : Errs W a) :
    Calls Tryd.prog 77 #[.agg #[.int .i64 sh, .int .i64 sv], .pointer (some ⟨p, 0, none⟩)] W (PWR a W F p ([sh, sv].foldl stNum st)) := by
  obtain ⟨W2, hW2⟩ : ∃ W2, W2 = (W.alloc (.cells #[.int .i64 sh, .int .i64 sv] 94)).alloc (.cells #[.int .i64 sh, .int .i64 sv] 3) := ⟨_, rfl⟩
  have hK2 : Kept F W W2 := by rw [hW2]; exact ((Kept.refl F W).alloc _).alloc _
  have hE2 : Errs W2 a := by rw [hW2]; exact hE.below (((Below.refl W.heap.size W).alloc (Nat.le_refl _) _).alloc (by simp) _)
  have hO2 : OutS a W2 F p st 0 := by rw [hW2]; exact two_keep h _ _
  have HNF := Lib.hid (show ¬ F (W.heap.size + 1) from fun hf => by have := h.2.1 _ hf; omega)
  have hs2 : W2.heap.size = W.heap.size + 1 + 1 := by rw [hW2]; simp
  have CP := Lib.hid (show Calls Tryd.prog 64 #[.pointer (some ⟨p, 0, none⟩), .slice (some ⟨W.heap.size + 1, 0, none⟩) 2 2] W2 (PWR a W2 F p ([sh, sv].foldl stNum st)) from
    putNums_any a W2 F p 0 (W.heap.size + 1) 2 st [sh, sv] hO2 hE2 (by omega) HNF.out (by show 2 ≤ 1000; omega) (by rw [hW2]; exact row_cells _ _ [sh, sv] _ (by simp)))
  have UP := Lib.hid (show ∀ st' w', PW a W2 F p st' w' → PW a W F p st' w' from fun st' w' hp => PW.trans (fun _ hk => .inl hk) hK2 hp)
  obtain ⟨stf, hstf⟩ : ∃ stf, stf = [sh, sv].foldl stNum st := ⟨_, rfl⟩
  rw [← hstf] at CP ⊢
  clear hstf
  clear h hE hK2 hE2 hO2 hs2
  go_enter Tryd.func77, Tryd.ntmps77
  go_wp2_with fail
  rw [← hW2]
  refine CP.out.mono ?_
  rintro en w3 ⟨rfl, hp⟩
  have S3 := Lib.hid hp
  clear hp
  go_wp2_with fail
  go_end0
  exact ⟨rfl, UP.out _ _ S3.out⟩

set_option maxRecDepth 100000 in
set_option maxHeartbeats 2000000 in
theorem merge_put (a : Nat → Addr) (W : World) (F : Nat → Prop) (p n : Nat) (st : Option (List UInt8)) (sh ot : Int) (h : OutS a W F p st n) (hE : Errs W a) :
    Calls Tryd.prog 89 #[.agg #[.int .i64 sh, .int .i64 ot], .pointer (some ⟨p, 0, none⟩)] W (PWR a W F p ([sh, ot].foldl stNum st)) := by
  obtain ⟨W2, hW2⟩ : ∃ W2, W2 = (W.alloc (.cells #[.int .i64 sh, .int .i64 ot] 98)).alloc (.cells #[.int .i64 sh, .int .i64 ot] 3) := ⟨_, rfl⟩
  have hK2 : Kept F W W2 := by rw [hW2]; exact ((Kept.refl F W).alloc _).alloc _
  have hE2 : Errs W2 a := by rw [hW2]; exact hE.below (((Below.refl W.heap.size W).alloc (Nat.le_refl _) _).alloc (by simp) _)
  have hO2 : OutS a W2 F p st 0 := by rw [hW2]; exact two_keep h _ _
  have HNF := Lib.hid (show ¬ F (W.heap.size + 1) from fun hf => by have := h.2.1 _ hf; omega)
  have hs2 : W2.heap.size = W.heap.size + 1 + 1 := by rw [hW2]; simp
  have CP := Lib.hid (show Calls Tryd.prog 64 #[.pointer (some ⟨p, 0, none⟩), .slice (some ⟨W.heap.size + 1, 0, none⟩) 2 2] W2 (PWR a W2 F p ([sh, ot].foldl stNum st)) from
    putNums_any a W2 F p 0 (W.heap.size + 1) 2 st [sh, ot] hO2 hE2 (by omega) HNF.out (by show 2 ≤ 1000; omega) (by rw [hW2]; exact row_cells _ _ [sh, ot] _ (by simp)))
  have UP := Lib.hid (show ∀ st' w', PW a W2 F p st' w' → PW a W F p st' w' from fun st' w' hp => PW.trans (fun _ hk => .inl hk) hK2 hp)
  obtain ⟨stf, hstf⟩ : ∃ stf, stf = [sh, ot].foldl stNum st := ⟨_, rfl⟩
  rw [← hstf] at CP ⊢
  clear hstf
  clear h hE hK2 hE2 hO2 hs2
  go_enter Tryd.func89, Tryd.ntmps89
  go_wp2_with fail
  rw [← hW2]
  refine CP.out.mono ?_
  rintro en w3 ⟨rfl, hp⟩
  have S3 := Lib.hid hp
  clear hp
  go_wp2_with fail
  go_end0
  exact ⟨rfl, UP.out _ _ S3.out⟩

set_option maxRecDepth 100000 in
set_option maxHeartbeats 2000000 in
theorem split_put (a : Nat → Addr) (W : World) (F : Nat → Prop) (p n : Nat) (st : Option (List UInt8)) (sh ot sv : Int) (key : ByteArray) (h : OutS a W F p st n) (hE : Errs W a) (hs : key.size ≤ 300) :
    Calls Tryd.prog 82 #[.agg #[.int .i64 sh, .int .i64 ot, .int .i64 sv, .string key], .pointer (some ⟨p, 0, none⟩)] W (PWR a W F p (stText ([sh, ot, sv].foldl stNum st) key)) := by
  obtain ⟨W2, hW2⟩ : ∃ W2, W2 = (W.alloc (.cells #[.int .i64 sh, .int .i64 ot, .int .i64 sv, .string key] 96)).alloc (.cells #[.int .i64 sh, .int .i64 ot, .int .i64 sv] 3) := ⟨_, rfl⟩
  have hK2 : Kept F W W2 := by rw [hW2]; exact ((Kept.refl F W).alloc _).alloc _
  have hE2 : Errs W2 a := by rw [hW2]; exact hE.below (((Below.refl W.heap.size W).alloc (Nat.le_refl _) _).alloc (by simp) _)
  have hO2 : OutS a W2 F p st 0 := by rw [hW2]; exact two_keep h _ _
  have HNF := Lib.hid (show ¬ F (W.heap.size + 1) from fun hf => by have := h.2.1 _ hf; omega)
  have hs2 : W2.heap.size = W.heap.size + 1 + 1 := by rw [hW2]; simp
  have CP := Lib.hid (show Calls Tryd.prog 64 #[.pointer (some ⟨p, 0, none⟩), .slice (some ⟨W.heap.size + 1, 0, none⟩) 3 3] W2 (PWR a W2 F p ([sh, ot, sv].foldl stNum st)) from
    putNums_any a W2 F p 0 (W.heap.size + 1) 3 st [sh, ot, sv] hO2 hE2 (by omega) HNF.out (by show 3 ≤ 1000; omega) (by rw [hW2]; exact row_cells _ _ [sh, ot, sv] _ (by simp)))
  have UP := Lib.hid (show ∀ st' w', PW a W2 F p st' w' → PW a W F p st' w' from fun st' w' hp => PW.trans (fun _ hk => .inl hk) hK2 hp)
  have HNF0 := Lib.hid (show ¬ F W.heap.size from fun hf => Nat.lt_irrefl _ (h.2.1 _ hf))
  have HC := Lib.hid (show ∀ st' w', PW a W2 F p st' w' → w'.cell? ⟨W.heap.size, 3, none⟩ = some (.string key) from fun st' w' hp => by
    rw [hp.cell (by omega) HNF0.out, hW2, World.cell?_alloc_lt _ _ _ (by simp), cell_of_row _ _ 3 _ _ _ (heap_alloc_new W _)]
    rfl)
  have CT := Lib.hid (fun st' w' (hp : PW a W2 F p st' w') => hp.text hE2 h.2.2.1 key (by omega))
  obtain ⟨stf, hstf⟩ : ∃ stf, stf = [sh, ot, sv].foldl stNum st := ⟨_, rfl⟩
  rw [← hstf] at CP ⊢
  clear hstf
  clear h hE hK2 hE2 hO2 hs2
  go_enter Tryd.func82, Tryd.ntmps82
  go_wp2_with fail
  rw [← hW2]
  refine CP.out.mono ?_
  rintro en w3 ⟨rfl, hp⟩
  have S3 := Lib.hid hp
  have c0 := HC.out _ _ hp
  clear hp
  go_wp2_with fail
  refine (CT.out _ _ S3.out).mono ?_
  rintro en w4 ⟨rfl, hp⟩
  have S4 := Lib.hid hp
  clear hp
  go_wp2_with fail
  go_end0
  exact ⟨rfl, UP.out _ _ S4.out⟩

set_option maxRecDepth 100000 in
set_option maxHeartbeats 2000000 in
theorem check_put (a : Nat → Addr) (W : World) (F : Nat → Prop) (p n : Nat) (st : Option (List UInt8)) (sh up ps pt : Int) (data : ByteArray) (h : OutS a W F p st n) (hE : Errs W a) (hs : data.size ≤ 600) :
    Calls Tryd.prog 94 #[.agg #[.int .i64 sh, .int .i64 up, .int .i64 ps, .int .i64 pt, .string data], .pointer (some ⟨p, 0, none⟩)] W (PWR a W F p (stText ([sh, up, ps, pt].foldl stNum st) data)) := by
  obtain ⟨W2, hW2⟩ : ∃ W2, W2 = (W.alloc (.cells #[.int .i64 sh, .int .i64 up, .int .i64 ps, .int .i64 pt, .string data] 100)).alloc (.cells #[.int .i64 sh, .int .i64 up, .int .i64 ps, .int .i64 pt] 3) := ⟨_, rfl⟩
  have hK2 : Kept F W W2 := by rw [hW2]; exact ((Kept.refl F W).alloc _).alloc _
  have hE2 : Errs W2 a := by rw [hW2]; exact hE.below (((Below.refl W.heap.size W).alloc (Nat.le_refl _) _).alloc (by simp) _)
  have hO2 : OutS a W2 F p st 0 := by rw [hW2]; exact two_keep h _ _
  have HNF := Lib.hid (show ¬ F (W.heap.size + 1) from fun hf => by have := h.2.1 _ hf; omega)
  have hs2 : W2.heap.size = W.heap.size + 1 + 1 := by rw [hW2]; simp
  have CP := Lib.hid (show Calls Tryd.prog 64 #[.pointer (some ⟨p, 0, none⟩), .slice (some ⟨W.heap.size + 1, 0, none⟩) 4 4] W2 (PWR a W2 F p ([sh, up, ps, pt].foldl stNum st)) from
    putNums_any a W2 F p 0 (W.heap.size + 1) 4 st [sh, up, ps, pt] hO2 hE2 (by omega) HNF.out (by show 4 ≤ 1000; omega) (by rw [hW2]; exact row_cells _ _ [sh, up, ps, pt] _ (by simp)))
  have UP := Lib.hid (show ∀ st' w', PW a W2 F p st' w' → PW a W F p st' w' from fun st' w' hp => PW.trans (fun _ hk => .inl hk) hK2 hp)
  have HNF0 := Lib.hid (show ¬ F W.heap.size from fun hf => Nat.lt_irrefl _ (h.2.1 _ hf))
  have HC := Lib.hid (show ∀ st' w', PW a W2 F p st' w' → w'.cell? ⟨W.heap.size, 4, none⟩ = some (.string data) from fun st' w' hp => by
    rw [hp.cell (by omega) HNF0.out, hW2, World.cell?_alloc_lt _ _ _ (by simp), cell_of_row _ _ 4 _ _ _ (heap_alloc_new W _)]
    rfl)
  have CT := Lib.hid (fun st' w' (hp : PW a W2 F p st' w') => hp.text hE2 h.2.2.1 data (by omega))
  obtain ⟨stf, hstf⟩ : ∃ stf, stf = [sh, up, ps, pt].foldl stNum st := ⟨_, rfl⟩
  rw [← hstf] at CP ⊢
  clear hstf
  clear h hE hK2 hE2 hO2 hs2
  go_enter Tryd.func94, Tryd.ntmps94
  go_wp2_with fail
  rw [← hW2]
  refine CP.out.mono ?_
  rintro en w3 ⟨rfl, hp⟩
  have S3 := Lib.hid hp
  have c0 := HC.out _ _ hp
  clear hp
  go_wp2_with fail
  refine (CT.out _ _ S3.out).mono ?_
  rintro en w4 ⟨rfl, hp⟩
  have S4 := Lib.hid hp
  clear hp
  go_wp2_with fail
  go_end0
  exact ⟨rfl, UP.out _ _ S4.out⟩

theorem stOp_snoc (st : Option (List UInt8)) (l : List OpD) (k : Nat) (h : k < l.length) : (l.take (k + 1)).foldl stOp st = stOp ((l.take k).foldl stOp st) l[k] := by
  rw [List.take_succ_eq_append_getElem h, List.foldl_append]
  rfl

set_option maxRecDepth 100000 in
set_option maxHeartbeats 2000000 in
theorem write_put (a : Nat → Addr) (W : World) (F : Nat → Prop) (p n : Nat) (st : Option (List UInt8)) (sh cl sq : Int) (ops : List OpD) (vo : Value) (B : Nat) (h : OutS a W F p st n) (hE : Errs W a) (hr : Recs W B vo 5 (ops.map opV)) (hB : B ≤ W.heap.size) (hF : ∀ k, F k → B ≤ k) (hs : ∀ o ∈ ops, o.key.size ≤ 300 ∧ o.value.size ≤ 300 ∧ o.old.size ≤ 300) :
    Calls Tryd.prog 60 #[.agg #[.int .i64 sh, .int .i64 cl, .int .i64 sq, vo], .pointer (some ⟨p, 0, none⟩)] W (PWR a W F p (ops.foldl stOp ([sh, cl, sq, (ops.length : Int)].foldl stNum st))) := by
  obtain ⟨A, c, rfl, _, hcell⟩ := ops_form hr
  obtain ⟨W2, hW2⟩ : ∃ W2, W2 = (W.alloc (.cells #[.int .i64 sh, .int .i64 cl, .int .i64 sq, .slice A ops.length c] 92)).alloc (.cells #[.int .i64 sh, .int .i64 cl, .int .i64 sq, .int .i64 ops.length] 3) := ⟨_, rfl⟩
  have hK2 : Kept F W W2 := by rw [hW2]; exact ((Kept.refl F W).alloc _).alloc _
  have hE2 : Errs W2 a := by rw [hW2]; exact hE.below (((Below.refl W.heap.size W).alloc (Nat.le_refl _) _).alloc (by simp) _)
  have hO2 : OutS a W2 F p st 0 := by rw [hW2]; exact two_keep h _ _
  have HNF := Lib.hid (show ¬ F (W.heap.size + 1) from fun hf => by have := h.2.1 _ hf; omega)
  have hs2 : W2.heap.size = W.heap.size + 1 + 1 := by rw [hW2]; simp
  have CP := Lib.hid (show Calls Tryd.prog 64 #[.pointer (some ⟨p, 0, none⟩), .slice (some ⟨W.heap.size + 1, 0, none⟩) 4 4] W2 (PWR a W2 F p ([sh, cl, sq, (ops.length : Int)].foldl stNum st)) from
    putNums_any a W2 F p 0 (W.heap.size + 1) 4 st [sh, cl, sq, (ops.length : Int)] hO2 hE2 (by omega) HNF.out (by show 4 ≤ 1000; omega) (by rw [hW2]; exact row_cells _ _ [sh, cl, sq, (ops.length : Int)] _ (by simp)))
  have UP := Lib.hid (show ∀ st' w', PW a W2 F p st' w' → PW a W F p st' w' from fun st' w' hp => PW.trans (fun _ hk => .inl hk) hK2 hp)
  have HNF0 := Lib.hid (show ¬ F W.heap.size from fun hf => Nat.lt_irrefl _ (h.2.1 _ hf))
  have HC := Lib.hid (show ∀ st' w', PW a W2 F p st' w' → w'.cell? ⟨W.heap.size, 3, none⟩ = some (.slice A ops.length c) from fun st' w' hp => by
    rw [hp.cell (by omega) HNF0.out, hW2, World.cell?_alloc_lt _ _ _ (by simp), cell_of_row _ _ 3 _ _ _ (heap_alloc_new W _)]
    rfl)
  have HOC := Lib.hid (show ∀ st' w' b o j, PW a W2 F p st' w' → b < B → w'.cell? ⟨b, o + j, none⟩ = W.cell? ⟨b, o + j, none⟩ from fun st' w' b o j hp hb => by
    have hnb : ¬ F b := fun hf => by have := hF _ hf; omega
    exact (hp.cell (by omega) hnb).trans (hK2.cell (p := ⟨b, o + j, none⟩) (by show b < _; omega) hnb))
  have HCELL := Lib.hid hcell
  have CO := Lib.hid (show ∀ st' w' o, o ∈ ops → PW a W2 F p st' w' → Calls Tryd.prog 65 #[.pointer (some ⟨p, 0, none⟩), .agg #[.int .i64 o.kind, .string o.key, .string o.value, .string o.old, .int .i64 o.version]] w' (PWR a W2 F p (stOp st' o)) from
    fun st' w' o ho hp => hp.call fun F1 hO _ _ => putOp_any a w' F1 p 0 st' o hO (hp.errs hE2 h.2.2.1) (hs o ho))
  obtain ⟨stf, hstf⟩ : ∃ stf, stf = [sh, cl, sq, (ops.length : Int)].foldl stNum st := ⟨_, rfl⟩
  rw [← hstf] at CP ⊢
  clear hstf hr hcell h hE hK2 hE2 hO2 hs2 hF hs
  go_enter Tryd.func60, Tryd.ntmps60
  go_wp2_with fail
  rw [← hW2]
  refine CP.out.mono ?_
  rintro en w3 ⟨rfl, hp⟩
  have S3 := Lib.hid hp
  have c3 := HC.out _ _ hp
  clear hp
  go_wp2_with fail
  go_loopw [21] (fun i wr => ∃ k : Nat, i = .int .i64 k ∧ k ≤ ops.length ∧ Hid (PW a W2 F p ((ops.take k).foldl stOp stf) wr)) (fun i _ => ops.length - (intOf i).toNat)
  case atStart => exact ⟨0, rfl, Nat.zero_le _, S3⟩
  case round =>
    obtain ⟨k, rfl, hk, hS⟩ := hrel
    by_cases hlt : k < ops.length
    · obtain ⟨b, o, rfl, hbl, d0, d1, d2, d3, d4⟩ := HCELL.out k hlt
      have f0 := (HOC.out _ _ b o (k * 5) hS.out hbl).trans d0
      have f1 := (HOC.out _ _ b o (k * 5 + 1) hS.out hbl).trans d1
      have f2 := (HOC.out _ _ b o (k * 5 + 2) hS.out hbl).trans d2
      have f3 := (HOC.out _ _ b o (k * 5 + 3) hS.out hbl).trans d3
      have f4 := (HOC.out _ _ b o (k * 5 + 4) hS.out hbl).trans d4
      simp only [← Nat.add_assoc] at f1 f2 f3 f4
      have HSN := Lib.hid (stOp_snoc stf ops k hlt)
      have HM := Lib.hid (List.getElem_mem hlt)
      have S5 := Lib.hid (hS.out.alloc (.cells #[.int .i64 ops[k].kind, .string ops[k].key, .string ops[k].value, .string ops[k].old, .int .i64 ops[k].version] 40))
      have C5 := Lib.hid (CO.out _ _ _ HM.out S5.out)
      rw [← HSN.out] at C5
      clear d0 d1 d2 d3 d4 HSN HM
      generalize ops[k] = op at *
      go_wp2_with fail
      refine C5.out.mono ?_
      rintro e w6 ⟨rfl, h6⟩
      have S6 := Lib.hid h6
      clear h6
      go_wp2_with fail
      go_roundw
      case rel => exact ⟨k + 1, by go_num, by omega, S6⟩
      case measure => simp [intOf]; omega
    · have hall := Lib.hid (show PW a W2 F p (ops.foldl stOp stf) wr from by
        have h := hS.out
        rwa [List.take_of_length_le (by omega)] at h)
      go_wp2_with fail
      go_end0
      exact ⟨rfl, UP.out _ _ hall.out⟩
end Go.Proofs.YtcddgllckadodaaDoor

/- Package entry's Bytes. -/
namespace Go.Proofs.YtcddgllckadodaaDoor
open Go.RowKit Tide Utf

theorem stT (q : List UInt8) (s : ByteArray) : stText (some q) s = some (q ++ text7 s) := rfl
theorem stN {z : Int} (h0 : 0 ≤ z) (h1 : z ≤ 4611686018427387903) (q : List UInt8) : stNum (some q) z = some (q ++ num7 z.toNat) := stNum_ok (by unfold rightB; simp; omega) q
theorem stOp_ok {K : ByteArray → Nat} {o : OpD} (h : opRK K o = true) (q : List UInt8) : stOp (some q) o = some (q ++ opE o) := by
  obtain ⟨h1, h2, h4, h5, h6⟩ := op_small h
  unfold stOp opE
  by_cases k1 : o.kind = 1
  · rw [if_pos k1, stN (by omega) (by omega), stT, stT, if_neg (by omega), if_pos (Or.inl k1), if_neg (by omega)]
    simp
  by_cases k3 : o.kind = 3
  · rw [if_neg k1, if_pos k3, stN (by omega) (by omega), stT, stT, stT, if_pos k3, if_pos (Or.inr k3), if_neg (by omega)]
    simp
  by_cases k4 : o.kind = 4
  · have h6' := h6 k4
    rw [if_neg k1, if_neg k3, if_pos k4, stN (by omega) (by omega), stT, stN (by omega) (by omega), if_neg (by omega), if_neg (by omega), if_pos k4]
    simp
  · rw [if_neg k1, if_neg k3, if_neg k4, stN (by omega) (by omega), stT, if_neg (by omega), if_neg (by omega), if_neg (by omega)]
    simp
theorem stOps_ok {K : ByteArray → Nat} : ∀ {l : List OpD}, (∀ o ∈ l, opRK K o = true) → ∀ q, l.foldl stOp (some q) = some (q ++ l.flatMap opE)
  | [], _, q => by simp
  | o :: l, h, q => by
    rw [List.foldl_cons, stOp_ok (h o (by simp)), stOps_ok (fun x hx => h x (by simp [hx])), List.flatMap_cons]
    simp
theorem text7_le {s : ByteArray} {m : Nat} (h : s.size ≤ m) (hm : m < 2 ^ 62) : (text7 s).length ≤ m + 9 := by
  unfold text7
  have := num7_len9 (show s.size < 2 ^ 62 by omega)
  have e : s.data.toList.length = s.size := by rw [Array.length_toList]; rfl
  rw [List.length_append, e]
  omega
theorem opE_le {K : ByteArray → Nat} {o : OpD} (h : opRK K o = true) (hs : o.key.size ≤ 300 ∧ o.value.size ≤ 300 ∧ o.old.size ≤ 300) : (opE o).length ≤ 945 := by
  obtain ⟨h1, h2, h4, h5, h6⟩ := op_small h
  have a1 := num7_len9 (show o.kind.toNat < 2 ^ 62 by omega)
  have a2 := text7_le hs.1 (by omega)
  have a3 := text7_le hs.2.1 (by omega)
  have a4 := text7_le hs.2.2 (by omega)
  have a5 : (if o.kind = 3 then text7 o.old else []).length ≤ 309 := by split <;> (try simp only [List.length_nil]) <;> omega
  have a6 : (if o.kind = 1 ∨ o.kind = 3 then text7 o.value else []).length ≤ 309 := by split <;> (try simp only [List.length_nil]) <;> omega
  have a7 : (if o.kind = 4 then num7 o.version.toNat else []).length ≤ 9 := by
    split
    · rename_i k
      have := h6 k
      exact num7_len9 (by omega)
    · simp
  unfold opE
  rw [List.length_append, List.length_append, List.length_append, List.length_append]
  omega
theorem opsE_le {K : ByteArray → Nat} : ∀ {l : List OpD}, (∀ o ∈ l, opRK K o = true ∧ (o.key.size ≤ 300 ∧ o.value.size ≤ 300 ∧ o.old.size ≤ 300)) → (l.flatMap opE).length ≤ 945 * l.length
  | [], _ => by simp
  | o :: l, h => by
    have h1 := opE_le (h o (by simp)).1 (h o (by simp)).2
    have h2 := opsE_le (l := l) (fun x hx => h x (by simp [hx]))
    rw [List.flatMap_cons, List.length_append, List.length_cons]
    omega
section
variable {K : ByteArray → Nat} {e : EntD}
theorem st_1 (k : e.kind = 1) (h : entRK K e = true) : (e.ops.map plainO).foldl stOp ([e.shard, e.client, e.seq, ((e.ops.map plainO).length : Int)].foldl stNum (stNum (some []) e.kind)) = some (encE e) := by
  rw [right_1 k, Bool.and_eq_true] at h
  obtain ⟨h1, h2⟩ := h
  simp [headW, uptoB] at h1
  rw [enc_1 k, k]
  simp only [List.foldl_cons, List.foldl_nil, List.length_map]
  rw [stN (by omega) (by omega), stN (by omega) (by omega), stN (by omega) (by omega), stN (by omega) (by omega), stN (by omega) (by omega), stOps_ok (K := K) (fun o ho => List.all_eq_true.1 (by rw [plains_R]; exact h2) o ho), plains_E]
  simp
theorem le_1 (k : e.kind = 1) (h : entRK K e = true) (hz : SizeE e) : (encE e).length ≤ 10000 := by
  rw [right_1 k, Bool.and_eq_true] at h
  obtain ⟨h1, h2⟩ := h
  simp [headW, uptoB] at h1
  rw [enc_1 k]
  have a0 := num7_len9 (show 1 < 2 ^ 62 by omega)
  have a1 := num7_len9 (show e.shard.toNat < 2 ^ 62 by omega)
  have a2 := num7_len9 (show e.client.toNat < 2 ^ 62 by omega)
  have a3 := num7_len9 (show e.seq.toNat < 2 ^ 62 by omega)
  have a4 := num7_len9 (show e.ops.length < 2 ^ 62 by omega)
  have b1 := opsE_le (K := K) (l := e.ops) (fun o ho => ⟨List.all_eq_true.1 h2 o ho, hz.1 o ho⟩)
  simp only [List.length_append]
  omega
theorem st_2 (k : e.kind = 2) (h : entRK K e = true) : [e.shard, e.server].foldl stNum (stNum (some []) e.kind) = some (encE e) := by
  rw [right_2 k] at h
  simp [uptoB] at h
  rw [enc_2 k, k]
  simp only [List.foldl_cons, List.foldl_nil]
  rw [stN (by omega) (by omega), stN (by omega) (by omega), stN (by omega) (by omega)]
  simp
theorem le_2 (k : e.kind = 2) (h : entRK K e = true) : (encE e).length ≤ 10000 := by
  rw [right_2 k] at h
  simp [uptoB] at h
  rw [enc_2 k]
  have a0 := num7_len9 (show 2 < 2 ^ 62 by omega)
  have a1 := num7_len9 (show e.shard.toNat < 2 ^ 62 by omega)
  have a2 := num7_len9 (show e.server.toNat < 2 ^ 62 by omega)
  simp only [List.length_append]
  omega
theorem st_3 (k : e.kind = 3) (h : entRK K e = true) : stText ([e.shard, e.other, e.server].foldl stNum (stNum (some []) e.kind)) e.key = some (encE e) := by
  rw [right_3 k, Bool.and_eq_true, Bool.and_eq_true] at h
  obtain ⟨h1, h2, _⟩ := h
  simp [twoB, uptoB] at h1 h2
  rw [enc_3 k, k]
  simp only [List.foldl_cons, List.foldl_nil]
  rw [stN (by omega) (by omega), stN (by omega) (by omega), stN (by omega) (by omega), stN (by omega) (by omega), stT]
  simp
theorem le_3 (k : e.kind = 3) (h : entRK K e = true) (hz : SizeE e) : (encE e).length ≤ 10000 := by
  rw [right_3 k, Bool.and_eq_true, Bool.and_eq_true] at h
  obtain ⟨h1, h2, _⟩ := h
  simp [twoB, uptoB] at h1 h2
  rw [enc_3 k]
  have a0 := num7_len9 (show 3 < 2 ^ 62 by omega)
  have a1 := num7_len9 (show e.shard.toNat < 2 ^ 62 by omega)
  have a2 := num7_len9 (show e.other.toNat < 2 ^ 62 by omega)
  have a3 := num7_len9 (show e.server.toNat < 2 ^ 62 by omega)
  have b1 := text7_le hz.2.1 (by omega)
  simp only [List.length_append]
  omega
theorem st_4 (k : e.kind = 4) (h : entRK K e = true) : [e.shard, e.other].foldl stNum (stNum (some []) e.kind) = some (encE e) := by
  rw [right_4 k] at h
  simp [twoB, uptoB] at h
  rw [enc_4 k, k]
  simp only [List.foldl_cons, List.foldl_nil]
  rw [stN (by omega) (by omega), stN (by omega) (by omega), stN (by omega) (by omega)]
  simp
theorem le_4 (k : e.kind = 4) (h : entRK K e = true) : (encE e).length ≤ 10000 := by
  rw [right_4 k] at h
  simp [twoB, uptoB] at h
  rw [enc_4 k]
  have a0 := num7_len9 (show 4 < 2 ^ 62 by omega)
  have a1 := num7_len9 (show e.shard.toNat < 2 ^ 62 by omega)
  have a2 := num7_len9 (show e.other.toNat < 2 ^ 62 by omega)
  simp only [List.length_append]
  omega
theorem st_5 (k : e.kind = 5) (h : entRK K e = true) : stText ([e.shard, e.upto, e.parts, e.part].foldl stNum (stNum (some []) e.kind)) (text e.data) = some (encE e) := by
  rw [right_5 k] at h
  simp [partB, uptoB] at h
  rw [enc_5 k, k]
  simp only [List.foldl_cons, List.foldl_nil]
  rw [stN (by omega) (by omega), stN (by omega) (by omega), stN (by omega) (by omega), stN (by omega) (by omega), stN (by omega) (by omega), stT]
  simp only [text7, text_size]
  simp [text]
theorem le_5 (k : e.kind = 5) (h : entRK K e = true) (hz : SizeE e) : (encE e).length ≤ 10000 := by
  rw [right_5 k] at h
  simp [partB, uptoB] at h
  rw [enc_5 k]
  have a0 := num7_len9 (show 5 < 2 ^ 62 by omega)
  have a1 := num7_len9 (show e.shard.toNat < 2 ^ 62 by omega)
  have a2 := num7_len9 (show e.upto.toNat < 2 ^ 62 by omega)
  have a3 := num7_len9 (show e.parts.toNat < 2 ^ 62 by omega)
  have a4 := num7_len9 (show e.part.toNat < 2 ^ 62 by omega)
  have b1 := num7_len9 (show e.data.length < 2 ^ 62 by have := hz.2.2.1; omega)
  have b2 := hz.2.2.1
  simp only [List.length_append]
  omega
theorem enc_le (h : entRK K e = true) (hz : SizeE e) : (encE e).length ≤ 10000 := by
  rcases kindsK h with k | k | k | k | k
  · exact le_1 k h hz
  · exact le_2 k h
  · exact le_3 k h hz
  · exact le_4 k h
  · exact le_5 k h hz
end
end Go.Proofs.YtcddgllckadodaaDoor

/- Package entry's Bytes, walked. -/
namespace Go.Proofs.YtcddgllckadodaaDoor
open Go.RowKit Tide Utf

theorem below_drawn3 {B : Nat} {a w : World} (h : Below B a w) (n : Nat) : Below B a (w.drewN n) := ⟨h.os, h.tape, h.output, h.size, h.block⟩
/-- Bytes and an error, told. -/
def BytesR (a : Nat → Addr) (w : World) (r : List UInt8 × Nat) (en : Ending) (w' : World) : Prop := ∃ u x, en = .returned (.tuple #[u, x]) ∧ Bytes w' w'.heap.size u r.1 ∧ IsErr a x r.2 ∧ Below w.heap.size w w'

set_option maxRecDepth 100000 in
set_option maxHeartbeats 4000000 in
theorem bytes_any (a : Nat → Addr) (T : World → Prop) (K : ByteArray → Nat) (e : EntD) (vo vd : Value) (B : Nat) (w : World) (hi : ListsOf w B e vo vd) (hB : B ≤ w.heap.size) (hz : SizeE e) (hL : Lies2 a T K w) :
    Calls Tryd.prog 17 #[.agg (entC e vo vd)] w (BytesR a w (bytesK K e)) := by
  obtain ⟨A, c, rfl, _, _⟩ := ops_form hi.1
  obtain ⟨Ad, cd, rfl, _, _, _⟩ := hi.2.form
  have HB0 := Lib.hid (show Below w.heap.size w (entB w e (.slice A e.ops.length c) (.slice Ad e.data.length cd)) from (Below.refl _ _).alloc (Nat.le_refl _) _)
  have CO := Lib.hid (rightOf_any a T K e _ _ B (entB w e (.slice A e.ops.length c) (.slice Ad e.data.length cd)) (hi.below (HB0.out.mono hB)) (Nat.le_trans hB HB0.out.size) hz (hL.below HB0.out))
  have HE := Lib.hid hL.errs
  have HZ := Lib.hid hz
  have KX := Lib.hid (show ∀ W, Below (w.heap.size + 1) (entB w e (.slice A e.ops.length c) (.slice Ad e.data.length cd)) W → W.cell? ⟨w.heap.size, 0, none⟩ = some (.int .i64 e.kind) from fun W h => (entB_cells (w := w) (e := e) h).1)
  obtain ⟨rr, hrr⟩ : ∃ rr, rr = bytesK K e := ⟨_, rfl⟩
  rw [← hrr]
  have HRR := Lib.hid hrr
  have hs0 : (entB w e (.slice A e.ops.length c) (.slice Ad e.data.length cd)).heap.size = w.heap.size + 1 := by simp
  have D0 := Lib.hid (Below.refl (w.heap.size + 1) (entB w e (.slice A e.ops.length c) (.slice Ad e.data.length cd)))
  clear hi hz hL hrr
  unfold entB entC at *
  go_enter Tryd.func17, Tryd.ntmps17
  go_wp2_with fail
  refine CO.out.mono ?_
  rintro en w1 ⟨h, rfl, hk, hb⟩
  have HB1 := Lib.hid (HB0.out.trans (hb.mono HB0.out.size))
  have D1 := Lib.hid (D0.out.trans (hb.mono (by simp)))
  have HE1 := Lib.hid (HE.out.below HB1.out)
  clear hb CO hs0
  rcases hk with ⟨hR, hk⟩ | ⟨hR, rfl⟩
  · have HLE := Lib.hid (enc_le hR HZ.out)
    have HFIN := Lib.hid (show bytesK K e = if 1848 < (encE e).length then ([], 3) else (encE e, 0) from if_pos hR)
    obtain ⟨w2, hw2⟩ : ∃ w2, w2 = w1.alloc (.cells #[.slice none 0 0, .nilIface] 55) := ⟨_, rfl⟩
    have HO2 := Lib.hid (show OutS a w2 (fun k => k = w1.heap.size) w1.heap.size (some []) 0 from by rw [hw2]; exact outS_new a w1 HE1.out)
    have hb12 : Below w1.heap.size w1 w2 := by rw [hw2]; exact (Below.refl _ _).alloc (Nat.le_refl _) _
    have HE2 := Lib.hid (HE1.out.below hb12)
    have HB12 := Lib.hid hb12
    have hc0 : w1.cell? ⟨w.heap.size, 0, none⟩ = some (.int .i64 e.kind) := KX.out w1 D1.out
    have hlt0 : w.heap.size < w1.heap.size := by have h9 := D1.out.size; simp at h9; omega
    have HS2 := Lib.hid (show w2.heap.size = w1.heap.size + 1 from by rw [hw2]; simp)
    have S2 := Lib.hid (PW.start HO2.out)
    have CN := Lib.hid (S2.out.num HE2.out HO2.out.2.2.1 e.kind)
    have FINB := Lib.hid (show ∀ st w5, PW a w2 (fun k => k = w1.heap.size) w1.heap.size st w5 → Below w.heap.size w w5 ∧ Errs w5 a ∧ Calls Tryd.prog 21 #[.pointer (some ⟨w1.heap.size, 0, none⟩)] w5 (fun en w' => ∃ v x, en = .returned (.tuple #[v, x]) ∧ Bytes w' w'.heap.size v (doneOf st).1 ∧ IsErr a x (doneOf st).2 ∧ Below w.heap.size w w' ∧ Errs w' a) from fun st w5 hp => by
      have hE5 := hp.errs HE2.out HO2.out.2.2.1
      obtain ⟨F1, hO, hF1, hK⟩ := hp
      have hlow : ∀ k, F1 k → w1.heap.size ≤ k := fun k hk => by
        rcases hF1 k hk with h | h
        · have h9 : k = w1.heap.size := h
          omega
        · have := HS2.out; omega
      have hb5 : Below w.heap.size w w5 := HB1.out.trans ((HB12.out.trans (hK.below (by have := HS2.out; omega) (fun k hk => by have h9 : k = w1.heap.size := hk; omega))).mono HB1.out.size)
      refine ⟨hb5, hE5, (odone_any a w5 F1 w1.heap.size st 0 hO).mono fun en w' ⟨v, x, he, hbv, hx, hk⟩ => ⟨v, x, he, hbv, hx, ?_, ?_⟩⟩
      · exact hb5.trans (hk.below (Nat.le_trans hb5.size (Nat.le_refl _)) (fun k hk => by have := hlow k hk; have := HB1.out.size; omega))
      · exact hE5.kept hk hO.2.2.1)
    have HRT := Lib.hid hR
    clear hb12 hR
    have ENDS := Lib.hid (show ∀ st, st = some (encE e) → (doneOf st).1 = encE e ∧ (doneOf st).2 = 0 from fun st hst => by
      subst hst
      show (if (encE e).length ≤ 65536 then (encE e, 0) else ([], 3)).1 = _ ∧ (if (encE e).length ≤ 65536 then (encE e, 0) else ([], 3)).2 = _
      rw [if_pos (by have := HLE.out; omega)]
      exact ⟨rfl, rfl⟩)
    rcases hk with ⟨k1, u, rfl, hu⟩ | ⟨k1, rfl⟩ | ⟨k1, rfl⟩ | ⟨k1, rfl⟩ | ⟨k1, rfl⟩
    · obtain ⟨_, A3, c3, hu3, _⟩ := id hu
      rw [List.length_map, List.length_map] at hu3
      subst hu3
      have HU := Lib.hid hu
      clear hu
      have HST := Lib.hid (st_1 k1 HRT.out)
      have HW2 := Lib.hid hw2
      clear k1 hw2
      go_wp2_with fail
      rw [← HW2.out]
      refine CN.out.mono ?_
      rintro en w3 ⟨rfl, hp⟩
      have S3 := Lib.hid hp
      have CPUT := Lib.hid (hp.call fun F1 hO hF1 hK => write_put a w3 F1 w1.heap.size 0 _ e.shard e.client e.seq (e.ops.map plainO) _ w1.heap.size hO (S3.out.errs HE2.out HO2.out.2.2.1) ((HU.out.below HB12.out).keep (fun b o hb => S3.out.cell (by have := HS2.out; omega) (by show ¬ b = _; omega))) (by have := S3.out.size; have := HS2.out; omega) (fun k hk => by rcases hF1 k hk with h | h; (have h9 : k = w1.heap.size := h; omega); (have := HS2.out; omega)) (fun o ho => by obtain ⟨o', ho', rfl⟩ := List.mem_map.1 ho; exact plain_size (HZ.out.1 o' ho')))
      clear hp
      go_wp2_with fail
      refine CPUT.out.mono ?_
      rintro en w4 ⟨rfl, hp⟩
      obtain ⟨hb4, hE4, hD⟩ := FINB.out _ _ hp
      obtain ⟨hd1, hd2⟩ := ENDS.out _ HST.out
      rw [hd1, hd2] at hD
      have HD := Lib.hid hD
      clear hp hb4 hE4 hd1 hd2 hD
      go_wp2_with fail
      refine HD.out.mono ?_
      rintro en w5 ⟨v, x, rfl, hv, hx, hb5, hE5⟩
      have hx0 : x = .nilIface := by
        rcases hx with ⟨_, h⟩ | ⟨m, _, h0, _⟩
        · exact h
        · omega
      subst hx0
      obtain ⟨A5, c5, rfl, _, _, _⟩ := hv.form
      have HV := Lib.hid hv
      have HB5 := Lib.hid hb5
      have hg := hE5.var 2 (by omega)
      simp only [evars, List.getD_cons_zero, List.getD_cons_succ] at hg
      clear hv hx hb5 hE5 hc0
      by_cases hlong : 1848 < (encE e).length
      · have HR2 := Lib.hid (show rr = ([], 3) from by rw [HRR.out, HFIN.out, if_pos hlong])
        have hq : decide ((1848 : Int) < ((encE e).length : Int)) = true := decide_eq_true (by omega)
        clear HFIN
        go_wp2_with fail
        go_quiet (fail)
        go_wp2_with fail
        go_ret2
        exact ⟨_, _, rfl, by rw [HR2.out]; exact bytes_nil' _ _, by rw [HR2.out]; exact isErr_at a 2 (by omega), below_drawn3 HB5.out _⟩
      · have HR2 := Lib.hid (show rr = (encE e, 0) from by rw [HRR.out, HFIN.out, if_neg hlong])
        have hq : decide ((1848 : Int) < ((encE e).length : Int)) = false := decide_eq_false (by omega)
        clear HFIN
        go_wp2_with fail
        go_ret2
        exact ⟨_, _, rfl, by rw [HR2.out]; exact HV.out, by rw [HR2.out]; exact isErr_nil a, HB5.out⟩
    · have HST := Lib.hid (st_2 k1 HRT.out)
      have HW2 := Lib.hid hw2
      clear k1 hw2
      go_wp2_with fail
      rw [← HW2.out]
      refine CN.out.mono ?_
      rintro en w3 ⟨rfl, hp⟩
      have S3 := Lib.hid hp
      have CPUT := Lib.hid (hp.call fun F1 hO hF1 hK => move_put a w3 F1 w1.heap.size 0 _ e.shard e.server hO (S3.out.errs HE2.out HO2.out.2.2.1))
      clear hp
      go_wp2_with fail
      refine CPUT.out.mono ?_
      rintro en w4 ⟨rfl, hp⟩
      obtain ⟨hb4, hE4, hD⟩ := FINB.out _ _ hp
      obtain ⟨hd1, hd2⟩ := ENDS.out _ HST.out
      rw [hd1, hd2] at hD
      have HD := Lib.hid hD
      clear hp hb4 hE4 hd1 hd2 hD
      go_wp2_with fail
      refine HD.out.mono ?_
      rintro en w5 ⟨v, x, rfl, hv, hx, hb5, hE5⟩
      have hx0 : x = .nilIface := by
        rcases hx with ⟨_, h⟩ | ⟨m, _, h0, _⟩
        · exact h
        · omega
      subst hx0
      obtain ⟨A5, c5, rfl, _, _, _⟩ := hv.form
      have HV := Lib.hid hv
      have HB5 := Lib.hid hb5
      have hg := hE5.var 2 (by omega)
      simp only [evars, List.getD_cons_zero, List.getD_cons_succ] at hg
      clear hv hx hb5 hE5 hc0
      by_cases hlong : 1848 < (encE e).length
      · have HR2 := Lib.hid (show rr = ([], 3) from by rw [HRR.out, HFIN.out, if_pos hlong])
        have hq : decide ((1848 : Int) < ((encE e).length : Int)) = true := decide_eq_true (by omega)
        clear HFIN
        go_wp2_with fail
        go_quiet (fail)
        go_wp2_with fail
        go_ret2
        exact ⟨_, _, rfl, by rw [HR2.out]; exact bytes_nil' _ _, by rw [HR2.out]; exact isErr_at a 2 (by omega), below_drawn3 HB5.out _⟩
      · have HR2 := Lib.hid (show rr = (encE e, 0) from by rw [HRR.out, HFIN.out, if_neg hlong])
        have hq : decide ((1848 : Int) < ((encE e).length : Int)) = false := decide_eq_false (by omega)
        clear HFIN
        go_wp2_with fail
        go_ret2
        exact ⟨_, _, rfl, by rw [HR2.out]; exact HV.out, by rw [HR2.out]; exact isErr_nil a, HB5.out⟩
    · have HST := Lib.hid (st_3 k1 HRT.out)
      have HW2 := Lib.hid hw2
      clear k1 hw2
      go_wp2_with fail
      rw [← HW2.out]
      refine CN.out.mono ?_
      rintro en w3 ⟨rfl, hp⟩
      have S3 := Lib.hid hp
      have CPUT := Lib.hid (hp.call fun F1 hO hF1 hK => split_put a w3 F1 w1.heap.size 0 _ e.shard e.other e.server e.key hO (S3.out.errs HE2.out HO2.out.2.2.1) HZ.out.2.1)
      clear hp
      go_wp2_with fail
      refine CPUT.out.mono ?_
      rintro en w4 ⟨rfl, hp⟩
      obtain ⟨hb4, hE4, hD⟩ := FINB.out _ _ hp
      obtain ⟨hd1, hd2⟩ := ENDS.out _ HST.out
      rw [hd1, hd2] at hD
      have HD := Lib.hid hD
      clear hp hb4 hE4 hd1 hd2 hD
      go_wp2_with fail
      refine HD.out.mono ?_
      rintro en w5 ⟨v, x, rfl, hv, hx, hb5, hE5⟩
      have hx0 : x = .nilIface := by
        rcases hx with ⟨_, h⟩ | ⟨m, _, h0, _⟩
        · exact h
        · omega
      subst hx0
      obtain ⟨A5, c5, rfl, _, _, _⟩ := hv.form
      have HV := Lib.hid hv
      have HB5 := Lib.hid hb5
      have hg := hE5.var 2 (by omega)
      simp only [evars, List.getD_cons_zero, List.getD_cons_succ] at hg
      clear hv hx hb5 hE5 hc0
      by_cases hlong : 1848 < (encE e).length
      · have HR2 := Lib.hid (show rr = ([], 3) from by rw [HRR.out, HFIN.out, if_pos hlong])
        have hq : decide ((1848 : Int) < ((encE e).length : Int)) = true := decide_eq_true (by omega)
        clear HFIN
        go_wp2_with fail
        go_quiet (fail)
        go_wp2_with fail
        go_ret2
        exact ⟨_, _, rfl, by rw [HR2.out]; exact bytes_nil' _ _, by rw [HR2.out]; exact isErr_at a 2 (by omega), below_drawn3 HB5.out _⟩
      · have HR2 := Lib.hid (show rr = (encE e, 0) from by rw [HRR.out, HFIN.out, if_neg hlong])
        have hq : decide ((1848 : Int) < ((encE e).length : Int)) = false := decide_eq_false (by omega)
        clear HFIN
        go_wp2_with fail
        go_ret2
        exact ⟨_, _, rfl, by rw [HR2.out]; exact HV.out, by rw [HR2.out]; exact isErr_nil a, HB5.out⟩
    · have HST := Lib.hid (st_4 k1 HRT.out)
      have HW2 := Lib.hid hw2
      clear k1 hw2
      go_wp2_with fail
      rw [← HW2.out]
      refine CN.out.mono ?_
      rintro en w3 ⟨rfl, hp⟩
      have S3 := Lib.hid hp
      have CPUT := Lib.hid (hp.call fun F1 hO hF1 hK => merge_put a w3 F1 w1.heap.size 0 _ e.shard e.other hO (S3.out.errs HE2.out HO2.out.2.2.1))
      clear hp
      go_wp2_with fail
      refine CPUT.out.mono ?_
      rintro en w4 ⟨rfl, hp⟩
      obtain ⟨hb4, hE4, hD⟩ := FINB.out _ _ hp
      obtain ⟨hd1, hd2⟩ := ENDS.out _ HST.out
      rw [hd1, hd2] at hD
      have HD := Lib.hid hD
      clear hp hb4 hE4 hd1 hd2 hD
      go_wp2_with fail
      refine HD.out.mono ?_
      rintro en w5 ⟨v, x, rfl, hv, hx, hb5, hE5⟩
      have hx0 : x = .nilIface := by
        rcases hx with ⟨_, h⟩ | ⟨m, _, h0, _⟩
        · exact h
        · omega
      subst hx0
      obtain ⟨A5, c5, rfl, _, _, _⟩ := hv.form
      have HV := Lib.hid hv
      have HB5 := Lib.hid hb5
      have hg := hE5.var 2 (by omega)
      simp only [evars, List.getD_cons_zero, List.getD_cons_succ] at hg
      clear hv hx hb5 hE5 hc0
      by_cases hlong : 1848 < (encE e).length
      · have HR2 := Lib.hid (show rr = ([], 3) from by rw [HRR.out, HFIN.out, if_pos hlong])
        have hq : decide ((1848 : Int) < ((encE e).length : Int)) = true := decide_eq_true (by omega)
        clear HFIN
        go_wp2_with fail
        go_quiet (fail)
        go_wp2_with fail
        go_ret2
        exact ⟨_, _, rfl, by rw [HR2.out]; exact bytes_nil' _ _, by rw [HR2.out]; exact isErr_at a 2 (by omega), below_drawn3 HB5.out _⟩
      · have HR2 := Lib.hid (show rr = (encE e, 0) from by rw [HRR.out, HFIN.out, if_neg hlong])
        have hq : decide ((1848 : Int) < ((encE e).length : Int)) = false := decide_eq_false (by omega)
        clear HFIN
        go_wp2_with fail
        go_ret2
        exact ⟨_, _, rfl, by rw [HR2.out]; exact HV.out, by rw [HR2.out]; exact isErr_nil a, HB5.out⟩
    · have HST := Lib.hid (st_5 k1 HRT.out)
      have HW2 := Lib.hid hw2
      clear k1 hw2
      go_wp2_with fail
      rw [← HW2.out]
      refine CN.out.mono ?_
      rintro en w3 ⟨rfl, hp⟩
      have S3 := Lib.hid hp
      have CPUT := Lib.hid (hp.call fun F1 hO hF1 hK => check_put a w3 F1 w1.heap.size 0 _ e.shard e.upto e.parts e.part (text e.data) hO (S3.out.errs HE2.out HO2.out.2.2.1) (by rw [text_size]; exact HZ.out.2.2.1))
      clear hp
      go_wp2_with fail
      refine CPUT.out.mono ?_
      rintro en w4 ⟨rfl, hp⟩
      obtain ⟨hb4, hE4, hD⟩ := FINB.out _ _ hp
      obtain ⟨hd1, hd2⟩ := ENDS.out _ HST.out
      rw [hd1, hd2] at hD
      have HD := Lib.hid hD
      clear hp hb4 hE4 hd1 hd2 hD
      go_wp2_with fail
      refine HD.out.mono ?_
      rintro en w5 ⟨v, x, rfl, hv, hx, hb5, hE5⟩
      have hx0 : x = .nilIface := by
        rcases hx with ⟨_, h⟩ | ⟨m, _, h0, _⟩
        · exact h
        · omega
      subst hx0
      obtain ⟨A5, c5, rfl, _, _, _⟩ := hv.form
      have HV := Lib.hid hv
      have HB5 := Lib.hid hb5
      have hg := hE5.var 2 (by omega)
      simp only [evars, List.getD_cons_zero, List.getD_cons_succ] at hg
      clear hv hx hb5 hE5 hc0
      by_cases hlong : 1848 < (encE e).length
      · have HR2 := Lib.hid (show rr = ([], 3) from by rw [HRR.out, HFIN.out, if_pos hlong])
        have hq : decide ((1848 : Int) < ((encE e).length : Int)) = true := decide_eq_true (by omega)
        clear HFIN
        go_wp2_with fail
        go_quiet (fail)
        go_wp2_with fail
        go_ret2
        exact ⟨_, _, rfl, by rw [HR2.out]; exact bytes_nil' _ _, by rw [HR2.out]; exact isErr_at a 2 (by omega), below_drawn3 HB5.out _⟩
      · have HR2 := Lib.hid (show rr = (encE e, 0) from by rw [HRR.out, HFIN.out, if_neg hlong])
        have hq : decide ((1848 : Int) < ((encE e).length : Int)) = false := decide_eq_false (by omega)
        clear HFIN
        go_wp2_with fail
        go_ret2
        exact ⟨_, _, rfl, by rw [HR2.out]; exact HV.out, by rw [HR2.out]; exact isErr_nil a, HB5.out⟩
  · have HR2 := Lib.hid (show rr = ([], 4) from by rw [HRR.out]; unfold bytesK; rw [hR]; rfl)
    have hg := HE1.out.var 3 (by omega)
    simp only [evars, List.getD_cons_zero, List.getD_cons_succ] at hg
    clear hR
    go_wp2_with fail
    go_quiet (fail)
    go_wp2_with fail
    go_ret2
    exact ⟨_, _, rfl, by rw [HR2.out]; exact bytes_nil' _ _, by rw [HR2.out]; exact isErr_at a 3 (by omega), below_drawn3 HB1.out _⟩
end Go.Proofs.YtcddgllckadodaaDoor
