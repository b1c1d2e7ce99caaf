/- What a device's functions do, as a law wants it: the durable bytes, the writes that are pending. It speaks of no program's own form. -/
import Derived.Test.YtcjneloelbgboaaDoorKeep
import Derived.Test.YtcjneloelbgboaaDoorRecs
import Derived.Test.YtcjneloelbgboaaDoorConv
namespace Go.Proofs.YtcjneloelbgboaaDoor
open Go.RowKit Tide

/-- Noughts. -/
def noughts (n : Nat) : List UInt8 := List.replicate n 0
theorem noughts_len (n : Nat) : (noughts n).length = n := by simp [noughts]
/-- Sector i of an image. -/
def sect (img : List UInt8) (i : Nat) : List UInt8 := (img.drop (64 * i)).take 64
/-- What Read answers: the last pending write's bytes, or the durable ones. -/
def readD (img : List UInt8) (pend : List (Nat × List UInt8)) (i : Nat) : List UInt8 := pend.foldl (fun b x => if x.1 = i then x.2 else b) (sect img i)
/-- An image behind a write that is done. -/
def putS (img : List UInt8) (x : Nat × List UInt8) : List UInt8 := img.take (64 * x.1) ++ x.2 ++ img.drop (64 * x.1 + 64)
/-- What Flush makes. -/
def flushD (img : List UInt8) (pend : List (Nat × List UInt8)) : List UInt8 := pend.foldl putS img

/-- A device that isn't to go down: in memory W, of the blocks F, at the block p; its durable bytes; what is pending. -/
abbrev DevP := World → (Nat → Prop) → Nat → List UInt8 → List (Nat × List UInt8) → Prop
/-- Behind a call that answers so. -/
def DevR (D : DevP) (W : World) (F : Nat → Prop) (p : Nat) (img : List UInt8) (pend : List (Nat × List UInt8)) (ans : Value → World → Prop) (e : Ending) (w' : World) : Prop :=
  ∃ v F', e = .returned v ∧ ans v w' ∧ D w' F' p img pend ∧ (∀ k, F' k → F k ∨ W.heap.size ≤ k) ∧ Kept F W w'
/-- A new device. -/
def NewR (D : DevP) (W : World) (img : List UInt8) (e : Ending) (w' : World) : Prop :=
  ∃ p F, e = .returned (.tuple #[.pointer (some ⟨p, 0, none⟩), .nilIface]) ∧ D w' F p img [] ∧ (∀ k, F k → W.heap.size ≤ k) ∧ Below W.heap.size W w'
/-- A read that answers bytes apart from the device. -/
def ReadR (D : DevP) (W : World) (F : Nat → Prop) (p : Nat) (img : List UInt8) (pend : List (Nat × List UInt8)) (b : List UInt8) (e : Ending) (w' : World) : Prop :=
  ∃ u F', e = .returned (.tuple #[u, .nilIface]) ∧ Bytes w' w'.heap.size u b ∧ (∀ k, u.ownBlock = some k → ¬ F' k) ∧ D w' F' p img pend ∧ (∀ k, F' k → F k ∨ W.heap.size ≤ k) ∧ Kept F W w'
/-- What a device's functions do; E: what lies (errors), xF: the error of a wrong image. -/
structure DevSpec (E : World → Prop) (xF : Value) (D : DevP) : Prop where
  keepE : ∀ W W', E W → Below W.heap.size W W' → E W'
  lt : ∀ W F p img pend, D W F p img pend → ∀ k, F k → k < W.heap.size
  keep : ∀ W W' F G p img pend, D W F p img pend → Kept G W W' → (∀ k, F k → ¬ G k) → D W' F p img pend
  new : ∀ (W : World) (n : Nat), E W → 1 ≤ n → n ≤ 6 → Calls Tryd.prog 14 #[.int .i64 (n : Nat)] W (NewR D W (noughts (64 * n)))
  from_ok : ∀ (W : World) v B l, E W → Bytes W B v l → B ≤ W.heap.size → l.length ≤ 3000 → l ≠ [] → l.length % 64 = 0 → Calls Tryd.prog 7 #[v] W (NewR D W l)
  from_bad : ∀ (W : World) v B l, E W → Bytes W B v l → B ≤ W.heap.size → l.length ≤ 3000 → (l = [] ∨ l.length % 64 ≠ 0) → Calls Tryd.prog 7 #[v] W fun e w' => e = .returned (.tuple #[.pointer none, xF]) ∧ Below W.heap.size W w'
  len : ∀ W F p img pend, D W F p img pend → img.length ≤ 3000 → Calls Tryd.prog 13 #[.pointer (some ⟨p, 0, none⟩)] W fun e w' => e = .returned (.int .i64 ((img.length / 64 : Nat))) ∧ Below W.heap.size W w'
  write : ∀ (W : World) F p img pend (i : Int) v B b, D W F p img pend → img.length ≤ 3000 → pend.length ≤ 100 → -9223372036854775808 ≤ i → i ≤ 9223372036854775807 → Bytes W B v b → B ≤ W.heap.size → (∀ k, v.ownBlock = some k → ¬ F k) → b.length = 64 → 0 ≤ i → i < ((img.length / 64 : Nat) : Int) →
    Calls Tryd.prog 15 #[.pointer (some ⟨p, 0, none⟩), .int .i64 i, v] W (DevR D W F p img (pend ++ [(i.toNat, b)]) fun v _ => v = .nilIface)
  write_bad : ∀ (W : World) F p img pend (i : Int) v B b, E W → D W F p img pend → img.length ≤ 3000 → Bytes W B v b → B ≤ W.heap.size → b.length = 64 → (i < 0 ∨ ((img.length / 64 : Nat) : Int) ≤ i) →
    Calls Tryd.prog 15 #[.pointer (some ⟨p, 0, none⟩), .int .i64 i, v] W (DevR D W F p img pend fun v _ => ∃ t u, v = .iface t u)
  read : ∀ W F p img pend (i : Nat), D W F p img pend → img.length ≤ 3000 → pend.length ≤ 100 → i < img.length / 64 → Calls Tryd.prog 11 #[.pointer (some ⟨p, 0, none⟩), .int .i64 (i : Nat)] W
    (ReadR D W F p img pend (readD img pend i))
  flush : ∀ W F p img pend, D W F p img pend → img.length ≤ 3000 → pend.length ≤ 100 → Calls Tryd.prog 16 #[.pointer (some ⟨p, 0, none⟩)] W (DevR D W F p (flushD img pend) [] fun v _ => v = .nilIface)
  crash : ∀ W F p img pend, D W F p img pend → img.length ≤ 3000 → pend.length ≤ 100 → Calls Tryd.prog 17 #[.pointer (some ⟨p, 0, none⟩), .int .u64 0, .int .i64 (-1), .int .i64 0] W (DevR D W F p img [] fun v _ => v = .tuple #[])
  image : ∀ W F p img pend, D W F p img pend → img.length ≤ 3000 → Calls Tryd.prog 9 #[.pointer (some ⟨p, 0, none⟩)] W (DevR D W F p img pend fun v w' => Bytes w' w'.heap.size v img)
  pending : ∀ W F p img pend, D W F p img pend → Calls Tryd.prog 12 #[.pointer (some ⟨p, 0, none⟩)] W fun e w' => e = .returned (.int .i64 (pend.length : Nat)) ∧ Below W.heap.size W w'
  down : ∀ W F p img pend, D W F p img pend → Calls Tryd.prog 18 #[.pointer (some ⟨p, 0, none⟩)] W fun e w' => e = .returned (.bool false) ∧ Below W.heap.size W w'

/-- A device of the call's own, in memory that was w. -/
def DS (D : DevP) (w : World) (p : Nat) (img : List UInt8) (pend : List (Nat × List UInt8)) (W : World) : Prop := ∃ F, D W F p img pend ∧ (∀ k, F k → w.heap.size ≤ k) ∧ Below w.heap.size w W
section
variable {E : World → Prop} {xF : Value} {D : DevP} {w W W' : World} {p : Nat} {img img' : List UInt8} {pend pend' : List (Nat × List UInt8)} {ans : Value → World → Prop} {f : FuncId} {args : Array Value}
theorem DS.below (h : DS D w p img pend W) : Below w.heap.size w W := by
  obtain ⟨_, _, _, h⟩ := h
  exact h
theorem DS.start {e : Ending} (hb : Below w.heap.size w W) (h : NewR D W img e W') : ∃ p, e = .returned (.tuple #[.pointer (some ⟨p, 0, none⟩), .nilIface]) ∧ DS D w p img [] W' := by
  obtain ⟨p, F, he, hD, hF, hb2⟩ := h
  exact ⟨p, he, F, hD, fun k hk => Nat.le_trans hb.size (hF k hk), hb.trans (hb2.mono hb.size)⟩
/-- A call within its blocks. -/
theorem DS.call (h : DS D w p img pend W) (hc : ∀ F, D W F p img pend → Calls Tryd.prog f args W (DevR D W F p img' pend' ans)) : Calls Tryd.prog f args W fun e W' => ∃ v, e = .returned v ∧ ans v W' ∧ DS D w p img' pend' W' ∧ W.heap.size ≤ W'.heap.size := by
  obtain ⟨F, hD, hF, hb⟩ := h
  exact (hc F hD).mono fun e W' ⟨v, F', he, ha, hD', hF', hK⟩ => ⟨v, he, ha, ⟨F', hD', fun k hk => (hF' k hk).elim (hF k) (fun h => Nat.le_trans hb.size h), hb.trans (hK.below hb.size hF)⟩, hK.size⟩
/-- A call that writes nothing that there was. -/
theorem DS.quiet (hS : DevSpec E xF D) (h : DS D w p img pend W) (hb2 : Below W.heap.size W W') : DS D w p img pend W' := by
  obtain ⟨F, hD, hF, hb⟩ := h
  exact ⟨F, hS.keep _ _ _ (fun _ => False) _ _ _ hD (Kept.of_below hb2) (fun _ _ h => h), hF, hb.trans (hb2.mono hb.size)⟩
theorem DS.alloc (hS : DevSpec E xF D) (h : DS D w p img pend W) (o : Obj) : DS D w p img pend (W.alloc o) := h.quiet hS ((Below.refl _ _).alloc (Nat.le_refl _) o)
theorem DS.drew (hS : DevSpec E xF D) (h : DS D w p img pend W) : DS D w p img pend W.drew := h.quiet hS ((Below.refl _ _).drew)
/-- A store into a block that was made when the device lay. -/
theorem DS.set (hS : DevSpec E xF D) (h : DS D w p img pend W) (o : Obj) (i : Nat) (v : Value) : DS D w p img pend ((W.alloc o).setCell ⟨W.heap.size, i, none⟩ v) :=
  h.quiet hS (((Below.refl _ _).alloc (Nat.le_refl _) o).setCell (p := ⟨W.heap.size, i, none⟩) (Nat.le_refl _) v)
end
/-- A device, and a block apart from it. -/
def DF (D : DevP) (w : World) (p : Nat) (img : List UInt8) (pend : List (Nat × List UInt8)) (k : Nat) (W : World) : Prop := ∃ F, D W F p img pend ∧ (∀ k, F k → w.heap.size ≤ k) ∧ Below w.heap.size w W ∧ ¬ F k
section
variable {E : World → Prop} {xF : Value} {D : DevP} {w W W' : World} {p k : Nat} {img img' : List UInt8} {pend pend' : List (Nat × List UInt8)} {ans : Value → World → Prop} {f : FuncId} {args : Array Value}
theorem DF.ds (h : DF D w p img pend k W) : DS D w p img pend W := by
  obtain ⟨F, h1, h2, h3, _⟩ := h
  exact ⟨F, h1, h2, h3⟩
theorem DS.allocF (hS : DevSpec E xF D) (h : DS D w p img pend W) (o : Obj) : DF D w p img pend W.heap.size (W.alloc o) := by
  obtain ⟨F, hD, hF, hb⟩ := h
  have hn := (Below.refl W.heap.size W).alloc (Nat.le_refl _) o
  exact ⟨F, hS.keep _ _ _ (fun _ => False) _ _ _ hD (Kept.of_below hn) (fun _ _ h => h), hF, hb.trans (hn.mono hb.size), fun hk => absurd (hS.lt _ _ _ _ _ hD _ hk) (Nat.lt_irrefl _)⟩
theorem DF.drew (hS : DevSpec E xF D) (h : DF D w p img pend k W) : DF D w p img pend k W.drew := by
  obtain ⟨F, hD, hF, hb, hk⟩ := h
  have hn := (Below.refl W.heap.size W).drew
  exact ⟨F, hS.keep _ _ _ (fun _ => False) _ _ _ hD (Kept.of_below hn) (fun _ _ h => h), hF, hb.trans (hn.mono hb.size), hk⟩
theorem DF.call (h : DF D w p img pend k W) (hc : ∀ F, D W F p img pend → ¬ F k → Calls Tryd.prog f args W (DevR D W F p img' pend' ans)) : Calls Tryd.prog f args W fun e W' => ∃ v, e = .returned v ∧ ans v W' ∧ DS D w p img' pend' W' ∧ W.heap.size ≤ W'.heap.size := by
  obtain ⟨F, hD, hF, hb, hk⟩ := h
  exact (hc F hD hk).mono fun e W' ⟨v, F', he, ha, hD', hF', hK⟩ => ⟨v, he, ha, ⟨F', hD', fun k hk => (hF' k hk).elim (hF k) (fun h => Nat.le_trans hb.size h), hb.trans (hK.below hb.size hF)⟩, hK.size⟩
end
theorem own_is {g o n c k j : Nat} (e : (Value.slice (some ⟨g, o, none⟩) n c).ownBlock = some j) (h : g = k) : j = k := by
  have : g = j := by simpa [Value.ownBlock] using e
  omega
theorem bytes_off {W W' : World} {F : Nat → Prop} {u : Value} {l : List UInt8} {B : Nat} (h : Bytes W B u l) (hB : B ≤ W.heap.size) (hk : Kept F W W') (hf : ∀ k, u.ownBlock = some k → ¬ F k) : Bytes W' B u l := by
  obtain ⟨hn, A, c, rfl, hc1, hc2, hc⟩ := h
  refine ⟨hn, A, c, rfl, hc1, hc2, fun hx => ?_⟩
  obtain ⟨b, o, e, hb, hcell⟩ := hc hx
  subst e
  exact ⟨b, o, rfl, hb, fun j u hu => (hk.cell (p := ⟨b, o + j, none⟩) (Nat.lt_of_lt_of_le hb hB) (hf b rfl)).trans (hcell j u hu)⟩
/-- A device, and bytes apart from it. -/
def DX (D : DevP) (w : World) (p : Nat) (img : List UInt8) (pend : List (Nat × List UInt8)) (u : Value) (l : List UInt8) (W : World) : Prop :=
  ∃ F, D W F p img pend ∧ (∀ k, F k → w.heap.size ≤ k) ∧ Below w.heap.size w W ∧ Bytes W W.heap.size u l ∧ l ≠ [] ∧ ∀ k, u.ownBlock = some k → ¬ F k
section
variable {D : DevP} {w W : World} {p : Nat} {img img' : List UInt8} {pend pend' : List (Nat × List UInt8)} {u : Value} {l b : List UInt8} {ans : Value → World → Prop} {f : FuncId} {args : Array Value}
theorem DX.bytes (h : DX D w p img pend u l W) : Bytes W W.heap.size u l := by
  obtain ⟨_, _, _, _, h, _⟩ := h
  exact h
theorem DX.ds (h : DX D w p img pend u l W) : DS D w p img pend W := by
  obtain ⟨F, h1, h2, h3, _⟩ := h
  exact ⟨F, h1, h2, h3⟩
theorem DS.read (hne : b ≠ []) (h : DS D w p img pend W) (hc : ∀ F, D W F p img pend → Calls Tryd.prog f args W (ReadR D W F p img pend b)) : Calls Tryd.prog f args W fun e W' => ∃ u, e = .returned (.tuple #[u, .nilIface]) ∧ DX D w p img pend u b W' := by
  obtain ⟨F, hD, hF, hb⟩ := h
  exact (hc F hD).mono fun e W' ⟨u, F', he, hby, ha, hD', hF', hK⟩ => ⟨u, he, F', hD', fun k hk => (hF' k hk).elim (hF k) (fun h => Nat.le_trans hb.size h), hb.trans (hK.below hb.size hF), hby, hne, ha⟩
/-- A second read: what was read before stays. -/
theorem DX.read' (_ : b ≠ []) (h : DX D w p img pend u l W) (hc : ∀ F, D W F p img pend → Calls Tryd.prog f args W (ReadR D W F p img pend b)) : Calls Tryd.prog f args W fun e W' => ∃ u', e = .returned (.tuple #[u', .nilIface]) ∧ Bytes W' W'.heap.size u' b ∧ Bytes W' W'.heap.size u l ∧ Below w.heap.size w W' := by
  obtain ⟨F, hD, hF, hb, hby, _, ha⟩ := h
  exact (hc F hD).mono fun e W' ⟨u', F', he, hby', _, _, _, hK⟩ => ⟨u', he, hby', (bytes_off hby (Nat.le_refl _) hK ha).more hK.size, hb.trans (hK.below hb.size hF)⟩
/-- A call within the device's blocks. -/
theorem DX.call (h : DX D w p img pend u l W) (hc : ∀ F, D W F p img pend → Calls Tryd.prog f args W (DevR D W F p img' pend' ans)) : Calls Tryd.prog f args W fun e W' => ∃ v, e = .returned v ∧ ans v W' ∧ DX D w p img' pend' u l W' := by
  obtain ⟨F, hD, hF, hb, hby, hne, ha⟩ := h
  refine (hc F hD).mono fun e W' ⟨v, F', he, hv, hD', hF', hK⟩ => ⟨v, he, hv, F', hD', fun k hk => (hF' k hk).elim (hF k) (fun h => Nat.le_trans hb.size h), hb.trans (hK.below hb.size hF), (bytes_off hby (Nat.le_refl _) hK ha).more hK.size, hne, fun k hk hf => ?_⟩
  rcases hF' k hf with h | h
  · exact ha k hk h
  · obtain ⟨_, A, c, rfl, _, _, hc⟩ := hby
    obtain ⟨b, o, rfl, hbl, _⟩ := hc (by
      intro e
      have h9 := u8s_length l
      rw [e] at h9
      exact hne (List.eq_nil_of_length_eq_zero h9.symm))
    have : b = k := by simpa [Value.ownBlock] using hk
    omega
end
theorem sect_zero (n i : Nat) (h : i < n) : sect (noughts (64 * n)) i = noughts 64 := by
  unfold sect noughts
  rw [List.drop_replicate, List.take_replicate]
  congr 1
  omega
end Go.Proofs.YtcjneloelbgboaaDoor
