/- Package book: Propose. -/
import Derived.Test.YtefcbofjndnpkaaDoorGBoL
import Derived.Test.YtefcbofjndnpkaaDoorGBoA
import Derived.Test.YtefcbofjndnpkaaDoorGBoD
import Derived.Test.YtefcbofjndnpkaaDoorGBkW
import Derived.Test.YtefcbofjndnpkaaDoorGVtFa
import Derived.Test.YtefcbofjndnpkaaDoorGConv
import Derived.Test.YtefcbofjndnpkaaDoorGConvT
import Derived.Test.YtefcbofjndnpkaaDoorGBkE
import Derived.Test.YtefcbofjndnpkaaDoorGErr
import Derived.Test.YtefcbofjndnpkaaDoorGUmod
namespace Go.Proofs.YtefcbofjndnpkaaDoor
open Go Go.RowKit Tide

section
variable {W0 W W' W1 : World} {base q bv bk n N : Nat} {T : Nat → Nat} {os : Nat → Option Nat} {up : Nat → Bool} {V : BookV} {lat : Int} {P : List (List (List Int))} {pq bp ba : Nat} {p : PropV} {a : Nat → Addr}
theorem AskW.start (H : BookW W1 base T q bv bk n N os up V lat P) (hn : n ≤ 5) (hbase : base ≤ W1.heap.size) (hb : Below W1.heap.size W1 W) {t : ByteArray} (hp : ProW W pq bp ba 0 (newV n t)) (hF : ∀ k, FPro pq bp ba k → W1.heap.size ≤ k) :
    AskW W W base (fun k => if k = bp then 100 else if k = ba then 101 else T k) q bv bk n N os up V lat P pq bp ba (newV n t) := by
  have h1 := hF bp (.inr (.inl rfl))
  have h2 := hF ba (.inr (.inr rfl))
  have h3 := hF pq (.inl rfl)
  obtain ⟨_, _, l3, l4⟩ := H.lt
  refine ⟨{ H.below hb with tagk := ?_, tags := fun i b hi e => ?_ }, hp.mono (Nat.zero_le N), OkPr.new hn t, ⟨if_pos rfl, ?_⟩, ⟨by omega, by omega, by omega⟩, KeptS.refl _ _⟩
  · rw [if_neg (by omega), if_neg (by omega)]; exact H.tagk
  · have := l4 i b hi e
    rw [if_neg (by omega), if_neg (by omega)]; exact H.tags i b hi e
  · have : ba ≠ bp := fun e => hp.two e.symm
    rw [if_neg this, if_pos rfl]
/-- A result's cells are stored. -/
theorem BookW.res (H : BookW W base T q bv bk n N os up V lat P) {g : Nat} {x y : Value} (R : Two W g 27 x y) (u v : Value) : BookW (put2 W g u v) base T q bv bk n N os up V lat P := by
  have hk : Kept (fun j => j = g) W (put2 W g u v) := put2_kept (Kept.refl (fun j => j = g) W) (.inl rfl) u v
  have hc : ∀ {k : Nat} {cs : Array Value} {t : TypeId} {m : Nat × Nat}, W.heap[k]? = some (.cells cs t m) → 27 ≠ t → ¬ k = g := fun {k cs t m} hc ht e => by subst e; exact cells_two R hc ht
  have hm : ∀ {k : Nat} {es : Array _} {cl : Nat}, W.heap[k]? = some (.map es cl) → ¬ k = g := fun {k es cl} ho e => by subst e; exact cells_map R ho
  refine H.kept hk (hc H.cell (by decide)) (hc H.row (by decide)) ?_ (fun i b hi e => ?_) (fun k cur h => ?_)
  · obtain ⟨es, cl, ho, _⟩ := H.known.obj; exact hm ho
  · obtain ⟨es, cl, ho, _⟩ := (H.maps i hi).obj e; exact hm ho
  · rcases h with h | h
    · exact hc h (by decide)
    · exact hc h (by decide)
theorem KeptS.res (h : KeptS base W0 W) {g : Nat} (hg : W0.heap.size ≤ g) (u v : Value) : KeptS base W0 (put2 W g u v) := put2_kept h (.inr hg) u v
theorem KeptS.drew (h : KeptS base W0 W) : KeptS base W0 W.drew := Kept.drew h
/-- What Propose answers where the plan isn't right, or the ballot is below 0. -/
def PropBad (a : Nat → Addr) (W : World) (e : Ending) (w' : World) : Prop := e = .returned (.tuple #[planV 0 (.slice none 0 0), errAt (a 3)]) ∧ Below W.heap.size W w'
/-- What it answers where all is right and the epoch is the next one: nothing is decided, or a right plan of this epoch. -/
def PropOk (a : Nat → Addr) (W : World) (base q bv bk n N : Nat) (up : Nat → Bool) (s : BookV × PropV) (lat : Int) (P : List (List (List Int))) (e : Ending) (w' : World) : Prop :=
  ∃ T' os' P' lat', BookW w' base T' q bv bk n N os' up s.1 lat' P' ∧ KeptS base W w' ∧
    ((decV s.2 = false ∧ P' = P ∧ lat' = lat ∧ e = .returned (.tuple #[planV 0 (.slice none 0 0), errAt (a 11)])) ∨
     (decV s.2 = true ∧ ∃ ds v' vs, rightB (P.length : Int) ds = true ∧ s.2.text = text (planB (P.length : Int) ds) ∧ P' = P ++ [ds] ∧ lat' = (P.length : Int) ∧ e = .returned (.tuple #[planV (P.length : Int) v', .nilIface]) ∧ GridO w' W.heap.size v' vs ds))
theorem nil_iface (w : World) : (binOp BinOp.neq 30 .nilIface .nilIface).run Tryd.prog w = .ok (.bool false) w := by kernel_rfl
set_option maxRecDepth 100000 in
set_option maxHeartbeats 4000000 in
theorem bpropose_ok (H : BookW W base T q bv bk n N os up V lat P) (hn1 : 1 ≤ n) (hn : n ≤ 5) (hbase : base ≤ W.heap.size) (hP : P.length ≤ 1000000) (hE : ∀ w', KeptS base W w' → Errs w' a) {v : Value} {cs : List (List Int)} {B : Nat} (hv : Grid W B v cs) (hB : B ≤ W.heap.size) (hr : rightB (P.length : Int) cs = true) (hlat : lat + 1 = (P.length : Int)) {b : Int} (hb : 0 ≤ b)
    {va : Value} {l : List Int} {Bv : Nat} (hva : Row W Bv va (int64s l)) (hBv : Bv ≤ W.heap.size) (hl : l.length ≤ 100) (hN : N + 4 * l.length ≤ 1000000)
    (hinv : decV (askB n (text (planB (P.length : Int) cs)) (P.length : Int) b V (reachI n up l)).2 = true → ∃ ds, rightB (P.length : Int) ds = true ∧ (askB n (text (planB (P.length : Int) cs)) (P.length : Int) b V (reachI n up l)).2.text = text (planB (P.length : Int) ds)) :
    Calls Tryd.prog 10 #[.pointer (some ⟨q, 0, none⟩), .int .i64 b, planV (P.length : Int) v, va] W (PropOk a W base q bv bk n (N + 4 * l.length) up (askB n (text (planB (P.length : Int) cs)) (P.length : Int) b V (reachI n up l)) lat P) := by
  obtain ⟨hlen, A, c, rfl, hcell⟩ := hv.form
  have hP30 : (P.length : Int) ≤ 1073741824 := (right_parts hr).2.1
  obtain ⟨s, hs⟩ : ∃ s, askB n (text (planB (P.length : Int) cs)) (P.length : Int) b V (reachI n up l) = s := ⟨_, rfl⟩
  have HSD := Lib.hid hs
  rw [hs] at hinv ⊢
  have HINV := Lib.hid hinv
  obtain ⟨m, hm⟩ : ∃ m, P.length = m := ⟨_, rfl⟩
  rw [hm] at hr hlat HSD HINV hP30 ⊢
  have HPL := Lib.hid hm
  have HPM := Lib.hid hP
  obtain ⟨W1, hW1⟩ : ∃ W1, (W.alloc (.cells #[.int .i64 (m : Int), .slice A cs.length c] 27)).alloc (.cells #[.int .i64 0, .slice none 0 0] 27) = W1 := ⟨_, rfl⟩
  have b0 : Below W.heap.size W W1 := by rw [← hW1]; exact ((Below.refl W.heap.size W).alloc (Nat.le_refl _) _).alloc (by simp) _
  have P1 := Lib.hid (show Two W1 W.heap.size 27 (.int .i64 (m : Int)) (.slice A cs.length c) from by rw [← hW1]; exact (Two.new W 27 (.int .i64 (m : Int)) (.slice A cs.length c)).alloc _)
  have R1 := Lib.hid (show Two W1 (W.heap.size + 1) 27 (.int .i64 0) (.slice none 0 0) from by
    rw [← hW1]
    have := Two.new (W.alloc (.cells #[.int .i64 (m : Int), .slice A cs.length c] 27)) 27 (.int .i64 0) (.slice none 0 0)
    rwa [World.size_alloc] at this)
  have CB := Lib.hid (planBytes_ok a (m : Int) cs _ B W1 (hv.below (b0.mono hB)) (Nat.le_trans hB b0.size) (hE W1 (KeptS.of_below b0)) hr)
  have HK := Lib.hid H
  have B1 := Lib.hid b0
  have HE := Lib.hid hE
  have HBS := Lib.hid hbase
  have HVA := Lib.hid (And.intro hva hBv)
  have HNN := Lib.hid (And.intro hN (And.intro hn1 hn))
  have HB0 := Lib.hid hb
  have HLA := Lib.hid hlat
  have HLL := Lib.hid hl
  have HR := Lib.hid hr
  have hnil := nil_iface
  obtain ⟨_, p0, p1, _⟩ := P1.out.facts
  clear hv hcell hB hr hs hinv hm b0 H hP hE hbase hva hBv hN hb hlat hl
  go_enter Tryd.func10, Tryd.ntmps10
  go_wp2_with fail
  refine CB.out.mono ?_
  rintro e w2 ⟨u, rfl, hu, hb2⟩
  obtain ⟨g, cap, hu2⟩ := pown_form hu
  subst hu2
  have hBy : Bytes w2 w2.heap.size (.slice g (planB (m : Int) cs).length cap) (planB (m : Int) cs) := Row.of_own hu (Nat.le_refl _)
  have hconv : (convert 58 9 (.slice g (planB (m : Int) cs).length cap)).run Tryd.prog w2.drew = .ok (.string (text (planB (m : Int) cs))) w2.drew := conv_bytes (w := w2.drew) (B := w2.heap.size) (l := planB (m : Int) cs) hBy
  obtain ⟨tx, htx⟩ : ∃ tx, text (planB (m : Int) cs) = tx := ⟨_, rfl⟩
  rw [htx] at hconv HSD
  obtain ⟨bl, hbl⟩ : ∃ bl, (planB (m : Int) cs).length = bl := ⟨_, rfl⟩
  rw [hbl] at hconv ⊢
  have CN := Lib.hid (vnew_any w2.drew n HNN.out.2.1 HNN.out.2.2 (m : Int) b HB0.out tx)
  have B2 := Lib.hid (B1.out.trans (hb2.mono B1.out.size))
  have P2 := Lib.hid (P1.out.below hb2 P1.out.lt)
  have R2 := Lib.hid (R1.out.below hb2 R1.out.lt)
  have K2 := Lib.hid (HK.out.below B2.out)
  obtain ⟨_, p0, p1, _⟩ := P2.out.facts
  obtain ⟨_, c0, _, c2, _⟩ := K2.out.facts
  clear hu hb2 hBy hbl htx CB P1 R1
  go_wp2_with fail
  have HK2 := Lib.hid (fun (w' : World) (h : Below w2.heap.size w2 w') => (show w'.cell? ⟨W.heap.size, 0, none⟩ = some (.int .i64 (m : Int)) ∧ w'.cell? ⟨q, 0, none⟩ = some (.slice (some ⟨bv, 0, none⟩) n n) from ⟨(P2.out.below h P2.out.lt).facts.2.1, (K2.out.below h).facts.2.1⟩))
  have D2 := Lib.hid (HK2.out _ ((Below.refl w2.heap.size w2).drew))
  go_region_held (fun w' => w'.cell? ⟨W.heap.size, 0, none⟩ = some (.int .i64 (m : Int)) ∧ w'.cell? ⟨q, 0, none⟩ = some (.slice (some ⟨bv, 0, none⟩) n n))
    (first | exact D2.out | exact D3.out | assumption)
    (first
      | (go_at_call 23; (with_reducible refine CN.out.mono ?_); rintro e w3 ⟨pq, bp, ba, rfl, hp, hb3, hF⟩; have HB3 := Lib.hid (show Below w2.heap.size w2 w3 from ⟨hb3.os, hb3.tape, hb3.output, hb3.size, hb3.block⟩); have D3 := Lib.hid (HK2.out w3 HB3.out); have HP3 := Lib.hid hp; have HF3 := Lib.hid hF; clear hp hb3 hF))
  rename_i hh
  clear hh
  have A3 := Lib.hid (AskW.start K2.out hn (Nat.le_trans HBS.out B2.out.size) HB3.out HP3.out HF3.out)
  have B3 := Lib.hid (B2.out.trans (HB3.out.mono B2.out.size))
  have P3 := Lib.hid (P2.out.below HB3.out P2.out.lt)
  have R3 := Lib.hid (R2.out.below HB3.out R2.out.lt)
  have hl1 : wrap64 (lat + 1) = (m : Int) := by rw [HLA.out]; unfold wrap64; omega
  have hl2 : IntKind.i64.wrap (lat + 1) = (m : Int) := by rw [HLA.out]; simp [IntKind.wrap, IntKind.signed, IntKind.bits]; omega
  have hmm : ((m : Int) != (m : Int)) = false := by simp
  clear HP3 HB3 HF3 D2 D3 HK2 CN hconv p0 p1 c0 c2 K2 P2 R2 B2
  obtain ⟨_, p0, p1, _⟩ := P3.out.facts
  obtain ⟨_, c0, _, c2, _⟩ := A3.out.book.facts
  go_wp2_with fail
  go_quiet (fail)
  clear p0 p1 c0 c2 hl1 hl2 hmm
  generalize hw4 : w3.drewN _ = w4
  have hbq : Below w3.heap.size w3 w4 := by rw [← hw4]; exact ⟨rfl, rfl, rfl, Nat.le_refl _, fun _ _ => rfl⟩
  have A4 := Lib.hid (show AskW w4 w4 base _ q bv bk n N os up V lat P pq bp ba (newV n tx) from { A3.out.below hbq with since := KeptS.refl _ _ })
  have B4 := Lib.hid (B3.out.trans (hbq.mono B3.out.size))
  have P4 := Lib.hid (P3.out.below hbq P3.out.lt)
  have R4 := Lib.hid (R3.out.below hbq R3.out.lt)
  clear hbq hw4 A3 B3 P3 R3
  obtain ⟨_, p0, p1, _⟩ := P4.out.facts
  go_wp2_with fail
  have hva4 : Row w4.drew Bv va (int64s l) := Row.keep HVA.out.1 (below_cells (show Below _ W w4.drew from ⟨B4.out.os, B4.out.tape, B4.out.output, Nat.le_trans (Nat.le_refl _) B4.out.size, fun k hk => B4.out.block k (Nat.lt_of_lt_of_le hk HVA.out.2)⟩))
  have CRe := Lib.hid (breached_any (A4.out.book.drew) hva4 (Nat.le_trans HVA.out.2 B4.out.size) (by have := HLL.out; omega))
  have HK4 := Lib.hid (fun (w' : World) (h : KeptS base w4 w') => (show w'.cell? ⟨W.heap.size, 0, none⟩ = some (.int .i64 (m : Int)) from (show Two w' W.heap.size 27 _ _ from h.heap hard_plan P4.out).facts.2.1))
  have D4 := Lib.hid (HK4.out _ (KeptS.of_below ((Below.refl w4.heap.size w4).drew)))
  have hreach : ∀ k ∈ reachI n up l, k < n := reach_lt
  have HRN := Lib.hid hreach
  have HRL := Lib.hid (reach_len n up l)
  have hfm : fitsI (m : Int) := ⟨by omega, by omega⟩
  obtain ⟨ups, hups⟩ : ∃ ups, reachI n up l = ups := ⟨_, rfl⟩
  rw [hups] at CRe HRN HRL HSD
  have HS2 := Lib.hid (show askS (m : Int) b (V, newV n tx) ups = s from HSD.out)
  have HCA := Lib.hid (fun (w5 : World) (hb5 : Below w4.drew.heap.size w4.drew w5) (u : Value) (hO : Own w5 w4.drew.heap.size u (ups.map Int.ofNat)) => bask_any (A4.out.below (show Below w4.heap.size w4 w5 from ⟨hb5.os, hb5.tape, hb5.output, hb5.size, hb5.block⟩)) hn (Nat.le_trans HBS.out (Nat.le_trans B4.out.size hb5.size)) hO HRN.out (by have := HNN.out.1; have := HRL.out; omega) (m : Int) b hfm)
  rw [HS2.out] at HCA
  clear hva4 hreach hups HS2 hfm
  go_region_held3 (fun w' => w'.cell? ⟨W.heap.size, 0, none⟩ = some (.int .i64 (m : Int)))
    (first | exact D4.out | exact D5.out | exact D6.out | assumption)
    (first
      | (go_at_call 25; (with_reducible refine CRe.out.mono ?_); rintro e w5 ⟨u, rfl, hO, hb5⟩; have CA := Lib.hid (HCA.out w5 hb5 u hO); have S5 := Lib.hid (show KeptS base w4 w5 from KeptS.of_below ⟨hb5.os, hb5.tape, hb5.output, hb5.size, hb5.block⟩); have D5 := Lib.hid (HK4.out w5 S5.out); clear hO hb5)
      | (go_at_call 24; (with_reducible refine CA.out.mono ?_); rintro e w6 ⟨rfl, T6, os6, hA⟩; have A6 := Lib.hid hA; have D6 := Lib.hid (HK4.out w6 hA.since); clear hA))
  rename_i hh
  clear hh
  have CD := Lib.hid (pdecided_any A6.out.pro A6.out.ok)
  have P6 := Lib.hid (show Two w6 W.heap.size 27 _ _ from A6.out.since.heap hard_plan P4.out)
  have R6 := Lib.hid (show Two w6 (W.heap.size + 1) 27 _ _ from A6.out.since.heap hard_plan R4.out)
  have S6 := Lib.hid ((KeptS.of_below (base := base) B4.out).trans A6.out.since)
  have K6 := Lib.hid (A6.out.book.mono (show N + 4 * ups.length ≤ N + 4 * l.length by have := HRL.out; omega))
  obtain ⟨V6, p6⟩ := s
  dsimp only at CD K6 HINV
  obtain ⟨z, hz⟩ : ∃ z, decV p6 = z := ⟨_, rfl⟩
  have HZ := Lib.hid hz
  rw [hz] at CD HINV
  clear CA CRe HCA HK4 D4 D5 D6 S5 P4 R4 B4 A4 A6 p0 p1 hz HSD
  go_wp2_with fail
  refine CD.out.mono ?_
  rintro e w7 ⟨rfl, hb7⟩
  have K7 := Lib.hid (K6.out.below hb7)
  have P7 := Lib.hid (P6.out.below hb7 P6.out.lt)
  have R7 := Lib.hid (R6.out.below hb7 R6.out.lt)
  have S7 := Lib.hid (S6.out.trans (KeptS.of_below hb7))
  clear hb7 K6 P6 R6 S6 CD
  cases z with
  | false =>
    have hg := (HE.out w7 S7.out).var 11 (by omega)
    simp only [evars, List.getD_cons_zero, List.getD_cons_succ] at hg
    obtain ⟨r0, r1, r2, r3⟩ := R7.out.facts
    have ht : (if (false = true) then p6.text else (⟨#[]⟩ : ByteArray)) = ⟨#[]⟩ := rfl
    rw [ht]
    clear ht
    have hgd : 3 < W.heap.size := World.block_lt_of_cell? _ _ ((HE.out W (KeptS.refl _ _)).var 11 (by omega))
    have n1 : ¬ W.heap.size = 3 - 1 := by omega
    have n2 : ¬ 3 = W.heap.size + 1 := by omega
    have n3 : ¬ W.heap.size + 1 = 3 := by omega
    clear hgd
    go_wp2_with fail
    go_region
    go_wp2_with fail
    obtain ⟨_, e0, e1, _⟩ := (put2_two R7.out (.int .i64 0) (.slice none 0 0)).facts
    exact bodyPost_ret (v := .tuple #[planV 0 (.slice none 0 0), errAt (a 11)]) (by simp [results, Tryd.results10, go_sem, e0, e1]) rfl ⟨T6, os6, _, _, (K7.out.res R7.out (.int .i64 0) (.slice none 0 0)).drew, (S7.out.res (by omega) (.int .i64 0) (.slice none 0 0)).drew, .inl ⟨HZ.out, rfl, rfl, rfl⟩⟩
  | true =>
    obtain ⟨ds, hds, htx⟩ := HINV.out rfl
    obtain ⟨vb, w8, hcv, hBy, hb8⟩ := conv_str w7 (planB (m : Int) ds) (by have := plan_len hds; omega)
    have ht : (if (true = true) then p6.text else (⟨#[]⟩ : ByteArray)) = ⟨(planB (m : Int) ds).toArray⟩ := htx
    rw [ht]
    have HDS := Lib.hid hds
    have HTX := Lib.hid htx
    have S8 := Lib.hid (S7.out.trans (KeptS.of_below hb8))
    have CR := Lib.hid (planRead_ok a (m : Int) ds vb w8.heap.size w8 hBy (Nat.le_refl _) (HE.out w8 S8.out) hds)
    have K8 := Lib.hid (K7.out.below hb8)
    have R8 := Lib.hid (R7.out.below hb8 R7.out.lt)
    obtain ⟨txt, htxt⟩ : ∃ txt : ByteArray, (⟨(planB (m : Int) ds).toArray⟩ : ByteArray) = txt := ⟨_, rfl⟩
    rw [htxt] at hcv
    rw [htxt]
    clear hds htx hBy hb8 ht htxt K7 R7 P7
    go_wp2_with fail
    refine CR.out.mono ?_
    rintro e w9 ⟨v9, vs, rfl, hG9, hb9⟩
    obtain ⟨A9, c9, hv9⟩ := pown_form hG9.outer
    subst hv9
    have ba := (Below.refl w9.heap.size w9).alloc (Nat.le_refl _) (.cells #[.int .i64 (m : Int), .slice A9 ds.length c9] 27)
    obtain ⟨w10, hw10⟩ : ∃ w10, w9.alloc (.cells #[.int .i64 (m : Int), .slice A9 ds.length c9] 27) = w10 := ⟨_, rfl⟩
    rw [hw10] at ba
    have X10 := Lib.hid (show Two w10 w9.heap.size 27 (.int .i64 (m : Int)) (.slice A9 ds.length c9) from by rw [← hw10]; exact Two.new w9 27 _ _)
    have G10 := Lib.hid (hG9.below ba)
    have hbb := hb9.trans (ba.mono hb9.size)
    have K10 := Lib.hid (K8.out.below hbb)
    have R10 := Lib.hid (R8.out.below hbb R8.out.lt)
    have S10 := Lib.hid (S8.out.trans (KeptS.of_below hbb))
    have HZ9 := Lib.hid (show W.heap.size ≤ w8.heap.size from S8.out.size)
    have R8s := Lib.hid (show W.heap.size + 1 < w8.heap.size from R8.out.lt)
    have hr9 := right_parts HDS.out
    have hPL := HPL.out
    have hPM := HPM.out
    have CL := blearn_any K10.out (Nat.le_trans HBS.out S10.out.size) (by omega) G10.out.grid (Nat.le_refl _) (by omega) (fun c hc => by have := (hr9.2.2.2.2.1 c hc).2; omega)
    rw [hPL] at CL
    have CL := Lib.hid CL
    obtain ⟨x0, x1, x2, _⟩ := X10.out.facts
    clear hG9 hb9 ba hbb hr9 hPL hPM CR K8 R8 S8 hcv
    go_wp2_with fail
    refine CL.out.mono ?_
    rintro e w11 ⟨rfl, hK11, hs11⟩
    have K11 := Lib.hid hK11
    have S11 := Lib.hid (S10.out.trans hs11)
    have X11 := Lib.hid (show Two w11 w9.heap.size 27 _ _ from hs11.heap hard_plan X10.out)
    have R11 := Lib.hid (show Two w11 (W.heap.size + 1) 27 _ _ from hs11.heap hard_plan R10.out)
    have G11 := Lib.hid (G10.out.keptS hs11)
    obtain ⟨x0, x1, x2, _⟩ := X11.out.facts
    obtain ⟨r0, r1, r2, r3⟩ := R11.out.facts
    clear hK11 hs11 CL X10 R10 G10 K10 S10
    go_wp2_with fail
    obtain ⟨_, e0, e1, _⟩ := (put2_two R11.out (.int .i64 (m : Int)) (.slice A9 ds.length c9)).facts
    have hG := (G11.out.kept (put2_kept (Kept.refl (fun j => j = W.heap.size + 1) w11) (.inl rfl) (.int .i64 (m : Int)) (.slice A9 ds.length c9)) (fun k hk => by have := R8s.out; omega)).later (base' := W.heap.size) HZ9.out
    refine bodyPost_ret (v := .tuple #[planV (m : Int) (.slice A9 ds.length c9), .nilIface]) (by simp [results, Tryd.results10, go_sem, e0, e1]) rfl ⟨T6, os6, _, _, K11.out.res R11.out (.int .i64 (m : Int)) (.slice A9 ds.length c9), S11.out.res (by omega) (.int .i64 (m : Int)) (.slice A9 ds.length c9), .inr ⟨HZ.out, ds, _, vs, ?_, ?_, rfl, ?_, ?_, hG⟩⟩
    · rw [HPL.out]; exact HDS.out
    · rw [HPL.out]; exact HTX.out
    · rw [HPL.out]
    · rw [HPL.out]
end
end Go.Proofs.YtefcbofjndnpkaaDoor

/- Package book: Propose of what is wrong. -/
namespace Go.Proofs.YtefcbofjndnpkaaDoor
open Go Go.RowKit Tide

section
variable {W0 W W' W1 : World} {base q bv bk n N : Nat} {T : Nat → Nat} {os : Nat → Option Nat} {up : Nat → Bool} {V : BookV} {lat : Int} {P : List (List (List Int))} {a : Nat → Addr}
theorem err_iface (b : Addr) (w : World) : (binOp BinOp.neq 30 (errAt b) .nilIface).run Tryd.prog w = .ok (.bool true) w := by kernel_rfl
set_option maxRecDepth 100000 in
set_option maxHeartbeats 4000000 in
theorem bpropose_bad (H : BookW W base T q bv bk n N os up V lat P) (hn1 : 1 ≤ n) (hn : n ≤ 5) (hE : Errs W a) (ep : Int) {v : Value} {cs : List (List Int)} {B : Nat} (hv : Grid W B v cs) (hB : B ≤ W.heap.size) {b : Int} (va : Value) (hbad : rightB ep cs = false ∨ b < 0) :
    Calls Tryd.prog 10 #[.pointer (some ⟨q, 0, none⟩), .int .i64 b, planV ep v, va] W (PropBad a W) := by
  obtain ⟨hlen, A, c, rfl, hcell⟩ := hv.form
  obtain ⟨W1, hW1⟩ : ∃ W1, (W.alloc (.cells #[.int .i64 ep, .slice A cs.length c] 27)).alloc (.cells #[.int .i64 0, .slice none 0 0] 27) = W1 := ⟨_, rfl⟩
  have b0 : Below W.heap.size W W1 := by rw [← hW1]; exact ((Below.refl W.heap.size W).alloc (Nat.le_refl _) _).alloc (by simp) _
  have P1 := Lib.hid (show Two W1 W.heap.size 27 (.int .i64 ep) (.slice A cs.length c) from by rw [← hW1]; exact (Two.new W 27 (.int .i64 ep) (.slice A cs.length c)).alloc _)
  have R1 := Lib.hid (show Two W1 (W.heap.size + 1) 27 (.int .i64 0) (.slice none 0 0) from by
    rw [← hW1]
    have := Two.new (W.alloc (.cells #[.int .i64 ep, .slice A cs.length c] 27)) 27 (.int .i64 0) (.slice none 0 0)
    rwa [World.size_alloc] at this)
  have B1 := Lib.hid b0
  have HE := Lib.hid hE
  have hG1 := hv.below (b0.mono hB)
  have hB1 := Nat.le_trans hB b0.size
  have hE1 := hE.below b0
  have K1 := Lib.hid (H.below b0)
  have hnil := nil_iface
  have herr := err_iface
  obtain ⟨_, p0, p1, _⟩ := P1.out.facts
  cases hr : rightB ep cs with
  | false =>
    have CB := Lib.hid (planBytes_bad a ep cs _ B W1 hG1 hB1 hE1 hr)
    clear hbad hr hv hcell hB hE hG1 hB1 hE1 K1 H hnil b0
    go_enter Tryd.func10, Tryd.ntmps10
    go_wp2_with fail
    refine CB.out.mono ?_
    rintro e w2 ⟨rfl, hb2⟩
    have B2 := Lib.hid (B1.out.trans (hb2.mono B1.out.size))
    have R2 := Lib.hid (R1.out.below hb2 R1.out.lt)
    obtain ⟨r0, r1, r2, r3⟩ := R2.out.facts
    clear hb2 CB p0 p1 R1
    go_wp2_with fail
    obtain ⟨_, e0, e1, _⟩ := (put2_two R2.out (.int .i64 0) (.slice none 0 0)).facts
    exact bodyPost_ret (v := .tuple #[planV 0 (.slice none 0 0), errAt (a 3)]) (by simp [results, Tryd.results10, go_sem, e0, e1]) rfl ⟨rfl, put2_below B2.out (by omega) _ _⟩
  | true =>
    have hb0 : b < 0 := by
      rcases hbad with h | h
      · rw [hr] at h; cases h
      · exact h
    have CB := Lib.hid (planBytes_ok a ep cs _ B W1 hG1 hB1 hE1 hr)
    have HB0 := Lib.hid hb0
    clear hbad hr hv hcell hB hE hG1 hB1 hE1 H b0 hb0
    go_enter Tryd.func10, Tryd.ntmps10
    go_wp2_with fail
    refine CB.out.mono ?_
    rintro e w2 ⟨u, rfl, hu, hb2⟩
    obtain ⟨g, cap, hu2⟩ := pown_form hu
    subst hu2
    have hBy : Bytes w2 w2.heap.size (.slice g (planB ep cs).length cap) (planB ep cs) := Row.of_own hu (Nat.le_refl _)
    have hconv : (convert 58 9 (.slice g (planB ep cs).length cap)).run Tryd.prog w2.drew = .ok (.string (text (planB ep cs))) w2.drew := conv_bytes (w := w2.drew) (B := w2.heap.size) (l := planB ep cs) hBy
    generalize text (planB ep cs) = tx at *
    generalize (planB ep cs).length = bl at *
    have B2 := Lib.hid (B1.out.trans (hb2.mono B1.out.size))
    have CN := Lib.hid (vnew_form (W := w2.drew) (a := a) ((HE.out.below B2.out).below (show Below w2.heap.size w2 w2.drew from ⟨rfl, rfl, rfl, Nat.le_refl _, fun _ _ => rfl⟩)) (n : Int) ep b (by omega) (by omega) HB0.out tx)
    have P2 := Lib.hid (P1.out.below hb2 P1.out.lt)
    have R2 := Lib.hid (R1.out.below hb2 R1.out.lt)
    have K2 := Lib.hid (K1.out.below hb2)
    obtain ⟨_, p0, p1, _⟩ := P2.out.facts
    obtain ⟨_, c0, _, c2, _⟩ := K2.out.facts
    have HK2 := Lib.hid (fun (w' : World) (h : Below w2.heap.size w2 w') => (show w'.cell? ⟨W.heap.size, 0, none⟩ = some (.int .i64 ep) ∧ w'.cell? ⟨q, 0, none⟩ = some (.slice (some ⟨bv, 0, none⟩) n n) from ⟨(P2.out.below h P2.out.lt).facts.2.1, (K2.out.below h).facts.2.1⟩))
    have D2 := Lib.hid (HK2.out _ ((Below.refl w2.heap.size w2).drew))
    clear hu hb2 hBy CB P1 R1
    go_wp2_with fail
    go_region_held (fun w' => w'.cell? ⟨W.heap.size, 0, none⟩ = some (.int .i64 ep) ∧ w'.cell? ⟨q, 0, none⟩ = some (.slice (some ⟨bv, 0, none⟩) n n))
      (first | exact D2.out | exact D3.out | assumption)
      (first
        | (go_at_call 23; (with_reducible refine CN.out.mono ?_); rintro e w3 ⟨rfl, hb3⟩; have HB3 := Lib.hid (show Below w2.heap.size w2 w3 from ⟨hb3.os, hb3.tape, hb3.output, hb3.size, hb3.block⟩); have D3 := Lib.hid (HK2.out w3 HB3.out); clear hb3))
    rename_i hh
    clear hh
    have B3 := Lib.hid (B2.out.trans (HB3.out.mono B2.out.size))
    have R3 := Lib.hid (R2.out.below HB3.out R2.out.lt)
    clear HB3 D2 D3 HK2 CN hconv p0 p1 c0 c2 K2 P2 R2 B2
    obtain ⟨r0, r1, r2, r3⟩ := R3.out.facts
    go_wp2_with fail
    obtain ⟨_, e0, e1, _⟩ := (put2_two R3.out (.int .i64 0) (.slice none 0 0)).facts
    exact bodyPost_ret (v := .tuple #[planV 0 (.slice none 0 0), errAt (a 3)]) (by simp [results, Tryd.results10, go_sem, e0, e1]) rfl ⟨rfl, put2_below B3.out (by omega) _ _⟩
end
end Go.Proofs.YtefcbofjndnpkaaDoor

/- The laws of books: what of them is pure; alive. -/
namespace Go.Proofs.YtefcbofjndnpkaaDoor
open Go Go.RowKit Tide

/-- Two rows that are built: one number, and a row of it. -/
abbrev oneW (W : World) : World := (W.alloc (.cells #[.int .i64 0] 3)).alloc (.cells #[.slice (some ⟨W.heap.size, 0, none⟩) 1 1] 34)
theorem one_grid (W : World) : Grid (oneW W) (oneW W).heap.size (.slice (some ⟨W.heap.size + 1, 0, none⟩) 1 1) [[0]] ∧ Below W.heap.size W (oneW W) ∧ (oneW W).heap.size = W.heap.size + 2 := by
  have e1 : (W.alloc (.cells #[.int .i64 0] 3)).heap.size = W.heap.size + 1 := World.size_alloc _ _
  have e2 : (oneW W).heap.size = W.heap.size + 2 := by rw [World.size_alloc, e1]
  have h1 := Row.new W 3 #[.int .i64 0] (0, 0) W.heap.size 1 rfl rfl (by omega)
  have hb := (Below.refl (W.alloc (.cells #[.int .i64 0] 3)).heap.size (W.alloc (.cells #[.int .i64 0] 3))).alloc (Nat.le_refl _) (.cells #[.slice (some ⟨W.heap.size, 0, none⟩) 1 1] 34)
  have h2 := Row.new (W.alloc (.cells #[.int .i64 0] 3)) 34 #[.slice (some ⟨W.heap.size, 0, none⟩) 1 1] (0, 0) (W.heap.size + 1) 1 e1.symm rfl (by omega)
  refine ⟨⟨[.slice (some ⟨W.heap.size, 0, none⟩) 1 1], ?_, rfl, fun i u c hu hc => ?_⟩, ((Below.refl W.heap.size W).alloc (Nat.le_refl _) _).alloc (by omega) _, e2⟩
  · exact h2.more (by omega)
  · have hi : i = 0 := by
      have := (List.getElem?_eq_some_iff.1 hu).1
      simp at this; exact this
    subst hi
    simp only [List.getElem?_cons_zero, Option.some.injEq] at hu hc
    subst hu hc
    have h3 : Row (oneW W) (W.heap.size + 1) (.slice (some ⟨W.heap.size, 0, none⟩) 1 1) [.int .i64 0] := Row.keep h1 (below_cells (by rw [← e1]; exact hb))
    exact h3.more (by omega)
theorem right_one : rightB 0 [[0]] = true := by decide
theorem text_inj {l m : List UInt8} (h : text l = text m) : l = m := by
  unfold text at h
  injection h with h
  simpa using h
theorem upN_len (n : Nat) (up : Nat → Bool) : ((List.range n).filter up).length = upN n up := by
  unfold upN
  rw [List.countP_eq_length_filter]
section
variable {w W : World} {a : Nat → Addr}
/-- The errors, behind whatever a book does. -/
theorem errs_keptS {base : Nat} (hE : Errs w a) (hb : Below w.heap.size w W) (hbase : base = w.heap.size) : ∀ w', KeptS base W w' → Errs w' a := fun w' h => by
  subst hbase
  exact hE.below (hb.trans (h.below hb.size))
set_option maxRecDepth 100000 in
set_option maxHeartbeats 2000000 in
theorem balive_any (hE : Errs w a) : Calls Tryd.prog 5 #[] w fun e w' => e = .returned (.bool true) ∧ Below w.heap.size w w' := by
  obtain ⟨hG, hbG, hsG⟩ := one_grid w
  have CN := Lib.hid (bnew_any 3 (by omega) (by omega) [[0]] (.slice (some ⟨w.heap.size + 1, 0, none⟩) 1 1) _ (oneW w) hG (Nat.le_refl _) right_one)
  have HB := Lib.hid hbG
  have HE := Lib.hid hE
  have hnil := nil_iface
  clear hG hbG hsG hE
  go_enter Tryd.func5, Tryd.ntmps5
  go_wp2_with fail
  refine CN.out.mono ?_
  rintro e w1 ⟨q, bv, bk, rfl, hK, hb⟩
  have K1 := Lib.hid (hK.later (base := w.heap.size) HB.out.size)
  have B1 := Lib.hid (HB.out.trans (hb.mono HB.out.size))
  have CS := Lib.hid (bset_any K1.out 0 false)
  clear hK hb CN HB
  go_wp2_with fail
  refine CS.out.mono ?_
  rintro e w2 ⟨rfl, hK, hs⟩
  have K2 := Lib.hid hK
  have B2 := Lib.hid (B1.out.trans (hs.below B1.out.size))
  have CS2 := Lib.hid (bset_any K2.out 1 false)
  clear hK hs CS K1 B1
  go_wp2_with fail
  refine CS2.out.mono ?_
  rintro e w3 ⟨rfl, hK, hs⟩
  have K3 := Lib.hid hK
  have B3 := Lib.hid (B2.out.trans (hs.below B2.out.size))
  obtain ⟨hG, hbG, hsG⟩ := one_grid w3
  have hba := (Below.refl (oneW w3).heap.size (oneW w3)).alloc (Nat.le_refl _) (.cells #[.int .i64 0, .int .i64 1, .int .i64 2] 3)
  obtain ⟨w4, hw4⟩ : ∃ w4, (oneW w3).alloc (.cells #[.int .i64 0, .int .i64 1, .int .i64 2] 3) = w4 := ⟨_, rfl⟩
  have hrow : Row w4 w4.heap.size (.slice (some ⟨w3.heap.size + 2, 0, none⟩) 3 3) (int64s [0, 1, 2]) := by
    have h := Row.new (oneW w3) 3 #[.int .i64 0, .int .i64 1, .int .i64 2] (0, 0) (w3.heap.size + 2) 3 hsG.symm rfl (by omega)
    have hz := World.size_alloc (oneW w3) (.cells #[.int .i64 0, .int .i64 1, .int .i64 2] 3)
    rw [hw4] at h hz
    exact h.more (Nat.le_of_eq hz.symm)
  rw [hw4] at hba
  have hb4 := hbG.trans (hba.mono hbG.size)
  have K4 := Lib.hid (K3.out.below hb4)
  have B4 := Lib.hid (B3.out.trans (hb4.mono B3.out.size))
  have hfr := fresh_ask 3 (text (planB 1 [[0]])) 1 1 (by omega) [2] (by simp) (by simp) (fun _ _ => noneV) (fun _ _ => rfl)
  have hre : reachI 3 (setUpV 3 (setUpV 3 (upTo 3) 0 false) 1 false) [0, 1, 2] = [2] := by decide
  have hd : decV (askB 3 (text (planB 1 [[0]])) 1 1 (fun _ _ => noneV) (reachI 3 (setUpV 3 (setUpV 3 (upTo 3) 0 false) 1 false) [0, 1, 2])).2 = false := by rw [hre, hfr.2]; rfl
  have CP := bpropose_ok (P := [[[0]]]) (a := a) K4.out (by omega) (by omega) B4.out.size (by decide) (errs_keptS HE.out B4.out rfl) (hG.below (hba.mono (Nat.le_refl _))) hba.size (by decide) rfl (b := 1) (by omega) hrow (Nat.le_refl _) (by decide) (by decide) (fun h => by
    have h' : decV (askB 3 (text (planB 1 [[0]])) 1 1 (fun _ _ => noneV) (reachI 3 (setUpV 3 (setUpV 3 (upTo 3) 0 false) 1 false) [0, 1, 2])).2 = true := h
    rw [hd] at h'; cases h')
  have CP := Lib.hid (show Calls Tryd.prog 10 #[.pointer (some ⟨q, 0, none⟩), .int .i64 1, planV 1 (.slice (some ⟨w3.heap.size + 1, 0, none⟩) 1 1), .slice (some ⟨w3.heap.size + 2, 0, none⟩) 3 3] w4 _ from CP)
  have HD := Lib.hid hd
  clear hK hs CS2 K2 B2 hG hbG hsG hba hrow hb4 hfr hre hd
  go_wp2_with fail
  refine CP.out.mono ?_
  rintro e w5 ⟨T5, os5, P5, l5, hK, hs, hR⟩
  rcases hR with ⟨_, rfl, rfl, rfl⟩ | ⟨h, _⟩
  · have K5 := Lib.hid hK
    have B5 := Lib.hid (B4.out.trans (hs.below B4.out.size))
    have CM := Lib.hid (num_any a (errAt (a 11)) 12 w5 (HE.out.below B5.out) (isErr_at a 11 (by omega)))
    clear hK hs CP HD K3 K4 B3 B4 hw4
    go_wp2_with fail
    refine CM.out.mono ?_
    rintro e w6 ⟨rfl, hb6⟩
    have CU := bup_any (K5.out.below hb6) (by omega)
    rw [show upN 3 (setUpV 3 (setUpV 3 (upTo 3) 0 false) 1 false) = 1 by decide] at CU
    have CU := Lib.hid CU
    have B6 := Lib.hid (B5.out.trans (hb6.mono B5.out.size))
    clear hb6 CM K5 B5
    go_wp2_with fail
    refine CU.out.mono ?_
    rintro e w7 ⟨rfl, rfl⟩
    clear CU
    go_wp2_with fail
    go_ret
    exact ⟨rfl, B6.out⟩
  · exact absurd (show decV (askB 3 (text (planB 1 [[0]])) 1 1 (fun _ _ => noneV) (reachI 3 (setUpV 3 (setUpV 3 (upTo 3) 0 false) 1 false) [0, 1, 2])).2 = true from h) (by rw [HD.out]; decide)
end
end Go.Proofs.YtefcbofjndnpkaaDoor

/- The law of half the voters. -/
namespace Go.Proofs.YtefcbofjndnpkaaDoor
open Go Go.RowKit Tide

/-- Who is up behind all Sets. -/
def downs (n : Nat) (l : List Int) : Nat → Bool := l.foldl (fun up i => setUpV n up i false) (upTo n)
theorem downs_one (n : Nat) (l : List Int) (k : Nat) (h : k < l.length) : downs n (l.take (k + 1)) = setUpV n (downs n (l.take k)) l[k] false := by
  unfold downs
  rw [List.take_succ_eq_append_getElem h, List.foldl_append]; rfl
theorem reach_five (n : Nat) (h1 : 1 ≤ n) (h5 : n ≤ 5) (up : Nat → Bool) : reachI n up [0, 1, 2, 3, 4] = (List.range n).filter up := by
  rcases (show n = 1 ∨ n = 2 ∨ n = 3 ∨ n = 4 ∨ n = 5 by omega) with rfl | rfl | rfl | rfl | rfl
  all_goals
    unfold reachI hasB
    cases e0 : up 0 <;> cases e1 : up 1 <;> cases e2 : up 2 <;> cases e3 : up 3 <;> cases e4 : up 4 <;> simp [List.filter, List.range_succ, e0, e1, e2, e3, e4]
/-- How many voters there are. -/
theorem half_n (x : Int) : ∃ n5 n : Nat, 1 ≤ n ∧ n ≤ 5 ∧ Hid (wrap64 ((IntKind.u64.wrap x).tmod 5) = (n5 : Int) ∧ (IntKind.u64.wrap x).tmod 5 = (n5 : Int) ∧ IntKind.u64.wrap (n5 : Int) = (n5 : Int) ∧ wrap64 (1 + (n5 : Int)) = (n : Int) ∧ IntKind.i64.wrap (1 + (n5 : Int)) = (n : Int) ∧ wrap64 (n5 : Int) = (n5 : Int) ∧ (1 : Int) + (n5 : Int) = (n : Int) ∧ wrap64 (n : Int) = (n : Int) ∧ IntKind.i64.wrap (n : Int) = (n : Int)) := by
  obtain ⟨n5, hn5, hq1, hq2, hq3⟩ := umod_of x 5 (by omega) (by omega)
  have H := Lib.hid (And.intro hq1 (And.intro hq2 hq3))
  clear hq1 hq2 hq3
  obtain ⟨n, hn⟩ : ∃ n, n = 1 + n5 := ⟨_, rfl⟩
  refine ⟨n5, n, by omega, by omega, Lib.hid ⟨H.out.1, H.out.2.1, H.out.2.2, ?_, ?_, ?_, ?_, ?_, ?_⟩⟩
  · clear H; unfold wrap64; omega
  · clear H; simp [IntKind.wrap, IntKind.signed, IntKind.bits]; omega
  · clear H; unfold wrap64; omega
  · omega
  · clear H; unfold wrap64; omega
  · clear H; simp [IntKind.wrap, IntKind.signed, IntKind.bits]; omega
set_option maxRecDepth 100000 in
set_option maxHeartbeats 8000000 in
theorem bookHalf_law (a : Nat → Addr) (x : Int) (l : List Int) (cs : List (List Int)) (vd vc : Value) (w : World) (hvd : Row w w.heap.size vd (int64s l)) (hvc : Grid w w.heap.size vc cs) (hE : Errs w a) :
    Calls Tryd.prog 4 #[.int .i64 x, vd, vc] w fun e w' => e = .returned (.bool true) ∧ Below w.heap.size w w' := by
  obtain ⟨_, A, c, rfl, hcell⟩ := row_ints hvd
  obtain ⟨_, A2, c2, rfl, _⟩ := hvc.form
  obtain ⟨n5, n, hn1, hn5, HQ⟩ := half_n x
  have HN := Lib.hid (And.intro hn1 hn5)
  have HC := Lib.hid hcell
  have HE := Lib.hid hE
  have HVD := Lib.hid hvd
  have HVC := Lib.hid hvc
  have CA := Lib.hid (balive_any hE)
  have hnil := nil_iface
  clear hn5 hn1 hcell hE hvd hvc
  go_enter Tryd.func4, Tryd.ntmps4
  go_wp2_with fail
  refine CA.out.mono ?_
  rintro e w1 ⟨rfl, hb1⟩
  have ba := (Below.refl w1.heap.size w1).alloc (Nat.le_refl _) (.cells #[.int .i64 1, .slice A2 cs.length c2] 27)
  obtain ⟨w2, hw2⟩ : ∃ w2, w1.alloc (.cells #[.int .i64 1, .slice A2 cs.length c2] 27) = w2 := ⟨_, rfl⟩
  rw [hw2] at ba
  have P2 := Lib.hid (show Two w2 w1.heap.size 27 (.int .i64 1) (.slice A2 cs.length c2) from by rw [← hw2]; exact Two.new w1 27 _ _)
  have B2 := Lib.hid (hb1.trans (ba.mono hb1.size))
  have HL1 := Lib.hid hb1.size
  clear hb1 ba CA
  by_cases hlen : 20 < l.length
  · have q1 : decide ((20 : Int) < (l.length : Int)) = true := decide_eq_true (by omega)
    clear hlen
    obtain ⟨hq1, hq2, hq3, hw1, hw22, hw0, hw3, hw4, hw5⟩ := HQ.out
    go_wp2_with fail
    go_ret
    exact ⟨rfl, B2.out⟩
  have q1 : decide ((20 : Int) < (l.length : Int)) = false := decide_eq_false (by omega)
  have q1n : ¬ 20 < l.length := hlen
  by_cases hlen2 : 10 < cs.length
  · have q2 : decide ((10 : Int) < (cs.length : Int)) = true := decide_eq_true (by omega)
    clear hlen
    obtain ⟨hq1, hq2, hq3, hw1, hw22, hw0, hw3, hw4, hw5⟩ := HQ.out
    go_wp2_with fail
    go_ret
    exact ⟨rfl, B2.out⟩
  have q2 : decide ((10 : Int) < (cs.length : Int)) = false := decide_eq_false (by omega)
  have HLE := Lib.hid (And.intro hlen hlen2)
  have CR := Lib.hid (right_any 1 cs _ w.heap.size w2 (HVC.out.below B2.out) B2.out.size)
  obtain ⟨_, p0, p1, _⟩ := P2.out.facts
  cases hr : rightB 1 cs with
  | false =>
    rw [hr] at CR
    clear hr hlen
    obtain ⟨hq1, hq2, hq3, hw1, hw22, hw0, hw3, hw4, hw5⟩ := HQ.out
    go_wp2_with fail
    clear hq1 hq2 hq3 hw1 hw22 hw0 hw3 hw4 hw5
    refine CR.out.mono ?_
    rintro e w3 ⟨rfl, hb3⟩
    have B3 := Lib.hid (B2.out.trans (hb3.mono B2.out.size))
    clear hb3 CR
    go_wp2_with fail
    go_ret
    exact ⟨rfl, B3.out⟩
  | true =>
  rw [hr] at CR
  have HR := Lib.hid hr
  clear hr hlen
  obtain ⟨hq1, hq2, hq3, hw1, hw22, hw0, hw3, hw4, hw5⟩ := HQ.out
  go_wp2_with fail
  clear hq1 hq2 hq3 hw1 hw22 hw0 hw3 hw4 hw5
  refine CR.out.mono ?_
  rintro e w3 ⟨rfl, hb3⟩
  have B3 := Lib.hid (B2.out.trans (hb3.mono B2.out.size))
  have P3 := Lib.hid (P2.out.below hb3 P2.out.lt)
  obtain ⟨hG, hbG, hsG⟩ := one_grid w3
  have CN := Lib.hid (bnew_any n HN.out.1 HN.out.2 [[0]] (.slice (some ⟨w3.heap.size + 1, 0, none⟩) 1 1) _ (oneW w3) hG (Nat.le_refl _) right_one)
  have B4 := Lib.hid (B3.out.trans (hbG.mono B3.out.size))
  have P4 := Lib.hid (P3.out.below hbG P3.out.lt)
  clear hb3 CR p0 p1 P2 B2 hG hbG hsG hw2 P3
  go_wp2_with fail
  refine CN.out.mono ?_
  rintro e w5 ⟨q, bv, bk, rfl, hK, hb5⟩
  have K5 := Lib.hid (hK.later (base := w.heap.size) B4.out.size)
  have B5 := Lib.hid (B4.out.trans (hb5.mono B4.out.size))
  have P5 := Lib.hid (P4.out.below hb5 P4.out.lt)
  clear hK hb5 CN P4 B4 B3
  go_wp2_with fail
  go_loopw [48] (fun y wr => ∃ k : Nat, y = .int .i64 k ∧ k ≤ l.length ∧ Hid (BookW wr w.heap.size (fun _ => 0) q bv bk n 0 (fun _ => none) (downs n (l.take k)) (fun _ _ => noneV) 0 [[[0]]]) ∧ Hid (Two wr w1.heap.size 27 (.int .i64 1) (.slice A2 cs.length c2)) ∧ Hid (Below w.heap.size w wr)) (fun y _ => l.length - (intOf y).toNat)
  case atStart => exact ⟨0, rfl, Nat.zero_le _, Lib.hid (by rw [List.take_zero]; exact K5.out), P5, B5⟩
  case round =>
    clear K5 P5 B5
    obtain ⟨k, rfl, hk, hK, hP, hb⟩ := hrel
    by_cases hlt : k < l.length
    · have i1 : (k : Int) < (l.length : Int) := by omega
      obtain ⟨b, o, rfl, hbB, h0⟩ := HC.out k hlt
      have h1 := (hb.out.cell (p := ⟨b, o + k, none⟩) hbB).trans h0
      have hd := downs_one n l k hlt
      obtain ⟨i, hi⟩ : ∃ i, l[k] = i := ⟨_, rfl⟩
      rw [hi] at h1 hd
      have CS := bset_any hK.out i false
      rw [← hd] at CS
      have CS := Lib.hid CS
      have HPt := Lib.hid (fun (w' : World) (h : KeptS w.heap.size wr w') => (show Two w' w1.heap.size 27 (.int .i64 1) (.slice A2 cs.length c2) from h.heap hard_plan hP.out))
      clear h0 hd hi
      go_wp2_with fail
      refine CS.out.mono ?_
      rintro e w6 ⟨rfl, hK6, hs6⟩
      have K6 := Lib.hid hK6
      have P6 := Lib.hid (HPt.out w6 hs6)
      have B6 := Lib.hid (hb.out.trans (hs6.below hb.out.size))
      clear hK6 hs6 CS HPt
      go_wp2_with fail
      go_roundw
      case rel => exact ⟨k + 1, by go_num, by omega, K6, P6, B6⟩
      case measure => simp [intOf]; omega
    · have K6 := hK.out
      rw [List.take_of_length_le (by omega)] at K6
      obtain ⟨up, hup⟩ : ∃ up, downs n l = up := ⟨_, rfl⟩
      rw [hup] at K6
      have ba := (Below.refl wr.heap.size wr).alloc (Nat.le_refl _) (.cells #[.int .i64 0, .int .i64 1, .int .i64 2, .int .i64 3, .int .i64 4] 3)
      obtain ⟨w6, hw6⟩ : ∃ w6, wr.alloc (.cells #[.int .i64 0, .int .i64 1, .int .i64 2, .int .i64 3, .int .i64 4] 3) = w6 := ⟨_, rfl⟩
      have hrow : Row w6 w6.heap.size (.slice (some ⟨wr.heap.size, 0, none⟩) 5 5) (int64s [0, 1, 2, 3, 4]) := by
        have h := Row.new wr 3 #[.int .i64 0, .int .i64 1, .int .i64 2, .int .i64 3, .int .i64 4] (0, 0) wr.heap.size 5 rfl rfl (by omega)
        have hz := World.size_alloc wr (.cells #[.int .i64 0, .int .i64 1, .int .i64 2, .int .i64 3, .int .i64 4] 3)
        rw [hw6] at h hz
        exact h.more (Nat.le_of_eq hz.symm)
      rw [hw6] at ba
      have KK := Lib.hid (K6.below ba)
      have BB := Lib.hid (hb.out.trans (ba.mono hb.out.size))
      have PP := Lib.hid (hP.out.below ba hP.out.lt)
      have hre := reach_five n HN.out.1 HN.out.2 up
      have hfr := fresh_ask n (text (planB 1 cs)) 1 0 (by omega) ((List.range n).filter up) (List.nodup_range.filter _) (fun k hk => List.mem_range.1 (List.mem_filter.1 hk).1) (fun _ _ => noneV) (fun _ _ => rfl)
      rw [upN_len] at hfr
      have HRE := Lib.hid (show (askB n (text (planB 1 cs)) 1 0 (fun _ _ => noneV) (reachI n up [0, 1, 2, 3, 4])).2.text = text (planB 1 cs) ∧ decV (askB n (text (planB 1 cs)) 1 0 (fun _ _ => noneV) (reachI n up [0, 1, 2, 3, 4])).2 = decide (n < 2 * upN n up) from by rw [hre]; exact hfr)
      have CP := bpropose_ok (P := [[[0]]]) (a := a) KK.out HN.out.1 HN.out.2 BB.out.size (by decide) (errs_keptS HE.out BB.out rfl) (HVC.out.below BB.out) BB.out.size HR.out rfl (b := 0) (by omega) hrow (Nat.le_refl _) (by decide) (by decide) (fun _ => ⟨cs, HR.out, HRE.out.1⟩)
      have CP := Lib.hid (show Calls Tryd.prog 10 #[.pointer (some ⟨q, 0, none⟩), .int .i64 0, planV 1 (.slice A2 cs.length c2), .slice (some ⟨wr.heap.size, 0, none⟩) 5 5] w6 _ from CP)
      obtain ⟨_, p0, p1, _⟩ := hP.out.facts
      have HUN := Lib.hid (upN_le n up)
      clear K6 hup ba hrow hre hfr hK hP hb hk
      go_wp2_with fail
      refine CP.out.mono ?_
      rintro e w7 ⟨T7, os7, P7, l7, hK7, hs7, hR7⟩
      have P8 := Lib.hid (show Two w7 w1.heap.size 27 (.int .i64 1) (.slice A2 cs.length c2) from hs7.heap hard_plan PP.out)
      have B7 := Lib.hid (BB.out.trans (hs7.below BB.out.size))
      rcases hR7 with ⟨hd, rfl, rfl, rfl⟩ | ⟨hd, ds, v', vs, hds, htx, rfl, rfl, rfl, hG7⟩
      · have hle : 2 * upN n up ≤ n := by
          have h := HRE.out.2.symm.trans hd
          simp at h
          omega
        have K8 := Lib.hid (hK7.below ((Below.refl w7.heap.size w7).alloc (Nat.le_refl _) (.cells #[.int .i64 0, .slice none 0 0] 27)))
        have B8 := Lib.hid (B7.out.alloc B7.out.size (.cells #[.int .i64 0, .slice none 0 0] 27))
        have CU := Lib.hid (bup_any K8.out HN.out.2)
        have CK := Lib.hid (bknown_any K8.out)
        have herr := err_iface
        obtain ⟨m, hm⟩ : ∃ m, upN n up = m := ⟨_, rfl⟩
        rw [hm] at CU hle HUN
        have hm5 : m ≤ 5 := Nat.le_trans HUN.out HN.out.2
        have e2 : wrap64 (2 * (m : Int)) = 2 * (m : Int) := by unfold wrap64; omega
        have e3 : IntKind.i64.wrap (2 * (m : Int)) = 2 * (m : Int) := by simp [IntKind.wrap, IntKind.signed, IntKind.bits]; omega
        have e4 : decide (2 * (m : Int) ≤ (n : Int)) = true := decide_eq_true (by omega)
        have HLE2 := Lib.hid hle
        clear hm hle hd hK7 hs7 CP HRE hm5 KK PP P8 BB
        go_wp2_with fail
        refine CU.out.mono ?_
        rintro e w9 ⟨rfl, rfl⟩
        clear CU
        go_wp2_with fail
        refine CK.out.mono ?_
        rintro e w9 ⟨rfl, rfl⟩
        clear CK
        go_wp2_with fail
        go_ret
        exact ⟨rfl, B8.out⟩
      · have hgt : n < 2 * upN n up := by
          have h := HRE.out.2.symm.trans hd
          simpa using h
        obtain rfl : ds = cs := (plan_inj hds HR.out (text_inj (htx.symm.trans HRE.out.1))).2
        have hK7 := show BookW w7 w.heap.size T7 q bv bk n (0 + 4 * [(0 : Int), 1, 2, 3, 4].length) os7 up (askB n (text (planB 1 ds)) 1 0 (fun _ _ => noneV) (reachI n up [0, 1, 2, 3, 4])).1 ((1 : Nat) : Int) [[[0]], ds] from hK7
        obtain ⟨A7, c7, hv7⟩ := pown_form hG7.outer
        subst hv7
        have ba := (Below.refl w7.heap.size w7).alloc (Nat.le_refl _) (.cells #[.int .i64 1, .slice A7 ds.length c7] 27)
        obtain ⟨w8, hw8⟩ : ∃ w8, w7.alloc (.cells #[.int .i64 1, .slice A7 ds.length c7] 27) = w8 := ⟨_, rfl⟩
        rw [hw8] at ba
        have X8 := Lib.hid (show Two w8 w7.heap.size 27 (.int .i64 1) (.slice A7 ds.length c7) from by rw [← hw8]; exact Two.new w7 27 _ _)
        have K8 := Lib.hid (hK7.below ba)
        have B8 := Lib.hid (B7.out.trans (ba.mono B7.out.size))
        have Y8 := Lib.hid (P8.out.below ba P8.out.lt)
        have G8 := Lib.hid (hG7.below ba)
        have CU := Lib.hid (bup_any K8.out HN.out.2)
        obtain ⟨m, hm⟩ : ∃ m, upN n up = m := ⟨_, rfl⟩
        rw [hm] at CU hgt HUN
        have hm5 : m ≤ 5 := Nat.le_trans HUN.out HN.out.2
        have e2 : wrap64 (2 * (m : Int)) = 2 * (m : Int) := by unfold wrap64; omega
        have e3 : IntKind.i64.wrap (2 * (m : Int)) = 2 * (m : Int) := by simp [IntKind.wrap, IntKind.signed, IntKind.bits]; omega
        have e4 : decide (2 * (m : Int) ≤ (n : Int)) = false := decide_eq_false (by omega)
        have HGT := Lib.hid hgt
        have hrt : (rightB 1 ds && (decide ((1 : Int) = 1) && decide (ds = ds))) = true := by rw [HR.out]; simp
        have HRT := Lib.hid hrt
        have hr9 := right_parts HR.out
        have hen : (binOp BinOp.eql 30 .nilIface .nilIface).run Tryd.prog w8.drew = .ok (.bool true) w8.drew := by kernel_rfl
        have CS1 := Lib.hid (fun (W : World) (h : Below w8.heap.size w8 W) => by
          have h' := psame_any 1 1 ds ds (.slice A7 ds.length c7) (.slice A2 ds.length c2) w8.heap.size w.heap.size W ((G8.out.grid).below h) (HVC.out.below (B8.out.trans (h.mono B8.out.size))) h.size (Nat.le_trans B8.out.size h.size)
          rw [hrt] at h'
          exact h')
        have CLa := Lib.hid (fun (W : World) (h : Below w8.heap.size w8 W) => blatest_any 1 (K8.out.below h) (by simp) (by simp) (show ([[[0]], ds] : List (List (List Int)))[1].length ≤ 1000 from by show ds.length ≤ 1000; omega) (show ∀ c ∈ ([[[0]], ds] : List (List (List Int)))[1], c.length ≤ 1000 from fun c hc => by have := (hr9.2.2.2.2.1 c hc).2; omega))
        have CS2 := Lib.hid (fun (W0 : World) (h0 : Below w8.heap.size w8 W0) (W : World) (v' : Value) (vs : List Value) (hG : GridO W W0.heap.size v' vs ds) (h : Below W0.heap.size W0 W) => by
          have h' := psame_any 1 1 ds ds v' (.slice A2 ds.length c2) W.heap.size w.heap.size W hG.grid (HVC.out.below ((B8.out.trans (h0.mono B8.out.size)).trans (h.mono (Nat.le_trans B8.out.size h0.size)))) (Nat.le_refl _) (Nat.le_trans (Nat.le_trans B8.out.size h0.size) h.size)
          rw [hrt] at h'
          exact h')
        have CK := Lib.hid (fun (W : World) (h : Below w8.heap.size w8 W) => bknown_any (K8.out.below h))
        clear hm hgt hd hK7 hs7 CP HRE hm5 KK PP P8 BB hG7 ba hrt hr9 hds htx B7
        go_wp2_with fail
        refine CU.out.mono ?_
        rintro e w9 ⟨rfl, rfl⟩
        clear CU
        have HK8 := Lib.hid (fun (W : World) (h : Below w9.heap.size w9 W) => (show W.cell? ⟨w7.heap.size, 0, none⟩ = some (.int .i64 1) ∧ W.cell? ⟨w7.heap.size, 1, none⟩ = some (.slice A7 ds.length c7) ∧ W.cell? ⟨w1.heap.size, 0, none⟩ = some (.int .i64 1) ∧ W.cell? ⟨w1.heap.size, 1, none⟩ = some (.slice A2 ds.length c2) from
          ⟨(X8.out.below h X8.out.lt).facts.2.1, (X8.out.below h X8.out.lt).facts.2.2.1, (Y8.out.below h Y8.out.lt).facts.2.1, (Y8.out.below h Y8.out.lt).facts.2.2.1⟩))
        go_wp2_with fail
        have U8 := Lib.hid ((Below.refl w9.heap.size w9).drew)
        have D8 := Lib.hid (HK8.out _ U8.out)
        go_region_held3 (fun W => W.cell? ⟨w7.heap.size, 0, none⟩ = some (.int .i64 1) ∧ W.cell? ⟨w7.heap.size, 1, none⟩ = some (.slice A7 ds.length c7) ∧ W.cell? ⟨w1.heap.size, 0, none⟩ = some (.int .i64 1) ∧ W.cell? ⟨w1.heap.size, 1, none⟩ = some (.slice A2 ds.length c2))
          (first | exact D8.out | exact D10.out | exact D11.out | exact D12.out | exact D13.out | assumption)
          (first
            | (go_at_call 11; (with_reducible refine (CS1.out _ U8.out).mono ?_); rintro e w10 ⟨rfl, hb⟩; have U10 := Lib.hid (U8.out.trans (hb.mono U8.out.size)); have D10 := Lib.hid (HK8.out _ U10.out); clear hb CS1)
            | (go_at_call 8; (with_reducible refine (CLa.out _ U10.out).mono ?_); rintro e w11 ⟨v11, vs11, rfl, hG, hb⟩; have CS3 := Lib.hid (CS2.out _ U10.out w11 v11 vs11 hG hb); have U11 := Lib.hid (U10.out.trans (hb.mono U10.out.size)); have D11 := Lib.hid (HK8.out _ U11.out); clear hb hG)
            | (go_at_call 11; (with_reducible refine CS3.out.mono ?_); rintro e w12 ⟨rfl, hb⟩; have U12 := Lib.hid (U11.out.trans (hb.mono U11.out.size)); have D12 := Lib.hid (HK8.out _ U12.out); clear hb)
            | (go_at_call 15; (with_reducible refine (CK.out _ U12.out).mono ?_); rintro e w13 ⟨rfl, rfl⟩; have D13 := Lib.hid (HK8.out _ U12.out)))
        rename_i hh
        clear hh
        go_wp2_with fail
        go_ret
        exact ⟨rfl, B8.out.trans (U12.out.mono B8.out.size)⟩
end Go.Proofs.YtefcbofjndnpkaaDoor
