/- Package book: ask. -/
import Derived.Test.YtefcbofjndnpkaaDoorGBoF
import Derived.Test.YtefcbofjndnpkaaDoorGVtR
namespace Go.Proofs.YtefcbofjndnpkaaDoor
open Go Go.RowKit Tide

/-- A book, and who proposes beside it. -/
structure AskW (W0 W : World) (base : Nat) (T : Nat → Nat) (q bv bk n N : Nat) (os : Nat → Option Nat) (up : Nat → Bool) (V : BookV) (lat : Int) (P : List (List (List Int))) (pq bp ba : Nat) (p : PropV) : Prop where
  book : BookW W base T q bv bk n N os up V lat P
  pro : ProW W pq bp ba N p
  ok : OkPr p
  tag : T bp = 100 ∧ T ba = 101
  low : base ≤ pq ∧ base ≤ bp ∧ base ≤ ba
  since : KeptS base W0 W
section
variable {W0 W W' : World} {base q bv bk n N : Nat} {T : Nat → Nat} {os : Nat → Option Nat} {up : Nat → Bool} {V : BookV} {lat : Int} {P : List (List (List Int))} {pq bp ba : Nat} {p : PropV}
theorem AskW.mono (h : AskW W0 W base T q bv bk n N os up V lat P pq bp ba p) {M : Nat} (hM : N ≤ M) : AskW W0 W base T q bv bk n M os up V lat P pq bp ba p :=
  { h with book := h.book.mono hM, pro := h.pro.mono hM }
theorem AskW.below (h : AskW W0 W base T q bv bk n N os up V lat P pq bp ba p) (hb : Below W.heap.size W W') : AskW W0 W' base T q bv bk n N os up V lat P pq bp ba p :=
  { h with book := h.book.below hb, pro := h.pro.below hb, since := h.since.trans (KeptS.of_below hb) }
theorem imap_obj {α : Type} {K : ElemK α} {b m : Nat} {g : Int → Option α} (h : IMap K W b m g) : ∃ es cl, W.heap[b]? = some (.map es cl) := by
  obtain ⟨D, ⟨es, cl, h4, _⟩, _⟩ := h
  exact ⟨es, cl, h4⟩
theorem cells_map {k : Nat} {cs : Array Value} {t : TypeId} {m : Nat × Nat} {es : Array _} {cl : Nat} (h : W.heap[k]? = some (.cells cs t m)) (h' : W.heap[k]? = some (.map es cl)) : False := by rw [h] at h'; cases h'
theorem cells_two {k : Nat} {cs cs' : Array Value} {t t' : TypeId} {m m' : Nat × Nat} (h : W.heap[k]? = some (.cells cs t m)) (h' : W.heap[k]? = some (.cells cs' t' m')) (hne : t ≠ t') : False := by
  rw [h] at h'
  injection h' with h'
  injection h' with _ h' _
  exact hne h'
/-- A call of a voter. -/
theorem AskW.vote (h : AskW W0 W base T q bv bk n N os up V lat P pq bp ba p) (hn : n ≤ 5) (hbase : base ≤ W.heap.size) {i : Nat} (hi : i < n) {x : Int → HeldV} (hv : VotC W bv (i * 2) (voteC n os up) 75 (os i) (N + 1) x W') :
    ∃ T' os', AskW W0 W' base T' q bv bk n (N + 1) os' up (fun j => if j = i then x else V j) lat P pq bp ba p := by
  obtain ⟨T', os', h1, h2, h3, h4, h5⟩ := h.book.vote hi hbase hv
  have hF : ∀ k, FPro pq bp ba k → ¬ (k = bv ∨ os i = some k) := fun k hk e => by
    rcases e with e | e
    · subst e
      rcases hk with e | e | e
      · subst e; exact cells_two h.pro.cells h.book.row (by decide)
      · subst e; obtain ⟨es, cl, ho⟩ := imap_obj h.pro.prom; exact cells_map h.book.row ho
      · subst e; obtain ⟨es, cl, ho⟩ := imap_obj h.pro.acc; exact cells_map h.book.row ho
    · have ht := h.book.tags i k hi e
      obtain ⟨es, cl, ho, _⟩ := (h.book.maps i hi).obj e
      rcases hk with e | e | e
      · subst e; exact cells_map h.pro.cells ho
      · rw [e, h.tag.1] at ht; omega
      · rw [e, h.tag.2] at ht; omega
  exact ⟨T', os', h1, (h.pro.kept h4 hF).mono (Nat.le_succ N), h.ok, ⟨by rw [h3 _ h.pro.prom.lt]; exact h.tag.1, by rw [h3 _ h.pro.acc.lt]; exact h.tag.2⟩, h.low, h.since.trans h2⟩
/-- A call of who proposes. -/
theorem AskW.propose (h : AskW W0 W base T q bv bk n N os up V lat P pq bp ba p) (hn : n ≤ 5) {p' : PropV} (hp : ProB W pq bp ba (N + 1) p' W') (ho : OkPr p') : AskW W0 W' base T q bv bk n (N + 1) os up V lat P pq bp ba p' := by
  obtain ⟨h1, h2⟩ := hp
  have hm1 := imap_obj h.pro.prom
  have hm2 := imap_obj h.pro.acc
  have hcell : ∀ {k : Nat} {cs : Array Value} {t : TypeId} {m : Nat × Nat}, W.heap[k]? = some (.cells cs t m) → 88 ≠ t → ¬ FPro pq bp ba k := fun {k cs t m} hc ht hk => by
    rcases hk with e | e | e
    · subst e; exact cells_two h.pro.cells hc ht
    · subst e; obtain ⟨es, cl, ho⟩ := hm1; exact cells_map hc ho
    · subst e; obtain ⟨es, cl, ho⟩ := hm2; exact cells_map hc ho
  have hmap : ∀ {k : Nat} {es : Array _} {cl : Nat}, W.heap[k]? = some (.map es cl) → T k < 100 → ¬ FPro pq bp ba k := fun {k es cl} hc ht hk => by
    rcases hk with e | e | e
    · subst e; exact cells_map h.pro.cells hc
    · rw [e, h.tag.1] at ht; omega
    · rw [e, h.tag.2] at ht; omega
  have hsoft : ∀ k, FPro pq bp ba k → k < W.heap.size → base ≤ k ∧ Soft W k := fun k hk _ => by
    rcases hk with e | e | e
    · subst e; exact ⟨h.low.1, soft_cells h.pro.cells (.inr (.inr rfl))⟩
    · subst e; obtain ⟨es, cl, ho⟩ := hm1; exact ⟨h.low.2.1, soft_map ho⟩
    · subst e; obtain ⟨es, cl, ho⟩ := hm2; exact ⟨h.low.2.2, soft_map ho⟩
  refine ⟨(h.book.kept h2 (hcell h.book.cell (by decide)) (hcell h.book.row (by decide)) ?_ (fun i b hi e => ?_) (fun k cur hc => ?_)).mono (Nat.le_succ N), h1, ho, h.tag, h.low, h.since.trans (KeptS.of_kept h2 hsoft)⟩
  · obtain ⟨es, cl, ho, _⟩ := h.book.known.obj
    exact hmap ho (by rw [h.book.tagk]; omega)
  · obtain ⟨es, cl, ho, _⟩ := (h.book.maps i hi).obj e
    exact hmap ho (by rw [h.book.tags i b hi e]; omega)
  · rcases hc with hc | hc
    · exact hcell hc (by decide)
    · exact hcell hc (by decide)
theorem setB_eq (V : BookV) (k : Nat) (e : Int) (x : HeldV) : (fun j => if j = k then updI (V k) e x else V j) = setB V k e x := by
  funext j m
  unfold setB updI
  by_cases hj : j = k
  · subst hj
    by_cases hm : m = e
    · subst hm; simp
    · simp [hm]
  · simp [hj]
/-- What all that are asked make. -/
def askS (e b : Int) (s : BookV × PropV) (ups : List Nat) : BookV × PropV := if asksV (ups.foldl (prepB e b) s).2 then ups.foldl (accB e b) (ups.foldl (prepB e b) s) else ups.foldl (prepB e b) s
theorem fold_one {α : Type} (f : α → Nat → α) (s : α) (l : List Nat) (k : Nat) (h : k < l.length) : (l.take (k + 1)).foldl f s = f ((l.take k).foldl f s) l[k] := by
  rw [List.take_succ_eq_append_getElem h, List.foldl_append]; rfl
theorem nats_cell {A : Option Addr} {m c : Nat} {l : List Nat} {base : Nat} (h : Own W base (.slice A m c) (l.map Int.ofNat)) (k : Nat) (hk : k < l.length) : ∃ b, A = some ⟨b, 0, none⟩ ∧ W.cell? ⟨b, k, none⟩ = some (.int .i64 (l[k] : Int)) := by
  rcases h.2 with ⟨h1, h2⟩ | ⟨g, cap, cur, h1, _⟩
  · rw [List.length_map] at h2; omega
  · injection h1 with e1 e2 e3
    subst e1 e2 e3
    refine ⟨g, rfl, ownV_cell h k _ ?_⟩
    simp [int64s, hk]
set_option maxRecDepth 100000 in
set_option maxHeartbeats 2000000 in
theorem bask_any (h : AskW W0 W base T q bv bk n N os up V lat P pq bp ba p) (hn : n ≤ 5) (hbase : base ≤ W.heap.size) {v : Value} {ups : List Nat} {b0 : Nat} (hv : Own W b0 v (ups.map Int.ofNat)) (hu : ∀ k ∈ ups, k < n) (hN : N + 4 * ups.length ≤ 1000000) (e b : Int) (he : fitsI e) :
    Calls Tryd.prog 24 #[.pointer (some ⟨q, 0, none⟩), .pointer (some ⟨pq, 0, none⟩), .int .i64 e, .int .i64 b, v] W fun en w' => en = .returned (.tuple #[]) ∧ ∃ T' os', AskW W0 w' base T' q bv bk n (N + 4 * ups.length) os' up (askS e b (V, p) ups).1 lat P pq bp ba (askS e b (V, p) ups).2 := by
  obtain ⟨m, A, c, rfl, hm⟩ := own_sl hv
  rw [List.length_map] at hm
  have HV := Lib.hid hv
  have HA := Lib.hid h
  have HBS := Lib.hid hbase
  have HUP := Lib.hid hu
  have HNN := Lib.hid hN
  have HFE := Lib.hid he
  have HM := Lib.hid hm
  have HSN := Lib.hid h.since
  have hml : m ≤ 1000000 := by omega
  clear hv hbase hu hN he hm h
  go_enter Tryd.func24, Tryd.ntmps24
  go_wp2_with fail
  go_loopw [18] (fun x wr => ∃ (k : Nat) (T : Nat → Nat) (os : Nat → Option Nat) (s : BookV × PropV), x = .int .i64 k ∧ k ≤ m ∧ Hid (s = (ups.take k).foldl (prepB e b) (V, p)) ∧ Hid (AskW W wr base T q bv bk n (N + 2 * k) os up s.1 lat P pq bp ba s.2)) (fun x _ => m - (intOf x).toNat)
  case atStart => exact ⟨0, T, os, (V, p), rfl, Nat.zero_le _, Lib.hid rfl, Lib.hid { HA.out with since := KeptS.refl _ _ }⟩
  case round =>
    clear HA
    obtain ⟨k, T1, os1, s, rfl, hk, hS, hA⟩ := hrel
    by_cases hlt : k < m
    · have hltl : k < ups.length := by have := HM.out; omega
      have i1 : (k : Int) < (m : Int) := by omega
      have hown := hA.out.since.own hard_int HV.out
      obtain ⟨g, rfl, hc⟩ := nats_cell hown k hltl
      have hj := HUP.out _ (List.getElem_mem hltl)
      have HF := Lib.hid (fold_one (prepB e b) (V, p) ups k hltl)
      rw [← hS.out] at HF
      obtain ⟨j, hje⟩ : ∃ j, ups[k] = j := ⟨_, rfl⟩
      rw [hje] at hc hj HF
      have i2 : (j : Int) < (n : Int) := by omega
      obtain ⟨V1, p1⟩ := s
      have HAA := Lib.hid (show AskW W wr base T1 q bv bk n (N + 2 * k) os1 up V1 lat P pq bp ba p1 from hA.out)
      have hbs := Nat.le_trans HBS.out hA.out.since.size
      have CP := Lib.hid (aprepare_any (HAA.out.book.voter hj) (by have := HNN.out; have := HM.out; omega) e b HFE.out)
      have HST := Lib.hid (fun (w2 : World) (hv : VotC wr bv (j * 2) (voteC n os1 up) 75 (os1 j) (N + 2 * k + 1) (updI (V1 j) e (prepV (V1 j e) b)) w2) => HAA.out.vote hn hbs hj hv)
      obtain ⟨_, c0, _, _, _⟩ := HAA.out.book.facts
      obtain ⟨y, hy⟩ : ∃ y, prepYes (V1 j e) b = y := ⟨_, rfl⟩
      obtain ⟨acc, hacc⟩ : ∃ x, (V1 j e).accepted = x := ⟨_, rfl⟩
      obtain ⟨tx, htx⟩ : ∃ x, (V1 j e).text = x := ⟨_, rfl⟩
      have HE := Lib.hid (show prepB e b (V1, p1) j = (setB V1 j e (prepV (V1 j e) b), promV p1 j y acc tx) from by rw [← hy, ← hacc, ← htx]; rfl)
      rw [hy, hacc, htx] at CP
      clear hA hS hown hj hbs hje hy hacc htx
      go_wp2_with fail
      refine CP.out.mono ?_
      rintro en w2 ⟨rfl, hv2⟩
      obtain ⟨T2, os2, h2⟩ := HST.out w2 hv2
      rw [setB_eq] at h2
      have CQ := Lib.hid (ppromise_any h2.pro h2.ok (by have := HNN.out; have := HM.out; omega) (j : Int) ⟨by omega, by omega⟩ y acc tx)
      have H2 := Lib.hid h2
      clear h2 hv2 HST CP c0 hc
      go_wp2_with fail
      refine CQ.out.mono ?_
      rintro en w3 ⟨rfl, hp3⟩
      have H3 := Lib.hid ((H2.out.propose hn hp3 (H2.out.ok.promise (j : Int) y acc tx)).mono (show N + 2 * k + 1 + 1 ≤ N + 2 * (k + 1) by omega))
      have HS3 := Lib.hid (show (setB V1 j e (prepV (V1 j e) b), promV p1 j y acc tx) = (ups.take (k + 1)).foldl (prepB e b) (V, p) from by rw [HF.out, HE.out])
      clear hp3 CQ
      go_wp2_with fail
      go_roundw
      case rel => exact ⟨k + 1, T2, os2, _, by go_num, by omega, HS3, H3⟩
      case measure => simp [intOf]; omega
    · have hkm : k = ups.length := by have := HM.out; omega
      obtain ⟨V1, p1⟩ := s
      have hS2 : (V1, p1) = ups.foldl (prepB e b) (V, p) := by rw [hS.out, hkm, List.take_length]
      have HAA := Lib.hid (show AskW W wr base T1 q bv bk n (N + 2 * ups.length) os1 up V1 lat P pq bp ba p1 from by have := hA.out; rwa [hkm] at this)
      have CA := Lib.hid (pasks_any HAA.out.pro HAA.out.ok)
      have HE := Lib.hid (show askS e b (V, p) ups = if asksV p1 then ups.foldl (accB e b) (V1, p1) else (V1, p1) from by unfold askS; rw [← hS2])
      obtain ⟨z, hz⟩ : ∃ z, asksV p1 = z := ⟨_, rfl⟩
      rw [hz] at CA HE
      clear hS2 hS hA hkm hz
      have hasz := HAA.out.since.size
      go_wp2_with fail
      refine CA.out.mono ?_
      rintro en w2 ⟨rfl, hb2⟩
      have H2 := Lib.hid (HAA.out.below hb2)
      clear hb2 CA HAA
      cases z with
      | false =>
        have HE2 := Lib.hid (show ∃ T' os', AskW W0 w2 base T' q bv bk n (N + 4 * ups.length) os' up (askS e b (V, p) ups).1 lat P pq bp ba (askS e b (V, p) ups).2 from ⟨T1, os1, by
          rw [HE.out, if_neg (by decide)]
          have h9 := H2.out.mono (show N + 2 * ups.length ≤ N + 4 * ups.length by omega)
          exact { h9 with since := HSN.out.trans h9.since }⟩)
        clear H2 HE
        go_wp2_with fail
        exact bodyPost_ret (results_none (by rfl) _ _ _) rfl ⟨rfl, HE2.out⟩
      | true =>
        have hpt : (if (true = true) then p1.text else (⟨#[]⟩ : ByteArray)) = p1.text := rfl
        rw [hpt]
        clear hpt
        rw [if_pos rfl] at HE
        obtain ⟨tx, htx⟩ : ∃ tx, p1.text = tx := ⟨_, rfl⟩
        rw [htx]
        have HTX := Lib.hid htx
        clear htx
        go_wp2_with fail
        go_loopw [45] (fun x wr => ∃ (k : Nat) (T : Nat → Nat) (os : Nat → Option Nat) (s : BookV × PropV), x = .int .i64 k ∧ k ≤ m ∧ Hid (s = (ups.take k).foldl (accB e b) (V1, p1)) ∧ Hid (s.2.text = tx) ∧ Hid (AskW W wr base T q bv bk n (N + 2 * ups.length + 2 * k) os up s.1 lat P pq bp ba s.2)) (fun x _ => m - (intOf x).toNat)
        case atStart => exact ⟨0, T1, os1, (V1, p1), rfl, Nat.zero_le _, Lib.hid rfl, HTX, H2⟩
        case round =>
          clear H2
          obtain ⟨k, T2, os2, s, rfl, hk, hS, hTx, hA⟩ := hrel
          by_cases hlt : k < m
          · have hltl : k < ups.length := by have := HM.out; omega
            have i1 : (k : Int) < (m : Int) := by omega
            have hown := hA.out.since.own hard_int HV.out
            obtain ⟨g, rfl, hc⟩ := nats_cell hown k hltl
            have hj := HUP.out _ (List.getElem_mem hltl)
            have HF := Lib.hid (fold_one (accB e b) (V1, p1) ups k hltl)
            rw [← hS.out] at HF
            obtain ⟨j, hje⟩ : ∃ j, ups[k] = j := ⟨_, rfl⟩
            rw [hje] at hc hj HF
            have i2 : (j : Int) < (n : Int) := by omega
            obtain ⟨V2, p2⟩ := s
            have HAA := Lib.hid (show AskW W wr base T2 q bv bk n (N + 2 * ups.length + 2 * k) os2 up V2 lat P pq bp ba p2 from hA.out)
            have hbs := Nat.le_trans HBS.out hA.out.since.size
            have CP := Lib.hid (aaccept_any (HAA.out.book.voter hj) (by have := HNN.out; have := HM.out; omega) e b HFE.out tx)
            have HST := Lib.hid (fun (w2 : World) (hv : VotC wr bv (j * 2) (voteC n os2 up) 75 (os2 j) (N + 2 * ups.length + 2 * k + 1) (updI (V2 j) e (accV (V2 j e) b tx)) w2) => HAA.out.vote hn hbs hj hv)
            obtain ⟨_, c0, _, _, _⟩ := HAA.out.book.facts
            have htx2 : p2.text = tx := hTx.out
            obtain ⟨y, hy⟩ : ∃ y, accYes (V2 j e) b = y := ⟨_, rfl⟩
            have HE3 := Lib.hid (show accB e b (V2, p2) j = (setB V2 j e (accV (V2 j e) b tx), accpV p2 j y) from by rw [← hy, ← htx2]; rfl)
            have HT3 := Lib.hid (show (accpV p2 j y).text = tx from by rw [accp_text]; exact htx2)
            rw [hy] at CP
            clear hA hS hown hj hbs hje hy htx2 hTx
            go_wp2_with fail
            refine CP.out.mono ?_
            rintro en w3 ⟨rfl, hv2⟩
            obtain ⟨T3, os3, h2⟩ := HST.out w3 hv2
            rw [setB_eq] at h2
            have CQ := Lib.hid (paccepted_any h2.pro h2.ok (by have := HNN.out; have := HM.out; omega) (j : Int) ⟨by omega, by omega⟩ y)
            have H2 := Lib.hid h2
            clear h2 hv2 HST CP c0 hc
            go_wp2_with fail
            refine CQ.out.mono ?_
            rintro en w4 ⟨rfl, hp3⟩
            have H3 := Lib.hid ((H2.out.propose hn hp3 (H2.out.ok.accepted (j : Int) y)).mono (show N + 2 * ups.length + 2 * k + 1 + 1 ≤ N + 2 * ups.length + 2 * (k + 1) by omega))
            have HS3 := Lib.hid (show (setB V2 j e (accV (V2 j e) b tx), accpV p2 j y) = (ups.take (k + 1)).foldl (accB e b) (V1, p1) from by rw [HF.out, HE3.out])
            clear hp3 CQ
            go_wp2_with fail
            go_roundw
            case rel => exact ⟨k + 1, T3, os3, _, by go_num, by omega, HS3, HT3, H3⟩
            case measure => simp [intOf]; omega
          · have hkm : k = ups.length := by have := HM.out; omega
            have hS2 : s = ups.foldl (accB e b) (V1, p1) := by rw [hS.out, hkm, List.take_length]
            have HE2 := Lib.hid (show ∃ T' os', AskW W0 wr base T' q bv bk n (N + 4 * ups.length) os' up (askS e b (V, p) ups).1 lat P pq bp ba (askS e b (V, p) ups).2 from ⟨T2, os2, by
              rw [HE.out, ← hS2]
              have h9 := hA.out.mono (show N + 2 * ups.length + 2 * k ≤ N + 4 * ups.length by omega)
              exact { h9 with since := HSN.out.trans h9.since }⟩)
            clear hA hS hkm hS2 hTx
            go_wp2_with fail
            go_end0
            exact ⟨rfl, HE2.out⟩
end
end Go.Proofs.YtefcbofjndnpkaaDoor
