/- The law of what is written, walked over what a writer's and a reader's functions do: the code's bytes and the document's are the same. -/
import Derived.Test.YtcmihmilkcihcaaDoorPackRL
import Derived.Test.YtcmihmilkcihcaaDoorRPackW
import Derived.Test.YtcmihmilkcihcaaDoorConv
import Derived.Test.YtcmihmilkcihcaaDoorSameI
namespace Go.Proofs.YtcmihmilkcihcaaDoor
open Go.RowKit Tide

/-- A writer and what is wanted of it lie apart: what is written (st), what is wanted (q). -/
structure WS (O : OutP) (w0 : World) (p : Nat) (st : Option (List UInt8)) (n : Nat) (v : Value) (q : List UInt8) (F : Nat → Prop) (W : World) : Prop where
  out : O W F p st n
  later : ∀ i, F i → w0.heap.size ≤ i
  own : W.ownsRow w0.heap.size 5 1 v q.length (u8s q)
  apart : ∀ i, v.ownBlock = some i → ¬ F i
  below : Below w0.heap.size w0 W
section
variable {a : Nat → Addr} {O : OutP} {w0 W W' : World} {p n n' : Nat} {st st' : Option (List UInt8)} {v v' : Value} {q r : List UInt8} {F F' : Nat → Prop}
theorem WS.quiet (hS : OutSpec a O) (h : WS O w0 p st n v q F W) (hb : Below W.heap.size W W') : WS O w0 p st n v q F W' :=
  ⟨hS.keep _ _ _ (fun _ => False) _ _ _ h.out (Kept.of_below hb) (fun _ _ h => h), h.later, own_below h.own hb, h.apart, h.below.trans (hb.mono h.below.size)⟩
theorem WS.alloc (hS : OutSpec a O) (h : WS O w0 p st n v q F W) (o : Obj) : WS O w0 p st n v q F (W.alloc o) := h.quiet hS ((Below.refl _ _).alloc (Nat.le_refl _) o)
theorem WS.wrote (h : WS O w0 p st n v q F W) (h1 : O W' F' p st' n') (h2 : ∀ k, F' k → F k ∨ W.heap.size ≤ k) (h3 : Kept F W W') : WS O w0 p st' n' v q F' W' :=
  ⟨h1, fun i hi => (h2 i hi).elim (h.later i) (fun hw => Nat.le_trans h.below.size hw), h3.own h.own h.apart, fun i hv hf => (h2 i hf).elim (h.apart i hv) (fun hw => by have := (h.own.lt i hv).2; omega),
    Below.kept h.below h3 h.below.size h.later⟩
theorem WS.app (hS : OutSpec a O) (h : WS O w0 p st n v q F W) (h1 : W'.ownsRow w0.heap.size 5 1 v' r.length (u8s r)) (hg : W.grownBy W' v.ownBlock) (h2 : v'.ownBlock = v.ownBlock ∨ v'.ownBlock = some W.heap.size) : WS O w0 p st n v' r F W' := by
  have hk : Kept (fun k => v.ownBlock = some k) W W' := (Kept.refl _ W).grown hg (fun k hk => .inl hk)
  refine ⟨hS.keep _ _ _ _ _ _ _ h.out hk (fun k hf hv => h.apart k hv hf), h.later, h1, fun i hi hf => ?_, Below.kept h.below hk h.below.size (fun i hi => (h.own.lt i hi).1)⟩
  rcases h2 with h2 | h2
  · exact h.apart i (h2 ▸ hi) hf
  · rw [h2] at hi
    injection hi with hi
    have := (hS.lt _ _ _ _ _ h.out).2.2 i hf
    omega
theorem WS.more (hS : OutSpec a O) (h : WS O w0 p st n v q F W) (hn : n ≤ n') : WS O w0 p st n' v q F W := ⟨hS.more _ _ _ _ _ _ h.out hn, h.later, h.own, h.apart, h.below⟩
theorem ws_start (hS : OutSpec a O) (hE0 : Errs w0 a) (hb : Below w0.heap.size w0 W) : WS O w0 W.heap.size (some []) 0 (.slice (some ⟨W.heap.size + 1, 0, none⟩) 0 0) [] (fun k => k = W.heap.size) ((W.alloc (.cells #[.slice none 0 0, .nilIface] 30)).alloc (.cells #[] 5)) := by
  have h1 : Below (W.alloc (.cells #[.slice none 0 0, .nilIface] 30)).heap.size (W.alloc (.cells #[.slice none 0 0, .nilIface] 30)) ((W.alloc (.cells #[.slice none 0 0, .nilIface] 30)).alloc (.cells #[] 5)) := (Below.refl _ _).alloc (Nat.le_refl _) _
  refine ⟨hS.keep _ _ _ (fun _ => False) _ _ _ (hS.new W (hE0.below hb)) (Kept.of_below h1) (fun _ _ h => h), fun i hi => ?_, ?_, fun i hi hf => ?_, ?_⟩
  · have := hb.size; omega
  · exact own_new _ _ _ _ _ _ _ _ (by simp) (by have := hb.size; simp; omega) (Nat.le_refl _) (by simp [maxLen]) rfl rfl
  · simp [Value.ownBlock] at hi; omega
  · exact (hb.alloc hb.size _).alloc (by have := hb.size; simp; omega) _
end
theorem run_round {O : OutP} {w0 : World} {ds : List ItemD} {p k : Nat} {v b : Value} {wr : World} {st st' : Option (List UInt8)} {q : List UInt8} {F : Nat → Prop} {n : Nat} {a : Nat → Addr} (hS : OutSpec a O) (hk : k < ds.length) (hst : st = stItems (some []) (ds.take k)) (h : WS O w0 p st' n v q F wr) (hn : n ≤ 400 * (k + 1)) (hb : b = .bool st'.isSome) (hs : st' = stItem st ds[k]) (hq : ∀ l, st' = some l → q = l) (hl : q.length ≤ 400 * (k + 1)) :
    ∃ (st : Option (List UInt8)) (q : List UInt8) (F : Nat → Prop), WS O w0 p st (400 * (k + 1)) v q F wr ∧ b = .bool st.isSome ∧ st = stItems (some []) (ds.take (k + 1)) ∧ (∀ l, st = some l → q = l) ∧ q.length ≤ 400 * (k + 1) :=
  ⟨st', q, F, h.more hS hn, hb, by rw [hs, hst, stItems_snoc _ _ _ hk], hq, hl⟩
/-- What the law's round over items keeps. -/
def Round (O : OutP) (w0 : World) (ds : List ItemD) (p : Nat) (k : Nat) (v b : Value) (wr : World) : Prop :=
  ∃ (st : Option (List UInt8)) (q : List UInt8) (F : Nat → Prop), WS O w0 p st (400 * k) v q F wr ∧ b = .bool st.isSome ∧ st = stItems (some []) (ds.take k) ∧ (∀ l, st = some l → q = l) ∧ q.length ≤ 400 * k
theorem nat_ints {l : List Int} (h : l.all rightB = true) : int64s l = nat64s (l.map Int.toNat) := by
  unfold int64s nat64s
  rw [List.map_map]
  apply List.map_congr_left
  intro z hz
  have := List.all_eq_true.1 h z hz
  unfold rightB at this
  simp at this
  show Value.int .i64 z = Value.int .i64 (z.toNat : Int)
  rw [Int.toNat_of_nonneg this.1]
theorem nats_lt {l : List Int} (h : l.all rightB = true) : ∀ n ∈ l.map Int.toNat, n < 2 ^ 62 := by
  intro n hn
  obtain ⟨z, hz, rfl⟩ := List.mem_map.1 hn
  have := List.all_eq_true.1 h z hz
  unfold rightB at this
  simp at this
  omega
theorem nums7_len {l : List Int} (h : l.all rightB = true) (h3 : l.length ≤ 30) : (nums7 (l.map Int.toNat)).length ≤ 300 := by
  unfold nums7
  rw [List.length_append]
  have := num7_len9 (show (l.map Int.toNat).length < 2 ^ 62 by rw [List.length_map]; omega)
  have := flat_len (nats_lt h)
  rw [List.length_map] at this
  omega
theorem text7_len {s : ByteArray} (h : s.size ≤ 300) : (text7 s).length ≤ 309 := by
  unfold text7
  have := num7_len9 (show s.size < 2 ^ 62 by omega)
  have e : s.data.toList.length = s.size := by rw [Array.length_toList]; rfl
  rw [List.length_append, e]
  omega
theorem all_take_snoc (l : List Int) (j : Nat) (h : j < l.length) : (l.take (j + 1)).all rightB = ((l.take j).all rightB && rightB (l.getD j 0)) := by
  rw [List.take_succ_eq_append_getElem h, List.all_append, List.getD_eq_getElem?_getD, List.getElem?_eq_getElem h]
  simp
/-- Four cells make a whole block. -/
def Four (W : World) (g : Nat) (t : TypeId) (x y z u : Value) : Prop := W.heap[g]? = some (.cells #[x, y, z, u] t)
theorem Four.facts {W : World} {g : Nat} {t : TypeId} {x y z u : Value} (h : Four W g t x y z u) : W.cell? ⟨g, 0, none⟩ = some x ∧ W.cell? ⟨g, 1, none⟩ = some y ∧ W.cell? ⟨g, 2, none⟩ = some z ∧ W.cell? ⟨g, 3, none⟩ = some u :=
  ⟨by rw [cell_of_row _ _ 0 _ _ _ h]; rfl, by rw [cell_of_row _ _ 1 _ _ _ h]; rfl, by rw [cell_of_row _ _ 2 _ _ _ h]; rfl, by rw [cell_of_row _ _ 3 _ _ _ h]; rfl⟩

set_option maxRecDepth 100000 in
set_option maxHeartbeats 4000000 in
theorem packWrites_law (a : Nat → Addr) (O : OutP) (hS : OutSpec a O) (v : Value) (ds : List ItemD) (w : World) (hi : Items w w.heap.size v ds) (hE : Errs w a)
    (hAlive : ∀ W, Errs W a → Calls Tryd.prog 6 #[] W fun e w' => e = .returned (.bool true) ∧ Below W.heap.size W w')
    (hBack : ∀ W B u, B ≤ W.heap.size → Items W B v ds → longI ds = false → (ds.all okItem) = true → Bytes W W.heap.size u (ds.flatMap encItem) → Errs W a → Calls Tryd.prog 17 #[u, v] W fun e w' => e = .returned (.bool true) ∧ Below W.heap.size W w') :
    Calls Tryd.prog 3 #[v] w fun e w' => e = .returned (.bool true) ∧ Below w.heap.size w w' := by
  obtain ⟨i0, hinf, hz0, hz1, hz2⟩ := info_parts infoB
  have HInf := Lib.hid hinf
  clear hinf
  have HE := Lib.hid hE
  have HI := Lib.hid hi
  have HS := Lib.hid hS
  have HA := Lib.hid (hAlive w hE)
  cases hL : longI ds with
  | true =>
    have CL := Lib.hid (fun W (h : Below w.heap.size w W) => llong_is v ds W w.heap.size h.size (HI.out.below h) true hL)
    clear hL hE hi hS hAlive hBack
    go_enter Tryd.func3, Tryd.ntmps3
    go_wp2_with fail
    refine HA.out.mono ?_
    rintro e w1 ⟨rfl, hb⟩
    have HB := Lib.hid hb
    clear hb
    go_wp2_with fail
    refine (CL.out _ HB.out).mono ?_
    rintro e w2 ⟨rfl, hb⟩
    have HB2 := Lib.hid (HB.out.trans (hb.mono HB.out.size))
    clear hb
    go_wp2_with fail
    go_ret
    exact ⟨rfl, HB2.out⟩
  | false =>
    have CL := Lib.hid (fun W (h : Below w.heap.size w W) => llong_is v ds W w.heap.size h.size (HI.out.below h) false hL)
    have HBK := Lib.hid (fun W B u (h1 : B ≤ W.heap.size) (h2 : Items W B v ds) => hBack W B u h1 h2 hL)
    have h20 : ds.length ≤ 20 := by unfold longI at hL; simp at hL; omega
    have HLg := Lib.hid (show ∀ d ∈ ds, d.text.size ≤ 300 ∧ d.list.length ≤ 30 by
      unfold longI at hL
      simp at hL
      intro d hd
      have := hL.2 d hd
      omega)
    obtain ⟨A, c, rfl, _, hcell⟩ := hi.form
    have HC := Lib.hid hcell
    clear hL hE hi hS hAlive hBack hcell
    go_enter Tryd.func3, Tryd.ntmps3
    go_wp2_with fail
    refine HA.out.mono ?_
    rintro e w1 ⟨rfl, hb⟩
    have HB := Lib.hid hb
    clear hb
    go_wp2_with fail
    refine (CL.out _ HB.out).mono ?_
    rintro e w2 ⟨rfl, hb⟩
    have HB2 := Lib.hid (HB.out.trans (hb.mono HB.out.size))
    clear hb
    go_wp2_with fail
    go_loopw [4, 5, 21] (fun u b i wr => ∃ k : Nat, i = .int .i64 k ∧ k ≤ ds.length ∧ Hid (Round O w ds w2.heap.size k u b wr)) (fun _ _ i _ => ds.length - (intOf i).toNat)
    case atStart => exact ⟨0, rfl, Nat.zero_le _, Lib.hid ⟨some [], [], _, ws_start HS.out HE.out HB2.out, rfl, rfl, fun l hl => Option.some.inj hl, Nat.zero_le _⟩⟩
    case round =>
      obtain ⟨k, rfl, hk, hR⟩ := hrel
      obtain ⟨st, q, F, hws, rfl, hst, hq, hql⟩ := hR.out
      have HWS := Lib.hid hws
      have HST := Lib.hid hst
      have HQ := Lib.hid hq
      have HBr := Lib.hid hws.below
      clear hR hws hst hq
      by_cases hlt : k < ds.length
      · obtain ⟨bb, o, u, rfl, hbl, h0, h1, h2, h3, hr, hz, hn1, hn2⟩ := HC.out k hlt
        have k0 := ((HBr.out.cell (p := ⟨bb, o + k * 4, none⟩) hbl).trans h0)
        have k1 := ((HBr.out.cell (p := ⟨bb, o + k * 4 + 1, none⟩) hbl).trans h1)
        have k2 := ((HBr.out.cell (p := ⟨bb, o + k * 4 + 2, none⟩) hbl).trans h2)
        have k3 := ((HBr.out.cell (p := ⟨bb, o + k * 4 + 3, none⟩) hbl).trans h3)
        obtain ⟨Au, cu, rfl, hlc⟩ := ints64_form hr
        have HLC := Lib.hid hlc
        have HRow := Lib.hid hr
        clear hlc
        have HZ := Lib.hid hz
        obtain ⟨hd1, hd2⟩ := HLg.out ds[k] (List.getElem_mem hlt)
        have HNext := Lib.hid (fun (st' : Option (List UInt8)) (v b : Value) (q : List UInt8) (F : Nat → Prop) (n : Nat) (W : World) => run_round (O := O) (w0 := w) (ds := ds) (p := w2.heap.size) (v := v) (b := b) (wr := W) (st' := st') (q := q) (F := F) (n := n) HS.out hlt HST.out)
        have hsz : bb < wr.heap.size := by have := HBr.out.size; omega
        have hsn : ¬ bb = wr.heap.size := by omega
        clear h0 h1 h2 h3 hr hz
        generalize ds[k] = d at *
        obtain ⟨kind, n, text, list⟩ := d
        simp only at *
        have W1 := Lib.hid (HWS.out.alloc HS.out (.cells #[.int .i64 kind, .int .i64 n, .string text, .slice Au list.length cu] 33))
        have HF := Lib.hid (show Four (wr.alloc (.cells #[.int .i64 kind, .int .i64 n, .string text, .slice Au list.length cu] 33)) wr.heap.size 33 (.int .i64 kind) (.int .i64 n) (.string text) (.slice Au list.length cu) from heap_alloc_new wr _)
        have HNF := Lib.hid (show ¬ F wr.heap.size from fun h => Nat.lt_irrefl _ ((HS.out.lt _ _ _ _ _ HWS.out.out).2.2 _ h))
        by_cases hk0 : kind = 0
        · subst hk0
          have hst0 : stItem st ⟨0, n, text, list⟩ = stNum st n := rfl
          rw [hst0] at HNext
          have cO := Lib.hid (HS.out.num _ _ _ _ _ n W1.out.out (by omega) (by omega) (by omega) (HE.out.below W1.out.below))
          clear hst0
          rcases st with _ | l
          · simp only [Option.isSome_none]
            go_wp2_with fail
            refine cO.out.mono ?_
            rintro e w3 ⟨rfl, F', hO', hF', hK'⟩
            have W2 := Lib.hid (W1.out.wrote hO' hF' hK')
            obtain ⟨f0, f1, f2, f3⟩ := (show Four w3 wr.heap.size 33 _ _ _ _ from hK'.heap HF.out HNF.out).facts
            clear hO' hF' hK'
            go_wp2_with fail
            go_roundw
            case rel => exact ⟨k + 1, by go_num, by omega, Lib.hid (HNext.out _ _ _ q F' _ _ W2.out (by omega) (by rw [stNum_none]; rfl) rfl (fun l hl => by rw [stNum_none] at hl; cases hl) (by omega))⟩
            case measure => simp [intOf]; omega
          · obtain rfl : q = l := HQ.out l rfl
            simp only [Option.isSome_some]
            cases hright : rightB n with
            | false =>
              have cR := fun W => lright_is n W false hright
              have HB0 := Lib.hid (stNum_bad hright (some q))
              clear hright
              go_wp2_with fail
              refine cO.out.mono ?_
              rintro e w3 ⟨rfl, F', hO', hF', hK'⟩
              have W2 := Lib.hid (W1.out.wrote hO' hF' hK')
              obtain ⟨f0, f1, f2, f3⟩ := (show Four w3 wr.heap.size 33 _ _ _ _ from hK'.heap HF.out HNF.out).facts
              clear hO' hF' hK'
              go_wp2_with fail
              refine (cR w3).mono ?_
              rintro e w' ⟨rfl, rfl⟩
              go_wp2_with fail
              go_roundw
              case rel => exact ⟨k + 1, by go_num, by omega, Lib.hid (HNext.out _ _ _ q F' _ _ W2.out (by omega) (by rw [HB0.out]; rfl) rfl (fun l hl => by rw [HB0.out] at hl; cases hl) (by omega))⟩
              case measure => simp [intOf]; omega
            | true =>
              have cR := fun W => lright_is n W true hright
              have HB0 := Lib.hid (stNum_ok hright q)
              have hnn : 0 ≤ n ∧ n ≤ 4611686018427387903 := by unfold rightB at hright; simpa using hright
              clear hright
              obtain ⟨m, rfl⟩ := Int.eq_ofNat_of_zero_le hnn.1
              rw [Int.toNat_natCast] at HB0
              have cM := Lib.hid (fun W => rnum7_any m W (by omega))
              have hml := num7_len9 (show m < 2 ^ 62 by omega)
              have hrl : (q ++ num7 m).length = q.length + (num7 m).length := List.length_append
              have hre := Lib.hid (show q ++ num7 m = q ++ num7 m from rfl)
              generalize hr2 : q ++ num7 m = r2 at *
              have HR2 := Lib.hid hr2.symm
              have HRL := Lib.hid hrl
              clear hnn hr2 hrl hre
              generalize num7 m = t at *
              go_wp2_with fail
              refine cO.out.mono ?_
              rintro e w3 ⟨rfl, F', hO', hF', hK'⟩
              have W2 := Lib.hid (W1.out.wrote hO' hF' hK')
              obtain ⟨f0, f1, f2, f3⟩ := (show Four w3 wr.heap.size 33 _ _ _ _ from hK'.heap HF.out HNF.out).facts
              clear hO' hF' hK'
              go_wp2_with fail
              refine (cR w3).mono ?_
              rintro e w' ⟨rfl, rfl⟩
              clear cR
              go_wp2_with fail
              refine (cM.out _).mono ?_
              rintro e w4 ⟨v4, rfl, hown4, hb4⟩
              have W3 := Lib.hid (W2.out.quiet HS.out hb4)
              have HR4 := Lib.hid (Row.of_own hown4 (Nat.le_refl _))
              clear hown4 hb4 f0 f1 f2 f3
              go_wp2_with (at_builtin; refine wpList_append_bytes _ rfl (.tmp 63) (.tmp 66) _ rfl w.heap.size 5 i0 Tryd.underlying26 HInf.out hz0 hz1 hz2 _ q rfl W3.out.own w4.heap.size _ t rfl HR4.out r2 HR2.out ?d1 ?d2 ?_)
              case d1 => omega
              case d2 => exact W3.out.below.size
              intro v5 w5 hown5 hg5 hat5
              have W4 := Lib.hid (W3.out.app HS.out hown5 hg5 hat5)
              clear hown5 hg5 hat5
              go_wp2_with fail
              go_roundw
              case rel => exact ⟨k + 1, by go_num, by omega, Lib.hid (HNext.out _ _ _ r2 F' _ _ W4.out (by omega) (by rw [HB0.out]; rfl) rfl (fun l hl => by rw [HB0.out] at hl; injection hl) (by have := HRL.out; omega))⟩
              case measure => simp [intOf]; omega
        by_cases hk1 : kind = 1
        · subst hk1
          have hst0 : stItem st ⟨1, n, text, list⟩ = stText st text := rfl
          rw [hst0] at HNext
          have cO := Lib.hid (HS.out.text _ _ _ _ _ text W1.out.out (by omega) (by omega) (HE.out.below W1.out.below))
          have cM := Lib.hid (fun W => rtext7_any text W (by omega))
          have hml := text7_len hd1
          have hso := Lib.hid (show (stText st text).isSome = st.isSome by unfold stText; cases st <;> rfl)
          have hsq := Lib.hid (show ∀ l, stText st text = some l → q ++ text7 text = l by
            intro l hl
            unfold stText at hl
            cases st with
            | none => cases hl
            | some l' => rw [HQ.out l' rfl]; exact Option.some.inj hl)
          have hrl : (q ++ text7 text).length = q.length + (text7 text).length := List.length_append
          generalize hr2 : q ++ text7 text = r2 at *
          have HR2 := Lib.hid hr2.symm
          have HRL := Lib.hid hrl
          clear hst0 hr2 hrl
          generalize text7 text = t at *
          have hkk : ((1 : Int) == 0) = false := rfl
          go_wp2_with fail
          refine cO.out.mono ?_
          rintro e w3 ⟨rfl, F', hO', hF', hK'⟩
          have W2 := Lib.hid (W1.out.wrote hO' hF' hK')
          obtain ⟨f0, f1, f2, f3⟩ := (show Four w3 wr.heap.size 33 _ _ _ _ from hK'.heap HF.out HNF.out).facts
          clear hO' hF' hK'
          go_wp2_with fail
          refine (cM.out _).mono ?_
          rintro e w4 ⟨v4, rfl, hown4, hb4⟩
          have W3 := Lib.hid (W2.out.quiet HS.out hb4)
          have HR4 := Lib.hid (Row.of_own hown4 (Nat.le_refl _))
          clear hown4 hb4 f0 f1 f2 f3
          go_wp2_with (at_builtin; refine wpList_append_bytes _ rfl (.tmp 74) (.tmp 77) _ rfl w.heap.size 5 i0 Tryd.underlying26 HInf.out hz0 hz1 hz2 _ q rfl W3.out.own w4.heap.size _ t rfl HR4.out r2 HR2.out ?d1 ?d2 ?_)
          case d1 => omega
          case d2 => exact W3.out.below.size
          intro v5 w5 hown5 hg5 hat5
          have W4 := Lib.hid (W3.out.app HS.out hown5 hg5 hat5)
          clear hown5 hg5 hat5
          go_wp2_with fail
          go_roundw
          case rel => exact ⟨k + 1, by go_num, by omega, Lib.hid (HNext.out _ _ _ r2 F' _ _ W4.out (by omega) (by rw [hso.out]) rfl hsq.out (by have := HRL.out; omega))⟩
          case measure => simp [intOf]; omega
        have hst0 : stItem st ⟨kind, n, text, list⟩ = stNums st list := by unfold stItem; rw [if_neg hk0, if_neg hk1]
        rw [hst0] at HNext
        have cO := Lib.hid (HS.out.nums _ _ _ _ _ _ list w.heap.size W1.out.out (by omega) (Row.keep HRow.out (below_cells W1.out.below)) W1.out.below.size W1.out.later hd2 HZ.out (HE.out.below W1.out.below))
        have q0 : (kind == 0) = false := by rw [beq_eq_false_iff_ne]; exact hk0
        have q1 : (kind == 1) = false := by rw [beq_eq_false_iff_ne]; exact hk1
        have hso := Lib.hid (stNums_some (st := st) (l := list) (by omega))
        clear hst0 hk0 hk1
        go_wp2_with fail
        refine cO.out.mono ?_
        rintro e w3 ⟨rfl, F', hO', hF', hK'⟩
        have W2 := Lib.hid (W1.out.wrote hO' hF' hK')
        obtain ⟨f0, f1, f2, f3⟩ := (show Four w3 wr.heap.size 33 _ _ _ _ from hK'.heap HF.out HNF.out).facts
        clear hO' hF' hK'
        go_wp2_with fail
        go_loop [5, 34] (fun b j => ∃ i : Nat, j = .int .i64 i ∧ i ≤ list.length ∧ Hid (b = .bool (st.isSome && (list.take i).all rightB))) (fun _ j => list.length - (intOf j).toNat)
        case atStart => exact ⟨0, rfl, Nat.zero_le _, Lib.hid (by simp)⟩
        case round =>
          obtain ⟨i, rfl, hi, hb⟩ := hrel
          have hbe := hb.out
          generalize hB : (st.isSome && (list.take i).all rightB) = Bv at hbe
          have HBv := Lib.hid hB
          subst hbe
          clear hB hb
          by_cases hil : i < list.length
          · obtain ⟨b2, o2, rfl, hb2, hcz⟩ := HLC.out i hil
            have hcz' := (W2.out.below.cell (p := ⟨b2, o2 + i, none⟩) hb2).trans hcz
            have hsn2 := Lib.hid (all_take_snoc list i hil)
            clear hcz
            generalize list.getD i 0 = z at *
            cases Bv with
            | false =>
              have hrel2 := Lib.hid (show Value.bool false = .bool (st.isSome && (list.take (i + 1)).all rightB) by rw [hsn2.out, ← Bool.and_assoc, HBv.out]; rfl)
              go_wp2_with fail
              go_round
              case rel => exact ⟨i + 1, by go_num, by omega, hrel2⟩
              case measure => simp [intOf]; omega
            | true =>
              have cR := Lib.hid (lright_is z w3 (rightB z) rfl)
              have hrel2 := Lib.hid (show Value.bool (rightB z) = .bool (st.isSome && (list.take (i + 1)).all rightB) by rw [hsn2.out, ← Bool.and_assoc, HBv.out]; rfl)
              generalize rightB z = rz at *
              go_wp2_with fail
              refine cR.out.mono ?_
              rintro e w' ⟨rfl, rfl⟩
              go_wp2_with fail
              go_round
              case rel => exact ⟨i + 1, by go_num, by omega, hrel2⟩
              case measure => simp [intOf]; omega
          · have hall := HBv.out
            rw [List.take_of_length_le (by omega)] at hall
            rw [← hso.out] at hall
            cases Bv with
            | false =>
              have hno := Lib.hid (show stNums st list = none by
                cases e : stNums st list with
                | none => rfl
                | some l => rw [e] at hall; cases hall)
              clear hall
              go_wp2_with fail
              go_roundw
              case rel => exact ⟨k + 1, by go_num, by omega, Lib.hid (HNext.out _ _ _ q F' _ _ W2.out (by omega) (by rw [hno.out]; rfl) rfl (fun l hl => by rw [hno.out] at hl; cases hl) (by omega))⟩
              case measure => simp [intOf]; omega
            | true =>
              have hst2 : (st.isSome && list.all rightB) = true := by rw [← hso.out, hall]
              rw [Bool.and_eq_true] at hst2
              obtain ⟨hst3, hallr⟩ := hst2
              rcases st with _ | l
              · cases hst3
              obtain rfl : q = l := HQ.out l rfl
              have HB0 := Lib.hid (stNums_ok (show list.length ≤ 65536 by omega) hallr q)
              have cM := Lib.hid (fun W (h : Below w.heap.size w W) => rnums7_any (.slice Au list.length cu) (list.map Int.toNat) W (by rw [← nat_ints hallr]; exact Row.more (Row.keep HRow.out (below_cells h)) h.size) (by rw [List.length_map]; omega) (nats_lt hallr))
              have hml := nums7_len hallr hd2
              have hrl : (q ++ nums7 (list.map Int.toNat)).length = q.length + (nums7 (list.map Int.toNat)).length := List.length_append
              generalize hr2 : q ++ nums7 (list.map Int.toNat) = r2 at *
              have HR2 := Lib.hid hr2.symm
              have HRL := Lib.hid hrl
              clear hr2 hrl hst3 hallr hall
              generalize nums7 (list.map Int.toNat) = t at *
              go_wp2_with fail
              refine (cM.out _ W2.out.below).mono ?_
              rintro e w4 ⟨v4, rfl, hown4, hb4⟩
              have W3 := Lib.hid (W2.out.quiet HS.out hb4)
              have HR4 := Lib.hid (Row.of_own hown4 (Nat.le_refl _))
              clear hown4 hb4 f0 f1 f2 f3
              go_wp2_with (at_builtin; refine wpList_append_bytes _ rfl (.tmp 45) (.tmp 48) _ rfl w.heap.size 5 i0 Tryd.underlying26 HInf.out hz0 hz1 hz2 _ q rfl W3.out.own w4.heap.size _ t rfl HR4.out r2 HR2.out ?d1 ?d2 ?_)
              case d1 => omega
              case d2 => exact W3.out.below.size
              intro v5 w5 hown5 hg5 hat5
              have W4 := Lib.hid (W3.out.app HS.out hown5 hg5 hat5)
              clear hown5 hg5 hat5
              go_wp2_with fail
              go_roundw
              case rel => exact ⟨k + 1, by go_num, by omega, Lib.hid (HNext.out _ _ _ r2 F' _ _ W4.out (by omega) (by rw [HB0.out]; rfl) rfl (fun l hl => by rw [HB0.out] at hl; injection hl) (by have := HRL.out; omega))⟩
              case measure => simp [intOf]; omega
      · have hfin := HST.out
        rw [List.take_of_length_le (by omega)] at hfin
        have cD := Lib.hid (HS.out.done _ _ _ _ _ HWS.out.out (by omega) (HE.out.below HBr.out))
        have HOwn := Lib.hid HWS.out.own
        rcases st with _ | l
        · simp only [Option.isSome_none]
          go_wp2_with fail
          refine cD.out.mono ?_
          rintro e w3 ⟨vd, x, rfl, hbv, hx, hkk⟩
          obtain ⟨Ad, cd, rfl, _⟩ := hbv.form
          rcases hx with ⟨h0, _⟩ | ⟨m, hm, h0, rfl⟩
          · cases h0
          obtain rfl : m = 0 := by have : 1 = m + 1 := h0; omega
          have HBd := Lib.hid (Below.kept HBr.out hkk HBr.out.size HWS.out.later)
          clear h0 hbv hkk hfin
          go_wp2_with fail
          refine (num_err a 0 (by omega) _ (HE.out.below HBd.out)).mono ?_
          rintro e w4 ⟨rfl, hb4⟩
          have HB4 := Lib.hid (HBd.out.trans (hb4.mono HBd.out.size))
          clear hb4
          go_wp2_with fail
          go_ret
          exact ⟨rfl, HB4.out⟩
        · obtain rfl : q = l := HQ.out l rfl
          simp only [Option.isSome_some]
          have hok := items_some ds (fun d hd => by have := HLg.out d hd; omega) [] q hfin.symm
          have HOK := Lib.hid hok
          have hdone : doneOf (some q) = (q, 0) := by unfold doneOf; simp only; rw [if_pos (by omega)]
          have HDN := Lib.hid hdone
          clear hok hdone hfin
          go_wp2_with fail
          refine cD.out.mono ?_
          rintro e w3 ⟨vd, x, rfl, hbv, hx, hkk⟩
          rw [HDN.out] at hbv hx
          rcases hx with ⟨_, rfl⟩ | ⟨m, hm, h0, rfl⟩
          rotate_left
          · cases h0
          have HBd := Lib.hid (Below.kept HBr.out hkk HBr.out.size HWS.out.later)
          have HO3 := Lib.hid (hkk.own HOwn.out HWS.out.apart)
          have HV := Lib.hid hbv
          have cv1 := conv_bytes hbv
          have cv2 := conv_bytes (Bytes.of_own HO3.out)
          have cB := Lib.hid (HBK.out w3 w.heap.size vd HBd.out.size (HI.out.below HBd.out) HOK.out.1 (by rw [← List.nil_append (List.flatMap encItem ds), ← HOK.out.2]; exact HV.out) (HE.out.below HBd.out))
          clear hbv hkk
          go_wp2_with fail
          refine cB.out.mono ?_
          rintro e w4 ⟨rfl, hb4⟩
          have HB4 := Lib.hid (HBd.out.trans (hb4.mono HBd.out.size))
          clear hb4
          go_wp2_with fail
          go_ret
          exact ⟨rfl, HB4.out⟩
end Go.Proofs.YtcmihmilkcihcaaDoor
