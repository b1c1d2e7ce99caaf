import Derived.Test.YtdilnodbfnlhdaaGreatDoorGDgS
import Derived.Test.YtdilnodbfnlhdaaGreatDoorGClone
import Derived.Test.YtdilnodbfnlhdaaGreatDoorGLaidE
import Derived.Laws.NewBlocks
import Derived.WalkKit
import Derived.WalkSpells
import Derived.Deep.QuietTactic
import Derived.BigQuiet
namespace Go.Proofs.YtdilnodbfnlhdaaGreatDoor
open Go Go.ChangeShapes Go.WideShapes Go.ChangeAt Go.RowKit Tide
structure E3 (x:Nat->Addr) (W:World):Prop where
 range:W.cell? ⟨4,0,none⟩=some (ai (x 0))
 form:W.cell? ⟨2,0,none⟩=some (ai (x 1))
 down:W.cell? ⟨11,0,none⟩=some (ai (x 2))
theorem E3.below {x:Nat->Addr} {W W':World} (h:E3 x W) (hb:Below W.heap.size W W'):E3 x W':=
 ⟨(hb.cell (p:=⟨_,0,none⟩) (World.block_lt_of_cell? _ _ h.range)).trans h.range,(hb.cell (p:=⟨_,0,none⟩) (World.block_lt_of_cell? _ _ h.form)).trans h.form,(hb.cell (p:=⟨_,0,none⟩) (World.block_lt_of_cell? _ _ h.down)).trans h.down⟩
def three (a:Nat->Addr) (i:Nat):Addr:=if i=0 then a 0 else if i=1 then a 3 else a 11
theorem E3.iV {a:Nat->Addr} {W:World} (h:ar W a):E3 (three a) W:=by have h0:=h.var 0 (by omega);have h3:=h.var 3 (by omega);have h11:=h.var 11 (by omega);simp only[bA,List.getD_cons_zero,List.getD_cons_succ]at h0 h3 h11;exact⟨h0,h3,h11⟩
end Go.Proofs.YtdilnodbfnlhdaaGreatDoor
namespace Go.Proofs.YtdilnodbfnlhdaaGreatDoor
open Go.RowKit Tide
abbrev sl (g n cap:Nat):Value:= .slice (some ⟨g,0,none⟩) n cap
structure Wr where
 sec:Nat
 b:List UInt8
 g:Nat
 cap:Nat
def Wr.pair (t:Wr):Nat × List UInt8:=(t.sec,t.b)
def Wr.cells (t:Wr):List Value:= [.int .i64 (t.sec:Int),sl t.g 64 t.cap]
theorem o5:∀ (ts:List Wr) (i j:Nat) (h:i < ts.length),j < 2->(ts.flatMap Wr.cells)[i * 2+j]? =(ts[i]).cells[j]?
 | [],_,_,h,_=>by simp at h
 | t :: ts,0,j,_,hj=>by rw[List.flatMap_cons,List.getElem?_append_left (by simp[Wr.cells];omega)];simp
 | t :: ts,i+1,j,h,hj=>by have hl:t.cells.length=2:=rfl;rw[List.flatMap_cons,List.getElem?_append_right (by omega),hl,show(i+1) * 2+j - 2=i * 2+j by omega];exact o5 ts i j (by simpa using h) hj
structure aK (W:World) (F:Nat->Prop) (p:Nat) (ae now:List UInt8) (ts:List Wr) (bd cd bn cn:Nat) (vp:Value) (st:Bool) (lf:Nat):Prop where
 block:W.heap[p]? =some (.cells #[sl bd ae.length cd,sl bn ae.length cn,vp,.bool st,.int .i64 (lf:Nat)] 215)
 eA:W.ownsRow 0 5 1 (sl bd ae.length cd) ae.length (aj ae)
 now:W.ownsRow 0 5 1 (sl bn ae.length cn) ae.length (aj now)
 aq:W.ownsRow 0 298 2 vp ts.length (ts.flatMap Wr.cells)
 wr:∀t ∈ ts,W.ownsRow 0 5 1 (sl t.g 64 t.cap) 64 (aj t.b)
 fp:F p/\F bd/\F bn/\(∀k,vp.ownBlock=some k->F k)/\∀t ∈ ts,F t.g
 lt:∀k,F k->k < W.heap.size
 ne:p≠bd/\p≠bn/\bd≠bn
 eT:∀k,vp.ownBlock=some k->k≠p/\k≠bd/\k≠bn
 new:∀t ∈ ts,t.g≠p/\t.g≠bd/\t.g≠bn/\vp.ownBlock≠some t.g
def gr (ae:List UInt8) (ts:List Wr):Prop:=64<=ae.length/\ae.length % 64=0/\gL (ae.length / 64) (ts.map Wr.pair)
def pa:az:=λW F p d=>∃ts bd cd bn cn vp,d.aq=ts.map Wr.pair/\gr d.ae ts/\d.ae.length<=30000/\ts.length<=1000/\d.stop.getD 0<=9223372036854775807/\aK W F p d.ae (aI d.ae d.aq) ts bd cd bn cn vp d.stop.isSome (d.stop.getD 0)
section
variable {W W':World} {F G:Nat->Prop} {p:Nat} {ae now:List UInt8} {ts:List Wr} {bd cd bn cn:Nat} {vp:Value} {st:Bool} {lf:Nat}
theorem aK.iC (h:aK W F p ae now ts bd cd bn cn vp st lf):p < W.heap.size:=h.lt _ h.fp.1
theorem aK.an (h:aK W F p ae now ts bd cd bn cn vp st lf) (hk:Kept G W W') (hG:∀k,F k->¬G k):aK W' F p ae now ts bd cd bn cn vp st lf:=
 { h with
   block:=hk.heap h.block (hG _ h.fp.1)
   eA:=hk.own h.eA (λk e=>by cases e;exact hG _ h.fp.2.1)
   now:=hk.own h.now (λk e=>by cases e;exact hG _ h.fp.2.2.1)
   aq:=hk.own h.aq (λk e=>hG _ (h.fp.2.2.2.1 k e))
   wr:=λt ht=>hk.own (h.wr t ht) (λk e=>by cases e;exact hG _ (h.fp.2.2.2.2 t ht))
   lt:=λk hf=>Nat.lt_of_lt_of_le (h.lt k hf) hk.size }
theorem aK.below (h:aK W F p ae now ts bd cd bn cn vp st lf) (hb:Below W.heap.size W W'):aK W' F p ae now ts bd cd bn cn vp st lf:=h.an (G:=λ_=>False) (Kept.al hb) (λ_ _ h=>h)
theorem aK.facts (h:aK W F p ae now ts bd cd bn cn vp st lf):W.cell? ⟨p,0,none⟩=some (sl bd ae.length cd)/\W.cell? ⟨p,1,none⟩=some (sl bn ae.length cn)/\W.cell? ⟨p,2,none⟩=some vp/\W.cell? ⟨p,3,none⟩=some (.bool st)/\W.cell? ⟨p,4,none⟩=some (.int .i64 (lf:Nat))/\∀i,W.frozen? ⟨p,i,none⟩=false:=by have hb:=h.block;refine⟨by rw[cell_of_row _ _ 0 _ _ _ hb];rfl,by rw[cell_of_row _ _ 1 _ _ _ hb];rfl,by rw[cell_of_row _ _ 2 _ _ _ hb];rfl,by rw[cell_of_row _ _ 3 _ _ _ hb];rfl,by rw[cell_of_row _ _ 4 _ _ _ hb];rfl,λi=> ?_⟩;unfold World.frozen?;rw[show W.heap[(⟨p,i,none⟩:Addr).block]? =_ from hb];simp
theorem gr.gC (h:gr ae ts):ae.length=64 * (ae.length / 64):=by have:=h.2.1;omega
theorem gr.at (h:gr ae ts) {t:Wr} (ht:t ∈ ts):64 * t.sec+64<=ae.length/\t.b.length=64:=by have:=h.2.2 t.pair (List.mem_map.2 ⟨t,ht,rfl⟩);have h1:t.sec < ae.length / 64:=this.1;have h2:=h.gC;exact⟨by omega,this.2⟩
end
end Go.Proofs.YtdilnodbfnlhdaaGreatDoor
namespace Go.Proofs.YtdilnodbfnlhdaaGreatDoor
open Go.RowKit Tide
theorem wI (b n c lo hi:Nat) (li ui:Int) (el:li=lo) (eu:ui=hi) (hlo:lo<=hi) (hhi:hi<=n) (hn:n<=c) (hc:lo < c) (W:World):
 (Instr.slice 38 (.slice (some ⟨b,0,none⟩) n c) (some (.int .i64 li)) (some (.int .i64 ui)) none).run Tryz.prog W= .ok (.slice (some ⟨b,lo,none⟩) (hi - lo) (c - lo)) W:=by
 subst el eu;rw[run_slice_lh _ _ _ _ _ iP _ _ _ _ (by omega) (by omega) (by omega),jd];simp only[Result.andThen,Int.toNat_natCast];have ha:(⟨b,0,none⟩:Addr).add lo=⟨b,0+lo,none⟩:=da b 0 lo;have hne:c≠lo:=by omega
 simp[sliced,hne,ha]
theorem nc (b n c hi:Nat) (ui:Int) (eu:ui=hi) (hhi:hi<=n) (hn:n<=c) (hc:0 < c) (W:World):
 (Instr.slice 38 (.slice (some ⟨b,0,none⟩) n c) none (some (.int .i64 ui)) none).run Tryz.prog W= .ok (.slice (some ⟨b,0,none⟩) hi c) W:=by
 subst eu;rw[run_slice_h _ _ _ _ _ iP _ _ (by omega) (by omega),jd];simp only[Result.andThen,Int.toNat_natCast];have ha:(⟨b,0,none⟩:Addr).add 0=⟨b,0+0,none⟩:=da b 0 0;have hne:c≠0:=by omega
 simp[sliced,hne,ha]
theorem kP (g L cap i:Nat) (h:64 * i+64<=L) (hL:L<=30000) (hc:L<=cap) (w:World):
 Calls Tryz.prog 168 #[sl g L cap,.int .i64 (i:Nat)] w λe w'=>e= .returned (.slice (some ⟨g,64 * i,none⟩) 64 (cap - 64 * i))/\w=w':=by
 have hcut:=λW=>wI g L cap (64 * i) (64 * i+64) ((i:Int) * 64) (((i:Int)+1) * 64) (by omega) (by omega) (by omega) h hc (by omega) W;have e64:64 * i+64 - 64 * i=64:=by omega
 rw[e64]at hcut;have hw1:wrap64 ((i:Int) * 64)=(i:Int) * 64:=by unfold wrap64;omega
 have hw2:wrap64 ((i:Int)+1)=(i:Int)+1:=by unfold wrap64;omega
 have hw3:wrap64 (((i:Int)+1) * 64)=((i:Int)+1) * 64:=by unfold wrap64;omega
 have hv1:IntKind.i64.wrap ((i:Int) * 64)=(i:Int) * 64:=by simp[IntKind.wrap,IntKind.signed,IntKind.bits];omega
 have hv2:IntKind.i64.wrap ((i:Int)+1)=(i:Int)+1:=by simp[IntKind.wrap,IntKind.signed,IntKind.bits];omega
 have hv3:IntKind.i64.wrap (((i:Int)+1) * 64)=((i:Int)+1) * 64:=by simp[IntKind.wrap,IntKind.signed,IntKind.bits];omega
 clear h hL hc e64
 go_enter Tryz.func168,Tryz.ntmps168
 go_wp2_with fail
 go_ret
 exact⟨rfl,rfl⟩
section
variable {W:World} {F:Nat->Prop} {p:Nat} {ae now:List UInt8} {ts:List Wr} {bd cd bn cn:Nat} {vp:Value} {st:Bool} {lf:Nat}
theorem rv (h:aK W F p ae now ts bd cd bn cn vp st lf) (hL:ae.length<=30000):Calls Tryz.prog 111 #[.pointer (some ⟨p,0,none⟩)] W λe w'=>e= .returned (.int .i64 ((ae.length / 64:Nat)))/\W=w':=by
 obtain⟨c0,_,_,_,_,_⟩:=h.facts;clear h;generalize ae.length=L at *;obtain⟨m,hm⟩:=aa (L / 64);rw[hm];have q1:(L:Int).tdiv 64=(m:Int):=by rw[Int.tdiv_eq_ediv_of_nonneg (by omega)];omega
 have q2:(L:Int) / 64=(m:Int):=by omega
 have q3:wrap64 (m:Int)=(m:Int):=by unfold wrap64;omega
 have q4:IntKind.i64.wrap (m:Int)=(m:Int):=by simp[IntKind.wrap,IntKind.signed,IntKind.bits];omega
 clear hL hm
 go_enter Tryz.func111,Tryz.ntmps111
 go_wp2_with fail
 go_ret
 exact⟨rfl,rfl⟩
theorem nw (h:aK W F p ae now ts bd cd bn cn vp st lf) (hL:ae.length<=30000) (i:Int):Calls Tryz.prog 167 #[.pointer (some ⟨p,0,none⟩),.int .i64 i] W λe w'=>e= .returned (.bool (decide (0<=i) && decide (i < ((ae.length / 64:Nat):Int))))/\W=w':=by
 have CL:=rv h hL;generalize ((ae.length / 64:Nat):Int)=m at *;clear h hL;cases h0:decide (0<=i)<;>cases h1:decide (i < m)
 all_goals
  go_enter Tryz.func167,Tryz.ntmps167
  go_wp2_with fail
  first
   | (refine CL.mono ?_
      rintro en w1 ⟨rfl,rfl⟩
      go_wp2_with fail)
   | skip
  go_ret
  exact⟨rfl,rfl⟩
theorem pW (h:aK W F p ae now ts bd cd bn cn vp st lf):Calls Tryz.prog 190 #[.pointer (some ⟨p,0,none⟩)] W λe w'=>e= .returned (.bool (st && decide (lf=0)))/\W=w':=by
 obtain⟨_,_,_,c3,c4,_⟩:=h.facts;clear h;have q0:((lf:Int) == 0)=decide (lf=0):=by
  by_cases h:lf=0
  · subst h;rfl
  · rw[decide_eq_false h,beq_eq_false_iff_ne];omega
 have q1:decide ((lf:Int)=0)=decide (lf=0):=decide_eq_decide.2 (by omega);generalize decide (lf=0)=b at *;cases st
 all_goals
  go_enter Tryz.func190,Tryz.ntmps190
  go_wp2_with fail
  go_ret
  exact⟨by simp[*],rfl⟩
theorem se {x:Nat->Addr} (hE:E3 x W) (h:aK W F p ae now ts bd cd bn cn vp true 0):Calls Tryz.prog 187 #[.pointer (some ⟨p,0,none⟩)] W λe w'=>e= .returned (ai (x 2))/\W=w':=by
 have CD:=pW h;have ce:=hE.down;clear h hE
 go_enter Tryz.func187,Tryz.ntmps187
 go_wp2_with fail
 refine CD.mono ?_;rintro en w1 ⟨rfl,rfl⟩
 go_wp2_with fail
 go_ret
 exact⟨rfl,rfl⟩
theorem oG {W:World} {p i:Nat} {cs:Array Value} {t:TypeId} {fr:Nat × Nat} (h:W.heap[p]? =some (.cells cs t fr)) (v:Value):(W.setCell ⟨p,i,none⟩ v).heap[p]? =some (.cells (cs.setIfInBounds i v) t fr):=by obtain⟨hlt,hk⟩:=Array.getElem?_eq_some_iff.1 h;show(W.heap.modify p _)[p]? =_;rw[Array.getElem?_eq_getElem (by rw[Array.size_modify];exact hlt),Array.getElem_modify_self,hk];simp
theorem aK.C8 {W':World} {st':Bool} {lf':Nat} (h:aK W F p ae now ts bd cd bn cn vp st lf) (hK:Kept (λk=>k=p) W W') (hb:W'.heap[p]? =some (.cells #[sl bd ae.length cd,sl bn ae.length cn,vp,.bool st',.int .i64 (lf':Nat)] 215)):aK W' F p ae now ts bd cd bn cn vp st' lf':=
 { h with
   block:=hb
   eA:=hK.own h.eA (λk e=>by cases e;exact λe=>h.ne.1 e.symm)
   now:=hK.own h.now (λk e=>by cases e;exact λe=>h.ne.2.1 e.symm)
   aq:=hK.own h.aq (λk e=>(h.eT k e).1)
   wr:=λt ht=>hK.own (h.wr t ht) (λk e=>by cases e;exact(h.new t ht).1)
   lt:=λk hf=>Nat.lt_of_lt_of_le (h.lt k hf) hK.size }
theorem sd (h:aK W F p ae now ts bd cd bn cn vp st lf) (hp:st=true->lf≠0) (hl:lf<=9223372036854775807) (h0:st=false->lf=0):Calls Tryz.prog 187 #[.pointer (some ⟨p,0,none⟩)] W λe w'=>e= .returned .nilIface/\aK w' F p ae now ts bd cd bn cn vp st (lf - 1)/\Kept F W w':=by
 have CD:=pW h;have hd:(st && decide (lf=0))=false:=by
  cases st
  · rfl
  · simpa using hp rfl
 rw[hd]at CD;obtain⟨_,_,_,c3,c4,hfz⟩:=h.facts;have hfp:=h.iC;have HD:=ab h;cases st with
 | false=>
   have e0:=h0 rfl;subst e0;clear h
   go_enter Tryz.func187,Tryz.ntmps187
   go_wp2_with fail
   refine CD.mono ?_;rintro en w1 ⟨rfl,rfl⟩
   go_wp2_with fail
   go_ret
   exact⟨rfl,HD.out,Kept.refl _ _⟩
 | true=>
   have hne:=hp rfl;obtain⟨k,rfl⟩:∃k,lf=k+1:=⟨lf - 1,by omega⟩;have q1:wrap64 (((k+1:Nat):Int) - 1)=(k:Int):=by unfold wrap64;omega
   have q2:IntKind.i64.wrap (((k+1:Nat):Int) - 1)=(k:Int):=by simp[IntKind.wrap,IntKind.signed,IntKind.bits];omega
   generalize hk1:((k+1:Nat):Int)=m at *;have HK1:=ab hk1;clear h hk1 hne hl hp h0 hd
   go_enter Tryz.func187,Tryz.ntmps187
   go_wp2_with fail
   refine CD.mono ?_;rintro en w1 ⟨rfl,rfl⟩
   go_wp2_with fail
   go_ret
   have hb:=HD.out.block;rw[HK1.out]at hb;exact⟨rfl,HD.out.C8 ((Kept.refl (λk=>k=p) _).setCell (p:=⟨p,4,none⟩) (.inl rfl) _) (oG hb _),(Kept.refl F _).setCell (p:=⟨p,4,none⟩) (.inl HD.out.fp.1) _⟩
theorem o3 (h:aK W F p ae now ts bd cd bn cn vp st lf):∃A c,vp= .slice A ts.length c/\ts.length<=c/\c<=9223372036854775807:=by
 rcases h.aq.2 with⟨h1,h0⟩|⟨g,cap,cur,h1,_,_,h2,h3,_⟩
 · exact⟨none,0,by rw[h1,h0],by omega,by omega⟩
 · exact⟨_,cap,h1,h2,h3⟩
end
end Go.Proofs.YtdilnodbfnlhdaaGreatDoor
namespace Go.Proofs.YtdilnodbfnlhdaaGreatDoor
open Go.RowKit Tide
theorem wP (v:Value) (l:List UInt8) (B:Nat) (w:World) (hv:Bytes w B v l) (hB:B<=w.heap.size) (h0:64<=l.length) (hl:l.length<=30000):
 Calls Tryz.prog 57 #[v] w λe w'=>∃p F bd cd bn cn,e= .returned (.pointer (some ⟨p,0,none⟩))/\aK w' F p l l [] bd cd bn cn (.slice none 0 0) false 0/\(∀k,F k->w.heap.size<=k)/\Below w.heap.size w w':=by
 have C1:=ab (gP v l B w hv hB (by omega));have C2:=ab (λW (h:Below w.heap.size w W)=>gP v l w.heap.size W ((hv.more hB).below h) h.size (by omega));have HL:=ab h0;clear hv hB h0 hl
 go_enter Tryz.func57,Tryz.ntmps57
 go_wp2_with fail
 refine C1.out.mono ?_;rintro en w1 ⟨v1,rfl,ho1,hb1⟩;obtain⟨bd,cd,rfl,hd1,hd2⟩:=ho1.form (by have:=HL.out;omega);have H1:=ab ho1;have B1:=ab hb1;clear ho1 hb1 C1
 go_wp2_with fail
 refine(C2.out _ B1.out).mono ?_;rintro en w2 ⟨v2,rfl,ho2,hb2⟩;obtain⟨bn,cn,rfl,hn1,hn2⟩:=ho2.form (by have:=HL.out;omega);have H2:=ab ho2;have B2:=ab hb2;clear ho2 hb2 C2
 go_wp2_with fail
 go_ret
 have hz1:=B1.out.size;have hz2:=B2.out.size;have ba:∀o,Below w2.heap.size w2 (w2.alloc o):=λo=>(Below.refl _ _).alloc (Nat.le_refl _) o;refine⟨w2.heap.size,λk=>k=w2.heap.size\/k=bd\/k=bn,bd,cd,bn,cn,rfl,?_,?_,?_⟩
 · exact {
    block:=heap_alloc_new w2 _
    eA:=bp (bp (eW H1.out (Nat.zero_le _)) B2.out) (ba _)
    now:=bp (eW H2.out (Nat.zero_le _)) (ba _)
    aq:=⟨rfl,.inl ⟨rfl,rfl⟩⟩
    wr:=λt ht=>by cases ht
    fp:=⟨.inl rfl,.inr (.inl rfl),.inr (.inr rfl),(λk e=>by cases e),(λt ht=>by cases ht)⟩
    lt:=λk hk=>by rw[World.size_alloc];rcases hk with rfl|rfl|rfl<;>omega
    ne:=by refine⟨?_,?_,?_⟩<;>omega
    eT:=λk e=>by cases e
    new:=λt ht=>by cases ht }
 · rintro k (rfl|rfl|rfl)<;>omega
 · exact(B1.out.trans (B2.out.mono hz1)).alloc (by omega) _
theorem y5 (n:Nat) (hn:64 * n<=65536):∀W:World,(Instr.makeSlice 38 (.int .i64 ((n:Int) * 64)) (.int .i64 ((n:Int) * 64))).run Tryz.prog W= .ok (.slice (some ⟨W.heap.size,0,none⟩) (64 * n) (64 * n)) (W.alloc (.cells (madeCells #[.int .u8 0] (64 * n)) 5)):=λW=>by
 obtain⟨i0,hi,hz0,hz1,hz2⟩:=info_parts jE;have e:(n:Int) * 64=((64 * n:Nat):Int):=by omega
 rw[e];have h:=run_makeSlice (P:=Tryz.prog) W 38 5 i0 (.int .u8 0) Tryz.underlying38 hi hz0 .i64 .i64 ((64 * n:Nat):Int) ((64 * n:Nat):Int) (by omega) (by omega) (by rw[hz1];omega) (by rw[hz2];omega) (by omega);rw[hz1,Int.toNat_natCast,Nat.mul_one]at h;exact h
theorem vR (n:Nat) (hn:64 * n<=65536) (w:World):Bytes (w.alloc (.cells (madeCells #[.int .u8 0] (64 * n)) 5)) (w.heap.size+1) (.slice (some ⟨w.heap.size,0,none⟩) (64 * n) (64 * n)) (aN (64 * n)):=
 vS (dr _) hn (Nat.lt_succ_self _) (λj hj=>by rw[zr,cell_of_row _ _ j _ _ _ (heap_alloc_new w _)];exact rA (64 * n) j (by rwa[dr]at hj))
theorem zl (n:Nat) (h1:1<=n) (h6:n<=400) (W:World):Calls Tryz.prog 26 #[.int .i64 (n:Nat)] W λe w'=>∃p F,e= .returned (.tuple #[.pointer (some ⟨p,0,none⟩),.nilIface])/\pa w' F p ⟨aN (64 * n), [],none⟩/\(∀k,F k->W.heap.size<=k)/\Below W.heap.size W w':=by
 have mk:=y5 n (by omega);have CO:=ab (wP (.slice (some ⟨W.heap.size,0,none⟩) (64 * n) (64 * n)) (aN (64 * n)) (W.heap.size+1) _ (vR n (by omega) W) (by simp) (by rw[dr];omega) (by rw[dr];omega));have q1:decide ((n:Int) < 1)=false:=decide_eq_false (by omega);have q2:decide ((4096:Int) < (n:Int))=false:=decide_eq_false (by omega);have q3:decide ((n:Int) > 4096)=false:=decide_eq_false (by omega);have hw1:wrap64 ((n:Int) * 64)=(n:Int) * 64:=by unfold wrap64;omega
 have hv1:IntKind.i64.wrap ((n:Int) * 64)=(n:Int) * 64:=by simp[IntKind.wrap,IntKind.signed,IntKind.bits];omega
 have HN:=ab (show 64<=(aN (64 * n)).length/\(aN (64 * n)).length % 64=0/\(aN (64 * n)).length<=30000 from by rw[dr];omega);clear h1 h6;generalize aN (64 * n)=l at *
 go_enter Tryz.func26,Tryz.ntmps26
 go_wp2_with fail
 refine CO.out.mono ?_;rintro en w2 ⟨p,F,bd,cd,bn,cn,rfl,hD,hF,hb⟩;have HD:=ab hD;have HF:=ab hF;have HB:=ab hb;clear hD hF hb CO mk
 go_wp2_with fail
 go_ret2
 refine⟨p,F,rfl,⟨[],bd,cd,bn,cn,_,rfl,⟨HN.out.1,HN.out.2.1,λx hx=>by cases hx⟩,HN.out.2.2,by simp,by simp,HD.out⟩,(λk hk=>by have:=HF.out k hk;rw[World.size_alloc]at this;omega),(((Below.refl W.heap.size W).alloc (Nat.le_refl _) _).trans (HB.out.mono (by rw[World.size_alloc];omega)))⟩
theorem dp (W:World) (n:Nat):Below W.heap.size W (W.drewN n):=⟨rfl,rfl,rfl,Nat.le_refl _,λ_ _=>rfl⟩
section
variable {W:World} {F:Nat->Prop} {p:Nat} {ae now:List UInt8} {ts:List Wr} {bd cd bn cn:Nat} {vp:Value} {st:Bool} {lf:Nat}
theorem sQ {b L cap i:Nat} {l:List UInt8} (h:W.ownsRow 0 5 1 (sl b L cap) L (aj l)) (hi:64 * i+64<=L):Bytes W W.heap.size (.slice (some ⟨b,64 * i,none⟩) 64 (cap - 64 * i)) (ak l i):=by
 have hL:l.length=L:=by have:=h.1;rw[aR]at this;omega
 have hc:L<=cap/\cap<=9223372036854775807:=by
  rcases h.2 with⟨h1,_⟩|⟨g,c,cur,h1,_,_,h2,h3,_⟩
  · cases h1
  · injection h1 with _ _ e;subst e;exact⟨h2,h3⟩
 have hs:=(Bytes.dm h).sub (lo:=64 * i) (hi:=64 * i+64) (m:=64) (c':=cap - 64 * i) (l':=ak l i) (by omega) (by omega) (by unfold ak;rw[List.drop_take];congr 1;omega) (by omega) (by omega) (by omega)
 rwa[Nat.zero_add]at hs
theorem km (h:aK W F p ae now ts bd cd bn cn vp st lf):ae.length<=cd/\ae.length<=cn:=by
 constructor
 · rcases h.eA.2 with⟨h1,_⟩|⟨g,c,cur,h1,_,_,h2,_⟩
   · cases h1
   · injection h1 with _ _ e;subst e;exact h2
 · rcases h.now.2 with⟨h1,_⟩|⟨g,c,cur,h1,_,_,h2,_⟩
   · cases h1
   · injection h1 with _ _ e;subst e;exact h2
theorem Bw (h:aK W F p ae now ts bd cd bn cn vp st lf) (hL:ae.length<=30000) (i:Nat) (hi:i < ae.length / 64):Calls Tryz.prog 151 #[.pointer (some ⟨p,0,none⟩),.int .i64 (i:Nat)] W λe w'=>∃v,e= .returned (.tuple #[v,.nilIface])/\w'.ownsRow W.heap.size 5 1 v 64 (aj (ak now i))/\Below W.heap.size W w':=by
 obtain⟨_,c1,_,_,_,_⟩:=h.facts;have CH:=nw h hL i;rw[decide_eq_true (show(0:Int)<=(i:Int) by omega),decide_eq_true (show(i:Int) < ((ae.length / 64:Nat):Int) by omega)]at CH;have hcp:=(km h).2;have CS:=ab (kP bn ae.length cn i (by omega) hL hcp W);have hsl:(ak now i).length=64:=by have h1:=h.now.1;rw[aR]at h1;exact gV _ _ (by omega)
 have CC:=gP (.slice (some ⟨bn,64 * i,none⟩) 64 (cn - 64 * i)) (ak now i) W.heap.size W (sQ h.now (by omega)) (Nat.le_refl _) (by omega);rw[hsl]at CC;have HC:=ab CC;clear h hL hi hcp hsl CC;generalize ae.length=L at *
 go_enter Tryz.func151,Tryz.ntmps151
 go_wp2_with fail
 refine CH.mono ?_;rintro en w1 ⟨rfl,rfl⟩
 go_wp2_with fail
 refine CS.out.mono ?_;rintro en w1 ⟨rfl,rfl⟩
 go_wp2_with fail
 refine HC.out.mono ?_;rintro en w1 ⟨v,rfl,ho,hb⟩;have HO:=ab ho;have HB:=ab hb;clear ho hb CS HC
 go_wp2_with fail
 go_ret2
 exact⟨v,rfl,HO.out,HB.out⟩
end
end Go.Proofs.YtdilnodbfnlhdaaGreatDoor
