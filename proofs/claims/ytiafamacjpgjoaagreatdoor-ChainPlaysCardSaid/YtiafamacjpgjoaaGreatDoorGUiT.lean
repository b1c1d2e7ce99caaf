import Derived.Test.YtiafamacjpgjoaaGreatDoorGUiM
import Derived.Test.YtiafamacjpgjoaaGreatDoorGErr
set_option maxHeartbeats 1000000
namespace Go.Proofs.YtiafamacjpgjoaaGreatDoor
open Go Go.RowKit Tide
structure b9 (W:World) (g p bm:Nat) (s:aV):Prop where
 cells:W.heap[g]? =some (.cells #[.pointer (some ⟨p,0,none⟩),.map (some bm),.int .i64 (s.trimmed:Int),.int .i64 (s.ag:Int)] 112)
 map:fa W bm s.aD
structure eZ (s:aV):Prop where
 trimmed:s.trimmed<=4096
 ag:s.ag<=1073741824
 gF:∀q ∈ s.aD,q.af<=4095
 ae:∀q ∈ s.aD,q.aQ<=100000
 once:(s.aD.map bk.af).Nodup
section
variable {W W':World} {g p bm:Nat} {s:aV}
theorem b9.lt (h:b9 W g p bm s):g < W.heap.size:=by
 rcases Nat.lt_or_ge g W.heap.size with hlt|hge
 · exact hlt
 · have:=h.cells;rw[Array.getElem?_eq_none hge]at this;cases this
theorem b9.ne (h:b9 W g p bm s):g≠bm:=λe=>by obtain⟨D,⟨es,clock,h1,_⟩,_⟩:=h.map;have:=h.cells;rw[e,h1]at this;cases this
theorem b9.facts (h:b9 W g p bm s):g < W.heap.size/\W.cell? ⟨g,0,none⟩=some (.pointer (some ⟨p,0,none⟩))/\W.cell? ⟨g,1,none⟩=some (.map (some bm))/\W.cell? ⟨g,2,none⟩=some (.int .i64 (s.trimmed:Int))/\W.cell? ⟨g,3,none⟩=some (.int .i64 (s.ag:Int))/\∀i,W.frozen? ⟨g,i,none⟩=false:=by refine⟨h.lt,by rw[cell_of_row _ _ 0 _ _ _ h.cells];rfl,by rw[cell_of_row _ _ 1 _ _ _ h.cells];rfl,by rw[cell_of_row _ _ 2 _ _ _ h.cells];rfl,by rw[cell_of_row _ _ 3 _ _ _ h.cells];rfl,λi=> ?_⟩;unfold World.frozen?;rw[show W.heap[(⟨g,i,none⟩:Addr).block]? =_ from h.cells];simp
theorem b9.kept {F:Nat->Prop} (h:b9 W g p bm s) (hk:Kept F W W') (hg:¬F g) (hb:¬F bm):b9 W' g p bm s:=⟨hk.heap h.cells hg,h.map.kept hk hb⟩
theorem b9.below (h:b9 W g p bm s) (hb:Below W.heap.size W W'):b9 W' g p bm s:=h.kept (F:=λ_=>False) (Kept.an hb) (λh=>h) (λh=>h)
theorem pW (h:b9 W g p bm s) (a:Int) (h0: -9223372036854775808<=a) (h1:a<=9223372036854775807):
 Calls Tryz.prog 106 #[.pointer (some ⟨g,0,none⟩),.int .i64 a] W λe w'=>e= .returned (.bool (s.aD.any λq=>(q.af:Int) == a))/\Below W.heap.size W w':=by
 obtain⟨_,c0,c1,c2,c3,_⟩:=h.facts;have hM:=ab h.map;obtain⟨R,hR⟩:=aa ((s.aD.any λq=>(q.af:Int) == a));have HR:=ab hR;rw[hR];clear h hR
 go_enter Tryz.func106,Tryz.ntmps106
 go_wp2_with (at_lookup;refine EP _ hM.out rfl _ _ rfl rfl a rfl h0 h1 ?_;intro s' g' _;rw[HR.out])
 go_ret
 exact⟨rfl,(Below.refl _ _).alloc (Nat.le_refl _) _⟩
theorem lC (a b:Int):(bq a).sameKey (bq b)=true<->a=b:=by
 constructor
 · intro h;have:=WideAt.sameKey_eq h;injection this
 · intro h;subst h;simp[Lit.sameKey]
theorem kp {left:Lit->Bool} {a b:Int}:(left (bq a) && !(bq a).sameKey (bq b))=false<->left (bq a)=false\/a=b:=by
 cases h:left (bq a) with
 | false=>simp
 | true=>
   rw[Bool.true_and];constructor
   · intro h1;exact .inr ((lC a b).1 (by simpa using h1))
   · rintro(h1|h1)
     · cases h1
     · rw[(lC a b).2 h1];rfl
theorem pN (h:b9 W g p bm s) (hk:eZ s):Calls Tryz.prog 57 #[.pointer (some ⟨g,0,none⟩)] W λe w'=>e= .returned (.int .i64 (gA s:Int))/\Below W.heap.size W w':=by
 obtain⟨hg,c0,c1,c2,c3,_⟩:=h.facts;have hM:=ab h.map;have HT:=hk.trimmed;have HA:=ab hk.gF;have hbm:=h.map.lt;clear h hk
 go_enter Tryz.func57,Tryz.ntmps57
 go_wp2_with (at_range;refine qg _ hM.out rfl _ rfl rfl ?_;intro w0 left0 cnt0 hr0 hl0 hb0 hs0)
 go_frame
 have R0:=ab hr0;have B0:=ab hb0;have L0:=ab (show ∀n,s.trimmed<=n<->s.trimmed<=n/\∀q ∈ s.aD,left0 (bq q.af)=false->q.af+1<=n from λn=>⟨λh=>⟨h,λq hq hl=>by rw[hl0,List.any_eq_false]at hl;exact absurd (beq_self_eq_true (q.af:Int)) (hl q hq)⟩,λh=>h.1⟩);clear hr0 hb0 hl0
 go_loopw [3] (λt wr=>∃ (left:Lit->Bool) (cnt T:Nat),t= .int .i64 (T:Int)/\T<=5000/\Hid (eG wr bm W.heap.size s.aD left cnt)/\Hid (∀n,T<=n<->s.trimmed<=n/\∀q ∈ s.aD,left (bq q.af)=false->q.af+1<=n)/\Hid (Below W.heap.size W wr)) (λ_ wr=>wr.rangeLeft bm W.heap.size)
 case atStart=>exact⟨left0,cnt0,s.trimmed,rfl,by omega,R0,L0,B0⟩
 case round=>
  clear R0 L0 B0;obtain⟨left,cnt,T,rfl,hT,hRg,hL,hBr⟩:=hrel
  go_wp2_with (at_next;refine qb _ hRg.out rfl _ rfl rfl ?_ ?_)
  · intro hl;have HE:=ab (show T=gA s from by
     have h1:∀n,T<=n<->gA s<=n:=λn=>by rw[hL.out n];unfold gA;rw[uJ];exact⟨λh=>⟨h.1,λq hq=>h.2 q hq (hl _)⟩,λh=>⟨h.1,λq hq _=>h.2 q hq⟩⟩
     exact Nat.le_antisymm ((h1 _).2 (Nat.le_refl _)) ((h1 _).1 (Nat.le_refl _)))
    clear hl
    go_wp2_with fail
    go_ret
    exact⟨by rw[HE.out]<;>rfl,hBr.out⟩
  · intro q w1 cnt1 hq hlq hr1 hlt hk1 hs1 hen;have hqa:=HA.out q hq;have R1:=ab hr1;have B1:=ab (hBr.out.trans (hk1.below hBr.out.size (λi hi=>by rw[show i=W.heap.size from hi];exact Nat.le_refl _)));have L1:=ab (show ∀n,max T (q.af+1)<=n<->s.trimmed<=n/\∀q' ∈ s.aD,(left (bq q'.af) && !(bq q'.af).sameKey (bq q.af))=false->q'.af+1<=n from λn=>by
     constructor
     · intro h;have h2:=(hL.out n).1 (by omega);refine⟨h2.1,λq' hq' hl'=> ?_⟩;rcases kp.1 hl' with h3|h3
       · exact h2.2 q' hq' h3
       · omega
     · rintro⟨h1,h2⟩;have h3:=(hL.out n).2 ⟨h1,λq' hq' hl'=>h2 q' hq' (kp.2 (.inl hl'))⟩;have h4:=h2 q hq (kp.2 (.inr rfl));omega)
    have HM:=ab (show wr.rangeLeft bm W.heap.size=cnt from hRg.out.left_eq);have HM1:=ab (show w1.rangeLeft bm W.heap.size=cnt1 from hr1.left_eq);clear hr1 hk1 hq hlq;by_cases hm:(T:Int) < (q.af:Int)+1
    · have e1:max T (q.af+1)=q.af+1:=by omega
      rw[e1]at L1
      go_wp2_with fail
      go_roundw
      case rel=>exact⟨_,cnt1,q.af+1,by go_num,by omega,R1,L1,B1⟩
      case measure=>rw[HM.out,HM1.out];exact hlt
    · have e1:max T (q.af+1)=T:=by omega
      rw[e1]at L1
      go_wp2_with fail
      go_roundw
      case rel=>exact⟨_,cnt1,T,rfl,hT,R1,L1,B1⟩
      case measure=>rw[HM.out,HM1.out];exact hlt
theorem rS (h:b9 W g p bm s) (hk:eZ s):Calls Tryz.prog 82 #[.pointer (some ⟨g,0,none⟩)] W λe w'=>e= .returned (.tuple #[])/\b9 w' g p bm (cE s)/\Kept (λk=>k=bm) W w':=by
 obtain⟨hg,c0,c1,c2,c3,_⟩:=h.facts;have H:=ab h;have hM:=ab h.map;have HK:=ab hk;have hbm:=h.map.lt;have hne:=h.ne;have HTr:=hk.trimmed;clear h hk
 go_enter Tryz.func82,Tryz.ntmps82
 go_wp2_with (at_range;refine qg _ hM.out rfl _ rfl rfl ?_;intro w0 left0 cnt0 hr0 hl0 hb0 hs0)
 go_frame
 have R0:=ab (show eG w0 bm W.heap.size (s.aD.filter λq=>decide (s.trimmed<=q.af) || left0 (bq q.af)) left0 cnt0 from by rw[List.filter_eq_self.2 (λq hq=>by rw[hl0,Bool.or_eq_true];exact .inr (List.any_eq_true.2 ⟨q,hq,by simp⟩))];exact hr0);have K0:=ab (Kept.an (F:=λk=>k=bm) hb0);clear hr0 hb0 hl0 c0 c1 c2 c3
 go_loopw [2] (λ_ wr=>∃ (left:Lit->Bool) (cnt:Nat),Hid (eG wr bm W.heap.size (s.aD.filter λq=>decide (s.trimmed<=q.af) || left (bq q.af)) left cnt)/\Hid (Kept (λk=>k=bm) W wr)) (λ_ wr=>wr.rangeLeft bm W.heap.size)
 case atStart=>exact⟨left0,cnt0,R0,K0⟩
 case round=>
  clear R0 K0;obtain⟨left,cnt,hRg0,hKr⟩:=hrel;obtain⟨L,hL⟩:=aa ((s.aD.filter λq=>decide (s.trimmed<=q.af) || left (bq q.af)));have HL:=ab hL;have hRg:=ab (show eG wr bm W.heap.size L left cnt from by rw[<-hL];exact hRg0.out);clear hL hRg0
  go_wp2_with (at_next;refine qb _ hRg.out rfl _ rfl rfl ?_ ?_)
  · intro hl;have HU:=ab (show b9 wr g p bm (cE s) from⟨hKr.out.heap H.out.cells (λe=>hne e),by have:=hRg.out.map;rw[<-HL.out]at this;unfold cE;rw[List.filter_congr (λq _=>by rw[hl,Bool.or_false])]at this;exact this⟩);clear hl
    go_wp2_with fail
    go_end0
    exact⟨rfl,HU.out,hKr.out⟩
  · intro q w1 cnt1 hq hlq hr1 hlt hk1 hs1 hen;have hq2:=List.mem_filter.1 (show q ∈ (s.aD.filter λq=>decide (s.trimmed<=q.af) || left (bq q.af)) from by rw[HL.out];exact hq);have hqa:=HK.out.gF q hq2.1;have K1:=ab (hKr.out.trans hk1 (λi hi=> .inr (by rw[show i=W.heap.size from hi];exact Nat.le_refl _)));obtain⟨_,d0,d1,d2,d3,_⟩:=(show b9 w1 g p bm ⟨L,s.trimmed,s.ag⟩from⟨K1.out.heap H.out.cells (λe=>hne e),hr1.map⟩).facts;have R1:=ab hr1;have HM:=ab (show wr.rangeLeft bm W.heap.size=cnt from hRg.out.left_eq);have HM1:=ab (show w1.rangeLeft bm W.heap.size=cnt1 from hr1.left_eq);have HN:=ab (show(L.map bk.af).Nodup from by rw[<-HL.out];exact HK.out.once.sublist (List.Sublist.map _ List.filter_sublist));have HQ:=ab hq2.1;clear hr1 hk1 hq hq2;by_cases hm:(q.af:Int) < (s.trimmed:Int)
    · have HF:=ab (show L.filter (λx=> !((x.af:Int) == (q.af:Int)))=s.aD.filter λx=>decide (s.trimmed<=x.af) || (left (bq x.af) && !(bq x.af).sameKey (bq q.af)) from by
       rw[<-HL.out,List.filter_filter];refine List.filter_congr (λx _=> ?_);by_cases e:(x.af:Int)=(q.af:Int)
       · have h1:¬s.trimmed<=x.af:=by omega
         have h2:=(lC (x.af:Int) (q.af:Int)).2 e;simp[h1,e];rw[e]at h2;intro _;simpa using h2
       · have h2:(bq (x.af:Int)).sameKey (bq (q.af:Int))=false:=by rw[Bool.eq_false_iff];intro h;exact e ((lC _ _).1 h)
         simp[e,h2])
      go_wp2_with (at_delete;refine EN _ R1.out HN.out rfl _ _ rfl rfl (q.af:Int) rfl (by omega) (by omega) ?_;intro w2 cnt2 hr2 hle hk2;go_frame)
      have R2:=ab (show eG w2 bm W.heap.size (s.aD.filter λx=>decide (s.trimmed<=x.af) || (left (bq x.af) && !(bq x.af).sameKey (bq q.af))) (λz=>left z && !z.sameKey (bq q.af)) cnt2 from by rw[<-HF.out];have:(λz:Lit=>(left z && !z.sameKey (bq q.af)) && !z.sameKey (bq q.af))=λz=>left z && !z.sameKey (bq q.af):=Maps.strike_twice _ _;rw[this]at hr2;exact hr2);have K2:=ab (K1.out.trans hk2 (λi hi=> .inl hi));have HM2:=ab (show w2.rangeLeft bm W.heap.size=cnt2 from hr2.left_eq);clear hr2 hk2
      go_roundw
      case rel=>exact⟨_,cnt2,R2,K2⟩
      case measure=>rw[HM.out,HM2.out];omega
    · have HF:=ab (show L=s.aD.filter λx=>decide (s.trimmed<=x.af) || (left (bq x.af) && !(bq x.af).sameKey (bq q.af)) from by
       rw[<-HL.out];refine List.filter_congr (λx _=> ?_);by_cases e:(x.af:Int)=(q.af:Int)
       · have h1:s.trimmed<=x.af:=by omega
         simp[h1]
       · have h2:(bq (x.af:Int)).sameKey (bq (q.af:Int))=false:=by rw[Bool.eq_false_iff];intro h;exact e ((lC _ _).1 h)
         simp[h2])
      rw[HF.out]at R1
      go_wp2_with fail
      go_roundw
      case rel=>exact⟨_,cnt1,R1,K1⟩
      case measure=>rw[HM.out,HM1.out];exact hlt
end
end Go.Proofs.YtiafamacjpgjoaaGreatDoor
