import Derived.Test.YtdilnodbfnlhdaaGreatDoorGKeep
import Derived.WalkKit
import Derived.WalkSpells
import Derived.Laws.NewBlocks
namespace Go.Proofs.YtdilnodbfnlhdaaGreatDoor
open Go.RowKit Tide
def fA (W:World) (g:Nat) (l:List Int):Prop:=W.heap[g]? =some (.cells (marks l) 75 (0,0))
theorem fA.cell {W:World} {g:Nat} {l:List Int} (h:fA W g l) (n:Nat) (hn:n < 12):W.cell? ⟨g,n,none⟩=some (.bool (decide ((n:Int) ∈ l))):=by rw[cell_of_row _ _ n _ _ _ h,nP l n hn]
theorem fA.free {W:World} {g:Nat} {l:List Int} (h:fA W g l) (n:Nat):W.frozen? ⟨g,n,none⟩=false:=by unfold World.frozen?;rw[show W.heap[(⟨g,n,none⟩:Addr).block]? =_ from h];simp
theorem fA.set {W:World} {g:Nat} {l:List Int} (h:fA W g l) (n:Nat) (hn:n < 12):fA (W.setCell ⟨g,n,none⟩ (.bool true)) g (l ++ [(n:Int)]):=by obtain⟨hlt,hk⟩:=Array.getElem?_eq_some_iff.1 h;show(W.heap.modify g _)[g]? =_;rw[Array.getElem?_eq_getElem (by rw[Array.size_modify];exact hlt),Array.getElem_modify_self,hk,<-za l n hn];rfl
theorem DV (u:Int) (l:List Int) (g:Nat) (w:World) (h:fA w g l) (ht:takeB l u=false):
 Calls Tryz.prog 24 #[.int .i64 u,.pointer (some ⟨g,0,none⟩)] w λe w'=>e= .returned (.bool false)/\w=w':=by
 cases q0:decide (u < 0) with
 | true=>
   clear ht h
   go_enter Tryz.func24,Tryz.ntmps24
   go_wp2_with fail
   go_ret
   exact⟨rfl,rfl⟩
 | false=>
   cases q1:decide (12<=u) with
   | true=>
     clear ht h
     go_enter Tryz.func24,Tryz.ntmps24
     go_wp2_with fail
     go_ret
     exact⟨rfl,rfl⟩
   | false=>
     obtain⟨n,rfl⟩:∃n:Nat,u=n:=⟨u.toNat,by simp at q0;omega⟩;have hn:n < 12:=by simp at q1;omega
     have hm:decide ((n:Int) ∈ l)=true:=by
      unfold takeB at ht;simp only[Bool.and_eq_false_iff,Bool.not_eq_false',decide_eq_false_iff_not]at ht;rcases ht with h|h|h
      · omega
      · omega
      · exact h
     have hc:=h.cell n hn;rw[hm]at hc;have i1:(n:Int) < 12:=by omega
     clear ht h hm
     go_enter Tryz.func24,Tryz.ntmps24
     go_wp2_with fail
     go_ret
     exact⟨rfl,rfl⟩
theorem DX (n:Nat) (l:List Int) (g:Nat) (w:World) (h:fA w g l) (hn:n < 12) (hl:decide ((n:Int) ∈ l)=false):
 Calls Tryz.prog 24 #[.int .i64 (n:Int),.pointer (some ⟨g,0,none⟩)] w λe w'=>e= .returned (.bool true)/\w'=w.setCell ⟨g,n,none⟩ (.bool true):=by
 have hc:=h.cell n hn;have hf:=h.free n;rw[hl]at hc;have i1:(n:Int) < 12:=by omega
 have q0:decide ((n:Int) < 0)=false:=by simp
 have q1:decide (12<=(n:Int))=false:=by simp;omega
 clear hl h
 go_enter Tryz.func24,Tryz.ntmps24
 go_wp2_with fail
 go_ret
 exact⟨rfl,rfl⟩
abbrev cL (ep:Int) (v:Value):Value:= .agg #[.int .i64 ep,v]
set_option maxHeartbeats 2000000 in
theorem sC (ep:Int) (cs:List (List Int)) (v:Value) (B:Nat) (w:World) (hv:cO w B v cs) (hB:B<=w.heap.size):
 Calls Tryz.prog 8 #[cL ep v] w λe w'=>e= .returned (.bool (aP ep cs))/\Below w.heap.size w w':=by
 obtain⟨hlen,A,c,rfl,hcell⟩:=hv.form;have HC:=ab hcell;have HB:=ab hB;have B0:=ab ((Below.refl w.heap.size w).alloc (Nat.le_refl _) (.cells #[.int .i64 ep,.slice A cs.length c] 24));have hmf:∀ (fn:Fn) (first cap:Array Value) (w:World),(Instr.makeFunc fn first cap).run Tryz.prog w= .ok (.func fn first cap) w:=λ_ _ _ _=>rfl;clear hv hcell hB;cases q0:decide (ep < 0) with
 | true=>
   have HR:=ab (show aP ep cs=false from by unfold aP;simp at q0;simp;omega)
   go_enter Tryz.func8,Tryz.ntmps8
   go_wp2_with fail
   go_ret
   exact⟨by rw[HR.out]<;>rfl,B0.out⟩
 | false=>
 cases q1:decide (1073741824 < ep) with
 | true=>
   have HR:=ab (show aP ep cs=false from by unfold aP;simp at q1;simp;omega)
   go_enter Tryz.func8,Tryz.ntmps8
   go_wp2_with fail
   go_ret
   exact⟨by rw[HR.out]<;>rfl,B0.out⟩
 | false=>
 cases q2:decide ((cs.length:Int) < 1) with
 | true=>
   have HR:=ab (show aP ep cs=false from by unfold aP;simp at q2;simp;omega)
   go_enter Tryz.func8,Tryz.ntmps8
   go_wp2_with fail
   go_ret
   exact⟨by rw[HR.out]<;>rfl,B0.out⟩
 | false=>
 cases q3:decide ((3:Int) < (cs.length:Int)) with
 | true=>
   have HR:=ab (show aP ep cs=false from by unfold aP;simp at q3;simp;omega)
   go_enter Tryz.func8,Tryz.ntmps8
   go_wp2_with fail
   go_ret
   exact⟨by rw[HR.out]<;>rfl,B0.out⟩
 | false=>
   have HA:=ab (show(cs.all fu=true->dW cs.flatten=true->aP ep cs=true) from λh4 h5=>B7 q0 q1 q2 q3 h4 h5)
   go_enter Tryz.func8,Tryz.ntmps8
   go_wp2_with fail
   have HM:=ab (y9);have HT0:=ab (show fA ((w.alloc (.cells #[.int .i64 ep,.slice A cs.length c] 24)).alloc (.cells #[.bool false,.bool false,.bool false,.bool false,.bool false,.bool false,.bool false,.bool false,.bool false,.bool false,.bool false,.bool false] 75)) (w.heap.size+1) []from by unfold fA;rw[HM.out];have:=heap_alloc_new (w.alloc (.cells #[.int .i64 ep,.slice A cs.length c] 24)) (.cells #[.bool false,.bool false,.bool false,.bool false,.bool false,.bool false,.bool false,.bool false,.bool false,.bool false,.bool false,.bool false] 75);rwa[World.size_alloc]at this)
   go_loopw [31] (λi wr=>∃k:Nat,i= .int .i64 k/\k<=cs.length/\Hid ((cs.take k).all fu=true)/\Hid (dW (cs.take k).flatten=true)/\Hid (fA wr (w.heap.size+1) (cs.take k).flatten)/\Hid (Below w.heap.size w wr)) (λi _=>cs.length - (intOf i).toNat)
   case atStart=>exact⟨0,rfl,Nat.zero_le _,ab rfl,ab xH,HT0,ab (B0.out.alloc (by simp) _)⟩
   case round=>
    obtain⟨k,rfl,hk,hS,hG,hT,hBr⟩:=hrel;by_cases hlt:k < cs.length
    · obtain⟨b,o,u,rfl,hbl,hcu,hr⟩:=HC.out k hlt;obtain⟨hul,Au,cu,rfl,huc⟩:=dn hr;have hbw:b < w.heap.size:=Nat.lt_of_lt_of_le hbl HB.out;have hc1:=(hBr.out.cell (p:=⟨b,o+k,none⟩) hbw).trans hcu;have HU:=ab huc;have HSz:=ab (λ(h:fu cs[k]=false)=>Cb (ep:=ep) hlt h);have HUn:=ab (λ(j:Nat) (hj:j < cs[k].length) (h:takeB ((cs.take k).flatten ++ cs[k].take j) cs[k][j]=false)=>Cd (ep:=ep) hlt hj h);have HAl:=ab (show(fu cs[k]=true->(cs.take (k+1)).all fu=true) from λh=>by rw[List.take_succ_eq_append_getElem hlt,List.all_append,hS.out];simp[h]);have HFl:=ab (tC cs k hlt);have i1:(k:Int) < (cs.length:Int):=by omega
      clear hr huc hcu;generalize cs[k]=cc at *;cases q4:decide ((cc.length:Int) < 1) with
      | true=>
        have HR:=ab (HSz.out (by unfold fu;simp at q4;simp;omega))
        go_wp2_with fail
        go_ret
        exact⟨by rw[HR.out]<;>rfl,hBr.out⟩
      | false=>
      cases q5:decide ((3:Int) < (cc.length:Int)) with
      | true=>
        have HR:=ab (HSz.out (by unfold fu;simp at q5;simp;omega))
        go_wp2_with fail
        go_ret
        exact⟨by rw[HR.out]<;>rfl,hBr.out⟩
      | false=>
        have HA2:=ab (HAl.out (by unfold fu;simp at q4 q5;simp;omega))
        go_wp2_with fail
        go_loopw [45] (λi wr=>∃j:Nat,i= .int .i64 j/\j<=cc.length/\Hid (dW ((cs.take k).flatten ++ cc.take j)=true)/\Hid (fA wr (w.heap.size+1) ((cs.take k).flatten ++ cc.take j))/\Hid (Below w.heap.size w wr)) (λi _=>cc.length - (intOf i).toNat)
        case atStart=>exact⟨0,rfl,Nat.zero_le _,ab (by rw[List.take_zero,List.append_nil];exact hG.out),ab (by rw[List.take_zero,List.append_nil];exact hT.out),hBr⟩
        case round=>
         clear hG hT;obtain⟨j,rfl,hj,hG,hT,hBr2⟩:=hrel;by_cases hjl:j < cc.length
         · obtain⟨b2,o2,rfl,hbl2,hcu⟩:=HU.out j hjl;have hbw2:b2 < w.heap.size:=Nat.lt_of_lt_of_le hbl2 HB.out;have hc2:=(hBr2.out.cell (p:=⟨b2,o2+j,none⟩) hbw2).trans hcu;have i2:(j:Int) < (cc.length:Int):=by omega
           have HUj:=ab (HUn.out j hjl);have HTk:=ab (take_one cc j hjl);clear hcu;generalize cc[j]=x at *;cases ht:takeB ((cs.take k).flatten ++ cc.take j) x with
           | false=>
             have HR:=ab (HUj.out ht);have CT:=ab (DV x _ _ _ hT.out ht);clear ht
             go_wp2_with fail
             refine CT.out.mono ?_;rintro e w' ⟨rfl,rfl⟩
             go_wp2_with fail
             go_ret
             exact⟨by rw[HR.out]<;>rfl,hBr2.out⟩
           | true=>
             have HGo:=ab (show dW ((cs.take k).flatten ++ cc.take (j+1))=true from by rw[HTk.out,<-List.append_assoc,qH,hG.out,ht];rfl);obtain⟨n,rfl⟩:∃n:Nat,x=n:=⟨x.toNat,by unfold takeB at ht;simp at ht;omega⟩;have hn:n < 12:=by unfold takeB at ht;simp at ht;omega
             have hm:decide ((n:Int) ∈ (cs.take k).flatten ++ cc.take j)=false:=by unfold takeB at ht;simp only[Bool.and_eq_true,Bool.not_eq_true']at ht;exact ht.2.2
             have CT:=ab (DX n _ _ _ hT.out hn hm);have HT2:=ab (hT.out.set n hn);have HB2:=ab (hBr2.out.setCell (p:=⟨w.heap.size+1,n,none⟩) (Nat.le_succ _) (.bool true));clear ht hm
             go_wp2_with fail
             refine CT.out.mono ?_;rintro e w' ⟨rfl,rfl⟩
             go_wp2_with fail
             go_roundw
             case rel=>exact⟨j+1,by go_num,by omega,HGo,ab (by rw[HTk.out,<-List.append_assoc];exact HT2.out),HB2⟩
             case measure=>simp[intOf];omega
         · have HE:=ab (List.take_of_length_le (l:=cc) (i:=j) (by omega))
           go_wp2_with fail
           go_roundw
           case rel=>exact⟨k+1,by go_num,by omega,HA2,ab (by rw[HFl.out,<-HE.out];exact hG.out),ab (by rw[HFl.out,<-HE.out];exact hT.out),hBr2⟩
           case measure=>simp[intOf];omega
    · have HR:=ab (show aP ep cs=true from HA.out (by rw[<-List.take_of_length_le (l:=cs) (i:=k) (by omega)];exact hS.out) (by rw[<-List.take_of_length_le (l:=cs) (i:=k) (by omega)];exact hG.out))
      go_wp2_with fail
      go_ret
      exact⟨by rw[HR.out]<;>rfl,hBr.out⟩
end Go.Proofs.YtdilnodbfnlhdaaGreatDoor
