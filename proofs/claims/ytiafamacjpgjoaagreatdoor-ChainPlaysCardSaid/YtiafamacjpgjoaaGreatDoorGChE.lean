import Derived.Test.YtiafamacjpgjoaaGreatDoorGPlR
import Derived.Test.YtiafamacjpgjoaaGreatDoorGBits7
namespace Go.Proofs.YtiafamacjpgjoaaGreatDoor
open Go.RowKit Tide
def ig (cs:List (List Int)):Bool:=decide (10 < cs.length) || cs.any λc=>decide (10 < c.length)
set_option maxHeartbeats 1000000 in
theorem zO (ep:Int) (cs:List (List Int)) (v:Value) (B:Nat) (w:World) (hv:b7 w B v cs) (hB:B<=w.heap.size):
 Calls Tryz.prog 6 #[cA ep v] w λe w'=>e= .returned (.bool (ig cs))/\Below w.heap.size w w':=by
 obtain⟨hlen,A,c,rfl,hcell⟩:=hv.form;have HC:=ab hcell;have HB:=ab hB;have B0:=ab ((Below.refl w.heap.size w).alloc (Nat.le_refl _) (.cells #[.int .i64 ep,.slice A cs.length c] 24));clear hv hcell hB;cases q0:decide ((10:Int) < (cs.length:Int)) with
 | true=>
   have HR:=ab (show ig cs=true from by unfold ig;simp at q0;rw[decide_eq_true (by omega)];rfl)
   go_enter Tryz.func6,Tryz.ntmps6
   go_wp2_with fail
   go_ret
   exact⟨by rw[HR.out]<;>rfl,B0.out⟩
 | false=>
   have HL:=ab (show ig cs=cs.any λc=>decide (10 < c.length) from by unfold ig;simp at q0;rw[decide_eq_false (by omega)];rfl);have hcb:Below w.heap.size w (w.alloc (.cells #[.int .i64 ep,.slice A cs.length c] 24)):=B0.out;have HCW:=ab (show ∀b o,b < w.heap.size->(w.alloc (.cells #[.int .i64 ep,.slice A cs.length c] 24)).cell? ⟨b,o,none⟩=w.cell? ⟨b,o,none⟩from eH hcb);clear hcb
   go_enter Tryz.func6,Tryz.ntmps6
   go_wp2_with fail
   go_loop [12] (λi=>∃k:Nat,i= .int .i64 k/\k<=cs.length/\Hid (((cs.take k).any λc=>decide (10 < c.length))=false)) (λi=>cs.length - (intOf i).toNat)
   case atStart=>exact⟨0,rfl,Nat.zero_le _,ab rfl⟩
   case round=>
    obtain⟨k,rfl,hk,hS⟩:=hrel;by_cases hlt:k < cs.length
    · obtain⟨b,o,u,rfl,hbl,hcu,hr⟩:=HC.out k hlt;obtain⟨hul,Au,cu,rfl,huc⟩:=cF hr;have hbw:b < w.heap.size:=Nat.lt_of_lt_of_le hbl HB.out;have hc1:=(HCW.out b (o+k) hbw).trans hcu;have i1:(k:Int) < (cs.length:Int):=by omega
      have HX:=ab (show(decide (10 < cs[k].length)=true->ig cs=true) from λh=>by rw[HL.out,List.any_eq_true];exact⟨_,List.getElem_mem hlt,h⟩);have HY:=ab (show(decide (10 < cs[k].length)=false->((cs.take (k+1)).any λc=>decide (10 < c.length))=false) from λh=>by rw[List.take_succ_eq_append_getElem hlt,List.any_append,hS.out];simpa using h);clear hr huc hcu;generalize cs[k]=cc at *;cases q4:decide ((10:Int) < (cc.length:Int)) with
      | true=>
        have HR:=ab (HX.out (by simp at q4;simp;omega))
        go_wp2_with fail
        go_ret
        exact⟨by rw[HR.out]<;>rfl,B0.out⟩
      | false=>
        have HR:=ab (HY.out (by simp at q4;simp;omega))
        go_wp2_with fail
        go_round
        case rel=>exact⟨k+1,by go_num,by omega,HR⟩
        case measure=>simp[intOf];omega
    · have HR:=ab (show ig cs=false from by rw[HL.out];have:=hS.out;rwa[List.take_of_length_le (by omega)]at this)
      go_wp2_with fail
      go_ret
      exact⟨by rw[HR.out]<;>rfl,B0.out⟩
end Go.Proofs.YtiafamacjpgjoaaGreatDoor
