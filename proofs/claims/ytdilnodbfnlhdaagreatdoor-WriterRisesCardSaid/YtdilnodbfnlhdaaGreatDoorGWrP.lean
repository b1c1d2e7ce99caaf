import Derived.Test.YtdilnodbfnlhdaaGreatDoorGUlA
import Derived.Test.YtdilnodbfnlhdaaGreatDoorGKinO
import Derived.Test.YtdilnodbfnlhdaaGreatDoorGTkD
import Derived.Test.YtdilnodbfnlhdaaGreatDoorGKinB
import Derived.Test.YtdilnodbfnlhdaaGreatDoorGUiR
import Derived.Test.YtdilnodbfnlhdaaGreatDoorGPackN
import Derived.OneCell
import Derived.WalkKit
import Derived.WalkSpells
import Derived.Deep.QuietTactic
import Derived.BigQuiet
import Derived.Deep.RegionHeld
set_option maxRecDepth 100000
set_option maxHeartbeats 4000000
namespace Go.Proofs.YtdilnodbfnlhdaaGreatDoor
open Go.RowKit Tide
def One (W:World) (g:Nat) (b:Int):Prop:=W.heap[g]? =some (.cells #[.int .i64 b] 3 (0,0))
theorem zq (x b:Int) (g:Nat) (w:World) (h:One w g b):
 Calls Tryz.prog 164 #[.int .i64 x,.pointer (some ⟨g,0,none⟩)] w λe w'=>e= .returned (.bool (decide (0<=x) && decide (x < b)))/\w'=w.setCell ⟨g,0,none⟩ (.int .i64 x):=by
 have hc:=cell_of_one h;have hf:=free_of_one h;clear h;cases h0:decide (0<=x)<;>cases h1:decide (x < b)
 all_goals
  go_enter Tryz.func164,Tryz.ntmps164
  go_wp2_with fail
  go_ret
  exact⟨rfl,rfl⟩
theorem xj (w:World):Calls Tryz.prog 142 #[] w λe w'=>e= .returned (.func (.func 164) #[] #[.pointer (some ⟨w.heap.size,0,none⟩)])/\One w' w.heap.size 4096/\Below w.heap.size w w':=by
 have hmf:∀ (fn:Fn) (first cap:Array Value) (w:World),(Instr.makeFunc fn first cap).run Tryz.prog w= .ok (.func fn first cap) w:=λ_ _ _ _=>rfl
 go_enter Tryz.func142,Tryz.ntmps142
 go_wp2_with fail
 go_ret
 exact⟨rfl,heap_alloc_new w _,(Below.refl _ _).alloc (Nat.le_refl _) _⟩
theorem BX (l:List Int) (v:Value) (B:Nat) (w:World) (hv:Row w B v (ay l)) (hB:B<=w.heap.size):
 Calls Tryz.prog 97 #[v] w λe w'=>e= .returned (.bool (eE l))/\Below w.heap.size w w':=by
 have hlen:l.length<=9223372036854775807:=by have:=hv.1;rwa[dk]at this
 obtain⟨A,c,rfl,hcell⟩:=nD hv;have HC:=ab hcell;clear hv hcell;have CF:=ab (xj w);cases h4:decide ((4:Int) < (l.length:Int)) with
 | true=>
   have HR:=ab (show eE l=false from by unfold eE;rw[h4];rfl)
   go_enter Tryz.func97,Tryz.ntmps97
   go_wp2_with fail
   go_ret
   exact⟨by rw[HR.out]<;>rfl,Below.refl _ _⟩
 | false=>
   have HR:=ab (show eE l=dV 4096 l from by unfold eE;rw[h4];rfl)
   go_enter Tryz.func97,Tryz.ntmps97
   go_wp2_with fail
   refine CF.out.mono ?_;rintro en w1 ⟨rfl,ho,hb⟩;have HO:=ab ho;have HB1:=ab hb;clear ho hb CF
   go_wp2_with fail
   go_loopw [12] (λi wr=>∃ (k:Nat) (b:Int),i= .int .i64 k/\k<=l.length/\Hid (eE l=dV b (l.drop k))/\Hid (One wr w.heap.size b)/\Hid (Below w.heap.size w wr)) (λi _=>l.length - (intOf i).toNat)
   case atStart=>exact⟨0,4096,rfl,Nat.zero_le _,ab HR.out,HO,HB1⟩
   case round=>
    obtain⟨k,b,rfl,hk,hF,hO,hBr⟩:=hrel;by_cases hlt:k < l.length
    · obtain⟨bb,o,rfl,hbl,hc⟩:=HC.out k hlt;have hbw:bb < w.heap.size:=Nat.lt_of_lt_of_le hbl hB;have hc1:wr.cell? ⟨bb,o+k,none⟩=some (.int .i64 l[k]):=(hBr.out.cell (p:=⟨bb,o+k,none⟩) hbw).trans (hc k hlt);have HD:=ab (xh b l k hlt);clear hc;generalize l[k]=x at *;have CN:=zq x b w.heap.size wr hO.out;cases ht:(decide (0<=x) && decide (x < b)) with
      | true=>
        rw[ht]at CN;have HN:=ab CN;have HF2:=ab (show eE l=dV x (l.drop (k+1)) from by rw[hF.out,HD.out,ht,Bool.true_and]);clear CN ht
        go_wp2_with fail
        refine HN.out.mono ?_;rintro en w2 ⟨rfl,rfl⟩;have HO2:=ab (show One (wr.setCell ⟨w.heap.size,0,none⟩ (.int .i64 x)) w.heap.size x from one_setCell hO.out);have HB2:=ab (hBr.out.setCell (p:=⟨w.heap.size,0,none⟩) (Nat.le_refl _) (.int .i64 x))
        go_wp2_with fail
        go_roundw
        case rel=>exact⟨k+1,x,by go_num,by omega,HF2,HO2,HB2⟩
        case measure=>simp[intOf];omega
      | false=>
        rw[ht]at CN;have HN:=ab CN;have HF2:=ab (show eE l=false from by rw[hF.out,HD.out,ht,Bool.false_and]);have HB2:=ab (hBr.out.setCell (p:=⟨w.heap.size,0,none⟩) (Nat.le_refl _) (.int .i64 x));clear CN ht
        go_wp2_with fail
        refine HN.out.mono ?_;rintro en w2 ⟨rfl,rfl⟩
        go_wp2_with fail
        go_ret
        exact⟨by rw[HF2.out]<;>rfl,HB2.out⟩
    · have HF2:=ab (show eE l=true from by rw[hF.out,List.drop_eq_nil_of_le (by omega)];rfl)
      go_wp2_with fail
      go_ret
      exact⟨by rw[HF2.out]<;>rfl,hBr.out⟩
end Go.Proofs.YtdilnodbfnlhdaaGreatDoor
namespace Go.Proofs.YtdilnodbfnlhdaaGreatDoor
open Go.RowKit Tide
theorem nC {w:World} {B:Nat} {v:Value} {zs:List Int} (h:Row w B v (ay zs)):∃A c,v= .slice A zs.length c:=by obtain⟨_,A,c,rfl,_⟩:=h;exact⟨A,c,by rw[dk]⟩
theorem AX (ds:List fe) (ss:List Int) (v u:Value) (B B2:Nat) (w:World) (hv:ie w B v ds) (hu:Row w B2 u (ay ss)) (hB:B<=w.heap.size) (hB2:B2<=w.heap.size):
 Calls Tryz.prog 46 #[v,u] w λe w'=>e= .returned (.bool (dD ds ss))/\Below w.heap.size w w':=by
 have hlen2:ss.length<=9223372036854775807:=by have:=hu.1;rwa[dk]at this
 obtain⟨A,c,rfl,hlen,hcell⟩:=hv.form;obtain⟨A2,c2,rfl,hcell2⟩:=nD hu;have HC:=ab hcell;have HC2:=ab hcell2;have HB:=ab hB;have HB2:=ab hB2;clear hv hu hcell hcell2 hB hB2;by_cases hne:ds.length=ss.length
 · have q0:((ds.length:Int) == (ss.length:Int))=true:=by rw[hne];simp
   have q1:((ds.length:Int) != (ss.length:Int))=false:=by rw[hne];simp
   have HNE:=ab hne;clear hne
   go_enter Tryz.func46,Tryz.ntmps46
   go_wp2_with fail
   clear q0 q1
   go_loopw [14] (λi wr=>∃k:Nat,i= .int .i64 k/\k<=ds.length/\Hid (dD ds ss=dD (ds.drop k) (ss.drop k))/\Hid (Below w.heap.size w wr)) (λi _=>ds.length - (intOf i).toNat)
   case atStart=>exact⟨0,rfl,Nat.zero_le _,ab rfl,ab (Below.refl _ _)⟩
   case round=>
    obtain⟨k,rfl,hk,hF,hBr⟩:=hrel;by_cases hlt:k < ds.length
    · have hlt2:k < ss.length:=by have:=HNE.out;omega
      obtain⟨bb,o,uu,rfl,hbl,h0,h1,hr⟩:=HC.out k hlt;obtain⟨bb2,o2,rfl,hbl2,hc2⟩:=HC2.out k hlt2;have hbw:bb < w.heap.size:=Nat.lt_of_lt_of_le hbl HB.out;have hbw2:bb2 < w.heap.size:=Nat.lt_of_lt_of_le hbl2 HB2.out;obtain⟨Au,cu,rfl⟩:=nC hr;have HRow:=ab hr;have hws:=hBr.out.size;have f0:=(hBr.out.cell (p:=⟨bb,o+k * 2,none⟩) hbw).trans h0;have f1:=(hBr.out.cell (p:=⟨bb,o+k * 2+1,none⟩) hbw).trans h1;have f2:wr.cell? ⟨bb2,o2+k,none⟩=some (.int .i64 ss[k]):=(hBr.out.cell (p:=⟨bb2,o2+k,none⟩) hbw2).trans (hc2 k hlt2);have HD:=ab (Ce ds ss k hlt hlt2);have hl1:bb < wr.heap.size:=by omega
      have hl2:bb2 < wr.heap.size:=by omega
      have i1:(k:Int) < (ss.length:Int):=by omega
      clear h0 h1 hc2 hr;generalize ds[k]=d at *;generalize ss[k]=s at *;obtain⟨st,zs⟩:=d;simp only at *;have W1:=ab (show Below w.heap.size w (wr.alloc (.cells #[.int .i64 st,.slice Au zs.length cu] 157)) from hBr.out.alloc hws _);have KX:=ab (show ∀W,Below (wr.heap.size+1) (wr.alloc (.cells #[.int .i64 st,.slice Au zs.length cu] 157)) W->W.cell? ⟨wr.heap.size,0,none⟩=some (.int .i64 st)/\W.cell? ⟨wr.heap.size,1,none⟩=some (.slice Au zs.length cu)/\W.cell? ⟨bb2,o2+k,none⟩=some (.int .i64 s) from λW h=>by
       refine⟨?_,?_,?_⟩
       · rw[h.cell (p:=⟨wr.heap.size,0,none⟩) (Nat.lt_succ_self _),cell_of_row _ _ 0 _ _ _ (heap_alloc_new wr _)];rfl
       · rw[h.cell (p:=⟨wr.heap.size,1,none⟩) (Nat.lt_succ_self _),cell_of_row _ _ 1 _ _ _ (heap_alloc_new wr _)];rfl
       · rw[h.cell (p:=⟨bb2,o2+k,none⟩) (by show bb2 < _;omega),World.cell?_alloc_past _ _ _ (by simpa using hl2)];exact f2)
      by_cases hs:st=s
      · have q0:(st == s)=true:=by simp[hs]
        have q1:(st != s)=false:=by simp[hs]
        have HF2:=ab (show dD ds ss=(eE zs && dD (ds.drop (k+1)) (ss.drop (k+1))) from by rw[hF.out,HD.out,decide_eq_true hs,Bool.true_and]);have D0:=ab ((Below.refl (wr.heap.size+1) (wr.alloc (.cells #[.int .i64 st,.slice Au zs.length cu] 157))).drew);have hs1:(wr.alloc (.cells #[.int .i64 st,.slice Au zs.length cu] 157)).heap.size=wr.heap.size+1:=by simp
        have CR:=ab (λW (h:Below (wr.heap.size+1) (wr.alloc (.cells #[.int .i64 st,.slice Au zs.length cu] 157)) W)=>BX zs (.slice Au zs.length cu) B W (Row.an HRow.out (ew ((W1.out.trans (h.mono (by omega))).mono HB.out))) (Nat.le_trans HB.out (W1.out.trans (h.mono (by omega))).size));have UP:=ab (show ∀W,Below (wr.heap.size+1) (wr.alloc (.cells #[.int .i64 st,.slice Au zs.length cu] 157)) W->Below w.heap.size w W from λW h=>W1.out.trans (h.mono (by omega)));clear hs;cases hz:eE zs with
        | true=>
          rw[hz]at CR HF2;clear hz
          go_wp2_with fail
          generalize wr.alloc (.cells #[.int .i64 st,.slice Au zs.length cu] 157)=w1 at *
          go_region_held (λW=>W.cell? ⟨wr.heap.size,0,none⟩=some (.int .i64 st)/\W.cell? ⟨wr.heap.size,1,none⟩=some (Value.slice Au zs.length cu)/\W.cell? ⟨bb2,o2+k,none⟩=some (.int .i64 s))
           (first|exact KX.out _ D0.out|exact KX.out _ D1.out|assumption)
           (first
             | (go_at_call 97;(with_reducible refine(CR.out _ ?_).mono ?_);exact D0.out;rintro en w6 ⟨rfl,hb⟩;have D1:=ab (D0.out.trans (hb.mono (by have:=D0.out.size;omega)));clear hb))
          all_goals
           go_wp2_with fail
           go_roundw
           case rel=>exact⟨k+1,by go_num,by omega,ab (by rw[HF2.out,Bool.true_and]),ab (UP.out _ D1.out)⟩
           case measure=>simp[intOf];omega
        | false=>
          rw[hz]at CR HF2;clear hz
          go_wp2_with fail
          generalize wr.alloc (.cells #[.int .i64 st,.slice Au zs.length cu] 157)=w1 at *
          go_region_held (λW=>W.cell? ⟨wr.heap.size,0,none⟩=some (.int .i64 st)/\W.cell? ⟨wr.heap.size,1,none⟩=some (Value.slice Au zs.length cu)/\W.cell? ⟨bb2,o2+k,none⟩=some (.int .i64 s))
           (first|exact KX.out _ D0.out|exact KX.out _ D1.out|assumption)
           (first
             | (go_at_call 97;(with_reducible refine(CR.out _ ?_).mono ?_);exact D0.out;rintro en w6 ⟨rfl,hb⟩;have D1:=ab (D0.out.trans (hb.mono (by have:=D0.out.size;omega)));clear hb))
          all_goals
           go_wp2_with fail
           go_ret
           exact⟨by rw[HF2.out]<;>rfl,UP.out _ D1.out⟩
      · have q0:(st == s)=false:=by simp[hs]
        have q1:(st != s)=true:=by simp[hs]
        have HF2:=ab (show dD ds ss=false from by rw[hF.out,HD.out,decide_eq_false hs,Bool.false_and,Bool.false_and]);have HW1:=ab W1.out;clear hs
        go_wp2_with fail
        obtain⟨k0,k1,k2⟩:=KX.out _ (Below.refl _ _);generalize wr.alloc (.cells #[.int .i64 st,.slice Au zs.length cu] 157)=w1 at *
        go_quiet (fail)
        go_wp2_with fail
        go_ret
        exact⟨by rw[HF2.out]<;>rfl,⟨HW1.out.os,HW1.out.tape,HW1.out.output,HW1.out.size,HW1.out.block⟩⟩
    · have HF2:=ab (show dD ds ss=true from by rw[hF.out,List.drop_eq_nil_of_le (by omega),List.drop_eq_nil_of_le (by have:=HNE.out;omega)];rfl)
      go_wp2_with fail
      go_ret
      exact⟨by rw[HF2.out]<;>rfl,hBr.out⟩
 · have q0:((ds.length:Int) == (ss.length:Int))=false:=by simp;omega
   have q1:((ds.length:Int) != (ss.length:Int))=true:=by simp;omega
   have HF:=ab (sD ds ss hne);clear hne
   go_enter Tryz.func46,Tryz.ntmps46
   go_wp2_with fail
   go_ret
   exact⟨by rw[HF.out]<;>rfl,Below.refl _ _⟩
end Go.Proofs.YtdilnodbfnlhdaaGreatDoor
namespace Go.Proofs.YtdilnodbfnlhdaaGreatDoor
open Go.RowKit Tide
theorem wY {w W:World} {e:aD} {A Ad:Option Addr} {c cd:Nat} (hb:Below (w.heap.size+1) (bG w e (.slice A e.ops.length c) (.slice Ad e.data.length cd)) W):
 W.cell? ⟨w.heap.size,0,none⟩=some (.int .i64 e.kind)/\W.cell? ⟨w.heap.size,1,none⟩=some (.int .i64 e.au)/\W.cell? ⟨w.heap.size,2,none⟩=some (.int .i64 e.other)/\W.cell? ⟨w.heap.size,3,none⟩=some (.int .i64 e.server)/\W.cell? ⟨w.heap.size,4,none⟩=some (.int .i64 e.bF)/\W.cell? ⟨w.heap.size,5,none⟩=some (.int .i64 e.seq)/\W.cell? ⟨w.heap.size,6,none⟩=some (.slice A e.ops.length c)/\W.cell? ⟨w.heap.size,7,none⟩=some (.string e.key)/\W.cell? ⟨w.heap.size,8,none⟩=some (.int .i64 e.upto)/\W.cell? ⟨w.heap.size,9,none⟩=some (.int .i64 e.part)/\W.cell? ⟨w.heap.size,10,none⟩=some (.int .i64 e.parts)/\W.cell? ⟨w.heap.size,11,none⟩=some (.slice Ad e.data.length cd):=by
 have hc:∀j v,(cj e (.slice A e.ops.length c) (.slice Ad e.data.length cd))[j]? =some v->W.cell? ⟨w.heap.size,j,none⟩=some v:=λj v hv=>by rw[hb.cell (p:=⟨w.heap.size,j,none⟩) (Nat.lt_succ_self _),cell_of_row _ _ j _ _ _ (heap_alloc_new w _)];exact hv
 exact⟨hc 0 _ rfl,hc 1 _ rfl,hc 2 _ rfl,hc 3 _ rfl,hc 4 _ rfl,hc 5 _ rfl,hc 6 _ rfl,hc 7 _ rfl,hc 8 _ rfl,hc 9 _ rfl,hc 10 _ rfl,hc 11 _ rfl⟩
theorem vO (K:ByteArray->Nat) (e:aD):(bO K e).1.length<=1848:=by
 unfold bO;split
 · split
   · simp
   · show(aG e).length<=1848;omega
 · simp
section
variable {a:Nat->Addr} {W w w':World} {F:Nat->Prop} {p:Nat} {st:Option (List UInt8)}
theorem PW.zA (h:PW a W F p st w) (hE:ar W a) (hA:cG a F) {v:Value} {zs:List Int} {B:Nat} (hv:Row w B v (ay zs)) (hB:B<=W.heap.size) (hF:∀k,F k->B<=k):
 Calls Tryz.prog 148 #[.pointer (some ⟨p,0,none⟩),v] w (dZ a W F p (fH st zs)):=by
 have hE':=h.bq hE hA;have hs:=h.size;exact h.call λF1 hO hF1 hK=>(zN a w F1 p st 0 v zs B hO hv (Nat.le_trans hB hs) (λk hk=>(hF1 k hk).elim (hF k) (λh=>Nat.le_trans hB h)) hE').mono λ_ _ ⟨he,F2,hO2,hF2,hK2⟩=>⟨he,F2,jM hO2,hF2,hK2⟩
theorem PW.row (h:PW a W F p st w) {B:Nat} {v:Value} {xs:List Value} (hv:Row W B v xs) (hB:B<=W.heap.size) (hF:∀k,F k->B<=k):Row w B v xs:=
 Row.an hv λ_ _ hb=>h.cell (Nat.lt_of_lt_of_le hb hB) (λhf=>absurd (hF _ hf) (Nat.not_le.2 hb))
end
end Go.Proofs.YtdilnodbfnlhdaaGreatDoor
namespace Go.Proofs.YtdilnodbfnlhdaaGreatDoor
open Go.RowKit Tide
def lW (ds:List fe) (t:ByteArray):Option (List UInt8):=bM (ds.foldl (λst d=>fH st d.list) (aA (aA (some []) 1) (ds.length:Nat))) t
def eN (K:ByteArray->Nat) (e:aD) (ds:List fe):List UInt8 × Nat:=
 if(bO K e).2≠0 then([],(bO K e).2) else if dD ds (if aS K e then bI e else[])=false then([],4) else dA (lW ds (text (bO K e).1))
theorem zt {x:Int} (h0:0<=x) (h1:x < 4096):(ao x.toNat).length<=2:=lL 1 _ (by
 have:(128:Nat) ^ (1+1)=16384:=by decide
 omega)
theorem mw {x:Int} (h0:0<=x) (h1:x < 4096) (q:List UInt8):∃z,aA (some q) x=some (q ++ z)/\z.length<=2:=
 ⟨_,oP (by unfold Tide.aP;simp;omega) q,zt h0 h1⟩
theorem qF:∀ (l:List Int) (q:List UInt8),(∀x ∈ l,0<=x/\x < 4096)->∃z,l.foldl aA (some q)=some (q ++ z)/\z.length<=2 * l.length
 | [],q,_=>⟨[],by simp,by simp⟩
 | x :: l,q,h=>by obtain⟨z,hz,h2⟩:=mw (h x (by simp)).1 (h x (by simp)).2 q;obtain⟨y,hy,h3⟩:=qF l (q ++ z) (λy hy=>h y (by simp[hy]));exact⟨z ++ y,by rw[List.foldl_cons,hz,hy,List.append_assoc],by rw[List.length_append,List.length_cons];omega⟩
theorem Du (l:List Int) (q:List UInt8) (hl:l.length<=4) (h:∀x ∈ l,0<=x/\x < 4096):∃z,fH (some q) l=some (q ++ z)/\z.length<=10:=by obtain⟨z,hz,h2⟩:=mw (x:=(l.length:Int)) (by omega) (by omega) q;obtain⟨y,hy,h3⟩:=qF l (q ++ z) h;exact⟨z ++ y,by unfold fH;rw[hz,hy,List.append_assoc],by rw[List.length_append];omega⟩
theorem qt:∀ (l:List Int) {b:Int},dV b l=true->∀x ∈ l,0<=x/\x < b
 | [],_,_,x,hx=>by cases hx
 | y :: l,b,h,x,hx=>by
   unfold dV at h;simp only[Bool.and_eq_true,decide_eq_true_eq]at h;rcases List.mem_cons.1 hx with rfl|hx
   · exact h.1
   · have:=qt l h.2 x hx;omega
theorem qu:∀ (l:List Int) {b c:Int},b<=c->dV b l=true->dV c l=true
 | [],_,_,_,_=>rfl
 | y :: l,b,c,hbc,h=>by unfold dV at h ⊢;simp only[Bool.and_eq_true,decide_eq_true_eq]at h ⊢;exact⟨⟨h.1.1,by omega⟩,h.2⟩
theorem qv:∀ (n:Nat) (l:List Int) {b:Int},dV b l=true->dV b (l.take n)=true
 | 0,l,_,_=>by rw[List.take_zero];rfl
 | n+1, [],_,_=>rfl
 | n+1,y :: l,b,h=>by rw[List.take_succ_cons];unfold dV at h ⊢;simp only[Bool.and_eq_true,decide_eq_true_eq]at h ⊢;exact⟨h.1,qv n l h.2⟩
theorem pI:∀ (ds:List fe) (ss:List Int),dD ds ss=true->ds.length=ss.length/\∀d ∈ ds,eE d.list=true
 | [], [],_=>⟨rfl,λd hd=>by cases hd⟩
 | [],_ :: _,h=>by cases h
 | _ :: _, [],h=>by cases h
 | d :: ds,s :: ss,h=>by
   unfold dD at h;simp only[Bool.and_eq_true,decide_eq_true_eq]at h;obtain⟨h1,h2⟩:=pI ds ss h.2;refine⟨by simp[h1],λx hx=> ?_⟩;rcases List.mem_cons.1 hx with rfl|hx
   · exact h.1.2
   · exact h2 x hx
theorem rY:∀ (ds:List fe) (q:List UInt8),(∀d ∈ ds,eE d.list=true)->∃z,ds.foldl (λst d=>fH st d.list) (some q)=some (q ++ z)/\z.length<=10 * ds.length
 | [],q,_=>⟨[],by simp,by simp⟩
 | d :: ds,q,h=>by have hd:=h d (by simp);unfold eE at hd;simp only[Bool.and_eq_true,Bool.not_eq_true',decide_eq_false_iff_not]at hd;obtain⟨z,hz,h2⟩:=Du d.list q (by omega) (qt _ hd.2);obtain⟨y,hy,h3⟩:=rY ds (q ++ z) (λy hy=>h y (by simp[hy]));exact⟨z ++ y,by rw[List.foldl_cons,hz,hy,List.append_assoc],by rw[List.length_append,List.length_cons];omega⟩
theorem tu (e:aD):1<=(bI e).length/\(bI e).length<=3:=by
 unfold bI;split
 · exact⟨by simp,by simp⟩
 split<;>exact⟨by simp,by simp⟩
theorem kj {K:ByteArray->Nat} {e:aD} (h:(bO K e).2=0):aS K e=true/\(bO K e).1=aG e/\(aG e).length<=1848:=by
 unfold bO at h ⊢;by_cases h1:aS K e=true
 · rw[if_pos h1]at h ⊢;by_cases h2:1848 < (aG e).length
   · rw[if_pos h2]at h;cases h
   · rw[if_neg h2];exact⟨h1,rfl,by omega⟩
 · rw[if_neg h1]at h;cases h
theorem vP {K:ByteArray->Nat} {e:aD}:(bO K e).2=0\/(bO K e).2=3\/(bO K e).2=4:=by
 unfold bO;split
 · split<;>simp
 · simp
theorem n8 {K:ByteArray->Nat} {e:aD} {ds:List fe} (h:(bO K e).2=0) (hr:dD ds (bI e)=true):(eN K e ds).2=0/\1<=(eN K e ds).1.length/\(eN K e ds).1.length<=2048:=by
 obtain⟨h1,h2,h3⟩:=kj h;obtain⟨hl,hd⟩:=pI ds _ hr;have hs:=tu e;unfold eN;rw[if_neg (by omega),if_pos h1,hr,if_neg (by decide),h2];obtain⟨z1,e1,l1⟩:=mw (x:=1) (by decide) (by decide) [];obtain⟨z2,e2,l2⟩:=mw (x:=(ds.length:Nat)) (by omega) (by omega) ([] ++ z1);obtain⟨z3,e3,l3⟩:=rY ds (([] ++ z1) ++ z2) hd;unfold lW;rw[e1,e2,e3];have e4:bM (some (([] ++ z1 ++ z2) ++ z3)) (text (aG e))=some (([] ++ z1 ++ z2) ++ z3 ++ bN (text (aG e))):=rfl;rw[e4];have l4:(bN (text (aG e))).length<=3+1848:=by
  unfold bN;rw[List.length_append,j5];have:=lL 2 (aG e).length (by
   have:(128:Nat) ^ (2+1)=2097152:=by decide
   omega)
  have:(text (aG e)).data.toList.length=(aG e).length:=by have:=j5 (aG e);rw[Array.length_toList];exact this
  omega
 have l5:1<=(bN (text (aG e))).length:=by unfold bN;rw[List.length_append];have:=kB (text (aG e)).size;omega
 have hle:(([] ++ z1 ++ z2) ++ z3 ++ bN (text (aG e))).length<=2048:=by simp only[List.length_append,List.length_nil];omega
 unfold dA;simp only;rw[if_pos (by omega)];refine⟨rfl,?_,hle⟩;simp only[List.length_append,List.length_nil];omega
theorem tN {x:Int} (h0:0<=x) (h1:x<=12):dt [x]=true:=decide_eq_true λi h=>by
 obtain rfl:i=0:=by simp at h;exact h
 exact⟨h0,h1,λh=>absurd h (by decide)⟩
theorem En {x:Int} (h0:0 < x) (h1:x<=12):dt [0,x]=true:=decide_eq_true λi h=>by
 have:i < 2:=h;rcases(show i=0\/i=1 by omega) with rfl|rfl
 · exact⟨Int.le_refl 0,(show(0:Int)<=12 by decide),λh=>absurd h (by decide)⟩
 · exact⟨by simp;omega,by simpa using h1,λ_=>by simpa using h0⟩
theorem tO {x y:Int} (h0:0 < x) (h1:x < y) (h2:y<=12):dt [0,x,y]=true:=decide_eq_true λi h=>by
 have:i < 3:=h;rcases(show i=0\/i=1\/i=2 by omega) with rfl|rfl|rfl
 · exact⟨Int.le_refl 0,(show(0:Int)<=12 by decide),λh=>absurd h (by decide)⟩
 · exact⟨by simp;omega,by simp;omega,λ_=>by simpa using h0⟩
 · exact⟨by simp;omega,by simpa using h2,λ_=>by simpa using h1⟩
theorem mA {K:ByteArray->Nat} {e:aD} (h:aS K e=true):dt (bI e)=true:=by
 unfold bI;rcases rl h with k|k|k|k|k
 · rw[mf k]at h;simp[jC,cm]at h;rw[if_pos (Or.inl k)];exact tN (by omega) (by omega)
 · rw[mg k]at h;simp[cm]at h;rw[if_neg (by omega),if_pos k];exact En (by omega) (by omega)
 · rw[mh k]at h;simp[gI,cm]at h;rw[if_neg (by omega),if_neg (by omega)];exact tO (by omega) (by omega) (by omega)
 · rw[kM k]at h;simp[gI,cm]at h;rw[if_neg (by omega),if_neg (by omega)];exact tO (by omega) (by omega) (by omega)
 · rw[mj k]at h;simp[jQ,cm]at h;rw[if_pos (Or.inr k)];exact tN (by omega) (by omega)
theorem Em {x:Int} {l:List Int} (h:dt (x :: l)=true):dt l=true/\∀y ∈ l,x < y:=by
 have h':=of_decide_eq_true h;have ht:dt l=true:=decide_eq_true λi hi=>by have h1:=h' (i+1) (by simpa using hi);refine⟨by simpa using h1.1,by simpa using h1.2.1,λh0=> ?_⟩;have h2:=h1.2.2 (by omega);obtain⟨j,rfl⟩:∃j,i=j+1:=⟨i - 1,by omega⟩;simpa using h2
 refine⟨ht,?_⟩;have key:∀ (i:Nat) (hi:i < l.length),x < l[i]:=by
  intro i
  induction i with
  | zero=>intro hi;have:=(h' 1 (by simpa using hi)).2.2 (by decide);simpa using this
  | succ i ih=>intro hi;have h1:=ih (by omega);have h2:=(of_decide_eq_true ht (i+1) hi).2.2 (by omega);simp at h2;omega
 intro y hy;obtain⟨i,hi,rfl⟩:=List.getElem_of_mem hy;exact key i hi
def gK (nx:Nat) (all:List (List Int)):Prop:=∀l ∈ all,dV (nx:Int) l=true
theorem tD (nx:Nat) (hn:nx < 4096):∀ (ss:List Int) (bs:List (Int × List Int)) (all:List (List Int)),dt ss=true->(∀l ∈ all,dV ((nx+1:Nat):Int) l=true)->(∀x ∈ ss,dV (nx:Int) (all.getD x.toNat [])=true)->
 ∃bs',(ss.foldl (stepT nx) (bs,all)).1=bs ++ bs'/\dD (bs'.map λp=>⟨p.1,p.2⟩) ss=true/\gK (nx+1) (ss.foldl (stepT nx) (bs,all)).2
 | [],bs,all,_,h1,_=>⟨[],by simp,rfl,h1⟩
 | x :: ss,bs,all,hu,h1,h2=>by
   obtain⟨hu2,hx⟩:=Em hu;have hx0:=(mD hu x (by simp)).1;have hrow:=h2 x (by simp);obtain⟨bs',e1,e2,e3⟩:=tD nx hn ss (bs ++ [(x,(all.getD x.toNat []).take 4)]) (all.set x.toNat ((nx:Int) :: all.getD x.toNat [])) hu2 (λl hl=>by
    rcases List.mem_or_eq_of_mem_set hl with hl|rfl
    · exact h1 l hl
    · unfold dV;simp only[Bool.and_eq_true,decide_eq_true_eq];exact⟨⟨by omega,by omega⟩,hrow⟩) (λy hy=>by
    have hxy:=hx y hy;have:=h2 y (by simp[hy]);rw[List.getD_eq_getElem?_getD,List.getElem?_set_ne (by omega),<-List.getD_eq_getElem?_getD];exact this)
   refine⟨(x,(all.getD x.toNat []).take 4) :: bs',?_,?_,?_⟩
   · rw[List.foldl_cons];show(ss.foldl (stepT nx) (stepT nx (bs,all) x)).1=_;unfold stepT at e1 ⊢;rw[e1,List.append_assoc];rfl
   · rw[List.map_cons];unfold dD;simp only[decide_true,Bool.true_and,Bool.and_eq_true];refine⟨?_,e2⟩;unfold eE;rw[qu _ (by omega) (qv 4 _ hrow)];have:((all.getD x.toNat []).take 4).length<=4:=by rw[List.length_take];omega
     simp only[Bool.and_true,Bool.not_eq_true',decide_eq_false_iff_not];omega
   · rw[List.foldl_cons];exact e3
theorem mB {nx:Nat} {all:List (List Int)} {ss:List Int} (hn:nx < 4096) (hu:dt ss=true) (h:gK nx all):dD ((cB nx all ss).1.map λp=>⟨p.1,p.2⟩) ss=true/\gK (nx+1) (cB nx all ss).2:=by
 obtain⟨bs',e1,e2,e3⟩:=tD nx hn ss [] all hu (λl hl=>qu l (by omega) (h l hl)) (λx hx=>by
  rw[List.getD_eq_getElem?_getD];cases he:all[x.toNat]? with
  | none=>rfl
  | some l=>exact h l (List.mem_of_getElem? he))
 unfold cB;rw[e1];exact⟨e2,e3⟩
theorem fm {ep:Int} {cs:List (List Int)} (h:aP ep cs=true):0<=ep/\ep<=1073741824/\1<=cs.length/\cs.length<=3/\(∀c ∈ cs,1<=c.length/\c.length<=3)/\(∀u ∈ cs.flatten,0<=u/\u<=11)/\cs.flatten.Nodup:=by unfold aP at h;simp only[Bool.and_eq_true,decide_eq_true_eq,List.all_eq_true]at h;obtain⟨h1,h2,h3,h4,h5,h6⟩:=h;unfold dW at h6;have h6:=of_decide_eq_true h6;refine⟨h1,h2,h3,h4,λc hc=> ?_,h6.1,h6.2⟩;have:=h5 c hc;unfold fu at this;simpa using this
theorem zK {cs:List (List Int)} (h:cs.flatten.Nodup) {i j:Nat} (hi:i < cs.length) (hj:j < cs.length) {u:Int} (h1:u ∈ cs[i]) (h2:u ∈ cs[j]):i=j:=by
 have hp:=(List.pairwise_flatten.1 h).2;rcases Nat.lt_trichotomy i j with hlt|rfl|hgt
 · exact absurd rfl (List.pairwise_iff_getElem.1 hp i j hi hj hlt u h1 u h2)
 · rfl
 · exact absurd rfl (List.pairwise_iff_getElem.1 hp j i hj hi hgt u h2 u h1)
structure gn (cs:List (List Int)) (nx:Nat) (us:Nat->av):Prop where
 ep:∀i,(us i).aF=0
 tr:∀i,(us i).trimmed=0
 no:∀ (c:Nat) (hc:c < cs.length) (u:Int),u ∈ cs[c]->∀q:Nat,nx<=c+q * cs.length->fC (us u.toNat) q=false
structure ga (cs:List (List Int)) (nx j:Nat) (us:Nat->av):Prop where
 ep:∀i,(us i).aF=0
 tr:∀i,(us i).trimmed=0
 no:∀ (c:Nat) (hc:c < cs.length) (u:Int),u ∈ cs[c]->∀q:Nat,nx+1<=c+q * cs.length->fC (us u.toNat) q=false
 rest:∀ (i:Nat) (u:Int),j<=i->(bU cs nx)[i]? =some u->fC (us u.toNat) ((nx / cs.length:Nat):Int)=false
theorem jw {cs:List (List Int)} {nx:Nat} (h:1<=cs.length):nx % cs.length < cs.length/\bU cs nx=cs[nx % cs.length]'(Nat.mod_lt _ h):=by refine⟨Nat.mod_lt _ h,?_⟩;unfold bU;rw[Int.toNat_natCast,List.getD_eq_getElem?_getD,List.getElem?_eq_getElem (Nat.mod_lt _ h)];rfl
theorem gn.rD {cs:List (List Int)} {nx:Nat} {us:Nat->av} (h1:1<=cs.length) (h:gn cs nx us):ga cs nx 0 us where
 ep:=h.ep
 tr:=h.tr
 no:=λc hc u hu q hq=>h.no c hc u hu q (by omega)
 rest:=λi u _ hu=>by obtain⟨hc,he⟩:=jw (nx:=nx) h1;rw[he]at hu;exact h.no _ hc u (List.mem_of_getElem? hu) _ (by have:=Nat.mod_add_div nx cs.length;rw[Nat.mul_comm];omega)
theorem ga.fresh {cs:List (List Int)} {nx j:Nat} {us:Nat->av} (h:ga cs nx j us):gn cs (nx+1) us:=⟨h.ep,h.tr,h.no⟩
theorem xE (cs:List (List Int)) {us:Nat->av} (h:∀i,(us i).rows= []/\(us i).aF=0/\(us i).trimmed=0):gn cs 0 us:=
 ⟨λi=>(h i).2.1,λi=>(h i).2.2,λc hc u hu q _=>by unfold fC;rw[(h _).1];simp⟩
theorem EP {u:av} {ep:Int} {q:Nat} {b:List UInt8} (he:u.aF=0) (ht:u.trimmed=0) (h0:0<=ep) (h1:ep<=1073741824) (hq:q<=4095) (hb:1<=b.length) (hb2:b.length<=2048) (hno:fC u (q:Int)=false):
 ((cw u ep q b).2=13\/(cw u ep q b).2=0)/\(cw u ep q b).1.aF=0/\(cw u ep q b).1.trimmed=0/\∀p:Nat,p≠q->fC (cw u ep q b).1 (p:Int)=fC u (p:Int):=by
 have hc:bV u.aF ep (q:Int) 4095=0:=by unfold bV;rw[he,if_neg (by omega),if_neg (by omega)]
 unfold cw;rw[if_neg (by rw[hc];decide),if_neg (by omega),if_neg (by omega),if_neg (by rw[hno];decide)];have hlen:1<=(aV ⟨1,(q:Int).toNat,0,b⟩).length/\(aV ⟨1,(q:Int).toNat,0,b⟩).length<=3968:=by have l1:=kB 1;have l2:=bH (n:=1) (by decide);have l3:=bH (n:=(q:Int).toNat) (by omega);have l4:=bH (n:=b.length) (by omega);unfold aV;rw[if_pos rfl];simp only[List.length_append];omega
 have hp:(bY u ⟨1,(q:Int).toNat,0,b⟩).2.2=0\/(bY u ⟨1,(q:Int).toNat,0,b⟩).2.2=13:=by
  unfold bY cJ;rw[if_neg (by omega)];split
  · exact .inl rfl
  · split
    · exact .inr rfl
    · exact .inl rfl
 rcases hp with hp|hp
 · rw[if_neg (by rw[hp];decide)];refine⟨.inr rfl,he,ht,λp hpq=> ?_⟩;unfold fC;simp only[List.any_append,List.any_cons,List.any_nil,Bool.or_false,Int.toNat_natCast];have:((q:Int) == (p:Int))=false:=by simp;omega
   rw[this,Bool.or_false]
 · rw[if_pos (by rw[hp];decide),hp];exact⟨.inl rfl,he,ht,λp hpq=>rfl⟩
def dK:Nat->Bool:=λ_=>true
theorem El {n:Int} (h0:0<=n) (h1:n < 12):dO dK n=true:=by unfold dO dK;simp[h0,h1]
theorem ga.put {cs:List (List Int)} {nx j:Nat} {us:Nat->av} {ep:Int} {b:List UInt8} (h:ga cs nx j us) (hr:aP ep cs=true) (hn:nx<=4095) (hb:1<=b.length) (hb2:b.length<=2048) (hj:j < (bU cs nx).length):
 (dN dK ep cs nx j b us).2=13\/((dN dK ep cs nx j b us).2=0/\ga cs nx (j+1) (dN dK ep cs nx j b us).1):=by
 obtain⟨r1,r2,r3,r4,r5,r6,r7⟩:=fm hr;obtain⟨hc,hch⟩:=jw (nx:=nx) r3;have hpl:eY ep cs (nx:Int)=0:=by unfold eY;rw[hr,if_neg (by decide),if_neg (by omega)]
 obtain⟨u,hu⟩:∃u,(bU cs nx)[j]? =some u:=⟨_,List.getElem?_eq_getElem hj⟩;have hum:u ∈ cs[nx % cs.length]:=by rw[<-hch];exact List.mem_of_getElem? hu
 have hu0:=r6 u (List.mem_flatten.2 ⟨_,List.getElem_mem hc,hum⟩);have hdiv:((nx:Int) / (cs.length:Int))=((nx / cs.length:Nat):Int):=by rw[Int.natCast_ediv]
 have hst:dN dK ep cs nx j b us=eZ dK ep ((nx / cs.length:Nat):Int) b us u (j == 0):=by unfold dN;rw[if_neg (by rw[hpl];decide),if_neg (by omega),hdiv,Int.toNat_natCast,List.getD_eq_getElem?_getD,hu];rfl
 have hq:nx / cs.length<=4095:=by have:=Nat.div_le_self nx cs.length;omega
 obtain⟨w1,w2,w3,w4⟩:=EP (u:=us u.toNat) (ep:=ep) (b:=b) (h.ep _) (h.tr _) r1 r2 hq hb hb2 (h.rest j u (Nat.le_refl _) hu);have hpt:eZ dK ep ((nx / cs.length:Nat):Int) b us u (j == 0)=(gl us u.toNat (cw (us u.toNat) ep ((nx / cs.length:Nat):Int) b).1,(cw (us u.toNat) ep ((nx / cs.length:Nat):Int) b).2):=by unfold eZ;rw[if_neg (by rw[El hu0.1 (by omega)];simp),if_pos (.inl (by rcases w1 with e|e<;>rw[e]<;>decide))]
 rw[hst,hpt];simp only;rcases w1 with e|e
 · exact .inl e
 · refine .inr ⟨e,⟨λi=> ?_,λi=> ?_,λc' hc' v hv q' hq'=> ?_,λi v hi hv=> ?_⟩⟩
   · by_cases hi:i=u.toNat
     · subst hi;rw[mF];exact w2
     · rw[kT _ _ hi];exact h.ep i
   · by_cases hi:i=u.toNat
     · subst hi;rw[mF];exact w3
     · rw[kT _ _ hi];exact h.tr i
   · by_cases hi:v.toNat=u.toNat
     · have hv0:=r6 v (List.mem_flatten.2 ⟨_,List.getElem_mem hc',hv⟩);obtain rfl:v=u:=by omega
       have:=zK r7 hc' hc hv hum;subst this;rw[mF,w4 q' (λe=>by subst e;have:=Nat.mod_add_div nx cs.length;rw[Nat.mul_comm]at this;omega)];exact h.no _ hc v hv q' hq'
     · rw[kT _ _ hi];exact h.no c' hc' v hv q' hq'
   · have hv2:v ∈ cs[nx % cs.length]:=by rw[<-hch];exact List.mem_of_getElem? hv
     have hv0:=r6 v (List.mem_flatten.2 ⟨_,List.getElem_mem hc,hv2⟩);have hne:v.toNat≠u.toNat:=λe=>by
      have e2:v=u:=by omega
      subst e2;have hnd:(bU cs nx).Nodup:=by rw[hch];exact(List.pairwise_flatten.1 r7).1 _ (List.getElem_mem hc)
      have hil:=(List.getElem?_eq_some_iff.1 hv).1;have h1:=(List.getElem?_eq_some_iff.1 hv).2;have h2:=(List.getElem?_eq_some_iff.1 hu).2;exact(List.pairwise_iff_getElem.1 hnd j i hj hil (by omega)) (by rw[h1,h2])
     rw[kT _ _ hne];exact h.rest i v (by omega) hv
end Go.Proofs.YtdilnodbfnlhdaaGreatDoor
namespace Go.Proofs.YtdilnodbfnlhdaaGreatDoor
open Go.RowKit Tide
def pk (a:Nat->Addr) (w:World) (r:List UInt8 × Nat) (en:Ending) (w':World):Prop:=
 ∃u x,en= .returned (.tuple #[u,x])/\w'.ownsRow w.heap.size 5 1 u r.1.length (aj r.1)/\bf a x r.2/\Below w.heap.size w w'
theorem AI (a:Nat->Addr) (T:World->Prop) (K:ByteArray->Nat) (e:aD) (vo vd v:Value) (ds:List fe) (B:Nat) (w:World) (hi:dY w B e vo vd) (hv:ie w B v ds) (hB:B<=w.heap.size) (hz:eh e) (hL:dI a T K w):
 Calls Tryz.prog 108 #[.agg (cj e vo vd),v] w (pk a w (eN K e ds)):=by
 obtain⟨A,c,rfl,_,_⟩:=eV hi.1;obtain⟨Ad,cd,rfl,_,_,_⟩:=hi.2.form;obtain⟨Av,cv,rfl,hlen,hcell⟩:=id hv.form;have HC:=ab hcell;have HBW:=ab hB;have HB0:=ab (show Below w.heap.size w (bG w e (.slice A e.ops.length c) (.slice Ad e.data.length cd)) from(Below.refl _ _).alloc (Nat.le_refl _) _);have hs0:(bG w e (.slice A e.ops.length c) (.slice Ad e.data.length cd)).heap.size=w.heap.size+1:=by simp
 have UP:=ab (show ∀W,Below (w.heap.size+1) (bG w e (.slice A e.ops.length c) (.slice Ad e.data.length cd)) W->Below w.heap.size w W from λW h=>HB0.out.trans (h.mono (by omega)));have US:=ab (show ∀W,Below (w.heap.size+1) (bG w e (.slice A e.ops.length c) (.slice Ad e.data.length cd)) W->w.heap.size+1<=W.heap.size from λW h=>by have:=h.size;omega);have D0:=ab (Below.refl (w.heap.size+1) (bG w e (.slice A e.ops.length c) (.slice Ad e.data.length cd)));have KX:=ab (λW (h:Below (w.heap.size+1) (bG w e (.slice A e.ops.length c) (.slice Ad e.data.length cd)) W)=>wY h);have CB:=ab (pO a T K e _ _ B (bG w e (.slice A e.ops.length c) (.slice Ad e.data.length cd)) (hi.below (HB0.out.mono hB)) (Nat.le_trans hB HB0.out.size) hz (hL.below HB0.out));have CS:=ab (λW (h:Below (w.heap.size+1) (bG w e (.slice A e.ops.length c) (.slice Ad e.data.length cd)) W)=>tv a T K e _ _ B W (hi.below ((UP.out W h).mono hB)) (Nat.le_trans hB (UP.out W h).size) hz (hL.below (UP.out W h)));have CR:=ab (λW (h:Below (w.heap.size+1) (bG w e (.slice A e.ops.length c) (.slice Ad e.data.length cd)) W) ss u (hu:Row W W.heap.size u (ay ss))=>AX ds ss _ u B W.heap.size W (hv.below ((UP.out W h).mono hB)) hu (Nat.le_trans hB (UP.out W h).size) (Nat.le_refl _));have HE:=ab hL.bq;have HLE:=ab (vO K e);have HPK:=ab (show eN K e ds=if(bO K e).2≠0 then([],(bO K e).2) else if dD ds (if aS K e then bI e else[])=false then([],4) else dA (lW ds (text (bO K e).1)) from rfl);obtain⟨PK,hPK⟩:=aa (eN K e ds);rw[hPK]at HPK ⊢;obtain⟨rr,hrr⟩:=aa (bO K e);obtain⟨ss,hss⟩:=aa (if aS K e then bI e else[]);rw[hrr]at CB HLE HPK;rw[hss]at CS HPK;clear hi hv hcell hB hz hL hrr hss hPK;unfold bG cj at *
 go_enter Tryz.func108,Tryz.ntmps108
 go_wp2_with fail
 refine CB.out.mono ?_;rintro en w1 ⟨u1,x1,rfl,hu1,hx1,hb⟩;obtain⟨L1,k1⟩:=rr;simp only at hu1 hx1 HLE HPK;clear hs0;have D1:=ab (D0.out.trans (hb.mono (by simp)));have hs1:=US.out _ D1.out;obtain⟨A1,c1,rfl,_,_,_⟩:=hu1.form;have HU1:=ab hu1;rcases id hx1 with⟨hk0,rfl⟩|⟨m,hm,hk1,rfl⟩
 rotate_left
 · have HX:=ab hx1;subst hk1;clear hx1 hu1 hb
   go_wp2_with fail
   go_ret2
   rw[HPK.out,if_pos (Nat.succ_ne_zero m)];exact⟨_,_,rfl,n6 _ _,HX.out,UP.out _ D1.out⟩
 · have HPK:=ab (HPK.out.trans (if_neg (show ¬k1≠0 from λh=>h hk0)));obtain⟨a0,a1,a2,a3,a4,a5,a6,a7,a8,a9,a10,a11⟩:=KX.out _ D1.out;clear hx1 hu1 hb hk0
   go_wp2_with fail
   refine(CS.out _ D1.out).mono ?_;rintro en w2 ⟨u2,rfl,hu2,hb⟩;have D2:=ab (D1.out.trans (hb.mono hs1));have HS12:=ab hb;obtain⟨A2,c2,rfl⟩:=nC hu2.1;have HU2:=ab hu2.1;clear hb hu2 a0 a1 a2 a3 a4 a5 a6 a7 a8 a9 a10 a11
   go_wp2_with fail
   refine(CR.out _ D2.out _ _ HU2.out).mono ?_;rintro en w3 ⟨rfl,hb⟩;have D3:=ab (D2.out.trans (hb.mono (US.out _ D2.out)));have HB13:=ab (HS12.out.trans (hb.mono HS12.out.size));have HE3:=ab (HE.out.below (UP.out _ D3.out));clear hb;generalize dD ds ss=rb at *;cases rb with
   | false=>
     have hg:=HE3.out.var 3 (by omega);simp only[bA,List.getD_cons_zero,List.getD_cons_succ]at hg;have HB3:=ab (UP.out _ D3.out)
     go_wp2_with fail
     go_quiet (fail)
     go_wp2_with fail
     go_ret2
     rw[HPK.out,if_pos trivial];exact⟨_,_,rfl,n6 _ _,bo a 3 (by omega),iO HB3.out _⟩
   | true=>
     have HPK:=ab (HPK.out.trans (if_neg (by decide)));obtain⟨w4,hw4⟩:∃w4,w4=w3.alloc (.cells #[.slice none 0 0,.nilIface] 204):=⟨_,rfl⟩;have HO4:=ab (show bg a w4 (λk=>k=w3.heap.size) w3.heap.size (some []) 0 from by rw[hw4];exact kE a w3 HE3.out);have HB34:=ab (show Below w3.heap.size w3 w4 from by rw[hw4];exact(Below.refl _ _).alloc (Nat.le_refl _) _);have HE4:=ab (HE3.out.below HB34.out);have S4:=ab (PW.start HO4.out);have HW4:=ab hw4;have HB4:=ab ((UP.out _ D3.out).trans (HB34.out.mono (UP.out _ D3.out).size));have hs3:=(UP.out _ D3.out).size;have CN1:=ab (S4.out.num HE4.out HO4.out.2.2.1 1);clear hw4
     go_wp2_with fail
     rw[<-HW4.out];refine CN1.out.mono ?_;rintro en w5 ⟨rfl,hp⟩;have S5:=ab hp;have CN2:=ab (S5.out.num HE4.out HO4.out.2.2.1 (ds.length:Nat));clear hp CN1
     go_wp2_with fail
     refine CN2.out.mono ?_;rintro en w6 ⟨rfl,hp⟩;have S6:=ab hp;have H6b:=ab (show aA (aA (some []) 1) (ds.length:Nat)=(ds.take 0).foldl (λst d=>fH st d.list) (aA (aA (some []) 1) (ds.length:Nat)) from by rw[List.take_zero];rfl);clear hp CN2
     go_wp2_with fail
     go_loopw [31] (λi wr=>∃ (k:Nat) (st:Option (List UInt8)),i= .int .i64 k/\k<=ds.length/\Hid (PW a w4 (λk=>k=w3.heap.size) w3.heap.size st wr)/\Hid (st=(ds.take k).foldl (λst d=>fH st d.list) (aA (aA (some []) 1) (ds.length:Nat)))) (λi _=>ds.length - (intOf i).toNat)
     case atStart=>exact⟨0,_,rfl,Nat.zero_le _,S6,H6b⟩
     case round=>
      obtain⟨k,st,rfl,hk,hS,hH⟩:=hrel;have LOW:=ab (show ∀b o,b < w.heap.size->wr.cell? ⟨b,o,none⟩=w.cell? ⟨b,o,none⟩from λb o hb=>(hS.out.cell (b:=b) (o:=o) (by have:=HB34.out.size;omega) (λh=>by have h9:b=w3.heap.size:=h;omega)).trans (HB4.out.cell (p:=⟨b,o,none⟩) hb));by_cases hlt:k < ds.length
      · obtain⟨bb,o,uu,rfl,hbl,h0,h1,hr⟩:=HC.out k hlt;obtain⟨Au,cu,rfl⟩:=nC hr;have f0:=(LOW.out bb (o+k * 2) (Nat.lt_of_lt_of_le hbl HBW.out)).trans h0;have f1:=(LOW.out bb (o+k * 2+1) (Nat.lt_of_lt_of_le hbl HBW.out)).trans h1;have SA:=ab (hS.out.alloc (.cells #[.int .i64 ds[k].stream,.slice Au ds[k].list.length cu] 157));have hr2:Row (wr.alloc (.cells #[.int .i64 ds[k].stream,.slice Au ds[k].list.length cu] 157)) B (.slice Au ds[k].list.length cu) (ay ds[k].list):=Row.an (Row.an hr (λb o hb=>LOW.out b o (Nat.lt_of_lt_of_le hb HBW.out))) (λb o hb=>World.cell?_alloc_past _ _ _ (by show b < wr.heap.size;have:=hS.out.size;have:=HB34.out.size;have:=HBW.out;omega));have CX:=ab (SA.out.zA HE4.out HO4.out.2.2.1 hr2 (by have:=HB34.out.size;have:=HBW.out;omega) (λk hk=>by have h9:k=w3.heap.size:=hk;have:=HBW.out;omega));have H7:=ab (show fH st ds[k].list=(ds.take (k+1)).foldl (λst d=>fH st d.list) (aA (aA (some []) 1) (ds.length:Nat)) from by rw[List.take_succ_eq_append_getElem hlt,List.foldl_append,<-hH.out];rfl);clear h0 h1 hr hr2;generalize ds[k]=d at *;obtain⟨dst,zs⟩:=d;simp only at *
        go_wp2_with fail
        refine CX.out.mono ?_;rintro en w7 ⟨rfl,hp⟩;have S7:=ab hp;clear hp
        go_wp2_with fail
        go_roundw
        case rel=>exact⟨k+1,_,by go_num,by omega,S7,H7⟩
        case measure=>simp[intOf];omega
      · have hr4:=HU1.out.below HB13.out;have hr5:Bytes wr w1.heap.size (.slice A1 L1.length c1) L1:=hS.out.row (Row.an hr4 (ew (HB34.out.mono HB13.out.size))) (by have:=HB34.out.size;have:=HB13.out.size;omega) (λk hk=>by have h9:k=w3.heap.size:=hk;have:=HB13.out.size;omega);have cvt:=jy hr5;have CT:=ab (hS.out.text HE4.out HO4.out.2.2.1 (text L1) (by rw[j5];have:=HLE.out;omega));have HT:=ab (show PK=dA (bM st (text L1)) from by rw[HPK.out];unfold lW;rw[hH.out,List.take_of_length_le (by omega)]);clear hr4 hr5
        go_wp2_with fail
        refine CT.out.mono ?_;rintro en w7 ⟨rfl,hp⟩;have hb7:Below w.heap.size w w7:=by obtain⟨F1,hO,hF1,hK⟩:=hp;exact HB4.out.trans (hK.below HB4.out.size (λk hk=>by have h9:k=w3.heap.size:=hk;omega))
        have CD:=ab (show Calls Tryz.prog 106 #[.pointer (some ⟨w3.heap.size,0,none⟩)] w7 (λen w'=>∃u x,en= .returned (.tuple #[u,x])/\w'.ownsRow w.heap.size 5 1 u (dA (bM st (text L1))).1.length (aj (dA (bM st (text L1))).1)/\bf a x (dA (bM st (text L1))).2/\Below w.heap.size w w') from by
         obtain⟨F1,hO,hF1,hK⟩:=hp;refine(zG a w7 F1 w3.heap.size _ 0 hO).mono λen w' ⟨u,x,he,ho,hx,hk⟩=>⟨u,x,he,eW ho hb7.size,hx,hb7.trans (hk.below hb7.size λk hk=> ?_)⟩
         rcases hF1 k hk with h|h
         · have h9:k=w3.heap.size:=h;omega
         · have:=HB34.out.size;omega)
        generalize dA (bM st (text L1))=dd at *;obtain⟨L9,k9⟩:=dd;simp only at CD;clear hp hb7 cvt
        go_wp2_with fail
        refine CD.out.mono ?_;rintro en w8 ⟨u8,x8,rfl,ho,hx,hb⟩;have HFIN:=ab (show pk a w PK (.returned (.tuple #[u8,x8])) w8 from by rw[HT.out];exact⟨u8,x8,rfl,ho,hx,hb⟩);obtain⟨A8,c8,rfl⟩:=iD ho;have hx8:x8= .nilIface\/∃b,x8=ai b:=by
         rcases hx with⟨_,h⟩|⟨m,_,_,h⟩
         · exact .inl h
         · exact .inr ⟨_,h⟩
        clear ho hx hb;rcases hx8 with rfl|⟨b8,rfl⟩
        · go_wp2_with fail
          go_ret2
          exact HFIN.out
        · go_wp2_with fail
          go_ret2
          exact HFIN.out
end Go.Proofs.YtdilnodbfnlhdaaGreatDoor
