import Derived.Test.YtdilnodbfnlhdaaGreatDoorGKinP
import Derived.Test.YtdilnodbfnlhdaaGreatDoorGConv
import Derived.Test.YtdilnodbfnlhdaaGreatDoorGApp
import Derived.Deep.RegionHeld
import Derived.Handy
set_option maxRecDepth 100000
set_option maxHeartbeats 2000000
namespace Go.Proofs.YtdilnodbfnlhdaaGreatDoor
open Go.RowKit Tide
def fI (w:World) (B:Nat) (h:Value) (e:aD):Prop:=
 (e.kind=1/\∃vo,h= .iface 260 (.agg #[.int .i64 e.au,.int .i64 e.bF,.int .i64 e.seq,vo])/\bQ w B vo 5 ((e.ops.map plainO).map bc))\/
 (e.kind=2/\h= .iface 262 (.agg #[.int .i64 e.au,.int .i64 e.server]))\/
 (e.kind=3/\h= .iface 264 (.agg #[.int .i64 e.au,.int .i64 e.other,.int .i64 e.server,.string e.key]))\/
 (e.kind=4/\h= .iface 266 (.agg #[.int .i64 e.au,.int .i64 e.other]))\/
 (e.kind=5/\h= .iface 268 (.agg #[.int .i64 e.au,.int .i64 e.upto,.int .i64 e.parts,.int .i64 e.part,.string (text e.data)]))
theorem fI.more {w:World} {B B':Nat} {h:Value} {e:aD} (hk:fI w B h e) (hB:B<=B'):fI w B' h e:=by
 rcases hk with⟨k,vo,hv,hr⟩|hk
 · exact .inl ⟨k,vo,hv,hr.more hB⟩
 · exact .inr hk
abbrev bG (w:World) (e:aD) (vo vd:Value):World:=w.alloc (.cells (cj e vo vd) 40)
theorem ql {w W:World} {e:aD} {vo vd:Value} (hb:Below (w.heap.size+1) (bG w e vo vd) W):
 W.cell? ⟨w.heap.size,0,none⟩=some (.int .i64 e.kind)/\W.cell? ⟨w.heap.size,1,none⟩=some (.int .i64 e.au)/\W.cell? ⟨w.heap.size,4,none⟩=some (.int .i64 e.bF)/\W.cell? ⟨w.heap.size,5,none⟩=some (.int .i64 e.seq)/\W.cell? ⟨w.heap.size,6,none⟩=some vo:=by
 have hc:∀j v,(cj e vo vd)[j]? =some v->W.cell? ⟨w.heap.size,j,none⟩=some v:=λj v hv=>by rw[hb.cell (p:=⟨w.heap.size,j,none⟩) (Nat.lt_succ_self _),cell_of_row _ _ j _ _ _ (heap_alloc_new w _)];exact hv
 exact⟨hc 0 _ rfl,hc 1 _ rfl,hc 4 _ rfl,hc 5 _ rfl,hc 6 _ rfl⟩
def pj (w:World) (e:aD) (en:Ending) (w':World):Prop:=
 ∃h,en= .returned h/\((1<=e.kind/\e.kind<=5/\fI w' w'.heap.size h e)\/((e.kind < 1\/5 < e.kind)/\h= .nilIface))/\Below w.heap.size w w'
theorem zH (e:aD) (vo vd:Value) (B:Nat) (w:World) (hi:dY w B e vo vd) (hB:B<=w.heap.size) (hlen:e.ops.length<=1000):
 Calls Tryz.prog 141 #[.agg (cj e vo vd)] w (pj w e):=by
 obtain⟨A,c,rfl,hn,_⟩:=eV hi.1;obtain⟨Ad,cd,rfl,_,_,_⟩:=hi.2.form;have HD:=ab hi.2;have KX:=ab (λW (h:Below (w.heap.size+1) (bG w e (.slice A e.ops.length c) (.slice Ad e.data.length cd)) W)=>ql (w:=w) (e:=e) h);have CP:=ab (show ∀W,Below w.heap.size w W->Calls Tryz.prog 163 #[.slice A e.ops.length c] W λen w'=>∃A2 c2,en= .returned (.slice A2 e.ops.length c2)/\bQ w' w'.heap.size (.slice A2 e.ops.length c2) 5 ((e.ops.map plainO).map bc)/\Below W.heap.size W w' from λW h=>(AP e.ops _ B W (hi.1.below (h.mono hB)) (Nat.le_trans hB h.size) hlen).mono λen w' ⟨u,he,hu,hb⟩=>by obtain⟨_,A2,c2,hv,_⟩:=id hu;rw[List.length_map,List.length_map]at hv;subst hv;exact⟨A2,c2,he,hu,hb⟩);have HB0:=ab (show Below w.heap.size w (bG w e (.slice A e.ops.length c) (.slice Ad e.data.length cd)) from(Below.refl _ _).alloc (Nat.le_refl _) _);have D0:=ab ((Below.refl (w.heap.size+1) (bG w e (.slice A e.ops.length c) (.slice Ad e.data.length cd))).drew);have hs0:(bG w e (.slice A e.ops.length c) (.slice Ad e.data.length cd)).heap.size=w.heap.size+1:=by simp
 have UP:=ab (show ∀W,Below (w.heap.size+1) (bG w e (.slice A e.ops.length c) (.slice Ad e.data.length cd)) W->Below w.heap.size w W from λW h=>HB0.out.trans (h.mono (by omega)));have cv:=jy (HD.out.below (HB0.out.mono hB));clear hi;obtain⟨kind,au,other,server,bF,seq,ops,key,upto,part,parts,data⟩:=e;unfold bG cj at *;simp only at *;by_cases k1:kind=1
 · subst k1
   have HF:=ab (show ∀u W,bQ W W.heap.size u 5 ((ops.map plainO).map bc)->Below w.heap.size w W->pj w ⟨1,au,other,server,bF,seq,ops,key,upto,part,parts,data⟩ (.returned (.iface 260 (.agg #[.int .i64 au,.int .i64 bF,.int .i64 seq,u]))) W from
    λu W hu hb=>⟨_,rfl,.inl ⟨Int.le_refl _,(show(1:Int)<=5 by omega),.inl ⟨rfl,u,rfl,hu⟩⟩,hb⟩)
   clear cv
   go_enter Tryz.func141,Tryz.ntmps141
   go_wp2_with fail
   generalize w.alloc (.cells #[.int .i64 1,.int .i64 au,.int .i64 other,.int .i64 server,.int .i64 bF,.int .i64 seq,.slice A ops.length c,.string key,.int .i64 upto,.int .i64 part,.int .i64 parts,.slice Ad data.length cd] 40)=w1 at *
   go_region_held (λW=>W.cell? ⟨w.heap.size,1,none⟩=some (.int .i64 au)/\W.cell? ⟨w.heap.size,4,none⟩=some (.int .i64 bF)/\W.cell? ⟨w.heap.size,5,none⟩=some (.int .i64 seq)/\W.cell? ⟨w.heap.size,6,none⟩=some (Value.slice A ops.length c))
    (first|exact(KX.out _ D0.out).2|exact(KX.out _ D1.out).2|assumption)
    (first
      | (go_at_call 163;(with_reducible refine(CP.out _ ?_).mono ?_);exact UP.out _ D0.out;rintro en w6 ⟨A2,c2,rfl,hu,hb⟩;have D1:=ab (D0.out.trans (hb.mono (by have:=D0.out.size;omega)));have HU:=ab hu;clear hb hu))
   all_goals
    go_wp2_with fail
    go_ret
    exact HF.out _ _ HU.out (UP.out _ D1.out)
 clear CP KX D0 UP;by_cases k2:kind=2
 · subst k2;clear k1
   go_enter Tryz.func141,Tryz.ntmps141
   go_wp2_with fail
   go_ret
   exact⟨_,rfl,.inl ⟨(show(1:Int)<=2 by omega),(show(2:Int)<=5 by omega),.inr (.inl ⟨rfl,rfl⟩)⟩,HB0.out⟩
 by_cases k3:kind=3
 · subst k3;clear k1 k2
   go_enter Tryz.func141,Tryz.ntmps141
   go_wp2_with fail
   go_ret
   exact⟨_,rfl,.inl ⟨(show(1:Int)<=3 by omega),(show(3:Int)<=5 by omega),.inr (.inr (.inl ⟨rfl,rfl⟩))⟩,HB0.out⟩
 by_cases k4:kind=4
 · subst k4;clear k1 k2 k3
   go_enter Tryz.func141,Tryz.ntmps141
   go_wp2_with fail
   go_ret
   exact⟨_,rfl,.inl ⟨(show(1:Int)<=4 by omega),(show(4:Int)<=5 by omega),.inr (.inr (.inr (.inl ⟨rfl,rfl⟩)))⟩,HB0.out⟩
 by_cases k5:kind=5
 · subst k5;clear k1 k2 k3 k4
   go_enter Tryz.func141,Tryz.ntmps141
   go_wp2_with fail
   go_ret
   exact⟨_,rfl,.inl ⟨(show(1:Int)<=5 by omega),(show(5:Int)<=5 by omega),.inr (.inr (.inr (.inr ⟨rfl,rfl⟩)))⟩,HB0.out⟩
 have q1:(kind == 1)=false:=by simp[k1]
 have q2:(kind == 2)=false:=by simp[k2]
 have q3:(kind == 3)=false:=by simp[k3]
 have q4:(kind == 4)=false:=by simp[k4]
 have q5:(kind == 5)=false:=by simp[k5]
 have HO:=ab (show kind < 1\/5 < kind by omega);clear k1 k2 k3 k4 k5
 go_enter Tryz.func141,Tryz.ntmps141
 go_wp2_with fail
 go_ret
 exact⟨_,rfl,.inr ⟨HO.out,rfl⟩,HB0.out⟩
end Go.Proofs.YtdilnodbfnlhdaaGreatDoor
namespace Go.Proofs.YtdilnodbfnlhdaaGreatDoor
open Go.RowKit Tide
section
variable {a:Nat->Addr} {T:World->Prop} {K:ByteArray->Nat} {w:World} {B:Nat}
theorem j5 (l:List UInt8):(text l).size=l.length:=by show(text l).data.size=_;simp[text]
theorem ET (e:aD) (vo:Value) (hk:e.kind=1) (hr:bQ w B vo 5 ((e.ops.map plainO).map bc)) (hB:B<=w.heap.size) (hz:eh e) (hL:dI a T K w):
 Calls Tryz.prog 227 #[.agg #[.int .i64 e.au,.int .i64 e.bF,.int .i64 e.seq,vo]] w λen w'=>en= .returned (.bool (aS K e))/\Below w.heap.size w w':=by
 have h:=EU a T K e.au e.bF e.seq (e.ops.map plainO) vo B w hr hB (λo ho=>by obtain⟨o',ho',rfl⟩:=List.mem_map.1 ho;exact(hz.1 o' ho').1) hL;have hb:(aW e.au 1 12 && (aW e.bF 1 4 && (aW e.seq 1 1073741824 && (aW ((e.ops.map plainO).length:Nat) 1 8 && !((e.ops.map plainO).any (dv K))))))=aS K e:=by rw[mf hk,AU,List.length_map,Bool.not_not];unfold jC cm aW;simp only[Bool.and_assoc]
 rw[hb]at h;exact h
theorem zh (e:aD) (hk:e.kind=2):
 Calls Tryz.prog 244 #[.agg #[.int .i64 e.au,.int .i64 e.server]] w λen w'=>en= .returned (.bool (aS K e))/\Below w.heap.size w w':=by
 have h:=zi e.au e.server w;rw[mg hk];exact h
theorem Dp (e:aD) (hk:e.kind=3) (hz:eh e) (hL:dI a T K w):
 Calls Tryz.prog 249 #[.agg #[.int .i64 e.au,.int .i64 e.other,.int .i64 e.server,.string e.key]] w λen w'=>en= .returned (.bool (aS K e))/\Below w.heap.size w w':=by
 have h:=Dq a T K e.au e.other e.server e.key w hz.2.1 hL;rw[mh hk];exact h
theorem merge_right (e:aD) (hk:e.kind=4):
 Calls Tryz.prog 256 #[.agg #[.int .i64 e.au,.int .i64 e.other]] w λen w'=>en= .returned (.bool (aS K e))/\Below w.heap.size w w':=by
 have h:=zc e.au e.other w;rw[kM hk];exact h
theorem vV (e:aD) (hk:e.kind=5):
 Calls Tryz.prog 261 #[.agg #[.int .i64 e.au,.int .i64 e.upto,.int .i64 e.parts,.int .i64 e.part,.string (text e.data)]] w λen w'=>en= .returned (.bool (aS K e))/\Below w.heap.size w w':=by
 have h:=vW e.au e.upto e.parts e.part (text e.data) w;have hb:(aW e.au 0 12 && (aW e.upto 0 4096 && (aW e.parts 1 64 && (aW e.part 0 (e.parts - 1) && decide (((text e.data).size:Int)<=256)))))=aS K e:=by rw[mj hk,j5,show aW e.part 0 (e.parts - 1)=(decide (0<=e.part) && decide (e.part < e.parts)) by unfold aW;rw[show decide (e.part<=e.parts - 1)=decide (e.part < e.parts) from decide_eq_decide.2 (by omega)]];unfold jQ cm aW;simp only[Bool.and_assoc]
 rw[hb]at h;exact h
end
def uD (K:ByteArray->Nat) (w:World) (e:aD) (en:Ending) (w':World):Prop:=
 ∃h,en= .returned h/\((aS K e=true/\fI w' w'.heap.size h e)\/(aS K e=false/\h= .nilIface))/\Below w.heap.size w w'
theorem sB (a:Nat->Addr) (T:World->Prop) (K:ByteArray->Nat) (e:aD) (vo vd:Value) (B:Nat) (w:World) (hi:dY w B e vo vd) (hB:B<=w.heap.size) (hz:eh e) (hL:dI a T K w):
 Calls Tryz.prog 96 #[.agg (cj e vo vd)] w (uD K w e):=by
 obtain⟨A,c,rfl,_,_⟩:=eV hi.1;obtain⟨Ad,cd,rfl,_,_,_⟩:=hi.2.form;have HB0:=ab (show Below w.heap.size w (bG w e (.slice A e.ops.length c) (.slice Ad e.data.length cd)) from(Below.refl _ _).alloc (Nat.le_refl _) _);have CO:=ab (zH e _ _ B (bG w e (.slice A e.ops.length c) (.slice Ad e.data.length cd)) (hi.below (HB0.out.mono hB)) (Nat.le_trans hB HB0.out.size) (by have:=hz.2.2.2;omega));have HZ:=ab hz;have HLI:=ab hL;clear hi hz hL;unfold cj at *
 go_enter Tryz.func96,Tryz.ntmps96
 go_wp2_with fail
 refine CO.out.mono ?_;rintro en w1 ⟨h,rfl,hk,hb⟩;have HB1:=ab (HB0.out.trans (hb.mono HB0.out.size));clear hb CO;rcases hk with⟨h1,h5,hk⟩|⟨hn,rfl⟩
 · rcases hk with⟨k1,u,rfl,hu⟩|⟨k1,rfl⟩|⟨k1,rfl⟩|⟨k1,rfl⟩|⟨k1,rfl⟩
   · obtain⟨_,A2,c2,hu2,_⟩:=id hu;rw[List.length_map,List.length_map]at hu2;subst hu2;have CR:=ab (ET (a:=a) (T:=T) (K:=K) e _ k1 hu (Nat.le_refl _) HZ.out (HLI.out.below HB1.out));have KI:=ab (show ∀W,Below w1.heap.size w1 W->fI W W.heap.size (.iface 260 (.agg #[.int .i64 e.au,.int .i64 e.bF,.int .i64 e.seq,.slice A2 e.ops.length c2])) e from λW hb=>(fI.more (.inl ⟨k1,_,rfl,hu.below hb⟩:fI W w1.heap.size _ e) hb.size));clear k1 hu;cases hR:aS K e with
     | false=>
       rw[hR]at CR
       go_wp2_with fail
       refine CR.out.mono ?_;rintro en w2 ⟨rfl,hb⟩;have HB2:=ab (HB1.out.trans (hb.mono HB1.out.size));clear hb
       go_wp2_with fail
       go_ret
       exact⟨_,rfl,.inr ⟨hR,rfl⟩,HB2.out⟩
     | true=>
       rw[hR]at CR
       go_wp2_with fail
       refine CR.out.mono ?_;rintro en w2 ⟨rfl,hb⟩;have HB2:=ab (HB1.out.trans (hb.mono HB1.out.size));have KI2:=ab (KI.out _ hb);clear hb
       go_wp2_with fail
       go_ret
       exact⟨_,rfl,.inl ⟨hR,KI2.out⟩,HB2.out⟩
   · have CR:=ab (zh (K:=K) (w:=w1) e k1);have KI:=ab (show ∀W,Below w1.heap.size w1 W->fI W W.heap.size (.iface 262 (.agg #[.int .i64 e.au,.int .i64 e.server])) e from λW hb=> .inr (.inl ⟨k1,rfl⟩));clear k1;cases hR:aS K e with
     | false=>
       rw[hR]at CR
       go_wp2_with fail
       refine CR.out.mono ?_;rintro en w2 ⟨rfl,hb⟩;have HB2:=ab (HB1.out.trans (hb.mono HB1.out.size));clear hb
       go_wp2_with fail
       go_ret
       exact⟨_,rfl,.inr ⟨hR,rfl⟩,HB2.out⟩
     | true=>
       rw[hR]at CR
       go_wp2_with fail
       refine CR.out.mono ?_;rintro en w2 ⟨rfl,hb⟩;have HB2:=ab (HB1.out.trans (hb.mono HB1.out.size));have KI2:=ab (KI.out _ hb);clear hb
       go_wp2_with fail
       go_ret
       exact⟨_,rfl,.inl ⟨hR,KI2.out⟩,HB2.out⟩
   · have CR:=ab (Dp (a:=a) (T:=T) (K:=K) (w:=w1) e k1 HZ.out (HLI.out.below HB1.out));have KI:=ab (show ∀W,Below w1.heap.size w1 W->fI W W.heap.size (.iface 264 (.agg #[.int .i64 e.au,.int .i64 e.other,.int .i64 e.server,.string e.key])) e from λW hb=> .inr (.inr (.inl ⟨k1,rfl⟩)));clear k1;cases hR:aS K e with
     | false=>
       rw[hR]at CR
       go_wp2_with fail
       refine CR.out.mono ?_;rintro en w2 ⟨rfl,hb⟩;have HB2:=ab (HB1.out.trans (hb.mono HB1.out.size));clear hb
       go_wp2_with fail
       go_ret
       exact⟨_,rfl,.inr ⟨hR,rfl⟩,HB2.out⟩
     | true=>
       rw[hR]at CR
       go_wp2_with fail
       refine CR.out.mono ?_;rintro en w2 ⟨rfl,hb⟩;have HB2:=ab (HB1.out.trans (hb.mono HB1.out.size));have KI2:=ab (KI.out _ hb);clear hb
       go_wp2_with fail
       go_ret
       exact⟨_,rfl,.inl ⟨hR,KI2.out⟩,HB2.out⟩
   · have CR:=ab (merge_right (K:=K) (w:=w1) e k1);have KI:=ab (show ∀W,Below w1.heap.size w1 W->fI W W.heap.size (.iface 266 (.agg #[.int .i64 e.au,.int .i64 e.other])) e from λW hb=> .inr (.inr (.inr (.inl ⟨k1,rfl⟩))));clear k1;cases hR:aS K e with
     | false=>
       rw[hR]at CR
       go_wp2_with fail
       refine CR.out.mono ?_;rintro en w2 ⟨rfl,hb⟩;have HB2:=ab (HB1.out.trans (hb.mono HB1.out.size));clear hb
       go_wp2_with fail
       go_ret
       exact⟨_,rfl,.inr ⟨hR,rfl⟩,HB2.out⟩
     | true=>
       rw[hR]at CR
       go_wp2_with fail
       refine CR.out.mono ?_;rintro en w2 ⟨rfl,hb⟩;have HB2:=ab (HB1.out.trans (hb.mono HB1.out.size));have KI2:=ab (KI.out _ hb);clear hb
       go_wp2_with fail
       go_ret
       exact⟨_,rfl,.inl ⟨hR,KI2.out⟩,HB2.out⟩
   · have CR:=ab (vV (K:=K) (w:=w1) e k1);have KI:=ab (show ∀W,Below w1.heap.size w1 W->fI W W.heap.size (.iface 268 (.agg #[.int .i64 e.au,.int .i64 e.upto,.int .i64 e.parts,.int .i64 e.part,.string (text e.data)])) e from λW hb=> .inr (.inr (.inr (.inr ⟨k1,rfl⟩))));clear k1;cases hR:aS K e with
     | false=>
       rw[hR]at CR
       go_wp2_with fail
       refine CR.out.mono ?_;rintro en w2 ⟨rfl,hb⟩;have HB2:=ab (HB1.out.trans (hb.mono HB1.out.size));clear hb
       go_wp2_with fail
       go_ret
       exact⟨_,rfl,.inr ⟨hR,rfl⟩,HB2.out⟩
     | true=>
       rw[hR]at CR
       go_wp2_with fail
       refine CR.out.mono ?_;rintro en w2 ⟨rfl,hb⟩;have HB2:=ab (HB1.out.trans (hb.mono HB1.out.size));have KI2:=ab (KI.out _ hb);clear hb
       go_wp2_with fail
       go_ret
       exact⟨_,rfl,.inl ⟨hR,KI2.out⟩,HB2.out⟩
 · have HF:=ab (show aS K e=false from BZ (by omega) (by omega) (by omega) (by omega) (by omega));clear hn
   go_wp2_with fail
   go_ret
   exact⟨_,rfl,.inr ⟨HF.out,rfl⟩,HB1.out⟩
end Go.Proofs.YtdilnodbfnlhdaaGreatDoor
namespace Go.Proofs.YtdilnodbfnlhdaaGreatDoor
open Go.RowKit Tide
def bI (e:aD):List Int:=if e.kind=1\/e.kind=5 then[e.au]else if e.kind=2 then[0,e.au]else[0,min e.au e.other,max e.au e.other]
def iI (w:World) (zs:List Int) (en:Ending) (w':World):Prop:=∃u,en= .returned u/\(Row w' w'.heap.size u (ay zs)/\∀k,u.ownBlock=some k->w.heap.size<=k)/\Below w.heap.size w w'
theorem jP {b n c k m:Nat} (e:(Value.slice (some ⟨b,0,none⟩) n c).ownBlock=some k) (h:m<=b):m<=k:=by injection e with e;subst e;exact h
theorem pN (x y:Int) (w:World):Calls Tryz.prog 253 #[.int .i64 x,.int .i64 y] w (iI w [0,min x y,max x y]):=by
 rcases Int.lt_trichotomy x y with h|h|h
 · rw[show min x y=x by omega,show max x y=y by omega]
   go_enter Tryz.func253,Tryz.ntmps253
   go_wp2_with fail
   go_ret
   exact⟨_,rfl,⟨(Row.new w 3 #[.int .i64 0,.int .i64 x,.int .i64 y] (0,0) w.heap.size 3 rfl rfl (by omega)).more (by simp),λ_ e=>jP e (by simp)⟩,(Below.refl _ _).alloc (Nat.le_refl _) _⟩
 · subst h;rw[show min x x=x by omega,show max x x=x by omega]
   go_enter Tryz.func253,Tryz.ntmps253
   go_wp2_with fail
   go_ret
   exact⟨_,rfl,⟨(Row.new w 3 #[.int .i64 0,.int .i64 x,.int .i64 x] (0,0) w.heap.size 3 rfl rfl (by omega)).more (by simp),λ_ e=>jP e (by simp)⟩,(Below.refl _ _).alloc (Nat.le_refl _) _⟩
 · rw[show min x y=y by omega,show max x y=x by omega]
   go_enter Tryz.func253,Tryz.ntmps253
   go_wp2_with fail
   go_ret
   exact⟨_,rfl,⟨(Row.new w 3 #[.int .i64 0,.int .i64 y,.int .i64 x] (0,0) w.heap.size 3 rfl rfl (by omega)).more (by simp),λ_ e=>jP e (by simp)⟩,(Below.refl _ _).alloc (Nat.le_refl _) _⟩
theorem EW (sh cl sq:Int) (vo:Value) (hvo:∃A n c,vo= .slice A n c) (w:World):Calls Tryz.prog 229 #[.agg #[.int .i64 sh,.int .i64 cl,.int .i64 sq,vo]] w (iI w [sh]):=by
 obtain⟨A,n,c,rfl⟩:=hvo
 go_enter Tryz.func229,Tryz.ntmps229
 go_wp2_with fail
 go_ret
 exact⟨_,rfl,⟨(Row.new (w.alloc _) 3 #[.int .i64 sh] (0,0) (w.heap.size+1) 1 (by simp) rfl (by omega)).more (by simp),λ_ e=>jP e (by simp)⟩,((Below.refl _ _).alloc (Nat.le_refl _) _).alloc (by simp) _⟩
theorem vX (sh up ps pt:Int) (s:ByteArray) (w:World):Calls Tryz.prog 263 #[.agg #[.int .i64 sh,.int .i64 up,.int .i64 ps,.int .i64 pt,.string s]] w (iI w [sh]):=by
 go_enter Tryz.func263,Tryz.ntmps263
 go_wp2_with fail
 go_ret
 exact⟨_,rfl,⟨(Row.new (w.alloc _) 3 #[.int .i64 sh] (0,0) (w.heap.size+1) 1 (by simp) rfl (by omega)).more (by simp),λ_ e=>jP e (by simp)⟩,((Below.refl _ _).alloc (Nat.le_refl _) _).alloc (by simp) _⟩
theorem zj (sh sv:Int) (w:World):Calls Tryz.prog 246 #[.agg #[.int .i64 sh,.int .i64 sv]] w (iI w [0,sh]):=by
 go_enter Tryz.func246,Tryz.ntmps246
 go_wp2_with fail
 go_ret
 exact⟨_,rfl,⟨(Row.new (w.alloc _) 3 #[.int .i64 0,.int .i64 sh] (0,0) (w.heap.size+1) 2 (by simp) rfl (by omega)).more (by simp),λ_ e=>jP e (by simp)⟩,((Below.refl _ _).alloc (Nat.le_refl _) _).alloc (by simp) _⟩
theorem Dr (sh ot sv:Int) (key:ByteArray) (w:World):Calls Tryz.prog 251 #[.agg #[.int .i64 sh,.int .i64 ot,.int .i64 sv,.string key]] w (iI w [0,min sh ot,max sh ot]):=by
 have HB0:=ab (show Below w.heap.size w (w.alloc (.cells #[.int .i64 sh,.int .i64 ot,.int .i64 sv,.string key] 264)) from(Below.refl _ _).alloc (Nat.le_refl _) _);have CB:=ab (λw=>pN sh ot w);generalize min sh ot=mi at *;generalize max sh ot=ma at *
 go_enter Tryz.func251,Tryz.ntmps251
 go_wp2_with fail
 refine(CB.out _).mono ?_;rintro en w1 ⟨u,rfl,hu,hb⟩;have HU:=ab hu;have HB1:=ab (HB0.out.trans (hb.mono HB0.out.size));clear hu hb
 go_wp2_with fail
 go_ret
 exact⟨_,rfl,⟨HU.out.1,λk e=>Nat.le_trans HB0.out.size (HU.out.2 k e)⟩,HB1.out⟩
theorem zd (sh ot:Int) (w:World):Calls Tryz.prog 258 #[.agg #[.int .i64 sh,.int .i64 ot]] w (iI w [0,min sh ot,max sh ot]):=by
 have HB0:=ab (show Below w.heap.size w (w.alloc (.cells #[.int .i64 sh,.int .i64 ot] 266)) from(Below.refl _ _).alloc (Nat.le_refl _) _);have CB:=ab (λw=>pN sh ot w);generalize min sh ot=mi at *;generalize max sh ot=ma at *
 go_enter Tryz.func258,Tryz.ntmps258
 go_wp2_with fail
 refine(CB.out _).mono ?_;rintro en w1 ⟨u,rfl,hu,hb⟩;have HU:=ab hu;have HB1:=ab (HB0.out.trans (hb.mono HB0.out.size));clear hu hb
 go_wp2_with fail
 go_ret
 exact⟨_,rfl,⟨HU.out.1,λk e=>Nat.le_trans HB0.out.size (HU.out.2 k e)⟩,HB1.out⟩
theorem tv (a:Nat->Addr) (T:World->Prop) (K:ByteArray->Nat) (e:aD) (vo vd:Value) (B:Nat) (w:World) (hi:dY w B e vo vd) (hB:B<=w.heap.size) (hz:eh e) (hL:dI a T K w):
 Calls Tryz.prog 44 #[.agg (cj e vo vd)] w (iI w (if aS K e then bI e else[])):=by
 obtain⟨A,c,rfl,_,_⟩:=eV hi.1;obtain⟨Ad,cd,rfl,_,_,_⟩:=hi.2.form;have HB0:=ab (show Below w.heap.size w (bG w e (.slice A e.ops.length c) (.slice Ad e.data.length cd)) from(Below.refl _ _).alloc (Nat.le_refl _) _);have CO:=ab (sB a T K e _ _ B (bG w e (.slice A e.ops.length c) (.slice Ad e.data.length cd)) (hi.below (HB0.out.mono hB)) (Nat.le_trans hB HB0.out.size) hz (hL.below HB0.out));clear hi hz hL;obtain⟨zz,hzz⟩:∃zz,zz=(if aS K e then bI e else[]):=⟨_,rfl⟩;rw[<-hzz];have HZZ:=ab hzz;clear hzz;unfold cj at *
 go_enter Tryz.func44,Tryz.ntmps44
 go_wp2_with fail
 refine CO.out.mono ?_;rintro en w1 ⟨h,rfl,hk,hb⟩;have HB1:=ab (HB0.out.trans (hb.mono HB0.out.size));clear hb CO;rcases hk with⟨hR,hk⟩|⟨hR,rfl⟩
 · have HR:=ab hR;clear hR;rcases hk with⟨k1,u,rfl,hu⟩|⟨k1,rfl⟩|⟨k1,rfl⟩|⟨k1,rfl⟩|⟨k1,rfl⟩
   · obtain⟨_,A2,c2,hu2,_⟩:=id hu;rw[List.length_map,List.length_map]at hu2;subst hu2;clear hu;have HZ:=ab (show bI e= [e.au] by unfold bI;rw[if_pos (Or.inl k1)]);have CS:=ab (EW e.au e.bF e.seq (.slice A2 e.ops.length c2) ⟨_,_,_,rfl⟩ w1);clear k1
     go_wp2_with fail
     refine CS.out.mono ?_;rintro en w2 ⟨u2,rfl,hu2,hb⟩;have HB2:=ab (HB1.out.trans (hb.mono HB1.out.size));have HU2:=ab hu2;clear hb hu2
     go_wp2_with fail
     go_ret
     exact⟨_,rfl,by rw[HZZ.out,HR.out,if_pos rfl,HZ.out];exact⟨HU2.out.1,λk e=>Nat.le_trans HB1.out.size (HU2.out.2 k e)⟩,HB2.out⟩
   · have HZ:=ab (show bI e= [0,e.au] by unfold bI;rw[if_neg (by omega),if_pos k1]);have CS:=ab (zj e.au e.server w1);clear k1
     go_wp2_with fail
     refine CS.out.mono ?_;rintro en w2 ⟨u2,rfl,hu2,hb⟩;have HB2:=ab (HB1.out.trans (hb.mono HB1.out.size));have HU2:=ab hu2;clear hb hu2
     go_wp2_with fail
     go_ret
     exact⟨_,rfl,by rw[HZZ.out,HR.out,if_pos rfl,HZ.out];exact⟨HU2.out.1,λk e=>Nat.le_trans HB1.out.size (HU2.out.2 k e)⟩,HB2.out⟩
   · have HZ:=ab (show bI e= [0,min e.au e.other,max e.au e.other] by unfold bI;rw[if_neg (by omega),if_neg (by omega)]);have CS:=ab (Dr e.au e.other e.server e.key w1);clear k1
     go_wp2_with fail
     refine CS.out.mono ?_;rintro en w2 ⟨u2,rfl,hu2,hb⟩;have HB2:=ab (HB1.out.trans (hb.mono HB1.out.size));have HU2:=ab hu2;clear hb hu2
     go_wp2_with fail
     go_ret
     exact⟨_,rfl,by rw[HZZ.out,HR.out,if_pos rfl,HZ.out];exact⟨HU2.out.1,λk e=>Nat.le_trans HB1.out.size (HU2.out.2 k e)⟩,HB2.out⟩
   · have HZ:=ab (show bI e= [0,min e.au e.other,max e.au e.other] by unfold bI;rw[if_neg (by omega),if_neg (by omega)]);have CS:=ab (zd e.au e.other w1);clear k1
     go_wp2_with fail
     refine CS.out.mono ?_;rintro en w2 ⟨u2,rfl,hu2,hb⟩;have HB2:=ab (HB1.out.trans (hb.mono HB1.out.size));have HU2:=ab hu2;clear hb hu2
     go_wp2_with fail
     go_ret
     exact⟨_,rfl,by rw[HZZ.out,HR.out,if_pos rfl,HZ.out];exact⟨HU2.out.1,λk e=>Nat.le_trans HB1.out.size (HU2.out.2 k e)⟩,HB2.out⟩
   · have HZ:=ab (show bI e= [e.au] by unfold bI;rw[if_pos (Or.inr k1)]);have CS:=ab (vX e.au e.upto e.parts e.part (text e.data) w1);clear k1
     go_wp2_with fail
     refine CS.out.mono ?_;rintro en w2 ⟨u2,rfl,hu2,hb⟩;have HB2:=ab (HB1.out.trans (hb.mono HB1.out.size));have HU2:=ab hu2;clear hb hu2
     go_wp2_with fail
     go_ret
     exact⟨_,rfl,by rw[HZZ.out,HR.out,if_pos rfl,HZ.out];exact⟨HU2.out.1,λk e=>Nat.le_trans HB1.out.size (HU2.out.2 k e)⟩,HB2.out⟩
 · have HR:=ab hR;clear hR
   go_wp2_with fail
   go_ret
   exact⟨_,rfl,by rw[HZZ.out,HR.out,if_neg (by simp)];exact⟨⟨by simp[ay],none,0,by simp[ay],by simp[ay],by simp,λh=>absurd rfl h⟩,λ_ e=>by cases e⟩,HB1.out⟩
end Go.Proofs.YtdilnodbfnlhdaaGreatDoor
