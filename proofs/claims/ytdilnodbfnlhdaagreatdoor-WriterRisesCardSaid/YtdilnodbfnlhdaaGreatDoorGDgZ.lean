import Derived.Test.YtdilnodbfnlhdaaGreatDoorGDgU
import Derived.Test.YtdilnodbfnlhdaaGreatDoorGDgS
import Derived.Deep.RegionHeld3
import Derived.Shelf.Abstract
import Derived.RangeFuncBox
import Derived.Stop.RegionWithIn
import Derived.OwnWalkIn
import Derived.TacticsInMore
import Derived.LoopNIn
import Derived.LoopIn
set_option maxRecDepth 100000
set_option maxHeartbeats 4000000
namespace Go.Proofs.YtdilnodbfnlhdaaGreatDoor
open Go.RowKit Tide
attribute [local go_sem] Oper.semAt_some
structure kW (W:World) (b p:Nat) (kv bz cut:Int):Prop where
 dev:Boxed W b 78 (.pointer (some ⟨p,0,none⟩))
 kept:Boxed W (b+1) 303 (.int .u64 kv)
 bz:Boxed W (b+2) 3 (.int .i64 bz)
 cut:Boxed W (b+3) 3 (.int .i64 cut)
abbrev jN (b:Nat):Array Value:= #[.pointer (some ⟨b,0,none⟩),.pointer (some ⟨b+2,0,none⟩),.pointer (some ⟨b+3,0,none⟩),.pointer (some ⟨b+1,0,none⟩)]
theorem Aj (p:Nat) (kv bz cut:Int) (w:World):Calls Tryz.prog 189 #[.pointer (some ⟨p,0,none⟩),.int .u64 kv,.int .i64 bz,.int .i64 cut] w λe w'=>e= .returned (.func (.func 191) #[] (jN w.heap.size))/\kW w' w.heap.size p kv bz cut/\Below w.heap.size w w'/\w.heap.size+4<=w'.heap.size:=by
 have hmf:∀ (fn:Fn) (first cap:Array Value) (w:World),(Instr.makeFunc fn first cap).run Tryz.prog w= .ok (.func fn first cap) w:=λ_ _ _ _=>rfl
 go_enter Tryz.func189,Tryz.ntmps189
 go_wp2_with fail
 go_ret
 have q0:=Boxed.new w 78 (.pointer (some ⟨p,0,none⟩));have q1:=Boxed.new (w.alloc (.cells #[.pointer (some ⟨p,0,none⟩)] 78)) 303 (.int .u64 kv);have q2:=Boxed.new ((w.alloc (.cells #[.pointer (some ⟨p,0,none⟩)] 78)).alloc (.cells #[.int .u64 kv] 303)) 3 (.int .i64 bz);have q3:=Boxed.new (((w.alloc (.cells #[.pointer (some ⟨p,0,none⟩)] 78)).alloc (.cells #[.int .u64 kv] 303)).alloc (.cells #[.int .i64 bz] 3)) 3 (.int .i64 cut);simp only[World.size_alloc]at q1 q2 q3;refine⟨rfl,⟨((q0.alloc _).alloc _).alloc _,(q1.alloc _).alloc _,q2.alloc _,q3⟩,?_,by simp⟩;exact((((Below.refl w.heap.size w).alloc (Nat.le_refl _) _).alloc (by simp) _).alloc (by simp;omega) _).alloc (by simp;omega) _
def Kz (bd:Nat) (w:World) (A B:World):Prop:=∀k,k < w.heap.size->k≠bd->B.heap[k]? =A.heap[k]?
theorem j9 {bd:Nat} {w A B C:World} (h:Kz bd w A B) (k:Kz bd w B C):Kz bd w A C:=λj h1 h2=>(k j h1 h2).trans (h j h1 h2)
theorem uy {bd:Nat} {w:World} (W:World) (l:Nat) (o:Obj) (hl:w.heap.size<=l):Kz bd w W (W.putObj l o):=λj h1 _=>World.putObj_heap_other (by omega)
def Zt {α:Type} (ts:List α) (pre:List α) (x:α):Prop:=∃h:pre.length < ts.length,pre=ts.take pre.length/\x=ts[pre.length]
theorem Zt.at {α:Type} {ts:List α} {k:Nat} (h:k < ts.length):Zt ts (ts.take k) ts[k]:=by
 have hl:(ts.take k).length=k:=by rw[List.length_take];omega
 exact⟨by rw[hl];exact h,by rw[hl],by simp only[hl]⟩
theorem Zt.mem {α:Type} {ts pre:List α} {x:α} (h:Zt ts pre x):x ∈ ts:=by obtain⟨h1,_,h3⟩:=h;rw[h3];exact List.getElem_mem h1
abbrev qa (x:Wr × Nat):Array Value:= #[.int .i64 (x.1.sec:Int),.slice (some ⟨x.1.g,0,none⟩) x.2 x.1.cap]
theorem vw:∀j,j < 64->bits BinOp.and IntKind.u64 ((18446744073709551615:Int) / 2 ^ j) 1=1:=by decide+kernel
theorem xL {W:World} (o:Obj):W.grownBy (W.alloc o).drew none:=by have h:=World.grownBy_alloc W o none;exact⟨h.os,h.tape,h.output,h.size,h.block⟩
theorem uw {bd:Nat} {w W:World} (h:Kz bd w w W) (o:Obj):Kz bd w W (W.alloc o).drew:=λk h1 h2=>by have h3:=h k h1 h2;rw[Array.getElem?_eq_getElem h1]at h3;exact Below.heap_alloc W o k (Array.getElem?_eq_some_iff.1 h3).1
theorem ns (x:Int) (h1: -9223372036854775808<=x) (h2:x<=9223372036854775807):wrap64 x=x:=by unfold wrap64;omega
theorem nr (x:Int) (h1: -9223372036854775808<=x) (h2:x<=9223372036854775807):IntKind.i64.wrap x=x:=by simp[IntKind.wrap,IntKind.signed,IntKind.bits];omega
theorem ze (a:Int):∃r:Int,a.tmod 65=r/\ -64<=r/\r<=64/\(r+65) % 65=a % 65:=by
 refine⟨_,rfl,?_⟩;rcases Int.le_total 0 a with h|h
 · rw[Int.tmod_eq_emod_of_nonneg h];omega
 · obtain⟨b,rfl⟩:∃b,a= -b:=⟨-a,by omega⟩;rw[Int.neg_tmod,Int.tmod_eq_emod_of_nonneg (by omega)];omega
theorem zf (a:Int) (w:World):Calls Tryz.prog 192 #[.int .i64 a,.int .i64 65] w λe w'=>e= .returned (.int .i64 ((a % 65).toNat:Nat))/\w=w':=by
 obtain⟨r,hr,h2,h3,h4⟩:=ze a;have hm0:(a % 65).toNat<=64:=by omega
 have q5:(r+65).tmod 65=(((a % 65).toNat:Nat):Int):=by rw[Int.tmod_eq_emod_of_nonneg (by omega),h4];omega
 have q6:(r+65) % 65=(((a % 65).toNat:Nat):Int):=by omega
 generalize (a % 65).toNat=m at *;have b1: -9223372036854775808<=r:=by omega
 have b2:r<=9223372036854775807:=by omega
 have b3: -9223372036854775808<=r+65:=by omega
 have b4:r+65<=9223372036854775807:=by omega
 have b5: -9223372036854775808<=(m:Int):=by omega
 have b6:(m:Int)<=9223372036854775807:=by omega
 have q2:=ns r b1 b2;have v2:=nr r b1 b2;have q3:=ns (r+65) b3 b4;have v3:=nr (r+65) b3 b4;have q7:=ns m b5 b6;have v7:=nr m b5 b6;clear h2 h3 h4 hm0 b1 b2 b3 b4 b5 b6
 go_enter Tryz.func192,Tryz.ntmps192
 go_wp2_with fail
 go_ret
 exact⟨rfl,rfl⟩
theorem Ak (n:Nat) (hn:1<=n) (kv bz cut:Int) (b:Nat) (w:World) {F:Nat->Prop} {p:Nat} {ae now:List UInt8} {ts:List Wr} {bd cd bn cn:Nat} {vp:Value} {st:Bool} {lf:Nat} (h:aK w F p ae now ts bd cd bn cn vp st lf) (hL:ts.length<=1000)
 (hb:kW w b p kv bz cut) (hbd:b≠bd/\b+1≠bd/\b+2≠bd/\b+3≠bd):
 px Fence.wide n Tryz.prog 191 (jN b) qa (Kz bd w) (λxs=>xs=ez (dS kv bz cut) ts) (Zt (ez (dS kv bz cut) ts)) w:=λlp J W hW hJ hY h0=>by
 have HY:=ab hY;have HJ:=ab hJ;have HD:=ab h;have HK0:=ab (show Kz bd w w W from λk hk _=>hW.block k hk);have c0:=hb.dev.cell;have cb:=(show Boxed W b _ _ from(hW.block b hb.dev.lt).trans hb.dev).cell;obtain⟨_,_,cp,_,_,_⟩:=(h.below hW).facts;have HB:=ab hb;have CM:=ab (zf cut);have HLen:=ab (show(ez (dS kv bz cut) ts).length=ts.length by simp[ez]);obtain⟨A,c,rfl,_,_⟩:=o3 h;clear hW hY hJ h c0 hb;refine callsIn_of_wp Tryz.func191 rfl trivial ?_ rfl;simp only[Tryz.ntmps191,List.size_toArray,List.length_cons,List.length_nil,Nat.reduceAdd,Nat.reduceSub,Array.replicate_succ,Array.replicate_zero,List.push_toArray,List.append_toArray,List.nil_append,List.cons_append]
 gi_wp2_with fail
 gi_loopw [14] (λi wr=>∃k:Nat,i= .int .i64 k/\k<=ts.length/\Hid (Kz bd w w wr)/\Hid (J ((ez (dS kv bz cut) ts).take k) wr)) (λi _=>ts.length - (intOf i).toNat)
 case atStart=>exact⟨0,rfl,Nat.zero_le _,HK0,ab (by simpa using h0)⟩
 case round=>
  obtain⟨k,rfl,hk,hKz,hJp⟩:=hrel;by_cases hlt:k < ts.length
  · obtain⟨gp,cp',hvp,_,hgl⟩:=HD.out.aq.form (by omega);injection hvp with e1 _ e3;subst e1 e3;have hgn:=HD.out.eT gp rfl;have hat:∀j u,(ts[k].cells)[j]? =some u->j < 2->wr.cell? ⟨gp,k * 2+j,none⟩=some u:=λj u hu hj=>by have h1:=HD.out.aq.cells (g:=gp) rfl (k * 2+j) u (by rw[o5 ts k j hlt hj];exact hu);rw[da,Nat.zero_add]at h1;exact(World.cell?_of_block (w:=w) (hKz.out gp hgl hgn.2.1)).trans h1
    have f0:=hat 0 _ rfl (by omega);have f1:=hat 1 _ rfl (by omega);rw[Nat.add_zero]at f0;have ft:wr.cell? ⟨b+2,0,none⟩=some (.int .i64 bz):=(World.cell?_of_block (w:=w) (hKz.out _ HB.out.bz.lt hbd.2.2.1)).trans HB.out.bz.cell;have fk:wr.cell? ⟨b+1,0,none⟩=some (.int .u64 kv):=(World.cell?_of_block (w:=w) (hKz.out _ HB.out.kept.lt hbd.2.1)).trans HB.out.kept.cell;have fc:wr.cell? ⟨b+3,0,none⟩=some (.int .i64 cut):=(World.cell?_of_block (w:=w) (hKz.out _ HB.out.cut.lt hbd.2.2.2)).trans HB.out.cut.cell;have g2:b+2 < wr.heap.size:=World.block_lt_of_cell? _ _ ft;have g1:b+1 < wr.heap.size:=World.block_lt_of_cell? _ _ fk;have g3:b+3 < wr.heap.size:=World.block_lt_of_cell? _ _ fc;have hkl:k < (ez (dS kv bz cut) ts).length:=by rw[HLen.out];exact hlt
    have hxe:(ez (dS kv bz cut) ts)[k]=(ts[k],dS kv bz cut k):=by simp[ez]
    have hz:=Zt.at hkl;have htk:=List.take_succ_eq_append_getElem hkl;rw[hxe]at hz htk;have HZ:=ab hz;have HTK:=ab htk;have hcp:64<=(ts[k]).cap:=by
     rcases(HD.out.wr _ (List.getElem_mem hlt)).2 with⟨h1,_⟩|⟨_,_,_,h1,_,_,h2,_⟩
     · cases h1
     · injection h1 with _ _ e;rw[e];exact h2
    clear hat hz htk hxe;generalize ts[k]=t at *;have HJA:=ab (HJ.out _ _ _ hJp.out (xL (.cells #[.int .i64 (t.sec:Int),sl t.g 64 t.cap] 298)));have HKA:=ab (j9 hKz.out (uw hKz.out (.cells #[.int .i64 (t.sec:Int),sl t.g 64 t.cap] 298)));obtain⟨m,hm⟩:=aa (dS kv bz cut k);have hcases:((k:Int)=bz/\(cut % 65).toNat=m)\/(¬(k:Int)=bz/\bits BinOp.and IntKind.u64 (kv / 2 ^ (k % 64)) 1=1/\m=64)\/(¬(k:Int)=bz/\¬bits BinOp.and IntKind.u64 (kv / 2 ^ (k % 64)) 1=1/\m=0):=by
     unfold dS at hm;split at hm
     · rename_i h;exact .inl ⟨h,hm⟩
     · rename_i h;split at hm
       · rename_i h2;exact .inr (.inl ⟨h,h2,hm.symm⟩)
       · rename_i h2;exact .inr (.inr ⟨h,h2,hm.symm⟩)
    have hm64:m<=64:=hm ▸ ll kv bz cut k;rw[hm]at HZ HTK;obtain⟨fn,tmps,assign,body,hy,hR⟩:=HY.out _ (t,m) _ HJA.out HZ.out;dsimp only[qa]at hy;have HRd:=ab hR;have HY2:=ab hy;have hcm:=λW=>nc t.g 64 t.cap m (m:Int) rfl hm64 hcp (by omega) W;clear hR hy hm hm64;rcases hcases with⟨h1,h2⟩|⟨h1,h2,h3⟩|⟨h1,h2,h3⟩
    · have q1:((k:Int) == bz)=true:=by rw[beq_iff_eq];exact h1
      have CM2:=CM.out;rw[h2]at CM2;have HCM:=ab CM2;clear CM2 CM h1 h2;have hy:=HY2.out
      gi_wp2_with fail
      refine⟨trivial,(callsIn_wide.2 (HCM.out _)).mono ?_⟩;rintro e w3 ⟨rfl,rfl⟩
      gi_wp2_with fail
      gi_region_with (refine HRd.out.mono ?_;rintro e w3 ⟨rfl,hJ3,hk3⟩;have HJ3:=ab hJ3;have HK3:=ab (j9 HKA.out hk3);clear hJ3 hk3)
      all_goals
       clear hcm hy HY2 HRd HJA HKA HCM f0 f1 ft fk fc g1 g2 g3 q1
       gi_wp2_with fail
       go_roundw
       case rel=>exact⟨k+1,by go_num,by omega,HK3,ab (by rw[HTK.out];exact HJ3.out)⟩
       case measure=>simp[intOf];omega
    · have q1:((k:Int) == bz)=false:=by rw[beq_eq_false_iff_ne];exact h1
      have q2:(bits BinOp.and IntKind.u64 (kv / 2 ^ (k % 64)) 1 == 1)=true:=by rw[beq_iff_eq];exact h2
      subst h3;clear CM h1 h2;have hy:=HY2.out
      gi_wp2_with fail
      gi_region_with (refine HRd.out.mono ?_;rintro e w3 ⟨rfl,hJ3,hk3⟩;have HJ3:=ab hJ3;have HK3:=ab (j9 HKA.out hk3);clear hJ3 hk3)
      all_goals
       clear hcm hy HY2 HRd HJA HKA f0 f1 ft fk fc g1 g2 g3 q1 q2
       gi_wp2_with fail
       go_roundw
       case rel=>exact⟨k+1,by go_num,by omega,HK3,ab (by rw[HTK.out];exact HJ3.out)⟩
       case measure=>simp[intOf];omega
    · have q1:((k:Int) == bz)=false:=by rw[beq_eq_false_iff_ne];exact h1
      have q2:(bits BinOp.and IntKind.u64 (kv / 2 ^ (k % 64)) 1 == 1)=false:=by rw[beq_eq_false_iff_ne];exact h2
      subst h3;clear CM h1 h2;have hy:=HY2.out
      gi_wp2_with fail
      gi_region_with (refine HRd.out.mono ?_;rintro e w3 ⟨rfl,hJ3,hk3⟩;have HJ3:=ab hJ3;have HK3:=ab (j9 HKA.out hk3);clear hJ3 hk3)
      all_goals
       clear hcm hy HY2 HRd HJA HKA f0 f1 ft fk fc g1 g2 g3 q1 q2
       gi_wp2_with fail
       go_roundw
       case rel=>exact⟨k+1,by go_num,by omega,HK3,ab (by rw[HTK.out];exact HJ3.out)⟩
       case measure=>simp[intOf];omega
  · have hke:k=ts.length:=by omega
    subst hke
    gi_wp2_with fail
    go_end0
    refine⟨⟨_,rfl⟩,_,?_,hJp.out⟩;rw[<-HLen.out,List.take_length]
end Go.Proofs.YtdilnodbfnlhdaaGreatDoor
namespace Go.Proofs.YtdilnodbfnlhdaaGreatDoor
open Go.RowKit Go.Shelf Tide
attribute [local go_sem] Oper.semAt_some
def uA (ae:List UInt8) (bd cd:Nat) (w:World) (pre:List (Wr × Nat)) (W:World):Prop:=W.ownsRow 0 5 1 (sl bd ae.length cd) ae.length (aj (bC ae pre))/\Kept (λk=>k=bd) w W
theorem Ai (ae:List UInt8) (pre:List (Wr × Nat)) (x:Wr × Nat):splice (aj (bC ae pre)) (64 * x.1.sec) (aj (x.1.b.take x.2))=aj (bC ae (pre ++ [x])):=by rw[Ah,oS]
theorem aK.other {W A:World} {F:Nat->Prop} {p:Nat} {ae now:List UInt8} {ts:List Wr} {bd cd bn cn:Nat} {vp:Value} {st:Bool} {lf:Nat} (h:aK W F p ae now ts bd cd bn cn vp st lf) (hK:Kept (λk=>k=bd) W A):A.cell? ⟨p,0,none⟩=some (sl bd ae.length cd):=by rw[cell_of_row _ _ 0 _ _ _ (hK.heap h.block h.ne.1)];rfl
theorem u9 (d now:List UInt8) (pre:List (Nat × List UInt8)) (x:Nat × List UInt8):gw d now (pre ++ [x])=dg (gw d now pre) (x.1,ak d x.1):=by unfold gw;rw[List.map_append];exact qD _ _ _
theorem Ag {ae:List UInt8} {ts:List Wr} (h:gr ae ts) (c:Nat->Nat) (hc:∀k,c k<=64):(bC ae (ez c ts)).length=ae.length:=(lP _ _ _ (pU h c hc) h.gC).trans h.gC.symm
theorem aK.still {W W':World} {F:Nat->Prop} {p:Nat} {ae now:List UInt8} {ts:List Wr} {bd cd bn cn:Nat} {vp:Value} {st:Bool} {lf:Nat} (h:aK W F p ae now ts bd cd bn cn vp st lf) {X T:Nat} {t:TypeId} {v u:Value} (hx:Boxed W X t v) (hX:bn≠X) (hT:W.cell? ⟨T,0,none⟩=some u) (hTn:T≠bn) (hg:W.grownBy W' (some bn)):
 W'.cell? ⟨X,0,none⟩=some v/\W'.cell? ⟨p,1,none⟩=some (sl bn ae.length cn)/\W'.cell? ⟨p,0,none⟩=some (sl bd ae.length cd)/\W'.cell? ⟨T,0,none⟩=some u:=by
 have hK:Kept (λk=>k=bn) W W':=(Kept.refl _ _).grown hg (λk e=> .inl (by injection e with e;exact e.symm));obtain⟨c0,c1,_⟩:=h.facts;refine⟨(hK.cell (p:=⟨X,0,none⟩) hx.lt (λe=>hX e.symm)).trans hx.cell,(hK.cell (p:=⟨p,1,none⟩) h.iC h.ne.2.1).trans c1,(hK.cell (p:=⟨p,0,none⟩) h.iC h.ne.2.1).trans c0,(hK.cell (p:=⟨T,0,none⟩) (World.block_lt_of_cell? _ _ hT) hTn).trans hT⟩
theorem C9 {W:World} {F:Nat->Prop} {p:Nat} {ae:List UInt8} {ts:List Wr} {bd cd bn cn:Nat} {vp:Value} {st:Bool} {lf:Nat} (h:aK W F p ae (aI ae (ts.map Wr.pair)) ts bd cd bn cn vp st lf) (hr:gr ae ts) (hL:ae.length<=30000) (hn:ts.length<=1000)
 (kv bz cut:Int) (b:Nat) (hb:kW W b p kv bz cut) (hbd:b≠bd/\b+1≠bd/\b+2≠bd/\b+3≠bd):
 Calls Tryz.prog 188 #[.pointer (some ⟨p,0,none⟩),.func (.func 191) #[] (jN b)] W λe w'=>e= .returned (.tuple #[])/\aK w' F p (bC ae (ez (dS kv bz cut) ts)) (bC ae (ez (dS kv bz cut) ts)) [] bd cd bn cn (.slice none 0 0) st lf/\Kept F W w':=by
 have HR:=ab hr;have ba:=(Below.refl W.heap.size W).alloc (Nat.le_refl _) (.cells #[.pointer (some ⟨p,0,none⟩)] 78);have HD:=ab (h.below ba);have HBX:=ab (show kW (W.alloc (.cells #[.pointer (some ⟨p,0,none⟩)] 78)) b p kv bz cut from⟨hb.dev.alloc _,hb.kept.alloc _,hb.bz.alloc _,hb.cut.alloc _⟩);have hx:=Boxed.new W 78 (.pointer (some ⟨p,0,none⟩));have hpl:=h.iC;have HK0:=ab (Kept.al (F:=F) ba);have HFl:=ab h.lt;clear h hr hb ba;refine(callsIn_wide (n:=5)).1 ?_;refine callsIn_of_wp_marks Tryz.func188 rfl trivial ?_ rfl;simp only[Tryz.ntmps188,List.size_toArray,List.length_cons,List.length_nil,Nat.reduceAdd,Nat.reduceSub,Array.replicate_succ,Array.replicate_zero,List.push_toArray,List.append_toArray,List.nil_append,List.cons_append]
 gi_wp2_with fail
 generalize hW0:W.alloc (.cells #[.pointer (some ⟨p,0,none⟩)] 78)=W0 at *;have hz0:W0.heap.size=W.heap.size+1:=by rw[<-hW0,World.size_alloc]
 have hbdl:bd < W.heap.size:=by have h1:=HD.out.eA.lt bd rfl;have h2:bd≠W.heap.size:=λe=>hx.not_row (by decide) HD.out.eA (by rw[<-e];rfl);omega
 have HZ0:=ab hz0;have HX:=ab hx;clear hW0 hz0 hx
 refine Bl rfl (by omega) (gf:=191) (lb:=jN b) rfl trivial (enters_of Tryz.func191 (by kernel_rfl) rfl)
  (λ_=>rfl) (Ak _ (by omega) kv bz cut b W0 HD.out hn HBX.out hbd) j9 (λW l o h=>uy W l o h)
  (uA ae bd cd W0) ?hI ?hIo ⟨HD.out.eA,Kept.refl _ _⟩
  (λ(x:Wr × Nat)=> { tmps:= #[.pointer (some ⟨p,0,none⟩),.func (.func 191) #[] (jN b),.pointer (some ⟨W.heap.size,0,none⟩),undef,.int .i64 (x.1.sec:Int),.slice (some ⟨x.1.g,0,none⟩) x.2 x.1.cap,undef,undef,.func (.func 191) #[] (jN b),.int .i64 (x.1.sec:Int),.slice (some ⟨x.1.g,0,none⟩) x.2 x.1.cap,undef,undef,undef,undef,undef,undef,undef,undef,undef,undef,undef,undef,undef,undef,undef,undef,undef,undef,undef,undef,undef,undef,undef,undef,undef,undef,undef,undef,undef,undef,undef,undef,undef,undef,undef,undef],defers:= [] }) ?assign ?body ?done
 case hI=>rintro pre A B ⟨ho,hK⟩ hg;exact⟨ho.kept hg (.inr (by simp[Value.ownBlock])),hK.grown hg (λk e=>by cases e)⟩
 case hIo=>rintro pre A l o o' ⟨ho,hK⟩ hl hA hc;exact⟨ownsRow_putObj ho o' hA hc,hK.grown (grownBy_putObj' A l o') (λk e=> .inr (by injection e with e;omega))⟩
 case assign=>
  intro l x A K hK
  gi_wp2
  exact hK
 case body=>
  rintro l' pre x A ⟨ho,hK⟩ hZ;obtain⟨kx,hkx,hxe⟩:=List.mem_mapIdx.1 hZ.mem;have hxm:x.1 ∈ ts:=by rw[<-hxe];exact List.getElem_mem hkx
  have hm64:x.2<=64:=by rw[<-hxe];exact ll _ _ _ _
  obtain⟨hs,hb64⟩:=HR.out.at hxm;clear hxe hkx;obtain⟨x,m⟩:=x;dsimp only at hs hb64 hxm hm64 ⊢;have hcx:A.cell? ⟨W.heap.size,0,none⟩=some (.pointer (some ⟨p,0,none⟩)):=Boxed.cell (t:=78) (hK.heap HX.out (by omega));have hc0:=HD.out.other hK;have CS:=ab (kP bd ae.length cd x.sec hs hL (km HD.out).1 A);have hrow:=hK.own (HD.out.wr x hxm) (λk e=>by cases e;exact(HD.out.new x hxm).2.1);have HSt:=ab (Ai ae pre (x,m));have HO:=ab ho;have HKA:=ab hK;have HRow:=ab (Bytes.dm hrow);have HB64:=ab hb64;clear ho hK hrow hb64
  gi_wp2_with fail
  refine⟨trivial,(CallsIn.inRound l' (callsIn_wide.2 CS.out)).mono ?_⟩;rintro e w3 ⟨rfl,rfl⟩
  gi_wp2_with (refine EG rfl (.tmp 16) (.tmp 17) _ _ rfl 5 Tryz.underlying38 kQ bd (64 * x.sec) 64 _ rfl (some ⟨x.g,0,none⟩) m x.cap rfl 0 ae.length cd 5 _ HO.out (aj (x.b.take m)) ?d1 ?d2 (jg _) ?d3 ?_)
  case d1=>rw[aR,List.length_take,HB64.out]
  case d2=>rw[aR,List.length_take,HB64.out];omega
  case d3=>
   intro _;obtain⟨ad,e,hc⟩:=ml HRow.out HB64.out;refine⟨ad,e,λj v hj=>hc j v ?_⟩;have h1:j < m:=by have:=(List.getElem?_eq_some_iff.1 hj).1;rw[aR,List.length_take]at this;omega
   unfold aj at hj ⊢;rw[List.getElem?_map,List.getElem?_take_of_lt h1]at hj;rw[List.getElem?_map];exact hj
  intro w4 o4 g4 z4
  gi_wp2_with fail
  have h4:=o4.out;rw[HSt.out]at h4;refine⟨KeepsOthers.of_grownBy g4.out (λj o e hj=> ?_),λk h1 h2=>g4.out.block k (Nat.lt_of_lt_of_le h1 HKA.out.size) (λe=>h2 (Option.some.inj e)),h4,HKA.out.grown g4.out (λk e=> .inl (by injection e with e;exact e.symm))⟩;injection e with e;subst e;rcases HO.out.2 with⟨h5,_⟩|⟨g,_,_,h5,_,h6,_⟩
  · cases h5
  · injection h5 with h5 _ _;injection h5 with h5;injection h5 with h5 _;rw[h5,h6]at hj;injection hj with hj;subst hj;rfl
 case done=>
  rintro D XS w1 hD rfl ⟨ho,hK⟩ hdf;rename_i Kc hKc;refine hKc _ _ (wpIn_wide.2 ?_);dsimp only;have hdl:=Ag HR.out (dS kv bz cut) (ll _ _ _);have HBk:=ab (Af HR.out (dS kv bz cut) (ll _ _ _));have hD1:=HD.out.BQ hdl ho hK;have HKW:=ab (HK0.out.trans (hK.mono (G:=F) (λk _ e=>by subst e;exact HD.out.fp.2.1)) (λk hk=> .inl hk));have HX1:=ab (show Boxed w1 W.heap.size 78 (.pointer (some ⟨p,0,none⟩)) from hK.heap HX.out (by omega));have hat:∀t ∈ ts,64 * t.sec+64<=ae.length:=λt ht=>(HR.out.at ht).1;have hbnl:bn < W0.heap.size:=(HD.out.now.lt bn rfl).2;have hbnX:bn≠W.heap.size:=λe=>HX.out.not_row (by decide) HD.out.now (by rw[<-e];rfl);have hpX:p≠W.heap.size:=by have:=HFl.out p HD.out.fp.1;omega
  have HDz:=ab hD;have hcd:=(km hD1).1;have hcn:=(km hD1).2;rw[<-hdl]at hat hL;obtain⟨now0,hnow0⟩:=aa (aI ae (ts.map Wr.pair));obtain⟨d,hd⟩:=aa (bC ae (ez (dS kv bz cut) ts));rw[hnow0,hd]at hD1 HBk;rw[hd]at hdl hat hL hcd hcn;have HDE:=ab hd;have HAt:=ab hat;have HD1:=ab hD1;have HDF:=ab hdf;have HF2:=ab HD1.out.fp;obtain⟨_,_,c2,_,_,_⟩:=hD1.facts;have cX:=HX1.out.cell;obtain⟨A,c,hvp,_,_⟩:=o3 hD1;subst hvp;clear HR HBX hbd HD HK0 ho hK hdl hD hD1 hat hdf hnow0 hd HX hbdl
  go_wp2_with fail
  go_loopw [24] (λi wr=>∃k:Nat,i= .int .i64 k/\k<=ts.length/\Hid (aK wr F p d (gw d now0 ((ts.take k).map Wr.pair)) ts bd cd bn cn (.slice A ts.length c) st lf)/\Hid (Kept F W wr)/\Hid (Boxed wr W.heap.size 78 (.pointer (some ⟨p,0,none⟩)))/\Hid (wr.heap[D]? =some (.deferred (some [])))/\Hid (W0.heap.size<=wr.heap.size)) (λi _=>ts.length - (intOf i).toNat)
  case atStart=>exact⟨0,rfl,Nat.zero_le _,HD1,HKW,HX1,HDF,ab (by have:=HKW.out.size;have:=HX1.out.lt;have:=HZ0.out;omega)⟩
  case round=>
   obtain⟨k,rfl,hk,hDk,hKk,hXk,hFk,hSk⟩:=hrel;have cX:=hXk.out.cell;by_cases hlt:k < ts.length
   · obtain⟨gp,cp',hvp,_,hgl⟩:=hDk.out.aq.form (by omega);injection hvp with e1 _ e3;subst e1 e3;have hat:∀j u,(ts[k].cells)[j]? =some u->j < 2->wr.cell? ⟨gp,k * 2+j,none⟩=some u:=λj u hu hj=>by
      have h1:=hDk.out.aq.cells (g:=gp) rfl (k * 2+j) u (by rw[o5 ts k j hlt hj];exact hu)
      rwa[da,Nat.zero_add]at h1
     have f0:=hat 0 _ rfl (by omega);have f1:=hat 1 _ rfl (by omega);rw[Nat.add_zero]at f0;have hs:=HAt.out _ (List.getElem_mem hlt);have HSn:=ab (show gw d now0 ((ts.take (k+1)).map Wr.pair)=dg (gw d now0 ((ts.take k).map Wr.pair)) ((ts[k]).sec,ak d (ts[k]).sec) by rw[List.take_succ_eq_append_getElem hlt,List.map_append];exact u9 _ _ _ _);clear hat;generalize ts[k]=t at *;generalize gw d now0 ((ts.take k).map Wr.pair)=nowk at *;have ba:=((Below.refl wr.heap.size wr).alloc (Nat.le_refl _) (.cells #[.int .i64 (t.sec:Int),sl t.g 64 t.cap] 298)).drew;have HDa:=ab (hDk.out.below ba);have HKa:=ab (hKk.out.trans (Kept.al (F:=F) ba) (λk hk=> .inl hk));have HXa:=ab (show Boxed (wr.alloc (.cells #[.int .i64 (t.sec:Int),sl t.g 64 t.cap] 298)).drew W.heap.size 78 (.pointer (some ⟨p,0,none⟩)) from(hXk.out.alloc _));have HFa:=ab (show(wr.alloc (.cells #[.int .i64 (t.sec:Int),sl t.g 64 t.cap] 298)).drew.heap[D]? =some (.deferred (some [])) from(Below.heap_alloc _ _ _ (Array.getElem?_eq_some_iff.1 hFk.out).1).trans hFk.out);have hTa:(wr.alloc (.cells #[.int .i64 (t.sec:Int),sl t.g 64 t.cap] 298)).drew.cell? ⟨wr.heap.size,0,none⟩=some (.int .i64 (t.sec:Int)):=by rw[show(wr.alloc (.cells #[.int .i64 (t.sec:Int),sl t.g 64 t.cap] 298)).drew.cell? ⟨wr.heap.size,0,none⟩=(wr.alloc (.cells #[.int .i64 (t.sec:Int),sl t.g 64 t.cap] 298)).cell? ⟨wr.heap.size,0,none⟩from rfl,cell_of_row _ _ 0 _ _ _ (heap_alloc_new wr _)];rfl
     obtain⟨n0,n1,_,_,_,_⟩:=HDa.out.facts;have nX:=HXa.out.cell;have HS0:=ab (And.intro nX (And.intro n1 (And.intro n0 hTa)));have CS1:=ab (λW=>kP bn d.length cn t.sec hs hL hcn W);have CS2:=ab (λW=>kP bd d.length cd t.sec hs hL hcd W);have hXlt:W.heap.size < wr.heap.size:=hXk.out.lt;have HSrc:=ab (ml (sQ HDa.out.eA hs) (gV d t.sec hs));have HSl:=ab (gV d t.sec hs);have hsn:64 * t.sec+64<=d.length:=hs;have HTa:=ab hTa;have hTn:wr.heap.size≠bn:=λe=>by have:=hDk.out.lt _ hDk.out.fp.2.2.1;omega
     clear ba nX n0 n1 hTa c2
     go_wp2_with fail
     clear cX f0 f1
     go_region_held3 (λw'=>w'.cell? ⟨W.heap.size,0,none⟩=some (.pointer (some ⟨p,0,none⟩))/\w'.cell? ⟨p,1,none⟩=some (sl bn d.length cn)/\w'.cell? ⟨p,0,none⟩=some (sl bd d.length cd)/\w'.cell? ⟨wr.heap.size,0,none⟩=some (.int .i64 (t.sec:Int)))
      (first|assumption|exact HS0.out|exact HS4.out)
      (first
        | (go_at_call 168;(first|(with_reducible refine(CS1.out _).mono ?_)|(with_reducible refine(CS2.out _).mono ?_));rintro en w2 ⟨rfl,rfl⟩)
        | (refine tq rfl (.tmp 34) (.tmp 41) _ _ rfl 5 Tryz.underlying38 kQ bn (64 * t.sec) 64 _ rfl (some ⟨bd,64 * t.sec,none⟩) 64 _ rfl 0 d.length cn 5 _ HDa.out.now (aj (ak d t.sec)) ?_ ?_ (jg _) (λ_=>HSrc.out) ?_;(rw[aR,HSl.out];rfl);(rw[aR,HSl.out];exact hsn);intro w4 o4 g4 z4;have HS4:=ab (HDa.out.still HXa.out hbnX HTa.out hTn g4.out)))
     all_goals
      have h4:=o4.out;rw[th _ _ _ HSl.out,<-HSn.out]at h4;obtain⟨D4',K4'⟩:=HDa.out.sw h4 g4.out;have D4:=ab D4';have K4:=ab (HKa.out.trans K4' (λk hk=> .inl hk));have X4:=ab (HXa.out.kept g4.out (by intro e;injection e with e;exact hbnX e.symm));have F4:=ab ((g4.out.block D (Array.getElem?_eq_some_iff.1 HFa.out).1 (by intro e;injection e with e;have:=HDz.out;omega)).trans HFa.out);have S4:=ab (show W0.heap.size<=w4.heap.size from by have h1:=z4.out;have h2:=hSk.out;simp at h1;omega);clear h4 D4' K4' o4 g4 z4 HS4 HS0 CS1 CS2 HSrc HSl HDa HKa HXa HFa HTa
      go_wp2_with fail
      go_roundw
      case rel=>exact⟨k+1,by go_num,by omega,D4,K4,X4,F4,S4⟩
      case measure=>simp[intOf];omega
   · have hke:k=ts.length:=by omega
     subst hke;have hDe:=hDk.out;rw[List.take_length,HBk.out]at hDe;obtain⟨_,_,c2,_,_,hfz⟩:=hDe.facts;have hpl2:=hDe.iC;have HDe:=ab hDe.clear;clear hDe
     go_wp2_with fail
     have hfp:=HFl.out p HF2.out.1;have hz:=HZ0.out;have hDz:=HDz.out;have hFd:(wr.setCell ⟨p,2,none⟩ (.slice none 0 0)).heap[D]? =some (.deferred (some [])):=(Below.heap_setCell _ _ _ _ (show D≠p by omega)).trans hFk.out;refine⟨by simp,.inl ⟨_,_,rfl,run_takeDeferred hFd,?_⟩⟩;have hkp:Kept (λk=>k=D) (wr.setCell ⟨p,2,none⟩ (.slice none 0 0)) ((wr.setCell ⟨p,2,none⟩ (.slice none 0 0)).putObj D (.deferred none)):=(Kept.refl _ _).grown (grownBy_putObj' _ _ _) (λk e=> .inl (by injection e with e;exact e.symm));refine⟨_,results_none rfl _ _ _,rfl,?_,?_⟩
     · rw[HDE.out];exact HDe.out.an hkp (λk hf e=>by have:=HFl.out k hf;omega)
     · exact(hKk.out.setCell (.inl HF2.out.1) _).trans hkp (λk e=> .inr (by omega))
end Go.Proofs.YtdilnodbfnlhdaaGreatDoor
namespace Go.Proofs.YtdilnodbfnlhdaaGreatDoor
open Go.RowKit Tide
section
variable {W:World} {F:Nat->Prop} {p:Nat} {ae now:List UInt8} {ts:List Wr} {bd cd bn cn:Nat} {vp:Value} {st:Bool} {lf:Nat}
theorem xv (h:aK W F p ae (aI ae (ts.map Wr.pair)) ts bd cd bn cn vp st lf) (hp:st=true->lf≠0) (hlf:lf<=9223372036854775807) (h0:st=false->lf=0) (hr:gr ae ts) (hL:ae.length<=30000) (hn:ts.length<=1000):
 Calls Tryz.prog 183 #[.pointer (some ⟨p,0,none⟩)] W λe w'=>e= .returned .nilIface/\aK w' F p (aI ae (ts.map Wr.pair)) (aI ae (ts.map Wr.pair)) [] bd cd bn cn (.slice none 0 0) st (lf - 1)/\Kept F W w':=by
 have CP:=ab (sd h hp hlf h0);have HR:=ab hr;clear h hr hp hlf h0
 go_enter Tryz.func183,Tryz.ntmps183
 go_wp2_with fail
 refine CP.out.mono ?_;rintro en W1 ⟨rfl,hD1,hK1⟩;have CO:=ab (Aj p 18446744073709551615 (-1) 0 W1);have HD:=ab hD1;have K1:=ab hK1;clear hD1 hK1 CP
 go_wp2_with fail
 refine CO.out.mono ?_;rintro en w2 ⟨rfl,hb,hb2,hz⟩;have hbd:=(HD.out.eA.lt bd rfl).2;have CS:=C9 (HD.out.below hb2) HR.out hL hn 18446744073709551615 (-1) 0 W1.heap.size hb ⟨by omega,by omega,by omega,by omega⟩;have hall:bC ae (ez (dS 18446744073709551615 (-1) 0) ts)=aI ae (ts.map Wr.pair):=by
  have e:dS 18446744073709551615 (-1) 0=λ_=>64:=by funext k;unfold dS;rw[if_neg (by omega),if_pos (vw _ (Nat.mod_lt _ (by omega)))]
  rw[e];have:=rS (ae.length / 64) ts 0 ae HR.out.2.2 HR.out.gC;exact this
 rw[hall]at CS;have CS2:=ab CS;have HB2:=ab (Kept.al (F:=F) hb2);clear hb hb2 hz hbd CS hall
 go_wp2_with fail
 refine CS2.out.mono ?_;rintro en w3 ⟨rfl,hd,hk⟩;have H3:=ab hd;have K3:=ab hk;clear hd hk CS2
 go_wp2_with fail
 go_ret
 exact⟨rfl,H3.out,K1.out.trans (HB2.out.trans K3.out (λk hk=> .inl hk)) (λk hk=> .inl hk)⟩
theorem lz {x:Nat->Addr} (hE:E3 x W) (h:aK W F p ae now ts bd cd bn cn vp true 0):
 Calls Tryz.prog 183 #[.pointer (some ⟨p,0,none⟩)] W λe w'=>e= .returned (ai (x 2))/\W=w':=by
 have CP:=ab (se hE h);clear h hE
 go_enter Tryz.func183,Tryz.ntmps183
 go_wp2_with fail
 refine CP.out.mono ?_;rintro en w1 ⟨rfl,rfl⟩
 go_wp2_with fail
 go_ret
 exact⟨rfl,rfl⟩
end
def less (s:Option Nat):Option Nat:=s.map (· - 1)
structure aC (x:Nat->Addr) (D:az):Prop where
 tight:∀W F p d,D W F p d->∃F',D W F' p d/\(∀k,F' k->F k)/\∀k,F' k->∃o,W.heap[k]? =some o/\o.isCells=true
 lt:∀W F p d,D W F p d->∀k,F k->k < W.heap.size
 an:∀W W' F G p d,D W F p d->Kept G W W'->(∀k,F k->¬G k)->D W' F p d
 right:∀W F p d,D W F p d->d.ae.length=64 * (d.ae.length / 64)/\64<=d.ae.length/\d.ae.length<=30000/\gL (d.ae.length / 64) d.aq/\d.aq.length<=1000
 new:∀ (W:World) (n:Nat),1<=n->n<=400->Calls Tryz.prog 26 #[.int .i64 (n:Nat)] W λe w'=>∃p F,e= .returned (.tuple #[.pointer (some ⟨p,0,none⟩),.nilIface])/\D w' F p ⟨aN (64 * n), [],none⟩/\(∀k,F k->W.heap.size<=k)/\Below W.heap.size W w'
 len:∀W F p d,D W F p d->Calls Tryz.prog 111 #[.pointer (some ⟨p,0,none⟩)] W λe w'=>e= .returned (.int .i64 ((d.ae.length / 64:Nat)))/\W=w'
 read:∀W F p d (i:Nat),D W F p d->i < d.ae.length / 64->Calls Tryz.prog 151 #[.pointer (some ⟨p,0,none⟩),.int .i64 (i:Nat)] W λe w'=>∃v,e= .returned (.tuple #[v,.nilIface])/\w'.ownsRow W.heap.size 5 1 v 64 (aj (ak (aI d.ae d.aq) i))/\Below W.heap.size W w'
 write:∀ (W:World) F p d (i:Nat) v B b,D W F p d->d.stop≠some 0->d.aq.length < 1000->i < d.ae.length / 64->Bytes W B v b->B<=W.heap.size->(∀k,v.ownBlock=some k->¬F k)->b.length=64->
  Calls Tryz.prog 182 #[.pointer (some ⟨p,0,none⟩),.int .i64 (i:Nat),v] W λe w'=>e= .returned .nilIface/\∃F',D w' F' p ⟨d.ae,d.aq ++ [(i,b)],less d.stop⟩/\(∀k,F' k->F k\/W.heap.size<=k)/\Kept F W w'
 mK:∀ (W:World) F p d (i:Nat) v B b,E3 x W->D W F p d->d.stop=some 0->i < d.ae.length / 64->Bytes W B v b->b.length=64->
  Calls Tryz.prog 182 #[.pointer (some ⟨p,0,none⟩),.int .i64 (i:Nat),v] W λe w'=>e= .returned (ai (x 2))/\W=w'
 flush:∀W F p d,D W F p d->d.stop≠some 0->Calls Tryz.prog 183 #[.pointer (some ⟨p,0,none⟩)] W λe w'=>e= .returned .nilIface/\D w' F p ⟨aI d.ae d.aq, [],less d.stop⟩/\Kept F W w'
 lz:∀W F p d,E3 x W->D W F p d->d.stop=some 0->Calls Tryz.prog 183 #[.pointer (some ⟨p,0,none⟩)] W λe w'=>e= .returned (ai (x 2))/\W=w'
theorem sc {s:Option Nat} (h:s≠some 0):(s.isSome=true->s.getD 0≠0)/\(s.isSome=false->s.getD 0=0)/\(less s).isSome=s.isSome/\(less s).getD 0=s.getD 0 - 1:=by
 cases s with
 | none=>exact⟨λh=>absurd h (by decide),λ_=>rfl,rfl,rfl⟩
 | some k=>exact⟨λ_ e=>h (congrArg some e),λh=>absurd h (by simp),rfl,rfl⟩
theorem lS {W:World} {base:Nat} {e:TypeId} {size n k:Nat} {v:Value} {xs:List Value} (h:W.ownsRow base e size v n xs) (hv:v.ownBlock=some k):∃o,W.heap[k]? =some o/\o.isCells=true:=by
 rcases h.2 with⟨rfl,_⟩|⟨g,cap,cur,rfl,_,hg,_⟩
 · cases hv
 · have:g=k:=by simpa[Value.ownBlock]using hv
   subst this;exact⟨_,hg,rfl⟩
theorem aK.tight {W:World} {F:Nat->Prop} {p:Nat} {ae now:List UInt8} {ts:List Wr} {bd cd bn cn:Nat} {vp:Value} {st:Bool} {lf:Nat} (h:aK W F p ae now ts bd cd bn cn vp st lf):∃F',aK W F' p ae now ts bd cd bn cn vp st lf/\(∀k,F' k->F k)/\∀k,F' k->∃o,W.heap[k]? =some o/\o.isCells=true:=by
 have hsub:∀k,(k=p\/k=bd\/k=bn\/vp.ownBlock=some k\/∃t ∈ ts,t.g=k)->F k:=by
  rintro k (rfl|rfl|rfl|e|⟨t,ht,rfl⟩)
  · exact h.fp.1
  · exact h.fp.2.1
  · exact h.fp.2.2.1
  · exact h.fp.2.2.2.1 k e
  · exact h.fp.2.2.2.2 t ht
 refine⟨λk=>k=p\/k=bd\/k=bn\/vp.ownBlock=some k\/∃t ∈ ts,t.g=k,{ h with fp:=⟨.inl rfl,.inr (.inl rfl),.inr (.inr (.inl rfl)),(λk e=> .inr (.inr (.inr (.inl e)))),(λt ht=> .inr (.inr (.inr (.inr ⟨t,ht,rfl⟩))))⟩,lt:=λk hk=>h.lt k (hsub k hk) },hsub,?_⟩;rintro k (rfl|rfl|rfl|e|⟨t,ht,rfl⟩)
 · exact⟨_,h.block,rfl⟩
 · exact lS h.eA rfl
 · exact lS h.now rfl
 · exact lS h.aq e
 · exact lS (h.wr t ht) rfl
theorem wR (x:Nat->Addr):aC x pa where
 tight:=λW F p d ⟨ts,bd,cd,bn,cn,vp,h1,h2,h3,h4,h5,h⟩=>by obtain⟨F',h6,h7,h8⟩:=h.tight;exact⟨F',⟨ts,bd,cd,bn,cn,vp,h1,h2,h3,h4,h5,h6⟩,h7,h8⟩
 lt:=λW F p d ⟨_,_,_,_,_,_,_,_,_,_,_,h⟩=>h.lt
 an:=λW W' F G p d ⟨ts,bd,cd,bn,cn,vp,h1,h2,h3,h4,h5,h⟩ hk hG=>⟨ts,bd,cd,bn,cn,vp,h1,h2,h3,h4,h5,h.an hk hG⟩
 right:=λW F p d ⟨ts,_,_,_,_,_,h1,h2,h3,h4,_,_⟩=>⟨h2.gC,h2.1,h3,by rw[h1];exact h2.2.2,by rw[h1,List.length_map];exact h4⟩
 new:=λW n h1 h2=>zl n h1 h2 W
 len:=λW F p d ⟨_,_,_,_,_,_,_,_,h3,_,_,h⟩=>rv h h3
 read:=λW F p d i ⟨_,_,_,_,_,_,_,_,h3,_,_,h⟩ hi=>Bw h h3 i hi
 write:=λW F p d i v B b ⟨ts,bd,cd,bn,cn,vp,h1,h2,h3,h4,h5,h⟩ hs hn hi hv hB hap hb=>by
  obtain⟨e1,e2,e3,e4⟩:=sc hs;rw[h1,List.length_map]at hn;refine(EN h e1 h5 e2 h3 h4 i hi hv hB hap hb).mono ?_;rintro e w' ⟨rfl,F',ts',vp',hd,hts,hl,hF,hk⟩;refine⟨rfl,F',⟨ts',bd,cd,bn,cn,vp',?_,⟨h2.1,h2.2.1,?_⟩,h3,by omega,?_,?_⟩,hF,hk⟩
  · rw[hts,h1]
  · rw[hts];intro y hy;rcases List.mem_append.1 hy with hy|hy
    · exact h2.2.2 y hy
    · simp only[List.mem_singleton]at hy;subst hy;exact⟨hi,hb⟩
  · show(less d.stop).getD 0<=_;rw[e4];omega
  · show aK w' F' p d.ae (aI d.ae (d.aq ++ [(i,b)])) ts' bd cd bn cn vp' (less d.stop).isSome ((less d.stop).getD 0);rw[e3,e4];rw[qD];exact hd
 mK:=λW F p d i v B b hE ⟨ts,bd,cd,bn,cn,vp,h1,h2,h3,h4,h5,h⟩ hs hi hv hb=>by rw[hs]at h;exact mK hE h h3 i hi v hv hb
 flush:=λW F p d ⟨ts,bd,cd,bn,cn,vp,h1,h2,h3,h4,h5,h⟩ hs=>by
  obtain⟨e1,e2,e3,e4⟩:=sc hs;rw[h1]at h ⊢;refine(xv h e1 h5 e2 h2 h3 h4).mono ?_;rintro e w' ⟨rfl,hd,hk⟩;have hl:(aI d.ae (ts.map Wr.pair)).length=d.ae.length:=(iv _ _ h2.2.2 d.ae h2.gC).trans h2.gC.symm;refine⟨rfl,⟨[],bd,cd,bn,cn,.slice none 0 0,rfl,⟨?_,?_,λx hx=>by cases hx⟩,?_,Nat.zero_le _,?_,?_⟩,hk⟩
  · show 64<=(aI d.ae (ts.map Wr.pair)).length;rw[hl];exact h2.1
  · show(aI d.ae (ts.map Wr.pair)).length % 64=0;rw[hl];exact h2.2.1
  · show(aI d.ae (ts.map Wr.pair)).length<=_;rw[hl];exact h3
  · show(less d.stop).getD 0<=_;rw[e4];omega
  · show aK w' F p (aI d.ae (ts.map Wr.pair)) (aI d.ae (ts.map Wr.pair)) [] bd cd bn cn _ (less d.stop).isSome ((less d.stop).getD 0);rw[e3,e4];exact hd
 lz:=λW F p d hE ⟨ts,bd,cd,bn,cn,vp,h1,h2,h3,h4,h5,h⟩ hs=>by rw[hs]at h;exact lz hE h
end Go.Proofs.YtdilnodbfnlhdaaGreatDoor
