import Derived.Test.YtdilnodbfnlhdaaGreatDoorGMem
import Derived.Test.YtdilnodbfnlhdaaGreatDoorGKeep
import Derived.LaidEql
import Derived.Stop.Asserts
import Derived.RowKitTokens
import Derived.WalkKit
import Derived.WalkSpells
set_option maxHeartbeats 1000000
set_option maxRecDepth 100000
namespace Go.Proofs.YtdilnodbfnlhdaaGreatDoor
open Go.RowKit Go.Extern.Stop Go.Stop Go.Extern Tide
theorem p7 (v:Value) (w:World):(Extern.ReflectliteType.typeOf #[.iface 305 v]).run Tryz.prog w= .ok (.iface 247 (.agg #[.pointer (some ⟨21,305,none⟩)])) w:=by kernel_rfl
theorem pY (w:World):((Extern.ReflectliteType.method λt=>do Extern.Rtype.noPackHeld "Comparable" t;(λa=>Value.bool a.comparable) <$> typeInfo t) #[.agg #[.pointer (some ⟨21,305,none⟩)]]).run Tryz.prog w= .ok (.bool true) w:=by kernel_rfl
theorem pZ (v:Value) (w:World):(Go.method 455 247 v "Comparable").run Tryz.prog w= .ok (216,v) w:=by kernel_rfl
theorem pX:(Tryz.prog.info? 305).map (·.comparable)=some true:=by kernel_rfl
theorem p5:(Tryz.prog.info? 344).map (·.size)=some 1:=by kernel_rfl
theorem wS (v:Value) (xT:TypeId) (w:World):(Instr.typeAssert (.iface 305 v) xT 249 true).run Tryz.prog w= .ok (.tuple #[.nilIface,.bool false]) w:=run_typeAssert_lacksB Tryz.underlying249 (by kernel_rfl) (by kernel_rfl) v xT w
theorem wT (v:Value) (xT:TypeId) (w:World):(Instr.typeAssert (.iface 305 v) xT 252 true).run Tryz.prog w= .ok (.tuple #[.nilIface,.bool false]) w:=run_typeAssert_lacksB Tryz.underlying252 (by kernel_rfl) (by kernel_rfl) v xT w
theorem wU (v:Value) (xT:TypeId) (w:World):(Instr.typeAssert (.iface 305 v) xT 253 true).run Tryz.prog w= .ok (.tuple #[.nilIface,.bool false]) w:=run_typeAssert_lacksB Tryz.underlying253 (by kernel_rfl) (by kernel_rfl) v xT w
abbrev ai (a:Addr):Value:= .iface 305 (.pointer (some a))
def il (w:World) (a:Addr):Prop:=∃c t,w.heap[a.block]? =some (.cells c t (0,0))
theorem ri (a:Addr) (w:World):
 Calls Tryz.prog 40 #[ai a,ai a] w λe w'=>e= .returned (.bool true)/\w=w':=by
 obtain⟨i,hi,hcmp⟩:=Option.map_eq_some_iff.1 pX;obtain⟨j,hj,hjs⟩:=Option.map_eq_some_iff.1 p5;have h8:= @run_callFunc_extern Tryz.prog 87 _ Extern.ReflectliteType.typeOf Tryz.func87 (by kernel_rfl) (by kernel_rfl) (by kernel_rfl) (by kernel_rfl);have h32:= @run_callFunc_extern Tryz.prog 216 _ (Extern.ReflectliteType.method λt=>do Extern.Rtype.noPackHeld "Comparable" t;pure (.bool (<-typeInfo t).comparable)) Tryz.func216 (by kernel_rfl) (by kernel_rfl) (by kernel_rfl) (by kernel_rfl);have tT:=p7;have cT:=pY;have mR:=pZ;have heq:=run_eql_iface_ptr_same (P:=Tryz.prog) w a Tryz.underlying50 Tryz.underlying305 hi hcmp hj
 go_enter Tryz.func40,Tryz.ntmps40
 go_wp2
 refine wp_loop_rounds 1 ?_;rw[rounds_succ]
 go_wp2
 go_ret
 exact⟨rfl,rfl⟩
theorem re (a b:Addr) (w:World) (hne:a≠b) (ha:il w a) (hb:il w b):
 Calls Tryz.prog 40 #[ai a,ai b] w λe w'=>e= .returned (.bool false)/\w=w':=by
 obtain⟨ca,ta,ha⟩:=ha;obtain⟨cb,tb,hb⟩:=hb;obtain⟨i,hi,hcmp⟩:=Option.map_eq_some_iff.1 pX;obtain⟨j,hj,hjs⟩:=Option.map_eq_some_iff.1 p5;have h8:= @run_callFunc_extern Tryz.prog 87 _ Extern.ReflectliteType.typeOf Tryz.func87 (by kernel_rfl) (by kernel_rfl) (by kernel_rfl) (by kernel_rfl);have h32:= @run_callFunc_extern Tryz.prog 216 _ (Extern.ReflectliteType.method λt=>do Extern.Rtype.noPackHeld "Comparable" t;pure (.bool (<-typeInfo t).comparable)) Tryz.func216 (by kernel_rfl) (by kernel_rfl) (by kernel_rfl) (by kernel_rfl);have tT:=p7;have cT:=pY;have mR:=pZ;have nE:=wS;have uE:=wT;have vE:=wU;have heq:=run_eql_iface_ptr_other (P:=Tryz.prog) w Tryz.underlying50 Tryz.underlying305 hi hcmp hj (by rw[hjs];decide) hne ha hb
 go_enter Tryz.func40,Tryz.ntmps40
 go_wp2
 refine wp_loop_rounds 1 ?_;rw[rounds_succ]
 go_wp2
 go_ret
 exact⟨rfl,rfl⟩
end Go.Proofs.YtdilnodbfnlhdaaGreatDoor
namespace Go.Proofs.YtdilnodbfnlhdaaGreatDoor
open Go.RowKit Tide
def bA:List Nat:= [4,5,1,2,6,7,8,9,3,0,10,11,12,13,14,15,16,17,18]
structure ar (w:World) (a:Nat->Addr):Prop where
 var:∀i,i < 19->w.cell? ⟨bA.getD i 0,0,none⟩=some (ai (a i))
 iS:∀i,i < 19->il w (a i)
 apart:∀i j,i < 19->j < 19->i≠j->a i≠a j
theorem il.lt {w:World} {a:Addr} (h:il w a):a.block < w.heap.size:=by
 obtain⟨c,t,h⟩:=h;rcases Nat.lt_or_ge a.block w.heap.size with hlt|hge
 · exact hlt
 · rw[Array.getElem?_eq_none hge]at h;cases h
theorem il.below {w w':World} {a:Addr} (h:il w a) (hb:Below w.heap.size w w'):il w' a:=by have hl:=h.lt;obtain⟨c,t,h⟩:=h;exact⟨c,t,(hb.block _ hl).trans h⟩
theorem ar.below {w w':World} {a:Nat->Addr} (h:ar w a) (hb:Below w.heap.size w w'):ar w' a:=
 ⟨λi hi=>(hb.cell (p:=⟨bA.getD i 0,0,none⟩) (World.block_lt_of_cell? _ _ (h.var i hi))).trans (h.var i hi),λi hi=>(h.iS i hi).below hb,h.apart⟩
theorem ar.alloc {w:World} {a:Nat->Addr} (h:ar w a) (o:Obj):ar (w.alloc o) a:=h.below ((Below.refl _ _).alloc (Nat.le_refl _) o)
theorem xc (a:Nat->Addr) (w:World) (i:Nat) (hi:i < 19):(w.alloc (.cells #[ai (a 0),ai (a 1),ai (a 2),ai (a 3),ai (a 4),ai (a 5),ai (a 6),ai (a 7),ai (a 8),ai (a 9),ai (a 10),ai (a 11),ai (a 12),ai (a 13),ai (a 14),ai (a 15),ai (a 16),ai (a 17),ai (a 18)] 50)).cell? ⟨w.heap.size,i,none⟩=some (ai (a i)):=by rw[cell_of_row _ _ i _ _ _ (heap_alloc_new w _)];have e:(#[ai (a 0),ai (a 1),ai (a 2),ai (a 3),ai (a 4),ai (a 5),ai (a 6),ai (a 7),ai (a 8),ai (a 9),ai (a 10),ai (a 11),ai (a 12),ai (a 13),ai (a 14),ai (a 15),ai (a 16),ai (a 17),ai (a 18)]:Array Value)=((List.range 19).map λi=>ai (a i)).toArray:=rfl;rw[e];simp[hi]
theorem zv (w:World):Calls Tryz.prog 20 #[.nilIface] w λe w'=>e= .returned (.int .i64 0)/\w=w':=by
 go_enter Tryz.func20,Tryz.ntmps20
 go_wp2
 go_ret
 exact⟨rfl,rfl⟩
theorem zu (a:Nat->Addr) (m:Nat) (hm:m < 19) (w:World) (hE:ar w a):
 Calls Tryz.prog 20 #[ai (a m)] w λe w'=>e= .returned (.int .i64 ((m:Int)+1))/\Below w.heap.size w w':=by
 have h0:=hE.var 0 (by omega);have h1:=hE.var 1 (by omega);have h2:=hE.var 2 (by omega);have h3:=hE.var 3 (by omega);have h4:=hE.var 4 (by omega);have h5:=hE.var 5 (by omega);have h6:=hE.var 6 (by omega);have h7:=hE.var 7 (by omega);have h8:=hE.var 8 (by omega);have h9:=hE.var 9 (by omega);have h10:=hE.var 10 (by omega);have h11:=hE.var 11 (by omega);have h12:=hE.var 12 (by omega);have h13:=hE.var 13 (by omega);have h14:=hE.var 14 (by omega);have h15:=hE.var 15 (by omega);have h16:=hE.var 16 (by omega);have h17:=hE.var 17 (by omega);have h18:=hE.var 18 (by omega);simp only[bA,List.getD_cons_zero,List.getD_cons_succ]at h0 h1 h2 h3 h4 h5 h6 h7 h8 h9 h10 h11 h12 h13 h14 h15 h16 h17 h18;have HE:=ab hE;clear hE
 go_enter Tryz.func20,Tryz.ntmps20
 go_wp2
 have hcs:=xc a w;have HC:=ab hcs;clear hcs h0 h1 h2 h3 h4 h5 h6 h7 h8 h9 h10 h11 h12 h13 h14 h15 h16 h17 h18
 go_loop [30] (λi=>∃k:Nat,k<=m/\i= .int .i64 k) (λi=>19 - (intOf i).toNat)
 case atStart=>exact⟨0,Nat.zero_le _,rfl⟩
 case round=>
  obtain⟨k,hk,rfl⟩:=hrel;have hc:=HC.out k (by omega);by_cases hkm:k=m
  · subst hkm
    go_wp2_with fail
    refine(ri (a k) _).mono ?_;rintro e w' ⟨rfl,rfl⟩
    go_wp2_with fail
    go_ret
    exact⟨rfl,(Below.refl _ _).alloc (Nat.le_refl _) _⟩
  · have hne:=HE.out.apart m k (by omega) (by omega) (λe=>hkm e.symm);have HN:=ab hne;clear hne
    go_wp2_with fail
    refine(re (a m) (a k) _ HN.out ?_ ?_).mono ?_
    · exact(HE.out.alloc _).iS m (by omega)
    · exact(HE.out.alloc _).iS k (by omega)
    rintro e w' ⟨rfl,rfl⟩
    go_wp2_with fail
    go_round
    case rel=>exact⟨k+1,by omega,by go_num⟩
    case measure=>simp[intOf];omega
end Go.Proofs.YtdilnodbfnlhdaaGreatDoor
namespace Go.Proofs.YtdilnodbfnlhdaaGreatDoor
open Go.RowKit Tide
def bf (a:Nat->Addr) (x:Value) (k:Nat):Prop:=(k=0/\x= .nilIface)\/∃m,m < 19/\k=m+1/\x=ai (a m)
theorem ec (a:Nat->Addr):bf a .nilIface 0:= .inl ⟨rfl,rfl⟩
theorem bo (a:Nat->Addr) (m:Nat) (hm:m < 19):bf a (ai (a m)) (m+1):= .inr ⟨m,hm,rfl,rfl⟩
theorem nR (a:Nat->Addr) (x:Value) (k:Nat) (w:World) (hE:ar w a) (hx:bf a x k):
 Calls Tryz.prog 20 #[x] w λe w'=>e= .returned (.int .i64 (k:Int))/\Below w.heap.size w w':=by
 rcases hx with⟨rfl,rfl⟩|⟨m,hm,rfl,rfl⟩
 · exact(zv w).mono λ_ _ ⟨h1,h2⟩=>⟨h1,h2 ▸ Below.refl _ _⟩
 · exact(zu a m hm w hE).mono λ_ _ ⟨h1,h2⟩=>⟨by rw[h1];push_cast;rfl,h2⟩
end Go.Proofs.YtdilnodbfnlhdaaGreatDoor
namespace Go.Proofs.YtdilnodbfnlhdaaGreatDoor
open Go.RowKit Tide
theorem yy (b:Addr) (w:World):
 Calls Tryz.prog 40 #[.nilIface,ai b] w λe w'=>e= .returned (.bool false)/\w=w':=by
 have heq:=run_eql_iface_nil_left (P:=Tryz.prog) w 305 (.pointer (some b)) Tryz.underlying50
 go_enter Tryz.func40,Tryz.ntmps40
 go_wp2
 go_ret
 exact⟨rfl,rfl⟩
theorem rh (a:Nat->Addr) (x:Value) (k m:Nat) (w:World) (hE:ar w a) (hx:bf a x k) (hm:m < 19):
 Calls Tryz.prog 40 #[x,ai (a m)] w λe w'=>e= .returned (.bool (k == m+1))/\w=w':=by
 rcases hx with⟨rfl,rfl⟩|⟨j,hj,rfl,rfl⟩
 · have h:((0:Nat) == m+1)=false:=by simp
   rw[h];exact yy (a m) w
 · by_cases e:j=m
   · subst e;rw[show(j+1 == j+1)=true by simp];exact ri (a j) w
   · rw[show(j+1 == m+1)=false by simp[e]];exact re (a j) (a m) w (hE.apart j m hj hm e) (hE.iS j hj) (hE.iS m hm)
end Go.Proofs.YtdilnodbfnlhdaaGreatDoor
