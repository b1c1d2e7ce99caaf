import Derived.Test.YtiafamacjpgjoaaGreatDoorGMem
import Derived.Test.YtiafamacjpgjoaaGreatDoorGKeep
import Derived.LaidEql
import Derived.Stop.Asserts
import Derived.RowKitTokens
import Derived.WalkKit
import Derived.WalkSpells
set_option maxHeartbeats 1000000
set_option maxRecDepth 100000
namespace Go.Proofs.YtiafamacjpgjoaaGreatDoor
open Go.RowKit Go.Extern.Stop Go.Stop Go.Extern Tide
theorem rA (v:Value) (w:World):(Extern.ReflectliteType.typeOf #[.iface 248 v]).run Tryz.prog w= .ok (.iface 173 (.agg #[.pointer (some ⟨19,248,none⟩)])) w:=by kernel_rfl
theorem rq (w:World):((Extern.ReflectliteType.method λt=>do Extern.Rtype.noPackHeld "Comparable" t;(λa=>Value.bool a.comparable) <$> typeInfo t) #[.agg #[.pointer (some ⟨19,248,none⟩)]]).run Tryz.prog w= .ok (.bool true) w:=by kernel_rfl
theorem rv (v:Value) (w:World):(Go.method 384 173 v "Comparable").run Tryz.prog w= .ok (195,v) w:=by kernel_rfl
theorem rp:(Tryz.prog.info? 248).map (·.comparable)=some true:=by kernel_rfl
theorem ry:(Tryz.prog.info? 272).map (·.size)=some 1:=by kernel_rfl
theorem x9 (v:Value) (xT:TypeId) (w:World):(Instr.typeAssert (.iface 248 v) xT 175 true).run Tryz.prog w= .ok (.tuple #[.nilIface,.bool false]) w:=run_typeAssert_lacksB Tryz.underlying175 (by kernel_rfl) (by kernel_rfl) v xT w
theorem yb (v:Value) (xT:TypeId) (w:World):(Instr.typeAssert (.iface 248 v) xT 178 true).run Tryz.prog w= .ok (.tuple #[.nilIface,.bool false]) w:=run_typeAssert_lacksB Tryz.underlying178 (by kernel_rfl) (by kernel_rfl) v xT w
theorem yc (v:Value) (xT:TypeId) (w:World):(Instr.typeAssert (.iface 248 v) xT 180 true).run Tryz.prog w= .ok (.tuple #[.nilIface,.bool false]) w:=run_typeAssert_lacksB Tryz.underlying180 (by kernel_rfl) (by kernel_rfl) v xT w
abbrev ao (a:Addr):Value:= .iface 248 (.pointer (some a))
def iZ (w:World) (a:Addr):Prop:=∃c t,w.heap[a.block]? =some (.cells c t (0,0))
theorem sC (a:Addr) (w:World):
 Calls Tryz.prog 37 #[ao a,ao a] w λe w'=>e= .returned (.bool true)/\w=w':=by
 obtain⟨i,hi,hcmp⟩:=Option.map_eq_some_iff.1 rp;obtain⟨j,hj,hjs⟩:=Option.map_eq_some_iff.1 ry;have h8:= @run_callFunc_extern Tryz.prog 70 _ Extern.ReflectliteType.typeOf Tryz.func70 (by kernel_rfl) (by kernel_rfl) (by kernel_rfl) (by kernel_rfl);have h32:= @run_callFunc_extern Tryz.prog 195 _ (Extern.ReflectliteType.method λt=>do Extern.Rtype.noPackHeld "Comparable" t;pure (.bool (<-typeInfo t).comparable)) Tryz.func195 (by kernel_rfl) (by kernel_rfl) (by kernel_rfl) (by kernel_rfl);have tT:=rA;have cT:=rq;have mR:=rv;have heq:=run_eql_iface_ptr_same (P:=Tryz.prog) w a Tryz.underlying44 Tryz.underlying248 hi hcmp hj
 go_enter Tryz.func37,Tryz.ntmps37
 go_wp2
 refine wp_loop_rounds 1 ?_;rw[rounds_succ]
 go_wp2
 go_ret
 exact⟨rfl,rfl⟩
theorem sB (a b:Addr) (w:World) (hne:a≠b) (ha:iZ w a) (hb:iZ w b):
 Calls Tryz.prog 37 #[ao a,ao b] w λe w'=>e= .returned (.bool false)/\w=w':=by
 obtain⟨ca,ta,ha⟩:=ha;obtain⟨cb,tb,hb⟩:=hb;obtain⟨i,hi,hcmp⟩:=Option.map_eq_some_iff.1 rp;obtain⟨j,hj,hjs⟩:=Option.map_eq_some_iff.1 ry;have h8:= @run_callFunc_extern Tryz.prog 70 _ Extern.ReflectliteType.typeOf Tryz.func70 (by kernel_rfl) (by kernel_rfl) (by kernel_rfl) (by kernel_rfl);have h32:= @run_callFunc_extern Tryz.prog 195 _ (Extern.ReflectliteType.method λt=>do Extern.Rtype.noPackHeld "Comparable" t;pure (.bool (<-typeInfo t).comparable)) Tryz.func195 (by kernel_rfl) (by kernel_rfl) (by kernel_rfl) (by kernel_rfl);have tT:=rA;have cT:=rq;have mR:=rv;have nE:=x9;have uE:=yb;have vE:=yc;have heq:=run_eql_iface_ptr_other (P:=Tryz.prog) w Tryz.underlying44 Tryz.underlying248 hi hcmp hj (by rw[hjs];decide) hne ha hb
 go_enter Tryz.func37,Tryz.ntmps37
 go_wp2
 refine wp_loop_rounds 1 ?_;rw[rounds_succ]
 go_wp2
 go_ret
 exact⟨rfl,rfl⟩
end Go.Proofs.YtiafamacjpgjoaaGreatDoor
namespace Go.Proofs.YtiafamacjpgjoaaGreatDoor
open Go.RowKit Tide
def cL:List Nat:= [2,3,4,1,5,6,7,8,9,0,10,11,12,13,14,15,16,17,18]
structure av (w:World) (a:Nat->Addr):Prop where
 var:∀i,i < 19->w.cell? ⟨cL.getD i 0,0,none⟩=some (ao (a i))
 jG:∀i,i < 19->iZ w (a i)
 apart:∀i j,i < 19->j < 19->i≠j->a i≠a j
theorem iZ.lt {w:World} {a:Addr} (h:iZ w a):a.block < w.heap.size:=by
 obtain⟨c,t,h⟩:=h;rcases Nat.lt_or_ge a.block w.heap.size with hlt|hge
 · exact hlt
 · rw[Array.getElem?_eq_none hge]at h;cases h
theorem iZ.below {w w':World} {a:Addr} (h:iZ w a) (hb:Below w.heap.size w w'):iZ w' a:=by have hl:=h.lt;obtain⟨c,t,h⟩:=h;exact⟨c,t,(hb.block _ hl).trans h⟩
theorem av.below {w w':World} {a:Nat->Addr} (h:av w a) (hb:Below w.heap.size w w'):av w' a:=
 ⟨λi hi=>(hb.cell (p:=⟨cL.getD i 0,0,none⟩) (World.block_lt_of_cell? _ _ (h.var i hi))).trans (h.var i hi),λi hi=>(h.jG i hi).below hb,h.apart⟩
theorem av.alloc {w:World} {a:Nat->Addr} (h:av w a) (o:Obj):av (w.alloc o) a:=h.below ((Below.refl _ _).alloc (Nat.le_refl _) o)
theorem yh (a:Nat->Addr) (w:World) (i:Nat) (hi:i < 19):(w.alloc (.cells #[ao (a 0),ao (a 1),ao (a 2),ao (a 3),ao (a 4),ao (a 5),ao (a 6),ao (a 7),ao (a 8),ao (a 9),ao (a 10),ao (a 11),ao (a 12),ao (a 13),ao (a 14),ao (a 15),ao (a 16),ao (a 17),ao (a 18)] 44)).cell? ⟨w.heap.size,i,none⟩=some (ao (a i)):=by rw[cell_of_row _ _ i _ _ _ (heap_alloc_new w _)];have e:(#[ao (a 0),ao (a 1),ao (a 2),ao (a 3),ao (a 4),ao (a 5),ao (a 6),ao (a 7),ao (a 8),ao (a 9),ao (a 10),ao (a 11),ao (a 12),ao (a 13),ao (a 14),ao (a 15),ao (a 16),ao (a 17),ao (a 18)]:Array Value)=((List.range 19).map λi=>ao (a i)).toArray:=rfl;rw[e];simp[hi]
theorem Aq (w:World):Calls Tryz.prog 14 #[.nilIface] w λe w'=>e= .returned (.int .i64 0)/\w=w':=by
 go_enter Tryz.func14,Tryz.ntmps14
 go_wp2
 go_ret
 exact⟨rfl,rfl⟩
theorem An (a:Nat->Addr) (m:Nat) (hm:m < 19) (w:World) (hE:av w a):
 Calls Tryz.prog 14 #[ao (a m)] w λe w'=>e= .returned (.int .i64 ((m:Int)+1))/\Below w.heap.size w w':=by
 have h0:=hE.var 0 (by omega);have h1:=hE.var 1 (by omega);have h2:=hE.var 2 (by omega);have h3:=hE.var 3 (by omega);have h4:=hE.var 4 (by omega);have h5:=hE.var 5 (by omega);have h6:=hE.var 6 (by omega);have h7:=hE.var 7 (by omega);have h8:=hE.var 8 (by omega);have h9:=hE.var 9 (by omega);have h10:=hE.var 10 (by omega);have h11:=hE.var 11 (by omega);have h12:=hE.var 12 (by omega);have h13:=hE.var 13 (by omega);have h14:=hE.var 14 (by omega);have h15:=hE.var 15 (by omega);have h16:=hE.var 16 (by omega);have h17:=hE.var 17 (by omega);have h18:=hE.var 18 (by omega);simp only[cL,List.getD_cons_zero,List.getD_cons_succ]at h0 h1 h2 h3 h4 h5 h6 h7 h8 h9 h10 h11 h12 h13 h14 h15 h16 h17 h18;have HE:=ab hE;clear hE
 go_enter Tryz.func14,Tryz.ntmps14
 go_wp2
 have hcs:=yh a w;have HC:=ab hcs;clear hcs h0 h1 h2 h3 h4 h5 h6 h7 h8 h9 h10 h11 h12 h13 h14 h15 h16 h17 h18
 go_loop [30] (λi=>∃k:Nat,k<=m/\i= .int .i64 k) (λi=>19 - (intOf i).toNat)
 case atStart=>exact⟨0,Nat.zero_le _,rfl⟩
 case round=>
  obtain⟨k,hk,rfl⟩:=hrel;have hc:=HC.out k (by omega);by_cases hkm:k=m
  · subst hkm
    go_wp2_with fail
    refine(sC (a k) _).mono ?_;rintro e w' ⟨rfl,rfl⟩
    go_wp2_with fail
    go_ret
    exact⟨rfl,(Below.refl _ _).alloc (Nat.le_refl _) _⟩
  · have hne:=HE.out.apart m k (by omega) (by omega) (λe=>hkm e.symm);have HN:=ab hne;clear hne
    go_wp2_with fail
    refine(sB (a m) (a k) _ HN.out ?_ ?_).mono ?_
    · exact(HE.out.alloc _).jG m (by omega)
    · exact(HE.out.alloc _).jG k (by omega)
    rintro e w' ⟨rfl,rfl⟩
    go_wp2_with fail
    go_round
    case rel=>exact⟨k+1,by omega,by go_num⟩
    case measure=>simp[intOf];omega
end Go.Proofs.YtiafamacjpgjoaaGreatDoor
namespace Go.Proofs.YtiafamacjpgjoaaGreatDoor
open Go.RowKit Tide
def bE (a:Nat->Addr) (x:Value) (k:Nat):Prop:=(k=0/\x= .nilIface)\/∃m,m < 19/\k=m+1/\x=ao (a m)
theorem fw (a:Nat->Addr):bE a .nilIface 0:= .inl ⟨rfl,rfl⟩
theorem bL (a:Nat->Addr) (m:Nat) (hm:m < 19):bE a (ao (a m)) (m+1):= .inr ⟨m,hm,rfl,rfl⟩
theorem iM (a:Nat->Addr) (x:Value) (k:Nat) (w:World) (hE:av w a) (hx:bE a x k):
 Calls Tryz.prog 14 #[x] w λe w'=>e= .returned (.int .i64 (k:Int))/\Below w.heap.size w w':=by
 rcases hx with⟨rfl,rfl⟩|⟨m,hm,rfl,rfl⟩
 · exact(Aq w).mono λ_ _ ⟨h1,h2⟩=>⟨h1,h2 ▸ Below.refl _ _⟩
 · exact(An a m hm w hE).mono λ_ _ ⟨h1,h2⟩=>⟨by rw[h1];push_cast;rfl,h2⟩
end Go.Proofs.YtiafamacjpgjoaaGreatDoor
namespace Go.Proofs.YtiafamacjpgjoaaGreatDoor
open Go.RowKit Tide
theorem zz (b:Addr) (w:World):
 Calls Tryz.prog 37 #[.nilIface,ao b] w λe w'=>e= .returned (.bool false)/\w=w':=by
 have heq:=run_eql_iface_nil_left (P:=Tryz.prog) w 248 (.pointer (some b)) Tryz.underlying44
 go_enter Tryz.func37,Tryz.ntmps37
 go_wp2
 go_ret
 exact⟨rfl,rfl⟩
theorem ot (a:Nat->Addr) (x:Value) (k m:Nat) (w:World) (hE:av w a) (hx:bE a x k) (hm:m < 19):
 Calls Tryz.prog 37 #[x,ao (a m)] w λe w'=>e= .returned (.bool (k == m+1))/\w=w':=by
 rcases hx with⟨rfl,rfl⟩|⟨j,hj,rfl,rfl⟩
 · have h:((0:Nat) == m+1)=false:=by simp
   rw[h];exact zz (a m) w
 · by_cases e:j=m
   · subst e;rw[show(j+1 == j+1)=true by simp];exact sC (a j) w
   · rw[show(j+1 == m+1)=false by simp[e]];exact sB (a j) (a m) w (hE.apart j m hj hm e) (hE.jG j hj) (hE.jG m hm)
end Go.Proofs.YtiafamacjpgjoaaGreatDoor
