import Derived.Test.YtdilnodbfnlhdaaGreatDoorGApp
import Derived.Test.YtdilnodbfnlhdaaGreatDoorGKeep
import Derived.Test.YtdilnodbfnlhdaaGreatDoorGMem
import Derived.Test.YtdilnodbfnlhdaaGreatDoorGBits7
import Derived.WalkKit
import Derived.WalkSpells
namespace Go.Proofs.YtdilnodbfnlhdaaGreatDoor
open Go.RowKit Tide
theorem gP (v:Value) (L:List UInt8) (B:Nat) (w:World) (hp:Bytes w B v L) (hB:B<=w.heap.size) (hL:L.length<=1000000):
 Calls Tryz.prog 104 #[v] w λe w'=>∃v',e= .returned v'/\w'.ownsRow w.heap.size 5 1 v' L.length (aj L)/\Below w.heap.size w w':=by
 obtain⟨i0,hi,hz0,hz1,hz2⟩:=info_parts jE;have HI:=ab hi;have HP:=ab (hp.more hB);obtain⟨A,c,rfl,_,_,hb⟩:=hp.form;clear hi hp hB;rcases A with _|a
 · have hl:L= []:=by
    rcases L with _|⟨x,L⟩
    · rfl
    · obtain⟨_,_,h,_⟩:=hb 0 (by simp);cases h
   subst hl;have hq:=λW:World=>Lib.run_eql_slice_nil (P:=Tryz.prog) W 38 5 none 0 c 0 0 Tryz.underlying38
   go_enter Tryz.func104,Tryz.ntmps104
   go_wp2
   go_ret
   exact⟨_,rfl,⟨by simp[aj],.inl ⟨rfl,rfl⟩⟩,Below.refl _ _⟩
 · clear hb;have hq:=λW:World=>Lib.run_eql_slice_nil (P:=Tryz.prog) W 38 5 (some a) L.length c 0 0 Tryz.underlying38
   go_enter Tryz.func104,Tryz.ntmps104
   go_wp2_with (at_builtin;refine kU _ rfl (.tmp 5) (.tmp 6) _ rfl w.heap.size 5 i0 (.int .u8 0) 1 Tryz.underlying38 HI.out hz0 hz1 hz2 rfl _ 0 [] rfl ?c1 w.heap.size _ (aj L) rfl (HP.out.alloc (Nat.le_refl _)) (jg _) ?d1 ?d2 ?d3 ?_)
   case c1=>exact kG _ _ _ _ _ _ _ _ rfl (Nat.le_refl _) (by simp) (by simp[maxLen]) rfl (by simp)
   case d1=>rw[aR];unfold maxLen;omega
   case d2=>rw[aR];omega
   case d3=>simp
   intro v4 w4 hown4 hg4 _;have hb5:=((Below.refl w.heap.size w).alloc (Nat.le_refl _) _).grown hg4 (by simp) (λg hg=>by simp[Value.ownBlock]at hg;omega);rw[aR]at hown4
   go_wp2_with fail
   go_ret
   exact⟨_,rfl,hown4,hb5⟩
end Go.Proofs.YtdilnodbfnlhdaaGreatDoor
namespace Go.Proofs.YtdilnodbfnlhdaaGreatDoor
open Go.RowKit Tide
theorem jd (w:World):(Go.sizeOf (Tryz.prog.elem 38)).run Tryz.prog w= .ok 1 w:=by kernel_rfl
theorem iP:Tryz.prog.underlying 38=some (.slice (Tryz.prog.elem 38)):=by kernel_rfl
theorem Df {w:World} {B:Nat} {A:Option Addr} {c:Nat} {l:List UInt8} (h:Bytes w B (.slice A l.length c) l) {lo hi:Nat} (hlo:lo<=hi) (hhi:hi<=l.length):
 ∃A' c',sliced A lo hi c 1= .slice A' ((l.take hi).drop lo).length c'/\Bytes w B (.slice A' ((l.take hi).drop lo).length c') ((l.take hi).drop lo):=by
 obtain⟨A0,c0,he,h1,h2,hb⟩:=h.form;injection he with e1 e2 e3;subst e1 e3;have hlen:((l.take hi).drop lo).length=hi - lo:=by rw[List.length_drop,List.length_take];omega
 by_cases hc:c=lo
 · have e0:(l.take hi).drop lo= []:=List.eq_nil_of_length_eq_zero (by omega);rw[e0];refine⟨A,c - lo,by simp[sliced,hc];omega,by simp[aj],A,c - lo,by simp[aj],by simp[aj],by omega,λhne=>absurd rfl hne⟩
 · rcases Nat.eq_zero_or_pos l.length with h0|h0
   · have e0:(l.take hi).drop lo= []:=List.eq_nil_of_length_eq_zero (by omega);rw[e0];refine⟨A.map (·.add (lo * 1)),c - lo,by simp[sliced,hc];omega,by simp[aj],A.map (·.add (lo * 1)),c - lo,by simp[aj],by simp[aj],by omega,λhne=>absurd rfl hne⟩
   · obtain⟨b,o,rfl,_,_⟩:=hb 0 h0;refine⟨some ⟨b,o+lo,none⟩,c - lo,?_,h.sub hlo hhi rfl hlen (by omega) (by omega)⟩;rw[hlen];have ha:(⟨b,o,none⟩:Addr).add lo=⟨b,o+lo,none⟩:=by unfold Addr.add;split<;>simp_all
     simp[sliced,hc,ha]
theorem wM {w:World} {B:Nat} {A:Option Addr} {c:Nat} {l:List UInt8} (h:Bytes w B (.slice A l.length c) l) (hi:Nat) (ui:Int) (eu:ui=hi) (hhi:hi<=l.length):
 ∃A' c' l',Hid (l'=l.take hi)/\(∀W:World,(Instr.slice 38 (.slice A l.length c) none (some (.int .i64 ui)) none).run Tryz.prog W= .ok (.slice A' l'.length c') W)/\Bytes w B (.slice A' l'.length c') l':=by
 subst eu;obtain⟨A0,c0,he,h1,h2,_⟩:=h.form;injection he with e1 e2 e3;subst e1 e3;obtain⟨A',c',hs,hb⟩:=Df h (Nat.zero_le hi) hhi;refine⟨A',c',_,ab rfl,λW=> ?_,by simpa using hb⟩;rw[run_slice_h _ _ _ _ _ iP _ _ (by omega) (by omega),jd];simp only[Result.andThen,Int.toNat_natCast];rw[hs];simp
end Go.Proofs.YtdilnodbfnlhdaaGreatDoor
namespace Go.Proofs.YtdilnodbfnlhdaaGreatDoor
open Go.RowKit Tide
theorem Dg {w:World} {f:Nat->Prop} {A:Option Addr} {c:Nat} {l:List UInt8} (h:dQ w f (.slice A l.length c) l) {lo:Nat} (hlo:lo<=l.length):
 ∃A' c',sliced A lo l.length c 1= .slice A' (l.drop lo).length c'/\dQ w f (.slice A' (l.drop lo).length c') (l.drop lo):=by
 have h':=h;obtain⟨_,A0,c0,he,h1,h2,hb⟩:=h';injection he with e1 e2 e3;subst e1 e3;have hlen:(l.drop lo).length=l.length - lo:=List.length_drop;by_cases hc:c=lo
 · have e0:l.drop lo= []:=List.eq_nil_of_length_eq_zero (by omega);rw[e0];exact⟨A,c - lo,by simp[sliced,hc];omega,by simp,A,c - lo,rfl,by simp,by omega,λhne=>absurd rfl hne⟩
 · rcases Nat.eq_zero_or_pos l.length with h0|h0
   · have e0:l.drop lo= []:=List.eq_nil_of_length_eq_zero (by omega);rw[e0];exact⟨A.map (·.add (lo * 1)),c - lo,by simp[sliced,hc];omega,by simp,A.map (·.add (lo * 1)),c - lo,rfl,by simp,by omega,λhne=>absurd rfl hne⟩
   · obtain⟨b,o,rfl,_,_⟩:=hb (by intro e;subst e;simp at h0);refine⟨some ⟨b,o+lo,none⟩,c - lo,?_,h.drop hlo rfl hlen (by omega) (by omega)⟩;rw[hlen];have ha:(⟨b,o,none⟩:Addr).add lo=⟨b,o+lo,none⟩:=by unfold Addr.add;split<;>simp_all
     simp[sliced,hc,ha]
theorem pS {w:World} {f:Nat->Prop} {A:Option Addr} {c:Nat} {l:List UInt8} (h:dQ w f (.slice A l.length c) l) (lo:Nat) (li:Int) (el:li=lo) (hlo:lo<=l.length):
 ∃A' c' l',Hid (l'=l.drop lo)/\(∀W:World,(Instr.slice 38 (.slice A l.length c) (some (.int .i64 li)) none none).run Tryz.prog W= .ok (.slice A' l'.length c') W)/\dQ w f (.slice A' l'.length c') l':=by
 subst el;have h':=h;obtain⟨_,A0,c0,he,h1,h2,_⟩:=h';injection he with e1 e2 e3;subst e1 e3;obtain⟨A',c',hs,hb⟩:=Dg h hlo;refine⟨A',c',_,ab rfl,λW=> ?_,hb⟩;rw[run_slice_l _ _ _ _ _ iP _ _ (by omega) (by omega),jd];simp only[Result.andThen,Int.toNat_natCast];rw[hs]
end Go.Proofs.YtdilnodbfnlhdaaGreatDoor
