import Derived.Test.YtiafamacjpgjoaaGreatDoorGSsR
import Derived.Deep.Upon
import Derived.Lib.SliceRun
import Derived.ArgAppend
set_option maxRecDepth 100000
set_option maxHeartbeats 2000000
namespace Go.Proofs.YtiafamacjpgjoaaGreatDoor
open Go.RowKit Tide
def iw (cs:Array Value) (o:Nat):List Value->Array Value
 | []=>cs
 | v :: r=>iw (cs.setIfInBounds o v) (o+1) r
theorem ly:∀ (vs:List Value) (cs:Array Value) (o:Nat),(iw cs o vs).size=cs.size
 | [],_,_=>rfl
 | v :: r,cs,o=>by rw[iw,ly r];simp
theorem oZ:∀ (vs:List Value) (cs:Array Value) (o:Nat),o+vs.length<=cs.size->∀j,(iw cs o vs)[j]? =if j < o then cs[j]? else if j < o+vs.length then vs[j - o]? else cs[j]?
 | [],cs,o,_,j=>by simp only[iw,List.length_nil,Nat.add_zero];split<;>rfl
 | v :: r,cs,o,h,j=>by
   rw[List.length_cons]at h;rw[iw,oZ r _ _ (by simp;omega),List.length_cons];by_cases h1:j < o
   · rw[if_pos (by omega),if_pos h1,Array.getElem?_setIfInBounds_ne (by omega)]
   · by_cases h2:j=o
     · subst h2;rw[if_pos (by omega),if_neg h1,if_pos (by omega),Nat.sub_self,Array.getElem?_setIfInBounds_self,if_pos (by omega)];rfl
     · rw[if_neg (by omega),if_neg h1];by_cases h3:j < o+1+r.length
       · rw[if_pos h3,if_pos (by omega),show j - o=(j - (o+1))+1 by omega,List.getElem?_cons_succ]
       · rw[if_neg h3,if_neg (by omega),Array.getElem?_setIfInBounds_ne (by omega)]
theorem pH (b:Nat):∀ (vs:List Value) (o:Nat) (w:World) (cs:Array Value) (t:TypeId) (fr:Nat × Nat),w.heap[b]? =some (Obj.cells cs t fr)->(w.setCells b o vs).heap[b]? =some (Obj.cells (iw cs o vs) t fr)
 | [],_,_,_,_,_,h=>h
 | v :: r,o,_,_,t,fr,h=>pH b r (o+1) _ _ t fr (mU h v)
theorem m7 (b:Nat):∀ (vs:List Value) (o:Nat) (w:World),Kept (λk=>k=b) w (w.setCells b o vs)
 | [],_,w=>Kept.refl _ w
 | v :: r,o,w=>((Kept.refl (λk=>k=b) w).setCell (p:=⟨b,o,none⟩) (.inl rfl) v).trans (m7 b r (o+1) _) (λ_ h=> .inl h)
theorem l5:Tryz.prog.underlying 186=some (.slice (Tryz.prog.elem 186)):=by kernel_rfl
theorem m8 (w:World):(Go.sizeOf (Tryz.prog.elem 186)).run Tryz.prog w= .ok 3 w:=by kernel_rfl
theorem og:(Tryz.prog.info? 193).map (λi=>(i.zero,i.size,i.bytes))=some (some (.agg #[.int .i64 0,.int .i64 0,.int .i64 0]),3,24):=by kernel_rfl
theorem Ep (b n c hi:Nat) (ui:Int) (eu:ui=hi) (hhi:hi<=n) (hn:n<=c) (hc:0 < c) (W:World):
 (Instr.slice 186 (.slice (some ⟨b,0,none⟩) n c) none (some (.int .i64 ui)) none).run Tryz.prog W= .ok (.slice (some ⟨b,0,none⟩) hi c) W:=by
 subst eu;rw[run_slice_h _ _ _ _ _ l5 _ _ (by omega) (by omega),m8];simp only[Result.andThen,Int.toNat_natCast];have ha:(⟨b,0,none⟩:Addr).add (0 * 3)=⟨b,0+0 * 3,none⟩:=cV b 0 _;have hne:c≠0:=by omega
 simp only[sliced,if_neg hne,Option.map_some,ha];simp
theorem Em (b n c lo:Nat) (li:Int) (el:li=lo) (hlo:lo<=n) (hc:lo < c) (W:World):
 (Instr.slice 186 (.slice (some ⟨b,0,none⟩) n c) (some (.int .i64 li)) none none).run Tryz.prog W= .ok (.slice (some ⟨b,lo * 3,none⟩) (n - lo) (c - lo)) W:=by
 subst el;rw[run_slice_l _ _ _ _ _ l5 _ _ (by omega) (by omega),m8];simp only[Result.andThen,Int.toNat_natCast];have ha:(⟨b,0,none⟩:Addr).add (lo * 3)=⟨b,0+lo * 3,none⟩:=cV b 0 _;have hne:c≠lo:=by omega
 simp only[sliced,if_neg hne,Option.map_some,ha,Nat.zero_add]
theorem En (b n c lo hi:Nat) (li ui:Int) (el:li=lo) (eu:ui=hi) (hlo:lo<=hi) (hhi:hi<=c) (hc:lo < c) (W:World):
 (Instr.slice 186 (.slice (some ⟨b,0,none⟩) n c) (some (.int .i64 li)) (some (.int .i64 ui)) none).run Tryz.prog W= .ok (.slice (some ⟨b,lo * 3,none⟩) (hi - lo) (c - lo)) W:=by
 subst el eu;rw[run_slice_lh _ _ _ _ _ l5 _ _ _ _ (by omega) (by omega) (by omega),m8];simp only[Result.andThen,Int.toNat_natCast];have ha:(⟨b,0,none⟩:Addr).add (lo * 3)=⟨b,0+lo * 3,none⟩:=cV b 0 _;have hne:c≠lo:=by omega
 simp only[sliced,if_neg hne,Option.map_some,ha,Nat.zero_add]
theorem Eo (b n c lo hi:Nat) (li ui mi:Int) (el:li=lo) (eu:ui=hi) (em:mi=n) (hlo:lo<=hi) (hhi:hi<=n) (hn:n<=c) (hc:lo < n) (W:World):
 (Instr.slice 186 (.slice (some ⟨b,0,none⟩) n c) (some (.int .i64 li)) (some (.int .i64 ui)) (some (.int .i64 mi))).run Tryz.prog W= .ok (.slice (some ⟨b,lo * 3,none⟩) (hi - lo) (n - lo)) W:=by
 subst el eu em;rw[run_slice_lhm _ _ _ _ _ l5 _ _ _ _ _ _ (by omega) (by omega) (by omega) (by omega),m8];simp only[Result.andThen,Int.toNat_natCast];have ha:(⟨b,0,none⟩:Addr).add (lo * 3)=⟨b,0+lo * 3,none⟩:=cV b 0 _;have hne:n≠lo:=by omega
 simp only[sliced,if_neg hne,Option.map_some,ha,Nat.zero_add]
theorem Dk (w:World) (ty:TypeId) (b o c:Nat) (hc:∀j,j < 3->(w.cell? ⟨b,o+j,none⟩).isSome=true) (hf:∀j,j < 3->w.frozen? ⟨b,o+j,none⟩=false):
 (Builtin.clear_ #[186] ty #[.slice (some ⟨b,o,none⟩) 1 c]).run Tryz.prog w= .ok (.tuple #[]) (w.setCells b o [.int .i64 0,.int .i64 0,.int .i64 0]):=by
 have hst:=run_storeCells_cells (P:=Tryz.prog) b o [.int .i64 0,.int .i64 0,.int .i64 0] 0 w (by simpa using hc) (by simpa using hf) (by intro v hv;simp only[List.mem_cons,List.not_mem_nil,or_false]at hv;rcases hv with rfl|rfl|rfl<;>rfl);simp only[Nat.add_zero]at hst;have hz:(zeroValue 193).run Tryz.prog w= .ok (.agg #[.int .i64 0,.int .i64 0,.int .i64 0]) w:=by kernel_rfl
 have hzc:(Builtin.zeroCells #[.int .i64 0,.int .i64 0,.int .i64 0] 1).toList= [.int .i64 0,.int .i64 0,.int .i64 0]:=by kernel_rfl
 simp[Builtin.clear_,run_underlying Tryz.underlying186,hz,Value.cells,hzc,hst]
theorem p6 (a b:List ai):(a ++ b).flatMap ai.cells=a.flatMap ai.cells ++ b.flatMap ai.cells:=List.flatMap_append
section
variable {W:World} {us:List ai} {b c K:Nat}
theorem xF (h:W.ownsRow 0 193 3 (.slice (some ⟨b,0,none⟩) (K+1) c) (K+1) (us.flatMap ai.cells)) (hL:us.length=K+1) (hmax:K<=1000) (i:Nat) (hi:i < K):Calls Tryz.prog 154 #[.slice (some ⟨b,0,none⟩) (K+1) c,.int .i64 (i:Nat),.int .i64 ((i:Int)+1)] W λe w'=>e= .returned (.slice (some ⟨b,0,none⟩) K c)/\w'.ownsRow 0 193 3 (.slice (some ⟨b,0,none⟩) K c) K ((us.eraseIdx i).flatMap ai.cells)/\Kept (λk=>k=b) W w':=by
 obtain⟨i0,hinf,hz0,hz1,hz2⟩:=info_parts og;have HIn:=ab hinf;rcases h.2 with⟨h0,_⟩|⟨g,cap,cur,h0,_,hg,hnc,hcm,hcs,hx⟩
 · cases h0
 injection h0 with h01 _ h03;injection h01 with h01;injection h01 with h01 _;subst h01 h03;have hcm2:c<=9223372036854775807:=by unfold maxLen at hcm;omega
 obtain⟨news,hnews⟩:=aa ((us.drop (i+1)).flatMap ai.cells);have hnl:news.length=(K - i) * 3:=by
  rw[<-hnews,iV,List.length_drop,hL]
  congr 1
  omega
 have hget:∀j,j < (K+1) * 3->cur[j]? =(us.flatMap ai.cells)[j]? :=λj hj=>by rw[<-hx,List.getElem?_take_of_lt hj,Array.getElem?_toList]
 have hnj:∀j u,news[j]? =some u->cur[(i+1) * 3+j]? =some u:=λj u hu=>by
  have hj:=(List.getElem?_eq_some_iff.1 hu).1;rw[hget _ (by omega),<-hu,<-hnews]
  conv=>lhs;rw[<-List.take_append_drop (i+1) us,p6]
  rw[List.getElem?_append_right (by rw[iV,List.length_take];omega),iV,List.length_take,show min (i+1) us.length=i+1 by omega,Nat.add_sub_cancel_left]
 have hcell:∀ (W':World) (cs:Array Value) (j:Nat),W'.heap[b]? =some (Obj.cells cs 193)->W'.cell? ⟨b,j,none⟩=cs[j]? :=λW' cs j h=>cell_of_row _ _ j _ _ _ h;have hfz:∀ (W':World) (cs:Array Value) (j:Nat),W'.heap[b]? =some (Obj.cells cs 193)->W'.frozen? ⟨b,j,none⟩=false:=λW' cs j h=>by unfold World.frozen?;rw[show W'.heap[(⟨b,j,none⟩:Addr).block]? =_ from h];simp
 have hgd:W.drew.heap[b]? =some (Obj.cells cur 193):=hg;have s1:=ab (show ∀j u,news[j]? =some u->W.drew.cell? ((⟨b,(i+1) * 3,none⟩:Addr).add j)=some u from λj u hu=>by rw[cV,hcell _ _ _ hgd];exact hnj j u hu);have s2:=ab (show ∀u ∈ news,u.oneCell'=true by rw[<-hnews];exact EB _);have s3:=ab (show ∀j,j < news.length->(W.drew.cell? ⟨b,0+i * 3+j,none⟩).isSome=true/\W.drew.frozen? ⟨b,0+i * 3+j,none⟩=false from λj hj=>by refine⟨?_,hfz _ _ _ hgd⟩;rw[hcell _ _ _ hgd,Array.getElem?_eq_getElem (by omega)];rfl);have HNl:=ab hnl;have hroom:=ab (show i+(K - i)<=c by omega);obtain⟨W1,hW1⟩:=aa (W.drew.setCells b (0+i * 3) news);have hb1:W1.heap[b]? =some (Obj.cells (iw cur (0+i * 3) news) 193):=by rw[<-hW1];exact pH _ _ _ _ _ _ _ hgd
 have hk1:Kept (λk=>k=b) W W1:=by rw[<-hW1];exact((Kept.refl _ W).drew).trans (m7 b news _ _) (λ_ h=> .inl h)
 have HW1:=ab hW1;have HB1:=ab hb1;have HK1:=ab hk1;have hcl:=λty=>Dk W1 ty b (K * 3) (c - K) (λj hj=>by rw[hcell _ _ _ hb1,Array.getElem?_eq_getElem (by rw[ly];omega)];rfl) (λj hj=>hfz _ _ _ hb1);have HCur:=ab (And.intro hcs hget);have HFin:=ab (show(iw (iw cur (0+i * 3) news) (K * 3) [.int .i64 0,.int .i64 0,.int .i64 0]).toList.take (K * 3)=(us.eraseIdx i).flatMap ai.cells from by
  rw[List.eraseIdx_eq_take_drop_succ,p6,hnews];apply List.ext_getElem?;intro j;by_cases hj:j < K * 3
  · rw[List.getElem?_take_of_lt hj,Array.getElem?_toList,oZ _ _ _ (by rw[ly];simp only[List.length_cons,List.length_nil];omega),if_pos hj,oZ _ _ _ (by omega)];by_cases h1:j < i * 3
    · rw[if_pos (by omega),hget _ (by omega),List.getElem?_append_left (by rw[iV,List.length_take];omega)]
      conv=>lhs;rw[<-List.take_append_drop i us,p6]
      rw[List.getElem?_append_left (by rw[iV,List.length_take];omega)]
    · rw[if_neg (by omega),if_pos (by omega),List.getElem?_append_right (by rw[iV,List.length_take];omega),iV,List.length_take,show min i us.length=i by omega,show j - (0+i * 3)=j - i * 3 by omega]
  · rw[List.getElem?_eq_none (by rw[List.length_take];omega),List.getElem?_eq_none (by rw[List.length_append,iV,List.length_take,hnl];omega)])
 have q1:=λW=>Eo b (K+1) c i (i+1) (i:Int) ((i:Int)+1) ((K:Int)+1) rfl (by omega) (by omega) (by omega) (by omega) hnc (by omega) W;have q2:=λW=>Ep b (K+1) c i (i:Int) rfl (by omega) hnc (by omega) W;have q3:=λW=>Em b (K+1) c (i+1) ((i:Int)+1) (by omega) (by omega) (by omega) W;have eK:i+(K - i)=K:=by omega
 have e1:K+1 - (i+1)=K - i:=by omega
 have e2:K+1 - K=1:=by omega
 have q5:((i:Int) == (i:Int)+1)=false:=by rw[beq_eq_false_iff_ne];omega
 have q4:=λW=>En b K c K (K+1) (K:Int) ((K:Int)+1) rfl (by omega) (by omega) (by omega) (by omega) W;rw[e1]at q3;rw[e2]at q4;have HJ:=ab (And.intro hcs (And.intro hnc hcm));have HE:=ab eK;clear hinf hx hg hnl hget hnj hcell hfz hgd hW1 hb1 hk1 h hnews e1 e2 eK
 go_enter Tryz.func154,Tryz.ntmps154
 go_wp2_with fail
 go_region_law (refine step_append_room rfl (.tmp 22) (.tmp 25) 186 rfl 193 i0 3 Tryz.underlying186 HIn.out hz1 b 0 i c rfl ⟨b,(i+1)*3,none⟩ (K-i) (c-(i+1)) news rfl (by rw[HNl.out]) s1.out s2.out hroom.out s3.out ?_;rw[HW1.out])
 rw[HE.out]
 go_wp2_with fail
 go_ret
 obtain⟨hcs',hnc',hcm'⟩:=HJ.out;refine⟨rfl,⟨?_,.inr ⟨b,c,_,rfl,Nat.zero_le b,pH b _ _ _ _ _ _ HB1.out,by omega,hcm',?_,HFin.out⟩⟩,HK1.out.trans (m7 b _ _ _) (λ_ h=> .inl h)⟩
 · rw[iV,List.length_eraseIdx,if_pos (by omega),hL];rfl
 · rw[ly,ly];exact hcs'
end
end Go.Proofs.YtiafamacjpgjoaaGreatDoor
