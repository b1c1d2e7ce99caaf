import Derived.Test.YtdilnodbfnlhdaaGreatDoorGDgZ
import Derived.Test.YtdilnodbfnlhdaaGreatDoorGDgS
import Derived.Test.YtdilnodbfnlhdaaGreatDoorGBits7
import Derived.Test.YtdilnodbfnlhdaaGreatDoorGSgT
import Derived.Test.YtdilnodbfnlhdaaGreatDoorGApp
import Derived.Deep.RegionLaw
import Derived.Deep.AppendLies
import Derived.RangeFuncBox
import Derived.Deep.RegionHeld3
set_option maxHeartbeats 2000000
namespace Go.Proofs.YtdilnodbfnlhdaaGreatDoor
open Go.RowKit Tide
structure ah where
 no:Nat
 first:Nat
 fin:Nat
abbrev ah.cells (u:ah):List Value:= [.int .i64 (u.no:Int),.int .i64 (u.first:Int),.int .i64 (u.fin:Int)]
theorem oW:∀ (us:List ah) (i j:Nat) (h:i < us.length),j < 3->(us.flatMap ah.cells)[i * 3+j]? =(us[i]).cells[j]?
 | [],_,_,h,_=>by simp at h
 | t :: us,0,j,_,hj=>by rw[List.flatMap_cons,List.getElem?_append_left (by simp;omega)];simp
 | t :: us,i+1,j,h,hj=>by have hl:t.cells.length=3:=rfl;rw[List.flatMap_cons,List.getElem?_append_right (by omega),hl,show(i+1) * 3+j - 3=i * 3+j by omega];exact oW us i j (by simpa using h) hj
structure aO (W:World) (F:Nat->Prop) (p dev:Nat) (us:List ah) (vs:Value):Prop where
 block:aH W p 218 (.pointer (some ⟨dev,0,none⟩)) vs
 used:W.ownsRow 0 224 3 vs us.length (us.flatMap ah.cells)
 fp:F p/\∀k,vs.ownBlock=some k->F k
 lt:∀k,F k->k < W.heap.size
section
variable {W W':World} {F G:Nat->Prop} {p dev:Nat} {us:List ah} {vs:Value}
theorem aO.an (h:aO W F p dev us vs) (hk:Kept G W W') (hG:∀k,F k->¬G k):aO W' F p dev us vs:=
 { h with
   block:=h.block.kept hk (hG _ h.fp.1)
   used:=hk.own h.used (λk e=>hG k (h.fp.2 k e))
   lt:=λk hf=>Nat.lt_of_lt_of_le (h.lt k hf) hk.size }
theorem aO.below (h:aO W F p dev us vs) (hb:Below W.heap.size W W'):aO W' F p dev us vs:=h.an (G:=λ_=>False) (Kept.al hb) (λ_ _ h=>h)
theorem aO.tight (h:aO W F p dev us vs):aO W (λk=>k=p\/vs.ownBlock=some k) p dev us vs:= { h with fp:=⟨.inl rfl,λk e=> .inr e⟩,lt:=λk hk=>hk.elim (λe=>by subst e;exact h.block.lt) (λe=>h.lt k (h.fp.2 k e)) }
theorem aO.form (h:aO W F p dev us vs):∃A c,vs= .slice A us.length c/\us.length<=c/\c<=9223372036854775807:=by
 rcases h.used.2 with⟨h1,h0⟩|⟨g,cap,cur,h1,_,_,h2,h3,_⟩
 · exact⟨none,0,by rw[h1,h0],by omega,by omega⟩
 · exact⟨_,cap,h1,h2,h3⟩
theorem aO.cells (h:aO W F p dev us vs) (i:Nat) (hi:i < us.length):∃b c,vs= .slice (some ⟨b,0,none⟩) us.length c/\us.length<=c/\b < W.heap.size/\b≠p/\W.cell? ⟨b,i * 3,none⟩=some (.int .i64 ((us[i]).no:Int))/\W.cell? ⟨b,i * 3+1,none⟩=some (.int .i64 ((us[i]).first:Int))/\W.cell? ⟨b,i * 3+2,none⟩=some (.int .i64 ((us[i]).fin:Int))/\∀j,W.frozen? ⟨b,j,none⟩=false:=by
 obtain⟨b,c,hv,_,hlt⟩:=h.used.form (by omega);have hc:us.length<=c:=by obtain⟨_,_,e,h1,_⟩:=h.form;rw[hv]at e;injection e with _ _ e;rw[e];exact h1
 have hat:∀j u,((us[i]).cells)[j]? =some u->j < 3->W.cell? ⟨b,i * 3+j,none⟩=some u:=λj u hu hj=>by
  have h1:=h.used.cells (g:=b) (by rw[hv];rfl) (i * 3+j) u (by rw[oW us i j hi hj];exact hu)
  rwa[da,Nat.zero_add]at h1
 refine⟨b,c,hv,hc,hlt,λe=>j7 h.block h.used (by decide) (by rw[hv,e];rfl),hat 0 _ rfl (by omega),hat 1 _ rfl (by omega),hat 2 _ rfl (by omega),λj=> ?_⟩;obtain⟨cur,ho⟩:=fG h.used (k:=b) (by rw[hv];rfl);unfold World.frozen?;rw[show W.heap[(⟨b,j,none⟩:Addr).block]? =_ from ho];simp
end
end Go.Proofs.YtdilnodbfnlhdaaGreatDoor
namespace Go.Proofs.YtdilnodbfnlhdaaGreatDoor
open Go.RowKit Tide
theorem sA {k:IntKind} {a b:Int} (h:a=b):Ending.returned (.int k a)= .returned (.int k b):=by rw[h]
theorem eC (x:Int) (h1: -9223372036854775808<=x) (h2:x<=9223372036854775807):wrap64 x=x/\IntKind.i64.wrap x=x:=⟨by unfold wrap64;omega,by simp[IntKind.wrap,IntKind.signed,IntKind.bits];omega⟩
theorem jr (i n:Nat) (hi:i<=1000000) (hn:n<=1000000) (w:World):Calls Tryz.prog 152 #[.int .i64 (i:Nat),.int .i64 (n:Nat)] w λe w'=>e= .returned (.int .i64 (ax i n:Nat))/\w=w':=by
 obtain⟨m,hm⟩:=aa ((n+63) / 64);have q1:((n:Int)+64 - 1).tdiv 64=(m:Int):=by rw[Int.tdiv_eq_ediv_of_nonneg (by omega)];omega
 have q2:((n:Int)+64 - 1) / 64=(m:Int):=by omega
 have HR:=ab (show((i:Int)+1+(m:Int))=((ax i n:Nat):Int) from by unfold ax;omega);have hm2:m<=2000000:=by omega
 obtain⟨⟨a1,a1'⟩,⟨a2,a2'⟩,⟨a3,a3'⟩,⟨a4,a4'⟩,⟨a5,a5'⟩⟩:=And.intro (eC ((i:Int)+1) (by omega) (by omega)) (And.intro (eC ((n:Int)+64) (by omega) (by omega)) (And.intro (eC ((n:Int)+64 - 1) (by omega) (by omega)) (And.intro (eC (m:Int) (by omega) (by omega)) (eC ((i:Int)+1+(m:Int)) (by omega) (by omega)))));clear hm hm2 hi hn
 go_enter Tryz.func152,Tryz.ntmps152
 go_wp2_with fail
 go_ret
 exact⟨sA HR.out,rfl⟩
theorem rz (v:Value) (L:List UInt8) (B:Nat) (w:World) (hp:Bytes w B v L) (hL:L.length<=8) (hs:bB L < 2 ^ 63):
 Calls Tryz.prog 114 #[v] w λe w'=>e= .returned (.int .i64 (bB L:Nat))/\w=w':=by
 obtain⟨A2,c2,rfl,_,_,hb⟩:=hp.form;have hB:=ab hb;have HS:=ab hs;clear hb hp hs
 go_enter Tryz.func114,Tryz.ntmps114
 go_wp2_with fail
 go_loop [3,8] (λr i=>∃j:Nat,j<=L.length/\i= .int .i64 j/\r= .int .i64 (bB (L.take j):Nat)) (λ_ i=>L.length - (intOf i).toNat)
 case atStart=>exact⟨0,Nat.zero_le _,rfl,by simp[bB]⟩
 case round=>
  obtain⟨j,hj,rfl,rfl⟩:=hrel;by_cases hlt2:j < L.length
  · obtain⟨b2,o2,rfl,_,hcs⟩:=hB.out j hlt2;have hc2:=hcs j hlt2;clear hcs;have hcl:=L[j].toNat_lt;have hta:L.take j ++ [L[j]]=L.take (j+1):=(List.take_succ_eq_append_getElem hlt2).symm;have hle:bB (L.take (j+1))<=bB L:=by
     have:=rq (L.take (j+1)) (L.drop (j+1))
     rwa[List.take_append_drop]at this
    have hbig:bB (L.take j ++ [L[j]]) < 2 ^ 63:=by rw[hta];exact Nat.lt_of_le_of_lt hle HS.out
    have hor:=Ac (L.take j) L[j] j (by simp;omega) hbig;have hsm:(L[j]).toNat * 2 ^ (8 * j) < 2 ^ 63:=by
     have e:(256:Nat) ^ (L.take j).length=2 ^ (8 * j):=by rw[show(L.take j).length=j by simp;omega,show(256:Nat)=2 ^ 8 by rfl,<-Nat.pow_mul]
     have h3:(L[j]).toNat * 2 ^ (8 * j)<=bB (L.take j ++ [L[j]]):=by rw[kz,e,Nat.mul_comm];omega
     omega
    rw[hta]at hor;have e1:((((L[j]).toNat * 2 ^ (8 * j):Nat)):Int)=((L[j]).toNat:Int) * 2 ^ (8 * j):=by push_cast;rfl
    have b1:=eC ((((L[j]).toNat * 2 ^ (8 * j):Nat)):Int) (by omega) (by omega);rw[e1]at b1 hor;obtain⟨s1,s2⟩:=b1;clear e1 hsm hbig hta hle
    go_wp2_with fail
    go_round
    case rel=>exact⟨j+1,by omega,by go_num,rfl⟩
    case measure=>simp[intOf];omega
  · have hkl:=ab (show L.take j=L from List.take_of_length_le (by omega))
    go_wp2_with fail
    go_ret
    exact⟨sA (by rw[hkl.out]),rfl⟩
theorem rB (n:Nat):madeCells #[.int .u8 0] n=(aj (aN n)).toArray:=by
 apply Array.ext_getElem?;intro i;by_cases h:i < n
 · rw[rA n i h];simp[aj,aN,h]
 · simp[madeCells,aj,aN,h]
theorem Ee (l:List UInt8) (k:Nat) (b:UInt8):(aj l).set k (.int .u8 (b.toNat:Int))=aj (l.set k b):=by unfold aj;rw[List.map_set]
theorem vM (n k:Nat):((n:Int) / 2 ^ (8 * k) % 256)=(((UInt8.ofNat (n / 2 ^ (8 * k))).toNat:Nat):Int):=by simp
theorem sX {W:World} {g i:Nat} {l:List UInt8} {t:TypeId} (h:W.heap[g]? =some (.cells (aj l).toArray t)) (b:UInt8) (v:Int) (hv:v=(b.toNat:Int)):(W.setCell ⟨g,i,none⟩ (.int .u8 v)).heap[g]? =some (.cells (aj (l.set i b)).toArray t):=by subst hv;rw[oG h,<-Ee];simp
theorem lT {W:World} {g n base:Nat} {l:List UInt8} (h:W.heap[g]? =some (.cells (aj l).toArray 5)) (hl:l.length=n) (hb:base<=g) (hn:n<=1000000):W.ownsRow base 5 1 (.slice (some ⟨g,0,none⟩) n n) n (aj l):=
 ⟨by rw[aR,hl,Nat.mul_one],.inr ⟨g,n,_,rfl,hb,h,Nat.le_refl _,by unfold maxLen;omega,by simp[aR,hl],by rw[Nat.mul_one];exact List.take_of_length_le (by simp[aR,hl])⟩⟩
theorem rE (n:Nat) (hn:n < 2 ^ 63) (w:World):Calls Tryz.prog 176 #[.int .i64 (n:Nat)] w λe w'=>∃v,e= .returned v/\w'.ownsRow w.heap.size 5 1 v 64 (aj (dj n))/\Below w.heap.size w w':=by
 have mk:=y4;have HN:=ab hn;clear hn
 go_enter Tryz.func176,Tryz.ntmps176
 go_wp2_with fail
 go_loopw [6] (λi wr=>∃k:Nat,i= .int .i64 k/\k<=8/\Hid (wr.heap[w.heap.size]? =some (.cells (aj (gR n k)).toArray 5))/\Hid (Below w.heap.size w wr)) (λi _=>8 - (intOf i).toNat)
 case atStart=>refine⟨0,rfl,Nat.zero_le _,ab ?_,ab ((Below.refl _ w).alloc (Nat.le_refl _) _)⟩;rw[heap_alloc_new,rB];rfl
 case round=>
  obtain⟨k,rfl,hk,hc,hb⟩:=hrel;have hg:w.heap.size < wr.heap.size:=by
   rcases Nat.lt_or_ge w.heap.size wr.heap.size with h|h
   · exact h
   · have:=hc.out;rw[Array.getElem?_eq_none h]at this;cases this
  have hl:=xQ n k (by omega);have fz:∀i,wr.frozen? ⟨w.heap.size,i,none⟩=false:=λi=>by unfold World.frozen?;rw[show wr.heap[(⟨w.heap.size,i,none⟩:Addr).block]? =_ from hc.out];simp
  have hcell:∀i,i < 64->∃x:UInt8,wr.cell? ⟨w.heap.size,i,none⟩=some (.int .u8 (x.toNat:Int)):=λi h=>⟨(gR n k)[i]'(by omega),by rw[cell_of_row _ _ i _ _ _ hc.out];simpa using ib _ i (by omega)⟩
  by_cases hlt:k < 8
  · obtain⟨x,ck⟩:=hcell k (by omega);have fk:=fz k;have HS:=ab (xS n k (by omega));have HL:=ab hl;clear hcell fz hl
    go_wp2_with fail
    go_roundw
    case rel=>refine⟨k+1,by go_num,by omega,ab ?_,ab (hb.out.setCell (p:=⟨w.heap.size,k,none⟩) (Nat.le_refl _) _)⟩;rw[<-HS.out];exact sX hc.out _ _ (vM n k)
    case measure=>simp[intOf];omega
  · obtain rfl:k=8:=by omega
    obtain⟨x,ck⟩:=hcell 63 (by omega);have fk:=fz 63;have HL:=ab hl;have HM:=ab (xR n);clear hcell fz hl
    go_wp2_with fail
    go_ret
    refine⟨_,rfl,?_,hb.out.setCell (p:=⟨w.heap.size,63,none⟩) (Nat.le_refl _) _⟩;have hs:=sX (i:=63) hc.out 1 1 rfl;rw[HM.out]at hs;exact lT hs (gA n) (Nat.le_refl _) (by omega)
section
variable {D:az} {x:Nat->Addr} {W:World} {Fd Fs:Nat->Prop} {p dev:Nat} {us:List ah} {vs:Value} {d:Dv}
theorem oJ (hD:aC x D) (hd:D W Fd dev d) (hs:aO W Fs p dev us vs) (i:Nat) (hi:i < d.ae.length / 64):
 Calls Tryz.prog 113 #[.pointer (some ⟨p,0,none⟩),.int .i64 (i:Nat)] W λe w'=>∃v,e= .returned v/\w'.ownsRow W.heap.size 5 1 v 64 (aj (ak (aI d.ae d.aq) i))/\Below W.heap.size W w':=by
 have CR:=ab (hD.read W Fd dev d i hd hi);obtain⟨hp,c0,_,_⟩:=hs.block.facts;clear hd hs hi hD
 go_enter Tryz.func113,Tryz.ntmps113
 go_wp2_with fail
 refine CR.out.mono ?_;rintro en w1 ⟨v,rfl,ho,hb⟩;have HO:=ab ho;have HB:=ab hb;clear ho hb CR
 go_wp2_with fail
 go_ret
 exact⟨v,rfl,HO.out,HB.out⟩
end
end Go.Proofs.YtdilnodbfnlhdaaGreatDoor
namespace Go.Proofs.YtdilnodbfnlhdaaGreatDoor
open Go.RowKit Tide
def gi (us:List ah):Int:=match us.getLast? with
 | none=> -1
 | some u=>(u.no:Int)
def gz (us:List ah) (n:Nat):Bool:=match us.getLast? with
 | none=>false
 | some u=>decide (ax u.fin n<=u.first+64)
theorem rm {us:List ah} (h:us≠ []):us.getLast? =some (us[us.length - 1]'(by have:=List.length_pos_iff.2 h;omega)):=by have hp:=List.length_pos_iff.2 h;rw[List.getLast?_eq_getElem?,List.getElem?_eq_getElem (by omega)]
section
variable {W:World} {F:Nat->Prop} {p dev:Nat} {us:List ah} {vs:Value}
theorem rn (h:aO W F p dev us vs) (hmax:us.length<=1000):Calls Tryz.prog 172 #[.pointer (some ⟨p,0,none⟩)] W λe w'=>e= .returned (.int .i64 (gi us))/\∃k,w'=W.drewN k:=by
 obtain⟨hpl,c0,c1,_⟩:=h.block.facts;by_cases hg:us= []
 · subst hg;obtain⟨A2,c2,rfl,_,_⟩:=h.form;clear h;simp only[List.length_nil]at c1
   go_enter Tryz.func172,Tryz.ntmps172
   go_wp2_with fail
   go_ret
   exact⟨rfl,0,rfl⟩
 · have hp:=List.length_pos_iff.2 hg;obtain⟨b,cc,rfl,_,hb,_,d0,_,_,_⟩:=h.cells (us.length - 1) (by omega);have hF:=ab (show gi us=((us[us.length - 1]'(by omega)).no:Int) from by unfold gi;rw[rm hg]);generalize us[us.length - 1]'(by omega)=g at *;generalize g.no=no at *;obtain⟨L,hL⟩:=aa us.length;rw[hL]at c1 d0 hp hmax;obtain⟨K,rfl⟩:∃K,L=K+1:=⟨L - 1,by omega⟩;simp only[Nat.add_sub_cancel]at d0;have q0:((K:Int)+1 == 0)=false:=by rw[beq_eq_false_iff_ne];omega
   have k1:(K:Int) < (K:Int)+1:=by omega
   have k0:(0:Int)<=(K:Int):=by omega
   have hK0:(-1000000:Int)<=(K:Int):=by omega
   have hK1:(K:Int)<=1000000:=by omega
   have wK:=gX (K:Int) hK0 hK1;have vK:=gW (K:Int) hK0 hK1;clear hK0 hK1 h hg hL hp hb hmax
   go_enter Tryz.func172,Tryz.ntmps172
   go_wp2_with fail
   go_quiet (fail)
   go_wp2_with fail
   go_ret
   exact⟨by rw[hF.out];rfl,_,rfl⟩
theorem xo (h:aO W F p dev us vs) (hmax:us.length<=1000) (hs:∀u ∈ us,u.fin<=100000/\u.first<=100000) (n:Nat) (hn:n<=100000):Calls Tryz.prog 159 #[.pointer (some ⟨p,0,none⟩),.int .i64 (n:Nat)] W λe w'=>e= .returned (.bool (gz us n))/\Below W.heap.size W w':=by
 obtain⟨hpl,c0,c1,_⟩:=h.block.facts;by_cases hg:us= []
 · subst hg;obtain⟨A2,c2,rfl,_,_⟩:=h.form;clear h hs;simp only[List.length_nil]at c1
   go_enter Tryz.func159,Tryz.ntmps159
   go_wp2_with fail
   go_ret
   exact⟨rfl,Below.refl _ _⟩
 · have hp:=List.length_pos_iff.2 hg;obtain⟨b,cc,rfl,_,hb,hbp,d0,d1,d2,_⟩:=h.cells (us.length - 1) (by omega);have hsec:=hs _ (List.getElem_mem (show us.length - 1 < us.length by omega));have hF:=ab (show gz us n=decide (ax (us[us.length - 1]'(by omega)).fin n<=(us[us.length - 1]'(by omega)).first+64) from by unfold gz;rw[rm hg]);generalize us[us.length - 1]'(by omega)=g at *;obtain⟨no,fi,en⟩:=g;simp only at d0 d1 d2 hsec hF;obtain⟨L,hL⟩:=aa us.length;rw[hL]at c1 d0 d1 d2 hp hmax;obtain⟨K,rfl⟩:∃K,L=K+1:=⟨L - 1,by omega⟩;simp only[Nat.add_sub_cancel]at d0 d1 d2;have hbe:ax en n<=1000000:=by unfold ax;omega
   have CB:=ab (λ(W:World) (k:Nat)=>show Calls Tryz.prog 152 #[.int .i64 (en:Nat),.int .i64 (n:Nat)] (W.drewN k) (λe w'=>e= .returned (.int .i64 (ax en n:Nat))/\w'=W.drewN k) from(jr en n (by omega) (by omega) (W.drewN k)).mono λ_ _ ⟨h1,h2⟩=>⟨h1,h2.symm⟩);have hF2:=ab (show gz us n=decide (((ax en n:Nat):Int)<=(fi:Int)+64) from by rw[hF.out,decide_eq_decide];omega);generalize ax en n=be at *;have q0:((K:Int)+1 == 0)=false:=by rw[beq_eq_false_iff_ne];omega
   have k1:(K:Int) < (K:Int)+1:=by omega
   have k0:(0:Int)<=(K:Int):=by omega
   have hK0:(-1000000:Int)<=(K:Int):=by omega
   have hK1:(K:Int)<=1000000:=by omega
   have hS0:(-1000000:Int)<=(fi:Int)+64:=by omega
   have hS1:(fi:Int)+64<=1000000:=by omega
   have wK:=gX (K:Int) hK0 hK1;have vK:=gW (K:Int) hK0 hK1;have w1:=gX _ hS0 hS1;have v1:=gW _ hS0 hS1;clear hK0 hK1 hS0 hS1 h hs hF hg hL hsec hp hmax hbe;cases hq:decide (((be:Nat):Int)<=(fi:Int)+64)
   all_goals
    have HQ:=ab (hF2.out.trans hq)
    go_enter Tryz.func159,Tryz.ntmps159
    go_wp2_with fail
    go_region
    have hrow:=heap_alloc_new W (.cells #[.int .i64 (no:Int),.int .i64 (fi:Int),.int .i64 (en:Int)] 224);have HB:=ab ((Below.refl W.heap.size W).alloc (Nat.le_refl _) (.cells #[.int .i64 (no:Int),.int .i64 (fi:Int),.int .i64 (en:Int)] 224)).drew;obtain⟨W2,hW2⟩:=aa ((W.alloc (.cells #[.int .i64 (no:Int),.int .i64 (fi:Int),.int .i64 (en:Int)] 224)).drew);have e1:W2.cell? ⟨W.heap.size,1,none⟩=some (.int .i64 (fi:Int)):=by rw[<-hW2];show(W.alloc _).cell? _=_;rw[cell_of_row _ _ 1 _ _ _ hrow];rfl
    have e2:W2.cell? ⟨W.heap.size,2,none⟩=some (.int .i64 (en:Int)):=by rw[<-hW2];show(W.alloc _).cell? _=_;rw[cell_of_row _ _ 2 _ _ _ hrow];rfl
    rw[hW2]at HB ⊢;have CN:=ab (CB.out W2);clear hW2 hrow CB
    go_wp2_with fail
    go_quiet ((go_at_call 152;(with_reducible refine Calls.quiet_of_same (CN.out _))))
    go_wp2_with fail
    go_ret
    exact⟨by rw[HQ.out];rfl,HB.out.trans ((dp W2 _).mono HB.out.size)⟩
end
end Go.Proofs.YtdilnodbfnlhdaaGreatDoor
namespace Go.Proofs.YtdilnodbfnlhdaaGreatDoor
open Go.RowKit Tide
theorem ym:(Tryz.prog.info? 3).map (λi=>(i.zero,i.size,i.bytes))=some (some (.int .i64 0),1,8):=by kernel_rfl
section
variable {W:World} {F:Nat->Prop} {p dev:Nat} {us:List ah} {vs:Value}
theorem Cs (h:aO W F p dev us vs) (hmax:us.length<=1000):Calls Tryz.prog 59 #[.pointer (some ⟨p,0,none⟩)] W λe w'=>∃v,e= .returned v/\w'.ownsRow W.heap.size 3 1 v us.length (us.map λu=> .int .i64 (u.no:Int))/\Below W.heap.size W w':=by
 obtain⟨i0,hinf,hz0,hz1,hz2⟩:=info_parts ym;have HIn:=ab hinf;have H:=ab h;obtain⟨hpl,c0,c1,_⟩:=h.block.facts;obtain⟨A,c,rfl,_,_⟩:=h.form;obtain⟨L,hL⟩:=aa us.length;have HL:=ab hL;rw[hL]at c1 hmax ⊢;clear h hinf hL
 go_enter Tryz.func59,Tryz.ntmps59
 go_wp2_with fail
 go_loopw [3,11] (λv i wr=>∃j:Nat,i= .int .i64 j/\j<=L/\Hid (wr.ownsRow W.heap.size 3 1 v j ((us.take j).map λu=> .int .i64 (u.no:Int)))/\Hid (Below W.heap.size W wr)) (λ_ i _=>L - (intOf i).toNat)
 case atStart=>exact⟨0,rfl,Nat.zero_le _,ab ⟨by simp,.inl ⟨rfl,rfl⟩⟩,ab (Below.refl _ _)⟩
 case round=>
  obtain⟨j,rfl,hj,ho,hb⟩:=hrel;obtain⟨Av,cv,rfl⟩:∃Av cv,u3= .slice Av j cv:=by
   rcases ho.out.2 with⟨h1,h0⟩|⟨g,cap,cur,h1,_⟩
   · exact⟨none,0,by rw[h1,h0]⟩
   · exact⟨_,cap,h1⟩
  by_cases hlt:j < L
  · have hju:j < us.length:=by have:=HL.out;omega
    obtain⟨gb,cc,hvs,_,hgb,_,d0,d1,d2,_⟩:=H.out.cells j hju;injection hvs with e1 _ e3;subst e1 e3;have f0:=(hb.out.cell (p:=⟨gb,j * 3,none⟩) hgb).trans d0;have f1:=(hb.out.cell (p:=⟨gb,j * 3+1,none⟩) hgb).trans d1;have f2:=(hb.out.cell (p:=⟨gb,j * 3+2,none⟩) hgb).trans d2;have HTk:=ab (show(us.take (j+1)).map (λu=>Value.int .i64 (u.no:Int))=(us.take j).map (λu=>Value.int .i64 (u.no:Int)) ++ [.int .i64 ((us[j]).no:Int)] by rw[List.take_succ_eq_append_getElem hju,List.map_append];rfl);generalize us[j]=u at *;obtain⟨no,fi,en⟩:=u;dsimp only at f0 f1 f2 HTk;obtain⟨xs,hxs⟩:=aa ((us.take j).map (λu=>Value.int .i64 (u.no:Int)));have hoo:=ho.out;rw[hxs]at hoo HTk;have HO:=ab hoo;have HJ:=ab (And.intro hj hmax);clear hoo hxs;clear d0 d1 d2 hju
    go_wp2_with (at_builtin;refine kU _ rfl (.tmp 15) (.tmp 18) _ rfl W.heap.size 3 i0 (.int .i64 0) 8 Tryz.underlying71 HIn.out hz0 hz1 hz2 rfl _ j xs rfl ?c1 (wr.heap.size+1+1) _ [.int .i64 (no:Int)] rfl ?c3 ?c4 ?c5 ?c6 ?c7 ?_)
    case c1=>exact bp (bp HO.out ((Below.refl _ _).alloc (Nat.le_refl _) _)) ((Below.refl _ _).alloc (Nat.le_refl _) _)
    case c3=>have:=Row.new (wr.alloc (.cells #[.int .i64 (no:Int),.int .i64 (fi:Int),.int .i64 (en:Int)] 224)) 3 #[.int .i64 (no:Int)] (0,0) (wr.heap.size+1) 1 (by simp) rfl (by decide);simpa using this
    case c4=>rfl
    case c5=>have:=HJ.out;unfold maxLen;omega
    case c6=>have:=HJ.out;omega
    case c7=>have:=hb.out.size;simp;omega
    intro v9 w9 h1 h2 _;obtain⟨g9,cap9,rfl⟩:=ownsRow_succ h1;have H9:=ab h1;have HB9:=ab (((hb.out.alloc hb.out.size (.cells #[.int .i64 (no:Int),.int .i64 (fi:Int),.int .i64 (en:Int)] 224)).alloc (by have:=hb.out.size;simp;omega) (.cells #[.int .i64 (no:Int)] 3)).grown h2 (by have:=hb.out.size;simp;omega) (λk e=>(ho.out.lt k e).1));clear h1 h2
    go_wp2_with fail
    go_roundw
    case rel=>exact⟨j+1,by go_num,by omega,ab (by rw[HTk.out];exact H9.out),HB9⟩
    case measure=>simp[intOf];omega
  · obtain rfl:j=L:=by omega
    have hoo:=ho.out;rw[List.take_of_length_le (by have:=HL.out;omega)]at hoo;have HO:=ab hoo;clear hoo
    go_wp2_with fail
    go_ret
    exact⟨_,rfl,HO.out,hb.out⟩
end
end Go.Proofs.YtdilnodbfnlhdaaGreatDoor
namespace Go.Proofs.YtdilnodbfnlhdaaGreatDoor
open Go.RowKit Tide
theorem nO (n:Nat) (hn:n<=100000):∀W:World,(Instr.makeSlice 38 (.int .i64 (n:Int)) (.int .i64 (n:Int))).run Tryz.prog W= .ok (.slice (some ⟨W.heap.size,0,none⟩) n n) (W.alloc (.cells (aj (aN n)).toArray 5)):=λW=>by obtain⟨i0,hi,hz0,hz1,hz2⟩:=info_parts jE;have h:=run_makeSlice (P:=Tryz.prog) W 38 5 i0 (.int .u8 0) Tryz.underlying38 hi hz0 .i64 .i64 (n:Int) (n:Int) (by omega) (by omega) (by rw[hz1];omega) (by rw[hz2];omega) (by omega);rw[hz1,Int.toNat_natCast,Nat.mul_one]at h;rw[<-rB];exact h
def fN (im:List UInt8) (i n k:Nat):List UInt8:=((im.drop (64 * i)).take (min n (64 * k))) ++ aN (n - 64 * k)
theorem vD (im:List UInt8) (i n:Nat):fN im i n 0=aN n:=by simp[fN]
theorem vB (im:List UInt8) (i n k:Nat) (h:64 * i+n<=im.length):(fN im i n k).length=n:=by unfold fN;rw[List.length_append,List.length_take,List.length_drop,dr];omega
theorem vA (im:List UInt8) (i n k:Nat) (hk:n<=64 * k):fN im i n k=eK im i n:=by unfold fN eK;rw[show n - 64 * k=0 by omega,show min n (64 * k)=n by omega];simp[aN]
theorem pL (im:List UInt8) (i n k:Nat) (h:64 * i+n<=im.length) (j:Nat):(fN im i n k)[j]? =if j < 64 * k then(if j < n then im[64 * i+j]? else none) else if j < n then some 0 else none:=by
 have hcl:((im.drop (64 * i)).take (min n (64 * k))).length=min n (64 * k):=by rw[List.length_take,List.length_drop];omega
 unfold fN;by_cases h1:j < min n (64 * k)
 · rw[List.getElem?_append_left (by rw[hcl];exact h1),List.getElem?_take_of_lt h1,List.getElem?_drop,if_pos (by omega),if_pos (by omega)]
 · rw[List.getElem?_append_right (by rw[hcl];omega),hcl];unfold aN;rw[List.getElem?_replicate];by_cases h2:j < n
   · rw[if_pos (by omega),if_neg (by omega),if_pos h2]
   · rw[if_neg (by omega)];rw[if_neg h2];split<;>rfl
theorem Dl {α:Type} (L cs:List α) (off:Nat) (h:off+cs.length<=L.length) (j:Nat):(splice L off cs)[j]? =if j < off then L[j]? else if j < off+cs.length then cs[j - off]? else L[j]? :=by
 have h1:(L.take off).length=off:=by rw[List.length_take];omega
 unfold splice;by_cases h2:j < off
 · rw[if_pos h2,List.getElem?_append_left (by omega),List.getElem?_take_of_lt h2]
 · rw[if_neg h2,List.getElem?_append_right (by omega),h1];by_cases h3:j < off+cs.length
   · rw[if_pos h3,List.getElem?_append_left (by omega)]
   · rw[if_neg h3,List.getElem?_append_right (by omega),List.getElem?_drop]
     congr 1
     omega
theorem vC (im:List UInt8) (i n k:Nat) (h:64 * i+n<=im.length) (hk:64 * k < n) (hs:64 * (i+k)+64<=im.length):splice (fN im i n k) (64 * k) ((ak im (i+k)).take (n - 64 * k))=fN im i n (k+1):=by
 have hl:=vB im i n k h;have hsl:((ak im (i+k)).take (n - 64 * k)).length=min (n - 64 * k) 64:=by rw[List.length_take,gV _ _ hs]
 apply List.ext_getElem?;intro j;rw[Dl _ _ _ (by omega),pL _ _ _ _ h,pL _ _ _ _ h,hsl];by_cases h1:j < 64 * k
 · rw[if_pos h1,if_pos h1,if_pos (show j < 64 * (k+1) by omega)]
 · rw[if_neg h1,if_neg h1];by_cases h2:j < 64 * k+min (n - 64 * k) 64
   · rw[if_pos h2,List.getElem?_take_of_lt (by omega),iF _ _ _ (by omega),if_pos (by omega),if_pos (by omega)]
     congr 1
     omega
   · rw[if_neg h2];by_cases h3:j < n
     · rw[if_pos h3,if_neg (by omega)]
     · rw[if_neg h3];split<;>rfl
theorem wL (b n c lo:Nat) (li:Int) (el:li=lo) (hn:n<=c) (hc:lo < n) (W:World):
 (Instr.slice 38 (.slice (some ⟨b,0,none⟩) n c) (some (.int .i64 li)) none none).run Tryz.prog W= .ok (.slice (some ⟨b,lo,none⟩) (n - lo) (c - lo)) W:=by
 subst el;rw[run_slice_l _ _ _ _ _ iP _ _ (by omega) (by omega),jd];simp only[Result.andThen,Int.toNat_natCast];have ha:(⟨b,0,none⟩:Addr).add lo=⟨b,0+lo,none⟩:=da b 0 lo;have hne:c≠lo:=by omega
 simp[sliced,hne,ha]
section
variable {D:az} {x:Nat->Addr} {W:World} {Fd Fs:Nat->Prop} {p dev:Nat} {us:List ah} {vs:Value} {d:Dv}
theorem vG (hD:aC x D) (hd:D W Fd dev d) (h:aO W Fs p dev us vs) (i n:Nat) (hn1:1<=n) (hn:n<=10000) (hi:i+(n+63) / 64<=d.ae.length / 64):
 Calls Tryz.prog 121 #[.pointer (some ⟨p,0,none⟩),.int .i64 (i:Nat),.int .i64 (n:Nat)] W λe w'=>∃v,e= .returned v/\w'.ownsRow W.heap.size 5 1 v n (aj (eK (aI d.ae d.aq) i n))/\Below W.heap.size W w':=by
 have mk:=nO n (by omega);have hr:=hD.right _ _ _ _ hd;have hlen:=hr.2.2.1;obtain⟨im,him⟩:=aa (aI d.ae d.aq);have himl:im.length=64 * (d.ae.length / 64):=by rw[<-him];exact iv _ _ hr.2.2.2.1 _ hr.1
 have HIm:=ab him;have HIl:=ab himl;have HDv:=ab hd;have HS:=ab h;have HI:=ab hi;have HLen:=ab hlen;have HN:=ab hn;have hi9:i<=1000:=by omega
 rw[him];clear him himl hd h hi hlen hr
 go_enter Tryz.func121,Tryz.ntmps121
 go_wp2_with fail
 go_loopw [8] (λj wr=>∃k:Nat,j= .int .i64 ((64 * k:Nat):Int)/\64 * k < n+64/\Hid (wr.ownsRow W.heap.size 5 1 (.slice (some ⟨W.heap.size,0,none⟩) n n) n (aj (fN im i n k)))/\Hid (Below W.heap.size W wr)) (λj _=>n+64 - (intOf j).toNat)
 case atStart=>refine⟨0,rfl,by omega,ab ?_,ab ((Below.refl _ W).alloc (Nat.le_refl _) _)⟩;rw[vD];exact lT (heap_alloc_new W _) (dr n) (Nat.le_refl _) (by omega)
 case round=>
  obtain⟨k,rfl,hk,ho,hb⟩:=hrel;by_cases hlt:64 * k < n
  · obtain⟨K,hK⟩:=aa (64 * k);obtain⟨q,hq⟩:=aa (i+k);have HK:=ab (And.intro hK hq);have hil:=HI.out;have hll:=HLen.out;have hql:q < d.ae.length / 64:=by omega
    have hst:=vC im i n k (by rw[HIl.out];omega) hlt (by rw[HIl.out];omega);rw[hK,hq]at hst;have HSt:=ab hst;have hbd:Below W.heap.size W wr.drew:=hb.out.drew;have hDr:=hD.an _ _ _ (λ_=>False) _ _ HDv.out (Kept.al hbd) (λ_ _ h=>h);have cs0:=oJ hD hDr (HS.out.below hbd) q hql;rw[HIm.out]at cs0;have CS:=ab cs0;have hsl:(ak im q).length=64:=gV _ _ (by rw[HIl.out];omega);have HSl:=ab hsl;have HCl:=ab (show((ak im q).take (n - K)).length=min (n - K) 64 by rw[List.length_take,hsl]);have HTk:=ab (show ∀j u,(aj ((ak im q).take (n - K)))[j]? =some u->(aj (ak im q))[j]? =some u from λj u hu=>by
     have h1:j < n - K:=by have:=(List.getElem?_eq_some_iff.1 hu).1;rw[aR,List.length_take]at this;omega
     unfold aj at hu ⊢;rw[List.getElem?_map,List.getElem?_take_of_lt h1]at hu;rw[List.getElem?_map];exact hu)
    rw[hK]at hlt hk ⊢;have hcut:=λW'=>wL W.heap.size n n K (K:Int) rfl (Nat.le_refl _) hlt W';have hKn:K<=10000:=by omega
    have hk9:k<=10000:=by omega
    have hq9:q<=10000:=by omega
    have q0:decide ((K:Int) < (n:Int))=true:=decide_eq_true (by omega);have q1:(K:Int).tdiv 64=(k:Int):=by rw[Int.tdiv_eq_ediv_of_nonneg (by omega)];omega
    have q2:(K:Int) / 64=(k:Int):=by omega
    have q3:(i:Int)+(k:Int)=(q:Int):=by omega
    have HB:=ab hbd;have HLt:=ab (show K+min (n - K) 64<=n by omega);have hb0:W.heap.size < wr.drew.heap.size:=ho.out.lt _ rfl |>.2
    have HOd:=ab (show wr.drew.ownsRow W.heap.size 5 1 (.slice (some ⟨W.heap.size,0,none⟩) n n) n (aj (fN im i n k)) from ho.out);obtain⟨⟨w1,v1⟩,⟨w2,v2⟩,⟨w3,v3⟩⟩:=And.intro (eC (k:Int) (by omega) (by omega)) (And.intro (eC (q:Int) (by omega) (by omega)) (eC ((K:Int)+64) (by omega) (by omega)));clear hil hll hql hst hbd hDr cs0 hsl hK hq hKn hk9 hq9 hk hb0
    go_wp2_with fail
    go_region_law (first
     | (go_simp;(with_reducible refine(CS.out).mono ?_);rintro en w5 ⟨v5,rfl,ho5,hb5⟩;obtain⟨g5,cap5,rfl,_,_⟩:=ho5.form (Nat.succ_pos 63);have HO5:=ab ho5;have HB5:=ab hb5;clear ho5 hb5)
     | (refine tq rfl (.tmp 18) (.tmp 24) _ _ rfl 5 Tryz.underlying38 kQ W.heap.size K (n - K) _ rfl (some ⟨g5,0,none⟩) 64 cap5 rfl W.heap.size n n 5 _ (bp HOd.out HB5.out) (aj ((ak im q).take (n - K))) ?_ ?_ (jg _) (λ_=>⟨⟨g5,0,none⟩,rfl,λj u hu=>HO5.out.cells (g:=g5) rfl j u (HTk.out j u hu)⟩) ?_;(exact(aR _).trans (HCl.out.trans (Nat.min_comm _ _)));(rw[aR,HCl.out];exact HLt.out);intro w6 o6 g6 z6))
    all_goals
     have h6:=o6.out;rw[oS,HSt.out]at h6;have H6:=ab h6;have HB6:=ab ((HB.out.trans (HB5.out.mono HB.out.size)).grown g6.out (Nat.le_trans HB.out.size HB5.out.size) (λk e=>by cases e;exact Nat.le_refl _));clear h6 o6 HO5 HB5 CS hcut g6 z6
     go_wp2_with fail
     clear w1 v1 w2 v2 w3 v3;have hk:=HK.out.1
     go_roundw
     case rel=>exact⟨k+1,congrArg _ (by omega),by omega,H6,HB6⟩
     case measure=>simp[intOf];omega
  · have hst:=ho.out;rw[vA im i n k (by omega)]at hst;have HO:=ab hst;obtain⟨K,hK⟩:=aa (64 * k);rw[hK]at hlt ⊢;clear hst hK
    go_wp2_with fail
    go_ret
    exact⟨_,rfl,HO.out,hb.out⟩
end
end Go.Proofs.YtdilnodbfnlhdaaGreatDoor
namespace Go.Proofs.YtdilnodbfnlhdaaGreatDoor
open Go.RowKit Tide
def gy (x y:Int):Int:=if x < y then -1 else if y < x then 1 else 0
theorem rj (x:Int) (w:World):Calls Tryz.prog 154 #[.int .i64 x] w λe w'=>e= .returned (.bool false)/\w=w':=by
 have q:(x != x)=false:=by simp
 go_enter Tryz.func154,Tryz.ntmps154
 go_wp2_with fail
 go_ret
 exact⟨by simp,rfl⟩
theorem wk (x y:Int) (w:World):Calls Tryz.prog 118 #[.int .i64 x,.int .i64 y] w λe w'=>e= .returned (.int .i64 (gy x y))/\w=w':=by
 have CX:=ab (λw=>rj x w);have CY:=ab (λw=>rj y w);have HC:=ab (show gy x y=if x < y then -1 else if y < x then 1 else 0 from rfl);obtain⟨c,hc⟩:=aa (gy x y);rw[hc]at HC ⊢;clear hc;cases q1:decide (x < y) with
 | true=>
   have HE:=ab (show c= -1 by rw[HC.out,if_pos (of_decide_eq_true q1)])
   go_enter Tryz.func118,Tryz.ntmps118
   go_wp2_with fail
   refine(CX.out _).mono ?_;rintro e w1 ⟨rfl,rfl⟩
   go_wp2_with fail
   refine(CY.out _).mono ?_;rintro e w1 ⟨rfl,rfl⟩
   go_wp2_with fail
   go_ret
   exact⟨by rw[HE.out];rfl,rfl⟩
 | false=>
   cases q2:decide (y < x) with
   | true=>
     have HE:=ab (show c=1 by rw[HC.out,if_neg (of_decide_eq_false q1),if_pos (of_decide_eq_true q2)])
     go_enter Tryz.func118,Tryz.ntmps118
     go_wp2_with fail
     refine(CX.out _).mono ?_;rintro e w1 ⟨rfl,rfl⟩
     go_wp2_with fail
     refine(CY.out _).mono ?_;rintro e w1 ⟨rfl,rfl⟩
     go_wp2_with fail
     go_ret
     exact⟨by rw[HE.out];rfl,rfl⟩
   | false=>
     have HE:=ab (show c=0 by rw[HC.out,if_neg (of_decide_eq_false q1),if_neg (of_decide_eq_false q2)])
     go_enter Tryz.func118,Tryz.ntmps118
     go_wp2_with fail
     refine(CX.out _).mono ?_;rintro e w1 ⟨rfl,rfl⟩
     go_wp2_with fail
     refine(CY.out _).mono ?_;rintro e w1 ⟨rfl,rfl⟩
     go_wp2_with fail
     go_ret
     exact⟨by rw[HE.out];rfl,rfl⟩
theorem wj (u v:ah) (w:World):Calls Tryz.prog 117 #[.agg #[.int .i64 (u.no:Int),.int .i64 (u.first:Int),.int .i64 (u.fin:Int)],.agg #[.int .i64 (v.no:Int),.int .i64 (v.first:Int),.int .i64 (v.fin:Int)]] w λe w'=>e= .returned (.int .i64 (gy u.no v.no))/\Below w.heap.size w w':=by
 obtain⟨a0,a1,a2⟩:=u;obtain⟨b0,b1,b2⟩:=v;have CC:=ab (λw=>wk (a0:Int) (b0:Int) w);obtain⟨W1,hW1⟩:=aa ((w.alloc (.cells #[.int .i64 (a0:Int),.int .i64 (a1:Int),.int .i64 (a2:Int)] 224)).alloc (.cells #[.int .i64 (b0:Int),.int .i64 (b1:Int),.int .i64 (b2:Int)] 224));have hb:Below w.heap.size w W1:=by rw[<-hW1];exact((Below.refl w.heap.size w).alloc (Nat.le_refl _) _).alloc (by simp) _
 have r0:W1.heap[w.heap.size]? =some (.cells #[.int .i64 (a0:Int),.int .i64 (a1:Int),.int .i64 (a2:Int)] 224):=by rw[<-hW1,Below.heap_alloc _ _ _ (by simp)];exact heap_alloc_new w _
 have r1:W1.heap[w.heap.size+1]? =some (.cells #[.int .i64 (b0:Int),.int .i64 (b1:Int),.int .i64 (b2:Int)] 224):=by have:=heap_alloc_new (w.alloc (.cells #[.int .i64 (a0:Int),.int .i64 (a1:Int),.int .i64 (a2:Int)] 224)) (.cells #[.int .i64 (b0:Int),.int .i64 (b1:Int),.int .i64 (b2:Int)] 224);rw[hW1,World.size_alloc]at this;exact this
 have c0:W1.cell? ⟨w.heap.size,0,none⟩=some (.int .i64 (a0:Int)):=by rw[cell_of_row _ _ 0 _ _ _ r0];rfl
 have c1:W1.cell? ⟨w.heap.size+1,0,none⟩=some (.int .i64 (b0:Int)):=by rw[cell_of_row _ _ 0 _ _ _ r1];rfl
 have HW:=ab hW1;have HB:=ab hb;clear hW1 hb r0 r1
 go_enter Tryz.func117,Tryz.ntmps117
 go_wp2_with fail
 rw[HW.out]
 go_wp2_with fail
 refine(CC.out _).mono ?_;rintro e w1 ⟨rfl,rfl⟩
 go_wp2_with fail
 go_ret
 exact⟨rfl,HB.out⟩
end Go.Proofs.YtdilnodbfnlhdaaGreatDoor
namespace Go.Proofs.YtdilnodbfnlhdaaGreatDoor
open Go.RowKit Tide
def fq:List ah->Nat->List ah
 | l,0=>l
 | l,j+1=>match l[j+1]?,l[j]? with
   | some x,some y=>if x.no < y.no then fq ((l.set (j+1) y).set j x) j else l
   | _,_=>l
def dE (us:List ah):Nat->List ah
 | 0=>us
 | i+1=>fq (dE us i) i
theorem sY:∀ (j:Nat) (l:List ah),(fq l j).length=l.length
 | 0,l=>rfl
 | j+1,l=>by
   unfold fq;split
   · split
     · rw[sY j];simp
     · rfl
   · rfl
theorem oN (us:List ah):∀i,(dE us i).length=us.length
 | 0=>rfl
 | i+1=>by rw[dE,sY,oN us i]
def eR:List ah->ah->List ah
 | [],x=> [x]
 | y :: r,x=>if x.no < y.no then y :: eR r x else x :: y :: r
theorem sZ:∀ (r:List ah) (x:ah) (c:List ah),fq (r.reverse ++ x :: c) r.length=(eR r x).reverse ++ c
 | [],x,c=>rfl
 | y :: r,x,c=>by
   have e:(y :: r).reverse ++ x :: c=r.reverse ++ y :: x :: c:=by simp
   have h0:(r.reverse ++ y :: x :: c)[r.length]? =some y:=by rw[List.getElem?_append_right (by simp)];simp
   have h1:(r.reverse ++ y :: x :: c)[r.length+1]? =some x:=by rw[List.getElem?_append_right (by simp)];simp
   rw[e,List.length_cons];unfold fq;rw[h0,h1];simp only;by_cases hx:x.no < y.no
   · rw[if_pos hx];have e2:((r.reverse ++ y :: x :: c).set (r.length+1) y).set r.length x=r.reverse ++ x :: y :: c:=by rw[List.set_append_right _ _ (by simp),List.set_append_right _ _ (by simp)];simp
     rw[e2,sZ r x (y :: c)];unfold eR;rw[if_pos hx];cases r<;>simp[eR]
   · rw[if_neg hx]
     conv=>rhs;unfold eR
     rw[if_neg hx];simp
def ff (us:List ah):Nat->List ah
 | 0=> []
 | i+1=>match us[i]? with
   | some x=>eR (ff us i) x
   | none=>ff us i
theorem qZ:∀ (r:List ah) (x:ah),(eR r x).length=r.length+1
 | [],_=>rfl
 | y :: r,x=>by
   unfold eR;split
   · rw[List.length_cons,qZ r x];rfl
   · rfl
theorem tf (us:List ah):∀i,i<=us.length->(ff us i).length=i/\dE us i=(ff us i).reverse ++ us.drop i
 | 0,_=>⟨rfl,rfl⟩
 | i+1,h=>by
   obtain⟨h1,h2⟩:=tf us i (by omega);have hx:us[i]? =some us[i]:=List.getElem?_eq_getElem (by omega);have e:ff us (i+1)=eR (ff us i) us[i]:=by
    conv=>lhs;unfold ff
    rw[hx]
   rw[e];refine⟨by rw[qZ,h1],?_⟩;unfold dE;rw[h2,List.drop_eq_getElem_cons (by omega:i < us.length)];have:=sZ (ff us i) us[i] (us.drop (i+1));rw[h1]at this;exact this
theorem nB:∀ (r:List ah) (x:ah),(eR r x).Perm (x :: r)
 | [],x=> .refl _
 | y :: r,x=>by
   unfold eR;split
   · exact((nB r x).cons y).trans (.swap x y r)
   · exact .refl _
theorem qY:∀ (r:List ah) (x:ah),r.Pairwise (λa b=>b.no<=a.no)->(eR r x).Pairwise (λa b=>b.no<=a.no)
 | [],x,_=>by simp[eR]
 | y :: r,x,h=>by
   obtain⟨h1,h2⟩:=List.pairwise_cons.1 h;unfold eR;by_cases hx:x.no < y.no
   · rw[if_pos hx];refine List.pairwise_cons.2 ⟨λz hz=> ?_,qY r x h2⟩;rcases List.mem_cons.1 ((nB r x).mem_iff.1 hz) with rfl|hz
     · exact Nat.le_of_lt hx
     · exact h1 z hz
   · rw[if_neg hx];refine List.pairwise_cons.2 ⟨λz hz=> ?_,h⟩;rcases List.mem_cons.1 hz with rfl|hz
     · exact Nat.le_of_not_lt hx
     · exact Nat.le_trans (h1 z hz) (Nat.le_of_not_lt hx)
theorem qq (us:List ah):∀i,i<=us.length->(ff us i).Perm (us.take i)/\(ff us i).Pairwise (λa b=>b.no<=a.no)
 | 0,_=>⟨.refl _,.nil⟩
 | i+1,h=>by
   obtain⟨h1,h2⟩:=qq us i (by omega);have hx:us[i]? =some us[i]:=List.getElem?_eq_getElem (by omega);have e:ff us (i+1)=eR (ff us i) us[i]:=by
    conv=>lhs;unfold ff
    rw[hx]
   rw[e];refine⟨?_,qY _ _ h2⟩;rw[List.take_succ_eq_append_getElem (by omega)];exact((nB _ _).trans (h1.cons _)).trans (List.perm_append_comm (l₁:= [us[i]]) (l₂:=us.take i))
theorem Dk {us vs:List ah} (hp:us.Perm vs) (hr:vs.Pairwise (λa b=>a.no < b.no)):dE us us.length=vs:=by
 obtain⟨h1,h2⟩:=tf us us.length (Nat.le_refl _);obtain⟨h3,h4⟩:=qq us us.length (Nat.le_refl _);rw[h2,List.drop_length,List.append_nil];rw[List.take_length]at h3;have h5:(ff us us.length).reverse.Perm vs:=((List.reverse_perm _).trans h3).trans hp;refine List.Perm.eq_of_pairwise (le:=λa b=>a.no<=b.no) (λa b ha hb hab hba=> ?_) (List.pairwise_reverse.2 h4) (hr.imp Nat.le_of_lt) h5;have ha2:a ∈ vs:=h5.mem_iff.1 ha;obtain⟨i,hi,rfl⟩:=List.getElem_of_mem ha2;obtain⟨j,hj,rfl⟩:=List.getElem_of_mem hb;have h6:=List.pairwise_iff_getElem.1 hr;rcases Nat.lt_trichotomy i j with h7|h7|h7
 · have:=h6 i j hi hj h7;omega
 · subst h7;rfl
 · have:=h6 j i hj hi h7;omega
def bt (im:List UInt8) (k:Nat):List ah:=((List.range k).filter λp=>bL im (64 * p) == some 1).map λp=>⟨bB ((ak im (64 * p)).take 8),64 * p,jz im (64 * p)⟩
end Go.Proofs.YtdilnodbfnlhdaaGreatDoor
namespace Go.Proofs.YtdilnodbfnlhdaaGreatDoor
open Go.RowKit Tide
theorem insert_nil (A:Option Addr) (c:Nat) (W:World):Calls Tryz.prog 169 #[.slice A 0 c,.int .i64 0,.int .i64 0,.func (.func 117) #[] #[]] W λe w'=>e= .returned (.tuple #[])/\W=w':=by
 go_enter Tryz.func169,Tryz.ntmps169
 go_wp2_with fail
 refine wp_loop_rounds 1 ?_;rw[rounds_succ]
 go_wp2_with fail
 go_end0
 exact⟨rfl,rfl⟩
theorem DE (A:Option Addr) (c:Nat) (W:World):Calls Tryz.prog 153 #[.slice A 0 c,.int .i64 0,.func (.func 117) #[] #[]] W λe w'=>e= .returned (.tuple #[])/\W=w':=by
 have CI:=ab (insert_nil A c W)
 go_enter Tryz.func153,Tryz.ntmps153
 go_wp2_with fail
 refine wp_loop_rounds 1 ?_;rw[rounds_succ]
 go_wp2_with fail
 refine CI.out.mono ?_;rintro e w1 ⟨rfl,rfl⟩
 go_wp2_with fail
 refine wp_loop_rounds 1 ?_;rw[rounds_succ]
 go_wp2_with fail
 go_end0
 exact⟨rfl,rfl⟩
theorem Dj (A:Option Addr) (c:Nat) (W:World):Calls Tryz.prog 116 #[.slice A 0 c,.func (.func 117) #[] #[]] W λe w'=>e= .returned (.tuple #[])/\W=w':=by
 have CI:=ab (DE A c W)
 go_enter Tryz.func116,Tryz.ntmps116
 go_wp2_with fail
 refine CI.out.mono ?_;rintro e w1 ⟨rfl,rfl⟩
 go_wp2_with fail
 go_end0
 exact⟨rfl,rfl⟩
end Go.Proofs.YtdilnodbfnlhdaaGreatDoor
