import Derived.Test.YtdilnodbfnlhdaaGreatDoorGKeep
import Derived.Test.YtdilnodbfnlhdaaGreatDoorGErr
import Derived.Test.YtdilnodbfnlhdaaGreatDoorGEntS
import Derived.Test.YtdilnodbfnlhdaaGreatDoorGPackD
import Derived.Deep.AppendLies
import Derived.Handy
import Derived.WalkKit
import Derived.WalkSpells
set_option maxRecDepth 100000
set_option maxHeartbeats 2000000
namespace Go.Proofs.YtdilnodbfnlhdaaGreatDoor
open Go.RowKit Tide
def plainO (o:aZ):aZ:=⟨o.kind,o.key,if o.kind=1\/o.kind=3 then o.value else⟨#[]⟩,if o.kind=3 then o.old else⟨#[]⟩,if o.kind=4 then o.version else 0⟩
def eM (K:ByteArray->Nat) (o:aZ):Bool:=decide (K o.key=0) && jL o
def aS (K:ByteArray->Nat) (e:aD):Bool:=
 if e.kind=1 then jC e && e.ops.all (eM K) else if e.kind=2 then cm e.au 12 && cm e.server 4 else
  if e.kind=3 then gI e && (cm e.server 4 && decide (K e.key=0)) else if e.kind=4 then gI e else if e.kind=5 then jQ e else false
def dv (K:ByteArray->Nat) (o:aZ):Bool:= !(decide (1<=o.kind) && decide (o.kind<=4)) || (!decide (K o.key=0) || (decide ((64:Int) < (o.old.size:Int)) || (decide ((64:Int) < (o.value.size:Int)) || !(decide (0<=o.version) && decide (o.version<=4096)))))
theorem oL:(⟨#[]⟩:ByteArray).size=0:=rfl
theorem EZ (K:ByteArray->Nat) (o:aZ):dv K (plainO o)= !eM K o:=by
 unfold dv eM jL plainO;simp only;by_cases k1:o.kind=1
 · rw[if_pos (Or.inl k1),if_neg (by omega),if_neg (by omega),if_pos k1,oL,k1,Bool.eq_iff_iff];simp
 by_cases k2:o.kind=2
 · rw[if_neg (by omega),if_neg (by omega),if_neg (by omega),if_neg (by omega),if_pos k2,oL,k2,Bool.eq_iff_iff];simp
 by_cases k3:o.kind=3
 · rw[if_pos (Or.inr k3),if_pos k3,if_neg (by omega),if_neg (by omega),if_neg (by omega),if_pos k3,k3,Bool.eq_iff_iff];simp;omega
 by_cases k4:o.kind=4
 · rw[if_neg (by omega),if_neg (by omega),if_pos k4,if_neg (by omega),if_neg (by omega),if_neg (by omega),if_pos k4,oL,k4,Bool.eq_iff_iff];simp
 · have e:(decide (1<=o.kind) && decide (o.kind<=4))=false:=by simp;omega
   rw[if_neg k1,if_neg k2,if_neg k3,if_neg k4,e];simp only[Bool.not_false,Bool.true_or,if_neg k3,if_neg k4,Bool.and_false]
theorem AN (o:aZ):jL (plainO o)=jL o:=by
 unfold jL
 show(if o.kind=1 then decide (((plainO o).value.size:Int)<=64) else if o.kind=2 then true else if o.kind=3 then decide (((plainO o).value.size:Int)<=64) && decide (((plainO o).old.size:Int)<=64) else
  if o.kind=4 then decide (0<=(plainO o).version) && decide ((plainO o).version<=4096) else false)=_
 by_cases k1:o.kind=1
 · have e:(plainO o).value=o.value:=by unfold plainO;exact if_pos (Or.inl k1)
   rw[if_pos k1,if_pos k1,e]
 by_cases k2:o.kind=2
 · rw[if_neg k1,if_pos k2,if_neg k1,if_pos k2]
 by_cases k3:o.kind=3
 · have e:(plainO o).value=o.value:=by unfold plainO;exact if_pos (Or.inr k3)
   have e2:(plainO o).old=o.old:=by unfold plainO;exact if_pos k3
   rw[if_neg k1,if_neg k2,if_pos k3,if_neg k1,if_neg k2,if_pos k3,e,e2]
 by_cases k4:o.kind=4
 · have e:(plainO o).version=o.version:=by unfold plainO;exact if_pos k4
   rw[if_neg k1,if_neg k2,if_neg k3,if_pos k4,if_neg k1,if_neg k2,if_neg k3,if_pos k4,e]
 · rw[if_neg k1,if_neg k2,if_neg k3,if_neg k4,if_neg k1,if_neg k2,if_neg k3,if_neg k4]
theorem AO (K:ByteArray->Nat) (o:aZ):eM K (plainO o)=eM K o:=by unfold eM;rw[AN];rfl
theorem AM (o:aZ):fT (plainO o)=fT o:=by
 have h1:(if o.kind=3 then bN (plainO o).old else[])=(if o.kind=3 then bN o.old else[]):=by
  by_cases k:o.kind=3
  · have e:(plainO o).old=o.old:=by unfold plainO;exact if_pos k
    rw[e]
  · rw[if_neg k,if_neg k]
 have h2:(if o.kind=1\/o.kind=3 then bN (plainO o).value else[])=(if o.kind=1\/o.kind=3 then bN o.value else[]):=by
  by_cases k:o.kind=1\/o.kind=3
  · have e:(plainO o).value=o.value:=by unfold plainO;exact if_pos k
    rw[e]
  · rw[if_neg k,if_neg k]
 have h3:(if o.kind=4 then ao (plainO o).version.toNat else[])=(if o.kind=4 then ao o.version.toNat else[]):=by
  by_cases k:o.kind=4
  · have e:(plainO o).version=o.version:=by unfold plainO;exact if_pos k
    rw[e]
  · rw[if_neg k,if_neg k]
 show ao o.kind.toNat ++ bN o.key ++ (if o.kind=3 then bN (plainO o).old else[]) ++ (if o.kind=1\/o.kind=3 then bN (plainO o).value else[]) ++ (if o.kind=4 then ao (plainO o).version.toNat else[])=_;rw[h1,h2,h3];rfl
theorem AQ {o:aZ} (h:o.key.size<=300/\o.value.size<=300/\o.old.size<=300):(plainO o).key.size<=300/\(plainO o).value.size<=300/\(plainO o).old.size<=300:=by
 unfold plainO;refine⟨h.1,?_,?_⟩
 · show(if _ then _ else _:ByteArray).size<=_;split
   · exact h.2.1
   · exact Nat.zero_le _
 · show(if _ then _ else _:ByteArray).size<=_;split
   · exact h.2.2
   · exact Nat.zero_le _
theorem AR (l:List aZ):(l.map plainO).flatMap fT=l.flatMap fT:=by
 induction l with
 | nil=>rfl
 | cons o l ih=>rw[List.map_cons,List.flatMap_cons,List.flatMap_cons,AM,ih]
theorem AS (K:ByteArray->Nat) (l:List aZ):(l.map plainO).all (eM K)=l.all (eM K):=by
 induction l with
 | nil=>rfl
 | cons o l ih=>rw[List.map_cons,List.all_cons,List.all_cons,AO,ih]
theorem AU (K:ByteArray->Nat) (l:List aZ):(l.map plainO).any (dv K)= !(l.all (eM K)):=by
 induction l with
 | nil=>rfl
 | cons o l ih=>rw[List.map_cons,List.any_cons,List.all_cons,EZ,ih];simp
section
variable {e:aD} {K:ByteArray->Nat}
theorem qb (k:e.kind=1):aG e=ao 1 ++ (ao e.au.toNat ++ (ao e.bF.toNat ++ (ao e.seq.toNat ++ (ao e.ops.length ++ e.ops.flatMap fT)))):=by unfold aG jB jZ;rw[if_pos k,if_pos k,k];simp
theorem qf (k:e.kind=2):aG e=ao 2 ++ (ao e.au.toNat ++ ao e.server.toNat):=by unfold aG jB jZ;rw[if_neg (by omega),if_pos k,if_neg (by omega),if_neg (by omega),if_neg (by omega),k];simp
theorem qg (k:e.kind=3):aG e=ao 3 ++ (ao e.au.toNat ++ (ao e.other.toNat ++ (ao e.server.toNat ++ bN e.key))):=by unfold aG jB jZ;rw[if_neg (by omega),if_neg (by omega),if_pos k,if_neg (by omega),if_pos k,k];simp
theorem ng (k:e.kind=4):aG e=ao 4 ++ (ao e.au.toNat ++ ao e.other.toNat):=by unfold aG jB jZ;rw[if_neg (by omega),if_neg (by omega),if_neg (by omega),if_pos k,if_neg (by omega),if_neg (by omega),if_neg (by omega),k];simp
theorem qh (k:e.kind=5):aG e=ao 5 ++ (ao e.au.toNat ++ (ao e.upto.toNat ++ (ao e.parts.toNat ++ (ao e.part.toNat ++ (ao e.data.length ++ e.data))))):=by unfold aG jB jZ;rw[if_neg (by omega),if_neg (by omega),if_neg (by omega),if_neg (by omega),if_pos k,if_neg (by omega),if_neg (by omega),if_pos k,k];simp
theorem mf (k:e.kind=1):aS K e=(jC e && e.ops.all (eM K)):=if_pos k
theorem mg (k:e.kind=2):aS K e=(cm e.au 12 && cm e.server 4):=by unfold aS;rw[if_neg (by omega),if_pos k]
theorem mh (k:e.kind=3):aS K e=(gI e && (cm e.server 4 && decide (K e.key=0))):=by unfold aS;rw[if_neg (by omega),if_neg (by omega),if_pos k]
theorem kM (k:e.kind=4):aS K e=gI e:=by unfold aS;rw[if_neg (by omega),if_neg (by omega),if_neg (by omega),if_pos k]
theorem mj (k:e.kind=5):aS K e=jQ e:=by unfold aS;rw[if_neg (by omega),if_neg (by omega),if_neg (by omega),if_neg (by omega),if_pos k]
theorem BZ (h1:¬e.kind=1) (h2:¬e.kind=2) (h3:¬e.kind=3) (h4:¬e.kind=4) (h5:¬e.kind=5):aS K e=false:=by unfold aS;rw[if_neg h1,if_neg h2,if_neg h3,if_neg h4,if_neg h5]
theorem rl (h:aS K e=true):e.kind=1\/e.kind=2\/e.kind=3\/e.kind=4\/e.kind=5:=by
 unfold aS at h
 repeat' split at h
 all_goals first|(left;assumption)|(right;left;assumption)|(right;right;left;assumption)|(right;right;right;left;assumption)|(right;right;right;right;assumption)|cases h
end
theorem rP {K:ByteArray->Nat} {o:aZ} (h:eM K o=true):1<=o.kind/\o.kind<=4/\(o.kind=1\/o.kind=3->o.value.size<=64)/\(o.kind=3->o.old.size<=64)/\(o.kind=4->0<=o.version/\o.version<=4096):=by
 unfold eM at h;rw[Bool.and_eq_true]at h;have h2:=h.2;unfold jL at h2;by_cases k1:o.kind=1
 · rw[if_pos k1]at h2;simp at h2;exact⟨by omega,by omega,λ_=>by omega,λh=>by omega,λh=>by omega⟩
 by_cases k2:o.kind=2
 · exact⟨by omega,by omega,λh=>by omega,λh=>by omega,λh=>by omega⟩
 by_cases k3:o.kind=3
 · rw[if_neg k1,if_neg k2,if_pos k3]at h2;simp at h2;exact⟨by omega,by omega,λ_=>by omega,λ_=>by omega,λh=>by omega⟩
 by_cases k4:o.kind=4
 · rw[if_neg k1,if_neg k2,if_neg k3,if_pos k4]at h2;simp at h2;exact⟨by omega,by omega,λh=>by omega,λh=>by omega,λ_=>by omega⟩
 · rw[if_neg k1,if_neg k2,if_neg k3,if_neg k4]at h2;cases h2
def bO (K:ByteArray->Nat) (e:aD):List UInt8 × Nat:=if aS K e then(if 1848 < (aG e).length then([],3) else(aG e,0)) else([],4)
end Go.Proofs.YtdilnodbfnlhdaaGreatDoor
namespace Go.Proofs.YtdilnodbfnlhdaaGreatDoor
open Go.RowKit Tide
theorem iu (k:Int) (w:World):Calls Tryz.prog 162 #[.int .i64 k] w λe w'=>e= .returned (.tuple #[.bool (decide (k=3)),.bool (decide (k=1\/k=3)),.bool (decide (k=4))])/\w=w':=by
 by_cases h1:k=1
 · subst h1
   go_enter Tryz.func162,Tryz.ntmps162
   go_wp2_with fail
   go_ret3
   exact⟨rfl,rfl⟩
 by_cases h3:k=3
 · subst h3
   go_enter Tryz.func162,Tryz.ntmps162
   go_wp2_with fail
   go_ret3
   exact⟨rfl,rfl⟩
 by_cases h4:k=4
 · subst h4
   go_enter Tryz.func162,Tryz.ntmps162
   go_wp2_with fail
   go_ret3
   exact⟨rfl,rfl⟩
 have HF:=ab (show(decide (k=3),decide (k=1\/k=3),decide (k=4))=(false,false,false) by rw[decide_eq_false h3,decide_eq_false h4,decide_eq_false (by omega)]);have q1:(k == 1)=false:=by simp[h1]
 have q3:(k == 3)=false:=by simp[h3]
 have q4:(k == 4)=false:=by simp[h4]
 go_enter Tryz.func162,Tryz.ntmps162
 go_wp2_with fail
 go_ret3
 have e1:=(Prod.mk.inj HF.out).1;have e2:=(Prod.mk.inj (Prod.mk.inj HF.out).2).1;have e3:=(Prod.mk.inj (Prod.mk.inj HF.out).2).2;exact⟨by rw[e1,e2,e3]<;>rfl,rfl⟩
def aW (n lo hi:Int):Bool:=decide (lo<=n) && decide (n<=hi)
theorem fb (n lo hi:Int) (w:World):Calls Tryz.prog 232 #[.int .i64 n,.int .i64 lo,.int .i64 hi] w λe w'=>e= .returned (.bool (aW n lo hi))/\w=w':=by
 have HU:=ab (show aW n lo hi=(decide (lo<=n) && decide (n<=hi)) from rfl);by_cases h1:lo<=n
 · by_cases h2:n<=hi
   · have hb:=ab (show aW n lo hi=true by rw[HU.out,decide_eq_true h1,decide_eq_true h2];rfl)
     go_enter Tryz.func232,Tryz.ntmps232
     go_wp2_with fail
     go_ret
     exact⟨by rw[hb.out];rfl,rfl⟩
   · have hb:=ab (show aW n lo hi=false by rw[HU.out,decide_eq_true h1,decide_eq_false h2];rfl)
     go_enter Tryz.func232,Tryz.ntmps232
     go_wp2_with fail
     go_ret
     exact⟨by rw[hb.out];rfl,rfl⟩
 · have hb:=ab (show aW n lo hi=false by rw[HU.out,decide_eq_false h1];rfl)
   go_enter Tryz.func232,Tryz.ntmps232
   go_wp2_with fail
   go_ret
   exact⟨by rw[hb.out];rfl,rfl⟩
def gu (x y:Int):Bool:=aW x 1 12 && (aW y 1 12 && !decide (x=y))
theorem pD (x y:Int) (w:World):Calls Tryz.prog 252 #[.int .i64 x,.int .i64 y] w λe w'=>e= .returned (.bool (gu x y))/\w=w':=by
 have HU:=ab (show gu x y=(aW x 1 12 && (aW y 1 12 && !decide (x=y))) from rfl);have C1:=ab (λw=>fb x 1 12 w);have C2:=ab (λw=>fb y 1 12 w);cases h1:aW x 1 12 with
 | false=>
   have hb:=ab (show gu x y=false by rw[HU.out,h1];rfl);rw[h1]at C1;clear h1 HU
   go_enter Tryz.func252,Tryz.ntmps252
   go_wp2_with fail
   refine(C1.out _).mono ?_;rintro e w1 ⟨rfl,rfl⟩
   go_wp2_with fail
   go_ret
   exact⟨by rw[hb.out];rfl,rfl⟩
 | true=>
   cases h2:aW y 1 12 with
   | false=>
     have hb:=ab (show gu x y=false by rw[HU.out,h1,h2];rfl);rw[h1]at C1;rw[h2]at C2;clear h1 h2 HU
     go_enter Tryz.func252,Tryz.ntmps252
     go_wp2_with fail
     refine(C1.out _).mono ?_;rintro e w1 ⟨rfl,rfl⟩
     go_wp2_with fail
     refine(C2.out _).mono ?_;rintro e w1 ⟨rfl,rfl⟩
     go_wp2_with fail
     go_ret
     exact⟨by rw[hb.out];rfl,rfl⟩
   | true=>
     rw[h1]at C1;rw[h2]at C2;rw[h1,h2]at HU;clear h1 h2;by_cases h3:x=y
     · subst h3;have hb:=ab (show gu x x=false by rw[HU.out];simp)
       go_enter Tryz.func252,Tryz.ntmps252
       go_wp2_with fail
       refine(C1.out _).mono ?_;rintro e w1 ⟨rfl,rfl⟩
       go_wp2_with fail
       refine(C2.out _).mono ?_;rintro e w1 ⟨rfl,rfl⟩
       go_wp2_with fail
       go_ret
       exact⟨by rw[hb.out];rfl,rfl⟩
     · have hb:=ab (show gu x y=true by rw[HU.out];simp[h3]);have q1:(x == y)=false:=by simp[h3]
       have q2:(x != y)=true:=by simp[h3]
       clear h3
       go_enter Tryz.func252,Tryz.ntmps252
       go_wp2_with fail
       refine(C1.out _).mono ?_;rintro e w1 ⟨rfl,rfl⟩
       go_wp2_with fail
       refine(C2.out _).mono ?_;rintro e w1 ⟨rfl,rfl⟩
       go_wp2_with fail
       go_ret
       exact⟨by rw[hb.out];rfl,rfl⟩
end Go.Proofs.YtdilnodbfnlhdaaGreatDoor
namespace Go.Proofs.YtdilnodbfnlhdaaGreatDoor
open Go.RowKit Tide
theorem qW:(Tryz.prog.info? 91).map (λi=>(i.zero,i.size,i.bytes))=some (some (.agg #[.int .i64 0,.string ⟨#[]⟩,.string ⟨#[]⟩,.string ⟨#[]⟩,.int .i64 0]),5,64):=by kernel_rfl
theorem kC (o:aZ):(bc o).length=5:=rfl
theorem rR (g:List aZ):(g.flatMap bc).length=g.length * 5:=by
 induction g with
 | nil=>rfl
 | cons o g ih=>rw[List.flatMap_cons,List.length_append,ih,kC,List.length_cons];omega
theorem nT:∀ (g:List aZ) (i j:Nat) (h:i < g.length),j < 5->(g.flatMap bc)[i * 5+j]? =(bc g[i])[j]?
 | [],_,_,h,_=>by simp at h
 | o :: g,0,j,_,hj=>by rw[List.flatMap_cons,List.getElem?_append_left (by rw[kC];omega)];simp
 | o :: g,i+1,j,h,hj=>by rw[List.flatMap_cons,List.getElem?_append_right (by rw[kC];omega),kC,show(i+1) * 5+j - 5=i * 5+j by omega];exact nT g i j (by simpa using h) hj
theorem kD (o:aZ):∀u ∈ bc o,u.oneCell'=true:=by intro u hu;simp only[bc,List.mem_cons,List.not_mem_nil,or_false]at hu;rcases hu with rfl|rfl|rfl|rfl|rfl<;>rfl
theorem lK {w:World} {n:Nat} {t:TypeId} {cs:List Value} (hn:n=w.heap.size):∀j u,cs[j]? =some u->(w.alloc (.cells cs.toArray t)).cell? ((⟨n,0,none⟩:Addr).add j)=some u:=by subst hn;intro j u hu;exact World.news_of_block (heap_alloc_new w _) j u (by simpa using hu)
theorem su {w:World} {base B:Nat} {e:TypeId} {v:Value} {g:List aZ} (h:w.ownsRow base e 5 v g.length (g.flatMap bc)) (hB:w.heap.size<=B) (hl:g.length<=9223372036854775807):bQ w B v 5 (g.map bc):=by
 refine⟨by rw[List.length_map];exact hl,?_⟩;rw[List.length_map];rcases Nat.eq_zero_or_pos g.length with h0|h0
 · have hg:g= []:=List.eq_nil_of_length_eq_zero h0;subst hg;rcases h.2 with⟨rfl,_⟩|⟨b,cap,cur,rfl,_⟩
   · exact⟨none,0,rfl,λh=>absurd rfl h⟩
   · exact⟨_,_,rfl,λh=>absurd rfl h⟩
 · obtain⟨b,cap,hv,_,hlt⟩:=h.form h0;subst hv;refine⟨_,_,rfl,λ_=>⟨b,0,rfl,Nat.lt_of_lt_of_le hlt hB,λi j e u he hu=> ?_⟩⟩;have hi:i < g.length:=by
    have:=(List.getElem?_eq_some_iff.1 he).1
    rwa[List.length_map]at this
   rw[List.getElem?_map,List.getElem?_eq_getElem hi,Option.map_some]at he;injection he with he;subst he;have hj:j < 5:=by
    have:=(List.getElem?_eq_some_iff.1 hu).1
    rwa[kC]at this
   have hc:=h.cells (g:=b) rfl (i * 5+j) u (by rw[nT g i j hi hj];exact hu);have ea:(⟨b,0,none⟩:Addr).add (i * 5+j)=⟨b,0+(i * 5+j),none⟩:=da b 0 (i * 5+j)
   rwa[ea]at hc
theorem AP (ops:List aZ) (vo:Value) (B:Nat) (w:World) (hr:bQ w B vo 5 (ops.map bc)) (hB:B<=w.heap.size) (hlen:ops.length<=1000):
 Calls Tryz.prog 163 #[vo] w λe w'=>∃u,e= .returned u/\bQ w' w'.heap.size u 5 ((ops.map plainO).map bc)/\Below w.heap.size w w':=by
 obtain⟨i0,hinf,hz0,hz1,hz2⟩:=info_parts qW;have HIn:=ab hinf;obtain⟨A,c,rfl,_,hcell⟩:=eV hr;have HC:=ab hcell;clear hr hcell hinf
 go_enter Tryz.func163,Tryz.ntmps163
 go_wp2_with fail
 go_loopw [3,12] (λu i wr=>∃k:Nat,i= .int .i64 k/\k<=ops.length/\Hid (wr.ownsRow w.heap.size 91 5 u k (((ops.take k).map plainO).flatMap bc))/\Below w.heap.size w wr) (λ_ i _=>ops.length - (intOf i).toNat)
 case atStart=>exact⟨0,rfl,Nat.zero_le _,ab ⟨rfl,.inl ⟨rfl,rfl⟩⟩,Below.refl _ _⟩
 case round=>
  obtain⟨k,rfl,hk,HO,hb⟩:=hrel;have HL:=ab hb;have hsz:=hb.size;clear hb;by_cases hlt:k < ops.length
  · obtain⟨b,o,rfl,hbl,d0,d1,d2,d3,d4⟩:=HC.out k hlt;have hbw:b < w.heap.size:=Nat.lt_of_lt_of_le hbl hB;have f0:=(HL.out.cell (p:=⟨b,o+k * 5,none⟩) hbw).trans d0;have f1:=(HL.out.cell (p:=⟨b,o+k * 5+1,none⟩) hbw).trans d1;have f2:=(HL.out.cell (p:=⟨b,o+k * 5+2,none⟩) hbw).trans d2;have f3:=(HL.out.cell (p:=⟨b,o+k * 5+3,none⟩) hbw).trans d3;have f4:=(HL.out.cell (p:=⟨b,o+k * 5+4,none⟩) hbw).trans d4;have HSN:=ab (show(((ops.take k).map plainO).flatMap bc) ++ bc (plainO ops[k])=(((ops.take (k+1)).map plainO).flatMap bc) by rw[List.take_succ_eq_append_getElem hlt,List.map_append,List.flatMap_append];simp);clear d0 d1 d2 d3 d4;generalize ops[k]=op at *;have hgl:((ops.take k).map plainO).length=k:=by simp;omega
    generalize (ops.take k).map plainO=g at *;have HGL:=ab hgl;clear hgl;obtain⟨okind,okey,oval,oold,over⟩:=op;simp only at f0 f1 f2 f3 f4;by_cases k1:okind=1
    · subst k1;have FA:=ab (show ∀w,Calls Tryz.prog 162 #[.int .i64 1] w λe w'=>e= .returned (.tuple #[.bool false,.bool true,.bool false])/\w=w' from λw=>iu 1 w);have HV:=ab (show bc (plainO ⟨1,okey,oval,oold,over⟩)= [.int .i64 1,.string okey,.string oval,.string ⟨#[]⟩,.int .i64 0]from rfl)
      go_wp2_with fail
      refine(FA.out _).mono ?_;rintro en w1 ⟨rfl,rfl⟩
      go_wp2_with (at_builtin;refine wpList_append_lies _ rfl (.tmp 40) (.tmp 42) _ rfl w.heap.size 91 i0 _ 5 64 Tryz.underlying37 HIn.out hz0 hz1 hz2 rfl (by omega) _ k (g.flatMap bc) rfl ?d0 _ 1 _ [.int .i64 1,.string okey,.string oval,.string ⟨#[]⟩,.int .i64 0] rfl rfl ?d2 ?d3 (by omega) ?d4 ?d5 ?d6 _ rfl ?_)
      case d0=>exact bp HO.out (by go_grown)
      case d2=>exact lK (by simp)
      case d3=>rw[<-HV.out];exact kD _
      case d4=>unfold maxLen;omega
      case d5=>omega
      case d6=>simp;omega
      intro gg cap w9 h1 h2 h3 h4;have hb9:Below w.heap.size w w9:=by
       refine Below.grown ?_ h2 ?_ (λq hq=>(HO.out.lt q hq).1)
       · have hbw:=HL.out
         go_grown
       · simp;omega
      rw[<-HV.out,HSN.out]at h1;have H1:=ab h1;have HB9:=ab hb9;clear h1 h2 h3 h4 hb9
      go_wp2_with fail
      go_roundw
      case rel=>exact⟨k+1,by go_num,by omega,H1,HB9.out⟩
      case measure=>simp[intOf];omega
    by_cases k3:okind=3
    · subst k3;have FA:=ab (show ∀w,Calls Tryz.prog 162 #[.int .i64 3] w λe w'=>e= .returned (.tuple #[.bool true,.bool true,.bool false])/\w=w' from λw=>iu 3 w);have HV:=ab (show bc (plainO ⟨3,okey,oval,oold,over⟩)= [.int .i64 3,.string okey,.string oval,.string oold,.int .i64 0]from rfl)
      go_wp2_with fail
      refine(FA.out _).mono ?_;rintro en w1 ⟨rfl,rfl⟩
      go_wp2_with (at_builtin;refine wpList_append_lies _ rfl (.tmp 40) (.tmp 42) _ rfl w.heap.size 91 i0 _ 5 64 Tryz.underlying37 HIn.out hz0 hz1 hz2 rfl (by omega) _ k (g.flatMap bc) rfl ?d0 _ 1 _ [.int .i64 3,.string okey,.string oval,.string oold,.int .i64 0] rfl rfl ?d2 ?d3 (by omega) ?d4 ?d5 ?d6 _ rfl ?_)
      case d0=>exact bp HO.out (by go_grown)
      case d2=>exact lK (by simp)
      case d3=>rw[<-HV.out];exact kD _
      case d4=>unfold maxLen;omega
      case d5=>omega
      case d6=>simp;omega
      intro gg cap w9 h1 h2 h3 h4;have hb9:Below w.heap.size w w9:=by
       refine Below.grown ?_ h2 ?_ (λq hq=>(HO.out.lt q hq).1)
       · have hbw:=HL.out
         go_grown
       · simp;omega
      rw[<-HV.out,HSN.out]at h1;have H1:=ab h1;have HB9:=ab hb9;clear h1 h2 h3 h4 hb9
      go_wp2_with fail
      go_roundw
      case rel=>exact⟨k+1,by go_num,by omega,H1,HB9.out⟩
      case measure=>simp[intOf];omega
    by_cases k4:okind=4
    · subst k4;have FA:=ab (show ∀w,Calls Tryz.prog 162 #[.int .i64 4] w λe w'=>e= .returned (.tuple #[.bool false,.bool false,.bool true])/\w=w' from λw=>iu 4 w);have HV:=ab (show bc (plainO ⟨4,okey,oval,oold,over⟩)= [.int .i64 4,.string okey,.string ⟨#[]⟩,.string ⟨#[]⟩,.int .i64 over]from rfl)
      go_wp2_with fail
      refine(FA.out _).mono ?_;rintro en w1 ⟨rfl,rfl⟩
      go_wp2_with (at_builtin;refine wpList_append_lies _ rfl (.tmp 40) (.tmp 42) _ rfl w.heap.size 91 i0 _ 5 64 Tryz.underlying37 HIn.out hz0 hz1 hz2 rfl (by omega) _ k (g.flatMap bc) rfl ?d0 _ 1 _ [.int .i64 4,.string okey,.string ⟨#[]⟩,.string ⟨#[]⟩,.int .i64 over] rfl rfl ?d2 ?d3 (by omega) ?d4 ?d5 ?d6 _ rfl ?_)
      case d0=>exact bp HO.out (by go_grown)
      case d2=>exact lK (by simp)
      case d3=>rw[<-HV.out];exact kD _
      case d4=>unfold maxLen;omega
      case d5=>omega
      case d6=>simp;omega
      intro gg cap w9 h1 h2 h3 h4;have hb9:Below w.heap.size w w9:=by
       refine Below.grown ?_ h2 ?_ (λq hq=>(HO.out.lt q hq).1)
       · have hbw:=HL.out
         go_grown
       · simp;omega
      rw[<-HV.out,HSN.out]at h1;have H1:=ab h1;have HB9:=ab hb9;clear h1 h2 h3 h4 hb9
      go_wp2_with fail
      go_roundw
      case rel=>exact⟨k+1,by go_num,by omega,H1,HB9.out⟩
      case measure=>simp[intOf];omega
    · have FA:=ab (show ∀w,Calls Tryz.prog 162 #[.int .i64 okind] w λe w'=>e= .returned (.tuple #[.bool false,.bool false,.bool false])/\w=w' from λw=>by have h:=iu okind w;rw[decide_eq_false k3,decide_eq_false k4,decide_eq_false (by omega)]at h;exact h);have HV:=ab (show bc (plainO ⟨okind,okey,oval,oold,over⟩)= [.int .i64 okind,.string okey,.string ⟨#[]⟩,.string ⟨#[]⟩,.int .i64 0] by unfold bc plainO;simp[k1,k3,k4]);clear k1 k3 k4
      go_wp2_with fail
      refine(FA.out _).mono ?_;rintro en w1 ⟨rfl,rfl⟩
      go_wp2_with (at_builtin;refine wpList_append_lies _ rfl (.tmp 40) (.tmp 42) _ rfl w.heap.size 91 i0 _ 5 64 Tryz.underlying37 HIn.out hz0 hz1 hz2 rfl (by omega) _ k (g.flatMap bc) rfl ?d0 _ 1 _ [.int .i64 okind,.string okey,.string ⟨#[]⟩,.string ⟨#[]⟩,.int .i64 0] rfl rfl ?d2 ?d3 (by omega) ?d4 ?d5 ?d6 _ rfl ?_)
      case d0=>exact bp HO.out (by go_grown)
      case d2=>exact lK (by simp)
      case d3=>rw[<-HV.out];exact kD _
      case d4=>unfold maxLen;omega
      case d5=>omega
      case d6=>simp;omega
      intro gg cap w9 h1 h2 h3 h4;have hb9:Below w.heap.size w w9:=by
       refine Below.grown ?_ h2 ?_ (λq hq=>(HO.out.lt q hq).1)
       · have hbw:=HL.out
         go_grown
       · simp;omega
      rw[<-HV.out,HSN.out]at h1;have H1:=ab h1;have HB9:=ab hb9;clear h1 h2 h3 h4 hb9
      go_wp2_with fail
      go_roundw
      case rel=>exact⟨k+1,by go_num,by omega,H1,HB9.out⟩
      case measure=>simp[intOf];omega
  · have hall:=ab (show bQ wr wr.heap.size _ 5 ((ops.map plainO).map bc) from by have h9:=HO.out;rw[List.take_of_length_le (by omega),show k=(ops.map plainO).length by simp;omega]at h9;exact su h9 (Nat.le_refl _) (by simp;omega))
    go_wp2_with fail
    go_ret
    exact⟨_,rfl,hall.out,HL.out⟩
end Go.Proofs.YtdilnodbfnlhdaaGreatDoor
namespace Go.Proofs.YtdilnodbfnlhdaaGreatDoor
open Go.RowKit Tide
structure iJ (a:Nat->Addr) (T:World->Prop) (K:ByteArray->Nat):Prop where
 ky:∀W W',T W->Below W.heap.size W W'->T W'
 key:∀ (W:World) s,s.size<=300->T W->ar W a->Calls Tryz.prog 236 #[.string s] W λen w'=>∃x,en= .returned x/\bf a x (K s)/\Below W.heap.size W w'
section
variable {a:Nat->Addr} {T:World->Prop} {K:ByteArray->Nat}
theorem iJ.ok (hK:iJ a T K) {W:World} {s:ByteArray} (hs:s.size<=300) (hT:T W) (hE:ar W a) (h:K s=0):Calls Tryz.prog 236 #[.string s] W λen w'=>en= .returned .nilIface/\Below W.heap.size W w':=
 (hK.key W s hs hT hE).mono λen w' ⟨x,he,hx,hb⟩=>by
   rcases hx with⟨_,rfl⟩|⟨m,_,h0,_⟩
   · exact⟨he,hb⟩
   · omega
theorem iJ.bad (hK:iJ a T K) {W:World} {s:ByteArray} (hs:s.size<=300) (hT:T W) (hE:ar W a) (h:¬K s=0):Calls Tryz.prog 236 #[.string s] W λen w'=>(∃b,en= .returned (ai b))/\Below W.heap.size W w':=
 (hK.key W s hs hT hE).mono λen w' ⟨x,he,hx,hb⟩=>by
   rcases hx with⟨h0,_⟩|⟨m,_,_,rfl⟩
   · exact absurd h0 h
   · exact⟨⟨_,he⟩,hb⟩
structure dI (a:Nat->Addr) (T:World->Prop) (K:ByteArray->Nat) (w:World):Prop where
 spec:iJ a T K
 kR:T w
 bq:ar w a
theorem dI.below {w w':World} (h:dI a T K w) (hb:Below w.heap.size w w'):dI a T K w':=⟨h.spec,h.spec.ky _ _ h.kR hb,h.bq.below hb⟩
end
theorem rO (w:World) (k v:Int) (key val old:ByteArray):∀w3,Below (w.heap.size+1) (w.alloc (.cells #[.int .i64 k,.string key,.string val,.string old,.int .i64 v] 91)) w3->
 w3.cell? ⟨w.heap.size,0,none⟩=some (.int .i64 k)/\w3.cell? ⟨w.heap.size,1,none⟩=some (.string key)/\w3.cell? ⟨w.heap.size,2,none⟩=some (.string val)/\w3.cell? ⟨w.heap.size,3,none⟩=some (.string old)/\w3.cell? ⟨w.heap.size,4,none⟩=some (.int .i64 v):=by
 intro w3 hb;have hc:∀j u,(#[Value.int .i64 k,.string key,.string val,.string old,.int .i64 v])[j]? =some u->w3.cell? ⟨w.heap.size,j,none⟩=some u:=λj u hv=>by rw[hb.cell (p:=⟨w.heap.size,j,none⟩) (by simp),cell_of_row _ _ j _ _ _ (heap_alloc_new w _),hv]
 exact⟨hc 0 _ rfl,hc 1 _ rfl,hc 2 _ rfl,hc 3 _ rfl,hc 4 _ rfl⟩
theorem EY (a:Nat->Addr) (T:World->Prop) (K:ByteArray->Nat) (o:aZ) (w:World) (hL:dI a T K w) (hs:o.key.size<=300):
 Calls Tryz.prog 234 #[.agg #[.int .i64 o.kind,.string o.key,.string o.value,.string o.old,.int .i64 o.version]] w λe w'=>e= .returned (.bool (dv K o))/\Below w.heap.size w w':=by
 have HW:=ab (show dv K o=(!(decide (1<=o.kind) && decide (o.kind<=4)) || (!decide (K o.key=0) || (decide ((64:Int) < (o.old.size:Int)) || (decide ((64:Int) < (o.value.size:Int)) || !(decide (0<=o.version) && decide (o.version<=4096)))))) from rfl);obtain⟨kind,key,value,old,version⟩:=o;simp only at HW hs ⊢;obtain⟨w1,hw1⟩:∃w1,w1=w.alloc (.cells #[.int .i64 kind,.string key,.string value,.string old,.int .i64 version] 91):=⟨_,rfl⟩;have hb0:Below w.heap.size w w1:=by rw[hw1];exact(Below.refl _ _).alloc (Nat.le_refl _) _
 have h1s:w1.heap.size=w.heap.size+1:=by rw[hw1];simp
 have HC:=ab (show ∀w3,Below (w.heap.size+1) w1 w3->_ from λw3 h=>rO w kind version key value old w3 (hw1 ▸ h));have L1:=ab (hL.below hb0);have CKo:=ab (λ(h:K key=0)=>L1.out.spec.ok hs L1.out.kR L1.out.bq h);have CKb:=ab (λ(h:¬K key=0)=>L1.out.spec.bad hs L1.out.kR L1.out.bq h);have HB0:=ab hb0;have H1S:=ab h1s;have CW1:=ab (show ∀w,Calls Tryz.prog 232 #[.int .i64 kind,.int .i64 1,.int .i64 4] w λe w'=>e= .returned (.bool (decide (1<=kind) && decide (kind<=4)))/\w=w' from λw=>fb kind 1 4 w);have CW2:=ab (show ∀w,Calls Tryz.prog 232 #[.int .i64 version,.int .i64 0,.int .i64 4096] w λe w'=>e= .returned (.bool (decide (0<=version) && decide (version<=4096)))/\w=w' from λw=>fb version 0 4096 w);clear hL hb0 h1s;generalize (decide (1<=kind) && decide (kind<=4))=b1 at HW CW1;generalize (decide (0<=version) && decide (version<=4096))=b5 at HW CW2;cases b1 with
 | false=>
   have HR:=ab (show dv K ⟨kind,key,value,old,version⟩=true by rw[HW.out];simp[]);clear HW
   go_enter Tryz.func234,Tryz.ntmps234
   go_wp2_with fail
   refine(CW1.out _).mono ?_;rintro en wz ⟨rfl,rfl⟩
   go_wp2_with fail
   go_ret
   exact⟨by rw[HR.out]<;>rfl,by rw[hw1]at HB0;exact HB0.out⟩
 | true=>
   by_cases hk:K key=0
   · by_cases ho:64 < old.size
     · have q1:decide ((64:Int) < (old.size:Int))=true:=decide_eq_true (by omega);have HR:=ab (show dv K ⟨kind,key,value,old,version⟩=true by rw[HW.out];simp[hk,q1]);clear HW
       go_enter Tryz.func234,Tryz.ntmps234
       go_wp2_with fail
       refine(CW1.out _).mono ?_;rintro en wz ⟨rfl,rfl⟩
       go_wp2_with fail
       rw[<-hw1];refine(CKo.out hk).mono ?_;rintro en w2 ⟨rfl,hb⟩;have HB2:=ab hb;obtain⟨c0,c1,c2,c3,c4⟩:=HC.out w2 (H1S.out ▸ hb);clear hb
       go_wp2_with fail
       go_ret
       exact⟨by rw[HR.out]<;>rfl,HB0.out.trans (HB2.out.mono (by rw[H1S.out];omega))⟩
     · have q1:decide ((64:Int) < (old.size:Int))=false:=decide_eq_false (by omega);by_cases hv:64 < value.size
       · have q2:decide ((64:Int) < (value.size:Int))=true:=decide_eq_true (by omega);have HR:=ab (show dv K ⟨kind,key,value,old,version⟩=true by rw[HW.out];simp[hk,q1,q2]);clear HW
         go_enter Tryz.func234,Tryz.ntmps234
         go_wp2_with fail
         refine(CW1.out _).mono ?_;rintro en wz ⟨rfl,rfl⟩
         go_wp2_with fail
         rw[<-hw1];refine(CKo.out hk).mono ?_;rintro en w2 ⟨rfl,hb⟩;have HB2:=ab hb;obtain⟨c0,c1,c2,c3,c4⟩:=HC.out w2 (H1S.out ▸ hb);clear hb
         go_wp2_with fail
         go_ret
         exact⟨by rw[HR.out]<;>rfl,HB0.out.trans (HB2.out.mono (by rw[H1S.out];omega))⟩
       · have q2:decide ((64:Int) < (value.size:Int))=false:=decide_eq_false (by omega);cases b5 with
         | false=>
           have HR:=ab (show dv K ⟨kind,key,value,old,version⟩=true by rw[HW.out];simp[hk,q1,q2]);clear HW
           go_enter Tryz.func234,Tryz.ntmps234
           go_wp2_with fail
           refine(CW1.out _).mono ?_;rintro en wz ⟨rfl,rfl⟩
           go_wp2_with fail
           rw[<-hw1];refine(CKo.out hk).mono ?_;rintro en w2 ⟨rfl,hb⟩;have HB2:=ab hb;obtain⟨c0,c1,c2,c3,c4⟩:=HC.out w2 (H1S.out ▸ hb);clear hb
           go_wp2_with fail
           refine(CW2.out _).mono ?_;rintro en wz ⟨rfl,rfl⟩
           go_wp2_with fail
           go_ret
           exact⟨by rw[HR.out]<;>rfl,HB0.out.trans (HB2.out.mono (by rw[H1S.out];omega))⟩
         | true=>
           have HR:=ab (show dv K ⟨kind,key,value,old,version⟩=false by rw[HW.out];simp[hk,q1,q2]);clear HW
           go_enter Tryz.func234,Tryz.ntmps234
           go_wp2_with fail
           refine(CW1.out _).mono ?_;rintro en wz ⟨rfl,rfl⟩
           go_wp2_with fail
           rw[<-hw1];refine(CKo.out hk).mono ?_;rintro en w2 ⟨rfl,hb⟩;have HB2:=ab hb;obtain⟨c0,c1,c2,c3,c4⟩:=HC.out w2 (H1S.out ▸ hb);clear hb
           go_wp2_with fail
           refine(CW2.out _).mono ?_;rintro en wz ⟨rfl,rfl⟩
           go_wp2_with fail
           go_ret
           exact⟨by rw[HR.out]<;>rfl,HB0.out.trans (HB2.out.mono (by rw[H1S.out];omega))⟩
   · have HR:=ab (show dv K ⟨kind,key,value,old,version⟩=true by rw[HW.out];simp[hk]);clear HW
     go_enter Tryz.func234,Tryz.ntmps234
     go_wp2_with fail
     refine(CW1.out _).mono ?_;rintro en wz ⟨rfl,rfl⟩
     go_wp2_with fail
     rw[<-hw1];refine(CKb.out hk).mono ?_;rintro en w2 ⟨⟨bb,rfl⟩,hb⟩;have HB2:=ab hb;clear hb
     go_wp2_with fail
     go_ret
     exact⟨by rw[HR.out]<;>rfl,HB0.out.trans (HB2.out.mono (by rw[H1S.out];omega))⟩
end Go.Proofs.YtdilnodbfnlhdaaGreatDoor
namespace Go.Proofs.YtdilnodbfnlhdaaGreatDoor
open Go.RowKit Tide
theorem AT {l:List aZ} (h:∀o ∈ l,o.key.size<=300) (k:Nat) (hk:k < l.length):l[k].key.size<=300:=h _ (List.getElem_mem hk)
theorem uO (f:aZ->Bool) (l:List aZ) (k:Nat) (hk:k < l.length) (h0:(l.take k).any f=false) (h1:f l[k]=false):(l.take (k+1)).any f=false:=by rw[List.take_succ_eq_append_getElem hk,List.any_append,h0];simp[h1]
theorem uN (f:aZ->Bool) (l:List aZ) (k:Nat) (hk:k < l.length) (h1:f l[k]=true):l.any f=true:=List.any_eq_true.2 ⟨_,List.getElem_mem hk,h1⟩
theorem wu (a:Nat->Addr) (T:World->Prop) (K:ByteArray->Nat) (ops:List aZ) (vo:Value) (B:Nat) (w:World) (hr:bQ w B vo 5 (ops.map bc)) (hB:B<=w.heap.size) (hL:dI a T K w) (hs:∀o ∈ ops,o.key.size<=300):
 Calls Tryz.prog 235 #[vo,.func (.func 234) #[] #[]] w λe w'=>∃i:Int,e= .returned (.int .i64 i)/\decide (0<=i)=ops.any (dv K)/\Below w.heap.size w w':=by
 obtain⟨A,c,rfl,_,hcell⟩:=eV hr;have HC:=ab hcell;have HLI:=ab hL;have HS:=ab hs;clear hr hcell hL hs
 go_enter Tryz.func235,Tryz.ntmps235
 go_wp2_with fail
 go_loopw [8] (λi wr=>∃k:Nat,i= .int .i64 k/\k<=ops.length/\Hid ((ops.take k).any (dv K)=false)/\Below w.heap.size w wr) (λi _=>ops.length - (intOf i).toNat)
 case atStart=>exact⟨0,rfl,Nat.zero_le _,ab rfl,Below.refl _ _⟩
 case round=>
  obtain⟨k,rfl,hk,HA,hb⟩:=hrel;have HL:=ab hb;have hsz:=hb.size;have LR:=ab (HLI.out.below hb);clear hb;by_cases hlt:k < ops.length
  · obtain⟨b,o,rfl,hbl,d0,d1,d2,d3,d4⟩:=HC.out k hlt;have hbw:b < w.heap.size:=Nat.lt_of_lt_of_le hbl hB;have f0:=(HL.out.cell (p:=⟨b,o+k * 5,none⟩) hbw).trans d0;have f1:=(HL.out.cell (p:=⟨b,o+k * 5+1,none⟩) hbw).trans d1;have f2:=(HL.out.cell (p:=⟨b,o+k * 5+2,none⟩) hbw).trans d2;have f3:=(HL.out.cell (p:=⟨b,o+k * 5+3,none⟩) hbw).trans d3;have f4:=(HL.out.cell (p:=⟨b,o+k * 5+4,none⟩) hbw).trans d4;clear d0 d1 d2 d3 d4;have CW:=ab (EY a T K ops[k] wr LR.out (AT HS.out k hlt));have HN:=ab (uO (dv K) ops k hlt HA.out);have HY:=ab (uN (dv K) ops k hlt);generalize ops[k]=op at *;generalize dv K op=bw at *;cases bw with
    | false=>
      have HN2:=ab (HN.out rfl);clear HN HY HA
      go_wp2_with fail
      refine CW.out.mono ?_;rintro en w1 ⟨rfl,hb⟩;have HB1:=ab (HL.out.trans (hb.mono hsz));clear hb
      go_wp2_with fail
      go_roundw
      case rel=>exact⟨k+1,by go_num,by omega,HN2,HB1.out⟩
      case measure=>simp[intOf];omega
    | true=>
      have HY2:=ab (HY.out rfl);clear HN HY HA
      go_wp2_with fail
      refine CW.out.mono ?_;rintro en w1 ⟨rfl,hb⟩;have HB1:=ab (HL.out.trans (hb.mono hsz));clear hb
      go_wp2_with fail
      go_ret
      exact⟨k,rfl,by rw[HY2.out];exact decide_eq_true (by omega),HB1.out⟩
  · have hall:=ab (show ops.any (dv K)=false by
     have h:=HA.out
     rwa[List.take_of_length_le (by omega)]at h)
    clear HA
    go_wp2_with fail
    go_ret
    exact⟨-1,rfl,by rw[hall.out];rfl,HL.out⟩
theorem wo (a:Nat->Addr) (T:World->Prop) (K:ByteArray->Nat) (ops:List aZ) (vo:Value) (B:Nat) (w:World) (hr:bQ w B vo 5 (ops.map bc)) (hB:B<=w.heap.size) (hL:dI a T K w) (hs:∀o ∈ ops,o.key.size<=300):
 Calls Tryz.prog 233 #[vo,.func (.func 234) #[] #[]] w λe w'=>e= .returned (.bool (ops.any (dv K)))/\Below w.heap.size w w':=by
 have CI:=ab (wu a T K ops vo B w hr hB hL hs);clear hr hL hs;generalize ops.any (dv K)=b at *
 go_enter Tryz.func233,Tryz.ntmps233
 go_wp2_with fail
 refine CI.out.mono ?_;rintro en w1 ⟨i,rfl,hi,hb⟩;have HB:=ab hb;have HI:=ab hi;clear hb hi
 go_wp2_with fail
 go_ret
 exact⟨by rw[<-HI.out]<;>rfl,HB.out⟩
end Go.Proofs.YtdilnodbfnlhdaaGreatDoor
namespace Go.Proofs.YtdilnodbfnlhdaaGreatDoor
open Go.RowKit Tide
theorem zi (sh sv:Int) (w:World):
 Calls Tryz.prog 244 #[.agg #[.int .i64 sh,.int .i64 sv]] w λe w'=>e= .returned (.bool (aW sh 1 12 && aW sv 1 4))/\Below w.heap.size w w':=by
 have HB0:=ab (show Below w.heap.size w (w.alloc (.cells #[.int .i64 sh,.int .i64 sv] 262)) from(Below.refl _ _).alloc (Nat.le_refl _) _);obtain⟨b1,hb1⟩:∃b,aW sh 1 12=b:=⟨_,rfl⟩;have C1:=ab (λw=>fb sh 1 12 w);rw[hb1]at C1;obtain⟨b2,hb2⟩:∃b,aW sv 1 4=b:=⟨_,rfl⟩;have C2:=ab (λw=>fb sv 1 4 w);rw[hb2]at C2;rw[hb1,hb2];clear hb1 hb2;cases b1 with
 | false=>
   go_enter Tryz.func244,Tryz.ntmps244
   go_wp2_with fail
   refine(C1.out _).mono ?_;rintro en wz ⟨rfl,rfl⟩
   go_wp2_with fail
   go_ret
   exact⟨rfl,HB0.out⟩
 | true=>
   cases b2 with
   | false=>
     go_enter Tryz.func244,Tryz.ntmps244
     go_wp2_with fail
     refine(C1.out _).mono ?_;rintro en wz ⟨rfl,rfl⟩
     go_wp2_with fail
     refine(C2.out _).mono ?_;rintro en wz ⟨rfl,rfl⟩
     go_wp2_with fail
     go_ret
     exact⟨rfl,HB0.out⟩
   | true=>
     go_enter Tryz.func244,Tryz.ntmps244
     go_wp2_with fail
     refine(C1.out _).mono ?_;rintro en wz ⟨rfl,rfl⟩
     go_wp2_with fail
     refine(C2.out _).mono ?_;rintro en wz ⟨rfl,rfl⟩
     go_wp2_with fail
     go_ret
     exact⟨rfl,HB0.out⟩
theorem zc (sh ot:Int) (w:World):
 Calls Tryz.prog 256 #[.agg #[.int .i64 sh,.int .i64 ot]] w λe w'=>e= .returned (.bool (gu sh ot))/\Below w.heap.size w w':=by
 have HB0:=ab (show Below w.heap.size w (w.alloc (.cells #[.int .i64 sh,.int .i64 ot] 266)) from(Below.refl _ _).alloc (Nat.le_refl _) _);have C1:=ab (λw=>pD sh ot w);generalize gu sh ot=b1 at *;cases b1 with
 | false=>
   go_enter Tryz.func256,Tryz.ntmps256
   go_wp2_with fail
   refine(C1.out _).mono ?_;rintro en wz ⟨rfl,rfl⟩
   go_wp2_with fail
   go_ret
   exact⟨rfl,HB0.out⟩
 | true=>
   go_enter Tryz.func256,Tryz.ntmps256
   go_wp2_with fail
   refine(C1.out _).mono ?_;rintro en wz ⟨rfl,rfl⟩
   go_wp2_with fail
   go_ret
   exact⟨rfl,HB0.out⟩
theorem EU (a:Nat->Addr) (T:World->Prop) (K:ByteArray->Nat) (sh cl sq:Int) (ops:List aZ) (vo:Value) (B:Nat) (w:World) (hr:bQ w B vo 5 (ops.map bc)) (hB:B<=w.heap.size) (hs:∀o ∈ ops,o.key.size<=300) (hL:dI a T K w):
 Calls Tryz.prog 227 #[.agg #[.int .i64 sh,.int .i64 cl,.int .i64 sq,vo]] w λe w'=>e= .returned (.bool (aW sh 1 12 && (aW cl 1 4 && (aW sq 1 1073741824 && (aW ops.length 1 8 && !(ops.any (dv K)))))))/\Below w.heap.size w w':=by
 obtain⟨A,c,rfl,_,_⟩:=eV hr;have HB0:=ab (show Below w.heap.size w (w.alloc (.cells #[.int .i64 sh,.int .i64 cl,.int .i64 sq,.slice A ops.length c] 260)) from(Below.refl _ _).alloc (Nat.le_refl _) _);have CF:=ab (wo a T K ops _ B _ (hr.below (HB0.out.mono hB)) (Nat.le_trans hB HB0.out.size) (hL.below HB0.out) hs);clear hL hr hs;obtain⟨b1,hb1⟩:∃b,aW sh 1 12=b:=⟨_,rfl⟩;have C1:=ab (λw=>fb sh 1 12 w);rw[hb1]at C1;obtain⟨b2,hb2⟩:∃b,aW cl 1 4=b:=⟨_,rfl⟩;have C2:=ab (λw=>fb cl 1 4 w);rw[hb2]at C2;obtain⟨b3,hb3⟩:∃b,aW sq 1 1073741824=b:=⟨_,rfl⟩;have C3:=ab (λw=>fb sq 1 1073741824 w);rw[hb3]at C3;obtain⟨b4,hb4⟩:∃b,aW ops.length 1 8=b:=⟨_,rfl⟩;have C4:=ab (λw=>fb ops.length 1 8 w);rw[hb4]at C4;rw[hb1,hb2,hb3,hb4];clear hb1 hb2 hb3 hb4;generalize ops.any (dv K)=b5 at *;cases b1 with
 | false=>
   go_enter Tryz.func227,Tryz.ntmps227
   go_wp2_with fail
   refine(C1.out _).mono ?_;rintro en wz ⟨rfl,rfl⟩
   go_wp2_with fail
   go_ret
   exact⟨rfl,HB0.out⟩
 | true=>
   cases b2 with
   | false=>
     go_enter Tryz.func227,Tryz.ntmps227
     go_wp2_with fail
     refine(C1.out _).mono ?_;rintro en wz ⟨rfl,rfl⟩
     go_wp2_with fail
     refine(C2.out _).mono ?_;rintro en wz ⟨rfl,rfl⟩
     go_wp2_with fail
     go_ret
     exact⟨rfl,HB0.out⟩
   | true=>
     cases b3 with
     | false=>
       go_enter Tryz.func227,Tryz.ntmps227
       go_wp2_with fail
       refine(C1.out _).mono ?_;rintro en wz ⟨rfl,rfl⟩
       go_wp2_with fail
       refine(C2.out _).mono ?_;rintro en wz ⟨rfl,rfl⟩
       go_wp2_with fail
       refine(C3.out _).mono ?_;rintro en wz ⟨rfl,rfl⟩
       go_wp2_with fail
       go_ret
       exact⟨rfl,HB0.out⟩
     | true=>
       cases b4 with
       | false=>
         go_enter Tryz.func227,Tryz.ntmps227
         go_wp2_with fail
         refine(C1.out _).mono ?_;rintro en wz ⟨rfl,rfl⟩
         go_wp2_with fail
         refine(C2.out _).mono ?_;rintro en wz ⟨rfl,rfl⟩
         go_wp2_with fail
         refine(C3.out _).mono ?_;rintro en wz ⟨rfl,rfl⟩
         go_wp2_with fail
         refine(C4.out _).mono ?_;rintro en wz ⟨rfl,rfl⟩
         go_wp2_with fail
         go_ret
         exact⟨rfl,HB0.out⟩
       | true=>
         cases b5 with
         | false=>
           go_enter Tryz.func227,Tryz.ntmps227
           go_wp2_with fail
           refine(C1.out _).mono ?_;rintro en wz ⟨rfl,rfl⟩
           go_wp2_with fail
           refine(C2.out _).mono ?_;rintro en wz ⟨rfl,rfl⟩
           go_wp2_with fail
           refine(C3.out _).mono ?_;rintro en wz ⟨rfl,rfl⟩
           go_wp2_with fail
           refine(C4.out _).mono ?_;rintro en wz ⟨rfl,rfl⟩
           go_wp2_with fail
           refine CF.out.mono ?_;rintro en w2 ⟨rfl,hb⟩;have HBF:=ab (HB0.out.trans (hb.mono HB0.out.size));clear hb
           go_wp2_with fail
           go_ret
           exact⟨rfl,HBF.out⟩
         | true=>
           go_enter Tryz.func227,Tryz.ntmps227
           go_wp2_with fail
           refine(C1.out _).mono ?_;rintro en wz ⟨rfl,rfl⟩
           go_wp2_with fail
           refine(C2.out _).mono ?_;rintro en wz ⟨rfl,rfl⟩
           go_wp2_with fail
           refine(C3.out _).mono ?_;rintro en wz ⟨rfl,rfl⟩
           go_wp2_with fail
           refine(C4.out _).mono ?_;rintro en wz ⟨rfl,rfl⟩
           go_wp2_with fail
           refine CF.out.mono ?_;rintro en w2 ⟨rfl,hb⟩;have HBF:=ab (HB0.out.trans (hb.mono HB0.out.size));clear hb
           go_wp2_with fail
           go_ret
           exact⟨rfl,HBF.out⟩
theorem Dq (a:Nat->Addr) (T:World->Prop) (K:ByteArray->Nat) (sh ot sv:Int) (key:ByteArray) (w:World) (hs:key.size<=300) (hL:dI a T K w):
 Calls Tryz.prog 249 #[.agg #[.int .i64 sh,.int .i64 ot,.int .i64 sv,.string key]] w λe w'=>e= .returned (.bool (gu sh ot && (aW sv 1 4 && decide (K key=0))))/\Below w.heap.size w w':=by
 have HB0:=ab (show Below w.heap.size w (w.alloc (.cells #[.int .i64 sh,.int .i64 ot,.int .i64 sv,.string key] 264)) from(Below.refl _ _).alloc (Nat.le_refl _) _);have L1:=ab (hL.below HB0.out);have CKo:=ab (λ(h:K key=0)=>L1.out.spec.ok hs L1.out.kR L1.out.bq h);have CKb:=ab (λ(h:¬K key=0)=>L1.out.spec.bad hs L1.out.kR L1.out.bq h);clear hL hs;have C1:=ab (λw=>pD sh ot w);generalize gu sh ot=b1 at *;obtain⟨b2,hb2⟩:∃b,aW sv 1 4=b:=⟨_,rfl⟩;have C2:=ab (λw=>fb sv 1 4 w);rw[hb2]at C2;rw[hb2];clear hb2;obtain⟨b3,hb3⟩:=aa (decide (K key=0));rw[hb3];have HB3:=ab hb3;clear hb3;cases b1 with
 | false=>
   go_enter Tryz.func249,Tryz.ntmps249
   go_wp2_with fail
   refine(C1.out _).mono ?_;rintro en wz ⟨rfl,rfl⟩
   go_wp2_with fail
   go_ret
   exact⟨rfl,HB0.out⟩
 | true=>
   cases b2 with
   | false=>
     go_enter Tryz.func249,Tryz.ntmps249
     go_wp2_with fail
     refine(C1.out _).mono ?_;rintro en wz ⟨rfl,rfl⟩
     go_wp2_with fail
     refine(C2.out _).mono ?_;rintro en wz ⟨rfl,rfl⟩
     go_wp2_with fail
     go_ret
     exact⟨rfl,HB0.out⟩
   | true=>
     cases b3 with
     | false=>
       go_enter Tryz.func249,Tryz.ntmps249
       go_wp2_with fail
       refine(C1.out _).mono ?_;rintro en wz ⟨rfl,rfl⟩
       go_wp2_with fail
       refine(C2.out _).mono ?_;rintro en wz ⟨rfl,rfl⟩
       go_wp2_with fail
       refine(CKb.out (of_decide_eq_false HB3.out)).mono ?_;rintro en w2 ⟨⟨bb,rfl⟩,hb⟩;have HBF:=ab (HB0.out.trans (hb.mono HB0.out.size));clear hb
       go_wp2_with fail
       go_ret
       exact⟨rfl,HBF.out⟩
     | true=>
       go_enter Tryz.func249,Tryz.ntmps249
       go_wp2_with fail
       refine(C1.out _).mono ?_;rintro en wz ⟨rfl,rfl⟩
       go_wp2_with fail
       refine(C2.out _).mono ?_;rintro en wz ⟨rfl,rfl⟩
       go_wp2_with fail
       refine(CKo.out (of_decide_eq_true HB3.out)).mono ?_;rintro en w2 ⟨rfl,hb⟩;have HBF:=ab (HB0.out.trans (hb.mono HB0.out.size));clear hb
       go_wp2_with fail
       go_ret
       exact⟨rfl,HBF.out⟩
theorem vW (sh up ps pt:Int) (data:ByteArray) (w:World):
 Calls Tryz.prog 261 #[.agg #[.int .i64 sh,.int .i64 up,.int .i64 ps,.int .i64 pt,.string data]] w λe w'=>e= .returned (.bool (aW sh 0 12 && (aW up 0 4096 && (aW ps 1 64 && (aW pt 0 (ps - 1) && decide ((data.size:Int)<=256))))))/\Below w.heap.size w w':=by
 have HB0:=ab (show Below w.heap.size w (w.alloc (.cells #[.int .i64 sh,.int .i64 up,.int .i64 ps,.int .i64 pt,.string data] 268)) from(Below.refl _ _).alloc (Nat.le_refl _) _);obtain⟨b1,hb1⟩:∃b,aW sh 0 12=b:=⟨_,rfl⟩;have C1:=ab (λw=>fb sh 0 12 w);rw[hb1]at C1;obtain⟨b2,hb2⟩:∃b,aW up 0 4096=b:=⟨_,rfl⟩;have C2:=ab (λw=>fb up 0 4096 w);rw[hb2]at C2;have HP:=ab (show aW ps 1 64=true->1<=ps/\ps<=64 from λh=>by unfold aW at h;simp at h;omega);obtain⟨b3,hb3⟩:∃b,aW ps 1 64=b:=⟨_,rfl⟩;have C3:=ab (λw=>fb ps 1 64 w);rw[hb3]at C3;rw[hb3]at HP;obtain⟨b4,hb4⟩:∃b,aW pt 0 (ps - 1)=b:=⟨_,rfl⟩;have C4:=ab (λw=>fb pt 0 (ps - 1) w);rw[hb4]at C4;have HD:=ab (show decide ((data.size:Int)<=256)=true->data.size<=256 from λh=>by simp at h;omega);have HD2:=ab (show decide ((data.size:Int)<=256)=false->¬data.size<=256 from λh=>by simp at h;omega);obtain⟨b5,hb5⟩:=aa (decide ((data.size:Int)<=256));rw[hb5]at HD HD2;rw[hb1,hb2,hb3,hb4,hb5];clear hb1 hb2 hb3 hb4;cases b1 with
 | false=>
   go_enter Tryz.func261,Tryz.ntmps261
   go_wp2_with fail
   refine(C1.out _).mono ?_;rintro en wz ⟨rfl,rfl⟩
   go_wp2_with fail
   go_ret
   exact⟨rfl,HB0.out⟩
 | true=>
   cases b2 with
   | false=>
     go_enter Tryz.func261,Tryz.ntmps261
     go_wp2_with fail
     refine(C1.out _).mono ?_;rintro en wz ⟨rfl,rfl⟩
     go_wp2_with fail
     refine(C2.out _).mono ?_;rintro en wz ⟨rfl,rfl⟩
     go_wp2_with fail
     go_ret
     exact⟨rfl,HB0.out⟩
   | true=>
     cases b3 with
     | false=>
       go_enter Tryz.func261,Tryz.ntmps261
       go_wp2_with fail
       refine(C1.out _).mono ?_;rintro en wz ⟨rfl,rfl⟩
       go_wp2_with fail
       refine(C2.out _).mono ?_;rintro en wz ⟨rfl,rfl⟩
       go_wp2_with fail
       refine(C3.out _).mono ?_;rintro en wz ⟨rfl,rfl⟩
       go_wp2_with fail
       go_ret
       exact⟨rfl,HB0.out⟩
     | true=>
       obtain⟨hp1,hp2⟩:=HP.out rfl;cases b4 with
       | false=>
         go_enter Tryz.func261,Tryz.ntmps261
         go_wp2_with fail
         refine(C1.out _).mono ?_;rintro en wz ⟨rfl,rfl⟩
         go_wp2_with fail
         refine(C2.out _).mono ?_;rintro en wz ⟨rfl,rfl⟩
         go_wp2_with fail
         refine(C3.out _).mono ?_;rintro en wz ⟨rfl,rfl⟩
         go_wp2_with fail
         refine(C4.out _).mono ?_;rintro en wz ⟨rfl,rfl⟩
         go_wp2_with fail
         go_ret
         exact⟨rfl,HB0.out⟩
       | true=>
         cases b5 with
         | false=>
           have hd:=HD2.out rfl
           go_enter Tryz.func261,Tryz.ntmps261
           go_wp2_with fail
           refine(C1.out _).mono ?_;rintro en wz ⟨rfl,rfl⟩
           go_wp2_with fail
           refine(C2.out _).mono ?_;rintro en wz ⟨rfl,rfl⟩
           go_wp2_with fail
           refine(C3.out _).mono ?_;rintro en wz ⟨rfl,rfl⟩
           go_wp2_with fail
           refine(C4.out _).mono ?_;rintro en wz ⟨rfl,rfl⟩
           go_wp2_with fail
           go_wp2_with fail
           go_ret
           exact⟨rfl,HB0.out⟩
         | true=>
           have hd:=HD.out rfl
           go_enter Tryz.func261,Tryz.ntmps261
           go_wp2_with fail
           refine(C1.out _).mono ?_;rintro en wz ⟨rfl,rfl⟩
           go_wp2_with fail
           refine(C2.out _).mono ?_;rintro en wz ⟨rfl,rfl⟩
           go_wp2_with fail
           refine(C3.out _).mono ?_;rintro en wz ⟨rfl,rfl⟩
           go_wp2_with fail
           refine(C4.out _).mono ?_;rintro en wz ⟨rfl,rfl⟩
           go_wp2_with fail
           go_wp2_with fail
           go_ret
           exact⟨rfl,HB0.out⟩
end Go.Proofs.YtdilnodbfnlhdaaGreatDoor
