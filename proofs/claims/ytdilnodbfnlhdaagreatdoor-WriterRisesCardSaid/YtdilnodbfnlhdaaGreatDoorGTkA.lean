import Derived.Test.YtdilnodbfnlhdaaGreatDoorGKeep
import Derived.Test.YtdilnodbfnlhdaaGreatDoorGPush
import Derived.Test.YtdilnodbfnlhdaaGreatDoorGPlN
import Derived.WalkKit
import Derived.WalkSpells
import Derived.Deep.QuietTactic
import Derived.BigQuiet
namespace Go.Proofs.YtdilnodbfnlhdaaGreatDoor
open Go Go.RowKit Tide
def dt (l:List Int):Bool:=decide (∀i,∀h:i < l.length,0<=l[i]/\l[i]<=12/\(0 < i->l[i - 1]'(by omega) < l[i]))
theorem tM {l:List Int} {k:Nat} (h:k < l.length) (hn:¬(0<=l[k]/\l[k]<=12/\(0 < k->l[k - 1]'(by omega) < l[k]))):dt l=false:=decide_eq_false λe=>hn (e k h)
theorem mD {l:List Int} (h:dt l=true):∀x ∈ l,0<=x/\x<=12:=by intro x hx;obtain⟨i,hi,rfl⟩:=List.getElem_of_mem hx;have:=of_decide_eq_true h i hi;exact⟨this.1,this.2.1⟩
set_option maxHeartbeats 1000000 in
theorem BV (l:List Int) (v:Value) (B:Nat) (w:World) (hv:Row w B v (ay l)):
 Calls Tryz.prog 66 #[v] w λe w'=>e= .returned (.bool (dt l))/\w=w':=by
 obtain⟨hl,A,c,rfl,hc⟩:=dn hv;have HC:=ab hc;clear hv hc
 go_enter Tryz.func66,Tryz.ntmps66
 go_wp2_with fail
 go_loop [7] (λi=>∃k:Nat,i= .int .i64 k/\k<=l.length/\Hid (∀i,∀h:i < l.length,i < k->0<=l[i]/\l[i]<=12/\(0 < i->l[i - 1]'(by omega) < l[i]))) (λi=>l.length - (intOf i).toNat)
 case atStart=>exact⟨0,rfl,Nat.zero_le _,ab (λi h h0=>absurd h0 (Nat.not_lt_zero _))⟩
 case round=>
  obtain⟨k,rfl,hk,hS⟩:=hrel;by_cases hlt:k < l.length
  · obtain⟨b,o,rfl,hbl,hcu⟩:=HC.out k hlt;have i1:(k:Int) < (l.length:Int):=by omega
    have HN:=ab (show ¬(0<=l[k]/\l[k]<=12/\(0 < k->l[k - 1]'(by omega) < l[k]))->dt l=false from tM hlt);have HY:=ab (show(0<=l[k]/\l[k]<=12/\(0 < k->l[k - 1]'(by omega) < l[k]))->(∀i,∀h:i < l.length,i < k+1->0<=l[i]/\l[i]<=12/\(0 < i->l[i - 1]'(by omega) < l[i])) from λh i hi h1=>by
     rcases Nat.lt_or_ge i k with h2|h2
     · exact hS.out i hi h2
     · obtain rfl:i=k:=by omega
       exact h)
    by_cases hz:k=0
    · subst hz;have hcu0:w.cell? ⟨b,o,none⟩=some (.int .i64 l[0]):=hcu;clear hcu;generalize l[0]=y at *;have z0:¬((0:Int) < ((0:Nat):Int)):=by omega
      by_cases h1:y < 0
      · have HR:=ab (HN.out (by omega))
        go_wp2_with fail
        go_ret
        exact⟨by rw[HR.out]<;>rfl,rfl⟩
      · by_cases h2:12 < y
        · have HR:=ab (HN.out (by omega))
          go_wp2_with fail
          go_ret
          exact⟨by rw[HR.out]<;>rfl,rfl⟩
        · have HR:=ab (HY.out ⟨by omega,by omega,by omega⟩)
          go_wp2_with fail
          go_round
          case rel=>exact⟨0+1,by go_num,by omega,HR⟩
          case measure=>simp[intOf];omega
    · obtain⟨b',o',e,_,hcp⟩:=HC.out (k - 1) (by omega);injection e with e;injection e with e1 e2;subst e1 e2;generalize l[k - 1]'(by omega)=p at *;generalize l[k]=y at *;have z0:(0:Int) < (k:Int):=by omega
      have z1:(k:Int) - 1 < (l.length:Int):=by omega
      by_cases h1:y < 0
      · have HR:=ab (HN.out (by omega))
        go_wp2_with fail
        go_ret
        exact⟨by rw[HR.out]<;>rfl,rfl⟩
      · by_cases h2:12 < y
        · have HR:=ab (HN.out (by omega))
          go_wp2_with fail
          go_ret
          exact⟨by rw[HR.out]<;>rfl,rfl⟩
        · by_cases h3:y<=p
          · have HR:=ab (HN.out (by omega))
            go_wp2_with fail
            go_ret
            exact⟨by rw[HR.out]<;>rfl,rfl⟩
          · have HR:=ab (HY.out ⟨by omega,by omega,by omega⟩)
            go_wp2_with fail
            go_round
            case rel=>exact⟨k+1,by go_num,by omega,HR⟩
            case measure=>simp[intOf];omega
  · have HR:=ab (show dt l=true from decide_eq_true (λi h=>hS.out i h (by omega)))
    go_wp2_with fail
    go_ret
    exact⟨by rw[HR.out]<;>rfl,rfl⟩
end Go.Proofs.YtdilnodbfnlhdaaGreatDoor
namespace Go.Proofs.YtdilnodbfnlhdaaGreatDoor
open Go Go.RowKit Tide
def dX (w:World) (B:Nat) (v:Value) (bs:List (Int × List Int)):Prop:=
 ∃es,bQ w B v 2 es/\es.length=bs.length/\∀ (i:Nat) (h:i < bs.length),∃u,es[i]? =some [.int .i64 bs[i].1,u]/\Row w B u (ay bs[i].2)
section
variable {w w':World} {B B':Nat} {v:Value} {bs:List (Int × List Int)}
theorem dX.an (h:dX w B v bs) (hk:∀b o,b < B->w'.cell? ⟨b,o,none⟩=w.cell? ⟨b,o,none⟩):dX w' B v bs:=by obtain⟨es,h1,h2,h3⟩:=h;refine⟨es,h1.an hk,h2,λi hi=> ?_⟩;obtain⟨u,h4,h5⟩:=h3 i hi;exact⟨u,h4,h5.an hk⟩
theorem dX.below (h:dX w B v bs) (hb:Below B w w'):dX w' B v bs:=h.an (ew hb)
theorem dX.form (h:dX w B v bs):bs.length<=9223372036854775807/\∃A c,v= .slice A bs.length c/\∀i (hi:i < bs.length),∃b o u,A=some ⟨b,o,none⟩/\b < B/\
 w.cell? ⟨b,o+i * 2,none⟩=some (.int .i64 bs[i].1)/\w.cell? ⟨b,o+i * 2+1,none⟩=some u/\Row w B u (ay bs[i].2):=by
 obtain⟨es,⟨hn,A,c,rfl,hc⟩,hl,h3⟩:=h;refine⟨by omega,A,c,by rw[hl],λi hi=> ?_⟩;obtain⟨u,h4,h5⟩:=h3 i hi;obtain⟨b,o,e,hb,hcell⟩:=hc (by intro e;subst e;simp at hl;omega);exact⟨b,o,u,e,hb,by simpa using hcell i 0 _ _ h4 rfl,hcell i 1 _ _ h4 rfl,h5⟩
theorem dX.nil (w:World) (B:Nat):dX w B (.slice none 0 0) []:=⟨[],⟨by simp,none,0,by simp,λh=>absurd rfl h⟩,rfl,λi h=>by simp at h⟩
end
theorem below_drewN {B:Nat} {w w':World} (h:Below B w w') (n:Nat):Below B w (w'.drewN n):=⟨h.os,h.tape,h.output,h.size,h.block⟩
end Go.Proofs.YtdilnodbfnlhdaaGreatDoor
namespace Go.Proofs.YtdilnodbfnlhdaaGreatDoor
open Go Go.RowKit Tide
structure bZ where
 ep:Int
 nx:Nat
 all:List (List Int)
def jW (ep:Int) (nx:Nat) (vs:List Value):Obj:= .cells (.int .i64 ep :: .int .i64 nx :: vs).toArray 161
structure cW (w:World) (R:Nat->Prop) (g:Nat) (s:bZ) (vs:List Value):Prop where
 nv:vs.length=13
 na:s.all.length=13
 at_:w.heap[g]? =some (jW s.ep s.nx vs)
 jD:R g
 low:∀k,R k->k < w.heap.size
 rows:∀ (i:Nat) (v:Value) (l:List Int),vs[i]? =some v->s.all[i]? =some l->Own w 0 v l
 apart:∀ (i:Nat) (v:Value) (k:Nat),vs[i]? =some v->v.ownBlock=some k->k≠g/\R k
def pv (w:World) (R:Nat->Prop) (g:Nat) (s:bZ):Prop:=∃vs,cW w R g s vs
section
variable {w w':World} {R F:Nat->Prop} {g:Nat} {s:bZ} {vs:List Value}
theorem cW.kept (h:cW w R g s vs) (hk:Kept F w w') (hF:∀k,R k->¬F k):cW w' R g s vs:=
 ⟨h.nv,h.na,hk.heap h.at_ (hF _ h.jD),h.jD,λk hR=>Nat.lt_of_lt_of_le (h.low k hR) hk.size,λi v l hv hl=>hk.own (h.rows i v l hv hl) (λk hb=>hF k (h.apart i v k hv hb).2),h.apart⟩
theorem cW.below (h:cW w R g s vs) (hb:Below w.heap.size w w'):cW w' R g s vs:=h.kept (Kept.al (F:=λ_=>False) hb) (λ_ _ h=>h)
theorem cW.cell (h:cW w R g s vs) {i:Nat} {v:Value} (hi:(Value.int .i64 s.ep :: .int .i64 s.nx :: vs)[i]? =some v):w.cell? ⟨g,i,none⟩=some v:=by rw[cell_of_row _ _ i _ _ _ h.at_];simpa using hi
theorem cW.stream (h:cW w R g s vs) {x:Nat} (hx:x < 13):∃v,vs[x]? =some v/\w.cell? ⟨g,2+x,none⟩=some v/\Own w 0 v (s.all[x]'(by rw[h.na];exact hx)):=by have hv:vs[x]? =some (vs[x]'(by rw[h.nv];exact hx)):=List.getElem?_eq_getElem _;refine⟨_,hv,h.cell ?_,h.rows x _ _ hv (List.getElem?_eq_getElem _)⟩;rw[Nat.add_comm];exact hv
theorem cW.free (h:cW w R g s vs) (i:Nat):w.frozen? ⟨g,i,none⟩=false:=by simp[World.frozen?,h.at_,jW]
theorem cW.setRow (h:cW w R g s vs) {x:Nat} {v:Value} {l:List Int} (ho:Own w 0 v l) (ha:v.ownBlock≠some g):
 cW (w.setCell ⟨g,2+x,none⟩ v) (λk=>R k\/v.ownBlock=some k) g { s with all:=s.all.set x l } (vs.set x v):=by
 have hk:Kept (λk=>k=g) w (w.setCell ⟨g,2+x,none⟩ v):=Kept.setCell (F:=λk=>k=g) (Kept.refl _ w) (p:=⟨g,2+x,none⟩) (.inl rfl) _;refine⟨by simp[h.nv],by simp[h.na],?_,.inl h.jD,λk hR=> ?_,λi u m hu hm=> ?_,λi u k hu hb=> ?_⟩
 · have:=h.at_;unfold jW at this ⊢;rw[heap_setCell_same _ _ _ _ _ _ this];simp only[List.setIfInBounds_toArray,show 2+x=x+2 from Nat.add_comm _ _,List.set_cons_succ]
 · refine Nat.lt_of_lt_of_le ?_ hk.size;rcases hR with hR|hR
   · exact h.low k hR
   · exact(ho.lt k hR).2
 · rw[List.getElem?_set]at hu hm;by_cases e:x=i
   · simp only[e,if_true]at hu hm;split at hu<;>split at hm<;>simp_all;subst hu hm;exact hk.own ho (λk hb e=>ha (by rw[hb,e]))
   · simp only[e,if_false]at hu hm;exact hk.own (h.rows i u m hu hm) (λk hb=>(h.apart i u k hu hb).1)
 · rw[List.getElem?_set]at hu;by_cases e:x=i
   · simp only[e,if_true]at hu;split at hu
     · injection hu with hu;subst hu;exact⟨λe=>ha (by rw[hb,e]),.inr hb⟩
     · cases hu
   · simp only[e,if_false]at hu;exact⟨(h.apart i u k hu hb).1,.inl (h.apart i u k hu hb).2⟩
end
end Go.Proofs.YtdilnodbfnlhdaaGreatDoor
