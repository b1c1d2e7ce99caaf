import Derived.Test.YtiafamacjpgjoaaGreatDoorGKeep
import Derived.Deep.Matrix
import Derived.Lib.SmallJoins
import Derived.ChangeArms
namespace Go.Proofs.YtiafamacjpgjoaaGreatDoor
open Go Go.Joins Go.ChangeShapes Go.WideShapes Go.ChangeAt Go.RowKit Go.Deep Tide
section
variable {H:Type} {enc:TypeId × Value->H} {P:Program} {W:World}
theorem Aw (w:World) (B:Nat):Row w B (.slice none 0 0) (az []):=⟨by simp[az],none,0,by simp[az],by simp[az],by simp,λh=>absurd rfl h⟩
theorem Ay {w:World} {a:Addr} {len cap:Nat} {zs:List Int} (hl:len<=cap) (hc:cap<=maxLen) (hz:len<=zs.length)
 (hcell:∀i,i < len->w.cell? (a.add i)=some (.int .i64 (zs.getD i 0))):Row w w.heap.size (.slice (some a) len cap) (az (zs.take len)):=by
 unfold maxLen at hc;have hlen:(zs.take len).length=len:=by rw[List.length_take];omega
 refine⟨by rw[ic];omega,some a,cap,by rw[ic,hlen],by rw[ic];omega,hc,λhne=> ?_⟩;have hpos:0 < len:=by
  rcases Nat.eq_zero_or_pos len with h0|h0
  · subst h0;exact absurd (by simp[az]) hne
  · exact h0
 obtain⟨b,off,spot⟩:=a;have hspot:spot=none:=by simpa[Addr.add]using World.cell?_spot (hcell 0 hpos)
 subst hspot;refine⟨b,off,rfl,?_,λj u hu=> ?_⟩
 · have:=World.block_lt_of_cell? _ _ (hcell 0 hpos);rw[cV]at this;exact this
 · have hj:j < len:=by have:=(List.getElem?_eq_some_iff.1 hu).1;rw[ic,hlen]at this;exact this
   have h1:=hcell j hj;rw[cV,List.getD_eq_getElem?_getD,List.getElem?_eq_getElem (by omega)]at h1;rw[h1,<-hu];unfold az;rw[List.getElem?_map,List.getElem?_take_of_lt hj,List.getElem?_eq_getElem (by omega)];rfl
theorem AP {t e q:TypeId} {u:Value} {n:Nat} {y:DataW H × List MemPlace} (ht:P.underlying t=some (.slice e)) (he:P.underlying e=some (.slice q)) (hq:P.underlying q=some (.int .i64)) (ce:P.cellsOf e=1) (cq:P.cellsOf q=1)
 (h:DataW.trod enc P W 0 (λ_=>true) true n t [u]=some y):∃cs,b7 W W.heap.size u cs:=by
 rcases Go.Deep.open_int_rows ht he hq ce cq h with⟨hcs,_⟩|⟨a,len,cap,A,L,C,Z,hcs,_,hl,hm,_,hr⟩
 · obtain rfl:u= .slice none 0 0:=by simpa using hcs
   exact⟨[], [],⟨by simp,none,0,rfl,by simp,by simp,λh=>absurd rfl h⟩,rfl,λi u p hu=>by simp at hu⟩
 · obtain rfl:u= .slice (some a) len cap:=by simpa using hcs
   unfold maxLen at hm;refine⟨(List.range len).map λr=>(Z r).take (L r),(List.range len).map λr=> .slice (A r) (L r) (C r),?_,by simp,?_⟩
   · refine⟨by simp;omega,some a,cap,by simp,by simpa using hl,hm,λhne=> ?_⟩;have hpos:0 < len:=by
      rcases Nat.eq_zero_or_pos len with h0|h0
      · subst h0;exact absurd rfl hne
      · exact h0
     obtain⟨b,off,spot⟩:=a;have hspot:spot=none:=by simpa[Addr.add]using World.cell?_spot (hr 0 (by omega)).1
     subst hspot;refine⟨b,off,rfl,?_,λj u hu=> ?_⟩
     · have:=World.block_lt_of_cell? _ _ (hr 0 (by omega)).1;rw[cV]at this;exact this
     · have hj:j < len:=by have:=(List.getElem?_eq_some_iff.1 hu).1;simpa using this
       have h1:=(hr j (by omega)).1;rw[cV]at h1;rw[h1];simpa[hj]using hu
   · intro i u p' hu hp';have hi:i < len:=by have:=(List.getElem?_eq_some_iff.1 hu).1;simpa using this
     simp[hi]at hu hp';subst hu hp';obtain⟨_,h2,h3,h4,h5,h6,h7⟩:=hr i (by omega);cases hA:A i with
     | none=>
       have hC:=h6 hA;have hL:L i=0:=by omega
       rw[hC,hL];simpa using Aw W W.heap.size
     | some a'=>exact Ay h2 h3 (by omega) (λj hj=>(h7 a' hA).2 j (by omega))
theorem AR {b0:Nat} {t e q:TypeId} {f0 f1:Field} {v:Value} {d:DataW H} {p:List MemPlace} (hs:P.underlying t=some (.struct #[f0,f1])) (hone:oneCellFields P #[f0,f1]=true) (hC:P.cellsOf t=2)
 (h0:P.underlying f0.type=some (.int .i64)) (h1:P.underlying f1.type=some (.slice e)) (he:P.underlying e=some (.slice q)) (hq:P.underlying q=some (.int .i64)) (ce:P.cellsOf e=1) (cq:P.cellsOf q=1)
 (hv:Value.okWide P W .any b0 t v) (h:DataW.Trod enc P W 0 (λ_=>true) true t v d p):∃ (ep:Int) (u:Value) (cs:List (List Int)),v= .agg #[.int .i64 ep,u]/\b7 W W.heap.size u cs:=by
 obtain⟨v0,v1,y0,y1,n,rfl,rfl,rfl,k0,k1⟩:=open_agg2 hs hone hC hv h;obtain⟨z,rfl,_,_⟩:=mz h0 k0;obtain⟨cs,hg⟩:=AP h1 he hq ce cq k1;exact⟨z,v1,cs,rfl,hg⟩
end
end Go.Proofs.YtiafamacjpgjoaaGreatDoor
