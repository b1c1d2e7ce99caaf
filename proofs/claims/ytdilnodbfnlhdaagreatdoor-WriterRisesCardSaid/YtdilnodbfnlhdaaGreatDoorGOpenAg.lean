import Derived.Test.YtdilnodbfnlhdaaGreatDoorGKeep
import Derived.Test.YtdilnodbfnlhdaaGreatDoorGUmod
import Derived.Lib.SmallJoins
import Derived.ChangeArms
import Derived.Deep.Matrix
namespace Go.Proofs.YtdilnodbfnlhdaaGreatDoor
open Go Go.Joins Go.ChangeShapes Go.WideShapes Go.ChangeAt Go.RowKit Go.Deep Tide
section
variable {H:Type} {enc:TypeId × Value->H} {P:Program} {W:World}
theorem tc {t e:TypeId} {u:Value} {n:Nat} {y:DataW H × List MemPlace} (ht:P.underlying t=some (.slice e)) (h:DataW.trod enc P W 0 (λ_=>true) true n t [u]=some y):∃a l c,u= .slice a l c:=by
 rcases open_slice ht h with⟨hcs,_⟩|⟨a,len,cap,m,n,D,Pl,hcs,_⟩
 · exact⟨none,0,0,by simpa using hcs⟩
 · exact⟨some a,len,cap,by simpa using hcs⟩
theorem zW {t e:TypeId} {fs:Array Field} {v:Value} {d:DataW H} {p:List MemPlace} (ht:P.underlying t=some (.slice e)) (he:P.underlying e=some (.struct fs)) (hone:oneCellFields P fs=true) (hC:P.cellsOf e=fs.size) (hpos:0 < fs.size)
 (hsl:∃a l c,v= .slice a l c) (h:DataW.Trod enc P W 0 (λ_=>true) true t v d p):
 ∃es,bQ W W.heap.size v fs.size es/\∀x ∈ es,x.length=fs.size/\∀ (j:Nat) (f:Field),fs[j]? =some f->∃ (u:Value) (n:Nat) (y:DataW H × List MemPlace),x[j]? =some u/\DataW.trod enc P W 0 (λ_=>true) true n f.type [u]=some y:=by
 obtain⟨a0,len0,cap0,rfl⟩:=hsl;obtain⟨fuel,hf⟩:=h;rcases open_slice ht hf with⟨hcs,_⟩|⟨a,len,cap,m,n,D,Pl,hcs,_,hl,hm,hmm,_,hx⟩
 · have:Value.slice a0 len0 cap0= .slice none 0 0:=by simpa[Value.cells]using hcs
   rw[this];exact⟨[],⟨by simp,none,0,rfl,λh=>absurd rfl h⟩,λx hx=>by cases hx⟩
 · have:Value.slice a0 len0 cap0= .slice (some a) len cap:=by simpa[Value.cells]using hcs
   rw[this];simp only[if_true]at hmm;rw[hmm]at hx;clear hmm;unfold maxLen at hm;obtain⟨C,hCh⟩:=choose_lt (α:=List Value) (p:=λi cs=>W.cells? 0 (a.add (i * P.cellsOf e)) (P.cellsOf e)=some cs/\DataW.trod enc P W 0 (λ_=>true) true n e cs=some (D i,Pl i)) hx;have hmem:∀i,i < len->(C i).length=fs.size/\(∀j,j < fs.size->W.cell? (a.add (i * fs.size+j))=(C i)[j]?)/\∀ (j:Nat) (f:Field),fs[j]? =some f->∃ (u:Value) (n:Nat) (y:DataW H × List MemPlace),(C i)[j]? =some u/\DataW.trod enc P W 0 (λ_=>true) true n f.type [u]=some y:=by
    intro i hi;obtain⟨h1,h2⟩:=hCh i (by omega);rw[hC]at h1;obtain⟨_,hlen,hat⟩:=World.cells?_some h1;refine⟨hlen,λj hj=> ?_,λj f hj=> ?_⟩
    · rw[<-Go.Deep.add_add];exact hat j hj
    · obtain⟨xs,n',_,_,_,hxl,hfs⟩:=DataW.trod_struct he h2;obtain⟨ho,hk⟩:=hone_of hone j f hj;have hjl:j < fs.size:=(Array.getElem?_eq_some_iff.1 hj).1;have h3:=hfs j f hj;rw[ho,hk,List.drop_eq_getElem_cons (by omega)]at h3;refine⟨_,n',xs[j]'(by omega),List.getElem?_eq_getElem (by omega),?_⟩;rw[show((C i)[j]'(by omega) :: (C i).drop (j+1)).take 1= [(C i)[j]'(by omega)]from rfl]at h3;rw[h3,List.getElem?_eq_getElem (by omega)]
   refine⟨(List.range len).map C,⟨by simp;omega,some a,cap,by simp,λhne=> ?_⟩,λx hx=> ?_⟩
   · have hlp:0 < len:=by
      rcases Nat.eq_zero_or_pos len with h0|h0
      · subst h0;exact absurd rfl hne
      · exact h0
     obtain⟨b,off,spot⟩:=a;obtain⟨hl0,hc0,_⟩:=hmem 0 hlp;have hc00:=hc0 0 hpos;rw[List.getElem?_eq_getElem (by omega)]at hc00;have hspot:spot=none:=by simpa[Addr.add]using World.cell?_spot hc00
     subst hspot;rw[da]at hc00;refine⟨b,off,rfl,World.block_lt_of_cell? _ _ hc00,λi j e u he hu=> ?_⟩;have hi:i < len:=by have:=(List.getElem?_eq_some_iff.1 he).1;simpa using this
     simp[hi]at he;subst he;obtain⟨h1,h2,_⟩:=hmem i hi;have hj:j < fs.size:=by rw[<-h1];exact(List.getElem?_eq_some_iff.1 hu).1
     have:=h2 j hj;rw[da]at this;rw[this,hu]
   · simp only[List.mem_map,List.mem_range]at hx;obtain⟨i,hi,rfl⟩:=hx;exact⟨(hmem i hi).1,(hmem i hi).2.2⟩
end
end Go.Proofs.YtdilnodbfnlhdaaGreatDoor
namespace Go.Proofs.YtdilnodbfnlhdaaGreatDoor
open Go Go.Joins Go.ChangeShapes Go.WideShapes Go.ChangeAt Go.RowKit Go.Deep Tide
section
variable {H:Type} {enc:TypeId × Value->H} {P:Program} {W:World}
theorem zB (w:World) (B:Nat):Row w B (.slice none 0 0) (ay []):=⟨by simp[ay],none,0,by simp[ay],by simp[ay],by simp,λh=>absurd rfl h⟩
theorem zC {w:World} {a:Addr} {len cap:Nat} {zs:List Int} (hl:len<=cap) (hc:cap<=maxLen) (hz:len<=zs.length)
 (hcell:∀i,i < len->w.cell? (a.add i)=some (.int .i64 (zs.getD i 0))):Row w w.heap.size (.slice (some a) len cap) (ay (zs.take len)):=by
 unfold maxLen at hc;have hlen:(zs.take len).length=len:=by rw[List.length_take];omega
 refine⟨by rw[dk];omega,some a,cap,by rw[dk,hlen],by rw[dk];omega,hc,λhne=> ?_⟩;have hpos:0 < len:=by
  rcases Nat.eq_zero_or_pos len with h0|h0
  · subst h0;exact absurd (by simp[ay]) hne
  · exact h0
 obtain⟨b,off,spot⟩:=a;have hspot:spot=none:=by simpa[Addr.add]using World.cell?_spot (hcell 0 hpos)
 subst hspot;refine⟨b,off,rfl,?_,λj u hu=> ?_⟩
 · have:=World.block_lt_of_cell? _ _ (hcell 0 hpos);rw[da]at this;exact this
 · have hj:j < len:=by have:=(List.getElem?_eq_some_iff.1 hu).1;rw[dk,hlen]at this;exact this
   have h1:=hcell j hj;rw[da,List.getD_eq_getElem?_getD,List.getElem?_eq_getElem (by omega)]at h1;rw[h1,<-hu];unfold ay;rw[List.getElem?_map,List.getElem?_take_of_lt hj,List.getElem?_eq_getElem (by omega)];rfl
theorem zS {t e q:TypeId} {u:Value} {n:Nat} {y:DataW H × List MemPlace} (ht:P.underlying t=some (.slice e)) (he:P.underlying e=some (.slice q)) (hq:P.underlying q=some (.int .i64)) (ce:P.cellsOf e=1) (cq:P.cellsOf q=1)
 (h:DataW.trod enc P W 0 (λ_=>true) true n t [u]=some y):∃cs,cO W W.heap.size u cs:=by
 rcases Go.Deep.open_int_rows ht he hq ce cq h with⟨hcs,_⟩|⟨a,len,cap,A,L,C,Z,hcs,_,hl,hm,_,hr⟩
 · obtain rfl:u= .slice none 0 0:=by simpa using hcs
   exact⟨[], [],⟨by simp,none,0,rfl,by simp,by simp,λh=>absurd rfl h⟩,rfl,λi u p hu=>by simp at hu⟩
 · obtain rfl:u= .slice (some a) len cap:=by simpa using hcs
   unfold maxLen at hm;refine⟨(List.range len).map λr=>(Z r).take (L r),(List.range len).map λr=> .slice (A r) (L r) (C r),?_,by simp,?_⟩
   · refine⟨by simp;omega,some a,cap,by simp,by simpa using hl,hm,λhne=> ?_⟩;have hpos:0 < len:=by
      rcases Nat.eq_zero_or_pos len with h0|h0
      · subst h0;exact absurd rfl hne
      · exact h0
     obtain⟨b,off,spot⟩:=a;have hspot:spot=none:=by simpa[Addr.add]using World.cell?_spot (hr 0 (by omega)).1
     subst hspot;refine⟨b,off,rfl,?_,λj u hu=> ?_⟩
     · have:=World.block_lt_of_cell? _ _ (hr 0 (by omega)).1;rw[da]at this;exact this
     · have hj:j < len:=by have:=(List.getElem?_eq_some_iff.1 hu).1;simpa using this
       have h1:=(hr j (by omega)).1;rw[da]at h1;rw[h1];simpa[hj]using hu
   · intro i u p' hu hp';have hi:i < len:=by have:=(List.getElem?_eq_some_iff.1 hu).1;simpa using this
     simp[hi]at hu hp';subst hu hp';obtain⟨_,h2,h3,h4,h5,h6,h7⟩:=hr i (by omega);cases hA:A i with
     | none=>
       have hC:=h6 hA;have hL:L i=0:=by omega
       rw[hC,hL];simpa using zB W W.heap.size
     | some a'=>exact zC h2 h3 (by omega) (λj hj=>(h7 a' hA).2 j (by omega))
theorem zU {b0:Nat} {t e q:TypeId} {f0 f1:Field} {v:Value} {d:DataW H} {p:List MemPlace} (hs:P.underlying t=some (.struct #[f0,f1])) (hone:oneCellFields P #[f0,f1]=true) (hC:P.cellsOf t=2)
 (h0:P.underlying f0.type=some (.int .i64)) (h1:P.underlying f1.type=some (.slice e)) (he:P.underlying e=some (.slice q)) (hq:P.underlying q=some (.int .i64)) (ce:P.cellsOf e=1) (cq:P.cellsOf q=1)
 (hv:Value.okWide P W .any b0 t v) (h:DataW.Trod enc P W 0 (λ_=>true) true t v d p):∃ (ep:Int) (u:Value) (cs:List (List Int)),v= .agg #[.int .i64 ep,u]/\cO W W.heap.size u cs:=by
 obtain⟨v0,v1,y0,y1,n,rfl,rfl,rfl,k0,k1⟩:=open_agg2 hs hone hC hv h;obtain⟨z,rfl,_,_⟩:=eU h0 k0;obtain⟨cs,hg⟩:=zS h1 he hq ce cq k1;exact⟨z,v1,cs,rfl,hg⟩
end
end Go.Proofs.YtdilnodbfnlhdaaGreatDoor
