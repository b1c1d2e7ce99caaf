import Derived.Test.YtdilnodbfnlhdaaGreatDoorGMem
import Derived.Test.YtdilnodbfnlhdaaGreatDoorGKeep
import Derived.WalkKit
import Derived.Deep.Matrix
namespace Go.Proofs.YtdilnodbfnlhdaaGreatDoor
open Go Go.RowKit
end Go.Proofs.YtdilnodbfnlhdaaGreatDoor
namespace Go.Proofs.YtdilnodbfnlhdaaGreatDoor
open Go Go.ChangeShapes Go.WideShapes Go.ChangeAt Go.RowKit Tide
def bytesOf (zs:List Int):List UInt8:=zs.map λz=>UInt8.ofNat z.toNat
theorem Ed {zs:List Int} (h:∀z ∈ zs,(Lit.int .u8 z).wf=true):aj (bytesOf zs)=zs.map (Value.int .u8):=by
 unfold aj bytesOf;rw[List.map_map];apply List.map_congr_left;intro z hz;have:=bounds_u8 (h z hz);have e:((UInt8.ofNat z.toNat).toNat:Int)=z:=by rw[UInt8.toNat_ofNat_of_lt' (show z.toNat < 256 by omega)];omega
 show Value.int .u8 ((UInt8.ofNat z.toNat).toNat:Int)=Value.int .u8 z;rw[e]
theorem Ck {w:World} {a:Addr} {len cap:Nat} {zs:List Int} (hl:len<=cap) (hc:cap<=maxLen) (hz:len<=zs.length) (hw:∀z ∈ zs,(Lit.int .u8 z).wf=true)
 (hcell:∀i,i < len->w.cell? (a.add i)=some (.int .u8 (zs.getD i 0))):Bytes w w.heap.size (.slice (some a) len cap) (bytesOf (zs.take len)):=by
 unfold maxLen at hc;have hlen:(bytesOf (zs.take len)).length=len:=by simp[bytesOf];omega
 have hwt:∀z ∈ zs.take len,(Lit.int .u8 z).wf=true:=λz h=>hw z (List.mem_of_mem_take h);refine⟨by rw[aR];omega,some a,cap,by rw[aR,hlen],by rw[aR];omega,hc,λhne=> ?_⟩;have hpos:0 < len:=by
  rcases Nat.eq_zero_or_pos len with h0|h0
  · subst h0;exact absurd (by simp[bytesOf,aj]) hne
  · exact h0
 obtain⟨b,off,spot⟩:=a;have hspot:spot=none:=by simpa[Addr.add]using World.cell?_spot (hcell 0 hpos)
 subst hspot;have ha:∀j,(⟨b,off,none⟩:Addr).add j=⟨b,off+j,none⟩:=λj=>by unfold Addr.add;split<;>simp_all
 refine⟨b,off,rfl,?_,λj u hu=> ?_⟩
 · have:=World.block_lt_of_cell? _ _ (hcell 0 hpos);rw[ha]at this;exact this
 · rw[Ed hwt]at hu;have hj:j < len:=by have:=(List.getElem?_eq_some_iff.1 hu).1;simp at this;omega
   rw[List.getElem?_map,List.getElem?_take_of_lt hj]at hu;have h1:=hcell j hj;rw[ha,List.getD_eq_getElem?_getD]at h1;have hjz:j < zs.length:=by omega
   rw[List.getElem?_eq_getElem hjz]at h1 hu;simp at h1 hu;rw[h1,hu]
theorem vQ (w:World) (B:Nat):Bytes w B (.slice none 0 0) []:=⟨by simp[aj],none,0,by simp[aj],by simp[aj],by simp,λh=>absurd rfl h⟩
end Go.Proofs.YtdilnodbfnlhdaaGreatDoor
