import Derived.Test.YtdilnodbfnlhdaaGreatDoorGMem
import Derived.Test.YtdilnodbfnlhdaaGreatDoorGKeep
import Derived.Maps.AppendAt
import Derived.RegionTactic
import Derived.OwnWalk
import Derived.Laws.MakeOwn
import Derived.Lib.AppendStr
namespace Tide
open Go Go.RowKit
theorem kG (w:World) (e:TypeId) (cs:Array Value) (base n cap g:Nat) (xs:List Value) (hg:g=w.heap.size) (hb:base<=w.heap.size) (hn:n<=cap) (hc:cap<=maxLen) (hs:cs.size=cap) (hx:cs.toList.take n=xs):
 (w.alloc (.cells cs e)).ownsRow base e 1 (.slice (some ⟨g,0,none⟩) n cap) n xs:=by
 subst hg;refine⟨?_,.inr ⟨w.heap.size,cap,cs,rfl,hb,heap_alloc_new w _,hn,hc,by omega,by simpa using hx⟩⟩;rw[<-hx,List.length_take,Array.length_toList];omega
section
variable {P:Program} (w:World)
theorem sJ (base t ty e:Nat) (i:TypeInfo) (z:Value) (bytes:Nat) (ht:P.underlying t=some (.slice e)) (hi:P.info? e=some i) (hz:i.zero=some z)
 (hsize:i.size=1) (hby:i.bytes=bytes) (hzs:z.cells.size=1) (v:Value) (n:Nat) (xs:List Value) (hown:w.ownsRow base e 1 v n xs)
 (B:Nat) (x:Value) (news:List Value) (hr:Row w B x news) (h1:∀u ∈ news,u.oneCell'=true)
 (h63:n+news.length<=maxLen) (hbytes:(n+news.length) * bytes<=140737488355328) (hbase:base<=w.heap.size):
 ∃v' w',(Builtin.append_ #[t,t] ty #[v,x]).run P w= .ok v' w'/\w'.ownsRow base e 1 v' (n+news.length) (xs ++ news)/\w.grownBy w' v.ownBlock/\
  (v'.ownBlock=v.ownBlock\/v'.ownBlock=some w.heap.size):=by
 obtain⟨_,A,c,rfl,_,_,hc⟩:=hr;rcases A with _|ad
 · have hn:news= []:=Classical.byContradiction λhne=>by obtain⟨_,_,h,_⟩:=hc hne;cases h
   subst hn;refine⟨v,w,?_,by simpa using hown,World.grownBy.refl w _,.inl rfl⟩;rcases hown.2 with⟨rfl,rfl⟩|⟨g,cap,cur,rfl,_,_,hnc,_⟩
   · simp[Builtin.append_,run_underlying ht,Go.sizeOf,typeInfo,hi,Builtin.lenOf,Builtin.firstCells]
   · simp[Builtin.append_,run_underlying ht,Go.sizeOf,typeInfo,hi,Builtin.lenOf,Builtin.firstCells,hnc,storeCells]
 · have hcells:∀j u,news[j]? =some u->w.cell? (ad.add j)=some u:=by intro j u hu;obtain⟨b,o,h,_,hcell⟩:=hc (by intro e;subst e;simp at hu);injection h with h;subst h;rw[show(⟨b,o,none⟩:Addr).add j=⟨b,o+j,none⟩ by unfold Addr.add;split<;>simp_all];exact hcell j u hu
   obtain⟨v',w',hrun,h2,h3,_,h5⟩:=run_append_own_at (P:=P) w base t ty e i z 1 bytes ht hi hz hsize hby hzs (by omega) v n xs hown ad news.length c news (by omega) hcells h1 h63 hbytes hbase;exact⟨v',w',hrun,h2,h3,h5⟩
theorem kU {ops:Array Oper} {rest:List Oper} {o:Oper} {a:Act} {Q:Exit->Act->World->Prop} (hgd:o.guard=none) (s x:Operand) (t:TypeId)
 (ho:o.op= .call { callee:= .builtin .append,args:= #[s,x],argTypes:= #[t,t] })
 (base:Nat) (e:TypeId) (i:TypeInfo) (z:Value) (bytes:Nat) (ht:P.underlying t=some (.slice e)) (hi:P.info? e=some i) (hz:i.zero=some z)
 (hsize:i.size=1) (hby:i.bytes=bytes) (hzs:z.cells.size=1) (v:Value) (n:Nat) (xs:List Value) (hs:a.eval s=v) (hown:w.ownsRow base e 1 v n xs)
 (B:Nat) (y:Value) (news:List Value) (hx:a.eval x=y) (hr:Row w B y news) (h1:∀u ∈ news,u.oneCell'=true)
 (h63:n+news.length<=maxLen) (hbytes:(n+news.length) * bytes<=140737488355328) (hbase:base<=w.heap.size)
 (h:∀v' w',w'.ownsRow base e 1 v' (n+news.length) (xs ++ news)->w.grownBy w' v.ownBlock->(v'.ownBlock=v.ownBlock\/v'.ownBlock=some w.heap.size)->wpList P ops Q rest (a.put o.dst v') w'):wpList P ops Q (o :: rest) a w:=
 wpList_plain hgd λK hK=>by obtain⟨v',w',hrun,h2,h3,h4⟩:=sJ (P:=P) w base t o.type e i z bytes ht hi hz hsize hby hzs v n xs hown B y news hr h1 h63 hbytes hbase;unfold Oper.wp execOp;simp only[ho,resolve,invoke,builtin,Sem.run_bind,Sem.run_pure,Result.andThen_ok,List.map_toArray,List.map_cons,List.map_nil,hs,hx,hrun];exact hK _ _ (h v' w' h2 h3 h4)
theorem jf {ops:Array Oper} {o:Oper} {a:Act} {K:Act->World->Prop} {Q:Exit->Act->World->Prop} {E:Prop} (hgd:o.guard=none) (s x:Operand) (t:TypeId)
 (ho:o.op= .call { callee:= .builtin .append,args:= #[s,x],argTypes:= #[t,t] })
 (base:Nat) (e:TypeId) (i:TypeInfo) (z:Value) (bytes:Nat) (ht:P.underlying t=some (.slice e)) (hi:P.info? e=some i) (hz:i.zero=some z)
 (hsize:i.size=1) (hby:i.bytes=bytes) (hzs:z.cells.size=1) (v:Value) (n:Nat) (xs:List Value) (hs:a.eval s=v) (hown:w.ownsRow base e 1 v n xs)
 (B:Nat) (y:Value) (news:List Value) (hx:a.eval x=y) (hr:Row w B y news) (h1:∀u ∈ news,u.oneCell'=true)
 (h63:n+news.length<=maxLen) (hbytes:(n+news.length) * bytes<=140737488355328) (hbase:base<=w.heap.size)
 (h:∀v' w',w'.ownsRow base e 1 v' (n+news.length) (xs ++ news)->w.grownBy w' v.ownBlock->(v'.ownBlock=v.ownBlock\/v'.ownBlock=some w.heap.size)->Below base w w'->K (a.put o.dst v') w'):
 if Region.wanted o (yielded ops a.tmps)=true then Oper.wp P o a w K Q else E:=by
 have hw:Region.wanted o (yielded ops a.tmps)=true:=by simp[Region.wanted,hgd]
 rw[if_pos hw];obtain⟨v',w',hrun,h2,h3,h4⟩:=sJ (P:=P) w base t o.type e i z bytes ht hi hz hsize hby hzs v n xs hown B y news hr h1 h63 hbytes hbase;unfold Oper.wp execOp;simp only[ho,resolve,invoke,builtin,Sem.run_bind,Sem.run_pure,Result.andThen_ok,List.map_toArray,List.map_cons,List.map_nil,hs,hx,hrun];exact h v' w' h2 h3 h4 ((Below.refl base w).grown h3 hbase (λk hk=>(hown.lt k hk).1))
end
end Tide
namespace Tide
open Go Go.RowKit Go.Lib
section
variable {P:Program} (w:World)
theorem DL (s:ByteArray):strCells s=aj s.data.toList:=rfl
theorem Cm (base:Nat) (t u ty e:TypeId) (i:TypeInfo) (ht:P.underlying t=some (.slice e)) (hu:P.underlying u=some .string) (hi:P.info? e=some i) (hz:i.zero=some (.int .u8 0))
 (hsize:i.size=1) (hby:i.bytes=1) (v:Value) (l:List UInt8) (hown:w.ownsRow base e 1 v l.length (aj l)) (s:ByteArray)
 (h63:l.length+s.size<=140737488355328) (hbase:base<=w.heap.size):
 ∃v' w',(Builtin.append_ #[t,u] ty #[v,.string s]).run P w= .ok v' w'/\w'.ownsRow base e 1 v' (l ++ s.data.toList).length (aj (l ++ s.data.toList))/\w.grownBy w' v.ownBlock/\
  (v'.ownBlock=v.ownBlock\/v'.ownBlock=some w.heap.size):=by
 obtain⟨v',w',hr,h2,h3,h4⟩:=run_append_own_string (P:=P) w base t u ty e i ht hu hi hz hsize hby v _ _ hown s (by unfold maxLen;omega) h63 hbase;rw[DL,<-oR]at h2;have hl:(l ++ s.data.toList).length=l.length+s.size:=by rw[List.length_append,Array.length_toList];rfl
 refine⟨v',w',hr,by rw[hl];exact h2,h3,?_⟩;rcases hown.2 with⟨rfl,h0⟩|⟨g,cap,cur,rfl,_,hg,hn,hm,hs,hx⟩
 · by_cases hz0:s.size=0
   · rw[h4.2 ⟨rfl,hz0⟩];exact .inl rfl
   · have hr2:=run_append_nil_string (P:=P) (w:=w) t u ty e i (.int .u8 0) ht hu hi hz s (by omega) (by omega) (by rw[hby];omega);rw[hr2]at hr;injection hr with e1 _;rw[<-e1];exact .inr rfl
 · by_cases hroom:l.length+s.size<=cap
   · have hr2:=run_append_room_string (P:=P) w t u ty e i ht hu hi hsize g l.length cap cur hg s hroom (by omega);rw[hr2]at hr;injection hr with e1 _;rw[<-e1];exact .inl rfl
   · have holds:∀j u,(aj l)[j]? =some u->w.cell? ((⟨g,0,none⟩:Addr).add j)=some u:=hown.cells (g:=g) rfl;have hr2:=run_append_grow_string (P:=P) w t u ty e i (.int .u8 0) ht hu hi hz ⟨g,0,none⟩ l.length cap (aj l) (by rw[hsize,aR,Nat.mul_one]) holds s (by omega) (by omega) (by rw[hby];exact growslice_fits (by omega) (by omega));rw[hr2]at hr;injection hr with e1 _;rw[<-e1];exact .inr rfl
theorem EH {ops:Array Oper} {rest:List Oper} {o:Oper} {a:Act} {Q:Exit->Act->World->Prop} (hgd:o.guard=none) (sl x:Operand) (t u:TypeId)
 (ho:o.op= .call { callee:= .builtin .append,args:= #[sl,x],argTypes:= #[t,u] })
 (base:Nat) (e:TypeId) (i:TypeInfo) (ht:P.underlying t=some (.slice e)) (hu:P.underlying u=some .string) (hi:P.info? e=some i) (hz:i.zero=some (.int .u8 0))
 (hsize:i.size=1) (hby:i.bytes=1)
 (v:Value) (l:List UInt8) (hs:a.eval sl=v) (hown:w.ownsRow base e 1 v l.length (aj l)) (s:ByteArray) (hx:a.eval x= .string s) (r:List UInt8) (er:r=l ++ s.data.toList)
 (h63:l.length+s.size<=140737488355328) (hbase:base<=w.heap.size)
 (h:∀v' w',w'.ownsRow base e 1 v' r.length (aj r)->w.grownBy w' v.ownBlock->(v'.ownBlock=v.ownBlock\/v'.ownBlock=some w.heap.size)->wpList P ops Q rest (a.put o.dst v') w'):wpList P ops Q (o :: rest) a w:=by
 subst er;refine wpList_plain hgd λK hK=> ?_;obtain⟨v',w',hr,h2,h3,h4⟩:=Cm (P:=P) w base t u o.type e i ht hu hi hz hsize hby v l hown s h63 hbase;unfold Oper.wp execOp;simp only[ho,resolve,invoke,builtin,Sem.run_bind,Sem.run_pure,Result.andThen_ok,List.map_toArray,List.map_cons,List.map_nil,hs,hx,hr];exact hK _ _ (h v' w' h2 h3 h4)
end
end Tide
