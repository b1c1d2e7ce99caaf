import Derived.Test.YtiafamacjpgjoaaGreatDoorGKeep
import Derived.Test.YtiafamacjpgjoaaGreatDoorGApp
import Derived.WalkKit
namespace Go.Proofs.YtiafamacjpgjoaaGreatDoor
open Go Go.RowKit Tide
theorem sr:(Tryz.prog.info? 3).map (λi=>(i.zero,i.size,i.bytes))=some (some (.int .i64 0),1,8):=by kernel_rfl
theorem zt (l:List Int):∀u ∈ az l,u.oneCell'=true:=by intro u hu;simp only[az,List.mem_map]at hu;obtain⟨z,_,rfl⟩:=hu;rfl
theorem zr (l m:List Int):az (l ++ m)=az l ++ az m:=by simp[az]
def Own (w:World) (base:Nat) (v:Value) (l:List Int):Prop:=w.ownsRow base 3 1 v l.length (az l)
theorem Own.row {w:World} {base:Nat} {v:Value} {l:List Int} (h:Own w base v l):Row w w.heap.size v (az l):=Row.cm h (Nat.le_refl _)
theorem Own.below {w w':World} {base:Nat} {v:Value} {l:List Int} (h:Own w base v l) (hb:Below w.heap.size w w'):Own w' base v l:=bf h hb
theorem Own.new (w:World) (base:Nat) (hb:base<=w.heap.size) (g:Nat) (hg:g=w.heap.size):Own (w.alloc (.cells #[] 3)) base (.slice (some ⟨g,0,none⟩) 0 0) []:=
 jr _ _ _ _ _ _ _ _ hg hb (Nat.le_refl _) (by simp[maxLen]) rfl rfl
theorem qf {ops:Array Oper} {rest:List Oper} {o:Oper} {a:Act} {Q:Exit->Act->World->Prop} (hgd:o.guard=none) (s y:Operand) (ho:o.op= .call { callee:= .builtin .append,args:= #[s,y],argTypes:= #[41,41] })
 {W:World} {base:Nat} {v:Value} {l:List Int} (x:Int) (hs:a.eval s=v) (hy:a.eval y= .slice (some ⟨W.heap.size,0,none⟩) 1 1) (hown:Own W base v l) (hl:l.length<=1000000) (hb:base<=W.heap.size)
 (h:∀v' w',Own w' base v' (l ++ [x])->Kept (λk=>v.ownBlock=some k) W w'->Below base W w'->wpList Tryz.prog ops Q rest (a.put o.dst v') w'):wpList Tryz.prog ops Q (o :: rest) a (W.alloc (.cells #[.int .i64 x] 3)):=by
 obtain⟨i0,hi,hz0,hz1,hz2⟩:=info_parts sr;refine jy (W.alloc (.cells #[.int .i64 x] 3)) hgd s y _ ho base 3 i0 (.int .i64 0) 8 Tryz.underlying41 hi hz0 hz1 hz2 rfl _ l.length (az l) hs (bf hown ((Below.refl _ _).alloc (Nat.le_refl _) _)) (W.heap.size+1) _ [.int .i64 x] hy (Row.new W _ #[.int .i64 x] (0,0) W.heap.size 1 rfl rfl (by omega)) (by simp[Value.oneCell']) (by simp[maxLen];omega) (by simp;omega) (by simp;omega) ?_;intro v' w' h1 h2 _;refine h v' w' ?_ (Kept.grown ((Kept.refl (λk=>v.ownBlock=some k) W).alloc _) h2 (λk hk=> .inl hk)) ?_
 · unfold Own;rw[zr,List.length_append];exact h1
 · exact((Below.refl base W).alloc hb _).grown h2 (by simp;omega) (λk hk=>(hown.lt k hk).1)
end Go.Proofs.YtiafamacjpgjoaaGreatDoor
namespace Go.Proofs.YtiafamacjpgjoaaGreatDoor
open Go Go.RowKit Tide
def cP (l:List Nat):List Value:=l.map λg=> .pointer (some ⟨g,0,none⟩)
theorem Bz (l:List Nat):∀u ∈ cP l,u.oneCell'=true:=by intro u hu;simp only[cP,List.mem_map]at hu;obtain⟨z,_,rfl⟩:=hu;rfl
theorem tA (l m:List Nat):cP (l ++ m)=cP l ++ cP m:=by simp[cP]
theorem By (l:List Nat):(cP l).length=l.length:=by simp[cP]
theorem sx:(Tryz.prog.info? 70).map (λi=>(i.zero,i.size,i.bytes))=some (some (.pointer none),1,8):=by kernel_rfl
def dL (w:World) (base:Nat) (v:Value) (l:List Nat):Prop:=w.ownsRow base 70 1 v l.length (cP l)
theorem dL.row {w:World} {base:Nat} {v:Value} {l:List Nat} (h:dL w base v l):Row w w.heap.size v (cP l):=Row.cm h (Nat.le_refl _)
theorem dL.below {w w':World} {base:Nat} {v:Value} {l:List Nat} (h:dL w base v l) (hb:Below w.heap.size w w'):dL w' base v l:=bf h hb
theorem dL.kept {K:Nat->Prop} {w w':World} {base:Nat} {v:Value} {l:List Nat} (h:dL w base v l) (hk:Kept K w w') (hf:∀k,v.ownBlock=some k->¬K k):dL w' base v l:=hk.own h hf
theorem dL.new (w:World) (base:Nat) (hb:base<=w.heap.size) (g:Nat) (hg:g=w.heap.size):dL (w.alloc (.cells #[] 70)) base (.slice (some ⟨g,0,none⟩) 0 0) []:=
 jr _ _ _ _ _ _ _ _ hg hb (Nat.le_refl _) (by simp[maxLen]) rfl rfl
theorem ES {ops:Array Oper} {rest:List Oper} {o:Oper} {a:Act} {Q:Exit->Act->World->Prop} (hgd:o.guard=none) (s y:Operand) (ho:o.op= .call { callee:= .builtin .append,args:= #[s,y],argTypes:= #[31,31] })
 {W:World} {base:Nat} {v:Value} {l:List Nat} (x:Nat) (hs:a.eval s=v) (hy:a.eval y= .slice (some ⟨W.heap.size,0,none⟩) 1 1) (hown:dL W base v l) (hl:l.length<=1000000) (hb:base<=W.heap.size)
 (h:∀v' w',dL w' base v' (l ++ [x])->Kept (λk=>v.ownBlock=some k) W w'->(v'.ownBlock=v.ownBlock\/∃k,v'.ownBlock=some k/\W.heap.size<=k)->wpList Tryz.prog ops Q rest (a.put o.dst v') w'):wpList Tryz.prog ops Q (o :: rest) a (W.alloc (.cells #[.pointer (some ⟨x,0,none⟩)] 70)):=by
 obtain⟨i0,hi,hz0,hz1,hz2⟩:=info_parts sx;refine jy (W.alloc (.cells #[.pointer (some ⟨x,0,none⟩)] 70)) hgd s y _ ho base 70 i0 (.pointer none) 8 Tryz.underlying31 hi hz0 hz1 hz2 rfl _ l.length (cP l) hs (bf hown ((Below.refl _ _).alloc (Nat.le_refl _) _)) (W.heap.size+1) _ [.pointer (some ⟨x,0,none⟩)] hy (Row.new W _ #[.pointer (some ⟨x,0,none⟩)] (0,0) W.heap.size 1 rfl rfl (by omega)) (by simp[Value.oneCell']) (by simp[maxLen];omega) (by simp;omega) (by simp;omega) ?_;intro v' w' h1 h2 h3;refine h v' w' ?_ (Kept.grown ((Kept.refl (λk=>v.ownBlock=some k) W).alloc _) h2 (λk hk=> .inl hk)) ?_
 · unfold dL;rw[tA,List.length_append];exact h1
 · exact h3.imp id (λe=>⟨_,e,by rw[World.size_alloc];omega⟩)
theorem sw:(Tryz.prog.info? 72).map (λi=>(i.zero,i.size,i.bytes))=some (some (.pointer none),1,8):=by kernel_rfl
def dK (w:World) (base:Nat) (v:Value) (l:List Nat):Prop:=w.ownsRow base 72 1 v l.length (cP l)
theorem dK.row {w:World} {base:Nat} {v:Value} {l:List Nat} (h:dK w base v l):Row w w.heap.size v (cP l):=Row.cm h (Nat.le_refl _)
theorem dK.below {w w':World} {base:Nat} {v:Value} {l:List Nat} (h:dK w base v l) (hb:Below w.heap.size w w'):dK w' base v l:=bf h hb
theorem dK.kept {K:Nat->Prop} {w w':World} {base:Nat} {v:Value} {l:List Nat} (h:dK w base v l) (hk:Kept K w w') (hf:∀k,v.ownBlock=some k->¬K k):dK w' base v l:=hk.own h hf
theorem dK.new (w:World) (base:Nat) (hb:base<=w.heap.size) (g:Nat) (hg:g=w.heap.size):dK (w.alloc (.cells #[] 72)) base (.slice (some ⟨g,0,none⟩) 0 0) []:=
 jr _ _ _ _ _ _ _ _ hg hb (Nat.le_refl _) (by simp[maxLen]) rfl rfl
theorem ER {ops:Array Oper} {rest:List Oper} {o:Oper} {a:Act} {Q:Exit->Act->World->Prop} (hgd:o.guard=none) (s y:Operand) (ho:o.op= .call { callee:= .builtin .append,args:= #[s,y],argTypes:= #[33,33] })
 {W:World} {base:Nat} {v:Value} {l:List Nat} (x:Nat) (hs:a.eval s=v) (hy:a.eval y= .slice (some ⟨W.heap.size,0,none⟩) 1 1) (hown:dK W base v l) (hl:l.length<=1000000) (hb:base<=W.heap.size)
 (h:∀v' w',dK w' base v' (l ++ [x])->Kept (λk=>v.ownBlock=some k) W w'->(v'.ownBlock=v.ownBlock\/∃k,v'.ownBlock=some k/\W.heap.size<=k)->wpList Tryz.prog ops Q rest (a.put o.dst v') w'):wpList Tryz.prog ops Q (o :: rest) a (W.alloc (.cells #[.pointer (some ⟨x,0,none⟩)] 72)):=by
 obtain⟨i0,hi,hz0,hz1,hz2⟩:=info_parts sw;refine jy (W.alloc (.cells #[.pointer (some ⟨x,0,none⟩)] 72)) hgd s y _ ho base 72 i0 (.pointer none) 8 Tryz.underlying33 hi hz0 hz1 hz2 rfl _ l.length (cP l) hs (bf hown ((Below.refl _ _).alloc (Nat.le_refl _) _)) (W.heap.size+1) _ [.pointer (some ⟨x,0,none⟩)] hy (Row.new W _ #[.pointer (some ⟨x,0,none⟩)] (0,0) W.heap.size 1 rfl rfl (by omega)) (by simp[Value.oneCell']) (by simp[maxLen];omega) (by simp;omega) (by simp;omega) ?_;intro v' w' h1 h2 h3;refine h v' w' ?_ (Kept.grown ((Kept.refl (λk=>v.ownBlock=some k) W).alloc _) h2 (λk hk=> .inl hk)) ?_
 · unfold dK;rw[tA,List.length_append];exact h1
 · exact h3.imp id (λe=>⟨_,e,by rw[World.size_alloc];omega⟩)
end Go.Proofs.YtiafamacjpgjoaaGreatDoor
