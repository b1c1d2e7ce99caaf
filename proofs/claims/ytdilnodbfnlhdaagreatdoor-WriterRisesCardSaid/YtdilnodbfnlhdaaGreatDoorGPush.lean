import Derived.Test.YtdilnodbfnlhdaaGreatDoorGKeep
import Derived.Test.YtdilnodbfnlhdaaGreatDoorGApp
import Derived.WalkKit
namespace Go.Proofs.YtdilnodbfnlhdaaGreatDoor
open Go Go.RowKit Tide
theorem jF:(Tryz.prog.info? 3).map (λi=>(i.zero,i.size,i.bytes))=some (some (.int .i64 0),1,8):=by kernel_rfl
theorem lE (l:List Int):∀u ∈ ay l,u.oneCell'=true:=by intro u hu;simp only[ay,List.mem_map]at hu;obtain⟨z,_,rfl⟩:=hu;rfl
theorem yv (l m:List Int):ay (l ++ m)=ay l ++ ay m:=by simp[ay]
def Own (w:World) (base:Nat) (v:Value) (l:List Int):Prop:=w.ownsRow base 3 1 v l.length (ay l)
theorem Own.row {w:World} {base:Nat} {v:Value} {l:List Int} (h:Own w base v l):Row w w.heap.size v (ay l):=Row.dm h (Nat.le_refl _)
theorem Own.below {w w':World} {base:Nat} {v:Value} {l:List Int} (h:Own w base v l) (hb:Below w.heap.size w w'):Own w' base v l:=bp h hb
theorem Own.new (w:World) (base:Nat) (hb:base<=w.heap.size) (g:Nat) (hg:g=w.heap.size):Own (w.alloc (.cells #[] 3)) base (.slice (some ⟨g,0,none⟩) 0 0) []:=
 kG _ _ _ _ _ _ _ _ hg hb (Nat.le_refl _) (by simp[maxLen]) rfl rfl
theorem uf {ops:Array Oper} {rest:List Oper} {o:Oper} {a:Act} {Q:Exit->Act->World->Prop} (hgd:o.guard=none) (s y:Operand) (ho:o.op= .call { callee:= .builtin .append,args:= #[s,y],argTypes:= #[71,71] })
 {W:World} {base:Nat} {v:Value} {l:List Int} (x:Int) (hs:a.eval s=v) (hy:a.eval y= .slice (some ⟨W.heap.size,0,none⟩) 1 1) (hown:Own W base v l) (hl:l.length<=1000000) (hb:base<=W.heap.size)
 (h:∀v' w',Own w' base v' (l ++ [x])->Kept (λk=>v.ownBlock=some k) W w'->Below base W w'->wpList Tryz.prog ops Q rest (a.put o.dst v') w'):wpList Tryz.prog ops Q (o :: rest) a (W.alloc (.cells #[.int .i64 x] 3)):=by
 obtain⟨i0,hi,hz0,hz1,hz2⟩:=info_parts jF;refine kU (W.alloc (.cells #[.int .i64 x] 3)) hgd s y _ ho base 3 i0 (.int .i64 0) 8 Tryz.underlying71 hi hz0 hz1 hz2 rfl _ l.length (ay l) hs (bp hown ((Below.refl _ _).alloc (Nat.le_refl _) _)) (W.heap.size+1) _ [.int .i64 x] hy (Row.new W _ #[.int .i64 x] (0,0) W.heap.size 1 rfl rfl (by omega)) (by simp[Value.oneCell']) (by simp[maxLen];omega) (by simp;omega) (by simp;omega) ?_;intro v' w' h1 h2 _;refine h v' w' ?_ (Kept.grown ((Kept.refl (λk=>v.ownBlock=some k) W).alloc _) h2 (λk hk=> .inl hk)) ?_
 · unfold Own;rw[yv,List.length_append];exact h1
 · exact((Below.refl base W).alloc hb _).grown h2 (by simp;omega) (λk hk=>(hown.lt k hk).1)
end Go.Proofs.YtdilnodbfnlhdaaGreatDoor
namespace Go.Proofs.YtdilnodbfnlhdaaGreatDoor
open Go Go.RowKit Tide
def fl (l:List Nat):List Value:=l.map λg=> .pointer (some ⟨g,0,none⟩)
theorem AY (l m:List Nat):fl (l ++ m)=fl l ++ fl m:=by simp[fl]
theorem oe (l:List Nat):(fl l).length=l.length:=by simp[fl]
theorem ys:(Tryz.prog.info? 81).map (λi=>(i.zero,i.size,i.bytes))=some (some (.pointer none),1,8):=by kernel_rfl
theorem yp:(Tryz.prog.info? 84).map (λi=>(i.zero,i.size,i.bytes))=some (some (.pointer none),1,8):=by kernel_rfl
end Go.Proofs.YtdilnodbfnlhdaaGreatDoor
