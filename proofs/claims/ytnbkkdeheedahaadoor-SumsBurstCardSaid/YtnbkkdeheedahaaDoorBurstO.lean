/- What a frame with turned bits is opened to: the error of a wrong sum, whether they are turned in its text or in its sum. -/
import Derived.Test.YtnbkkdeheedahaaDoorFramesL
import Derived.Test.YtnbkkdeheedahaaDoorBurstM
namespace Go.Proofs.YtnbkkdeheedahaaDoor
open Go.RowKit Tide

/-- Four bytes of which the first k are turned. -/
def part (d k : Nat) (a b c e : UInt8) : List UInt8 := [if 0 < k then Crc.turn d 0 a else a, if 1 < k then Crc.turn d 1 b else b, if 2 < k then Crc.turn d 2 c else c, if 3 < k then Crc.turn d 3 e else e]
def orig (a b c e : UInt8) (k : Nat) : UInt8 := [a, b, c, e].getD k 0
theorem part_zero (d : Nat) (a b c e : UInt8) : part d 0 a b c e = [a, b, c, e] := rfl
theorem part_four (d : Nat) (a b c e : UInt8) : part d 4 a b c e = [Crc.turn d 0 a, Crc.turn d 1 b, Crc.turn d 2 c, Crc.turn d 3 e] := rfl
theorem part_get (d k : Nat) (a b c e : UInt8) (h : k < 4) (P S : List UInt8) : (P ++ (part d k a b c e ++ S))[P.length + k]? = some (orig a b c e k) := by
  have : k = 0 ∨ k = 1 ∨ k = 2 ∨ k = 3 := by omega
  rcases this with rfl | rfl | rfl | rfl <;> simp [part, orig]
theorem part_set (d k : Nat) (a b c e : UInt8) (h : k < 4) (P S : List UInt8) : (P ++ (part d k a b c e ++ S)).set (P.length + k) (Crc.turn d k (orig a b c e k)) = P ++ (part d (k + 1) a b c e ++ S) := by
  have : k = 0 ∨ k = 1 ∨ k = 2 ∨ k = 3 := by omega
  rcases this with rfl | rfl | rfl | rfl <;> simp [part, orig]
theorem four_of (l : List UInt8) (i : Nat) (h : i + 4 ≤ l.length) : ∃ a b c e, l = l.take i ++ ([a, b, c, e] ++ l.drop (i + 4)) := by
  refine ⟨l[i], l[i + 1], l[i + 2], l[i + 3], ?_⟩
  conv => lhs; rw [← List.take_append_drop i l]
  congr 1
  rw [List.drop_eq_getElem_cons (by omega), List.drop_eq_getElem_cons (by omega), List.drop_eq_getElem_cons (by omega), List.drop_eq_getElem_cons (by omega)]
  rfl
theorem opened_head (n : Nat) (Y T : List UInt8) (hY : Y.length = 4) (hT : T.length = n) (hn : n ≤ 2048) (hs : leNum Y ≠ Crc.sum (le n 2 ++ T)) : opened (le n 2 ++ (Y ++ T)) = ([], [], 5) := by
  have t2 : (le n 2 ++ (Y ++ T)).take 2 = le n 2 := take_app (le_length _ _)
  have d2 : (le n 2 ++ (Y ++ T)).drop 2 = Y ++ T := drop_app (le_length _ _)
  have t4 : (Y ++ T).take 4 = Y := take_app hY
  have d4 : (Y ++ T).drop 4 = T := drop_app hY
  have d6 : (le n 2 ++ (Y ++ T)).drop 6 = T := by rw [show 6 = 2 + 4 from rfl, ← List.drop_drop, d2, d4]
  have n2 : leNum (le n 2) = n := by rw [leNum_le, Nat.mod_eq_of_lt (by omega)]
  have hl : (le n 2 ++ (Y ++ T)).length = n + 6 := by simp [le_length]; omega
  unfold opened
  rw [t2, n2, hl, if_neg (by omega), if_neg (by omega), if_neg (by omega), d2, t4, d6, List.take_of_length_le (by omega), if_neg hs]
theorem frame_parts (l : List UInt8) : frame l = le l.length 2 ++ (le (Crc.sum (le l.length 2 ++ l)) 4 ++ l) := by simp [frame]

/-- Bits that are turned in a frame's text. -/
theorem opened_text (l PG SG : List UInt8) (J d : Nat) (x0 x1 x2 x3 : UInt8) (hl : l.length ≤ 2048) (hd : d < 4294967296) (h0 : d ≠ 0) (hP : (frame l).take (6 + J) = PG) (hF : frame l = PG ++ ([x0, x1, x2, x3] ++ SG)) :
    opened (PG ++ (part d 4 x0 x1 x2 x3 ++ SG)) = ([], [], 5) := by
  have hf := frame_parts l
  have hs := Crc.sum_lt (le l.length 2 ++ l)
  generalize hS : Crc.sum (le l.length 2 ++ l) = S at *
  have hPG : PG = le l.length 2 ++ (le S 4 ++ l.take J) := by
    rw [← hP, hf, show 6 + J = (le l.length 2).length + ((le S 4).length + J) by rw [le_length, le_length]; omega, List.take_length_add_append, List.take_length_add_append]
  have hQ : l = l.take J ++ ([x0, x1, x2, x3] ++ SG) := by
    have : le l.length 2 ++ (le S 4 ++ l) = le l.length 2 ++ (le S 4 ++ (l.take J ++ ([x0, x1, x2, x3] ++ SG))) := by
      rw [← hf, hF, hPG]; simp only [List.append_assoc]
    exact List.append_cancel_left (List.append_cancel_left this)
  generalize l.take J = Q at *
  have hlen : (Q ++ (part d 4 x0 x1 x2 x3 ++ SG)).length = l.length := by
    rw [hQ]; simp [part]
  have he : PG ++ (part d 4 x0 x1 x2 x3 ++ SG) = le l.length 2 ++ (le S 4 ++ (Q ++ (part d 4 x0 x1 x2 x3 ++ SG))) := by rw [hPG]; simp only [List.append_assoc]
  rw [he]
  refine opened_head l.length _ _ (le_length _ _) hlen hl ?_
  rw [leNum_le, Nat.mod_eq_of_lt (by simpa using hs), ← hS, part_four]
  have h := Crc.sum_turn (le l.length 2 ++ Q) SG x0 x1 x2 x3 d hd h0
  intro e
  apply h
  rw [List.append_assoc, List.append_assoc, ← e, ← hQ]

/-- Bits that are turned in a frame's sum. -/
theorem opened_sum (l PH SH : List UInt8) (d : Nat) (y0 y1 y2 y3 : UInt8) (hl : l.length ≤ 2048) (hd : d < 4294967296) (h0 : d ≠ 0) (hP : (frame l).take 2 = PH) (hF : frame l = PH ++ ([y0, y1, y2, y3] ++ SH)) :
    opened (PH ++ (part d 4 y0 y1 y2 y3 ++ SH)) = ([], [], 5) := by
  have hf := frame_parts l
  have hs := Crc.sum_lt (le l.length 2 ++ l)
  generalize hS : Crc.sum (le l.length 2 ++ l) = S at *
  have hPH : PH = le l.length 2 := by rw [← hP, hf]; exact take_app (le_length _ _)
  have hQ : le S 4 ++ l = [y0, y1, y2, y3] ++ SH := by
    have : le l.length 2 ++ (le S 4 ++ l) = le l.length 2 ++ ([y0, y1, y2, y3] ++ SH) := by rw [← hf, hF, hPH]
    exact List.append_cancel_left this
  obtain ⟨hY, hT⟩ := List.append_inj hQ (by rw [le_length]; rfl)
  subst hT
  rw [hPH]
  refine opened_head l.length _ _ (by simp [part]) rfl hl ?_
  rw [hS]
  intro e
  have hn : leNum (le S 4) = S := by rw [leNum_le, Nat.mod_eq_of_lt (by simpa using hs)]
  have h1 := leNum_inj (part d 4 y0 y1 y2 y3) [y0, y1, y2, y3] (by simp [part]) (by rw [e, ← hn, hY])
  rw [part_four] at h1
  have hz : ∀ k c, Crc.turn d k c = c → d / 2 ^ (8 * k) % 256 = 0 := by
    intro k c h
    have h2 := congrArg UInt8.toNat h
    rw [Crc.turn_toNat] at h2
    have := congrArg (c.toNat ^^^ ·) h2
    simpa [← Nat.xor_assoc] using this
  simp only [List.cons.injEq, and_true] at h1
  have z0 := hz 0 _ h1.1
  have z1 := hz 1 _ h1.2.1
  have z2 := hz 2 _ h1.2.2.1
  have z3 := hz 3 _ h1.2.2.2
  simp only [Nat.mul_zero, Nat.pow_zero, Nat.div_one, Nat.mul_one, Nat.reduceMul, Nat.reducePow] at z0 z1 z2 z3
  omega
end Go.Proofs.YtnbkkdeheedahaaDoor
