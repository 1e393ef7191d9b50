/-
  The words of a key and a version, plain, and what both lanes come to.
-/
import Derived.Test.YtccfhegckdmanaaDoorMMix
namespace Go.Proofs.YtccfhegckdmanaaDoor
set_option linter.unusedVariables false

/-- Bytes as a number, the first byte the lowest one. -/
def leB : List UInt8 → Nat
  | [] => 0
  | b :: r => b.toNat + 256 * leB r

theorem leB_lt : ∀ l : List UInt8, leB l < 256 ^ l.length
  | [] => by simp [leB]
  | b :: r => by
    have h := leB_lt r
    have hb := b.toNat_lt
    simp only [leB, List.length_cons, Nat.pow_succ]
    omega

theorem leB_snoc (b : UInt8) : ∀ l : List UInt8, leB (l ++ [b]) = leB l + 256 ^ l.length * b.toNat
  | [] => by simp [leB]
  | a :: r => by
    simp only [List.cons_append, leB, leB_snoc b r, List.length_cons, Nat.pow_succ]
    rw [Nat.mul_add, Nat.add_assoc, ← Nat.mul_assoc, Nat.mul_comm 256 (256 ^ r.length)]

/-- The word that begins at byte m. -/
def wordN (k : List UInt8) (m : Nat) : Nat := leB ((k.drop m).take 8)

theorem wordN_lt (k : List UInt8) (m : Nat) : wordN k m < 18446744073709551616 := by
  have h := leB_lt ((k.drop m).take 8)
  have hl : ((k.drop m).take 8).length ≤ 8 := by simp; omega
  have : 256 ^ ((k.drop m).take 8).length ≤ 256 ^ 8 := Nat.pow_le_pow_right (by decide) hl
  unfold wordN
  omega

/-- The first j words of a key. -/
def keyW (k : List UInt8) (j : Nat) : List Int := (List.range j).map fun m => (wordN k (8 * m) : Int)

theorem keyW_succ (k : List UInt8) (j : Nat) : keyW k (j + 1) = keyW k j ++ [(wordN k (8 * j) : Int)] := by simp [keyW, List.range_succ]

theorem keyW_length (k : List UInt8) (j : Nat) : (keyW k j).length = j := by simp [keyW]

/-- How many words a key has. -/
def keyN (n : Nat) : Nat := (n + 7) / 8

/-- All words of a key and a version. -/
def wordsI (k : ByteArray) (c n : Int) : List Int := (k.size : Int) :: keyW k.data.toList (keyN k.size) ++ [IntKind.u64.wrap c, IntKind.u64.wrap n]

def lane0 (ws : List Int) : Int := ws.foldl (mixI 11400714819323198485 29) 2611923443488327891
def lane1 (ws : List Int) : Int := ws.foldl (mixI 14029467366897019727 32) 1376283091369227076

theorem lane0_snoc (ws : List Int) (u : Int) : lane0 (ws ++ [u]) = mixI 11400714819323198485 29 (lane0 ws) u := by simp [lane0]
theorem lane1_snoc (ws : List Int) (u : Int) : lane1 (ws ++ [u]) = mixI 14029467366897019727 32 (lane1 ws) u := by simp [lane1]

/-- What an entry comes to, lane by lane. -/
def of0 (k : ByteArray) (c n : Int) : Int := lane0 (wordsI k c n)
def of1 (k : ByteArray) (c n : Int) : Int := lane1 (wordsI k c n)

def ofV (k : ByteArray) (c n : Int) : Value := .agg #[.int .u64 (of0 k c n), .int .u64 (of1 k c n)]

theorem wordsI_snoc (k : ByteArray) (c n : Int) : wordsI k c n = (((k.size : Int) :: keyW k.data.toList (keyN k.size)) ++ [IntKind.u64.wrap c]) ++ [IntKind.u64.wrap n] := by simp [wordsI]

/-- The list that the document's loop has made of the first i bytes. -/
def doneW (k : List UInt8) (i : Nat) : List Int := keyW k (i / 8) ++ (if i % 8 = 0 then [] else [(leB ((k.drop (8 * (i / 8))).take (i % 8)) : Int)])

theorem doneW_zero (k : List UInt8) : doneW k 0 = [] := by simp [doneW, keyW]

theorem doneW_all (k : List UInt8) : doneW k k.length = keyW k (keyN k.length) := by
  unfold doneW keyN
  by_cases h : k.length % 8 = 0
  · rw [if_pos h, List.append_nil, show (k.length + 7) / 8 = k.length / 8 from by omega]
  · rw [if_neg h, show (k.length + 7) / 8 = k.length / 8 + 1 from by omega, keyW_succ]
    congr 3
    unfold wordN
    rw [List.take_of_length_le (by simp; omega), List.take_of_length_le (by simp; omega)]

/-- The part word at byte i, ahead of it and behind it. -/
def partN (k : List UInt8) (i : Nat) : Nat := leB ((k.drop (8 * (i / 8))).take (i % 8))

theorem partN_lt (k : List UInt8) (i : Nat) : partN k i < 256 ^ (i % 8) := by
  have h := leB_lt ((k.drop (8 * (i / 8))).take (i % 8))
  have hl : ((k.drop (8 * (i / 8))).take (i % 8)).length ≤ i % 8 := by simp; omega
  have : 256 ^ ((k.drop (8 * (i / 8))).take (i % 8)).length ≤ 256 ^ (i % 8) := Nat.pow_le_pow_right (by decide) hl
  unfold partN
  omega

theorem doneW_next (k : List UInt8) (i : Nat) (h : i < k.length) : doneW k (i + 1) = keyW k (i / 8) ++ [((partN k i + k[i].toNat * 256 ^ (i % 8) : Nat) : Int)] := by
  have hd : (k.drop (8 * (i / 8))).take (i % 8 + 1) = (k.drop (8 * (i / 8))).take (i % 8) ++ [k[i]] := by
    rw [List.take_add_one]
    congr 1
    rw [List.getElem?_drop, show 8 * (i / 8) + i % 8 = i from by omega, List.getElem?_eq_getElem h]
    rfl
  have hv : leB ((k.drop (8 * (i / 8))).take (i % 8 + 1)) = partN k i + k[i].toNat * 256 ^ (i % 8) := by
    rw [hd, leB_snoc, show ((k.drop (8 * (i / 8))).take (i % 8)).length = i % 8 from by rw [List.length_take, List.length_drop]; omega]
    unfold partN
    rw [Nat.mul_comm k[i].toNat]
  unfold doneW
  by_cases h7 : i % 8 = 7
  · rw [if_pos (by omega), List.append_nil, show (i + 1) / 8 = i / 8 + 1 from by omega, keyW_succ, ← hv, h7]
    rfl
  · rw [if_neg (by omega), show (i + 1) / 8 = i / 8 from by omega, show (i + 1) % 8 = i % 8 + 1 from by omega, hv]

theorem doneW_here (k : List UInt8) (i : Nat) (h : i % 8 ≠ 0) : doneW k i = keyW k (i / 8) ++ [(partN k i : Int)] := by
  unfold doneW
  rw [if_neg h]
  rfl

theorem doneW_edge (k : List UInt8) (i : Nat) (h : i % 8 = 0) : doneW k i = keyW k (i / 8) ∧ partN k i = 0 := by
  unfold doneW partN
  rw [if_pos h, h]
  simp [leB]

theorem sum_lt (k : List UInt8) (i : Nat) (c : UInt8) : partN k i + c.toNat * 256 ^ (i % 8) < 18446744073709551616 := by
  have h := partN_lt k i
  have hc := c.toNat_lt
  have h8 : i % 8 < 8 := by omega
  generalize i % 8 = r at *
  generalize partN k i = p at *
  generalize c.toNat = q at *
  match r, h8 with
  | 0, _ | 1, _ | 2, _ | 3, _ | 4, _ | 5, _ | 6, _ | 7, _ => simp at h ⊢; omega

end Go.Proofs.YtccfhegckdmanaaDoor
