/-
  Blocks and cells that stay; an entry's five cells; Check by its number.
  The code's reader in its block (IsR): NewReader, Err, At, Left, Done, Fail, by contracts.
  The document's own reader in its block (IsRR): Err, At, Left, Done, Fail, by contracts.
  Plain mathematics of numbers as bytes: how a number is laid down (enc), how the number that a row of bytes begins with is read (dec), and that each undoes the other.
  firstNum: it returns the number that the text begins with, its length and the error, as Nm.first says; the world is as it was.
  number and Num of the document's own reader: as Nm.first says; they read, and turn nothing but the reader.
  Num of the code's reader: broken, it answers 0 and stays; else it answers what the bytes at its place say (Nm.first), moves on by as many, and keeps the error.
  Text of the code's reader: broken, it answers nothing and stays; else what the bytes at its place say (textOf).
  Word of the code's reader: broken or with too few bytes left, it answers 0 and stays; else the number of the eight bytes at its place, the highest first.
  Num, Text, Word and Flag of the document's own reader, by contracts.
  Word and Flag of the document's own reader, by contracts.
  Flag of the code's reader: broken, it answers false and stays; else what the byte at its place says.
-/
import Derived.Test.YtlbkcndmljlnmaaDoorBx1
import Derived.Deep.QuietTactic
import Derived.BigQuiet
import Derived.WalkMore
import Derived.Laws.BitsAllLaws
namespace Go.Proofs.YtlbkcndmljlnmaaDoor
open Go.RowKit
/-- A block of five cells: what they are, and that they may be written. -/
theorem quintF {w : World} {i : Nat} {a b c d e : Value} {T : TypeId} (h : w.heap[i]? = some (.cells #[a, b, c, d, e] T (0, 0))) :
    (w.cell? ⟨i, 0, none⟩ = some a ∧ w.cell? ⟨i, 1, none⟩ = some b ∧ w.cell? ⟨i, 2, none⟩ = some c ∧ w.cell? ⟨i, 3, none⟩ = some d ∧ w.cell? ⟨i, 4, none⟩ = some e) ∧
    w.frozen? ⟨i, 0, none⟩ = false ∧ w.frozen? ⟨i, 1, none⟩ = false ∧ w.frozen? ⟨i, 2, none⟩ = false ∧ w.frozen? ⟨i, 3, none⟩ = false ∧ w.frozen? ⟨i, 4, none⟩ = false :=
  ⟨⟨by rw [cell_of_row _ _ 0 _ _ _ h]; rfl, by rw [cell_of_row _ _ 1 _ _ _ h]; rfl, by rw [cell_of_row _ _ 2 _ _ _ h]; rfl, by rw [cell_of_row _ _ 3 _ _ _ h]; rfl, by rw [cell_of_row _ _ 4 _ _ _ h]; rfl⟩,
    frozen_of_row _ _ 0 _ _ h, frozen_of_row _ _ 1 _ _ h, frozen_of_row _ _ 2 _ _ h, frozen_of_row _ _ 3 _ _ h, frozen_of_row _ _ 4 _ _ h⟩
theorem check_is {k : ByteArray} {c n : Int} {v : ByteArray} {d : Bool} {q : Int} (h : En.chk ⟨k, c, n, v, d⟩ = q) (w : World) :
    Calls Tryd.prog 24 #[.agg #[.string k, .int .i64 c, .int .i64 n, .string v, .bool d]] w fun e w' => e = .returned (.int .i64 q) ∧ Below w.heap.size w w' := by
  subst h; exact ichk_any k c n v d w
end Go.Proofs.YtlbkcndmljlnmaaDoor
namespace Go.Proofs.YtlbkcndmljlnmaaDoor
open Go.RowKit
/-- The slice value v reads as the bytes l in world w. -/
def Reads (w : World) (v : Value) (l : List UInt8) : Prop := ∀ n, (convert 31 9 v).run Tryd.prog (w.drewN n) = .ok (.string ⟨l.toArray⟩) (w.drewN n)
theorem Reads.now {w : World} {v : Value} {l : List UInt8} (h : Reads w v l) : (convert 31 9 v).run Tryd.prog w = .ok (.string ⟨l.toArray⟩) w := h 0
theorem reads_own {w : World} {B : Nat} {v : Value} {l : List UInt8} (hown : w.ownsRow B 5 1 v l.length (Lib.byteCells l)) : Reads w v l := fun n => conv_own (w.drewN n) B v l hown
/-- A reader of the code in block b: the text s, the place p, the error e. -/
def IsR (b : Nat) (s : ByteArray) (p e : Int) (w : World) : Prop := w.heap[b]? = some (.cells #[.string s, .int .i64 p, .int .i64 e] 162 (0, 0))
theorem IsR.lt {b : Nat} {s : ByteArray} {p e : Int} {w : World} (h : IsR b s p e w) : b < w.heap.size := (Array.getElem?_eq_some_iff.1 h).1
theorem IsR.c0 {b : Nat} {s : ByteArray} {p e : Int} {w : World} (h : IsR b s p e w) : w.cell? ⟨b, 0, none⟩ = some (.string s) := by rw [cell_of_row w b 0 _ _ _ h]; rfl
theorem IsR.c1 {b : Nat} {s : ByteArray} {p e : Int} {w : World} (h : IsR b s p e w) : w.cell? ⟨b, 1, none⟩ = some (.int .i64 p) := by rw [cell_of_row w b 1 _ _ _ h]; rfl
theorem IsR.c2 {b : Nat} {s : ByteArray} {p e : Int} {w : World} (h : IsR b s p e w) : w.cell? ⟨b, 2, none⟩ = some (.int .i64 e) := by rw [cell_of_row w b 2 _ _ _ h]; rfl
theorem IsR.f1 {b : Nat} {s : ByteArray} {p e : Int} {w : World} (h : IsR b s p e w) : w.frozen? ⟨b, 1, none⟩ = false := frozen_of_row w b 1 _ _ h
theorem IsR.f2 {b : Nat} {s : ByteArray} {p e : Int} {w : World} (h : IsR b s p e w) : w.frozen? ⟨b, 2, none⟩ = false := frozen_of_row w b 2 _ _ h
theorem IsR.set1 {b : Nat} {s : ByteArray} {p e : Int} {w : World} (h : IsR b s p e w) (q : Int) : IsR b s q e (w.setCell ⟨b, 1, none⟩ (.int .i64 q)) := by
  unfold IsR; rw [heap_setCell_same w b 1 _ _ _ h]; rfl
theorem IsR.set2 {b : Nat} {s : ByteArray} {p e : Int} {w : World} (h : IsR b s p e w) (q : Int) : IsR b s p q (w.setCell ⟨b, 2, none⟩ (.int .i64 q)) := by
  unfold IsR; rw [heap_setCell_same w b 2 _ _ _ h]; rfl
theorem IsR.keep {S : Nat → Prop} {b : Nat} {s : ByteArray} {p e : Int} {w w' : World} (h : IsR b s p e w) (k : Keeps S w w') (hb : ¬ S b) : IsR b s p e w' := (k.block b h.lt hb).trans h
theorem IsR.drewN {b : Nat} {s : ByteArray} {p e : Int} {w : World} (h : IsR b s p e w) (n : Nat) : IsR b s p e (w.drewN n) := h
set_option maxHeartbeats 400000 in
theorem newReader_any (v : Value) (l : List UInt8) (w : World) (h : Reads w v l) :
    Calls Tryd.prog 69 #[v] w fun e w' => e = .returned (.pointer (some ⟨w.heap.size, 0, none⟩)) ∧ w' = w.alloc (.cells #[.string ⟨l.toArray⟩, .int .i64 0, .int .i64 0] 162) := by
  have hcv := h.now
  go_enter Tryd.func69, Tryd.ntmps69
  go_wp2
  go_ret
  exact ⟨rfl, rfl⟩
theorem isR_new (w : World) (s : ByteArray) : IsR w.heap.size s 0 0 (w.alloc (.cells #[.string s, .int .i64 0, .int .i64 0] 162)) := heap_alloc_new w _
set_option maxHeartbeats 400000 in
theorem rerr_any (b : Nat) (s : ByteArray) (p e : Int) (w : World) (h : IsR b s p e w) :
    Calls Tryd.prog 97 #[.pointer (some ⟨b, 0, none⟩)] w fun r w' => r = .returned (.int .i64 e) ∧ w' = w := by
  have h2 := h.c2
  go_enter Tryd.func97, Tryd.ntmps97
  go_wp2
  go_ret
  exact ⟨rfl, rfl⟩
set_option maxHeartbeats 400000 in
theorem rleft_any (b : Nat) (s : ByteArray) (p e : Int) (w : World) (h : IsR b s p e w) (h0 : 0 ≤ p) (hp : p ≤ (s.size : Int)) (hs : s.size ≤ 1099511627776) :
    Calls Tryd.prog 93 #[.pointer (some ⟨b, 0, none⟩)] w fun r w' => r = .returned (.int .i64 ((s.size : Int) - p)) ∧ ∃ n, w' = w.drewN n := by
  have h1 := h.c0
  have h2 := h.c1
  go_enter Tryd.func93, Tryd.ntmps93
  go_wp2
  go_quiet (fail)
  go_wp2
  go_ret
  exact ⟨rfl, _, rfl⟩
/-- What Fail leaves. -/
def failOf (e x : Int) : Int := if e = 0 then x else e
set_option maxHeartbeats 400000 in
theorem rfail_any (b : Nat) (s : ByteArray) (p e x : Int) (w : World) (h : IsR b s p e w) :
    Calls Tryd.prog 94 #[.pointer (some ⟨b, 0, none⟩), .int .i64 x] w fun r w' => r = .returned (.tuple #[]) ∧ IsR b s p (failOf e x) w' ∧ Keeps (fun k => k = b) w w' := by
  have h1 := h.c2
  have h2 := h.f2
  have H := aside h
  clear h
  by_cases h0 : e = 0
  · subst h0
    go_enter Tryd.func94, Tryd.ntmps94
    go_wp2
    go_end0
    exact ⟨rfl, by rw [show failOf 0 x = x from if_pos rfl]; exact H.out.set2 x, (Keeps.refl (fun k => k = b) w).setCell (p := ⟨b, 2, none⟩) (fun _ => rfl) _⟩
  · have hb : (e == 0) = false := by simp [h0]
    go_enter Tryd.func94, Tryd.ntmps94
    go_wp2
    go_end0
    exact ⟨rfl, by rw [show failOf e x = e from if_neg h0]; exact H.out, Keeps.refl _ _⟩
/-- What Done tells. -/
def doneOf (left e : Int) : Int := if e = 0 ∧ 0 < left then 13 else e
set_option maxHeartbeats 400000 in
theorem rdone_any (b : Nat) (s : ByteArray) (p e : Int) (w : World) (h : IsR b s p e w) (h0 : 0 ≤ p) (hp : p ≤ (s.size : Int)) (hs : s.size ≤ 1099511627776) :
    Calls Tryd.prog 73 #[.pointer (some ⟨b, 0, none⟩)] w fun r w' => r = .returned (.int .i64 (doneOf ((s.size : Int) - p) e)) ∧ ∃ n, w' = w.drewN n := by
  have h2 := h.c2
  by_cases he : e = 0
  · subst he
    by_cases hl : 0 < (s.size : Int) - p
    · go_enter Tryd.func73, Tryd.ntmps73
      go_wp2_with (go_at_call 93; refine (rleft_any b s p 0 _ h h0 hp hs).mono ?_; rintro e w' ⟨rfl, n, rfl⟩)
      go_ret
      exact ⟨by rw [doneOf, if_pos ⟨rfl, hl⟩]; rfl, _, rfl⟩
    · have h3 := fun n => (h.drewN n).c2
      go_enter Tryd.func73, Tryd.ntmps73
      go_wp2_with (go_at_call 93; refine (rleft_any b s p 0 _ h h0 hp hs).mono ?_; rintro e w' ⟨rfl, n, rfl⟩)
      go_ret
      exact ⟨by rw [doneOf, if_neg (fun x => by omega)]; rfl, _, rfl⟩
  · have hb : (e == 0) = false := by simp [he]
    go_enter Tryd.func73, Tryd.ntmps73
    go_wp2
    go_ret
    exact ⟨by rw [doneOf, if_neg (fun x => he x.1)]; rfl, 0, rfl⟩
end Go.Proofs.YtlbkcndmljlnmaaDoor
namespace Go.Proofs.YtlbkcndmljlnmaaDoor
open Go.RowKit
set_option linter.unusedVariables false
section
variable {B b : Nat} {v : Value} {l : List UInt8} {p e : Int} {w : World}
end
end Go.Proofs.YtlbkcndmljlnmaaDoor
namespace Go.Proofs.YtlbkcndmljlnmaaDoor.Nm
/-- A number laid down: seven bits a byte, the lowest first, 128 more in each but the last. -/
def enc : Nat → Nat → List UInt8
  | 0, n => [UInt8.ofNat n]
  | f + 1, n => if n < 128 then [UInt8.ofNat n] else UInt8.ofNat (n % 128 + 128) :: enc f (n / 128)
/-- The number that bytes begin with: it, how many bytes it has, what is wrong (10: too short, 11: no such form). -/
def dec : Nat → List UInt8 → Nat × Nat × Nat
  | _, [] => (0, 0, 10)
  | 0, c :: _ => if c.toNat < 128 then (c.toNat, 1, 0) else (0, 0, 11)
  | f + 1, c :: r => if c.toNat < 128 then (c.toNat, 1, 0) else
      if (dec f r).2.2 ≠ 0 then (0, 0, (dec f r).2.2) else if (dec f r).1 = 0 then (0, 0, 11) else (c.toNat - 128 + 128 * (dec f r).1, (dec f r).2.1 + 1, 0)
/-- What was read so far (acc, of j bytes), and what the rest comes to. -/
def cmb (acc j : Nat) (r : Nat × Nat × Nat) : Nat × Nat × Nat :=
  if r.2.2 ≠ 0 then (0, 0, r.2.2) else if 0 < j ∧ r.1 = 0 then (0, 0, 11) else (acc + 128 ^ j * r.1, j + r.2.1, 0)
theorem dec_last (f : Nat) (c : UInt8) (r : List UInt8) (h : c.toNat < 128) : dec f (c :: r) = (c.toNat, 1, 0) := by
  cases f <;> simp [dec, h]
theorem dec_long (c : UInt8) (r : List UInt8) (h : ¬ c.toNat < 128) : dec 0 (c :: r) = (0, 0, 11) := by simp [dec, h]
theorem dec_nil (f : Nat) : dec f [] = (0, 0, 10) := by cases f <;> rfl
theorem cmb_zero (l : List UInt8) (f : Nat) : cmb 0 0 (dec f l) = dec f l := by
  unfold cmb
  have key : ∀ (f : Nat) (l : List UInt8), (dec f l).2.2 ≠ 0 → (dec f l).1 = 0 ∧ (dec f l).2.1 = 0 := by
    intro f
    induction f with
    | zero => intro l; cases l with
      | nil => simp [dec]
      | cons c r => simp only [dec]; split <;> simp
    | succ f ih => intro l; cases l with
      | nil => simp [dec]
      | cons c r =>
        simp only [dec]
        split
        · simp
        · split
          · simp
          · split <;> simp
  by_cases h : (dec f l).2.2 ≠ 0
  · rw [if_pos h]
    obtain ⟨h1, h2⟩ := key f l h
    generalize dec f l = x at *
    obtain ⟨a, b, c⟩ := x
    simp_all
  · rw [if_neg h]
    generalize dec f l = x at *
    obtain ⟨a, b, c⟩ := x
    simp_all
theorem cmb_step (acc j f : Nat) (c : UInt8) (r : List UInt8) (h : ¬ c.toNat < 128) :
    cmb acc j (dec (f + 1) (c :: r)) = cmb (acc + (c.toNat - 128) * 128 ^ j) (j + 1) (dec f r) := by
  simp only [dec, if_neg h]
  generalize dec f r = x
  obtain ⟨n, k, e⟩ := x
  by_cases he : e ≠ 0
  · simp [cmb, he]
  · by_cases hn : n = 0
    · simp [cmb, he, hn]
    · simp only [cmb, he, hn, if_false, ne_eq, not_true_eq_false, and_false]
      rw [if_neg (by omega)]
      simp only [Prod.mk.injEq, and_true]
      refine ⟨?_, by omega⟩
      rw [Nat.pow_succ, Nat.mul_add, Nat.mul_comm (c.toNat - 128), Nat.mul_assoc]
      omega
theorem cmb_last (acc j f : Nat) (c : UInt8) (r : List UInt8) (h : c.toNat < 128) :
    cmb acc j (dec f (c :: r)) = if 0 < j ∧ c.toNat = 0 then (0, 0, 11) else (acc + 128 ^ j * c.toNat, j + 1, 0) := by
  rw [dec_last f c r h]; simp [cmb]
theorem cmb_long (acc j : Nat) (c : UInt8) (r : List UInt8) (h : ¬ c.toNat < 128) : cmb acc j (dec 0 (c :: r)) = (0, 0, 11) := by
  rw [dec_long c r h]; simp [cmb]
theorem cmb_nil (acc j f : Nat) : cmb acc j (dec f []) = (0, 0, 10) := by
  rw [dec_nil]; simp [cmb]
theorem enc_length : ∀ (f n : Nat), 1 ≤ (enc f n).length ∧ (enc f n).length ≤ f + 1
  | 0, n => by simp [enc]
  | f + 1, n => by
    have := enc_length f (n / 128)
    simp only [enc]
    split
    · simp
    · simp; omega
theorem dec_enc : ∀ (f n : Nat) (rest : List UInt8), n < 128 ^ (f + 1) → dec f (enc f n ++ rest) = (n, (enc f n).length, 0)
  | 0, n, rest, h => by
    have hn : n < 128 := by simpa using h
    have e : (UInt8.ofNat n).toNat = n := by rw [UInt8.toNat_ofNat']; exact Nat.mod_eq_of_lt (by omega)
    show dec 0 (UInt8.ofNat n :: rest) = _
    rw [dec_last 0 _ _ (by omega), e]
    rfl
  | f + 1, n, rest, h => by
    by_cases hn : n < 128
    · have e : (UInt8.ofNat n).toNat = n := by rw [UInt8.toNat_ofNat']; exact Nat.mod_eq_of_lt (by omega)
      have e1 : enc (f + 1) n = [UInt8.ofNat n] := by simp [enc, hn]
      rw [e1]
      show dec (f + 1) (UInt8.ofNat n :: rest) = _
      rw [dec_last _ _ _ (by omega), e]
      rfl
    · have e : (UInt8.ofNat (n % 128 + 128)).toNat = n % 128 + 128 := by rw [UInt8.toNat_ofNat']; exact Nat.mod_eq_of_lt (by omega)
      have e1 : enc (f + 1) n = UInt8.ofNat (n % 128 + 128) :: enc f (n / 128) := by simp [enc, hn]
      have ih := dec_enc f (n / 128) rest (by rw [Nat.pow_succ] at h; omega)
      rw [e1]
      show dec (f + 1) (UInt8.ofNat (n % 128 + 128) :: (enc f (n / 128) ++ rest)) = _
      simp only [dec, ih, e, ne_eq, not_true_eq_false, if_false]
      rw [if_neg (by omega), if_neg (by omega)]
      simp only [List.length_cons, Prod.mk.injEq, and_true]
      omega
theorem enc_dec : ∀ (f : Nat) (l : List UInt8) (n k : Nat), dec f l = (n, k, 0) → enc f n = l.take k ∧ 1 ≤ k ∧ k ≤ l.length ∧ n < 128 ^ (f + 1)
  | f, [], n, k, h => by rw [dec_nil] at h; simp at h
  | 0, c :: r, n, k, h => by
    by_cases hc : c.toNat < 128
    · rw [dec_last _ _ _ hc] at h
      simp only [Prod.mk.injEq, and_true] at h
      obtain ⟨rfl, rfl⟩ := h
      exact ⟨by simp [enc], by omega, by simp, by simpa using hc⟩
    · rw [dec_long _ _ hc] at h; simp at h
  | f + 1, c :: r, n, k, h => by
    by_cases hc : c.toNat < 128
    · rw [dec_last _ _ _ hc] at h
      simp only [Prod.mk.injEq, and_true] at h
      obtain ⟨rfl, rfl⟩ := h
      refine ⟨by simp [enc, hc], by omega, by simp, ?_⟩
      have : 1 ≤ 128 ^ (f + 1) := Nat.pow_pos (by omega)
      rw [Nat.pow_succ]
      omega
    · simp only [dec, if_neg hc] at h
      have ih := enc_dec f r
      generalize dec f r = x at h ih
      obtain ⟨m, j, e⟩ := x
      by_cases he : e ≠ 0
      · simp only [he, ne_eq, not_false_eq_true, if_true, Prod.mk.injEq] at h
        exact h.2.2.elim
      · have he0 : e = 0 := by omega
        subst he0
        by_cases hm : m = 0
        · simp [hm] at h
        · simp only [hm, ne_eq, not_true_eq_false, if_false, Prod.mk.injEq, and_true] at h
          obtain ⟨rfl, rfl⟩ := h
          obtain ⟨i1, i2, i3, i4⟩ := ih m j rfl
          have hlt := c.toNat_lt
          have e1 : (c.toNat - 128 + 128 * m) % 128 + 128 = c.toNat := by omega
          have e2 : (c.toNat - 128 + 128 * m) / 128 = m := by omega
          refine ⟨?_, by omega, by simp; omega, ?_⟩
          · simp only [enc]
            rw [if_neg (by omega), e1, e2, i1]
            simp
          · rw [Nat.pow_succ]; omega
/-- The number that a reader is handed, with the most that may stand there. -/
def first (l : List UInt8) (most : Int) : Int × Int × Int :=
  if (dec 8 l).2.2 ≠ 0 then (0, 0, ((dec 8 l).2.2 : Int)) else if most < ((dec 8 l).1 : Int) then (0, 0, 12) else (((dec 8 l).1 : Int), ((dec 8 l).2.1 : Int), 0)
theorem first_bad {l : List UInt8} {most : Int} {e : Nat} (h : dec 8 l = (0, 0, e)) (he : e ≠ 0) : first l most = (0, 0, (e : Int)) := by
  simp [first, h, he]
theorem first_big {l : List UInt8} {most : Int} {n k : Nat} (h : dec 8 l = (n, k, 0)) (hm : most < (n : Int)) : first l most = (0, 0, 12) := by
  simp [first, h, hm]
theorem first_ok {l : List UInt8} {most : Int} {n k : Nat} (h : dec 8 l = (n, k, 0)) (hm : ¬ most < (n : Int)) : first l most = ((n : Int), (k : Int), 0) := by
  simp only [first, h]
  rw [if_neg (by simp), if_neg hm]
/-- In every case: no error, or nothing read. -/
theorem first_form (l : List UInt8) (most : Int) : ∃ (n k : Nat) (e : Int), first l most = ((n : Int), (k : Int), e) ∧ k ≤ l.length ∧ k ≤ 9 ∧ 0 ≤ e ∧ e ≤ 12 ∧ (e ≠ 0 → n = 0 ∧ k = 0) ∧ (n : Int) < 9223372036854775808 ∧ (e = 0 → 1 ≤ k) := by
  have hb : ∀ (f : Nat) (l : List UInt8), (dec f l).2.2 ≤ 11 ∧ (dec f l).2.1 ≤ f + 1 := by
    intro f
    induction f with
    | zero => intro l; cases l with
      | nil => simp [dec]
      | cons c r => simp only [dec]; split <;> simp
    | succ f ih => intro l; cases l with
      | nil => simp [dec]
      | cons c r =>
        simp only [dec]
        have := ih r
        split
        · simp
        · split
          · simp; omega
          · split <;> simp; omega
  have hb := hb 8 l
  have he := enc_dec 8 l
  simp only [first]
  generalize dec 8 l = x at *
  obtain ⟨n, k, e⟩ := x
  by_cases h0 : e = 0
  · subst h0
    obtain ⟨-, h1, h2, h3⟩ := he n k rfl
    simp only [ne_eq, not_true_eq_false, if_false]
    by_cases hm : most < (n : Int)
    · rw [if_pos hm]
      exact ⟨0, 0, 12, rfl, by omega, by omega, by omega, by omega, fun _ => ⟨rfl, rfl⟩, by omega, by omega⟩
    · rw [if_neg hm]
      simp only at hb
      exact ⟨n, k, 0, rfl, h2, by omega, by omega, by omega, fun h => absurd rfl h, by omega, fun _ => h1⟩
  · simp only [ne_eq, h0, not_false_eq_true, if_true]
    simp only at hb
    exact ⟨0, 0, e, rfl, by omega, by omega, by omega, by omega, fun _ => ⟨rfl, rfl⟩, by omega, by omega⟩
end Go.Proofs.YtlbkcndmljlnmaaDoor.Nm
namespace Go.Proofs.YtlbkcndmljlnmaaDoor
open Go.RowKit
set_option linter.unusedVariables false
/-- A number, its length, an error, as Go hands them back. -/
def triple (r : Int × Int × Int) : Value := .tuple #[.int .i64 r.1, .int .i64 r.2.1, .int .i64 r.2.2]
def FirstRel (l : List UInt8) (n size : Value) : Prop :=
  ∃ j acc : Nat, n = .int .i64 (acc : Int) ∧ size = .int .i64 (j : Int) ∧ j ≤ 8 ∧ j ≤ l.length ∧ acc < 128 ^ j ∧ Nm.dec 8 l = Nm.cmb acc j (Nm.dec (8 - j) (l.drop j))
theorem firstRel_start (l : List UInt8) : FirstRel l (.int .i64 0) (.int .i64 0) := ⟨0, 0, rfl, rfl, by omega, by omega, by simp, by rw [Nm.cmb_zero]; rfl⟩
/-- What a round adds, in the walk's own spelling: nothing wraps. -/
theorem sum_eq (acc j : Nat) (c : UInt8) (hj : (j : Int) ≤ 8) (hacc : acc < 128 ^ j) : wrap64 ((acc : Int) + wrap64 ((c.toNat : Int) % 128 * 2 ^ (7 * j))) = ((acc + 128 ^ j * (c.toNat % 128) : Nat) : Int) := by
  have hj' : j = 0 ∨ j = 1 ∨ j = 2 ∨ j = 3 ∨ j = 4 ∨ j = 5 ∨ j = 6 ∨ j = 7 ∨ j = 8 := by omega
  have hc := c.toNat_lt
  rcases hj' with rfl | rfl | rfl | rfl | rfl | rfl | rfl | rfl | rfl
  all_goals
    simp only [Nat.reducePow, Nat.reduceMul, Int.reducePow] at hacc ⊢
    rw [IntWalk.wrap64_in ((c.toNat : Int) % 128 * _) ⟨by omega, by omega⟩, IntWalk.wrap64_in _ ⟨by omega, by omega⟩]
    omega
theorem pow_lt (acc j c : Nat) (hacc : acc < 128 ^ j) : acc + 128 ^ j * (c % 128) < 128 ^ (j + 1) := by
  rw [Nat.pow_succ]
  have h1 : c % 128 ≤ 127 := by omega
  have h2 := Nat.mul_le_mul_left (128 ^ j) h1
  omega
section
variable {l : List UInt8} {acc j : Nat} {c : UInt8} {r : List UInt8} {most : Int}
theorem dec_here (hD : Nm.dec 8 l = Nm.cmb acc j (Nm.dec (8 - j) (l.drop j))) (hC : l.drop j = c :: r) (_h : (c.toNat : Int) < 128) (hn : ¬ (0 < j ∧ c.toNat = 0)) : Nm.dec 8 l = (acc + 128 ^ j * (c.toNat % 128), j + 1, 0) := by
  rw [hD, hC, Nm.cmb_last acc j _ c r (by omega), if_neg hn, Nat.mod_eq_of_lt (show c.toNat < 128 from by omega)]
theorem way_zero (hD : Nm.dec 8 l = Nm.cmb acc j (Nm.dec (8 - j) (l.drop j))) (hC : l.drop j = c :: r) (_h : (c.toNat : Int) < 128) (_h1 : (1 : Int) < (j : Int) + 1) (h2 : ((c.toNat : Int) == 0) = true) : triple (Nm.first l most) = .tuple #[.int .i64 0, .int .i64 0, .int .i64 11] := by
  have h2' : c.toNat = 0 := by rw [beq_iff_eq] at h2; omega
  have : Nm.dec 8 l = (0, 0, 11) := by rw [hD, hC, Nm.cmb_last acc j _ c r (by omega), if_pos ⟨by omega, h2'⟩]
  rw [Nm.first_bad this (by omega)]; rfl
theorem way_big (hD : Nm.dec 8 l = Nm.cmb acc j (Nm.dec (8 - j) (l.drop j))) (hC : l.drop j = c :: r) (hj : (j : Int) ≤ 8) (hA : acc < 128 ^ j) (h : (c.toNat : Int) < 128) (hn : ¬ (0 < j ∧ c.toNat = 0)) (hm : most < wrap64 ((acc : Int) + wrap64 ((c.toNat : Int) % 128 * 2 ^ (7 * j)))) :
    triple (Nm.first l most) = .tuple #[.int .i64 0, .int .i64 0, .int .i64 12] := by
  rw [Nm.first_big (dec_here hD hC h hn) (by rw [← sum_eq acc j c hj hA]; exact hm)]; rfl
theorem way_ok (hD : Nm.dec 8 l = Nm.cmb acc j (Nm.dec (8 - j) (l.drop j))) (hC : l.drop j = c :: r) (hj : (j : Int) ≤ 8) (hA : acc < 128 ^ j) (h : (c.toNat : Int) < 128) (hn : ¬ (0 < j ∧ c.toNat = 0)) (hm : wrap64 ((acc : Int) + wrap64 ((c.toNat : Int) % 128 * 2 ^ (7 * j))) ≤ most) :
    triple (Nm.first l most) = .tuple #[.int .i64 (wrap64 ((acc : Int) + wrap64 ((c.toNat : Int) % 128 * 2 ^ (7 * j)))), .int .i64 ((j : Int) + 1), .int .i64 0] := by
  have e := sum_eq acc j c hj hA
  rw [Nm.first_ok (dec_here hD hC h hn) (by rw [← e]; omega), e]; rfl
theorem way_long (hD : Nm.dec 8 l = Nm.cmb acc j (Nm.dec (8 - j) (l.drop j))) (hC : l.drop j = c :: r) (hj : (j : Int) ≤ 8) (h : (128 : Int) ≤ c.toNat) (h9 : (9 : Int) ≤ (j : Int) + 1) : triple (Nm.first l most) = .tuple #[.int .i64 0, .int .i64 0, .int .i64 11] := by
  have e : 8 - j = 0 := by omega
  have : Nm.dec 8 l = (0, 0, 11) := by rw [hD, hC, e, Nm.cmb_long acc j c r (by omega)]
  rw [Nm.first_bad this (by omega)]; rfl
theorem way_short (hD : Nm.dec 8 l = Nm.cmb acc j (Nm.dec (8 - j) (l.drop j))) (hC : l.drop j = []) : triple (Nm.first l most) = .tuple #[.int .i64 0, .int .i64 0, .int .i64 10] := by
  have : Nm.dec 8 l = (0, 0, 10) := by rw [hD, hC, Nm.cmb_nil]
  rw [Nm.first_bad this (by omega)]; rfl
theorem way_round (hD : Nm.dec 8 l = Nm.cmb acc j (Nm.dec (8 - j) (l.drop j))) (hC : l.drop j = c :: l.drop (j + 1)) (hj : (j : Int) ≤ 8) (hA : acc < 128 ^ j) (hl : (j : Int) < (l.length : Int)) (h : (128 : Int) ≤ c.toNat) (h9 : (j : Int) + 1 < 9) :
    FirstRel l (.int .i64 (wrap64 ((acc : Int) + wrap64 ((c.toNat : Int) % 128 * 2 ^ (7 * j))))) (.int .i64 ((j : Int) + 1)) := by
  have hb := c.toNat_lt
  refine ⟨j + 1, acc + 128 ^ j * (c.toNat % 128), by rw [sum_eq acc j c hj hA], rfl, by omega, by omega, pow_lt acc j c.toNat hA, ?_⟩
  rw [hD, hC, show 8 - j = (8 - (j + 1)) + 1 from by omega, Nm.cmb_step acc j _ c _ (by omega)]
  rw [Nat.mul_comm (c.toNat - 128), show c.toNat - 128 = c.toNat % 128 from by omega]
theorem nz_beq (h : ((c.toNat : Int) == 0) = false) : ¬ (0 < j ∧ c.toNat = 0) := fun x => by rw [beq_eq_false_iff_ne] at h; omega
theorem nz_j (_h : (j : Int) + 1 ≤ 1) : ¬ (0 < j ∧ c.toNat = 0) := fun x => by omega
end
set_option maxHeartbeats 1600000 in
set_option maxRecDepth 100000 in
theorem firstNum_any (s : ByteArray) (most : Int) (w : World) (hs : s.size ≤ 1099511627776) :
    Calls Tryd.prog 95 #[.string s, .int .i64 most] w fun e w' => e = .returned (triple (Nm.first s.data.toList most)) ∧ w' = w := by
  go_enter Tryd.func95, Tryd.ntmps95
  go_wp2
  go_step3
  go_wp2
  go_step3
  go_wp2
  go_loop [7, 8] (fun n size => FirstRel s.data.toList n size) (fun _ i => 9 - (intOf i).toNat)
  case atStart => exact firstRel_start _
  case round =>
    obtain ⟨j, acc, rfl, rfl, hj8, hjl, hacc, hdec⟩ := hrel
    have hlen : s.data.toList.length = s.size := by show s.data.toList.length = s.data.size; simp
    have HD := aside hdec
    have HA := aside hacc
    have hj : (j : Int) ≤ 8 := by omega
    clear hdec hacc hj8
    by_cases hend : j = s.size
    · have HE : Hid (triple (Nm.first s.data.toList most) = .tuple #[.int .i64 0, .int .i64 0, .int .i64 10]) := way_short HD.out (List.drop_of_length_le (by omega))
      have heq : ((j : Int) == (s.size : Int)) = true := by rw [beq_iff_eq]; omega
      clear hend hjl
      go_wp2
      go_ret3
      exact ⟨by rw [HE.out]; rfl, rfl⟩
    · have hlt : j < s.size := by omega
      have hix := idx_str' s j hlt (j : Int) rfl
      obtain ⟨c, hc⟩ : ∃ c, c = s[j] := ⟨_, rfl⟩
      have hdr := drop_one s j hlt
      rw [← hc] at hix hdr
      have HC := aside hdr
      clear hc hdr
      have hb := c.toNat_lt
      have hb' : (c.toNat : Int) < 256 := by omega
      have hlt' : (j : Int) < (s.size : Int) := by omega
      have hne : ((j : Int) == (s.size : Int)) = false := by rw [beq_eq_false_iff_ne]; omega
      clear hend hjl hlt hb
      have hjl' : (j : Int) < (s.data.toList.length : Int) := by omega
      have HJL := aside hjl'
      clear hjl'
      go_wp2
      · have H := way_zero (most := most) HD.out HC.out (by assumption) (by assumption) (by assumption)
        go_ret3
        exact ⟨by rw [H]; rfl, rfl⟩
      · have H := way_big (most := most) HD.out HC.out hj HA.out (by assumption) (nz_beq (by assumption)) (by assumption)
        go_ret3
        exact ⟨by rw [H]; rfl, rfl⟩
      · have H := way_ok (most := most) HD.out HC.out hj HA.out (by assumption) (nz_beq (by assumption)) (by assumption)
        go_ret3
        exact ⟨by rw [H]; rfl, rfl⟩
      · have H := way_big (most := most) HD.out HC.out hj HA.out (by assumption) (nz_j (by assumption)) (by assumption)
        go_ret3
        exact ⟨by rw [H]; rfl, rfl⟩
      · have H := way_ok (most := most) HD.out HC.out hj HA.out (by assumption) (nz_j (by assumption)) (by assumption)
        go_ret3
        exact ⟨by rw [H]; rfl, rfl⟩
      · have h9 : (j : Int) + 1 < 9 := by assumption
        go_round
        case rel => exact way_round HD.out HC.out hj HA.out HJL.out (by assumption) h9
        case measure => simp [intOf]; omega
      · have H := way_long (most := most) HD.out HC.out hj (by assumption) (by assumption)
        go_ret3
        exact ⟨by rw [H]; rfl, rfl⟩
end Go.Proofs.YtlbkcndmljlnmaaDoor
namespace Go.Proofs.YtlbkcndmljlnmaaDoor
open Go.RowKit
set_option linter.unusedVariables false
section
variable {l : List UInt8} {acc j : Nat} {c : UInt8} {r : List UInt8} {most E : Int}
end
end Go.Proofs.YtlbkcndmljlnmaaDoor
namespace Go.Proofs.YtlbkcndmljlnmaaDoor
open Go.RowKit
set_option linter.unusedVariables false
theorem extract_drop (s : ByteArray) (p : Nat) (hp : p ≤ s.size) : (s.extract p s.size).data.toList = s.data.toList.drop p := by
  rw [ByteArray.data_extract]
  show (s.data.extract p s.data.size).toList = _
  rw [Array.toList_extract, List.extract_eq_take_drop, List.take_of_length_le (by simp)]
theorem extract_size (s : ByteArray) (p : Nat) : (s.extract p s.size).size = s.size - p := by simp
set_option maxHeartbeats 400000 in
theorem rnum_broken (b : Nat) (s : ByteArray) (p e most : Int) (w : World) (h : IsR b s p e w) (he : e ≠ 0) :
    Calls Tryd.prog 71 #[.pointer (some ⟨b, 0, none⟩), .int .i64 most] w fun r w' => r = .returned (.int .i64 0) ∧ w' = w := by
  have h2 := h.c2
  have hb : (e != 0) = true := by simp [he]
  go_enter Tryd.func71, Tryd.ntmps71
  go_wp2
  go_ret
  exact ⟨rfl, rfl⟩
/-- firstNum at a part of the text, its three answers named. -/
theorem firstNum_at (s : ByteArray) (p : Nat) (hp : p ≤ s.size) (most n k e : Int) (hF : Nm.first (s.data.toList.drop p) most = (n, k, e)) (w : World) (hs : s.size ≤ 1099511627776) :
    Calls Tryd.prog 95 #[.string (s.extract p s.size), .int .i64 most] w fun r w' => r = .returned (.tuple #[.int .i64 n, .int .i64 k, .int .i64 e]) ∧ w' = w := by
  have := firstNum_any (s.extract p s.size) most w (by rw [extract_size]; omega)
  rw [extract_drop s p hp, hF] at this
  exact this
set_option maxHeartbeats 1600000 in
set_option maxRecDepth 100000 in
theorem rnum_any (b : Nat) (s : ByteArray) (p : Nat) (most n k e : Int) (w : World) (h : IsR b s (p : Int) 0 w) (hp : p ≤ s.size) (hs : s.size ≤ 1099511627776) (hF : Nm.first (s.data.toList.drop p) most = (n, k, e)) :
    Calls Tryd.prog 71 #[.pointer (some ⟨b, 0, none⟩), .int .i64 most] w fun r w' => r = .returned (.int .i64 n) ∧ IsR b s ((p : Int) + k) e w' ∧ Keeps (fun x => x = b) w w' := by
  have hk : 0 ≤ k ∧ k ≤ 9 := by
    obtain ⟨n', k', e', hf, _, h9, _⟩ := Nm.first_form (s.data.toList.drop p) most
    rw [hF] at hf
    simp only [Prod.mk.injEq] at hf
    omega
  have C := aside (fun w => firstNum_at s p hp most n k e hF w hs)
  have H := aside h
  have h0 := h.c0
  have h1 := h.c1
  have h2 := h.c2
  have hp0 : (0 : Int) ≤ (p : Int) := by omega
  have hp1 : (p : Int) ≤ (s.size : Int) := by omega
  have hk0 := hk.1
  have hk9 := hk.2
  have hf1 := h.f1
  clear hF hk h
  go_enter Tryd.func71, Tryd.ntmps71
  go_wp2_with fail
  go_quiet ((go_at_call 95; exact Calls.quiet_of_same (C.out _)))
  go_wp2_with fail
  refine (rfail_any b s ((p : Int) + k) 0 e _ ?hh).mono ?_
  case hh => exact (H.out.drewN _).set1 ((p : Int) + k)
  rintro r w1 ⟨rfl, hr, hkp⟩
  go_wp2
  go_ret
  refine ⟨rfl, by simpa [failOf] using hr, ?_⟩
  exact (((Keeps.refl (fun x => x = b) w).drewN _).setCell (p := ⟨b, 1, none⟩) (fun _ => rfl) _).trans hkp
end Go.Proofs.YtlbkcndmljlnmaaDoor
namespace Go.Proofs.YtlbkcndmljlnmaaDoor
open Go.RowKit
set_option linter.unusedVariables false
/-- The text that bytes begin with: it, how many bytes it takes with its number, what is wrong. -/
def textOf (l : List UInt8) (most : Int) : List UInt8 × Int × Int :=
  if (Nm.first l most).2.2 ≠ 0 then ([], 0, (Nm.first l most).2.2)
  else if (l.length : Int) - (Nm.first l most).2.1 < (Nm.first l most).1 then ([], 0, 10)
  else ((l.drop (Nm.first l most).2.1.toNat).take (Nm.first l most).1.toNat, (Nm.first l most).2.1 + (Nm.first l most).1, 0)
theorem extract_part (s : ByteArray) (a n : Nat) (h : a + n ≤ s.size) : s.extract a (a + n) = ⟨((s.data.toList.drop a).take n).toArray⟩ := by
  apply ByteArray.ext
  rw [ByteArray.data_extract]
  apply Array.ext'
  rw [Array.toList_extract, List.extract_eq_take_drop]
  simp
set_option maxHeartbeats 1600000 in
set_option maxRecDepth 100000 in
theorem rtext_broken (b : Nat) (s : ByteArray) (p : Nat) (e most : Int) (w : World) (h : IsR b s (p : Int) e w) (he : e ≠ 0) (hp : p ≤ s.size) (hs : s.size ≤ 1099511627776) :
    Calls Tryd.prog 70 #[.pointer (some ⟨b, 0, none⟩), .int .i64 most] w fun r w' => r = .returned (.string ⟨#[]⟩) ∧ IsR b s (p : Int) e w' ∧ Keeps (fun x => x = b) w w' := by
  have h0 := h.c0
  have h1 := h.c1
  have hf1 := h.f1
  have hp0 : (0 : Int) ≤ (p : Int) := by omega
  have hp1 : (p : Int) ≤ (s.size : Int) := by omega
  have H := aside h
  clear h
  go_enter Tryd.func70, Tryd.ntmps70
  go_wp2_with fail
  refine (rnum_broken b s (p : Int) e most _ H.out he).mono ?_
  rintro r w1 ⟨rfl, rfl⟩
  go_wp2_with fail
  refine (rleft_any b s (p : Int) e _ H.out hp0 hp1 hs).mono ?_
  rintro r w2 ⟨rfl, nq, rfl⟩
  go_wp2_with fail
  go_quiet (fail)
  go_wp2
  go_ret
  exact ⟨rfl, H.out.set1 (p : Int), ((Keeps.refl (fun x => x = b) w1).setCell (p := ⟨b, 1, none⟩) (fun _ => rfl) _).trans ⟨rfl, rfl, rfl, Nat.le_refl _, fun _ _ _ => rfl⟩⟩
/-- What bytes begin with is no number, or one that is too big. -/
theorem textOf_bad {l : List UInt8} {most e : Int} (h : Nm.first l most = (0, 0, e)) (he : e ≠ 0) : textOf l most = ([], 0, e) := by
  unfold textOf; rw [h]; simp [he]
theorem textOf_short {l : List UInt8} {most n k : Int} (h : Nm.first l most = (n, k, 0)) (hn : (l.length : Int) - k < n) : textOf l most = ([], 0, 10) := by
  unfold textOf; rw [h]; simp [hn]
theorem textOf_ok {l : List UInt8} {most n k : Int} (h : Nm.first l most = (n, k, 0)) (hn : ¬ (l.length : Int) - k < n) : textOf l most = ((l.drop k.toNat).take n.toNat, k + n, 0) := by
  unfold textOf; rw [h]; simp only [ne_eq, not_true_eq_false, if_false]; rw [if_neg hn]
set_option maxHeartbeats 1600000 in
set_option maxRecDepth 100000 in
theorem rtext_bad (b : Nat) (s : ByteArray) (p : Nat) (most e : Int) (w : World) (h : IsR b s (p : Int) 0 w) (hp : p ≤ s.size) (hs : s.size ≤ 1099511627776) (hF : Nm.first (s.data.toList.drop p) most = (0, 0, e)) :
    Calls Tryd.prog 70 #[.pointer (some ⟨b, 0, none⟩), .int .i64 most] w fun r w' => r = .returned (.string ⟨#[]⟩) ∧ IsR b s (p : Int) e w' ∧ Keeps (fun x => x = b) w w' := by
  have h1 := h.c1
  have hp0 : (0 : Int) ≤ (p : Int) := by omega
  have hp1 : (p : Int) ≤ (s.size : Int) := by omega
  have H := aside h
  have HF := aside hF
  clear h hF
  go_enter Tryd.func70, Tryd.ntmps70
  go_wp2_with fail
  refine (rnum_any b s p most 0 0 e _ H.out hp hs HF.out).mono ?_
  rintro r w1 ⟨rfl, hr, hk⟩
  rw [show (p : Int) + 0 = (p : Int) from by omega] at hr
  have h10 := hr.c0
  have h11 := hr.c1
  have hf11 := hr.f1
  have HR := aside hr
  clear hr
  go_wp2_with fail
  refine (rleft_any b s (p : Int) e _ HR.out hp0 hp1 hs).mono ?_
  rintro r w2 ⟨rfl, nq, rfl⟩
  go_wp2_with fail
  go_quiet (fail)
  go_wp2
  go_ret
  exact ⟨rfl, HR.out.set1 (p : Int), hk.trans (((Keeps.refl (fun x => x = b) w1).setCell (p := ⟨b, 1, none⟩) (fun _ => rfl) _).trans ⟨rfl, rfl, rfl, Nat.le_refl _, fun _ _ _ => rfl⟩)⟩
set_option maxHeartbeats 1600000 in
set_option maxRecDepth 100000 in
theorem rtext_short (b : Nat) (s : ByteArray) (p : Nat) (most : Int) (n k : Nat) (w : World) (h : IsR b s (p : Int) 0 w) (hp : p ≤ s.size) (hs : s.size ≤ 1099511627776) (hF : Nm.first (s.data.toList.drop p) most = ((n : Int), (k : Int), 0)) (hpk : p + k ≤ s.size) (hn : (s.size : Int) - ((p : Int) + (k : Int)) < (n : Int)) :
    Calls Tryd.prog 70 #[.pointer (some ⟨b, 0, none⟩), .int .i64 most] w fun r w' => r = .returned (.string ⟨#[]⟩) ∧ IsR b s (p : Int) 10 w' ∧ Keeps (fun x => x = b) w w' := by
  have h1 := h.c1
  have hp0 : (0 : Int) ≤ (p : Int) + (k : Int) := by omega
  have hp1 : (p : Int) + (k : Int) ≤ (s.size : Int) := by omega
  have H := aside h
  have HF := aside hF
  clear h hF
  go_enter Tryd.func70, Tryd.ntmps70
  go_wp2_with fail
  refine (rnum_any b s p most n k 0 _ H.out hp hs HF.out).mono ?_
  rintro r w1 ⟨rfl, hr, hk⟩
  have h11 := hr.c1
  have hf11 := hr.f1
  have HR := aside hr
  clear hr
  go_wp2_with fail
  refine (rleft_any b s ((p : Int) + (k : Int)) 0 _ HR.out hp0 hp1 hs).mono ?_
  rintro r w2 ⟨rfl, nq, rfl⟩
  go_wp2_with fail
  refine (rfail_any b s (p : Int) 0 10 _ ?hh).mono ?_
  case hh => exact HR.out.set1 (p : Int)
  rintro r w3 ⟨rfl, hr3, hk3⟩
  go_wp2
  go_ret
  refine ⟨rfl, by simpa [failOf] using hr3, hk.trans (Keeps.trans ?_ hk3)⟩
  exact (((Keeps.refl (fun x => x = b) w1).drewN _).setCell (p := ⟨b, 1, none⟩) (fun _ => rfl) _)
set_option maxHeartbeats 1600000 in
set_option maxRecDepth 100000 in
theorem rtext_ok (b : Nat) (s : ByteArray) (p : Nat) (most : Int) (n k : Nat) (w : World) (h : IsR b s (p : Int) 0 w) (hp : p ≤ s.size) (hs : s.size ≤ 1099511627776) (hF : Nm.first (s.data.toList.drop p) most = ((n : Int), (k : Int), 0)) (hpk : p + k + n ≤ s.size) :
    Calls Tryd.prog 70 #[.pointer (some ⟨b, 0, none⟩), .int .i64 most] w fun r w' => r = .returned (.string ⟨((s.data.toList.drop (p + k)).take n).toArray⟩) ∧ IsR b s ((p : Int) + (k : Int) + (n : Int)) 0 w' ∧ Keeps (fun x => x = b) w w' := by
  have h1 := h.c1
  have hp0 : (0 : Int) ≤ (p : Int) + (k : Int) := by omega
  have hp1 : (p : Int) + (k : Int) ≤ (s.size : Int) := by omega
  have hp2 : (p : Int) + (k : Int) + (n : Int) ≤ (s.size : Int) := by omega
  have hn : ¬ (s.size : Int) - ((p : Int) + (k : Int)) < (n : Int) := by omega
  have HX := aside (extract_part s (p + k) n (by omega))
  have H := aside h
  have HF := aside hF
  clear h hF
  go_enter Tryd.func70, Tryd.ntmps70
  go_wp2_with fail
  refine (rnum_any b s p most n k 0 _ H.out hp hs HF.out).mono ?_
  rintro r w1 ⟨rfl, hr, hk⟩
  have h10 := hr.c0
  have h11 := hr.c1
  have hf11 := hr.f1
  have HR := aside hr
  clear hr
  go_wp2_with fail
  refine (rleft_any b s ((p : Int) + (k : Int)) 0 _ HR.out hp0 hp1 hs).mono ?_
  rintro r w2 ⟨rfl, nq, rfl⟩
  go_wp2_with fail
  go_quiet (fail)
  go_wp2
  go_ret
  refine ⟨?_, HR.out.set1 _, hk.trans (((Keeps.refl (fun x => x = b) w1).setCell (p := ⟨b, 1, none⟩) (fun _ => rfl) _).trans ⟨rfl, rfl, rfl, Nat.le_refl _, fun _ _ _ => rfl⟩)⟩
  show Ending.returned (Value.string (s.extract (p + k) (p + k + n))) = _
  rw [HX.out]
end Go.Proofs.YtlbkcndmljlnmaaDoor
namespace Go.Proofs.YtlbkcndmljlnmaaDoor
open Go.RowKit
set_option linter.unusedVariables false
end Go.Proofs.YtlbkcndmljlnmaaDoor
namespace Go.Proofs.YtlbkcndmljlnmaaDoor
open Go.RowKit
set_option linter.unusedVariables false
theorem first_small {l : List UInt8} {most n k e : Int} (hF : Nm.first l most = (n, k, e)) : 0 ≤ k ∧ k ≤ 9 ∧ k ≤ (l.length : Int) ∧ 0 ≤ n ∧ n < 9223372036854775808 ∧ (e ≠ 0 → n = 0 ∧ k = 0) := by
  obtain ⟨n', k', e', hf, h1, h9, _, _, h2, h3, _⟩ := Nm.first_form l most
  rw [hF] at hf
  simp only [Prod.mk.injEq] at hf
  obtain ⟨rfl, rfl, rfl⟩ := hf
  refine ⟨by omega, by omega, by omega, by omega, h3, fun he => ?_⟩
  have := h2 he
  omega
end Go.Proofs.YtlbkcndmljlnmaaDoor
namespace Go.Proofs.YtlbkcndmljlnmaaDoor
open Go.RowKit
set_option linter.unusedVariables false
end Go.Proofs.YtlbkcndmljlnmaaDoor
namespace Go.Proofs.YtlbkcndmljlnmaaDoor
open Go.RowKit
set_option linter.unusedVariables false
set_option maxHeartbeats 1600000 in
set_option maxRecDepth 100000 in
/-- Nothing is left: broken before or now. -/
theorem rflag_end (b : Nat) (s : ByteArray) (p : Nat) (e : Int) (w : World) (h : IsR b s (p : Int) e w) (hp : p = s.size) (hs : s.size ≤ 1099511627776) :
    Calls Tryd.prog 111 #[.pointer (some ⟨b, 0, none⟩)] w fun r w' => r = .returned (.bool false) ∧ IsR b s (p : Int) (failOf e 10) w' ∧ Keeps (fun x => x = b) w w' := by
  have H := aside h
  have hl : (s.size : Int) - (p : Int) = 0 := by omega
  have hne : (failOf e 10 != 0) = true := by
    unfold failOf
    split
    · rfl
    · rw [bne_iff_ne]; assumption
  have HL := aside hl
  clear h hl
  go_enter Tryd.func111, Tryd.ntmps111
  go_wp2_with fail
  refine (rleft_any b s (p : Int) e _ H.out (by omega) (by omega) hs).mono ?_
  rintro r w1 ⟨rfl, nq, rfl⟩
  rw [HL.out]
  go_wp2_with fail
  refine (rfail_any b s (p : Int) e 10 _ (by exact H.out)).mono ?_
  rintro r w2 ⟨rfl, hr, hk⟩
  have h2 := hr.c2
  have HR := aside hr
  clear hr
  go_wp2
  go_ret
  exact ⟨rfl, HR.out, ((Keeps.refl (fun x => x = b) w).drewN _).trans hk⟩
set_option maxHeartbeats 1600000 in
set_option maxRecDepth 100000 in
/-- A byte above 1. -/
theorem rflag_form (b : Nat) (s : ByteArray) (p : Nat) (e : Int) (c : UInt8) (w : World) (h : IsR b s (p : Int) e w) (hp : p < s.size) (hc : s[p] = c) (h1 : 1 < c.toNat) (hs : s.size ≤ 1099511627776) :
    Calls Tryd.prog 111 #[.pointer (some ⟨b, 0, none⟩)] w fun r w' => r = .returned (.bool false) ∧ IsR b s (p : Int) (failOf e 11) w' ∧ Keeps (fun x => x = b) w w' := by
  have H := aside h
  have hix := idx_str' s p hp (p : Int) rfl
  rw [hc] at hix
  have hp0 : (0 : Int) ≤ (p : Int) := by omega
  have hp1 : (p : Int) < (s.size : Int) := by omega
  have hl : ((s.size : Int) - (p : Int) == 0) = false := by rw [beq_eq_false_iff_ne]; omega
  have g1 : (1 : Int) < (c.toNat : Int) := by omega
  have hne : (failOf e 11 != 0) = true := by
    unfold failOf
    split
    · rfl
    · rw [bne_iff_ne]; assumption
  have h0 := h.c0
  have h1' := h.c1
  clear h hc h1 hp
  go_enter Tryd.func111, Tryd.ntmps111
  go_wp2_with fail
  refine (rleft_any b s (p : Int) e _ H.out hp0 (by omega) hs).mono ?_
  rintro r w1 ⟨rfl, nq, rfl⟩
  go_wp2_with fail
  go_quiet (fail)
  go_wp2_with fail
  refine (rfail_any b s (p : Int) e 11 _ (by exact H.out)).mono ?_
  rintro r w2 ⟨rfl, hr, hk⟩
  have h2 := hr.c2
  have HR := aside hr
  clear hr
  go_wp2
  go_ret
  exact ⟨rfl, HR.out, ((Keeps.refl (fun x => x = b) w).drewN _).trans hk⟩
set_option maxHeartbeats 1600000 in
set_option maxRecDepth 100000 in
/-- Broken before, a byte that may be. -/
theorem rflag_broken (b : Nat) (s : ByteArray) (p : Nat) (e : Int) (c : UInt8) (w : World) (h : IsR b s (p : Int) e w) (he : e ≠ 0) (hp : p < s.size) (hc : s[p] = c) (h1 : ¬ 1 < c.toNat) (hs : s.size ≤ 1099511627776) :
    Calls Tryd.prog 111 #[.pointer (some ⟨b, 0, none⟩)] w fun r w' => r = .returned (.bool false) ∧ IsR b s (p : Int) e w' ∧ Keeps (fun x => x = b) w w' := by
  have H := aside h
  have hix := idx_str' s p hp (p : Int) rfl
  rw [hc] at hix
  have hp0 : (0 : Int) ≤ (p : Int) := by omega
  have hp1 : (p : Int) < (s.size : Int) := by omega
  have hl : ((s.size : Int) - (p : Int) == 0) = false := by rw [beq_eq_false_iff_ne]; omega
  have g1 : (c.toNat : Int) ≤ 1 := by omega
  have hne : (e != 0) = true := by rw [bne_iff_ne]; exact he
  have h0 := h.c0
  have h1' := h.c1
  have h2 := h.c2
  clear h hc h1 hp he
  go_enter Tryd.func111, Tryd.ntmps111
  go_wp2_with fail
  refine (rleft_any b s (p : Int) e _ H.out hp0 (by omega) hs).mono ?_
  rintro r w1 ⟨rfl, nq, rfl⟩
  go_wp2_with fail
  go_quiet (fail)
  go_wp2
  go_ret
  exact ⟨rfl, H.out, ⟨rfl, rfl, rfl, Nat.le_refl _, fun _ _ _ => rfl⟩⟩
set_option maxHeartbeats 1600000 in
set_option maxRecDepth 100000 in
theorem rflag_ok (b : Nat) (s : ByteArray) (p : Nat) (c : UInt8) (w : World) (h : IsR b s (p : Int) 0 w) (hp : p < s.size) (hc : s[p] = c) (h1 : ¬ 1 < c.toNat) (hs : s.size ≤ 1099511627776) :
    Calls Tryd.prog 111 #[.pointer (some ⟨b, 0, none⟩)] w fun r w' => r = .returned (.bool ((c.toNat : Int) == 1)) ∧ IsR b s ((p : Int) + 1) 0 w' ∧ Keeps (fun x => x = b) w w' := by
  have H := aside h
  have hix := idx_str' s p hp (p : Int) rfl
  rw [hc] at hix
  have hp0 : (0 : Int) ≤ (p : Int) := by omega
  have hp1 : (p : Int) < (s.size : Int) := by omega
  have hl : ((s.size : Int) - (p : Int) == 0) = false := by rw [beq_eq_false_iff_ne]; omega
  have g1 : (c.toNat : Int) ≤ 1 := by omega
  have h0 := h.c0
  have h1' := h.c1
  have h2 := h.c2
  have hf1 := h.f1
  clear h hc h1 hp
  go_enter Tryd.func111, Tryd.ntmps111
  go_wp2_with fail
  refine (rleft_any b s (p : Int) 0 _ H.out hp0 (by omega) hs).mono ?_
  rintro r w1 ⟨rfl, nq, rfl⟩
  go_wp2_with fail
  go_quiet (fail)
  go_wp2
  go_quiet (fail)
  go_wp2
  go_ret
  exact ⟨rfl, H.out.set1 _, ((Keeps.refl (fun x => x = b) w).setCell (p := ⟨b, 1, none⟩) (fun _ => rfl) _).trans ⟨rfl, rfl, rfl, Nat.le_refl _, fun _ _ _ => rfl⟩⟩
end Go.Proofs.YtlbkcndmljlnmaaDoor
