/-
  What was laid down is read again: the plain facts on numbers, texts, words and flags behind one another.
-/
import Derived.Test.YtccbmppmnddkpaaSteps
import Derived.Test.YtccbmppmnddkpaaRText
import Derived.Test.YtccbmppmnddkpaaRFlag
import Derived.Test.YtccbmppmnddkpaaRWord
namespace Go.Proofs.Ytccbmppmnddkpaa
open Go.RowKit
set_option linter.unusedVariables false

theorem first_enc (n : Nat) (hn : n < 9223372036854775808) (rest : List UInt8) : Nm.first (Nm.enc 8 n ++ rest) 9223372036854775807 = ((n : Int), ((Nm.enc 8 n).length : Int), 0) :=
  Nm.first_ok (Nm.dec_enc 8 n rest (by omega)) (by omega)

theorem valB_word (u : Nat) (hu : u < 18446744073709551616) (rest : List UInt8) : valB ((wordB u ++ rest).take 8) = u := by
  have e : (wordB u ++ rest).take 8 = wordB u := by
    rw [List.take_append_of_le_length (by show 8 ≤ (wordB u).length; exact Nat.le_refl 8)]
    exact List.take_of_length_le (Nat.le_refl 8)
  rw [e]
  simp only [wordB, wordFrom, valB, List.foldl_cons, List.foldl_nil, UInt8.toNat_ofNat', Nat.reduceSub, Nat.reduceMul, Nat.reducePow, Nat.reduceAdd]
  omega

/-- The bytes from the place of step i on. -/
theorem allB_drop (T : Nat → Stp) (i n : Nat) (h : i < n) : ∃ rest, (allB T n).drop (allB T i).length = (T i).bytes ++ rest := by
  have key : ∀ n, i < n → ∃ rest, allB T n = allB T i ++ ((T i).bytes ++ rest) := by
    intro n
    induction n with
    | zero => intro h; omega
    | succ n ih =>
      intro h
      by_cases e : i = n
      · subst e; exact ⟨[], by simp [allB]⟩
      · obtain ⟨r, hr⟩ := ih (by omega)
        exact ⟨r ++ (T n).bytes, by simp only [allB, hr, List.append_assoc]⟩
  obtain ⟨rest, hr⟩ := key n h
  exact ⟨rest, by rw [hr, List.drop_left]⟩

theorem allB_le (T : Nat → Stp) (i n : Nat) (h : i ≤ n) : (allB T i).length ≤ (allB T n).length := by
  induction n with
  | zero => have : i = 0 := by omega
            subst this; exact Nat.le_refl _
  | succ n ih =>
    by_cases e : i = n + 1
    · subst e; exact Nat.le_refl _
    · have := ih (by omega)
      simp only [allB, List.length_append]; omega

theorem bytes_kind0 (t : Stp) (h : t.kind = 0) : t.bytes = Nm.enc 8 (up t.n) := by simp [Stp.bytes, h]
theorem bytes_kind1 (t : Stp) (h : t.kind = 1) : t.bytes = Nm.enc 8 t.s.size ++ t.s.data.toList := by simp [Stp.bytes, h]
theorem bytes_kind2 (t : Stp) (h : t.kind = 2) : t.bytes = wordB t.u := by simp [Stp.bytes, h]
theorem bytes_kind3 (t : Stp) (h : t.kind = 3) : t.bytes = flagB t.is := by simp [Stp.bytes, h]
theorem bytes_other (t : Stp) (h0 : t.kind ≠ 0) (h1 : t.kind ≠ 1) (h2 : t.kind ≠ 2) (h3 : t.kind ≠ 3) : t.bytes = [] := by simp [Stp.bytes, h0, h1, h2, h3]

theorem len_of_drop {s : ByteArray} {p : Nat} {x : List UInt8} (hp : p ≤ s.size) (h : s.data.toList.drop p = x) : p + x.length = s.size := by
  have : (s.data.toList.drop p).length = x.length := by rw [h]
  have hl : s.data.toList.length = s.size := by show s.data.toList.length = s.data.size; simp
  rw [List.length_drop, hl] at this
  omega

/-- A number that was laid down is read again. -/
theorem back_num (b : Nat) (s : ByteArray) (p : Nat) (m : Nat) (hm : m < 9223372036854775808) (rest : List UInt8) (w : World) (h : IsR b s (p : Int) 0 w) (hp : p ≤ s.size) (hs : s.size ≤ 1099511627776) (hd : s.data.toList.drop p = Nm.enc 8 m ++ rest) (N : Int) (hN : N = (m : Int)) :
    Calls Try.prog 22 #[.pointer (some ⟨b, 0, none⟩), .int .i64 9223372036854775807] w fun r w' => r = .returned (.int .i64 N) ∧ IsR b s ((p + (Nm.enc 8 m).length : Nat) : Int) 0 w' ∧ Keeps (fun x => x = b) w w' := by
  have := rnum_any b s p 9223372036854775807 (m : Int) ((Nm.enc 8 m).length : Int) 0 w h hp hs (by rw [hd]; exact first_enc m hm rest)
  rw [show ((p + (Nm.enc 8 m).length : Nat) : Int) = (p : Int) + ((Nm.enc 8 m).length : Int) from by omega, hN]
  exact this

/-- A text that was laid down is read again. -/
theorem back_text (b : Nat) (s : ByteArray) (p : Nat) (tx : ByteArray) (rest : List UInt8) (w : World) (h : IsR b s (p : Int) 0 w) (hp : p ≤ s.size) (hs : s.size ≤ 1099511627776) (hd : s.data.toList.drop p = (Nm.enc 8 tx.size ++ tx.data.toList) ++ rest) :
    Calls Try.prog 23 #[.pointer (some ⟨b, 0, none⟩), .int .i64 9223372036854775807] w fun r w' => r = .returned (.string tx) ∧ IsR b s ((p + (Nm.enc 8 tx.size ++ tx.data.toList).length : Nat) : Int) 0 w' ∧ Keeps (fun x => x = b) w w' := by
  have hlt : tx.data.toList.length = tx.size := by show tx.data.toList.length = tx.data.size; simp
  have hlen := len_of_drop hp hd
  simp only [List.length_append, hlt] at hlen
  have hF : Nm.first (s.data.toList.drop p) 9223372036854775807 = ((tx.size : Int), ((Nm.enc 8 tx.size).length : Int), 0) := by
    rw [hd, List.append_assoc]; exact first_enc tx.size (by omega) _
  have := rtext_ok b s p 9223372036854775807 tx.size (Nm.enc 8 tx.size).length w h hp hs hF (by omega)
  have e1 : (s.data.toList.drop (p + (Nm.enc 8 tx.size).length)).take tx.size = tx.data.toList := by
    rw [← List.drop_drop, hd, List.append_assoc, List.drop_left, ← hlt, List.take_left]
  rw [e1] at this
  rw [List.length_append, hlt, show ((p + ((Nm.enc 8 tx.size).length + tx.size) : Nat) : Int) = (p : Int) + ((Nm.enc 8 tx.size).length : Int) + (tx.size : Int) from by omega]
  exact this

/-- A word that was laid down is read again. -/
theorem back_word (b : Nat) (s : ByteArray) (p : Nat) (u : Nat) (hu : u < 18446744073709551616) (rest : List UInt8) (w : World) (h : IsR b s (p : Int) 0 w) (hp : p ≤ s.size) (hs : s.size ≤ 1099511627776) (hd : s.data.toList.drop p = wordB u ++ rest) :
    Calls Try.prog 24 #[.pointer (some ⟨b, 0, none⟩)] w fun r w' => r = .returned (.int .u64 (u : Int)) ∧ IsR b s ((p + (wordB u).length : Nat) : Int) 0 w' ∧ Keeps (fun x => x = b) w w' := by
  have hlen := len_of_drop hp hd
  have h8 : (wordB u).length = 8 := rfl
  rw [List.length_append] at hlen
  have := rword_ok b s p w h (by omega) hs
  rw [hd, valB_word u hu rest] at this
  rw [h8, show ((p + 8 : Nat) : Int) = (p : Int) + 8 from by omega]
  exact this

/-- A flag that was laid down is read again. -/
theorem back_flag (b : Nat) (s : ByteArray) (p : Nat) (is : Bool) (rest : List UInt8) (w : World) (h : IsR b s (p : Int) 0 w) (hp : p ≤ s.size) (hs : s.size ≤ 1099511627776) (hd : s.data.toList.drop p = flagB is ++ rest) :
    Calls Try.prog 25 #[.pointer (some ⟨b, 0, none⟩)] w fun r w' => r = .returned (.bool is) ∧ IsR b s ((p + (flagB is).length : Nat) : Int) 0 w' ∧ Keeps (fun x => x = b) w w' := by
  have hlen := len_of_drop hp hd
  have h1 : (flagB is).length = 1 := rfl
  rw [List.length_append] at hlen
  have hlt : p < s.size := by omega
  have hc : s[p] = (if is then 1 else 0) := by
    have := drop_one s p hlt
    rw [hd] at this
    simp only [flagB, List.cons_append, List.nil_append, List.cons.injEq] at this
    exact this.1.symm
  have := rflag_ok b s p _ w h hlt hc (by cases is <;> decide) hs
  rw [h1, show ((p + 1 : Nat) : Int) = (p : Int) + 1 from by omega]
  cases is
  · exact this
  · exact this

end Go.Proofs.Ytccbmppmnddkpaa
