/-
  Whether a copy is as it was.
-/
import Derived.Test.YtgailbfoicoaiabMgCopy
namespace Go.Proofs.Ytgailbfoicoaiab
open Go.RowKit
set_option linter.unusedVariables false

theorem Lst.keys {w : World} {a : Option Addr} {n c : Nat} {l : List En} (h : Lst w a n c l) : KeysOk l := by
  obtain ⟨T, hE, rfl⟩ := h
  intro e he
  simp only [firstE, List.mem_map, List.mem_range] at he
  obtain ⟨i, hi, rfl⟩ := he
  rcases hE.2.2 with h0 | ⟨b, off, -, -, hc⟩
  · omega
  · exact (hc i hi).2
theorem ck_same {T T' : Nat → En} : ∀ (n : Nat), (∀ i, i < n → T i = T' i) → ckN T n = ckN T' n
  | 0, _ => rfl
  | n + 1, h => by
    have h1 := ck_same n (fun i hi => h i (by omega))
    have h2 : ckAt T n = ckAt T' n := by
      unfold ckAt
      rw [h n (by omega)]
      cases n with
      | zero => simp
      | succ m => rw [show m + 1 - 1 = m from rfl, h m (by omega)]
    show (if ckN T n ≠ 0 then ckN T n else ckAt T n) = (if ckN T' n ≠ 0 then ckN T' n else ckAt T' n)
    rw [h1, h2]
/-- What is wrong first with a list. -/
def ckL (l : List En) : Int := ckN (nthE l) l.length
theorem ck_list_of {T : Nat → En} {n : Nat} {l : List En} (h : firstE T n = l) : ckN T n = ckL l := by
  subst h
  unfold ckL
  rw [firstE_len]
  refine ck_same n (fun i hi => ?_)
  have h1 := firstE_get T hi
  rw [nthE_get (by rw [firstE_len]; exact hi)] at h1
  injection h1 with h1
  exact h1.symm
theorem mchkL {a : Option Addr} {n c : Nat} {l : List En} {w : World} (h : Lst w a n c l) {q : Int} (hq : ckL l = q) : Calls Try.prog 25 #[.slice a n c] w fun e w' => e = .returned (.int .i64 q) ∧ Below w.heap.size w w' := by
  obtain ⟨T, hE, hT⟩ := h
  rw [← hq, ← ck_list_of hT]
  exact mchk_any a n c T w hE
theorem rchkL {a : Option Addr} {n c : Nat} {l : List En} {w : World} (h : Lst w a n c l) {q : Int} (hq : ckL l = q) : Calls Try.prog 16 #[.slice a n c] w fun e w' => e = .returned (.int .i64 q) ∧ Below w.heap.size w w' := by
  obtain ⟨T, hE, hT⟩ := h
  rw [← hq, ← ck_list_of hT]
  exact rchk_any a n c T w hE


end Go.Proofs.Ytgailbfoicoaiab
