/-
  Plain mathematics of splits: how deep they go, how many keys are left behind them, where parts begin.
  What these laws' proofs need of the library, and the program's knob.
  Arguments of these laws, from their reading to plain ranges and lists of texts; texts owned and appended.
  Keys that are checked, by the code and by the document: none too long, and they rise.
-/
import Derived.Test.YtfkdhambbpkmpaaDoorBv1
import Derived.ProofKit
import Derived.OpenShut
import Derived.ShutString
import Derived.SizedLaws
import Derived.HandedShaped
import Derived.Lib.SmallJoins
import Derived.Deep.Slices
import Derived.Deep.CondSized
import Derived.ChangeOld
import Derived.Test.YtfkdhambbpkmpaaDoorBv15
import Derived.Laws.AppendOwnNone
import Derived.Test.YtfkdhambbpkmpaaDoorBv14
import Derived.OrdersHeld
import Derived.Deep.RegionHeld
namespace Go.Proofs.YtfkdhambbpkmpaaDoor
open Go.RowKit
set_option linter.unusedVariables false
/-- The least whole number that is at least n / b. -/
def cdiv (n b : Nat) : Nat := (n + b - 1) / b
/-- How many of n keys are left at most behind k splits. -/
def lst (b : Nat) : Nat → Nat → Nat
  | 0, n => n
  | k + 1, n => cdiv (lst b k n) b
/-- Where part j of p parts of n things begins. -/
def stt (n p j : Nat) : Nat := j * n / p
theorem stt_zero (n p : Nat) : stt n p 0 = 0 := by unfold stt; rw [Nat.zero_mul, Nat.zero_div]
theorem stt_end (n : Nat) {p : Nat} (hp : 0 < p) : stt n p p = n := by unfold stt; rw [Nat.mul_div_cancel_left _ hp]
theorem stt_step (n : Nat) {p : Nat} (hp : 0 < p) (j : Nat) : stt n p j + n / p ≤ stt n p (j + 1) ∧ stt n p (j + 1) ≤ stt n p j + n / p + 1 := by
  unfold stt
  rw [Nat.add_mul, Nat.one_mul]
  generalize j * n = a
  constructor
  · rw [Nat.le_div_iff_mul_le hp, Nat.add_mul]
    have h1 := Nat.div_mul_le_self a p
    have h2 := Nat.div_mul_le_self n p
    omega
  · rw [← Nat.lt_succ_iff, Nat.div_lt_iff_lt_mul hp]
    have h1 := Nat.lt_div_mul_add (a := a) hp
    have h2 := Nat.lt_div_mul_add (a := n) hp
    have h3 : (a / p + n / p + 1).succ * p = a / p * p + n / p * p + p + p := by
      rw [Nat.succ_mul, Nat.add_mul, Nat.add_mul, Nat.one_mul]
    omega
theorem stt_le {n p j : Nat} (hp : 0 < p) (hj : j ≤ p) : stt n p j ≤ n := by
  unfold stt
  exact Nat.div_le_of_le_mul (Nat.mul_le_mul_right n hj)
theorem stt_lt {n p j : Nat} (hn : 0 < n) (hp : 0 < p) (hj : j < p) : stt n p j < n := by
  unfold stt
  rw [Nat.div_lt_iff_lt_mul hp, Nat.mul_comm n p]
  exact Nat.mul_lt_mul_of_pos_right hj hn
theorem div_pos' {n p : Nat} (hp : 0 < p) (h : p ≤ n) : 1 ≤ n / p := (Nat.le_div_iff_mul_le hp).2 (by omega)
end Go.Proofs.YtfkdhambbpkmpaaDoor
namespace Go.Proofs.YtfkdhambbpkmpaaDoor
open Go.ChangeShapes Go.WideShapes Go.ChangeAt Go.RowKit
set_option linter.unusedVariables false
end Go.Proofs.YtfkdhambbpkmpaaDoor
namespace Go.Proofs.YtfkdhambbpkmpaaDoor
open Go.ChangeShapes Go.WideShapes Go.ChangeAt Go.RowKit
set_option linter.unusedVariables false
theorem infoStr_parts : ∃ i, Tryd.prog.info? 9 = some i ∧ i.zero = some (.string ⟨#[]⟩) ∧ i.size = 1 ∧ i.bytes = 16 := by
  have h : (Tryd.prog.info? 9).map (fun i => (i.zero, i.size, i.bytes)) = some (some (.string ⟨#[]⟩), 1, 16) := by kernel_rfl
  cases hi : Tryd.prog.info? 9 with
  | none => rw [hi] at h; cases h
  | some i =>
    rw [hi] at h
    simp only [Option.map_some, Option.some.injEq, Prod.mk.injEq] at h
    exact ⟨i, rfl, h.1, h.2.1, h.2.2⟩
/-- Some texts as cells. -/
def strCells (bs : List ByteArray) : List Value := bs.map Value.string
/-- The first n texts of a list. -/
def strUpto (S : Nat → ByteArray) (n : Nat) : List ByteArray := (List.range n).map S
theorem strs_of_row {w : World} {B n₀ : Nat} {a : Option Addr} {n cap : Nat} {bs : List ByteArray} (h : w.ownsRow B 9 1 (.slice a n cap) n (strCells bs)) (hn : w.heap.size ≤ n₀) (hb : n * 16 ≤ 281474976710656) : StrsIn n₀ w a n cap (fun i => bs.getD i ByteArray.empty) := by
  obtain ⟨hl, ⟨h1, h2⟩ | ⟨g, cap', cur, h1, h2, h3, h4, h5, h6, h7⟩⟩ := h
  · cases h1; exact ⟨Nat.le_refl _, by omega, .inl rfl⟩
  · cases h1
    refine ⟨h4, hb, .inr ⟨g, 0, rfl, Nat.lt_of_lt_of_le (lies h3) hn, fun i hi => ?_⟩⟩
    have hcell : w.cell? ⟨g, 0 + i, none⟩ = cur[i]? := by
      simp [World.cell?, h3]
    rw [hcell]
    have e : (cur.toList.take (n * 1))[i]? = cur[i]? := by
      rw [List.getElem?_take, if_pos (by omega)]; simp
    rw [← e, h7]
    have hbl : bs.length = n := by simpa [strCells] using hl
    simp [strCells, List.getD, List.getElem?_eq_getElem (show i < bs.length by omega)]
section
variable {H : Type} {enc : TypeId × Value → H} {W : World}
end
end Go.Proofs.YtfkdhambbpkmpaaDoor
namespace Go.Proofs.YtfkdhambbpkmpaaDoor
open Go.RowKit
set_option linter.unusedVariables false
def longK (S : Nat → ByteArray) (n : Nat) : Bool := (List.range n).any fun i => decide ((16 : Int) < (S i).size)
def riseK (S : Nat → ByteArray) (n : Nat) : Bool := (List.range (n - 1)).all fun i => Op.bytesLess (S i).toList (S (i + 1)).toList
/-- What is wrong with keys. -/
def keyE (S : Nat → ByteArray) (n : Nat) : Int := if longK S n then 20 else if riseK S n then 0 else 22
theorem leq_not (x y : List UInt8) : (Op.bytesLess x y || x == y) = !Op.bytesLess y x := by
  cases h1 : Op.bytesLess x y
  · cases h2 : Op.bytesLess y x
    · have := L_total x y h1 h2
      subst this
      simp
    · cases h3 : (x == y)
      · rfl
      · have : x = y := by simpa using h3
        subst this
        rw [h1] at h2; cases h2
  · cases h2 : Op.bytesLess y x
    · rfl
    · have := L_trans x y x h1 h2
      rw [L_irrefl] at this; cases this
theorem longK_true {S : Nat → ByteArray} {n k : Nat} (hk : k < n) (h : (16 : Int) < (S k).size) : longK S n = true := by
  unfold longK
  rw [List.any_eq_true]
  exact ⟨k, List.mem_range.2 hk, by simpa using h⟩
theorem longK_false {S : Nat → ByteArray} {n : Nat} (h : ∀ k, k < n → ((S k).size : Int) ≤ 16) : longK S n = false := by
  unfold longK
  rw [List.any_eq_false]
  intro k hk
  have := h k (List.mem_range.1 hk)
  simp; omega
theorem riseK_false {S : Nat → ByteArray} {n k : Nat} (hk : k + 1 < n) (h : Op.bytesLess (S k).toList (S (k + 1)).toList = false) : riseK S n = false := by
  unfold riseK
  rw [List.all_eq_false]
  exact ⟨k, List.mem_range.2 (by omega), by simp [h]⟩
theorem riseK_true {S : Nat → ByteArray} {n : Nat} (h : ∀ k, k + 1 < n → Op.bytesLess (S k).toList (S (k + 1)).toList = true) : riseK S n = true := by
  unfold riseK
  rw [List.all_eq_true]
  intro k hk
  exact h k (by have := List.mem_range.1 hk; omega)
set_option maxHeartbeats 800000 in
theorem tooLong_any (k : ByteArray) (w : World) : Calls Tryd.prog 80 #[.string k] w fun e w' => e = .returned (.bool (decide ((16 : Int) < k.size))) ∧ w' = w := by
  go_enter Tryd.func80, Tryd.ntmps80
  go_wp2
  go_ret
  exact ⟨rfl, rfl⟩
set_option maxRecDepth 100000 in
set_option maxHeartbeats 2000000 in
theorem idxK_any (a : Option Addr) (len cap : Nat) (S : Nat → ByteArray) (w : World) (h : StrsIn w.heap.size w a len cap S) :
    Calls Tryd.prog 88 #[.slice a len cap, .func (.func 80) #[] #[]] w fun e w' => ∃ i : Int, e = .returned (.int .i64 i) ∧ decide (0 ≤ i) = longK S len ∧ w' = w := by
  obtain ⟨hlc, hl16, hh⟩ := h
  go_enter Tryd.func88, Tryd.ntmps88
  go_wp2
  go_loopw [8] (fun i wr => ∃ k : Nat, k ≤ len ∧ i = .int .i64 (k : Int) ∧ Hid (∀ j, j < k → ((S j).size : Int) ≤ 16) ∧ wr = w) (fun i _ => len - (intOf i).toNat)
  case atStart => exact ⟨0, Nat.zero_le _, rfl, fun j hj => by omega, rfl⟩
  case round =>
    obtain ⟨k, hk, rfl, hall, rfl⟩ := hrel
    by_cases hlt : (k : Int) < (len : Int)
    · rcases hh with hh | ⟨b, off, rfl, hb, hc⟩
      · omega
      · have c0 := hc k (by omega)
        have hk0 : (0 : Int) ≤ (k : Int) := by omega
        have hqw : IntKind.i64.wrap ((k : Int) + 1) = (k : Int) + 1 := by rw [IntKind.wrap_i64]; omega
        clear hc
        cases he : decide ((16 : Int) < (S k).size)
        · have HA := aside (show ∀ j, j < k + 1 → ((S j).size : Int) ≤ 16 from fun j hj => by
            by_cases e : j = k
            · rw [e]; have := of_decide_eq_false he; omega
            · exact hall.out j (by omega))
          go_wp2_with fail
          refine (tooLong_any _ _).mono ?_
          rintro e w1 ⟨rfl, rfl⟩
          rw [he]
          go_wp2
          go_roundw
          case rel => exact ⟨k + 1, by omega, by go_num, HA, by trivial⟩
          case measure => simp [intOf]; omega
        · have HL := aside (longK_true (S := S) (n := len) (by omega) (of_decide_eq_true he))
          go_wp2_with fail
          refine (tooLong_any _ _).mono ?_
          rintro e w1 ⟨rfl, rfl⟩
          rw [he]
          go_wp2
          go_ret
          exact ⟨_, rfl, by rw [HL.out]; exact decide_eq_true hk0, rfl⟩
    · obtain rfl : len = k := by omega
      go_wp2
      go_ret
      exact ⟨_, rfl, by rw [longK_false hall.out]; rfl, rfl⟩
set_option maxHeartbeats 800000 in
theorem contK_any (a : Option Addr) (len cap : Nat) (S : Nat → ByteArray) (w : World) (h : StrsIn w.heap.size w a len cap S) :
    Calls Tryd.prog 79 #[.slice a len cap, .func (.func 80) #[] #[]] w fun e w' => e = .returned (.bool (longK S len)) ∧ w' = w := by
  have H := aside h
  clear h
  go_enter Tryd.func79, Tryd.ntmps79
  go_wp2_with fail
  refine (idxK_any a len cap S w H.out).mono ?_
  rintro e w1 ⟨i, rfl, hi, rfl⟩
  go_wp2
  go_ret
  exact ⟨by rw [← hi]; rfl, rfl⟩
set_option maxRecDepth 100000 in
set_option maxHeartbeats 3200000 in
theorem rise_any (a : Option Addr) (len cap : Nat) (S : Nat → ByteArray) (w : World) (h : StrsIn w.heap.size w a len cap S) :
    Calls Tryd.prog 81 #[.slice a len cap] w fun e w' => e = .returned (.bool (riseK S len)) ∧ Below w.heap.size w w' := by
  have hlc := h.1
  have hl16 := h.2.1
  have HH := aside h.2.2
  clear h
  go_enter Tryd.func81, Tryd.ntmps81
  go_wp2
  go_loopw [3] (fun i wr => ∃ k : Nat, (k = 0 ∨ k + 1 ≤ len) ∧ i = .int .i64 ((k : Int) + 1) ∧ Hid (∀ j, j < k → Op.bytesLess (S j).toList (S (j + 1)).toList = true) ∧ Below w.heap.size w wr) (fun i _ => len - (intOf i).toNat)
  case atStart => exact ⟨0, .inl rfl, rfl, fun j hj => by omega, Below.refl _ _⟩
  case round =>
    obtain ⟨k, hk, rfl, hall, hnx⟩ := hrel
    have HX := aside hnx
    by_cases hlt : (k : Int) + 1 < (len : Int)
    · rcases HH.out with h0 | ⟨b, off, rfl, hb, hc⟩
      · omega
      · have c1 := (hnx.cell (p := ⟨b, off + (k + 1), none⟩) hb).trans (hc (k + 1) (by omega))
        have c0 := (hnx.cell (p := ⟨b, off + k, none⟩) hb).trans (hc k (by omega))
        have hk0 : (0 : Int) ≤ (k : Int) := by omega
        have hk1 : (0 : Int) ≤ (k : Int) + 1 := by omega
        have hk2 : (k : Int) < (len : Int) := by omega
        have hkw : IntKind.i64.wrap (k : Int) = (k : Int) := by rw [IntKind.wrap_i64]; omega
        have hqw : IntKind.i64.wrap ((k : Int) + 1 + 1) = (k : Int) + 1 + 1 := by rw [IntKind.wrap_i64]; omega
        have KL := aside (show k + 1 < len from by omega)
        clear hc hnx
        have hle := leq_not (S (k + 1)).toList (S k).toList
        cases he : Op.bytesLess (S k).toList (S (k + 1)).toList
        · have HE := aside he
          go_wp2_with fail
          refine wp_region_held_drew (S := fun X => X.cell? ⟨b, off + (k + 1), none⟩ = some (.string (S (k + 1))) ∧ X.cell? ⟨b, off + k, none⟩ = some (.string (S k)) ∧ Hid (Below w.heap.size w X)) (by kernel_rfl) ⟨c1, c0, aside HX.out.drew⟩ (fun hHeld => ?_)
          refine wpAnyH_take (i := 0) (v := ?_) rfl (by kernel_rfl) (by kernel_rfl) (by kernel_rfl) (fun _ _ _ h => h) (Or.inl ⟨by rfl, ?_⟩) (by assumption) ?_
          rotate_left
          · intro w hSw
            go_simp
            try with_reducible rfl
          simp only [Act.put, List.getElem_toArray, List.getElem_cons_zero, List.setIfInBounds_toArray, List.set_cons_zero, List.set_cons_succ]
          refine wpAnyH_take (i := 1) (v := ?_) rfl (by kernel_rfl) (by kernel_rfl) (by kernel_rfl) (fun _ _ _ h => h) (Or.inl ⟨by rfl, ?_⟩) (by assumption) ?_
          rotate_left
          · intro w hSw
            go_simp
            try with_reducible rfl
          simp only [Act.put, List.getElem_toArray, List.getElem_cons_zero, List.getElem_cons_succ, List.setIfInBounds_toArray, List.set_cons_zero, List.set_cons_succ]
          refine wpAnyH_take (i := 2) (v := ?_) rfl (by kernel_rfl) (by kernel_rfl) (by kernel_rfl) (fun _ _ _ h => h) (Or.inl ⟨by rfl, ?_⟩) (by assumption) ?_
          rotate_left
          · intro w hSw
            go_simp
            try with_reducible rfl
          simp only [Act.put, List.getElem_toArray, List.getElem_cons_zero, List.getElem_cons_succ, List.setIfInBounds_toArray, List.set_cons_zero, List.set_cons_succ]
          refine wpAnyH_take (i := 3) (v := ?_) rfl (by kernel_rfl) (by kernel_rfl) (by kernel_rfl) (fun _ _ _ h => h) (Or.inl ⟨by rfl, ?_⟩) (by assumption) ?_
          rotate_left
          · intro w hSw
            go_simp
            try with_reducible rfl
          simp only [Act.put, List.getElem_toArray, List.getElem_cons_zero, List.getElem_cons_succ, List.setIfInBounds_toArray, List.set_cons_zero, List.set_cons_succ]
          refine wpAnyH_take (i := 4) (v := ?_) rfl (by kernel_rfl) (by kernel_rfl) (by kernel_rfl) (fun _ _ _ h => h) (Or.inl ⟨by rfl, ?_⟩) (by assumption) ?_
          rotate_left
          · intro w hSw
            go_simp
            try with_reducible rfl
          simp only [Act.put, List.getElem_toArray, List.getElem_cons_zero, List.getElem_cons_succ, List.setIfInBounds_toArray, List.set_cons_zero, List.set_cons_succ]
          refine wpAnyH_take (i := 5) (v := ?_) rfl (by kernel_rfl) (by kernel_rfl) (by kernel_rfl) (fun _ _ _ h => h) (Or.inl ⟨by rfl, ?_⟩) (by assumption) ?_
          rotate_left
          · intro w hSw
            go_simp
            try with_reducible rfl
          simp only [Act.put, List.getElem_toArray, List.getElem_cons_zero, List.getElem_cons_succ, List.setIfInBounds_toArray, List.set_cons_zero, List.set_cons_succ]
          refine wpAnyH_take (i := 6) (v := ?_) rfl (by kernel_rfl) (by kernel_rfl) (by kernel_rfl) (fun _ _ _ h => h) (Or.inl ⟨by rfl, ?_⟩) (by assumption) ?_
          rotate_left
          · intro w hSw
            go_simp
            try with_reducible rfl
          simp only [Act.put, List.getElem_toArray, List.getElem_cons_zero, List.getElem_cons_succ, List.setIfInBounds_toArray, List.set_cons_zero, List.set_cons_succ]
          refine wpAnyH_take (i := 7) (v := ?_) rfl (by kernel_rfl) (by kernel_rfl) (by kernel_rfl) (fun _ _ _ h => h) (Or.inl ⟨by rfl, ?_⟩) (by assumption) ?_
          rotate_left
          · intro w hSw
            go_simp
            try with_reducible rfl
          simp only [Act.put, List.getElem_toArray, List.getElem_cons_zero, List.getElem_cons_succ, List.setIfInBounds_toArray, List.set_cons_zero, List.set_cons_succ]
          refine wpAnyH_take (i := 8) (v := ?_) rfl (by kernel_rfl) (by kernel_rfl) (by kernel_rfl) (fun _ _ _ h => h) (Or.inl ⟨by rfl, ?_⟩) (by assumption) ?_
          rotate_left
          · intro w hSw
            go_simp
            try with_reducible rfl
          simp only [Act.put, List.getElem_toArray, List.getElem_cons_zero, List.getElem_cons_succ, List.setIfInBounds_toArray, List.set_cons_zero, List.set_cons_succ]
          refine wpAnyH_take (i := 9) (v := ?_) rfl (by kernel_rfl) (by kernel_rfl) (by kernel_rfl) (fun _ _ _ h => h) (Or.inl ⟨by rfl, ?_⟩) (by assumption) ?_
          rotate_left
          · intro w hSw
            go_simp
            try with_reducible rfl
          simp only [Act.put, List.getElem_toArray, List.getElem_cons_zero, List.getElem_cons_succ, List.setIfInBounds_toArray, List.set_cons_zero, List.set_cons_succ]
          refine wpAnyH_done (by kernel_rfl) ?_ _
          have HY := aside hHeld.2.2.out
          clear hHeld c0 c1
          clear hle he
          go_wp2
          go_ret
          exact ⟨by rw [riseK_false KL.out HE.out]; rfl, HY.out⟩
        · have HA := aside (show ∀ j, j < k + 1 → Op.bytesLess (S j).toList (S (j + 1)).toList = true from fun j hj => by
            by_cases e : j = k
            · rw [e]; exact he
            · exact hall.out j (by omega))
          go_wp2_with fail
          refine wp_region_held_drew (S := fun X => X.cell? ⟨b, off + (k + 1), none⟩ = some (.string (S (k + 1))) ∧ X.cell? ⟨b, off + k, none⟩ = some (.string (S k)) ∧ Hid (Below w.heap.size w X)) (by kernel_rfl) ⟨c1, c0, aside HX.out.drew⟩ (fun hHeld => ?_)
          refine wpAnyH_take (i := 0) (v := ?_) rfl (by kernel_rfl) (by kernel_rfl) (by kernel_rfl) (fun _ _ _ h => h) (Or.inl ⟨by rfl, ?_⟩) (by assumption) ?_
          rotate_left
          · intro w hSw
            go_simp
            try with_reducible rfl
          simp only [Act.put, List.getElem_toArray, List.getElem_cons_zero, List.setIfInBounds_toArray, List.set_cons_zero, List.set_cons_succ]
          refine wpAnyH_take (i := 1) (v := ?_) rfl (by kernel_rfl) (by kernel_rfl) (by kernel_rfl) (fun _ _ _ h => h) (Or.inl ⟨by rfl, ?_⟩) (by assumption) ?_
          rotate_left
          · intro w hSw
            go_simp
            try with_reducible rfl
          simp only [Act.put, List.getElem_toArray, List.getElem_cons_zero, List.getElem_cons_succ, List.setIfInBounds_toArray, List.set_cons_zero, List.set_cons_succ]
          refine wpAnyH_take (i := 2) (v := ?_) rfl (by kernel_rfl) (by kernel_rfl) (by kernel_rfl) (fun _ _ _ h => h) (Or.inl ⟨by rfl, ?_⟩) (by assumption) ?_
          rotate_left
          · intro w hSw
            go_simp
            try with_reducible rfl
          simp only [Act.put, List.getElem_toArray, List.getElem_cons_zero, List.getElem_cons_succ, List.setIfInBounds_toArray, List.set_cons_zero, List.set_cons_succ]
          refine wpAnyH_take (i := 3) (v := ?_) rfl (by kernel_rfl) (by kernel_rfl) (by kernel_rfl) (fun _ _ _ h => h) (Or.inl ⟨by rfl, ?_⟩) (by assumption) ?_
          rotate_left
          · intro w hSw
            go_simp
            try with_reducible rfl
          simp only [Act.put, List.getElem_toArray, List.getElem_cons_zero, List.getElem_cons_succ, List.setIfInBounds_toArray, List.set_cons_zero, List.set_cons_succ]
          refine wpAnyH_take (i := 4) (v := ?_) rfl (by kernel_rfl) (by kernel_rfl) (by kernel_rfl) (fun _ _ _ h => h) (Or.inl ⟨by rfl, ?_⟩) (by assumption) ?_
          rotate_left
          · intro w hSw
            go_simp
            try with_reducible rfl
          simp only [Act.put, List.getElem_toArray, List.getElem_cons_zero, List.getElem_cons_succ, List.setIfInBounds_toArray, List.set_cons_zero, List.set_cons_succ]
          refine wpAnyH_take (i := 5) (v := ?_) rfl (by kernel_rfl) (by kernel_rfl) (by kernel_rfl) (fun _ _ _ h => h) (Or.inl ⟨by rfl, ?_⟩) (by assumption) ?_
          rotate_left
          · intro w hSw
            go_simp
            try with_reducible rfl
          simp only [Act.put, List.getElem_toArray, List.getElem_cons_zero, List.getElem_cons_succ, List.setIfInBounds_toArray, List.set_cons_zero, List.set_cons_succ]
          refine wpAnyH_take (i := 6) (v := ?_) rfl (by kernel_rfl) (by kernel_rfl) (by kernel_rfl) (fun _ _ _ h => h) (Or.inl ⟨by rfl, ?_⟩) (by assumption) ?_
          rotate_left
          · intro w hSw
            go_simp
            try with_reducible rfl
          simp only [Act.put, List.getElem_toArray, List.getElem_cons_zero, List.getElem_cons_succ, List.setIfInBounds_toArray, List.set_cons_zero, List.set_cons_succ]
          refine wpAnyH_take (i := 7) (v := ?_) rfl (by kernel_rfl) (by kernel_rfl) (by kernel_rfl) (fun _ _ _ h => h) (Or.inl ⟨by rfl, ?_⟩) (by assumption) ?_
          rotate_left
          · intro w hSw
            go_simp
            try with_reducible rfl
          simp only [Act.put, List.getElem_toArray, List.getElem_cons_zero, List.getElem_cons_succ, List.setIfInBounds_toArray, List.set_cons_zero, List.set_cons_succ]
          refine wpAnyH_take (i := 8) (v := ?_) rfl (by kernel_rfl) (by kernel_rfl) (by kernel_rfl) (fun _ _ _ h => h) (Or.inl ⟨by rfl, ?_⟩) (by assumption) ?_
          rotate_left
          · intro w hSw
            go_simp
            try with_reducible rfl
          simp only [Act.put, List.getElem_toArray, List.getElem_cons_zero, List.getElem_cons_succ, List.setIfInBounds_toArray, List.set_cons_zero, List.set_cons_succ]
          refine wpAnyH_take (i := 9) (v := ?_) rfl (by kernel_rfl) (by kernel_rfl) (by kernel_rfl) (fun _ _ _ h => h) (Or.inl ⟨by rfl, ?_⟩) (by assumption) ?_
          rotate_left
          · intro w hSw
            go_simp
            try with_reducible rfl
          simp only [Act.put, List.getElem_toArray, List.getElem_cons_zero, List.getElem_cons_succ, List.setIfInBounds_toArray, List.set_cons_zero, List.set_cons_succ]
          refine wpAnyH_done (by kernel_rfl) ?_ _
          have HY := aside hHeld.2.2.out
          clear hHeld c0 c1
          clear hle he
          go_wp2
          go_roundw
          case rel => exact ⟨k + 1, .inr (by omega), by go_num, HA, HY.out⟩
          case measure => simp [intOf]; omega
    · have HR := aside (riseK_true (S := S) (n := len) (fun j hj => hall.out j (by omega)))
      clear hnx
      go_wp2
      go_ret
      exact ⟨by rw [HR.out]; rfl, HX.out⟩
set_option maxHeartbeats 1600000 in
theorem checkKeys_any (a : Option Addr) (len cap : Nat) (S : Nat → ByteArray) (w : World) (h : StrsIn w.heap.size w a len cap S) :
    Calls Tryd.prog 69 #[.slice a len cap] w fun e w' => e = .returned (.int .i64 (keyE S len)) ∧ Below w.heap.size w w' := by
  have H := aside h
  clear h
  obtain ⟨q, hq⟩ : ∃ q, longK S len = q := ⟨_, rfl⟩
  obtain ⟨r, hr⟩ : ∃ r, riseK S len = r := ⟨_, rfl⟩
  have C1 := aside (contK_any a len cap S w H.out)
  have C2 := aside (fun w (h : StrsIn w.heap.size w a len cap S) => rise_any a len cap S w h)
  rw [show keyE S len = if q then 20 else if r then 0 else 22 from by unfold keyE; rw [hq, hr]]
  rw [hq] at C1
  rw [hr] at C2
  clear hq hr
  go_enter Tryd.func69, Tryd.ntmps69
  go_wp2_with fail
  refine C1.out.mono ?_
  rintro e w1 ⟨rfl, hw⟩
  subst hw
  cases q
  · go_wp2_with fail
    refine (C2.out _ H.out).mono ?_
    rintro e w2 ⟨rfl, b2⟩
    cases r
    · go_wp2
      go_ret
      exact ⟨rfl, b2⟩
    · go_wp2
      go_ret
      exact ⟨rfl, b2⟩
  · go_wp2
    go_ret
    exact ⟨rfl, Below.refl _ _⟩
set_option maxRecDepth 100000 in
set_option maxHeartbeats 3200000 in
theorem rrise_any (a : Option Addr) (len cap : Nat) (S : Nat → ByteArray) (w : World) (h : StrsIn w.heap.size w a len cap S) :
    Calls Tryd.prog 61 #[.slice a len cap] w fun e w' => e = .returned (.int .i64 (keyE S len)) ∧ Below w.heap.size w w' := by
  have hlc := h.1
  have hl16 := h.2.1
  have HH := aside h.2.2
  clear h
  go_enter Tryd.func61, Tryd.ntmps61
  go_wp2
  go_loopw [3] (fun i wr => ∃ k : Nat, k ≤ len ∧ i = .int .i64 (k : Int) ∧ Hid (∀ j, j < k → ((S j).size : Int) ≤ 16) ∧ w = wr) (fun i _ => len - (intOf i).toNat)
  case atStart => exact ⟨0, Nat.zero_le _, rfl, fun j hj => by omega, rfl⟩
  case round =>
    obtain ⟨k, hk, rfl, hall, rfl⟩ := hrel
    by_cases hlt : (k : Int) < (len : Int)
    · rcases HH.out with hh | ⟨b, off, rfl, hb, hc⟩
      · omega
      · have c0 := hc k (by omega)
        have hk0 : (0 : Int) ≤ (k : Int) := by omega
        have hqw : IntKind.i64.wrap ((k : Int) + 1) = (k : Int) + 1 := by rw [IntKind.wrap_i64]; omega
        clear hc
        by_cases he : (16 : Int) < (S k).size
        · have HL := aside (show keyE S len = 20 from by unfold keyE; rw [longK_true (S := S) (n := len) (by omega) he]; rfl)
          go_wp2
          go_ret
          exact ⟨by rw [HL.out]; rfl, Below.refl _ _⟩
        · have HA := aside (show ∀ j, j < k + 1 → ((S j).size : Int) ≤ 16 from fun j hj => by
            by_cases e : j = k
            · rw [e]; omega
            · exact hall.out j (by omega))
          go_wp2
          go_roundw
          case rel => exact ⟨k + 1, by omega, by go_num, HA, by trivial⟩
          case measure => simp [intOf]; omega
    · obtain rfl : len = k := by omega
      have HL := aside (longK_false hall.out)
      have HB := aside (Below.refl w.heap.size w)
      clear hall hlt hk
      go_wp2
      go_loopw [4] (fun i wr => ∃ k : Nat, (k = 0 ∨ k + 1 ≤ len) ∧ i = .int .i64 ((k : Int) + 1) ∧ Hid (∀ j, j < k → Op.bytesLess (S j).toList (S (j + 1)).toList = true) ∧ Below w.heap.size w wr) (fun i _ => len - (intOf i).toNat)
      case atStart => exact ⟨0, .inl rfl, rfl, fun j hj => by omega, HB.out⟩
      case round =>
        obtain ⟨k, hk, rfl, hall, hnx⟩ := hrel
        have HX := aside hnx
        by_cases hlt : (k : Int) + 1 < (len : Int)
        · rcases HH.out with h0 | ⟨b, off, rfl, hb, hc⟩
          · omega
          · have c1 := (hnx.cell (p := ⟨b, off + (k + 1), none⟩) hb).trans (hc (k + 1) (by omega))
            have c0 := (hnx.cell (p := ⟨b, off + k, none⟩) hb).trans (hc k (by omega))
            have hk0 : (0 : Int) ≤ (k : Int) := by omega
            have hk1 : (0 : Int) ≤ (k : Int) + 1 := by omega
            have hk2 : (k : Int) < (len : Int) := by omega
            have hkw : IntKind.i64.wrap (k : Int) = (k : Int) := by rw [IntKind.wrap_i64]; omega
            have hqw : IntKind.i64.wrap ((k : Int) + 1 + 1) = (k : Int) + 1 + 1 := by rw [IntKind.wrap_i64]; omega
            have KL := aside (show k + 1 < len from by omega)
            clear hc hnx
            have hle := leq_not (S (k + 1)).toList (S k).toList
            cases he : Op.bytesLess (S k).toList (S (k + 1)).toList
            · have HE := aside he
              go_wp2_with fail
              refine wp_region_held_drew (S := fun X => X.cell? ⟨b, off + (k + 1), none⟩ = some (.string (S (k + 1))) ∧ X.cell? ⟨b, off + k, none⟩ = some (.string (S k)) ∧ Hid (Below w.heap.size w X)) (by kernel_rfl) ⟨c1, c0, aside HX.out.drew⟩ (fun hHeld => ?_)
              refine wpAnyH_take (i := 0) (v := ?_) rfl (by kernel_rfl) (by kernel_rfl) (by kernel_rfl) (fun _ _ _ h => h) (Or.inl ⟨by rfl, ?_⟩) (by assumption) ?_
              rotate_left
              · intro w hSw
                go_simp
                try with_reducible rfl
              simp only [Act.put, List.getElem_toArray, List.getElem_cons_zero, List.setIfInBounds_toArray, List.set_cons_zero, List.set_cons_succ]
              refine wpAnyH_take (i := 1) (v := ?_) rfl (by kernel_rfl) (by kernel_rfl) (by kernel_rfl) (fun _ _ _ h => h) (Or.inl ⟨by rfl, ?_⟩) (by assumption) ?_
              rotate_left
              · intro w hSw
                go_simp
                try with_reducible rfl
              simp only [Act.put, List.getElem_toArray, List.getElem_cons_zero, List.getElem_cons_succ, List.setIfInBounds_toArray, List.set_cons_zero, List.set_cons_succ]
              refine wpAnyH_take (i := 2) (v := ?_) rfl (by kernel_rfl) (by kernel_rfl) (by kernel_rfl) (fun _ _ _ h => h) (Or.inl ⟨by rfl, ?_⟩) (by assumption) ?_
              rotate_left
              · intro w hSw
                go_simp
                try with_reducible rfl
              simp only [Act.put, List.getElem_toArray, List.getElem_cons_zero, List.getElem_cons_succ, List.setIfInBounds_toArray, List.set_cons_zero, List.set_cons_succ]
              refine wpAnyH_take (i := 3) (v := ?_) rfl (by kernel_rfl) (by kernel_rfl) (by kernel_rfl) (fun _ _ _ h => h) (Or.inl ⟨by rfl, ?_⟩) (by assumption) ?_
              rotate_left
              · intro w hSw
                go_simp
                try with_reducible rfl
              simp only [Act.put, List.getElem_toArray, List.getElem_cons_zero, List.getElem_cons_succ, List.setIfInBounds_toArray, List.set_cons_zero, List.set_cons_succ]
              refine wpAnyH_take (i := 4) (v := ?_) rfl (by kernel_rfl) (by kernel_rfl) (by kernel_rfl) (fun _ _ _ h => h) (Or.inl ⟨by rfl, ?_⟩) (by assumption) ?_
              rotate_left
              · intro w hSw
                go_simp
                try with_reducible rfl
              simp only [Act.put, List.getElem_toArray, List.getElem_cons_zero, List.getElem_cons_succ, List.setIfInBounds_toArray, List.set_cons_zero, List.set_cons_succ]
              refine wpAnyH_take (i := 5) (v := ?_) rfl (by kernel_rfl) (by kernel_rfl) (by kernel_rfl) (fun _ _ _ h => h) (Or.inl ⟨by rfl, ?_⟩) (by assumption) ?_
              rotate_left
              · intro w hSw
                go_simp
                try with_reducible rfl
              simp only [Act.put, List.getElem_toArray, List.getElem_cons_zero, List.getElem_cons_succ, List.setIfInBounds_toArray, List.set_cons_zero, List.set_cons_succ]
              refine wpAnyH_take (i := 6) (v := ?_) rfl (by kernel_rfl) (by kernel_rfl) (by kernel_rfl) (fun _ _ _ h => h) (Or.inl ⟨by rfl, ?_⟩) (by assumption) ?_
              rotate_left
              · intro w hSw
                go_simp
                try with_reducible rfl
              simp only [Act.put, List.getElem_toArray, List.getElem_cons_zero, List.getElem_cons_succ, List.setIfInBounds_toArray, List.set_cons_zero, List.set_cons_succ]
              refine wpAnyH_take (i := 7) (v := ?_) rfl (by kernel_rfl) (by kernel_rfl) (by kernel_rfl) (fun _ _ _ h => h) (Or.inl ⟨by rfl, ?_⟩) (by assumption) ?_
              rotate_left
              · intro w hSw
                go_simp
                try with_reducible rfl
              simp only [Act.put, List.getElem_toArray, List.getElem_cons_zero, List.getElem_cons_succ, List.setIfInBounds_toArray, List.set_cons_zero, List.set_cons_succ]
              refine wpAnyH_take (i := 8) (v := ?_) rfl (by kernel_rfl) (by kernel_rfl) (by kernel_rfl) (fun _ _ _ h => h) (Or.inl ⟨by rfl, ?_⟩) (by assumption) ?_
              rotate_left
              · intro w hSw
                go_simp
                try with_reducible rfl
              simp only [Act.put, List.getElem_toArray, List.getElem_cons_zero, List.getElem_cons_succ, List.setIfInBounds_toArray, List.set_cons_zero, List.set_cons_succ]
              refine wpAnyH_take (i := 9) (v := ?_) rfl (by kernel_rfl) (by kernel_rfl) (by kernel_rfl) (fun _ _ _ h => h) (Or.inl ⟨by rfl, ?_⟩) (by assumption) ?_
              rotate_left
              · intro w hSw
                go_simp
                try with_reducible rfl
              simp only [Act.put, List.getElem_toArray, List.getElem_cons_zero, List.getElem_cons_succ, List.setIfInBounds_toArray, List.set_cons_zero, List.set_cons_succ]
              refine wpAnyH_done (by kernel_rfl) ?_ _
              have HY := aside hHeld.2.2.out
              clear hHeld c0 c1
              clear hle he
              have HZ := aside (show keyE S len = 22 from by unfold keyE; rw [HL.out, riseK_false KL.out HE.out]; rfl)
              go_wp2
              go_ret
              exact ⟨by rw [HZ.out]; rfl, HY.out⟩
            · have HA := aside (show ∀ j, j < k + 1 → Op.bytesLess (S j).toList (S (j + 1)).toList = true from fun j hj => by
                by_cases e : j = k
                · rw [e]; exact he
                · exact hall.out j (by omega))
              go_wp2_with fail
              refine wp_region_held_drew (S := fun X => X.cell? ⟨b, off + (k + 1), none⟩ = some (.string (S (k + 1))) ∧ X.cell? ⟨b, off + k, none⟩ = some (.string (S k)) ∧ Hid (Below w.heap.size w X)) (by kernel_rfl) ⟨c1, c0, aside HX.out.drew⟩ (fun hHeld => ?_)
              refine wpAnyH_take (i := 0) (v := ?_) rfl (by kernel_rfl) (by kernel_rfl) (by kernel_rfl) (fun _ _ _ h => h) (Or.inl ⟨by rfl, ?_⟩) (by assumption) ?_
              rotate_left
              · intro w hSw
                go_simp
                try with_reducible rfl
              simp only [Act.put, List.getElem_toArray, List.getElem_cons_zero, List.setIfInBounds_toArray, List.set_cons_zero, List.set_cons_succ]
              refine wpAnyH_take (i := 1) (v := ?_) rfl (by kernel_rfl) (by kernel_rfl) (by kernel_rfl) (fun _ _ _ h => h) (Or.inl ⟨by rfl, ?_⟩) (by assumption) ?_
              rotate_left
              · intro w hSw
                go_simp
                try with_reducible rfl
              simp only [Act.put, List.getElem_toArray, List.getElem_cons_zero, List.getElem_cons_succ, List.setIfInBounds_toArray, List.set_cons_zero, List.set_cons_succ]
              refine wpAnyH_take (i := 2) (v := ?_) rfl (by kernel_rfl) (by kernel_rfl) (by kernel_rfl) (fun _ _ _ h => h) (Or.inl ⟨by rfl, ?_⟩) (by assumption) ?_
              rotate_left
              · intro w hSw
                go_simp
                try with_reducible rfl
              simp only [Act.put, List.getElem_toArray, List.getElem_cons_zero, List.getElem_cons_succ, List.setIfInBounds_toArray, List.set_cons_zero, List.set_cons_succ]
              refine wpAnyH_take (i := 3) (v := ?_) rfl (by kernel_rfl) (by kernel_rfl) (by kernel_rfl) (fun _ _ _ h => h) (Or.inl ⟨by rfl, ?_⟩) (by assumption) ?_
              rotate_left
              · intro w hSw
                go_simp
                try with_reducible rfl
              simp only [Act.put, List.getElem_toArray, List.getElem_cons_zero, List.getElem_cons_succ, List.setIfInBounds_toArray, List.set_cons_zero, List.set_cons_succ]
              refine wpAnyH_take (i := 4) (v := ?_) rfl (by kernel_rfl) (by kernel_rfl) (by kernel_rfl) (fun _ _ _ h => h) (Or.inl ⟨by rfl, ?_⟩) (by assumption) ?_
              rotate_left
              · intro w hSw
                go_simp
                try with_reducible rfl
              simp only [Act.put, List.getElem_toArray, List.getElem_cons_zero, List.getElem_cons_succ, List.setIfInBounds_toArray, List.set_cons_zero, List.set_cons_succ]
              refine wpAnyH_take (i := 5) (v := ?_) rfl (by kernel_rfl) (by kernel_rfl) (by kernel_rfl) (fun _ _ _ h => h) (Or.inl ⟨by rfl, ?_⟩) (by assumption) ?_
              rotate_left
              · intro w hSw
                go_simp
                try with_reducible rfl
              simp only [Act.put, List.getElem_toArray, List.getElem_cons_zero, List.getElem_cons_succ, List.setIfInBounds_toArray, List.set_cons_zero, List.set_cons_succ]
              refine wpAnyH_take (i := 6) (v := ?_) rfl (by kernel_rfl) (by kernel_rfl) (by kernel_rfl) (fun _ _ _ h => h) (Or.inl ⟨by rfl, ?_⟩) (by assumption) ?_
              rotate_left
              · intro w hSw
                go_simp
                try with_reducible rfl
              simp only [Act.put, List.getElem_toArray, List.getElem_cons_zero, List.getElem_cons_succ, List.setIfInBounds_toArray, List.set_cons_zero, List.set_cons_succ]
              refine wpAnyH_take (i := 7) (v := ?_) rfl (by kernel_rfl) (by kernel_rfl) (by kernel_rfl) (fun _ _ _ h => h) (Or.inl ⟨by rfl, ?_⟩) (by assumption) ?_
              rotate_left
              · intro w hSw
                go_simp
                try with_reducible rfl
              simp only [Act.put, List.getElem_toArray, List.getElem_cons_zero, List.getElem_cons_succ, List.setIfInBounds_toArray, List.set_cons_zero, List.set_cons_succ]
              refine wpAnyH_take (i := 8) (v := ?_) rfl (by kernel_rfl) (by kernel_rfl) (by kernel_rfl) (fun _ _ _ h => h) (Or.inl ⟨by rfl, ?_⟩) (by assumption) ?_
              rotate_left
              · intro w hSw
                go_simp
                try with_reducible rfl
              simp only [Act.put, List.getElem_toArray, List.getElem_cons_zero, List.getElem_cons_succ, List.setIfInBounds_toArray, List.set_cons_zero, List.set_cons_succ]
              refine wpAnyH_take (i := 9) (v := ?_) rfl (by kernel_rfl) (by kernel_rfl) (by kernel_rfl) (fun _ _ _ h => h) (Or.inl ⟨by rfl, ?_⟩) (by assumption) ?_
              rotate_left
              · intro w hSw
                go_simp
                try with_reducible rfl
              simp only [Act.put, List.getElem_toArray, List.getElem_cons_zero, List.getElem_cons_succ, List.setIfInBounds_toArray, List.set_cons_zero, List.set_cons_succ]
              refine wpAnyH_done (by kernel_rfl) ?_ _
              have HY := aside hHeld.2.2.out
              clear hHeld c0 c1
              clear hle he
              go_wp2
              go_roundw
              case rel => exact ⟨k + 1, .inr (by omega), by go_num, HA, HY.out⟩
              case measure => simp [intOf]; omega
        · have HR := aside (riseK_true (S := S) (n := len) (fun j hj => hall.out j (by omega)))
          clear hnx
          have HZ := aside (show keyE S len = 0 from by unfold keyE; rw [HL.out, HR.out]; rfl)
          go_wp2
          go_ret
          exact ⟨by rw [HZ.out]; rfl, HX.out⟩
end Go.Proofs.YtfkdhambbpkmpaaDoor
