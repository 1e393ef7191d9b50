/-
  Trees of rows that came in; Maps compared.
-/
import Derived.Test.YtnlmlhoddchgbaaTrRowsIn
import Derived.Test.YtnlmlhoddchgbaaTrTxt
namespace Go.Proofs.Ytnlmlhoddchgbaa
open Go.RowKit
set_option linter.unusedVariables false

theorem map_in (a b c d : Int) (w : World) : (Op.equalIn 10000 28 (.agg #[.int .u64 a, .int .u64 b]) (.agg #[.int .u64 c, .int .u64 d])).run Try.prog w = .ok (a == c && b == d) w := by
  rw [show (10000 : Nat) = 9999 + 1 from rfl]
  go_simp
  by_cases h1 : a = c <;> by_cases h2 : b = d <;> simp [h1, h2]

theorem map_ne (x : Mp) (w : World) : (binOp .neq 28 (.agg #[.int .u64 x.a, .int .u64 x.b]) (.agg #[.int .u64 x.a, .int .u64 x.b])).run Try.prog w = .ok (.bool false) w := by
  rw [run_neq_struct, map_in]; simp

theorem map_eq (x : Mp) (w : World) : (binOp .eql 28 (.agg #[.int .u64 x.a, .int .u64 x.b]) (.agg #[.int .u64 x.a, .int .u64 x.b])).run Try.prog w = .ok (.bool true) w := by
  rw [run_eql_struct, map_in]; simp

/-- The join of the document's own, as a function value. -/
def jvR : Value := .func (.func 15) #[] #[]

/-- A tree of Maps, in memory that was made since w. -/
structure GI (w W : World) (tb : Nat) (T : Tr Int Mp) : Prop where
  tree : TreeM W tb (.func (.func 15) #[] #[]) T
  below : Below w.heap.size w W
  lt : w.heap.size ≤ tb

theorem GI.on {w W W' : World} {tb : Nat} {T : Tr Int Mp} (h : GI w W tb T) (b : Below W.heap.size W W') : GI w W' tb T := ⟨h.tree.below b, bthen h.below b, h.lt⟩
theorem GI.put {w W W' : World} {tb : Nat} {T T' : Tr Int Mp} (h : GI w W tb T) (h1 : TreeM W' tb (.func (.func 15) #[] #[]) T') (k : Keeps (fun x => x = tb ∨ OnC none x) W W') : GI w W' tb T' :=
  ⟨h1, h.below.trans (k.below h.below.size (fun i hi e => by rcases e with e | e; have := h.lt; omega; cases e)), h.lt⟩

theorem gFold (i j : Int) {w W : World} {tb m : Nat} {T : Tr Int Mp} (h : GI w W tb T) (g : Gd mSz T m) (hm : m ≤ 281474976710655) :
    Calls Try.prog 18 #[.pointer (some ⟨tb, 0, none⟩), .int .i64 i, .int .i64 j] W fun e w' => e = .returned (.agg #[.int .u64 (Tr.fol mJoin mZero T i j).a, .int .u64 (Tr.fol mJoin mZero T i j).b]) ∧ GI w w' tb T :=
  (yfoldM i j h.tree bothRef (cnt_none 0 W) g hm).mono fun e w' ⟨h1, h2, h3⟩ => ⟨h1, h.on (keeps_none h3)⟩

/-- The tree of the first n rows. -/
def treeR (T : Nat → RowR) : Nat → Tr Int Mp
  | 0 => .nil
  | n + 1 => Tr.put (T n).key (T n).v (T n).s (treeR T n)

theorem treeR_gd (T : Nat → RowR) : ∀ n, Gd mSz (treeR T n) n
  | 0 => Gd.nil _
  | n + 1 => (treeR_gd T n).put _ _ _

set_option maxHeartbeats 3200000 in
set_option maxRecDepth 100000 in
theorem grown_any (a : Option Addr) (len cap : Nat) (T : Nat → RowR) (w : World) (h : RowsIn6 w a len cap T) :
    Calls Try.prog 27 #[.slice a len cap] w fun e w' => ∃ tb, e = .returned (.pointer (some ⟨tb, 0, none⟩)) ∧ GI w w' tb (treeR T len) := by
  have HO := aside h
  obtain ⟨hlc, hcm, hsz, -⟩ := h
  have HSZ := aside hsz
  have hmx : (len : Int) ≤ 9223372036854775807 := by unfold maxLen at hcm; omega
  clear hlc hcm hsz
  go_enter Try.func27, Try.ntmps27
  go_wp2_with fail
  refine (zero_any _).mono ?_
  rintro e w1 ⟨rfl, b1⟩
  have B1 := aside b1
  clear b1
  go_wp2_with fail
  refine (ynewM (.func 15) #[] w1).mono ?_
  rintro e w2 ⟨tb, rfl, h1, h2, h3⟩
  have S0 := aside (⟨h1, bthen B1.out h2, by have := B1.out.size; omega⟩ : GI w w2 tb .nil)
  clear h1 h2 h3 B1
  go_wp2
  go_loopw [10] (fun i wr => ∃ q : Nat, i = .int .i64 (q : Int) ∧ q ≤ len ∧ GI w wr tb (treeR T q)) (fun i _ => len - (intOf i).toNat)
  case atStart => exact ⟨0, rfl, Nat.zero_le _, S0.out⟩
  case round =>
    obtain ⟨q, rfl, hq, hg⟩ := hrel
    have G0 := aside hg
    clear hg S0
    by_cases hlt : (q : Int) < (len : Int)
    · rcases (HO.out.keep G0.out.below).2.2.2 with h0 | ⟨b, off, rfl, hbl, hc⟩
      · omega
      · obtain ⟨⟨c0, c1, c2, c3⟩, -⟩ := hc q (by omega)
        have hq0 : (0 : Int) ≤ (q : Int) := by omega
        have hqw : IntKind.i64.wrap ((q : Int) + 1) = (q : Int) + 1 := by rw [IntKind.wrap_i64]; omega
        have QL := aside (show q + 1 ≤ len from by omega)
        have HE := aside (show treeR T (q + 1) = Tr.put (T q).key (T q).v (T q).s (treeR T q) from rfl)
        have HGD := aside (treeR_gd T q)
        have QM := aside (show q + 1 ≤ 281474976710655 from by have := HSZ.out; omega)
        clear hc hq
        generalize T q = x at *
        have G := aside (G0.out.on (bnew wr (.cells #[.string x.key, .int .i64 x.v, .int .u64 x.s.a, .int .u64 x.s.b] 64)))
        go_wp2_with fail
        clear c0 c1 c2 c3
        refine (yputM x.key x.v x.s G.out.tree bothRef (cnt_none 0 _) HGD.out (by have := QM.out; unfold mSz; omega)).mono ?_
        rintro e w5 ⟨rfl, h1, -, h3⟩
        have G1 := aside (G.out.put h1 h3)
        clear h1 h3 G
        go_wp2
        go_roundw
        case rel => exact ⟨q + 1, by go_num, QL.out, by rw [HE.out]; exact G1.out⟩
        case measure => simp [intOf]; have := QL.out; omega
    · have hql : q = len := by omega
      subst hql
      go_wp2
      go_ret
      exact ⟨tb, rfl, G0.out⟩

end Go.Proofs.Ytnlmlhoddchgbaa
