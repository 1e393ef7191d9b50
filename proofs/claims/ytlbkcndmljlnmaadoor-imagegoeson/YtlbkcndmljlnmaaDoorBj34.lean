/-
  Two maps side by side, step by step: plain; rows of pairs in memory.
  Pairs, the document's own: two maps side by side, as a list.
  The iterator that goes through two maps side by side: what it hands to a loop's body.
  Lists that a loop over pairs makes.
  In, the code's: what of a list is in a range.
  What entries come to: the document's All.
  The document's store: what All goes through, what Fold tells.
  held and same of the images.
  same of the images: the store holds what the document's does.
  What Load refuses with: the first entry that is wrong, plain.
  Load of the code, with its error.
  The document's Load, with its error.
  The document's Put of an image.
  Rows of bytes that are written into, and what stays beside.
  Entries taken one behind the other: plain.
  Where a key stands among entries: plain.
  Steps of a store keep what an image can be made of.
-/
import Derived.Test.YtlbkcndmljlnmaaDoorBj24
import Derived.Test.YtlbkcndmljlnmaaDoorBj29
import Derived.Test.YtlbkcndmljlnmaaDoorBj26
import Derived.Test.YtlbkcndmljlnmaaDoorBj27
import Derived.Test.YtlbkcndmljlnmaaDoorBj19
import Derived.Deep.RegionHeld
import Derived.Test.YtlbkcndmljlnmaaDoorBj7
import Derived.Test.YtlbkcndmljlnmaaDoorBj6
import Derived.Deep.RegionWith
import Derived.Test.YtlbkcndmljlnmaaDoorBj30
import Derived.Test.YtlbkcndmljlnmaaDoorBj28
import Derived.Test.YtlbkcndmljlnmaaDoorBj33
import Derived.Test.YtlbkcndmljlnmaaDoorBj32
namespace Go.Proofs.YtlbkcndmljlnmaaDoor
open Go.RowKit
set_option linter.unusedVariables false
end Go.Proofs.YtlbkcndmljlnmaaDoor
namespace Go.Proofs.YtlbkcndmljlnmaaDoor
open Go.RowKit
set_option linter.unusedVariables false
end Go.Proofs.YtlbkcndmljlnmaaDoor
namespace Go.Proofs.YtlbkcndmljlnmaaDoor
open Go.RowKit Go.Shelf
set_option linter.unusedVariables false
attribute [local go_sem] Oper.semAt_some
end Go.Proofs.YtlbkcndmljlnmaaDoor
namespace Go.Proofs.YtlbkcndmljlnmaaDoor
open Go.RowKit Go.Shelf
set_option linter.unusedVariables false
end Go.Proofs.YtlbkcndmljlnmaaDoor
namespace Go.Proofs.YtlbkcndmljlnmaaDoor
open Go.RowKit
set_option linter.unusedVariables false
end Go.Proofs.YtlbkcndmljlnmaaDoor
namespace Go.Proofs.YtlbkcndmljlnmaaDoor
open Go.RowKit
set_option linter.unusedVariables false
def f0 (e : En) : Int := of0 e.k e.c e.n
def f1 (e : En) : Int := of1 e.k e.c e.n
end Go.Proofs.YtlbkcndmljlnmaaDoor
namespace Go.Proofs.YtlbkcndmljlnmaaDoor
open Go.RowKit
set_option linter.unusedVariables false
end Go.Proofs.YtlbkcndmljlnmaaDoor
namespace Go.Proofs.YtlbkcndmljlnmaaDoor
open Go.RowKit
set_option linter.unusedVariables false
attribute [local go_sem] Oper.semAt_some
end Go.Proofs.YtlbkcndmljlnmaaDoor
namespace Go.Proofs.YtlbkcndmljlnmaaDoor
open Go.RowKit
set_option linter.unusedVariables false
end Go.Proofs.YtlbkcndmljlnmaaDoor
namespace Go.Proofs.YtlbkcndmljlnmaaDoor
open Go.RowKit
set_option linter.unusedVariables false
end Go.Proofs.YtlbkcndmljlnmaaDoor
namespace Go.Proofs.YtlbkcndmljlnmaaDoor
open Go.RowKit
set_option linter.unusedVariables false
end Go.Proofs.YtlbkcndmljlnmaaDoor
namespace Go.Proofs.YtlbkcndmljlnmaaDoor
open Go.RowKit
set_option linter.unusedVariables false
end Go.Proofs.YtlbkcndmljlnmaaDoor
namespace Go.Proofs.YtlbkcndmljlnmaaDoor
open Go.RowKit
set_option linter.unusedVariables false
end Go.Proofs.YtlbkcndmljlnmaaDoor
namespace Go.Proofs.YtlbkcndmljlnmaaDoor
open Go.RowKit
set_option linter.unusedVariables false
theorem img_pos (nd ck : Int) (es : List En) : 0 < (imgB nd ck es).length := by
  unfold imgB tideS
  rw [List.length_append, List.length_append]
  have := (Nm.enc_length 8 (up nd)).1
  omega
end Go.Proofs.YtlbkcndmljlnmaaDoor
namespace Go.Proofs.YtlbkcndmljlnmaaDoor
open Go.RowKit
set_option linter.unusedVariables false
end Go.Proofs.YtlbkcndmljlnmaaDoor
namespace Go.Proofs.YtlbkcndmljlnmaaDoor
open Go.RowKit
set_option linter.unusedVariables false
/-- How many entries stand ahead of a key. -/
def plc (k : ByteArray) : List En → Nat
  | [] => 0
  | y :: l => if kLt y.k k = true then plc k l + 1 else 0
/-- Whether it stands there. -/
def isP (k : ByteArray) : List En → Bool
  | [] => false
  | y :: l => if kLt y.k k = true then isP k l else y.k.toList == k.toList
theorem plc_le (k : ByteArray) : ∀ l : List En, plc k l ≤ l.length
  | [] => Nat.le_refl _
  | y :: l => by
    have := plc_le k l
    unfold plc
    split <;> simp <;> omega
theorem isP_lt {k : ByteArray} : ∀ {l : List En}, isP k l = true → plc k l < l.length
  | [], h => by simp [isP] at h
  | y :: l, h => by
    unfold isP at h
    unfold plc
    by_cases g : kLt y.k k = true
    · rw [if_pos g] at h ⊢
      have := isP_lt h
      simp; omega
    · rw [if_neg g]; simp
theorem nthE_succ (y : En) (l : List En) (i : Nat) : nthE (y :: l) (i + 1) = nthE l i := by simp [nthE]
/-- An entry laid: those ahead, it, those behind. -/
theorem insE_plc (e : En) : ∀ l : List En, insE e l = l.take (plc e.k l) ++ [e] ++ l.drop (if isP e.k l = true then plc e.k l + 1 else plc e.k l)
  | [] => by simp [insE, plc, isP]
  | y :: l => by
    unfold insE plc isP
    by_cases g : kLt y.k e.k = true
    · rw [if_neg (by rw [kLt_asymm g]; simp), if_pos g, if_pos g, if_pos g, insE_plc e l]
      by_cases h : isP e.k l = true
      · rw [if_pos h, if_pos h]; simp
      · rw [if_neg h, if_neg h]; simp
    · rw [if_neg g, if_neg g, if_neg g]
      by_cases h : kLt e.k y.k = true
      · rw [if_pos h, if_neg (by
          intro c
          have : y.k = e.k := toList_inj (by simpa using c)
          rw [this, kLt_irrefl] at h; cases h)]
        simp
      · rw [if_neg h, if_pos (by
          have : y.k = e.k := kLt_total (by simpa using g) (by simpa using h)
          rw [this]; simp)]
        simp
/-- What is held under a key. -/
theorem look_plc {k : ByteArray} : ∀ {l : List En}, RisesE l → lookE k l = if isP k l = true then some (nthE l (plc k l)) else none
  | [], _ => by simp [lookE, isP]
  | y :: l, hr => by
    have h1 := rises_consE.1 hr
    unfold lookE isP plc
    by_cases g : kLt y.k k = true
    · rw [if_pos g, if_pos g]
      rw [List.find?_cons_of_neg (by simp [g])]
      have := look_plc (k := k) h1.2
      unfold lookE at this
      rw [this, nthE_succ]
    · rw [if_neg g, if_neg g]
      by_cases h : kLt k y.k = true
      · rw [List.find?_cons_of_neg (by simp [h]), if_neg (by
          intro c
          have : y.k = k := toList_inj (by simpa using c)
          rw [this, kLt_irrefl] at h; cases h)]
        rw [List.find?_eq_none]
        intro z hz
        have : kLt k z.k = true := kLt_trans h (h1.1 z hz)
        simp [this]
      · rw [List.find?_cons_of_pos (by simp [g, h]), if_pos (by
          have : y.k = k := kLt_total (by simpa using g) (by simpa using h)
          rw [this]; simp)]
        simp [nthE]
theorem room_plc {k : ByteArray} {l : List En} (h : RisesE l) : roomB k l = (isP k l || decide (l.length < 256)) := by
  unfold roomB
  rw [look_plc h]
  cases isP k l <;> simp
theorem take_map {e : En} {l : List En} (h : MapL l) (he : e.chk = 0) : MapL (insE e l) := ⟨rises_of_map (by rw [← ins_map]; exact rises_ins _ (rises_map h.rises)), fun x hx => by
  rw [insE_plc] at hx
  simp only [List.append_assoc, List.singleton_append, List.mem_append, List.mem_cons] at hx
  rcases hx with hx | rfl | hx
  · exact h.chk x (List.mem_of_mem_take hx)
  · exact he
  · exact h.chk x (List.mem_of_mem_drop hx)⟩
theorem take_len {e : En} {l : List En} (h : RisesE l) (hl : l.length ≤ 256) (hr : roomB e.k l = true) : (insE e l).length ≤ 256 := by
  rw [room_plc h] at hr
  rw [insE_plc]
  have h1 := plc_le e.k l
  cases hi : isP e.k l
  · rw [hi] at hr
    simp at hr ⊢
    omega
  · have h2 := isP_lt hi
    simp
    omega
end Go.Proofs.YtlbkcndmljlnmaaDoor
namespace Go.Proofs.YtlbkcndmljlnmaaDoor
open Go.RowKit
set_option linter.unusedVariables false
theorem insE_mem {e x : En} {l : List En} (h : x ∈ insE e l) : x = e ∨ x ∈ l := by
  rw [insE_plc] at h
  simp only [List.append_assoc, List.singleton_append, List.mem_append, List.mem_cons] at h
  rcases h with h | h | h
  · exact .inr (List.mem_of_mem_take h)
  · exact .inl h
  · exact .inr (List.mem_of_mem_drop h)
theorem put_okI {k v : ByteArray} {d : Bool} {nd ck : Int} {Ls : List En} (hO : LdOk nd ck Ls) (hv : (d && !v.toList.isEmpty) = false) (h : wrErr k v nd ck Ls = 0) : LdOk nd (ck + 1) (insE (wrEn k v d nd ck) Ls) := by
  have hn := hO.nd7
  have hc := hO.c0
  unfold wrErr at h
  by_cases h1 : (16 : Int) < k.size
  · rw [if_pos h1] at h; omega
  rw [if_neg h1] at h
  by_cases h2 : (32 : Int) < v.size
  · rw [if_pos h2] at h; omega
  rw [if_neg h2] at h
  by_cases h3 : roomB k Ls = false
  · rw [if_pos h3] at h; omega
  rw [if_neg h3] at h
  have h4 : ck + 1 ≤ 1099511627776 := by
    unfold Vs.nx at h
    by_cases h5 : nd < 0 ∨ 8 ≤ nd ∨ ck < 0 ∨ 1099511627776 < ck
    · rw [if_pos h5] at h; dsimp only at h; omega
    · rw [if_neg h5] at h
      by_cases h6 : ck = 1099511627776
      · rw [if_pos h6] at h; dsimp only at h; omega
      · omega
  have h7 : Vs.chk (ck + 1) nd = 0 := by unfold Vs.chk; rw [if_neg (by omega)]
  have h8 : (wrEn k v d nd ck).chk = 0 := by
    unfold wrEn
    rw [En.chk_rest d h1 h7 h2, hv]
    rfl
  have h9 : roomB k Ls = true := by simpa using h3
  exact ⟨hO.nd, by omega, h4, take_len hO.map.rises hO.len h9, take_map hO.map h8, fun e he => by
    rcases insE_mem he with rfl | he
    · exact Int.le_refl _
    · have := hO.ver e he
      omega⟩
theorem tkY {e : En} {Ls : List En} (h : (tkSay e Ls).2 = true) : e.chk = 0 ∧ roomB e.k Ls = true := by
  unfold tkSay at h
  by_cases h1 : e.chk ≠ 0
  · rw [if_pos h1] at h; cases h
  rw [if_neg h1] at h
  by_cases h2 : roomB e.k Ls = false
  · rw [if_pos h2] at h; cases h
  exact ⟨by simpa using h1, by simpa using h2⟩
theorem chkC {e : En} (h : e.chk = 0) : 1 ≤ e.c ∧ e.c ≤ 1099511627776 := by
  unfold En.chk at h
  by_cases h1 : (16 : Int) < e.k.size
  · rw [if_pos h1] at h; omega
  rw [if_neg h1] at h
  by_cases h2 : Vs.chk e.c e.n ≠ 0
  · rw [if_pos h2] at h; omega
  unfold Vs.chk at h2
  by_cases h3 : e.c < 1 ∨ 1099511627776 < e.c ∨ e.n < 0 ∨ 8 ≤ e.n
  · rw [if_pos h3] at h2; simp at h2
  · omega
theorem take_okI {e : En} {nd ck : Int} {Ls : List En} (hO : LdOk nd ck Ls) (h : (tkSay e Ls).2 = true) : LdOk nd (ckm ck e.c) (insE e Ls) := by
  have h0 := tkY h
  have hc := hO.c0
  have h1 := hO.c1
  have hp : 1 ≤ e.c ∧ e.c ≤ 1099511627776 := chkC h0.1
  refine ⟨hO.nd, ?_, ?_, take_len hO.map.rises hO.len h0.2, take_map hO.map h0.1, fun x hx => ?_⟩
  · unfold ckm; split <;> omega
  · unfold ckm; split <;> omega
  · rcases insE_mem hx with rfl | hx
    · unfold ckm; split <;> omega
    · have := hO.ver x hx
      unfold ckm; split <;> omega
set_option maxHeartbeats 1600000 in
theorem among10 (p : Int) (m : Nat) (w : World) (hm : 0 < m) (hx : (m : Int) ≤ 9223372036854775807) :
    Calls Tryd.prog 16 #[.int .i64 p, .int .i64 (m : Int)] w fun e w' => ∃ k : Nat, e = .returned (.int .i64 (k : Int)) ∧ k < m ∧ w' = w := by
  have h1 : ¬ (m : Int) < 1 := by omega
  have hne : (m : Int) ≠ 0 := by omega
  have hlo : -(m : Int) < p.tmod m := by
    have := Int.lt_tmod_of_pos p (show (0 : Int) < m by omega)
    omega
  have hhi : p.tmod m < (m : Int) := Int.tmod_lt_of_pos p (by omega)
  have hnm : ¬ (m : Int) = -1 := by omega
  generalize hr : p.tmod m = r at *
  by_cases hneg : r < 0
  · have hw : IntKind.i64.wrap (r + (m : Int)) = r + (m : Int) := by rw [IntKind.wrap_i64]; omega
    go_enter Tryd.func16, Tryd.ntmps16
    go_wp2
    go_ret
    exact ⟨(r + m).toNat, by rw [show (((r + m).toNat : Nat) : Int) = r + m from by omega]; rfl, by omega, rfl⟩
  · go_enter Tryd.func16, Tryd.ntmps16
    go_wp2
    go_ret
    exact ⟨r.toNat, by rw [show ((r.toNat : Nat) : Int) = r from by omega]; rfl, by omega, rfl⟩
end Go.Proofs.YtlbkcndmljlnmaaDoor
