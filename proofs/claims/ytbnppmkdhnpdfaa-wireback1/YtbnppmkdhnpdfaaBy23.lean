/-
  How long the bytes of a frame are; frames and what they are written as.
-/
import Derived.Test.YtbnppmkdhnpdfaaBy19
import Derived.Test.YtbnppmkdhnpdfaaBy20
import Derived.Test.YtbnppmkdhnpdfaaBy22
import Derived.Deep.CutBlock
import Derived.Deep.DeepCutAuto
import Derived.Deep.DeepAppendWide
namespace Go.Proofs.Ytbnppmkdhnpdfaa
open Go.RowKit
set_option linter.unusedVariables false
set_option maxHeartbeats 1600000 in
theorem among12 (p : Int) (m : Nat) (w : World) (hm : 0 < m) (hx : (m : Int) ≤ 9223372036854775807) :
    Calls Try.prog 18 #[.int .i64 p, .int .i64 (m : Int)] w fun e w' => ∃ k : Nat, e = .returned (.int .i64 (k : Int)) ∧ k < m ∧ w' = w := by
  have h1 : ¬ (m : Int) < 1 := by omega
  have hne : (m : Int) ≠ 0 := by omega
  have hlo : -(m : Int) < p.tmod m := by
    have := Int.lt_tmod_of_pos p (show (0 : Int) < m by omega)
    omega
  have hhi : p.tmod m < (m : Int) := Int.tmod_lt_of_pos p (by omega)
  have hnm : ¬ (m : Int) = -1 := by omega
  generalize hr : p.tmod m = r at *
  by_cases hneg : r < 0
  · have hw : IntKind.i64.wrap (r + (m : Int)) = r + (m : Int) := by rw [IntKind.wrap_i64]; omega
    go_enter Try.func18, Try.ntmps18
    go_wp2
    go_ret
    exact ⟨(r + m).toNat, by rw [show (((r + m).toNat : Nat) : Int) = r + m from by omega]; rfl, by omega, rfl⟩
  · go_enter Try.func18, Try.ntmps18
    go_wp2
    go_ret
    exact ⟨r.toNat, by rw [show ((r.toNat : Nat) : Int) = r from by omega]; rfl, by omega, rfl⟩
theorem enc_len : ∀ (k f n : Nat), n < 128 ^ (k + 1) → k ≤ f → (Nm.enc f n).length ≤ k + 1
  | k, 0, n, h, hk => by
    simp [Nm.enc]
  | 0, f + 1, n, h, hk => by
    have : n < 128 := by simpa using h
    simp [Nm.enc, this]
  | k + 1, f + 1, n, h, hk => by
    by_cases hn : n < 128
    · simp [Nm.enc, hn]
    · rw [enc_more f n hn, List.length_cons]
      have := enc_len k f (n / 128) (by rw [Nat.div_lt_iff_lt_mul (by omega)]; rw [Nat.pow_succ] at h; exact h) (by omega)
      omega
theorem enc1 {n : Nat} (h : n < 128) : (Nm.enc 8 n).length ≤ 1 := enc_len 0 8 n (by simpa using h) (by omega)
theorem enc2 {n : Nat} (h : n < 16384) : (Nm.enc 8 n).length ≤ 2 := enc_len 1 8 n (by simpa using h) (by omega)
theorem enc3 {n : Nat} (h : n < 2097152) : (Nm.enc 8 n).length ≤ 3 := enc_len 2 8 n (by simpa using h) (by omega)
theorem enc6 {n : Nat} (h : n < 4398046511104) : (Nm.enc 8 n).length ≤ 6 := enc_len 5 8 n (by simpa using h) (by omega)
theorem entB_58 {e : En} (h : e.chk = 0) : (entB e).length ≤ 58 := by
  obtain ⟨k, c, n, v, d⟩ := e
  obtain ⟨hk, hc1, hc2, hn1, hn2, hv⟩ := En.ok_parts h
  have h1 := enc1 (n := k.size) (by omega)
  have h2 := enc6 (n := up c) (by unfold up; omega)
  have h3 := enc1 (n := up n) (by unfold up; omega)
  have h4 := enc1 (n := v.size) (by omega)
  have h5 := blen k
  have h6 := blen v
  unfold entB
  cases d
  · simp only [cond, List.length_append, flagB, List.length_singleton]
    omega
  · simp only [cond, List.length_append, flagB, List.length_singleton, List.length_nil]
    omega
theorem esB_58 : ∀ (l : List En), (∀ e ∈ l, e.chk = 0) → (esB l).length ≤ l.length * 58
  | [], _ => Nat.le_refl _
  | e :: r, h => by
    have h1 := entB_58 (h e (List.mem_cons_self ..))
    have h2 := esB_58 r (fun x hx => h x (List.mem_cons_of_mem _ hx))
    simp only [esB, List.length_append, List.length_cons]
    rw [Nat.succ_mul]
    omega
theorem strB_17 {s : ByteArray} (h : s.size ≤ 16) : (strB s).length ≤ 17 := by
  have h1 := enc1 (n := s.size) (by omega)
  unfold strB
  rw [List.length_append, blen]
  omega
theorem rgB_35 {lo hi : ByteArray} {op : Bool} (h1 : lo.size ≤ 16) (h2 : hi.size ≤ 16) : (rgB lo hi op).length ≤ 35 := by
  have := strB_17 h1
  have := strB_17 h2
  unfold rgB
  cases op
  · simp only [cond, List.length_append, flagB, List.length_singleton]; omega
  · simp only [cond, List.length_append, flagB, List.length_singleton, List.length_nil]; omega
theorem partB_54 {v : PV} (h : PVok v) : (partB v).length ≤ 54 + v.es.length * 58 := by
  unfold partB
  have h1 := rgB_35 (op := v.op) h.lo h.hi
  have h2 := enc1 (n := up v.kind) (by have := h.kind; unfold up; omega)
  by_cases hk : v.kind = 1
  · rw [if_pos hk]
    obtain ⟨e1, e2, e3, e4, e5⟩ := h.print hk
    have h3 := enc2 (n := up v.cnt) (by unfold up; omega)
    simp only [List.length_append, wordB_len]
    omega
  · rw [if_neg hk]
    obtain ⟨e1, e2, e3, e4, e5⟩ := h.items hk
    have h3 := enc2 (n := v.es.length) (by omega)
    have h4 := esB_58 v.es e5
    simp only [List.length_append]
    omega
theorem psB_54 (P : Nat → Pm) : ∀ n, (∀ i, i < n → PVok (pvOf (P i))) → (psB (psOf P n)).length ≤ n * 54 + totE P n * 58
  | 0, _ => by simp [psOf, psB]
  | n + 1, h => by
    have h1 := psB_54 P n (fun i hi => h i (by omega))
    have h2 := partB_54 (h n (by omega))
    rw [show (pvOf (P n)).es.length = (P n).el from eFirst_len _ _] at h2
    rw [psB_step, List.length_append]
    simp only [totE]
    rw [Nat.add_mul, Nat.add_mul]
    omega
theorem frameB_len {fr tz o l n tn : Int} {P : Nat → Pm} {len : Nat} (h : FVok ⟨fr, tz, o, l, n, tn, psOf P len⟩) (ht : totE P len ≤ 256) : (frameB ⟨fr, tz, o, l, n, tn, psOf P len⟩).length ≤ 65536 := by
  have hp := psB_54 P len (fun i hi => h.ps _ (psOf_mem P hi))
  have hl : len ≤ 768 := by have := h.len; dsimp only at this; rw [psOf_len] at this; exact this
  obtain ⟨v1, v2, v3, v4, v5, v6, -, -⟩ := h
  dsimp only at v1 v2 v3 v4 v5 v6
  have e1 := enc1 (n := up fr) (by unfold up; omega)
  have e2 := enc1 (n := up tz) (by unfold up; omega)
  have e3 := enc1 (n := up o) (by unfold up; omega)
  have e4 := enc3 (n := up l) (by unfold up; omega)
  have e5 := enc3 (n := up n) (by unfold up; omega)
  have e6 := enc1 (n := up tn) (by unfold up; omega)
  have e7 := enc2 (n := len) (by omega)
  unfold frameB
  dsimp only
  rw [psOf_len]
  simp only [List.length_append]
  omega
theorem psOf_at (P : Nat → Pm) {n i : Nat} (h : i < n) : (psOf P n)[i]? = some (pvOf (P i)) := by
  unfold psOf
  rw [List.getElem?_map, List.getElem?_range h]; rfl
/-- What is cut short of a frame's bytes is none. -/
theorem decF_cut {F : FV} {k : Nat} (h : FVok F) (hk : k < (frameB F).length) : decF ((frameB F).take k) = none := by
  cases hd : decF ((frameB F).take k) with
  | none => rfl
  | some G =>
    exfalso
    obtain ⟨g1, g2, g3, g4⟩ := decF_inv hd
    have e : frameB F ++ [] = frameB G ++ (frameB F).drop k := by rw [List.append_nil, ← g3, List.take_append_drop]
    have := (frameB_pre h g1 e).2
    have h2 := congrArg List.length this
    rw [List.length_drop, List.length_nil] at h2
    omega
theorem frameB_pos (F : FV) : 0 < (frameB F).length := by
  have := (Nm.enc_length 8 (up F.fr)).1
  unfold frameB
  simp only [List.length_append]
  omega
/-- A list of bytes that came in, appended to an owned row. -/
theorem op_append_arg {w : World} {o : Oper} {act : Act} {K : Act → World → Prop} {Q : Exit → Act → World → Prop} (s x : Operand)
    (ho : o.op = .call { callee := .builtin .append, args := #[s, x], argTypes := #[30, 30] })
    (B : Nat) (v : Value) (l : List UInt8) (hs : act.eval s = v) (hA : w.ownsRow B 5 1 v l.length (Lib.byteCells l)) (a : Option Addr) (len cap : Nat) (M : List UInt8) (hx : act.eval x = .slice a len cap) (hM : ArgB w a len cap M)
    (hlen : l.length + len ≤ 200000000000000) (hB : B ≤ w.heap.size)
    (h : ∀ v' w', w'.ownsRow B 5 1 v' (l ++ M).length (Lib.byteCells (l ++ M)) → w.grownBy w' v.ownBlock → K (act.put o.dst v') w') : o.wp Try.prog act w K Q := by
  obtain ⟨i0, hi, hz0, hz1, hz2⟩ := info_parts info8
  obtain ⟨m1, m2, m3, m4⟩ := hM
  rcases m4 with ⟨rfl, rfl, rfl⟩ | ⟨y, rfl, hc⟩
  · have hrun := run_append_owned_none (P := Try.prog) (w := w) B 30 o.type 5 i0 1 Try.underlying30 hi _ _ _ hA
    unfold Oper.wp
    simp [execOp, ho, resolve, invoke, builtin, hs, hx, hrun, Result.andThen]
    have e : M = [] := List.length_eq_zero_iff.1 m1
    subst e
    refine h v w ?_ (World.grownBy.refl _ _)
    rw [List.append_nil]
    exact hA
  · refine wp_append_own_wide w s x _ ho B 5 i0 _ 1 1 Try.underlying30 hi hz0 hz1 hz2 rfl (by decide) _ _ _ hs hA y len cap (Lib.byteCells M) hx (by rw [Lib.byteCells_length]; omega) hc (fun u hu => by
      unfold Lib.byteCells at hu
      obtain ⟨b, -, rfl⟩ := List.mem_map.1 hu
      rfl) (by unfold maxLen; omega) (by omega) hB ?_
    intro v' w' ho' hg _
    refine h v' w' ?_ hg
    rw [List.length_append, m1]
    have e : Lib.byteCells (l ++ M) = Lib.byteCells l ++ Lib.byteCells M := by simp [Lib.byteCells]
    rw [e]
    exact ho'
/-- An owned row as bytes that came in. -/
theorem argB_own {w : World} {B : Nat} {a : Option Addr} {n c : Nat} {l : List UInt8} (h : w.ownsRow B 5 1 (.slice a n c) l.length (Lib.byteCells l)) : ArgB w a n c l := by
  rcases h.2 with ⟨h1, h2⟩ | ⟨g, cap, cur, h1, h2, h3, h4, h5, h6⟩
  · injection h1 with e1 e2 e3
    subst e1 e2 e3
    exact ⟨h2, Nat.le_refl _, by unfold maxLen; omega, .inl ⟨rfl, rfl, rfl⟩⟩
  · injection h1 with e1 e2 e3
    subst e1 e2 e3
    refine ⟨rfl, h4, h5, .inr ⟨_, rfl, fun j u hj => ?_⟩⟩
    have hjl : j < l.length := by
      have := (List.getElem?_eq_some_iff.1 hj).1
      rw [Lib.byteCells_length] at this
      exact this
    rw [Addr.add_lit, Nat.zero_add, h.cellAt j (by omega)]
    exact hj
theorem pm_pv {p : Pm} (h0 : 0 ≤ p.s0) (h1 : 0 ≤ p.s1) : SamePm p (pvPm (pvOf p)) := by
  refine ⟨rfl, rfl, rfl, rfl, rfl, ?_, ?_, ?_, fun k hk => ?_⟩
  · unfold pvPm pvOf; dsimp only; omega
  · unfold pvPm pvOf; dsimp only; omega
  · unfold pvPm pvOf; dsimp only; rw [eFirst_len]
  · unfold pvPm pvOf
    dsimp only
    unfold nthE eFirst
    rw [List.getD, List.getElem?_map, List.getElem?_range hk]; rfl
theorem chk_of {fr tz o l n tn : Int} {P : Nat → Pm} {len : Nat} (hu : ∀ i, i < len → 0 ≤ (P i).s0 ∧ 0 ≤ (P i).s1) : FV.chk ⟨fr, tz, o, l, n, tn, psOf P len⟩ = fChk fr tz o l n tn P len := by
  unfold FV.chk
  dsimp only
  rw [psOf_len]
  symm
  apply fChk_ext
  intro i hi
  rw [fvP_at (psOf_at P hi)]
  exact pm_pv (hu i hi).1 (hu i hi).2
theorem rd_back {w : World} {B n c len : Nat} {a : Option Addr} {P Q : Nat → Pm} (h : RdF w B a n c Q (psOf P len)) (hu : ∀ i, i < len → 0 ≤ (P i).s0 ∧ 0 ≤ (P i).s1) : PsSame Q n P len := by
  have hn : n = len := by have := h.len; rw [psOf_len] at this; exact this.symm
  refine ⟨hn, fun i hi => ?_⟩
  have hi' : i < len := by omega
  have h1 := h.same i hi
  rw [fvP_at (psOf_at P hi')] at h1
  exact h1.trans (pm_pv (hu i hi').1 (hu i hi').2).symm
end Go.Proofs.Ytbnppmkdhnpdfaa
