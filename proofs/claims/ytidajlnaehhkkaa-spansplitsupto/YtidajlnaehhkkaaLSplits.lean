/-
  The law SpanSplits, walked: it returns true at every range and every borders that are not too many.
-/
import Derived.Test.YtidajlnaehhkkaaSKeep
import Derived.Test.YtidajlnaehhkkaaLTiles
namespace Go.Proofs.Ytidajlnaehhkkaa
open Go.RowKit

theorem row_two (x y : ByteArray) : strUpto (fun i => [x, y].getD i ByteArray.empty) 2 = [x, y] := rfl

theorem strs_head {n₀ : Nat} {w : World} {a : Option Addr} {n cap m : Nat} {S S' : Nat → ByteArray} (h : StrsIn n₀ w a n cap S) (hm : m ≤ n) (hS : ∀ i, i < m → S i = S' i) : StrsIn n₀ w a m cap S' := by
  obtain ⟨h1, h2, h3⟩ := h
  refine ⟨by omega, by omega, ?_⟩
  rcases h3 with h3 | ⟨b, o, e, hb, hc⟩
  · exact .inl (by omega)
  · exact .inr ⟨b, o, e, hb, fun i hi => by rw [← hS i hi]; exact hc i (by omega)⟩

theorem split_to {lo hi : ByteArray} {op : Bool} {a : Option Addr} {len cap n : Nat} {S : Nat → ByteArray} {T : Nat → Rg} {e : Int} (he : splitE ⟨lo, hi, op⟩ S len = e) (hn : splitN ⟨lo, hi, op⟩ S len = n) (hT : piece ⟨lo, hi, op⟩ S len = T) (hroom : (len + 1) * 40 ≤ 140737488355328) (w : World) (h : StrsIn w.heap.size w a len cap S) :
    Calls Try.prog 20 #[.agg #[.string lo, .string hi, .bool op], .slice a len cap] w fun r w' => ∃ a cp, r = .returned (.tuple #[.slice a n cp, .int .i64 e]) ∧ w'.ownsRow w.heap.size 23 3 (.slice a n cp) n (rgCells T n) ∧ Below w.heap.size w w' := by
  subst he hn hT
  exact split_any lo hi op a len cap S w h hroom

theorem refSplit_to {lo hi : ByteArray} {op : Bool} {a : Option Addr} {len cap n : Nat} {S : Nat → ByteArray} {T : Nat → Rg} {e : Int} (he : splitE ⟨lo, hi, op⟩ S len = e) (hn : splitN ⟨lo, hi, op⟩ S len = n) (hT : piece ⟨lo, hi, op⟩ S len = T) (hroom : (len + 1) * 40 ≤ 140737488355328) (w : World) (h : StrsIn w.heap.size w a len cap S) :
    Calls Try.prog 21 #[.agg #[.string lo, .string hi, .bool op], .slice a len cap] w fun r w' => ∃ a cp, r = .returned (.tuple #[.slice a n cp, .int .i64 e]) ∧ w'.ownsRow w.heap.size 23 3 (.slice a n cp) n (rgCells T n) ∧ Below w.heap.size w w' := by
  subst he hn hT
  exact refSplit_any lo hi op a len cap S w h hroom

theorem box_low {w w1 X : World} {u v x : Value} (hb : Below w1.heap.size w1 X) (q0 : w1.cell? ⟨w.heap.size, 0, none⟩ = some u) (q1 : w1.cell? ⟨w.heap.size, 1, none⟩ = some v) (q2 : w1.cell? ⟨w.heap.size, 2, none⟩ = some x) :
    X.cell? ⟨w.heap.size, 0, none⟩ = some u ∧ X.cell? ⟨w.heap.size, 1, none⟩ = some v ∧ X.cell? ⟨w.heap.size, 2, none⟩ = some x := ⟨cell_on q0 hb, cell_on q1 hb, cell_on q2 hb⟩

theorem low_then {w w1 w2 : World} {B : Nat} (h : Below B w w1) (hB : B ≤ w1.heap.size) (h2 : Below w1.heap.size w1 w2) : Below B w w2 := h.trans (h2.mono hB)

/-- A copy of texts by append onto nothing, as one operation. -/
theorem op_append_copy {w : World} {o : Oper} {act : Act} {K : Act → World → Prop} {Q : Exit → Act → World → Prop} (s x : Operand)
    (ho : o.op = .call { callee := .builtin .append, args := #[s, x], argTypes := #[33, 33] })
    (hs : act.eval s = .slice none 0 0) (a : Option Addr) (len cap : Nat) (S : Nat → ByteArray) (hx : act.eval x = .slice a len cap) (hL : StrsIn w.heap.size w a len cap S)
    (hform : (a = none ∧ len = 0 ∧ cap = 0) ∨ ∃ y, a = some y) (hlen : len * 16 ≤ 140737488355328)
    (h : ∀ a' cap' w', w'.ownsRow w.heap.size 9 1 (.slice a' len cap') len (strCells (strUpto S len)) → Below w.heap.size w w' → K (act.put o.dst (.slice a' len cap')) w') : o.wp Try.prog act w K Q := by
  obtain ⟨i0, hi, hz0, hz1, hz2⟩ := infoStr_parts
  have hnil : w.ownsRow w.heap.size 9 1 (.slice none 0 0) 0 [] := World.ownsRow_nil _ _ _ _
  rcases hform with ⟨rfl, rfl, rfl⟩ | ⟨y, rfl⟩
  · have hrun := run_append_owned_none (P := Try.prog) (w := w) w.heap.size 33 o.type 9 i0 1 Try.underlying33 hi _ _ _ hnil
    unfold Oper.wp
    simp [execOp, ho, resolve, invoke, builtin, hs, hx, hrun, Result.andThen]
    exact h none 0 w hnil (Below.refl _ _)
  · have hone : ∀ u ∈ strCells (strUpto S len), u.oneCell' = true := by
      intro u hu
      simp only [strCells, List.mem_map] at hu
      obtain ⟨b, _, rfl⟩ := hu
      rfl
    refine wp_append_own w s x _ ho w.heap.size 9 i0 (.string ⟨#[]⟩) 1 16 Try.underlying33 hi hz0 hz1 hz2 rfl (by decide) _ _ _ hs hnil y len cap (strCells (strUpto S len)) hx (by simp [strCells, strUpto]) (strs_cells hL) hone (by unfold maxLen; omega) (by omega) (Nat.le_refl _) ?_
    intro v' w' ho' hg _
    have hbel : Below w.heap.size w w' := (Below.refl _ w).grown hg (Nat.le_refl _) (fun k e => by cases e)
    simp only [Nat.zero_add, List.nil_append] at ho'
    obtain ⟨a', cap', rfl⟩ : ∃ a' cap', v' = .slice a' len cap' := by
      rcases ho'.2 with ⟨h1, h2⟩ | ⟨g, cap', cur, h1, _⟩
      · exact ⟨none, 0, by rw [h1, h2]⟩
      · exact ⟨_, _, h1⟩
    exact h a' cap' w' ho' hbel

theorem own_drew {w : World} {base : Nat} {e : TypeId} {size : Nat} {v : Value} {n : Nat} {xs : List Value} (h : w.ownsRow base e size v n xs) : w.drew.ownsRow base e size v n xs := h

set_option maxRecDepth 100000 in
set_option maxHeartbeats 8000000 in
theorem splits_walk (rlo rhi : ByteArray) (rop : Bool) (ab : Option Addr) (lb cb : Nat) (SB : Nat → ByteArray) (w : World) (hw : MaxAt w)
    (hB : StrsIn w.heap.size w ab lb cb SB) (formB : (ab = none ∧ lb = 0 ∧ cb = 0) ∨ ∃ y, ab = some y) (hlb : lb ≤ 1048576) :
    Calls Try.prog 6 #[.agg #[.string rlo, .string rhi, .bool rop], .slice ab lb cb] w fun e w' => e = .returned (.bool true) ∧ Below w.heap.size w w' := by
  have HI := aside (info_parts info23)
  have hW : Hid (MaxAt (w.alloc (.cells #[.string rlo, .string rhi, .bool rop] 23))) := hw.below (bnew w _)
  have C0 := aside (fun w h => shown_any w h)
  have HB := aside hB
  obtain ⟨ev, hev⟩ : ∃ x, splitE ⟨rlo, rhi, rop⟩ SB lb = x := ⟨_, rfl⟩
  obtain ⟨nn, hnn⟩ : ∃ x, splitN ⟨rlo, rhi, rop⟩ SB lb = x := ⟨_, rfl⟩
  obtain ⟨T, hT⟩ : ∃ T, piece ⟨rlo, rhi, rop⟩ SB lb = T := ⟨_, rfl⟩
  have hnl : nn ≤ lb + 1 := by
    rw [← hnn]; unfold splitN; split <;> omega
  have CS := aside (fun a cap w h => split_to (a := a) (cap := cap) hev hnn hT (by omega) w h)
  have CR := aside (fun w h => refSplit_to (a := ab) (cap := cb) hev hnn hT (by omega) w h)
  have CG := aside (fun a a' cap cap' w h h' => ranges_same a a' nn cap cap' T w h h')
  clear hw hB hev hnn hT
  go_enter Try.func6, Try.ntmps6
  go_wp2_with fail
  refine (C0.out _ hW.out).mono ?_
  rintro e w1 ⟨rfl, b1⟩
  obtain ⟨q0, q1, q2⟩ := box3 b1
  have b01 := bthen (bnew w (.cells #[.string rlo, .string rhi, .bool rop] 23)) b1
  have HB1 := aside (HB.out.up b01 b01.size)
  have Q := aside (fun X (h : Below w1.heap.size w1 X) => box_low h q0 q1 q2)
  clear b1 hW C0 HB
  go_wp2_with (at_builtin; refine append_strs rfl _ _ rfl w1.heap.size _ 0 [] (by rfl) ⟨rfl, .inl ⟨rfl, rfl⟩⟩ ab lb cb SB (by rfl) HB1.out formB (by omega) (Nat.le_refl _) ?_; intro a2 c2 w2 hown2 b12; refine Hid.out ?_)
  refine aside ?_
  simp only [Nat.zero_add, List.nil_append] at hown2 ⊢
  have HO2 := aside (hown2.alloc (.cells #[.string ⟨#[115, 112, 97, 114, 101]⟩, .string ⟨#[114, 111, 111, 109]⟩] 9))
  have b13 := b12.alloc b12.size (.cells #[.string ⟨#[115, 112, 97, 114, 101]⟩, .string ⟨#[114, 111, 111, 109]⟩] 9)
  clear hown2 q0 q1 q2
  go_wp2_with (at_builtin; refine append_strs rfl _ _ rfl w1.heap.size _ lb (strUpto SB lb) (by rfl) HO2.out (some ⟨w2.heap.size, 0, none⟩) 2 2 (fun i => [⟨#[115, 112, 97, 114, 101]⟩, ⟨#[114, 111, 111, 109]⟩].getD i ByteArray.empty) (by rfl) (strs_of_row (two_strs ⟨#[115, 112, 97, 114, 101]⟩ ⟨#[114, 111, 111, 109]⟩) (Nat.le_refl _) (by omega)) (.inr ⟨_, rfl⟩) (by omega) (by simp; have := b12.size; omega) ?_; intro a3 c3 w3 hown3 b3; refine Hid.out ?_)
  refine aside ?_
  rw [row_two] at hown3
  have b14 := b13.trans b3
  obtain ⟨g3, rfl, hg31, hg32⟩ : ∃ g3, a3 = some ⟨g3, 0, none⟩ ∧ w1.heap.size ≤ g3 ∧ g3 < w3.heap.size := by
    rcases hown3.2 with ⟨h, _⟩ | ⟨g, cap', cur, h, h1, h2, _⟩
    · cases h
    · cases h; exact ⟨g, rfl, h1, lies h2⟩
  have hS3 := strs_of_row hown3 (Nat.le_refl _) (by omega)
  have HS3 := aside (strs_head (m := lb) (S' := SB) hS3 (by omega) (fun i hi => by
    simp only [List.getD]
    rw [List.getElem?_append_left (by rw [strUpto_len]; exact hi)]
    simp [strUpto, hi]))
  have HO3 := aside hown3
  clear hown3 HO2 b3 b12 b13 hS3
  obtain ⟨q0, q1, q2⟩ := Q.out w3 b14
  have hlc3 : lb ≤ c3 := by have := HS3.out.1; omega
  go_wp2_with fail
  refine wp_region_held_drew (S := fun X => Below w3.heap.size w3 X ∧ X.cell? ⟨w.heap.size, 0, none⟩ = some (.string rlo) ∧ X.cell? ⟨w.heap.size, 1, none⟩ = some (.string rhi) ∧ X.cell? ⟨w.heap.size, 2, none⟩ = some (.bool rop)) (by kernel_rfl) ⟨(Below.refl _ w3).drew, q0, q1, q2⟩ (fun hHeld => ?_)
  clear q0 q1 q2
  refine wpAnyH_take (i := 0) (v := ?_) rfl (by kernel_rfl) (by kernel_rfl) (by kernel_rfl) (fun _ _ _ h => h) (Or.inl ⟨by rfl, ?_⟩) (by assumption) ?_
  rotate_left
  · intro w hSw
    go_simp
    try with_reducible rfl
  simp only [Act.put, List.getElem_toArray, List.getElem_cons_zero, List.setIfInBounds_toArray, List.set_cons_zero, List.set_cons_succ]
  refine wpAnyH_take (i := 1) (v := ?_) rfl (by kernel_rfl) (by kernel_rfl) (by kernel_rfl) (fun _ _ _ h => h) (Or.inl ⟨by rfl, ?_⟩) (by assumption) ?_
  rotate_left
  · intro w hSw
    go_simp
    try with_reducible rfl
  simp only [Act.put, List.getElem_toArray, List.getElem_cons_zero, List.getElem_cons_succ, List.setIfInBounds_toArray, List.set_cons_zero, List.set_cons_succ]
  refine wpAnyH_take (i := 2) (v := ?_) rfl (by kernel_rfl) (by kernel_rfl) (by kernel_rfl) (fun _ _ _ h => h) (Or.inl ⟨by rfl, ?_⟩) (by assumption) ?_
  rotate_left
  · intro w hSw
    go_simp
    try with_reducible rfl
  simp only [Act.put, List.getElem_toArray, List.getElem_cons_zero, List.getElem_cons_succ, List.setIfInBounds_toArray, List.set_cons_zero, List.set_cons_succ]
  refine wpAnyH_take (i := 3) (v := ?_) rfl (by kernel_rfl) (by kernel_rfl) (by kernel_rfl) (fun _ _ _ h => h) (Or.inl ⟨by rfl, ?_⟩) (by assumption) ?_
  rotate_left
  · intro w hSw
    go_simp
    try with_reducible rfl
  simp only [Act.put, List.getElem_toArray, List.getElem_cons_zero, List.getElem_cons_succ, List.setIfInBounds_toArray, List.set_cons_zero, List.set_cons_succ]
  refine wpAnyH_take (i := 4) (v := ?_) rfl (by kernel_rfl) (by kernel_rfl) (by kernel_rfl) (fun _ _ _ h => h) (Or.inl ⟨by rfl, ?_⟩) (by assumption) ?_
  rotate_left
  · intro w hSw
    go_simp
    try with_reducible rfl
  simp only [Act.put, List.getElem_toArray, List.getElem_cons_zero, List.getElem_cons_succ, List.setIfInBounds_toArray, List.set_cons_zero, List.set_cons_succ]
  refine wpAnyH_ready (rs := [5]) (by kernel_rfl) (by simp) ?_
  refine AllReadyH.cons rfl (fun K hK => ?_) AllReadyH.nil
  go_simp
  refine (CS.out _ _ _ (HS3.out.up hHeld.1 hHeld.1.size)).mono ?_
  rintro e w4 ⟨aL, cL, rfl, hownL, bb⟩
  refine hK.out _ _ (one_keep hHeld bb) (fun hHeld => ?_)
  clear hK K 
  refine wpAnyH_take (i := 6) (v := ?_) rfl (by kernel_rfl) (by kernel_rfl) (by kernel_rfl) (fun _ _ _ h => h) (Or.inl ⟨by rfl, ?_⟩) (by assumption) ?_
  rotate_left
  · intro w hSw
    go_simp
    try with_reducible rfl
  simp only [Act.put, List.getElem_toArray, List.getElem_cons_zero, List.getElem_cons_succ, List.setIfInBounds_toArray, List.set_cons_zero, List.set_cons_succ]
  refine wpAnyH_take (i := 7) (v := ?_) rfl (by kernel_rfl) (by kernel_rfl) (by kernel_rfl) (fun _ _ _ h => h) (Or.inl ⟨by rfl, ?_⟩) (by assumption) ?_
  rotate_left
  · intro w hSw
    go_simp
    try with_reducible rfl
  simp only [Act.put, List.getElem_toArray, List.getElem_cons_zero, List.getElem_cons_succ, List.setIfInBounds_toArray, List.set_cons_zero, List.set_cons_succ]
  refine wpAnyH_take (i := 8) (v := ?_) rfl (by kernel_rfl) (by kernel_rfl) (by kernel_rfl) (fun _ _ _ h => h) (Or.inl ⟨by rfl, ?_⟩) (by assumption) ?_
  rotate_left
  · intro w hSw
    go_simp
    try with_reducible rfl
  simp only [Act.put, List.getElem_toArray, List.getElem_cons_zero, List.getElem_cons_succ, List.setIfInBounds_toArray, List.set_cons_zero, List.set_cons_succ]
  refine wpAnyH_take (i := 9) (v := ?_) rfl (by kernel_rfl) (by kernel_rfl) (by kernel_rfl) (fun _ _ _ h => h) (Or.inl ⟨by rfl, ?_⟩) (by assumption) ?_
  rotate_left
  · intro w hSw
    go_simp
    try with_reducible rfl
  simp only [Act.put, List.getElem_toArray, List.getElem_cons_zero, List.getElem_cons_succ, List.setIfInBounds_toArray, List.set_cons_zero, List.set_cons_succ]
  refine wpAnyH_take (i := 10) (v := ?_) rfl (by kernel_rfl) (by kernel_rfl) (by kernel_rfl) (fun _ _ _ h => h) (Or.inl ⟨by rfl, ?_⟩) (by assumption) ?_
  rotate_left
  · intro w hSw
    go_simp
    try with_reducible rfl
  simp only [Act.put, List.getElem_toArray, List.getElem_cons_zero, List.getElem_cons_succ, List.setIfInBounds_toArray, List.set_cons_zero, List.set_cons_succ]
  refine wpAnyH_done (by kernel_rfl) ?_ _
  have HL4 := aside (own_base hownL (Nat.le_refl w3.heap.size))
  obtain ⟨b4, q0, q1, q2⟩ := hHeld
  have b15 := low_then b14 b14.size b4
  have HO4 := aside (own_up HO3.out b4)
  have LT := aside (fun j e => (HL4.out.lt j e).2)
  clear hownL bb HS3 HO3 b14
  go_wp2_with fail
  refine (CR.out _ (HB1.out.up b15 b15.size)).mono ?_
  rintro e w5 ⟨aW, cW, rfl, hownW, b5⟩
  have b16 := low_then b15 b15.size b5
  have HL5 := aside (own_up HL4.out b5)
  have HO5 := aside (own_up HO4.out b5)
  have HW5 := aside hownW
  have WT := aside (fun j e => (HW5.out.lt j e).2)
  clear hownW HL4 HO4 b15 CR q0 q1 q2
  go_wp2_with fail
  refine (CG.out _ _ _ _ _ (rgs_of_own HL5.out (by omega)) (rgs_of_own HW5.out (by omega))).mono ?_
  rintro e w6 ⟨rfl, b6⟩
  have b17 := low_then b16 b16.size b6
  have HL6 := aside (own_up HL5.out b6)
  have HO6 := aside (own_up HO5.out b6)
  have HW6 := aside (own_up HW5.out b6)
  have hs56 : w5.heap.size ≤ w6.heap.size := b6.size
  have hs45 : w4.heap.size ≤ w5.heap.size := b5.size
  have hs36 : w3.heap.size ≤ w4.heap.size := b4.size
  obtain ⟨bs, hbs⟩ : ∃ bs, strUpto SB lb ++ [⟨#[115, 112, 97, 114, 101]⟩, ⟨#[114, 111, 111, 109]⟩] = bs := ⟨_, rfl⟩
  have hbl : bs.length = lb + 2 := by rw [← hbs]; simp [strUpto]
  have BS : Hid (∀ i, i < lb → bs[i]? = some (SB i)) := by
    intro i hi
    rw [← hbs, List.getElem?_append_left (by rw [strUpto_len]; exact hi)]
    simp [strUpto, hi]
  have BSP : Hid (bs[lb]? = some ⟨#[115, 112, 97, 114, 101]⟩) := by
    rw [← hbs]; refine Eq.trans (List.getElem?_append_right (by rw [strUpto_len]; exact Nat.le_refl _)) ?_
    rw [strUpto_len, Nat.sub_self]; rfl
  have BRM : Hid (bs[lb + 1]? = some ⟨#[114, 111, 111, 109]⟩) := by
    rw [← hbs]; refine Eq.trans (List.getElem?_append_right (by rw [strUpto_len]; omega)) ?_
    rw [strUpto_len, show lb + 1 - lb = 1 from by omega]; rfl
  have HO7 : Hid (w6.ownsRow w1.heap.size 9 1 (.slice (some ⟨g3, 0, none⟩) (lb + 2) c3) (lb + 2) (strCells bs)) := by rw [← hbs]; exact HO6.out
  clear HL5 HO5 HW5 b16 HO6 b6 b4 b5 hbs
  go_wp2
  go_loopw [54] (fun i wr => ∃ k : Nat, k ≤ lb ∧ i = .int .i64 (k : Int) ∧ wr.ownsRow w1.heap.size 9 1 (.slice (some ⟨g3, 0, none⟩) (lb + 2) c3) (lb + 2) (strCells (turnedS ⟨#[116, 117, 114, 110, 101, 100]⟩ bs k)) ∧ Keeps (fun j => j = g3) w6 wr) (fun i _ => lb - (intOf i).toNat)
  case atStart => exact ⟨0, Nat.zero_le _, rfl, own_to HO7.out rfl, Keeps.refl _ _⟩
  case round =>
    obtain ⟨k, hk, rfl, hown, hkeep⟩ := hrel
    have bw := hkeep.low b17 b17.size (fun j hj e => by omega)
    by_cases hlt : (k : Int) < (lb : Int)
    · obtain ⟨-, -, h0 | ⟨b, off, rfl, hb, hc⟩⟩ := HB1.out
      · omega
      · have d0 := (bw.cell (p := ⟨b, off + k, none⟩) hb).trans (hc k (by omega))
        have c0 : wr.cell? ⟨g3, k, none⟩ = some (.string (SB k)) := by
          rw [hown.cellAt k (by omega)]
          simp only [strCells, List.getElem?_map, turnedS_get (Nat.le_refl k) (show k ≤ bs.length by omega), BS.out k (by omega), Option.map_some]
        have f0 := hown.frozenAt k
        have hk0 : (0 : Int) ≤ (k : Int) := by omega
        have hk2 : (k : Int) < (lb : Int) + 2 := by omega
        have HOW := aside hown
        have HKP := aside hkeep
        obtain ⟨sk, hsk⟩ : ∃ sk, SB k = sk := ⟨_, rfl⟩
        rw [hsk] at c0 d0
        clear hc hown hkeep bw hsk HW6 HL6 HO7 BS BSP BRM
        go_wp2_with fail
        go_region
        all_goals
          go_wp2
          go_roundw
          case rel => exact ⟨k + 1, by omega, by go_num, stored_str (own_drew HOW.out) (by omega), HKP.out.drew.setCell rfl _⟩
          case measure => simp [intOf]; omega
    · obtain rfl : k = lb := by omega
      have c1 : wr.cell? ⟨g3, k, none⟩ = some (.string ⟨#[115, 112, 97, 114, 101]⟩) := by
        rw [hown.cellAt k (by omega)]
        simp only [strCells, List.getElem?_map, turnedS_get (Nat.le_refl k) (show k ≤ bs.length by omega), BSP.out, Option.map_some]
      have c2 : wr.cell? ⟨g3, k + 1, none⟩ = some (.string ⟨#[114, 111, 111, 109]⟩) := by
        rw [hown.cellAt (k + 1) (by omega)]
        simp only [strCells, List.getElem?_map, turnedS_get (Nat.le_succ k) (show k ≤ bs.length by omega), BRM.out, Option.map_some]
      have hk0 : (0 : Int) ≤ (k : Int) := by omega
      have hk2 : (k : Int) < (k : Int) + 2 := by omega
      have hk3 : (k : Int) + 1 < (k : Int) + 2 := by omega
      have hwk : IntKind.i64.wrap ((k : Int) + 1) = (k : Int) + 1 := by simp only [IntKind.wrap_i64]; omega
      have HL7 := aside (hkeep.row HL6.out (fun j e h => by have := (HL6.out.lt j e).1; omega))
      have HW7 := aside (hkeep.row HW6.out (fun j e h => by have := (HW6.out.lt j e).1; omega))
      have hsz7 := hkeep.size
      clear hown hkeep BS BSP BRM HO7 HL6 HW6
      go_wp2_with fail
      refine (CG.out _ _ _ _ _ (rgs_of_own HL7.out (by omega)) (rgs_of_own HW7.out (by omega))).mono ?_
      rintro e w8 ⟨rfl, b8⟩
      have b19 := low_then bw bw.size b8
      have HL8 := aside (own_up HL7.out b8)
      have HW8 := aside (own_up HW7.out b8)
      obtain ⟨q0, q1, q2⟩ := Q.out w8 b19
      have hsz8 := b8.size
      clear HL7 HW7 b8 bw c1 c2
      go_wp2_with fail
      refine wp_region_held_drew (S := fun X => Below w8.heap.size w8 X ∧ X.cell? ⟨w.heap.size, 0, none⟩ = some (.string rlo) ∧ X.cell? ⟨w.heap.size, 1, none⟩ = some (.string rhi) ∧ X.cell? ⟨w.heap.size, 2, none⟩ = some (.bool rop)) (by kernel_rfl) ⟨(Below.refl _ w8).drew, q0, q1, q2⟩ (fun hHeld => ?_)
      clear q0 q1 q2
      refine wpAnyH_take (i := 0) (v := ?_) rfl (by kernel_rfl) (by kernel_rfl) (by kernel_rfl) (fun _ _ _ h => h) (Or.inl ⟨by rfl, ?_⟩) (by assumption) ?_
      rotate_left
      · intro w hSw
        go_simp
        try with_reducible rfl
      simp only [Act.put, List.getElem_toArray, List.getElem_cons_zero, List.setIfInBounds_toArray, List.set_cons_zero, List.set_cons_succ]
      refine wpAnyH_take (i := 1) (v := ?_) rfl (by kernel_rfl) (by kernel_rfl) (by kernel_rfl) (fun _ _ _ h => h) (Or.inl ⟨by rfl, ?_⟩) (by assumption) ?_
      rotate_left
      · intro w hSw
        go_simp
        try with_reducible rfl
      simp only [Act.put, List.getElem_toArray, List.getElem_cons_zero, List.getElem_cons_succ, List.setIfInBounds_toArray, List.set_cons_zero, List.set_cons_succ]
      refine wpAnyH_ready (rs := [2]) (by kernel_rfl) (by simp) ?_
      refine AllReadyH.cons rfl (fun K hK => ?_) AllReadyH.nil
      rw [if_pos (by kernel_rfl)]
      refine op_append_copy _ _ rfl (by rfl) ab k cb SB (by rfl) (HB1.out.up (low_then b19 b19.size hHeld.1) (low_then b19 b19.size hHeld.1).size) formB (by omega) ?_
      intro aB cB w10 hownB b10
      refine hK.out _ _ (one_keep hHeld b10) (fun hHeld => ?_)
      clear hK K
      simp only [Act.put, List.getElem_toArray, List.getElem_cons_zero, List.getElem_cons_succ, List.setIfInBounds_toArray, List.set_cons_zero, List.set_cons_succ]
      have HSB := aside (strs_head (m := k) (S' := SB) (strs_of_row hownB (Nat.le_refl _) (by omega)) (Nat.le_refl _) (fun i hi => by simp [strUpto, hi]))
      clear hownB
      refine wpAnyH_ready (rs := [3]) (by kernel_rfl) (by simp) ?_
      refine AllReadyH.cons rfl (fun K hK => ?_) AllReadyH.nil
      go_simp
      refine (CS.out _ _ _ HSB.out).mono ?_
      rintro e w9 ⟨aK, cK, rfl, hownK, bb⟩
      refine hK.out _ _ (one_keep hHeld bb) (fun hHeld => ?_)
      clear hK K 
      refine wpAnyH_take (i := 4) (v := ?_) rfl (by kernel_rfl) (by kernel_rfl) (by kernel_rfl) (fun _ _ _ h => h) (Or.inl ⟨by rfl, ?_⟩) (by assumption) ?_
      rotate_left
      · intro w hSw
        go_simp
        try with_reducible rfl
      simp only [Act.put, List.getElem_toArray, List.getElem_cons_zero, List.getElem_cons_succ, List.setIfInBounds_toArray, List.set_cons_zero, List.set_cons_succ]
      refine wpAnyH_take (i := 5) (v := ?_) rfl (by kernel_rfl) (by kernel_rfl) (by kernel_rfl) (fun _ _ _ h => h) (Or.inl ⟨by rfl, ?_⟩) (by assumption) ?_
      rotate_left
      · intro w hSw
        go_simp
        try with_reducible rfl
      simp only [Act.put, List.getElem_toArray, List.getElem_cons_zero, List.getElem_cons_succ, List.setIfInBounds_toArray, List.set_cons_zero, List.set_cons_succ]
      refine wpAnyH_take (i := 6) (v := ?_) rfl (by kernel_rfl) (by kernel_rfl) (by kernel_rfl) (fun _ _ _ h => h) (Or.inl ⟨by rfl, ?_⟩) (by assumption) ?_
      rotate_left
      · intro w hSw
        go_simp
        try with_reducible rfl
      simp only [Act.put, List.getElem_toArray, List.getElem_cons_zero, List.getElem_cons_succ, List.setIfInBounds_toArray, List.set_cons_zero, List.set_cons_succ]
      refine wpAnyH_take (i := 7) (v := ?_) rfl (by kernel_rfl) (by kernel_rfl) (by kernel_rfl) (fun _ _ _ h => h) (Or.inl ⟨by rfl, ?_⟩) (by assumption) ?_
      rotate_left
      · intro w hSw
        go_simp
        try with_reducible rfl
      simp only [Act.put, List.getElem_toArray, List.getElem_cons_zero, List.getElem_cons_succ, List.setIfInBounds_toArray, List.set_cons_zero, List.set_cons_succ]
      refine wpAnyH_take (i := 8) (v := ?_) rfl (by kernel_rfl) (by kernel_rfl) (by kernel_rfl) (fun _ _ _ h => h) (Or.inl ⟨by rfl, ?_⟩) (by assumption) ?_
      rotate_left
      · intro w hSw
        go_simp
        try with_reducible rfl
      simp only [Act.put, List.getElem_toArray, List.getElem_cons_zero, List.getElem_cons_succ, List.setIfInBounds_toArray, List.set_cons_zero, List.set_cons_succ]
      refine wpAnyH_done (by kernel_rfl) ?_ _
      have HK9 := aside (own_base hownK (show w8.heap.size ≤ w10.heap.size from b10.size))
      obtain ⟨b9, -, -, -⟩ := hHeld
      have b20 := low_then b19 b19.size b9
      have hs89 := b9.size
      have HL9 := aside (own_up HL8.out b9)
      have HW9 := aside (own_up HW8.out b9)
      clear hownK bb HSB b10 HL8 HW8 b9 b19
      go_wp2_with fail
      refine (CG.out _ _ _ _ _ (rgs_of_own HK9.out (by omega)) (rgs_of_own HW9.out (by omega))).mono ?_
      rintro e w11 ⟨rfl, b11⟩
      have b21 := low_then b20 b20.size b11
      have hs911 := b11.size
      have HL11 := aside (own_up HL9.out b11)
      have HW11 := aside (own_up HW9.out b11)
      have HK11 := aside (own_up HK9.out b11)
      clear HL9 HW9 HK9 b11 b20
      go_wp2
      go_loopw [109] (fun i wr => ∃ j : Nat, j ≤ nn ∧ i = .int .i64 (j : Int) ∧ wr.ownsRow w3.heap.size 23 3 (.slice aL nn cL) nn (rgCells (turnedR ⟨⟨#[108]⟩, ⟨#[]⟩, false⟩ T j) nn) ∧ Keeps (fun x => (Value.slice aL nn cL).ownBlock = some x) w11 wr) (fun i _ => nn - (intOf i).toNat)
      case atStart => exact ⟨0, Nat.zero_le _, rfl, own_to HL11.out (turned_zero _ _ _), Keeps.refl _ _⟩
      case round =>
        obtain ⟨j, hj, rfl, hown, hkeep⟩ := hrel
        by_cases hlt2 : (j : Int) < (nn : Int)
        · rcases hown.2 with ⟨_, h0⟩ | ⟨g, cap', cur, e, hg1, hg2, _⟩
          · omega
          · cases e
            obtain ⟨u0, u1, u2⟩ := rgCells_at (turnedR ⟨⟨#[108]⟩, ⟨#[]⟩, false⟩ T j) nn j (by omega)
            have hln : (rgCells (turnedR ⟨⟨#[108]⟩, ⟨#[]⟩, false⟩ T j) nn).length = nn * 3 := rgCells_length _ _
            have c0 := (hown.cellAt (j * 3) (by omega)).trans u0
            have c1 := (hown.cellAt (j * 3 + 1) (by omega)).trans u1
            have c2 := (hown.cellAt (j * 3 + 2) (by omega)).trans u2
            have f0 := hown.frozenAt (j * 3)
            have f1 := hown.frozenAt (j * 3 + 1)
            have f2 := hown.frozenAt (j * 3 + 2)
            have hj0 : (0 : Int) ≤ (j : Int) := by omega
            have HOW := aside hown
            have HKP := aside hkeep
            clear hown hkeep u0 u1 u2 hln hg1 hg2 HL11 HW11 HK11
            go_wp2
            go_roundw
            case rel => exact ⟨j + 1, by omega, by go_num, stored_rg (x := ⟨⟨#[108]⟩, ⟨#[]⟩, false⟩) HOW.out (by omega), ((HKP.out.setCell (p := ⟨g, j * 3, none⟩) rfl _).setCell (p := ⟨g, j * 3 + 1, none⟩) rfl _).setCell (p := ⟨g, j * 3 + 2, none⟩) rfl _⟩
            case measure => simp [intOf]; omega
        · obtain rfl : j = nn := by omega
          have b22 := hkeep.low b21 b21.size (fun x hx e => by have := (hown.lt x e).1; omega)
          have hsz12 := hkeep.size
          have HL12 := aside (own_to hown (turned_all _ _ _))
          have HW12 := aside (hkeep.row HW11.out (fun x e h => by have h1 := (HW11.out.lt x e).1; have h2 := LT.out x h; omega))
          have HK12 := aside (hkeep.row HK11.out (fun x e h => by have h1 := (HK11.out.lt x e).1; have h2 := LT.out x h; omega))
          clear hown hkeep HL11 HW11 HK11 b21 hlt2
          go_wp2
          go_loopw [119] (fun i wz => ∃ m : Nat, m ≤ j ∧ i = .int .i64 (m : Int) ∧ wz.ownsRow w8.heap.size 23 3 (.slice aK j cK) j (rgCells (turnedR ⟨⟨#[107]⟩, ⟨#[]⟩, false⟩ T m) j) ∧ Keeps (fun x => (Value.slice aK j cK).ownBlock = some x) wr wz) (fun i _ => j - (intOf i).toNat)
          case atStart => exact ⟨0, Nat.zero_le _, rfl, own_to HK12.out (turned_zero _ _ _), Keeps.refl _ _⟩
          case round =>
            obtain ⟨m, hm, rfl, hown, hkeep⟩ := hrel
            by_cases hlt2 : (m : Int) < (j : Int)
            · rcases hown.2 with ⟨_, h0⟩ | ⟨g, cap', cur, e, hg1, hg2, _⟩
              · omega
              · cases e
                obtain ⟨u0, u1, u2⟩ := rgCells_at (turnedR ⟨⟨#[107]⟩, ⟨#[]⟩, false⟩ T m) j m (by omega)
                have hln : (rgCells (turnedR ⟨⟨#[107]⟩, ⟨#[]⟩, false⟩ T m) j).length = j * 3 := rgCells_length _ _
                have c0 := (hown.cellAt (m * 3) (by omega)).trans u0
                have c1 := (hown.cellAt (m * 3 + 1) (by omega)).trans u1
                have c2 := (hown.cellAt (m * 3 + 2) (by omega)).trans u2
                have f0 := hown.frozenAt (m * 3)
                have f1 := hown.frozenAt (m * 3 + 1)
                have f2 := hown.frozenAt (m * 3 + 2)
                have hm0 : (0 : Int) ≤ (m : Int) := by omega
                have HOW := aside hown
                have HKP := aside hkeep
                clear hown hkeep u0 u1 u2 hln hg1 hg2 HL12 HW12 HK12
                go_wp2
                go_roundw
                case rel => exact ⟨m + 1, by omega, by go_num, stored_rg (x := ⟨⟨#[107]⟩, ⟨#[]⟩, false⟩) HOW.out (by omega), ((HKP.out.setCell (p := ⟨g, m * 3, none⟩) rfl _).setCell (p := ⟨g, m * 3 + 1, none⟩) rfl _).setCell (p := ⟨g, m * 3 + 2, none⟩) rfl _⟩
                case measure => simp [intOf]; omega
            · obtain rfl : m = j := by omega
              have b23 := hkeep.low b22 b22.size (fun x hx e => by have := (hown.lt x e).1; omega)
              have hsz13 := hkeep.size
              have HK13 := aside (own_to hown (turned_all _ _ _))
              have HW13 := aside (hkeep.row HW12.out (fun x e h => by have h1 := (hown.lt x h).1; have h2 := WT.out x e; omega))
              have HL13 := aside (hkeep.row HL12.out (fun x e h => by have h1 := (hown.lt x h).1; have h2 := LT.out x e; omega))
              clear hown hkeep HL12 HW12 HK12 b22 hlt2
              obtain ⟨i0, hi0, hz0, hz1, hz2⟩ := HI.out
              go_wp2_with (at_builtin; refine wpList_append_lies _ rfl _ _ _ rfl w3.heap.size 23 i0 (.agg #[.string ⟨#[]⟩, .string ⟨#[]⟩, .bool false]) 3 40 Try.underlying34 hi0 hz0 hz1 hz2 rfl (by decide) _ _ _ (by rfl) (HL13.out.alloc _) ⟨wr.heap.size, 0, none⟩ 2 2 [.string ⟨#[108]⟩, .string ⟨#[]⟩, .bool false, .string ⟨#[108]⟩, .string ⟨#[]⟩, .bool false] (by rfl) (by rfl) (World.news_of_block (cs := #[.string ⟨#[108]⟩, .string ⟨#[]⟩, .bool false, .string ⟨#[108]⟩, .string ⟨#[]⟩, .bool false]) (t := 23) (fr := (0, 0)) (heap_alloc_new wr _)) (by simp [Value.oneCell']) (by omega) (by unfold maxLen; omega) (by omega) (by simp; omega) (wr.heap.size + 1) (by simp) ?_; intro gM cM w14 hownM growM atM ltM; refine Hid.out ?_)
              refine aside ?_
              have kM : Keeps (fun x => (Value.slice aL m cL).ownBlock = some x) wr w14 := (Keeps.refl _ wr).grown growM (fun x e => e)
              have b24 := kM.low b23 b23.size (fun x hx e => by have := (HL13.out.lt x e).1; omega)
              have HW14 := aside (kM.row HW13.out (fun x e h => by have h1 := (HW13.out.lt x e).1; have h2 := LT.out x h; omega))
              have HK14 := aside (kM.row HK13.out (fun x e h => by have h1 := (HK13.out.lt x e).1; have h2 := LT.out x h; omega))
              have HM14 : Hid (w14.ownsRow w3.heap.size 23 3 (.slice (some ⟨gM, 0, none⟩) (m + 2) cM) (m + 2) (rgCells (fun _ => ⟨⟨#[108]⟩, ⟨#[]⟩, false⟩) (m + 2))) := own_to hownM (by simp only [rgCells, List.append_assoc]; rfl)
              have hMK : Hid (∀ x, (Value.slice aK m cK).ownBlock = some x → ¬ gM = x) := fun x e h => by
                have h1 := HK13.out.lt x e
                rcases atM with h2 | h2
                · have h3 := LT.out gM h2; omega
                · omega
              have hsz14 := kM.size
              clear hownM growM atM kM HW13 HK13 HL13
              go_wp2_with (at_builtin; refine wpList_append_lies _ rfl _ _ _ rfl w8.heap.size 23 i0 (.agg #[.string ⟨#[]⟩, .string ⟨#[]⟩, .bool false]) 3 40 Try.underlying34 hi0 hz0 hz1 hz2 rfl (by decide) _ _ _ (by rfl) (HK14.out.alloc _) ⟨w14.heap.size, 0, none⟩ 2 2 [.string ⟨#[107]⟩, .string ⟨#[]⟩, .bool false, .string ⟨#[107]⟩, .string ⟨#[]⟩, .bool false] (by rfl) (by rfl) (World.news_of_block (cs := #[.string ⟨#[107]⟩, .string ⟨#[]⟩, .bool false, .string ⟨#[107]⟩, .string ⟨#[]⟩, .bool false]) (t := 23) (fr := (0, 0)) (heap_alloc_new w14 _)) (by simp [Value.oneCell']) (by omega) (by unfold maxLen; omega) (by omega) (by simp; omega) (w14.heap.size + 1) (by simp) ?_; intro gN cN w15 hownN growN atN ltN; refine Hid.out ?_)
              refine aside ?_
              have kN : Keeps (fun x => (Value.slice aK m cK).ownBlock = some x) w14 w15 := (Keeps.refl _ w14).grown growN (fun x e => e)
              have b25 := kN.low b24 b24.size (fun x hx e => by have := (HK14.out.lt x e).1; omega)
              have HW15 := aside (kN.row HW14.out (fun x e h => by have h1 := (HK14.out.lt x h).1; have h2 := WT.out x e; omega))
              have HM15 := aside (kN.row HM14.out (fun x e h => hMK.out x h (by cases e; rfl)))
              have HN15 : Hid (w15.ownsRow w8.heap.size 23 3 (.slice (some ⟨gN, 0, none⟩) (m + 2) cN) (m + 2) (rgCells (fun _ => ⟨⟨#[107]⟩, ⟨#[]⟩, false⟩) (m + 2))) := own_to hownN (by simp only [rgCells, List.append_assoc]; rfl)
              have RM := aside (rgs_of_own HM15.out (by omega))
              have RN := aside (rgs_of_own HN15.out (by omega))
              clear hi0 hz0 hz1 hz2
              clear hownN growN atN kN HW14 HK14 HM14 HM15 HN15 hMK b23 b24
              go_wp2
              go_loopw [139] (fun i wz => ∃ z : Nat, z ≤ m + 2 ∧ i = .int .i64 (z : Int) ∧ Below w15.heap.size w15 wz) (fun i _ => m + 2 - (intOf i).toNat)
              case atStart => exact ⟨0, Nat.zero_le _, rfl, Below.refl _ _⟩
              case round =>
                obtain ⟨z, hz, rfl, hnx⟩ := hrel
                by_cases hlt3 : (z : Int) < (m : Int) + 2
                · obtain ⟨-, -, h0 | ⟨b', off', e, hb', hc'⟩⟩ := RM.out
                  · omega
                  · cases e
                    obtain ⟨c0, c1, c2⟩ := hc' z (by omega)
                    simp only [Nat.zero_add] at c0 c1 c2
                    replace c0 := cell_on c0 hnx
                    replace c1 := cell_on c1 hnx
                    replace c2 := cell_on c2 hnx
                    have hz0' : (0 : Int) ≤ (z : Int) := by omega
                    clear hc' RM RN HW15
                    go_wp2
                    go_roundw
                    case rel => exact ⟨z + 1, by omega, by go_num, hnx.alloc hnx.size _⟩
                    case measure => simp [intOf]; omega
                · obtain rfl : z = m + 2 := by omega
                  have b26 := low_then b25 b25.size hnx
                  have HW16 := aside (own_up HW15.out hnx)
                  have RN16 := aside (RN.out.up hnx hnx.size)
                  clear HW15 RN RM b25 hnx
                  go_wp2
                  go_loopw [154] (fun i wz => ∃ y : Nat, y ≤ m + 2 ∧ i = .int .i64 (y : Int) ∧ Below wr.heap.size wr wz) (fun i _ => m + 2 - (intOf i).toNat)
                  case atStart => exact ⟨0, Nat.zero_le _, rfl, Below.refl _ _⟩
                  case round =>
                    obtain ⟨y, hy, rfl, hnx⟩ := hrel
                    by_cases hlt4 : (y : Int) < (m : Int) + 2
                    · obtain ⟨-, -, h0 | ⟨b', off', e, hb', hc'⟩⟩ := RN16.out
                      · omega
                      · cases e
                        obtain ⟨c0, c1, c2⟩ := hc' y (by omega)
                        simp only [Nat.zero_add] at c0 c1 c2
                        replace c0 := cell_on c0 hnx
                        replace c1 := cell_on c1 hnx
                        replace c2 := cell_on c2 hnx
                        have hy0 : (0 : Int) ≤ (y : Int) := by omega
                        clear hc' RN16 HW16
                        go_wp2
                        go_roundw
                        case rel => exact ⟨y + 1, by omega, by go_num, hnx.alloc hnx.size _⟩
                        case measure => simp [intOf]; omega
                    · obtain rfl : y = m + 2 := by omega
                      have b27 := low_then b26 b26.size hnx
                      have HW17 := aside (own_up HW16.out hnx)
                      obtain ⟨q0, q1, q2⟩ := Q.out _ b27
                      clear HW16 RN16 b26 hnx
                      go_wp2_with fail
                      refine (CS.out _ _ _ (HB1.out.up b27 b27.size)).mono ?_
                      rintro e w18 ⟨aJ, cJ, rfl, hownJ, b18⟩
                      have b28 := low_then b27 b27.size b18
                      have HJ := aside hownJ
                      have HW18 := aside (own_up HW17.out b18)
                      clear hownJ HW17 b27 b18 q0 q1 q2 CS
                      go_wp2_with fail
                      refine (CG.out _ _ _ _ _ (rgs_of_own HJ.out (by omega)) (rgs_of_own HW18.out (by omega))).mono ?_
                      rintro e w19 ⟨rfl, b19⟩
                      have b29 := low_then b28 b28.size b19
                      clear HJ HW18 b28 b19 CG
                      go_wp2
                      go_ret
                      exact ⟨rfl, bthen b01 b29⟩

end Go.Proofs.Ytidajlnaehhkkaa
