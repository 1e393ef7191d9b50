/-
  The document's own Split, walked: it gives what the code's gives.
-/
import Derived.Test.YtidajlnaehhkkaaSSplit2
namespace Go.Proofs.Ytidajlnaehhkkaa
open Go.RowKit

/-- A border that may stand behind lo in a range. -/
def okB (r : Rg) (lo b : ByteArray) : Bool := decide ((b.size : Int) ≤ 16) && (Op.bytesLess lo.toList b.toList && (r.op || Op.bytesLess b.toList r.hi.toList))

/-- The texts at hand. -/
def Sp (r : Rg) (S : Nat → ByteArray) (n : Nat) : List (List UInt8) := [] :: r.lo.toList :: r.hi.toList :: (List.range n).map (fun i => (S i).toList)

theorem sp_S {r : Rg} {S : Nat → ByteArray} {n i : Nat} (hi : i < n) : (S i).toList ∈ Sp r S n := by
  simp only [Sp, List.mem_cons, List.mem_map, List.mem_range]
  exact .inr (.inr (.inr ⟨i, hi, rfl⟩))
theorem sp_lo {r : Rg} {S : Nat → ByteArray} {n : Nat} : r.lo.toList ∈ Sp r S n := by simp [Sp]
theorem sp_hi {r : Rg} {S : Nat → ByteArray} {n : Nat} : r.hi.toList ∈ Sp r S n := by simp [Sp]
theorem sp_nil {r : Rg} {S : Nat → ByteArray} {n : Nat} : [] ∈ Sp r S n := by simp [Sp]
theorem sp_cut {r : Rg} {S : Nat → ByteArray} {n i : Nat} (hi : i ≤ n) : (cutLo r.lo S i).toList ∈ Sp r S n := by
  cases i with
  | zero => exact sp_lo
  | succ i => exact sp_S (by omega)
theorem sp_piece {r : Rg} {S : Nat → ByteArray} {n i : Nat} (hi : i ≤ n) : In (Sp r S n) (piece r S n i) := by
  unfold piece
  split
  · exact ⟨sp_cut hi, sp_S ‹_›, sp_nil⟩
  · exact ⟨sp_cut hi, sp_hi, sp_nil⟩

theorem rises_cut {r : Rg} {S : Nat → ByteArray} {len : Nat} (hm : r.may = true) (hl : 0 < len) : rises (piece r S len) (len + 1) = true ↔ ∀ i, i < len → okB r (cutLo r.lo S i) (S i) = true := by
  have hR : In (Sp r S len) r := ⟨sp_lo, sp_hi, sp_nil⟩
  have hmr := (may_rk hR).1 hm
  have okn : ∀ i, i < len → (okB r (cutLo r.lo S i) (S i) = true ↔ ((S i).size : Int) ≤ 16 ∧ rk (Sp r S len) (cutLo r.lo S i).toList < rk (Sp r S len) (S i).toList ∧ (r.op = true ∨ rk (Sp r S len) (S i).toList < rk (Sp r S len) r.hi.toList)) := by
    intro i hi
    unfold okB
    rw [rk_lt (sp_cut (by omega)) (sp_S (r := r) hi), rk_lt (sp_S hi) (sp_hi (r := r))]
    simp only [Bool.and_eq_true, Bool.or_eq_true, decide_eq_true_eq]
  have pe : ∀ i, i ≤ len → ((piece r S len i).emp = false ↔ _) := fun i hi => emp_num (sp_piece hi)
  constructor
  · intro h
    simp only [rises, Bool.and_eq_true, Bool.not_eq_true'] at h
    have ne : ∀ i, i ≤ len → (piece r S len i).emp = false := by
      intro i hi
      cases he : (piece r S len i).emp
      · rfl
      · rw [anyE_true (j := i) (by omega) he] at h; cases h.1
    have st : ∀ i, i < len → ((S i).size : Int) ≤ 16 ∧ rk (Sp r S len) (cutLo r.lo S i).toList < rk (Sp r S len) (S i).toList := by
      intro i hi
      have := (pe i (by omega)).1 (ne i (by omega))
      simp only [piece, if_pos hi] at this
      rcases this with ⟨⟨_, h2⟩, ⟨h3, _⟩ | ⟨_, h4⟩⟩
      · cases h3
      · exact ⟨h2, h4⟩
    have mono : ∀ j i, i ≤ j → j < len + 1 → rk (Sp r S len) (cutLo r.lo S i).toList + (j - i) ≤ rk (Sp r S len) (cutLo r.lo S j).toList :=
      steps_mono (L := fun i => rk (Sp r S len) (cutLo r.lo S i).toList) (U := fun i => rk (Sp r S len) (S i).toList) (fun i hi => ⟨(st i (by omega)).2, rfl⟩)
    intro i hi
    refine (okn i hi).2 ⟨(st i hi).1, (st i hi).2, ?_⟩
    have hlast := (pe len (Nat.le_refl _)).1 (ne len (Nat.le_refl _))
    simp only [piece, if_neg (Nat.lt_irrefl len)] at hlast
    rcases hlast.2 with ⟨h3, _⟩ | ⟨_, h4⟩
    · exact .inl h3
    · have := mono len (i + 1) (by omega) (by omega)
      rw [show cutLo r.lo S (i + 1) = S i from rfl] at this
      exact .inr (by omega)
  · intro h
    have h' := fun i hi => (okn i hi).1 (h i hi)
    have csz : ∀ i, i ≤ len → ((cutLo r.lo S i).size : Int) ≤ 16 := by
      intro i hi
      cases i with
      | zero => exact hmr.1.1
      | succ i => exact (h' i (by omega)).1
    have ne : ∀ i, i ≤ len → (piece r S len i).emp = false := by
      intro i hi
      refine (pe i hi).2 ?_
      by_cases e : i < len
      · simp only [piece, if_pos e]
        exact ⟨⟨csz i hi, (h' i e).1⟩, .inr ⟨trivial, (h' i e).2.1⟩⟩
      · obtain rfl : i = len := by omega
        simp only [piece, if_neg (Nat.lt_irrefl i)]
        refine ⟨⟨csz i hi, hmr.1.2⟩, ?_⟩
        rcases hmr.2 with h3 | ⟨h3, _⟩
        · exact .inl h3
        · refine .inr ⟨h3, ?_⟩
          obtain ⟨j, rfl⟩ : ∃ j, i = j + 1 := ⟨i - 1, by omega⟩
          rcases (h' j (by omega)).2.2 with h5 | h5
          · rw [h3] at h5; cases h5
          · exact h5
    simp only [rises, Bool.and_eq_true, Bool.not_eq_true']
    refine ⟨anyE_false (fun j hj => ne j (by omega)), ?_⟩
    rw [List.all_eq_true]
    intro x hx
    simp only [upto, List.mem_map, List.mem_range, Nat.add_sub_cancel] at hx
    obtain ⟨j, hj, rfl⟩ := hx
    have a1 : (piece r S len j).hi = S j ∧ (piece r S len j).op = false := by simp only [piece, if_pos hj, and_self]
    have a2 : (piece r S len (j + 1)).lo = S j := by unfold piece; split <;> rfl
    simp only [okP, a1, a2, L_irrefl, Bool.or_false, Bool.not_false]

theorem splitE_bad {r : Rg} {S : Nat → ByteArray} {len k : Nat} (hm : r.may = true) (hk : k < len) (h : okB r (cutLo r.lo S k) (S k) = false) : splitE r S len = 22 ∧ splitN r S len = 0 := by
  have e1 : splitE r S len = 22 := by
    have hr : rises (piece r S len) (len + 1) = false := by
      cases hq : rises (piece r S len) (len + 1)
      · rfl
      · rw [(rises_cut hm (by omega)).1 hq k hk] at h; cases h
    unfold splitE
    rw [if_pos hm, if_pos ⟨by omega, hr⟩]
  exact ⟨e1, by unfold splitN; rw [e1, if_neg (by omega)]⟩

theorem splitE_ok {r : Rg} {S : Nat → ByteArray} {len : Nat} (hm : r.may = true) (h : ∀ i, i < len → okB r (cutLo r.lo S i) (S i) = true) : splitE r S len = 0 ∧ splitN r S len = len + 1 := by
  have e1 : splitE r S len = 0 := by
    unfold splitE
    rw [if_pos hm]
    rcases Nat.eq_zero_or_pos len with h0 | h0
    · rw [if_neg (by omega)]
    · rw [if_neg (by rw [(rises_cut hm h0).2 h]; simp)]
  exact ⟨e1, by unfold splitN; rw [e1, if_pos rfl]⟩

/-- A round of the document's Split, behind its append. -/
theorem rel_split {w wr w1 : World} {o : Obj} {u : Value} {lo hi : ByteArray} {op : Bool} {S : Nat → ByteArray} {k : Nat} (hnx : Below w.heap.size w wr)
    (q0 : wr.cell? ⟨w.heap.size, 0, none⟩ = some (.string lo)) (q1 : wr.cell? ⟨w.heap.size, 1, none⟩ = some (.string hi)) (q2 : wr.cell? ⟨w.heap.size, 2, none⟩ = some (.bool op))
    (hown : wr.ownsRow (w.heap.size + 1) 23 3 u k (rgCells (fun j => ⟨cutLo lo S j, S j, false⟩) k)) (hgrow : (wr.alloc o).grownBy w1 u.ownBlock) :
    (w1.cell? ⟨w.heap.size, 0, none⟩ = some (.string lo) ∧ w1.cell? ⟨w.heap.size, 1, none⟩ = some (.string hi) ∧ w1.cell? ⟨w.heap.size, 2, none⟩ = some (.bool op)) ∧ Below w.heap.size w w1 := by
  have hlt := World.block_lt_of_cell? wr _ q0
  have hb : w1.heap[w.heap.size]? = wr.heap[w.heap.size]? := by
    rw [hgrow.block w.heap.size (by simp at hlt ⊢; omega) (fun e => by have := (hown.lt w.heap.size e.symm).1; omega)]
    exact Below.heap_alloc _ _ _ hlt
  have hc : ∀ j, w1.cell? ⟨w.heap.size, j, none⟩ = wr.cell? ⟨w.heap.size, j, none⟩ := fun j => World.cell?_of_block (a := ⟨w.heap.size, j, none⟩) hb
  exact ⟨⟨(hc 0).trans q0, (hc 1).trans q1, (hc 2).trans q2⟩, (hnx.alloc hnx.size o).grown hgrow (by simp at hlt ⊢; omega) (fun j hj => by have := (hown.lt j hj).1; omega)⟩

theorem split_nil {r : Rg} {S : Nat → ByteArray} {len : Nat} {c : Int} {w w' : World} (h : splitE r S len = c ∧ splitN r S len = 0) (hb : Below w.heap.size w w') : Splits r S len w (.returned (.tuple #[.slice none 0 0, .int .i64 c])) w' := by
  refine ⟨none, 0, by rw [h.1, h.2], ?_, hb⟩
  rw [h.2]; exact ⟨rfl, .inl ⟨rfl, rfl⟩⟩

set_option maxRecDepth 100000 in
set_option maxHeartbeats 4000000 in
theorem refSplit_may (lo hi : ByteArray) (op : Bool) (a : Option Addr) (len cap : Nat) (S : Nat → ByteArray) (w : World) (hm : Rg.may ⟨lo, hi, op⟩ = true) (h : StrsIn w.heap.size w a len cap S) (hroom : (len + 1) * 40 ≤ 140737488355328) :
    Calls Try.prog 21 #[.agg #[.string lo, .string hi, .bool op], .slice a len cap] w fun e w' => Splits ⟨lo, hi, op⟩ S len w e w' := by
  obtain ⟨i0, hi0, hz0, hz1, hz2⟩ := info_parts info23
  obtain ⟨hlc, hl16, hh⟩ := h
  have C := aside (fun w => checkRef_at (may_chk hm) w)
  have HM := aside hm
  clear hm
  go_enter Try.func21, Try.ntmps21
  go_wp2_with fail
  refine (C.out _).mono ?_
  rintro e w1 ⟨rfl, b1⟩
  obtain ⟨q0, q1, q2⟩ := box3 b1
  have b01 := bthen (bnew w (.cells #[.string lo, .string hi, .bool op] 23)) b1
  clear b1 C
  go_wp2
  go_loopw [7, 8, 20] (fun v l i wr => ∃ k : Nat, k ≤ len ∧ i = .int .i64 (k : Int) ∧ l = .string (cutLo lo S k) ∧ wr.ownsRow (w.heap.size + 1) 23 3 v k (rgCells (fun j => ⟨cutLo lo S j, S j, false⟩) k) ∧
      (wr.cell? ⟨w.heap.size, 0, none⟩ = some (.string lo) ∧ wr.cell? ⟨w.heap.size, 1, none⟩ = some (.string hi) ∧ wr.cell? ⟨w.heap.size, 2, none⟩ = some (.bool op)) ∧ Below w.heap.size w wr ∧ (∀ j, j < k → okB ⟨lo, hi, op⟩ (cutLo lo S j) (S j) = true))
    (fun _ _ i _ => len - (intOf i).toNat)
  case atStart => exact ⟨0, Nat.zero_le _, rfl, rfl, ⟨rfl, .inl ⟨rfl, rfl⟩⟩, ⟨q0, q1, q2⟩, b01, fun j hj => by omega⟩
  case round =>
    clear q0 q1 q2 b01
    obtain ⟨k, hk, rfl, rfl, hown, ⟨q0, q1, q2⟩, hnx, hall0⟩ := hrel
    have hall := aside hall0
    have hsz := hnx.size
    have hbl := World.block_lt_of_cell? wr _ q0
    simp only at hbl
    clear hall0
    by_cases hlt : (k : Int) < (len : Int)
    · rcases hh with hh | ⟨b, off, rfl, hb, hc⟩
      · omega
      · have c0 := (hnx.cell (p := ⟨b, off + k, none⟩) hb).trans (hc k (by omega))
        have hk0 : (0 : Int) ≤ (k : Int) := by omega
        clear hc
        obtain ⟨bd, hbd⟩ : ∃ bd, S k = bd := ⟨_, rfl⟩
        obtain ⟨pl, hpl⟩ : ∃ pl, cutLo lo S k = pl := ⟨_, rfl⟩
        rw [hbd] at c0
        have bad : okB ⟨lo, hi, op⟩ pl bd = false → splitE ⟨lo, hi, op⟩ S len = 22 ∧ splitN ⟨lo, hi, op⟩ S len = 0 := fun e => splitE_bad (k := k) HM.out (by omega) (by rw [← hbd] at e; simp only [← hpl] at e; exact e)
        have BAD := aside bad
        clear bad
        by_cases hs : (16 : Int) < (bd.size : Int)
        · have HB := aside (BAD.out (by simp only [okB, Bool.and_eq_false_iff, decide_eq_false_iff_not]; exact .inl (by omega)))
          rw [hpl]
          clear hbd hpl BAD hall
          go_wp2
          go_ret2
          exact split_nil HB.out hnx
        · cases hl : Op.bytesLess pl.toList bd.toList
          · have HB := aside (BAD.out (by simp [okB, hl]))
            rw [hpl]
            clear hbd hpl BAD hall
            by_cases he : bd.toList = pl.toList
            · have he' : (bd.toList == pl.toList) = true := by simpa using he
              clear he
              go_wp2
              all_goals
                go_ret2
                exact split_nil HB.out hnx
            · have he' : (bd.toList == pl.toList) = false := by simpa using he
              have hl2 : Op.bytesLess bd.toList pl.toList = true := by
                cases hq : Op.bytesLess bd.toList pl.toList
                · exact absurd (L_total _ _ hq hl) he
                · rfl
              clear he
              go_wp2
              all_goals
                go_ret2
                exact split_nil HB.out hnx
          · have hl2 : Op.bytesLess bd.toList pl.toList = false := by
              cases hq : Op.bytesLess bd.toList pl.toList
              · rfl
              · have := L_trans _ _ _ hl hq; rw [L_irrefl] at this; cases this
            have hl3 : (bd.toList == pl.toList) = false := by
              simp only [beq_eq_false_iff_ne, ne_eq]
              intro e; rw [e, L_irrefl] at hl; cases hl
            by_cases hg : op = false ∧ Op.bytesLess bd.toList hi.toList = false
            · obtain ⟨rfl, hg⟩ := hg
              have HB := aside (BAD.out (by simp [okB, hl, hg]))
              rw [hpl]
              clear hbd hpl BAD hall
              go_wp2
              all_goals
                go_ret2
                exact split_nil HB.out hnx
            · have OK := aside (show okB ⟨lo, hi, op⟩ pl bd = true by
                simp only [okB, hl, Bool.and_eq_true, Bool.or_eq_true, decide_eq_true_eq]
                refine ⟨by omega, trivial, ?_⟩
                cases op
                · cases hq : Op.bytesLess bd.toList hi.toList
                  · exact absurd ⟨rfl, hq⟩ hg
                  · exact .inr rfl
                · exact .inl rfl)
              have hop : op = false → Op.bytesLess bd.toList hi.toList = true := by
                intro e
                cases hq : Op.bytesLess bd.toList hi.toList
                · exact absurd ⟨e, hq⟩ hg
                · rfl
              have PL := aside hpl
              have BD := aside hbd
              rw [hpl]
              clear hg hbd hpl BAD
              cases op
              · have hg := hop rfl
                clear hop
                go_wp2_with (at_builtin; refine wpList_append_lies _ rfl _ _ _ rfl (w.heap.size + 1) 23 i0 (.agg #[.string ⟨#[]⟩, .string ⟨#[]⟩, .bool false]) 3 40 Try.underlying34 hi0 hz0 hz1 hz2 rfl (by decide) _ _ _ (by rfl) (hown.alloc _) ⟨wr.heap.size, 0, none⟩ 1 1 [.string pl, .string bd, .bool false] (by rfl) (by rfl) (World.news_of_block (cs := #[.string pl, .string bd, .bool false]) (t := 23) (fr := (0, 0)) (heap_alloc_new wr _)) (by simp [Value.oneCell']) (by omega) (by unfold maxLen; omega) (by omega) (by have := hnx.size; simp; omega) (wr.heap.size + 1) (by simp) ?_; intro g cp w1 hown1 hgrow hat hlt1; refine Hid.out ?_)
                refine aside ?_
                obtain ⟨⟨r0, r1, r2⟩, kN⟩ := rel_split hnx q0 q1 q2 hown hgrow
                have KO := aside hown1
                clear hown hown1 hgrow hnx hat q0 q1 q2 c0
                go_wp2
                go_roundw
                case rel => exact ⟨k + 1, by omega, by go_num, by rw [← BD.out]; rfl, by
                  have := KO.out
                  rw [← PL.out, ← BD.out] at this
                  exact this, ⟨r0, r1, r2⟩, kN, fun j hj => by
                  by_cases e : j = k
                  · subst e; rw [PL.out, BD.out]; exact OK.out
                  · exact hall.out j (by omega)⟩
                case measure => simp [intOf]; omega
              · clear hop
                go_wp2_with (at_builtin; refine wpList_append_lies _ rfl _ _ _ rfl (w.heap.size + 1) 23 i0 (.agg #[.string ⟨#[]⟩, .string ⟨#[]⟩, .bool false]) 3 40 Try.underlying34 hi0 hz0 hz1 hz2 rfl (by decide) _ _ _ (by rfl) (hown.alloc _) ⟨wr.heap.size, 0, none⟩ 1 1 [.string pl, .string bd, .bool false] (by rfl) (by rfl) (World.news_of_block (cs := #[.string pl, .string bd, .bool false]) (t := 23) (fr := (0, 0)) (heap_alloc_new wr _)) (by simp [Value.oneCell']) (by omega) (by unfold maxLen; omega) (by omega) (by have := hnx.size; simp; omega) (wr.heap.size + 1) (by simp) ?_; intro g cp w1 hown1 hgrow hat hlt1; refine Hid.out ?_)
                refine aside ?_
                obtain ⟨⟨r0, r1, r2⟩, kN⟩ := rel_split hnx q0 q1 q2 hown hgrow
                have KO := aside hown1
                clear hown hown1 hgrow hnx hat q0 q1 q2 c0
                go_wp2
                go_roundw
                case rel => exact ⟨k + 1, by omega, by go_num, by rw [← BD.out]; rfl, by
                  have := KO.out
                  rw [← PL.out, ← BD.out] at this
                  exact this, ⟨r0, r1, r2⟩, kN, fun j hj => by
                  by_cases e : j = k
                  · subst e; rw [PL.out, BD.out]; exact OK.out
                  · exact hall.out j (by omega)⟩
                case measure => simp [intOf]; omega
    · obtain rfl : len = k := by omega
      go_wp2_with (at_builtin; refine wpList_append_lies _ rfl _ _ _ rfl (w.heap.size + 1) 23 i0 (.agg #[.string ⟨#[]⟩, .string ⟨#[]⟩, .bool false]) 3 40 Try.underlying34 hi0 hz0 hz1 hz2 rfl (by decide) _ _ _ (by rfl) (hown.alloc _) ⟨wr.heap.size, 0, none⟩ 1 1 [.string (cutLo lo S len), .string hi, .bool op] (by rfl) (by rfl) (World.news_of_block (cs := #[.string (cutLo lo S len), .string hi, .bool op]) (t := 23) (fr := (0, 0)) (heap_alloc_new wr _)) (by simp [Value.oneCell']) (by omega) (by unfold maxLen; omega) (by omega) (by have := hnx.size; simp; omega) (wr.heap.size + 1) (by simp) ?_; intro g cp w1 hown1 hgrow hat hlt1; refine Hid.out ?_)
      refine aside ?_
      have kN := (rel_split hnx q0 q1 q2 hown hgrow).2
      obtain ⟨s1, s2⟩ := splitE_ok HM.out hall.out
      have FIN : Hid (Splits ⟨lo, hi, op⟩ S len w (.returned (.tuple #[.slice (some ⟨g, 0, none⟩) (len + 1) cp, .int .i64 0])) w1) := by
        refine ⟨some ⟨g, 0, none⟩, cp, by rw [s1, s2], ?_, kN⟩
        rw [s2, show rgCells (piece ⟨lo, hi, op⟩ S len) (len + 1) = rgCells (fun j => ⟨cutLo lo S j, S j, false⟩) len ++ [.string (cutLo lo S len), .string hi, .bool op] from by
          simp only [rgCells]
          rw [rgCells_congr (f := piece ⟨lo, hi, op⟩ S len) (g := fun j => ⟨cutLo lo S j, S j, false⟩) (fun i hi => by simp [piece, hi])]
          simp [piece]]
        exact row_base hown1 (Nat.le_succ _)
      clear hown hown1 hgrow hnx hat q0 q1 q2 s1 s2
      go_wp2
      go_ret2
      exact FIN.out

set_option maxHeartbeats 1600000 in
theorem refSplit_any (lo hi : ByteArray) (op : Bool) (a : Option Addr) (len cap : Nat) (S : Nat → ByteArray) (w : World) (h : StrsIn w.heap.size w a len cap S) (hroom : (len + 1) * 40 ≤ 140737488355328) :
    Calls Try.prog 21 #[.agg #[.string lo, .string hi, .bool op], .slice a len cap] w fun e w' => Splits ⟨lo, hi, op⟩ S len w e w' := by
  cases hm : Rg.may ⟨lo, hi, op⟩
  · obtain ⟨c, hc, hne, hnz⟩ := may_not hm
    have e1 : splitE ⟨lo, hi, op⟩ S len = c := by unfold splitE; rw [hm, if_neg (by simp), hc]
    have F := aside (show splitE ⟨lo, hi, op⟩ S len = c ∧ splitN ⟨lo, hi, op⟩ S len = 0 from ⟨e1, by unfold splitN; rw [e1, if_neg hnz]⟩)
    have C := aside (fun w => checkRef_at hc w)
    clear hc e1 h hm
    go_enter Try.func21, Try.ntmps21
    go_wp2_with fail
    refine (C.out _).mono ?_
    rintro e w1 ⟨rfl, b1⟩
    go_wp2
    go_ret2
    exact split_nil F.out (bthen (bnew w _) b1)
  · exact refSplit_may lo hi op a len cap S w hm h hroom

end Go.Proofs.Ytidajlnaehhkkaa
