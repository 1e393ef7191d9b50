/-
  cut, the code's: the pieces of a range at borders, in a slice of its own.
  Split, the code's.
-/
import Derived.Test.YtoflalflacopdaaDoorBg24
namespace Go.Proofs.YtoflalflacopdaaDoor
open Go.RowKit
/-- The texts S 0, S 1 .. lie one behind the other, below n₀. -/
def StrsIn (n₀ : Nat) (w : World) (a : Option Addr) (len cap : Nat) (S : Nat → ByteArray) : Prop :=
  len ≤ cap ∧ len * 16 ≤ 281474976710656 ∧ (len = 0 ∨ ∃ blk off, a = some ⟨blk, off, none⟩ ∧ blk < n₀ ∧ ∀ i, i < len → w.cell? ⟨blk, off + i, none⟩ = some (.string (S i)))
theorem StrsIn.up {n₀ n₁ : Nat} {A B : World} (h : Below n₀ A B) (hn : n₀ ≤ n₁) {a : Option Addr} {len cap : Nat} {S : Nat → ByteArray} (hr : StrsIn n₀ A a len cap S) : StrsIn n₁ B a len cap S := by
  obtain ⟨h1, h2, h3⟩ := hr
  refine ⟨h1, h2, ?_⟩
  rcases h3 with h3 | ⟨blk, off, e, hb, hc⟩
  · exact .inl h3
  · exact .inr ⟨blk, off, e, Nat.lt_of_lt_of_le hb hn, fun i hi => (h.cell (p := ⟨blk, off + i, none⟩) hb).trans (hc i hi)⟩
/-- The cells of the ranges f 0, f 1 .. -/
def rgCells (f : Nat → Rg) : Nat → List Value
  | 0 => []
  | n + 1 => rgCells f n ++ [.string (f n).lo, .string (f n).hi, .bool (f n).op]
theorem rgCells_length (f : Nat → Rg) (n : Nat) : (rgCells f n).length = n * 3 := by
  induction n with
  | zero => rfl
  | succ n ih => simp only [rgCells, List.length_append, ih, List.length_cons, List.length_nil]; omega
theorem rgCells_congr {f g : Nat → Rg} : ∀ {n : Nat}, (∀ i, i < n → f i = g i) → rgCells f n = rgCells g n
  | 0, _ => rfl
  | n + 1, h => by simp only [rgCells]; rw [rgCells_congr (n := n) (fun i hi => h i (by omega)), h n (by omega)]
theorem rgCells_at (f : Nat → Rg) : ∀ (n i : Nat), i < n → (rgCells f n)[i * 3]? = some (.string (f i).lo) ∧ (rgCells f n)[i * 3 + 1]? = some (.string (f i).hi) ∧ (rgCells f n)[i * 3 + 2]? = some (.bool (f i).op)
  | n + 1, i, h => by
    have hl := rgCells_length f n
    simp only [rgCells]
    by_cases e : i = n
    · subst e
      refine ⟨?_, ?_, ?_⟩
      · rw [List.getElem?_append_right (by omega), hl, Nat.sub_self]; rfl
      · rw [List.getElem?_append_right (by omega), hl, show i * 3 + 1 - i * 3 = 1 from by omega]; rfl
      · rw [List.getElem?_append_right (by omega), hl, show i * 3 + 2 - i * 3 = 2 from by omega]; rfl
    · obtain ⟨h0, h1, h2⟩ := rgCells_at f n i (by omega)
      refine ⟨?_, ?_, ?_⟩
      · rw [List.getElem?_append_left (by omega)]; exact h0
      · rw [List.getElem?_append_left (by omega)]; exact h1
      · rw [List.getElem?_append_left (by omega)]; exact h2
/-- Where piece j begins. -/
def cutLo (lo : ByteArray) (S : Nat → ByteArray) : Nat → ByteArray
  | 0 => lo
  | j + 1 => S j
/-- The pieces of a range at the first len borders. -/
def piece (r : Rg) (S : Nat → ByteArray) (len j : Nat) : Rg := if j < len then ⟨cutLo r.lo S j, S j, false⟩ else ⟨cutLo r.lo S j, r.hi, r.op⟩
theorem info23 : (Tryd.prog.info? 24).map (fun i => (i.zero, i.size, i.bytes)) = some (some (.agg #[.string ⟨#[]⟩, .string ⟨#[]⟩, .bool false]), 3, 40) := by kernel_rfl
theorem set_box0 {W : World} {k : Nat} {a b c : Value} {t : TypeId} (h : W.heap[k]? = some (.cells #[a, b, c] t (0, 0))) (v : Value) : (W.setCell ⟨k, 0, none⟩ v).heap[k]? = some (.cells #[v, b, c] t (0, 0)) := by
  simp only [World.setCell]
  rw [Array.getElem?_modify]
  simp [h]
/-- What a row of ranges that the call owns is to those who read it. -/
theorem rgs_of_row {w : World} {B n₀ g n cap : Nat} {f : Nat → Rg} (h : w.ownsRow B 24 3 (.slice (some ⟨g, 0, none⟩) n cap) n (rgCells f n)) (hg : g < n₀) (hb : n * 40 ≤ 281474976710656) : RgsIn n₀ w (some ⟨g, 0, none⟩) n cap f := by
  have hcap : n ≤ cap := by
    rcases h.2 with ⟨h1, -⟩ | ⟨g', cap', cur, h1, -, -, h2, -⟩
    · cases h1
    · cases h1; exact h2
  refine ⟨hcap, hb, .inr ⟨g, 0, rfl, hg, fun i hi => ?_⟩⟩
  obtain ⟨h0, h1, h2⟩ := rgCells_at f n i hi
  have c := fun j u hu => h.cells (g := g) rfl j u hu
  have e : ∀ j, (⟨g, 0, none⟩ : Addr).add j = ⟨g, 0 + j, none⟩ := fun j => by unfold Addr.add; split <;> simp_all
  have c0 := c _ _ h0; have c1 := c _ _ h1; have c2 := c _ _ h2
  rw [e] at c0 c1 c2
  exact ⟨c0, by rw [Nat.add_assoc]; exact c1, by rw [Nat.add_assoc]; exact c2⟩
/-- One round of cut, behind its append. -/
theorem rel_cut {w wr w1 : World} {o : Obj} {u v : Value} {lo hi : ByteArray} {op : Bool} {S : Nat → ByteArray} {k : Nat} (hnx : Below w.heap.size w wr)
    (hbox : wr.heap[w.heap.size]? = some (.cells #[.string (cutLo lo S k), .string hi, .bool op] 24 (0, 0)))
    (hown : wr.ownsRow (w.heap.size + 1) 24 3 u k (rgCells (fun j => ⟨cutLo lo S j, S j, false⟩) k)) (hgrow : (wr.alloc o).grownBy w1 u.ownBlock)
    (hown1 : w1.ownsRow (w.heap.size + 1) 24 3 v (k + 1) (rgCells (fun j => ⟨cutLo lo S j, S j, false⟩) k ++ [.string (cutLo lo S k), .string (S k), .bool false])) :
    w1.heap[w.heap.size]? = some (.cells #[.string (cutLo lo S k), .string hi, .bool op] 24 (0, 0)) ∧ w1.ownsRow (w.heap.size + 1) 24 3 v (k + 1) (rgCells (fun j => ⟨cutLo lo S j, S j, false⟩) (k + 1)) ∧ Below w.heap.size w w1 := by
  have hlt := (Array.getElem?_eq_some_iff.1 hbox).1
  refine ⟨?_, hown1, (hnx.alloc hnx.size o).grown hgrow (by simp; omega) (fun j hj => by have := (hown.lt j hj).1; omega)⟩
  rw [hgrow.block w.heap.size (by simp; omega) (fun e => by have := (hown.lt w.heap.size e.symm).1; omega)]
  exact keepA hbox
set_option maxHeartbeats 3200000 in
set_option maxRecDepth 100000 in
theorem cut_any (lo hi : ByteArray) (op : Bool) (a : Option Addr) (len cap : Nat) (S : Nat → ByteArray) (w : World) (h : StrsIn w.heap.size w a len cap S) (hroom : (len + 1) * 40 ≤ 140737488355328) :
    Calls Tryd.prog 104 #[.agg #[.string lo, .string hi, .bool op], .slice a len cap] w fun e w' => ∃ g cp, e = .returned (.slice (some ⟨g, 0, none⟩) (len + 1) cp) ∧ w'.ownsRow (w.heap.size + 1) 24 3 (.slice (some ⟨g, 0, none⟩) (len + 1) cp) (len + 1) (rgCells (piece ⟨lo, hi, op⟩ S len) (len + 1)) ∧ g < w'.heap.size ∧ Below w.heap.size w w' := by
  obtain ⟨i0, hi0, hz0, hz1, hz2⟩ := info_parts info23
  obtain ⟨hlc, hl16, hh⟩ := h
  go_enter Tryd.func104, Tryd.ntmps104
  go_wp2_with (at_make; refine wpList_make_own _ rfl _ _ 47 rfl (w.heap.size + 1) 24 i0 (.agg #[.string ⟨#[]⟩, .string ⟨#[]⟩, .bool false]) 3 Tryd.underlying47 hi0 hz0 hz1 _ _ _ (len + 1) rfl rfl ?b1 ?b2 ?b3 (by simp) ?_)
  case b1 => omega
  case b2 => rw [hz2]; omega
  case b3 => unfold maxLen; omega
  intro w0 hown0 hgrow0
  have hk0 : w0.heap[w.heap.size]? = some (.cells #[.string lo, .string hi, .bool op] 24 (0, 0)) := (hgrow0.block w.heap.size (by simp) (fun e => by cases e)).trans (heap_new w _)
  have hb0 : Below w.heap.size w w0 := (bnew w _).grown hgrow0 (by simp) (fun k e => by cases e)
  clear hgrow0
  go_wp2
  go_loopw [5, 14] (fun v i wr => ∃ k : Nat, k ≤ len ∧ i = .int .i64 (k : Int) ∧ wr.heap[w.heap.size]? = some (.cells #[.string (cutLo lo S k), .string hi, .bool op] 24 (0, 0)) ∧ wr.ownsRow (w.heap.size + 1) 24 3 v k (rgCells (fun j => ⟨cutLo lo S j, S j, false⟩) k) ∧ Below w.heap.size w wr)
    (fun _ i _ => len - (intOf i).toNat)
  case atStart => exact ⟨0, Nat.zero_le _, rfl, hk0, hown0, hb0⟩
  case round =>
    obtain ⟨k, hk, rfl, hbox, hown, hnx⟩ := hrel
    obtain ⟨⟨q0, q1, q2⟩, f0, f1, f2⟩ := box_out hbox
    have HB := aside hbox
    have hsz := hnx.size
    have hbl := lies hbox
    clear hbox hk0 hown0 hb0
    by_cases hlt : (k : Int) < (len : Int)
    · rcases hh with hh | ⟨b, off, rfl, hb, hc⟩
      · omega
      · have c0 := (hnx.cell (p := ⟨b, off + k, none⟩) hb).trans (hc k (by omega))
        have hk0 : (0 : Int) ≤ (k : Int) := by omega
        clear hc
        go_wp2_with (at_builtin; refine wpList_append_lies _ rfl _ _ _ rfl (w.heap.size + 1) 24 i0 (.agg #[.string ⟨#[]⟩, .string ⟨#[]⟩, .bool false]) 3 40 Tryd.underlying47 hi0 hz0 hz1 hz2 rfl (by decide) _ _ _ (by rfl) (hown.alloc _) ⟨wr.heap.size, 0, none⟩ 1 1 [.string (cutLo lo S k), .string (S k), .bool false] (by rfl) (by rfl) (World.news_of_block (cs := #[.string (cutLo lo S k), .string (S k), .bool false]) (t := 24) (fr := (0, 0)) (heap_alloc_new wr _)) (by simp [Value.oneCell']) (by omega) (by unfold maxLen; omega) (by omega) (by have := hnx.size; simp; omega) (wr.heap.size + 1) (by simp) ?_; intro g cp w1 hown1 hgrow hat hlt1; refine Hid.out ?_)
        refine aside ?_
        have Q := rel_cut hnx HB.out hown hgrow hown1
        obtain ⟨kB, kO, kN⟩ := Q
        obtain ⟨⟨q0', q1', q2'⟩, f0', f1', f2'⟩ := box_out kB
        have KB := aside kB; have KO := aside kO
        clear hown hown1 hgrow hnx hat q0 q1 q2 f0 f1 f2 c0 kB kO
        go_wp2
        go_roundw
        case rel => exact ⟨k + 1, by omega, by go_num, set_box0 KB.out _, ownsRow_setCell_below KO.out (by simp) _, kN.setCell (p := ⟨w.heap.size, 0, none⟩) (Nat.le_refl _) _⟩
        case measure => simp [intOf]; omega
    · obtain rfl : len = k := by omega
      go_wp2_with (at_builtin; refine wpList_append_lies _ rfl _ _ _ rfl (w.heap.size + 1) 24 i0 (.agg #[.string ⟨#[]⟩, .string ⟨#[]⟩, .bool false]) 3 40 Tryd.underlying47 hi0 hz0 hz1 hz2 rfl (by decide) _ _ _ (by rfl) (hown.alloc _) ⟨wr.heap.size, 0, none⟩ 1 1 [.string (cutLo lo S len), .string hi, .bool op] (by rfl) (by rfl) (World.news_of_block (cs := #[.string (cutLo lo S len), .string hi, .bool op]) (t := 24) (fr := (0, 0)) (heap_alloc_new wr _)) (by simp [Value.oneCell']) (by omega) (by unfold maxLen; omega) (by omega) (by have := hnx.size; simp; omega) (wr.heap.size + 1) (by simp) ?_; intro g cp w1 hown1 hgrow hat hlt1; refine Hid.out ?_)
      refine aside ?_
      go_wp2
      go_ret
      refine ⟨g, cp, rfl, ?_, hlt1, (hnx.alloc hnx.size _).grown hgrow (by simp; omega) (fun j hj => by have := (hown.lt j hj).1; omega)⟩
      rw [show rgCells (piece ⟨lo, hi, op⟩ S len) (len + 1) = rgCells (fun j => ⟨cutLo lo S j, S j, false⟩) len ++ [.string (cutLo lo S len), .string hi, .bool op] from by
        simp only [rgCells]
        rw [rgCells_congr (f := piece ⟨lo, hi, op⟩ S len) (g := fun j => ⟨cutLo lo S j, S j, false⟩) (fun i hi => by simp [piece, hi])]
        simp [piece]]
      exact hown1
end Go.Proofs.YtoflalflacopdaaDoor
namespace Go.Proofs.YtoflalflacopdaaDoor
open Go.RowKit
theorem cell_on {W W' : World} {p : Addr} {v : Value} (h : W.cell? p = some v) (b : Below W.heap.size W W') : W'.cell? p = some v :=
  (b.cell (World.block_lt_of_cell? W _ h)).trans h
theorem row_below {w w' : World} {base N : Nat} {e : TypeId} {size g n cap : Nat} {xs : List Value} (h : w.ownsRow base e size (.slice (some ⟨g, 0, none⟩) n cap) n xs) (hb : Below N w w') (hg : g < N) : w'.ownsRow base e size (.slice (some ⟨g, 0, none⟩) n cap) n xs := by
  refine ⟨h.1, ?_⟩
  rcases h.2 with ⟨h1, -⟩ | ⟨g', cap', cur, h1, h2, h3, h4⟩
  · cases h1
  · cases h1
    exact .inr ⟨g, cap, cur, rfl, h2, (hb.block g hg).trans h3, h4⟩
theorem row_base {w : World} {base base' : Nat} {e : TypeId} {size g n cap : Nat} {xs : List Value} (h : w.ownsRow base e size (.slice (some ⟨g, 0, none⟩) n cap) n xs) (hb : base' ≤ base) : w.ownsRow base' e size (.slice (some ⟨g, 0, none⟩) n cap) n xs := by
  refine ⟨h.1, ?_⟩
  rcases h.2 with ⟨h1, -⟩ | ⟨g', cap', cur, h1, h2, h3, h4⟩
  · cases h1
  · exact .inr ⟨g', cap', cur, h1, Nat.le_trans hb h2, h3, h4⟩
theorem cut_at {lo hi : ByteArray} {op : Bool} {a : Option Addr} {len cap : Nat} {S : Nat → ByteArray} (hroom : (len + 1) * 40 ≤ 140737488355328) (w : World) (h : StrsIn w.heap.size w a len cap S) :
    Calls Tryd.prog 104 #[.agg #[.string lo, .string hi, .bool op], .slice a len cap] w fun e w' => ∃ g cp, e = .returned (.slice (some ⟨g, 0, none⟩) (len + 1) cp) ∧ w'.ownsRow (w.heap.size + 1) 24 3 (.slice (some ⟨g, 0, none⟩) (len + 1) cp) (len + 1) (rgCells (piece ⟨lo, hi, op⟩ S len) (len + 1)) ∧ g < w'.heap.size ∧ Below w.heap.size w w' :=
  cut_any lo hi op a len cap S w h hroom
theorem rising_at {a : Option Addr} {len cap : Nat} {T : Nat → Rg} {q : Bool} (hq : rises T len = q) (w : World) (h : RgsIn w.heap.size w a len cap T) :
    Calls Tryd.prog 42 #[.slice a len cap] w fun e w' => e = .returned (.bool q) ∧ Below w.heap.size w w' := by
  subst hq; exact rising_any a len cap T w h
set_option maxHeartbeats 1600000 in
theorem split_yes (lo hi : ByteArray) (op : Bool) (a : Option Addr) (len cap : Nat) (S : Nat → ByteArray) (w : World) (hm : Rg.may ⟨lo, hi, op⟩ = true) (h : StrsIn w.heap.size w a len cap S) (hroom : (len + 1) * 40 ≤ 140737488355328) (hlen : 0 < len)
    (hq : rises (piece ⟨lo, hi, op⟩ S len) (len + 1) = true) :
    Calls Tryd.prog 77 #[.agg #[.string lo, .string hi, .bool op], .slice a len cap] w fun e w' =>
      ∃ g cp, e = .returned (.tuple #[.slice (some ⟨g, 0, none⟩) (len + 1) cp, .int .i64 0]) ∧ w'.ownsRow w.heap.size 24 3 (.slice (some ⟨g, 0, none⟩) (len + 1) cp) (len + 1) (rgCells (piece ⟨lo, hi, op⟩ S len) (len + 1)) ∧ g < w'.heap.size ∧ Below w.heap.size w w' := by
  have C := aside (fun w => check_at (may_chk hm) w)
  have H := aside h
  have hl0 : (0 : Int) < (len : Int) := by omega
  clear hm h
  go_enter Tryd.func77, Tryd.ntmps77
  go_wp2_with fail
  refine (C.out _).mono ?_
  rintro e w1 ⟨rfl, b1⟩
  obtain ⟨q0, q1, q2⟩ := box3 b1
  have b01 := bthen (bnew w (.cells #[.string lo, .string hi, .bool op] 24)) b1
  clear b1
  go_wp2_with fail
  refine (cut_at hroom _ (H.out.up b01 b01.size)).mono ?_
  rintro e w2 ⟨g, cp, rfl, hown, hg, b2⟩
  have OW := aside hown
  have HQ := aside hq
  have b02 := bthen b01 b2
  have RR := aside (rgs_of_row hown hg (by omega))
  clear hown q0 q1 q2 hq
  go_wp2_with fail
  refine (rising_at HQ.out _ RR.out).mono ?_
  rintro e w3 ⟨rfl, b3⟩
  have b03 := bthen b02 b3
  have OW3 := aside (row_base (row_below OW.out b3 hg) (Nat.le_trans b01.size (Nat.le_succ _)))
  have hg3 := Nat.lt_of_lt_of_le hg b3.size
  clear OW b3 RR
  go_wp2
  go_ret2
  exact ⟨g, cp, rfl, OW3.out, hg3, b03⟩
set_option maxHeartbeats 1600000 in
theorem split_none (lo hi : ByteArray) (op : Bool) (a : Option Addr) (cap : Nat) (w : World) (hm : Rg.may ⟨lo, hi, op⟩ = true) :
    Calls Tryd.prog 77 #[.agg #[.string lo, .string hi, .bool op], .slice a 0 cap] w fun e w' =>
      ∃ g cp, e = .returned (.tuple #[.slice (some ⟨g, 0, none⟩) 1 cp, .int .i64 0]) ∧ w'.ownsRow w.heap.size 24 3 (.slice (some ⟨g, 0, none⟩) 1 cp) 1 (rgCells (fun _ => ⟨lo, hi, op⟩) 1) ∧ g < w'.heap.size ∧ Below w.heap.size w w' := by
  have C := aside (fun w => check_at (may_chk hm) w)
  have H : Hid (∀ w : World, StrsIn w.heap.size w a 0 cap (fun _ => ByteArray.empty)) := aside (fun w => ⟨Nat.zero_le _, by omega, .inl rfl⟩)
  clear hm
  go_enter Tryd.func77, Tryd.ntmps77
  go_wp2_with fail
  refine (C.out _).mono ?_
  rintro e w1 ⟨rfl, b1⟩
  obtain ⟨q0, q1, q2⟩ := box3 b1
  have b01 := bthen (bnew w (.cells #[.string lo, .string hi, .bool op] 24)) b1
  clear b1
  go_wp2_with fail
  refine (cut_at (by omega) _ (H.out _)).mono ?_
  rintro e w2 ⟨g, cp, rfl, hown, hg, b2⟩
  have OW := aside (row_base hown (Nat.le_trans b01.size (Nat.le_succ _)))
  have b02 := bthen b01 b2
  clear hown q0 q1 q2
  go_wp2
  go_ret2
  exact ⟨g, cp, rfl, OW.out, hg, b02⟩
end Go.Proofs.YtoflalflacopdaaDoor
