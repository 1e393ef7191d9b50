/-
  Rising, the code's: it returns what the plain function gives, and writes nothing that was there.
  cut, the code's: the pieces of a range at borders, in a slice of its own.
  Split, the code's.
  Tile, the code's: it returns what the plain function gives, and writes nothing that was there.
  Plain mathematics: ranges by numbers, tiles, pieces.
-/
import Derived.Test.YtfkdhambbpkmpaaDoorBv14
import Derived.Stop.RegionWithIn
import Derived.Deep.RegionHeld3
namespace Go.Proofs.YtfkdhambbpkmpaaDoor
open Go.RowKit Go.Shelf
attribute [local go_sem] Oper.semAt_some
/-- May the second of two neighbours stand behind the first? -/
def okP (x : Rg × Rg) : Bool := !(x.1.op || Op.bytesLess x.2.lo.toList x.1.hi.toList)
/-- Do the first n ranges rise? -/
def rises (T : Nat → Rg) (n : Nat) : Bool := !anyE T n && (upto (fun j => (T j, T (j + 1))) (n - 1)).all okP
theorem cells_kept {W W' : World} {row : Option Nat} {k : Nat} {cs : Array Value} {t : TypeId} {fr : Nat × Nat} (h : W.heap[k]? = some (.cells cs t fr)) (hg : W.grownBy W' row) (hrow : ∀ r, row = some r → ∃ o : Obj, W.heap[r]? = some o ∧ o.isCells = false) :
    W'.heap[k]? = some (.cells cs t fr) := (grownBy_keeps_cells hg hrow h rfl).trans h
theorem RgsIn.up {n₀ n₁ : Nat} {A B : World} (h : Below n₀ A B) (hn : n₀ ≤ n₁) {a : Option Addr} {len cap : Nat} {T : Nat → Rg} (hr : RgsIn n₀ A a len cap T) : RgsIn n₁ B a len cap T := by
  obtain ⟨h1, h2, h3⟩ := hr.below h
  refine ⟨h1, h2, ?_⟩
  rcases h3 with h3 | ⟨blk, off, e, hb, hc⟩
  · exact .inl h3
  · exact .inr ⟨blk, off, e, Nat.lt_of_lt_of_le hb hn, hc⟩
theorem box1_out {W : World} {k : Nat} {a : Value} {t : TypeId} (h : W.heap[k]? = some (.cells #[a] t (0, 0))) : W.cell? ⟨k, 0, none⟩ = some a ∧ W.frozen? ⟨k, 0, none⟩ = false := by
  simp [World.cell?, World.frozen?, h]
theorem rises_no {T : Nat → Rg} {len k : Nat} (hk : k ≤ len - 1) (h : (upto (fun j => (T j, T (j + 1))) k).all okP = false) : rises T len = false := by
  have : (upto (fun j => (T j, T (j + 1))) (len - 1)).all okP = false := by
    rw [Bool.eq_false_iff] at h ⊢
    intro h2
    apply h
    rw [List.all_eq_true] at h2 ⊢
    intro x hx
    apply h2
    simp only [upto, List.mem_map, List.mem_range] at hx ⊢
    obtain ⟨j, hj, e⟩ := hx
    exact ⟨j, by omega, e⟩
  simp [rises, this]
theorem contains_at {a : Option Addr} {len cap : Nat} {T : Nat → Rg} {q : Bool} (hq : anyE T len = q) (w : World) (h : RgsIn w.heap.size w a len cap T) :
    Calls Tryd.prog 89 #[.slice a len cap, .func (.func 90) #[] #[]] w fun e w' => e = .returned (.bool q) ∧ Below w.heap.size w w' := by
  subst hq; exact contains_any a len cap T w h
set_option maxRecDepth 100000 in
set_option maxHeartbeats 4000000 in
theorem rising_in (n : Nat) (hn : 3 ≤ n) (a : Option Addr) (len cap : Nat) (T : Nat → Rg) (w : World) (h : RgsIn w.heap.size w a len cap T) :
    CallsIn Fence.wide n Tryd.prog 84 #[.slice a len cap] w fun e w' => e = .returned (.bool (rises T len)) ∧ Below w.heap.size w w' := by
  have h1 : 1 ≤ n := by omega
  have H := aside h
  clear h
  cases hE : anyE T len
  · refine callsIn_of_wp_marks Tryd.func84 rfl trivial ?_ rfl
    simp only [Tryd.ntmps84, List.size_toArray, List.length_cons, List.length_nil, Nat.reduceAdd, Nat.reduceSub, Array.replicate_succ, Array.replicate_zero, List.push_toArray, List.append_toArray, List.nil_append, List.cons_append]
    gi_wp2
    refine ⟨trivial, ?_⟩
    refine (callsIn_wide.2 (contains_at hE _ (H.out.up (bnew w _) (by simp)))).mono ?_
    rintro e w1 ⟨rfl, b1⟩
    have kR := keep (heap_new w (.cells #[.bool false] 4)) b1
    have b01 := bthen (bnew w (.cells #[.bool false] 4)) b1
    obtain ⟨r0, r1⟩ := box1_out kR
    clear b1
    gi_wp2_with fail
    refine ⟨trivial, ?_⟩
    refine (nb_in (n - 1) _ _ _ _).mono ?_
    rintro e w' ⟨rfl, rfl⟩
    gi_wp2_with fail
    have kB := heap_new w1 (.cells #[.slice a len cap] 61)
    have kR0 := keepA (p := .cells #[.slice a len cap] 61) kR
    have b02 := bthen b01 (bnew w1 (.cells #[.slice a len cap] 61))
    have hsz : (w1.alloc (.cells #[.slice a len cap] 61)).heap.size = w1.heap.size + 1 := by simp
    have hs1 := lies kR
    obtain ⟨W0, hW0⟩ : ∃ W0, w1.alloc (.cells #[.slice a len cap] 61) = W0 := ⟨_, rfl⟩
    rw [hW0] at kB kR0 b02 hsz ⊢
    clear hW0 kR r0 r1
    have hRg : RgsIn (w1.heap.size + 1) W0 a len cap T := H.out.up b02 (by omega)
    refine wpIn_rangeFunc_ownH rfl h1 (gf := 93) (lb := #[.pointer (some ⟨w1.heap.size, 0, none⟩)]) rfl trivial (enters_of Tryd.func93 (by kernel_rfl) rfl)
      (nb_stops (n - 1) (by omega) w1.heap.size (w1.heap.size + 1) a len cap T W0 (by omega) (by omega) (box1_out kB).1 hRg) belowK_t (belowK_b (by omega)) (Below.refl _ _) (fun _ => rfl)
      (fun pre W => (pre.all okP = true ∧ W.heap[w.heap.size]? = some (.cells #[.bool false] 4 (0, 0))) ∧ (Below w.heap.size w W ∧ Below (w1.heap.size + 1) W0 W))
      (fun c pre W => (c = .ret ∧ pre.all okP = false ∧ W.heap[w.heap.size]? = some (.cells #[.bool false] 4 (0, 0))) ∧ Below w.heap.size w W)
      (OwnFrom.and (Own.from (fun s A B row hs hg hr => ⟨hs.1, cells_kept hs.2 hg hr⟩) _) (OwnFrom.and (ownFrom_below (Nat.le_refl _) (by omega)) (ownFrom_below (by omega) (by omega))))
      (fun c => OwnFrom.and (Own.from (fun s A B row hs hg hr => ⟨hs.1, hs.2.1, cells_kept hs.2.2 hg hr⟩) _) (ownFrom_below (Nat.le_refl _) (by omega)))
      ⟨⟨rfl, kR0⟩, b02, Below.refl _ _⟩
      (fun x a' W => ∃ B, (W.heap[B]? = some (.cells #[.string x.1.lo, .string x.1.hi, .bool x.1.op] 26 (0, 0)) ∧ W.heap[B + 1]? = some (.cells #[.string x.2.lo, .string x.2.hi, .bool x.2.op] 26 (0, 0))) ∧ a' = { tmps := #[.slice a len cap, undef, .pointer (some ⟨w.heap.size, 0, none⟩), .pointer (some ⟨B, 0, none⟩), .pointer (some ⟨B + 1, 0, none⟩), .slice a len cap, .bool false, .slice a len cap, .func (.func 93) #[] #[.pointer (some ⟨w1.heap.size, 0, none⟩)], .agg #[.string x.1.lo, .string x.1.hi, .bool x.1.op], .agg #[.string x.2.lo, .string x.2.hi, .bool x.2.op], undef, undef, undef, undef, undef, undef, undef, undef, undef], defers := [] })
      (fun x a' => Own.from (fun s A B row hs hg hr => by obtain ⟨k, ⟨h1, h2⟩, h3⟩ := hs; exact ⟨k, ⟨cells_kept h1 hg hr, cells_kept h2 hg hr⟩, h3⟩) _)
      ?assign ?body ?done ?stop
    case assign =>
      rintro l pre x W K ⟨⟨hp, hR⟩, hB, hB2⟩ hK
      dsimp only [pairV]
      gi_wp2
      have hW1 : W0.heap.size ≤ W.heap.size := hB2.size
      have k2 := heap_new (W.alloc (.cells #[.string x.1.lo, .string x.1.hi, .bool x.1.op] 26)) (.cells #[.string x.2.lo, .string x.2.hi, .bool x.2.op] 26)
      rw [World.size_alloc] at k2
      exact hK _ _ (((KeepsOthers.alloc _ _).trans (KeepsOthers.alloc _ _)).from _) (((Below.refl _ W).alloc (by omega) _).alloc (by simp; omega) _) ⟨⟨hp, keepA (keepA hR)⟩, (hB.alloc hB.size _).alloc (by have := hB.size; simp; omega) _, (hB2.alloc (by omega) _).alloc (by simp; omega) _⟩ ⟨W.heap.size, ⟨keepA (heap_new W _), k2⟩, rfl⟩
    case body =>
      rintro l pre x a' W hl ⟨r, hr⟩ ⟨⟨hp, hR⟩, hB, hB2⟩ ⟨B, ⟨k1, k2⟩, rfl⟩ hlt
      obtain ⟨⟨c0, c1, c2⟩, -⟩ := box_out k1
      obtain ⟨⟨d0, d1, d2⟩, -⟩ := box_out k2
      obtain ⟨r0, r1⟩ := box1_out hR
      obtain ⟨⟨lo1, hi1, op1⟩, ⟨lo2, hi2, op2⟩⟩ := x
      dsimp only at c0 c1 c2 d0 d1 d2 ⊢
      clear k1 k2 hr hlt
      cases op1
      · cases hl2 : Op.bytesLess lo2.toList hi1.toList
        · gi_wp2
          exact ⟨KeepsFrom.refl _ _, Below.refl _ _, ⟨by rw [List.all_append, hp]; simp [okP, hl2], hR⟩, hB, hB2⟩
        · gi_wp2
          exact ⟨(KeepsOthers.setCell _ _ _).from _, ⟨rfl, by rw [List.all_append]; simp [okP, hl2], (show Boxed W w.heap.size 4 (.bool false) from hR).set _⟩, hB.setCell (p := ⟨w.heap.size, 0, none⟩) (Nat.le_refl _) _⟩
      · gi_wp2
        exact ⟨(KeepsOthers.setCell _ _ _).from _, ⟨rfl, by rw [List.all_append]; simp [okP], (show Boxed W w.heap.size 4 (.bool false) from hR).set _⟩, hB.setCell (p := ⟨w.heap.size, 0, none⟩) (Nat.le_refl _) _⟩
    case done =>
      rintro D ys W hD rfl ⟨⟨hp, hR⟩, hB, hB2⟩ hK
      obtain ⟨r0, r1⟩ := box1_out hR
      gi_wp2
      have hK' := (KeepsOthers.setCell W ⟨w.heap.size, 0, none⟩ (.bool true)).same D _ hK rfl
      refine ⟨by simp, .inl ⟨_, _, rfl, run_takeDeferred hK', ?_⟩⟩
      have hc5 := cell_kept (World.cell?_setCell_same' W ⟨w.heap.size, 0, none⟩ (.bool true) (by rw [r0]; rfl)) (grownBy_putObj' _ D (.deferred none)) (fun r e => by cases e; exact ⟨_, hK', rfl⟩)
      refine ⟨.bool true, ?_, by rw [show rises T len = true from by simp only [rises, hE, hp]; rfl], (hB.setCell (p := ⟨w.heap.size, 0, none⟩) (by simp) _).trans (belowK_b (w := w) (Nat.le_refl _) _ D _ _ (by omega) hK' rfl rfl)⟩
      simp [results, Tryd.f84, go_sem, hc5]
    case stop =>
      rintro D c pre W hD ⟨k, hk, rfl⟩ ⟨⟨rfl, hp, hR⟩, hB⟩ hK
      obtain ⟨r0, r1⟩ := box1_out hR
      gi_wp2
      refine ⟨by simp, .inl ⟨_, _, rfl, run_takeDeferred hK, ?_⟩⟩
      have hc5 := cell_kept r0 (grownBy_putObj' _ D (.deferred none)) (fun r e => by cases e; exact ⟨_, hK, rfl⟩)
      refine ⟨.bool false, ?_, by rw [show rises T len = false from rises_no hk hp], hB.trans (belowK_b (w := w) (Nat.le_refl _) W D _ _ (by omega) hK rfl rfl)⟩
      simp [results, Tryd.f84, go_sem, hc5]
  · refine callsIn_of_wp_marks Tryd.func84 rfl trivial ?_ rfl
    simp only [Tryd.ntmps84, List.size_toArray, List.length_cons, List.length_nil, Nat.reduceAdd, Nat.reduceSub, Array.replicate_succ, Array.replicate_zero, List.push_toArray, List.append_toArray, List.nil_append, List.cons_append]
    gi_wp2
    refine ⟨trivial, ?_⟩
    refine (callsIn_wide.2 (contains_at hE _ (H.out.up (bnew w _) (by simp)))).mono ?_
    rintro e w1 ⟨rfl, b1⟩
    have kR := keep (heap_new w (.cells #[.bool false] 4)) b1
    have b01 := bthen (bnew w (.cells #[.bool false] 4)) b1
    obtain ⟨r0, r1⟩ := box1_out kR
    clear b1
    gi_wp2_with fail
    have r2 := World.cell?_setCell_same' w1 ⟨w.heap.size, 0, none⟩ (.bool false) (by rw [r0]; rfl)
    refine ⟨.bool false, by simp [results, Tryd.f84, go_sem, r2], ?_, b01.setCell (p := ⟨w.heap.size, 0, none⟩) (Nat.le_refl _) _⟩
    rw [show rises T len = false from by simp [rises, hE]]
theorem rising_any (a : Option Addr) (len cap : Nat) (T : Nat → Rg) (w : World) (h : RgsIn w.heap.size w a len cap T) :
    Calls Tryd.prog 84 #[.slice a len cap] w fun e w' => e = .returned (.bool (rises T len)) ∧ Below w.heap.size w w' :=
  (callsIn_wide (n := 3)).1 (rising_in 3 (Nat.le_refl _) a len cap T w h)
end Go.Proofs.YtfkdhambbpkmpaaDoor
namespace Go.Proofs.YtfkdhambbpkmpaaDoor
open Go.RowKit
/-- The texts S 0, S 1 .. lie one behind the other, below n₀. -/
def StrsIn (n₀ : Nat) (w : World) (a : Option Addr) (len cap : Nat) (S : Nat → ByteArray) : Prop :=
  len ≤ cap ∧ len * 16 ≤ 281474976710656 ∧ (len = 0 ∨ ∃ blk off, a = some ⟨blk, off, none⟩ ∧ blk < n₀ ∧ ∀ i, i < len → w.cell? ⟨blk, off + i, none⟩ = some (.string (S i)))
theorem StrsIn.up {n₀ n₁ : Nat} {A B : World} (h : Below n₀ A B) (hn : n₀ ≤ n₁) {a : Option Addr} {len cap : Nat} {S : Nat → ByteArray} (hr : StrsIn n₀ A a len cap S) : StrsIn n₁ B a len cap S := by
  obtain ⟨h1, h2, h3⟩ := hr
  refine ⟨h1, h2, ?_⟩
  rcases h3 with h3 | ⟨blk, off, e, hb, hc⟩
  · exact .inl h3
  · exact .inr ⟨blk, off, e, Nat.lt_of_lt_of_le hb hn, fun i hi => (h.cell (p := ⟨blk, off + i, none⟩) hb).trans (hc i hi)⟩
/-- The cells of the ranges f 0, f 1 .. -/
def rgCells (f : Nat → Rg) : Nat → List Value
  | 0 => []
  | n + 1 => rgCells f n ++ [.string (f n).lo, .string (f n).hi, .bool (f n).op]
theorem rgCells_length (f : Nat → Rg) (n : Nat) : (rgCells f n).length = n * 3 := by
  induction n with
  | zero => rfl
  | succ n ih => simp only [rgCells, List.length_append, ih, List.length_cons, List.length_nil]; omega
theorem rgCells_congr {f g : Nat → Rg} : ∀ {n : Nat}, (∀ i, i < n → f i = g i) → rgCells f n = rgCells g n
  | 0, _ => rfl
  | n + 1, h => by simp only [rgCells]; rw [rgCells_congr (n := n) (fun i hi => h i (by omega)), h n (by omega)]
theorem rgCells_at (f : Nat → Rg) : ∀ (n i : Nat), i < n → (rgCells f n)[i * 3]? = some (.string (f i).lo) ∧ (rgCells f n)[i * 3 + 1]? = some (.string (f i).hi) ∧ (rgCells f n)[i * 3 + 2]? = some (.bool (f i).op)
  | n + 1, i, h => by
    have hl := rgCells_length f n
    simp only [rgCells]
    by_cases e : i = n
    · subst e
      refine ⟨?_, ?_, ?_⟩
      · rw [List.getElem?_append_right (by omega), hl, Nat.sub_self]; rfl
      · rw [List.getElem?_append_right (by omega), hl, show i * 3 + 1 - i * 3 = 1 from by omega]; rfl
      · rw [List.getElem?_append_right (by omega), hl, show i * 3 + 2 - i * 3 = 2 from by omega]; rfl
    · obtain ⟨h0, h1, h2⟩ := rgCells_at f n i (by omega)
      refine ⟨?_, ?_, ?_⟩
      · rw [List.getElem?_append_left (by omega)]; exact h0
      · rw [List.getElem?_append_left (by omega)]; exact h1
      · rw [List.getElem?_append_left (by omega)]; exact h2
/-- Where piece j begins. -/
def cutLo (lo : ByteArray) (S : Nat → ByteArray) : Nat → ByteArray
  | 0 => lo
  | j + 1 => S j
/-- The pieces of a range at the first len borders. -/
def piece (r : Rg) (S : Nat → ByteArray) (len j : Nat) : Rg := if j < len then ⟨cutLo r.lo S j, S j, false⟩ else ⟨cutLo r.lo S j, r.hi, r.op⟩
theorem info23 : (Tryd.prog.info? 26).map (fun i => (i.zero, i.size, i.bytes)) = some (some (.agg #[.string ⟨#[]⟩, .string ⟨#[]⟩, .bool false]), 3, 40) := by kernel_rfl
theorem set_box0 {W : World} {k : Nat} {a b c : Value} {t : TypeId} (h : W.heap[k]? = some (.cells #[a, b, c] t (0, 0))) (v : Value) : (W.setCell ⟨k, 0, none⟩ v).heap[k]? = some (.cells #[v, b, c] t (0, 0)) := by
  simp only [World.setCell]
  rw [Array.getElem?_modify]
  simp [h]
/-- What a row of ranges that the call owns is to those who read it. -/
theorem rgs_of_row {w : World} {B n₀ g n cap : Nat} {f : Nat → Rg} (h : w.ownsRow B 26 3 (.slice (some ⟨g, 0, none⟩) n cap) n (rgCells f n)) (hg : g < n₀) (hb : n * 40 ≤ 281474976710656) : RgsIn n₀ w (some ⟨g, 0, none⟩) n cap f := by
  have hcap : n ≤ cap := by
    rcases h.2 with ⟨h1, -⟩ | ⟨g', cap', cur, h1, -, -, h2, -⟩
    · cases h1
    · cases h1; exact h2
  refine ⟨hcap, hb, .inr ⟨g, 0, rfl, hg, fun i hi => ?_⟩⟩
  obtain ⟨h0, h1, h2⟩ := rgCells_at f n i hi
  have c := fun j u hu => h.cells (g := g) rfl j u hu
  have e : ∀ j, (⟨g, 0, none⟩ : Addr).add j = ⟨g, 0 + j, none⟩ := fun j => by unfold Addr.add; split <;> simp_all
  have c0 := c _ _ h0; have c1 := c _ _ h1; have c2 := c _ _ h2
  rw [e] at c0 c1 c2
  exact ⟨c0, by rw [Nat.add_assoc]; exact c1, by rw [Nat.add_assoc]; exact c2⟩
/-- One round of cut, behind its append. -/
theorem rel_cut {w wr w1 : World} {o : Obj} {u v : Value} {lo hi : ByteArray} {op : Bool} {S : Nat → ByteArray} {k : Nat} (hnx : Below w.heap.size w wr)
    (hbox : wr.heap[w.heap.size]? = some (.cells #[.string (cutLo lo S k), .string hi, .bool op] 26 (0, 0)))
    (hown : wr.ownsRow (w.heap.size + 1) 26 3 u k (rgCells (fun j => ⟨cutLo lo S j, S j, false⟩) k)) (hgrow : (wr.alloc o).grownBy w1 u.ownBlock)
    (hown1 : w1.ownsRow (w.heap.size + 1) 26 3 v (k + 1) (rgCells (fun j => ⟨cutLo lo S j, S j, false⟩) k ++ [.string (cutLo lo S k), .string (S k), .bool false])) :
    w1.heap[w.heap.size]? = some (.cells #[.string (cutLo lo S k), .string hi, .bool op] 26 (0, 0)) ∧ w1.ownsRow (w.heap.size + 1) 26 3 v (k + 1) (rgCells (fun j => ⟨cutLo lo S j, S j, false⟩) (k + 1)) ∧ Below w.heap.size w w1 := by
  have hlt := (Array.getElem?_eq_some_iff.1 hbox).1
  refine ⟨?_, hown1, (hnx.alloc hnx.size o).grown hgrow (by simp; omega) (fun j hj => by have := (hown.lt j hj).1; omega)⟩
  rw [hgrow.block w.heap.size (by simp; omega) (fun e => by have := (hown.lt w.heap.size e.symm).1; omega)]
  exact keepA hbox
set_option maxHeartbeats 3200000 in
set_option maxRecDepth 100000 in
theorem cut_any (lo hi : ByteArray) (op : Bool) (a : Option Addr) (len cap : Nat) (S : Nat → ByteArray) (w : World) (h : StrsIn w.heap.size w a len cap S) (hroom : (len + 1) * 40 ≤ 140737488355328) :
    Calls Tryd.prog 83 #[.agg #[.string lo, .string hi, .bool op], .slice a len cap] w fun e w' => ∃ g cp, e = .returned (.slice (some ⟨g, 0, none⟩) (len + 1) cp) ∧ w'.ownsRow (w.heap.size + 1) 26 3 (.slice (some ⟨g, 0, none⟩) (len + 1) cp) (len + 1) (rgCells (piece ⟨lo, hi, op⟩ S len) (len + 1)) ∧ g < w'.heap.size ∧ Below w.heap.size w w' := by
  obtain ⟨i0, hi0, hz0, hz1, hz2⟩ := info_parts info23
  obtain ⟨hlc, hl16, hh⟩ := h
  go_enter Tryd.func83, Tryd.ntmps83
  go_wp2_with (at_make; refine wpList_make_own _ rfl _ _ 61 rfl (w.heap.size + 1) 26 i0 (.agg #[.string ⟨#[]⟩, .string ⟨#[]⟩, .bool false]) 3 Tryd.underlying61 hi0 hz0 hz1 _ _ _ (len + 1) rfl rfl ?b1 ?b2 ?b3 (by simp) ?_)
  case b1 => omega
  case b2 => rw [hz2]; omega
  case b3 => unfold maxLen; omega
  intro w0 hown0 hgrow0
  have hk0 : w0.heap[w.heap.size]? = some (.cells #[.string lo, .string hi, .bool op] 26 (0, 0)) := (hgrow0.block w.heap.size (by simp) (fun e => by cases e)).trans (heap_new w _)
  have hb0 : Below w.heap.size w w0 := (bnew w _).grown hgrow0 (by simp) (fun k e => by cases e)
  clear hgrow0
  go_wp2
  go_loopw [5, 14] (fun v i wr => ∃ k : Nat, k ≤ len ∧ i = .int .i64 (k : Int) ∧ wr.heap[w.heap.size]? = some (.cells #[.string (cutLo lo S k), .string hi, .bool op] 26 (0, 0)) ∧ wr.ownsRow (w.heap.size + 1) 26 3 v k (rgCells (fun j => ⟨cutLo lo S j, S j, false⟩) k) ∧ Below w.heap.size w wr)
    (fun _ i _ => len - (intOf i).toNat)
  case atStart => exact ⟨0, Nat.zero_le _, rfl, hk0, hown0, hb0⟩
  case round =>
    obtain ⟨k, hk, rfl, hbox, hown, hnx⟩ := hrel
    obtain ⟨⟨q0, q1, q2⟩, f0, f1, f2⟩ := box_out hbox
    have HB := aside hbox
    have hsz := hnx.size
    have hbl := lies hbox
    clear hbox hk0 hown0 hb0
    by_cases hlt : (k : Int) < (len : Int)
    · rcases hh with hh | ⟨b, off, rfl, hb, hc⟩
      · omega
      · have c0 := (hnx.cell (p := ⟨b, off + k, none⟩) hb).trans (hc k (by omega))
        have hk0 : (0 : Int) ≤ (k : Int) := by omega
        clear hc
        go_wp2_with (at_builtin; refine wpList_append_lies _ rfl _ _ _ rfl (w.heap.size + 1) 26 i0 (.agg #[.string ⟨#[]⟩, .string ⟨#[]⟩, .bool false]) 3 40 Tryd.underlying61 hi0 hz0 hz1 hz2 rfl (by decide) _ _ _ (by rfl) (hown.alloc _) ⟨wr.heap.size, 0, none⟩ 1 1 [.string (cutLo lo S k), .string (S k), .bool false] (by rfl) (by rfl) (World.news_of_block (cs := #[.string (cutLo lo S k), .string (S k), .bool false]) (t := 26) (fr := (0, 0)) (heap_alloc_new wr _)) (by simp [Value.oneCell']) (by omega) (by unfold maxLen; omega) (by omega) (by have := hnx.size; simp; omega) (wr.heap.size + 1) (by simp) ?_; intro g cp w1 hown1 hgrow hat hlt1; refine Hid.out ?_)
        refine aside ?_
        have Q := rel_cut hnx HB.out hown hgrow hown1
        obtain ⟨kB, kO, kN⟩ := Q
        obtain ⟨⟨q0', q1', q2'⟩, f0', f1', f2'⟩ := box_out kB
        have KB := aside kB; have KO := aside kO
        clear hown hown1 hgrow hnx hat q0 q1 q2 f0 f1 f2 c0 kB kO
        go_wp2
        go_roundw
        case rel => exact ⟨k + 1, by omega, by go_num, set_box0 KB.out _, ownsRow_setCell_below KO.out (by simp) _, kN.setCell (p := ⟨w.heap.size, 0, none⟩) (Nat.le_refl _) _⟩
        case measure => simp [intOf]; omega
    · obtain rfl : len = k := by omega
      go_wp2_with (at_builtin; refine wpList_append_lies _ rfl _ _ _ rfl (w.heap.size + 1) 26 i0 (.agg #[.string ⟨#[]⟩, .string ⟨#[]⟩, .bool false]) 3 40 Tryd.underlying61 hi0 hz0 hz1 hz2 rfl (by decide) _ _ _ (by rfl) (hown.alloc _) ⟨wr.heap.size, 0, none⟩ 1 1 [.string (cutLo lo S len), .string hi, .bool op] (by rfl) (by rfl) (World.news_of_block (cs := #[.string (cutLo lo S len), .string hi, .bool op]) (t := 26) (fr := (0, 0)) (heap_alloc_new wr _)) (by simp [Value.oneCell']) (by omega) (by unfold maxLen; omega) (by omega) (by have := hnx.size; simp; omega) (wr.heap.size + 1) (by simp) ?_; intro g cp w1 hown1 hgrow hat hlt1; refine Hid.out ?_)
      refine aside ?_
      go_wp2
      go_ret
      refine ⟨g, cp, rfl, ?_, hlt1, (hnx.alloc hnx.size _).grown hgrow (by simp; omega) (fun j hj => by have := (hown.lt j hj).1; omega)⟩
      rw [show rgCells (piece ⟨lo, hi, op⟩ S len) (len + 1) = rgCells (fun j => ⟨cutLo lo S j, S j, false⟩) len ++ [.string (cutLo lo S len), .string hi, .bool op] from by
        simp only [rgCells]
        rw [rgCells_congr (f := piece ⟨lo, hi, op⟩ S len) (g := fun j => ⟨cutLo lo S j, S j, false⟩) (fun i hi => by simp [piece, hi])]
        simp [piece]]
      exact hown1
end Go.Proofs.YtfkdhambbpkmpaaDoor
namespace Go.Proofs.YtfkdhambbpkmpaaDoor
open Go.RowKit
theorem cell_on {W W' : World} {p : Addr} {v : Value} (h : W.cell? p = some v) (b : Below W.heap.size W W') : W'.cell? p = some v :=
  (b.cell (World.block_lt_of_cell? W _ h)).trans h
theorem row_below {w w' : World} {base N : Nat} {e : TypeId} {size g n cap : Nat} {xs : List Value} (h : w.ownsRow base e size (.slice (some ⟨g, 0, none⟩) n cap) n xs) (hb : Below N w w') (hg : g < N) : w'.ownsRow base e size (.slice (some ⟨g, 0, none⟩) n cap) n xs := by
  refine ⟨h.1, ?_⟩
  rcases h.2 with ⟨h1, -⟩ | ⟨g', cap', cur, h1, h2, h3, h4⟩
  · cases h1
  · cases h1
    exact .inr ⟨g, cap, cur, rfl, h2, (hb.block g hg).trans h3, h4⟩
theorem row_base {w : World} {base base' : Nat} {e : TypeId} {size g n cap : Nat} {xs : List Value} (h : w.ownsRow base e size (.slice (some ⟨g, 0, none⟩) n cap) n xs) (hb : base' ≤ base) : w.ownsRow base' e size (.slice (some ⟨g, 0, none⟩) n cap) n xs := by
  refine ⟨h.1, ?_⟩
  rcases h.2 with ⟨h1, -⟩ | ⟨g', cap', cur, h1, h2, h3, h4⟩
  · cases h1
  · exact .inr ⟨g', cap', cur, h1, Nat.le_trans hb h2, h3, h4⟩
theorem cut_at {lo hi : ByteArray} {op : Bool} {a : Option Addr} {len cap : Nat} {S : Nat → ByteArray} (hroom : (len + 1) * 40 ≤ 140737488355328) (w : World) (h : StrsIn w.heap.size w a len cap S) :
    Calls Tryd.prog 83 #[.agg #[.string lo, .string hi, .bool op], .slice a len cap] w fun e w' => ∃ g cp, e = .returned (.slice (some ⟨g, 0, none⟩) (len + 1) cp) ∧ w'.ownsRow (w.heap.size + 1) 26 3 (.slice (some ⟨g, 0, none⟩) (len + 1) cp) (len + 1) (rgCells (piece ⟨lo, hi, op⟩ S len) (len + 1)) ∧ g < w'.heap.size ∧ Below w.heap.size w w' :=
  cut_any lo hi op a len cap S w h hroom
theorem rising_at {a : Option Addr} {len cap : Nat} {T : Nat → Rg} {q : Bool} (hq : rises T len = q) (w : World) (h : RgsIn w.heap.size w a len cap T) :
    Calls Tryd.prog 84 #[.slice a len cap] w fun e w' => e = .returned (.bool q) ∧ Below w.heap.size w w' := by
  subst hq; exact rising_any a len cap T w h
set_option maxHeartbeats 1600000 in
theorem split_yes (lo hi : ByteArray) (op : Bool) (a : Option Addr) (len cap : Nat) (S : Nat → ByteArray) (w : World) (hm : Rg.may ⟨lo, hi, op⟩ = true) (h : StrsIn w.heap.size w a len cap S) (hroom : (len + 1) * 40 ≤ 140737488355328) (hlen : 0 < len)
    (hq : rises (piece ⟨lo, hi, op⟩ S len) (len + 1) = true) :
    Calls Tryd.prog 72 #[.agg #[.string lo, .string hi, .bool op], .slice a len cap] w fun e w' =>
      ∃ g cp, e = .returned (.tuple #[.slice (some ⟨g, 0, none⟩) (len + 1) cp, .int .i64 0]) ∧ w'.ownsRow w.heap.size 26 3 (.slice (some ⟨g, 0, none⟩) (len + 1) cp) (len + 1) (rgCells (piece ⟨lo, hi, op⟩ S len) (len + 1)) ∧ g < w'.heap.size ∧ Below w.heap.size w w' := by
  have C := aside (fun w => check_at (may_chk hm) w)
  have H := aside h
  have hl0 : (0 : Int) < (len : Int) := by omega
  clear hm h
  go_enter Tryd.func72, Tryd.ntmps72
  go_wp2_with fail
  refine (C.out _).mono ?_
  rintro e w1 ⟨rfl, b1⟩
  obtain ⟨q0, q1, q2⟩ := box3 b1
  have b01 := bthen (bnew w (.cells #[.string lo, .string hi, .bool op] 26)) b1
  clear b1
  go_wp2_with fail
  refine (cut_at hroom _ (H.out.up b01 b01.size)).mono ?_
  rintro e w2 ⟨g, cp, rfl, hown, hg, b2⟩
  have OW := aside hown
  have HQ := aside hq
  have b02 := bthen b01 b2
  have RR := aside (rgs_of_row hown hg (by omega))
  clear hown q0 q1 q2 hq
  go_wp2_with fail
  refine (rising_at HQ.out _ RR.out).mono ?_
  rintro e w3 ⟨rfl, b3⟩
  have b03 := bthen b02 b3
  have OW3 := aside (row_base (row_below OW.out b3 hg) (Nat.le_trans b01.size (Nat.le_succ _)))
  have hg3 := Nat.lt_of_lt_of_le hg b3.size
  clear OW b3 RR
  go_wp2
  go_ret2
  exact ⟨g, cp, rfl, OW3.out, hg3, b03⟩
set_option maxHeartbeats 1600000 in
theorem split_none (lo hi : ByteArray) (op : Bool) (a : Option Addr) (cap : Nat) (w : World) (hm : Rg.may ⟨lo, hi, op⟩ = true) :
    Calls Tryd.prog 72 #[.agg #[.string lo, .string hi, .bool op], .slice a 0 cap] w fun e w' =>
      ∃ g cp, e = .returned (.tuple #[.slice (some ⟨g, 0, none⟩) 1 cp, .int .i64 0]) ∧ w'.ownsRow w.heap.size 26 3 (.slice (some ⟨g, 0, none⟩) 1 cp) 1 (rgCells (fun _ => ⟨lo, hi, op⟩) 1) ∧ g < w'.heap.size ∧ Below w.heap.size w w' := by
  have C := aside (fun w => check_at (may_chk hm) w)
  have H : Hid (∀ w : World, StrsIn w.heap.size w a 0 cap (fun _ => ByteArray.empty)) := aside (fun w => ⟨Nat.zero_le _, by omega, .inl rfl⟩)
  clear hm
  go_enter Tryd.func72, Tryd.ntmps72
  go_wp2_with fail
  refine (C.out _).mono ?_
  rintro e w1 ⟨rfl, b1⟩
  obtain ⟨q0, q1, q2⟩ := box3 b1
  have b01 := bthen (bnew w (.cells #[.string lo, .string hi, .bool op] 26)) b1
  clear b1
  go_wp2_with fail
  refine (cut_at (by omega) _ (H.out _)).mono ?_
  rintro e w2 ⟨g, cp, rfl, hown, hg, b2⟩
  have OW := aside (row_base hown (Nat.le_trans b01.size (Nat.le_succ _)))
  have b02 := bthen b01 b2
  clear hown q0 q1 q2
  go_wp2
  go_ret2
  exact ⟨g, cp, rfl, OW.out, hg, b02⟩
end Go.Proofs.YtfkdhambbpkmpaaDoor
namespace Go.Proofs.YtfkdhambbpkmpaaDoor
open Go.RowKit Go.Shelf
attribute [local go_sem] Oper.semAt_some
/-- Does the second of two neighbours begin where the first one ends? -/
def joinP (x : Rg × Rg) : Bool := x.2.lo.toList == x.1.hi.toList
/-- Do two ranges end alike? -/
def endAl (a b : Rg) : Bool := (a.op && b.op) || (!a.op && (!b.op && (a.hi.toList == b.hi.toList)))
/-- Do the first n ranges tile another one? -/
def tiles (T : Nat → Rg) (n : Nat) (r : Rg) : Bool := decide (0 < n) && (rises T n && ((upto (fun j => (T j, T (j + 1))) (n - 1)).all joinP && (((T 0).lo.toList == r.lo.toList) && endAl (T (n - 1)) r)))
end Go.Proofs.YtfkdhambbpkmpaaDoor
namespace Go.Proofs.YtfkdhambbpkmpaaDoor
open Go.RowKit
set_option linter.unusedVariables false
/-- A range's bounds are among some texts. -/
def In (S : List (List UInt8)) (r : Rg) : Prop := r.lo.toList ∈ S ∧ r.hi.toList ∈ S ∧ [] ∈ S
theorem may_rk {S : List (List UInt8)} {r : Rg} (h : In S r) : r.may = true ↔ ((r.lo.size : Int) ≤ 16 ∧ (r.hi.size : Int) ≤ 16) ∧ ((r.op = true ∧ rk S r.hi.toList = rk S []) ∨ (r.op = false ∧ rk S r.lo.toList ≤ rk S r.hi.toList)) := by
  obtain ⟨h1, h2, h3⟩ := h
  have e1 := rk_lt h1 h2; have e2 := rk_eq h1 h2
  have e3 : r.hi.toList.isEmpty = decide (rk S r.hi.toList = rk S []) := by rw [← rk_eq h2 h3]; cases r.hi.toList <;> rfl
  unfold Rg.may Rg.chk
  rw [e1, e2, e3]
  by_cases hs : 16 < (r.lo.size : Int) ∨ 16 < (r.hi.size : Int)
  · rw [if_pos hs]
    constructor
    · intro h; cases h
    · rintro ⟨⟨g1, g2⟩, -⟩; omega
  · rw [if_neg hs]
    cases r.op
    · by_cases h4 : rk S r.lo.toList < rk S r.hi.toList
      · simp [h4]; omega
      · by_cases h5 : rk S r.lo.toList = rk S r.hi.toList
        · simp [h5]; omega
        · simp [h4, h5]; omega
    · by_cases h4 : rk S r.hi.toList = rk S []
      · simp [h4]; omega
      · simp [h4]
theorem emp_rk {S : List (List UInt8)} {r : Rg} (h : In S r) : r.emp = false ↔ r.may = true ∧ (r.op = true ∨ rk S r.lo.toList ≠ rk S r.hi.toList) := by
  obtain ⟨h1, h2, h3⟩ := h
  unfold Rg.emp
  rw [rk_eq h1 h2]
  cases r.may <;> cases r.op <;> simp
theorem has_rk {S : List (List UInt8)} {r : Rg} {k : ByteArray} (h : In S r) (hk : k.toList ∈ S) : r.has k = true ↔ r.may = true ∧ (k.size : Int) ≤ 16 ∧ rk S r.lo.toList ≤ rk S k.toList ∧ (r.op = true ∨ rk S k.toList < rk S r.hi.toList) := by
  obtain ⟨h1, h2, h3⟩ := h
  unfold Rg.has
  rw [rk_lt hk h1, rk_lt hk h2]
  cases r.may <;> cases r.op <;> simp [Nat.not_lt, and_assoc]
/-- Some texts: the bounds of two ranges, and the empty one. -/
def S2 (a b : Rg) : List (List UInt8) := [a.lo.toList, a.hi.toList, b.lo.toList, b.hi.toList, []]
theorem emp_of_not_may {r : Rg} (h : r.may = false) : r.emp = true := by simp [Rg.emp, h]
/-- A range that is not empty, by the places of its bounds. -/
theorem emp_num {S : List (List UInt8)} {r : Rg} (h : In S r) : r.emp = false ↔ ((r.lo.size : Int) ≤ 16 ∧ (r.hi.size : Int) ≤ 16) ∧ ((r.op = true ∧ rk S r.hi.toList = rk S []) ∨ (r.op = false ∧ rk S r.lo.toList < rk S r.hi.toList)) := by
  rw [emp_rk h, may_rk h]
  cases r.op <;> simp <;> omega
/-- Some texts: the bounds of two ranges, the empty one, and a key. -/
def S3 (a b : Rg) (k : ByteArray) : List (List UInt8) := [a.lo.toList, a.hi.toList, b.lo.toList, b.hi.toList, [], k.toList]
theorem in3a (a b : Rg) (k : ByteArray) : In (S3 a b k) a := ⟨by simp [S3], by simp [S3], by simp [S3]⟩
theorem in3k (a b : Rg) (k : ByteArray) : k.toList ∈ S3 a b k := by simp [S3]
/-- An empty range has no key. -/
theorem has_not_emp {r : Rg} {k : ByteArray} (h : r.has k = true) : r.emp = false := by
  rw [emp_num (in3a r r k)]
  obtain ⟨h1, h2, h3, h4⟩ := (has_rk (in3a r r k) (in3k r r k)).1 h
  obtain ⟨m1, m2⟩ := (may_rk (in3a r r k)).1 h1
  refine ⟨m1, ?_⟩
  rcases m2 with m2 | ⟨o, m2⟩
  · exact .inl m2
  · rcases h4 with h4 | h4
    · rw [o] at h4; cases h4
    · exact .inr ⟨o, by omega⟩
/-- How many of the first n ranges hold a key. -/
def cnt (T : Nat → Rg) (k : ByteArray) : Nat → Nat
  | 0 => 0
  | n + 1 => cnt T k n + ((T n).has k).toNat
theorem toNat_iff {b : Bool} {P : Prop} [Decidable P] (h : b = true ↔ P) : b.toNat = if P then 1 else 0 := by
  by_cases hp : P
  · rw [if_pos hp, h.2 hp]; rfl
  · rw [if_neg hp]
    cases b
    · rfl
    · exact absurd (h.1 rfl) hp
/-- Ranges one behind the other, from where another one begins to where it ends. -/
structure Chain (T : Nat → Rg) (n : Nat) (r : Rg) : Prop where
  pos : 0 < n
  ne : ∀ i, i < n → (T i).emp = false
  cl : ∀ i, i + 1 < n → (T i).op = false
  jn : ∀ i, i + 1 < n → (T (i + 1)).lo = (T i).hi
  lo : (T 0).lo = r.lo
  en : endAl (T (n - 1)) r = true
theorem chain_of {T : Nat → Rg} {n : Nat} {r : Rg} (h : tiles T n r = true) : Chain T n r := by
  simp only [tiles, rises, Bool.and_eq_true, decide_eq_true_eq, Bool.not_eq_true', List.all_eq_true, upto, List.mem_map, List.mem_range, beq_iff_eq] at h
  obtain ⟨h1, ⟨h2, h3⟩, h4, h5, h6⟩ := h
  refine ⟨h1, fun i hi => ?_, fun i hi => ?_, fun i hi => ?_, toList_inj h5, h6⟩
  · cases he : (T i).emp
    · rfl
    · rw [anyE_true hi he] at h2; cases h2
  · have := h3 (T i, T (i + 1)) ⟨i, by omega, rfl⟩
    simp only [okP, Bool.not_eq_true', Bool.or_eq_false_iff] at this
    exact this.1
  · have := h4 (T i, T (i + 1)) ⟨i, by omega, rfl⟩
    simp only [joinP, beq_iff_eq] at this
    exact toList_inj this
/-- The texts at hand. -/
def St (T : Nat → Rg) (n : Nat) (r : Rg) (k : ByteArray) : List (List UInt8) :=
  [] :: k.toList :: r.lo.toList :: r.hi.toList :: ((List.range n).map (fun i => (T i).lo.toList) ++ (List.range n).map (fun i => (T i).hi.toList))
theorem st_T {T : Nat → Rg} {n : Nat} {r : Rg} {k : ByteArray} {i : Nat} (hi : i < n) : In (St T n r k) (T i) := by
  refine ⟨?_, ?_, by simp [St]⟩
  · simp only [St, List.mem_cons, List.mem_append, List.mem_map, List.mem_range]
    exact .inr (.inr (.inr (.inr (.inl ⟨i, hi, rfl⟩))))
  · simp only [St, List.mem_cons, List.mem_append, List.mem_map, List.mem_range]
    exact .inr (.inr (.inr (.inr (.inr ⟨i, hi, rfl⟩))))
theorem st_r {T : Nat → Rg} {n : Nat} {r : Rg} {k : ByteArray} : In (St T n r k) r := ⟨by simp [St], by simp [St], by simp [St]⟩
theorem st_k {T : Nat → Rg} {n : Nat} {r : Rg} {k : ByteArray} : k.toList ∈ St T n r k := by simp [St]
/-- A chain, in numbers. -/
theorem chain_num {T : Nat → Rg} {n : Nat} {r : Rg} (hc : Chain T n r) (S : List (List UInt8)) (hT : ∀ i, i < n → In S (T i)) :
    (∀ i, i + 1 < n → rk S (T i).lo.toList < rk S (T i).hi.toList ∧ rk S (T (i + 1)).lo.toList = rk S (T i).hi.toList) ∧ rk S (T 0).lo.toList = rk S r.lo.toList ∧
    ((T (n - 1)).op = r.op ∧ (r.op = false → rk S (T (n - 1)).lo.toList < rk S (T (n - 1)).hi.toList ∧ rk S (T (n - 1)).hi.toList = rk S r.hi.toList)) := by
  refine ⟨fun i hi => ⟨?_, by rw [hc.jn i hi]⟩, by rw [hc.lo], ?_⟩
  · have := (emp_num (hT i (by omega))).1 (hc.ne i (by omega))
    rcases this.2 with ⟨h, _⟩ | ⟨_, h⟩
    · rw [hc.cl i hi] at h; cases h
    · exact h
  · have he := hc.en
    simp only [endAl, Bool.or_eq_true, Bool.and_eq_true, Bool.not_eq_true', beq_iff_eq] at he
    rcases he with ⟨h1, h2⟩ | ⟨h1, h2, h3⟩
    · rw [h1, h2]; exact ⟨rfl, fun h => by cases h⟩
    · rw [h1, h2]
      refine ⟨rfl, fun _ => ⟨?_, by rw [h3]⟩⟩
      have := (emp_num (hT (n - 1) (by have := hc.pos; omega))).1 (hc.ne (n - 1) (by have := hc.pos; omega))
      rcases this.2 with ⟨h, _⟩ | ⟨_, h⟩
      · rw [h1] at h; cases h
      · exact h
/-- Numbers that rise step by step. -/
theorem steps_mono {L U : Nat → Nat} {n : Nat} (h : ∀ i, i + 1 < n → L i < U i ∧ L (i + 1) = U i) : ∀ j i, i ≤ j → j < n → L i + (j - i) ≤ L j
  | 0, i, hi, _ => by obtain rfl : i = 0 := by omega
                      omega
  | j + 1, i, hi, hj => by
    by_cases e : i = j + 1
    · subst e; omega
    · have h1 := steps_mono h j i (by omega) (by omega)
      have h2 := h j hj
      omega
theorem cnt_chain {T : Nat → Rg} {n : Nat} {r : Rg} (hc : Chain T n r) (hr : r.may = true) (k : ByteArray) : cnt T k n = (r.has k).toNat := by
  have hT : ∀ i, i < n → In (St T n r k) (T i) := fun i hi => st_T hi
  have hR : In (St T n r k) r := st_r
  have hK : k.toList ∈ St T n r k := st_k
  obtain ⟨h1, h2, h3, h4⟩ := chain_num hc _ hT
  generalize St T n r k = S at *
  have mono : ∀ j i, i ≤ j → j < n → rk S (T i).lo.toList + (j - i) ≤ rk S (T j).lo.toList := steps_mono (L := fun i => rk S (T i).lo.toList) (U := fun i => rk S (T i).hi.toList) h1
  have pre : ∀ m, m < n → cnt T k m = if (k.size : Int) ≤ 16 ∧ rk S r.lo.toList ≤ rk S k.toList ∧ rk S k.toList < rk S (T m).lo.toList then 1 else 0 := by
    intro m
    induction m with
    | zero => intro _; rw [cnt, if_neg (by omega)]
    | succ m ih =>
      intro hm
      have hh := has_rk (hT m (by omega)) hK
      have hmay : (T m).may = true := by
        have := hc.ne m (by omega)
        cases hq : (T m).may
        · rw [emp_of_not_may hq] at this; cases this
        · rfl
      rw [cnt, ih (by omega), toNat_iff hh, hmay, hc.cl m hm]
      have g1 := (h1 m hm)
      have g2 := mono m 0 (by omega) (by omega)
      by_cases hs : (k.size : Int) ≤ 16
      · simp only [hs, true_and, Bool.false_eq_true, false_or]
        split <;> split <;> split <;> omega
      · simp [hs]
  obtain ⟨m, rfl⟩ : ∃ m, n = m + 1 := ⟨n - 1, by have := hc.pos; omega⟩
  simp only [Nat.add_sub_cancel] at h3 h4
  have hh := has_rk (hT m (by omega)) hK
  have hg := has_rk hR hK
  have hmay : (T m).may = true := by
    have := hc.ne m (by omega)
    cases hq : (T m).may
    · rw [emp_of_not_may hq] at this; cases this
    · rfl
  have g2 := mono m 0 (by omega) (by omega)
  rw [cnt, pre m (by omega), toNat_iff hh, toNat_iff hg, hmay, hr, h3]
  by_cases hs : (k.size : Int) ≤ 16
  · cases ho : r.op
    · have := h4 ho
      simp only [hs, true_and, Bool.false_eq_true, false_or]
      split <;> split <;> split <;> omega
    · simp only [hs, true_and, true_or, and_true]
      split <;> split <;> split <;> omega
  · simp [hs]
/-- A range that is cut tiles it, where it is cut into ranges that rise. -/
theorem piece_tiles {r : Rg} {S : Nat → ByteArray} {len : Nat} (h : rises (piece r S len) (len + 1) = true) : tiles (piece r S len) (len + 1) r = true := by
  have e1 : ((piece r S len 0).lo.toList == r.lo.toList) = true := by
    have : (piece r S len 0).lo = r.lo := by unfold piece; split <;> rfl
    rw [this]; exact beq_self_eq_true _
  have e2 : endAl (piece r S len (len + 1 - 1)) r = true := by
    simp only [Nat.add_sub_cancel, piece, Nat.lt_irrefl, if_false, endAl]
    cases r.op <;> simp
  have e3 : (upto (fun j => (piece r S len j, piece r S len (j + 1))) (len + 1 - 1)).all joinP = true := by
    rw [List.all_eq_true]
    intro x hx
    simp only [upto, List.mem_map, List.mem_range, Nat.add_sub_cancel] at hx
    obtain ⟨j, hj, rfl⟩ := hx
    have a1 : (piece r S len j).hi = S j := by simp only [piece, if_pos hj]
    have a2 : (piece r S len (j + 1)).lo = S j := by unfold piece; split <;> rfl
    simp only [joinP, a1, a2]; exact beq_self_eq_true _
  unfold tiles
  rw [h, e1, e2, e3]
  simp
theorem rises_one {T : Nat → Rg} (h : (T 0).emp = false) : rises T 1 = true := by
  unfold rises
  rw [anyE_false (fun j hj => by obtain rfl : j = 0 := by omega
                                 exact h)]
  rfl
/-- A border that may stand behind lo in a range. -/
def okB (r : Rg) (lo b : ByteArray) : Bool := decide ((b.size : Int) ≤ 16) && (Op.bytesLess lo.toList b.toList && (r.op || Op.bytesLess b.toList r.hi.toList))
/-- The texts at hand. -/
def Sp (r : Rg) (S : Nat → ByteArray) (n : Nat) : List (List UInt8) := [] :: r.lo.toList :: r.hi.toList :: (List.range n).map (fun i => (S i).toList)
theorem sp_S {r : Rg} {S : Nat → ByteArray} {n i : Nat} (hi : i < n) : (S i).toList ∈ Sp r S n := by
  simp only [Sp, List.mem_cons, List.mem_map, List.mem_range]
  exact .inr (.inr (.inr ⟨i, hi, rfl⟩))
theorem sp_lo {r : Rg} {S : Nat → ByteArray} {n : Nat} : r.lo.toList ∈ Sp r S n := by simp [Sp]
theorem sp_hi {r : Rg} {S : Nat → ByteArray} {n : Nat} : r.hi.toList ∈ Sp r S n := by simp [Sp]
theorem sp_nil {r : Rg} {S : Nat → ByteArray} {n : Nat} : [] ∈ Sp r S n := by simp [Sp]
theorem sp_cut {r : Rg} {S : Nat → ByteArray} {n i : Nat} (hi : i ≤ n) : (cutLo r.lo S i).toList ∈ Sp r S n := by
  cases i with
  | zero => exact sp_lo
  | succ i => exact sp_S (by omega)
theorem sp_piece {r : Rg} {S : Nat → ByteArray} {n i : Nat} (hi : i ≤ n) : In (Sp r S n) (piece r S n i) := by
  unfold piece
  split
  · exact ⟨sp_cut hi, sp_S ‹_›, sp_nil⟩
  · exact ⟨sp_cut hi, sp_hi, sp_nil⟩
theorem rises_cut {r : Rg} {S : Nat → ByteArray} {len : Nat} (hm : r.may = true) (hl : 0 < len) : rises (piece r S len) (len + 1) = true ↔ ∀ i, i < len → okB r (cutLo r.lo S i) (S i) = true := by
  have hR : In (Sp r S len) r := ⟨sp_lo, sp_hi, sp_nil⟩
  have hmr := (may_rk hR).1 hm
  have okn : ∀ i, i < len → (okB r (cutLo r.lo S i) (S i) = true ↔ ((S i).size : Int) ≤ 16 ∧ rk (Sp r S len) (cutLo r.lo S i).toList < rk (Sp r S len) (S i).toList ∧ (r.op = true ∨ rk (Sp r S len) (S i).toList < rk (Sp r S len) r.hi.toList)) := by
    intro i hi
    unfold okB
    rw [rk_lt (sp_cut (by omega)) (sp_S (r := r) hi), rk_lt (sp_S hi) (sp_hi (r := r))]
    simp only [Bool.and_eq_true, Bool.or_eq_true, decide_eq_true_eq]
  have pe : ∀ i, i ≤ len → ((piece r S len i).emp = false ↔ _) := fun i hi => emp_num (sp_piece hi)
  constructor
  · intro h
    simp only [rises, Bool.and_eq_true, Bool.not_eq_true'] at h
    have ne : ∀ i, i ≤ len → (piece r S len i).emp = false := by
      intro i hi
      cases he : (piece r S len i).emp
      · rfl
      · rw [anyE_true (j := i) (by omega) he] at h; cases h.1
    have st : ∀ i, i < len → ((S i).size : Int) ≤ 16 ∧ rk (Sp r S len) (cutLo r.lo S i).toList < rk (Sp r S len) (S i).toList := by
      intro i hi
      have := (pe i (by omega)).1 (ne i (by omega))
      simp only [piece, if_pos hi] at this
      rcases this with ⟨⟨_, h2⟩, ⟨h3, _⟩ | ⟨_, h4⟩⟩
      · cases h3
      · exact ⟨h2, h4⟩
    have mono : ∀ j i, i ≤ j → j < len + 1 → rk (Sp r S len) (cutLo r.lo S i).toList + (j - i) ≤ rk (Sp r S len) (cutLo r.lo S j).toList :=
      steps_mono (L := fun i => rk (Sp r S len) (cutLo r.lo S i).toList) (U := fun i => rk (Sp r S len) (S i).toList) (fun i hi => ⟨(st i (by omega)).2, rfl⟩)
    intro i hi
    refine (okn i hi).2 ⟨(st i hi).1, (st i hi).2, ?_⟩
    have hlast := (pe len (Nat.le_refl _)).1 (ne len (Nat.le_refl _))
    simp only [piece, if_neg (Nat.lt_irrefl len)] at hlast
    rcases hlast.2 with ⟨h3, _⟩ | ⟨_, h4⟩
    · exact .inl h3
    · have := mono len (i + 1) (by omega) (by omega)
      rw [show cutLo r.lo S (i + 1) = S i from rfl] at this
      exact .inr (by omega)
  · intro h
    have h' := fun i hi => (okn i hi).1 (h i hi)
    have csz : ∀ i, i ≤ len → ((cutLo r.lo S i).size : Int) ≤ 16 := by
      intro i hi
      cases i with
      | zero => exact hmr.1.1
      | succ i => exact (h' i (by omega)).1
    have ne : ∀ i, i ≤ len → (piece r S len i).emp = false := by
      intro i hi
      refine (pe i hi).2 ?_
      by_cases e : i < len
      · simp only [piece, if_pos e]
        exact ⟨⟨csz i hi, (h' i e).1⟩, .inr ⟨trivial, (h' i e).2.1⟩⟩
      · obtain rfl : i = len := by omega
        simp only [piece, if_neg (Nat.lt_irrefl i)]
        refine ⟨⟨csz i hi, hmr.1.2⟩, ?_⟩
        rcases hmr.2 with h3 | ⟨h3, _⟩
        · exact .inl h3
        · refine .inr ⟨h3, ?_⟩
          obtain ⟨j, rfl⟩ : ∃ j, i = j + 1 := ⟨i - 1, by omega⟩
          rcases (h' j (by omega)).2.2 with h5 | h5
          · rw [h3] at h5; cases h5
          · exact h5
    simp only [rises, Bool.and_eq_true, Bool.not_eq_true']
    refine ⟨anyE_false (fun j hj => ne j (by omega)), ?_⟩
    rw [List.all_eq_true]
    intro x hx
    simp only [upto, List.mem_map, List.mem_range, Nat.add_sub_cancel] at hx
    obtain ⟨j, hj, rfl⟩ := hx
    have a1 : (piece r S len j).hi = S j ∧ (piece r S len j).op = false := by simp only [piece, if_pos hj, and_self]
    have a2 : (piece r S len (j + 1)).lo = S j := by unfold piece; split <;> rfl
    simp only [okP, a1, a2, L_irrefl, Bool.or_false, Bool.not_false]
end Go.Proofs.YtfkdhambbpkmpaaDoor
