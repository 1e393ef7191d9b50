/-
  The document's words, lane and Of.
  Of and All of tallies, of the code and of the document.
  What entries come to: the document's All.
  Plain mathematics: the order of texts, told by numbers for finitely many texts at a time.
  The iterator over neighbours: what it hands to a loop's body, over every slice of ranges.
  Meet, the code's: it returns what the plain function gives, and writes nothing that was there.
  slices.ContainsFunc of Empty over every slice of ranges.
-/
import Derived.Test.YtfkdhambbpkmpaaDoorBv13
import Derived.Deep.RegionWith
import Derived.Test.YtfkdhambbpkmpaaDoorBv2
import Derived.Test.YtfkdhambbpkmpaaDoorBv8
import Derived.Test.YtfkdhambbpkmpaaDoorBv1
import Derived.RangeFuncNested
import Derived.RangeFuncBound
import Derived.RangeFuncCalls
import Derived.RangeFuncLeaves
import Derived.Shelf.Abstract
import Derived.Shelf.RegionOpen
import Derived.OwnWalkIn
import Derived.TacticsInMore
import Derived.LoopNIn
import Derived.LoopIn
import Derived.Stop.RegionWithIn
import Derived.Laws.ResultCell
namespace Go.Proofs.YtfkdhambbpkmpaaDoor
open Go.RowKit
set_option linter.unusedVariables false
theorem info64 : (Tryd.prog.info? 36).map (fun i => (i.zero, i.size, i.bytes)) = some (some (.int .u64 0), 1, 8) := by kernel_rfl
theorem own_base {w : World} {base base' : Nat} {e : TypeId} {size : Nat} {v : Value} {n : Nat} {xs : List Value} (h : w.ownsRow base e size v n xs) (hb : base' ≤ base) : w.ownsRow base' e size v n xs := by
  refine ⟨h.1, ?_⟩
  rcases h.2 with h0 | ⟨g, cap, cur, h1, h2, h3⟩
  · exact .inl h0
  · exact .inr ⟨g, cap, cur, h1, Nat.le_trans hb h2, h3⟩
def u64s (l : List Int) : List Value := l.map (Value.int .u64)
theorem doneW_length (k : List UInt8) (i : Nat) : (doneW k i).length = i / 8 + (if i % 8 = 0 then 0 else 1) := by
  unfold doneW
  rw [List.length_append, keyW_length]
  split <;> simp
structure WordsSt (w wr : World) (k : ByteArray) (c n : Int) (g cap : Nat) (l : List Int) : Prop where
  below : Below w.heap.size w wr
  sz : w.heap.size + 1 ≤ wr.heap.size
  v : wr.heap[w.heap.size]? = some (.cells #[.int .i64 c, .int .i64 n] 53 (0, 0))
  own : wr.ownsRow (w.heap.size + 1) 36 1 (.slice (some ⟨g, 0, none⟩) l.length cap) l.length (u64s l)
def WordsRel (w : World) (k : ByteArray) (c n : Int) (v i : Value) (wr : World) : Prop :=
  ∃ (j g cap : Nat), i = .int .i64 (j : Int) ∧ j ≤ k.size ∧ v = .slice (some ⟨g, 0, none⟩) ((k.size : Int) :: doneW k.data.toList j).length cap ∧ WordsSt w wr k c n g cap ((k.size : Int) :: doneW k.data.toList j)
/-- The last word, read and written anew. -/
theorem WordsSt.last {w wr : World} {k : ByteArray} {c n : Int} {g cap q : Nat} {l : List Int} {x : Int} (h : WordsSt w wr k c n g cap (l ++ [x])) (hq : l.length = q) :
    wr.cell? ⟨g, q, none⟩ = some (.int .u64 x) ∧ wr.frozen? ⟨g, q, none⟩ = false ∧ ∀ y : Int, WordsSt w (wr.drew.setCell ⟨g, q, none⟩ (.int .u64 y)) k c n g cap (l ++ [y]) := by
  have hlt := h.own.lt g rfl
  refine ⟨?_, h.own.frozenAt q, fun y => ⟨h.below.drew.setCell (by simp; omega) _, by simpa using h.sz, ?_, ?_⟩⟩
  · rw [h.own.cellAt q (by simp; omega), u64s, List.map_append, List.getElem?_append_right (by simp; omega)]
    simp [hq]
  · rw [heap_setCell_other _ _ _ _ (by show w.heap.size ≠ g; omega)]; exact h.v
  · have hs := (h.own.drew.stored q (.int .u64 y)).1
    have e1 : (u64s (l ++ [x])).set q (.int .u64 y) = u64s (l ++ [y]) := by
      rw [u64s, List.map_append, List.set_append_right _ _ (by simp; omega)]
      simp [u64s, hq]
    rw [e1] at hs
    have e2 : (l ++ [x]).length = (l ++ [y]).length := by simp
    rw [← e2]
    exact hs
/-- A word 0 appended. -/
theorem WordsSt.app {w wr w1 : World} {k : ByteArray} {c n : Int} {g cap g1 cap1 : Nat} {l : List Int} {xs : List Value} {m : Nat} {o : Obj} (h : WordsSt w wr k c n g cap l)
    (hown : w1.ownsRow (w.heap.size + 1) 36 1 (.slice (some ⟨g1, 0, none⟩) m cap1) m xs) (hgrow : (wr.alloc o).grownBy w1 (some g)) {l' : List Int} (hm : m = l'.length) (hx : xs = u64s l') : WordsSt w w1 k c n g1 cap1 l' := by
  have hlt := h.own.lt g rfl
  have b1 : Below w.heap.size w w1 := (h.below.alloc (by have := h.sz; omega) o).grown hgrow (by simp; have := h.sz; omega) (fun j hj => by simp at hj; omega)
  refine ⟨b1, by have := hgrow.size; simp at this; have := h.sz; omega, ?_, by subst hm hx; exact hown⟩
  rw [hgrow.block _ (by simp; have := h.sz; omega) (by simp; omega), heap_alloc_old _ _ (by have := h.sz; omega)]
  exact h.v
theorem words_edge {x : Int} {d e : List Int} {p b : Nat} {r : Nat} {kw : List Int} (hn : d = kw ++ [((p + b * 256 ^ r : Nat) : Int)]) (he : e = kw ∧ p = 0) (hr : r = 0) : x :: d = (x :: e) ++ [(b : Int)] := by
  subst hn hr; rw [he.1, he.2]; simp
set_option maxHeartbeats 1600000 in
set_option maxRecDepth 100000 in
theorem words_any (k : ByteArray) (c n : Int) (w : World) (hk : k.size ≤ 140737488351232) :
    Calls Tryd.prog 85 #[.string k, .agg #[.int .i64 c, .int .i64 n]] w fun e w' => ∃ g cap, e = .returned (.slice (some ⟨g, 0, none⟩) (wordsI k c n).length cap) ∧ w'.ownsRow w.heap.size 36 1 (.slice (some ⟨g, 0, none⟩) (wordsI k c n).length cap) (wordsI k c n).length (u64s (wordsI k c n)) ∧ Below w.heap.size w w' := by
  obtain ⟨i0, hi, hz0, hz1, hz2⟩ := info_parts info64
  have hlen : k.data.toList.length = k.size := by show k.data.toList.length = k.data.size; simp
  go_enter Tryd.func85, Tryd.ntmps85
  go_wp2
  go_loopw [5, 6] (fun v i wr => WordsRel w k c n v i wr) (fun _ i _ => k.size - (intOf i).toNat)
  case atStart =>
    refine ⟨0, w.heap.size + 1, 1, rfl, Nat.zero_le _, by rw [doneW_zero]; rfl, (bnew w _).alloc (by simp) _, by simp, blk_on (heap_alloc_new w _) (bnew _ _), ?_⟩
    rw [doneW_zero]
    have := World.ownsRow_lit (base := w.heap.size + 1) (e := 36) (size := 1) (w.alloc (.cells #[.int .i64 c, .int .i64 n] 53)) #[.int .u64 (k.size : Int)] 1 (by simp) (by decide) rfl
    simpa [u64s] using this
  case round =>
    obtain ⟨j, g, cap, rfl, hj, rfl, S⟩ := hrel
    have hsz := S.sz
    have hN : ((k.size : Int) :: doneW k.data.toList j).length ≤ j / 8 + 2 := by rw [List.length_cons, doneW_length]; split <;> omega
    by_cases hlt : (j : Int) < (k.size : Int)
    · have hjk : j < k.size := by omega
      have hix : ∀ W, (Instr.index 9 (.string k) (.int .i64 (j : Int))).run Tryd.prog W = .ok (.int .u8 (k[j].toNat : Int)) W := fun W => idx_str' k j hjk (j : Int) rfl W
      have hnx := doneW_next k.data.toList j (by omega)
      have hgt : k.data.toList[j]'(by omega) = k[j] := rfl
      have hslt := sum_lt k.data.toList j k[j]
      rw [hgt] at hnx
      have hc2 := k[j].toNat_lt
      generalize k[j].toNat = b at *
      have hs3 : IntKind.u64.wrap (b : Int) = (b : Int) := by rw [IntKind.wrap_u64]; omega
      by_cases h8 : j % 8 = 0
      · have hm8 : (j : Int) % 8 = 0 := by omega
        have hed := doneW_edge k.data.toList j h8
        have HO := aside S.own
        have HS := aside S
        have HN := aside hnx
        have HE := aside hed
        obtain ⟨q, hq⟩ : ∃ q, q = ((k.size : Int) :: doneW k.data.toList j).length := ⟨_, rfl⟩
        rw [← hq] at hN HO ⊢
        have HQ := aside hq
        clear S hnx hed hq hslt hc2
        go_wp2_with (at_builtin; refine wpList_append_lies _ rfl _ _ _ rfl (w.heap.size + 1) 36 i0 (.int .u64 0) 1 8 Tryd.underlying115 hi hz0 hz1 hz2 rfl (by decide) _ _ _ (by rfl) (HO.out.alloc _) ⟨wr.heap.size, 0, none⟩ 1 1 [.int .u64 0] (by rfl) (by rfl) (World.news_of_block (cs := #[.int .u64 0]) (t := 36) (fr := (0, 0)) (heap_alloc_new wr _)) (by simp [Value.oneCell']) (by omega) (by unfold maxLen; omega) (by omega) (by simp; omega) (wr.heap.size + 1) (by simp) ?_; intro g1 cap1 w1 hown1 hgrow hat hlt1; refine Hid.out ?_)
        refine aside ?_
        have S1 := HS.out.app hown1 hgrow (l' := ((k.size : Int) :: doneW k.data.toList j) ++ [0]) (by rw [HQ.out]; simp) (by simp [u64s])
        obtain ⟨c1, f1, put⟩ := S1.last HQ.out.symm
        have PUT := aside put
        clear hown1 hgrow hat hlt1 put S1
        go_wp2
        go_region
        all_goals
          go_wp2
          go_roundw
          case rel =>
            have eqn := words_edge (x := (k.size : Int)) HN.out HE.out h8
            refine ⟨j + 1, g1, cap1, by go_num, by omega, by rw [eqn, HQ.out]; simp, ?_⟩
            rw [eqn]
            exact PUT.out (b : Int)
          case measure => simp [intOf]; omega
      · obtain ⟨r, hr⟩ : ∃ r, r = j % 8 := ⟨_, rfl⟩
        have hm8 : (j : Int) % 8 = (r : Int) := by omega
        have hm8' : (j : Int).tmod 8 = (r : Int) := by rw [Int.tmod_eq_emod_of_nonneg (by omega)]; omega
        have hne : ¬ (r : Int) = 0 := by omega
        have hw8 : IntKind.i64.wrap (8 * (r : Int)) = 8 * (r : Int) := by rw [IntKind.wrap_i64]; omega
        have h64 : 8 * (r : Int) ≤ 64 := by omega
        have h64' : 0 ≤ 8 * (r : Int) := by omega
        have hhr := doneW_here k.data.toList j h8
        rw [← hr] at hnx hslt
        generalize partN k.data.toList j = p at *
        obtain ⟨sh, hsh⟩ : ∃ sh, sh = b * 256 ^ r := ⟨_, rfl⟩
        rw [← hsh] at hnx hslt
        have hs1 : IntKind.u64.wrap ((b : Int) * 2 ^ (8 * (r : Int)).toNat) = (sh : Int) := by
          rw [show (8 * (r : Int)).toNat = 8 * r from by omega, show ((b : Int) * 2 ^ (8 * r)) = (sh : Int) from by rw [hsh, Nat.pow_mul 2 8 r |> fun h => show (256 : Nat) ^ r = 2 ^ (8 * r) from h.symm]; push_cast; rfl, IntKind.wrap_u64]
          omega
        have hs2 : IntKind.u64.wrap ((p : Int) + (sh : Int)) = ((p + sh : Nat) : Int) := by rw [IntKind.wrap_u64]; omega
        have HN := aside hnx
        obtain ⟨q, hq⟩ : ∃ q, q = ((k.size : Int) :: keyW k.data.toList (j / 8)).length := ⟨_, rfl⟩
        rw [hhr, ← List.cons_append] at S
        have hle : ((k.size : Int) :: doneW k.data.toList j).length = q + 1 := by rw [hhr, hq]; simp
        rw [hle] at hN ⊢
        obtain ⟨c1, f1, put⟩ := S.last hq.symm
        have PUT := aside put
        have HQ := aside hq
        clear S hnx hq hslt hc2 hle put hhr hsh hr h8 hgt
        generalize p + sh = t at *
        go_wp2
        go_region
        all_goals
          go_wp2
          go_roundw
          case rel =>
            refine ⟨j + 1, g, cap, by go_num, by omega, by rw [HN.out, HQ.out]; simp, ?_⟩
            rw [HN.out, ← List.cons_append]
            exact PUT.out (t : Int)
          case measure => simp [intOf]; omega
    · have hjk : j = k.size := by omega
      have hall : (k.size : Int) :: doneW k.data.toList j = (k.size : Int) :: keyW k.data.toList (keyN k.size) := by
        have := doneW_all k.data.toList
        rw [hlen] at this
        rw [hjk, this]
      rw [hall] at S hN ⊢
      obtain ⟨v1, v2, -, -⟩ := pair S.v
      have HO := aside S.own
      have HS := aside S
      obtain ⟨q, hq⟩ : ∃ q, q = ((k.size : Int) :: keyW k.data.toList (keyN k.size)).length := ⟨_, rfl⟩
      rw [← hq] at hN HO ⊢
      have HQ := aside hq
      clear S hq hall
      go_wp2_with (at_builtin; refine wpList_append_lies _ rfl _ _ _ rfl (w.heap.size + 1) 36 i0 (.int .u64 0) 1 8 Tryd.underlying115 hi hz0 hz1 hz2 rfl (by decide) _ _ _ (by rfl) (HO.out.alloc _) ⟨wr.heap.size, 0, none⟩ 2 2 [.int .u64 (IntKind.u64.wrap c), .int .u64 (IntKind.u64.wrap n)] (by rfl) (by rfl) (World.news_of_block (cs := #[.int .u64 (IntKind.u64.wrap c), .int .u64 (IntKind.u64.wrap n)]) (t := 36) (fr := (0, 0)) (heap_alloc_new wr _)) (by simp [Value.oneCell']) (by omega) (by unfold maxLen; omega) (by omega) (by simp; omega) (wr.heap.size + 1) (by simp) ?_; intro g1 cap1 w1 hown1 hgrow hat hlt1; refine Hid.out ?_)
      refine aside ?_
      have S1 := HS.out.app hown1 hgrow (l' := wordsI k c n) (by rw [HQ.out]; simp [wordsI]) (by simp [u64s, wordsI])
      have hql : q + 2 = (wordsI k c n).length := by rw [HQ.out]; simp [wordsI]
      have HS1 := aside S1
      have HQL := aside hql
      clear hown1 hgrow hat hlt1 S1 hql
      go_wp2
      go_ret
      exact ⟨g1, cap1, by rw [← HQL.out]; rfl, own_base HS1.out.own (by omega), HS1.out.below⟩
set_option maxHeartbeats 1600000 in
set_option maxRecDepth 100000 in
theorem lane_any (x f : Int) (s : Nat) (l : List Int) (B g cap : Nat) (w : World) (hs : s ≤ 63) (own : w.ownsRow B 36 1 (.slice (some ⟨g, 0, none⟩) l.length cap) l.length (u64s l)) :
    Calls Tryd.prog 86 #[.int .u64 x, .int .u64 f, .int .i64 (s : Int), .slice (some ⟨g, 0, none⟩) l.length cap] w fun e w' => e = .returned (.int .u64 (l.foldl (mixI f s) x)) ∧ w' = w := by
  have hs0 : (0 : Int) ≤ (s : Int) := by omega
  have hs1 : (s : Int) ≤ 64 := by omega
  have hcell : ∀ j (h : j < l.length), w.cell? ⟨g, j, none⟩ = some (.int .u64 l[j]) := by
    intro j h
    rw [own.cellAt j (by omega), u64s, List.getElem?_map, List.getElem?_eq_getElem h]
    rfl
  have HC := aside hcell
  have hmx : l.length ≤ maxLen := by
    rcases own.2 with ⟨h, _⟩ | ⟨g', cap', cur, h1, h2, h3, h4, h5, h6⟩
    · cases h
    · injection h1 with e1 e2 e3
      omega
  have hmx' : (l.length : Int) ≤ 9223372036854775807 := by unfold maxLen at hmx; omega
  clear hmx
  obtain ⟨N, hN⟩ : ∃ N, N = l.length := ⟨_, rfl⟩
  have HN := aside hN
  rw [← hN] at hmx' ⊢
  clear own hcell hN
  go_enter Tryd.func86, Tryd.ntmps86
  go_wp2
  go_loopw [0, 13] (fun v i wr => ∃ j : Nat, i = .int .i64 (j : Int) ∧ j ≤ N ∧ v = .int .u64 ((l.take j).foldl (mixI f s) x) ∧ wr = w) (fun _ i _ => N - (intOf i).toNat)
  case atStart => exact ⟨0, rfl, Nat.zero_le _, rfl, rfl⟩
  case round =>
    obtain ⟨j, rfl, hj, rfl, rfl⟩ := hrel
    by_cases hlt : (j : Int) < (N : Int)
    · have hjl : j < l.length := by have := HN.out; omega
      have c1 := HC.out j hjl
      have hst : (l.take (j + 1)).foldl (mixI f s) x = mixI f s ((l.take j).foldl (mixI f s) x) l[j] := by
        rw [List.take_succ_eq_append_getElem hjl, List.foldl_append]; rfl
      have HST := aside hst
      have hj0 : (0 : Int) ≤ (j : Int) := by omega
      clear hst
      generalize l[j] = u at *
      generalize (l.take j).foldl (mixI f s) x = y at *
      go_wp2
      go_roundw
      case rel => exact ⟨j + 1, by go_num, by omega, by rw [HST.out]; rfl, trivial⟩
      case measure => simp [intOf]; omega
    · have hjl : j = l.length := by have := HN.out; omega
      have hall : (l.take j).foldl (mixI f s) x = l.foldl (mixI f s) x := by rw [hjl, List.take_length]
      have HA := aside hall
      clear hall hjl
      go_wp2
      go_ret
      exact ⟨by rw [← HA.out]; rfl, rfl⟩
set_option maxHeartbeats 1600000 in
set_option maxRecDepth 100000 in
theorem ofRef_any (k : ByteArray) (c n : Int) (w : World) (hk : k.size ≤ 140737488351232) :
    Calls Tryd.prog 75 #[.string k, .agg #[.int .i64 c, .int .i64 n]] w fun e w' => e = .returned (ofV k c n) ∧ Below w.heap.size w w' := by
  go_enter Tryd.func75, Tryd.ntmps75
  go_wp2_with fail
  refine (words_any k c n _ hk).mono ?_
  rintro e w1 ⟨g, cap, rfl, own, b1⟩
  have bt : Below w.heap.size w w1 := bthen ((bnew w _).alloc (by simp) _) b1
  have hr := blk_on (show ((w.alloc (.cells #[.int .i64 c, .int .i64 n] 53)).alloc (.cells #[.int .u64 0, .int .u64 0] 38)).heap[w.heap.size + 1]? = some (.cells #[.int .u64 0, .int .u64 0] 38 (0, 0)) from by have := heap_alloc_new (w.alloc (.cells #[.int .i64 c, .int .i64 n] 53)) (.cells #[.int .u64 0, .int .u64 0] 38); simpa using this) b1
  obtain ⟨p0, p1, p2, p3⟩ := pair hr
  have HO := aside own
  have BT := aside bt
  clear own b1 bt hr
  go_wp2_with fail
  refine (lane_any _ _ 29 _ _ _ _ _ (by omega) HO.out).mono ?_
  rintro e w2 ⟨rfl, rfl⟩
  go_wp2_with fail
  refine (lane_any _ _ 32 _ _ _ _ _ (by omega) HO.out).mono ?_
  rintro e w3 ⟨rfl, rfl⟩
  go_wp2
  exact bodyPost_ret (v := ofV k c n) (by simp [results, Tryd.results75, go_sem, p0, p1, ofV, of0, of1, lane0, lane1]) rfl ⟨rfl, (BT.out.setCell (by simp) _).setCell (by simp) _⟩
end Go.Proofs.YtfkdhambbpkmpaaDoor
namespace Go.Proofs.YtfkdhambbpkmpaaDoor
open Go.RowKit
set_option linter.unusedVariables false
set_option maxHeartbeats 1600000 in
set_option maxRecDepth 100000 in
theorem tof_any (k : ByteArray) (c n : Int) (v : ByteArray) (d : Bool) (w : World) (L : Lanes w) (hk : k.size ≤ 140737488351232) :
    Calls Tryd.prog 32 #[.agg #[.string k, .int .i64 c, .int .i64 n, .string v, .bool d]] w fun e w' => e = .returned (.agg #[.int .i64 1, .int .u64 (of0 k c n), .int .u64 (of1 k c n)]) ∧ Below w.heap.size w w' := by
  have LL := aside L
  clear L
  have B0 := aside (bthen (bnew w (.cells #[.string k, .int .i64 c, .int .i64 n, .string v, .bool d] 55)) (bnew _ (.cells #[.int .i64 0, .int .u64 0, .int .u64 0] 40)))
  have G := aside (heap_alloc_new (w.alloc (.cells #[.string k, .int .i64 c, .int .i64 n, .string v, .bool d] 55)) (.cells #[.int .i64 0, .int .u64 0, .int .u64 0] 40))
  have hz : (w.alloc (.cells #[.string k, .int .i64 c, .int .i64 n, .string v, .bool d] 55)).heap.size = w.heap.size + 1 := by simp
  rw [hz] at G
  obtain ⟨x, hx⟩ : ∃ x, of0 k c n = x := ⟨_, rfl⟩
  obtain ⟨y, hy⟩ : ∃ y, of1 k c n = y := ⟨_, rfl⟩
  have CO : Hid (∀ W, Below w.heap.size w W → Calls Tryd.prog 52 #[.string k, .agg #[.int .i64 c, .int .i64 n]] W fun e w' => e = .returned (.agg #[.int .u64 x, .int .u64 y]) ∧ Below W.heap.size W w') := fun W bw => by
    rw [← hx, ← hy]
    exact of_any k c n W (LL.out.keep bw) (by omega)
  rw [hx, hy]
  clear hz hx hy
  go_enter Tryd.func32, Tryd.ntmps32
  go_wp2_with fail
  generalize (w.alloc (.cells #[.string k, .int .i64 c, .int .i64 n, .string v, .bool d] 55)).alloc (.cells #[.int .i64 0, .int .u64 0, .int .u64 0] 40) = V at *
  refine (CO.out _ B0.out).mono ?_
  rintro e w1 ⟨rfl, b1⟩
  have B1 := aside (bthen B0.out b1)
  obtain ⟨s0, s1, s2, z0, z1, z2⟩ := tri (blk_on G.out b1)
  clear b1 G B0
  go_wp2
  exact bodyPost_ret (v := .agg #[.int .i64 1, .int .u64 x, .int .u64 y]) (by simp [results, Tryd.results32, go_sem, s0, s1, s2]) rfl ⟨rfl, ((B1.out.setCell (by simp) _).setCell (by simp) _).setCell (by simp) _⟩
set_option maxHeartbeats 1600000 in
set_option maxRecDepth 100000 in
theorem tofRef_any (k : ByteArray) (c n : Int) (v : ByteArray) (d : Bool) (w : World) (hk : k.size ≤ 140737488351232) :
    Calls Tryd.prog 59 #[.agg #[.string k, .int .i64 c, .int .i64 n, .string v, .bool d]] w fun e w' => e = .returned (.agg #[.int .i64 1, .int .u64 (of0 k c n), .int .u64 (of1 k c n)]) ∧ Below w.heap.size w w' := by
  have B0 := aside (bthen (bnew w (.cells #[.string k, .int .i64 c, .int .i64 n, .string v, .bool d] 55)) (bnew _ (.cells #[.int .i64 0, .int .u64 0, .int .u64 0] 40)))
  have G := aside (heap_alloc_new (w.alloc (.cells #[.string k, .int .i64 c, .int .i64 n, .string v, .bool d] 55)) (.cells #[.int .i64 0, .int .u64 0, .int .u64 0] 40))
  have hz : (w.alloc (.cells #[.string k, .int .i64 c, .int .i64 n, .string v, .bool d] 55)).heap.size = w.heap.size + 1 := by simp
  rw [hz] at G
  obtain ⟨x, hx⟩ : ∃ x, of0 k c n = x := ⟨_, rfl⟩
  obtain ⟨y, hy⟩ : ∃ y, of1 k c n = y := ⟨_, rfl⟩
  have CO : Hid (∀ W, Below w.heap.size w W → Calls Tryd.prog 75 #[.string k, .agg #[.int .i64 c, .int .i64 n]] W fun e w' => e = .returned (.agg #[.int .u64 x, .int .u64 y]) ∧ Below W.heap.size W w') := fun W bw => by
    rw [← hx, ← hy]
    exact ofRef_any k c n W hk
  rw [hx, hy]
  clear hz hx hy
  go_enter Tryd.func59, Tryd.ntmps59
  go_wp2_with fail
  generalize (w.alloc (.cells #[.string k, .int .i64 c, .int .i64 n, .string v, .bool d] 55)).alloc (.cells #[.int .i64 0, .int .u64 0, .int .u64 0] 40) = V at *
  refine (CO.out _ B0.out).mono ?_
  rintro e w1 ⟨rfl, b1⟩
  have B1 := aside (bthen B0.out b1)
  obtain ⟨s0, s1, s2, z0, z1, z2⟩ := tri (blk_on G.out b1)
  clear b1 G B0
  go_wp2
  exact bodyPost_ret (v := .agg #[.int .i64 1, .int .u64 x, .int .u64 y]) (by simp [results, Tryd.results59, go_sem, s0, s1, s2]) rfl ⟨rfl, ((B1.out.setCell (by simp) _).setCell (by simp) _).setCell (by simp) _⟩
end Go.Proofs.YtfkdhambbpkmpaaDoor
namespace Go.Proofs.YtfkdhambbpkmpaaDoor
open Go.RowKit
set_option linter.unusedVariables false
def f0 (e : En) : Int := of0 e.k e.c e.n
def f1 (e : En) : Int := of1 e.k e.c e.n
/-- What a list of entries comes to in one lane. -/
def allI (f : En → Int) (l : List En) : Int := IntKind.u64.wrap ((l.map f).sum)
theorem wrap_add (x y : Int) : IntKind.u64.wrap (IntKind.u64.wrap x + y) = IntKind.u64.wrap (x + y) := by
  rw [IntKind.wrap_u64, IntKind.wrap_u64, IntKind.wrap_u64]; omega
theorem allI_nil (f : En → Int) : allI f [] = 0 := by unfold allI; rw [IntKind.wrap_u64]; rfl
theorem allI_snoc (f : En → Int) (l : List En) (e : En) : allI f (l ++ [e]) = IntKind.u64.wrap (allI f l + f e) := by
  unfold allI
  rw [wrap_add, List.map_append, List.sum_append]
  simp
/-- What a list of entries comes to. -/
def talT (T : Nat → En) (n : Nat) : Value := .agg #[.int .i64 (n : Int), .int .u64 (allI f0 (firstE T n)), .int .u64 (allI f1 (firstE T n))]
/-- What is kept of the memory in All's loop. -/
structure TAll (w wr : World) (xn x0 x1 : Int) : Prop where
  below : Below w.heap.size w wr
  sz : w.heap.size + 2 ≤ wr.heap.size
  r : wr.heap[w.heap.size]? = some (.cells #[.int .i64 0, .int .u64 0, .int .u64 0] 40)
  s : wr.heap[w.heap.size + 1]? = some (.cells #[.int .i64 xn, .int .u64 x0, .int .u64 x1] 40)
theorem TAll.keep {w wr w2 : World} {xn x0 x1 : Int} (h : TAll w wr xn x0 x1) (b : Below wr.heap.size wr w2) : TAll w w2 xn x0 x1 :=
  ⟨h.below.trans (b.mono h.below.size), by have := b.size; have := h.sz; omega, blk_on h.r b, blk_on h.s b⟩
theorem TAll.drew {w wr : World} {xn x0 x1 : Int} (h : TAll w wr xn x0 x1) : TAll w wr.drew xn x0 x1 := ⟨h.below.drew, h.sz, h.r, h.s⟩
theorem TAll.set {w wr : World} {xn x0 x1 : Int} (h : TAll w wr xn x0 x1) (yn y0 y1 : Int) : TAll w (((wr.setCell ⟨w.heap.size + 1, 0, none⟩ (.int .i64 yn)).setCell ⟨w.heap.size + 1, 1, none⟩ (.int .u64 y0)).setCell ⟨w.heap.size + 1, 2, none⟩ (.int .u64 y1)) yn y0 y1 := by
  have s1 := heap_setCell_same wr (w.heap.size + 1) 0 _ _ (.int .i64 yn) h.s
  have s2 := heap_setCell_same _ (w.heap.size + 1) 1 _ _ (.int .u64 y0) s1
  have s3 := heap_setCell_same _ (w.heap.size + 1) 2 _ _ (.int .u64 y1) s2
  refine ⟨((h.below.setCell (by simp) _).setCell (by simp) _).setCell (by simp) _, by simpa using h.sz, ?_, s3⟩
  rw [heap_setCell_other _ _ _ _ (by simp), heap_setCell_other _ _ _ _ (by simp), heap_setCell_other _ _ _ _ (by simp)]; exact h.r
theorem tall_start (w : World) : TAll w ((w.alloc (.cells #[.int .i64 0, .int .u64 0, .int .u64 0] 40)).alloc (.cells #[.int .i64 0, .int .u64 0, .int .u64 0] 40)) 0 0 0 := by
  refine ⟨(bnew w _).alloc (by simp) _, by simp, blk_on (heap_alloc_new w _) (bnew _ _), ?_⟩
  have := heap_alloc_new (w.alloc (.cells #[.int .i64 0, .int .u64 0, .int .u64 0] 40)) (.cells #[.int .i64 0, .int .u64 0, .int .u64 0] 40)
  simpa using this
set_option maxHeartbeats 3200000 in
set_option maxRecDepth 100000 in
theorem tallRef_any (a : Option Addr) (len cap : Nat) (T : Nat → En) (w : World) (h : EntsIn w a len cap T) :
    Calls Tryd.prog 44 #[.slice a len cap] w fun e w' => e = .returned (talT T len) ∧ Below w.heap.size w w' := by
  have HE := aside h
  obtain ⟨hlc, hcm, -⟩ := h
  have hmx : (len : Int) ≤ 9223372036854775807 := by unfold maxLen at hcm; omega
  clear hlc hcm
  go_enter Tryd.func44, Tryd.ntmps44
  go_wp2
  go_loopw [4] (fun i wr => ∃ j : Nat, i = .int .i64 (j : Int) ∧ j ≤ len ∧ TAll w wr (j : Int) (allI f0 (firstE T j)) (allI f1 (firstE T j))) (fun i _ => len - (intOf i).toNat)
  case atStart =>
    refine ⟨0, rfl, Nat.zero_le _, ?_⟩
    rw [show firstE T 0 = [] from rfl, allI_nil, allI_nil]
    exact tall_start w
  case round =>
    obtain ⟨j, rfl, hj, S⟩ := hrel
    have HS := aside S
    by_cases hlt : (j : Int) < (len : Int)
    · have hE := HE.out.keep S.below
      rcases hE.2.2 with h0 | ⟨b, off, rfl, hb, hc⟩
      · omega
      · obtain ⟨⟨c0, c1, c2, c3, c4⟩, hkk⟩ := hc j (by omega)
        have e0 := allI_snoc f0 (firstE T j) (T j)
        have e1 := allI_snoc f1 (firstE T j) (T j)
        rw [← firstE_succ, f0] at e0
        rw [← firstE_succ, f1] at e1
        have E0 := aside e0
        have E1 := aside e1
        have hsz := S.sz
        obtain ⟨-, -, -, s1⟩ := S
        obtain ⟨p0, p1, p2, p3, p4, p5⟩ := tri s1
        generalize T j = t at *
        generalize allI f0 (firstE T j) = x0 at *
        generalize allI f1 (firstE T j) = x1 at *
        have hj0 : (0 : Int) ≤ (j : Int) := by omega
        have hjw : IntKind.i64.wrap ((j : Int) + 1) = (j : Int) + 1 := by rw [IntKind.wrap_i64]; omega
        obtain ⟨o0, ho0⟩ : ∃ o, of0 t.k t.c t.n = o := ⟨_, rfl⟩
        obtain ⟨o1, ho1⟩ : ∃ o, of1 t.k t.c t.n = o := ⟨_, rfl⟩
        rw [ho0] at E0
        rw [ho1] at E1
        obtain ⟨r0', hr0⟩ : ∃ o, IntKind.u64.wrap (x0 + o0) = o := ⟨_, rfl⟩
        obtain ⟨r1', hr1⟩ : ∃ o, IntKind.u64.wrap (x1 + o1) = o := ⟨_, rfl⟩
        rw [hr0] at E0
        rw [hr1] at E1
        have CO : Hid (∀ W, Below w.heap.size w W → Calls Tryd.prog 59 #[.agg #[.string t.k, .int .i64 t.c, .int .i64 t.n, .string t.v, .bool t.d]] W fun e w' => e = .returned (.agg #[.int .i64 1, .int .u64 o0, .int .u64 o1]) ∧ Below W.heap.size W w') := fun W bw => by
          rw [← ho0, ← ho1]
          exact tofRef_any _ _ _ _ _ W hkk
        have CJ := aside (fun W => joinRef_at hjw hr0 hr1 W)
        clear e0 e1 hc hE s1 ho0 ho1 hr0 hr1
        have HS4 := HS
        go_wp2_with fail
        go_region_with (first | (go_at_call 59; refine (CO.out _ HS4.out.drew.below).mono ?_; rintro e w1 ⟨rfl, b1⟩; have S5 := HS4.out.drew.keep b1; have HS5 := aside S5; obtain ⟨-, -, -, s5⟩ := S5; obtain ⟨q0, q1, q2, q3, q4, q5⟩ := tri s5; clear s5 b1) | (go_at_call 58; refine (CJ.out _).mono ?_; rintro e w2 ⟨rfl, b2⟩; have S6 := HS5.out.keep b2; have HS6 := aside S6; obtain ⟨-, -, -, s6⟩ := S6; obtain ⟨y0, y1, y2, y3, y4, y5⟩ := tri s6; clear s6 b2))
        all_goals
          go_wp2
          go_roundw
          case rel =>
            refine ⟨j + 1, by go_num, by omega, ?_⟩
            rw [E0.out, E1.out]
            exact HS6.out.set _ _ _
          case measure => simp [intOf]; omega
    · have hjl : j = len := by omega
      subst hjl
      obtain ⟨-, hsz, s1, s2⟩ := S
      obtain ⟨p0, p1, p2, p3, p4, p5⟩ := tri s1
      obtain ⟨q0, q1, q2, q3, q4, q5⟩ := tri s2
      clear s1 s2
      go_wp2
      exact bodyPost_ret (v := talT T j) (by simp [results, Tryd.results44, go_sem, p0, p1, p2, talT]) rfl ⟨rfl, ((HS.out.below.setCell (by simp) _).setCell (by simp) _).setCell (by simp) _⟩
end Go.Proofs.YtfkdhambbpkmpaaDoor
namespace Go.Proofs.YtfkdhambbpkmpaaDoor
theorem countP_lt {α : Type} (p q : α → Bool) : ∀ (S : List α) (x : α), (∀ z, p z = true → q z = true) → x ∈ S → p x = false → q x = true → S.countP p < S.countP q
  | s :: S, x, h, hm, hp, hq => by
    rcases List.mem_cons.1 hm with rfl | hm
    · have := List.countP_mono_left (p := p) (q := q) (l := S) (fun z _ hz => h z hz)
      simp [hp, hq]; omega
    · have := countP_lt p q S x h hm hp hq
      cases hs : p s
      · cases hs2 : q s <;> simp [hs, hs2] <;> omega
      · simp [hs, h s hs]; omega
/-- A text's place among some texts. -/
def rk (S : List (List UInt8)) (x : List UInt8) : Nat := S.countP fun z => Op.bytesLess z x
theorem rk_of_lt {S : List (List UInt8)} {x y : List UInt8} (hx : x ∈ S) (h : Op.bytesLess x y = true) : rk S x < rk S y :=
  countP_lt _ _ S x (fun z hz => L_trans z x y hz h) hx (L_irrefl x) h
theorem rk_lt {S : List (List UInt8)} {x y : List UInt8} (hx : x ∈ S) (hy : y ∈ S) : Op.bytesLess x y = decide (rk S x < rk S y) := by
  cases h : Op.bytesLess x y
  · cases h2 : Op.bytesLess y x
    · rw [L_total x y h h2]; simp
    · have := rk_of_lt hy h2
      symm; apply decide_eq_false; omega
  · have := rk_of_lt hx h
    symm; exact decide_eq_true this
theorem rk_eq {S : List (List UInt8)} {x y : List UInt8} (hx : x ∈ S) (hy : y ∈ S) : (x == y) = decide (rk S x = rk S y) := by
  by_cases e : x = y
  · subst e; simp
  · have h1 := rk_lt hx hy; have h2 := rk_lt hy hx
    have : rk S x ≠ rk S y := by
      intro e2
      apply e
      apply L_total
      · rw [h1]; apply decide_eq_false; omega
      · rw [h2]; apply decide_eq_false; omega
    rw [decide_eq_false this]
    simpa using e
end Go.Proofs.YtfkdhambbpkmpaaDoor
namespace Go.Proofs.YtfkdhambbpkmpaaDoor
open Go.RowKit Go.Shelf
attribute [local go_sem] Oper.semAt_some
/-- What has come when k rounds are over. -/
def upto {α : Type} (f : Nat → α) (k : Nat) : List α := (List.range k).map f
theorem upto_succ {α : Type} (f : Nat → α) (k : Nat) : upto f (k + 1) = upto f k ++ [f k] := by simp [upto, List.range_succ]
theorem upto_length {α : Type} (f : Nat → α) (k : Nat) : (upto f k).length = k := by simp [upto]
/-- The ranges T 0, T 1 .. lie one behind the other, three cells each, below n₀. -/
def RgsIn (n₀ : Nat) (w : World) (a : Option Addr) (len cap : Nat) (T : Nat → Rg) : Prop :=
  len ≤ cap ∧ len * 40 ≤ 281474976710656 ∧ (len = 0 ∨ ∃ blk off, a = some ⟨blk, off, none⟩ ∧ blk < n₀ ∧ ∀ i, i < len →
    (w.cell? ⟨blk, off + i * 3, none⟩ = some (.string (T i).lo) ∧ w.cell? ⟨blk, off + i * 3 + 1, none⟩ = some (.string (T i).hi) ∧ w.cell? ⟨blk, off + i * 3 + 2, none⟩ = some (.bool (T i).op)))
theorem RgsIn.below {n₀ : Nat} {A B : World} (h : Below n₀ A B) {a : Option Addr} {len cap : Nat} {T : Nat → Rg} (hr : RgsIn n₀ A a len cap T) : RgsIn n₀ B a len cap T := by
  obtain ⟨h1, h2, h3⟩ := hr
  refine ⟨h1, h2, ?_⟩
  rcases h3 with h3 | ⟨blk, off, e, hb, hc⟩
  · exact .inl h3
  · exact .inr ⟨blk, off, e, hb, fun i hi => ⟨(h.cell (p := ⟨blk, off + i * 3, none⟩) hb).trans (hc i hi).1, (h.cell (p := ⟨blk, off + i * 3 + 1, none⟩) hb).trans (hc i hi).2.1, (h.cell (p := ⟨blk, off + i * 3 + 2, none⟩) hb).trans (hc i hi).2.2⟩⟩
def pairV (x : Rg × Rg) : Array Value := #[.agg #[.string x.1.lo, .string x.1.hi, .bool x.1.op], .agg #[.string x.2.lo, .string x.2.hi, .bool x.2.op]]
/-- How a round may end: it goes on, or it says no more. -/
def wentOn (n₀ : Nat) (W : World) (J Jx : List (Rg × Rg) → World → Prop) (xs : List (Rg × Rg)) (q : Bool) (W' : World) : Prop :=
  (q = true ∧ J xs W' ∧ Below n₀ W W') ∨ (q = false ∧ Jx xs W')
theorem grown_drew0 (w : World) : w.grownBy w.drew none := ⟨rfl, rfl, rfl, Nat.le_refl _, fun _ _ _ => rfl⟩
set_option maxRecDepth 100000 in
set_option maxHeartbeats 4000000 in
theorem nb1_in (n : Nat) (hn : 1 ≤ n) (l Bs n₀ b off len cap : Nat) (T : Nat → Rg) (hreach : len * 40 ≤ 281474976710656) (hb : b < n₀) (hlen : 0 < len) (J Jx : List (Rg × Rg) → World → Prop)
    (hY : ∀ pre x W, J pre W → pre.length < len - 1 → YieldAt Fence.wide (n - 1) Tryd.prog l (pairV x) W fun e W' =>
      (e = .returned (.bool true) ∧ J (pre ++ [x]) W' ∧ Below n₀ W W') ∨ (e = .returned (.bool false) ∧ Jx (pre ++ [x]) W'))
    (W : World) (hJ : AbidesFrom W.heap.size J) (hBb : Bs < n₀) (hBs : W.cell? ⟨Bs, 0, none⟩ = some (.slice (some ⟨b, off, none⟩) len cap))
    (hc : ∀ i, i < len → (W.cell? ⟨b, off + i * 3, none⟩ = some (.string (T i).lo) ∧ W.cell? ⟨b, off + i * 3 + 1, none⟩ = some (.string (T i).hi) ∧ W.cell? ⟨b, off + i * 3 + 2, none⟩ = some (.bool (T i).op))) (h0 : J [] W) :
    CallsIn Fence.wide n Tryd.prog 93 #[.func (.yield l) #[] #[], .pointer (some ⟨Bs, 0, none⟩)] W fun e W' => (∃ v, e = .returned v) ∧
      ((∃ ys, ys = upto (fun j => (T j, T (j + 1))) (len - 1) ∧ J ys W') ∨ (∃ pre, (∃ k, k ≤ len - 1 ∧ pre = upto (fun j => (T j, T (j + 1))) k) ∧ Jx pre W')) := by
  refine callsIn_of_wp Tryd.func93 rfl trivial ?_ rfl
  simp only [Tryd.ntmps93, List.size_toArray, List.length_cons, List.length_nil, Nat.reduceAdd, Nat.reduceSub, Array.replicate_succ, Array.replicate_zero, List.push_toArray, List.append_toArray, List.nil_append, List.cons_append]
  gi_wp2
  gi_loopw [3] (fun i wr => ∃ k : Nat, k + 1 ≤ len ∧ i = .int .i64 ((k : Int) + 1) ∧ J (upto (fun j => (T j, T (j + 1))) k) wr ∧ Below n₀ W wr)
    (fun i _ => len - (intOf i).toNat)
  case atStart => exact ⟨0, by omega, rfl, h0, Below.refl _ _⟩
  case round =>
    obtain ⟨k, hk, rfl, hJs, hnx⟩ := hrel
    have hs := (hnx.cell (p := ⟨Bs, 0, none⟩) hBb).trans hBs
    by_cases hlt : k + 1 < len
    · obtain ⟨c0, c1, c2⟩ := hc k (by omega)
      obtain ⟨d0, d1, d2⟩ := hc (k + 1) (by omega)
      have c0' := (hnx.cell (p := ⟨b, off + k * 3, none⟩) hb).trans c0
      have c1' := (hnx.cell (p := ⟨b, off + k * 3 + 1, none⟩) hb).trans c1
      have c2' := (hnx.cell (p := ⟨b, off + k * 3 + 2, none⟩) hb).trans c2
      have d0' := (hnx.cell (p := ⟨b, off + (k + 1) * 3, none⟩) hb).trans d0
      have d1' := (hnx.cell (p := ⟨b, off + (k + 1) * 3 + 1, none⟩) hb).trans d1
      have d2' := (hnx.cell (p := ⟨b, off + (k + 1) * 3 + 2, none⟩) hb).trans d2
      obtain ⟨fn, tmps, assign, body, hy, hR⟩ := hY _ (T k, T (k + 1)) wr.drew (hJ _ _ _ none hJs (grown_drew0 wr) (fun r e => by cases e)) (by rw [upto_length]; omega)
      dsimp only [pairV] at hy
      have hQ := hR.mono (R' := fun e W' => ∃ q : Bool, e = .returned (.bool q) ∧ wentOn n₀ wr.drew J Jx (upto (fun j => (T j, T (j + 1))) k ++ [(T k, T (k + 1))]) q W') (fun e W' h => by
        rcases h with ⟨rfl, h1, h2⟩ | ⟨rfl, h1⟩
        · exact ⟨true, rfl, .inl ⟨rfl, h1, h2⟩⟩
        · exact ⟨false, rfl, .inr ⟨rfl, h1⟩⟩)
      clear hc c0 c1 c2 d0 d1 d2 hY hBs hR
      have hlt' : (k : Int) + 1 < (len : Int) := by omega
      have hk0 : (0 : Int) ≤ (k : Int) := by omega
      have hk1 : (k : Int) < (len : Int) := by omega
      have hk2 : (0 : Int) ≤ (k : Int) + 1 := by omega
      have hw2 : IntKind.i64.wrap (k : Int) = (k : Int) := by simp only [IntKind.wrap_i64]; omega
      gi_wp2
      gi_region_with (refine hQ.mono ?_; rintro e W3 ⟨q, rfl, hq⟩)
      all_goals
        clear hy hQ hw2
        rcases hq with ⟨rfl, hJ3, hk3⟩ | ⟨rfl, hJx3⟩
        · gi_wp2
          go_roundw
          case rel => exact ⟨k + 1, by omega, by go_num, by rw [upto_succ]; exact hJ3, hnx.drew.trans hk3⟩
          case measure => simp [intOf]; omega
        · gi_wp2
          refine bodyPost_ret (results_none rfl _ _ _) rfl ?_
          exact ⟨⟨_, rfl⟩, .inr ⟨_, ⟨k + 1, by omega, (upto_succ _ _).symm⟩, hJx3⟩⟩
    · obtain rfl : len = k + 1 := by omega
      have hge : ¬ ((k : Int) + 1 < ((k + 1 : Nat) : Int)) := by omega
      gi_wp2
      go_end0
      exact ⟨⟨_, rfl⟩, .inl hJs⟩
set_option maxRecDepth 100000 in
set_option maxHeartbeats 1000000 in
/-- No range: no round. -/
theorem nb1_nil_in (n : Nat) (l Bs cap : Nat) (a : Option Addr) (J : List (Rg × Rg) → World → Prop) (W : World) (hBs : W.cell? ⟨Bs, 0, none⟩ = some (.slice a 0 cap)) (h0 : J [] W) :
    CallsIn Fence.wide n Tryd.prog 93 #[.func (.yield l) #[] #[], .pointer (some ⟨Bs, 0, none⟩)] W fun e W' => (∃ v, e = .returned v) ∧ J [] W' := by
  refine callsIn_of_wp Tryd.func93 rfl trivial ?_ rfl
  simp only [Tryd.ntmps93, List.size_toArray, List.length_cons, List.length_nil, Nat.reduceAdd, Nat.reduceSub, Array.replicate_succ, Array.replicate_zero, List.push_toArray, List.append_toArray, List.nil_append, List.cons_append]
  gi_wp2
  gi_loopw [3] (fun i wr => i = .int .i64 1 ∧ wr = W) (fun _ _ => 0)
  case atStart => exact ⟨rfl, rfl⟩
  case round =>
    obtain ⟨rfl, rfl⟩ := hrel
    gi_wp2
    go_end0
    exact ⟨⟨_, rfl⟩, h0⟩
set_option maxHeartbeats 1000000 in
/-- neighbours: the slice is boxed; the function value captures the box. -/
theorem nb_in (n : Nat) (a : Option Addr) (len cap : Nat) (w : World) :
    CallsIn Fence.wide n Tryd.prog 91 #[.slice a len cap] w fun e w' => e = .returned (.func (.func 93) #[] #[.pointer (some ⟨w.heap.size, 0, none⟩)]) ∧ w' = w.alloc (.cells #[.slice a len cap] 61) := by
  refine callsIn_of_wp Tryd.func91 rfl trivial ?_ rfl
  simp only [Tryd.ntmps91, List.size_toArray, List.length_cons, List.length_nil, Nat.reduceAdd, Nat.reduceSub, Array.replicate_succ, Array.replicate_zero, List.push_toArray, List.append_toArray, List.nil_append, List.cons_append]
  gi_wp2
  go_ret
  exact ⟨rfl, rfl⟩
/-- The pairs, in their order; or the first k of them, where a round has said no more. -/
theorem nb_stops (n : Nat) (hn : 1 ≤ n) (Bs n₀ : Nat) (a : Option Addr) (len cap : Nat) (T : Nat → Rg) (w : World) (hBs : Bs < n₀) (hn₀ : n₀ ≤ w.heap.size)
    (hc : w.cell? ⟨Bs, 0, none⟩ = some (.slice a len cap)) (hI : RgsIn n₀ w a len cap T) :
    SeqStopsK Fence.wide n Tryd.prog 93 #[.pointer (some ⟨Bs, 0, none⟩)] pairV (Below n₀) (fun ys => ys = upto (fun j => (T j, T (j + 1))) (len - 1))
      (fun pre => ∃ k, k ≤ len - 1 ∧ pre = upto (fun j => (T j, T (j + 1))) k) (len - 1) w := fun l J Jx W hW hJ _ hY h0 => by
  have hc' := (hW.cell (p := ⟨Bs, 0, none⟩) (Nat.lt_of_lt_of_le hBs hn₀)).trans hc
  obtain ⟨h1, h2, h3⟩ := hI.below (hW.mono hn₀)
  by_cases h0l : len = 0
  · subst h0l
    exact (nb1_nil_in n l Bs cap a J W hc' h0).mono fun e W' ⟨he, hj⟩ => ⟨he, .inl ⟨_, rfl, hj⟩⟩
  · rcases h3 with h3 | ⟨b, off, rfl, hb, hcs⟩
    · exact absurd h3 h0l
    · exact nb1_in n hn l Bs n₀ b off len cap T (by omega) hb (by omega) J Jx hY W hJ hBs hc' hcs h0
end Go.Proofs.YtfkdhambbpkmpaaDoor
namespace Go.Proofs.YtfkdhambbpkmpaaDoor
open Go.RowKit
/-- A block of three cells, as the walk asks for it. -/
theorem box_out {W : World} {k : Nat} {a b c : Value} {t : TypeId} (h : W.heap[k]? = some (.cells #[a, b, c] t (0, 0))) :
    (W.cell? ⟨k, 0, none⟩ = some a ∧ W.cell? ⟨k, 1, none⟩ = some b ∧ W.cell? ⟨k, 2, none⟩ = some c) ∧ (W.frozen? ⟨k, 0, none⟩ = false ∧ W.frozen? ⟨k, 1, none⟩ = false ∧ W.frozen? ⟨k, 2, none⟩ = false) := by
  simp [World.cell?, World.frozen?, h]
theorem empty_at {lo hi : ByteArray} {op m : Bool} (h : Rg.emp ⟨lo, hi, op⟩ = m) (w : World) :
    Calls Tryd.prog 90 #[.agg #[.string lo, .string hi, .bool op]] w fun e w' => e = .returned (.bool m) ∧ Below w.heap.size w w' := by
  subst h; exact empty_any lo hi op w
theorem heap_new (w : World) (o : Obj) : (w.alloc o).heap[w.heap.size]? = some o := heap_alloc_new w o
theorem lies {w : World} {k : Nat} {o : Obj} (h : w.heap[k]? = some o) : k < w.heap.size := (Array.getElem?_eq_some_iff.1 h).1
theorem keep {k : Nat} {w1 w2 : World} {o : Obj} (h : w1.heap[k]? = some o) (b : Below w1.heap.size w1 w2) : w2.heap[k]? = some o :=
  (b.block k (Array.getElem?_eq_some_iff.1 h).1).trans h
theorem keepA {k : Nat} {w1 : World} {o p : Obj} (h : w1.heap[k]? = some o) : (w1.alloc p).heap[k]? = some o :=
  (Below.heap_alloc w1 p k (Array.getElem?_eq_some_iff.1 h).1).trans h
end Go.Proofs.YtfkdhambbpkmpaaDoor
namespace Go.Proofs.YtfkdhambbpkmpaaDoor
open Go.RowKit
/-- Is one of the first n ranges empty? -/
def anyE (T : Nat → Rg) (n : Nat) : Bool := (List.range n).any fun i => (T i).emp
theorem anyE_false {T : Nat → Rg} {n : Nat} (h : ∀ j, j < n → (T j).emp = false) : anyE T n = false := by
  simp only [anyE, List.any_eq_false, List.mem_range]
  intro j hj; simp [h j hj]
theorem anyE_true {T : Nat → Rg} {n j : Nat} (hj : j < n) (h : (T j).emp = true) : anyE T n = true := by
  simp only [anyE, List.any_eq_true, List.mem_range]
  exact ⟨j, hj, h⟩
set_option maxRecDepth 100000 in
set_option maxHeartbeats 2000000 in
theorem idx_any (a : Option Addr) (len cap : Nat) (T : Nat → Rg) (w : World) (h : RgsIn w.heap.size w a len cap T) :
    Calls Tryd.prog 92 #[.slice a len cap, .func (.func 90) #[] #[]] w fun e w' => ∃ i : Int, e = .returned (.int .i64 i) ∧ decide (0 ≤ i) = anyE T len ∧ Below w.heap.size w w' := by
  obtain ⟨hlc, hcm, hh⟩ := h
  go_enter Tryd.func92, Tryd.ntmps92
  go_wp2
  go_loopw [8] (fun i wr => ∃ k : Nat, k ≤ len ∧ i = .int .i64 (k : Int) ∧ Hid (∀ j, j < k → (T j).emp = false) ∧ Below w.heap.size w wr) (fun i _ => len - (intOf i).toNat)
  case atStart => exact ⟨0, Nat.zero_le _, rfl, fun j hj => by omega, Below.refl _ _⟩
  case round =>
    obtain ⟨k, hk, rfl, hall, hnx⟩ := hrel
    by_cases hlt : (k : Int) < (len : Int)
    · rcases hh with hh | ⟨b, off, rfl, hb, hc⟩
      · omega
      · obtain ⟨c0, c1, c2⟩ := hc k (by omega)
        have c0' := (hnx.cell (p := ⟨b, off + k * 3, none⟩) hb).trans c0
        have c1' := (hnx.cell (p := ⟨b, off + k * 3 + 1, none⟩) hb).trans c1
        have c2' := (hnx.cell (p := ⟨b, off + k * 3 + 2, none⟩) hb).trans c2
        clear hc c0 c1 c2
        have hk0 : (0 : Int) ≤ (k : Int) := by omega
        cases he : Rg.emp ⟨(T k).lo, (T k).hi, (T k).op⟩
        · have CE := aside (fun w => empty_at he w)
          have HE := aside (show (T k).emp = false from he)
          clear he
          go_wp2_with fail
          refine (CE.out _).mono ?_
          rintro e w1 ⟨rfl, b1⟩
          have hn2 := hnx.trans (b1.mono hnx.size)
          clear c0' c1' c2' CE b1
          go_wp2
          go_roundw
          case rel => exact ⟨k + 1, by omega, by go_num, fun j hj => by
            by_cases e : j = k
            · rw [e]; exact HE.out
            · exact hall.out j (by omega), hn2⟩
          case measure => simp [intOf]; omega
        · have CE := aside (fun w => empty_at he w)
          have HE := aside (show (T k).emp = true from he)
          clear he
          go_wp2_with fail
          refine (CE.out _).mono ?_
          rintro e w1 ⟨rfl, b1⟩
          have hn2 := hnx.trans (b1.mono hnx.size)
          clear c0' c1' c2' CE b1
          go_wp2
          go_ret
          exact ⟨(k : Int), rfl, by rw [anyE_true (j := k) (by omega) HE.out]; exact decide_eq_true hk0, hn2⟩
    · obtain rfl : len = k := by omega
      go_wp2
      go_ret
      exact ⟨-1, rfl, by rw [anyE_false hall.out]; rfl, hnx⟩
set_option maxRecDepth 100000 in
set_option maxHeartbeats 1000000 in
theorem contains_any (a : Option Addr) (len cap : Nat) (T : Nat → Rg) (w : World) (h : RgsIn w.heap.size w a len cap T) :
    Calls Tryd.prog 89 #[.slice a len cap, .func (.func 90) #[] #[]] w fun e w' => e = .returned (.bool (anyE T len)) ∧ Below w.heap.size w w' := by
  have C := aside (fun w h => idx_any a len cap T w h)
  have H := aside h
  clear h
  go_enter Tryd.func89, Tryd.ntmps89
  go_wp2_with fail
  refine (C.out _ H.out).mono ?_
  rintro e w1 ⟨i, rfl, hi, b1⟩
  have HI := aside hi
  clear hi C H
  go_wp2
  go_ret
  exact ⟨ret_bool HI.out, b1⟩
end Go.Proofs.YtfkdhambbpkmpaaDoor
