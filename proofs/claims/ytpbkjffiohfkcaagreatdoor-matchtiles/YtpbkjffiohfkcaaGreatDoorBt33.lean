/-
  Ranges of the document: a range split at keys, where there are enough.
-/
import Derived.Test.YtpbkjffiohfkcaaGreatDoorBt1
import Derived.Test.YtpbkjffiohfkcaaGreatDoorBt29
import Derived.Test.YtpbkjffiohfkcaaGreatDoorBt14
import Derived.Test.YtpbkjffiohfkcaaGreatDoorBt26
import Derived.Test.YtpbkjffiohfkcaaGreatDoorBt32
import Derived.Test.YtpbkjffiohfkcaaGreatDoorBt20
namespace Go.Proofs.YtpbkjffiohfkcaaGreatDoor
open Go.RowKit
set_option linter.unusedVariables false
set_option maxHeartbeats 6400000 in
set_option maxRecDepth 100000 in
theorem rranges_ok (lo hi : ByteArray) (op : Bool) (a : Option Addr) (n cap : Nat) (S : Nat → ByteArray) (q : Nat) (w : World) (h : StrsIn w.heap.size w a n cap S) (hch : Rg.chk ⟨lo, hi, op⟩ = 0) (hke : keyE S n = 0) (hal : allK ⟨lo, hi, op⟩ S n = true) (hqn : q + 1 ≤ n) (hn : n ≤ 256) :
    Calls Tryz.prog 79 #[.agg #[.string lo, .string hi, .bool op], .slice a n cap, .int .i64 ((q : Int) + 1)] w fun e w' => ∃ g cp, e = .returned (.tuple #[.slice (some ⟨g, 0, none⟩) (q + 1) cp, .int .i64 0]) ∧ w'.ownsRow w.heap.size 40 3 (.slice (some ⟨g, 0, none⟩) (q + 1) cp) (q + 1) (rgCells (piece ⟨lo, hi, op⟩ (bdr n (q + 1) S) q) (q + 1)) ∧ g < w'.heap.size ∧ Below w.heap.size w w' := by
 have HS := aside h
 clear h
 obtain ⟨i0, hi0, hz0, hz1, hz2⟩ := info_parts info23
 go_enter Tryz.func79, Tryz.ntmps79
 go_wp2_with fail
 refine (checkRef_at hch _).mono ?_
 rintro e w1 ⟨rfl, b1⟩
 have X1 := aside b1
 clear b1
 obtain ⟨hbx, hnx⟩ := box_after X1.out
 obtain ⟨⟨q0, q1, q2⟩, -⟩ := box_out hbx
 have B1 := aside hnx
 clear hbx hnx
 go_wp2_with fail
 refine (rrise_any a n cap S _ (HS.out.up B1.out B1.out.size)).mono ?_
 rw [hke]
 rintro e w2 ⟨rfl, b2⟩
 have X2 := aside (X1.out.trans (b2.mono X1.out.size))
 clear b2 q0 q1 q2
 obtain ⟨hbx, hnx⟩ := box_after X2.out
 obtain ⟨⟨q0, q1, q2⟩, -⟩ := box_out hbx
 have B2 := aside hnx
 clear hbx hnx
 go_wp2
 clear q0 q1 q2
 go_loopw [9] (fun i wr => ∃ k : Nat, k ≤ n ∧ i = .int .i64 (k : Int) ∧ Hid (∀ j, j < k → Rg.has ⟨lo, hi, op⟩ (S j) = true) ∧ Hid (Below (w.alloc (.cells #[.string lo, .string hi, .bool op] 40)).heap.size (w.alloc (.cells #[.string lo, .string hi, .bool op] 40)) wr)) (fun i _ => n - (intOf i).toNat)
 case atStart => exact ⟨0, Nat.zero_le _, rfl, fun j hj => by omega, X2⟩
 case round =>
  obtain ⟨k, hk, rfl, hall, HX⟩ := hrel
  obtain ⟨hbx, hnx⟩ := box_after HX.out
  obtain ⟨⟨q0, q1, q2⟩, -⟩ := box_out hbx
  have B3 := aside hnx
  by_cases hlt : (k : Int) < (n : Int)
  ·rcases HS.out.2.2 with hh | ⟨b, off, rfl, hb, hc⟩
   ·omega
   have c0 := (hnx.cell (p := ⟨b, off + k, none⟩) hb).trans (hc k (by omega))
   have hk0 : (0 : Int) ≤ (k : Int) := by omega
   have hqw : IntKind.i64.wrap ((k : Int) + 1) = (k : Int) + 1 := by rw [IntKind.wrap_i64]; have := HS.out.2.1; omega
   have KN := aside (show k < n from by omega)
   have hlc := HS.out.1
   clear hc hnx hbx
   obtain ⟨x, hx⟩ : ∃ x, Rg.has ⟨lo, hi, op⟩ (S k) = x := ⟨_, rfl⟩
   have HC := aside (fun w => holdsRef_any lo hi op (S k) w)
   rw [hx] at HC
   go_wp2_with fail
   refine wp_region_held_drew (S := fun X => X.cell? ⟨w.heap.size, 0, none⟩ = some (.string lo) ∧ X.cell? ⟨w.heap.size, 1, none⟩ = some (.string hi) ∧ X.cell? ⟨w.heap.size, 2, none⟩ = some (.bool op) ∧ X.cell? ⟨b, off + k, none⟩ = some (.string (S k)) ∧ Hid (Below (w.alloc (.cells #[.string lo, .string hi, .bool op] 40)).heap.size (w.alloc (.cells #[.string lo, .string hi, .bool op] 40)) X ∧ b < w.heap.size)) (by kernel_rfl) ⟨q0, q1, q2, c0, aside ⟨HX.out.drew, hb⟩⟩ (fun hHeld => ?_)
   refine tk 0 rfl _ ?_; refine tk 1 rfl _ ?_; refine tk 2 rfl _ ?_; refine tk 3 rfl _ ?_; refine tk 4 rfl _ ?_
   refine rd 5 rfl fun K hK => ?_
   go_simp
   refine (HC.out _).mono ?_
   rintro e w9 ⟨rfl, bb⟩
   refine hK.out _ _ (⟨cell_on hHeld.1 bb, cell_on hHeld.2.1 bb, cell_on hHeld.2.2.1 bb, cell_on hHeld.2.2.2.1 bb, aside ⟨hHeld.2.2.2.2.out.1.trans (bb.mono hHeld.2.2.2.2.out.1.size), hHeld.2.2.2.2.out.2⟩⟩) (fun hHeld => ?_)
   clear hK K 
   refine tk 6 rfl _ ?_
   refine wpAnyH_done (by kernel_rfl) ?_ _
   have HY := aside hHeld.2.2.2.2.out.1
   clear hHeld q0 q1 q2 c0 HC
   cases x
   ·exact absurd hx (by rw [allK_at hal KN.out]; simp)
   ·have HA := aside (show ∀ j, j < k + 1 → Rg.has ⟨lo, hi, op⟩ (S j) = true from fun j hj => by
      by_cases e : j = k
      ·rw [e]; exact hx
      ·exact hall.out j (by omega))
    go_wp2
    go_roundw
    case rel => exact ⟨k + 1, by omega, by go_num, HA, HY⟩
    case measure => simp [intOf]; omega
  ·obtain rfl : n = k := by omega
   clear hbx hnx
   clear q0 q1 q2
   go_wp2_with fail
   refine (rborders_ok a n cap q S _ (HS.out.up B3.out B3.out.size) hke hqn hn).mono ?_
   rintro e w4 ⟨g4, c4, rfl, o4, l4, b4⟩
   have J4 := aside (strs_own o4 (by omega))
   have X4 := aside (HX.out.trans (b4.mono HX.out.size))
   have hq4 := J4.out.1
   have L4 := aside l4
   clear b4 o4 l4
   obtain ⟨hbx, hnx⟩ := box_after X4.out
   obtain ⟨⟨q0, q1, q2⟩, -⟩ := box_out hbx
   have B4 := aside hnx
   have HBX := aside hbx
   clear hbx hnx
   have HO0 : Hid ((w4.alloc (.cells #[] 40)).ownsRow w4.heap.size 40 3 (.slice (some ⟨w4.heap.size, 0, none⟩) 0 0) 0 []) := aside (World.ownsRow_made w4 #[] 0 (Nat.le_refl _) (Nat.zero_le _) rfl)
   have HB0 := aside (bnew w4 (.cells #[] 40))
   have k0 := cell_on q0 HB0.out
   go_wp2
   clear q0 q1 q2 k0
   generalize wr = Y at *
   go_loopw [12, 13, 14] (fun v l i wr => ∃ g k cp, k ≤ q ∧ v = .slice (some ⟨g, 0, none⟩) k cp ∧ l = .string (cutLo lo (bdr n (q + 1) S) k) ∧ i = .int .i64 ((k : Nat) : Int) ∧ wr.ownsRow w4.heap.size 40 3 (.slice (some ⟨g, 0, none⟩) k cp) k (rgCells (fun j => ⟨cutLo lo (bdr n (q + 1) S) j, bdr n (q + 1) S j, false⟩) k) ∧ Below w4.heap.size w4 wr) (fun _ _ i _ => q - (intOf i).toNat)
   case atStart => exact ⟨_, 0, _, Nat.zero_le _, rfl, rfl, rfl, HO0.out, HB0.out⟩
   case round =>
    obtain ⟨g, k, cp, hk, rfl, rfl, rfl, hown, hnx⟩ := hrel
    have HNX := aside hnx
    have HNS := aside hnx.size
    by_cases hlt : (k : Int) < (q : Int)
    ·rcases J4.out.2.2 with h0 | ⟨b, off, e1, hb, hc⟩
     ·omega
     injection e1 with e1
     injection e1 with e2 e3
     subst e2 e3
     have c0 := (hnx.cell (p := ⟨g4, 0 + k, none⟩) hb).trans (hc k (by omega))
     rw [Nat.zero_add] at c0
     have HS1 := aside (show rgCells (fun j => ⟨cutLo lo (bdr n (q + 1) S) j, bdr n (q + 1) S j, false⟩) (k + 1) = rgCells (fun j => ⟨cutLo lo (bdr n (q + 1) S) j, bdr n (q + 1) S j, false⟩) k ++ [.string (cutLo lo (bdr n (q + 1) S) k), .string (bdr n (q + 1) S k), .bool false] from rfl)
     have HS2 := aside (show cutLo lo (bdr n (q + 1) S) (k + 1) = bdr n (q + 1) S k from rfl)
     have hk0 : (0 : Int) ≤ (k : Int) := by omega
     have hqw : IntKind.i64.wrap ((k : Int) + 1) = (k : Int) + 1 := by rw [IntKind.wrap_i64]; omega
     generalize cutLo lo (bdr n (q + 1) S) k = y at *
     generalize bdr n (q + 1) S k = z at *
     clear hc hnx
     go_wp2_with (at_builtin; refine wpList_append_lies _ rfl _ _ _ rfl w4.heap.size 40 i0 (.agg #[.string ⟨#[]⟩, .string ⟨#[]⟩, .bool false]) 3 40 Tryz.underlying67 hi0 hz0 hz1 hz2 rfl (by decide) _ _ _ (by rfl) (hown.alloc _) ⟨wr.heap.size, 0, none⟩ 1 1 [.string y, .string z, .bool false] (by rfl) (by rfl) (World.news_of_block (cs := #[.string y, .string z, .bool false]) (t := 40) (fr := (0, 0)) (heap_alloc_new wr _)) (by simp [Value.oneCell']) (by omega) (by unfold maxLen; omega) (by omega) (by have := HNS.out; simp; omega) (wr.heap.size + 1) (by simp) ?_; intro g5 cp5 w5 hown1 hgrow hat hlt1; refine Hid.out ?_)
     refine aside ?_
     have HO := aside (show w5.ownsRow w4.heap.size 40 3 (.slice (some ⟨g5, 0, none⟩) (k + 1) cp5) (k + 1) (rgCells (fun j => ⟨cutLo lo (bdr n (q + 1) S) j, bdr n (q + 1) S j, false⟩) (k + 1)) from by rw [HS1.out]; exact hown1)
     have HY := aside (show Below w4.heap.size w4 w5 from (HNX.out.alloc HNX.out.size _).grown hgrow (by have := HNX.out.size; simp; omega) (fun j hj => (hown.lt j hj).1))
     have c5 : w5.cell? ⟨g4, k, none⟩ = some (.string z) := by
      rcases J4.out.2.2 with h0 | ⟨b, off, e1, hb, hc⟩
      ·omega
      injection e1 with e1
      injection e1 with e2 e3
      subst e2 e3
      have := (HY.out.cell (p := ⟨g4, 0 + k, none⟩) hb).trans (hc k (by omega))
      rw [Nat.zero_add] at this
      rw [this, ← HS2.out]
      rfl
     clear hown hown1 hgrow hat hlt1 c0
     go_wp2
     go_roundw
     case rel => exact ⟨g5, k + 1, cp5, by omega, by rfl, by rw [HS2.out], by go_num, HO.out, HY.out⟩
     case measure => simp [intOf]; omega
    ·obtain rfl : q = k := by omega
     obtain ⟨⟨q0, q1, q2⟩, -⟩ := box_out (keep HBX.out HNX.out)
     clear hnx
     go_wp2_with (at_builtin; refine wpList_append_lies _ rfl _ _ _ rfl w4.heap.size 40 i0 (.agg #[.string ⟨#[]⟩, .string ⟨#[]⟩, .bool false]) 3 40 Tryz.underlying67 hi0 hz0 hz1 hz2 rfl (by decide) _ _ _ (by rfl) (hown.alloc _) ⟨wr.heap.size, 0, none⟩ 1 1 [.string (cutLo lo (bdr n (q + 1) S) q), .string hi, .bool op] (by rfl) (by rfl) (World.news_of_block (cs := #[.string (cutLo lo (bdr n (q + 1) S) q), .string hi, .bool op]) (t := 40) (fr := (0, 0)) (heap_alloc_new wr _)) (by simp [Value.oneCell']) (by omega) (by unfold maxLen; omega) (by omega) (by have := HNS.out; simp; omega) (wr.heap.size + 1) (by simp) ?_; intro g5 cp5 w5 hown1 hgrow hat hlt1; refine Hid.out ?_)
     refine aside ?_
     have HO := aside (show w5.ownsRow w.heap.size 40 3 (.slice (some ⟨g5, 0, none⟩) (q + 1) cp5) (q + 1) (rgCells (piece ⟨lo, hi, op⟩ (bdr n (q + 1) S) q) (q + 1)) from by
      rw [show rgCells (piece ⟨lo, hi, op⟩ (bdr n (q + 1) S) q) (q + 1) = rgCells (fun j => ⟨cutLo lo (bdr n (q + 1) S) j, bdr n (q + 1) S j, false⟩) q ++ [.string (cutLo lo (bdr n (q + 1) S) q), .string hi, .bool op] from by
       simp only [rgCells]
       rw [rgCells_congr (f := piece ⟨lo, hi, op⟩ (bdr n (q + 1) S) q) (g := (fun j => ⟨cutLo lo (bdr n (q + 1) S) j, bdr n (q + 1) S j, false⟩)) (fun i hi => by simp [piece, hi])]
       simp [piece]]
      exact row_base hown1 B4.out.size)
     have HY := aside (show Below w4.heap.size w4 w5 from (HNX.out.alloc HNX.out.size _).grown hgrow (by have := HNX.out.size; simp; omega) (fun j hj => (hown.lt j hj).1))
     clear hown hown1 hgrow hat q0 q1 q2
     go_wp2
     exact bodyPost_ret (v := .tuple #[.slice (some ⟨g5, 0, none⟩) (q + 1) cp5, .int .i64 0]) (by simp [results, Tryz.results79, go_sem]) rfl ⟨g5, cp5, rfl, HO.out, hlt1, bthen B4.out HY.out⟩
theorem strCells_snoc (l : List ByteArray) (s : ByteArray) : strCells (l ++ [s]) = strCells l ++ [.string s] := by simp [strCells]
theorem infoKey : (Tryz.prog.info? 9).map (fun i => (i.zero, i.size, i.bytes)) = some (some (.string ⟨#[]⟩), 1, 16) := by kernel_rfl
theorem op_append_key {w : World} {o : Oper} {act : Act} {K : Act → World → Prop} {Q : Exit → Act → World → Prop} (s x : Operand)
    (ho : o.op = .call { callee := .builtin .append, args := #[s, x], argTypes := #[143, 143] })
    (B n : Nat) (v : Value) (l : List ByteArray) (hs : act.eval s = v) (hown : w.ownsRow B 9 1 v n (strCells l)) (b c : Nat) (t : ByteArray) (hx : act.eval x = .slice (some ⟨b, 0, none⟩) 1 c)
    (hb : w.heap[b]? = some (.cells #[.string t] 9 (0, 0))) (hlen : n * 16 ≤ 140737488351232) (hB : B ≤ w.heap.size)
    (h : ∀ v' w', w'.ownsRow B 9 1 v' (n + 1) (strCells (l ++ [t])) → w.grownBy w' v.ownBlock → K (act.put o.dst v') w') : o.wp Tryz.prog act w K Q := by
 obtain ⟨i0, hi, hz0, hz1, hz2⟩ := info_parts infoKey
 refine wp_append_own w s x _ ho B 9 i0 _ 1 16 Tryz.underlying143 hi hz0 hz1 hz2 rfl (by decide) _ _ _ hs hown ⟨b, 0, none⟩ 1 c [.string t] hx rfl ?_ (fun u hu => by rw [List.mem_singleton] at hu; subst hu; rfl) (by unfold maxLen; omega) (by omega) hB ?_
 ·exact World.news_of_block (cs := #[.string t]) (t := 9) (fr := (0, 0)) hb
 ·intro v' w' ho' hg _
  rw [← strCells_snoc] at ho'
  exact h v' w' ho' hg
theorem keys_take {m : List En} {j : Nat} (h : j < m.length) : (m.map (fun e => e.k)).take j ++ [(nthE m j).k] = (m.map (fun e => e.k)).take (j + 1) := by
 have e := nthE_get h
 rw [List.take_add_one, List.getElem?_map, e]
 rfl
set_option maxHeartbeats 8000000 in
set_option maxRecDepth 100000 in
theorem rsplit_ok (r : Rg) (q : Nat) {w : World} {B db : Nat} {nd ck : Int} {l : List En} (h : DSt w B db nd ck l) (hm : MapL l) (hl : l.length ≤ 256) (hc : r.chk = 0) (hq : q + 1 ≤ (keysIn r l).length) :
    Calls Tryz.prog 45 #[.pointer (some ⟨db, 0, none⟩), .agg #[.string r.lo, .string r.hi, .bool r.op], .int .i64 ((q : Int) + 1)] w fun e w' => ∃ g cp, e = .returned (.tuple #[.slice (some ⟨g, 0, none⟩) (q + 1) cp, .int .i64 0]) ∧ w'.ownsRow w.heap.size 40 3 (.slice (some ⟨g, 0, none⟩) (q + 1) cp) (q + 1) (rgCells (cutR r l q) (q + 1)) ∧ Below w.heap.size w w' := by
 have B0 := aside (bnew w (.cells #[.string r.lo, .string r.hi, .bool r.op] 40))
 have K0 := aside (heap_alloc_new w (.cells #[.string r.lo, .string r.hi, .bool r.op] 40))
 have CA := aside (rallS r.lo r.hi r.op (h.below B0.out) hm (by omega))
 rw [show Rg.chk ⟨r.lo, r.hi, r.op⟩ = 0 from hc, outL_ok _ rfl] at CA
 have HKM := aside (keysIn_map hm hc)
 have HIM := aside (show MapL (inL r l) from mapL_sub hm List.filter_sublist)
 have HIL := aside (show (inL r l).length ≤ 256 from Nat.le_trans (inL_len _ _) hl)
 have CR := aside (fun (W : World) (a : Option Addr) (c : Nat) (hs : StrsIn W.heap.size W a (keysIn r l).length c (nthS (keysIn r l))) => rranges_ok r.lo r.hi r.op a (keysIn r l).length c (nthS (keysIn r l)) q W hs hc (keys_keyE hm) (keys_allK hm hc) hq (Nat.le_trans (keysIn_le _ _) hl))
 have CA2 := aside (show Calls Tryz.prog 39 #[.pointer (some ⟨db, 0, none⟩), .agg #[.string r.lo, .string r.hi, .bool r.op]] (w.alloc (.cells #[.string r.lo, .string r.hi, .bool r.op] 40)) _ from CA.out)
 clear CA h hm hl hc hq
 obtain ⟨m, hmm⟩ : ∃ m, inL r l = m := ⟨_, rfl⟩
 rw [show inL ⟨r.lo, r.hi, r.op⟩ l = m from hmm] at CA2
 rw [hmm] at HKM HIM HIL
 clear hmm
 obtain ⟨rb, hrb⟩ : ∃ rb, w.heap.size = rb := ⟨_, rfl⟩
 have HRB := aside hrb
 rw [hrb] at K0
 obtain ⟨X, hX⟩ : ∃ X, w.alloc (.cells #[.string r.lo, .string r.hi, .bool r.op] 40) = X := ⟨_, rfl⟩
 rw [hX] at B0 K0 CA2
 obtain ⟨r0, r1, r2⟩ := box3r K0.out
 go_enter Tryz.func45, Tryz.ntmps45
 go_wp2_with fail
 refine CA2.out.mono ?_
 rintro e w1 ⟨b1, v1, rfl, o1⟩
 obtain ⟨a1, c1, rfl, hE1⟩ := own_ents o1 (fun e he => key_small (HIM.out.chk e he))
 have HE1 := aside hE1
 have B1 := aside (bthen B0.out b1)
 have K1 := aside (blk_on K0.out b1)
 have hmx : (m.length : Int) ≤ 256 := by have := HIL.out; omega
 clear b1 o1 hE1 CA2 B0 K0 r0 r1 r2 hX X
 go_wp2_with fail
 go_loopw [10, 21] (fun v i wr => ∃ j : Nat, i = .int .i64 (j : Int) ∧ j ≤ m.length ∧ Hid (wr.ownsRow w1.heap.size 9 1 v j (strCells ((m.map (fun e => e.k)).take j))) ∧ Hid (Below w1.heap.size w1 wr)) (fun v i _ => m.length - (intOf i).toNat)
 case atStart => exact ⟨0, rfl, Nat.zero_le _, aside ⟨rfl, .inl ⟨rfl, rfl⟩⟩, aside (Below.refl _ _)⟩
 case round =>
  obtain ⟨j, rfl, hj, HO, HB⟩ := hrel
  obtain ⟨a9, c9, rfl, -, -, -⟩ := own_slice HO.out
  by_cases hlt : (j : Int) < (m.length : Int)
  ·have hj0 : (0 : Int) ≤ (j : Int) := by omega
   have hjm : j < m.length := by omega
   have hE := HE1.out.keep HB.out
   rcases hE.2.2 with h0 | ⟨b, off, rfl, hb, hc⟩
   ·omega
   obtain ⟨⟨c0, c1', c2, c3, c4⟩, -⟩ := hc j hjm
   have HKT := aside (keys_take hjm)
   obtain ⟨t, ht⟩ : ∃ t, nthE m j = t := ⟨_, rfl⟩
   rw [ht] at c0 c1' c2 c3 c4 HKT
   have hlc := hE.1
   have hwr : IntKind.i64.wrap ((j : Int) + 1) = (((j + 1 : Nat)) : Int) := by rw [IntKind.wrap_i64]; omega
   clear hc hE ht hb
   have NB := bthen (bnew wr (.cells #[.string t.k, .int .i64 t.c, .int .i64 t.n, .string t.v, .bool t.d] 77)) (bnew _ (.cells #[.string t.k] 9))
   have O2 := aside (own_on HO.out NB)
   have B2 := aside (bthen HB.out NB)
   have KS0 := heap_alloc_new (wr.alloc (.cells #[.string t.k, .int .i64 t.c, .int .i64 t.n, .string t.v, .bool t.d] 77)) (.cells #[.string t.k] 9)
   rw [World.size_alloc] at KS0
   have KS := aside KS0
   clear KS0
   have HSZ := aside (show w1.heap.size ≤ ((wr.alloc (.cells #[.string t.k, .int .i64 t.c, .int .i64 t.n, .string t.v, .bool t.d] 77)).alloc (.cells #[.string t.k] 9)).heap.size from (bthen HB.out NB).size)
   clear NB HO HB
   go_wp2_with (at_builtin; go_loud (refine wpList_plain rfl fun K hK => op_append_key _ _ rfl w1.heap.size j _ _ (by rfl) O2.out _ 1 t.k (by rfl) KS.out (by omega) HSZ.out ?_); intro v6 w6 own6 gr6; refine hK _ _ ?_; refine Hid.out ?_)
   refine aside ?_
   have O6 := aside (show w6.ownsRow w1.heap.size 9 1 v6 (j + 1) (strCells ((m.map (fun e => e.k)).take (j + 1))) from by rw [← HKT.out]; exact own6)
   have B6 := aside (B2.out.grown gr6 HSZ.out (fun k e => (O2.out.lt k e).1))
   clear own6 gr6 O2 B2 KS HSZ HKT c0 c1' c2 c3 c4
   go_wp2
   go_roundw
   case rel => exact ⟨j + 1, by go_num, by omega, O6, B6⟩
   case measure => simp [intOf]; omega
  ·obtain rfl : j = m.length := by omega
   have HS := aside (show StrsIn wr.heap.size wr a9 (keysIn r l).length c9 (nthS (keysIn r l)) from by
    have ho := HO.out
    rw [List.take_of_length_le (by simp), ← HKM.out, show m.length = (keysIn r l).length from by rw [HKM.out, List.length_map]] at ho
    exact strs_row ho rfl (by rw [HKM.out, List.length_map]; omega))
   have HJ := aside (show (keysIn r l).length = m.length from by rw [HKM.out, List.length_map])
   have BB := aside (bthen B1.out HB.out)
   have KK := aside (blk_on K1.out HB.out)
   have C3 := aside (CR.out wr a9 c9 HS.out)
   rw [HJ.out] at C3
   clear HO HB HS K1 HE1
   obtain ⟨r0, r1, r2⟩ := box3r KK.out
   go_wp2_with fail
   refine C3.out.mono ?_
   rintro e w7 ⟨g7, c7, rfl, o7, -, b7⟩
   have B7 := aside (bthen BB.out b7)
   have O7 := aside (own_low o7 BB.out.size)
   clear b7 o7 C3 r0 r1 r2
   go_wp2
   go_ret2
   refine ⟨g7, c7, rfl, ?_, B7.out⟩
   have := O7.out
   rw [← HJ.out] at this
   exact this
end Go.Proofs.YtpbkjffiohfkcaaGreatDoor
