/-
  The law MergeLacks, walked.
-/
import Derived.Test.YtgailbfoicoaiabMgCall3
import Derived.Test.YtgailbfoicoaiabMgPl4
namespace Go.Proofs.Ytgailbfoicoaiab
open Go.RowKit
set_option linter.unusedVariables false

set_option maxHeartbeats 6400000 in
set_option maxRecDepth 100000 in
theorem lmlacks_walk (a : Option Addr) (la ca : Nat) (Ma : List En) (b : Option Addr) (lb cb : Nat) (Mb : List En) (w : World) (ha : Lst w a la ca Ma) (hb : Lst w b lb cb Mb) :
    Calls Try.prog 4 #[.slice a la ca, .slice b lb cb] w fun e w' => e = .returned (.bool true) ∧ Below w.heap.size w w' := by
  have BW := aside (Below.refl w.heap.size w)
  have La := aside ha
  have Lb := aside hb
  have CB := aside (beyond2 ha hb)
  clear ha hb
  go_enter Try.func4, Try.ntmps4
  go_wp2_with fail
  refine CB.out.mono ?_
  rintro e w1 ⟨q, rfl, hq, b1⟩
  replace BW := aside (bthen BW.out b1)
  replace La := aside (La.out.keep b1)
  replace Lb := aside (Lb.out.keep b1)
  have HQ := aside hq
  clear b1 hq CB
  cases q
  case true =>
    go_wp2
    go_ret
    exact ⟨rfl, BW.out⟩
  have HN := aside (HQ.out rfl)
  clear HQ
  go_wp2_with fail
  refine (cleanL_any La.out Lb.out (by have := HN.out; omega)).mono ?_
  rintro e w2 ⟨q, rfl, hq, b2⟩
  replace BW := aside (bthen BW.out b2)
  replace La := aside (La.out.keep b2)
  replace Lb := aside (Lb.out.keep b2)
  have HQ := aside hq
  clear hq
  cases q
  case false =>
    go_wp2
    go_ret
    exact ⟨rfl, BW.out⟩
  have K := aside (HQ.out rfl)
  clear HQ
  clear b2
  have ma := aside K.out.1
  have mb := aside K.out.2.1
  have n1 := aside (show (lkL Ma Mb).length ≤ Ma.length from (lk_sub Ma Mb ma.out mb.out).length_le)
  have n2 := aside (show (lkL Mb Ma).length ≤ Mb.length from (lk_sub Mb Ma mb.out ma.out).length_le)
  have m1 := aside (lk_map ma.out mb.out)
  have m2 := aside (lk_map mb.out ma.out)
  go_wp2_with fail
  refine (lackL_ok La.out Lb.out ma.out mb.out (by have := HN.out; omega)).mono ?_
  rintro e w3 ⟨d1, nd1, cd1, rfl, ld1, b3⟩
  replace BW := aside (bthen BW.out b3)
  replace La := aside (La.out.keep b3)
  replace Lb := aside (Lb.out.keep b3)
  have L1 := aside ld1
  clear ld1
  clear b3
  go_wp2_with fail
  refine (lackL_ok Lb.out La.out mb.out ma.out (by have := HN.out; omega)).mono ?_
  rintro e w4 ⟨d2, nd2, cd2, rfl, ld2, b4⟩
  replace BW := aside (bthen BW.out b4)
  replace La := aside (La.out.keep b4)
  replace Lb := aside (Lb.out.keep b4)
  replace L1 := aside (L1.out.keep b4)
  have L2 := aside ld2
  clear ld2
  clear b4
  go_wp2_with fail
  refine (maxL_ok Lb.out L1.out mb.out m1.out (by have := HN.out; have := n1.out; have := n2.out; omega)).mono ?_
  rintro e w5 ⟨d3, nd3, cd3, rfl, ld3, b5⟩
  replace BW := aside (bthen BW.out b5)
  replace La := aside (La.out.keep b5)
  replace Lb := aside (Lb.out.keep b5)
  replace L1 := aside (L1.out.keep b5)
  replace L2 := aside (L2.out.keep b5)
  have L3 := aside ld3
  clear ld3
  clear b5
  go_wp2_with fail
  refine (maxL_ok Lb.out La.out mb.out ma.out (by have := HN.out; omega)).mono ?_
  rintro e w6 ⟨d4, nd4, cd4, rfl, ld4, b6⟩
  replace BW := aside (bthen BW.out b6)
  replace La := aside (La.out.keep b6)
  replace Lb := aside (Lb.out.keep b6)
  replace L1 := aside (L1.out.keep b6)
  replace L2 := aside (L2.out.keep b6)
  replace L3 := aside (L3.out.keep b6)
  have L4 := aside ld4
  clear ld4
  clear b6
  go_wp2_with fail
  refine (diffL_ok La.out Lb.out ma.out mb.out (by have := HN.out; omega)).mono ?_
  rintro e w7 ⟨ad, nd, cd, rfl, dd, b7⟩
  replace BW := aside (bthen BW.out b7)
  replace La := aside (La.out.keep b7)
  replace Lb := aside (Lb.out.keep b7)
  replace L1 := aside (L1.out.keep b7)
  replace L2 := aside (L2.out.keep b7)
  replace L3 := aside (L3.out.keep b7)
  replace L4 := aside (L4.out.keep b7)
  have DD := aside dd
  clear dd
  clear b7
  go_wp2_with fail
  refine (maxL_ok L1.out L2.out m1.out m2.out (by have := HN.out; have := n1.out; have := n2.out; omega)).mono ?_
  rintro e w8 ⟨d5, nd5, cd5, rfl, ld5, b8⟩
  replace BW := aside (bthen BW.out b8)
  replace La := aside (La.out.keep b8)
  replace Lb := aside (Lb.out.keep b8)
  replace L1 := aside (L1.out.keep b8)
  replace L2 := aside (L2.out.keep b8)
  replace L3 := aside (L3.out.keep b8)
  replace L4 := aside (L4.out.keep b8)
  replace DD := aside (DD.out.keep b8)
  have L5 := aside ld5
  clear ld5
  clear b8
  go_wp2_with fail
  refine (rmaxL_ok Lb.out La.out mb.out ma.out (by have := HN.out; omega)).mono ?_
  rintro e w9 ⟨d6, nd6, cd6, rfl, ld6, b9⟩
  replace BW := aside (bthen BW.out b9)
  replace La := aside (La.out.keep b9)
  replace Lb := aside (Lb.out.keep b9)
  replace L1 := aside (L1.out.keep b9)
  replace L2 := aside (L2.out.keep b9)
  replace L3 := aside (L3.out.keep b9)
  replace L4 := aside (L4.out.keep b9)
  replace DD := aside (DD.out.keep b9)
  replace L5 := aside (L5.out.keep b9)
  have L6 := aside ld6
  clear ld6
  clear b9
  go_wp2_with fail
  refine (sameL L4.out L6.out rfl).mono ?_
  rintro e w10 ⟨rfl, b10⟩
  replace BW := aside (bthen BW.out b10)
  replace La := aside (La.out.keep b10)
  replace Lb := aside (Lb.out.keep b10)
  replace L1 := aside (L1.out.keep b10)
  replace L2 := aside (L2.out.keep b10)
  replace L3 := aside (L3.out.keep b10)
  replace L4 := aside (L4.out.keep b10)
  replace DD := aside (DD.out.keep b10)
  replace L5 := aside (L5.out.keep b10)
  replace L6 := aside (L6.out.keep b10)
  clear b10
  go_wp2_with fail
  refine (sameL L3.out L4.out (mx_lack ma.out mb.out K.out.2.2)).mono ?_
  rintro e w11 ⟨rfl, b11⟩
  replace BW := aside (bthen BW.out b11)
  replace La := aside (La.out.keep b11)
  replace Lb := aside (Lb.out.keep b11)
  replace L1 := aside (L1.out.keep b11)
  replace L2 := aside (L2.out.keep b11)
  replace L3 := aside (L3.out.keep b11)
  replace L4 := aside (L4.out.keep b11)
  replace DD := aside (DD.out.keep b11)
  replace L5 := aside (L5.out.keep b11)
  replace L6 := aside (L6.out.keep b11)
  clear b11
  have hnd : nd5 = nd := by
    have h1 := DD.out.len
    have h2 := L5.out.len
    rw [← dm_mx ma.out mb.out] at h2
    rw [← h1, ← h2]
    unfold dfL
    rw [List.length_map]
  subst hnd
  have hsum : nd1 + nd2 = nd5 := by
    have h1 := L1.out.len
    have h2 := L2.out.len
    have h3 := DD.out.len
    have h4 := dm_len Ma Mb
    unfold dfL at h3
    rw [List.length_map] at h3
    omega
  have hw : IntKind.i64.wrap ((nd1 : Int) + (nd2 : Int)) = (nd5 : Int) := by
    have h1 := L5.out.len
    have h2 := mx_len (lkL Ma Mb) (lkL Mb Ma)
    have h3 := HN.out
    have h4 := n1.out
    have h5 := n2.out
    rw [IntKind.wrap_i64]
    omega
  have hmx : (nd5 : Int) ≤ 9223372036854775807 := by
    have h1 := L5.out.len
    have h2 := mx_len (lkL Ma Mb) (lkL Mb Ma)
    have h3 := HN.out
    have h4 := n1.out
    have h5 := n2.out
    omega
  obtain ⟨T5, hE5, hT5⟩ := L5.out
  have E5 := aside hE5
  have HKEY := aside (show ∀ i, i < nd5 → (dfL Ma Mb)[i]? = some (T5 i).k from fun i hi => by
    unfold dfL
    rw [dm_mx ma.out mb.out, List.getElem?_map, ← hT5, firstE_get _ hi]
    rfl)
  clear hE5 hT5 L5 hsum L1 L2 L3 L4 L6 La Lb n1 n2 m1 m2 K ma mb HN
  go_wp2
  go_loopw [19] (fun i wr => ∃ k : Nat, i = .int .i64 (k : Int) ∧ k ≤ nd5 ∧ Below w11.heap.size w11 wr) (fun i _ => nd5 - (intOf i).toNat)
  case atStart => exact ⟨0, rfl, Nat.zero_le _, Below.refl _ _⟩
  case round =>
    obtain ⟨k, rfl, hk, hB⟩ := hrel
    have HB := aside hB
    clear hB
    by_cases hlt : (k : Int) < (nd5 : Int)
    · have hk0 : (0 : Int) ≤ (k : Int) := by omega
      obtain ⟨s, hs⟩ : ∃ s, (T5 k).k = s := ⟨_, rfl⟩
      have hkey := HKEY.out k (by omega)
      have eB := E5.out.keep HB.out.drew
      rcases eB.2.2 with h0 | ⟨gb, ob, rfl, -, hc5⟩
      · omega
      obtain ⟨⟨c5, -⟩, -⟩ := hc5 k (by omega)
      have oD := own_on DD.out.row HB.out.drew
      obtain ⟨_, _, e1, -, -, hf⟩ := own_slice oD
      injection e1 with e1 _ e3
      subst e1 e3
      rcases hf with ⟨_, h0, _⟩ | ⟨gd, rfl, -⟩
      · omega
      have c4 := oD.cellAt k (by omega)
      unfold strC at c4
      rw [List.getElem?_map, hkey] at c4
      simp only [Option.map_some] at c4
      rw [hs] at c4 c5
      have SC := aside (show wr.drew.cell? ⟨gd, k, none⟩ = some (.string s) ∧ wr.drew.cell? ⟨gb, ob + k * 5, none⟩ = some (.string s) from ⟨c4, c5⟩)
      clear c4 c5 hc5 eB oD hs hkey
      go_wp2_with fail
      refine wp_region_held_drew (S := fun W => Below w11.heap.size w11 W ∧ W.cell? ⟨gd, k, none⟩ = some (.string s) ∧ W.cell? ⟨gb, ob + k * 5, none⟩ = some (.string s)) (by kernel_rfl) ⟨HB.out.drew, SC.out⟩ (fun hHeld => ?_)
      refine wpAnyH_take (i := 0) (v := ?_) rfl (by kernel_rfl) (by kernel_rfl) (by kernel_rfl) (fun _ _ _ h => h) (Or.inl ⟨by rfl, ?_⟩) (by assumption) ?_
      rotate_left
      · intro w hSw
        go_simp
        try with_reducible rfl
      simp only [Act.put, List.getElem_toArray, List.getElem_cons_zero, List.setIfInBounds_toArray, List.set_cons_zero, List.set_cons_succ]
      refine wpAnyH_take (i := 1) (v := ?_) rfl (by kernel_rfl) (by kernel_rfl) (by kernel_rfl) (fun _ _ _ h => h) (Or.inl ⟨by rfl, ?_⟩) (by assumption) ?_
      rotate_left
      · intro w hSw
        go_simp
        try with_reducible rfl
      simp only [Act.put, List.getElem_toArray, List.getElem_cons_zero, List.getElem_cons_succ, List.setIfInBounds_toArray, List.set_cons_zero, List.set_cons_succ]
      refine wpAnyH_take (i := 2) (v := ?_) rfl (by kernel_rfl) (by kernel_rfl) (by kernel_rfl) (fun _ _ _ h => h) (Or.inl ⟨by rfl, ?_⟩) (by assumption) ?_
      rotate_left
      · intro w hSw
        go_simp
        try with_reducible rfl
      simp only [Act.put, List.getElem_toArray, List.getElem_cons_zero, List.getElem_cons_succ, List.setIfInBounds_toArray, List.set_cons_zero, List.set_cons_succ]
      refine wpAnyH_take (i := 3) (v := ?_) rfl (by kernel_rfl) (by kernel_rfl) (by kernel_rfl) (fun _ _ _ h => h) (Or.inl ⟨by rfl, ?_⟩) (by assumption) ?_
      rotate_left
      · intro w hSw
        go_simp
        try with_reducible rfl
      simp only [Act.put, List.getElem_toArray, List.getElem_cons_zero, List.getElem_cons_succ, List.setIfInBounds_toArray, List.set_cons_zero, List.set_cons_succ]
      refine wpAnyH_take (i := 4) (v := ?_) rfl (by kernel_rfl) (by kernel_rfl) (by kernel_rfl) (fun _ _ _ h => h) (Or.inl ⟨by rfl, ?_⟩) (by assumption) ?_
      rotate_left
      · intro w hSw
        go_simp
        try with_reducible rfl
      simp only [Act.put, List.getElem_toArray, List.getElem_cons_zero, List.getElem_cons_succ, List.setIfInBounds_toArray, List.set_cons_zero, List.set_cons_succ]
      refine wpAnyH_take (i := 5) (v := ?_) rfl (by kernel_rfl) (by kernel_rfl) (by kernel_rfl) (fun _ _ _ h => h) (Or.inl ⟨by rfl, ?_⟩) (by assumption) ?_
      rotate_left
      · intro w hSw
        go_simp
        try with_reducible rfl
      simp only [Act.put, List.getElem_toArray, List.getElem_cons_zero, List.getElem_cons_succ, List.setIfInBounds_toArray, List.set_cons_zero, List.set_cons_succ]
      refine wpAnyH_take (i := 6) (v := ?_) rfl (by kernel_rfl) (by kernel_rfl) (by kernel_rfl) (fun _ _ _ h => h) (Or.inl ⟨by rfl, ?_⟩) (by assumption) ?_
      rotate_left
      · intro w hSw
        go_simp
        try with_reducible rfl
      simp only [Act.put, List.getElem_toArray, List.getElem_cons_zero, List.getElem_cons_succ, List.setIfInBounds_toArray, List.set_cons_zero, List.set_cons_succ]
      refine wpAnyH_take (i := 7) (v := ?_) rfl (by kernel_rfl) (by kernel_rfl) (by kernel_rfl) (fun _ _ _ h => h) (Or.inl ⟨by rfl, ?_⟩) (by assumption) ?_
      rotate_left
      · intro w hSw
        go_simp
        try with_reducible rfl
      simp only [Act.put, List.getElem_toArray, List.getElem_cons_zero, List.getElem_cons_succ, List.setIfInBounds_toArray, List.set_cons_zero, List.set_cons_succ]
      refine wpAnyH_take (i := 8) (v := ?_) rfl (by kernel_rfl) (by kernel_rfl) (by kernel_rfl) (fun _ _ _ h => h) (Or.inl ⟨by rfl, ?_⟩) (by assumption) ?_
      rotate_left
      · intro w hSw
        go_simp
        try with_reducible rfl
      simp only [Act.put, List.getElem_toArray, List.getElem_cons_zero, List.getElem_cons_succ, List.setIfInBounds_toArray, List.set_cons_zero, List.set_cons_succ]
      refine wpAnyH_take (i := 9) (v := .bool false) rfl (by kernel_rfl) (by kernel_rfl) (by kernel_rfl) (fun _ _ _ h => h) (Or.inl ⟨by rfl, ?_⟩) (by assumption) ?_
      · intro w hSw
        go_simp
      simp only [Act.put, List.getElem_toArray, List.getElem_cons_zero, List.getElem_cons_succ, List.setIfInBounds_toArray, List.set_cons_zero, List.set_cons_succ]
      refine wpAnyH_done (by kernel_rfl) ?_ _
      have HB2 := aside hHeld.1
      clear hHeld SC
      go_wp2
      go_roundw
      case rel => exact ⟨k + 1, by go_num, by omega, HB2.out⟩
      case measure => simp [intOf]; omega
    · have hkl : k = nd5 := by omega
      subst hkl
      go_wp2
      go_ret
      exact ⟨rfl, bthen BW.out HB.out⟩

end Go.Proofs.Ytgailbfoicoaiab
