/-
  What a store holds, told by the law's own loop.
-/
import Derived.Test.YtpbkjffiohfkcaaDoorBp11
import Derived.Test.YtpbkjffiohfkcaaDoorBp16
import Derived.Deep.Cut
namespace Go.Proofs.YtpbkjffiohfkcaaDoor
open Go.RowKit Go.Shelf
set_option linter.unusedVariables false
attribute [local go_sem] Oper.semAt_some
theorem own_set {w : World} {B : Nat} {e : TypeId} {size : Nat} {v : Value} {n : Nat} {xs : List Value} (h : w.ownsRow B e size v n xs) {b : Nat} (hb : b < B) (k : Nat) (u : Value) : (w.setCell ⟨b, k, none⟩ u).ownsRow B e size v n xs := by
  refine ⟨h.1, ?_⟩
  rcases h.2 with h0 | ⟨g, cap, cur, h1, h2, h3, h4⟩
  · exact .inl h0
  · exact .inr ⟨g, cap, cur, h1, h2, by rw [heap_setCell_other _ _ _ _ (by simp; omega)]; exact h3, h4⟩
theorem bthen' {a b c : World} (h : Below a.heap.size a b) (k : Below b.heap.size b c) : Below a.heap.size a c := bthen h k
set_option maxHeartbeats 8000000 in
set_option maxRecDepth 100000 in
theorem held13_any {w : World} {sb g tb : Nat} {nd ck : Int} {Ls : List En} (h : Sto w sb g tb nd ck Ls) (hl : Ls.length ≤ 256) :
    Calls Tryd.prog 21 #[.pointer (some ⟨sb, 0, none⟩)] w fun r w' => ∃ v, r = .returned v ∧ w'.ownsRow w.heap.size 54 5 v Ls.length (entCells Ls) ∧ Below w.heap.size w w' := by
  obtain ⟨w0, hw0⟩ : ∃ w0, w.alloc (.cells #[.slice none 0 0] 22) = w0 := ⟨_, rfl⟩
  have HW0 := aside hw0
  have N0 := aside (show Below w.heap.size w w0 from by rw [← hw0]; exact bnew w _)
  have RB := aside (show w0.heap[w.heap.size]? = some (.cells #[.slice none 0 0] 22 (0, 0)) from by rw [← hw0]; exact heap_alloc_new w _)
  have Z0 := aside (show w0.heap.size = w.heap.size + 1 from by rw [← hw0]; simp)
  have CA := aside (fun (W : World) (b : Below w.heap.size w W) => qall ⟨#[]⟩ ⟨#[]⟩ true (h.below b) (by omega))
  rw [chk_whole, thru_whole] at CA
  have hfn : ∀ (lb : Array Value), Hid (∀ w, (binOp .eql 76 (.func (.func 59) #[] lb) .nilFunc).run Tryd.prog w = .ok (.bool false) w) := fun lb w => rfl
  have HLL := aside hl
  clear h hl
  refine (callsIn_wide (n := 5)).1 ?_
  refine callsIn_of_wp_marks Tryd.func21 rfl trivial ?_ rfl
  simp only [Tryd.ntmps21, List.size_toArray, List.length_cons, List.length_nil, Nat.reduceAdd, Nat.reduceSub, Array.replicate_succ, Array.replicate_zero, List.push_toArray, List.append_toArray, List.nil_append, List.cons_append]
  gi_wp2_with fail
  refine ⟨trivial, ?_⟩
  have nb := bthen (bnew w0 (.cells #[] 54)) (bnew _ (.cells #[.slice (some ⟨w0.heap.size, 0, none⟩) 0 0] 22))
  have OE := aside (own_on (own_emptyE w0 w0.heap.size (Nat.le_refl _)) (bnew _ (.cells #[.slice (some ⟨w0.heap.size, 0, none⟩) 0 0] 22)))
  have VB := aside (heap_alloc_new (w0.alloc (.cells #[] 54)) (.cells #[.slice (some ⟨w0.heap.size, 0, none⟩) 0 0] 22))
  have VS := aside (World.size_alloc w0 (.cells #[] 54))
  refine (callsIn_wide.2 (CA.out _ (bthen N0.out nb))).mono ?_
  rintro e w2 ⟨b2, ⟨h0, -⟩ | ⟨-, lb, rfl, hs⟩⟩
  · exact absurd rfl h0
  have HS := aside hs
  have B2 := aside (bthen nb b2)
  have hff := (hfn lb).out
  have I0 := aside (show LstE w0.heap.size (w0.heap.size + 1) [] w2 from ⟨.slice (some ⟨w0.heap.size, 0, none⟩) 0 0, by rw [← VS.out]; exact blk_on VB.out b2, own_on OE.out b2⟩)
  clear hs b2 CA hfn nb OE VB VS
  obtain ⟨rb, hrb⟩ : ∃ rb, w.heap.size = rb := ⟨_, rfl⟩
  obtain ⟨vb, hvb⟩ : ∃ vb, w0.heap.size + 1 = vb := ⟨_, rfl⟩
  rw [hrb, hvb]
  rw [hvb] at I0
  gi_wp2_with fail
  clear hff
  obtain ⟨N, hN, hNl, hSq⟩ := HS.out
  have SQ := aside hSq
  have HNN := aside hN
  have HVB := aside (show w0.heap.size ≤ vb from by omega)
  clear hN hNl hSq HS
  have HVV := aside (show w0.heap.size ≤ w2.heap.size from B2.out.size)
  have ownI : OwnFrom w2.heap.size (fun (pre : List En) X => LstE w0.heap.size vb pre X ∧ Below w0.heap.size w0 X) := fun s A Y row hs hg hr =>
    ⟨hs.1.own hg (fun r e => (hr r e).2), ownFrom_below (β := Unit) (Nat.le_refl w0.heap.size) HVV.out () A Y row hs.2 hg hr⟩
  refine rangeO rfl (enters_of Tryd.func59 (by kernel_rfl) rfl) SQ.out KpT.t (fun W l o o' _ h ho => KpT.b W l o o' h ho) (Below.refl _ _) (fun _ => rfl)
    (fun (pre : List En) X => LstE w0.heap.size vb pre X ∧ Below w0.heap.size w0 X) (fun _ pre _ => 256 < pre.length) ownI (fun _ _ _ _ _ h _ _ => h) ⟨I0.out, B2.out⟩
    (fun x a' X => ∃ eb : Nat, a' = ⟨#[.pointer (some ⟨sb, 0, none⟩), undef, .pointer (some ⟨rb, 0, none⟩), .pointer (some ⟨vb, 0, none⟩), .func (.func 59) #[] lb, .int .i64 0, .pointer (some ⟨eb, 0, none⟩), .slice (some ⟨w0.heap.size, 0, none⟩) 0 0, .tuple #[.func (.func 59) #[] lb, .int .i64 0], .pointer (some ⟨sb, 0, none⟩), .agg #[.string ⟨#[]⟩, .string ⟨#[]⟩, .bool true], .tuple #[.func (.func 59) #[] lb, .int .i64 0], .func (.func 59) #[] lb, .int .i64 0, .int .i64 0, .bool false, .bool false, .func (.func 59) #[] lb, .bool false, .bool false, undef, .func (.func 59) #[] lb, .agg #[.string x.k, .int .i64 x.c, .int .i64 x.n, .string x.v, .bool x.d], undef, undef, undef, undef, undef, undef, undef, undef, undef], []⟩ ∧ X.heap[eb]? = some (.cells #[.string x.k, .int .i64 x.c, .int .i64 x.n, .string x.v, .bool x.d] 54 (0, 0)))
    (fun x a' _ A Y row hs hg hr => by
      obtain ⟨eb, h1, h2⟩ := hs
      exact ⟨eb, h1, cells_own h2 hg (fun r e => (hr r e).2)⟩) ?assign ?body ?done ?stop
  case assign =>
    intro l' pre x X K hi hK
    dsimp only [encE]
    gi_wp2
    refine hK _ _ ?_ ?_ ?_ ⟨_, rfl, heap_alloc_new X _⟩
    · exact KeepsFrom.of_grownBy (World.grownBy_alloc X _ none) (fun j e => by cases e)
    · exact (KpT.refl X).alloc _
    · exact ownI.alloc _ hi
  case body =>
    rintro l' pre x a' X ⟨hls, hbx⟩ ⟨eb, rfl, he⟩ hlen
    obtain ⟨v, hv, ho⟩ := hls.ex
    obtain ⟨i0, hi0, hz0, hz1, hz2⟩ := info_parts infoEnt
    obtain ⟨e0, e1, e2, e3, e4, -⟩ := penta he
    have v0 := cell_one hv
    have HV := aside hv
    have HO := aside ho
    have HB := aside hbx
    have HLN := aside (show pre.length ≤ 1000000 from by have := HNN.out; omega)
    have HI := aside hi0
    have RX := aside (blk_on RB.out HB.out)
    clear hls hv ho hbx he hlen hi0
    gi_wp2_with (gi_at_builtin; go_loud (refine wpListIn_append_own _ rfl _ _ _ rfl w0.heap.size 54 i0 (.agg #[.string ⟨#[]⟩, .int .i64 0, .int .i64 0, .string ⟨#[]⟩, .bool false]) 5 56 Tryd.underlying22 HI.out hz0 hz1 hz2 rfl (by decide) v pre.length (entCells pre) (by rfl) (HO.out.alloc _) ⟨X.heap.size, 0, none⟩ 1 1 (entVals x) (by rfl) (by rfl) (World.news_of_block (cs := #[.string x.k, .int .i64 x.c, .int .i64 x.n, .string x.v, .bool x.d]) (t := 54) (fr := (0, 0)) (heap_alloc_new X _)) (by intro u hu; exact entCells_one [x] u (by simpa [entCells] using hu)) (by have := HLN.out; unfold maxLen; omega) (by have := HLN.out; omega) (by have := HB.out.size; simp; omega) ?_); intro v' X1 hown1 hgrow hiff; refine Hid.out ?_)
    refine aside ?_
    obtain ⟨g', cap', rfl⟩ : ∃ g' cap', v' = .slice (some ⟨g', 0, none⟩) (pre.length + 1) cap' := by
      rcases hown1.2 with ⟨_, h⟩ | ⟨g', cap', cur, e, _⟩
      · omega
      · exact ⟨g', cap', e⟩
    have ST := aside (lst_step (x := x) (C := w2.heap.size) HB.out HVB.out HV.out HO.out hown1 hgrow)
    have v1 := cell_one ST.out.1
    have z1 := frozen_one ST.out.1
    clear hown1 hgrow hiff v0 e0 e1 e2 e3 e4
    have RV := aside (show X1.heap[rb]? = some (.cells #[.slice none 0 0] 22 (0, 0)) from by
      have h9 := blk_on RB.out ST.out.2.2.1
      rw [hrb] at h9
      rw [heap_setCell_other _ _ _ _ (by have := Z0.out; simp; omega)] at h9
      exact h9)
    obtain ⟨m, HM⟩ : ∃ m, Hid (pre.length + 1 = m) := ⟨_, rfl⟩
    rw [HM.out] at ST ⊢
    by_cases hbig : (256 : Int) < (m : Int)
    · have rc := cell_one RV.out
      have rf := frozen_one RV.out
      have hne : ¬ rb = vb := by have := Z0.out; omega
      have hne' : ¬ vb = rb := fun e => hne e.symm
      gi_wp2
      exact ⟨ST.out.2.2.2.1.trans ((KeepsOthers.setCell _ _ _).from _), by show 256 < (pre ++ [x]).length; rw [List.length_append, List.length_singleton]; have := HM.out; omega⟩
    · gi_wp2
      exact ⟨ST.out.2.2.2.1, ST.out.2.2.2.2, ST.out.2.1, ST.out.2.2.1⟩
  case done =>
    rintro D xs X hD rfl ⟨hls, hbx⟩ hK
    obtain ⟨v, hv, ho⟩ := hls.ex
    obtain ⟨a9, c9, rfl, -, -, -⟩ := own_slice ho
    have v0 := cell_one hv
    have RX := aside (blk_on RB.out hbx)
    rw [hrb] at RX
    have rc := cell_one RX.out
    have rf := frozen_one RX.out
    have FO := aside ho
    have FB := aside hbx
    have HK := aside hK
    clear hls hbx hv ho hK
    gi_wp2
    have hDr : rb < D := by have h1 := HVV.out; have h2 := Z0.out; omega
    have hK2 : (X.setCell ⟨rb, 0, none⟩ (.slice a9 xs.length c9)).heap[D]? = some (.deferred (some [])) := by
      rw [heap_setCell_other _ _ _ _ (by simp; omega)]; exact HK.out
    have GP := grownBy_putObj' (X.setCell ⟨rb, 0, none⟩ (.slice a9 xs.length c9)) D (.deferred none)
    have F2 := ownsRow_own (own_set FO.out (show rb < w0.heap.size by have := Z0.out; omega) 0 (.slice a9 xs.length c9)) GP (fun r e => by cases e; exact ⟨_, hK2, rfl⟩)
    have B4 := ownFrom_below (β := Unit) (Nat.le_refl w.heap.size) (show w.heap.size ≤ w2.heap.size from by have h1 := HVV.out; have h2 := Z0.out; omega) () _ _ (some D) ((bthen' N0.out FB.out).setCell (p := ⟨rb, 0, none⟩) (by simp; omega) (.slice a9 xs.length c9)) GP (fun r e => by cases e; exact ⟨hD, _, hK2, rfl⟩)
    have RR := cell_one (show ((X.setCell ⟨rb, 0, none⟩ (.slice a9 xs.length c9)).putObj D (.deferred none)).heap[rb]? = some (.cells #[.slice a9 xs.length c9] 22 (0, 0)) from by
      rw [World.putObj_heap_other (by omega)]
      have := set_in 0 (.slice a9 xs.length c9) RX.out
      simpa using this)
    refine ⟨by simp, .inl ⟨_, _, rfl, run_takeDeferred hK2, ?_⟩⟩
    exact ⟨.slice a9 xs.length c9, by simp [results, Tryd.f21, go_sem, RR], ⟨_, rfl, own_low F2 (by have := Z0.out; omega), B4⟩⟩
  case stop =>
    rintro D c pre X hD hq h
    exact absurd hq.length_le (by have := HLL.out; omega)
end Go.Proofs.YtpbkjffiohfkcaaDoor
