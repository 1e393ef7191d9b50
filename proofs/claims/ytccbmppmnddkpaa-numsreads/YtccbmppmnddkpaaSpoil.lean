/-
  spoil: it turns the bytes of its slice, and lets it grow: nothing else that was there turns. A writer's length; the document's own new writer.
-/
import Derived.Test.YtccbmppmnddkpaaWStep
import Derived.Test.YtccbmppmnddkpaaWBytes
namespace Go.Proofs.Ytccbmppmnddkpaa
open Go.RowKit
set_option linter.unusedVariables false

theorem Keeps.row {w wr w2 : World} {g g1 : Option Nat} (h1 : Keeps (fun k => g = some k) w wr) (fr : Fresh w g g1) (h2 : Keeps (fun k => g1 = some k) wr w2) : Keeps (fun k => g = some k) w w2 :=
  ⟨h2.os.trans h1.os, h2.tape.trans h1.tape, h2.output.trans h1.output, Nat.le_trans h1.size h2.size, fun k hk hs =>
    (h2.block k (Nat.lt_of_lt_of_le hk h1.size) (fun e => by
      rcases fr with rfl | ⟨j, rfl, hj⟩
      · exact hs e
      · cases e; omega)).trans (h1.block k hk hs)⟩

/-- Numbers as cells of bytes. -/
def u8s (zs : List Int) : List Value := zs.map (Value.int .u8)

theorem u8s_bytes (l : List UInt8) : Lib.byteCells l = u8s (l.map fun b => (b.toNat : Int)) := by simp [u8s, Lib.byteCells]

/-- The first loop: some numbers are turned. -/
def SpoilRel1 (B n : Nat) (v : Value) (w : World) (i : Value) (wr : World) : Prop :=
  ∃ (k : Nat) (zs : List Int), i = .int .i64 (k : Int) ∧ k ≤ n ∧ zs.length = n ∧ wr.ownsRow B 5 1 v n (u8s zs) ∧ Keeps (fun j => v.ownBlock = some j) w wr

/-- The second loop: some numbers are added. -/
def SpoilRel2 (B n : Nat) (v : Value) (w : World) (v' i : Value) (wr : World) : Prop :=
  ∃ (k m : Nat) (zs : List Int), i = .int .i64 (k : Int) ∧ k ≤ 12 ∧ m ≤ n + k ∧ wr.ownsRow B 5 1 v' m (u8s zs) ∧ Fresh w v.ownBlock v'.ownBlock ∧ Keeps (fun j => v.ownBlock = some j) w wr

theorem stored_u8 {w : World} {B g n cap j : Nat} {zs : List Int} (h : w.ownsRow B 5 1 (.slice (some ⟨g, 0, none⟩) n cap) n (u8s zs)) (z : Int) (hj : j < n) :
    ∃ zs' : List Int, zs'.length = zs.length ∧ (w.setCell ⟨g, j, none⟩ (.int .u8 z)).ownsRow B 5 1 (.slice (some ⟨g, 0, none⟩) n cap) n (u8s zs') ∧ Keeps (fun k => some g = some k) w (w.setCell ⟨g, j, none⟩ (.int .u8 z)) := by
  have h1 := (h.stored j (.int .u8 z)).1
  refine ⟨zs.set j z, by simp, ?_, (Keeps.refl (fun k => some g = some k) w).setCell (p := ⟨g, j, none⟩) (fun _ => rfl) _⟩
  have e : u8s (zs.set j z) = (u8s zs).set j (.int .u8 z) := by simp [u8s, List.map_set]
  rw [e]
  exact h1

set_option maxHeartbeats 1600000 in
set_option maxRecDepth 100000 in
theorem spoil_any (B n : Nat) (v : Value) (zs0 : List Int) (w : World) (hown0 : w.ownsRow B 5 1 v n (u8s zs0)) (hB : B ≤ w.heap.size) (hn : n ≤ 70368744177664) :
    Calls Try.prog 17 #[v] w fun e w' => e = .returned (.tuple #[]) ∧ Keeps (fun k => v.ownBlock = some k) w w' := by
  obtain ⟨i0, hi, hz0, hz1, hz2⟩ := info_parts info8
  have hzl : zs0.length = n := by have := hown0.1; simpa [u8s] using this
  have hform : v = .slice none 0 0 ∧ n = 0 ∨ ∃ g cap, v = .slice (some ⟨g, 0, none⟩) n cap := by
    rcases hown0.2 with h | ⟨g, cap, cur, h, _⟩
    · exact .inl h
    · exact .inr ⟨g, cap, h⟩
  obtain ⟨va, vc, hv⟩ : ∃ va vc, v = .slice va n vc := by
    rcases hform with ⟨rfl, rfl⟩ | ⟨g, cap, rfl⟩
    · exact ⟨_, _, rfl⟩
    · exact ⟨_, _, rfl⟩
  subst hv
  have hn' : (n : Int) ≤ 70368744177664 := by omega
  go_enter Try.func17, Try.ntmps17
  go_wp2
  go_loopw [2] (fun i wr => SpoilRel1 B n (.slice va n vc) w i wr) (fun i _ => n - (intOf i).toNat)
  case atStart => exact ⟨0, zs0, rfl, Nat.zero_le _, hzl, hown0, Keeps.refl _ _⟩
  case round =>
    obtain ⟨k, zs, rfl, hk, hzs, hown, hkeep⟩ := hrel
    by_cases hlt : (k : Int) < (n : Int)
    · rcases hform with ⟨_, h0⟩ | ⟨g, cap, hg⟩
      · omega
      · cases hg
        have hkz : k < zs.length := by omega
        have hc : wr.cell? ⟨g, k, none⟩ = some (.int .u8 zs[k]) := by
          rw [hown.cellAt k (by omega)]
          simp [u8s, hkz]
        have hf := hown.frozenAt k
        have HO := aside hown
        obtain ⟨z, hz⟩ : ∃ z, z = zs[k] := ⟨_, rfl⟩
        rw [← hz] at hc
        clear hown hz hown0
        go_wp2
        obtain ⟨zs', hl', ho', hk'⟩ := stored_u8 (j := k) HO.out (bits BinOp.xor IntKind.u8 z 85) (by omega)
        go_roundw
        case rel => exact ⟨k + 1, zs', by go_num, by omega, by rw [hl']; exact hzs, ho', hkeep.trans hk'⟩
        case measure => simp [intOf]; omega
    · have hkn : k = n := by omega
      subst hkn
      go_wp2
      go_loopw [0, 3] (fun v' i wr' => SpoilRel2 B k (.slice va k vc) w v' i wr') (fun _ i _ => 12 - (intOf i).toNat)
      case atStart => exact ⟨0, k, zs, rfl, by omega, by omega, hown, .inl rfl, hkeep⟩
      case round =>
        obtain ⟨j, m, zs', rfl, hj, hm, hown', hfr, hkeep'⟩ := hrel
        have hsz := hkeep'.size
        by_cases hlt2 : (j : Int) < 12
        · have hzl' : zs'.length = m := by have := hown'.1; simpa [u8s] using this
          go_wp2_with (at_builtin; refine wpList_append_lies _ rfl _ _ _ rfl B 5 i0 (.int .u8 0) 1 1 Try.underlying29 hi hz0 hz1 hz2 rfl (by decide) _ _ _ (by rfl) (hown'.alloc _) ⟨wr.heap.size, 0, none⟩ 1 1 [.int .u8 7] (by rfl) (by rfl) (World.news_of_block (cs := #[.int .u8 7]) (t := 5) (fr := (0, 0)) (heap_alloc_new wr _)) (by simp [Value.oneCell']) (by omega) (by unfold maxLen; omega) (by omega) (by simp; omega) (wr.heap.size + 1) (by simp) ?_; intro g1 cap w1 hown1 hgrow hat hlt1; refine Hid.out ?_)
          refine aside ?_
          have e1 : u8s zs' ++ [.int .u8 7] = u8s (zs' ++ [7]) := by simp [u8s]
          rw [e1] at hown1
          have HO := aside hown1
          have fr1 : Fresh w (Value.slice va k vc).ownBlock (some g1) := by
            rcases hat with h | h
            · rcases hfr with e | ⟨q, e, hq⟩
              · exact .inl (by rw [← e, h])
              · exact .inr ⟨q, by rw [← h, e], hq⟩
            · exact .inr ⟨g1, rfl, by omega⟩
          have kk := hkeep'.row hfr (((Keeps.refl _ wr).alloc _).grown hgrow (fun x hx _ => hx))
          have FR := aside fr1
          have KK := aside kk
          clear hown1 hgrow hat hown' hkeep' fr1 kk hfr
          go_wp2
          go_roundw
          case rel => exact ⟨j + 1, m + 1, zs' ++ [7], by go_num, by omega, by omega, HO.out, FR.out, KK.out⟩
          case measure => simp [intOf]; omega
        · go_wp2
          go_end0
          exact ⟨rfl, hkeep'⟩

set_option maxHeartbeats 400000 in
theorem wlen_any (B b : Nat) (g : Option Nat) (l : List UInt8) (w : World) (hW : IsW 60 B b g l w) :
    Calls Try.prog 11 #[.pointer (some ⟨b, 0, none⟩)] w fun e w' => e = .returned (.int .i64 (l.length : Int)) ∧ w' = w := by
  obtain ⟨hBb, hgb, v, hh, rfl, hown⟩ := hW
  have hc := cell_one hh
  rcases hown.2 with ⟨rfl, h0⟩ | ⟨g, cap, cur, rfl, _⟩
  · rw [h0]
    go_enter Try.func11, Try.ntmps11
    go_wp2
    go_ret
    exact ⟨rfl, rfl⟩
  · go_enter Try.func11, Try.ntmps11
    go_wp2
    go_ret
    exact ⟨rfl, rfl⟩

set_option maxHeartbeats 400000 in
theorem wlenRef_any (B b : Nat) (g : Option Nat) (l : List UInt8) (w : World) (hW : IsW 38 B b g l w) :
    Calls Try.prog 15 #[.pointer (some ⟨b, 0, none⟩)] w fun e w' => e = .returned (.int .i64 (l.length : Int)) ∧ w' = w := by
  obtain ⟨hBb, hgb, v, hh, rfl, hown⟩ := hW
  have hc := cell_one hh
  rcases hown.2 with ⟨rfl, h0⟩ | ⟨g, cap, cur, rfl, _⟩
  · rw [h0]
    go_enter Try.func15, Try.ntmps15
    go_wp2
    go_ret
    exact ⟨rfl, rfl⟩
  · go_enter Try.func15, Try.ntmps15
    go_wp2
    go_ret
    exact ⟨rfl, rfl⟩

set_option maxHeartbeats 400000 in
theorem newWriterRef_any (w : World) :
    Calls Try.prog 10 #[] w fun e w' => e = .returned (.pointer (some ⟨w.heap.size, 0, none⟩)) ∧ w' = w.alloc (.cells #[.slice none 0 0] 38) := by
  go_enter Try.func10, Try.ntmps10
  go_wp2
  go_ret
  exact ⟨rfl, rfl⟩

end Go.Proofs.Ytccbmppmnddkpaa
