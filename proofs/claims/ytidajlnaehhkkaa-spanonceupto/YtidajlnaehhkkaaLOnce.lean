/-
  The law SpanOnce, walked: it returns true at every range, borders, ranges and keys that are not too many.
-/
import Derived.Test.YtidajlnaehhkkaaSSplit2
import Derived.Test.YtidajlnaehhkkaaSStrs
import Derived.Test.YtidajlnaehhkkaaLTiles
import Derived.Test.YtidajlnaehhkkaaLKeep
namespace Go.Proofs.Ytidajlnaehhkkaa
open Go.RowKit

theorem emp_may' {r : Rg} (h : r.emp = false) : r.may = true := by
  cases hq : r.may
  · rw [emp_of_not_may hq] at h; cases h
  · rfl

/-- What is known of what Split gave. -/
theorem split_facts {r : Rg} {S : Nat → ByteArray} {len n : Nat} {e : Int} (he : splitE r S len = e) (hn : splitN r S len = n) :
    (e ≠ 0 → n = 0) ∧ (e = 0 → n = len + 1 ∧ r.may = true ∧ (∀ k, cnt (piece r S len) k n = (r.has k).toNat) ∧
      (r.emp = true → n = 1 ∧ len = 0 ∧ piece r S len 0 = r) ∧ (r.emp = false → rises (piece r S len) n = true ∧ Chain (piece r S len) n r ∧ tiles (piece r S len) n r = true)) := by
  subst he
  subst hn
  refine ⟨fun h => by unfold splitN; rw [if_neg h], fun h => ?_⟩
  have hn : splitN r S len = len + 1 := by unfold splitN; rw [if_pos h]
  rw [hn]
  have hm : r.may = true := by
    cases hq : r.may
    · exfalso
      obtain ⟨c, hc, _, hnz⟩ := may_not hq
      unfold splitE at h
      rw [hq, if_neg (by simp), hc] at h
      exact hnz h
    · rfl
  have hr : 0 < len → rises (piece r S len) (len + 1) = true := by
    intro hl
    cases hq : rises (piece r S len) (len + 1)
    · unfold splitE at h
      rw [if_pos hm, if_pos ⟨hl, hq⟩] at h
      cases h
    · rfl
  have p0 : len = 0 → piece r S len 0 = r := by
    intro hl; subst hl; rfl
  have hne : r.emp = false → rises (piece r S len) (len + 1) = true := by
    intro he
    rcases Nat.eq_zero_or_pos len with h0 | h0
    · subst h0; exact rises_one (by rw [p0 rfl]; exact he)
    · exact hr h0
  have hemp : r.emp = true → len = 0 := by
    intro he
    rcases Nat.eq_zero_or_pos len with h0 | h0
    · exact h0
    · have := chain_ne (chain_of (piece_tiles (hr h0))) hm
      rw [he] at this; cases this
  refine ⟨rfl, hm, fun k => ?_, fun he => ⟨by rw [hemp he], hemp he, p0 (hemp he)⟩, fun he => ⟨hne he, chain_of (piece_tiles (hne he)), piece_tiles (hne he)⟩⟩
  cases he : r.emp
  · exact cnt_chain (chain_of (piece_tiles (hne he))) hm k
  · have h0 := hemp he
    have hp := p0 h0
    subst h0
    simp only [cnt, hp, Nat.zero_add]

theorem tiles_cnt {r : Rg} {T : Nat → Rg} {n : Nat} (hr : r.chk = 0) (h : tiles T n r = true) (k : ByteArray) : cnt T k n = (r.has k).toNat :=
  cnt_chain (chain_of h) (by simp [Rg.may, hr]) k

theorem count_at {a : Option Addr} {len cap : Nat} {T : Nat → Rg} {k : ByteArray} {c : Int} (hc : ((cnt T k len : Nat) : Int) = c) (w : World) (h : RgsIn w.heap.size w a len cap T) :
    Calls Try.prog 27 #[.slice a len cap, .string k] w fun e w' => e = .returned (.int .i64 c) ∧ Below w.heap.size w w' := by
  subst hc; exact count_any a len cap T k w h

theorem seven_keep {w W W' : World} {p0 p1 p2 p3 p4 p5 : Addr} {u0 u1 u2 u3 u4 u5 : Value} (h : Below w.heap.size w W ∧ W.cell? p0 = some u0 ∧ W.cell? p1 = some u1 ∧ W.cell? p2 = some u2 ∧ W.cell? p3 = some u3 ∧ W.cell? p4 = some u4 ∧ W.cell? p5 = some u5) (bb : Below W.heap.size W W') :
    Below w.heap.size w W' ∧ W'.cell? p0 = some u0 ∧ W'.cell? p1 = some u1 ∧ W'.cell? p2 = some u2 ∧ W'.cell? p3 = some u3 ∧ W'.cell? p4 = some u4 ∧ W'.cell? p5 = some u5 :=
  ⟨bthen h.1 bb, cell_on h.2.1 bb, cell_on h.2.2.1 bb, cell_on h.2.2.2.1 bb, cell_on h.2.2.2.2.1 bb, cell_on h.2.2.2.2.2.1 bb, cell_on h.2.2.2.2.2.2 bb⟩

/-- The first m of a list. -/
theorem rgs_head {n₀ : Nat} {w : World} {b o n cap m : Nat} {T : Nat → Rg} (h : RgsIn n₀ w (some ⟨b, o, none⟩) n cap T) (hm : m ≤ n) : RgsIn n₀ w (some ⟨b, o, none⟩) m cap T := by
  obtain ⟨h1, h2, h3⟩ := h
  refine ⟨by omega, by omega, ?_⟩
  rcases h3 with h3 | ⟨b', o', e, hb, hc⟩
  · exact .inl (by omega)
  · cases e; exact .inr ⟨b, o, rfl, hb, fun i hi => hc i (by omega)⟩

/-- What is behind the first m of a list. -/
theorem rgs_tail {n₀ : Nat} {w : World} {b o n cap m : Nat} {T : Nat → Rg} (h : RgsIn n₀ w (some ⟨b, o, none⟩) n cap T) (hm : m ≤ n) : RgsIn n₀ w (some ⟨b, o + m * 3, none⟩) (n - m) (cap - m) (fun j => T (m + j)) := by
  obtain ⟨h1, h2, h3⟩ := h
  refine ⟨by omega, by omega, ?_⟩
  rcases h3 with h3 | ⟨b', o', e, hb, hc⟩
  · exact .inl (by omega)
  · cases e
    refine .inr ⟨b, o + m * 3, rfl, hb, fun i hi => ?_⟩
    have := hc (m + i) (by omega)
    rw [Nat.add_mul] at this
    simpa only [Nat.add_assoc] using this

theorem rgs_tail2 {n₀ : Nat} {w : World} {b o n cap j : Nat} {T : Nat → Rg} (h : RgsIn n₀ w (some ⟨b, o, none⟩) (n + 1) cap T) (hj : j ≤ n) :
    RgsIn n₀ w (if cap = j + 1 then some ⟨b, o, none⟩ else some ⟨b, o + (j + 1) * 3, none⟩) (n - j) (cap - (j + 1)) (fun i => T (j + 1 + i)) := by
  by_cases e : cap = j + 1
  · rw [if_pos e]
    have h1 := h.1
    exact ⟨by omega, by omega, .inl (by omega)⟩
  · rw [if_neg e]
    have := rgs_tail h (m := j + 1) (by omega)
    rwa [Nat.add_sub_add_right] at this

set_option maxRecDepth 100000 in
set_option maxHeartbeats 8000000 in
theorem once_walk (rlo rhi : ByteArray) (rop : Bool) (ab : Option Addr) (lb cb : Nat) (SB : Nat → ByteArray) (al : Option Addr) (ll cl : Nat) (TL : Nat → Rg) (ak : Option Addr) (lk ck : Nat) (SK : Nat → ByteArray) (w : World) (hw : MaxAt w)
    (hB : StrsIn w.heap.size w ab lb cb SB) (hL : RgsIn w.heap.size w al ll cl TL) (hK : StrsIn w.heap.size w ak lk ck SK)
    (formB : (ab = none ∧ lb = 0 ∧ cb = 0) ∨ ∃ y, ab = some y) (formK : (ak = none ∧ lk = 0 ∧ ck = 0) ∨ ∃ y, ak = some y) (hlb : lb ≤ 1048576) (hlk : lk ≤ 1048576) :
    Calls Try.prog 8 #[.agg #[.string rlo, .string rhi, .bool rop], .slice ab lb cb, .slice al ll cl, .slice ak lk ck] w fun e w' => e = .returned (.bool true) ∧ Below w.heap.size w w' := by
  have hW : Hid (MaxAt (w.alloc (.cells #[.string rlo, .string rhi, .bool rop] 23))) := hw.below (bnew w _)
  have C0 := aside (fun w h => shown_any w h)
  have HB := aside hB
  have HL := aside hL
  have HK := aside hK
  clear hw hB hL hK
  obtain ⟨ev, hev⟩ : ∃ x, splitE ⟨rlo, rhi, rop⟩ SB lb = x := ⟨_, rfl⟩
  obtain ⟨nn, hnn⟩ : ∃ x, splitN ⟨rlo, rhi, rop⟩ SB lb = x := ⟨_, rfl⟩
  obtain ⟨c, hc⟩ : ∃ c, Rg.chk ⟨rlo, rhi, rop⟩ = c := ⟨_, rfl⟩
  obtain ⟨tq, htq⟩ : ∃ q, tiles TL ll ⟨rlo, rhi, rop⟩ = q := ⟨_, rfl⟩
  obtain ⟨T, hT⟩ : ∃ T, piece ⟨rlo, rhi, rop⟩ SB lb = T := ⟨_, rfl⟩
  have F := aside (split_facts hev hnn)
  rw [hT] at F
  have hnl : nn ≤ lb + 1 := by
    by_cases h : ev = 0
    · rw [(F.out.2 h).1]; exact Nat.le_refl _
    · rw [F.out.1 h]; omega
  go_enter Try.func8, Try.ntmps8
  go_wp2_with fail
  refine (C0.out _ hW.out).mono ?_
  rintro e w1 ⟨rfl, b1⟩
  obtain ⟨q0, q1, q2⟩ := box3 b1
  have b01 := bthen (bnew w (.cells #[.string rlo, .string rhi, .bool rop] 23)) b1
  clear b1 hW C0
  go_wp2_with fail
  refine (split_any rlo rhi rop ab lb cb SB _ (HB.out.up b01 b01.size) (by omega)).mono ?_
  rintro e w2 ⟨aS, cS, rfl, hown, b2⟩
  rw [hnn, hT] at hown
  have HS := aside (rgs_of_own hown (by omega))
  have b02 := bthen b01 b2
  replace q0 := cell_on q0 b2
  replace q1 := cell_on q1 b2
  replace q2 := cell_on q2 b2
  rw [hev, hnn]
  clear hown b2 b01 hev hnn hT
  go_wp2_with (at_builtin; refine append_strs rfl _ _ rfl w2.heap.size _ 2 [rlo, rhi] (by rfl) (two_strs rlo rhi) ab lb cb SB (by rfl) (HB.out.up (b02.alloc b02.size _) (by simp; have := b02.size; omega)) formB (by omega) (by simp) ?_; intro a3 c3 w3 hown3 b3; refine Hid.out ?_)
  refine aside ?_
  have b23 := ((Below.refl _ w2).alloc (Nat.le_refl _) (.cells #[.string rlo, .string rhi] 9)).trans b3
  have b03 := bthen b02 b23
  go_wp2_with (at_builtin; refine append_strs rfl _ _ rfl w2.heap.size _ (2 + lb) _ (by rfl) hown3 ak lk ck SK (by rfl) (HK.out.up b03 b03.size) formK (by omega) b23.size ?_; intro a4 c4 w4 hown4 b4; refine Hid.out ?_)
  refine aside ?_
  have b24 := b23.trans b4
  have b04 := bthen b02 b24
  have HS4 := aside (HS.out.up b24 b24.size)
  have HB4 := aside (HB.out.up b04 b04.size)
  have HL4 := aside (HL.out.up b04 b04.size)
  replace q0 := cell_on q0 b24
  replace q1 := cell_on q1 b24
  replace q2 := cell_on q2 b24
  obtain ⟨n4, hn4⟩ : ∃ n4, 2 + lb + lk = n4 := ⟨_, rfl⟩
  rw [hn4] at hown4 ⊢
  obtain ⟨bs, hbs⟩ : ∃ bs, [rlo, rhi] ++ strUpto SB lb ++ strUpto SK lk = bs := ⟨_, rfl⟩
  rw [hbs] at hown4
  obtain ⟨-, -, h4 | ⟨bk, ok, rfl, hbk, hck⟩⟩ := strs_of_row hown4 (Nat.le_refl _) (by omega)
  · omega
  have HC4 := aside hck
  clear hown3 hown4 b3 b4 b23 b24 b02 b03 HS HB HL HK hbs hck formB formK
  go_wp2
  go_loopw [33] (fun i wr => ∃ m : Nat, m ≤ n4 ∧ i = .int .i64 (m : Int) ∧ Below w4.heap.size w4 wr) (fun i _ => n4 - (intOf i).toNat)
  case atStart => exact ⟨0, Nat.zero_le _, rfl, Below.refl _ _⟩
  case round =>
    obtain ⟨m, hm, rfl, hnx⟩ := hrel
    by_cases hlt : (m : Int) < (n4 : Int)
    · have ck' := (hnx.cell (p := ⟨bk, ok + m, none⟩) hbk).trans (HC4.out m (by omega))
      obtain ⟨k, hk⟩ : ∃ k, bs.getD m ByteArray.empty = k := ⟨_, rfl⟩
      rw [hk] at ck'
      have hm0 : (0 : Int) ≤ (m : Int) := by omega
      replace q0 := cell_on q0 hnx
      replace q1 := cell_on q1 hnx
      replace q2 := cell_on q2 hnx
      have CC := aside (fun w => checkRef_at hc w)
      have hb4 : n4 ≤ 2097154 := by omega
      clear hk hlb hlk
      cases hq : Rg.has ⟨rlo, rhi, rop⟩ k
      · have CH := aside (fun w => holds_at hq w)
        go_wp2_with fail
        refine (CH.out _).mono ?_
        rintro e w5 ⟨rfl, b5⟩
        have hn5 := hnx.trans (b5.mono hnx.size)
        replace q0 := cell_on q0 b5
        replace q1 := cell_on q1 b5
        replace q2 := cell_on q2 b5
        clear b5 CH ck' hnx
        by_cases he : ev = 0
        · subst he
          have CS := aside (fun w h => count_at (a := aS) (cap := cS) (c := 0) (show ((cnt T k nn : Nat) : Int) = 0 by rw [(F.out.2 rfl).2.2.1 k, hq]; rfl) w h)
          go_wp2_with fail
          refine (CS.out _ (HS4.out.up hn5 hn5.size)).mono ?_
          rintro e w6 ⟨rfl, b6⟩
          have hn6 := hn5.trans (b6.mono hn5.size)
          replace q0 := cell_on q0 b6
          replace q1 := cell_on q1 b6
          replace q2 := cell_on q2 b6
          clear b6 CS hn5
          go_wp2_with fail
          refine (CC.out _).mono ?_
          rintro e w7 ⟨rfl, b7⟩
          have hn7 := hn6.trans (b7.mono hn6.size)
          replace q0 := cell_on q0 b7
          replace q1 := cell_on q1 b7
          replace q2 := cell_on q2 b7
          clear b7 CC hn6
          by_cases hcz : c = 0
          · subst hcz
            cases tq
            · have CT := aside (fun w h => tile_at (a := al) (cap := cl) htq w h)
              clear htq
              go_wp2_with fail
              refine (CT.out _ (HL4.out.up hn7 hn7.size)).mono ?_
              rintro e w8 ⟨rfl, b8⟩
              have hn8 := hn7.trans (b8.mono hn7.size)
              clear b8 CT hn7
              go_wp2
              go_roundw
              case rel => exact ⟨m + 1, by omega, by go_num, hn8⟩
              case measure => simp [intOf]; omega
            · have CT := aside (fun w h => tile_at (a := al) (cap := cl) htq w h)
              have CN := aside (fun w h => count_at (a := al) (cap := cl) (c := 0) (show ((cnt TL k ll : Nat) : Int) = 0 by rw [tiles_cnt hc htq k, hq]; rfl) w h)
              clear htq
              go_wp2_with fail
              refine (CT.out _ (HL4.out.up hn7 hn7.size)).mono ?_
              rintro e w8 ⟨rfl, b8⟩
              have hn8 := hn7.trans (b8.mono hn7.size)
              clear b8 CT hn7
              go_wp2_with fail
              refine (CN.out _ (HL4.out.up hn8 hn8.size)).mono ?_
              rintro e w9 ⟨rfl, b9⟩
              have hn9 := hn8.trans (b9.mono hn8.size)
              clear b9 CN hn8
              go_wp2
              go_roundw
              case rel => exact ⟨m + 1, by omega, by go_num, hn9⟩
              case measure => simp [intOf]; omega
          · have hne2 : (c == 0) = false := by simpa using hcz
            go_wp2
            go_roundw
            case rel => exact ⟨m + 1, by omega, by go_num, hn7⟩
            case measure => simp [intOf]; omega
        · have hne : (ev == 0) = false := by simpa using he
          go_wp2_with fail
          refine (CC.out _).mono ?_
          rintro e w7 ⟨rfl, b7⟩
          have hn7 := hn5.trans (b7.mono hn5.size)
          replace q0 := cell_on q0 b7
          replace q1 := cell_on q1 b7
          replace q2 := cell_on q2 b7
          clear b7 CC hn5
          by_cases hcz : c = 0
          · subst hcz
            cases tq
            · have CT := aside (fun w h => tile_at (a := al) (cap := cl) htq w h)
              clear htq
              go_wp2_with fail
              refine (CT.out _ (HL4.out.up hn7 hn7.size)).mono ?_
              rintro e w8 ⟨rfl, b8⟩
              have hn8 := hn7.trans (b8.mono hn7.size)
              clear b8 CT hn7
              go_wp2
              go_roundw
              case rel => exact ⟨m + 1, by omega, by go_num, hn8⟩
              case measure => simp [intOf]; omega
            · have CT := aside (fun w h => tile_at (a := al) (cap := cl) htq w h)
              have CN := aside (fun w h => count_at (a := al) (cap := cl) (c := 0) (show ((cnt TL k ll : Nat) : Int) = 0 by rw [tiles_cnt hc htq k, hq]; rfl) w h)
              clear htq
              go_wp2_with fail
              refine (CT.out _ (HL4.out.up hn7 hn7.size)).mono ?_
              rintro e w8 ⟨rfl, b8⟩
              have hn8 := hn7.trans (b8.mono hn7.size)
              clear b8 CT hn7
              go_wp2_with fail
              refine (CN.out _ (HL4.out.up hn8 hn8.size)).mono ?_
              rintro e w9 ⟨rfl, b9⟩
              have hn9 := hn8.trans (b9.mono hn8.size)
              clear b9 CN hn8
              go_wp2
              go_roundw
              case rel => exact ⟨m + 1, by omega, by go_num, hn9⟩
              case measure => simp [intOf]; omega
          · have hne2 : (c == 0) = false := by simpa using hcz
            go_wp2
            go_roundw
            case rel => exact ⟨m + 1, by omega, by go_num, hn7⟩
            case measure => simp [intOf]; omega
      · have CH := aside (fun w => holds_at hq w)
        go_wp2_with fail
        refine (CH.out _).mono ?_
        rintro e w5 ⟨rfl, b5⟩
        have hn5 := hnx.trans (b5.mono hnx.size)
        replace q0 := cell_on q0 b5
        replace q1 := cell_on q1 b5
        replace q2 := cell_on q2 b5
        clear b5 CH ck' hnx
        by_cases he : ev = 0
        · subst he
          have CS := aside (fun w h => count_at (a := aS) (cap := cS) (c := 1) (show ((cnt T k nn : Nat) : Int) = 1 by rw [(F.out.2 rfl).2.2.1 k, hq]; rfl) w h)
          go_wp2_with fail
          refine (CS.out _ (HS4.out.up hn5 hn5.size)).mono ?_
          rintro e w6 ⟨rfl, b6⟩
          have hn6 := hn5.trans (b6.mono hn5.size)
          replace q0 := cell_on q0 b6
          replace q1 := cell_on q1 b6
          replace q2 := cell_on q2 b6
          clear b6 CS hn5
          go_wp2_with fail
          refine (CC.out _).mono ?_
          rintro e w7 ⟨rfl, b7⟩
          have hn7 := hn6.trans (b7.mono hn6.size)
          replace q0 := cell_on q0 b7
          replace q1 := cell_on q1 b7
          replace q2 := cell_on q2 b7
          clear b7 CC hn6
          by_cases hcz : c = 0
          · subst hcz
            cases tq
            · have CT := aside (fun w h => tile_at (a := al) (cap := cl) htq w h)
              clear htq
              go_wp2_with fail
              refine (CT.out _ (HL4.out.up hn7 hn7.size)).mono ?_
              rintro e w8 ⟨rfl, b8⟩
              have hn8 := hn7.trans (b8.mono hn7.size)
              clear b8 CT hn7
              go_wp2
              go_roundw
              case rel => exact ⟨m + 1, by omega, by go_num, hn8⟩
              case measure => simp [intOf]; omega
            · have CT := aside (fun w h => tile_at (a := al) (cap := cl) htq w h)
              have CN := aside (fun w h => count_at (a := al) (cap := cl) (c := 1) (show ((cnt TL k ll : Nat) : Int) = 1 by rw [tiles_cnt hc htq k, hq]; rfl) w h)
              clear htq
              go_wp2_with fail
              refine (CT.out _ (HL4.out.up hn7 hn7.size)).mono ?_
              rintro e w8 ⟨rfl, b8⟩
              have hn8 := hn7.trans (b8.mono hn7.size)
              clear b8 CT hn7
              go_wp2_with fail
              refine (CN.out _ (HL4.out.up hn8 hn8.size)).mono ?_
              rintro e w9 ⟨rfl, b9⟩
              have hn9 := hn8.trans (b9.mono hn8.size)
              clear b9 CN hn8
              go_wp2
              go_roundw
              case rel => exact ⟨m + 1, by omega, by go_num, hn9⟩
              case measure => simp [intOf]; omega
          · have hne2 : (c == 0) = false := by simpa using hcz
            go_wp2
            go_roundw
            case rel => exact ⟨m + 1, by omega, by go_num, hn7⟩
            case measure => simp [intOf]; omega
        · have hne : (ev == 0) = false := by simpa using he
          go_wp2_with fail
          refine (CC.out _).mono ?_
          rintro e w7 ⟨rfl, b7⟩
          have hn7 := hn5.trans (b7.mono hn5.size)
          replace q0 := cell_on q0 b7
          replace q1 := cell_on q1 b7
          replace q2 := cell_on q2 b7
          clear b7 CC hn5
          by_cases hcz : c = 0
          · subst hcz
            cases tq
            · have CT := aside (fun w h => tile_at (a := al) (cap := cl) htq w h)
              clear htq
              go_wp2_with fail
              refine (CT.out _ (HL4.out.up hn7 hn7.size)).mono ?_
              rintro e w8 ⟨rfl, b8⟩
              have hn8 := hn7.trans (b8.mono hn7.size)
              clear b8 CT hn7
              go_wp2
              go_roundw
              case rel => exact ⟨m + 1, by omega, by go_num, hn8⟩
              case measure => simp [intOf]; omega
            · have CT := aside (fun w h => tile_at (a := al) (cap := cl) htq w h)
              have CN := aside (fun w h => count_at (a := al) (cap := cl) (c := 1) (show ((cnt TL k ll : Nat) : Int) = 1 by rw [tiles_cnt hc htq k, hq]; rfl) w h)
              clear htq
              go_wp2_with fail
              refine (CT.out _ (HL4.out.up hn7 hn7.size)).mono ?_
              rintro e w8 ⟨rfl, b8⟩
              have hn8 := hn7.trans (b8.mono hn7.size)
              clear b8 CT hn7
              go_wp2_with fail
              refine (CN.out _ (HL4.out.up hn8 hn8.size)).mono ?_
              rintro e w9 ⟨rfl, b9⟩
              have hn9 := hn8.trans (b9.mono hn8.size)
              clear b9 CN hn8
              go_wp2
              go_roundw
              case rel => exact ⟨m + 1, by omega, by go_num, hn9⟩
              case measure => simp [intOf]; omega
          · have hne2 : (c == 0) = false := by simpa using hcz
            go_wp2
            go_roundw
            case rel => exact ⟨m + 1, by omega, by go_num, hn7⟩
            case measure => simp [intOf]; omega
    · obtain rfl : n4 = m := by omega
      replace q0 := cell_on q0 hnx
      replace q1 := cell_on q1 hnx
      replace q2 := cell_on q2 hnx
      clear HC4 hbk hc htq hlt
      by_cases he : ev = 0
      · subst he
        obtain ⟨rfl, hmay, -, fE, fN⟩ := F.out.2 rfl
        clear F
        have hw1 : IntKind.i64.wrap ((lb : Int) + 1) = (lb : Int) + 1 := by simp only [IntKind.wrap_i64]; omega
        obtain ⟨h41, h42, h4 | ⟨bS, oS, rfl, hbS, hcS⟩⟩ := HS4.out
        · omega
        have HCS := aside hcS
        clear hcS
        cases hem : Rg.emp ⟨rlo, rhi, rop⟩
        · have CE := aside (fun w => empty_at hem w)
          have FN := aside (fN hem)
          clear fN fE
          go_wp2_with fail
          refine (CE.out _).mono ?_
          rintro e w5 ⟨rfl, b5⟩
          have hn5 := hnx.trans (b5.mono hnx.size)
          replace q0 := cell_on q0 b5
          replace q1 := cell_on q1 b5
          replace q2 := cell_on q2 b5
          clear b5 CE hnx
          have CR := aside (fun w h => rising_at (a := some ⟨bS, oS, none⟩) (cap := cS) FN.out.1 w h)
          have CT := aside (fun w h => tile_at (a := some ⟨bS, oS, none⟩) (cap := cS) FN.out.2.2 w h)
          go_wp2_with fail
          refine (CR.out _ (HS4.out.up hn5 hn5.size)).mono ?_
          rintro e w6 ⟨rfl, b6⟩
          have hn6 := hn5.trans (b6.mono hn5.size)
          replace q0 := cell_on q0 b6
          replace q1 := cell_on q1 b6
          replace q2 := cell_on q2 b6
          clear b6 CR hn5
          go_wp2_with fail
          refine (CT.out _ (HS4.out.up hn6 hn6.size)).mono ?_
          rintro e w7 ⟨rfl, b7⟩
          have hn7 := hn6.trans (b7.mono hn6.size)
          replace q0 := cell_on q0 b7
          replace q1 := cell_on q1 b7
          replace q2 := cell_on q2 b7
          clear b7 CT hn6
          have kq : ∀ X, Below w4.heap.size w4 X → True := fun _ _ => trivial
          clear kq
          have HS7 := aside (HS4.out.up hn7 hn7.size)
          have HC7 : Hid (∀ i, i < lb + 1 → w7.cell? ⟨bS, oS + i * 3, none⟩ = some (.string (T i).lo) ∧ w7.cell? ⟨bS, oS + i * 3 + 1, none⟩ = some (.string (T i).hi) ∧ w7.cell? ⟨bS, oS + i * 3 + 2, none⟩ = some (.bool (T i).op)) := fun i hi =>
            ⟨(hn7.cell (p := ⟨bS, oS + i * 3, none⟩) hbS).trans (HCS.out i hi).1, (hn7.cell (p := ⟨bS, oS + i * 3 + 1, none⟩) hbS).trans (HCS.out i hi).2.1, (hn7.cell (p := ⟨bS, oS + i * 3 + 2, none⟩) hbS).trans (HCS.out i hi).2.2⟩
          have b07 := bthen b04 hn7
          clear HCS hbS HS4 HB4 HL4 hn7 hn4 b04 hm hnl hem
          go_wp2
          go_loopw [113] (fun i wr => ∃ j : Nat, j ≤ lb + 1 ∧ i = .int .i64 (j : Int) ∧ Below w7.heap.size w7 wr) (fun i _ => lb + 1 - (intOf i).toNat)
          case atStart => exact ⟨0, Nat.zero_le _, rfl, Below.refl _ _⟩
          case round =>
            obtain ⟨j, hj, rfl, hnx⟩ := hrel
            by_cases hlt : (j : Int) < (lb : Int) + 1
            · have hj' : j < lb + 1 := by omega
              have hj0 : (0 : Int) ≤ (j : Int) := by omega
              have hlt' : (j : Int) < ((lb + 1 : Nat) : Int) := by omega
              obtain ⟨c0, c1, c2⟩ := HC7.out j hj'
              replace c0 := cell_on c0 hnx
              replace c1 := cell_on c1 hnx
              replace c2 := cell_on c2 hnx
              replace q0 := cell_on q0 hnx
              replace q1 := cell_on q1 hnx
              replace q2 := cell_on q2 hnx
              have P := aside (chain_parts FN.out.2.1 hmay j hj')
              have CE := aside (fun w => empty_at (show Rg.emp ⟨(T j).lo, (T j).hi, (T j).op⟩ = false from FN.out.2.1.ne j hj') w)
              have CW := aside (fun w => within_at (show withR ⟨(T j).lo, (T j).hi, (T j).op⟩ ⟨rlo, rhi, rop⟩ = true from P.out.1) w)
              by_cases hl0 : lb = 0
              · have hl1 : decide ((1 : Int) < (lb : Int) + 1) = false := by simp only [decide_eq_false_iff_not]; omega
                clear hl0 P
                go_wp2_with fail
                refine wp_region_held_drew (S := fun X => Below w7.heap.size w7 X ∧ X.cell? ⟨w.heap.size, 0, none⟩ = some (.string rlo) ∧ X.cell? ⟨w.heap.size, 1, none⟩ = some (.string rhi) ∧ X.cell? ⟨w.heap.size, 2, none⟩ = some (.bool rop) ∧ X.cell? ⟨bS, oS + j * 3, none⟩ = some (.string (T j).lo) ∧ X.cell? ⟨bS, oS + j * 3 + 1, none⟩ = some (.string (T j).hi) ∧ X.cell? ⟨bS, oS + j * 3 + 2, none⟩ = some (.bool (T j).op)) (by kernel_rfl) ⟨hnx.drew, q0, q1, q2, c0, c1, c2⟩ (fun hHeld => ?_)
                clear q0 q1 q2 c0 c1 c2
                refine wpAnyH_take (i := 0) (v := ?_) rfl (by kernel_rfl) (by kernel_rfl) (by kernel_rfl) (fun _ _ _ h => h) (Or.inl ⟨by rfl, ?_⟩) (by assumption) ?_
                rotate_left
                · intro w hSw
                  go_simp
                  try with_reducible rfl
                simp only [Act.put, List.getElem_toArray, List.getElem_cons_zero, List.setIfInBounds_toArray, List.set_cons_zero, List.set_cons_succ]
                refine wpAnyH_take (i := 1) (v := ?_) rfl (by kernel_rfl) (by kernel_rfl) (by kernel_rfl) (fun _ _ _ h => h) (Or.inl ⟨by rfl, ?_⟩) (by assumption) ?_
                rotate_left
                · intro w hSw
                  go_simp
                  try with_reducible rfl
                simp only [Act.put, List.getElem_toArray, List.getElem_cons_zero, List.getElem_cons_succ, List.setIfInBounds_toArray, List.set_cons_zero, List.set_cons_succ]
                refine wpAnyH_take (i := 2) (v := ?_) rfl (by kernel_rfl) (by kernel_rfl) (by kernel_rfl) (fun _ _ _ h => h) (Or.inl ⟨by rfl, ?_⟩) (by assumption) ?_
                rotate_left
                · intro w hSw
                  go_simp
                  try with_reducible rfl
                simp only [Act.put, List.getElem_toArray, List.getElem_cons_zero, List.getElem_cons_succ, List.setIfInBounds_toArray, List.set_cons_zero, List.set_cons_succ]
                refine wpAnyH_take (i := 3) (v := ?_) rfl (by kernel_rfl) (by kernel_rfl) (by kernel_rfl) (fun _ _ _ h => h) (Or.inl ⟨by rfl, ?_⟩) (by assumption) ?_
                rotate_left
                · intro w hSw
                  go_simp
                  try with_reducible rfl
                simp only [Act.put, List.getElem_toArray, List.getElem_cons_zero, List.getElem_cons_succ, List.setIfInBounds_toArray, List.set_cons_zero, List.set_cons_succ]
                refine wpAnyH_ready (rs := [4]) (by kernel_rfl) (by simp) ?_
                refine AllReadyH.cons rfl (fun K hK => ?_) AllReadyH.nil
                go_simp
                refine (CE.out _).mono ?_
                rintro e w9 ⟨rfl, bb⟩
                refine hK.out _ _ (seven_keep hHeld bb) (fun hHeld => ?_)
                clear hK K CE
                refine wpAnyH_take (i := 5) (v := ?_) rfl (by kernel_rfl) (by kernel_rfl) (by kernel_rfl) (fun _ _ _ h => h) (Or.inl ⟨by rfl, ?_⟩) (by assumption) ?_
                rotate_left
                · intro w hSw
                  go_simp
                  try with_reducible rfl
                simp only [Act.put, List.getElem_toArray, List.getElem_cons_zero, List.getElem_cons_succ, List.setIfInBounds_toArray, List.set_cons_zero, List.set_cons_succ]
                refine wpAnyH_take (i := 6) (v := ?_) rfl (by kernel_rfl) (by kernel_rfl) (by kernel_rfl) (fun _ _ _ h => h) (Or.inl ⟨by rfl, ?_⟩) (by assumption) ?_
                rotate_left
                · intro w hSw
                  go_simp
                  try with_reducible rfl
                simp only [Act.put, List.getElem_toArray, List.getElem_cons_zero, List.getElem_cons_succ, List.setIfInBounds_toArray, List.set_cons_zero, List.set_cons_succ]
                refine wpAnyH_take (i := 7) (v := ?_) rfl (by kernel_rfl) (by kernel_rfl) (by kernel_rfl) (fun _ _ _ h => h) (Or.inl ⟨by rfl, ?_⟩) (by assumption) ?_
                rotate_left
                · intro w hSw
                  go_simp
                  try with_reducible rfl
                simp only [Act.put, List.getElem_toArray, List.getElem_cons_zero, List.getElem_cons_succ, List.setIfInBounds_toArray, List.set_cons_zero, List.set_cons_succ]
                refine wpAnyH_take (i := 8) (v := ?_) rfl (by kernel_rfl) (by kernel_rfl) (by kernel_rfl) (fun _ _ _ h => h) (Or.inl ⟨by rfl, ?_⟩) (by assumption) ?_
                rotate_left
                · intro w hSw
                  go_simp
                  try with_reducible rfl
                simp only [Act.put, List.getElem_toArray, List.getElem_cons_zero, List.getElem_cons_succ, List.setIfInBounds_toArray, List.set_cons_zero, List.set_cons_succ]
                refine wpAnyH_take (i := 9) (v := ?_) rfl (by kernel_rfl) (by kernel_rfl) (by kernel_rfl) (fun _ _ _ h => h) (Or.inl ⟨by rfl, ?_⟩) (by assumption) ?_
                rotate_left
                · intro w hSw
                  go_simp
                  try with_reducible rfl
                simp only [Act.put, List.getElem_toArray, List.getElem_cons_zero, List.getElem_cons_succ, List.setIfInBounds_toArray, List.set_cons_zero, List.set_cons_succ]
                refine wpAnyH_take (i := 10) (v := ?_) rfl (by kernel_rfl) (by kernel_rfl) (by kernel_rfl) (fun _ _ _ h => h) (Or.inl ⟨by rfl, ?_⟩) (by assumption) ?_
                rotate_left
                · intro w hSw
                  go_simp
                  try with_reducible rfl
                simp only [Act.put, List.getElem_toArray, List.getElem_cons_zero, List.getElem_cons_succ, List.setIfInBounds_toArray, List.set_cons_zero, List.set_cons_succ]
                refine wpAnyH_ready (rs := [11]) (by kernel_rfl) (by simp) ?_
                refine AllReadyH.cons rfl (fun K hK => ?_) AllReadyH.nil
                go_simp
                refine (CW.out _).mono ?_
                rintro e w9 ⟨rfl, bb⟩
                refine hK.out _ _ (seven_keep hHeld bb) (fun hHeld => ?_)
                clear hK K CW
                refine wpAnyH_take (i := 12) (v := ?_) rfl (by kernel_rfl) (by kernel_rfl) (by kernel_rfl) (fun _ _ _ h => h) (Or.inl ⟨by rfl, ?_⟩) (by assumption) ?_
                rotate_left
                · intro w hSw
                  go_simp
                  try with_reducible rfl
                simp only [Act.put, List.getElem_toArray, List.getElem_cons_zero, List.getElem_cons_succ, List.setIfInBounds_toArray, List.set_cons_zero, List.set_cons_succ]
                refine wpAnyH_take (i := 13) (v := ?_) rfl (by kernel_rfl) (by kernel_rfl) (by kernel_rfl) (fun _ _ _ h => h) (Or.inl ⟨by rfl, ?_⟩) (by assumption) ?_
                rotate_left
                · intro w hSw
                  go_simp
                  try with_reducible rfl
                simp only [Act.put, List.getElem_toArray, List.getElem_cons_zero, List.getElem_cons_succ, List.setIfInBounds_toArray, List.set_cons_zero, List.set_cons_succ]
                refine wpAnyH_take (i := 14) (v := ?_) rfl (by kernel_rfl) (by kernel_rfl) (by kernel_rfl) (fun _ _ _ h => h) (Or.inl ⟨by rfl, ?_⟩) (by assumption) ?_
                rotate_left
                · intro w hSw
                  go_simp
                  try with_reducible rfl
                simp only [Act.put, List.getElem_toArray, List.getElem_cons_zero, List.getElem_cons_succ, List.setIfInBounds_toArray, List.set_cons_zero, List.set_cons_succ]
                refine wpAnyH_take (i := 15) (v := ?_) rfl (by kernel_rfl) (by kernel_rfl) (by kernel_rfl) (fun _ _ _ h => h) (Or.inl ⟨by rfl, ?_⟩) (by assumption) ?_
                rotate_left
                · intro w hSw
                  go_simp
                  try with_reducible rfl
                simp only [Act.put, List.getElem_toArray, List.getElem_cons_zero, List.getElem_cons_succ, List.setIfInBounds_toArray, List.set_cons_zero, List.set_cons_succ]
                refine wpAnyH_take (i := 16) (v := ?_) rfl (by kernel_rfl) (by kernel_rfl) (by kernel_rfl) (fun _ _ _ h => h) (Or.inl ⟨by rfl, ?_⟩) (by assumption) ?_
                rotate_left
                · intro w hSw
                  go_simp
                  try with_reducible rfl
                simp only [Act.put, List.getElem_toArray, List.getElem_cons_zero, List.getElem_cons_succ, List.setIfInBounds_toArray, List.set_cons_zero, List.set_cons_succ]
                refine wpAnyH_take (i := 17) (v := ?_) rfl (by kernel_rfl) (by kernel_rfl) (by kernel_rfl) (fun _ _ _ h => h) (Or.inl ⟨by rfl, ?_⟩) (by assumption) ?_
                rotate_left
                · intro w hSw
                  go_simp
                  try with_reducible rfl
                simp only [Act.put, List.getElem_toArray, List.getElem_cons_zero, List.getElem_cons_succ, List.setIfInBounds_toArray, List.set_cons_zero, List.set_cons_succ]
                refine wpAnyH_take (i := 18) (v := ?_) rfl (by kernel_rfl) (by kernel_rfl) (by kernel_rfl) (fun _ _ _ h => h) (Or.inl ⟨by rfl, ?_⟩) (by assumption) ?_
                rotate_left
                · intro w hSw
                  go_simp
                  try with_reducible rfl
                simp only [Act.put, List.getElem_toArray, List.getElem_cons_zero, List.getElem_cons_succ, List.setIfInBounds_toArray, List.set_cons_zero, List.set_cons_succ]
                refine wpAnyH_take (i := 19) (v := undef) rfl (by kernel_rfl) (by kernel_rfl) (by kernel_rfl) (fun _ _ _ h => h) (Or.inr ⟨by rfl, rfl⟩) (by assumption) ?_
                simp only [Act.put, List.getElem_toArray, List.getElem_cons_zero, List.getElem_cons_succ, List.setIfInBounds_toArray, List.set_cons_zero, List.set_cons_succ]
                refine wpAnyH_take (i := 20) (v := undef) rfl (by kernel_rfl) (by kernel_rfl) (by kernel_rfl) (fun _ _ _ h => h) (Or.inr ⟨by rfl, rfl⟩) (by assumption) ?_
                simp only [Act.put, List.getElem_toArray, List.getElem_cons_zero, List.getElem_cons_succ, List.setIfInBounds_toArray, List.set_cons_zero, List.set_cons_succ]
                refine wpAnyH_take (i := 21) (v := undef) rfl (by kernel_rfl) (by kernel_rfl) (by kernel_rfl) (fun _ _ _ h => h) (Or.inr ⟨by rfl, rfl⟩) (by assumption) ?_
                simp only [Act.put, List.getElem_toArray, List.getElem_cons_zero, List.getElem_cons_succ, List.setIfInBounds_toArray, List.set_cons_zero, List.set_cons_succ]
                refine wpAnyH_take (i := 22) (v := undef) rfl (by kernel_rfl) (by kernel_rfl) (by kernel_rfl) (fun _ _ _ h => h) (Or.inr ⟨by rfl, rfl⟩) (by assumption) ?_
                simp only [Act.put, List.getElem_toArray, List.getElem_cons_zero, List.getElem_cons_succ, List.setIfInBounds_toArray, List.set_cons_zero, List.set_cons_succ]
                refine wpAnyH_take (i := 23) (v := undef) rfl (by kernel_rfl) (by kernel_rfl) (by kernel_rfl) (fun _ _ _ h => h) (Or.inr ⟨by rfl, rfl⟩) (by assumption) ?_
                simp only [Act.put, List.getElem_toArray, List.getElem_cons_zero, List.getElem_cons_succ, List.setIfInBounds_toArray, List.set_cons_zero, List.set_cons_succ]
                refine wpAnyH_take (i := 24) (v := undef) rfl (by kernel_rfl) (by kernel_rfl) (by kernel_rfl) (fun _ _ _ h => h) (Or.inr ⟨by rfl, rfl⟩) (by assumption) ?_
                simp only [Act.put, List.getElem_toArray, List.getElem_cons_zero, List.getElem_cons_succ, List.setIfInBounds_toArray, List.set_cons_zero, List.set_cons_succ]
                refine wpAnyH_take (i := 25) (v := undef) rfl (by kernel_rfl) (by kernel_rfl) (by kernel_rfl) (fun _ _ _ h => h) (Or.inr ⟨by rfl, rfl⟩) (by assumption) ?_
                simp only [Act.put, List.getElem_toArray, List.getElem_cons_zero, List.getElem_cons_succ, List.setIfInBounds_toArray, List.set_cons_zero, List.set_cons_succ]
                refine wpAnyH_take (i := 26) (v := undef) rfl (by kernel_rfl) (by kernel_rfl) (by kernel_rfl) (fun _ _ _ h => h) (Or.inr ⟨by rfl, rfl⟩) (by assumption) ?_
                simp only [Act.put, List.getElem_toArray, List.getElem_cons_zero, List.getElem_cons_succ, List.setIfInBounds_toArray, List.set_cons_zero, List.set_cons_succ]
                refine wpAnyH_take (i := 27) (v := undef) rfl (by kernel_rfl) (by kernel_rfl) (by kernel_rfl) (fun _ _ _ h => h) (Or.inr ⟨by rfl, rfl⟩) (by assumption) ?_
                simp only [Act.put, List.getElem_toArray, List.getElem_cons_zero, List.getElem_cons_succ, List.setIfInBounds_toArray, List.set_cons_zero, List.set_cons_succ]
                refine wpAnyH_take (i := 28) (v := undef) rfl (by kernel_rfl) (by kernel_rfl) (by kernel_rfl) (fun _ _ _ h => h) (Or.inr ⟨by rfl, rfl⟩) (by assumption) ?_
                simp only [Act.put, List.getElem_toArray, List.getElem_cons_zero, List.getElem_cons_succ, List.setIfInBounds_toArray, List.set_cons_zero, List.set_cons_succ]
                refine wpAnyH_take (i := 29) (v := undef) rfl (by kernel_rfl) (by kernel_rfl) (by kernel_rfl) (fun _ _ _ h => h) (Or.inr ⟨by rfl, rfl⟩) (by assumption) ?_
                simp only [Act.put, List.getElem_toArray, List.getElem_cons_zero, List.getElem_cons_succ, List.setIfInBounds_toArray, List.set_cons_zero, List.set_cons_succ]
                refine wpAnyH_take (i := 30) (v := undef) rfl (by kernel_rfl) (by kernel_rfl) (by kernel_rfl) (fun _ _ _ h => h) (Or.inr ⟨by rfl, rfl⟩) (by assumption) ?_
                simp only [Act.put, List.getElem_toArray, List.getElem_cons_zero, List.getElem_cons_succ, List.setIfInBounds_toArray, List.set_cons_zero, List.set_cons_succ]
                refine wpAnyH_take (i := 31) (v := undef) rfl (by kernel_rfl) (by kernel_rfl) (by kernel_rfl) (fun _ _ _ h => h) (Or.inr ⟨by rfl, rfl⟩) (by assumption) ?_
                simp only [Act.put, List.getElem_toArray, List.getElem_cons_zero, List.getElem_cons_succ, List.setIfInBounds_toArray, List.set_cons_zero, List.set_cons_succ]
                refine wpAnyH_take (i := 32) (v := undef) rfl (by kernel_rfl) (by kernel_rfl) (by kernel_rfl) (fun _ _ _ h => h) (Or.inr ⟨by rfl, rfl⟩) (by assumption) ?_
                simp only [Act.put, List.getElem_toArray, List.getElem_cons_zero, List.getElem_cons_succ, List.setIfInBounds_toArray, List.set_cons_zero, List.set_cons_succ]
                refine wpAnyH_take (i := 33) (v := undef) rfl (by kernel_rfl) (by kernel_rfl) (by kernel_rfl) (fun _ _ _ h => h) (Or.inr ⟨by rfl, rfl⟩) (by assumption) ?_
                simp only [Act.put, List.getElem_toArray, List.getElem_cons_zero, List.getElem_cons_succ, List.setIfInBounds_toArray, List.set_cons_zero, List.set_cons_succ]
                refine wpAnyH_take (i := 34) (v := undef) rfl (by kernel_rfl) (by kernel_rfl) (by kernel_rfl) (fun _ _ _ h => h) (Or.inr ⟨by rfl, rfl⟩) (by assumption) ?_
                simp only [Act.put, List.getElem_toArray, List.getElem_cons_zero, List.getElem_cons_succ, List.setIfInBounds_toArray, List.set_cons_zero, List.set_cons_succ]
                refine wpAnyH_take (i := 35) (v := undef) rfl (by kernel_rfl) (by kernel_rfl) (by kernel_rfl) (fun _ _ _ h => h) (Or.inr ⟨by rfl, rfl⟩) (by assumption) ?_
                simp only [Act.put, List.getElem_toArray, List.getElem_cons_zero, List.getElem_cons_succ, List.setIfInBounds_toArray, List.set_cons_zero, List.set_cons_succ]
                refine wpAnyH_take (i := 36) (v := undef) rfl (by kernel_rfl) (by kernel_rfl) (by kernel_rfl) (fun _ _ _ h => h) (Or.inr ⟨by rfl, rfl⟩) (by assumption) ?_
                simp only [Act.put, List.getElem_toArray, List.getElem_cons_zero, List.getElem_cons_succ, List.setIfInBounds_toArray, List.set_cons_zero, List.set_cons_succ]
                refine wpAnyH_take (i := 37) (v := undef) rfl (by kernel_rfl) (by kernel_rfl) (by kernel_rfl) (fun _ _ _ h => h) (Or.inr ⟨by rfl, rfl⟩) (by assumption) ?_
                simp only [Act.put, List.getElem_toArray, List.getElem_cons_zero, List.getElem_cons_succ, List.setIfInBounds_toArray, List.set_cons_zero, List.set_cons_succ]
                refine wpAnyH_take (i := 38) (v := undef) rfl (by kernel_rfl) (by kernel_rfl) (by kernel_rfl) (fun _ _ _ h => h) (Or.inr ⟨by rfl, rfl⟩) (by assumption) ?_
                simp only [Act.put, List.getElem_toArray, List.getElem_cons_zero, List.getElem_cons_succ, List.setIfInBounds_toArray, List.set_cons_zero, List.set_cons_succ]
                refine wpAnyH_take (i := 39) (v := undef) rfl (by kernel_rfl) (by kernel_rfl) (by kernel_rfl) (fun _ _ _ h => h) (Or.inr ⟨by rfl, rfl⟩) (by assumption) ?_
                simp only [Act.put, List.getElem_toArray, List.getElem_cons_zero, List.getElem_cons_succ, List.setIfInBounds_toArray, List.set_cons_zero, List.set_cons_succ]
                refine wpAnyH_take (i := 40) (v := ?_) rfl (by kernel_rfl) (by kernel_rfl) (by kernel_rfl) (fun _ _ _ h => h) (Or.inl ⟨by rfl, ?_⟩) (by assumption) ?_
                rotate_left
                · intro w hSw
                  go_simp
                  try with_reducible rfl
                simp only [Act.put, List.getElem_toArray, List.getElem_cons_zero, List.getElem_cons_succ, List.setIfInBounds_toArray, List.set_cons_zero, List.set_cons_succ]
                refine wpAnyH_take (i := 41) (v := ?_) rfl (by kernel_rfl) (by kernel_rfl) (by kernel_rfl) (fun _ _ _ h => h) (Or.inl ⟨by rfl, ?_⟩) (by assumption) ?_
                rotate_left
                · intro w hSw
                  go_simp
                  try with_reducible rfl
                simp only [Act.put, List.getElem_toArray, List.getElem_cons_zero, List.getElem_cons_succ, List.setIfInBounds_toArray, List.set_cons_zero, List.set_cons_succ]
                refine wpAnyH_done (by kernel_rfl) ?_ _
                go_wp2
                go_roundw
                case rel => exact ⟨j + 1, by omega, by go_num, hHeld.1⟩
                case measure => simp [intOf]; omega
              · have P2 := P.out.2 (by omega)
                have CT := aside (fun w h => tile_at (a := some ⟨bS, oS, none⟩) (cap := cS) P2.1 w h)
                have P3 : tiles (fun i => T (j + 1 + i)) (lb - j) ⟨rlo, rhi, rop⟩ = false := by
                  have e : lb - j = lb + 1 - (j + 1) := by omega
                  rw [e]; exact P2.2.1
                have HT := rgs_tail2 (j := j) HS7.out (by omega)
                obtain ⟨aT, haT⟩ : ∃ aT, (if cS = j + 1 then some (⟨bS, oS, none⟩ : Addr) else some ⟨bS, oS + (j + 1) * 3, none⟩) = aT := ⟨_, rfl⟩
                rw [haT] at HT
                have HT7 := aside HT
                clear HT
                have CU := aside (fun w h => tile_at (a := aT) (cap := cS - (j + 1)) P3 w h)
                have CV := aside (fun w => within_at (show withR ⟨rlo, rhi, rop⟩ ⟨(T j).lo, (T j).hi, (T j).op⟩ = false from P2.2.2) w)
                clear P2 P3 P
                have hl1 : (1 : Int) < (lb : Int) + 1 := by omega
                have hjw : IntKind.i64.wrap ((j : Int) + 1) = (j : Int) + 1 := by simp only [IntKind.wrap_i64]; omega
                have hjc : j ≤ cS := by omega
                have hjd : j ≤ lb := by omega
                have hje : (0 : Int) ≤ (j : Int) + 1 := by omega
                go_wp2_with fail
                refine wp_region_held_drew (S := fun X => Below w7.heap.size w7 X ∧ X.cell? ⟨w.heap.size, 0, none⟩ = some (.string rlo) ∧ X.cell? ⟨w.heap.size, 1, none⟩ = some (.string rhi) ∧ X.cell? ⟨w.heap.size, 2, none⟩ = some (.bool rop) ∧ X.cell? ⟨bS, oS + j * 3, none⟩ = some (.string (T j).lo) ∧ X.cell? ⟨bS, oS + j * 3 + 1, none⟩ = some (.string (T j).hi) ∧ X.cell? ⟨bS, oS + j * 3 + 2, none⟩ = some (.bool (T j).op)) (by kernel_rfl) ⟨hnx.drew, q0, q1, q2, c0, c1, c2⟩ (fun hHeld => ?_)
                clear q0 q1 q2 c0 c1 c2
                refine wpAnyH_take (i := 0) (v := ?_) rfl (by kernel_rfl) (by kernel_rfl) (by kernel_rfl) (fun _ _ _ h => h) (Or.inl ⟨by rfl, ?_⟩) (by assumption) ?_
                rotate_left
                · intro w hSw
                  go_simp
                  try with_reducible rfl
                simp only [Act.put, List.getElem_toArray, List.getElem_cons_zero, List.setIfInBounds_toArray, List.set_cons_zero, List.set_cons_succ]
                refine wpAnyH_take (i := 1) (v := ?_) rfl (by kernel_rfl) (by kernel_rfl) (by kernel_rfl) (fun _ _ _ h => h) (Or.inl ⟨by rfl, ?_⟩) (by assumption) ?_
                rotate_left
                · intro w hSw
                  go_simp
                  try with_reducible rfl
                simp only [Act.put, List.getElem_toArray, List.getElem_cons_zero, List.getElem_cons_succ, List.setIfInBounds_toArray, List.set_cons_zero, List.set_cons_succ]
                refine wpAnyH_take (i := 2) (v := ?_) rfl (by kernel_rfl) (by kernel_rfl) (by kernel_rfl) (fun _ _ _ h => h) (Or.inl ⟨by rfl, ?_⟩) (by assumption) ?_
                rotate_left
                · intro w hSw
                  go_simp
                  try with_reducible rfl
                simp only [Act.put, List.getElem_toArray, List.getElem_cons_zero, List.getElem_cons_succ, List.setIfInBounds_toArray, List.set_cons_zero, List.set_cons_succ]
                refine wpAnyH_take (i := 3) (v := ?_) rfl (by kernel_rfl) (by kernel_rfl) (by kernel_rfl) (fun _ _ _ h => h) (Or.inl ⟨by rfl, ?_⟩) (by assumption) ?_
                rotate_left
                · intro w hSw
                  go_simp
                  try with_reducible rfl
                simp only [Act.put, List.getElem_toArray, List.getElem_cons_zero, List.getElem_cons_succ, List.setIfInBounds_toArray, List.set_cons_zero, List.set_cons_succ]
                refine wpAnyH_ready (rs := [4]) (by kernel_rfl) (by simp) ?_
                refine AllReadyH.cons rfl (fun K hK => ?_) AllReadyH.nil
                go_simp
                refine (CE.out _).mono ?_
                rintro e w9 ⟨rfl, bb⟩
                refine hK.out _ _ (seven_keep hHeld bb) (fun hHeld => ?_)
                clear hK K CE
                refine wpAnyH_take (i := 5) (v := ?_) rfl (by kernel_rfl) (by kernel_rfl) (by kernel_rfl) (fun _ _ _ h => h) (Or.inl ⟨by rfl, ?_⟩) (by assumption) ?_
                rotate_left
                · intro w hSw
                  go_simp
                  try with_reducible rfl
                simp only [Act.put, List.getElem_toArray, List.getElem_cons_zero, List.getElem_cons_succ, List.setIfInBounds_toArray, List.set_cons_zero, List.set_cons_succ]
                refine wpAnyH_take (i := 6) (v := ?_) rfl (by kernel_rfl) (by kernel_rfl) (by kernel_rfl) (fun _ _ _ h => h) (Or.inl ⟨by rfl, ?_⟩) (by assumption) ?_
                rotate_left
                · intro w hSw
                  go_simp
                  try with_reducible rfl
                simp only [Act.put, List.getElem_toArray, List.getElem_cons_zero, List.getElem_cons_succ, List.setIfInBounds_toArray, List.set_cons_zero, List.set_cons_succ]
                refine wpAnyH_take (i := 7) (v := ?_) rfl (by kernel_rfl) (by kernel_rfl) (by kernel_rfl) (fun _ _ _ h => h) (Or.inl ⟨by rfl, ?_⟩) (by assumption) ?_
                rotate_left
                · intro w hSw
                  go_simp
                  try with_reducible rfl
                simp only [Act.put, List.getElem_toArray, List.getElem_cons_zero, List.getElem_cons_succ, List.setIfInBounds_toArray, List.set_cons_zero, List.set_cons_succ]
                refine wpAnyH_take (i := 8) (v := ?_) rfl (by kernel_rfl) (by kernel_rfl) (by kernel_rfl) (fun _ _ _ h => h) (Or.inl ⟨by rfl, ?_⟩) (by assumption) ?_
                rotate_left
                · intro w hSw
                  go_simp
                  try with_reducible rfl
                simp only [Act.put, List.getElem_toArray, List.getElem_cons_zero, List.getElem_cons_succ, List.setIfInBounds_toArray, List.set_cons_zero, List.set_cons_succ]
                refine wpAnyH_take (i := 9) (v := ?_) rfl (by kernel_rfl) (by kernel_rfl) (by kernel_rfl) (fun _ _ _ h => h) (Or.inl ⟨by rfl, ?_⟩) (by assumption) ?_
                rotate_left
                · intro w hSw
                  go_simp
                  try with_reducible rfl
                simp only [Act.put, List.getElem_toArray, List.getElem_cons_zero, List.getElem_cons_succ, List.setIfInBounds_toArray, List.set_cons_zero, List.set_cons_succ]
                refine wpAnyH_take (i := 10) (v := ?_) rfl (by kernel_rfl) (by kernel_rfl) (by kernel_rfl) (fun _ _ _ h => h) (Or.inl ⟨by rfl, ?_⟩) (by assumption) ?_
                rotate_left
                · intro w hSw
                  go_simp
                  try with_reducible rfl
                simp only [Act.put, List.getElem_toArray, List.getElem_cons_zero, List.getElem_cons_succ, List.setIfInBounds_toArray, List.set_cons_zero, List.set_cons_succ]
                refine wpAnyH_ready (rs := [11]) (by kernel_rfl) (by simp) ?_
                refine AllReadyH.cons rfl (fun K hK => ?_) AllReadyH.nil
                go_simp
                refine (CW.out _).mono ?_
                rintro e w9 ⟨rfl, bb⟩
                refine hK.out _ _ (seven_keep hHeld bb) (fun hHeld => ?_)
                clear hK K CW
                refine wpAnyH_take (i := 12) (v := ?_) rfl (by kernel_rfl) (by kernel_rfl) (by kernel_rfl) (fun _ _ _ h => h) (Or.inl ⟨by rfl, ?_⟩) (by assumption) ?_
                rotate_left
                · intro w hSw
                  go_simp
                  try with_reducible rfl
                simp only [Act.put, List.getElem_toArray, List.getElem_cons_zero, List.getElem_cons_succ, List.setIfInBounds_toArray, List.set_cons_zero, List.set_cons_succ]
                refine wpAnyH_take (i := 13) (v := ?_) rfl (by kernel_rfl) (by kernel_rfl) (by kernel_rfl) (fun _ _ _ h => h) (Or.inl ⟨by rfl, ?_⟩) (by assumption) ?_
                rotate_left
                · intro w hSw
                  go_simp
                  try with_reducible rfl
                simp only [Act.put, List.getElem_toArray, List.getElem_cons_zero, List.getElem_cons_succ, List.setIfInBounds_toArray, List.set_cons_zero, List.set_cons_succ]
                refine wpAnyH_take (i := 14) (v := ?_) rfl (by kernel_rfl) (by kernel_rfl) (by kernel_rfl) (fun _ _ _ h => h) (Or.inl ⟨by rfl, ?_⟩) (by assumption) ?_
                rotate_left
                · intro w hSw
                  go_simp
                  try with_reducible rfl
                simp only [Act.put, List.getElem_toArray, List.getElem_cons_zero, List.getElem_cons_succ, List.setIfInBounds_toArray, List.set_cons_zero, List.set_cons_succ]
                refine wpAnyH_take (i := 15) (v := ?_) rfl (by kernel_rfl) (by kernel_rfl) (by kernel_rfl) (fun _ _ _ h => h) (Or.inl ⟨by rfl, ?_⟩) (by assumption) ?_
                rotate_left
                · intro w hSw
                  go_simp
                  try with_reducible rfl
                simp only [Act.put, List.getElem_toArray, List.getElem_cons_zero, List.getElem_cons_succ, List.setIfInBounds_toArray, List.set_cons_zero, List.set_cons_succ]
                refine wpAnyH_take (i := 16) (v := ?_) rfl (by kernel_rfl) (by kernel_rfl) (by kernel_rfl) (fun _ _ _ h => h) (Or.inl ⟨by rfl, ?_⟩) (by assumption) ?_
                rotate_left
                · intro w hSw
                  go_simp
                  try with_reducible rfl
                simp only [Act.put, List.getElem_toArray, List.getElem_cons_zero, List.getElem_cons_succ, List.setIfInBounds_toArray, List.set_cons_zero, List.set_cons_succ]
                refine wpAnyH_take (i := 17) (v := ?_) rfl (by kernel_rfl) (by kernel_rfl) (by kernel_rfl) (fun _ _ _ h => h) (Or.inl ⟨by rfl, ?_⟩) (by assumption) ?_
                rotate_left
                · intro w hSw
                  go_simp
                  try with_reducible rfl
                simp only [Act.put, List.getElem_toArray, List.getElem_cons_zero, List.getElem_cons_succ, List.setIfInBounds_toArray, List.set_cons_zero, List.set_cons_succ]
                refine wpAnyH_take (i := 18) (v := ?_) rfl (by kernel_rfl) (by kernel_rfl) (by kernel_rfl) (fun _ _ _ h => h) (Or.inl ⟨by rfl, ?_⟩) (by assumption) ?_
                rotate_left
                · intro w hSw
                  go_simp
                  try with_reducible rfl
                simp only [Act.put, List.getElem_toArray, List.getElem_cons_zero, List.getElem_cons_succ, List.setIfInBounds_toArray, List.set_cons_zero, List.set_cons_succ]
                refine wpAnyH_take (i := 19) (v := ?_) rfl (by kernel_rfl) (by kernel_rfl) (by kernel_rfl) (fun _ _ _ h => h) (Or.inl ⟨by rfl, ?_⟩) (by assumption) ?_
                rotate_left
                · intro w hSw
                  go_simp
                  try with_reducible rfl
                simp only [Act.put, List.getElem_toArray, List.getElem_cons_zero, List.getElem_cons_succ, List.setIfInBounds_toArray, List.set_cons_zero, List.set_cons_succ]
                refine wpAnyH_take (i := 20) (v := ?_) rfl (by kernel_rfl) (by kernel_rfl) (by kernel_rfl) (fun _ _ _ h => h) (Or.inl ⟨by rfl, ?_⟩) (by assumption) ?_
                rotate_left
                · intro w hSw
                  go_simp
                  try with_reducible rfl
                simp only [Act.put, List.getElem_toArray, List.getElem_cons_zero, List.getElem_cons_succ, List.setIfInBounds_toArray, List.set_cons_zero, List.set_cons_succ]
                refine wpAnyH_take (i := 21) (v := ?_) rfl (by kernel_rfl) (by kernel_rfl) (by kernel_rfl) (fun _ _ _ h => h) (Or.inl ⟨by rfl, ?_⟩) (by assumption) ?_
                rotate_left
                · intro w hSw
                  go_simp
                  try with_reducible rfl
                simp only [Act.put, List.getElem_toArray, List.getElem_cons_zero, List.getElem_cons_succ, List.setIfInBounds_toArray, List.set_cons_zero, List.set_cons_succ]
                refine wpAnyH_take (i := 22) (v := ?_) rfl (by kernel_rfl) (by kernel_rfl) (by kernel_rfl) (fun _ _ _ h => h) (Or.inl ⟨by rfl, ?_⟩) (by assumption) ?_
                rotate_left
                · intro w hSw
                  go_simp
                  try with_reducible rfl
                simp only [Act.put, List.getElem_toArray, List.getElem_cons_zero, List.getElem_cons_succ, List.setIfInBounds_toArray, List.set_cons_zero, List.set_cons_succ]
                refine wpAnyH_ready (rs := [23]) (by kernel_rfl) (by simp) ?_
                refine AllReadyH.cons rfl (fun K hK => ?_) AllReadyH.nil
                go_simp
                refine (CT.out _ (rgs_head (HS7.out.up hHeld.1 hHeld.1.size) (by omega))).mono ?_
                rintro e w9 ⟨rfl, bb⟩
                refine hK.out _ _ (seven_keep hHeld bb) (fun hHeld => ?_)
                clear hK K CT
                refine wpAnyH_take (i := 24) (v := ?_) rfl (by kernel_rfl) (by kernel_rfl) (by kernel_rfl) (fun _ _ _ h => h) (Or.inl ⟨by rfl, ?_⟩) (by assumption) ?_
                rotate_left
                · intro w hSw
                  go_simp
                  try with_reducible rfl
                simp only [Act.put, List.getElem_toArray, List.getElem_cons_zero, List.getElem_cons_succ, List.setIfInBounds_toArray, List.set_cons_zero, List.set_cons_succ]
                refine wpAnyH_take (i := 25) (v := ?_) rfl (by kernel_rfl) (by kernel_rfl) (by kernel_rfl) (fun _ _ _ h => h) (Or.inl ⟨by rfl, ?_⟩) (by assumption) ?_
                rotate_left
                · intro w hSw
                  go_simp
                  try with_reducible rfl
                simp only [Act.put, List.getElem_toArray, List.getElem_cons_zero, List.getElem_cons_succ, List.setIfInBounds_toArray, List.set_cons_zero, List.set_cons_succ]
                refine wpAnyH_take (i := 26) (v := ?_) rfl (by kernel_rfl) (by kernel_rfl) (by kernel_rfl) (fun _ _ _ h => h) (Or.inl ⟨by rfl, ?_⟩) (by assumption) ?_
                rotate_left
                · intro w hSw
                  go_simp
                  try with_reducible rfl
                simp only [Act.put, List.getElem_toArray, List.getElem_cons_zero, List.getElem_cons_succ, List.setIfInBounds_toArray, List.set_cons_zero, List.set_cons_succ]
                refine wpAnyH_take (i := 27) (v := ?_) rfl (by kernel_rfl) (by kernel_rfl) (by kernel_rfl) (fun _ _ _ h => h) (Or.inl ⟨by rfl, ?_⟩) (by assumption) ?_
                rotate_left
                · intro w hSw
                  go_simp
                  try with_reducible rfl
                simp only [Act.put, List.getElem_toArray, List.getElem_cons_zero, List.getElem_cons_succ, List.setIfInBounds_toArray, List.set_cons_zero, List.set_cons_succ]
                refine wpAnyH_take (i := 28) (v := ?_) rfl (by kernel_rfl) (by kernel_rfl) (by kernel_rfl) (fun _ _ _ h => h) (Or.inl ⟨by rfl, ?_⟩) (by assumption) ?_
                rotate_left
                · intro w hSw
                  go_simp
                  try with_reducible rfl
                simp only [Act.put, List.getElem_toArray, List.getElem_cons_zero, List.getElem_cons_succ, List.setIfInBounds_toArray, List.set_cons_zero, List.set_cons_succ]
                refine wpAnyH_take (i := 29) (v := ?_) rfl (by kernel_rfl) (by kernel_rfl) (by kernel_rfl) (fun _ _ _ h => h) (Or.inl ⟨by rfl, ?_⟩) (by assumption) ?_
                rotate_left
                · intro w hSw
                  go_simp
                  try with_reducible rfl
                simp only [Act.put, List.getElem_toArray, List.getElem_cons_zero, List.getElem_cons_succ, List.setIfInBounds_toArray, List.set_cons_zero, List.set_cons_succ]
                refine wpAnyH_ready (rs := [30]) (by kernel_rfl) (by simp) ?_
                refine AllReadyH.cons rfl (fun K hK => ?_) AllReadyH.nil
                go_simp
                refine (CU.out _ (HT7.out.up hHeld.1 hHeld.1.size)).mono ?_
                rintro e w9 ⟨rfl, bb⟩
                refine hK.out _ _ (seven_keep hHeld bb) (fun hHeld => ?_)
                clear hK K CU
                refine wpAnyH_take (i := 31) (v := ?_) rfl (by kernel_rfl) (by kernel_rfl) (by kernel_rfl) (fun _ _ _ h => h) (Or.inl ⟨by rfl, ?_⟩) (by assumption) ?_
                rotate_left
                · intro w hSw
                  go_simp
                  try with_reducible rfl
                simp only [Act.put, List.getElem_toArray, List.getElem_cons_zero, List.getElem_cons_succ, List.setIfInBounds_toArray, List.set_cons_zero, List.set_cons_succ]
                refine wpAnyH_take (i := 32) (v := ?_) rfl (by kernel_rfl) (by kernel_rfl) (by kernel_rfl) (fun _ _ _ h => h) (Or.inl ⟨by rfl, ?_⟩) (by assumption) ?_
                rotate_left
                · intro w hSw
                  go_simp
                  try with_reducible rfl
                simp only [Act.put, List.getElem_toArray, List.getElem_cons_zero, List.getElem_cons_succ, List.setIfInBounds_toArray, List.set_cons_zero, List.set_cons_succ]
                refine wpAnyH_take (i := 33) (v := ?_) rfl (by kernel_rfl) (by kernel_rfl) (by kernel_rfl) (fun _ _ _ h => h) (Or.inl ⟨by rfl, ?_⟩) (by assumption) ?_
                rotate_left
                · intro w hSw
                  go_simp
                  try with_reducible rfl
                simp only [Act.put, List.getElem_toArray, List.getElem_cons_zero, List.getElem_cons_succ, List.setIfInBounds_toArray, List.set_cons_zero, List.set_cons_succ]
                refine wpAnyH_take (i := 34) (v := ?_) rfl (by kernel_rfl) (by kernel_rfl) (by kernel_rfl) (fun _ _ _ h => h) (Or.inl ⟨by rfl, ?_⟩) (by assumption) ?_
                rotate_left
                · intro w hSw
                  go_simp
                  try with_reducible rfl
                simp only [Act.put, List.getElem_toArray, List.getElem_cons_zero, List.getElem_cons_succ, List.setIfInBounds_toArray, List.set_cons_zero, List.set_cons_succ]
                refine wpAnyH_take (i := 35) (v := ?_) rfl (by kernel_rfl) (by kernel_rfl) (by kernel_rfl) (fun _ _ _ h => h) (Or.inl ⟨by rfl, ?_⟩) (by assumption) ?_
                rotate_left
                · intro w hSw
                  go_simp
                  try with_reducible rfl
                simp only [Act.put, List.getElem_toArray, List.getElem_cons_zero, List.getElem_cons_succ, List.setIfInBounds_toArray, List.set_cons_zero, List.set_cons_succ]
                refine wpAnyH_take (i := 36) (v := ?_) rfl (by kernel_rfl) (by kernel_rfl) (by kernel_rfl) (fun _ _ _ h => h) (Or.inl ⟨by rfl, ?_⟩) (by assumption) ?_
                rotate_left
                · intro w hSw
                  go_simp
                  try with_reducible rfl
                simp only [Act.put, List.getElem_toArray, List.getElem_cons_zero, List.getElem_cons_succ, List.setIfInBounds_toArray, List.set_cons_zero, List.set_cons_succ]
                refine wpAnyH_take (i := 37) (v := ?_) rfl (by kernel_rfl) (by kernel_rfl) (by kernel_rfl) (fun _ _ _ h => h) (Or.inl ⟨by rfl, ?_⟩) (by assumption) ?_
                rotate_left
                · intro w hSw
                  go_simp
                  try with_reducible rfl
                simp only [Act.put, List.getElem_toArray, List.getElem_cons_zero, List.getElem_cons_succ, List.setIfInBounds_toArray, List.set_cons_zero, List.set_cons_succ]
                refine wpAnyH_ready (rs := [38]) (by kernel_rfl) (by simp) ?_
                refine AllReadyH.cons rfl (fun K hK => ?_) AllReadyH.nil
                go_simp
                refine (CV.out _).mono ?_
                rintro e w9 ⟨rfl, bb⟩
                refine hK.out _ _ (seven_keep hHeld bb) (fun hHeld => ?_)
                clear hK K CV
                refine wpAnyH_take (i := 39) (v := ?_) rfl (by kernel_rfl) (by kernel_rfl) (by kernel_rfl) (fun _ _ _ h => h) (Or.inl ⟨by rfl, ?_⟩) (by assumption) ?_
                rotate_left
                · intro w hSw
                  go_simp
                  try with_reducible rfl
                simp only [Act.put, List.getElem_toArray, List.getElem_cons_zero, List.getElem_cons_succ, List.setIfInBounds_toArray, List.set_cons_zero, List.set_cons_succ]
                refine wpAnyH_take (i := 40) (v := ?_) rfl (by kernel_rfl) (by kernel_rfl) (by kernel_rfl) (fun _ _ _ h => h) (Or.inl ⟨by rfl, ?_⟩) (by assumption) ?_
                rotate_left
                · intro w hSw
                  go_simp
                  try with_reducible rfl
                simp only [Act.put, List.getElem_toArray, List.getElem_cons_zero, List.getElem_cons_succ, List.setIfInBounds_toArray, List.set_cons_zero, List.set_cons_succ]
                refine wpAnyH_take (i := 41) (v := ?_) rfl (by kernel_rfl) (by kernel_rfl) (by kernel_rfl) (fun _ _ _ h => h) (Or.inl ⟨by rfl, ?_⟩) (by assumption) ?_
                rotate_left
                · intro w hSw
                  go_simp
                  try with_reducible rfl
                simp only [Act.put, List.getElem_toArray, List.getElem_cons_zero, List.getElem_cons_succ, List.setIfInBounds_toArray, List.set_cons_zero, List.set_cons_succ]
                refine wpAnyH_done (by kernel_rfl) ?_ _
                go_wp2
                go_roundw
                case rel => exact ⟨j + 1, by omega, by go_num, hHeld.1⟩
                case measure => simp [intOf]; omega
            · obtain rfl : j = lb + 1 := by omega
              go_wp2
              go_ret
              exact ⟨rfl, bthen b07 hnx⟩
        · obtain ⟨-, h0, hT0⟩ := fE hem
          have CE := aside (fun w => empty_at hem w)
          obtain ⟨c0, c1, c2⟩ := HCS.out 0 (by omega)
          rw [hT0] at c0 c1 c2
          replace c0 := cell_on c0 hnx
          replace c1 := cell_on c1 hnx
          replace c2 := cell_on c2 hnx
          subst h0
          clear HCS fE fN HS4 HB4 HL4 hn4 hm hnl hem hT0 hw1
          go_wp2_with fail
          refine (CE.out _).mono ?_
          rintro e w5 ⟨rfl, b5⟩
          have hn5 := hnx.trans (b5.mono hnx.size)
          replace q0 := cell_on q0 b5
          replace q1 := cell_on q1 b5
          replace q2 := cell_on q2 b5
          replace c0 := cell_on c0 b5
          replace c1 := cell_on c1 b5
          replace c2 := cell_on c2 b5
          clear b5 CE hnx
          simp only [Nat.zero_mul, Nat.add_zero] at c0 c1 c2
          go_wp2_with fail
          refine wp_region_held_drew (S := fun X => Below w4.heap.size w4 X ∧ X.cell? ⟨w.heap.size, 0, none⟩ = some (.string rlo) ∧ X.cell? ⟨w.heap.size, 1, none⟩ = some (.string rhi) ∧ X.cell? ⟨w.heap.size, 2, none⟩ = some (.bool rop) ∧ X.cell? ⟨bS, oS, none⟩ = some (.string rlo) ∧ X.cell? ⟨bS, oS + 1, none⟩ = some (.string rhi) ∧ X.cell? ⟨bS, oS + 2, none⟩ = some (.bool rop)) (by kernel_rfl) ⟨hn5.drew, q0, q1, q2, c0, c1, c2⟩ (fun hHeld => ?_)
          clear q0 q1 q2 c0 c1 c2
          refine wpAnyH_take (i := 0) (v := ?_) rfl (by kernel_rfl) (by kernel_rfl) (by kernel_rfl) (fun _ _ _ h => h) (Or.inl ⟨by rfl, ?_⟩) (by assumption) ?_
          rotate_left
          · intro w hSw
            go_simp
            try with_reducible rfl
          simp only [Act.put, List.getElem_toArray, List.getElem_cons_zero, List.setIfInBounds_toArray, List.set_cons_zero, List.set_cons_succ]
          refine wpAnyH_take (i := 1) (v := ?_) rfl (by kernel_rfl) (by kernel_rfl) (by kernel_rfl) (fun _ _ _ h => h) (Or.inl ⟨by rfl, ?_⟩) (by assumption) ?_
          rotate_left
          · intro w hSw
            go_simp
            try with_reducible rfl
          simp only [Act.put, List.getElem_toArray, List.getElem_cons_zero, List.getElem_cons_succ, List.setIfInBounds_toArray, List.set_cons_zero, List.set_cons_succ]
          refine wpAnyH_take (i := 2) (v := ?_) rfl (by kernel_rfl) (by kernel_rfl) (by kernel_rfl) (fun _ _ _ h => h) (Or.inl ⟨by rfl, ?_⟩) (by assumption) ?_
          rotate_left
          · intro w hSw
            go_simp
            try with_reducible rfl
          simp only [Act.put, List.getElem_toArray, List.getElem_cons_zero, List.getElem_cons_succ, List.setIfInBounds_toArray, List.set_cons_zero, List.set_cons_succ]
          refine wpAnyH_take (i := 3) (v := undef) rfl (by kernel_rfl) (by kernel_rfl) (by kernel_rfl) (fun _ _ _ h => h) (Or.inr ⟨by rfl, rfl⟩) (by assumption) ?_
          simp only [Act.put, List.getElem_toArray, List.getElem_cons_zero, List.getElem_cons_succ, List.setIfInBounds_toArray, List.set_cons_zero, List.set_cons_succ]
          refine wpAnyH_take (i := 4) (v := undef) rfl (by kernel_rfl) (by kernel_rfl) (by kernel_rfl) (fun _ _ _ h => h) (Or.inr ⟨by rfl, rfl⟩) (by assumption) ?_
          simp only [Act.put, List.getElem_toArray, List.getElem_cons_zero, List.getElem_cons_succ, List.setIfInBounds_toArray, List.set_cons_zero, List.set_cons_succ]
          refine wpAnyH_take (i := 5) (v := undef) rfl (by kernel_rfl) (by kernel_rfl) (by kernel_rfl) (fun _ _ _ h => h) (Or.inr ⟨by rfl, rfl⟩) (by assumption) ?_
          simp only [Act.put, List.getElem_toArray, List.getElem_cons_zero, List.getElem_cons_succ, List.setIfInBounds_toArray, List.set_cons_zero, List.set_cons_succ]
          refine wpAnyH_take (i := 6) (v := ?_) rfl (by kernel_rfl) (by kernel_rfl) (by kernel_rfl) (fun _ _ _ h => h) (Or.inl ⟨by rfl, ?_⟩) (by assumption) ?_
          rotate_left
          · intro w hSw
            go_simp
            try with_reducible rfl
          simp only [Act.put, List.getElem_toArray, List.getElem_cons_zero, List.getElem_cons_succ, List.setIfInBounds_toArray, List.set_cons_zero, List.set_cons_succ]
          refine wpAnyH_take (i := 7) (v := ?_) rfl (by kernel_rfl) (by kernel_rfl) (by kernel_rfl) (fun _ _ _ h => h) (Or.inl ⟨by rfl, ?_⟩) (by assumption) ?_
          rotate_left
          · intro w hSw
            go_simp
            try with_reducible rfl
          simp only [Act.put, List.getElem_toArray, List.getElem_cons_zero, List.getElem_cons_succ, List.setIfInBounds_toArray, List.set_cons_zero, List.set_cons_succ]
          refine wpAnyH_take (i := 8) (v := ?_) rfl (by kernel_rfl) (by kernel_rfl) (by kernel_rfl) (fun _ _ _ h => h) (Or.inl ⟨by rfl, ?_⟩) (by assumption) ?_
          rotate_left
          · intro w hSw
            go_simp
            try with_reducible rfl
          simp only [Act.put, List.getElem_toArray, List.getElem_cons_zero, List.getElem_cons_succ, List.setIfInBounds_toArray, List.set_cons_zero, List.set_cons_succ]
          refine wpAnyH_take (i := 9) (v := ?_) rfl (by kernel_rfl) (by kernel_rfl) (by kernel_rfl) (fun _ _ _ h => h) (Or.inl ⟨by rfl, ?_⟩) (by assumption) ?_
          rotate_left
          · intro w hSw
            go_simp
            try with_reducible rfl
          simp only [Act.put, List.getElem_toArray, List.getElem_cons_zero, List.getElem_cons_succ, List.setIfInBounds_toArray, List.set_cons_zero, List.set_cons_succ]
          refine wpAnyH_take (i := 10) (v := ?_) rfl (by kernel_rfl) (by kernel_rfl) (by kernel_rfl) (fun _ _ _ h => h) (Or.inl ⟨by rfl, ?_⟩) (by assumption) ?_
          rotate_left
          · intro w hSw
            go_simp
            try with_reducible rfl
          simp only [Act.put, List.getElem_toArray, List.getElem_cons_zero, List.getElem_cons_succ, List.setIfInBounds_toArray, List.set_cons_zero, List.set_cons_succ]
          refine wpAnyH_take (i := 11) (v := ?_) rfl (by kernel_rfl) (by kernel_rfl) (by kernel_rfl) (fun _ _ _ h => h) (Or.inl ⟨by rfl, ?_⟩) (by assumption) ?_
          rotate_left
          · intro w hSw
            go_simp
            try with_reducible rfl
          simp only [Act.put, List.getElem_toArray, List.getElem_cons_zero, List.getElem_cons_succ, List.setIfInBounds_toArray, List.set_cons_zero, List.set_cons_succ]
          refine wpAnyH_take (i := 12) (v := ?_) rfl (by kernel_rfl) (by kernel_rfl) (by kernel_rfl) (fun _ _ _ h => h) (Or.inl ⟨by rfl, ?_⟩) (by assumption) ?_
          rotate_left
          · intro w hSw
            go_simp
            try with_reducible rfl
          simp only [Act.put, List.getElem_toArray, List.getElem_cons_zero, List.getElem_cons_succ, List.setIfInBounds_toArray, List.set_cons_zero, List.set_cons_succ]
          refine wpAnyH_take (i := 13) (v := ?_) rfl (by kernel_rfl) (by kernel_rfl) (by kernel_rfl) (fun _ _ _ h => h) (Or.inl ⟨by rfl, ?_⟩) (by assumption) ?_
          rotate_left
          · intro w hSw
            go_simp
            try with_reducible rfl
          simp only [Act.put, List.getElem_toArray, List.getElem_cons_zero, List.getElem_cons_succ, List.setIfInBounds_toArray, List.set_cons_zero, List.set_cons_succ]
          refine wpAnyH_take (i := 14) (v := ?_) rfl (by kernel_rfl) (by kernel_rfl) (by kernel_rfl) (fun _ _ _ h => h) (Or.inl ⟨by rfl, ?_⟩) (by assumption) ?_
          rotate_left
          · intro w hSw
            go_simp
            try with_reducible rfl
          simp only [Act.put, List.getElem_toArray, List.getElem_cons_zero, List.getElem_cons_succ, List.setIfInBounds_toArray, List.set_cons_zero, List.set_cons_succ]
          refine wpAnyH_take (i := 15) (v := ?_) rfl (by kernel_rfl) (by kernel_rfl) (by kernel_rfl) (fun _ _ _ h => h) (Or.inl ⟨by rfl, ?_⟩) (by assumption) ?_
          rotate_left
          · intro w hSw
            go_simp
            try with_reducible rfl
          simp only [Act.put, List.getElem_toArray, List.getElem_cons_zero, List.getElem_cons_succ, List.setIfInBounds_toArray, List.set_cons_zero, List.set_cons_succ]
          refine wpAnyH_take (i := 16) (v := ?_) rfl (by kernel_rfl) (by kernel_rfl) (by kernel_rfl) (fun _ _ _ h => h) (Or.inl ⟨by rfl, ?_⟩) (by assumption) ?_
          rotate_left
          · intro w hSw
            go_simp
            try with_reducible rfl
          simp only [Act.put, List.getElem_toArray, List.getElem_cons_zero, List.getElem_cons_succ, List.setIfInBounds_toArray, List.set_cons_zero, List.set_cons_succ]
          refine wpAnyH_take (i := 17) (v := ?_) rfl (by kernel_rfl) (by kernel_rfl) (by kernel_rfl) (fun _ _ _ h => h) (Or.inl ⟨by rfl, ?_⟩) (by assumption) ?_
          rotate_left
          · intro w hSw
            go_simp
            try with_reducible rfl
          simp only [Act.put, List.getElem_toArray, List.getElem_cons_zero, List.getElem_cons_succ, List.setIfInBounds_toArray, List.set_cons_zero, List.set_cons_succ]
          refine wpAnyH_take (i := 18) (v := ?_) rfl (by kernel_rfl) (by kernel_rfl) (by kernel_rfl) (fun _ _ _ h => h) (Or.inl ⟨by rfl, ?_⟩) (by assumption) ?_
          rotate_left
          · intro w hSw
            go_simp
            try with_reducible rfl
          simp only [Act.put, List.getElem_toArray, List.getElem_cons_zero, List.getElem_cons_succ, List.setIfInBounds_toArray, List.set_cons_zero, List.set_cons_succ]
          refine wpAnyH_take (i := 19) (v := ?_) rfl (by kernel_rfl) (by kernel_rfl) (by kernel_rfl) (fun _ _ _ h => h) (Or.inl ⟨by rfl, ?_⟩) (by assumption) ?_
          rotate_left
          · intro w hSw
            go_simp
            try with_reducible rfl
          simp only [Act.put, List.getElem_toArray, List.getElem_cons_zero, List.getElem_cons_succ, List.setIfInBounds_toArray, List.set_cons_zero, List.set_cons_succ]
          refine wpAnyH_take (i := 20) (v := ?_) rfl (by kernel_rfl) (by kernel_rfl) (by kernel_rfl) (fun _ _ _ h => h) (Or.inl ⟨by rfl, ?_⟩) (by assumption) ?_
          rotate_left
          · intro w hSw
            go_simp
            try with_reducible rfl
          simp only [Act.put, List.getElem_toArray, List.getElem_cons_zero, List.getElem_cons_succ, List.setIfInBounds_toArray, List.set_cons_zero, List.set_cons_succ]
          refine wpAnyH_take (i := 21) (v := ?_) rfl (by kernel_rfl) (by kernel_rfl) (by kernel_rfl) (fun _ _ _ h => h) (Or.inl ⟨by rfl, ?_⟩) (by assumption) ?_
          rotate_left
          · intro w hSw
            go_simp
            try with_reducible rfl
          simp only [Act.put, List.getElem_toArray, List.getElem_cons_zero, List.getElem_cons_succ, List.setIfInBounds_toArray, List.set_cons_zero, List.set_cons_succ]
          refine wpAnyH_take (i := 22) (v := ?_) rfl (by kernel_rfl) (by kernel_rfl) (by kernel_rfl) (fun _ _ _ h => h) (Or.inl ⟨by rfl, ?_⟩) (by assumption) ?_
          rotate_left
          · intro w hSw
            go_simp
            try with_reducible rfl
          simp only [Act.put, List.getElem_toArray, List.getElem_cons_zero, List.getElem_cons_succ, List.setIfInBounds_toArray, List.set_cons_zero, List.set_cons_succ]
          refine wpAnyH_take (i := 23) (v := ?_) rfl (by kernel_rfl) (by kernel_rfl) (by kernel_rfl) (fun _ _ _ h => h) (Or.inl ⟨by rfl, ?_⟩) (by assumption) ?_
          rotate_left
          · intro w hSw
            go_simp
            try with_reducible rfl
          simp only [Act.put, List.getElem_toArray, List.getElem_cons_zero, List.getElem_cons_succ, List.setIfInBounds_toArray, List.set_cons_zero, List.set_cons_succ]
          refine wpAnyH_done (by kernel_rfl) ?_ _
          go_wp2
          go_ret
          exact ⟨rfl, bthen b04 hHeld.1⟩
      · have hne : (ev == 0) = false := by simpa using he
        have hne2 : (ev != 0) = true := by simpa using he
        have hn0 := F.out.1 he
        subst hn0
        clear F HS4 HB4 HL4 hn4 hm hnl
        go_wp2_with fail
        refine wp_region_held_drew (S := fun X => Below w4.heap.size w4 X) (by kernel_rfl) hnx.drew (fun hHeld => ?_)
        clear q0 q1 q2
        refine wpAnyH_take (i := 0) (v := ?_) rfl (by kernel_rfl) (by kernel_rfl) (by kernel_rfl) (fun _ _ _ h => h) (Or.inl ⟨by rfl, ?_⟩) (by assumption) ?_
        rotate_left
        · intro w hSw
          go_simp
          try with_reducible rfl
        simp only [Act.put, List.getElem_toArray, List.getElem_cons_zero, List.setIfInBounds_toArray, List.set_cons_zero, List.set_cons_succ]
        refine wpAnyH_take (i := 1) (v := ?_) rfl (by kernel_rfl) (by kernel_rfl) (by kernel_rfl) (fun _ _ _ h => h) (Or.inl ⟨by rfl, ?_⟩) (by assumption) ?_
        rotate_left
        · intro w hSw
          go_simp
          try with_reducible rfl
        simp only [Act.put, List.getElem_toArray, List.getElem_cons_zero, List.getElem_cons_succ, List.setIfInBounds_toArray, List.set_cons_zero, List.set_cons_succ]
        refine wpAnyH_take (i := 2) (v := ?_) rfl (by kernel_rfl) (by kernel_rfl) (by kernel_rfl) (fun _ _ _ h => h) (Or.inl ⟨by rfl, ?_⟩) (by assumption) ?_
        rotate_left
        · intro w hSw
          go_simp
          try with_reducible rfl
        simp only [Act.put, List.getElem_toArray, List.getElem_cons_zero, List.getElem_cons_succ, List.setIfInBounds_toArray, List.set_cons_zero, List.set_cons_succ]
        refine wpAnyH_take (i := 3) (v := ?_) rfl (by kernel_rfl) (by kernel_rfl) (by kernel_rfl) (fun _ _ _ h => h) (Or.inl ⟨by rfl, ?_⟩) (by assumption) ?_
        rotate_left
        · intro w hSw
          go_simp
          try with_reducible rfl
        simp only [Act.put, List.getElem_toArray, List.getElem_cons_zero, List.getElem_cons_succ, List.setIfInBounds_toArray, List.set_cons_zero, List.set_cons_succ]
        refine wpAnyH_take (i := 4) (v := ?_) rfl (by kernel_rfl) (by kernel_rfl) (by kernel_rfl) (fun _ _ _ h => h) (Or.inl ⟨by rfl, ?_⟩) (by assumption) ?_
        rotate_left
        · intro w hSw
          go_simp
          try with_reducible rfl
        simp only [Act.put, List.getElem_toArray, List.getElem_cons_zero, List.getElem_cons_succ, List.setIfInBounds_toArray, List.set_cons_zero, List.set_cons_succ]
        refine wpAnyH_take (i := 5) (v := ?_) rfl (by kernel_rfl) (by kernel_rfl) (by kernel_rfl) (fun _ _ _ h => h) (Or.inl ⟨by rfl, ?_⟩) (by assumption) ?_
        rotate_left
        · intro w hSw
          go_simp
          try with_reducible rfl
        simp only [Act.put, List.getElem_toArray, List.getElem_cons_zero, List.getElem_cons_succ, List.setIfInBounds_toArray, List.set_cons_zero, List.set_cons_succ]
        refine wpAnyH_take (i := 6) (v := ?_) rfl (by kernel_rfl) (by kernel_rfl) (by kernel_rfl) (fun _ _ _ h => h) (Or.inl ⟨by rfl, ?_⟩) (by assumption) ?_
        rotate_left
        · intro w hSw
          go_simp
          try with_reducible rfl
        simp only [Act.put, List.getElem_toArray, List.getElem_cons_zero, List.getElem_cons_succ, List.setIfInBounds_toArray, List.set_cons_zero, List.set_cons_succ]
        refine wpAnyH_take (i := 7) (v := ?_) rfl (by kernel_rfl) (by kernel_rfl) (by kernel_rfl) (fun _ _ _ h => h) (Or.inl ⟨by rfl, ?_⟩) (by assumption) ?_
        rotate_left
        · intro w hSw
          go_simp
          try with_reducible rfl
        simp only [Act.put, List.getElem_toArray, List.getElem_cons_zero, List.getElem_cons_succ, List.setIfInBounds_toArray, List.set_cons_zero, List.set_cons_succ]
        refine wpAnyH_take (i := 8) (v := undef) rfl (by kernel_rfl) (by kernel_rfl) (by kernel_rfl) (fun _ _ _ h => h) (Or.inr ⟨by rfl, rfl⟩) (by assumption) ?_
        simp only [Act.put, List.getElem_toArray, List.getElem_cons_zero, List.getElem_cons_succ, List.setIfInBounds_toArray, List.set_cons_zero, List.set_cons_succ]
        refine wpAnyH_take (i := 9) (v := undef) rfl (by kernel_rfl) (by kernel_rfl) (by kernel_rfl) (fun _ _ _ h => h) (Or.inr ⟨by rfl, rfl⟩) (by assumption) ?_
        simp only [Act.put, List.getElem_toArray, List.getElem_cons_zero, List.getElem_cons_succ, List.setIfInBounds_toArray, List.set_cons_zero, List.set_cons_succ]
        refine wpAnyH_take (i := 10) (v := undef) rfl (by kernel_rfl) (by kernel_rfl) (by kernel_rfl) (fun _ _ _ h => h) (Or.inr ⟨by rfl, rfl⟩) (by assumption) ?_
        simp only [Act.put, List.getElem_toArray, List.getElem_cons_zero, List.getElem_cons_succ, List.setIfInBounds_toArray, List.set_cons_zero, List.set_cons_succ]
        refine wpAnyH_take (i := 11) (v := undef) rfl (by kernel_rfl) (by kernel_rfl) (by kernel_rfl) (fun _ _ _ h => h) (Or.inr ⟨by rfl, rfl⟩) (by assumption) ?_
        simp only [Act.put, List.getElem_toArray, List.getElem_cons_zero, List.getElem_cons_succ, List.setIfInBounds_toArray, List.set_cons_zero, List.set_cons_succ]
        refine wpAnyH_take (i := 12) (v := undef) rfl (by kernel_rfl) (by kernel_rfl) (by kernel_rfl) (fun _ _ _ h => h) (Or.inr ⟨by rfl, rfl⟩) (by assumption) ?_
        simp only [Act.put, List.getElem_toArray, List.getElem_cons_zero, List.getElem_cons_succ, List.setIfInBounds_toArray, List.set_cons_zero, List.set_cons_succ]
        refine wpAnyH_take (i := 13) (v := undef) rfl (by kernel_rfl) (by kernel_rfl) (by kernel_rfl) (fun _ _ _ h => h) (Or.inr ⟨by rfl, rfl⟩) (by assumption) ?_
        simp only [Act.put, List.getElem_toArray, List.getElem_cons_zero, List.getElem_cons_succ, List.setIfInBounds_toArray, List.set_cons_zero, List.set_cons_succ]
        refine wpAnyH_take (i := 14) (v := undef) rfl (by kernel_rfl) (by kernel_rfl) (by kernel_rfl) (fun _ _ _ h => h) (Or.inr ⟨by rfl, rfl⟩) (by assumption) ?_
        simp only [Act.put, List.getElem_toArray, List.getElem_cons_zero, List.getElem_cons_succ, List.setIfInBounds_toArray, List.set_cons_zero, List.set_cons_succ]
        refine wpAnyH_take (i := 15) (v := undef) rfl (by kernel_rfl) (by kernel_rfl) (by kernel_rfl) (fun _ _ _ h => h) (Or.inr ⟨by rfl, rfl⟩) (by assumption) ?_
        simp only [Act.put, List.getElem_toArray, List.getElem_cons_zero, List.getElem_cons_succ, List.setIfInBounds_toArray, List.set_cons_zero, List.set_cons_succ]
        refine wpAnyH_take (i := 16) (v := undef) rfl (by kernel_rfl) (by kernel_rfl) (by kernel_rfl) (fun _ _ _ h => h) (Or.inr ⟨by rfl, rfl⟩) (by assumption) ?_
        simp only [Act.put, List.getElem_toArray, List.getElem_cons_zero, List.getElem_cons_succ, List.setIfInBounds_toArray, List.set_cons_zero, List.set_cons_succ]
        refine wpAnyH_take (i := 17) (v := undef) rfl (by kernel_rfl) (by kernel_rfl) (by kernel_rfl) (fun _ _ _ h => h) (Or.inr ⟨by rfl, rfl⟩) (by assumption) ?_
        simp only [Act.put, List.getElem_toArray, List.getElem_cons_zero, List.getElem_cons_succ, List.setIfInBounds_toArray, List.set_cons_zero, List.set_cons_succ]
        refine wpAnyH_take (i := 18) (v := undef) rfl (by kernel_rfl) (by kernel_rfl) (by kernel_rfl) (fun _ _ _ h => h) (Or.inr ⟨by rfl, rfl⟩) (by assumption) ?_
        simp only [Act.put, List.getElem_toArray, List.getElem_cons_zero, List.getElem_cons_succ, List.setIfInBounds_toArray, List.set_cons_zero, List.set_cons_succ]
        refine wpAnyH_take (i := 19) (v := undef) rfl (by kernel_rfl) (by kernel_rfl) (by kernel_rfl) (fun _ _ _ h => h) (Or.inr ⟨by rfl, rfl⟩) (by assumption) ?_
        simp only [Act.put, List.getElem_toArray, List.getElem_cons_zero, List.getElem_cons_succ, List.setIfInBounds_toArray, List.set_cons_zero, List.set_cons_succ]
        refine wpAnyH_take (i := 20) (v := undef) rfl (by kernel_rfl) (by kernel_rfl) (by kernel_rfl) (fun _ _ _ h => h) (Or.inr ⟨by rfl, rfl⟩) (by assumption) ?_
        simp only [Act.put, List.getElem_toArray, List.getElem_cons_zero, List.getElem_cons_succ, List.setIfInBounds_toArray, List.set_cons_zero, List.set_cons_succ]
        refine wpAnyH_take (i := 21) (v := undef) rfl (by kernel_rfl) (by kernel_rfl) (by kernel_rfl) (fun _ _ _ h => h) (Or.inr ⟨by rfl, rfl⟩) (by assumption) ?_
        simp only [Act.put, List.getElem_toArray, List.getElem_cons_zero, List.getElem_cons_succ, List.setIfInBounds_toArray, List.set_cons_zero, List.set_cons_succ]
        refine wpAnyH_take (i := 22) (v := ?_) rfl (by kernel_rfl) (by kernel_rfl) (by kernel_rfl) (fun _ _ _ h => h) (Or.inl ⟨by rfl, ?_⟩) (by assumption) ?_
        rotate_left
        · intro w hSw
          go_simp
          try with_reducible rfl
        simp only [Act.put, List.getElem_toArray, List.getElem_cons_zero, List.getElem_cons_succ, List.setIfInBounds_toArray, List.set_cons_zero, List.set_cons_succ]
        refine wpAnyH_take (i := 23) (v := ?_) rfl (by kernel_rfl) (by kernel_rfl) (by kernel_rfl) (fun _ _ _ h => h) (Or.inl ⟨by rfl, ?_⟩) (by assumption) ?_
        rotate_left
        · intro w hSw
          go_simp
          try with_reducible rfl
        simp only [Act.put, List.getElem_toArray, List.getElem_cons_zero, List.getElem_cons_succ, List.setIfInBounds_toArray, List.set_cons_zero, List.set_cons_succ]
        refine wpAnyH_done (by kernel_rfl) ?_ _
        go_wp2
        go_ret
        exact ⟨rfl, bthen b04 hHeld⟩

end Go.Proofs.Ytidajlnaehhkkaa
