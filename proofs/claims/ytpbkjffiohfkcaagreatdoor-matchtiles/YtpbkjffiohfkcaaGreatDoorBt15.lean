/-
  Of and All of tallies, of the code and of the document.
-/
import Derived.Test.YtpbkjffiohfkcaaGreatDoorBt3
import Derived.Deep.RegionWith
import Derived.Test.YtpbkjffiohfkcaaGreatDoorBt14
import Derived.Test.YtpbkjffiohfkcaaGreatDoorBt13
import Derived.Laws.StructEq
import Derived.Test.YtpbkjffiohfkcaaGreatDoorBt1
import Derived.Deep.RegionHeld
import Derived.OrdersHeld
import Derived.Deep.RegionHeld3
namespace Go.Proofs.YtpbkjffiohfkcaaGreatDoor
open Go.RowKit
set_option linter.unusedVariables false
set_option maxHeartbeats 1600000 in
set_option maxRecDepth 100000 in
theorem tof_any (k : ByteArray) (c n : Int) (v : ByteArray) (d : Bool) (w : World) (L : Lanes w) (hk : k.size ≤ 140737488351232) :
    Calls Tryz.prog 92 #[.agg #[.string k, .int .i64 c, .int .i64 n, .string v, .bool d]] w fun e w' => e = .returned (.agg #[.int .i64 1, .int .u64 (of0 k c n), .int .u64 (of1 k c n)]) ∧ Below w.heap.size w w' := by
 have LL := aside L
 clear L
 have B0 := aside (bthen (bnew w (.cells #[.string k, .int .i64 c, .int .i64 n, .string v, .bool d] 77)) (bnew _ (.cells #[.int .i64 0, .int .u64 0, .int .u64 0] 45)))
 have G := aside (heap_alloc_new (w.alloc (.cells #[.string k, .int .i64 c, .int .i64 n, .string v, .bool d] 77)) (.cells #[.int .i64 0, .int .u64 0, .int .u64 0] 45))
 have hz : (w.alloc (.cells #[.string k, .int .i64 c, .int .i64 n, .string v, .bool d] 77)).heap.size = w.heap.size + 1 := by simp
 rw [hz] at G
 obtain ⟨x, hx⟩ : ∃ x, of0 k c n = x := ⟨_, rfl⟩
 obtain ⟨y, hy⟩ : ∃ y, of1 k c n = y := ⟨_, rfl⟩
 have CO : Hid (∀ W, Below w.heap.size w W → Calls Tryz.prog 116 #[.string k, .agg #[.int .i64 c, .int .i64 n]] W fun e w' => e = .returned (.agg #[.int .u64 x, .int .u64 y]) ∧ Below W.heap.size W w') := fun W bw => by
  rw [← hx, ← hy]
  exact of_any k c n W (LL.out.keep bw) (by omega)
 rw [hx, hy]
 clear hz hx hy
 go_enter Tryz.func92, Tryz.ntmps92
 go_wp2_with fail
 generalize (w.alloc (.cells #[.string k, .int .i64 c, .int .i64 n, .string v, .bool d] 77)).alloc (.cells #[.int .i64 0, .int .u64 0, .int .u64 0] 45) = V at *
 refine (CO.out _ B0.out).mono ?_
 rintro e w1 ⟨rfl, b1⟩
 have B1 := aside (bthen B0.out b1)
 obtain ⟨s0, s1, s2, z0, z1, z2⟩ := tri (blk_on G.out b1)
 clear b1 G B0
 go_wp2
 exact bodyPost_ret (v := .agg #[.int .i64 1, .int .u64 x, .int .u64 y]) (by simp [results, Tryz.results92, go_sem, s0, s1, s2]) rfl ⟨rfl, ((B1.out.setCell (by simp) _).setCell (by simp) _).setCell (by simp) _⟩
set_option maxHeartbeats 1600000 in
set_option maxRecDepth 100000 in
theorem tofRef_any (k : ByteArray) (c n : Int) (v : ByteArray) (d : Bool) (w : World) (hk : k.size ≤ 140737488351232) :
    Calls Tryz.prog 105 #[.agg #[.string k, .int .i64 c, .int .i64 n, .string v, .bool d]] w fun e w' => e = .returned (.agg #[.int .i64 1, .int .u64 (of0 k c n), .int .u64 (of1 k c n)]) ∧ Below w.heap.size w w' := by
 have B0 := aside (bthen (bnew w (.cells #[.string k, .int .i64 c, .int .i64 n, .string v, .bool d] 77)) (bnew _ (.cells #[.int .i64 0, .int .u64 0, .int .u64 0] 45)))
 have G := aside (heap_alloc_new (w.alloc (.cells #[.string k, .int .i64 c, .int .i64 n, .string v, .bool d] 77)) (.cells #[.int .i64 0, .int .u64 0, .int .u64 0] 45))
 have hz : (w.alloc (.cells #[.string k, .int .i64 c, .int .i64 n, .string v, .bool d] 77)).heap.size = w.heap.size + 1 := by simp
 rw [hz] at G
 obtain ⟨x, hx⟩ : ∃ x, of0 k c n = x := ⟨_, rfl⟩
 obtain ⟨y, hy⟩ : ∃ y, of1 k c n = y := ⟨_, rfl⟩
 have CO : Hid (∀ W, Below w.heap.size w W → Calls Tryz.prog 127 #[.string k, .agg #[.int .i64 c, .int .i64 n]] W fun e w' => e = .returned (.agg #[.int .u64 x, .int .u64 y]) ∧ Below W.heap.size W w') := fun W bw => by
  rw [← hx, ← hy]
  exact ofRef_any k c n W hk
 rw [hx, hy]
 clear hz hx hy
 go_enter Tryz.func105, Tryz.ntmps105
 go_wp2_with fail
 generalize (w.alloc (.cells #[.string k, .int .i64 c, .int .i64 n, .string v, .bool d] 77)).alloc (.cells #[.int .i64 0, .int .u64 0, .int .u64 0] 45) = V at *
 refine (CO.out _ B0.out).mono ?_
 rintro e w1 ⟨rfl, b1⟩
 have B1 := aside (bthen B0.out b1)
 obtain ⟨s0, s1, s2, z0, z1, z2⟩ := tri (blk_on G.out b1)
 clear b1 G B0
 go_wp2
 exact bodyPost_ret (v := .agg #[.int .i64 1, .int .u64 x, .int .u64 y]) (by simp [results, Tryz.results105, go_sem, s0, s1, s2]) rfl ⟨rfl, ((B1.out.setCell (by simp) _).setCell (by simp) _).setCell (by simp) _⟩
set_option maxHeartbeats 3200000 in
set_option maxRecDepth 100000 in
theorem slen {w : World} {sb g tb : Nat} {nd ck : Int} {T : Tr En Tl} {n : Nat} (h : IsSt w sb g tb nd ck T n) : Calls Tryz.prog 81 #[.pointer (some ⟨sb, 0, none⟩)] w fun e w' => e = .returned (.int .i64 (T.cnt : Int)) ∧ w' = w := by
 obtain ⟨-, -, -, c3, -⟩ := quad h.blk
 have C := aside (ylenE h.tree)
 generalize (T.cnt : Int) = m at *
 clear h
 go_enter Tryz.func81, Tryz.ntmps81
 go_wp2_with fail
 refine C.out.mono ?_
 rintro e w1 ⟨rfl, rfl⟩
 go_wp2
 go_ret
 exact ⟨rfl, rfl⟩
set_option maxHeartbeats 3200000 in
set_option maxRecDepth 100000 in
theorem sempty (nd ck : Int) (w : World) : Calls Tryz.prog 55 #[.int .i64 nd, .int .i64 ck] w fun e w' => ∃ sb g tb, e = .returned (.pointer (some ⟨sb, 0, none⟩)) ∧ IsSt w' sb g tb nd ck .nil 0 ∧ Below w.heap.size w w' ∧ w.heap.size ≤ sb ∧ w.heap.size ≤ g ∧ w.heap.size ≤ tb := by
 have hmf : ∀ (fn : Fn) (first cap : Array Value) (w : World), (Instr.makeFunc fn first cap).run Tryz.prog w = .ok (.func fn first cap) w := fun _ _ _ _ => rfl
 have C1 := aside (newMeter_any w)
 have C2 := aside (fun (W : World) => ynewE (.func 89) #[.pointer (some ⟨w.heap.size, 0, none⟩)] #[] W)
 have M := aside (heap_alloc_new w (.cells #[.int .i64 0] 175))
 have B0 := aside (bnew w (.cells #[.int .i64 0] 175))
 go_enter Tryz.func55, Tryz.ntmps55
 go_wp2_with fail
 refine C1.out.mono ?_
 rintro e w1 ⟨rfl, rfl⟩
 go_wp2_with fail
 refine (C2.out _).mono ?_
 rintro e w2 ⟨tb, rfl, ht, hb, hlt⟩
 have HT := aside ht
 have HB := aside hb
 have HL := aside hlt
 clear ht hb hlt C1 C2
 go_wp2
 go_ret
 have hs := HL.out
 simp at hs
 refine ⟨w2.heap.size, w.heap.size, tb, rfl, ⟨heap_alloc_new w2 _, fun b e => ?_, HT.out.below (bnew _ _)⟩, bthen (bthen B0.out HB.out) (bnew _ _), (by have := HB.out.size; simp at this; omega), Nat.le_refl _, by omega⟩
 cases e
 exact blk_on (blk_on M.out HB.out) (bnew _ _)
def ckm (ck c : Int) : Int := if ck < c then c else ck
theorem held_hold {w X : World} {sb g tb : Nat} {nd ck : Int} {T : Tr En Tl} {n : Nat} {e : En} (h : IsSt X sb g tb nd ck T n) (hb : X.heap[w.heap.size]? = some (.cells #[.string e.k, .int .i64 e.c, .int .i64 e.n, .string e.v, .bool e.d] 77 (0, 0))) : X.cell? ⟨sb, 3, none⟩ = some (.pointer (some ⟨tb, 0, none⟩)) ∧ X.cell? ⟨w.heap.size, 0, none⟩ = some (.string e.k) ∧ X.cell? ⟨w.heap.size, 1, none⟩ = some (.int .i64 e.c) ∧ X.cell? ⟨w.heap.size, 2, none⟩ = some (.int .i64 e.n) ∧ X.cell? ⟨w.heap.size, 3, none⟩ = some (.string e.v) ∧ X.cell? ⟨w.heap.size, 4, none⟩ = some (.bool e.d) := by
 obtain ⟨c0, c1, c2, c3, -⟩ := quad h.blk
 obtain ⟨b0, b1, b2, b3, b4, -⟩ := penta hb
 exact ⟨c3, b0, b1, b2, b3, b4⟩
theorem hold_end {w X : World} {sb g tb : Nat} {nd ck : Int} {T : Tr En Tl} {n : Nat} (h : IsSt X sb g tb nd ck T n) (k : Keeps (Of sb g tb) w X) (c : Int) : IsSt (X.setCell ⟨sb, 1, none⟩ (.int .i64 c)) sb g tb nd c T n ∧ Keeps (Of sb g tb) w (X.setCell ⟨sb, 1, none⟩ (.int .i64 c)) := by
 obtain ⟨a1, a2, a3⟩ := h.apart
 obtain ⟨p, ht, hT⟩ := h.tree
 refine ⟨⟨heap_setCell_same X sb 1 _ _ (.int .i64 c) h.blk, h.cnt.setCell (p := ⟨sb, 1, none⟩) _ (fun e => a1 (by cases e; rfl)), ⟨p, (heap_setCell_other _ _ _ _ (fun e => a2 (by dsimp only at e; exact e.symm))).trans ht, hT.on ((Stay.refl _ X).setCell _ (fun cs e => by dsimp only at e; rw [h.blk] at e; simp at e))⟩⟩, k.setCell (p := ⟨sb, 1, none⟩) (fun _ => .inl rfl) _⟩
theorem hold_mid {w V W : World} {sb g tb : Nat} {nd ck : Int} {T T' : Tr En Tl} {n m : Nat} {e : En} (h : IsSt V sb g tb nd ck T n) (hg : V.heap[w.heap.size]? = some (.cells #[.string e.k, .int .i64 e.c, .int .i64 e.n, .string e.v, .bool e.d] 77 (0, 0))) (b : Below w.heap.size w V) (c : CntE (some g) m W) (k : Keeps (fun x => x = tb ∨ OnC (some g) x) V W) (t : TreeE W tb (jvE g) T') :
    (W.cell? ⟨sb, 3, none⟩ = some (.pointer (some ⟨tb, 0, none⟩)) ∧ W.cell? ⟨w.heap.size, 0, none⟩ = some (.string e.k) ∧ W.cell? ⟨w.heap.size, 1, none⟩ = some (.int .i64 e.c) ∧ W.cell? ⟨w.heap.size, 2, none⟩ = some (.int .i64 e.n) ∧ W.cell? ⟨w.heap.size, 3, none⟩ = some (.string e.v) ∧ W.cell? ⟨w.heap.size, 4, none⟩ = some (.bool e.d)) ∧ IsSt W sb g tb nd ck T' m ∧ W.heap[w.heap.size]? = some (.cells #[.string e.k, .int .i64 e.c, .int .i64 e.n, .string e.v, .bool e.d] 77 (0, 0)) ∧ Keeps (Of sb g tb) w W := by
 obtain ⟨a1, a2, a3⟩ := h.apart
 have hn := h.not hg (by decide) (by decide) (by decide)
 have G : W.heap[w.heap.size]? = some (.cells #[.string e.k, .int .i64 e.c, .int .i64 e.n, .string e.v, .bool e.d] 77 (0, 0)) := blk_keep hg k (fun x => hn (by rcases x with x | x; exact .inr (.inl x); exact .inr (.inr (Option.some.inj x).symm)))
 have H : IsSt W sb g tb nd ck T' m := ⟨blk_keep h.blk k (fun x => by rcases x with x | x; exact a2 x; exact a1 (Option.some.inj x).symm), c, t⟩
 exact ⟨held_hold H G, H, G, (Keeps.of_below b _).trans (k.mono (fun _ _ x => by rcases x with x | x; exact .inr (.inl x); exact .inr (.inr (Option.some.inj x).symm)))⟩
set_option maxHeartbeats 3200000 in
set_option maxRecDepth 100000 in
theorem shold (e : En) {Ls : List En} {w : World} {sb g tb : Nat} {nd ck : Int} {T : Tr En Tl} {n : Nat} (h : IsSt w sb g tb nd ck T n) (L : Lanes w) (hH : Hol T Ls) (hl : Ls.length ≤ 1000000) (hk : e.k.size ≤ 140737488351232) :
    Calls Tryz.prog 57 #[.pointer (some ⟨sb, 0, none⟩), .agg #[.string e.k, .int .i64 e.c, .int .i64 e.n, .string e.v, .bool e.d]] w fun r w' => r = .returned (.tuple #[]) ∧ IsSt w' sb g tb nd (ckm ck e.c) (Tr.put e.k e (tof e) T) (n + Tr.putC e.k e (tof e) T) ∧ Keeps (Of sb g tb) w w' := by
 have B0 := aside (bnew w (.cells #[.string e.k, .int .i64 e.c, .int .i64 e.n, .string e.v, .bool e.d] 77))
 have G := aside (heap_alloc_new w (.cells #[.string e.k, .int .i64 e.c, .int .i64 e.n, .string e.v, .bool e.d] 77))
 have H := aside (h.alloc (.cells #[.string e.k, .int .i64 e.c, .int .i64 e.n, .string e.v, .bool e.d] 77))
 have CO : Hid (∀ W : World, Lanes W → Calls Tryz.prog 92 #[.agg #[.string e.k, .int .i64 e.c, .int .i64 e.n, .string e.v, .bool e.d]] W fun r w' => r = .returned (.agg #[.int .i64 (tof e).n, .int .u64 (tof e).a, .int .u64 (tof e).b]) ∧ Below W.heap.size W w') := fun W hW => by
  rw [tof_n, tof_a, tof_b]
  exact tof_any e.k e.c e.n e.v e.d W hW hk
 have CP : Hid (∀ W : World, IsSt W sb g tb nd ck T n → Calls Tryz.prog 91 #[.pointer (some ⟨tb, 0, none⟩), .string e.k, .agg #[.string e.k, .int .i64 e.c, .int .i64 e.n, .string e.v, .bool e.d], .agg #[.int .i64 (tof e).n, .int .u64 (tof e).a, .int .u64 (tof e).b]] W fun r w' => r = .returned (.tuple #[.agg #[.string ((Tr.found e.k T).val eNone).k, .int .i64 ((Tr.found e.k T).val eNone).c, .int .i64 ((Tr.found e.k T).val eNone).n, .string ((Tr.found e.k T).val eNone).v, .bool ((Tr.found e.k T).val eNone).d], .bool (!(Tr.found e.k T).isNil)]) ∧ TreeE w' tb (jvE g) (Tr.put e.k e (tof e) T) ∧ CntE (some g) (n + Tr.putC e.k e (tof e) T) w' ∧ Keeps (fun x => x = tb ∨ OnC (some g) x) W w') := fun W hW =>
  yputE e.k e (tof e) hW.tree (bothJv g) hW.cnt hH.gd (by show Ls.length + 1 + 0 ≤ _; omega)
 have LL := aside (L.keep B0.out)
 generalize Tr.putC e.k e (tof e) T = pc at *
 generalize Tr.put e.k e (tof e) T = T' at *
 generalize (Tr.found e.k T).val eNone = fv at *
 generalize (!(Tr.found e.k T).isNil) = fb at *
 generalize (tof e).n = t0 at *
 generalize (tof e).a = t1 at *
 generalize (tof e).b = t2 at *
 clear h L hH hl hk
 go_enter Tryz.func57, Tryz.ntmps57
 go_wp2_with fail
 generalize w.alloc (.cells #[.string e.k, .int .i64 e.c, .int .i64 e.n, .string e.v, .bool e.d] 77) = V at *
 refine wp_region_held_drew (S := fun X => X.cell? ⟨sb, 3, none⟩ = some (.pointer (some ⟨tb, 0, none⟩)) ∧ X.cell? ⟨w.heap.size, 0, none⟩ = some (.string e.k) ∧ X.cell? ⟨w.heap.size, 1, none⟩ = some (.int .i64 e.c) ∧ X.cell? ⟨w.heap.size, 2, none⟩ = some (.int .i64 e.n) ∧ X.cell? ⟨w.heap.size, 3, none⟩ = some (.string e.v) ∧ X.cell? ⟨w.heap.size, 4, none⟩ = some (.bool e.d)) (by kernel_rfl) (held_hold H.out.drew G.out) (fun hHeld => ?_)
 refine tk 0 rfl _ ?_; refine tk 1 rfl _ ?_; refine tk 2 rfl _ ?_; refine tk 3 rfl _ ?_; refine tk 4 rfl _ ?_; refine tk 5 rfl _ ?_; refine tk 6 rfl _ ?_; refine tk 7 rfl _ ?_
 refine rd 8 rfl fun K hK => ?_
 go_simp
 refine (CO.out _ LL.out.drew).mono ?_
 rintro e w9 ⟨rfl, bb⟩
 refine hK.out _ _ (held_hold (H.out.drew.below bb) (blk_on (show V.drew.heap[w.heap.size]? = some _ from G.out) bb)) (fun hHeld => ?_)
 clear hK K 
 have H1 := aside (H.out.drew.below bb)
 have G1 := aside (blk_on (show V.drew.heap[w.heap.size]? = some _ from G.out) bb)
 have B1 := aside (B0.out.drew.trans (bb.mono B0.out.drew.size))
 clear bb H G B0 LL CO
 refine rd 9 rfl fun K hK => ?_
 go_simp
 have HF := aside (fun (W : World) (c : CntE (some g) (n + pc) W) (k : Keeps (fun x => x = tb ∨ OnC (some g) x) w9 W) (t : TreeE W tb (jvE g) T') => hold_mid (e := e) H1.out G1.out B1.out c k t)
 refine (CP.out _ H1.out).mono ?_
 rintro e w8 ⟨rfl, ht, bb2, kk⟩
 refine hK.out _ _ ((HF.out _ bb2 kk ht).1) (fun hHeld => ?_)
 clear hK K 
 obtain ⟨-, H2, G2, K2⟩ := HF.out _ bb2 kk ht
 have H2' := aside H2
 have G2' := aside G2
 have K2' := aside K2
 clear H2 G2 K2 ht bb2 kk HF H1 G1 B1 CP hHeld
 refine wpAnyH_done (by kernel_rfl) ?_ _
 go_wp2_with fail
 refine wp_region_held_drew (S := fun X => X.cell? ⟨w.heap.size, 1, none⟩ = some (.int .i64 e.c)) (by kernel_rfl) (penta (show w8.drew.heap[w.heap.size]? = some _ from G2'.out)).2.1 (fun hHeld => ?_)
 refine tk 0 rfl _ ?_; refine tk 1 rfl _ ?_; refine tk 2 rfl _ ?_; refine tk 3 rfl _ ?_; refine tk 5 rfl _ ?_; refine tk 6 rfl _ ?_; refine tk 7 rfl _ ?_
 obtain ⟨-, s1, -, -, z1⟩ := quad H2'.out.drew.blk
 refine rd 4 rfl fun K hK => ?_
 go_simp
 refine hK.out _ _ (hHeld) (fun hHeld => ?_)
 clear hK K 
 refine tk 8 rfl _ ?_
 generalize hm : (if ck < e.c then e.c else ck) = mh
 have HM := aside (show ckm ck e.c = mh from hm)
 clear hm
 refine tk 9 rfl _ ?_; refine tk 10 rfl _ ?_
 refine rd 11 rfl fun K hK => ?_
 go_simp
 refine hK.out _ _ ((penta ((heap_setCell_other _ ⟨sb, 1, none⟩ _ _ (fun e => by have h9 := H2'.out.blk; have h8 := G2'.out; dsimp only at e; rw [e, h9] at h8; simp at h8)).trans (show w8.drew.heap[w.heap.size]? = some _ from G2'.out))).2.1) (fun hHeld => ?_)
 clear hK K 
 refine wpAnyH_done (by kernel_rfl) ?_ _
 go_wp2
 go_end0
 rw [HM.out]
 obtain ⟨k1, k2⟩ := hold_end H2'.out K2'.out mh
 exact ⟨rfl, k1.drew, k2.drew⟩
theorem held_rows {w X : World} {sb g tb : Nat} {nd ck : Int} {T : Tr En Tl} {n : Nat} {lo hi : ByteArray} {op : Bool} (h : IsSt X sb g tb nd ck T n) (hb : X.heap[w.heap.size]? = some (.cells #[.string lo, .string hi, .bool op] 40 (0, 0))) : X.cell? ⟨sb, 3, none⟩ = some (.pointer (some ⟨tb, 0, none⟩)) ∧ X.cell? ⟨w.heap.size, 0, none⟩ = some (.string lo) ∧ X.cell? ⟨w.heap.size, 1, none⟩ = some (.string hi) ∧ X.cell? ⟨w.heap.size, 2, none⟩ = some (.bool op) := by
 obtain ⟨c0, c1, c2, c3, -⟩ := quad h.blk
 obtain ⟨b0, b1, b2, -⟩ := tri hb
 exact ⟨c3, b0, b1, b2⟩
theorem yrank_at {w : World} {tb g : Nat} {T : Tr En Tl} {Ls : List En} (k : ByteArray) {q : Int} (h : TreeE w tb (jvE g) T) (hH : Hol T Ls) (hl : Ls.length ≤ 1000000) (hq : (belE k Ls : Int) = q) :
    Calls Tryz.prog 80 #[.pointer (some ⟨tb, 0, none⟩), .string k] w fun e w' => e = .returned (.int .i64 q) ∧ Below w.heap.size w w' := by
 have h1 := yrankE k h hH.gd (by omega)
 rw [hH.lower, hq] at h1
 exact h1
set_option maxHeartbeats 3200000 in
set_option maxRecDepth 100000 in
theorem srowsO (lo hi : ByteArray) {Ls : List En} {w : World} {sb g tb : Nat} {nd ck : Int} {T : Tr En Tl} {n : Nat} (h : IsSt w sb g tb nd ck T n) (hH : Hol T Ls) (hl : Ls.length ≤ 1000000) :
    Calls Tryz.prog 48 #[.pointer (some ⟨sb, 0, none⟩), .agg #[.string lo, .string hi, .bool true]] w fun r w' => r = .returned (.tuple #[.int .i64 (belE lo Ls : Int), .int .i64 (endE hi true Ls : Int)]) ∧ Below w.heap.size w w' := by
 obtain ⟨a, ha⟩ : ∃ a : Int, (belE lo Ls : Int) = a := ⟨_, rfl⟩
 obtain ⟨b, hb⟩ : ∃ b : Int, (endE hi true Ls : Int) = b := ⟨_, rfl⟩
 have H := aside (h.alloc (.cells #[.string lo, .string hi, .bool true] 40))
 have G := aside (heap_alloc_new w (.cells #[.string lo, .string hi, .bool true] 40))
 have B0 := aside (bnew w (.cells #[.string lo, .string hi, .bool true] 40))
 have C1 := aside (fun (W : World) (h : IsSt W sb g tb nd ck T n) => yrank_at lo h.tree hH hl ha)
 have C2 := aside (fun (W : World) (h : IsSt W sb g tb nd ck T n) => slen h)
 rw [show (T.cnt : Int) = b from by rw [hH.cnt, ← hb]; rfl] at C2
 rw [ha, hb]
 clear h hH hl ha hb
 go_enter Tryz.func48, Tryz.ntmps48
 obtain ⟨-, -, q2, -⟩ := tri G.out
 go_wp2_with fail
 clear q2
 generalize w.alloc (.cells #[.string lo, .string hi, .bool true] 40) = V at *
 refine wp_region_held_drew (S := fun X => X.cell? ⟨sb, 3, none⟩ = some (.pointer (some ⟨tb, 0, none⟩)) ∧ X.cell? ⟨w.heap.size, 0, none⟩ = some (.string lo) ∧ X.cell? ⟨w.heap.size, 1, none⟩ = some (.string hi) ∧ X.cell? ⟨w.heap.size, 2, none⟩ = some (.bool true)) (by kernel_rfl) (held_rows H.out.drew G.out) (fun hHeld => ?_)
 refine tk 0 rfl _ ?_; refine tk 1 rfl _ ?_; refine tk 2 rfl _ ?_; refine tk 3 rfl _ ?_; refine tk 4 rfl _ ?_; refine tk 5 rfl _ ?_; refine tk 7 rfl _ ?_
 refine rd 6 rfl fun K hK => ?_
 go_simp
 refine (C1.out _ H.out.drew).mono ?_
 rintro e w9 ⟨rfl, bb⟩
 refine hK.out _ _ (held_rows (H.out.drew.below bb) (blk_on (show V.drew.heap[w.heap.size]? = some _ from G.out) bb)) (fun hHeld => ?_)
 clear hK K 
 have H1 := aside (H.out.drew.below bb)
 have G1 := aside (blk_on (show V.drew.heap[w.heap.size]? = some _ from G.out) bb)
 have B1 := aside (bthen B0.out.drew bb)
 clear bb
 refine rd 8 rfl fun K hK => ?_
 go_simp
 refine (C2.out _ H1.out).mono ?_
 rintro e w9 ⟨rfl, rfl⟩
 refine hK.out _ _ (hHeld) (fun hHeld => ?_)
 clear hK K 
 refine tk 9 rfl _ ?_; refine tk 10 rfl _ ?_
 refine wpAnyH_done (by kernel_rfl) ?_ _
 go_wp2
 refine bodyPost_ret (v := .tuple #[.int .i64 a, .int .i64 b]) (by simp [results, Tryz.results48, go_sem]) rfl ⟨rfl, B1.out⟩
set_option maxHeartbeats 3200000 in
set_option maxRecDepth 100000 in
theorem srowsC (lo hi : ByteArray) {Ls : List En} {w : World} {sb g tb : Nat} {nd ck : Int} {T : Tr En Tl} {n : Nat} (h : IsSt w sb g tb nd ck T n) (hH : Hol T Ls) (hl : Ls.length ≤ 1000000) :
    Calls Tryz.prog 48 #[.pointer (some ⟨sb, 0, none⟩), .agg #[.string lo, .string hi, .bool false]] w fun r w' => r = .returned (.tuple #[.int .i64 (belE lo Ls : Int), .int .i64 (endE hi false Ls : Int)]) ∧ Below w.heap.size w w' := by
 obtain ⟨a, ha⟩ : ∃ a : Int, (belE lo Ls : Int) = a := ⟨_, rfl⟩
 obtain ⟨b, hb⟩ : ∃ b : Int, (endE hi false Ls : Int) = b := ⟨_, rfl⟩
 have H := aside (h.alloc (.cells #[.string lo, .string hi, .bool false] 40))
 have G := aside (heap_alloc_new w (.cells #[.string lo, .string hi, .bool false] 40))
 have B0 := aside (bnew w (.cells #[.string lo, .string hi, .bool false] 40))
 have C1 := aside (fun (W : World) (h : IsSt W sb g tb nd ck T n) => yrank_at lo h.tree hH hl ha)
 have C2 := aside (fun (W : World) (h : IsSt W sb g tb nd ck T n) => yrank_at hi h.tree hH hl (show (belE hi Ls : Int) = b from hb))
 rw [ha, hb]
 clear h hH hl ha hb
 go_enter Tryz.func48, Tryz.ntmps48
 obtain ⟨-, -, q2, -⟩ := tri G.out
 go_wp2_with fail
 clear q2
 generalize w.alloc (.cells #[.string lo, .string hi, .bool false] 40) = V at *
 refine wp_region_held_drew (S := fun X => X.cell? ⟨sb, 3, none⟩ = some (.pointer (some ⟨tb, 0, none⟩)) ∧ X.cell? ⟨w.heap.size, 0, none⟩ = some (.string lo) ∧ X.cell? ⟨w.heap.size, 1, none⟩ = some (.string hi) ∧ X.cell? ⟨w.heap.size, 2, none⟩ = some (.bool false)) (by kernel_rfl) (held_rows H.out.drew G.out) (fun hHeld => ?_)
 refine tk 0 rfl _ ?_; refine tk 1 rfl _ ?_; refine tk 2 rfl _ ?_; refine tk 3 rfl _ ?_; refine tk 4 rfl _ ?_; refine tk 5 rfl _ ?_; refine tk 7 rfl _ ?_; refine tk 8 rfl _ ?_; refine tk 9 rfl _ ?_; refine tk 10 rfl _ ?_; refine tk 11 rfl _ ?_; refine tk 12 rfl _ ?_
 refine rd 6 rfl fun K hK => ?_
 go_simp
 refine (C1.out _ H.out.drew).mono ?_
 rintro e w9 ⟨rfl, bb⟩
 refine hK.out _ _ (held_rows (H.out.drew.below bb) (blk_on (show V.drew.heap[w.heap.size]? = some _ from G.out) bb)) (fun hHeld => ?_)
 clear hK K 
 have H1 := aside (H.out.drew.below bb)
 have G1 := aside (blk_on (show V.drew.heap[w.heap.size]? = some _ from G.out) bb)
 have B1 := aside (bthen B0.out.drew bb)
 clear bb
 refine rd 13 rfl fun K hK => ?_
 go_simp
 refine (C2.out _ H1.out).mono ?_
 rintro e w8 ⟨rfl, bb⟩
 refine hK.out _ _ (held_rows (H1.out.below bb) (blk_on G1.out bb)) (fun hHeld => ?_)
 clear hK K 
 have B2 := aside (bthen B1.out bb)
 clear bb
 refine tk 14 rfl _ ?_; refine tk 15 rfl _ ?_
 refine wpAnyH_done (by kernel_rfl) ?_ _
 go_wp2
 refine bodyPost_ret (v := .tuple #[.int .i64 a, .int .i64 b]) (by simp [results, Tryz.results48, go_sem]) rfl ⟨rfl, B2.out⟩
theorem srows (lo hi : ByteArray) (op : Bool) {Ls : List En} {w : World} {sb g tb : Nat} {nd ck : Int} {T : Tr En Tl} {n : Nat} (h : IsSt w sb g tb nd ck T n) (hH : Hol T Ls) (hl : Ls.length ≤ 1000000) :
    Calls Tryz.prog 48 #[.pointer (some ⟨sb, 0, none⟩), .agg #[.string lo, .string hi, .bool op]] w fun r w' => r = .returned (.tuple #[.int .i64 (belE lo Ls : Int), .int .i64 (endE hi op Ls : Int)]) ∧ Below w.heap.size w w' := by
 cases op
 ·exact srowsC lo hi h hH hl
 ·exact srowsO lo hi h hH hl
def foldV (lo hi : ByteArray) (op : Bool) (Ls : List En) : Tl := if Rg.chk ⟨lo, hi, op⟩ = 0 then talL (Ls.filter (inR lo hi op)) else tZero
theorem chk_may {lo hi : ByteArray} {op : Bool} (h : Rg.chk ⟨lo, hi, op⟩ = 0) : op = true ∨ kLt hi lo = false := by
 cases op with
 | true => exact .inl rfl
 | false =>
  refine .inr ?_
  unfold Rg.chk at h
  split at h
  ·cases h
  ·split at h
   ·cases h
   ·rename_i h2
    cases h3 : Op.bytesLess lo.toList hi.toList
    ·cases h4 : (lo.toList == hi.toList)
     ·simp [h3, h4] at h2
     ·rw [toList_inj (beq_iff_eq.1 h4)]
      exact kLt_irrefl _
    ·exact kLt_asymm h3
theorem fold_end {w X : World} {sb g tb m : Nat} {nd ck : Int} {T : Tr En Tl} {n : Nat} (h : IsSt X sb g tb nd ck T n) (k : Keeps (Of sb g tb) w X) (hb : X.heap[w.heap.size + 1]? = some (.cells #[.int .i64 0, .int .u64 0, .int .u64 0] 45 (0, 0))) (y : Tl) : IsSt (set3 X (w.heap.size + 1) y) sb g tb nd ck T n ∧ Keeps (Of sb g tb) w (set3 X (w.heap.size + 1) y) := by
 have hn := h.not hb (by decide) (by decide) (by decide)
 obtain ⟨p, ht, hT⟩ := h.tree
 refine ⟨⟨(set3_other _ _ _ _ (fun e => hn (.inl e.symm))).trans h.blk, h.cnt.set3 (fun e => hn (.inr (.inr (Option.some.inj e).symm))) y, ⟨p, (set3_other _ _ _ _ (fun e => hn (.inr (.inl e.symm)))).trans ht, hT.on ((Stay.refl _ X).set3 hb (by decide) y)⟩⟩, k.set3 (fun e => by omega) y⟩
set_option maxHeartbeats 3200000 in
set_option maxRecDepth 100000 in
theorem sfold (lo hi : ByteArray) (op : Bool) {Ls : List En} {w : World} {sb g tb : Nat} {nd ck : Int} {T : Tr En Tl} {n : Nat} (h : IsSt w sb g tb nd ck T n) (hH : Hol T Ls) (hl : Ls.length ≤ 1000000) :
    Calls Tryz.prog 25 #[.pointer (some ⟨sb, 0, none⟩), .agg #[.string lo, .string hi, .bool op]] w fun r w' => r = .returned (.tuple #[.agg #[.int .i64 (foldV lo hi op Ls).n, .int .u64 (foldV lo hi op Ls).a, .int .u64 (foldV lo hi op Ls).b], .int .i64 (Rg.chk ⟨lo, hi, op⟩)]) ∧ (∃ d, d ≤ 4 * T.ht ∧ IsSt w' sb g tb nd ck T (n + d)) ∧ Keeps (Of sb g tb) w w' := by
 have b0 := bnew w (.cells #[.string lo, .string hi, .bool op] 40)
 have b1 := bnew (w.alloc (.cells #[.string lo, .string hi, .bool op] 40)) (.cells #[.int .i64 0, .int .u64 0, .int .u64 0] 45)
 have B := aside (bthen b0 b1)
 have G0 := aside (blk_on (heap_alloc_new w (.cells #[.string lo, .string hi, .bool op] 40)) b1)
 have g1 := heap_alloc_new (w.alloc (.cells #[.string lo, .string hi, .bool op] 40)) (.cells #[.int .i64 0, .int .u64 0, .int .u64 0] 45)
 simp only [World.size_alloc] at g1
 have G1 := aside g1
 have H := aside (h.below B.out)
 have C1 := aside (fun (W : World) => check_any lo hi op W)
 have CR := aside (fun (W : World) (h : IsSt W sb g tb nd ck T n) => srows lo hi op h hH hl)
 have CF := aside (fun (W : World) (h : IsSt W sb g tb nd ck T n) => yfoldE (belE lo Ls : Int) (endE hi op Ls : Int) h.tree (bothJv g) h.cnt hH.gd (by omega))
 have HD := aside (Tr.folC_le T (belE lo Ls : Int) (endE hi op Ls : Int))
 have HV : Hid (Rg.chk ⟨lo, hi, op⟩ = 0 → Tr.fol tJoin tZero T (belE lo Ls : Int) (endE hi op Ls : Int) = foldV lo hi op Ls) := fun h0 => by
  unfold foldV
  rw [if_pos h0, hH.fold _ _ (endE_le _ _ _), seg_range hH.rises (chk_may h0)]
 have HZ : Hid (Rg.chk ⟨lo, hi, op⟩ ≠ 0 → foldV lo hi op Ls = tZero) := fun h0 => by unfold foldV; rw [if_neg h0]
 obtain ⟨c, hc⟩ : ∃ c, Rg.chk ⟨lo, hi, op⟩ = c := ⟨_, rfl⟩
 rw [hc] at C1 HV HZ ⊢
 generalize Tr.folC T (belE lo Ls : Int) (endE hi op Ls : Int) = d at *
 generalize Tr.fol tJoin tZero T (belE lo Ls : Int) (endE hi op Ls : Int) = fv at *
 generalize foldV lo hi op Ls = rv at *
 generalize (belE lo Ls : Int) = a at *
 generalize (endE hi op Ls : Int) = b at *
 clear h hH hl hc b0 b1 g1
 obtain ⟨q0, q1, q2, -⟩ := tri G0.out
 by_cases h0 : c = 0
 ·have hrv := HV.out h0
  subst hrv
  subst h0
  go_enter Tryz.func25, Tryz.ntmps25
  go_wp2_with fail
  refine (C1.out _).mono ?_
  rintro e w1 ⟨rfl, b1⟩
  have H1 := aside (H.out.below b1)
  have G1' := aside (blk_on G1.out b1)
  have B1 := aside (bthen B.out b1)
  obtain ⟨r0, r1, r2, -⟩ := tri (blk_on G0.out b1)
  clear b1 H G1 G0 B C1 q0 q1 q2
  go_wp2_with fail
  refine (CR.out _ H1.out).mono ?_
  rintro e w2 ⟨rfl, b2⟩
  have H2 := aside (H1.out.below b2)
  have G2 := aside (blk_on G1'.out b2)
  have B2 := aside (bthen B1.out b2)
  obtain ⟨-, -, -, c3, -⟩ := quad H2.out.blk
  clear b2 H1 G1' B1 CR r0 r1 r2
  go_wp2_with fail
  refine (CF.out _ H2.out).mono ?_
  rintro e w3 ⟨rfl, hc3, k3⟩
  have H3 : Hid (IsSt w3 sb g tb nd ck T (n + d)) := ⟨blk_keep H2.out.blk k3 (fun e => H2.out.apart.1 (Option.some.inj e).symm), hc3, H2.out.tree.onC H2.out.cnt k3⟩
  have G3 := aside (blk_keep G2.out k3 (fun e => H2.out.not G2.out (by decide) (by decide) (by decide) (.inr (.inr (Option.some.inj e).symm))))
  have K3 := aside ((Keeps.of_below B2.out (Of sb g tb)).trans (k3.mono (fun _ _ e => .inr (.inr (Option.some.inj e).symm))))
  clear hc3 k3 c3 CF H2 G2 B2
  obtain ⟨s0, s1, s2, z0, z1, z2⟩ := tri G3.out
  have E := aside (fold_end (m := 0) H3.out K3.out G3.out fv)
  unfold set3 at E
  go_wp2
  exact bodyPost_ret (v := .tuple #[.agg #[.int .i64 fv.n, .int .u64 fv.a, .int .u64 fv.b], .int .i64 0]) (by simp [results, Tryz.results25, go_sem, s0, s1, s2]) rfl ⟨rfl, ⟨d, HD.out, E.out.1⟩, E.out.2⟩
 ·have hz := HZ.out h0
  have h0' : (c == 0) = false := beq_eq_false_iff_ne.2 h0
  subst hz
  rw [tZero_n, tZero_a, tZero_b]
  go_enter Tryz.func25, Tryz.ntmps25
  go_wp2_with fail
  refine (C1.out _).mono ?_
  rintro e w1 ⟨rfl, b1⟩
  have H1 := aside (H.out.below b1)
  have G1' := aside (blk_on G1.out b1)
  have B1 := aside (bthen B.out b1)
  obtain ⟨s0, s1, s2, z0, z1, z2⟩ := tri G1'.out
  have E := aside (fold_end (m := 0) H1.out (Keeps.of_below B1.out _) G1'.out tZero)
  unfold set3 at E
  rw [tZero_n, tZero_a, tZero_b] at E
  clear b1 H G1 G0 B C1 q0 q1 q2
  go_wp2
  exact bodyPost_ret (v := .tuple #[.agg #[.int .i64 0, .int .u64 0, .int .u64 0], .int .i64 c]) (by simp [results, Tryz.results25, go_sem, s0, s1, s2]) rfl ⟨rfl, ⟨0, Nat.zero_le _, E.out.1⟩, E.out.2⟩
def Sto (w : World) (sb g tb : Nat) (nd ck : Int) (Ls : List En) : Prop := ∃ T n, IsSt w sb g tb nd ck T n ∧ Hol T Ls
theorem Sto.below {w w' : World} {sb g tb : Nat} {nd ck : Int} {Ls : List En} (h : Sto w sb g tb nd ck Ls) (b : Below w.heap.size w w') : Sto w' sb g tb nd ck Ls := by
 obtain ⟨T, n, h1, h2⟩ := h
 exact ⟨T, n, h1.below b, h2⟩
theorem Sto.not {w : World} {sb g tb : Nat} {nd ck : Int} {Ls : List En} (h : Sto w sb g tb nd ck Ls) {i : Nat} {cs : Array Value} {U : TypeId} (hi : w.heap[i]? = some (.cells cs U (0, 0))) (h1 : U ≠ 109) (h2 : U ≠ 148) (h3 : U ≠ 175) : ¬ Of sb g tb i := by
 obtain ⟨T, n, h4, h5⟩ := h
 exact h4.not hi h1 h2 h3
theorem Sto.lt {w : World} {sb g tb : Nat} {nd ck : Int} {Ls : List En} (h : Sto w sb g tb nd ck Ls) : sb < w.heap.size ∧ g < w.heap.size ∧ tb < w.heap.size := by
 obtain ⟨T, n, h1, h2⟩ := h
 exact h1.lt
theorem qfold (lo hi : ByteArray) (op : Bool) {w : World} {sb g tb : Nat} {nd ck : Int} {Ls : List En} (h : Sto w sb g tb nd ck Ls) (L : Lanes w) (hl : Ls.length ≤ 1000000) :
    Calls Tryz.prog 25 #[.pointer (some ⟨sb, 0, none⟩), .agg #[.string lo, .string hi, .bool op]] w fun r w' => r = .returned (.tuple #[.agg #[.int .i64 (foldV lo hi op Ls).n, .int .u64 (foldV lo hi op Ls).a, .int .u64 (foldV lo hi op Ls).b], .int .i64 (Rg.chk ⟨lo, hi, op⟩)]) ∧ Sto w' sb g tb nd ck Ls ∧ Keeps (Of sb g tb) w w' ∧ Lanes w' := by
 obtain ⟨T, n, h1, h2⟩ := h
 exact (sfold lo hi op h1 h2 hl).mono fun r w' ⟨e1, ⟨d, e2, e3⟩, e4⟩ => ⟨e1, ⟨_, _, e3, h2⟩, e4, L.keeps e4 (L.apart h1)⟩
theorem box5 {w : World} {i : Nat} {a b c d e : Value} {T : TypeId} (h : w.heap[i]? = some (.cells #[a, b, c, d, e] T (0, 0))) :
    (w.cell? ⟨i, 0, none⟩ = some a ∧ w.cell? ⟨i, 1, none⟩ = some b ∧ w.cell? ⟨i, 2, none⟩ = some c ∧ w.cell? ⟨i, 3, none⟩ = some d ∧ w.cell? ⟨i, 4, none⟩ = some e) ∧
    w.frozen? ⟨i, 0, none⟩ = false ∧ w.frozen? ⟨i, 1, none⟩ = false ∧ w.frozen? ⟨i, 2, none⟩ = false ∧ w.frozen? ⟨i, 3, none⟩ = false ∧ w.frozen? ⟨i, 4, none⟩ = false :=
 ⟨⟨by rw [cell_of_row _ _ 0 _ _ _ h]; rfl, by rw [cell_of_row _ _ 1 _ _ _ h]; rfl, by rw [cell_of_row _ _ 2 _ _ _ h]; rfl, by rw [cell_of_row _ _ 3 _ _ _ h]; rfl, by rw [cell_of_row _ _ 4 _ _ _ h]; rfl⟩,
  frozen_of_row _ _ 0 _ _ h, frozen_of_row _ _ 1 _ _ h, frozen_of_row _ _ 2 _ _ h, frozen_of_row _ _ 3 _ _ h, frozen_of_row _ _ 4 _ _ h⟩
def EntsIn (w : World) (a : Option Addr) (len cap : Nat) (T : Nat → En) : Prop :=
 len ≤ cap ∧ cap ≤ maxLen ∧ (len = 0 ∨ ∃ b off, a = some ⟨b, off, none⟩ ∧ b < w.heap.size ∧ ∀ i, i < len →
  (w.cell? ⟨b, off + i * 5, none⟩ = some (.string (T i).k) ∧ w.cell? ⟨b, off + i * 5 + 1, none⟩ = some (.int .i64 (T i).c) ∧ w.cell? ⟨b, off + i * 5 + 2, none⟩ = some (.int .i64 (T i).n) ∧ w.cell? ⟨b, off + i * 5 + 3, none⟩ = some (.string (T i).v) ∧ w.cell? ⟨b, off + i * 5 + 4, none⟩ = some (.bool (T i).d)) ∧ (T i).k.size ≤ 140737488351232)
theorem EntsIn.keep {w w' : World} {a : Option Addr} {len cap : Nat} {T : Nat → En} (h : EntsIn w a len cap T) (b : Below w.heap.size w w') : EntsIn w' a len cap T := by
 obtain ⟨h1, h2, h3⟩ := h
 refine ⟨h1, h2, ?_⟩
 rcases h3 with h3 | ⟨bb, off, rfl, hb, hc⟩
 ·exact .inl h3
 ·refine .inr ⟨bb, off, rfl, by have := b.size; omega, fun i hi => ?_⟩
  obtain ⟨⟨c0, c1, c2, c3, c4⟩, hk⟩ := hc i hi
  exact ⟨⟨cell_in c0 b, cell_in c1 b, cell_in c2 b, cell_in c3 b, cell_in c4 b⟩, hk⟩
theorem quint {w : World} {i : Nat} {a b c d e : Value} {T : TypeId} (h : w.heap[i]? = some (.cells #[a, b, c, d, e] T (0, 0))) :
    w.cell? ⟨i, 0, none⟩ = some a ∧ w.cell? ⟨i, 1, none⟩ = some b ∧ w.cell? ⟨i, 2, none⟩ = some c ∧ w.cell? ⟨i, 3, none⟩ = some d ∧ w.cell? ⟨i, 4, none⟩ = some e :=
 ⟨by simp [World.cell?, h], by simp [World.cell?, h], by simp [World.cell?, h], by simp [World.cell?, h], by simp [World.cell?, h]⟩
end Go.Proofs.YtpbkjffiohfkcaaGreatDoor
