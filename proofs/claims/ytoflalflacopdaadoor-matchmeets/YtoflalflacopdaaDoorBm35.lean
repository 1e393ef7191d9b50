/-
  Two stores side by side, with the boxes that MatchMeets keeps.
  The calls that MatchMeets makes, by the lists that they are made of.
-/
import Derived.Test.YtoflalflacopdaaDoorBm25
import Derived.Test.YtoflalflacopdaaDoorBm30
import Derived.Test.YtoflalflacopdaaDoorBm32
import Derived.Test.YtoflalflacopdaaDoorBm33
import Derived.Test.YtoflalflacopdaaDoorBm34
import Derived.Test.YtoflalflacopdaaDoorBm21
namespace Go.Proofs.YtoflalflacopdaaDoor
open Go.RowKit
set_option linter.unusedVariables false
/-- Two stores, and what the walk keeps besides. -/
structure MmS (w : World) (rb pa pb sa ga ta da sb gb tb db : Nat) (r : Rg) (ca cb : Int) (La Lb : List En) (W : World) : Prop where
  a : Sto W sa ga ta 4 ca La
  b : Sto W sb gb tb 5 cb Lb
  lan : Lanes W
  bel : Below w.heap.size w W
  rb : W.heap[rb]? = some (.cells #[.string r.lo, .string r.hi, .bool r.op] 24 (0, 0))
  pa : W.heap[pa]? = some (.cells #[.pointer (some ⟨sa, 0, none⟩), .pointer (some ⟨da, 0, none⟩)] 63 (0, 0))
  pb : W.heap[pb]? = some (.cells #[.pointer (some ⟨sb, 0, none⟩), .pointer (some ⟨db, 0, none⟩)] 63 (0, 0))
  la : w.heap.size ≤ sa ∧ w.heap.size ≤ ga ∧ w.heap.size ≤ ta
  lb : w.heap.size ≤ sb ∧ w.heap.size ≤ gb ∧ w.heap.size ≤ tb
  ap : sa ≠ sb ∧ ga ≠ gb ∧ ta ≠ tb
section
variable {w W W' : World} {rb pa pb sa ga ta da sb gb tb db : Nat} {r : Rg} {ca cb : Int} {La Lb : List En}
theorem MmS.on (h : MmS w rb pa pb sa ga ta da sb gb tb db r ca cb La Lb W) (b : Below W.heap.size W W') : MmS w rb pa pb sa ga ta da sb gb tb db r ca cb La Lb W' :=
  ⟨h.a.below b, h.b.below b, h.lan.keep b, bthen h.bel b, blk_on h.rb b, blk_on h.pa b, blk_on h.pb b, h.la, h.lb, h.ap⟩
theorem MmS.turnA {La' : List En} {ca' : Int} (h : MmS w rb pa pb sa ga ta da sb gb tb db r ca cb La Lb W) (s : Sto W' sa ga ta 4 ca' La') (k : Keeps (Of sa ga ta) W W') : MmS w rb pa pb sa ga ta da sb gb tb db r ca' cb La' Lb W' :=
  ⟨s, h.b.keep h.a k h.ap.1.symm h.ap.2.1.symm h.ap.2.2.symm, h.a.keeps h.lan k, h.bel.trans (k.below h.bel.size (fun i hi e => by have := h.la; rcases e with e | e | e <;> omega)), blk_keep h.rb k (h.a.not h.rb (by decide) (by decide) (by decide)), blk_keep h.pa k (h.a.not h.pa (by decide) (by decide) (by decide)), blk_keep h.pb k (h.a.not h.pb (by decide) (by decide) (by decide)), h.la, h.lb, h.ap⟩
theorem MmS.turnB {Lb' : List En} {cb' : Int} (h : MmS w rb pa pb sa ga ta da sb gb tb db r ca cb La Lb W) (s : Sto W' sb gb tb 5 cb' Lb') (k : Keeps (Of sb gb tb) W W') : MmS w rb pa pb sa ga ta da sb gb tb db r ca cb' La Lb' W' :=
  ⟨h.a.keep h.b k h.ap.1 h.ap.2.1 h.ap.2.2, s, h.b.keeps h.lan k, h.bel.trans (k.below h.bel.size (fun i hi e => by have := h.lb; rcases e with e | e | e <;> omega)), blk_keep h.rb k (h.b.not h.rb (by decide) (by decide) (by decide)), blk_keep h.pa k (h.b.not h.pa (by decide) (by decide) (by decide)), blk_keep h.pb k (h.b.not h.pb (by decide) (by decide) (by decide)), h.la, h.lb, h.ap⟩
end
theorem own_keepM {w w' : World} {B : Nat} {v : Value} {n : Nat} {xs : List Value} {sb g tb : Nat} {nd ck : Int} {Ls : List En} (h : w.ownsRow B 33 5 v n xs) (hs : Sto w sb g tb nd ck Ls) (k : Keeps (Of sb g tb) w w') : w'.ownsRow B 33 5 v n xs := by
  refine ⟨h.1, ?_⟩
  rcases h.2 with h5 | ⟨g3, cap, cur, f1, f2, f3, f4⟩
  · exact .inl h5
  · exact .inr ⟨g3, cap, cur, f1, f2, blk_keep f3 k (hs.not f3 (by decide) (by decide) (by decide)), f4⟩
theorem tk_allM {s : TkS} (h : MapL s.l ∧ s.l.length ≤ 256) (E : List En) : MapL (tkAll s E).l ∧ (tkAll s E).l.length ≤ 256 := by
  induction E generalizing s with
  | nil => exact h
  | cons e E ih => rw [tkAll_consM]; exact ih (tk_okM h e)
/-- What the range holds, by the code's words. -/
theorem in_thruM {r : Rg} {l : List En} (h : r.chk = 0) (hm : MapL l) : thruL r.lo r.hi r.op true l = inL r l := by
  unfold thruL inL
  rw [List.filter_filter]
  refine List.filter_congr (fun e he => ?_)
  have h1 := (chk_pos (hm.chk e he)).2.1
  unfold Rg.has inR Rg.may
  have h2 : decide ((e.k.size : Int) ≤ 16) = true := by simp; omega
  simp [h, h2]
  rfl
theorem keysM {l : List En} (h : MapL l) : KeysOk l := fun e he => key_small (h.chk e he)
theorem ents_ofM {w : World} {B : Nat} {a : Option Addr} {c : Nat} {l : List En} (h : w.ownsRow B 33 5 (.slice a l.length c) l.length (entCells l)) (hm : MapL l) : EntsIn w a l.length c (nthE l) := by
  obtain ⟨a', c', e, h2⟩ := own_ents h (keysM hm)
  injection e with e1 e2 e3
  subst e1 e3
  exact h2
theorem ckR_ok {T : Nat → En} {n : Nat} (h : MapL (firstE T n)) (r : Rg) : ckR T n r = r.chk := by
  unfold ckR
  rw [if_neg (by simp [(ck_map n).2 h])]
theorem emp_ne {r : Rg} (h : r.chk = 0) (hn : ¬ (r.op = false ∧ r.lo = r.hi)) : r.emp = false := by
  unfold Rg.emp Rg.may
  rw [h]
  cases hop : r.op
  · have h1 : ¬ r.lo = r.hi := fun e => hn ⟨hop, e⟩
    have h2 : (r.lo.toList == r.hi.toList) = false := by
      cases hq : (r.lo.toList == r.hi.toList)
      · rfl
      · exact absurd (toList_inj (eq_of_beq hq)) h1
    simp [h2]
  · simp
/-- The same, with the lists and counts that the walk has come to. -/
structure MmT (w : World) (rb pa pb sa ga ta da sb gb tb db : Nat) (r : Rg) (ca cb : Int) (La Lb : List En) (am : Option Addr) (cm : Nat) (mi : List En) (at_ : Option Addr) (ct : Nat) (th : List En) (hb : Nat) (hn hf : Int) (xb : Nat) (gn gf : Int) (W : World) : Prop where
  ms : MmS w rb pa pb sa ga ta da sb gb tb db r ca cb La Lb W
  om : W.ownsRow w.heap.size 33 5 (.slice am mi.length cm) mi.length (entCells mi)
  ot : W.ownsRow w.heap.size 33 5 (.slice at_ th.length ct) th.length (entCells th)
  kh : W.heap[hb]? = some (.cells #[.int .i64 hn, .int .i64 hf] 69 (0, 0))
  kx : W.heap[xb]? = some (.cells #[.int .i64 gn, .int .i64 gf] 69 (0, 0))
  lx : w.heap.size ≤ xb
  ne : hb ≠ xb
section
variable {w W W' : World} {rb pa pb sa ga ta da sb gb tb db : Nat} {r : Rg} {ca cb : Int} {La Lb : List En} {am : Option Addr} {cm : Nat} {mi : List En} {at_ : Option Addr} {ct : Nat} {th : List En} {hb : Nat} {hn hf : Int} {xb : Nat} {gn gf : Int}
theorem MmT.on (h : MmT w rb pa pb sa ga ta da sb gb tb db r ca cb La Lb am cm mi at_ ct th hb hn hf xb gn gf W) (b : Below W.heap.size W W') : MmT w rb pa pb sa ga ta da sb gb tb db r ca cb La Lb am cm mi at_ ct th hb hn hf xb gn gf W' :=
  ⟨h.ms.on b, own_on h.om b, own_on h.ot b, blk_on h.kh b, blk_on h.kx b, h.lx, h.ne⟩
theorem MmT.turnA {La' : List En} {ca' : Int} (h : MmT w rb pa pb sa ga ta da sb gb tb db r ca cb La Lb am cm mi at_ ct th hb hn hf xb gn gf W) (s : Sto W' sa ga ta 4 ca' La') (k : Keeps (Of sa ga ta) W W') : MmT w rb pa pb sa ga ta da sb gb tb db r ca' cb La' Lb am cm mi at_ ct th hb hn hf xb gn gf W' :=
  ⟨h.ms.turnA s k, own_keepM h.om h.ms.a k, own_keepM h.ot h.ms.a k, blk_keep h.kh k (h.ms.a.not h.kh (by decide) (by decide) (by decide)), blk_keep h.kx k (h.ms.a.not h.kx (by decide) (by decide) (by decide)), h.lx, h.ne⟩
theorem zero_heard {W : World} (L : Lanes W) {i : Nat} {a b : Value} {U : TypeId} (h : W.heap[i]? = some (.cells #[a, b] U (0, 0))) : ¬ 0 = i := fun e => by
  subst e
  exact L.apart0 _ _ h rfl
theorem MmS.set (h : MmS w rb pa pb sa ga ta da sb gb tb db r ca cb La Lb W) {i : Nat} {a b : Value} (hi : W.heap[i]? = some (.cells #[a, b] 69 (0, 0))) (hl : w.heap.size ≤ i) (k : Keeps (fun x => x = i) W W') : MmS w rb pa pb sa ga ta da sb gb tb db r ca cb La Lb W' :=
  ⟨h.a.set hi (by decide) (by decide) (by decide) (by decide) k, h.b.set hi (by decide) (by decide) (by decide) (by decide) k, h.lan.keeps k (zero_heard h.lan hi), h.bel.trans (k.below h.bel.size (fun j hj e => by have hh : j = i := e; omega)), blk_keep h.rb k (fun e => by have hh : rb = i := e; have := h.rb; rw [hh, hi] at this; simp at this), blk_keep h.pa k (fun e => by have hh : pa = i := e; have := h.pa; rw [hh, hi] at this; simp at this), blk_keep h.pb k (fun e => by have hh : pb = i := e; have := h.pb; rw [hh, hi] at this; simp at this), h.la, h.lb, h.ap⟩
theorem own_heard {W W' : World} {B : Nat} {v : Value} {n : Nat} {xs : List Value} (h : W.ownsRow B 33 5 v n xs) {i : Nat} {a b : Value} (hi : W.heap[i]? = some (.cells #[a, b] 69 (0, 0))) (k : Keeps (fun x => x = i) W W') : W'.ownsRow B 33 5 v n xs := by
  refine ⟨h.1, ?_⟩
  rcases h.2 with h5 | ⟨g3, cap, cur, f1, f2, f3, f4⟩
  · exact .inl h5
  · exact .inr ⟨g3, cap, cur, f1, f2, blk_keep f3 k (fun e => by have hh : g3 = i := e; rw [hh, hi] at f3; simp at f3), f4⟩
/-- Another box of counts is written. -/
theorem MmT.set (h : MmT w rb pa pb sa ga ta da sb gb tb db r ca cb La Lb am cm mi at_ ct th hb hn hf xb gn gf W) {i : Nat} {a b : Value} (hi : W.heap[i]? = some (.cells #[a, b] 69 (0, 0))) (hl : w.heap.size ≤ i) (n1 : hb ≠ i) (n2 : xb ≠ i) (k : Keeps (fun x => x = i) W W') : MmT w rb pa pb sa ga ta da sb gb tb db r ca cb La Lb am cm mi at_ ct th hb hn hf xb gn gf W' :=
  ⟨h.ms.set hi hl k, own_heard h.om hi k, own_heard h.ot hi k, blk_keep h.kh k n1, blk_keep h.kx k n2, h.lx, h.ne⟩
/-- The second box of counts is written. -/
theorem MmT.setX (h : MmT w rb pa pb sa ga ta da sb gb tb db r ca cb La Lb am cm mi at_ ct th hb hn hf xb gn gf W) {gn' gf' : Int} (hi : W'.heap[xb]? = some (.cells #[.int .i64 gn', .int .i64 gf'] 69 (0, 0))) (k : Keeps (fun x => x = xb) W W') : MmT w rb pa pb sa ga ta da sb gb tb db r ca cb La Lb am cm mi at_ ct th hb hn hf xb gn' gf' W' :=
  ⟨h.ms.set h.kx h.lx k, own_heard h.om h.kx k, own_heard h.ot h.kx k, blk_keep h.kh k h.ne, hi, h.lx, h.ne⟩
end
end Go.Proofs.YtoflalflacopdaaDoor
namespace Go.Proofs.YtoflalflacopdaaDoor
open Go.RowKit
set_option linter.unusedVariables false
/-- What an exchange tells: nothing, or one part that replies. -/
def RpX (B : Nat) (r : Rg) (m : List En) (ax : Option Addr) (nx : Nat) (w : World) : Prop := (m = [] ∧ ax = none ∧ nx = 0) ∨ (m ≠ [] ∧ nx = 1 ∧ ∃ g a c, ax = some ⟨g, 0, none⟩ ∧ B ≤ g ∧ w.heap[g]? = some (.cells #[.int .i64 3, .string r.lo, .string r.hi, .bool r.op, .int .i64 0, .int .u64 0, .int .u64 0, .slice a m.length c] 59 (0, 0)) ∧ w.ownsRow B 33 5 (.slice a m.length c) m.length (entCells m))
theorem RpX.on {B B' : Nat} {r : Rg} {m : List En} {ax : Option Addr} {nx : Nat} {w w' : World} (h : RpX B r m ax nx w) (hB : B' ≤ B) (b : Below w.heap.size w w') : RpX B' r m ax nx w' :=
  h.imp id (fun ⟨h1, h2, g, a, c, h3, h4, h5, h6⟩ => ⟨h1, h2, g, a, c, h3, Nat.le_trans hB h4, blk_on h5 b, own_on (own_low h6 hB) b⟩)
def RpM (B : Nat) (r : Rg) (m : List En) (v : Value) (w : World) : Prop := ∃ (ax : Option Addr) (nx : Nat), v = .slice ax nx nx ∧ nx ≤ 1 ∧ RpX B r m ax nx w
set_option maxHeartbeats 3200000 in
theorem xchgM (kd : Int) (r : Rg) (am : Option Addr) (cm : Nat) (E : List En) (hk : kd = 2 ∨ kd = 3) (hr : r.chk = 0) (he : r.emp = false) (hE : MapL E) (hin : ∀ e ∈ E, Rg.has r e.k = true) (hl : E.length ≤ 256) (h3 : kd = 3 → E ≠ []) {w : World} {sb g tb : Nat} {nd ck : Int} {Ls : List En} (h : Sto w sb g tb nd ck Ls) (hm : MapL Ls) (hls : Ls.length ≤ 256) (ei : EntsIn w am E.length cm (nthE E)) (L : Lanes w) :
    Calls Tryd.prog 20 #[.pointer (some ⟨sb, 0, none⟩), .agg #[.int .i64 kd, .string r.lo, .string r.hi, .bool r.op, .int .i64 0, .int .u64 0, .int .u64 0, .slice am E.length cm]] w fun e w' => ∃ v, e = .returned (.tuple #[v, .agg #[.int .i64 ((tkAll ⟨Ls, ck, 0, 0⟩ E).n : Int), .int .i64 ((tkAll ⟨Ls, ck, 0, 0⟩ E).f : Int)], .int .i64 0]) ∧ RpM w.heap.size r (if kd = 2 then lkL (inL r Ls) E else []) v w' ∧ Sto w' sb g tb nd (tkAll ⟨Ls, ck, 0, 0⟩ E).c (tkAll ⟨Ls, ck, 0, 0⟩ E).l ∧ Keeps (Of sb g tb) w w' ∧ Lanes w' := by
  have hf : firstE (nthE E) E.length = E := firstE_nth E
  have hx : xErr (⟨kd, r.lo, r.hi, r.op, 0, 0, 0, am, E.length, cm, nthE E⟩ : Pm) = 0 := x_ok hk ⟨rfl, rfl, rfl⟩ hr he (by show MapL (firstE (nthE E) E.length); rw [hf]; exact hE) (fun k hk => hin _ (List.mem_of_getElem? (nthE_get hk))) hl (fun h e => h3 h (List.eq_nil_of_length_eq_zero e))
  refine (xchg_any (⟨kd, r.lo, r.hi, r.op, 0, 0, 0, am, E.length, cm, nthE E⟩ : Pm) h hm hls ei (by show E.length ≤ _; omega) L).mono ?_
  rintro e w' (⟨h0, -⟩ | ⟨-, v, rfl, rp, s1, k1, l1⟩)
  · exact absurd hx h0
  have hrp : rpL (⟨kd, r.lo, r.hi, r.op, 0, 0, 0, am, E.length, cm, nthE E⟩ : Pm) Ls = if kd = 2 then lkL (inL r Ls) E else [] := by
    show (if kd = 2 then lkL (thruL r.lo r.hi r.op true Ls) (firstE (nthE E) E.length) else []) = _
    rw [hf, in_thruM hr hm]
  rw [hrp] at rp
  have hT : tkAll ⟨Ls, ck, 0, 0⟩ (firstE (nthE E) E.length) = (tkAll ⟨Ls, ck, 0, 0⟩ E) := by rw [hf]
  refine ⟨v, ?_, ?_, ?_, k1, l1⟩
  · show Ending.returned (.tuple #[v, .agg #[.int .i64 ((tkAll ⟨Ls, ck, 0, 0⟩ (firstE (nthE E) E.length)).n : Int), .int .i64 ((tkAll ⟨Ls, ck, 0, 0⟩ (firstE (nthE E) E.length)).f : Int)], .int .i64 0]) = _
    rw [hT]
  · rcases rp with ⟨h1, rfl⟩ | ⟨h1, g2, a, c, rfl, h2, h3, h4⟩
    · exact ⟨none, 0, rfl, by omega, .inl ⟨h1, rfl, rfl⟩⟩
    · exact ⟨_, 1, rfl, by omega, .inr ⟨h1, rfl, g2, a, c, rfl, by omega, h3, own_low h4 (by omega)⟩⟩
  · have s2 : Sto w' sb g tb nd (tkAll ⟨Ls, ck, 0, 0⟩ (firstE (nthE E) E.length)).c (tkAll ⟨Ls, ck, 0, 0⟩ (firstE (nthE E) E.length)).l := s1
    rwa [hT] at s2
section
variable {w : World} {a b : Option Addr} {ca cb : Nat} {A B : List En}
theorem ck2_list (ha : MapL A) (hb : MapL B) : ck2 (nthE A) A.length (nthE B) B.length = 0 := ck2_ok.2 ⟨by rw [firstE_nth]; exact ha, by rw [firstE_nth]; exact hb⟩
theorem lackM (ha : MapL A) (hb : MapL B) (la : A.length ≤ 256) (lb : B.length ≤ 256) (ea : EntsIn w a A.length ca (nthE A)) (eb : EntsIn w b B.length cb (nthE B)) :
    Calls Tryd.prog 21 #[.slice a A.length ca, .slice b B.length cb] w fun e w' => ∃ v, e = .returned (.tuple #[v, .int .i64 0]) ∧ w'.ownsRow w.heap.size 33 5 v (lkL A B).length (entCells (lkL A B)) ∧ Below w.heap.size w w' := by
  have C := rlack_any a A.length ca (nthE A) b B.length cb (nthE B) w ea eb (by omega)
  rw [ck2_list ha hb, outL_ok _ rfl, firstE_nth, firstE_nth] at C
  exact C
theorem maxM (ha : MapL A) (hb : MapL B) (la : A.length ≤ 256) (lb : B.length ≤ 256) (ea : EntsIn w a A.length ca (nthE A)) (eb : EntsIn w b B.length cb (nthE B)) :
    Calls Tryd.prog 24 #[.slice a A.length ca, .slice b B.length cb] w fun e w' => ∃ v, e = .returned (.tuple #[v, .int .i64 0]) ∧ w'.ownsRow w.heap.size 33 5 v (mxL A B).length (entCells (mxL A B)) ∧ Below w.heap.size w w' := by
  have C := rmax_any a A.length ca (nthE A) b B.length cb (nthE B) w ea eb (by omega)
  rw [ck2_list ha hb, outL_ok _ rfl, firstE_nth, firstE_nth] at C
  exact C
theorem minM {r : Rg} (hr : r.chk = 0) (ha : MapL A) (la : A.length ≤ 256) (ea : EntsIn w a A.length ca (nthE A)) :
    Calls Tryd.prog 25 #[.slice a A.length ca, .agg #[.string r.lo, .string r.hi, .bool r.op]] w fun e w' => ∃ v, e = .returned (.tuple #[v, .int .i64 0]) ∧ w'.ownsRow w.heap.size 33 5 v (inL r A).length (entCells (inL r A)) ∧ Below w.heap.size w w' := by
  have C := min_any a A.length ca (nthE A) r.lo r.hi r.op w ea (by omega)
  rw [show (⟨r.lo, r.hi, r.op⟩ : Rg) = r from rfl, ckR_ok (by rw [firstE_nth]; exact ha), hr, outL_ok _ rfl, firstE_nth] at C
  exact C
end
end Go.Proofs.YtoflalflacopdaaDoor
