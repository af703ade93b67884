import PyProof.Rows.All
import Wide.All
import OpenK.AllK
import Wide.FinOn
import HandS.ForMost
import HandS.IsInst
import HandS.WideBits
import HandS.Wide
import HandS.TupAny
import HandS.Zip
import HandS.Style
import HandS.Deep
import HandS.Star
import HandS.Replace
import HandS.StrMore
import HandS.EndBits
import HandS.Defaults
import HandS.Head0
import HandS.Head1
import HandS.Head2
import HandS.HeadEnd
import HandS.HeadHook1
import HandS.HeadHook2
import PyProof.ReprRoads
import KE.DatumIndex
import HandS.RaiseMore
import KE.GoesEnum
import PyProof.ReprLen
import PyProof.ToksMono
import KE.KIntText
import PyProof.Rows.StrIntSpec
import PySem.Challenge.RW_latehall_k21_meanings_looked_at
set_option Elab.async false
set_option linter.all false
set_option maxRecDepth 100000
/-! TL1 -/
section
set_option maxHeartbeats 4000000
namespace TL
open PySem L2

/-! ## data in a heap that only grows -/
theorem seqT_mono {K : PySem.W.Frag} {F F' : Hp} {a : Addr} {xs : List V} (e : Same F F') (h : SqT K F a xs) : SqT K F' a xs := by
  rcases h with (h | ⟨o, h⟩) | h
  · exact .inl (.inl (e _ _ h))
  · exact .inl (.inr ⟨o, e _ _ h⟩)
  · exact .inr h
theorem sqL_mono {K : PySem.W.Frag} {F F' : Hp} {a : Addr} {xs : List V} (e : Same F F') (h : SqL K F a xs) : SqL K F' a xs := by
  rcases h with (h | ⟨o, h⟩) | h
  · exact .inl (.inl (e _ _ h))
  · exact .inl (.inr ⟨o, e _ _ h⟩)
  · exact .inr h
/-- a dict's key as data -/
def kD : Key → PyData
  | .inl i => .int i
  | .inr x => .str x
def keyD : PyData → Option Key
  | .int i => some (.inl i)
  | .str x => some (.inr x)
  | _ => none
theorem keyD_kD (k : Key) : keyD (kD k) = some k := by cases k <;> rfl
mutual
inductive Rp (K : PySem.W.Frag) (F : Hp) : V → PyData → Prop
  | vn : Rp K F .non .none
  | vb (b : Bool) : Rp K F (.bl b) (.bool b)
  | vi (i : Int) : Rp K F (.int i) (.int i)
  | vs (x : Str) : Rp K F (.str x) (.str x)
  | vl {a : Addr} {xs : List V} {ds : List PyData} : SqL K F a xs → RpAll K F xs ds → Rp K F (.ref a) (.list ds)
  | vt {a : Addr} {xs : List V} {ds : List PyData} : SqT K F a xs → RpAll K F xs ds → Rp K F (.ref a) (.tuple ds)
  | vd {a : Addr} {ks : List (Key × V)} {ps : List (PyData × PyData)} : Rd F a (.dK ks) → RpKv K F ks ps → Rp K F (.ref a) (.dict ps)
inductive RpKv (K : PySem.W.Frag) (F : Hp) : List (Key × V) → List (PyData × PyData) → Prop
  | nil : RpKv K F [] []
  | cons {k : Key} {v : V} {ks : List (Key × V)} {d : PyData} {ps : List (PyData × PyData)} : Rp K F v d → RpKv K F ks ps → RpKv K F ((k, v) :: ks) ((kD k, d) :: ps)
inductive RpAll (K : PySem.W.Frag) (F : Hp) : List V → List PyData → Prop
  | nil : RpAll K F [] []
  | cons {v : V} {vs : List V} {d : PyData} {ds : List PyData} : Rp K F v d → RpAll K F vs ds → RpAll K F (v :: vs) (d :: ds)
end
theorem rd_mono {F F' : Hp} {a : Addr} {u : HO} (e : Same F F') (h : Rd F a u) : Rd F' a u := by
  rcases h with h | ⟨o, h⟩
  · exact .inl (e _ _ h)
  · exact .inr ⟨o, e _ _ h⟩
mutual
theorem rp_mono {K : PySem.W.Frag} {F F' : Hp} (e : Same F F') : ∀ (d : PyData) (v : V), Rp K F v d → Rp K F' v d
  | .none, _, h => by cases h; exact .vn
  | .bool b, _, h => by cases h; exact .vb b
  | .int i, _, h => by cases h; exact .vi i
  | .str x, _, h => by cases h; exact .vs x
  | .list ds, _, h => by
    cases h with
    | vl hs ha => exact .vl (sqL_mono e hs) (rpa_mono e ds _ ha)
  | .tuple ds, _, h => by
    cases h with
    | vt hs ha => exact .vt (seqT_mono e hs) (rpa_mono e ds _ ha)
  | .dict ps, _, h => by
    cases h with
    | vd hs ha => exact .vd (rd_mono e hs) (rpk_mono e ps _ ha)
theorem rpk_mono {K : PySem.W.Frag} {F F' : Hp} (e : Same F F') : ∀ (ps : List (PyData × PyData)) (ks : List (Key × V)), RpKv K F ks ps → RpKv K F' ks ps
  | [], _, h => by cases h; exact .nil
  | (c, d) :: ps, _, h => by
    cases h with
    | cons h1 h2 => exact .cons (rp_mono e d _ h1) (rpk_mono e ps _ h2)
theorem rpa_mono {K : PySem.W.Frag} {F F' : Hp} (e : Same F F') : ∀ (ds : List PyData) (vs : List V), RpAll K F vs ds → RpAll K F' vs ds
  | [], _, h => by cases h; exact .nil
  | d :: ds, _, h => by
    cases h with
    | cons h1 h2 => exact .cons (rp_mono e d _ h1) (rpa_mono e ds _ h2)
end
mutual
theorem rp_dp {K : PySem.W.Frag} {F F' : Hp} (e : Same F F') : ∀ (d : PyData) (v : V), d.canLay0 = true → Rp K F v d → Dp K F' v d
  | .none, _, _, h => by cases h; exact .non
  | .bool b, _, _, h => by cases h; exact .bl b
  | .int i, _, _, h => by cases h; exact .int i
  | .str x, _, _, h => by cases h; exact .str x
  | .list ds, _, c, h => by
    cases h with
    | vl hs ha => exact .lst (sqL_mono e hs) (rpa_dp e ds _ c ha)
  | .tuple ds, _, c, h => by
    cases h with
    | vt hs ha => exact .tup (seqT_mono e hs) (rpa_dp e ds _ c ha)
  | .dict _, _, c, _ => by cases c
theorem rpa_dp {K : PySem.W.Frag} {F F' : Hp} (e : Same F F') : ∀ (ds : List PyData) (vs : List V), PyData.canLayAll0 ds = true → RpAll K F vs ds → DpAll K F' vs ds
  | [], _, _, h => by cases h; exact .nil
  | d :: ds, _, c, h => by
    have c' : d.canLay0 = true ∧ PyData.canLayAll0 ds = true := by simpa [PyData.canLayAll0] using c
    cases h with
    | cons h1 h2 => exact .cons (rp_dp e d _ c'.1 h1) (rpa_dp e ds _ c'.2 h2)
end
theorem Rpkm {K : PySem.W.Frag} {F F' : Hp} {ps : List (PyData × PyData)} {ks : List (Key × V)} (e : Same F F') (h : RpKv K F ks ps) : RpKv K F' ks ps := rpk_mono e ps ks h
theorem Rpm {K : PySem.W.Frag} {F F' : Hp} {d : PyData} {v : V} (e : Same F F') (h : Rp K F v d) : Rp K F' v d := rp_mono e d v h
theorem Rpam {K : PySem.W.Frag} {F F' : Hp} {ds : List PyData} {vs : List V} (e : Same F F') (h : RpAll K F vs ds) : RpAll K F' vs ds := rpa_mono e ds vs h
theorem rpa_len {K : PySem.W.Frag} {F : Hp} : ∀ {vs : List V} {ds : List PyData}, RpAll K F vs ds → vs.length = ds.length
  | _, _, .nil => rfl
  | _, _, .cons _ t => congrArg (· + 1) (rpa_len t)
theorem rpa_get {K : PySem.W.Frag} {F : Hp} : ∀ {vs : List V} {ds : List PyData} {i : Nat} {d : PyData}, RpAll K F vs ds → ds[i]? = some d → ∃ v, vs[i]? = some v ∧ Rp K F v d
  | _, _, _, _, .nil, e => by simp at e
  | _, _, 0, _, .cons h _, e => by simp at e; subst e; exact ⟨_, rfl, h⟩
  | _, _, i + 1, d, .cons _ t, e => by
    obtain ⟨v, h1, h2⟩ := rpa_get (i := i) (d := d) t (by simpa using e)
    exact ⟨v, by simpa using h1, h2⟩
theorem rpa_app {K : PySem.W.Frag} {F : Hp} : ∀ {vs us : List V} {ds es : List PyData}, RpAll K F vs ds → RpAll K F us es → RpAll K F (vs ++ us) (ds ++ es)
  | _, _, _, _, .nil, s => s
  | _, _, _, _, .cons r t, s => .cons r (rpa_app t s)
theorem rpa_set {K : PySem.W.Frag} {F : Hp} {v : V} {d : PyData} (r : Rp K F v d) : ∀ {vs : List V} {ds : List PyData} (i : Nat), RpAll K F vs ds → RpAll K F (vs.set i v) (ds.set i d)
  | _, _, _, .nil => .nil
  | _, _, 0, .cons _ t => .cons r t
  | _, _, i + 1, .cons q t => .cons q (rpa_set r i t)
theorem rpa_drop {K : PySem.W.Frag} {F : Hp} : ∀ {vs : List V} {ds : List PyData} (n : Nat), RpAll K F vs ds → RpAll K F (vs.drop n) (ds.drop n)
  | _, _, 0, r => r
  | _, _, _ + 1, .nil => .nil
  | _, _, n + 1, .cons _ t => rpa_drop n t
theorem rpa_take {K : PySem.W.Frag} {F : Hp} : ∀ {vs : List V} {ds : List PyData} (n : Nat), RpAll K F vs ds → RpAll K F (vs.take n) (ds.take n)
  | _, _, 0, _ => .nil
  | _, _, _ + 1, .nil => .nil
  | _, _, n + 1, .cons r t => .cons r (rpa_take n t)
theorem rpa_ints {K : PySem.W.Frag} {F : Hp} : ∀ ns : List Int, RpAll K F (ns.map V.int) (ns.map PyData.int)
  | [] => .nil
  | n :: ns => .cons (.vi n) (rpa_ints ns)

/-! ## what a frame knows: slots, cells -/
inductive Sl where
  | un | fz (d : PyData) | ow (k : Nat)
abbrev Rs := List Sl
abbrev Ms := List (Option PyData)
/-- the items of a cell that is not frozen -/
def cellAt (m : Ms) (k : Nat) : Option PyData := m[k]?.join
/-- what stands at a cell's address -/
def Stored (K : PySem.W.Frag) (F : Hp) (o : HO) : PyData → Prop
  | .list ds => ∃ vs, o = .lst vs ∧ RpAll K F vs ds
  | .dict ps => ∃ ks, o = .dK ks ∧ RpKv K F ks ps
  | _ => False
theorem stored_mono {K : PySem.W.Frag} {F F' : Hp} {o : HO} (e : Same F F') : ∀ {d : PyData}, Stored K F o d → Stored K F' o d
  | .list _, ⟨vs, h1, h2⟩ => ⟨vs, h1, Rpam e h2⟩
  | .dict _, ⟨ks, h1, h2⟩ => ⟨ks, h1, Rpkm e h2⟩
/-- frozen it is data -/
theorem stored_rp {K : PySem.W.Frag} {F : Hp} {a : Addr} {o : HO} (e : F a = some o) : ∀ {d : PyData}, Stored K F o d → Rp K F (.ref a) d
  | .list _, ⟨vs, h1, h2⟩ => .vl (.inl (.inl (by rw [e, h1]))) h2
  | .dict _, ⟨ks, h1, h2⟩ => .vd (.inl (by rw [e, h1])) h2
theorem cellAt_lt {m : Ms} {k : Nat} {ds : PyData} (e : cellAt m k = some ds) : k < m.length := by
  unfold cellAt at e
  by_cases h : k < m.length
  · exact h
  · rw [List.getElem?_eq_none (by omega)] at e; cases e
theorem cellAt_self {m : Ms} {k : Nat} {o : Option PyData} (h : k < m.length) : cellAt (m.set k o) k = o := by
  unfold cellAt
  rw [List.getElem?_set_self h]
  rfl
theorem cellAt_ne {m : Ms} {k j : Nat} {o : Option PyData} (h : j ≠ k) : cellAt (m.set k o) j = cellAt m j := by
  unfold cellAt
  rw [List.getElem?_set_ne (Ne.symm h)]
theorem cellAt_new {m : Ms} {o : Option PyData} : cellAt (m ++ [o]) m.length = o := by
  unfold cellAt
  simp
theorem cellAt_old {m : Ms} {k : Nat} {o : Option PyData} (h : k < m.length) : cellAt (m ++ [o]) k = cellAt m k := by
  unfold cellAt
  rw [List.getElem?_append_left h]
def Grow (F H F' H' : Hp) : Prop := Same F F' ∧ Same F' H'
/-- U: what stood and is not ours; A: the cells' addresses; F: what is never changed any more -/
structure Good (K : PySem.W.Frag) (U : Hp) (A : List Addr) (F H : Hp) (σ : St) (r : Rs) (m : Ms) : Prop where
  sub : Same F H
  fo : ∀ b o, U b = some o → H b = some o ∧ F b = none
  len : r.length = σ.length
  fz : ∀ (i : Nat) (d : PyData), r[i]? = some (.fz d) → ∃ v, σ[i]? = some (some v) ∧ Rp K F v d
  ow : ∀ (i k : Nat), r[i]? = some (.ow k) → ∃ a, A[k]? = some a ∧ σ[i]? = some (some (.ref a))
  al : A.length = m.length
  cl : ∀ (k : Nat) (a : Addr) (ds : PyData), A[k]? = some a → cellAt m k = some ds → F a = none ∧ U a = none ∧ ∃ o, H a = some o ∧ Stored K F o ds
  nd : A.Nodup
  he : ∀ a, a ∈ A → ∃ o, H a = some o

/-! ## expressions -/
abbrev Ev := Rs → Ms → Option (PyData × Ms)
def tE (K : PySem.W.Frag) (U : Hp) (f : Ev) : TE := fun σ H Q => ∃ (A : List Addr) (F : Hp) (r : Rs) (m : Ms) (d : PyData) (m' : Ms), Good K U A F H σ r m ∧ f r m = some (d, m') ∧
  ∀ (F' H' : Hp) (v : V), Same F F' → Good K U A F' H' σ r m' → Rp K F' v d → Q v H'
theorem pe_weak {X : Cx} {e : Expr} {t t' : TE} (h : PE X e t) (w : ∀ σ H Q, t' σ H Q → t σ H Q) : PE X e t' :=
  ⟨fun pins s σ H Q I q => h.run pins s σ H Q I (w σ H Q q)⟩
theorem pt_weak {X : Cx} {e : Expr} {t t' : TT} (h : PT X e t) (w : ∀ σ H Q, t' σ H Q → t σ H Q) : PT X e t' :=
  ⟨fun pins s σ H Q I q => h.run pins s σ H Q I (w σ H Q q)⟩
theorem ps_weak {X : Cx} {e : Stmt} {t t' : TS} (h : PS X e t) (w : ∀ D σ H, t' D σ H → t D σ H) : PS X e t' :=
  ⟨fun pins s σ H D I q => h.run pins s σ H D I (w D σ H q)⟩
theorem pss_weak {X : Cx} {e : List Stmt} {t t' : TS} (h : PSs X e t) (w : ∀ D σ H, t' D σ H → t D σ H) : PSs X e t' :=
  ⟨fun pins s σ H D I q => h.run pins s σ H D I (w D σ H q)⟩
theorem pa_weak {X : Cx} {es : List Expr} {t t' : TA} (h : PA X es t) (w : ∀ σ H Q, t' σ H Q → t σ H Q) : PA X es t' :=
  ⟨fun pos pins s σ H Q I q => h.run pos pins s σ H Q I (w σ H Q q)⟩

def eC (d : PyData) : Ev := fun _ m => some (d, m)
def slD : Option Sl → Option PyData
  | some (.fz d) => some d
  | _ => none
def eV (i : Nat) : Ev := fun r m => (slD r[i]?).map fun d => (d, m)
def eBin (op : PyData → PyData → Option PyData) (f g : Ev) : Ev := fun r m => (f r m).bind fun p => (g r p.2).bind fun q => (op p.1 q.1).map fun d => (d, q.2)

section
variable {X : Cx} {U : Hp} {pos : Pos}
theorem qe_var (i : Nat) {x : Str} (h : PE X (.Name x pos) (tVar i)) : PE X (.Name x pos) (tE X.K U (eV i)) := by
  refine pe_weak h fun σ H Q ⟨A, F, r, m, d, m', G, e, k⟩ => ?_
  unfold eV slD at e
  split at e
  · rename_i d' he
    cases e
    obtain ⟨v, hv, hd⟩ := G.fz i _ he
    exact ⟨v, hv, k F H v (Same.refl F) G hd⟩
  · cases e
theorem qe_int {i j} : PE X (.Constant (.int i) j pos) (tE X.K U (eC (.int i))) :=
  pe_weak pe_int fun σ H Q ⟨A, F, r, m, d, m', G, e, k⟩ => by
    cases e
    exact k F H _ (Same.refl F) G (.vi i)
theorem qe_bl {b j} : PE X (.Constant (.bool b) j pos) (tE X.K U (eC (.bool b))) :=
  pe_weak pe_bl fun σ H Q ⟨A, F, r, m, d, m', G, e, k⟩ => by
    cases e
    exact k F H _ (Same.refl F) G (.vb b)
theorem qe_non {j} : PE X (.Constant .none j pos) (tE X.K U (eC .none)) :=
  pe_weak pe_non fun σ H Q ⟨A, F, r, m, d, m', G, e, k⟩ => by
    cases e
    exact k F H _ (Same.refl F) G .vn
theorem qe_str {x j} : PE X (.Constant (.str x) j pos) (tE X.K U (eC (.str x))) :=
  pe_weak pe_str fun σ H Q ⟨A, F, r, m, d, m', G, e, k⟩ => by
    cases e
    exact k F H _ (Same.refl F) G (.vs x)

/-- an operator by values: r tells at data what op tells -/
def OpD (X : Cx) (U : Hp) (rd : R2) (op : PyData → PyData → Option PyData) : Prop :=
  ∀ (A : List Addr) (F H : Hp) (σ : St) (r : Rs) (m : Ms) (x y : V) (a b d : PyData) (Q : VK), Good X.K U A F H σ r m → Rp X.K F x a → Rp X.K F y b → op a b = some d →
    (∀ (F' H' : Hp) (v : V), Same F F' → Good X.K U A F' H' σ r m → Rp X.K F' v d → Q v H') → rd x y H Q
theorem bin_some {op : PyData → PyData → Option PyData} {f g : Ev} {r : Rs} {m m' : Ms} {d : PyData} (e : eBin op f g r m = some (d, m')) :
    ∃ d1 m1 d2, f r m = some (d1, m1) ∧ g r m1 = some (d2, m') ∧ op d1 d2 = some d := by
  unfold eBin at e
  cases e1 : f r m with
  | none => rw [e1] at e; cases e
  | some p =>
    rw [e1] at e
    obtain ⟨d1, m1⟩ := p
    cases e2 : g r m1 with
    | none => simp [e2] at e
    | some q =>
      obtain ⟨d2, m2⟩ := q
      simp [e2] at e
      obtain ⟨d3, e3, e4, e5⟩ := e
      subst e4 e5
      exact ⟨d1, m1, d2, rfl, e2, e3⟩
theorem op2 {rd : R2} {op : PyData → PyData → Option PyData} {f g : Ev} (ho : OpD X U rd op) {σ : St} {H : Hp} {Q : VK} (h : tE X.K U (eBin op f g) σ H Q) :
    tOp rd (tE X.K U f) (tE X.K U g) σ H Q := by
  obtain ⟨A, F, r, m, d, m', G, e, k⟩ := h
  obtain ⟨d1, m1, d2, e1, e2, e3⟩ := bin_some e
  refine ⟨A, F, r, m, d1, m1, G, e1, fun F1 H1 x s1 G1 h1 => ⟨A, F1, r, m1, d2, m', G1, e2, fun F2 H2 y s2 G2 h2 => ?_⟩⟩
  refine ho A F2 H2 σ r m' x y d1 d2 d Q G2 (Rpm s2 h1) h2 e3 fun F3 H3 v s3 G3 h3 => ?_
  exact k F3 H3 v ((s1.trans s2).trans s3) G3 h3
theorem qe_op {op : Operator} {rd : R2} {od : PyData → PyData → Option PyData} {a b : Expr} {f g : Ev} (hr : OpR X (binaryOp op) rd) (ho : OpD X U rd od) (ha : PE X a (tE X.K U f)) (hb : PE X b (tE X.K U g)) :
    PE X (.BinOp a op b pos) (tE X.K U (eBin od f g)) := pe_weak (pe_op hr ha hb) fun _ _ _ h => op2 ho h
theorem qe_cmp {op : CmpOp} {rd : R2} {od : PyData → PyData → Option PyData} {a b : Expr} {f g : Ev} (hr : OpR X (compareOp op) rd) (ho : OpD X U rd od) (ha : PE X a (tE X.K U f)) (hb : PE X b (tE X.K U g)) (hm : behindInMarks op b = false) :
    PE X (.Compare a [op] [b] pos) (tE X.K U (eBin od f g)) := pe_weak (pe_cmpR hr ha hb hm) fun _ _ _ h => op2 ho h
end

/-! ## new objects -/
theorem same_new {F : Hp} {p : Addr} {o : HO} (h : F p = none) : Same F (upd F p o) := fun b x e => by
  rw [upd_ne (ne_of_none e h)]
  exact e
section
variable {K : PySem.W.Frag} {U : Hp} {A : List Addr} {F H : Hp} {σ : St} {r : Rs} {m : Ms} {p : Addr}
theorem Good.nope (G : Good K U A F H σ r m) (h : H p = none) : F p = none ∧ U p = none := by
  refine ⟨G.sub.free h, ?_⟩
  cases e : U p with
  | none => rfl
  | some o => rw [(G.fo p o e).1] at h; cases h
/-- an object is laid that is never changed -/
theorem Good.laid (G : Good K U A F H σ r m) {o : HO} (h : H p = none) : Good K U A (upd F p o) (upd H p o) σ r m := by
  obtain ⟨hF, hU⟩ := G.nope h
  have sF : Same F (upd F p o) := same_new hF
  refine ⟨fun b u e => ?_, fun b u e => ?_, G.len, fun i d e => ?_, G.ow, G.al, fun k a ds e1 e2 => ?_, G.nd, fun a ha => ?_⟩
  · by_cases hb : b = p
    · subst hb
      rw [upd_same] at e ⊢
      exact e
    · rw [upd_ne hb] at e ⊢
      exact G.sub b u e
  · have hb : b ≠ p := fun z => by rw [z, hU] at e; cases e
    rw [upd_ne hb, upd_ne hb]
    exact G.fo b u e
  · obtain ⟨v, h1, h2⟩ := G.fz i d e
    exact ⟨v, h1, Rpm sF h2⟩
  · obtain ⟨h1, h2, vs, h3, h4⟩ := G.cl k a ds e1 e2
    have ha : a ≠ p := fun z => by rw [z, h] at h3; cases h3
    exact ⟨by rw [upd_ne ha]; exact h1, h2, vs, by rw [upd_ne ha]; exact h3, stored_mono sF h4⟩
  · obtain ⟨o', h1⟩ := G.he a ha
    exact ⟨o', by rw [upd_ne (ne_of_none h1 h)]; exact h1⟩
end
end TL

end
/-! TL2 -/
section
set_option maxHeartbeats 4000000
namespace TL
open PySem L2
section
variable {X : Cx} {U : Hp}
theorem opr_or {f : Value → Value → Sem Value} {r r' : R2} (h : OpR X f r) (h' : OpR X f r') : OpR X f (fun x y H Q => r x y H Q ∨ r' x y H Q) := by
  intro pins s σ H x y v u Q I rx ry q
  rcases q with q | q
  · exact h pins s σ H x y v u Q I rx ry q
  · exact h' pins s σ H x y v u Q I rx ry q
/-- list + list -/
def rCatR (K : PySem.W.Frag) : R2 := fun x y H Q => ∃ l b xs zs, x = .ref l ∧ y = .ref b ∧ SqL K H l xs ∧ SqL K H b zs ∧ xs.length + zs.length ≤ sizeLine ∧ ∀ p, H p = none → Q (.ref p) (upd H p (.lst (xs ++ zs)))
theorem op_catR : OpR X (binaryOp .Add) (rCatR X.K) := by
  intro pins s σ H x y v u Q I rx ry ⟨l, b, xs, zs, e1, e2, hl, hb, hz, q⟩
  subst e1 e2
  cases (show v = Value.ref l from rx)
  cases (show u = Value.ref b from ry)
  obtain ⟨i1, r1, p1, z1⟩ := I.list hl
  obtain ⟨i2, r2, p2, z2⟩ := I.list hb
  have w1 := r1.length
  have w2 := r2.length
  obtain ⟨⟨cls, dd, data, sl⟩, ho, hc, n, hd⟩ := p1.isList
  obtain ⟨⟨cls2, dd2, data2, sl2⟩, ho2, hc2, n2, hd2⟩ := p2.isList
  simp only at hc hd hc2 hd2
  subst hc hd hc2 hd2
  have e : i1.toArray ++ i2.toArray = (i1 ++ i2).toArray := by simp
  refine concat_meets ⟨_, ho, rfl⟩ ⟨_, ho2, rfl⟩ noFill_list_add seq_list_add PySem.F.slot_list_add PySem.F.entry_list_add (PySem.F.args_list_add_2 _ _) (PyProof.Rows.list_addW l b i1.toArray i2.toArray n n2 dd dd2 sl sl2 (by simp only [List.size_toArray]; omega)) ⟨ho, ho2, ?_⟩
  rw [e]
  have hf : H s.heap.objs.size = none := I.hok.fresh (Nat.le_refl _)
  refine ⟨.ref s.heap.objs.size, upd H s.heap.objs.size (.lst (xs ++ zs)), I.laid (t' := s.toks) (fun c w g => Heap.get?_push_of_some _ g) (Nat.le_refl _) ?_, rfl, q _ hf⟩
  exact ⟨by rw [List.length_append]; omega, _, 0, r1.append r2, Heap.get?_push_size _ rfl⟩
theorem op_mulS : OpR X (binaryOp .Mult) (fun x y H Q => ∃ z n, x = .str z ∧ y = .int n ∧ MulOk z n ∧ Q (.str (Txt.mul z n)) H) := by
  intro pins s σ H x y v u Q I rx ry ⟨z, n, e1, e2, hm, q⟩
  subst e1 e2
  obtain ⟨t, rfl⟩ := rx
  obtain ⟨t', rfl⟩ := ry
  exact SB.mul hm fun t2 k => ⟨.str _, H, I.tok _, ⟨t2, rfl⟩, q⟩
end

/-! ## operators on data -/
def addD : PyData → PyData → Option PyData
  | .int i, .int j => some (.int (i + j))
  | .str a, .str b => if a.length + b.length ≤ sizeLine then some (.str (a ++ b)) else none
  | .tuple a, .tuple b => if a.length + b.length ≤ sizeLine then some (.tuple (a ++ b)) else none
  | .list a, .list b => if a.length + b.length ≤ sizeLine then some (.list (a ++ b)) else none
  | _, _ => none
def subD : PyData → PyData → Option PyData
  | .int i, .int j => some (.int (i - j))
  | _, _ => none
def mulD : PyData → PyData → Option PyData
  | .int i, .int j => if (Builtin.Int.intBits i : Int) + (Builtin.Int.intBits j : Int) ≤ 134217728 then some (.int (i * j)) else none
  | .str a, .int n => if a.length ≤ 4096 ∧ n ≤ 4096 ∧ -(2 ^ 63 : Int) ≤ n then some (.str (Txt.mul a n)) else none
  | _, _ => none
def modD : PyData → PyData → Option PyData
  | .int i, .int j => if 0 < j then some (.int (i % j)) else none
  | _, _ => none
def fdivD : PyData → PyData → Option PyData
  | .int i, .int j => if 0 < j ∧ j.natAbs.log2 < 9000 then some (.int (i / j)) else none
  | _, _ => none
def powD : PyData → PyData → Option PyData
  | .int i, .int j => if 0 ≤ j ∧ j ≤ 1000000 ∧ i.natAbs < 2 ^ 64 then some (.int (i ^ j.toNat)) else none
  | _, _ => none
def eqD (a b : PyData) : Option PyData := if SeqAt.shaped a = true ∧ SeqAt.shaped b = true then some (.bool (PyData.eqv a b)) else none
def neD (a b : PyData) : Option PyData := if SeqAt.shaped a = true ∧ SeqAt.shaped b = true then some (.bool (!PyData.eqv a b)) else none
def ltD : PyData → PyData → Option PyData
  | .int i, .int j => some (.bool (decide (i < j)))
  | _, _ => none
def leD : PyData → PyData → Option PyData
  | .int i, .int j => some (.bool (decide (i ≤ j)))
  | _, _ => none
def gtD : PyData → PyData → Option PyData
  | .int i, .int j => some (.bool (decide (j < i)))
  | _, _ => none
def geD : PyData → PyData → Option PyData
  | .int i, .int j => some (.bool (decide (j ≤ i)))
  | _, _ => none
/-- is None, is True, is False: only against such a written one -/
def isD : PyData → PyData → Option PyData
  | a, .none => some (.bool (match a with | .none => true | _ => false))
  | .bool a, .bool b => some (.bool (decide (a = b)))
  | _, _ => none
def isNotD : PyData → PyData → Option PyData
  | a, .none => some (.bool (match a with | .none => false | _ => true))
  | .bool a, .bool b => some (.bool (!decide (a = b)))
  | _, _ => none
section
variable {X : Cx} {U : Hp}
theorem od_add : OpD X U (fun x y H Q => (rI0 (fun i j => .int (i + j)) x y H Q ∨ (∃ i j, x = .str i ∧ y = .str j ∧ i.length + j.length ≤ sizeLine ∧ Q (.str (i ++ j)) H)) ∨ (rCatA X.K x y H Q ∨ rCatR X.K x y H Q)) addD := by
  intro A F H σ r m x y a b d Q G ha hb e k
  unfold addD at e
  split at e
  · cases ha; cases hb; cases e
    exact .inl (.inl ⟨_, _, rfl, rfl, k F H _ (Same.refl F) G (.vi _)⟩)
  · split at e
    · rename_i hs
      cases ha; cases hb; cases e
      exact .inl (.inr ⟨_, _, rfl, rfl, hs, k F H _ (Same.refl F) G (.vs _)⟩)
    · cases e
  · split at e
    · rename_i hs
      cases e
      cases ha with
      | vt sa ra =>
        rename_i a1 xs
        cases hb with
        | vt sb rb =>
          rename_i b1 ys
          have l1 := rpa_len ra
          have l2 := rpa_len rb
          refine .inr (.inl ⟨a1, b1, xs, ys, rfl, rfl, seqT_mono G.sub sa, seqT_mono G.sub sb, by omega, fun h0 => ?_, fun h0 h1 => ?_, fun h0 h1 p np => ?_⟩)
          · subst h0
            cases ra
            exact k F H _ (Same.refl F) G (.vt sb rb)
          · subst h1
            cases rb
            refine k F H _ (Same.refl F) G ?_
            rw [List.append_nil]
            exact .vt sa ra
          · have nF := (G.nope np).1
            have sF : Same F (upd F p (.tup (xs ++ ys))) := same_new nF
            exact k _ _ _ sF (G.laid np) (.vt (.inl (.inl upd_same)) (rpa_app (Rpam sF ra) (Rpam sF rb)))
    · cases e
  · split at e
    · rename_i hs
      cases e
      cases ha with
      | vl sa ra =>
        rename_i a1 xs
        cases hb with
        | vl sb rb =>
          rename_i b1 ys
          have l1 := rpa_len ra
          have l2 := rpa_len rb
          refine .inr (.inr ⟨a1, b1, xs, ys, rfl, rfl, sqL_mono G.sub sa, sqL_mono G.sub sb, by omega, fun p np => ?_⟩)
          have nF := (G.nope np).1
          have sF : Same F (upd F p (.lst (xs ++ ys))) := same_new nF
          exact k _ _ _ sF (G.laid np) (.vl (.inl (.inl upd_same)) (rpa_app (Rpam sF ra) (Rpam sF rb)))
    · cases e
  · cases e
theorem od_sub : OpD X U (rI0 fun i j => .int (i - j)) subD := by
  intro A F H σ r m x y a b d Q G ha hb e k
  unfold subD at e
  split at e
  · cases ha; cases hb; cases e
    exact ⟨_, _, rfl, rfl, k F H _ (Same.refl F) G (.vi _)⟩
  · cases e
theorem od_mul : OpD X U (fun x y H Q => rI CMulX (fun i j => .int (i * j)) x y H Q ∨ ∃ z n, x = .str z ∧ y = .int n ∧ MulOk z n ∧ Q (.str (Txt.mul z n)) H) mulD := by
  intro A F H σ r m x y a b d Q G ha hb e k
  unfold mulD at e
  split at e
  · split at e
    · rename_i hc
      cases ha; cases hb; cases e
      exact .inl ⟨_, _, rfl, rfl, hc, k F H _ (Same.refl F) G (.vi _)⟩
    · cases e
  · split at e
    · rename_i hc
      cases ha; cases hb; cases e
      exact .inr ⟨_, _, rfl, rfl, PyProof.Rows.mulOk_of 4096 4096 hc.1 hc.2.1 hc.2.2 (by decide) (by decide), k F H _ (Same.refl F) G (.vs _)⟩
    · cases e
  · cases e
theorem od_mod : OpD X U (rI (fun _ j => 0 < j) fun i j => .int (i % j)) modD := by
  intro A F H σ r m x y a b d Q G ha hb e k
  unfold modD at e
  split at e
  · split at e
    · rename_i hc
      cases ha; cases hb; cases e
      exact ⟨_, _, rfl, rfl, hc, k F H _ (Same.refl F) G (.vi _)⟩
    · cases e
  · cases e
theorem od_fdiv : OpD X U (rI CDivW fun i j => .int (i / j)) fdivD := by
  intro A F H σ r m x y a b d Q G ha hb e k
  unfold fdivD at e
  split at e
  · split at e
    · rename_i hc
      cases ha; cases hb; cases e
      exact ⟨_, _, rfl, rfl, hc, k F H _ (Same.refl F) G (.vi _)⟩
    · cases e
  · cases e
theorem od_pow : OpD X U (rI CPow fun i j => .int (i ^ j.toNat)) powD := by
  intro A F H σ r m x y a b d Q G ha hb e k
  unfold powD at e
  split at e
  · split at e
    · rename_i hc
      cases ha; cases hb; cases e
      exact ⟨_, _, rfl, rfl, hc, k F H _ (Same.refl F) G (.vi _)⟩
    · cases e
  · cases e
theorem od_lt : OpD X U (rI0 fun i j => .bl (decide (i < j))) ltD := by
  intro A F H σ r m x y a b d Q G ha hb e k
  unfold ltD at e
  split at e
  · cases ha; cases hb; cases e
    exact ⟨_, _, rfl, rfl, k F H _ (Same.refl F) G (.vb _)⟩
  · cases e
theorem od_le : OpD X U (rI0 fun i j => .bl (decide (i ≤ j))) leD := by
  intro A F H σ r m x y a b d Q G ha hb e k
  unfold leD at e
  split at e
  · cases ha; cases hb; cases e
    exact ⟨_, _, rfl, rfl, k F H _ (Same.refl F) G (.vb _)⟩
  · cases e
theorem od_gt : OpD X U (rI0 fun i j => .bl (decide (j < i))) gtD := by
  intro A F H σ r m x y a b d Q G ha hb e k
  unfold gtD at e
  split at e
  · cases ha; cases hb; cases e
    exact ⟨_, _, rfl, rfl, k F H _ (Same.refl F) G (.vb _)⟩
  · cases e
theorem od_ge : OpD X U (rI0 fun i j => .bl (decide (j ≤ i))) geD := by
  intro A F H σ r m x y a b d Q G ha hb e k
  unfold geD at e
  split at e
  · cases ha; cases hb; cases e
    exact ⟨_, _, rfl, rfl, k F H _ (Same.refl F) G (.vb _)⟩
  · cases e
theorem od_eq : OpD X U (rEqD X.K) eqD := by
  intro A F H σ r m x y a b d Q G ha hb e k
  unfold eqD at e
  split at e
  · rename_i hs
    cases e
    exact ⟨a, b, rp_dp G.sub _ _ (SeqAt.canLay_of_shaped hs.1) ha, rp_dp G.sub _ _ (SeqAt.canLay_of_shaped hs.2) hb, hs.1, hs.2, k F H _ (Same.refl F) G (.vb _)⟩
  · cases e
theorem od_ne : OpD X U (rNeD X.K) neD := by
  intro A F H σ r m x y a b d Q G ha hb e k
  unfold neD at e
  split at e
  · rename_i hs
    cases e
    exact ⟨a, b, rp_dp G.sub _ _ (SeqAt.canLay_of_shaped hs.1) ha, rp_dp G.sub _ _ (SeqAt.canLay_of_shaped hs.2) hb, hs.1, hs.2, k F H _ (Same.refl F) G (.vb _)⟩
  · cases e
theorem od_is : OpD X U (fun x y H Q => (y = .non ∧ Q (.bl (decide (x = .non))) H) ∨ rIsB x y H Q) isD := by
  intro A F H σ r m x y a b d Q G ha hb e k
  unfold isD at e
  split at e
  · cases hb
    refine .inl ⟨rfl, ?_⟩
    have w := k F H (V.bl (decide (x = V.non))) (Same.refl F) G
    cases e
    cases ha <;> exact w (.vb _)
  · cases ha; cases hb; cases e
    exact .inr ⟨_, _, rfl, rfl, k F H _ (Same.refl F) G (.vb _)⟩
  · cases e
theorem od_isNot : OpD X U (fun x y H Q => (y = .non ∧ Q (.bl (!decide (x = .non))) H) ∨ rNotB x y H Q) isNotD := by
  intro A F H σ r m x y a b d Q G ha hb e k
  unfold isNotD at e
  split at e
  · cases hb
    refine .inl ⟨rfl, ?_⟩
    have w := k F H (V.bl (!decide (x = V.non))) (Same.refl F) G
    cases e
    cases ha <;> exact w (.vb _)
  · cases ha; cases hb; cases e
    exact .inr ⟨_, _, rfl, rfl, k F H _ (Same.refl F) G (.vb _)⟩
  · cases e

variable {pos : Pos} {a b : Expr} {f g : Ev}
theorem qe_add (ha : PE X a (tE X.K U f)) (hb : PE X b (tE X.K U g)) : PE X (.BinOp a .Add b pos) (tE X.K U (eBin addD f g)) := qe_op (opr_or (opr_or op_add op_add_str) (opr_or op_catA op_catR)) od_add ha hb
theorem qe_sub (ha : PE X a (tE X.K U f)) (hb : PE X b (tE X.K U g)) : PE X (.BinOp a .Sub b pos) (tE X.K U (eBin subD f g)) := qe_op op_sub od_sub ha hb
theorem qe_mul (ha : PE X a (tE X.K U f)) (hb : PE X b (tE X.K U g)) : PE X (.BinOp a .Mult b pos) (tE X.K U (eBin mulD f g)) := qe_op (opr_or op_mulX op_mulS) od_mul ha hb
theorem qe_mod (ha : PE X a (tE X.K U f)) (hb : PE X b (tE X.K U g)) : PE X (.BinOp a .Mod b pos) (tE X.K U (eBin modD f g)) := qe_op op_mod od_mod ha hb
theorem qe_fdiv (ha : PE X a (tE X.K U f)) (hb : PE X b (tE X.K U g)) : PE X (.BinOp a .FloorDiv b pos) (tE X.K U (eBin fdivD f g)) := qe_op op_fdivW od_fdiv ha hb
theorem qe_pow (ha : PE X a (tE X.K U f)) (hb : PE X b (tE X.K U g)) : PE X (.BinOp a .Pow b pos) (tE X.K U (eBin powD f g)) := qe_op op_pow od_pow ha hb
theorem qe_lt (ha : PE X a (tE X.K U f)) (hb : PE X b (tE X.K U g)) (hm : behindInMarks .Lt b = false := by rfl) : PE X (.Compare a [.Lt] [b] pos) (tE X.K U (eBin ltD f g)) := qe_cmp op_lt od_lt ha hb hm
theorem qe_le (ha : PE X a (tE X.K U f)) (hb : PE X b (tE X.K U g)) (hm : behindInMarks .LtE b = false := by rfl) : PE X (.Compare a [.LtE] [b] pos) (tE X.K U (eBin leD f g)) := qe_cmp op_le od_le ha hb hm
theorem qe_gt (ha : PE X a (tE X.K U f)) (hb : PE X b (tE X.K U g)) (hm : behindInMarks .Gt b = false := by rfl) : PE X (.Compare a [.Gt] [b] pos) (tE X.K U (eBin gtD f g)) := qe_cmp op_gt od_gt ha hb hm
theorem qe_ge (ha : PE X a (tE X.K U f)) (hb : PE X b (tE X.K U g)) (hm : behindInMarks .GtE b = false := by rfl) : PE X (.Compare a [.GtE] [b] pos) (tE X.K U (eBin geD f g)) := qe_cmp op_ge od_ge ha hb hm
theorem qe_eq (hu : X.A.units + 64 < cLine) (ha : PE X a (tE X.K U f)) (hb : PE X b (tE X.K U g)) (hm : behindInMarks .Eq b = false := by rfl) : PE X (.Compare a [.Eq] [b] pos) (tE X.K U (eBin eqD f g)) := qe_cmp (op_eqD hu) od_eq ha hb hm
theorem qe_ne (hu : X.A.units + 64 < cLine) (ha : PE X a (tE X.K U f)) (hb : PE X b (tE X.K U g)) (hm : behindInMarks .NotEq b = false := by rfl) : PE X (.Compare a [.NotEq] [b] pos) (tE X.K U (eBin neD f g)) := qe_cmp (op_neD hu) od_ne ha hb hm
theorem qe_is (ha : PE X a (tE X.K U f)) (hb : PE X b (tE X.K U g)) (hm : behindInMarks .Is b = false := by rfl) : PE X (.Compare a [.Is] [b] pos) (tE X.K U (eBin isD f g)) := qe_cmp (opr_or op_isN op_isBl) od_is ha hb hm
theorem qe_isNot (ha : PE X a (tE X.K U f)) (hb : PE X b (tE X.K U g)) (hm : behindInMarks .IsNot b = false := by rfl) : PE X (.Compare a [.IsNot] [b] pos) (tE X.K U (eBin isNotD f g)) := qe_cmp (opr_or op_notN op_notBl) od_isNot ha hb hm
end
end TL

end
/-! TL3 -/
section
set_option maxHeartbeats 4000000
namespace TL
open PySem L2

/-! ## argument lists, displays -/
abbrev Eas := Rs → Ms → Option (List PyData × Ms)
def tAs (K : PySem.W.Frag) (U : Hp) (f : Eas) : TA := fun σ H Q => ∃ (A : List Addr) (F : Hp) (r : Rs) (m : Ms) (ds : List PyData) (m' : Ms), Good K U A F H σ r m ∧ f r m = some (ds, m') ∧
  ∀ (F' H' : Hp) (vs : List V), Same F F' → Good K U A F' H' σ r m' → RpAll K F' vs ds → Q vs H'
def eNil : Eas := fun _ m => some ([], m)
def eCons (f : Ev) (g : Eas) : Eas := fun r m => (f r m).bind fun p => (g r p.2).map fun q => (p.1 :: q.1, q.2)
def eTup (f : Eas) : Ev := fun r m => (f r m).bind fun p => if p.1.length ≤ sizeLine then some (.tuple p.1, p.2) else none
def eLst (f : Eas) : Ev := fun r m => (f r m).bind fun p => if p.1.length ≤ sizeLine then some (.list p.1, p.2) else none
theorem cons_some {f : Ev} {g : Eas} {r : Rs} {m m' : Ms} {ds : List PyData} (e : eCons f g r m = some (ds, m')) : ∃ d1 m1 es, f r m = some (d1, m1) ∧ g r m1 = some (es, m') ∧ ds = d1 :: es := by
  unfold eCons at e
  cases e1 : f r m with
  | none => rw [e1] at e; cases e
  | some p =>
    obtain ⟨d1, m1⟩ := p
    cases e2 : g r m1 with
    | none => simp [e1, e2] at e
    | some q =>
      obtain ⟨es, m2⟩ := q
      simp [e1, e2] at e
      obtain ⟨z1, z2⟩ := e
      subst z1 z2
      exact ⟨d1, m1, es, rfl, e2, rfl⟩
/-- the value of f, turned by h -/
def eMap {α : Type} (f : Rs → Ms → Option (α × Ms)) (h : α → Option PyData) : Ev := fun r m => (f r m).bind fun p => (h p.1).map fun d => (d, p.2)
theorem map_some {α : Type} {f : Rs → Ms → Option (α × Ms)} {h : α → Option PyData} {r : Rs} {m m' : Ms} {d : PyData} (e : eMap f h r m = some (d, m')) : ∃ a, f r m = some (a, m') ∧ h a = some d := by
  unfold eMap at e
  cases e1 : f r m with
  | none => rw [e1] at e; cases e
  | some p =>
    obtain ⟨d1, m1⟩ := p
    simp [e1] at e
    obtain ⟨d2, e2, z1, z2⟩ := e
    subst z1 z2
    exact ⟨d1, rfl, e2⟩
section
variable {X : Cx} {U : Hp} {pos : Pos}
theorem qa_nil : PA X [] (tAs X.K U eNil) := pa_weak pa_nil fun σ H Q ⟨A, F, r, m, ds, m', G, e, k⟩ => by
  cases e
  exact k F H [] (Same.refl F) G .nil
theorem qa_cons {e : Expr} {es : List Expr} {f : Ev} {g : Eas} (ha : PE X e (tE X.K U f)) (hr : PA X es (tAs X.K U g)) (hs : starEach (e :: es) X.env = (false, eval e X.env) :: starEach es X.env := by rfl) :
    PA X (e :: es) (tAs X.K U (eCons f g)) := pa_weak (pa_cons ha hr hs) fun σ H Q ⟨A, F, r, m, ds, m', G, e, k⟩ => by
  obtain ⟨d1, m1, es, e1, e2, z⟩ := cons_some e
  subst z
  exact ⟨A, F, r, m, d1, m1, G, e1, fun F1 H1 x s1 G1 h1 => ⟨A, F1, r, m1, es, m', G1, e2, fun F2 H2 xs s2 G2 h2 => k F2 H2 _ (s1.trans s2) G2 (.cons (Rpm s2 h1) h2)⟩⟩
theorem qe_tup {es : List Expr} {f : Eas} {x1} (h : PA X es (tAs X.K U f)) : PE X (.Tuple es x1 pos) (tE X.K U (eTup f)) := pe_weak (pe_tup h) fun σ H Q ⟨A, F, r, m, d, m', G, e, k⟩ => by
  unfold eTup at e
  cases e1 : f r m with
  | none => rw [e1] at e; cases e
  | some p =>
    obtain ⟨ds, m1⟩ := p
    simp [e1] at e
    obtain ⟨hz, z1, z2⟩ := e
    subst z1 z2
    refine ⟨A, F, r, m, ds, m1, G, e1, fun F1 H1 xs s1 G1 h1 => ⟨by rw [rpa_len h1]; exact hz, fun p np => ?_⟩⟩
    have sF : Same F1 (upd F1 p (.tup xs)) := same_new (G1.nope np).1
    exact k _ _ _ (s1.trans sF) (G1.laid np) (.vt (.inl (.inl upd_same)) (Rpam sF h1))
theorem qe_lst {es : List Expr} {f : Eas} (h : PA X es (tAs X.K U f)) : PE X (.List es pos) (tE X.K U (eLst f)) := pe_weak (pe_lst h) fun σ H Q ⟨A, F, r, m, d, m', G, e, k⟩ => by
  unfold eLst at e
  cases e1 : f r m with
  | none => rw [e1] at e; cases e
  | some p =>
    obtain ⟨ds, m1⟩ := p
    simp [e1] at e
    obtain ⟨hz, z1, z2⟩ := e
    subst z1 z2
    refine ⟨A, F, r, m, ds, m1, G, e1, fun F1 H1 xs s1 G1 h1 => ⟨by rw [rpa_len h1]; exact hz, fun p np => ?_⟩⟩
    have sF : Same F1 (upd F1 p (.lst xs)) := same_new (G1.nope np).1
    exact k _ _ _ (s1.trans sF) (G1.laid np) (.vl (.inl (.inl upd_same)) (Rpam sF h1))

/-! ## tests -/
end
abbrev Et := Rs → Ms → Option (Bool × Ms)
def tT (K : PySem.W.Frag) (U : Hp) (f : Et) : TT := fun σ H Q => ∃ (A : List Addr) (F : Hp) (r : Rs) (m : Ms) (b : Bool) (m' : Ms), Good K U A F H σ r m ∧ f r m = some (b, m') ∧
  ∀ (F' H' : Hp), Same F F' → Good K U A F' H' σ r m' → Q b H'
def truD : PyData → Option Bool
  | .none => some false
  | .bool b => some b
  | .int i => some (i != 0)
  | .str y => if y.length ≤ sizeLine then some ((y.length : Int) != 0) else none
  | .list ds => some (!ds.isEmpty)
  | .tuple ds => some (!ds.isEmpty)
  | .dict _ => none
def blD : PyData → Option Bool
  | .bool b => some b
  | _ => none
def eT (c : PyData → Option Bool) (f : Ev) : Et := fun r m => (f r m).bind fun p => (c p.1).map fun b => (b, p.2)
def eNot (f : Et) : Et := fun r m => (f r m).map fun p => (!p.1, p.2)
def eAnd (f g : Et) : Et := fun r m => (f r m).bind fun p => if p.1 = true then g r p.2 else some (false, p.2)
def eOr (f g : Et) : Et := fun r m => (f r m).bind fun p => if p.1 = true then some (true, p.2) else g r p.2
def eB (f : Et) : Ev := fun r m => (f r m).map fun p => (.bool p.1, p.2)
def eIf (c : Et) (f g : Ev) : Ev := fun r m => (c r m).bind fun p => if p.1 = true then f r p.2 else g r p.2
def eAndV (f g : Ev) : Ev := fun r m => (f r m).bind fun p => match p.1 with | .bool true => g r p.2 | .bool false => some (.bool false, p.2) | _ => none
def eOrV (f g : Ev) : Ev := fun r m => (f r m).bind fun p => match p.1 with | .bool true => some (.bool true, p.2) | .bool false => g r p.2 | _ => none
def notD : PyData → Option PyData
  | .bool b => some (.bool (!b))
  | _ => none
theorem et_some {c : PyData → Option Bool} {f : Ev} {r : Rs} {m m' : Ms} {b : Bool} (e : eT c f r m = some (b, m')) : ∃ d, f r m = some (d, m') ∧ c d = some b := by
  unfold eT at e
  cases e1 : f r m with
  | none => rw [e1] at e; cases e
  | some p =>
    obtain ⟨d1, m1⟩ := p
    rw [e1] at e
    cases e2 : c d1 with
    | none => simp [e2] at e
    | some b2 =>
      simp [e2] at e
      obtain ⟨z1, z2⟩ := e
      subst z1 z2
      exact ⟨d1, rfl, e2⟩
theorem rpa_empty {K : PySem.W.Frag} {F : Hp} {vs : List V} {ds : List PyData} (h : RpAll K F vs ds) : ds.isEmpty = vs.isEmpty := by cases h <;> rfl
theorem tru_of {K : PySem.W.Frag} {F H : Hp} {x : V} {d : PyData} {b : Bool} (s : Same F H) (h : Rp K F x d) (e : truD d = some b) : TruV K x H b := by
  cases h with
  | vn => cases e; rfl
  | vb => cases e; rfl
  | vi => cases e; rfl
  | vs y =>
    simp only [truD] at e
    split at e
    · rename_i hz
      cases e
      exact ⟨hz, rfl⟩
    · cases e
  | vl hs ha => cases e; exact .inl ⟨_, sqL_mono s hs, by rw [rpa_empty ha]⟩
  | vt hs ha => cases e; exact .inr (.inl ⟨_, seqT_mono s hs, by rw [rpa_empty ha]⟩)
  | vd hs ha => cases e
theorem bl_of {K : PySem.W.Frag} {F : Hp} {x : V} {d : PyData} {b : Bool} (h : Rp K F x d) (e : blD d = some b) : x = .bl b := by
  cases h <;> first | (cases e; rfl) | cases e
section
variable {X : Cx} {U : Hp} {pos : Pos} {a b c : Expr} {f g : Ev} {p q : Et} {rest : List Expr}
theorem qt_tru (ha : PE X a (tE X.K U f)) (he : ∀ whole, isTrue a X.env whole = (do let v ← whole; standAt a.pos; holding [v] (truthy v)) := by intro _; rfl) : PT X a (tT X.K U (eT truD f)) :=
  pt_weak (pt_truth ha he) fun σ H Q ⟨A, F, r, m, bb, m', G, e, k⟩ => by
    obtain ⟨d, e1, e2⟩ := et_some e
    exact ⟨A, F, r, m, d, m', G, e1, fun F1 H1 x s1 G1 h1 => ⟨bb, tru_of G1.sub h1 e2, k F1 H1 s1 G1⟩⟩
/-- a comparison as a test -/
theorem qt_cmp {op : CmpOp} {rd : R2} {od : PyData → PyData → Option PyData} (hr : OpR X (compareOp op) rd) (ho : OpD X U rd od) (ha : PE X a (tE X.K U f)) (hb : PE X b (tE X.K U g)) (hm : behindInMarks op b = false) :
    PT X (.Compare a [op] [b] pos) (tT X.K U (eT blD (eBin od f g))) := pt_weak (pt_cmpR hr ha hb hm) fun σ H Q ⟨A, F, r, m, bb, m', G, e, k⟩ => by
  obtain ⟨d, e1, e2⟩ := et_some e
  exact op2 ho ⟨A, F, r, m, d, m', G, e1, fun F1 H1 x s1 G1 h1 => ⟨bb, bl_of h1 e2, k F1 H1 s1 G1⟩⟩
theorem qt_not (ha : PT X a (tT X.K U p)) : PT X (.UnaryOp .Not a pos) (tT X.K U (eNot p)) := pt_weak (pt_not ha) fun σ H Q ⟨A, F, r, m, bb, m', G, e, k⟩ => by
  unfold eNot at e
  cases e1 : p r m with
  | none => rw [e1] at e; cases e
  | some z =>
    rw [e1] at e
    cases e
    exact ⟨A, F, r, m, z.1, z.2, G, e1, fun F1 H1 s1 G1 => k F1 H1 s1 G1⟩
theorem and_some (p q : Et) {r : Rs} {m m' : Ms} {bb : Bool} (e : eAnd p q r m = some (bb, m')) : (∃ m1, p r m = some (true, m1) ∧ q r m1 = some (bb, m')) ∨ (p r m = some (false, m') ∧ bb = false) := by
  unfold eAnd at e
  cases e1 : p r m with
  | none => rw [e1] at e; cases e
  | some z =>
    obtain ⟨b1, m1⟩ := z
    rw [e1] at e
    cases b1 with
    | true => exact .inl ⟨m1, rfl, e⟩
    | false => cases e; exact .inr ⟨rfl, rfl⟩
theorem or_some (p q : Et) {r : Rs} {m m' : Ms} {bb : Bool} (e : eOr p q r m = some (bb, m')) : (∃ m1, p r m = some (false, m1) ∧ q r m1 = some (bb, m')) ∨ (p r m = some (true, m') ∧ bb = true) := by
  unfold eOr at e
  cases e1 : p r m with
  | none => rw [e1] at e; cases e
  | some z =>
    obtain ⟨b1, m1⟩ := z
    rw [e1] at e
    cases b1 with
    | false => exact .inl ⟨m1, rfl, e⟩
    | true => cases e; exact .inr ⟨rfl, rfl⟩
theorem qw_and1 (ha : PT X a (tT X.K U p)) : PW X (.BoolOp .And [a] pos) (tT X.K U p) := pw_and1 ha
theorem qw_or1 (ha : PT X a (tT X.K U p)) : PW X (.BoolOp .Or [a] pos) (tT X.K U p) := pw_or1 ha
theorem pw_weak {e : Expr} {t t' : TT} (h : PW X e t) (w : ∀ σ H Q, t' σ H Q → t σ H Q) : PW X e t' := ⟨fun wh pins s σ H Q I q => h.run wh pins s σ H Q I (w σ H Q q)⟩
theorem qw_and (ha : PT X a (tT X.K U p)) (hb : PW X (.BoolOp .And (b :: rest) pos) (tT X.K U q)) : PW X (.BoolOp .And (a :: b :: rest) pos) (tT X.K U (eAnd p q)) := pw_weak (pw_and ha hb) fun σ H Q ⟨A, F, r, m, bb, m', G, e, k⟩ => by
  rcases and_some p q e with ⟨m1, e1, e2⟩ | ⟨e1, z⟩
  · refine ⟨A, F, r, m, true, m1, G, e1, fun F1 H1 s1 G1 => ?_⟩
    refine iteT ?_
    exact ⟨A, F1, r, m1, bb, m', G1, e2, fun F2 H2 s2 G2 => k F2 H2 (s1.trans s2) G2⟩
  · subst z
    refine ⟨A, F, r, m, false, m', G, e1, fun F1 H1 s1 G1 => ?_⟩
    refine iteF ?_
    exact k F1 H1 s1 G1
theorem qw_or (ha : PT X a (tT X.K U p)) (hb : PW X (.BoolOp .Or (b :: rest) pos) (tT X.K U q)) : PW X (.BoolOp .Or (a :: b :: rest) pos) (tT X.K U (eOr p q)) := pw_weak (pw_or ha hb) fun σ H Q ⟨A, F, r, m, bb, m', G, e, k⟩ => by
  rcases or_some p q e with ⟨m1, e1, e2⟩ | ⟨e1, z⟩
  · refine ⟨A, F, r, m, false, m1, G, e1, fun F1 H1 s1 G1 => ?_⟩
    refine iteF ?_
    exact ⟨A, F1, r, m1, bb, m', G1, e2, fun F2 H2 s2 G2 => k F2 H2 (s1.trans s2) G2⟩
  · subst z
    refine ⟨A, F, r, m, true, m', G, e1, fun F1 H1 s1 G1 => ?_⟩
    refine iteT ?_
    exact k F1 H1 s1 G1
theorem qe_one {op} (h : PE X a (tE X.K U f)) : PE X (.BoolOp op [a] pos) (tE X.K U f) := pe_one h
theorem qe_and (ha : PE X a (tE X.K U f)) (hb : PE X (.BoolOp .And (b :: rest) pos) (tE X.K U g)) : PE X (.BoolOp .And (a :: b :: rest) pos) (tE X.K U (eAndV f g)) := pe_weak (pe_and ha hb) fun σ H Q ⟨A, F, r, m, d, m', G, e, k⟩ => by
  unfold eAndV at e
  cases e1 : f r m with
  | none => rw [e1] at e; cases e
  | some z =>
    obtain ⟨d1, m1⟩ := z
    rw [e1] at e
    refine ⟨A, F, r, m, d1, m1, G, e1, fun F1 H1 x s1 G1 h1 => ?_⟩
    cases h1 with
    | vb bb =>
      refine ⟨bb, rfl, ?_⟩
      cases bb with
      | true =>
        refine iteT ?_
        exact ⟨A, F1, r, m1, d, m', G1, e, fun F2 H2 v s2 G2 h2 => k F2 H2 v (s1.trans s2) G2 h2⟩
      | false =>
        refine iteF ?_
        cases e
        exact k F1 H1 _ s1 G1 (.vb false)
    | _ => cases e
theorem qe_or (ha : PE X a (tE X.K U f)) (hb : PE X (.BoolOp .Or (b :: rest) pos) (tE X.K U g)) : PE X (.BoolOp .Or (a :: b :: rest) pos) (tE X.K U (eOrV f g)) := pe_weak (pe_or ha hb) fun σ H Q ⟨A, F, r, m, d, m', G, e, k⟩ => by
  unfold eOrV at e
  cases e1 : f r m with
  | none => rw [e1] at e; cases e
  | some z =>
    obtain ⟨d1, m1⟩ := z
    rw [e1] at e
    refine ⟨A, F, r, m, d1, m1, G, e1, fun F1 H1 x s1 G1 h1 => ?_⟩
    cases h1 with
    | vb bb =>
      refine ⟨bb, rfl, ?_⟩
      cases bb with
      | false =>
        refine iteF ?_
        exact ⟨A, F1, r, m1, d, m', G1, e, fun F2 H2 v s2 G2 h2 => k F2 H2 v (s1.trans s2) G2 h2⟩
      | true =>
        refine iteT ?_
        cases e
        exact k F1 H1 _ s1 G1 (.vb true)
    | _ => cases e
theorem qe_not (ha : PE X a (tE X.K U f)) : PE X (.UnaryOp .Not a pos) (tE X.K U (eMap f notD)) := pe_weak (pe_not ha) fun σ H Q ⟨A, F, r, m, d, m', G, e, k⟩ => by
  obtain ⟨d1, e1, e2⟩ := map_some e
  refine ⟨A, F, r, m, d1, m', G, e1, fun F1 H1 x s1 G1 h1 => ?_⟩
  cases h1 with
  | vb bb => cases e2; exact ⟨bb, rfl, k F1 H1 _ s1 G1 (.vb _)⟩
  | _ => cases e2
theorem qe_if (hc : PT X c (tT X.K U p)) (ha : PE X a (tE X.K U f)) (hb : PE X b (tE X.K U g)) : PE X (.IfExp c a b pos) (tE X.K U (eIf p f g)) := pe_weak (pe_ifExp hc ha hb) fun σ H Q ⟨A, F, r, m, d, m', G, e, k⟩ => by
  unfold eIf at e
  cases e1 : p r m with
  | none => rw [e1] at e; cases e
  | some z =>
    obtain ⟨b1, m1⟩ := z
    rw [e1] at e
    refine ⟨A, F, r, m, b1, m1, G, e1, fun F1 H1 s1 G1 => ?_⟩
    cases b1 with
    | true =>
      refine iteT ?_
      exact ⟨A, F1, r, m1, d, m', G1, e, fun F2 H2 v s2 G2 h2 => k F2 H2 v (s1.trans s2) G2 h2⟩
    | false =>
      refine iteF ?_
      exact ⟨A, F1, r, m1, d, m', G1, e, fun F2 H2 v s2 G2 h2 => k F2 H2 v (s1.trans s2) G2 h2⟩
/-- -e -/
def negD : PyData → Option PyData
  | .int i => some (.int (-i))
  | _ => none
theorem qe_neg (ha : PE X a (tE X.K U f)) : PE X (.UnaryOp .USub a pos) (tE X.K U (eMap f negD)) := pe_weak (pe_un un_neg ha) fun σ H Q ⟨A, F, r, m, d, m', G, e, k⟩ => by
  obtain ⟨d1, e1, e2⟩ := map_some e
  refine ⟨A, F, r, m, d1, m', G, e1, fun F1 H1 x s1 G1 h1 => ?_⟩
  cases h1 with
  | vi i => cases e2; exact ⟨i, rfl, k F1 H1 _ s1 G1 (.vi _)⟩
  | _ => cases e2
end
end TL

end
/-! TL4 -/
section
set_option maxHeartbeats 4000000
namespace TL
open PySem L2

/-! ## in, not in -/
def flatD : PyData → Bool
  | .none => true
  | .bool _ => true
  | .int _ => true
  | .str _ => true
  | _ => false
def inB : PyData → PyData → Option Bool
  | .str x, .str y => match x.cps.toList with
    | [c] => some (decide (c ∈ y.cps.toList))
    | _ => some (!(Builtin.Str.occurrences y x 0 y.length 1).isEmpty)
  | d, .list ds => if SeqAt.shaped d = true ∧ SeqAt.shaped (.list ds) = true then some (ds.any fun z => PyData.eqv z d) else none
  | d, .tuple ds => if flatD d = true ∧ ds.all flatD = true then some (ds.any fun z => PyData.eqv z d) else none
  | _, _ => none
def inD (a b : PyData) : Option PyData := (inB a b).map .bool
def notInD (a b : PyData) : Option PyData := (inB a b).map fun c => .bool (!c)
theorem flat_of {K : PySem.W.Frag} {F : Hp} {x : V} {d : PyData} (h : Rp K F x d) (e : flatD d = true) : flatV x = true := by
  cases h <;> first | rfl | cases e
theorem flats_of {K : PySem.W.Frag} {F : Hp} : ∀ {vs : List V} {ds : List PyData}, RpAll K F vs ds → ds.all flatD = true → vs.all flatV = true
  | _, _, .nil, _ => rfl
  | _, _, .cons h t, e => by
    simp only [List.all_cons, Bool.and_eq_true] at e ⊢
    exact ⟨flat_of h e.1, flats_of t e.2⟩
theorem eq_flat {K : PySem.W.Frag} {F F' : Hp} {x y : V} {d e : PyData} (h : Rp K F x d) (h' : Rp K F' y e) (fd : flatD d = true) (fe : flatD e = true) : eqV y x = PyData.eqv e d := by
  cases h <;> cases h' <;> first | rfl | cases fd | cases fe
theorem in_flat {K : PySem.W.Frag} {F F' : Hp} {x : V} {d : PyData} (h : Rp K F x d) (fd : flatD d = true) : ∀ {vs : List V} {ds : List PyData}, RpAll K F' vs ds → ds.all flatD = true → inV x vs = ds.any fun z => PyData.eqv z d
  | _, _, .nil, _ => rfl
  | v :: vs, z :: ds, .cons h' t, e => by
    simp only [List.all_cons, Bool.and_eq_true] at e
    have r := in_flat h fd t e.2
    unfold inV at r ⊢
    rw [List.any_cons, List.any_cons, r, eq_flat h h' fd e.1]
theorem one_cps {x : Str} {c : Nat} (h : x.cps.toList = [c]) : x = ⟨#[c]⟩ := by
  obtain ⟨a⟩ := x
  have : a = #[c] := by
    apply Array.ext'
    simpa using h
  rw [this]
abbrev rInAll (K : PySem.W.Frag) (neg : Bool) : R2 := fun x y H Q =>
  (((∃ (c : Nat) (z : Str), x = .str ⟨#[c]⟩ ∧ y = .str z ∧ Q (.bl (if neg then !decide (c ∈ z.cps.toList) else decide (c ∈ z.cps.toList))) H) ∨
    (∃ i j, x = .str i ∧ y = .str j ∧ Q (.bl (if neg then !(!(Builtin.Str.occurrences j i 0 j.length 1).isEmpty) else !(Builtin.Str.occurrences j i 0 j.length 1).isEmpty)) H)) ∨
   (∃ d ds, Dp K H x d ∧ Dp K H y (.list ds) ∧ SeqAt.shaped d = true ∧ SeqAt.shaped (.list ds) = true ∧ Q (.bl (if neg then !ds.any fun z => PyData.eqv z d else ds.any fun z => PyData.eqv z d)) H)) ∨ rIn K neg x y H Q
section
variable {X : Cx} {U : Hp}
theorem or_inAll (hu : X.A.units + 65 < cLine) : OpR X (compareOp .In) (rInAll X.K false) := opr_or (opr_or (opr_or op_in_sign op_in_str) (op_inD hu)) op_in_seq
theorem or_notInAll (hu : X.A.units + 65 < cLine) : OpR X (compareOp .NotIn) (rInAll X.K true) := opr_or (opr_or (opr_or op_notIn_sign op_notin_str) (op_notInD hu)) op_notIn_seq
theorem od_inAll (neg : Bool) : OpD X U (rInAll X.K neg) (fun a b => (inB a b).map fun c => .bool (if neg then !c else c)) := by
  intro A F H σ r m x y a b d Q G ha hb e k
  simp only at e
  cases e0 : inB a b with
  | none => rw [e0] at e; cases e
  | some c0 =>
    rw [e0] at e
    cases e
    unfold inB at e0
    split at e0
    · rename_i x y
      cases ha; cases hb
      split at e0
      · rename_i c hc
        cases e0
        rw [one_cps hc]
        exact .inl (.inl (.inl ⟨c, _, rfl, rfl, k F H _ (Same.refl F) G (.vb _)⟩))
      · cases e0
        exact .inl (.inl (.inr ⟨_, _, rfl, rfl, k F H _ (Same.refl F) G (.vb _)⟩))
    · split at e0
      · rename_i hs
        cases e0
        exact .inl (.inr ⟨_, _, rp_dp G.sub _ _ (SeqAt.canLay_of_shaped hs.1) ha, rp_dp G.sub _ _ (SeqAt.canLay_of_shaped hs.2) hb, hs.1, hs.2, k F H _ (Same.refl F) G (.vb _)⟩)
      · cases e0
    · split at e0
      · rename_i hs
        cases e0
        cases hb with
        | vt sb rb =>
          refine .inr ⟨_, _, rfl, .inr (seqT_mono G.sub sb), flat_of ha hs.1, flats_of rb hs.2, ?_⟩
          rw [in_flat ha hs.1 rb hs.2]
          exact k F H _ (Same.refl F) G (.vb _)
      · cases e0
    · cases e0
theorem od_in : OpD X U (rInAll X.K false) inD := by
  intro A F H σ r m x y a b d Q G ha hb e k
  exact od_inAll (X := X) (U := U) false A F H σ r m x y a b d Q G ha hb (by unfold inD at e; simpa using e) k
theorem od_notIn : OpD X U (rInAll X.K true) notInD := by
  intro A F H σ r m x y a b d Q G ha hb e k
  exact od_inAll (X := X) (U := U) true A F H σ r m x y a b d Q G ha hb (by unfold notInD at e; simpa using e) k
variable {pos : Pos} {a b : Expr} {f g : Ev}
theorem qe_in (hu : X.A.units + 65 < cLine) (ha : PE X a (tE X.K U f)) (hb : PE X b (tE X.K U g)) (hm : behindInMarks .In b = false := by rfl) : PE X (.Compare a [.In] [b] pos) (tE X.K U (eBin inD f g)) := qe_cmp (or_inAll hu) od_in ha hb hm
theorem qe_notIn (hu : X.A.units + 65 < cLine) (ha : PE X a (tE X.K U f)) (hb : PE X b (tE X.K U g)) (hm : behindInMarks .NotIn b = false := by rfl) : PE X (.Compare a [.NotIn] [b] pos) (tE X.K U (eBin notInD f g)) := qe_cmp (or_notInAll hu) od_notIn ha hb hm
end

/-! ## items, slices -/
def ixD : PyData → PyData → Option PyData
  | .list ds, .int i => atI ds i
  | .tuple ds, .int i => atI ds i
  | .str z, .int i => if z.length ≤ sizeLine then (atI z.cps.toList i).map fun c => .str ⟨#[c]⟩ else none
  | _, _ => none
theorem atI_rpa {K : PySem.W.Frag} {F : Hp} {vs : List V} {ds : List PyData} {i : Int} {d : PyData} (h : RpAll K F vs ds) (e : atI ds i = some d) : ∃ v, atI vs i = some v ∧ Rp K F v d := by
  unfold atI at e ⊢
  rw [rpa_len h]
  cases ej : ixN ds.length i with
  | none => rw [ej] at e; cases e
  | some j =>
    rw [ej] at e
    exact rpa_get h e
section
variable {X : Cx} {U : Hp}
theorem od_ix : OpD X U (rIx X.K) ixD := by
  intro A F H σ r m x y a b d Q G ha hb e k
  unfold ixD at e
  split at e
  · cases hb
    cases ha with
    | vl sa ra =>
      obtain ⟨v, e1, h1⟩ := atI_rpa ra e
      exact .inl ⟨_, _, _, v, rfl, rfl, (sqL_mono G.sub sa), e1, k F H v (Same.refl F) G h1⟩
  · cases hb
    cases ha with
    | vt sa ra =>
      obtain ⟨v, e1, h1⟩ := atI_rpa ra e
      exact .inr (.inl ⟨_, _, _, v, rfl, rfl, seqT_mono G.sub sa, e1, k F H v (Same.refl F) G h1⟩)
  · rename_i z i
    cases ha; cases hb
    split at e
    · rename_i hz
      cases e1 : atI z.cps.toList i with
      | none => rw [e1] at e; cases e
      | some c =>
        rw [e1] at e
        cases e
        exact .inr (.inr ⟨_, _, c, rfl, rfl, hz, e1, k F H _ (Same.refl F) G (.vs _)⟩)
    · cases e
  · cases e
variable {pos : Pos} {a b : Expr} {f g : Ev}
theorem qe_ix (ha : PE X a (tE X.K U f)) (hb : PE X b (tE X.K U g)) (hs : PlainIx b := by intro _ _; rfl) : PE X (.Subscript a b pos) (tE X.K U (eBin ixD f g)) := pe_weak (pe_ix ix_seq ha hb hs) fun _ _ _ h => op2 od_ix h
end
/-- x[i], x the name of a cell -/
def eIxO (i : Nat) (g : Ev) : Ev := fun r m => match r[i]? with
  | some (.ow k) => (g r m).bind fun p => (cellAt p.2 k).bind fun c => match c, p.1 with
    | .list ds, .int j => (atI ds j).map fun d => (d, p.2)
    | _, _ => none
  | _ => none
section
variable {X : Cx} {U : Hp} {pos : Pos} {b : Expr} {g : Ev}
theorem qe_ixO (i : Nat) {x : Str} {p1 : Pos} (h : PE X (.Name x p1) (tVar i)) (hb : PE X b (tE X.K U g)) (hs : PlainIx b := by intro _ _; rfl) : PE X (.Subscript (.Name x p1) b pos) (tE X.K U (eIxO i g)) := pe_weak (pe_ix ix_seq h hb hs) fun σ H Q ⟨A, F, r, m, d, m', G, e, k⟩ => by
  unfold eIxO at e
  split at e
  · rename_i kk hk
    obtain ⟨a, ha, hv⟩ := G.ow i kk hk
    cases e1 : g r m with
    | none => rw [e1] at e; cases e
    | some z =>
      obtain ⟨d1, m1⟩ := z
      rw [e1] at e
      simp only [Option.bind_some] at e
      refine ⟨_, hv, A, F, r, m, d1, m1, G, e1, fun F1 H1 y s1 G1 h1 => ?_⟩
      cases e2 : cellAt m1 kk with
      | none => rw [e2] at e; cases e
      | some c =>
        rw [e2] at e
        simp only [Option.bind_some] at e
        obtain ⟨_, _, o, hH, hr⟩ := G1.cl kk a c ha e2
        split at e
        · obtain ⟨vs, ho, hr⟩ := hr
          subst ho
          rename_i ds j
          cases h1
          cases e3 : atI ds j with
          | none => rw [e3] at e; cases e
          | some d2 =>
            rw [e3] at e
            cases e
            obtain ⟨v, e4, h4⟩ := atI_rpa hr e3
            exact .inl ⟨a, vs, j, v, rfl, rfl, .inl (.inl hH), e4, k F1 H1 v s1 G1 h4⟩
        · cases e
  · cases e

abbrev Eo := Rs → Ms → Option (Option Int × Ms)
def tO (K : PySem.W.Frag) (U : Hp) (f : Eo) : TO := fun σ H Q => ∃ (A : List Addr) (F : Hp) (r : Rs) (m : Ms) (b : Option Int) (m' : Ms), Good K U A F H σ r m ∧ f r m = some (b, m') ∧
  ∀ (F' H' : Hp), Same F F' → Good K U A F' H' σ r m' → Q b H'
def eNo : Eo := fun _ m => some (none, m)
def intD : PyData → Option (Option Int)
  | .int i => some (some i)
  | _ => none
def ePt (f : Ev) : Eo := fun r m => (f r m).bind fun p => (intD p.1).map fun o => (o, p.2)
theorem po_weak {e : Option Expr} {t t' : TO} (h : PO X e t) (w : ∀ σ H Q, t' σ H Q → t σ H Q) : PO X e t' := ⟨fun pins s σ H Q I q => h.run pins s σ H Q I (w σ H Q q)⟩
theorem qo_none : PO X none (tO X.K U eNo) := po_weak po_none fun σ H Q ⟨A, F, r, m, b, m', G, e, k⟩ => by
  cases e
  exact k F H (Same.refl F) G
theorem qo_some {e : Expr} {f : Ev} (h : PE X e (tE X.K U f)) : PO X (some e) (tO X.K U (ePt f)) := po_weak (po_some h) fun σ H Q ⟨A, F, r, m, b, m', G, e, k⟩ => by
  unfold ePt at e
  cases e1 : f r m with
  | none => rw [e1] at e; cases e
  | some z =>
    obtain ⟨d1, m1⟩ := z
    rw [e1] at e
    simp only [Option.bind_some] at e
    refine ⟨A, F, r, m, d1, m1, G, e1, fun F1 H1 y s1 G1 h1 => ?_⟩
    cases h1 with
    | vi j => cases e; exact ⟨j, rfl, k F1 H1 s1 G1⟩
    | _ => cases e
def cutD (ds : List PyData) (lo hi : Option Int) : List PyData := (ds.drop (HT.sIx ds.length 0 lo)).take (HT.sIx ds.length ds.length hi - HT.sIx ds.length 0 lo)
def slcD : PyData → Option Int → Option Int → Option PyData
  | .list ds, lo, hi => some (.list (cutD ds lo hi))
  | .tuple ds, lo, hi => some (.tuple (cutD ds lo hi))
  | .str z, lo, hi => if z.length ≤ sizeLine then some (.str (cutS z lo hi)) else none
  | _, _, _ => none
def eSl (f : Ev) (lo hi : Eo) : Ev := fun r m => (f r m).bind fun p => (lo r p.2).bind fun q => (hi r q.2).bind fun w => (slcD p.1 q.1 w.1).map fun d => (d, w.2)
theorem rpa_cut {K : PySem.W.Frag} {F : Hp} {vs : List V} {ds : List PyData} (lo hi : Option Int) (h : RpAll K F vs ds) : RpAll K F (cutV vs lo hi) (cutD ds lo hi) := by
  unfold cutV cutD
  rw [rpa_len h]
  exact rpa_take _ (rpa_drop _ h)
theorem qe_slice {e : Expr} {f : Ev} {lo hi : Option Expr} {fl fh : Eo} {p2 : Pos} (he : PE X e (tE X.K U f)) (hl : PO X lo (tO X.K U fl)) (hh : PO X hi (tO X.K U fh)) :
    PE X (.Subscript e (.Slice lo hi none p2) pos) (tE X.K U (eSl f fl fh)) := pe_weak (pe_slice (sl_list.or (sl_tupA.or sl_str)) he hl hh) fun σ H Q ⟨A, F, r, m, d, m', G, e, k⟩ => by
  unfold eSl at e
  cases e1 : f r m with
  | none => rw [e1] at e; cases e
  | some z1 =>
    obtain ⟨d1, m1⟩ := z1
    cases e2 : fl r m1 with
    | none => simp [e1, e2] at e
    | some z2 =>
      obtain ⟨l, m2⟩ := z2
      cases e3 : fh r m2 with
      | none => simp [e1, e2, e3] at e
      | some z3 =>
        obtain ⟨u, m3⟩ := z3
        simp only [e1, e2, e3, Option.bind_some] at e
        cases e4 : slcD d1 l u with
        | none => rw [e4] at e; cases e
        | some d2 =>
          rw [e4] at e
          cases e
          refine ⟨A, F, r, m, d1, m1, G, e1, fun F1 H1 x s1 G1 h1 => ⟨A, F1, r, m1, l, m2, G1, e2, fun F2 H2 s2 G2 => ⟨A, F2, r, m2, u, m', G2, e3, fun F3 H3 s3 G3 => ?_⟩⟩⟩
          have k' := fun (F' H' : Hp) (v : V) (s : Same F3 F') => k F' H' v (((s1.trans s2).trans s3).trans s)
          have h3 := Rpm (s2.trans s3) h1
          unfold slcD at e4
          split at e4
          · cases e4
            cases h3 with
            | vl sa ra =>
              refine .inl ⟨_, _, rfl, (sqL_mono G3.sub sa), fun p np => ?_⟩
              have sF := fun (o : HO) => same_new (o := o) (G3.nope np).1
              exact k' _ _ _ (sF _) (G3.laid np) (.vl (.inl (.inl upd_same)) (Rpam (sF _) (rpa_cut l u ra)))
          · cases e4
            cases h3 with
            | vt sa ra =>
              rename_i a1 xs1
              refine .inr (.inl ⟨_, _, rfl, seqT_mono G3.sub sa, fun hw => ?_, fun hw p np => ?_⟩)
              · refine k' F3 H3 _ (Same.refl F3) G3 (.vt sa ?_)
                have q := rpa_cut l u ra
                have e5 : cutV xs1 l u = xs1 := by
                  unfold cutV
                  rw [hw.1, hw.2, Nat.sub_zero, List.drop_zero, List.take_length]
                rw [e5] at q
                exact q
              · have sF := fun (o : HO) => same_new (o := o) (G3.nope np).1
                exact k' _ _ _ (sF _) (G3.laid np) (.vt (.inl (.inl upd_same)) (Rpam (sF _) (rpa_cut l u ra)))
          · split at e4
            · rename_i hz
              cases e4
              cases h3
              exact .inr (.inr ⟨_, rfl, hz, k' F3 H3 _ (Same.refl F3) G3 (.vs _)⟩)
            · cases e4
          · cases e4
end
end TL

end
/-! TL5 -/
section
set_option maxHeartbeats 4000000
namespace TL
open PySem L2

/-! ## calls of built-ins -/
def CallD (X : Cx) (U : Hp) (rc : List V → Hp → VK → Prop) (op : List PyData → Option PyData) : Prop :=
  ∀ (A : List Addr) (F H : Hp) (σ : St) (r : Rs) (m : Ms) (vs : List V) (ds : List PyData) (d : PyData) (Q : VK), Good X.K U A F H σ r m → RpAll X.K F vs ds → op ds = some d →
    (∀ (F' H' : Hp) (v : V), Same F F' → Good X.K U A F' H' σ r m → Rp X.K F' v d → Q v H') → rc vs H Q
theorem cb2 {X : Cx} {U : Hp} {rc : List V → Hp → VK → Prop} {op : List PyData → Option PyData} {f : Eas} (ho : CallD X U rc op) {σ : St} {H : Hp} {Q : VK} (h : tE X.K U (eMap f op) σ H Q) : tCB rc (tAs X.K U f) σ H Q := by
  obtain ⟨A, F, r, m, d, m', G, e, k⟩ := h
  obtain ⟨ds, e1, e2⟩ := map_some e
  exact ⟨A, F, r, m, ds, m', G, e1, fun F1 H1 vs s1 G1 h1 => ho A F1 H1 σ r m' vs ds d Q G1 h1 e2 fun F2 H2 v s2 G2 h2 => k F2 H2 v (s1.trans s2) G2 h2⟩
section
variable {X : Cx} {U : Hp} {x : Str} {p pos : Pos} {e : Expr} {es : List Expr} {id T : String} {rc : List V → Hp → VK → Prop} {op : List PyData → Option PyData} {f : Eas}
theorem qe_callB (hc : CallR X (.builtin id) rc) (ho : CallD X U rc op) (hg : Gl X x) (hm : X.mg x = none) (hv : bootBuiltins x = some (.builtin id)) (ha : PA X (e :: es) (tAs X.K U f)) (hn : x ≠ "__name__" := by decide) (hdb : (x == ("__debug__" : Str)) = false := by decide)
    (he : starEach (e :: es) X.env = (false, eval e X.env) :: starEach es X.env := by rfl) (hpl : (backTo pos (starEach es X.env)).any (·.1) = false := by rfl) : PE X (.Call (.Name x p) (e :: es) [] pos) (tE X.K U (eMap f op)) :=
  pe_weak (pe_callB hc hg hm hv ha hn hdb he hpl) fun _ _ _ h => cb2 ho h
theorem qe_callTy (hc : CallR X (.type T) rc) (ho : CallD X U rc op) (hg : Gl X x) (hm : X.mg x = none) (hv : bootBuiltins x = some (.type T)) (ha : PA X (e :: es) (tAs X.K U f)) (hn : x ≠ "__name__" := by decide) (hdb : (x == ("__debug__" : Str)) = false := by decide)
    (he : starEach (e :: es) X.env = (false, eval e X.env) :: starEach es X.env := by rfl) (hpl : (backTo pos (starEach es X.env)).any (·.1) = false := by rfl) : PE X (.Call (.Name x p) (e :: es) [] pos) (tE X.K U (eMap f op)) :=
  pe_weak (pe_callTy hc hg hm hv ha hn hdb he hpl) fun _ _ _ h => cb2 ho h
end
def lenD : List PyData → Option PyData
  | [.list ds] => some (.int ds.length)
  | [.tuple ds] => some (.int ds.length)
  | [.str z] => if z.length ≤ sizeLine then some (.int z.length) else none
  | _ => none
def absD : List PyData → Option PyData
  | [.int i] => some (.int (if i < 0 then -i else i))
  | _ => none
def bools : List PyData → Option (List Bool)
  | [] => some []
  | .bool b :: r => (bools r).map (b :: ·)
  | _ => none
def allD : List PyData → Option PyData
  | [.list ds] => (bools ds).map fun bs => .bool (bs.all id)
  | _ => none
def anyD : List PyData → Option PyData
  | [.list ds] => (bools ds).map fun bs => .bool (bs.any id)
  | _ => none
def intD1 : List PyData → Option PyData
  | [.int i] => some (.int i)
  | [.bool k] => some (.int (if k then 1 else 0))
  | _ => none
def strD1 : List PyData → Option PyData
  | [.int i] => if i.natAbs.log2 < 1920 then some (.str (toString i)) else none
  | _ => none
def listD : List PyData → Option PyData
  | [.list ds] => some (.list ds)
  | [.tuple ds] => some (.list ds)
  | _ => none
def tupleD : List PyData → Option PyData
  | [.list ds] => some (.tuple ds)
  | [.tuple ds] => some (.tuple ds)
  | _ => none
def max2D : List PyData → Option PyData
  | [.int i, .int j] => some (.int (if j > i then j else i))
  | _ => none
def min2D : List PyData → Option PyData
  | [.int i, .int j] => some (.int (if j < i then j else i))
  | _ => none
section
variable {X : Cx} {U : Hp}
theorem rpa1 {K : PySem.W.Frag} {F : Hp} {vs : List V} {d : PyData} (h : RpAll K F vs [d]) : ∃ v, vs = [v] ∧ Rp K F v d := by
  cases h with
  | cons h1 h2 => cases h2; exact ⟨_, rfl, h1⟩
theorem rpa2 {K : PySem.W.Frag} {F : Hp} {vs : List V} {d e : PyData} (h : RpAll K F vs [d, e]) : ∃ v w, vs = [v, w] ∧ Rp K F v d ∧ Rp K F w e := by
  cases h with
  | cons h1 h2 => cases h2 with
    | cons h3 h4 => cases h4; exact ⟨_, _, rfl, h1, h3⟩
theorem cd_len : CallD X U (fun xs H Q => ∃ x n, xs = [x] ∧ LenV X.K x H n ∧ Q (.int n) H) lenD := by
  intro A F H σ r m vs ds d Q G ha e k
  unfold lenD at e
  split at e
  · cases e
    obtain ⟨v, rfl, h⟩ := rpa1 ha
    cases h with
    | vl sa ra => exact ⟨_, _, rfl, .inl ⟨_, (sqL_mono G.sub sa), (rpa_len ra).symm⟩, k F H _ (Same.refl F) G (.vi _)⟩
  · cases e
    obtain ⟨v, rfl, h⟩ := rpa1 ha
    cases h with
    | vt sa ra => exact ⟨_, _, rfl, .inr ⟨_, seqT_mono G.sub sa, (rpa_len ra).symm⟩, k F H _ (Same.refl F) G (.vi _)⟩
  · split at e
    · rename_i hz
      cases e
      obtain ⟨v, rfl, h⟩ := rpa1 ha
      cases h
      exact ⟨_, _, rfl, ⟨hz, rfl⟩, k F H _ (Same.refl F) G (.vi _)⟩
    · cases e
  · cases e
theorem cd_abs : CallD X U (fun xs H Q => ∃ i, xs = [.int i] ∧ Q (.int (if i < 0 then -i else i)) H) absD := by
  intro A F H σ r m vs ds d Q G ha e k
  unfold absD at e
  split at e
  · cases e
    obtain ⟨v, rfl, h⟩ := rpa1 ha
    cases h
    exact ⟨_, rfl, k F H _ (Same.refl F) G (.vi _)⟩
  · cases e
theorem bools_of {K : PySem.W.Frag} {F : Hp} : ∀ {vs : List V} {ds : List PyData} {bs : List Bool}, RpAll K F vs ds → bools ds = some bs → vs = bs.map V.bl
  | _, _, _, .nil, e => by cases e; rfl
  | v :: vs, d :: ds, bs, .cons h t, e => by
    cases h with
    | vb b =>
      simp only [bools] at e
      cases e1 : bools ds with
      | none => rw [e1] at e; cases e
      | some cs =>
        rw [e1] at e
        cases e
        rw [bools_of t e1, List.map_cons]
    | _ => cases e
theorem cd_all : CallD X U (rAll X.K) allD := by
  intro A F H σ r m vs ds d Q G ha e k
  unfold allD at e
  split at e
  · rename_i ds
    obtain ⟨v, rfl, h⟩ := rpa1 ha
    cases e1 : bools ds with
    | none => rw [e1] at e; cases e
    | some bs =>
      rw [e1] at e
      cases e
      cases h with
      | vl sa ra =>
        have q := bools_of ra e1
        subst q
        exact ⟨_, bs, rfl, (sqL_mono G.sub sa), k F H _ (Same.refl F) G (.vb _)⟩
  · cases e
theorem cd_any : CallD X U (rAny X.K) anyD := by
  intro A F H σ r m vs ds d Q G ha e k
  unfold anyD at e
  split at e
  · rename_i ds
    obtain ⟨v, rfl, h⟩ := rpa1 ha
    cases e1 : bools ds with
    | none => rw [e1] at e; cases e
    | some bs =>
      rw [e1] at e
      cases e
      cases h with
      | vl sa ra =>
        have q := bools_of ra e1
        subst q
        exact ⟨_, bs, rfl, (sqL_mono G.sub sa), k F H _ (Same.refl F) G (.vb _)⟩
  · cases e
theorem cd_int : CallD X U (fun xs H Q => (∃ i, xs = [.int i] ∧ Q (.int i) H) ∨ ∃ k, xs = [.bl k] ∧ Q (.int (if k then 1 else 0)) H) intD1 := by
  intro A F H σ r m vs ds d Q G ha e k
  unfold intD1 at e
  split at e
  · cases e
    obtain ⟨v, rfl, h⟩ := rpa1 ha
    cases h
    exact .inl ⟨_, rfl, k F H _ (Same.refl F) G (.vi _)⟩
  · cases e
    obtain ⟨v, rfl, h⟩ := rpa1 ha
    cases h
    exact .inr ⟨_, rfl, k F H _ (Same.refl F) G (.vi _)⟩
  · cases e
theorem cd_str : CallD X U (fun xs H Q => ∃ i, xs = [.int i] ∧ i.natAbs.log2 < 1920 ∧ Q (.str (toString i)) H) strD1 := by
  intro A F H σ r m vs ds d Q G ha e k
  unfold strD1 at e
  split at e
  · split at e
    · rename_i hz
      cases e
      obtain ⟨v, rfl, h⟩ := rpa1 ha
      cases h
      exact ⟨_, rfl, hz, k F H _ (Same.refl F) G (.vs _)⟩
    · cases e
  · cases e
theorem cd_list : CallD X U (fun xs H Q => ∃ p ys, xs = [.ref p] ∧ (SqL X.K H p ys ∨ SqT X.K H p ys) ∧ ∀ l, H l = none → Q (.ref l) (upd H l (.lst ys))) listD := by
  intro A F H σ r m vs ds d Q G ha e k
  unfold listD at e
  split at e
  · cases e
    obtain ⟨v, rfl, h⟩ := rpa1 ha
    cases h with
    | vl sa ra =>
      rename_i a1 ys
      refine ⟨_, ys, rfl, .inl ((sqL_mono G.sub sa)), fun l hl => ?_⟩
      have sF : Same F (upd F l (.lst ys)) := same_new (G.nope hl).1
      exact k _ _ _ sF (G.laid hl) (.vl (.inl (.inl upd_same)) (Rpam sF ra))
  · cases e
    obtain ⟨v, rfl, h⟩ := rpa1 ha
    cases h with
    | vt sa ra =>
      rename_i a1 ys
      refine ⟨_, ys, rfl, .inr (seqT_mono G.sub sa), fun l hl => ?_⟩
      have sF : Same F (upd F l (.lst ys)) := same_new (G.nope hl).1
      exact k _ _ _ sF (G.laid hl) (.vl (.inl (.inl upd_same)) (Rpam sF ra))
  · cases e
theorem cd_tuple : CallD X U (fun xs H Q => ∃ p ys, xs = [.ref p] ∧ ((SqL X.K H p ys ∧ ∀ l, H l = none → Q (.ref l) (upd H l (.tup ys))) ∨ (SqT X.K H p ys ∧ Q (.ref p) H))) tupleD := by
  intro A F H σ r m vs ds d Q G ha e k
  unfold tupleD at e
  split at e
  · cases e
    obtain ⟨v, rfl, h⟩ := rpa1 ha
    cases h with
    | vl sa ra =>
      rename_i a1 ys
      refine ⟨_, ys, rfl, .inl ⟨(sqL_mono G.sub sa), fun l hl => ?_⟩⟩
      have sF : Same F (upd F l (.tup ys)) := same_new (G.nope hl).1
      exact k _ _ _ sF (G.laid hl) (.vt (.inl (.inl upd_same)) (Rpam sF ra))
  · cases e
    obtain ⟨v, rfl, h⟩ := rpa1 ha
    cases h with
    | vt sa ra => exact ⟨_, _, rfl, .inr ⟨seqT_mono G.sub sa, k F H _ (Same.refl F) G (.vt sa ra)⟩⟩
  · cases e
theorem cd_max : CallD X U (fun xs H Q => ∃ i j, xs = [.int i, .int j] ∧ Q (.int (if j > i then j else i)) H) max2D := by
  intro A F H σ r m vs ds d Q G ha e k
  unfold max2D at e
  split at e
  · cases e
    obtain ⟨v, w, rfl, h, h'⟩ := rpa2 ha
    cases h; cases h'
    exact ⟨_, _, rfl, k F H _ (Same.refl F) G (.vi _)⟩
  · cases e
theorem cd_min : CallD X U (fun xs H Q => ∃ i j, xs = [.int i, .int j] ∧ Q (.int (if j < i then j else i)) H) min2D := by
  intro A F H σ r m vs ds d Q G ha e k
  unfold min2D at e
  split at e
  · cases e
    obtain ⟨v, w, rfl, h, h'⟩ := rpa2 ha
    cases h; cases h'
    exact ⟨_, _, rfl, k F H _ (Same.refl F) G (.vi _)⟩
  · cases e
end

/-! ## isinstance(x, T), T a built-in type -/
def tyD : PyData → String
  | .none => "NoneType"
  | .bool _ => "bool"
  | .int _ => "int"
  | .str _ => "str"
  | .list _ => "list"
  | .tuple _ => "tuple"
  | .dict _ => "dict"
def isiD (T : String) (d : PyData) : Option PyData := (kitB (tyD d) T).map .bool
theorem ty_of {K : PySem.W.Frag} {F H : Hp} {x : V} {d : PyData} (s : Same F H) (h : Rp K F x d) : TyX K H x (.type (tyD d)) := by
  cases h with
  | vn => exact .base .non
  | vb b => exact .base (.bl b)
  | vi i => exact .base (.int i)
  | vs y => exact .base (.str y)
  | vl sa ra =>
    rcases sqL_mono s sa with (e | ⟨o, e⟩) | ⟨o, its, n, e, c, _⟩
    · exact .base (.lst e)
    · exact .base (.frz e)
    · exact .kList e c
  | vt sa ra =>
    rcases seqT_mono s sa with (e | ⟨o, e⟩) | ⟨o, its, n, e, c, _⟩
    · exact .base (.tup e)
    · exact .fTuple e
    · exact .kTuple e c
  | vd sa ra =>
    rcases rd_mono s sa with e | ⟨o, e⟩
    · exact .base (.dK e)
    · exact .fDict e
section
variable {X : Cx} {U : Hp} {p p2 pos : Pos} {a : Expr} {f : Ev} {x y : Str} {T : String}
theorem qe_isi (hx : bootBuiltins x = some (.builtin "isinstance")) (hg : Gl X x) (hm : X.mg x = none) (hgT : Gl X y) (hmT : X.mg y = none) (hvT : bootBuiltins y = some (.type T)) (ha : PE X a (tE X.K U f)) (hn : x ≠ "__name__" := by decide) (hdb : (x == ("__debug__" : Str)) = false := by decide)
    (hnT : y ≠ "__name__" := by decide) (hdT : (y == ("__debug__" : Str)) = false := by decide) (he : starEach (a :: [.Name y p2]) X.env = (false, eval a X.env) :: starEach [.Name y p2] X.env := by rfl) (hpl : (backTo pos (starEach [.Name y p2] X.env)).any (·.1) = false := by rfl) :
    PE X (.Call (.Name x p) [a, .Name y p2] [] pos) (tE X.K U (eMap f (isiD T))) := by
  refine pe_weak (pe_callB call_isi hg hm hx (pa_cons ha (pa_cons (pe_bltn (v := .ty T) hgT hmT hvT rfl hnT hdT) pa_nil) he) hn hdb he hpl) fun σ H Q ⟨A, F, r, m, d, m', G, e, k⟩ => ?_
  obtain ⟨d1, e1, e2⟩ := map_some e
  unfold isiD at e2
  cases e3 : kitB (tyD d1) T with
  | none => rw [e3] at e2; cases e2
  | some b =>
    rw [e3] at e2
    cases e2
    exact ⟨A, F, r, m, d1, m', G, e1, fun F1 H1 v s1 G1 h1 => ⟨v, .ty T, .type (tyD d1), .type T, b, rfl, .ty T, ty_of G1.sub h1, kit_ty e3, k F1 H1 _ s1 G1 (.vb b)⟩⟩
end

/-! ## promises of defs: pure ones, ones that change their first argument, a list -/
def spD (K : PySem.W.Frag) (n : Nat) (g : List PyData → Option PyData) : Sp := fun vs H Q _ => ∃ (F : Hp) (ds : List PyData) (d : PyData), Same F H ∧ vs.length = n ∧ RpAll K F vs ds ∧ g ds = some d ∧
  ∀ (F' H' : Hp) (v : V), Same F F' → Same F' H' → (∀ b o, H b = some o → F b = none → H' b = some o ∧ F' b = none) → Rp K F' v d → Q v H'
def spR (K : PySem.W.Frag) (n : Nat) (g : PyData → List PyData → Option (PyData × PyData)) : Sp := fun vs H Q _ => ∃ (F : Hp) (a : Addr) (u : HO) (ws : List V) (cs : PyData) (ds : List PyData) (d cs' : PyData), Same F H ∧ vs = .ref a :: ws ∧ ws.length = n ∧ F a = none ∧ H a = some u ∧
  Stored K F u cs ∧ RpAll K F ws ds ∧ g cs ds = some (d, cs') ∧
  ∀ (F' H' : Hp) (v : V) (u' : HO), Same F F' → Same F' H' → (∀ b o, H b = some o → F b = none → b ≠ a → H' b = some o ∧ F' b = none) → F' a = none → H' a = some u' → Stored K F' u' cs' → Rp K F' v d → Q v H'
section
variable {K : PySem.W.Frag} {U : Hp} {A : List Addr} {F H F' H' : Hp} {σ : St} {r : Rs} {m : Ms}
theorem Good.past (G : Good K U A F H σ r m) (s1 : Same F F') (s2 : Same F' H') (k : ∀ b o, H b = some o → F b = none → H' b = some o ∧ F' b = none) : Good K U A F' H' σ r m := by
  refine ⟨s2, fun b o e => ?_, G.len, fun i d e => ?_, G.ow, G.al, fun j a ds e1 e2 => ?_, G.nd, fun a ha => ?_⟩
  · obtain ⟨h1, h2⟩ := G.fo b o e
    exact k b o h1 h2
  · obtain ⟨v, h1, h2⟩ := G.fz i d e
    exact ⟨v, h1, Rpm s1 h2⟩
  · obtain ⟨h1, h2, vs, h3, h4⟩ := G.cl j a ds e1 e2
    obtain ⟨q1, q2⟩ := k a _ h3 h1
    exact ⟨q2, h2, vs, q1, stored_mono s1 h4⟩
  · obtain ⟨o, h1⟩ := G.he a ha
    cases q : F a with
    | none => exact ⟨o, (k a o h1 q).1⟩
    | some o' => exact ⟨o', s2 a o' (s1 a o' q)⟩
/-- the cell j was changed -/
theorem Good.pastR (G : Good K U A F H σ r m) {j : Nat} {a : Addr} {u' : HO} {cs0 cs' : PyData} (hj : A[j]? = some a) (h0 : cellAt m j = some cs0) (s1 : Same F F') (s2 : Same F' H') (k : ∀ b o, H b = some o → F b = none → b ≠ a → H' b = some o ∧ F' b = none)
    (ha : F' a = none) (hh : H' a = some u') (hr : Stored K F' u' cs') : Good K U A F' H' σ r (m.set j (some cs')) := by
  have hjm : j < m.length := cellAt_lt h0
  have hU : U a = none := (G.cl j a cs0 hj h0).2.1
  refine ⟨s2, fun b o e => ?_, G.len, fun i d e => ?_, G.ow, by rw [List.length_set]; exact G.al, fun i b ds e1 e2 => ?_, G.nd, fun b hb => ?_⟩
  · obtain ⟨h1, h2⟩ := G.fo b o e
    exact k b o h1 h2 fun z => by rw [z, hU] at e; cases e
  · obtain ⟨v, h1, h2⟩ := G.fz i d e
    exact ⟨v, h1, Rpm s1 h2⟩
  · by_cases hi : i = j
    · subst hi
      rw [hj] at e1
      cases e1
      rw [cellAt_self hjm] at e2
      cases e2
      exact ⟨ha, hU, u', hh, hr⟩
    · rw [cellAt_ne hi] at e2
      obtain ⟨h1, h2, vs, h3, h4⟩ := G.cl i b ds e1 e2
      have hb : b ≠ a := fun z => by
        subst z
        have w1 := (List.getElem?_eq_some_iff.mp e1)
        have w2 := (List.getElem?_eq_some_iff.mp hj)
        obtain ⟨l1, q1⟩ := w1
        obtain ⟨l2, q2⟩ := w2
        exact hi ((List.getElem_inj G.nd).mp (q1.trans q2.symm))
      obtain ⟨q1, q2⟩ := k b _ h3 h1 hb
      exact ⟨q2, h2, vs, q1, stored_mono s1 h4⟩
  · by_cases hba : b = a
    · exact ⟨_, by rw [hba]; exact hh⟩
    · obtain ⟨o, h1⟩ := G.he b hb
      cases q : F b with
      | none => exact ⟨o, (k b o h1 q hba).1⟩
      | some o' => exact ⟨o', s2 b o' (s1 b o' q)⟩
end
/-- with just n arguments -/
def arN {α : Type} (n : Nat) (g : List PyData → Option α) (ds : List PyData) : Option α := if ds.length = n then g ds else none
theorem arN_some {α : Type} {n : Nat} {g : List PyData → Option α} {ds : List PyData} {a : α} (e : arN n g ds = some a) : ds.length = n ∧ g ds = some a := by
  unfold arN at e
  split at e
  · rename_i h
    exact ⟨h, e⟩
  · cases e
def eCallR (n : Nat) (i : Nat) (g : PyData → List PyData → Option (PyData × PyData)) (f : Eas) : Ev := fun r m => match r[i]? with
  | some (.ow j) => (f r m).bind fun p => (cellAt p.2 j).bind fun cs => (arN n (g cs) p.1).map fun q => (q.1, p.2.set j (some q.2))
  | _ => none
section
variable {X : Cx} {U : Hp} {x : Str} {p pos : Pos} {e : Expr} {es : List Expr} {f : Eas} {k n : Nat} {fa : Addr} {fd : FuncData} {ps : List Str}
theorem qe_call {g : List PyData → Option PyData} (Fn : FnOk X.prog X.w X.K X.mg X.base CX0 k fa fd ps (spD X.K n g)) (hr : Room k X.A) (hg : Gl X x) (hm : X.mg x = some (.ref fa)) (hk : PySem.W.keepIn X.K (.ref fa) = true) (hb : Binds X.K fd ps [])
    (ha : PA X (e :: es) (tAs X.K U f)) (hdb : (x == ("__debug__" : Str)) = false := by decide)
    (he : starEach (e :: es) X.env = (false, eval e X.env) :: starEach es X.env := by rfl) (hpl : (backTo pos (starEach es X.env)).any (·.1) = false := by rfl) :
    PE X (.Call (.Name x p) (e :: es) [] pos) (tE X.K U (eMap f (arN n g))) := pe_weak (pe_call Fn hr hg hm hk hb .nil pass0 ha hdb he hpl) fun σ H Q ⟨A, F, r, m, d, m', G, e, k⟩ => by
  obtain ⟨ds, e1, e2⟩ := map_some e
  refine ⟨A, F, r, m, ds, m', G, e1, fun F1 H1 vs s1 G1 h1 => ?_⟩
  show spD X.K n g (vs ++ []) H1 Q E0
  rw [List.append_nil]
  obtain ⟨l2, e2⟩ := arN_some e2
  refine ⟨F1, ds, d, G1.sub, (rpa_len h1).trans l2, h1, e2, fun F2 H2 v s2 s3 kk h2 => ?_⟩
  exact k F2 H2 v (s1.trans s2) (G1.past s2 s3 kk) h2
theorem qe_callR {g : PyData → List PyData → Option (PyData × PyData)} (i : Nat) {y : Str} {p1 : Pos} (Fn : FnOk X.prog X.w X.K X.mg X.base CX0 k fa fd ps (spR X.K n g)) (hr : Room k X.A) (hg : Gl X x) (hm : X.mg x = some (.ref fa)) (hk : PySem.W.keepIn X.K (.ref fa) = true) (hb : Binds X.K fd ps [])
    (hv : PE X (.Name y p1) (tVar i)) (ha : PA X es (tAs X.K U f)) (hdb : (x == ("__debug__" : Str)) = false := by decide)
    (he : starEach (.Name y p1 :: es) X.env = (false, eval (.Name y p1) X.env) :: starEach es X.env := by rfl) (hpl : (backTo pos (starEach es X.env)).any (·.1) = false := by rfl) :
    PE X (.Call (.Name x p) (.Name y p1 :: es) [] pos) (tE X.K U (eCallR n i g f)) := pe_weak (pe_call Fn hr hg hm hk hb .nil pass0 (pa_cons hv ha he) hdb he hpl) fun σ H Q ⟨A, F, r, m, d, m', G, e, k⟩ => by
  unfold eCallR at e
  split at e
  · rename_i j hj
    obtain ⟨a, hA, hσ⟩ := G.ow i j hj
    cases e1 : f r m with
    | none => rw [e1] at e; cases e
    | some z =>
      obtain ⟨ds, m1⟩ := z
      rw [e1] at e
      simp only [Option.bind_some] at e
      cases e2 : cellAt m1 j with
      | none => rw [e2] at e; cases e
      | some cs =>
        rw [e2] at e
        simp only [Option.bind_some] at e
        cases e3 : arN n (g cs) ds with
        | none => rw [e3] at e; cases e
        | some q =>
          obtain ⟨d2, cs'⟩ := q
          rw [e3] at e
          cases e
          refine ⟨_, hσ, A, F, r, m, ds, m1, G, e1, fun F1 H1 vs s1 G1 h1 => ?_⟩
          show spR X.K n g ((V.ref a :: vs) ++ []) H1 Q E0
          rw [List.append_nil]
          obtain ⟨l3, e3⟩ := arN_some e3
          obtain ⟨c1, c2, us, c3, c4⟩ := G1.cl j a cs hA e2
          refine ⟨F1, a, us, vs, cs, ds, _, cs', G1.sub, rfl, (rpa_len h1).trans l3, c1, c3, c4, h1, e3, fun F2 H2 v us' s2 s3 kk f2 h2 r2 d2 => ?_⟩
          exact k F2 H2 v (s1.trans s2) (G1.pastR hA e2 s2 s3 kk f2 h2 r2) d2
  · cases e
end
end TL

end
/-! TL6 -/
section
set_option maxHeartbeats 4000000
namespace TL
open PySem L2

/-! ## statements -/
inductive Out where
  | nx (r : Rs) (m : Ms) | rt (d : PyData) (m : Ms) | rn (ds : PyData) (m : Ms) | bk (r : Rs) (m : Ms) | ct (r : Rs) (m : Ms)
abbrev Es := Rs → Ms → Option Out
/-- what a return leaves of the first n0 cells -/
structure Fin (K : PySem.W.Frag) (U : Hp) (n0 : Nat) (A : List Addr) (F H : Hp) (m : Ms) : Prop where
  sub : Same F H
  fo : ∀ b o, U b = some o → H b = some o ∧ F b = none
  cl : ∀ (k : Nat) (a : Addr) (ds : PyData), k < n0 → A[k]? = some a → cellAt m k = some ds → F a = none ∧ ∃ o, H a = some o ∧ Stored K F o ds
def Post (K : PySem.W.Frag) (U : Hp) (n0 : Nat) (A : List Addr) (F : Hp) (D : Ends) : Out → Prop
  | .nx r m => ∀ (A' : List Addr) (F' H' : Hp) (σ' : St), A <+: A' → Same F F' → Good K U A' F' H' σ' r m → D.nx σ' H'
  | .rt d m => ∀ (A' : List Addr) (F' H' : Hp) (v : V), A <+: A' → Same F F' → Fin K U n0 A' F' H' m → Rp K F' v d → D.rt v H'
  | .rn ds m => ∀ (A' : List Addr) (F' H' : Hp) (a : Addr) (u : HO), A <+: A' → Same F F' → Fin K U n0 A' F' H' m → F' a = none → U a = none → (∀ k, k < n0 → A'[k]? ≠ some a) → H' a = some u → Stored K F' u ds → D.rt (.ref a) H'
  | .bk r m => ∀ (A' : List Addr) (F' H' : Hp) (σ' : St), A <+: A' → Same F F' → Good K U A' F' H' σ' r m → D.bk σ' H'
  | .ct r m => ∀ (A' : List Addr) (F' H' : Hp) (σ' : St), A <+: A' → Same F F' → Good K U A' F' H' σ' r m → D.ct σ' H'
def tS (K : PySem.W.Frag) (U : Hp) (n0 : Nat) (f : Es) : TS := fun D σ H => ∃ (A : List Addr) (F : Hp) (r : Rs) (m : Ms) (o : Out), Good K U A F H σ r m ∧ n0 ≤ A.length ∧ f r m = some o ∧ Post K U n0 A F D o
section
variable {K : PySem.W.Frag} {U : Hp} {n0 : Nat} {A A1 : List Addr} {F F1 H : Hp} {D : Ends} {σ : St} {r : Rs} {m : Ms}
theorem Good.fin (G : Good K U A F H σ r m) (h : n0 ≤ A.length) : Fin K U n0 A F H m := ⟨G.sub, G.fo, fun k a ds _ ha hm => by
  obtain ⟨h1, _, vs, h3, h4⟩ := G.cl k a ds ha hm
  exact ⟨h1, vs, h3, h4⟩⟩
theorem Post.later (hA : A <+: A1) (hF : Same F F1) : ∀ {o : Out}, Post K U n0 A F D o → Post K U n0 A1 F1 D o
  | .nx r m, p => fun A' F' H' σ' ha hf G => p A' F' H' σ' (hA.trans ha) (hF.trans hf) G
  | .rt d m, p => fun A' F' H' v ha hf G h => p A' F' H' v (hA.trans ha) (hF.trans hf) G h
  | .rn ds m, p => fun A' F' H' a vs ha hf G h1 h2 h3 h4 h5 => p A' F' H' a vs (hA.trans ha) (hF.trans hf) G h1 h2 h3 h4 h5
  | .bk r m, p => fun A' F' H' σ' ha hf G => p A' F' H' σ' (hA.trans ha) (hF.trans hf) G
  | .ct r m, p => fun A' F' H' σ' ha hf G => p A' F' H' σ' (hA.trans ha) (hF.trans hf) G
theorem len_of (hA : A <+: A1) (h : n0 ≤ A.length) : n0 ≤ A1.length := Nat.le_trans h hA.length_le
/-- a slot gets a value -/
theorem Good.setFz (G : Good K U A F H σ r m) {i : Nat} {v : V} {d : PyData} (h : Rp K F v d) : Good K U A F H (σ.set i (some v)) (r.set i (.fz d)) m := by
  refine ⟨G.sub, G.fo, by rw [List.length_set, List.length_set]; exact G.len, fun j e he => ?_, fun j k he => ?_, G.al, G.cl, G.nd, G.he⟩
  · by_cases hj : i = j
    · subst hj
      by_cases hl : i < r.length
      · rw [List.getElem?_set_self hl] at he
        cases he
        exact ⟨v, List.getElem?_set_self (by rw [← G.len]; exact hl), h⟩
      · rw [List.getElem?_eq_none (by rw [List.length_set]; omega)] at he
        cases he
    · rw [List.getElem?_set_ne hj] at he
      rw [List.getElem?_set_ne hj]
      exact G.fz j e he
  · by_cases hj : i = j
    · subst hj
      by_cases hl : i < r.length
      · rw [List.getElem?_set_self hl] at he
        cases he
      · rw [List.getElem?_eq_none (by rw [List.length_set]; omega)] at he
        cases he
    · rw [List.getElem?_set_ne hj] at he
      rw [List.getElem?_set_ne hj]
      exact G.ow j k he
/-- a slot gets a new cell -/
theorem Good.setOw (G : Good K U A F H σ r m) {i : Nat} {a : Addr} {u : HO} {ds : PyData} (hF : F a = none) (hU : U a = none) (hA : a ∉ A) (hH : H a = some u) (h : Stored K F u ds) :
    Good K U (A ++ [a]) F H (σ.set i (some (.ref a))) (r.set i (.ow m.length)) (m ++ [some ds]) := by
  have at_ : (A ++ [a])[m.length]? = some a := by rw [← G.al]; simp
  have old : ∀ {k : Nat} {b : Addr}, (A ++ [a])[k]? = some b → k ≠ m.length → A[k]? = some b := fun {k b} e hk => by
    by_cases hl : k < A.length
    · rw [List.getElem?_append_left hl] at e
      exact e
    · rw [List.getElem?_append_right (by omega)] at e
      have z := (List.getElem?_eq_some_iff.mp e).1
      rw [List.length_singleton] at z
      have := G.al
      omega
  refine ⟨G.sub, G.fo, by rw [List.length_set, List.length_set]; exact G.len, fun j e he => ?_, fun j k he => ?_, by rw [List.length_append, List.length_append, G.al]; rfl, fun k b es e1 e2 => ?_, ?_, fun b hb => ?_⟩
  · by_cases hj : i = j
    · subst hj
      by_cases hl : i < r.length
      · rw [List.getElem?_set_self hl] at he
        cases he
      · rw [List.getElem?_eq_none (by rw [List.length_set]; omega)] at he
        cases he
    · rw [List.getElem?_set_ne hj] at he
      rw [List.getElem?_set_ne hj]
      exact G.fz j e he
  · by_cases hj : i = j
    · subst hj
      by_cases hl : i < r.length
      · rw [List.getElem?_set_self hl] at he
        cases he
        exact ⟨a, at_, List.getElem?_set_self (by rw [← G.len]; exact hl)⟩
      · rw [List.getElem?_eq_none (by rw [List.length_set]; omega)] at he
        cases he
    · rw [List.getElem?_set_ne hj] at he
      rw [List.getElem?_set_ne hj]
      obtain ⟨b, h1, h2⟩ := G.ow j k he
      exact ⟨b, by rw [List.getElem?_append_left (List.getElem?_eq_some_iff.mp h1).1]; exact h1, h2⟩
  · by_cases hk : k = m.length
    · subst hk
      rw [at_] at e1
      cases e1
      rw [cellAt_new] at e2
      cases e2
      exact ⟨hF, hU, u, hH, h⟩
    · have e1' := old e1 hk
      have hl : k < m.length := by rw [← G.al]; exact (List.getElem?_eq_some_iff.mp e1').1
      rw [cellAt_old hl] at e2
      exact G.cl k b es e1' e2
  · rw [List.nodup_append]
    exact ⟨G.nd, by simp, fun x hx y hy => by
      rw [List.mem_singleton] at hy
      subst hy
      exact fun z => hA (z ▸ hx)⟩
  · rcases List.mem_append.mp hb with q | q
    · exact G.he b q
    · rw [List.mem_singleton] at q
      exact ⟨_, by rw [q]; exact hH⟩
/-- a new list in the heap is no cell -/
theorem Good.notin (G : Good K U A F H σ r m) {p : Addr} (h : H p = none) : p ∉ A := fun hp => by
  obtain ⟨o, e⟩ := G.he p hp
  rw [h] at e
  cases e
/-- an object is laid that is ours alone -/
theorem Good.laidO (G : Good K U A F H σ r m) {p : Addr} {o : HO} (h : H p = none) : Good K U A F (upd H p o) σ r m := by
  obtain ⟨hF, hU⟩ := G.nope h
  refine ⟨fun b u e => ?_, fun b u e => ?_, G.len, G.fz, G.ow, G.al, fun k a ds e1 e2 => ?_, G.nd, fun a ha => ?_⟩
  · have hb : b ≠ p := fun z => by rw [z, hF] at e; cases e
    rw [upd_ne hb]
    exact G.sub b u e
  · have hb : b ≠ p := fun z => by rw [z, hU] at e; cases e
    rw [upd_ne hb]
    exact G.fo b u e
  · obtain ⟨h1, h2, vs, h3, h4⟩ := G.cl k a ds e1 e2
    have ha : a ≠ p := fun z => by rw [z, h] at h3; cases h3
    exact ⟨h1, h2, vs, by rw [upd_ne ha]; exact h3, h4⟩
  · obtain ⟨o', h1⟩ := G.he a ha
    exact ⟨o', by rw [upd_ne (ne_of_none h1 h)]; exact h1⟩
/-- the cell j is changed -/
theorem Good.setCell (G : Good K U A F H σ r m) {j : Nat} {a : Addr} {u' : HO} {ds0 ds' : PyData} (hj : A[j]? = some a) (h0 : cellAt m j = some ds0) (h : Stored K F u' ds') : Good K U A F (upd H a u') σ r (m.set j (some ds')) := by
  obtain ⟨hF, hU, vs, hH, _⟩ := G.cl j a ds0 hj h0
  refine G.pastR hj h0 (Same.refl F) (fun b o e => ?_) (fun b o e n hb => ?_) hF upd_same h
  · have hb : b ≠ a := fun z => by rw [z, hF] at e; cases e
    rw [upd_ne hb]
    exact G.sub b o e
  · exact ⟨by rw [upd_ne hb]; exact e, n⟩
/-- the cell k is frozen: its names hold data -/
def frzR (k : Nat) (d : PyData) (r : Rs) : Rs := r.map fun s => match s with
  | .ow j => if j = k then .fz d else .ow j
  | s => s
theorem Good.freeze (G : Good K U A F H σ r m) {k : Nat} {a : Addr} {ds : PyData} (hj : A[k]? = some a) (h0 : cellAt m k = some ds) :
    ∃ u, Same F (upd F a u) ∧ Good K U A (upd F a u) H σ (frzR k ds r) (m.set k none) ∧ Rp K (upd F a u) (.ref a) ds := by
  obtain ⟨hF, hU, vs, hH, hr⟩ := G.cl k a ds hj h0
  have s : Same F (upd F a vs) := same_new hF
  have hk := cellAt_lt h0
  have hv : Rp K (upd F a vs) (.ref a) ds := stored_rp upd_same (stored_mono s hr)
  refine ⟨vs, s, ⟨fun b o e => ?_, fun b o e => ?_, by unfold frzR; rw [List.length_map]; exact G.len, fun i d e => ?_, fun i j e => ?_, by rw [List.length_set]; exact G.al, fun j b es e1 e2 => ?_, G.nd, G.he⟩, hv⟩
  · by_cases hb : b = a
    · subst hb
      rw [upd_same] at e
      cases e
      exact hH
    · rw [upd_ne hb] at e
      exact G.sub b o e
  · have hb : b ≠ a := fun z => by rw [z, hU] at e; cases e
    rw [upd_ne hb]
    exact G.fo b o e
  · unfold frzR at e
    rw [List.getElem?_map] at e
    cases e1 : r[i]? with
    | none => rw [e1] at e; cases e
    | some sl =>
      rw [e1] at e
      cases sl with
      | un => cases e
      | fz d' =>
        cases e
        obtain ⟨v, h1, h2⟩ := G.fz i _ e1
        exact ⟨v, h1, Rpm s h2⟩
      | ow j =>
        simp only [Option.map_some, Option.some.injEq] at e
        by_cases hjk : j = k
        · rw [if_pos hjk] at e
          cases e
          obtain ⟨b, h1, h2⟩ := G.ow i j e1
          rw [hjk, hj] at h1
          cases h1
          exact ⟨_, h2, hv⟩
        · rw [if_neg hjk] at e
          cases e
  · unfold frzR at e
    rw [List.getElem?_map] at e
    cases e1 : r[i]? with
    | none => rw [e1] at e; cases e
    | some sl =>
      rw [e1] at e
      cases sl with
      | un => cases e
      | fz d' => cases e
      | ow j' =>
        simp only [Option.map_some, Option.some.injEq] at e
        by_cases hjk : j' = k
        · rw [if_pos hjk] at e
          cases e
        · rw [if_neg hjk] at e
          cases e
          exact G.ow i _ e1
  · by_cases hjk : j = k
    · subst hjk
      rw [cellAt_self hk] at e2
      cases e2
    · rw [cellAt_ne hjk] at e2
      obtain ⟨h1, h2, us, h3, h4⟩ := G.cl j b es e1 e2
      have hb : b ≠ a := fun z => by
        subst z
        obtain ⟨l1, q1⟩ := List.getElem?_eq_some_iff.mp e1
        obtain ⟨l2, q2⟩ := List.getElem?_eq_some_iff.mp hj
        exact hjk ((List.getElem_inj G.nd).mp (q1.trans q2.symm))
      exact ⟨by rw [upd_ne hb]; exact h1, h2, us, h3, stored_mono s h4⟩
end
def sNil : Es := fun r m => some (.nx r m)
def sSeq (f g : Es) : Es := fun r m => (f r m).bind fun o => match o with | .nx r1 m1 => g r1 m1 | o => some o
def sSet (i : Nat) (f : Ev) : Es := fun r m => (f r m).map fun p => .nx (r.set i (.fz p.1)) p.2
def sNew (i : Nat) (f : Eas) : Es := fun r m => (f r m).bind fun p => if p.1.length ≤ sizeLine then some (.nx (r.set i (.ow p.2.length)) (p.2 ++ [some (.list p.1)])) else none
def sRet (f : Ev) : Es := fun r m => (f r m).map fun p => .rt p.1 p.2
def sRetN : Es := fun r m => some (.rt .none m)
def sRetL (f : Eas) : Es := fun r m => (f r m).bind fun p => if p.1.length ≤ sizeLine then some (.rn (.list p.1) p.2) else none
def sIf (c : Et) (f g : Es) : Es := fun r m => (c r m).bind fun p => if p.1 = true then f r p.2 else g r p.2
def sDrop (f : Ev) : Es := fun r m => (f r m).map fun p => .nx r p.2
def sBrk : Es := fun r m => some (.bk r m)
def sCont : Es := fun r m => some (.ct r m)
def slO : Option Sl → Option Nat
  | some (.ow k) => some k
  | _ => none
def sApp (i : Nat) (f : Ev) : Es := fun r m => (slO r[i]?).bind fun k => (cellAt m k).bind fun c0 => (f r m).bind fun p => match c0 with
  | .list _ => (cellAt p.2 k).bind fun c => match c with
    | .list ds => if ds.length < sizeLine then some (.nx r (p.2.set k (some (.list (ds ++ [p.1]))))) else none
    | _ => none
  | _ => none
def sPut (i : Nat) (f g : Ev) : Es := fun r m => (slO r[i]?).bind fun k => (f r m).bind fun p => (g r p.2).bind fun q => (cellAt q.2 k).bind fun c => match c, q.1 with
  | .list ds, .int j => (ixN ds.length j).map fun n => .nx r (q.2.set k (some (.list (ds.set n p.1))))
  | _, _ => none
section
variable {X : Cx} {U : Hp} {n0 : Nat} {pos : Pos} {e b : Expr} {es : List Expr} {f g : Ev} {fs : Eas}
theorem qs_nil : PSs X [] (tS X.K U n0 sNil) := pss_weak pss_nil fun D σ H ⟨A, F, r, m, o, G, hn, e, p⟩ => by
  cases e
  exact p A F H σ (List.prefix_refl A) (Same.refl F) G
theorem qs_one {st : Stmt} {s : Es} (h : PS X st (tS X.K U n0 s)) : PSs X [st] (tS X.K U n0 s) := pss_one h
theorem qs_cons {st : Stmt} {rest : List Stmt} {s t : Es} (h1 : PS X st (tS X.K U n0 s)) (h2 : PSs X rest (tS X.K U n0 t)) : PSs X (st :: rest) (tS X.K U n0 (sSeq s t)) := pss_weak (pss_cons h1 h2) fun D σ H ⟨A, F, r, m, o, G, hn, e, p⟩ => by
  unfold sSeq at e
  cases e1 : s r m with
  | none => rw [e1] at e; cases e
  | some o1 =>
    rw [e1] at e
    refine ⟨A, F, r, m, o1, G, hn, e1, ?_⟩
    cases o1 with
    | nx r1 m1 => exact fun A' F' H' σ' ha hf G' => ⟨A', F', r1, m1, o, G', len_of ha hn, e, p.later ha hf⟩
    | rt d m1 => cases e; exact p
    | rn ds m1 => cases e; exact p
    | bk r1 m1 => cases e; exact p
    | ct r1 m1 => cases e; exact p
theorem qs_set {i : Nat} {x : Str} {p1 : Pos} (hN : X.N.Nodup) (hi : X.N[i]? = some x) (hx : Loc X.env.scope x) (he : PE X e (tE X.K U f)) (hs : swapsWith e (some (.Name x p1)) pos.line X.env = pure false := by rfl)
    (hf : X.fn x = true ∨ X.env.scope.names.lookup x = some .local := by first | exact .inl rfl | exact .inr rfl | assumption) : PS X (.Assign [.Name x p1] e pos) (tS X.K U n0 (sSet i f)) := ps_weak (ps_set hN hi hx he hs hf) fun D σ H ⟨A, F, r, m, o, G, hn, e, p⟩ => by
  unfold sSet at e
  cases e1 : f r m with
  | none => rw [e1] at e; cases e
  | some q =>
    rw [e1] at e
    cases e
    exact ⟨A, F, r, m, q.1, q.2, G, e1, fun F1 H1 v s1 G1 h1 => p A F1 H1 _ (List.prefix_refl A) s1 (G1.setFz h1)⟩
theorem qs_new {i : Nat} {x : Str} {p1 p2 : Pos} (hN : X.N.Nodup) (hi : X.N[i]? = some x) (hx : Loc X.env.scope x) (he : PA X es (tAs X.K U fs)) (hs : swapsWith (.List es p2) (some (.Name x p1)) pos.line X.env = pure false := by rfl)
    (hf : X.fn x = true ∨ X.env.scope.names.lookup x = some .local := by first | exact .inl rfl | exact .inr rfl | assumption) : PS X (.Assign [.Name x p1] (.List es p2) pos) (tS X.K U n0 (sNew i fs)) := ps_weak (ps_set hN hi hx (pe_lst he) hs hf) fun D σ H ⟨A, F, r, m, o, G, hn, e, p⟩ => by
  unfold sNew at e
  cases e1 : fs r m with
  | none => rw [e1] at e; cases e
  | some q =>
    rw [e1] at e
    simp only [Option.bind_some] at e
    split at e
    · rename_i hz
      cases e
      refine ⟨A, F, r, m, q.1, q.2, G, e1, fun F1 H1 vs s1 G1 h1 => ⟨by rw [rpa_len h1]; exact hz, fun l hl => ?_⟩⟩
      exact p (A ++ [l]) F1 _ _ (List.prefix_append A [l]) s1 ((G1.laidO hl).setOw (G1.nope hl).1 (G1.nope hl).2 (G1.notin hl) upd_same ⟨_, rfl, h1⟩)
    · cases e
theorem qs_ret (he : PE X e (tE X.K U f)) : PS X (.Return (some e) pos) (tS X.K U n0 (sRet f)) := ps_weak (ps_ret he) fun D σ H ⟨A, F, r, m, o, G, hn, e, p⟩ => by
  unfold sRet at e
  cases e1 : f r m with
  | none => rw [e1] at e; cases e
  | some q =>
    rw [e1] at e
    cases e
    exact ⟨A, F, r, m, q.1, q.2, G, e1, fun F1 H1 v s1 G1 h1 => p A F1 H1 v (List.prefix_refl A) s1 (G1.fin hn) h1⟩
theorem qs_retN : PS X (.Return none pos) (tS X.K U n0 sRetN) := ps_weak ps_retN fun D σ H ⟨A, F, r, m, o, G, hn, e, p⟩ => by
  cases e
  exact p A F H .non (List.prefix_refl A) (Same.refl F) (G.fin hn) .vn
theorem qs_retL {p2 : Pos} (he : PA X es (tAs X.K U fs)) : PS X (.Return (some (.List es p2)) pos) (tS X.K U n0 (sRetL fs)) := ps_weak (ps_ret (pe_lst he)) fun D σ H ⟨A, F, r, m, o, G, hn, e, p⟩ => by
  unfold sRetL at e
  cases e1 : fs r m with
  | none => rw [e1] at e; cases e
  | some q =>
    rw [e1] at e
    simp only [Option.bind_some] at e
    split at e
    · rename_i hz
      cases e
      refine ⟨A, F, r, m, q.1, q.2, G, e1, fun F1 H1 vs s1 G1 h1 => ⟨by rw [rpa_len h1]; exact hz, fun l hl => ?_⟩⟩
      exact p A F1 _ l _ (List.prefix_refl A) s1 ((G1.laidO hl).fin hn) (G1.nope hl).1 (G1.nope hl).2 (fun k _ e2 => G1.notin hl (List.mem_of_getElem? e2)) upd_same ⟨_, rfl, h1⟩
    · cases e
theorem qs_if {c : Expr} {p q : List Stmt} {t : Et} {s u : Es} (hc : PT X c (tT X.K U t)) (ha : PSs X p (tS X.K U n0 s)) (hb : PSs X q (tS X.K U n0 u)) : PS X (.If c p q pos) (tS X.K U n0 (sIf t s u)) := ps_weak (ps_if hc ha hb) fun D σ H ⟨A, F, r, m, o, G, hn, e, po⟩ => by
  unfold sIf at e
  cases e1 : t r m with
  | none => rw [e1] at e; cases e
  | some z =>
    obtain ⟨b1, m1⟩ := z
    rw [e1] at e
    refine ⟨A, F, r, m, b1, m1, G, e1, fun F1 H1 s1 G1 => ?_⟩
    have p1 := po.later (List.prefix_refl A) s1
    cases b1 with
    | true => exact iteT ⟨A, F1, r, m1, o, G1, hn, e, p1⟩
    | false => exact iteF ⟨A, F1, r, m1, o, G1, hn, e, p1⟩
theorem qs_expr (he : PE X e (tE X.K U f)) (hs : swapsWith e none pos.line X.env = pure false := by rfl) : PS X (.Expr e pos) (tS X.K U n0 (sDrop f)) := ps_weak (ps_expr he hs) fun D σ H ⟨A, F, r, m, o, G, hn, e, p⟩ => by
  unfold sDrop at e
  cases e1 : f r m with
  | none => rw [e1] at e; cases e
  | some q =>
    rw [e1] at e
    cases e
    exact ⟨A, F, r, m, q.1, q.2, G, e1, fun F1 H1 v s1 G1 h1 => p A F1 H1 σ (List.prefix_refl A) s1 G1⟩
theorem qs_brk : PS X (.Break pos) (tS X.K U n0 sBrk) := ps_weak ps_break fun D σ H ⟨A, F, r, m, o, G, hn, e, p⟩ => by
  cases e
  exact p A F H σ (List.prefix_refl A) (Same.refl F) G
theorem qs_cont : PS X (.Continue pos) (tS X.K U n0 sCont) := ps_weak ps_continue fun D σ H ⟨A, F, r, m, o, G, hn, e, p⟩ => by
  cases e
  exact p A F H σ (List.prefix_refl A) (Same.refl F) G
theorem slO_some {s : Option Sl} {k : Nat} (e : slO s = some k) : s = some (.ow k) := by
  unfold slO at e
  split at e
  · cases e; rfl
  · cases e
theorem qs_app {i : Nat} {x : Str} {p1 apos cpos : Pos} (hv : PE X (.Name x p1) (tVar i)) (he : PE X e (tE X.K U f)) (hbase : attributeBase (.Name x p1) "append" X.env (eval (.Name x p1) X.env) = eval (.Name x p1) X.env := by rfl)
    (hfew : ((backTo cpos (starEach [e] X.env)).all (fun x => !x.1) && (backToKw cpos (keywordEach [] X.env)).all (fun x => x.1.isSome) && decide ([e].length + ([] : List Keyword).length + (if ([] : List Keyword).isEmpty then 0 else 1) < 30)) = true := by rfl)
    (hline : (apos.endLine == cpos.line) = true := by rfl) (hse : starEach [e] X.env = (false, eval e X.env) :: starEach [] X.env := by rfl) (hplain : (backTo cpos (starEach [] X.env)).any (·.1) = false := by rfl)
    (hs : swapsWith (.Call (.Attribute (.Name x p1) "append" apos) [e] [] cpos) none pos.line X.env = pure false := by rfl) :
    PS X (.Expr (.Call (.Attribute (.Name x p1) "append" apos) [e] [] cpos) pos) (tS X.K U n0 (sApp i f)) :=
  ps_weak (ps_expr (pe_bm PySem.F.plainAttrs_list PySem.F.slot_list_append PySem.F.type_list_append mt_append hv (pa_cons he pa_nil hse) hbase hfew hline hse hplain) hs) fun D σ H ⟨A, F, r, m, o, G, hn, e, p⟩ => by
  unfold sApp at e
  cases e0 : slO r[i]? with
  | none => rw [e0] at e; cases e
  | some k =>
    rw [e0] at e
    simp only [Option.bind_some] at e
    obtain ⟨a, hA, hσ⟩ := G.ow i k (slO_some e0)
    cases e9 : cellAt m k with
    | none => rw [e9] at e; cases e
    | some ds9 =>
    rw [e9] at e
    simp only [Option.bind_some] at e
    cases e1 : f r m with
    | none => rw [e1] at e; cases e
    | some q =>
      obtain ⟨d, m1⟩ := q
      rw [e1] at e
      simp only [Option.bind_some] at e
      split at e
      · obtain ⟨_, _, o0, hH0, hs0⟩ := G.cl k a _ hA e9
        obtain ⟨vs0, ho, _⟩ := hs0
        subst ho
        refine ⟨_, hσ, .inl ⟨rfl, _, .inl (.inl hH0)⟩, A, F, r, m, d, m1, G, e1, fun F1 H1 v s1 G1 h1 => ?_⟩
        cases e2 : cellAt m1 k with
        | none => rw [e2] at e; cases e
        | some c =>
          rw [e2] at e
          simp only [Option.bind_some] at e
          split at e
          · split at e
            · rename_i hz
              cases e
              obtain ⟨c1, c2, o3, c3, vs, c5, c4⟩ := G1.cl k a _ hA e2
              subst c5
              refine ⟨a, vs, v, rfl, rfl, c3, by rw [rpa_len c4]; exact hz, ?_⟩
              exact p A F1 _ σ (List.prefix_refl A) s1 (G1.setCell hA e2 ⟨_, rfl, rpa_app c4 (.cons h1 .nil)⟩)
            · cases e
          · cases e
      · cases e
theorem qs_put {i : Nat} {x : Str} {p1 p2 : Pos} (hv : PE X (.Name x p1) (tVar i)) (he : PE X e (tE X.K U f)) (hb : PE X b (tE X.K U g)) (hg : ∀ {to ti : TE}, PE X (.Name x p1) to → PE X b ti → PG X (.Subscript (.Name x p1) b p2) (gSub to ti rSetL))
    (hs : swapsWithSole [.Subscript (.Name x p1) b p2] e pos.line X.env = pure false := by rfl) (hw : swappedStores [.Subscript (.Name x p1) b p2] e X.env = pure none := by rfl) (h1 : (assignEach [.Subscript (.Name x p1) b p2] X.env).map (·.2) = [assign (.Subscript (.Name x p1) b p2) X.env] := by rfl) :
    PS X (.Assign [.Subscript (.Name x p1) b p2] e pos) (tS X.K U n0 (sPut i f g)) := ps_weak (ps_asg he (hg hv hb) hs hw h1) fun D σ H ⟨A, F, r, m, o, G, hn, e, p⟩ => by
  unfold sPut at e
  cases e0 : slO r[i]? with
  | none => rw [e0] at e; cases e
  | some k =>
    rw [e0] at e
    simp only [Option.bind_some] at e
    obtain ⟨a, hA, hσ⟩ := G.ow i k (slO_some e0)
    cases e1 : f r m with
    | none => rw [e1] at e; cases e
    | some q =>
      obtain ⟨d, m1⟩ := q
      rw [e1] at e
      simp only [Option.bind_some] at e
      cases e2 : g r m1 with
      | none => rw [e2] at e; cases e
      | some q2 =>
        obtain ⟨d2, m2⟩ := q2
        rw [e2] at e
        simp only [Option.bind_some] at e
        cases e3 : cellAt m2 k with
        | none => rw [e3] at e; cases e
        | some c =>
          rw [e3] at e
          simp only [Option.bind_some] at e
          refine ⟨A, F, r, m, d, m1, G, e1, fun F1 H1 v s1 G1 h1 => ⟨_, hσ, A, F1, r, m1, d2, m2, G1, e2, fun F2 H2 w s2 G2 h2 => ?_⟩⟩
          split at e
          · rename_i ds j
            obtain ⟨c1, c2, o3, c3, vs, c5, c4⟩ := G2.cl k a _ hA e3
            subst c5
            cases h2
            cases e4 : ixN ds.length j with
            | none => rw [e4] at e; cases e
            | some n =>
              rw [e4] at e
              cases e
              refine ⟨a, vs, j, n, rfl, rfl, c3, by rw [rpa_len c4]; exact e4, ?_⟩
              exact p A F2 _ σ (List.prefix_refl A) (s1.trans s2) (G2.setCell hA e3 ⟨_, rfl, rpa_set (Rpm s2 h1) n c4⟩)
          · cases e
end
end TL

end
/-! TL7 -/
section
set_option maxHeartbeats 4000000
namespace TL
open PySem L2

/-! ## targets -/
abbrev Eh := PyData → Rs → Option Rs
/-- writes the slots of is, no other -/
def tG (K : PySem.W.Frag) (U : Hp) (is : List Nat) (h : Eh) : TG := fun v σ H Q => ∃ (A : List Addr) (F : Hp) (r : Rs) (m : Ms) (d : PyData) (r' : Rs), Good K U A F H σ r m ∧ Rp K F v d ∧ h d r = some r' ∧
  ∀ σ' : St, Good K U A F H σ' r' m → (∀ j, j ∉ is → σ'[j]? = σ[j]?) → σ'.length = σ.length → Q σ' H
abbrev Ehs := List PyData → Rs → Option Rs
def tGs (K : PySem.W.Frag) (U : Hp) (is : List Nat) (h : Ehs) : TGs := fun vs σ H Q => ∃ (A : List Addr) (F : Hp) (r : Rs) (m : Ms) (ds : List PyData) (r' : Rs), Good K U A F H σ r m ∧ RpAll K F vs ds ∧ h ds r = some r' ∧
  ∀ σ' : St, Good K U A F H σ' r' m → (∀ j, j ∉ is → σ'[j]? = σ[j]?) → σ'.length = σ.length → Q σ' H
def hNm (i : Nat) : Eh := fun d r => some (r.set i (.fz d))
def hNil : Ehs := fun ds r => match ds with | [] => some r | _ => none
def hCons (f : Eh) (g : Ehs) : Ehs := fun ds r => match ds with | d :: ds => (f d r).bind fun r1 => g ds r1 | [] => none
def hTup (g : Ehs) (n : Nat) : Eh := fun d r => match d with | .tuple ds => if ds.length = n then g ds r else none | _ => none
theorem pg_weak {X : Cx} {e : Expr} {t t' : TG} (h : PG X e t) (w : ∀ v σ H Q, t' v σ H Q → t v σ H Q) : PG X e t' := ⟨fun pins s σ H v u Q I r q => h.run pins s σ H v u Q I r (w v σ H Q q)⟩
theorem pgs_weak {X : Cx} {e : List Expr} {t t' : TGs} (h : PGs X e t) (w : ∀ v σ H Q, t' v σ H Q → t v σ H Q) : PGs X e t' := ⟨fun pins s σ H vs us Q I r q => h.run pins s σ H vs us Q I r (w vs σ H Q q)⟩
section
variable {X : Cx} {U : Hp} {pos : Pos}
theorem qg_name {i : Nat} {x : Str} (hN : X.N.Nodup) (hi : X.N[i]? = some x) (hx : Loc X.env.scope x) (hf : X.fn x = true ∨ X.env.scope.names.lookup x = some .local := by first | exact .inl rfl | exact .inr rfl | assumption) : PG X (.Name x pos) (tG X.K U [i] (hNm i)) :=
  pg_weak (pg_name hN hi hx hf) fun v σ H Q ⟨A, F, r, m, d, r', G, h, e, k⟩ => by
    cases e
    exact k _ (G.setFz h) (fun j hj => List.getElem?_set_ne (fun z => hj (by rw [z]; exact List.mem_singleton_self j))) List.length_set
theorem qgs_nil : PGs X [] (tGs X.K U [] hNil) := pgs_weak pgs_nil fun vs σ H Q ⟨A, F, r, m, ds, r', G, h, e, k⟩ => by
  unfold hNil at e
  split at e
  · cases e
    cases h
    exact ⟨rfl, k σ G (fun _ _ => rfl) rfl⟩
  · cases e
theorem qgs_cons {e : Expr} {es : List Expr} {is js : List Nat} {f : Eh} {g : Ehs} (h1 : PG X e (tG X.K U is f)) (h2 : PGs X es (tGs X.K U js g))
    (hs : (assignEach (e :: es) X.env).map (·.2) = assign e X.env :: (assignEach es X.env).map (·.2) := by rfl) : PGs X (e :: es) (tGs X.K U (is ++ js) (hCons f g)) := pgs_weak (pgs_cons h1 h2 hs) fun vs σ H Q ⟨A, F, r, m, ds, r', G, h, e, k⟩ => by
  unfold hCons at e
  split at e
  · rename_i d ds
    cases h with
    | cons ha hb =>
      cases e1 : f d r with
      | none => rw [e1] at e; cases e
      | some r1 =>
        rw [e1] at e
        refine ⟨_, _, rfl, A, F, r, m, d, r1, G, ha, e1, fun σ1 G1 k1 l1 => ⟨A, F, r1, m, ds, r', G1, hb, e, fun σ2 G2 k2 l2 => k σ2 G2 (fun j hj => ?_) (l2.trans l1)⟩⟩
        rw [List.mem_append, not_or] at hj
        exact (k2 j hj.2).trans (k1 j hj.1)
  · cases e
theorem qg_tup {es : List Expr} {kk : Nat} {is : List Nat} {g : Ehs} {n : Nat} (hc : X.calm = true) (h : PGs X es (tGs X.K U is g)) (hn : (assignEach es X.env).length = n := by rfl) (hst : (assignEach es X.env).findIdx? (·.1) = none := by rfl) :
    PG X (.Tuple es kk pos) (tG X.K U is (hTup g n)) := pg_weak (pg_tup hc h hn hst) fun v σ H Q ⟨A, F, r, m, d, r', G, h, e, k⟩ => by
  unfold hTup at e
  split at e
  · split at e
    · rename_i hz
      cases h with
      | vt sa ra => exact ⟨_, _, rfl, seqT_mono G.sub sa, (rpa_len ra).trans hz, A, F, r, m, _, r', G, ra, e, k⟩
    · cases e
  · cases e
def sAsg (f : Ev) (h : Eh) : Es := fun r m => (f r m).bind fun p => (h p.1 r).map fun r' => .nx r' p.2
theorem qs_asg {n0 : Nat} {tg e : Expr} {f : Ev} {is : List Nat} {h : Eh} (he : PE X e (tE X.K U f)) (hg : PG X tg (tG X.K U is h)) (hs : swapsWithSole [tg] e pos.line X.env = pure false := by rfl) (hw : swappedStores [tg] e X.env = pure none := by rfl)
    (h1 : (assignEach [tg] X.env).map (·.2) = [assign tg X.env] := by rfl) : PS X (.Assign [tg] e pos) (tS X.K U n0 (sAsg f h)) := ps_weak (ps_asg he hg hs hw h1) fun D σ H ⟨A, F, r, m, o, G, hn, e, p⟩ => by
  unfold sAsg at e
  cases e1 : f r m with
  | none => rw [e1] at e; cases e
  | some q =>
    rw [e1] at e
    simp only [Option.bind_some] at e
    cases e2 : h q.1 r with
    | none => rw [e2] at e; cases e
    | some r' =>
      rw [e2] at e
      cases e
      exact ⟨A, F, r, m, q.1, q.2, G, e1, fun F1 H1 v s1 G1 h1 => ⟨A, F1, r, q.2, q.1, r', G1, h1, e2, fun σ' G' _ _ => p A F1 H1 σ' (List.prefix_refl A) s1 G'⟩⟩
end

/-! ## what is walked -/
structure Wk (K : PySem.W.Frag) (Z : Hp) (J : It) (F : Hp) (ds : List PyData) : Prop where
  go : ∀ (U : Hp) (A : List Addr) (σ : St) (r : Rs) (m : Ms) (F1 H1 : Hp) (i : Nat) (d : PyData), Same Z U → Same F F1 → Good K U A F1 H1 σ r m → ds[i]? = some d →
    J.go i H1 ∧ ∀ x H2, J.yld i H1 x H2 → ∃ F2, Same F1 F2 ∧ Good K U A F2 H2 σ r m ∧ Rp K F2 x d
  stop : ∀ (F1 H1 : Hp), Same Z H1 → Same F F1 → Same F1 H1 → J.stop ds.length H1
def tIt (K : PySem.W.Frag) (U : Hp) (f : Eas) : TI := fun σ H R => ∃ (A : List Addr) (F : Hp) (r : Rs) (m : Ms) (ds : List PyData) (m' : Ms), Good K U A F H σ r m ∧ f r m = some (ds, m') ∧
  ∀ (F' H' : Hp) (J : It), Same F F' → Good K U A F' H' σ r m' → Wk K U J F' ds → R J H'
theorem wk_list {K : PySem.W.Frag} {Z F : Hp} {a : Addr} {xs : List V} {ds : List PyData} (hs : SqL K F a xs) (hr : RpAll K F xs ds) : Wk K Z (Itl K a) F ds where
  go := fun U A σ r m F1 H1 i d _ s1 G1 e => by
    obtain ⟨v, h1, h2⟩ := rpa_get hr e
    have hq : SqL K H1 a xs := (sqL_mono (s1.trans G1.sub) hs)
    refine ⟨⟨xs, v, hq, h1⟩, fun x H2 hy => ?_⟩
    obtain ⟨e2, hy⟩ := hy
    subst e2
    have := hy xs hq
    rw [h1] at this
    cases this
    exact ⟨F1, Same.refl F1, G1, Rpm s1 h2⟩
  stop := fun F1 H1 _ s1 s2 => ⟨xs, (sqL_mono (s1.trans s2) hs), by rw [rpa_len hr]; exact Nat.le_refl _⟩
theorem wk_tup {K : PySem.W.Frag} {Z F : Hp} {a : Addr} {xs : List V} {ds : List PyData} (hs : SqT K F a xs) (hr : RpAll K F xs ds) : Wk K Z (Itt K a) F ds where
  go := fun U A σ r m F1 H1 i d _ s1 G1 e => by
    obtain ⟨v, h1, h2⟩ := rpa_get hr e
    have hq : SqT K H1 a xs := seqT_mono (s1.trans G1.sub) hs
    refine ⟨⟨xs, v, hq, h1⟩, fun x H2 hy => ?_⟩
    obtain ⟨e2, hy⟩ := hy
    subst e2
    have := hy xs hq
    rw [h1] at this
    cases this
    exact ⟨F1, Same.refl F1, G1, Rpm s1 h2⟩
  stop := fun F1 H1 _ s1 s2 => ⟨xs, seqT_mono (s1.trans s2) hs, by rw [rpa_len hr]; exact Nat.le_refl _⟩
def signs (x : Str) : List PyData := x.cps.toList.map fun c => .str ⟨#[c]⟩
theorem wk_str {K : PySem.W.Frag} {Z F : Hp} {x : Str} : Wk K Z (Its x) F (signs x) where
  go := fun U A σ r m F1 H1 i d _ s1 G1 e => by
    unfold signs at e
    rw [List.getElem?_map] at e
    cases e1 : x.cps.toList[i]? with
    | none => rw [e1] at e; cases e
    | some c =>
      rw [e1] at e
      cases e
      have e1' : x.cps[i]? = some c := by rw [← Array.getElem?_toList]; exact e1
      have hi : i < x.cps.size := (Array.getElem?_eq_some_iff.mp e1').1
      refine ⟨hi, fun v H2 hy => ?_⟩
      obtain ⟨e2, c', e3, e4⟩ := hy
      subst e2 e4
      rw [e1'] at e3
      cases e3
      exact ⟨F1, Same.refl F1, G1, .vs _⟩
  stop := fun F1 H1 _ s1 s2 => by
    show x.cps.size ≤ (signs x).length
    unfold signs
    rw [List.length_map]
    simp
def rangeD (lo : Int) (n : Nat) : List PyData := (List.range n).map fun i => .int (lo + (i : Nat))
theorem wk_range {K : PySem.W.Frag} {Z F : Hp} {lo : Int} {n : Nat} : Wk K Z (Itr lo n) F (rangeD lo n) where
  go := fun U A σ r m F1 H1 i d _ s1 G1 e => by
    unfold rangeD at e
    rw [List.getElem?_map] at e
    by_cases hi : i < n
    · rw [List.getElem?_range hi] at e
      cases e
      refine ⟨hi, fun v H2 hy => ?_⟩
      obtain ⟨e2, e4⟩ := hy
      subst e2 e4
      exact ⟨F1, Same.refl F1, G1, .vi _⟩
    · rw [List.getElem?_eq_none (by rw [List.length_range]; omega)] at e
      cases e
  stop := fun F1 H1 _ s1 s2 => by
    show n ≤ (rangeD lo n).length
    unfold rangeD
    rw [List.length_map, List.length_range]
    exact Nat.le_refl n
def itemsD : PyData → Option (List PyData)
  | .list ds => some ds
  | .tuple ds => some ds
  | .str x => some (signs x)
  | _ => none
def eIts (f : Ev) : Eas := fun r m => (f r m).bind fun p => (itemsD p.1).map fun ds => (ds, p.2)
def eRg1 (f : Eas) : Eas := fun r m => (f r m).bind fun p => match p.1 with
  | [.int j] => if -(2 ^ 62) ≤ j ∧ j < 2 ^ 62 then some (rangeD 0 j.toNat, p.2) else none
  | _ => none
def eRg2 (f : Eas) : Eas := fun r m => (f r m).bind fun p => match p.1 with
  | [.int i, .int j] => if -(2 ^ 62) ≤ i ∧ i < 2 ^ 62 ∧ -(2 ^ 62) ≤ j ∧ j < 2 ^ 62 then some (rangeD i (j - i).toNat, p.2) else none
  | _ => none
def enumD (ds : List PyData) : List PyData := ds.zipIdx.map fun p => .tuple [.int (p.2 : Nat), p.1]
def eEnum (f : Ev) : Eas := fun r m => (f r m).bind fun p => match p.1 with
  | .list ds => some (enumD ds, p.2)
  | _ => none
section
variable {X : Cx} {U : Hp} {tg e a b : Expr} {f : Ev} {fs : Eas} {p pos tpos : Pos}
theorem qi_its (he : PE X e (tE X.K U f)) : PI X tg e (tIt X.K U (eIts f)) := by
  refine ⟨fun pins s σ H R I ⟨A, F, r, m, ds, m', G, e0, k⟩ => ?_⟩
  unfold eIts at e0
  cases e1 : f r m with
  | none => rw [e1] at e0; cases e0
  | some q =>
    obtain ⟨d, m1⟩ := q
    rw [e1] at e0
    simp only [Option.bind_some] at e0
    cases d with
    | list es =>
      cases e0
      refine (pi_list he).run pins s σ H R I ⟨A, F, r, m, .list ds, m', G, e1, fun F1 H1 v s1 G1 h1 => ?_⟩
      cases h1 with
      | vl sa ra => exact ⟨_, rfl, ⟨_, (sqL_mono G1.sub sa)⟩, k F1 H1 _ s1 G1 (wk_list sa ra)⟩
    | tuple es =>
      cases e0
      refine (pi_tup he).run pins s σ H R I ⟨A, F, r, m, .tuple ds, m', G, e1, fun F1 H1 v s1 G1 h1 => ?_⟩
      cases h1 with
      | vt sa ra => exact ⟨_, rfl, ⟨_, seqT_mono G1.sub sa⟩, k F1 H1 _ s1 G1 (wk_tup sa ra)⟩
    | str x =>
      cases e0
      refine (pi_str he).run pins s σ H R I ⟨A, F, r, m, .str x, m', G, e1, fun F1 H1 v s1 G1 h1 => ?_⟩
      cases h1
      exact ⟨_, rfl, k F1 H1 _ s1 G1 wk_str⟩
    | _ => cases e0
theorem qi_range1 (hg : Gl X "range") (hm : X.mg "range" = none) (ha : PA X [a] (tAs X.K U fs)) (hs : starEach [a] X.env = [(false, eval a X.env)] := by rfl) : PI X tg (.Call (.Name "range" p) [a] [] pos) (tIt X.K U (eRg1 fs)) := by
  refine ⟨fun pins s σ H R I ⟨A, F, r, m, ds, m', G, e0, k⟩ => ?_⟩
  unfold eRg1 at e0
  cases e1 : fs r m with
  | none => rw [e1] at e0; cases e0
  | some q =>
    obtain ⟨es, m1⟩ := q
    rw [e1] at e0
    simp only [Option.bind_some] at e0
    split at e0
    · split at e0
      · rename_i j hj
        cases e0
        refine (pi_range1 hg hm ha hs).run pins s σ H R I ⟨A, F, r, m, _, m', G, e1, fun F1 H1 vs s1 G1 h1 => ?_⟩
        obtain ⟨v, rfl, h⟩ := rpa1 h1
        cases h
        exact ⟨j, rfl, hj.1, hj.2, k F1 H1 _ s1 G1 wk_range⟩
      · cases e0
    · cases e0
theorem qi_range2 (hg : Gl X "range") (hm : X.mg "range" = none) (ha : PA X [a, b] (tAs X.K U fs)) (hs : starEach [a, b] X.env = [(false, eval a X.env), (false, eval b X.env)] := by rfl) (hs2 : starEach [b] X.env = [(false, eval b X.env)] := by rfl) :
    PI X tg (.Call (.Name "range" p) [a, b] [] pos) (tIt X.K U (eRg2 fs)) := by
  refine ⟨fun pins s σ H R I ⟨A, F, r, m, ds, m', G, e0, k⟩ => ?_⟩
  unfold eRg2 at e0
  cases e1 : fs r m with
  | none => rw [e1] at e0; cases e0
  | some q =>
    obtain ⟨es, m1⟩ := q
    rw [e1] at e0
    simp only [Option.bind_some] at e0
    split at e0
    · split at e0
      · rename_i i j hj
        cases e0
        refine (pi_range2 hg hm ha hs hs2).run pins s σ H R I ⟨A, F, r, m, _, m', G, e1, fun F1 H1 vs s1 G1 h1 => ?_⟩
        obtain ⟨v, w, rfl, h, h'⟩ := rpa2 h1
        cases h; cases h'
        exact ⟨i, j, rfl, hj, k F1 H1 _ s1 G1 wk_range⟩
      · cases e0
    · cases e0
theorem wk_enum {K : PySem.W.Frag} {Z F : Hp} {a : Addr} {xs : List V} {ds : List PyData} (hs : SqL K F a xs) (hr : RpAll K F xs ds) : Wk K Z (Ite K a) F (enumD ds) where
  go := fun U A σ r m F1 H1 i d _ s1 G1 e => by
    unfold enumD at e
    rw [List.getElem?_map, List.getElem?_zipIdx] at e
    cases e1 : ds[i]? with
    | none => rw [e1] at e; cases e
    | some d1 =>
      rw [e1] at e
      simp only [Option.map_some, Nat.zero_add, Option.some.injEq] at e
      subst e
      obtain ⟨v, h1, h2⟩ := rpa_get hr e1
      have hq : SqL K H1 a xs := (sqL_mono (s1.trans G1.sub) hs)
      refine ⟨⟨xs, v, hq, h1⟩, fun x H2 hy => ?_⟩
      obtain ⟨T, y, e2, nT, e3, hy⟩ := hy
      have := hy xs hq
      rw [h1] at this
      cases this
      subst e2 e3
      have sF : Same F1 (upd F1 T (.tup [.int (i : Nat), v])) := same_new (G1.nope nT).1
      exact ⟨_, sF, G1.laid nT, .vt (.inl (.inl upd_same)) (.cons (.vi _) (.cons (Rpm (s1.trans sF) h2) .nil))⟩
  stop := fun F1 H1 _ s1 s2 => ⟨xs, (sqL_mono (s1.trans s2) hs), by
    unfold enumD
    rw [List.length_map, List.length_zipIdx, rpa_len hr]
    exact Nat.le_refl _⟩
theorem qi_enum {elts : List Expr} {kk : Nat} (hg : Gl X "enumerate") (hm : X.mg "enumerate" = none) (ha : PE X e (tE X.K U f)) (hs : starEach [e] X.env = [(false, eval e X.env)] := by rfl) (hs' : starEach [e] X.env = (false, eval e X.env) :: starEach [] X.env := by rfl) :
    PI X (.Tuple elts kk tpos) (.Call (.Name "enumerate" p) [e] [] pos) (tIt X.K U (eEnum f)) := by
  refine ⟨fun pins s σ H R I ⟨A, F, r, m, ds, m', G, e0, k⟩ => ?_⟩
  unfold eEnum at e0
  cases e1 : f r m with
  | none => rw [e1] at e0; cases e0
  | some q =>
    obtain ⟨d, m1⟩ := q
    rw [e1] at e0
    simp only [Option.bind_some] at e0
    split at e0
    · cases e0
      refine (pi_enum hg hm (pa_cons ha pa_nil hs') hs).run pins s σ H R I ⟨A, F, r, m, _, m', G, e1, fun F1 H1 v s1 G1 h1 => ?_⟩
      cases h1 with
      | vl sa ra => exact ⟨_, _, rfl, (sqL_mono G1.sub sa), k F1 H1 _ s1 G1 (wk_enum sa ra)⟩
    · cases e0
end

/-! ## for -/
def loopS (h : Eh) (body : Es) : List PyData → Es
  | [], r, m => some (.nx r m)
  | d :: ds, r, m => (h d r).bind fun r1 => (body r1 m).bind fun o => match o with
    | .nx r2 m2 => loopS h body ds r2 m2
    | .ct r2 m2 => loopS h body ds r2 m2
    | .bk r2 m2 => some (.nx r2 m2)
    | o => some o
def sFor (fi : Eas) (h : Eh) (body : Es) : Es := fun r m => (fi r m).bind fun p => loopS h body p.1 r p.2
section
variable {X : Cx} {U : Hp} {n0 : Nat} {tg iter : Expr} {body : List Stmt} {fi : Eas} {h : Eh} {s : Es} {is : List Nat} {pos : Pos}
theorem qs_for (hp : PassesOwn (model X.prog X.w) X.A X.env X.xe) (hc : X.calm = true) (hi : PI X tg iter (tIt X.K U fi)) (hg : PG X tg (tG X.K U is h)) (hb : PSs X body (tS X.K U n0 s)) (hs : ∀ x, foldedSetIterable iter X.env x = pure x := by intro _; rfl) :
    PS X (.For tg iter body [] pos) (tS X.K U n0 (sFor fi h s)) := ps_weak (ps_for hp hc hi hg hb hs) fun D σ H ⟨A, F, r, m, o, G, hn, e, p⟩ => by
  unfold sFor at e
  cases e1 : fi r m with
  | none => rw [e1] at e; cases e
  | some q =>
    obtain ⟨ds, m1⟩ := q
    rw [e1] at e
    simp only [Option.bind_some] at e
    refine ⟨A, F, r, m, ds, m1, G, e1, fun F1 H1 J s1 G1 W1 => ?_⟩
    refine ⟨fun i mm σ2 H2 => mm = ds.length - i ∧ i ≤ ds.length ∧ ∃ (A2 : List Addr) (F2 : Hp) (r2 : Rs) (m2 : Ms), A <+: A2 ∧ Same F1 F2 ∧ Good X.K U A2 F2 H2 σ2 r2 m2 ∧ loopS h s (ds.drop i) r2 m2 = some o, ⟨ds.length, by simp, Nat.zero_le _, A, F1, r, m1, List.prefix_refl A, Same.refl F1, G1, by rw [List.drop_zero]; exact e⟩, ?_⟩
    rintro i mm σ2 H2 ⟨rfl, hi2, A2, F2, r2, m2, hA, hF, G2, e2⟩
    by_cases hlt : i < ds.length
    · rw [List.drop_eq_getElem_cons hlt] at e2
      unfold loopS at e2
      cases e3 : h ds[i] r2 with
      | none => rw [e3] at e2; cases e2
      | some r3 =>
        rw [e3] at e2
        simp only [Option.bind_some] at e2
        cases e4 : s r3 m2 with
        | none => rw [e4] at e2; cases e2
        | some o4 =>
          rw [e4] at e2
          simp only [Option.bind_some] at e2
          obtain ⟨w1, w2⟩ := W1.go U A2 σ2 r2 m2 F2 H2 i ds[i] (Same.refl U) hF G2 (List.getElem?_eq_getElem hlt)
          refine .inr ⟨w1, fun σ' H' => ∃ (A' : List Addr) (F' : Hp) (r' : Rs) (m' : Ms), A <+: A' ∧ Same F1 F' ∧ Good X.K U A' F' H' σ' r' m' ∧ loopS h s (ds.drop (i + 1)) r' m' = some o, fun σ' H' w => ⟨ds.length - (i + 1), by omega, rfl, hlt, w⟩, fun x H3 hy => ?_⟩
          obtain ⟨F3, s3, G3, h3⟩ := w2 x H3 hy
          refine ⟨A2, F3, r2, m2, ds[i], r3, G3, h3, e3, fun σ4 G4 _ _ => ⟨A2, F3, r3, m2, o4, G4, len_of hA hn, e4, ?_⟩⟩
          have hF3 : Same F1 F3 := hF.trans s3
          have past := fun {A' : List Addr} {F' : Hp} (ha : A2 <+: A') (hf : Same F3 F') => Post.later (K := X.K) (U := U) (n0 := n0) (D := D) (hA.trans ha) (s1.trans (hF3.trans hf)) p
          cases o4 with
          | nx r5 m5 => exact fun A' F' H' σ' ha hf G' => ⟨A', F', r5, m5, hA.trans ha, hF3.trans hf, G', e2⟩
          | ct r5 m5 => exact fun A' F' H' σ' ha hf G' => ⟨A', F', r5, m5, hA.trans ha, hF3.trans hf, G', e2⟩
          | bk r5 m5 =>
            cases e2
            exact fun A' F' H' σ' ha hf G' => past ha hf A' F' H' σ' (List.prefix_refl A') (Same.refl F') G'
          | rt d m5 =>
            cases e2
            exact fun A' F' H' v ha hf Fi hv => past ha hf A' F' H' v (List.prefix_refl A') (Same.refl F') Fi hv
          | rn ds5 m5 =>
            cases e2
            exact fun A' F' H' a u ha hf Fi q1 q2 q3 q4 q5 => past ha hf A' F' H' a u (List.prefix_refl A') (Same.refl F') Fi q1 q2 q3 q4 q5
    · have ei : i = ds.length := by omega
      subst ei
      rw [List.drop_length] at e2
      cases e2
      exact .inl ⟨W1.stop F2 H2 (fun b o e => (G2.fo b o e).1) hF G2.sub, p A2 F2 H2 σ2 hA (s1.trans hF) G2⟩
end
end TL

end
/-! TL8 -/
section
set_option maxHeartbeats 4000000
namespace TL
open PySem L2

/-! ## comprehensions -/
def eYes : Et := fun _ m => some (true, m)
theorem pts_weak {X : Cx} {e : List Expr} {t t' : TT} (h : PTs X e t) (w : ∀ σ H Q, t' σ H Q → t σ H Q) : PTs X e t' := ⟨fun pins s σ H Q I q => h.run pins s σ H Q I (w σ H Q q)⟩
theorem qts_nil {X : Cx} {U : Hp} : PTs X [] (tT X.K U eYes) := pts_weak pts_nil fun σ H Q ⟨A, F, r, m, b, m', G, e, k⟩ => by
  cases e
  exact k F H (Same.refl F) G
def wipeR (r : Rs) : List Nat → Rs
  | [] => r
  | v :: vs => (wipeR r vs).set v .un
def lcLoop (h : Eh) (t : Et) (f : Ev) (r : Rs) : List PyData → Ms → List PyData → Option (List PyData × Ms)
  | [], m, acc => some (acc, m)
  | d :: ds, m, acc => (h d r).bind fun r1 => (t r1 m).bind fun b => if b.1 = true then (f r1 b.2).bind fun x => if acc.length < sizeLine then lcLoop h t f r ds x.2 (acc ++ [x.1]) else none else lcLoop h t f r ds b.2 acc
def eLc (fi : Eas) (own : List Nat) (h : Eh) (t : Et) (f : Ev) : Ev := fun r m => (fi r m).bind fun p => (lcLoop h t f (wipeR r own) p.1 p.2 []).map fun q => (.list q.1, q.2)
section
variable {K : PySem.W.Frag} {U : Hp} {A : List Addr} {F H F' H' : Hp} {σ σ' : St} {r r' : Rs} {m m' : Ms}
theorem wipeR_len (r : Rs) : ∀ vs : List Nat, (wipeR r vs).length = r.length
  | [] => rfl
  | v :: vs => by unfold wipeR; rw [List.length_set, wipeR_len r vs]
theorem wipeR_out {r : Rs} {i : Nat} : ∀ {vs : List Nat}, i ∉ vs → (wipeR r vs)[i]? = r[i]?
  | [], _ => rfl
  | v :: vs, h => by
    unfold wipeR
    rw [List.mem_cons, not_or] at h
    rw [List.getElem?_set_ne (Ne.symm h.1), wipeR_out h.2]
theorem wipeR_in {r : Rs} {i : Nat} : ∀ {vs : List Nat}, i ∈ vs → (wipeR r vs)[i]? = some .un ∨ (wipeR r vs)[i]? = none
  | [], h => by cases h
  | v :: vs, h => by
    unfold wipeR
    by_cases hi : v = i
    · subst hi
      by_cases hl : v < (wipeR r vs).length
      · exact .inl (List.getElem?_set_self hl)
      · exact .inr (List.getElem?_eq_none (by rw [List.length_set]; omega))
    · rw [List.getElem?_set_ne hi]
      rcases List.mem_cons.mp h with q | q
      · exact absurd q.symm hi
      · exact wipeR_in q
theorem wipe_out {σ : St} {i : Nat} : ∀ {vs : List Nat}, i ∉ vs → (wipe σ vs)[i]? = σ[i]?
  | [], _ => rfl
  | v :: vs, h => by
    unfold wipe
    rw [List.mem_cons, not_or] at h
    rw [List.getElem?_set_ne (Ne.symm h.1), wipe_out h.2]
theorem wipe_in {σ : St} {i : Nat} : ∀ {vs : List Nat}, i ∈ vs → i < σ.length → (wipe σ vs)[i]? = some none
  | [], h, _ => by cases h
  | v :: vs, h, hl => by
    unfold wipe
    by_cases hi : v = i
    · subst hi
      exact List.getElem?_set_self (by rw [wipe_length]; exact hl)
    · rw [List.getElem?_set_ne hi]
      rcases List.mem_cons.mp h with q | q
      · exact absurd q.symm hi
      · exact wipe_in q hl
theorem wipe_eq {σ σ' : St} {vs : List Nat} (hl : σ'.length = σ.length) (h : ∀ j, j ∉ vs → σ'[j]? = σ[j]?) : wipe σ' vs = wipe σ vs := by
  apply List.ext_getElem?
  intro i
  by_cases hi : i ∈ vs
  · by_cases hn : i < σ.length
    · rw [wipe_in hi hn, wipe_in hi (by omega)]
    · rw [List.getElem?_eq_none (by rw [wipe_length]; omega), List.getElem?_eq_none (by rw [wipe_length]; omega)]
  · rw [wipe_out hi, wipe_out hi, h i hi]
theorem wipe_twice {σ : St} {vs : List Nat} : wipe (wipe σ vs) vs = wipe σ vs := wipe_eq (wipe_length σ vs) fun j hj => wipe_out hj
/-- the comprehension's own names forgotten -/
theorem Good.wiped (G : Good K U A F H σ r m) (vs : List Nat) : Good K U A F H (wipe σ vs) (wipeR r vs) m := by
  refine ⟨G.sub, G.fo, by rw [wipeR_len, wipe_length]; exact G.len, fun i d e => ?_, fun i k e => ?_, G.al, G.cl, G.nd, G.he⟩
  · by_cases hi : i ∈ vs
    · rcases wipeR_in (r := r) hi with q | q
      · rw [q] at e; cases e
      · rw [q] at e; cases e
    · rw [wipeR_out hi] at e
      rw [wipe_out hi]
      exact G.fz i d e
  · by_cases hi : i ∈ vs
    · rcases wipeR_in (r := r) hi with q | q
      · rw [q] at e; cases e
      · rw [q] at e; cases e
    · rw [wipeR_out hi] at e
      rw [wipe_out hi]
      exact G.ow i k e
/-- the elder slots over a later heap -/
theorem Good.mix {U' : Hp} (G : Good K U A F H σ r m) (G' : Good K U' A F' H' σ' r' m') (s : Same F F') (hu : ∀ b o, U b = some o → U' b = some o) : Good K U A F' H' σ r m' := by
  refine ⟨G'.sub, fun b o e => G'.fo b o (hu b o e), G.len, fun i d e => ?_, G.ow, G'.al, fun k a ds e1 e2 => ?_, G.nd, G'.he⟩
  · obtain ⟨v, h1, h2⟩ := G.fz i d e
    exact ⟨v, h1, Rpm s h2⟩
  · obtain ⟨h1, h2, vs, h3, h4⟩ := G'.cl k a ds e1 e2
    refine ⟨h1, ?_, vs, h3, h4⟩
    cases q : U a with
    | none => rfl
    | some o => rw [hu a o q] at h2; cases h2
end
/-- U with the new list -/
theorem Good.hold {K : PySem.W.Frag} {U : Hp} {A : List Addr} {F H : Hp} {σ : St} {r : Rs} {m : Ms} {D : Addr} {o : HO} (G : Good K U A F H σ r m) (hD : H D = some o) (hF : F D = none) (hA : D ∉ A) : Good K (upd U D o) A F H σ r m := by
  refine ⟨G.sub, fun b x e => ?_, G.len, G.fz, G.ow, G.al, fun k a ds e1 e2 => ?_, G.nd, G.he⟩
  · by_cases hb : b = D
    · subst hb
      rw [upd_same] at e
      cases e
      exact ⟨hD, hF⟩
    · rw [upd_ne hb] at e
      exact G.fo b x e
  · obtain ⟨h1, h2, h3⟩ := G.cl k a ds e1 e2
    have ha : a ≠ D := fun z => hA (z ▸ List.mem_of_getElem? e1)
    exact ⟨h1, by rw [upd_ne ha]; exact h2, h3⟩
def tGX (K : PySem.W.Frag) (is : List Nat) (h : Eh) : TG := fun v σ H Q => ∃ U, tG K U is h v σ H Q
def tTX (K : PySem.W.Frag) (f : Et) : TT := fun σ H Q => ∃ U, tT K U f σ H Q
def tEX (K : PySem.W.Frag) (f : Ev) : TE := fun σ H Q => ∃ U, tE K U f σ H Q
theorem pg_all {X : Cx} {tg : Expr} {is : List Nat} {h : Eh} (k : ∀ U, PG X tg (tG X.K U is h)) : PG X tg (tGX X.K is h) := ⟨fun pins s σ H v u Q I r ⟨U, q⟩ => (k U).run pins s σ H v u Q I r q⟩
theorem pts_all {X : Cx} {ifs : List Expr} {f : Et} (k : ∀ U, PTs X ifs (tT X.K U f)) : PTs X ifs (tTX X.K f) := ⟨fun pins s σ H Q I ⟨U, q⟩ => (k U).run pins s σ H Q I q⟩
theorem pe_all {X : Cx} {e : Expr} {f : Ev} (k : ∀ U, PE X e (tE X.K U f)) : PE X e (tEX X.K f) := ⟨fun pins s σ H Q I ⟨U, q⟩ => (k U).run pins s σ H Q I q⟩
section
variable {X : Cx} {U : Hp} {elt tg iter : Expr} {ifs : List Expr} {scope : Scope} {own : List (Str × Nat)} {pos : Pos} {fi : Eas} {is : List Nat} {h : Eh} {t : Et} {f : Ev}
theorem lc_inner {K : PySem.W.Frag} {U : Hp} {A : List Addr} {F1 H1 : Hp} {σ : St} {r : Rs} {m1 m9 : Ms} {ds res : List PyData} {J : It} {vsl : List Nat} {is : List Nat} {h : Eh} {t : Et} {f : Ev} {Q : VK} (his : ∀ j ∈ is, j ∈ vsl) (G1 : Good K U A F1 H1 σ r m1) (W1 : Wk K U J F1 ds)
    (e2 : lcLoop h t f (wipeR r vsl) ds m1 [] = some (res, m9))
    (k : ∀ (F' H' : Hp) (a : Addr) (u : HO), Same F1 F' → Good K U A F' H' σ r m9 → F' a = none → U a = none → a ∉ A → H' a = some u → Stored K F' u (.list res) → Q (.ref a) H') :
    ∀ D, H1 D = none → ∃ W : Nat → Nat → Hp → Prop, (∃ m, W 0 m (upd H1 D (.lst []))) ∧ ∀ i m H, W i m H →
      (J.stop i H ∧ Q (.ref D) H) ∨ (J.go i H ∧ ∃ Nx : Hp → Prop, (∀ H', Nx H' → ∃ m', m' < m ∧ W (i + 1) m' H') ∧ ∀ x H', J.yld i H x H' → (tGX K is h) x (wipe σ vsl) H' fun σ2 H2 => wipe σ2 vsl = wipe σ vsl ∧ (tTX K t) σ2 H2 fun b H3 =>
        if b = true then (tEX K f) σ2 H3 fun y H4 => ∃ acc, H4 D = some (.lst acc) ∧ acc.length < sizeLine ∧ Nx (upd H4 D (.lst (acc ++ [y]))) else Nx H3) := by
  intro D nD
  have hF1 := (G1.nope nD).1
  refine ⟨fun i mm H2 => mm = ds.length - i ∧ i ≤ ds.length ∧ ∃ (F2 : Hp) (m2 : Ms) (vs : List V) (acc : List PyData), Same F1 F2 ∧ Good K U A F2 H2 σ r m2 ∧ H2 D = some (.lst vs) ∧ F2 D = none ∧ RpAll K F2 vs acc ∧
    lcLoop h t f (wipeR r vsl) (ds.drop i) m2 acc = some (res, m9), ⟨ds.length, by simp, Nat.zero_le _, F1, m1, [], [], Same.refl F1, G1.laidO nD, upd_same, hF1, .nil, by rw [List.drop_zero]; exact e2⟩, ?_⟩
  rintro i mm H2 ⟨rfl, hi2, F2, m2, vs, acc, hF, G2, hD2, hF2, hr2, e3⟩
  have nA : D ∉ A := G1.notin nD
  have nU : U D = none := (G1.nope nD).2
  by_cases hlt : i < ds.length
  · rw [List.drop_eq_getElem_cons hlt] at e3
    unfold lcLoop at e3
    cases e4 : h ds[i] (wipeR r vsl) with
    | none => rw [e4] at e3; cases e3
    | some r3 =>
      rw [e4] at e3
      simp only [Option.bind_some] at e3
      cases e5 : t r3 m2 with
      | none => rw [e5] at e3; cases e3
      | some b5 =>
        obtain ⟨b, m5⟩ := b5
        rw [e5] at e3
        simp only [Option.bind_some] at e3
        have GW := (G2.hold hD2 hF2 nA).wiped vsl
        have sU : Same U (upd U D (.lst vs)) := same_new nU
        obtain ⟨w1, w2⟩ := W1.go _ A _ _ m2 F2 H2 i ds[i] sU hF GW (List.getElem?_eq_getElem hlt)
        have back : ∀ {F' H' : Hp} {σ' : St} {r' : Rs} {m' : Ms}, Same F2 F' → Good K (upd U D (.lst vs)) A F' H' σ' r' m' → Good K U A F' H' σ r m' := fun {F' H' σ' r' m'} s G' => G2.mix G' s sU
        refine .inr ⟨w1, fun H' => ∃ (F' : Hp) (m' : Ms) (vs' : List V) (acc' : List PyData), Same F1 F' ∧ Good K U A F' H' σ r m' ∧ H' D = some (.lst vs') ∧ F' D = none ∧ RpAll K F' vs' acc' ∧
          lcLoop h t f (wipeR r vsl) (ds.drop (i + 1)) m' acc' = some (res, m9), fun H' w => ⟨ds.length - (i + 1), by omega, rfl, hlt, w⟩, fun x H3 hy => ?_⟩
        obtain ⟨F3, s3, G3, h3⟩ := w2 x H3 hy
        refine ⟨upd U D (.lst vs), A, F3, _, m2, ds[i], r3, G3, h3, e4, fun σ4 G4 k4 l4 => ⟨?_, ?_⟩⟩
        · refine (wipe_eq l4 fun j hj => k4 j fun z => hj (his j z)).trans wipe_twice
        · refine ⟨upd U D (.lst vs), A, F3, r3, m2, b, m5, G4, e5, fun F5 H5 s5 G5 => ?_⟩
          cases b with
          | false =>
            refine iteF ?_
            have fo5 := G5.fo D _ upd_same
            exact ⟨F5, m5, vs, acc, hF.trans (s3.trans s5), back (s3.trans s5) G5, fo5.1, fo5.2, Rpam (s3.trans s5) hr2, e3⟩
          | true =>
            refine iteT ?_
            rw [if_pos rfl] at e3
            cases e6 : f r3 m5 with
            | none => rw [e6] at e3; cases e3
            | some q6 =>
              obtain ⟨d6, m6⟩ := q6
              rw [e6] at e3
              simp only [Option.bind_some] at e3
              split at e3
              · rename_i hz
                refine ⟨upd U D (.lst vs), A, F5, r3, m5, d6, m6, G5, e6, fun F6 H6 y s6 G6 h6 => ?_⟩
                have fo6 := G6.fo D _ upd_same
                have s26 : Same F2 F6 := s3.trans (s5.trans s6)
                refine ⟨vs, fo6.1, by rw [rpa_len hr2]; exact hz, F6, m6, vs ++ [y], acc ++ [d6], hF.trans s26, ?_, upd_same, fo6.2, rpa_app (Rpam s26 hr2) (.cons h6 .nil), e3⟩
                have GB := back s26 G6
                refine ⟨fun b o q => ?_, fun b o q => ?_, GB.len, GB.fz, GB.ow, GB.al, fun kk a es q1 q2 => ?_, GB.nd, fun a qa => ?_⟩
                · have hb : b ≠ D := fun z => by rw [z, fo6.2] at q; cases q
                  rw [upd_ne hb]
                  exact GB.sub b o q
                · have hb : b ≠ D := fun z => by rw [z, nU] at q; cases q
                  rw [upd_ne hb]
                  exact GB.fo b o q
                · obtain ⟨c1, c2, us, c3, c4⟩ := GB.cl kk a es q1 q2
                  have ha : a ≠ D := fun z => nA (z ▸ List.mem_of_getElem? q1)
                  exact ⟨c1, c2, us, by rw [upd_ne ha]; exact c3, c4⟩
                · obtain ⟨o', c1⟩ := GB.he a qa
                  have hne : a ≠ D := fun z => nA (z ▸ qa)
                  exact ⟨o', by rw [upd_ne hne]; exact c1⟩
              · cases e3
  · have ei : i = ds.length := by omega
    subst ei
    rw [List.drop_length] at e3
    cases e3
    exact .inl ⟨W1.stop F2 H2 (fun b o e => (G2.fo b o e).1) hF G2.sub, k F2 H2 D _ hF G2 hF2 nU nA hD2 ⟨vs, rfl, hr2⟩⟩
/-- a new object is frozen -/
theorem Good.ice {K : PySem.W.Frag} {U : Hp} {A : List Addr} {F H : Hp} {σ : St} {r : Rs} {m : Ms} {a : Addr} {u : HO} {d : PyData} (G : Good K U A F H σ r m) (hF : F a = none) (hU : U a = none) (hA : a ∉ A) (hH : H a = some u) (h : Stored K F u d) :
    Same F (upd F a u) ∧ Good K U A (upd F a u) H σ r m ∧ Rp K (upd F a u) (.ref a) d := by
  have s : Same F (upd F a u) := same_new hF
  refine ⟨s, ⟨fun b o q => ?_, fun b o q => ?_, G.len, fun j d q => ?_, G.ow, G.al, fun kk b es q1 q2 => ?_, G.nd, G.he⟩, stored_rp upd_same (stored_mono s h)⟩
  · by_cases hb : b = a
    · subst hb
      rw [upd_same] at q
      cases q
      exact hH
    · rw [upd_ne hb] at q
      exact G.sub b o q
  · have hb : b ≠ a := fun z => by rw [z, hU] at q; cases q
    rw [upd_ne hb]
    exact G.fo b o q
  · obtain ⟨v, c1, c2⟩ := G.fz j d q
    exact ⟨v, c1, Rpm s c2⟩
  · obtain ⟨c1, c2, us, c3, c4⟩ := G.cl kk b es q1 q2
    have hb : b ≠ a := fun z => hA (z ▸ List.mem_of_getElem? q1)
    exact ⟨by rw [upd_ne hb]; exact c1, c2, us, c3, stored_mono s c4⟩
/-- the reading of an expression that makes a new object, not frozen yet -/
def tN (K : PySem.W.Frag) (U : Hp) (f : Ev) : TE := fun σ H Q => ∃ (A : List Addr) (F : Hp) (r : Rs) (m : Ms) (d : PyData) (m' : Ms), Good K U A F H σ r m ∧ f r m = some (d, m') ∧
  ∀ (F' H' : Hp) (a : Addr) (u : HO), Same F F' → Good K U A F' H' σ r m' → F' a = none → U a = none → a ∉ A → H' a = some u → Stored K F' u d → Q (.ref a) H'
theorem qe_new {X : Cx} {U : Hp} {e : Expr} {f : Ev} (h : PE X e (tN X.K U f)) : PE X e (tE X.K U f) := pe_weak h fun σ H Q ⟨A, F, r, m, d, m', G, e, k⟩ =>
  ⟨A, F, r, m, d, m', G, e, fun F' H' a u s G' q1 q2 q3 q4 q5 => by
    obtain ⟨w1, w2, w3⟩ := G'.ice q1 q2 q3 q4 q5
    exact k _ H' _ (s.trans w1) w2 w3⟩
theorem lc_read (his : ∀ j ∈ is, j ∈ own.map (·.2)) {σ : St} {H : Hp} {Q : VK} (hq : tN X.K U (eLc fi (own.map (·.2)) h t f) σ H Q) :
    tLc (tIt X.K U fi) (tGX X.K is h) (tTX X.K t) (tEX X.K f) (own.map (·.2)) σ H Q := by
  obtain ⟨A, F, r, m, d, m', G, e, k⟩ := hq
  unfold eLc at e
  cases e1 : fi r m with
  | none => rw [e1] at e; cases e
  | some p =>
    obtain ⟨ds, m1⟩ := p
    rw [e1] at e
    simp only [Option.bind_some] at e
    cases e2 : lcLoop h t f (wipeR r (own.map (·.2))) ds m1 [] with
    | none => rw [e2] at e; cases e
    | some q =>
      obtain ⟨res, m9⟩ := q
      rw [e2] at e
      cases e
      exact ⟨A, F, r, m, ds, m1, G, e1, fun F1 H1 J s1 G1 W1 => lc_inner his G1 W1 e2 fun F' H' a u s G' q1 q2 q3 q4 q5 => k F' H' a u (s1.trans s) G' q1 q2 q3 q4 q5⟩
theorem qn_lc (hc : X.calm = true) (hN : X.N.Nodup) (hi : PI X tg iter (tIt X.K U fi)) (ok : BlkOk X.N X.env.scope scope own) (his : ∀ j ∈ is, j ∈ own.map (·.2))
    (hg : ∀ (U : Hp) (s : Shared) (H : Hp) (C : Addr) (cl : List (Str × Addr)) (fp : List Addr), PG (X.blk s H scope (compEnvC scope cl C X.env) fp) tg (tG X.K U is h))
    (ht : ∀ (U : Hp) (s : Shared) (H : Hp) (C : Addr) (cl : List (Str × Addr)) (fp : List Addr), PTs (X.blk s H scope (compEnvC scope cl C X.env) fp) ifs (tT X.K U t))
    (he : ∀ (U : Hp) (s : Shared) (H : Hp) (C : Addr) (cl : List (Str × Addr)) (fp : List Addr), PE (X.blk s H scope (compEnvC scope cl C X.env) fp) elt (tE X.K U f)) (hs : ∀ x, foldedSetIterable iter X.env x = pure x := by intro _; rfl) :
    PE X (.ListComp elt [⟨tg, iter, ifs, 0⟩] scope pos) (tN X.K U (eLc fi (own.map (·.2)) h t f)) :=
  pe_weak (pe_lc hc hN hi ok (fun s H C cl fp => pg_all fun U => hg U s H C cl fp) (fun s H C cl fp => pts_all fun U => ht U s H C cl fp) (fun s H C cl fp => pe_all fun U => he U s H C cl fp) hs) fun σ H Q q => lc_read his q
theorem qe_lc (hc : X.calm = true) (hN : X.N.Nodup) (hi : PI X tg iter (tIt X.K U fi)) (ok : BlkOk X.N X.env.scope scope own) (his : ∀ j ∈ is, j ∈ own.map (·.2))
    (hg : ∀ (U : Hp) (s : Shared) (H : Hp) (C : Addr) (cl : List (Str × Addr)) (fp : List Addr), PG (X.blk s H scope (compEnvC scope cl C X.env) fp) tg (tG X.K U is h))
    (ht : ∀ (U : Hp) (s : Shared) (H : Hp) (C : Addr) (cl : List (Str × Addr)) (fp : List Addr), PTs (X.blk s H scope (compEnvC scope cl C X.env) fp) ifs (tT X.K U t))
    (he : ∀ (U : Hp) (s : Shared) (H : Hp) (C : Addr) (cl : List (Str × Addr)) (fp : List Addr), PE (X.blk s H scope (compEnvC scope cl C X.env) fp) elt (tE X.K U f)) (hs : ∀ x, foldedSetIterable iter X.env x = pure x := by intro _; rfl) :
    PE X (.ListComp elt [⟨tg, iter, ifs, 0⟩] scope pos) (tE X.K U (eLc fi (own.map (·.2)) h t f)) := qe_new (qn_lc hc hN hi ok his hg ht he hs)
/-- x = e, e a new object: a new cell -/
def sSetF (i : Nat) (f : Ev) : Es := fun r m => (f r m).map fun p => .nx (r.set i (.ow p.2.length)) (p.2 ++ [some p.1])
theorem qs_setLc {n0 i : Nat} {y : Str} {py spos : Pos} (hc : X.calm = true) (hN : X.N.Nodup) (hy : X.N[i]? = some y) (hyl : X.env.scope.names.lookup y = some .local)
    (hsw : swapsWith (.ListComp elt [⟨tg, iter, ifs, 0⟩] scope pos) (some (.Name y py)) spos.line X.env = pure true) (hi : PI X tg iter (tIt X.K U fi)) (ok : BlkOk X.N X.env.scope scope own) (his : ∀ j ∈ is, j ∈ own.map (·.2))
    (hg : ∀ (U : Hp) (s : Shared) (H : Hp) (C : Addr) (cl : List (Str × Addr)) (fp : List Addr), PG (X.blk s H scope (compEnvC scope cl C X.env) fp) tg (tG X.K U is h))
    (ht : ∀ (U : Hp) (s : Shared) (H : Hp) (C : Addr) (cl : List (Str × Addr)) (fp : List Addr), PTs (X.blk s H scope (compEnvC scope cl C X.env) fp) ifs (tT X.K U t))
    (he : ∀ (U : Hp) (s : Shared) (H : Hp) (C : Addr) (cl : List (Str × Addr)) (fp : List Addr), PE (X.blk s H scope (compEnvC scope cl C X.env) fp) elt (tE X.K U f)) (hs : ∀ x, foldedSetIterable iter X.env x = pure x := by intro _; rfl) :
    PS X (.Assign [.Name y py] (.ListComp elt [⟨tg, iter, ifs, 0⟩] scope pos) spos) (tS X.K U n0 (sSet i (eLc fi (own.map (·.2)) h t f))) ∧ PS X (.Assign [.Name y py] (.ListComp elt [⟨tg, iter, ifs, 0⟩] scope pos) spos) (tS X.K U n0 (sSetF i (eLc fi (own.map (·.2)) h t f))) := by
  have base :=
    ps_setLc (g := tGX X.K is h) (tt := tTX X.K t) (te := tEX X.K f) hc hN hy hyl hsw hi ok (fun s H C cl fp => pg_all fun U => hg U s H C cl fp) (fun s H C cl fp => pts_all fun U => ht U s H C cl fp) (fun s H C cl fp => pe_all fun U => he U s H C cl fp) hs
  refine ⟨ps_weak base fun D σ H ⟨A, F, r, m, o, G, hn, e, p⟩ => ?_, ps_weak base fun D σ H ⟨A, F, r, m, o, G, hn, e, p⟩ => ?_⟩
  · unfold sSet at e
    cases e1 : eLc fi (own.map (·.2)) h t f r m with
    | none => rw [e1] at e; cases e
    | some q =>
      rw [e1] at e
      cases e
      refine lc_read his ⟨A, F, r, m, q.1, q.2, G, e1, fun F1 H1 a u s1 G1 q1 q2 q3 q4 q5 => ?_⟩
      obtain ⟨w1, w2, w3⟩ := G1.ice q1 q2 q3 q4 q5
      exact p A _ H1 _ (List.prefix_refl A) (s1.trans w1) (w2.setFz w3)
  · unfold sSetF at e
    cases e1 : eLc fi (own.map (·.2)) h t f r m with
    | none => rw [e1] at e; cases e
    | some q =>
      rw [e1] at e
      cases e
      exact lc_read his ⟨A, F, r, m, q.1, q.2, G, e1, fun F1 H1 a u s1 G1 q1 q2 q3 q4 q5 => p (A ++ [a]) F1 H1 _ (List.prefix_append A [a]) s1 (G1.setOw q1 q2 q3 q4 q5)⟩
theorem qts_one {c : Expr} {p : Et} (h : PT X c (tT X.K U p)) : PTs X [c] (tT X.K U p) := pts_one h
end

/-! ## defs -/
def slots (n : Nat) (ds : List PyData) : Rs := ds.map Sl.fz ++ List.replicate n .un
/-- what a def of nP parameters and nL further names hands back -/
def runD (nL : Nat) (s : Es) (ds : List PyData) : Option PyData := match s (slots nL ds) [] with
  | some (.rt d _) => some d
  | some (.nx _ _) => some .none
  | some (.rn es _) => some es
  | _ => none
def runR (nL : Nat) (s : Es) (cs : PyData) (ds : List PyData) : Option (PyData × PyData) := match s (.ow 0 :: slots nL ds) [some cs] with
  | some (.rt d m) => (cellAt m 0).map fun cs' => (d, cs')
  | some (.nx _ m) => (cellAt m 0).map fun cs' => (.none, cs')
  | _ => none
def runN (nL : Nat) (s : Es) (ds : List PyData) : Option PyData := match s (slots nL ds) [] with
  | some (.rn es _) => some es
  | _ => none
def spN (K : PySem.W.Frag) (n : Nat) (g : List PyData → Option PyData) : Sp := fun vs H Q _ => ∃ (F : Hp) (ds : List PyData) (es : PyData), Same F H ∧ vs.length = n ∧ RpAll K F vs ds ∧ g ds = some es ∧
  ∀ (F' H' : Hp) (a : Addr) (u : HO), Same F F' → Same F' H' → (∀ b o, H b = some o → F b = none → H' b = some o ∧ F' b = none) → F' a = none → H a = none → H' a = some u → Stored K F' u es → Q (.ref a) H'
/-- what stands and is not frozen -/
def less (H F : Hp) : Hp := fun b => match F b with
  | none => H b
  | some _ => none
theorem less_some {H F : Hp} {b : Addr} {o : HO} : less H F b = some o ↔ H b = some o ∧ F b = none := by
  unfold less
  cases e : F b with
  | none => simp
  | some x => simp
theorem good_start {K : PySem.W.Frag} {F H : Hp} {vs : List V} {ds : List PyData} {N : List Str} (hF : Same F H) (hr : RpAll K F vs ds) (hl : vs.length ≤ N.length) :
    Good K (less H F) [] F H (L2.start N vs) (slots (N.length - vs.length) ds) [] := by
  have hd := rpa_len hr
  refine ⟨hF, fun b o e => less_some.mp e, by unfold L2.start slots; simp [hd], fun i d e => ?_, fun i k e => ?_, rfl, fun k a es e => by simp at e, List.nodup_nil, fun a ha => by cases ha⟩
  · unfold slots at e
    by_cases hi : i < ds.length
    · rw [List.getElem?_append_left (by simpa using hi), List.getElem?_map] at e
      cases e1 : ds[i]? with
      | none => rw [e1] at e; cases e
      | some d1 =>
        rw [e1] at e
        cases e
        obtain ⟨v, h1, h2⟩ := rpa_get hr e1
        refine ⟨v, ?_, h2⟩
        unfold L2.start
        rw [List.getElem?_append_left (by rw [List.length_map]; omega), List.getElem?_map, h1]
        rfl
    · rw [List.getElem?_append_right (by rw [List.length_map]; omega), List.getElem?_replicate] at e
      split at e <;> cases e
  · unfold slots at e
    by_cases hi : i < ds.length
    · rw [List.getElem?_append_left (by simpa using hi), List.getElem?_map] at e
      cases e1 : ds[i]? with
      | none => rw [e1] at e; cases e
      | some d1 => rw [e1] at e; cases e
    · rw [List.getElem?_append_right (by rw [List.length_map]; omega), List.getElem?_replicate] at e
      split at e <;> cases e
/-- a list of ours is frozen -/
theorem fin_freeze {K : PySem.W.Frag} {U : Hp} {A : List Addr} {F H : Hp} {m : Ms} {a : Addr} {u : HO} {d : PyData} (h : Fin K U 0 A F H m) (hF : F a = none) (hU : U a = none) (hH : H a = some u) (hr : Stored K F u d) :
    Same F (upd F a u) ∧ Fin K U 0 A (upd F a u) H m ∧ Rp K (upd F a u) (.ref a) d := by
  have s : Same F (upd F a u) := same_new hF
  refine ⟨s, ⟨fun b o e => ?_, fun b o e => ?_, fun k b es hk => absurd hk (Nat.not_lt_zero k)⟩, stored_rp upd_same (stored_mono s hr)⟩
  · by_cases hb : b = a
    · subst hb
      rw [upd_same] at e
      cases e
      exact hH
    · rw [upd_ne hb] at e
      exact h.sub b o e
  · have hb : b ≠ a := fun z => by rw [z, hU] at e; cases e
    rw [upd_ne hb]
    exact h.fo b o e
section
variable {P : Program} {w : World} {K : PySem.W.Frag} {mg : Str → Option Value} {base : Heap} {x qual : Str} {st : Stmt} {f : Addr} {fd : FuncData} {N ps : List Str} {k : Nat} {s : Es}
theorem go_D (hpl : ps.length ≤ N.length) {vs : List V} {H : Hp} {Q : VK} {E : XK} (h : spD K ps.length (runD (N.length - ps.length) s) vs H Q E) : ∃ U, tS K U 0 s { nx := fun _ H' => Q .non H', rt := Q } (L2.start N vs) H := by
  · obtain ⟨F0, ds, d, hF, hl, hr2, e, kk⟩ := h
    refine ⟨(less H F0), ?_⟩
    have G := good_start (N := N) hF hr2 (by omega)
    rw [hl] at G
    unfold runD at e
    cases e1 : s (slots (N.length - ps.length) ds) [] with
    | none => rw [e1] at e; cases e
    | some o =>
      rw [e1] at e
      refine ⟨[], F0, _, [], o, G, Nat.zero_le _, e1, ?_⟩
      have out := fun {F' H' : Hp} {A' : List Addr} {m' : Ms} (s1 : Same F0 F') (h : Fin K (less H F0) 0 A' F' H' m') {v : V} {d' : PyData} (hv : Rp K F' v d') (hd : some d' = some d) => by
        cases hd
        exact kk F' H' v s1 h.sub (fun b o e1 e2 => h.fo b o (less_some.mpr ⟨e1, e2⟩)) hv
      cases o with
      | nx r m => exact fun A' F' H' σ' _ s1 G' => out s1 (G'.fin (Nat.zero_le _)) .vn e
      | rt d' m => exact fun A' F' H' v _ s1 Fi hv => out s1 Fi hv e
      | rn es m =>
        intro A' F' H' a vs' _ s1 Fi q1 q2 _ q4 q5
        obtain ⟨w1, w2, w3⟩ := fin_freeze Fi q1 q2 q4 q5
        exact out (s1.trans w1) w2 w3 e
      | bk r m => cases e
      | ct r m => cases e
theorem fn_D (F : Fun K x qual st f fd) (S : FnScope N ps (defScope st)) (hpl : ps.length ≤ N.length)
    (hb : ∀ (cdv : Value) (A : Around) (outer : List Env) (s0 : Shared) (H : Hp) (E : XK) (U : Hp), Room k (A.deeper (PyProof.Rows.envOfC qual (defScope st) s0.heap.objs.size f cdv)) →
      PSs (cxOf CX0 P w K mg base N qual (defScope st) f cdv A outer s0 H E).nox (defBody st) (tS K U 0 s)) : FnOk P w K mg base CX0 (k + 1) f fd ps (spD K ps.length (runD (N.length - ps.length) s)) := by
  refine F.ok S (fun vs H Q E h => ?_) (fun cdv A outer s0 H vs Q E hr h => ?_)
  · obtain ⟨_, _, _, _, hl, _⟩ := h
    exact hl
  · obtain ⟨U, q⟩ := go_D hpl h
    exact ⟨_, hb cdv A outer s0 H E U hr, q⟩
theorem go_N (hpl : ps.length ≤ N.length) {vs : List V} {H : Hp} {Q : VK} {E : XK} (h : spN K ps.length (runN (N.length - ps.length) s) vs H Q E) : ∃ U, tS K U 0 s { nx := fun _ H' => Q .non H', rt := Q } (L2.start N vs) H := by
  · obtain ⟨F0, ds, es, hF, hl, hr2, e, kk⟩ := h
    refine ⟨(less H F0), ?_⟩
    have G := good_start (N := N) hF hr2 (by omega)
    rw [hl] at G
    unfold runN at e
    cases e1 : s (slots (N.length - ps.length) ds) [] with
    | none => rw [e1] at e; cases e
    | some o =>
      rw [e1] at e
      refine ⟨[], F0, _, [], o, G, Nat.zero_le _, e1, ?_⟩
      cases o with
      | rn es' m =>
        cases e
        intro A' F' H' a vs' _ s1 Fi q1 q2 _ q4 q5
        have hn : H a = none := by
          cases q : H a with
          | none => rfl
          | some o =>
            cases q0 : F0 a with
            | none =>
              have z := less_some.mpr ⟨q, q0⟩
              rw [q2] at z
              cases z
            | some o' =>
              rw [s1 a o' q0] at q1
              cases q1
        exact kk F' H' a vs' s1 Fi.sub (fun b o e1 e2 => Fi.fo b o (less_some.mpr ⟨e1, e2⟩)) q1 hn q4 q5
      | _ => cases e
theorem fn_N (F : Fun K x qual st f fd) (S : FnScope N ps (defScope st)) (hpl : ps.length ≤ N.length)
    (hb : ∀ (cdv : Value) (A : Around) (outer : List Env) (s0 : Shared) (H : Hp) (E : XK) (U : Hp), Room k (A.deeper (PyProof.Rows.envOfC qual (defScope st) s0.heap.objs.size f cdv)) →
      PSs (cxOf CX0 P w K mg base N qual (defScope st) f cdv A outer s0 H E).nox (defBody st) (tS K U 0 s)) : FnOk P w K mg base CX0 (k + 1) f fd ps (spN K ps.length (runN (N.length - ps.length) s)) := by
  refine F.ok S (fun vs H Q E h => ?_) (fun cdv A outer s0 H vs Q E hr h => ?_)
  · obtain ⟨_, _, _, _, hl, _⟩ := h
    exact hl
  · obtain ⟨U, q⟩ := go_N hpl h
    exact ⟨_, hb cdv A outer s0 H E U hr, q⟩
theorem go_R (hpl : ps.length + 1 ≤ N.length) {vs : List V} {H : Hp} {Q : VK} {E : XK} (h : spR K ps.length (runR (N.length - (ps.length + 1)) s) vs H Q E) : ∃ U, tS K U 1 s { nx := fun _ H' => Q .non H', rt := Q } (L2.start N vs) H := by
  · obtain ⟨F0, a, us, ws, cs, ds, d, cs', hF, rfl, hl, fa, ha, hu, hw, e, kk⟩ := h
    refine ⟨(fun b => if b = a then none else less H F0 b), ?_⟩
    have hd := rpa_len hw
    have G0 := good_start (N := N.drop 1) hF hw (by rw [List.length_drop]; omega)
    rw [List.length_drop, hl, Nat.sub_sub, Nat.add_comm 1] at G0
    have est : L2.start N (.ref a :: ws) = some (.ref a) :: L2.start (N.drop 1) ws := by
      unfold L2.start
      rw [List.length_drop, List.map_cons, List.length_cons, List.cons_append, hl, Nat.sub_sub, Nat.add_comm 1]
    have G : Good K (fun b => if b = a then none else less H F0 b) [a] F0 H (L2.start N (.ref a :: ws)) (.ow 0 :: slots (N.length - (ps.length + 1)) ds) [some cs] := by
      rw [est]
      refine ⟨hF, fun b o e => ?_, by rw [List.length_cons, List.length_cons, G0.len], fun i d' e => ?_, fun i j e => ?_, rfl, fun j b es e1 e2 => ?_, by simp, fun b hb => ⟨us, by rw [List.mem_singleton.mp hb]; exact ha⟩⟩
      · by_cases hb : b = a
        · simp [hb] at e
        · simp [hb] at e
          exact less_some.mp e
      · cases i with
        | zero => simp at e
        | succ i => exact G0.fz i d' (by simpa using e)
      · cases i with
        | zero =>
          simp at e
          subst e
          exact ⟨a, rfl, rfl⟩
        | succ i =>
          obtain ⟨b, q, _⟩ := G0.ow i j (by simpa using e)
          simp at q
      · cases j with
        | zero =>
          simp at e1
          subst e1
          cases e2
          exact ⟨fa, by simp, us, ha, hu⟩
        | succ j => simp at e1
    unfold runR at e
    cases e1 : s (.ow 0 :: slots (N.length - (ps.length + 1)) ds) [some cs] with
    | none => rw [e1] at e; cases e
    | some o =>
      rw [e1] at e
      refine ⟨[a], F0, _, [some cs], o, G, Nat.le_refl _, e1, ?_⟩
      have out : ∀ {F' H' : Hp} {A' : List Addr} {m' : Ms}, [a] <+: A' → Same F0 F' → Fin K (fun b => if b = a then none else less H F0 b) 1 A' F' H' m' → ∀ {v : V} {d' : PyData}, Rp K F' v d' → ((cellAt m' 0).map fun c => (d', c)) = some (d, cs') → Q v H' := by
        intro F' H' A' m' hA s1 h v d' hv hd
        have hA0 : A'[0]? = some a := by
          obtain ⟨t, rfl⟩ := hA
          rfl
        cases q2 : cellAt m' 0 with
        | none => rw [q2] at hd; cases hd
        | some es =>
        rw [q2] at hd
        cases hd
        obtain ⟨q1, vs', q3, q4⟩ := h.cl 0 a _ (Nat.lt_succ_self 0) hA0 q2
        refine kk F' H' v vs' s1 h.sub (fun b o e1 e2 hb => h.fo b o ?_) q1 q3 q4 hv
        show (if b = a then none else less H F0 b) = some o
        rw [if_neg hb]
        exact less_some.mpr ⟨e1, e2⟩
      cases o with
      | nx r m => exact fun A' F' H' σ' hA s1 G' => out hA s1 (G'.fin hA.length_le) .vn e
      | rt d' m => exact fun A' F' H' v hA s1 Fi hv => out hA s1 Fi hv e
      | rn es m => cases e
      | bk r m => cases e
      | ct r m => cases e
theorem fn_R {p0 : Str} (F : Fun K x qual st f fd) (S : FnScope N (p0 :: ps) (defScope st)) (hpl : ps.length + 1 ≤ N.length)
    (hb : ∀ (cdv : Value) (A : Around) (outer : List Env) (s0 : Shared) (H : Hp) (E : XK) (U : Hp), Room k (A.deeper (PyProof.Rows.envOfC qual (defScope st) s0.heap.objs.size f cdv)) →
      PSs (cxOf CX0 P w K mg base N qual (defScope st) f cdv A outer s0 H E).nox (defBody st) (tS K U 1 s)) : FnOk P w K mg base CX0 (k + 1) f fd (p0 :: ps) (spR K ps.length (runR (N.length - (ps.length + 1)) s)) := by
  refine F.ok S (fun vs H Q E h => ?_) (fun cdv A outer s0 H vs Q E hr h => ?_)
  · obtain ⟨_, _, _, ws, _, _, _, _, _, rfl, hl, _⟩ := h
    exact congrArg (· + 1) hl
  · obtain ⟨U, q⟩ := go_R hpl h
    exact ⟨_, hb cdv A outer s0 H E U hr, q⟩
end
end TL

end
/-! TL9 -/
section
set_option maxHeartbeats 4000000
namespace TL
open PySem L2

/-! ## callees and constants by name -/
structure Cal (P : Program) (w : World) (K : PySem.W.Frag) (mg : Str → Option Value) (base : Heap) (x : Str) (k : Nat) (ps : List Str) (sp : Sp) : Prop where
  ex : ∃ (f : Addr) (fd : FuncData), FnOk P w K mg base CX0 k f fd ps sp ∧ mg x = some (.ref f) ∧ PySem.W.keepIn K (.ref f) = true ∧ Binds K fd ps []
structure Glo (K : PySem.W.Frag) (mg : Str → Option Value) (x : Str) (d : PyData) : Prop where
  ex : ∃ (v : V) (u : Value), mg x = some u ∧ RelV v u ∧ ∀ F, Rp K F v d
section
variable {X : Cx} {U : Hp} {x : Str} {p pos : Pos} {e : Expr} {es : List Expr} {f : Eas} {j k n : Nat} {ps : List Str}
theorem qc_call {g : List PyData → Option PyData} (C : Cal X.prog X.w X.K X.mg X.base x k ps (spD X.K n g)) (hr : Room j X.A) (hjk : k ≤ j) (ha : PA X (e :: es) (tAs X.K U f)) (hg : Gl X x := by rfl) (hdb : (x == ("__debug__" : Str)) = false := by decide)
    (he : starEach (e :: es) X.env = (false, eval e X.env) :: starEach es X.env := by rfl) (hpl : (backTo pos (starEach es X.env)).any (·.1) = false := by rfl) :
    PE X (.Call (.Name x p) (e :: es) [] pos) (tE X.K U (eMap f (arN n g))) := by
  obtain ⟨fa, fd, h1, h2, h3, h4⟩ := C.ex
  exact qe_call h1 (hr.mono hjk) hg h2 h3 h4 ha hdb he hpl
theorem qc_callR {g : PyData → List PyData → Option (PyData × PyData)} (i : Nat) {y : Str} {p1 : Pos} (C : Cal X.prog X.w X.K X.mg X.base x k ps (spR X.K n g)) (hr : Room j X.A) (hjk : k ≤ j) (hv : PE X (.Name y p1) (tVar i)) (ha : PA X es (tAs X.K U f)) (hg : Gl X x := by rfl) (hdb : (x == ("__debug__" : Str)) = false := by decide)
    (he : starEach (.Name y p1 :: es) X.env = (false, eval (.Name y p1) X.env) :: starEach es X.env := by rfl) (hpl : (backTo pos (starEach es X.env)).any (·.1) = false := by rfl) :
    PE X (.Call (.Name x p) (.Name y p1 :: es) [] pos) (tE X.K U (eCallR n i g f)) := by
  obtain ⟨fa, fd, h1, h2, h3, h4⟩ := C.ex
  exact qe_callR i h1 (hr.mono hjk) hg h2 h3 h4 hv ha hdb he hpl
theorem qc_glo {d : PyData} (G : Glo X.K X.mg x d) (hg : Gl X x := by rfl) (hdb : (x == ("__debug__" : Str)) = false := by decide) : PE X (.Name x pos) (tE X.K U (eC d)) := by
  obtain ⟨v, u, h1, h2, h3⟩ := G.ex
  exact pe_weak (pe_glob hg h1 h2 hdb) fun σ H Q ⟨A, F, r, m, d', m', G, e, k⟩ => by
    cases e
    exact k F H v (Same.refl F) G (h3 F)
/-- x = f(..), f hands back a new list of its own -/
def sSetN (n i : Nat) (f : Eas) (g : List PyData → Option PyData) : Es := fun r m => (f r m).bind fun p => (arN n g p.1).map fun cs => .nx (r.set i (.ow p.2.length)) (p.2 ++ [some cs])
theorem qc_setN {n0 i : Nat} {y : Str} {p1 spos : Pos} {g : List PyData → Option PyData} (C : Cal X.prog X.w X.K X.mg X.base x k ps (spN X.K n g)) (hr : Room j X.A) (hjk : k ≤ j) (ha : PA X (e :: es) (tAs X.K U f)) (hN : X.N.Nodup) (hi : X.N[i]? = some y) (hx : Loc X.env.scope y)
    (hf : X.fn y = true ∨ X.env.scope.names.lookup y = some .local := by first | exact .inl rfl | exact .inr rfl | assumption) (hg : Gl X x := by rfl) (hdb : (x == ("__debug__" : Str)) = false := by decide)
    (he : starEach (e :: es) X.env = (false, eval e X.env) :: starEach es X.env := by rfl) (hpl : (backTo pos (starEach es X.env)).any (·.1) = false := by rfl)
    (hs : swapsWith (.Call (.Name x p) (e :: es) [] pos) (some (.Name y p1)) spos.line X.env = pure false := by rfl) :
    PS X (.Assign [.Name y p1] (.Call (.Name x p) (e :: es) [] pos) spos) (tS X.K U n0 (sSetN n i f g)) := by
  obtain ⟨fa, fd, Fn, h2, h3, h4⟩ := C.ex
  refine ps_weak (ps_set hN hi hx (pe_call Fn (hr.mono hjk) hg h2 h3 h4 .nil pass0 ha hdb he hpl) hs hf) fun D σ H ⟨A, F, r, m, o, G, hn, e, pp⟩ => ?_
  unfold sSetN at e
  cases e1 : f r m with
  | none => rw [e1] at e; cases e
  | some q =>
    obtain ⟨ds, m1⟩ := q
    rw [e1] at e
    simp only [Option.bind_some] at e
    cases e2 : arN n g ds with
    | none => rw [e2] at e; cases e
    | some cs =>
      rw [e2] at e
      cases e
      obtain ⟨l2, e3⟩ := arN_some e2
      refine ⟨A, F, r, m, ds, m1, G, e1, fun F1 H1 vs s1 G1 h1 => ?_⟩
      show spN X.K n g (vs ++ []) H1 _ E0
      rw [List.append_nil]
      refine ⟨F1, ds, cs, G1.sub, (rpa_len h1).trans l2, h1, e3, fun F2 H2 a us s2 s3 kk f2 na h2 r2 => ?_⟩
      have nU : U a = none := by
        cases q : U a with
        | none => rfl
        | some o => rw [(G1.fo a o q).1] at na; cases na
      exact pp (A ++ [a]) F2 H2 _ (List.prefix_append A [a]) (s1.trans s2) ((G1.past s2 s3 kk).setOw f2 nU (G1.notin na) h2 r2)
/-- x = e where x is a cell's name and e a further call that leaves it: plain -/
theorem loc_of {sc : Scope} {x : Str} (h : sc.names.lookup x = some .local ∨ sc.names.lookup x = some .cell) : Loc sc x := h
end
end TL

end
/-! TL10 -/
section
set_option maxHeartbeats 4000000
namespace TL
open PySem L2

/-! ## a op b op c -/
def eChain (o1 o2 : PyData → PyData → Option PyData) (f g h : Ev) : Ev := fun r m => (f r m).bind fun p => (g r p.2).bind fun q => (o1 p.1 q.1).bind fun z => match z with
  | .bool true => (h r q.2).bind fun w => (o2 q.1 w.1).map fun d => (d, w.2)
  | .bool false => some (.bool false, q.2)
  | _ => none
section
variable {X : Cx} {U : Hp} {pos : Pos} {a b c : Expr} {f g h : Ev} {op op' : CmpOp} {r1 r2 : R2} {o1 o2 : PyData → PyData → Option PyData}
theorem chain_read (w1 : OpD X U r1 o1) (w2 : OpD X U r2 o2) {σ : St} {H : Hp} {Q : VK} (hq : tE X.K U (eChain o1 o2 f g h) σ H Q) : tChain r1 r2 (tE X.K U f) (tE X.K U g) (tE X.K U h) σ H Q := by
  obtain ⟨A, F, r, m, d, m', G, e, k⟩ := hq
  unfold eChain at e
  cases e1 : f r m with
  | none => rw [e1] at e; cases e
  | some p1 =>
    obtain ⟨d1, m1⟩ := p1
    cases e2 : g r m1 with
    | none => simp [e1, e2] at e
    | some p2 =>
      obtain ⟨d2, m2⟩ := p2
      cases e3 : o1 d1 d2 with
      | none => simp [e1, e2, e3] at e
      | some z =>
        simp only [e1, e2, e3, Option.bind_some] at e
        refine ⟨A, F, r, m, d1, m1, G, e1, fun F1 H1 x s1 G1 h1 => ⟨A, F1, r, m1, d2, m2, G1, e2, fun F2 H2 y s2 G2 h2 => ?_⟩⟩
        refine w1 A F2 H2 σ r m2 x y d1 d2 z _ G2 (Rpm s2 h1) h2 e3 fun F3 H3 v s3 G3 h3 => ?_
        cases h3 with
        | vb bb =>
          refine ⟨bb, rfl, ?_⟩
          cases bb with
          | false =>
            refine iteF ?_
            cases e
            exact k F3 H3 _ (s1.trans (s2.trans s3)) G3 (.vb false)
          | true =>
            refine iteT ?_
            simp only at e
            cases e4 : h r m2 with
            | none => rw [e4] at e; cases e
            | some p4 =>
              obtain ⟨d4, m4⟩ := p4
              rw [e4] at e
              simp only [Option.bind_some] at e
              cases e5 : o2 d2 d4 with
              | none => rw [e5] at e; cases e
              | some d5 =>
                rw [e5] at e
                cases e
                refine ⟨A, F3, r, m2, d4, m', G3, e4, fun F4 H4 u s4 G4 h4 => ?_⟩
                exact w2 A F4 H4 σ r m' y u d2 d4 d Q G4 (Rpm (s3.trans s4) h2) h4 e5 fun F5 H5 v5 s5 G5 h5 => k F5 H5 v5 (s1.trans (s2.trans (s3.trans (s4.trans s5)))) G5 h5
        | _ => cases e
theorem qe_chain (c1 : OpR X (compareOp op) r1) (w1 : OpD X U r1 o1) (c2 : OpR X (compareOp op') r2) (w2 : OpD X U r2 o2) (ha : PE X a (tE X.K U f)) (hb : PE X b (tE X.K U g)) (hc : PE X c (tE X.K U h))
    (hm : lastMarks [op, op'] [b, c] = false := by with_unfolding_all rfl) : PE X (.Compare a [op, op'] [b, c] pos) (tE X.K U (eChain o1 o2 f g h)) := pe_weak (pe_chain c1 c2 ha hb hc hm) fun _ _ _ q => chain_read w1 w2 q
theorem qt_chain (c1 : OpR X (compareOp op) r1) (w1 : OpD X U r1 o1) (c2 : OpR X (compareOp op') r2) (w2 : OpD X U r2 o2) (ha : PE X a (tE X.K U f)) (hb : PE X b (tE X.K U g)) (hc : PE X c (tE X.K U h))
    (hm : lastMarks [op, op'] [b, c] = false := by with_unfolding_all rfl) : PT X (.Compare a [op, op'] [b, c] pos) (tT X.K U (eT blD (eChain o1 o2 f g h))) := pt_weak (pt_chain c1 c2 ha hb hc hm) fun σ H Q ⟨A, F, r, m, bb, m', G, e, k⟩ => by
  obtain ⟨d, e1, e2⟩ := et_some e
  exact chain_read w1 w2 ⟨A, F, r, m, d, m', G, e1, fun F1 H1 x s1 G1 h1 => ⟨bb, bl_of h1 e2, k F1 H1 s1 G1⟩⟩
end

/-! ## x op= e -/
def sAug (i : Nat) (op : PyData → PyData → Option PyData) (f : Ev) : Es := fun r m => (slD r[i]?).bind fun d => (f r m).bind fun p => (op d p.1).map fun z => .nx (r.set i (.fz z)) p.2
theorem slD_some {s : Option Sl} {d : PyData} (e : slD s = some d) : s = some (.fz d) := by
  unfold slD at e
  split at e
  · cases e; rfl
  · cases e
section
variable {X : Cx} {U : Hp} {n0 : Nat} {pos : Pos} {e : Expr} {f : Ev} {op : Operator} {rd : R2} {od : PyData → PyData → Option PyData}
theorem qs_aug {i : Nat} {x : Str} {p1 : Pos} (hr : OpR X (inplaceOp op) rd) (ho : OpD X U rd od) (hN : X.N.Nodup) (hi : X.N[i]? = some x) (hx : Loc X.env.scope x) (he : PE X e (tE X.K U f))
    (hf : X.fn x = true ∨ X.env.scope.names.lookup x = some .local := by first | exact .inl rfl | exact .inr rfl | assumption) : PS X (.AugAssign (.Name x p1) op e pos) (tS X.K U n0 (sAug i od f)) :=
  ps_weak (ps_aug (ti := rd) hN hi hx he (fun pins s σ H x y v u Q I r1 r2 h => hr pins s σ H x y v u Q I r1 r2 h) hf) fun D σ H ⟨A, F, r, m, o, G, hn, e, p⟩ => by
  unfold sAug at e
  cases e0 : slD r[i]? with
  | none => rw [e0] at e; cases e
  | some d0 =>
    rw [e0] at e
    simp only [Option.bind_some] at e
    obtain ⟨v, hv, hd⟩ := G.fz i d0 (slD_some e0)
    cases e1 : f r m with
    | none => rw [e1] at e; cases e
    | some q =>
      obtain ⟨d1, m1⟩ := q
      rw [e1] at e
      simp only [Option.bind_some] at e
      cases e2 : od d0 d1 with
      | none => rw [e2] at e; cases e
      | some z =>
        rw [e2] at e
        cases e
        refine ⟨v, hv, A, F, r, m, d1, m1, G, e1, fun F1 H1 y s1 G1 h1 => ?_⟩
        exact ho A F1 H1 σ r m1 v y d0 d1 z _ G1 (Rpm s1 hd) h1 e2 fun F2 H2 w s2 G2 h2 => p A F2 H2 _ (List.prefix_refl A) (s1.trans s2) (G2.setFz h2)
end
def addI : PyData → PyData → Option PyData
  | .int i, .int j => some (.int (i + j))
  | .str a, .str b => if a.length + b.length ≤ sizeLine then some (.str (a ++ b)) else none
  | _, _ => none
section
variable {X : Cx} {U : Hp}
theorem od_addI : OpD X U (fun x y H Q => rI0 (fun i j => .int (i + j)) x y H Q ∨ (∃ i j, x = .str i ∧ y = .str j ∧ i.length + j.length ≤ sizeLine ∧ Q (.str (i ++ j)) H)) addI := by
  intro A F H σ r m x y a b d Q G ha hb e k
  unfold addI at e
  split at e
  · cases ha; cases hb; cases e
    exact .inl ⟨_, _, rfl, rfl, k F H _ (Same.refl F) G (.vi _)⟩
  · split at e
    · rename_i hs
      cases ha; cases hb; cases e
      exact .inr ⟨_, _, rfl, rfl, hs, k F H _ (Same.refl F) G (.vs _)⟩
    · cases e
  · cases e
theorem or_addI : OpR X (inplaceOp .Add) (fun x y H Q => rI0 (fun i j => .int (i + j)) x y H Q ∨ (∃ i j, x = .str i ∧ y = .str j ∧ i.length + j.length ≤ sizeLine ∧ Q (.str (i ++ j)) H)) := opr_or iop_add iop_add_str
end

/-! ## while, with so many turns at most -/
def whileS (c : Et) (body : Es) : Nat → Es
  | 0, _, _ => none
  | n + 1, r, m => (c r m).bind fun b => if b.1 = true then (body r b.2).bind fun o => match o with
      | .nx r2 m2 => whileS c body n r2 m2
      | .ct r2 m2 => whileS c body n r2 m2
      | .bk r2 m2 => some (.nx r2 m2)
      | o => some o
    else some (.nx r b.2)
section
variable {X : Cx} {U : Hp} {n0 : Nat} {pos : Pos} {c : Expr} {body : List Stmt} {t : Et} {s : Es}
theorem qs_while (n : Nat) (hp : PassesOwn (model X.prog X.w) X.A X.env X.xe) (hc : PT X c (tT X.K U t)) (hb : PSs X body (tS X.K U n0 s)) : PS X (.While c body [] pos) (tS X.K U n0 (whileS t s n)) := ps_weak (ps_while hp hc hb) fun D σ H ⟨A, F, r, m, o, G, hn, e, p⟩ => by
  refine ⟨fun n σ2 H2 => ∃ (A2 : List Addr) (F2 : Hp) (r2 : Rs) (m2 : Ms), A <+: A2 ∧ Same F F2 ∧ Good X.K U A2 F2 H2 σ2 r2 m2 ∧ whileS t s n r2 m2 = some o, ⟨n, A, F, r, m, List.prefix_refl A, Same.refl F, G, e⟩, ?_⟩
  rintro n σ2 H2 ⟨A2, F2, r2, m2, hA, hF, G2, e2⟩
  cases n with
  | zero => cases e2
  | succ n =>
    unfold whileS at e2
    cases e3 : t r2 m2 with
    | none => rw [e3] at e2; cases e2
    | some q =>
      obtain ⟨b, m3⟩ := q
      rw [e3] at e2
      simp only [Option.bind_some] at e2
      refine ⟨A2, F2, r2, m2, b, m3, G2, e3, fun F3 H3 s3 G3 => ?_⟩
      cases b with
      | false =>
        refine iteF ?_
        cases e2
        exact p A2 F3 H3 σ2 hA (hF.trans s3) G3
      | true =>
        refine iteT ?_
        rw [if_pos rfl] at e2
        cases e4 : s r2 m3 with
        | none => rw [e4] at e2; cases e2
        | some o4 =>
          rw [e4] at e2
          simp only [Option.bind_some] at e2
          refine ⟨fun σ' H' => ∃ (A' : List Addr) (F' : Hp) (r' : Rs) (m' : Ms), A <+: A' ∧ Same F F' ∧ Good X.K U A' F' H' σ' r' m' ∧ whileS t s n r' m' = some o, fun σ' H' w => ⟨n, Nat.lt_succ_self n, w⟩, A2, F3, r2, m3, o4, G3, len_of hA hn, e4, ?_⟩
          have hF3 : Same F F3 := hF.trans s3
          have past := fun {A' : List Addr} {F' : Hp} (ha : A2 <+: A') (hf : Same F3 F') => Post.later (K := X.K) (U := U) (n0 := n0) (D := D) (hA.trans ha) (hF3.trans hf) p
          cases o4 with
          | nx r5 m5 => exact fun A' F' H' σ' ha hf G' => ⟨A', F', r5, m5, hA.trans ha, hF3.trans hf, G', e2⟩
          | ct r5 m5 => exact fun A' F' H' σ' ha hf G' => ⟨A', F', r5, m5, hA.trans ha, hF3.trans hf, G', e2⟩
          | bk r5 m5 =>
            cases e2
            exact fun A' F' H' σ' ha hf G' => past ha hf A' F' H' σ' (List.prefix_refl A') (Same.refl F') G'
          | rt d m5 =>
            cases e2
            exact fun A' F' H' v ha hf Fi hv => past ha hf A' F' H' v (List.prefix_refl A') (Same.refl F') Fi hv
          | rn ds5 m5 =>
            cases e2
            exact fun A' F' H' a u ha hf Fi q1 q2 q3 q4 q5 => past ha hf A' F' H' a u (List.prefix_refl A') (Same.refl F') Fi q1 q2 q3 q4 q5
end

/-! ## zip of two lists, of two tuples; *e -/
def zipD : List PyData → List PyData → List PyData
  | a :: as, b :: bs => .tuple [a, b] :: zipD as bs
  | _, _ => []
theorem zipD_get : ∀ {as bs : List PyData} {i : Nat} {d : PyData}, (zipD as bs)[i]? = some d → ∃ a b, as[i]? = some a ∧ bs[i]? = some b ∧ d = .tuple [a, b]
  | [], _, i, d, e => by simp [zipD] at e
  | _ :: _, [], i, d, e => by simp [zipD] at e
  | a :: as, b :: bs, 0, d, e => by simp [zipD] at e; exact ⟨a, b, rfl, rfl, e.symm⟩
  | a :: as, b :: bs, i + 1, d, e => by
    simp only [zipD, List.getElem?_cons_succ] at e
    obtain ⟨x, y, h1, h2, h3⟩ := zipD_get e
    exact ⟨x, y, by simpa using h1, by simpa using h2, h3⟩
theorem zipD_len : ∀ (as bs : List PyData), as.length ≤ (zipD as bs).length ∨ bs.length ≤ (zipD as bs).length
  | [], _ => .inl (Nat.zero_le _)
  | _ :: _, [] => .inr (Nat.zero_le _)
  | _ :: as, _ :: bs => by
    rcases zipD_len as bs with h | h
    · exact .inl (Nat.succ_le_succ h)
    · exact .inr (Nat.succ_le_succ h)
def zip2 : List PyData → Option (List PyData)
  | [.list a, .list b] => some (zipD a b)
  | [.tuple a, .tuple b] => some (zipD a b)
  | _ => none
def eZip (f : Eas) : Eas := fun r m => (f r m).bind fun p => (zip2 p.1).map fun ds => (ds, p.2)
theorem wk_zip {K : PySem.W.Frag} {Z F : Hp} {a b : Addr} {xs ys : List V} {ds es : List PyData} (hs : SqL K F a xs) (hr : RpAll K F xs ds) (hs' : SqL K F b ys) (hr' : RpAll K F ys es) : Wk K Z (Itz K a b) F (zipD ds es) where
  go := fun U A σ r m F1 H1 i d _ s1 G1 e => by
    obtain ⟨d1, d2, g1, g2, e3⟩ := zipD_get e
    subst e3
    obtain ⟨v1, h1, h2⟩ := rpa_get hr g1
    obtain ⟨v2, h3, h4⟩ := rpa_get hr' g2
    have q1 : SqL K H1 a xs := (sqL_mono (s1.trans G1.sub) hs)
    have q2 : SqL K H1 b ys := (sqL_mono (s1.trans G1.sub) hs')
    refine ⟨⟨xs, ys, v1, v2, q1, q2, h1, h3⟩, fun x H2 hy => ?_⟩
    obtain ⟨T, y1, y2, e2, nT, e3, k1, k2⟩ := hy
    have z1 := k1 xs q1
    have z2 := k2 ys q2
    rw [h1] at z1
    rw [h3] at z2
    cases z1
    cases z2
    subst e2 e3
    have sF : Same F1 (upd F1 T (.tup [v1, v2])) := same_new (G1.nope nT).1
    exact ⟨_, sF, G1.laid nT, .vt (.inl (.inl upd_same)) (.cons (Rpm (s1.trans sF) h2) (.cons (Rpm (s1.trans sF) h4) .nil))⟩
  stop := fun F1 H1 _ s1 s2 => ⟨xs, ys, (sqL_mono (s1.trans s2) hs), (sqL_mono (s1.trans s2) hs'), by rw [rpa_len hr, rpa_len hr']; exact zipD_len ds es⟩
theorem wk_zipT {K : PySem.W.Frag} {Z F : Hp} {a b : Addr} {xs ys : List V} {ds es : List PyData} (hs : SqT K F a xs) (hr : RpAll K F xs ds) (hs' : SqT K F b ys) (hr' : RpAll K F ys es) : Wk K Z (RZ.ItzT K a b) F (zipD ds es) where
  go := fun U A σ r m F1 H1 i d _ s1 G1 e => by
    obtain ⟨d1, d2, g1, g2, e3⟩ := zipD_get e
    subst e3
    obtain ⟨v1, h1, h2⟩ := rpa_get hr g1
    obtain ⟨v2, h3, h4⟩ := rpa_get hr' g2
    have q1 : SqT K H1 a xs := seqT_mono (s1.trans G1.sub) hs
    have q2 : SqT K H1 b ys := seqT_mono (s1.trans G1.sub) hs'
    refine ⟨⟨xs, ys, v1, v2, q1, q2, h1, h3⟩, fun x H2 hy => ?_⟩
    obtain ⟨T, y1, y2, e2, nT, e3, k1, k2⟩ := hy
    have z1 := k1 xs q1
    have z2 := k2 ys q2
    rw [h1] at z1
    rw [h3] at z2
    cases z1
    cases z2
    subst e2 e3
    have sF : Same F1 (upd F1 T (.tup [v1, v2])) := same_new (G1.nope nT).1
    exact ⟨_, sF, G1.laid nT, .vt (.inl (.inl upd_same)) (.cons (Rpm (s1.trans sF) h2) (.cons (Rpm (s1.trans sF) h4) .nil))⟩
  stop := fun F1 H1 _ s1 s2 => ⟨xs, ys, seqT_mono (s1.trans s2) hs, seqT_mono (s1.trans s2) hs', by rw [rpa_len hr, rpa_len hr']; exact zipD_len ds es⟩
section
variable {X : Cx} {U : Hp} {a b : Expr} {fs : Eas} {p pos tpos : Pos}
theorem qi_zip {elts : List Expr} {kk : Nat} (hg : Gl X "zip") (hm : X.mg "zip" = none) (ha : PA X [a, b] (tAs X.K U fs)) (hs : starEach [a, b] X.env = (false, eval a X.env) :: starEach [b] X.env := by rfl) (hpl : (backTo pos (starEach [b] X.env)).any (·.1) = false := by rfl) :
    PI X (.Tuple elts kk tpos) (.Call (.Name "zip" p) [a, b] [] pos) (tIt X.K U (eZip fs)) := by
  refine ⟨fun pins s σ H R I ⟨A, F, r, m, ds, m', G, e0, k⟩ => ?_⟩
  refine (RZ.pi_zipA hg hm ha hs hpl).run pins s σ H R I ?_
  unfold eZip at e0
  cases e1 : fs r m with
  | none => rw [e1] at e0; cases e0
  | some q =>
    obtain ⟨es, m1⟩ := q
    rw [e1] at e0
    simp only [Option.bind_some] at e0
    cases e2 : zip2 es with
    | none => rw [e2] at e0; cases e0
    | some zs =>
      rw [e2] at e0
      cases e0
      refine ⟨A, F, r, m, es, m', G, e1, fun F1 H1 vs s1 G1 h1 => ?_⟩
      unfold zip2 at e2
      split at e2
      · cases e2
        obtain ⟨v, w, rfl, h, h'⟩ := rpa2 h1
        cases h with
        | vl sa ra => cases h' with
          | vl sb rb => exact ⟨_, _, _, _, rfl, .inl ⟨(sqL_mono G1.sub sa), (sqL_mono G1.sub sb), k F1 H1 _ s1 G1 (wk_zip sa ra sb rb)⟩⟩
      · cases e2
        obtain ⟨v, w, rfl, h, h'⟩ := rpa2 h1
        cases h with
        | vt sa ra => cases h' with
          | vt sb rb => exact ⟨_, _, _, _, rfl, .inr ⟨seqT_mono G1.sub sa, seqT_mono G1.sub sb, k F1 H1 _ s1 G1 (wk_zipT sa ra sb rb)⟩⟩
      · cases e2
def eStar (f : Ev) (g : Eas) : Eas := fun r m => (f r m).bind fun p => match p.1 with
  | .list ds => (g r p.2).map fun q => (ds ++ q.1, q.2)
  | .tuple ds => (g r p.2).map fun q => (ds ++ q.1, q.2)
  | _ => none
theorem qa_star {e : Expr} {es : List Expr} {f : Ev} {g : Eas} (ha : PE X e (tE X.K U f)) (hr : PA X es (tAs X.K U g)) (hs : starEach (.Starred e p :: es) X.env = (true, eval e X.env) :: starEach es X.env := by rfl) :
    PA X (.Starred e p :: es) (tAs X.K U (eStar f g)) := pa_weak (StX.pa_star ha hr hs) fun σ H Q ⟨A, F, r, m, ds, m', G, e, k⟩ => by
  unfold eStar at e
  cases e1 : f r m with
  | none => rw [e1] at e; cases e
  | some q =>
    obtain ⟨d1, m1⟩ := q
    rw [e1] at e
    simp only [Option.bind_some] at e
    split at e
    · cases e2 : g r m1 with
      | none => rw [e2] at e; cases e
      | some q2 =>
        rw [e2] at e
        cases e
        refine ⟨A, F, r, m, _, m1, G, e1, fun F1 H1 x s1 G1 h1 => ?_⟩
        cases h1 with
        | vl sa ra => exact ⟨_, _, rfl, .inr ((sqL_mono G1.sub sa)), A, F1, r, m1, q2.1, q2.2, G1, e2, fun F2 H2 vs s2 G2 h2 => k F2 H2 _ (s1.trans s2) G2 (rpa_app (Rpam s2 ra) h2)⟩
    · cases e2 : g r m1 with
      | none => rw [e2] at e; cases e
      | some q2 =>
        rw [e2] at e
        cases e
        refine ⟨A, F, r, m, _, m1, G, e1, fun F1 H1 x s1 G1 h1 => ?_⟩
        cases h1 with
        | vt sa ra => exact ⟨_, _, rfl, .inl (seqT_mono G1.sub sa), A, F1, r, m1, q2.1, q2.2, G1, e2, fun F2 H2 vs s2 G2 h2 => k F2 H2 _ (s1.trans s2) G2 (rpa_app (Rpam s2 ra) h2)⟩
    · cases e
end
theorem room65 {k : Nat} {A : Around} (r : Room k A) : A.units + 65 < cLine := by have := r.un; omega
end TL

end
/-! TL11 -/
section
set_option maxHeartbeats 4000000
namespace TL
open PySem L2

/-! ## a cell frozen ahead of a block -/
def sFrz (i : Nat) (s : Es) : Es := fun r m => (slO r[i]?).bind fun k => (cellAt m k).bind fun d => s (frzR k d r) (m.set k none)
section
variable {X : Cx} {U : Hp} {n0 : Nat}
theorem qs_frz (i : Nat) {body : List Stmt} {s : Es} (h : PSs X body (tS X.K U n0 s)) : PSs X body (tS X.K U n0 (sFrz i s)) := pss_weak h fun D σ H ⟨A, F, r, m, o, G, hn, e, p⟩ => by
  unfold sFrz at e
  cases e0 : slO r[i]? with
  | none => rw [e0] at e; cases e
  | some k =>
    rw [e0] at e
    simp only [Option.bind_some] at e
    cases e1 : cellAt m k with
    | none => rw [e1] at e; cases e
    | some d =>
      rw [e1] at e
      simp only [Option.bind_some] at e
      obtain ⟨a, hA, hσ⟩ := G.ow i k (slO_some e0)
      obtain ⟨u, s1, G1, _⟩ := G.freeze hA e1
      exact ⟨A, _, _, _, o, G1, hn, e, p.later (List.prefix_refl A) s1⟩
/-- the slot i forgotten (a name that is not read any more, or stored anew) -/
theorem qs_setF {i : Nat} {x : Str} {p1 pos : Pos} {e : Expr} {f : Ev} (hN : X.N.Nodup) (hi : X.N[i]? = some x) (hx : Loc X.env.scope x) (he : PE X e (tN X.K U f)) (hs : swapsWith e (some (.Name x p1)) pos.line X.env = pure false := by rfl)
    (hf : X.fn x = true ∨ X.env.scope.names.lookup x = some .local := by first | exact .inl rfl | exact .inr rfl | assumption) : PS X (.Assign [.Name x p1] e pos) (tS X.K U n0 (sSetF i f)) := ps_weak (ps_set hN hi hx he hs hf) fun D σ H ⟨A, F, r, m, o, G, hn, e, p⟩ => by
  unfold sSetF at e
  cases e1 : f r m with
  | none => rw [e1] at e; cases e
  | some q =>
    rw [e1] at e
    cases e
    exact ⟨A, F, r, m, q.1, q.2, G, e1, fun F1 H1 a u s1 G1 q1 q2 q3 q4 q5 => p (A ++ [a]) F1 H1 _ (List.prefix_append A [a]) s1 (G1.setOw q1 q2 q3 q4 q5)⟩
/-- return e, e a new object, as one that the caller may change -/
def sRetF (f : Ev) : Es := fun r m => (f r m).map fun p => .rn p.1 p.2
theorem qs_retF {pos : Pos} {e : Expr} {f : Ev} (he : PE X e (tN X.K U f)) : PS X (.Return (some e) pos) (tS X.K U n0 (sRetF f)) := ps_weak (ps_ret he) fun D σ H ⟨A, F, r, m, o, G, hn, e, p⟩ => by
  unfold sRetF at e
  cases e1 : f r m with
  | none => rw [e1] at e; cases e
  | some q =>
    rw [e1] at e
    cases e
    exact ⟨A, F, r, m, q.1, q.2, G, e1, fun F1 H1 a u s1 G1 q1 q2 q3 q4 q5 => p A F1 H1 a u (List.prefix_refl A) s1 (G1.fin hn) q1 q2 (fun k _ e2 => q3 (List.mem_of_getElem? e2)) q4 q5⟩
/-- return x, x a cell's name, not one of the first n0 -/
def sRetC (n0 i : Nat) : Es := fun r m => (slO r[i]?).bind fun k => if n0 ≤ k then (cellAt m k).map fun d => .rn d m else none
theorem qs_retC (i : Nat) {x : Str} {p1 pos : Pos} (hv : PE X (.Name x p1) (tVar i)) : PS X (.Return (some (.Name x p1)) pos) (tS X.K U n0 (sRetC n0 i)) := ps_weak (ps_ret hv) fun D σ H ⟨A, F, r, m, o, G, hn, e, p⟩ => by
  unfold sRetC at e
  cases e0 : slO r[i]? with
  | none => rw [e0] at e; cases e
  | some k =>
    rw [e0] at e
    simp only [Option.bind_some] at e
    split at e
    · rename_i hk
      cases e1 : cellAt m k with
      | none => rw [e1] at e; cases e
      | some d =>
        rw [e1] at e
        cases e
        obtain ⟨a, hA, hσ⟩ := G.ow i k (slO_some e0)
        obtain ⟨c1, c2, u, c3, c4⟩ := G.cl k a d hA e1
        refine ⟨_, hσ, p A F H a u (List.prefix_refl A) (Same.refl F) (G.fin hn) c1 c2 (fun j hj e2 => ?_) c3 c4⟩
        obtain ⟨l1, q1⟩ := List.getElem?_eq_some_iff.mp e2
        obtain ⟨l2, q2⟩ := List.getElem?_eq_some_iff.mp hA
        have := (List.getElem_inj G.nd).mp (q1.trans q2.symm)
        omega
    · cases e

/-! ## new objects by built-ins and operators -/
def CallN (X : Cx) (U : Hp) (rc : List V → Hp → VK → Prop) (op : List PyData → Option PyData) : Prop :=
  ∀ (A : List Addr) (F H : Hp) (σ : St) (r : Rs) (m : Ms) (vs : List V) (ds : List PyData) (d : PyData) (Q : VK), Good X.K U A F H σ r m → RpAll X.K F vs ds → op ds = some d →
    (∀ (F' H' : Hp) (a : Addr) (u : HO), Same F F' → Good X.K U A F' H' σ r m → F' a = none → U a = none → a ∉ A → H' a = some u → Stored X.K F' u d → Q (.ref a) H') → rc vs H Q
theorem cbN {rc : List V → Hp → VK → Prop} {op : List PyData → Option PyData} {f : Eas} (ho : CallN X U rc op) {σ : St} {H : Hp} {Q : VK} (h : tN X.K U (eMap f op) σ H Q) : tCB rc (tAs X.K U f) σ H Q := by
  obtain ⟨A, F, r, m, d, m', G, e, k⟩ := h
  obtain ⟨ds, e1, e2⟩ := map_some e
  exact ⟨A, F, r, m, ds, m', G, e1, fun F1 H1 vs s1 G1 h1 => ho A F1 H1 σ r m' vs ds d Q G1 h1 e2 fun F2 H2 a u s2 G2 q1 q2 q3 q4 q5 => k F2 H2 a u (s1.trans s2) G2 q1 q2 q3 q4 q5⟩
variable {x : Str} {p pos : Pos} {e : Expr} {es : List Expr} {id T : String} {rc : List V → Hp → VK → Prop} {op : List PyData → Option PyData} {f : Eas}
theorem qn_callB (hc : CallR X (.builtin id) rc) (ho : CallN X U rc op) (hg : Gl X x) (hm : X.mg x = none) (hv : bootBuiltins x = some (.builtin id)) (ha : PA X (e :: es) (tAs X.K U f)) (hn : x ≠ "__name__" := by decide) (hdb : (x == ("__debug__" : Str)) = false := by decide)
    (he : starEach (e :: es) X.env = (false, eval e X.env) :: starEach es X.env := by rfl) (hpl : (backTo pos (starEach es X.env)).any (·.1) = false := by rfl) : PE X (.Call (.Name x p) (e :: es) [] pos) (tN X.K U (eMap f op)) :=
  pe_weak (pe_callB hc hg hm hv ha hn hdb he hpl) fun _ _ _ h => cbN ho h
theorem qn_callTy (hc : CallR X (.type T) rc) (ho : CallN X U rc op) (hg : Gl X x) (hm : X.mg x = none) (hv : bootBuiltins x = some (.type T)) (ha : PA X (e :: es) (tAs X.K U f)) (hn : x ≠ "__name__" := by decide) (hdb : (x == ("__debug__" : Str)) = false := by decide)
    (he : starEach (e :: es) X.env = (false, eval e X.env) :: starEach es X.env := by rfl) (hpl : (backTo pos (starEach es X.env)).any (·.1) = false := by rfl) : PE X (.Call (.Name x p) (e :: es) [] pos) (tN X.K U (eMap f op)) :=
  pe_weak (pe_callTy hc hg hm hv ha hn hdb he hpl) fun _ _ _ h => cbN ho h
theorem cn_list : CallN X U (fun xs H Q => ∃ p ys, xs = [.ref p] ∧ (SqL X.K H p ys ∨ SqT X.K H p ys) ∧ ∀ l, H l = none → Q (.ref l) (upd H l (.lst ys))) listD := by
  intro A F H σ r m vs ds d Q G ha e k
  unfold listD at e
  split at e
  · cases e
    obtain ⟨v, rfl, h⟩ := rpa1 ha
    cases h with
    | vl sa ra => exact ⟨_, _, rfl, .inl ((sqL_mono G.sub sa)), fun l hl => k F _ l _ (Same.refl F) (G.laidO hl) (G.nope hl).1 (G.nope hl).2 (G.notin hl) upd_same ⟨_, rfl, ra⟩⟩
  · cases e
    obtain ⟨v, rfl, h⟩ := rpa1 ha
    cases h with
    | vt sa ra => exact ⟨_, _, rfl, .inr (seqT_mono G.sub sa), fun l hl => k F _ l _ (Same.refl F) (G.laidO hl) (G.nope hl).1 (G.nope hl).2 (G.notin hl) upd_same ⟨_, rfl, ra⟩⟩
  · cases e
theorem qn_lst {f : Eas} (h : PA X es (tAs X.K U f)) : PE X (.List es pos) (tN X.K U (eLst f)) := pe_weak (pe_lst h) fun σ H Q ⟨A, F, r, m, d, m', G, e, k⟩ => by
  unfold eLst at e
  cases e1 : f r m with
  | none => rw [e1] at e; cases e
  | some p =>
    obtain ⟨ds, m1⟩ := p
    simp [e1] at e
    obtain ⟨hz, z1, z2⟩ := e
    subst z1 z2
    exact ⟨A, F, r, m, ds, m1, G, e1, fun F1 H1 xs s1 G1 h1 => ⟨by rw [rpa_len h1]; exact hz, fun p np => k F1 _ p _ s1 (G1.laidO np) (G1.nope np).1 (G1.nope np).2 (G1.notin np) upd_same ⟨_, rfl, h1⟩⟩⟩
/-- f(..) of a def that hands back a new object -/
theorem qn_call {g : List PyData → Option PyData} {j k n : Nat} {ps : List Str} (C : Cal X.prog X.w X.K X.mg X.base x k ps (spN X.K n g)) (hr : Room j X.A) (hjk : k ≤ j) (ha : PA X (e :: es) (tAs X.K U f)) (hg : Gl X x := by rfl) (hdb : (x == ("__debug__" : Str)) = false := by decide)
    (he : starEach (e :: es) X.env = (false, eval e X.env) :: starEach es X.env := by rfl) (hpl : (backTo pos (starEach es X.env)).any (·.1) = false := by rfl) : PE X (.Call (.Name x p) (e :: es) [] pos) (tN X.K U (eMap f (arN n g))) := by
  obtain ⟨fa, fd, Fn, h2, h3, h4⟩ := C.ex
  refine pe_weak (pe_call Fn (hr.mono hjk) hg h2 h3 h4 .nil pass0 ha hdb he hpl) fun σ H Q ⟨A, F, r, m, d, m', G, e, kk⟩ => ?_
  obtain ⟨ds, e1, e2⟩ := map_some e
  refine ⟨A, F, r, m, ds, m', G, e1, fun F1 H1 vs s1 G1 h1 => ?_⟩
  show spN X.K n g (vs ++ []) H1 Q E0
  rw [List.append_nil]
  obtain ⟨l2, e3⟩ := arN_some e2
  refine ⟨F1, ds, d, G1.sub, (rpa_len h1).trans l2, h1, e3, fun F2 H2 a u s2 s3 k3 f2 na h2 r2 => ?_⟩
  have nU : U a = none := by
    cases q : U a with
    | none => rfl
    | some o => rw [(G1.fo a o q).1] at na; cases na
  exact kk F2 H2 a u (s1.trans s2) (G1.past s2 s3 k3) f2 nU (G1.notin na) h2 r2

/-! ## a cell looked at -/
/-- len(x), x a cell's name -/
def eLenO (i : Nat) : Ev := fun r m => (slO r[i]?).bind fun k => (cellAt m k).bind fun c => match c with | .list ds => some (.int ds.length, m) | _ => none
theorem qe_lenO (i : Nat) {y : Str} {p1 : Pos} (hv : PE X (.Name y p1) (tVar i)) (hg : Gl X x) (hx : x = "len") (hm : X.mg x = none) (hb : bootBuiltins x = some (.builtin "len")) (hn : x ≠ "__name__" := by decide) (hdb : (x == ("__debug__" : Str)) = false := by decide)
    (he : starEach [.Name y p1] X.env = (false, eval (.Name y p1) X.env) :: starEach [] X.env := by rfl) (hpl : (backTo pos (starEach [] X.env)).any (·.1) = false := by rfl) : PE X (.Call (.Name x p) [.Name y p1] [] pos) (tE X.K U (eLenO i)) :=
  pe_weak (pe_callB call_len_seq hg hm hb (pa_cons hv pa_nil he) hn hdb he hpl) fun σ H Q ⟨A, F, r, m, d, m', G, e, k⟩ => by
  unfold eLenO at e
  cases e0 : slO r[i]? with
  | none => rw [e0] at e; cases e
  | some kk =>
    rw [e0] at e
    simp only [Option.bind_some] at e
    cases e1 : cellAt m kk with
    | none => rw [e1] at e; cases e
    | some c =>
      rw [e1] at e
      simp only [Option.bind_some] at e
      split at e
      · cases e
        obtain ⟨a, hA, hσ⟩ := G.ow i kk (slO_some e0)
        obtain ⟨c1, c2, u, c3, vs, c5, c4⟩ := G.cl kk a _ hA e1
        subst c5
        refine ⟨_, hσ, a, vs, rfl, .inl (.inl (.inl c3)), ?_⟩
        rw [rpa_len c4]
        exact k F H _ (Same.refl F) G (.vi _)
      · cases e
/-- tuple(x), list(x) -/
def eSeqO (i : Nat) (mk : List PyData → PyData) : Ev := fun r m => (slO r[i]?).bind fun k => (cellAt m k).bind fun c => match c with | .list ds => some (mk ds, m) | _ => none
theorem qe_tupO (i : Nat) {y : Str} {p1 : Pos} (hv : PE X (.Name y p1) (tVar i)) (hg : Gl X x) (hm : X.mg x = none) (hb : bootBuiltins x = some (.type "tuple")) (hn : x ≠ "__name__" := by decide) (hdb : (x == ("__debug__" : Str)) = false := by decide)
    (he : starEach [.Name y p1] X.env = (false, eval (.Name y p1) X.env) :: starEach [] X.env := by rfl) (hpl : (backTo pos (starEach [] X.env)).any (·.1) = false := by rfl) : PE X (.Call (.Name x p) [.Name y p1] [] pos) (tE X.K U (eSeqO i .tuple)) :=
  pe_weak (pe_callTy call_tuple_of hg hm hb (pa_cons hv pa_nil he) hn hdb he hpl) fun σ H Q ⟨A, F, r, m, d, m', G, e, k⟩ => by
  unfold eSeqO at e
  cases e0 : slO r[i]? with
  | none => rw [e0] at e; cases e
  | some kk =>
    rw [e0] at e
    simp only [Option.bind_some] at e
    cases e1 : cellAt m kk with
    | none => rw [e1] at e; cases e
    | some c =>
      rw [e1] at e
      simp only [Option.bind_some] at e
      split at e
      · cases e
        obtain ⟨a, hA, hσ⟩ := G.ow i kk (slO_some e0)
        obtain ⟨c1, c2, u, c3, vs, c5, c4⟩ := G.cl kk a _ hA e1
        subst c5
        refine ⟨_, hσ, a, vs, rfl, .inl ⟨.inl (.inl c3), fun l hl => ?_⟩⟩
        have sF : Same F (upd F l (.tup vs)) := same_new (G.nope hl).1
        exact k _ _ _ sF (G.laid hl) (.vt (.inl (.inl upd_same)) (Rpam sF c4))
      · cases e
theorem qn_listO (i : Nat) {y : Str} {p1 : Pos} (hv : PE X (.Name y p1) (tVar i)) (hg : Gl X x) (hm : X.mg x = none) (hb : bootBuiltins x = some (.type "list")) (hn : x ≠ "__name__" := by decide) (hdb : (x == ("__debug__" : Str)) = false := by decide)
    (he : starEach [.Name y p1] X.env = (false, eval (.Name y p1) X.env) :: starEach [] X.env := by rfl) (hpl : (backTo pos (starEach [] X.env)).any (·.1) = false := by rfl) : PE X (.Call (.Name x p) [.Name y p1] [] pos) (tN X.K U (eSeqO i .list)) :=
  pe_weak (pe_callTy call_list_of hg hm hb (pa_cons hv pa_nil he) hn hdb he hpl) fun σ H Q ⟨A, F, r, m, d, m', G, e, k⟩ => by
  unfold eSeqO at e
  cases e0 : slO r[i]? with
  | none => rw [e0] at e; cases e
  | some kk =>
    rw [e0] at e
    simp only [Option.bind_some] at e
    cases e1 : cellAt m kk with
    | none => rw [e1] at e; cases e
    | some c =>
      rw [e1] at e
      simp only [Option.bind_some] at e
      split at e
      · cases e
        obtain ⟨a, hA, hσ⟩ := G.ow i kk (slO_some e0)
        obtain ⟨c1, c2, u, c3, vs, c5, c4⟩ := G.cl kk a _ hA e1
        subst c5
        exact ⟨_, hσ, a, vs, rfl, .inl (.inl (.inl c3)), fun l hl => k F _ l _ (Same.refl F) (G.laidO hl) (G.nope hl).1 (G.nope hl).2 (G.notin hl) upd_same ⟨_, rfl, c4⟩⟩
      · cases e
/-- x == e, x != e, x a cell's name -/
def eCmpO (i : Nat) (od : PyData → PyData → Option PyData) (g : Ev) : Ev := fun r m => (slO r[i]?).bind fun k => (g r m).bind fun p => (cellAt p.2 k).bind fun c => (od c p.1).map fun d => (d, p.2)
/-- e in x, e not in x -/
def eInO (i : Nat) (od : PyData → PyData → Option PyData) (g : Ev) : Ev := fun r m => (slO r[i]?).bind fun k => (g r m).bind fun p => (cellAt p.2 k).bind fun c => (od p.1 c).map fun d => (d, p.2)
theorem cell_dp {K : PySem.W.Frag} {F H : Hp} {a : Addr} {u : HO} {c : PyData} (hs : Same F H) (hH : H a = some u) (h : Stored K F u c) (hc : c.canLay0 = true) : Dp K H (.ref a) c := by
  cases c with
  | list ds =>
    obtain ⟨vs, rfl, h2⟩ := h
    exact .lst (.inl (.inl hH)) (rpa_dp hs ds _ hc h2)
  | dict ps => cases hc
  | _ => exact h.elim
theorem cmpO_read {i : Nat} {g : Ev} {neg : Bool} {σ : St} {H : Hp} {Q : VK} (hq : tE X.K U (eCmpO i (fun a b => if SeqAt.shaped a = true ∧ SeqAt.shaped b = true then some (.bool (if neg then !PyData.eqv a b else PyData.eqv a b)) else none) g) σ H Q) :
    tOp (fun x y H Q => ∃ d e, Dp X.K H x d ∧ Dp X.K H y e ∧ SeqAt.shaped d = true ∧ SeqAt.shaped e = true ∧ Q (.bl (if neg then !PyData.eqv d e else PyData.eqv d e)) H) (tVar i) (tE X.K U g) σ H Q := by
  obtain ⟨A, F, r, m, d, m', G, e, k⟩ := hq
  unfold eCmpO at e
  cases e0 : slO r[i]? with
  | none => rw [e0] at e; cases e
  | some kk =>
    rw [e0] at e
    simp only [Option.bind_some] at e
    obtain ⟨a, hA, hσ⟩ := G.ow i kk (slO_some e0)
    cases e1 : g r m with
    | none => rw [e1] at e; cases e
    | some q =>
      obtain ⟨d1, m1⟩ := q
      rw [e1] at e
      simp only [Option.bind_some] at e
      cases e2 : cellAt m1 kk with
      | none => rw [e2] at e; cases e
      | some c =>
        rw [e2] at e
        simp only [Option.bind_some] at e
        split at e
        · rename_i hs
          cases e
          refine ⟨_, hσ, A, F, r, m, d1, _, G, e1, fun F1 H1 y s1 G1 h1 => ?_⟩
          obtain ⟨c1, c2, u, c3, c4⟩ := G1.cl kk a _ hA e2
          exact ⟨c, d1, cell_dp G1.sub c3 c4 (SeqAt.canLay_of_shaped hs.1), rp_dp G1.sub _ _ (SeqAt.canLay_of_shaped hs.2) h1, hs.1, hs.2, k F1 H1 _ s1 G1 (.vb _)⟩
        · cases e
theorem qe_eqO (i : Nat) {y : Str} {p1 : Pos} {b : Expr} {g : Ev} (hu : X.A.units + 64 < cLine) (hv : PE X (.Name y p1) (tVar i)) (hb : PE X b (tE X.K U g)) (hm : behindInMarks .Eq b = false := by rfl) : PE X (.Compare (.Name y p1) [.Eq] [b] pos) (tE X.K U (eCmpO i eqD g)) :=
  pe_weak (pe_cmpR (op_eqD hu) hv hb hm) fun σ H Q h => cmpO_read (neg := false) h
theorem qe_neO (i : Nat) {y : Str} {p1 : Pos} {b : Expr} {g : Ev} (hu : X.A.units + 64 < cLine) (hv : PE X (.Name y p1) (tVar i)) (hb : PE X b (tE X.K U g)) (hm : behindInMarks .NotEq b = false := by rfl) : PE X (.Compare (.Name y p1) [.NotEq] [b] pos) (tE X.K U (eCmpO i neD g)) :=
  pe_weak (pe_cmpR (op_neD hu) hv hb hm) fun σ H Q h => cmpO_read (neg := true) h
theorem tst_read {f : Ev} {t : TE} {σ : St} {H : Hp} {Q : Bool → Hp → Prop} (w : ∀ σ H Q, tE X.K U f σ H Q → t σ H Q) (h : tT X.K U (eT blD f) σ H Q) : tTest t σ H Q := by
  obtain ⟨A, F, r, m, bb, m', G, e, k⟩ := h
  obtain ⟨d, e1, e2⟩ := et_some e
  exact w _ _ _ ⟨A, F, r, m, d, m', G, e1, fun F1 H1 x s1 G1 h1 => ⟨bb, bl_of h1 e2, k F1 H1 s1 G1⟩⟩
theorem qt_eqO (i : Nat) {y : Str} {p1 : Pos} {b : Expr} {g : Ev} (hu : X.A.units + 64 < cLine) (hv : PE X (.Name y p1) (tVar i)) (hb : PE X b (tE X.K U g)) (hm : behindInMarks .Eq b = false := by rfl) : PT X (.Compare (.Name y p1) [.Eq] [b] pos) (tT X.K U (eT blD (eCmpO i eqD g))) :=
  pt_weak (pt_cmpR (op_eqD hu) hv hb hm) fun σ H Q h => tst_read (fun σ H Q h => cmpO_read (neg := false) h) h
theorem qt_neO (i : Nat) {y : Str} {p1 : Pos} {b : Expr} {g : Ev} (hu : X.A.units + 64 < cLine) (hv : PE X (.Name y p1) (tVar i)) (hb : PE X b (tE X.K U g)) (hm : behindInMarks .NotEq b = false := by rfl) : PT X (.Compare (.Name y p1) [.NotEq] [b] pos) (tT X.K U (eT blD (eCmpO i neD g))) :=
  pt_weak (pt_cmpR (op_neD hu) hv hb hm) fun σ H Q h => tst_read (fun σ H Q h => cmpO_read (neg := true) h) h
def inL (a b : PyData) : Option PyData := match b with
  | .list ds => if SeqAt.shaped a = true ∧ SeqAt.shaped (.list ds) = true then some (.bool (ds.any fun z => PyData.eqv z a)) else none
  | _ => none
def notInL (a b : PyData) : Option PyData := match b with
  | .list ds => if SeqAt.shaped a = true ∧ SeqAt.shaped (.list ds) = true then some (.bool (!ds.any fun z => PyData.eqv z a)) else none
  | _ => none
theorem inO_read {i : Nat} {g : Ev} {neg : Bool} {σ : St} {H : Hp} {Q : VK} (hq : tE X.K U (eInO i (if neg then notInL else inL) g) σ H Q) :
    tOp (fun x y H Q => ∃ d ds, Dp X.K H x d ∧ Dp X.K H y (.list ds) ∧ SeqAt.shaped d = true ∧ SeqAt.shaped (.list ds) = true ∧ Q (.bl (if neg then !ds.any fun z => PyData.eqv z d else ds.any fun z => PyData.eqv z d)) H) (tE X.K U g) (tVar i) σ H Q := by
  obtain ⟨A, F, r, m, d, m', G, e, k⟩ := hq
  unfold eInO at e
  cases e0 : slO r[i]? with
  | none => rw [e0] at e; cases e
  | some kk =>
    rw [e0] at e
    simp only [Option.bind_some] at e
    obtain ⟨a, hA, hσ⟩ := G.ow i kk (slO_some e0)
    cases e1 : g r m with
    | none => rw [e1] at e; cases e
    | some q =>
      obtain ⟨d1, m1⟩ := q
      rw [e1] at e
      simp only [Option.bind_some] at e
      cases e2 : cellAt m1 kk with
      | none => rw [e2] at e; cases e
      | some c =>
        rw [e2] at e
        simp only [Option.bind_some] at e
        refine ⟨A, F, r, m, d1, m1, G, e1, fun F1 H1 y s1 G1 h1 => ⟨_, hσ, ?_⟩⟩
        obtain ⟨c1, c2, u, c3, c4⟩ := G1.cl kk a _ hA e2
        cases neg with
        | false =>
          simp only [Bool.false_eq_true, if_false] at e
          cases c with
          | list ds =>
            simp only [inL] at e
            split at e
            · rename_i hs
              cases e
              exact ⟨d1, ds, rp_dp G1.sub _ _ (SeqAt.canLay_of_shaped hs.1) h1, cell_dp G1.sub c3 c4 (SeqAt.canLay_of_shaped hs.2), hs.1, hs.2, k F1 H1 _ s1 G1 (.vb _)⟩
            · cases e
          | _ => cases e
        | true =>
          simp only [if_true] at e
          cases c with
          | list ds =>
            simp only [notInL] at e
            split at e
            · rename_i hs
              cases e
              exact ⟨d1, ds, rp_dp G1.sub _ _ (SeqAt.canLay_of_shaped hs.1) h1, cell_dp G1.sub c3 c4 (SeqAt.canLay_of_shaped hs.2), hs.1, hs.2, k F1 H1 _ s1 G1 (.vb _)⟩
            · cases e
          | _ => cases e
theorem qe_inO (i : Nat) {y : Str} {p1 : Pos} {b : Expr} {g : Ev} (hu : X.A.units + 65 < cLine) (hb : PE X b (tE X.K U g)) (hv : PE X (.Name y p1) (tVar i)) (hm : behindInMarks .In (.Name y p1) = false := by rfl) : PE X (.Compare b [.In] [.Name y p1] pos) (tE X.K U (eInO i inL g)) :=
  pe_weak (pe_cmpR (op_inD hu) hb hv hm) fun σ H Q h => inO_read (neg := false) h
theorem qe_notInO (i : Nat) {y : Str} {p1 : Pos} {b : Expr} {g : Ev} (hu : X.A.units + 65 < cLine) (hb : PE X b (tE X.K U g)) (hv : PE X (.Name y p1) (tVar i)) (hm : behindInMarks .NotIn (.Name y p1) = false := by rfl) : PE X (.Compare b [.NotIn] [.Name y p1] pos) (tE X.K U (eInO i notInL g)) :=
  pe_weak (pe_cmpR (op_notInD hu) hb hv hm) fun σ H Q h => inO_read (neg := true) h
theorem qt_inO (i : Nat) {y : Str} {p1 : Pos} {b : Expr} {g : Ev} (hu : X.A.units + 65 < cLine) (hb : PE X b (tE X.K U g)) (hv : PE X (.Name y p1) (tVar i)) (hm : behindInMarks .In (.Name y p1) = false := by rfl) : PT X (.Compare b [.In] [.Name y p1] pos) (tT X.K U (eT blD (eInO i inL g))) :=
  pt_weak (pt_cmpR (op_inD hu) hb hv hm) fun σ H Q h => tst_read (fun σ H Q h => inO_read (neg := false) h) h
theorem qt_notInO (i : Nat) {y : Str} {p1 : Pos} {b : Expr} {g : Ev} (hu : X.A.units + 65 < cLine) (hb : PE X b (tE X.K U g)) (hv : PE X (.Name y p1) (tVar i)) (hm : behindInMarks .NotIn (.Name y p1) = false := by rfl) : PT X (.Compare b [.NotIn] [.Name y p1] pos) (tT X.K U (eT blD (eInO i notInL g))) :=
  pt_weak (pt_cmpR (op_notInD hu) hb hv hm) fun σ H Q h => tst_read (fun σ H Q h => inO_read (neg := true) h) h
end

/-! ## a comprehension over a cell -/
theorem Good.shut {K : PySem.W.Frag} {U : Hp} {A : List Addr} {F H : Hp} {σ : St} {r : Rs} {m : Ms} (G : Good K U A F H σ r m) {k : Nat} {a : Addr} {u : HO} {c : PyData} (hj : A[k]? = some a) (h0 : cellAt m k = some c) (hH : H a = some u) :
    Good K (upd U a u) A F H σ r (m.set k none) := by
  obtain ⟨hF, hU, _⟩ := G.cl k a c hj h0
  refine ⟨G.sub, fun b x e => ?_, G.len, G.fz, G.ow, by rw [List.length_set]; exact G.al, fun j b ds e1 e2 => ?_, G.nd, G.he⟩
  · by_cases hb : b = a
    · subst hb
      rw [upd_same] at e
      cases e
      exact ⟨hH, hF⟩
    · rw [upd_ne hb] at e
      exact G.fo b x e
  · by_cases hjk : j = k
    · subst hjk
      rw [cellAt_self (cellAt_lt h0)] at e2
      cases e2
    · rw [cellAt_ne hjk] at e2
      obtain ⟨h1, h2, h3⟩ := G.cl j b ds e1 e2
      have hb : b ≠ a := fun z => by
        subst z
        obtain ⟨l1, q1⟩ := List.getElem?_eq_some_iff.mp e1
        obtain ⟨l2, q2⟩ := List.getElem?_eq_some_iff.mp hj
        exact hjk ((List.getElem_inj G.nd).mp (q1.trans q2.symm))
      exact ⟨h1, by rw [upd_ne hb]; exact h2, h3⟩
/-- and opened again -/
theorem Good.unshut {K : PySem.W.Frag} {U : Hp} {A : List Addr} {F H : Hp} {σ : St} {r : Rs} {m : Ms} {k : Nat} {a : Addr} {u : HO} {c : PyData} (G : Good K (upd U a u) A F H σ r m) (hj : A[k]? = some a) (hU : U a = none) (h : Stored K F u c) :
    Good K U A F H σ r (m.set k (some c)) := by
  have hk : k < m.length := by rw [← G.al]; exact (List.getElem?_eq_some_iff.mp hj).1
  obtain ⟨hH, hF⟩ := G.fo a u upd_same
  refine ⟨G.sub, fun b x e => G.fo b x ?_, G.len, G.fz, G.ow, by rw [List.length_set]; exact G.al, fun j b ds e1 e2 => ?_, G.nd, G.he⟩
  · have hb : b ≠ a := fun z => by rw [z, hU] at e; cases e
    rw [upd_ne hb]
    exact e
  · by_cases hjk : j = k
    · subst hjk
      rw [hj] at e1
      cases e1
      rw [cellAt_self hk] at e2
      cases e2
      exact ⟨hF, hU, u, hH, h⟩
    · rw [cellAt_ne hjk] at e2
      obtain ⟨h1, h2, h3⟩ := G.cl j b ds e1 e2
      have hb : b ≠ a := fun z => by
        rw [z, upd_same] at h2
        cases h2
      rw [upd_ne hb] at h2
      exact ⟨h1, h2, h3⟩
theorem wk_cell {K : PySem.W.Frag} {U F : Hp} {a : Addr} {xs : List V} {ds : List PyData} (hr : RpAll K F xs ds) : Wk K (upd U a (.lst xs)) (Itl K a) F ds where
  go := fun U' A σ r m F1 H1 i d sU s1 G1 e => by
    obtain ⟨v, h1, h2⟩ := rpa_get hr e
    have hq : SqL K H1 a xs := .inl (.inl (G1.fo a _ (sU a _ upd_same)).1)
    refine ⟨⟨xs, v, hq, h1⟩, fun x H2 hy => ?_⟩
    obtain ⟨e2, hy⟩ := hy
    subst e2
    have := hy xs hq
    rw [h1] at this
    cases this
    exact ⟨F1, Same.refl F1, G1, Rpm s1 h2⟩
  stop := fun F1 H1 sZ s1 s2 => ⟨xs, .inl (.inl (sZ a _ upd_same)), by rw [rpa_len hr]; exact Nat.le_refl _⟩
def eLcO (i : Nat) (own : List Nat) (h : Eh) (t : Et) (f : Ev) : Ev := fun r m => (slO r[i]?).bind fun k => (cellAt m k).bind fun c => match c with
  | .list ds => (lcLoop h t f (wipeR r own) ds (m.set k none) []).map fun q => (.list q.1, q.2.set k (some (.list ds)))
  | _ => none
section
variable {X : Cx} {U : Hp} {elt tg : Expr} {ifs : List Expr} {scope : Scope} {own : List (Str × Nat)} {pos p1 : Pos} {is : List Nat} {h : Eh} {t : Et} {f : Ev} {y : Str}
theorem lcO_read {i : Nat} (his : ∀ j ∈ is, j ∈ own.map (·.2)) {σ : St} {H : Hp} {Q : VK} (hq : tN X.K U (eLcO i (own.map (·.2)) h t f) σ H Q) :
    tLc (iList X.K (tVar i)) (tGX X.K is h) (tTX X.K t) (tEX X.K f) (own.map (·.2)) σ H Q := by
  obtain ⟨A, F, r, m, d, m', G, e, k⟩ := hq
  unfold eLcO at e
  cases e0 : slO r[i]? with
  | none => rw [e0] at e; cases e
  | some kk =>
    rw [e0] at e
    simp only [Option.bind_some] at e
    obtain ⟨a, hA, hσ⟩ := G.ow i kk (slO_some e0)
    cases e1 : cellAt m kk with
    | none => rw [e1] at e; cases e
    | some c =>
      rw [e1] at e
      simp only [Option.bind_some] at e
      split at e
      · rename_i ds
        cases e2 : lcLoop h t f (wipeR r (own.map (·.2))) ds (m.set kk none) [] with
        | none => rw [e2] at e; cases e
        | some q =>
          obtain ⟨res, m9⟩ := q
          rw [e2] at e
          cases e
          obtain ⟨c1, c2, u, c3, vs, c5, c4⟩ := G.cl kk a _ hA e1
          subst c5
          refine ⟨_, hσ, a, rfl, ⟨vs, .inl (.inl c3)⟩, ?_⟩
          refine lc_inner his (G.shut hA e1 c3) (wk_cell c4) e2 fun F' H' b w s G' q1 q2 q3 q4 q5 => ?_
          have hb : b ≠ a := fun z => by rw [z, upd_same] at q2; cases q2
          rw [upd_ne hb] at q2
          exact k F' H' b w s (G'.unshut hA c2 ⟨vs, rfl, Rpam s c4⟩) q1 q2 q3 q4 q5
      · cases e
theorem qn_lcO (i : Nat) (hv : PE X (.Name y p1) (tVar i)) (hc : X.calm = true) (hN : X.N.Nodup) (ok : BlkOk X.N X.env.scope scope own) (his : ∀ j ∈ is, j ∈ own.map (·.2))
    (hg : ∀ (U : Hp) (s : Shared) (H : Hp) (C : Addr) (cl : List (Str × Addr)) (fp : List Addr), PG (X.blk s H scope (compEnvC scope cl C X.env) fp) tg (tG X.K U is h))
    (ht : ∀ (U : Hp) (s : Shared) (H : Hp) (C : Addr) (cl : List (Str × Addr)) (fp : List Addr), PTs (X.blk s H scope (compEnvC scope cl C X.env) fp) ifs (tT X.K U t))
    (he : ∀ (U : Hp) (s : Shared) (H : Hp) (C : Addr) (cl : List (Str × Addr)) (fp : List Addr), PE (X.blk s H scope (compEnvC scope cl C X.env) fp) elt (tE X.K U f)) (hs : ∀ x, foldedSetIterable (.Name y p1) X.env x = pure x := by intro _; rfl) :
    PE X (.ListComp elt [⟨tg, .Name y p1, ifs, 0⟩] scope pos) (tN X.K U (eLcO i (own.map (·.2)) h t f)) :=
  pe_weak (pe_lc hc hN (pi_list hv) ok (fun s H C cl fp => pg_all fun U => hg U s H C cl fp) (fun s H C cl fp => pts_all fun U => ht U s H C cl fp) (fun s H C cl fp => pe_all fun U => he U s H C cl fp) hs) fun σ H Q q => lcO_read his q
theorem qs_setLcO {n0 i j : Nat} {z : Str} {py spos : Pos} (hv : PE X (.Name y p1) (tVar j)) (hc : X.calm = true) (hN : X.N.Nodup) (hy : X.N[i]? = some z) (hyl : X.env.scope.names.lookup z = some .local)
    (hsw : swapsWith (.ListComp elt [⟨tg, .Name y p1, ifs, 0⟩] scope pos) (some (.Name z py)) spos.line X.env = pure true) (ok : BlkOk X.N X.env.scope scope own) (his : ∀ j ∈ is, j ∈ own.map (·.2))
    (hg : ∀ (U : Hp) (s : Shared) (H : Hp) (C : Addr) (cl : List (Str × Addr)) (fp : List Addr), PG (X.blk s H scope (compEnvC scope cl C X.env) fp) tg (tG X.K U is h))
    (ht : ∀ (U : Hp) (s : Shared) (H : Hp) (C : Addr) (cl : List (Str × Addr)) (fp : List Addr), PTs (X.blk s H scope (compEnvC scope cl C X.env) fp) ifs (tT X.K U t))
    (he : ∀ (U : Hp) (s : Shared) (H : Hp) (C : Addr) (cl : List (Str × Addr)) (fp : List Addr), PE (X.blk s H scope (compEnvC scope cl C X.env) fp) elt (tE X.K U f)) (hs : ∀ x, foldedSetIterable (.Name y p1) X.env x = pure x := by intro _; rfl) :
    PS X (.Assign [.Name z py] (.ListComp elt [⟨tg, .Name y p1, ifs, 0⟩] scope pos) spos) (tS X.K U n0 (sSet i (eLcO j (own.map (·.2)) h t f))) ∧ PS X (.Assign [.Name z py] (.ListComp elt [⟨tg, .Name y p1, ifs, 0⟩] scope pos) spos) (tS X.K U n0 (sSetF i (eLcO j (own.map (·.2)) h t f))) := by
  have base := ps_setLc (g := tGX X.K is h) (tt := tTX X.K t) (te := tEX X.K f) hc hN hy hyl hsw (pi_list hv) ok (fun s H C cl fp => pg_all fun U => hg U s H C cl fp) (fun s H C cl fp => pts_all fun U => ht U s H C cl fp) (fun s H C cl fp => pe_all fun U => he U s H C cl fp) hs
  refine ⟨ps_weak base fun D σ H ⟨A, F, r, m, o, G, hn, e, p⟩ => ?_, ps_weak base fun D σ H ⟨A, F, r, m, o, G, hn, e, p⟩ => ?_⟩
  · unfold sSet at e
    cases e1 : eLcO j (own.map (·.2)) h t f r m with
    | none => rw [e1] at e; cases e
    | some q =>
      rw [e1] at e
      cases e
      refine lcO_read his ⟨A, F, r, m, q.1, q.2, G, e1, fun F1 H1 a u s1 G1 q1 q2 q3 q4 q5 => ?_⟩
      obtain ⟨w1, w2, w3⟩ := G1.ice q1 q2 q3 q4 q5
      exact p A _ H1 _ (List.prefix_refl A) (s1.trans w1) (w2.setFz w3)
  · unfold sSetF at e
    cases e1 : eLcO j (own.map (·.2)) h t f r m with
    | none => rw [e1] at e; cases e
    | some q =>
      rw [e1] at e
      cases e
      exact lcO_read his ⟨A, F, r, m, q.1, q.2, G, e1, fun F1 H1 a u s1 G1 q1 q2 q3 q4 q5 => p (A ++ [a]) F1 H1 _ (List.prefix_append A [a]) s1 (G1.setOw q1 q2 q3 q4 q5)⟩
/-! ## range(a, b, c) -/
def rangeC (lo c : Int) (n : Nat) : List PyData := (List.range n).map fun i => .int (lo + (i : Nat) * c)
theorem wk_rangeC {K : PySem.W.Frag} {Z F : Hp} {lo c : Int} {n : Nat} : Wk K Z (Itc lo c n) F (rangeC lo c n) where
  go := fun U A σ r m F1 H1 i d _ s1 G1 e => by
    unfold rangeC at e
    rw [List.getElem?_map] at e
    by_cases hi : i < n
    · rw [List.getElem?_range hi] at e
      cases e
      refine ⟨hi, fun v H2 hy => ?_⟩
      obtain ⟨e2, e4⟩ := hy
      subst e2 e4
      exact ⟨F1, Same.refl F1, G1, .vi _⟩
    · rw [List.getElem?_eq_none (by rw [List.length_range]; omega)] at e
      cases e
  stop := fun F1 H1 _ s1 s2 => by
    show n ≤ (rangeC lo c n).length
    unfold rangeC
    rw [List.length_map, List.length_range]
    exact Nat.le_refl n
/-- a step of -1 alone -/
def eRg3 (f : Eas) : Eas := fun r m => (f r m).bind fun p => match p.1 with
  | [.int i, .int j, .int c] => if c = -1 ∧ -(2 ^ 62) ≤ i ∧ i < 2 ^ 62 ∧ -(2 ^ 62) ≤ j ∧ j < 2 ^ 62 then some (rangeC i c (i - j).toNat, p.2) else none
  | _ => none
theorem qi_range3 {a b c : Expr} {fs : Eas} {p : Pos} (hg : Gl X "range") (hm : X.mg "range" = none) (ha : PA X [a, b, c] (tAs X.K U fs)) (hs : starEach [a, b, c] X.env = (false, eval a X.env) :: starEach [b, c] X.env := by rfl) (hpl : (backTo pos (starEach [b, c] X.env)).any (·.1) = false := by rfl) :
    PI X tg (.Call (.Name "range" p) [a, b, c] [] pos) (tIt X.K U (eRg3 fs)) := by
  refine ⟨fun pins s σ H R I ⟨A, F, r, m, ds, m', G, e0, k⟩ => ?_⟩
  unfold eRg3 at e0
  cases e1 : fs r m with
  | none => rw [e1] at e0; cases e0
  | some q =>
    obtain ⟨es, m1⟩ := q
    rw [e1] at e0
    simp only [Option.bind_some] at e0
    split at e0
    · split at e0
      · rename_i i j c hj
        cases e0
        refine (pi_range3 hg hm ha hs hpl).run pins s σ H R I ⟨A, F, r, m, _, m', G, e1, fun F1 H1 vs s1 G1 h1 => ?_⟩
        cases h1 with
        | cons g1 t1 => cases t1 with
          | cons g2 t2 => cases t2 with
            | cons g3 t3 =>
              cases t3
              cases g1
              cases g2
              cases g3
              obtain ⟨rfl, w⟩ := hj
              exact ⟨i, j, -1, (i - j).toNat, rfl, RgC.neg w.1 w.2.1 w.2.2.1 w.2.2.2, k F1 H1 _ s1 G1 wk_rangeC⟩
      · cases e0
    · cases e0
end
end TL

end
/-! TL12 -/
section
set_option maxHeartbeats 4000000
namespace TL
open PySem L2

/-! ## methods of texts -/
def eSm (op : Str → List PyData → Option PyData) (f : Ev) (g : Eas) : Ev := fun r m => (f r m).bind fun p => match p.1 with
  | .str z => (g r p.2).bind fun q => (op z q.1).map fun d => (d, q.2)
  | _ => none
def MtD (X : Cx) (U : Hp) (rd : V → List V → Hp → VK → Prop) (op : Str → List PyData → Option PyData) : Prop :=
  ∀ (A : List Addr) (F H : Hp) (σ : St) (r : Rs) (m : Ms) (z : Str) (xs : List V) (ds : List PyData) (d : PyData) (Q : VK), Good X.K U A F H σ r m → RpAll X.K F xs ds → op z ds = some d →
    (∀ (F' H' : Hp) (v : V), Same F F' → Good X.K U A F' H' σ r m → Rp X.K F' v d → Q v H') → rd (.str z) xs H Q
section
variable {X : Cx} {U : Hp} {o e : Expr} {es : List Expr} {name : Str} {apos cpos : Pos} {id : String} {rd : V → List V → Hp → VK → Prop} {op : Str → List PyData → Option PyData} {f : Ev} {g : Eas}
theorem qe_sm (slot : Slot "str" name id) (hty : typeOf (.builtin id) = pure (.type "method_descriptor")) (hm : MtR X id rd) (hd : MtD X U rd op) (ho : PE X o (tE X.K U f)) (ha : PA X (e :: es) (tAs X.K U g))
    (hbase : attributeBase o name X.env (eval o X.env) = eval o X.env := by rfl)
    (hfew : ((backTo cpos (starEach (e :: es) X.env)).all (fun x => !x.1) && (backToKw cpos (keywordEach [] X.env)).all (fun x => x.1.isSome)
      && decide ((e :: es).length + ([] : List Keyword).length + (if ([] : List Keyword).isEmpty then 0 else 1) < 30)) = true := by rfl)
    (hline : (apos.endLine == cpos.line) = true := by rfl) (hs : starEach (e :: es) X.env = (false, eval e X.env) :: starEach es X.env := by rfl) (hplain : (backTo cpos (starEach es X.env)).any (·.1) = false := by rfl) :
    PE X (.Call (.Attribute o name apos) (e :: es) [] cpos) (tE X.K U (eSm op f g)) :=
  pe_weak (pe_bm PySem.F.plainAttrs_str slot hty hm ho ha hbase hfew hline hs hplain) fun σ H Q ⟨A, F, r, m, d, m', G, e, k⟩ => by
  unfold eSm at e
  cases e1 : f r m with
  | none => rw [e1] at e; cases e
  | some p =>
    obtain ⟨d1, m1⟩ := p
    rw [e1] at e
    simp only [Option.bind_some] at e
    split at e
    · rename_i z
      cases e2 : g r m1 with
      | none => rw [e2] at e; cases e
      | some q =>
        obtain ⟨ds, m2⟩ := q
        rw [e2] at e
        simp only [Option.bind_some] at e
        cases e3 : op z ds with
        | none => rw [e3] at e; cases e
        | some d3 =>
          rw [e3] at e
          cases e
          refine ⟨A, F, r, m, _, m1, G, e1, fun F1 H1 x s1 G1 h1 => ?_⟩
          cases h1
          exact ⟨rfl, A, F1, r, m1, ds, m', G1, e2, fun F2 H2 xs s2 G2 h2 => hd A F2 H2 σ r m' z xs ds d Q G2 h2 e3 fun F3 H3 v s3 G3 h3 => k F3 H3 v ((s1.trans s2).trans s3) G3 h3⟩
    · cases e
def indexD (a : Str) : List PyData → Option PyData
  | [.str b] => (Builtin.Str.occurrences a b 0 a.length 1).head?.map fun i => .int (i : Nat)
  | _ => none
theorem md_index : MtD X U (fun x xs H Q => ∃ a b i rest, x = .str a ∧ xs = [.str b] ∧ Builtin.Str.occurrences a b 0 a.length 1 = i :: rest ∧ Q (.int (i : Nat)) H) indexD := by
  intro A F H σ r m z xs ds d Q G ha e k
  unfold indexD at e
  split at e
  · rename_i b
    obtain ⟨v, rfl, h⟩ := rpa1 ha
    cases h
    cases e1 : Builtin.Str.occurrences z b 0 z.length 1 with
    | nil => rw [e1] at e; cases e
    | cons i rest =>
      rw [e1] at e
      cases e
      exact ⟨z, b, i, rest, rfl, rfl, e1, k F H _ (Same.refl F) G (.vi _)⟩
  · cases e
theorem qe_index (ho : PE X o (tE X.K U f)) (ha : PA X [e] (tAs X.K U g)) (hbase : attributeBase o "index" X.env (eval o X.env) = eval o X.env := by rfl)
    (hfew : ((backTo cpos (starEach [e] X.env)).all (fun x => !x.1) && (backToKw cpos (keywordEach [] X.env)).all (fun x => x.1.isSome)
      && decide ([e].length + ([] : List Keyword).length + (if ([] : List Keyword).isEmpty then 0 else 1) < 30)) = true := by rfl)
    (hline : (apos.endLine == cpos.line) = true := by rfl) (hs : starEach [e] X.env = (false, eval e X.env) :: starEach [] X.env := by rfl) (hplain : (backTo cpos (starEach [] X.env)).any (·.1) = false := by rfl) :
    PE X (.Call (.Attribute o "index" apos) [e] [] cpos) (tE X.K U (eSm indexD f g)) := qe_sm PySem.F.slot_str_index PySem.F.type_str_index mt_sindex md_index ho ha hbase hfew hline hs hplain
def startsD (a : Str) : List PyData → Option PyData
  | [.str b] => some (.bool (Txt.startswith a b))
  | _ => none
theorem md_starts : MtD X U (fun x xs H Q => ∃ a b, x = .str a ∧ xs = [.str b] ∧ Q (.bl (Txt.startswith a b)) H) startsD := by
  intro A F H σ r m z xs ds d Q G ha e k
  unfold startsD at e
  split at e
  · obtain ⟨v, rfl, h⟩ := rpa1 ha
    cases h
    cases e
    exact ⟨z, _, rfl, rfl, k F H _ (Same.refl F) G (.vb _)⟩
  · cases e
theorem rpa_strs {K : PySem.W.Frag} {F : Hp} : ∀ ys : List Str, RpAll K F (ys.map V.str) (ys.map PyData.str)
  | [] => .nil
  | y :: ys => .cons (.vs y) (rpa_strs ys)
def splitD (a : Str) : List PyData → Option PyData
  | [.str b] => if (b.length == 0) = false ∧ a.length + 2 ≤ sizeLine then some (.list ((Txt.split a b).map .str)) else none
  | _ => none
theorem md_split : MtD X U (fun x xs H Q => ∃ a b, x = .str a ∧ xs = [.str b] ∧ (b.length == 0) = false ∧ a.length + 2 ≤ sizeLine ∧ rNewStrs (Txt.split a b) H Q) splitD := by
  intro A F H σ r m z xs ds d Q G ha e k
  unfold splitD at e
  split at e
  · split at e
    · rename_i hz
      obtain ⟨v, rfl, h⟩ := rpa1 ha
      cases h
      cases e
      refine ⟨z, _, rfl, rfl, hz.1, hz.2, fun p np => ?_⟩
      have sF := fun (o : HO) => same_new (o := o) (G.nope np).1
      exact k _ _ _ (sF _) (G.laid np) (.vl (.inl (.inl upd_same)) (rpa_strs _))
    · cases e
  · cases e
end

/-! ## list(text) -/
section
variable {X : Cx} {U : Hp}
theorem call_list_txt (hc : X.calm = true) : CallR X (.type "list") (fun xs H Q => ∃ z : Str, xs = [.str z] ∧ z.length ≤ sizeLine ∧ ∀ l, H l = none → Q (.ref l) (upd H l (.lst (z.cps.toList.map fun c => V.str ⟨#[c]⟩)))) := by
  intro pins s σ H xs us Q I r h
  obtain ⟨z, rfl, hz, q⟩ := h
  obtain ⟨u, rfl, t, rfl⟩ := vals1 r
  refine PySem.call_list_str (I.ok.hd hc) z t (fun h' tk acc c' hk e hi => ?_) hz
  refine ⟨.ref s.heap.objs.size, upd H s.heap.objs.size (.lst (z.cps.toList.map fun c => V.str ⟨#[c]⟩)), I.laid hk (Nat.le_refl _) ⟨by rw [List.length_map, Array.length_toList]; exact hz, acc.toList, c', ?_, by rw [Array.toArray_toList]; exact e⟩, rfl, q _ (I.hok.fresh (Nat.le_refl _))⟩
  refine vals_of_idx _ _ (by rw [List.length_map, Array.length_toList, Array.length_toList]; exact hi.1) fun j u hj => ?_
  obtain ⟨c, t', hc, rfl⟩ := hi.2 j u (by rw [← Array.getElem?_toList]; exact hj)
  exact ⟨.str ⟨#[c]⟩, by simp [hc], ⟨_, rfl⟩⟩
def listD2 : List PyData → Option PyData
  | [.str z] => if z.length ≤ sizeLine then some (.list (signs z)) else none
  | ds => listD ds
theorem rpa_signs {K : PySem.W.Frag} {F : Hp} : ∀ l : List Nat, RpAll K F (l.map fun c => V.str ⟨#[c]⟩) (l.map fun c => PyData.str ⟨#[c]⟩)
  | [] => .nil
  | _ :: l => .cons (.vs _) (rpa_signs l)
abbrev rList2 (K : PySem.W.Frag) : List V → Hp → VK → Prop := fun xs H Q => (∃ p ys, xs = [.ref p] ∧ (SqL K H p ys ∨ SqT K H p ys) ∧ ∀ l, H l = none → Q (.ref l) (upd H l (.lst ys))) ∨
    (∃ z : Str, xs = [.str z] ∧ z.length ≤ sizeLine ∧ ∀ l, H l = none → Q (.ref l) (upd H l (.lst (z.cps.toList.map fun c => V.str ⟨#[c]⟩))))
theorem call_list2 (hc : X.calm = true) : CallR X (.type "list") (rList2 X.K) := CallR.or call_list_of (call_list_txt hc)
theorem cd_list2 : CallD X U (rList2 X.K) listD2 := by
  intro A F H σ r m vs ds d Q G ha e k
  unfold listD2 at e
  split at e
  · split at e
    · rename_i hz
      cases e
      obtain ⟨v, rfl, h⟩ := rpa1 ha
      cases h
      refine .inr ⟨_, rfl, hz, fun l hl => ?_⟩
      have sF : ∀ o, Same F (upd F l o) := fun o => same_new (G.nope hl).1
      exact k _ _ _ (sF _) (G.laid hl) (.vl (.inl (.inl upd_same)) (rpa_signs _))
    · cases e
  · exact .inl (cd_list A F H σ r m vs ds d Q G ha e k)
theorem cn_list2 : CallN X U (rList2 X.K) listD2 := by
  intro A F H σ r m vs ds d Q G ha e k
  unfold listD2 at e
  split at e
  · split at e
    · rename_i hz
      cases e
      obtain ⟨v, rfl, h⟩ := rpa1 ha
      cases h
      exact .inr ⟨_, rfl, hz, fun l hl => k F _ l _ (Same.refl F) (G.laidO hl) (G.nope hl).1 (G.nope hl).2 (G.notin hl) upd_same ⟨_, rfl, rpa_signs _⟩⟩
    · cases e
  · exact .inl (cn_list A F H σ r m vs ds d Q G ha e k)
end
end TL

end
/-! TL13 -/
section
set_option maxHeartbeats 4000000
namespace TL
open PySem PySem.Spec PyProof.Rows L2

/-! ## the end of a proof -/
theorem fun_of {K : PySem.W.Frag} {x qual : Str} {st : Stmt} {kws : List (Str × V)} {f : Addr} {fd : FuncData} (F : FunD K x qual (defArgs st) (defBody st) (defScope st) [] kws f fd) : Fun K x qual st f fd := by
  obtain ⟨oc, od, dV, kV, doc, pm, an, cdv, ct, osl, rfl, lk, hcd, hD, _⟩ := F.ex
  rcases hD with ⟨_, rfl⟩ | ⟨e, _⟩
  · exact ⟨⟨oc, od, kV, doc, pm, an, cdv, ct, osl, rfl, lk, hcd⟩, F.kp⟩
  · exact absurd rfl e
theorem glo_int {K : PySem.W.Frag} {h : Heap} {mg : Str → Option Value} {x : Str} {i : Int} (X : K.In h) (G : h.Ns mainGlobals mg) (c : (He.Fa.int x i).ok K = true) : Glo K mg x (.int i) := by
  obtain ⟨t, e⟩ := He.int_ok X G c
  exact ⟨⟨.int i, _, e, ⟨t, rfl⟩, fun F => .vi i⟩⟩
theorem glo_str {K : PySem.W.Frag} {h : Heap} {mg : Str → Option Value} {x z : Str} (X : K.In h) (G : h.Ns mainGlobals mg) (c : (He.Fa.str x z).ok K = true) : Glo K mg x (.str z) := by
  obtain ⟨t, e⟩ := He.str_ok X G c
  exact ⟨⟨.str z, _, e, ⟨t, rfl⟩, fun F => .vs z⟩⟩
/-- a law of one list of ints: what is left is a statement of plain Lean -/
theorem walk_tree {l : PySem.W.OpenLaw} {n k : Nat} {q : Program} {loose : List Str} {XP : (Str → Option Value) → Heap → Prop} {YP : World → Heap → Prop} {d : DefRec} {x : Str} {g : List PyData → Option PyData}
    (hn : l.most = some n) (hn2 : n ≤ sizeLine) (hdf : d.params.defaults = []) (hr : Room k callerA)
    (F : ∀ (w : World) (mg : Str → Option Value) (fa : Addr) (h : Heap), YP w h → h.Ns mainGlobals mg → mg d.name = some (.ref fa) →
      ∃ (K : PySem.W.Frag) (fd : FuncData), K.In h ∧ (∀ (s : Shared) (u : Value), BindsTo s fd ⟨[u], []⟩ [(x, u)]) ∧
        ∀ base : Heap, K.In base → base.Ns mainGlobals mg → FnOk l.prog w K mg base CX0 k fa fd [x] (spD K 1 g))
    (hg : ∀ ns : List Int, ns.length ≤ n → (∀ z ∈ ns, Builtin.Int.intBits z ≤ 1048576) → g [.list (ns.map .int)] = some (.bool true)) :
    PySem.W.WalkO q loose XP YP l.row.toRowW d [] (fun f vs => PySem.call f vs) := by
  refine Att.attach_callB hn hdf fun w s₀ s₁ mg mb fa o pm cd doc a vs ns G Y ho hd hcd hmg hobj hints hlen hbits hgs => ?_
  obtain ⟨K, fd, KX, hb, hF⟩ := F w mg fa _ Y G.T.g hmg
  refine law_call KX G.T.g G.T.b G.T.builtins G.T.nolimit hgs hobj hints (Nat.le_trans hlen hn2) hr hF hb (fun H hO hS => ?_) fun H e s' z => z
  refine ⟨H, [.list (ns.map .int)], .bool true, Same.refl H, rfl, .cons (.vl hS (rpa_ints ns)) .nil, hg ns hlen hbits, fun F' H' v _ _ _ hv => ?_⟩
  cases hv
  rfl
end TL

end
/-! TL14 -/
section
set_option maxHeartbeats 4000000
namespace TL
open PySem L2

/-! ## the twins reckoned: W x Q, x is there and Q of it -/
inductive W {α : Type} : Option α → (α → Prop) → Prop
  | mk {a : α} {Q : α → Prop} (h : Q a) : W (some a) Q
section
variable {α β : Type} {x : Option α} {Q P : α → Prop}
theorem W.ret {a : α} (h : Q a) : W (some a) Q := .mk h
theorem W.mono (h : W x P) (k : ∀ a, P a → Q a) : W x Q := by
  cases h with
  | mk h => exact .mk (k _ h)
theorem W.bind {f : α → Option β} {R : β → Prop} (h : W x fun a => W (f a) R) : W (x.bind f) R := by
  cases h with
  | mk h => exact h
theorem W.map {f : α → β} {R : β → Prop} (h : W x fun a => R (f a)) : W (x.map f) R := by
  cases h with
  | mk h => exact .mk h
theorem W.of {a : α} (e : x = some a) (h : Q a) : W x Q := by rw [e]; exact .mk h
theorem W.eq {a : α} (h : W x fun b => b = a) : x = some a := by
  cases h with
  | mk h => exact congrArg some h
theorem W.get (h : W x Q) : ∃ a, x = some a ∧ Q a := by
  cases h with
  | mk h => exact ⟨_, rfl, h⟩
theorem W.ite {c : Prop} [Decidable c] {y : Option α} (h1 : c → W x Q) (h2 : ¬c → W y Q) : W (if c then x else y) Q := by
  by_cases hc : c
  · rw [if_pos hc]; exact h1 hc
  · rw [if_neg hc]; exact h2 hc
theorem W.guard' {c : Prop} [Decidable c] {y : Option α} (hc : c) (h : W x Q) : W (if c then x else y) Q := by rw [if_pos hc]; exact h
theorem W.guard {c : Prop} [Decidable c] (hc : c) (h : W x Q) : W (if c then x else none) Q := by rw [if_pos hc]; exact h
end
/-! ### expressions -/
section
variable {r : Rs} {m : Ms} {Q : PyData × Ms → Prop} {QL : List PyData × Ms → Prop} {QB : Bool × Ms → Prop} {QO : Option Int × Ms → Prop} {f g k : Ev} {fs gs : Eas} {c c' : Et} {op o1 o2 : PyData → PyData → Option PyData} {i n : Nat} {d : PyData}
theorem w_C (h : Q (d, m)) : W (eC d r m) Q := .mk h
theorem w_V (e : r[i]? = some (.fz d)) (h : Q (d, m)) : W (eV i r m) Q := by
  unfold eV
  rw [e]
  exact .mk h
theorem w_bin (h : W (f r m) fun p => W (g r p.2) fun q => W (op p.1 q.1) fun d => Q (d, q.2)) : W (eBin op f g r m) Q := W.bind (W.mono h fun _ h => W.bind (W.mono h fun _ h => W.map h))
theorem w_map {α : Type} {f : Rs → Ms → Option (α × Ms)} {u : α → Option PyData} (h : W (f r m) fun p => W (u p.1) fun d => Q (d, p.2)) : W (eMap f u r m) Q := W.bind (W.mono h fun _ h => W.map h)
theorem w_nil (h : QL ([], m)) : W (eNil r m) QL := .mk h
theorem w_cons (h : W (f r m) fun p => W (gs r p.2) fun q => QL (p.1 :: q.1, q.2)) : W (eCons f gs r m) QL := W.bind (W.mono h fun _ h => W.map h)
theorem w_tup (h : W (fs r m) fun p => p.1.length ≤ sizeLine ∧ Q (.tuple p.1, p.2)) : W (eTup fs r m) Q := W.bind (W.mono h fun _ h => W.guard h.1 (.mk h.2))
theorem w_lst (h : W (fs r m) fun p => p.1.length ≤ sizeLine ∧ Q (.list p.1, p.2)) : W (eLst fs r m) Q := W.bind (W.mono h fun _ h => W.guard h.1 (.mk h.2))
theorem w_T {u : PyData → Option Bool} (h : W (f r m) fun p => W (u p.1) fun b => QB (b, p.2)) : W (eT u f r m) QB := W.bind (W.mono h fun _ h => W.map h)
theorem w_not (h : W (c r m) fun p => QB (!p.1, p.2)) : W (eNot c r m) QB := W.map h
theorem w_and (h : W (c r m) fun p => (p.1 = true → W (c' r p.2) QB) ∧ (p.1 = false → QB (false, p.2))) : W (eAnd c c' r m) QB := W.bind (W.mono h fun p h => W.ite h.1 fun z => W.ret (h.2 (by simpa using z)))
theorem w_or (h : W (c r m) fun p => (p.1 = true → QB (true, p.2)) ∧ (p.1 = false → W (c' r p.2) QB)) : W (eOr c c' r m) QB := W.bind (W.mono h fun p h => W.ite (fun z => W.ret (h.1 z)) fun z => h.2 (by simpa using z))
theorem w_eIf (h : W (c r m) fun p => (p.1 = true → W (f r p.2) Q) ∧ (p.1 = false → W (g r p.2) Q)) : W (eIf c f g r m) Q := W.bind (W.mono h fun p h => W.ite h.1 fun z => h.2 (by simpa using z))
theorem w_andV (h : W (f r m) fun p => ∃ b, p.1 = .bool b ∧ (b = true → W (g r p.2) Q) ∧ (b = false → Q (.bool false, p.2))) : W (eAndV f g r m) Q := W.bind (W.mono h fun ⟨d, m1⟩ ⟨b, e, h1, h2⟩ => by
  simp only at e
  subst e
  cases b with
  | true => exact h1 rfl
  | false => exact .mk (h2 rfl))
theorem w_orV (h : W (f r m) fun p => ∃ b, p.1 = .bool b ∧ (b = true → Q (.bool true, p.2)) ∧ (b = false → W (g r p.2) Q)) : W (eOrV f g r m) Q := W.bind (W.mono h fun ⟨d, m1⟩ ⟨b, e, h1, h2⟩ => by
  simp only at e
  subst e
  cases b with
  | true => exact .mk (h1 rfl)
  | false => exact h2 rfl)
theorem w_chain (h : W (f r m) fun p => W (g r p.2) fun q => W (o1 p.1 q.1) fun z => ∃ b, z = .bool b ∧ (b = false → Q (.bool false, q.2)) ∧ (b = true → W (k r q.2) fun w => W (o2 q.1 w.1) fun d => Q (d, w.2))) : W (eChain o1 o2 f g k r m) Q :=
  W.bind (W.mono h fun _ h => W.bind (W.mono h fun _ h => W.bind (W.mono h fun z ⟨b, e, h1, h2⟩ => by
    subst e
    cases b with
    | true => exact W.bind (W.mono (h2 rfl) fun _ h => W.map h)
    | false => exact .mk (h1 rfl))))
theorem w_ixO {a : Nat} (e : r[i]? = some (.ow a)) (h : W (g r m) fun p => ∃ ds j, cellAt p.2 a = some (.list ds) ∧ p.1 = .int j ∧ W (atI ds j) fun d => Q (d, p.2)) : W (eIxO i g r m) Q := by
  unfold eIxO
  rw [e]
  refine W.bind (W.mono h fun ⟨d1, m1⟩ ⟨ds, j, e1, e2, h⟩ => ?_)
  simp only at e1 e2
  subst e2
  exact W.bind (W.of e1 (W.map h))
theorem w_callR {a n : Nat} {u : PyData → List PyData → Option (PyData × PyData)} (e : r[i]? = some (.ow a)) (h : W (fs r m) fun p => ∃ cs, cellAt p.2 a = some cs ∧ p.1.length = n ∧ W (u cs p.1) fun q => Q (q.1, p.2.set a (some q.2))) : W (eCallR n i u fs r m) Q := by
  unfold eCallR
  rw [e]
  refine W.bind (W.mono h fun p ⟨cs, e1, e2, h⟩ => W.bind (W.of e1 ?_))
  unfold arN
  rw [if_pos e2]
  exact W.map h
theorem w_sm {u : Str → List PyData → Option PyData} (h : W (f r m) fun p => ∃ z, p.1 = .str z ∧ W (gs r p.2) fun q => W (u z q.1) fun d => Q (d, q.2)) : W (eSm u f gs r m) Q := W.bind (W.mono h fun ⟨d1, m1⟩ ⟨z, e, h⟩ => by
  simp only at e
  subst e
  exact W.bind (W.mono h fun _ h => W.map h))
theorem w_no (h : QO (none, m)) : W (eNo r m) QO := .mk h
theorem w_pt (h : W (f r m) fun p => ∃ j, p.1 = .int j ∧ QO (some j, p.2)) : W (ePt f r m) QO := W.bind (W.mono h fun ⟨d, m1⟩ ⟨j, e, h⟩ => by
  simp only at e
  subst e
  exact .mk h)
theorem w_sl {lo hi : Eo} (h : W (f r m) fun p => W (lo r p.2) fun q => W (hi r q.2) fun w => W (slcD p.1 q.1 w.1) fun d => Q (d, w.2)) : W (eSl f lo hi r m) Q := W.bind (W.mono h fun _ h => W.bind (W.mono h fun _ h => W.bind (W.mono h fun _ h => W.map h)))
theorem w_its (h : W (f r m) fun p => W (itemsD p.1) fun ds => QL (ds, p.2)) : W (eIts f r m) QL := W.bind (W.mono h fun _ h => W.map h)
theorem w_rg1 (h : W (fs r m) fun p => ∃ j, p.1 = [.int j] ∧ (-(2 ^ 62) ≤ j ∧ j < 2 ^ 62) ∧ QL (rangeD 0 j.toNat, p.2)) : W (eRg1 fs r m) QL := W.bind (W.mono h fun ⟨l, m1⟩ ⟨j, e, h1, h2⟩ => by
  simp only at e
  subst e
  exact W.guard h1 (.mk h2))
theorem w_rg2 (h : W (fs r m) fun p => ∃ i j, p.1 = [.int i, .int j] ∧ (-(2 ^ 62) ≤ i ∧ i < 2 ^ 62 ∧ -(2 ^ 62) ≤ j ∧ j < 2 ^ 62) ∧ QL (rangeD i (j - i).toNat, p.2)) : W (eRg2 fs r m) QL := W.bind (W.mono h fun ⟨l, m1⟩ ⟨i, j, e, h1, h2⟩ => by
  simp only at e
  subst e
  exact W.guard h1 (.mk h2))
theorem w_enum (h : W (f r m) fun p => ∃ ds, p.1 = .list ds ∧ QL (enumD ds, p.2)) : W (eEnum f r m) QL := W.bind (W.mono h fun ⟨l, m1⟩ ⟨ds, e, h⟩ => by
  simp only at e
  subst e
  exact .mk h)
theorem w_arN {α : Type} {u : List PyData → Option α} {ds : List PyData} {R : α → Prop} (e : ds.length = n) (h : W (u ds) R) : W (arN n u ds) R := by
  unfold arN
  rw [if_pos e]
  exact h
end
/-! ### statements -/
section
variable {r : Rs} {m : Ms} {Q : Out → Prop} {f g : Ev} {fs : Eas} {c : Et} {s t : Es} {i n : Nat} {hh : Eh} {op : PyData → PyData → Option PyData}
theorem w_sNil (h : Q (.nx r m)) : W (sNil r m) Q := .mk h
/-- behind a statement -/
def Then (t : Es) (Q : Out → Prop) : Out → Prop
  | .nx r1 m1 => W (t r1 m1) Q
  | o => Q o
theorem w_seq (h : W (s r m) (Then t Q)) : W (sSeq s t r m) Q := W.bind (W.mono h fun o h => by
  cases o with
  | nx r1 m1 => exact h
  | _ => exact .mk h)
theorem w_set (h : W (f r m) fun p => Q (.nx (r.set i (.fz p.1)) p.2)) : W (sSet i f r m) Q := W.map h
theorem w_setF (h : W (f r m) fun p => Q (.nx (r.set i (.ow p.2.length)) (p.2 ++ [some p.1]))) : W (sSetF i f r m) Q := W.map h
theorem w_setN {u : List PyData → Option PyData} (h : W (fs r m) fun p => p.1.length = n ∧ W (u p.1) fun cs => Q (.nx (r.set i (.ow p.2.length)) (p.2 ++ [some cs]))) : W (sSetN n i fs u r m) Q := W.bind (W.mono h fun _ h => W.map (w_arN h.1 h.2))
theorem w_new (h : W (fs r m) fun p => p.1.length ≤ sizeLine ∧ Q (.nx (r.set i (.ow p.2.length)) (p.2 ++ [some (.list p.1)]))) : W (sNew i fs r m) Q := W.bind (W.mono h fun _ h => W.guard h.1 (.mk h.2))
theorem w_ret (h : W (f r m) fun p => Q (.rt p.1 p.2)) : W (sRet f r m) Q := W.map h
theorem w_retN (h : Q (.rt .none m)) : W (sRetN r m) Q := .mk h
theorem w_retL (h : W (fs r m) fun p => p.1.length ≤ sizeLine ∧ Q (.rn (.list p.1) p.2)) : W (sRetL fs r m) Q := W.bind (W.mono h fun _ h => W.guard h.1 (.mk h.2))
theorem w_retF (h : W (f r m) fun p => Q (.rn p.1 p.2)) : W (sRetF f r m) Q := W.map h
theorem w_if (h : W (c r m) fun p => (p.1 = true → W (s r p.2) Q) ∧ (p.1 = false → W (t r p.2) Q)) : W (sIf c s t r m) Q := W.bind (W.mono h fun p h => W.ite h.1 fun z => h.2 (by simpa using z))
theorem w_drop (h : W (f r m) fun p => Q (.nx r p.2)) : W (sDrop f r m) Q := W.map h
theorem w_brk (h : Q (.bk r m)) : W (sBrk r m) Q := .mk h
theorem w_cont (h : Q (.ct r m)) : W (sCont r m) Q := .mk h
theorem w_aug {d : PyData} (e : r[i]? = some (.fz d)) (h : W (f r m) fun p => W (op d p.1) fun z => Q (.nx (r.set i (.fz z)) p.2)) : W (sAug i op f r m) Q := by
  unfold sAug
  rw [e]
  exact W.bind (W.of rfl (W.bind (W.mono h fun _ h => W.map h)))
theorem w_put {a : Nat} (e : r[i]? = some (.ow a)) (h : W (f r m) fun p => W (g r p.2) fun q => ∃ ds j, cellAt q.2 a = some (.list ds) ∧ q.1 = .int j ∧ W (ixN ds.length j) fun n => Q (.nx r (q.2.set a (some (.list (ds.set n p.1)))))) : W (sPut i f g r m) Q := by
  unfold sPut
  rw [e]
  refine W.bind (W.of rfl (W.bind (W.mono h fun p h => W.bind (W.mono h fun ⟨d, m1⟩ ⟨ds, j, e1, e2, h⟩ => ?_))))
  simp only at e1 e2
  subst e2
  exact W.bind (W.of e1 (W.map h))
theorem w_app {a : Nat} {d0 : List PyData} (e : r[i]? = some (.ow a)) (e0 : cellAt m a = some (.list d0)) (h : W (f r m) fun p => ∃ ds, cellAt p.2 a = some (.list ds) ∧ ds.length < sizeLine ∧ Q (.nx r (p.2.set a (some (.list (ds ++ [p.1])))))) : W (sApp i f r m) Q := by
  unfold sApp
  rw [e]
  refine W.bind (W.of rfl (W.bind (W.of e0 (W.bind (W.mono h fun p ⟨ds, e1, e2, h⟩ => ?_)))))
  exact W.bind (W.of e1 (W.guard e2 (.mk h)))
theorem w_asg (h : W (f r m) fun p => W (hh p.1 r) fun r' => Q (.nx r' p.2)) : W (sAsg f hh r m) Q := W.bind (W.mono h fun _ h => W.map h)
theorem w_hNm {d : PyData} {R : Rs → Prop} (h : R (r.set i (.fz d))) : W (hNm i d r) R := .mk h
/-- behind a turn -/
def Turn (I : Rs → Ms → Prop) (Q : Out → Prop) : Out → Prop
  | .nx r2 m2 => I r2 m2
  | .ct r2 m2 => I r2 m2
  | .bk r2 m2 => Q (.nx r2 m2)
  | o => Q o
theorem turn_nx {I : Rs → Ms → Prop} : Turn I Q (.nx r m) = I r m := rfl
theorem turn_ct {I : Rs → Ms → Prop} : Turn I Q (.ct r m) = I r m := rfl
theorem turn_bk {I : Rs → Ms → Prop} : Turn I Q (.bk r m) = Q (.nx r m) := rfl
theorem turn_rt {I : Rs → Ms → Prop} {d : PyData} : Turn I Q (.rt d m) = Q (.rt d m) := rfl
theorem turn_rn {I : Rs → Ms → Prop} {d : PyData} : Turn I Q (.rn d m) = Q (.rn d m) := rfl
theorem then_nx : Then t Q (.nx r m) = W (t r m) Q := rfl
theorem then_ct : Then t Q (.ct r m) = Q (.ct r m) := rfl
theorem then_bk : Then t Q (.bk r m) = Q (.bk r m) := rfl
theorem then_rt {d : PyData} : Then t Q (.rt d m) = Q (.rt d m) := rfl
theorem then_rn {d : PyData} : Then t Q (.rn d m) = Q (.rn d m) := rfl
/-- a for that runs to its end: I i r m ahead of the i-th item; else it leaves by a return -/
theorem loop_inv {ds : List PyData} (I : Nat → Rs → Ms → Prop) (step : ∀ (i : Nat) (d : PyData) (r : Rs) (m : Ms), ds[i]? = some d → I i r m → W (hh d r) fun r1 => W (s r1 m) (Turn (I (i + 1)) Q)) (done : ∀ r m, I ds.length r m → Q (.nx r m)) : ∀ (k : Nat) (r : Rs) (m : Ms), k ≤ ds.length → I k r m → W (loopS hh s (ds.drop k) r m) Q := by
  intro k
  induction hk : ds.length - k generalizing k with
  | zero =>
    intro r m hl hI
    have : k = ds.length := by omega
    subst this
    rw [List.drop_length]
    exact .mk (done r m hI)
  | succ n ih =>
    intro r m hl hI
    have hlt : k < ds.length := by omega
    rw [List.drop_eq_getElem_cons hlt]
    unfold loopS
    refine W.bind (W.mono (step k ds[k] r m (List.getElem?_eq_getElem hlt) hI) fun r1 h => W.bind (W.mono h fun o h => ?_))
    cases o with
    | nx r2 m2 => exact ih (k + 1) (by omega) r2 m2 (by omega) h
    | ct r2 m2 => exact ih (k + 1) (by omega) r2 m2 (by omega) h
    | bk r2 m2 => exact .mk h
    | rt d m2 => exact .mk h
    | rn d m2 => exact .mk h
theorem w_for (I : List PyData → Nat → Rs → Ms → Prop) {fi : Eas} (h : W (fi r m) fun p => I p.1 0 r p.2 ∧ (∀ (i : Nat) (d : PyData) (r : Rs) (m : Ms), p.1[i]? = some d → I p.1 i r m → W (hh d r) fun r1 => W (s r1 m) (Turn (I p.1 (i + 1)) Q)) ∧ (∀ r m, I p.1 p.1.length r m → Q (.nx r m))) : W (sFor fi hh s r m) Q := W.bind (W.mono h fun p ⟨h1, h2, h3⟩ => by
  have := loop_inv (hh := hh) (s := s) (Q := Q) (ds := p.1) (I p.1) h2 h3 0 r p.2 (Nat.zero_le _) h1
  rw [List.drop_zero] at this
  exact this)
/-- a while: I n r m, at most n turns left -/
theorem w_while (I : Nat → Rs → Ms → Prop) (hI : ∀ n r m, I n r m → W (c r m) fun b => (b.1 = true → ∃ n', n = n' + 1 ∧ W (s r b.2) (Turn (I n') Q)) ∧ (b.1 = false → Q (.nx r b.2))) : ∀ (k n : Nat) (r : Rs) (m : Ms), n < k → I n r m → W (whileS c s k r m) Q := by
  intro k
  induction k with
  | zero => intro n r m h; omega
  | succ k ih =>
    intro n r m hl h
    unfold whileS
    refine W.bind (W.mono (hI n r m h) fun b ⟨h1, h2⟩ => W.ite (fun z => ?_) fun z => .mk (h2 (by simpa using z)))
    obtain ⟨n', e, h3⟩ := h1 z
    subst e
    refine W.bind (W.mono h3 fun o h => ?_)
    cases o with
    | nx r2 m2 => exact ih n' r2 m2 (by omega) h
    | ct r2 m2 => exact ih n' r2 m2 (by omega) h
    | bk r2 m2 => exact .mk h
    | rt d m2 => exact .mk h
    | rn d m2 => exact .mk h
end
/-! ### whole defs -/
section
variable {s : Es} {n : Nat} {ds : List PyData} {cs : PyData}
def PD (Q : PyData → Prop) : Out → Prop
  | .rt d _ => Q d
  | .nx _ _ => Q .none
  | .rn d _ => Q d
  | _ => False
theorem pd_rt {Q : PyData → Prop} {d : PyData} {m : Ms} : PD Q (.rt d m) = Q d := rfl
theorem pd_nx {Q : PyData → Prop} {r : Rs} {m : Ms} : PD Q (.nx r m) = Q .none := rfl
theorem pd_rn {Q : PyData → Prop} {d : PyData} {m : Ms} : PD Q (.rn d m) = Q d := rfl
theorem w_runD {Q : PyData → Prop} (h : W (s (slots n ds) []) (PD Q)) : W (runD n s ds) Q := by
  unfold runD
  cases e : s (slots n ds) [] with
  | none => rw [e] at h; cases h
  | some o =>
    rw [e] at h
    cases h with
    | mk h =>
    cases o with
    | rt d m => exact .mk h
    | nx r m => exact .mk h
    | rn d m => exact .mk h
    | bk r m => exact h.elim
    | ct r m => exact h.elim
def PN (Q : PyData → Prop) : Out → Prop
  | .rn d _ => Q d
  | _ => False
theorem pn_rn {Q : PyData → Prop} {d : PyData} {m : Ms} : PN Q (.rn d m) = Q d := rfl
theorem w_runN {Q : PyData → Prop} (h : W (s (slots n ds) []) (PN Q)) : W (runN n s ds) Q := by
  unfold runN
  cases e : s (slots n ds) [] with
  | none => rw [e] at h; cases h
  | some o =>
    rw [e] at h
    cases h with
    | mk h =>
    cases o with
    | rn d m => exact .mk h
    | rt d m => exact h.elim
    | nx r m => exact h.elim
    | bk r m => exact h.elim
    | ct r m => exact h.elim
def PR (Q : PyData × PyData → Prop) : Out → Prop
  | .rt d m => W (cellAt m 0) fun c => Q (d, c)
  | .nx _ m => W (cellAt m 0) fun c => Q (.none, c)
  | _ => False
theorem pr_rt {Q : PyData × PyData → Prop} {d : PyData} {m : Ms} : PR Q (.rt d m) = W (cellAt m 0) fun c => Q (d, c) := rfl
theorem pr_nx {Q : PyData × PyData → Prop} {r : Rs} {m : Ms} : PR Q (.nx r m) = W (cellAt m 0) fun c => Q (.none, c) := rfl
theorem cell_0 {c : PyData} {m : Ms} {Q : PyData → Prop} (h : Q c) : W (cellAt (some c :: m) 0) Q := .mk h
theorem w_runR {Q : PyData × PyData → Prop} (h : W (s (.ow 0 :: slots n ds) [some cs]) (PR Q)) : W (runR n s cs ds) Q := by
  unfold runR
  cases e : s (.ow 0 :: slots n ds) [some cs] with
  | none => rw [e] at h; cases h
  | some o =>
    rw [e] at h
    cases h with
    | mk h =>
    cases o with
    | rt d m => exact W.map h
    | nx r m => exact W.map h
    | rn d m => exact h.elim
    | bk r m => exact h.elim
    | ct r m => exact h.elim
end
/-! ### a comprehension: all items by one function, none left out -/
theorem lc_all {h : Eh} {t : Et} {f : Ev} {r : Rs} {m : Ms} {u : PyData → PyData} : ∀ (ds acc : List PyData), (∀ d ∈ ds, W (h d r) fun r1 => W (t r1 m) fun b => b = (true, m) ∧ W (f r1 m) fun x => x = (u d, m)) → acc.length + ds.length ≤ sizeLine → lcLoop h t f r ds m acc = some (acc ++ ds.map u, m)
  | [], acc, _, _ => by simp [lcLoop]
  | d :: ds, acc, k, hl => by
    apply W.eq
    unfold lcLoop
    simp only [List.length_cons] at hl
    refine W.bind (W.mono (k d (List.mem_cons_self)) fun r1 h1 => W.bind (W.mono h1 fun b ⟨e, h2⟩ => ?_))
    subst e
    rw [if_pos rfl]
    refine W.bind (W.mono h2 fun x e => ?_)
    subst e
    rw [if_pos (by omega)]
    refine W.of (lc_all ds (acc ++ [u d]) (fun z hz => k z (List.mem_cons_of_mem _ hz)) (by rw [List.length_append]; simp only [List.length_cons, List.length_nil]; omega)) ?_
    rw [List.map_cons, List.append_assoc]
    rfl
end TL

end
/-! TL15 -/
section
set_option maxHeartbeats 4000000
namespace TL
open PySem L2
section
variable {i j : Int} {a b : Str} {Q : PyData → Prop} {R : Bool → Prop} {d e : PyData} {ds es : List PyData}
theorem w_add_i (h : Q (.int (i + j))) : W (addD (.int i) (.int j)) Q := .mk h
theorem w_add_s (hz : a.length + b.length ≤ sizeLine) (h : Q (.str (a ++ b))) : W (addD (.str a) (.str b)) Q := W.guard hz (.mk h)
theorem w_add_l (hz : ds.length + es.length ≤ sizeLine) (h : Q (.list (ds ++ es))) : W (addD (.list ds) (.list es)) Q := W.guard hz (.mk h)
theorem w_add_t (hz : ds.length + es.length ≤ sizeLine) (h : Q (.tuple (ds ++ es))) : W (addD (.tuple ds) (.tuple es)) Q := W.guard hz (.mk h)
theorem w_sub_i (h : Q (.int (i - j))) : W (subD (.int i) (.int j)) Q := .mk h
theorem w_mul_i (hz : (Builtin.Int.intBits i : Int) + (Builtin.Int.intBits j : Int) ≤ 134217728) (h : Q (.int (i * j))) : W (mulD (.int i) (.int j)) Q := W.guard hz (.mk h)
theorem w_mod_i (hz : 0 < j) (h : Q (.int (i % j))) : W (modD (.int i) (.int j)) Q := W.guard hz (.mk h)
theorem w_fdiv_i (hz : 0 < j ∧ j.natAbs.log2 < 9000) (h : Q (.int (i / j))) : W (fdivD (.int i) (.int j)) Q := W.guard hz (.mk h)
theorem w_pow_i (hz : 0 ≤ j ∧ j ≤ 1000000 ∧ i.natAbs < 2 ^ 64) (h : Q (.int (i ^ j.toNat))) : W (powD (.int i) (.int j)) Q := W.guard hz (.mk h)
theorem w_lt_i (h : Q (.bool (decide (i < j)))) : W (ltD (.int i) (.int j)) Q := .mk h
theorem w_le_i (h : Q (.bool (decide (i ≤ j)))) : W (leD (.int i) (.int j)) Q := .mk h
theorem w_gt_i (h : Q (.bool (decide (j < i)))) : W (gtD (.int i) (.int j)) Q := .mk h
theorem w_ge_i (h : Q (.bool (decide (j ≤ i)))) : W (geD (.int i) (.int j)) Q := .mk h
theorem w_bl {c : Bool} (h : R c) : W (blD (.bool c)) R := .mk h
theorem w_tru_b {c : Bool} (h : R c) : W (truD (.bool c)) R := .mk h
theorem w_notD {c : Bool} (h : Q (.bool (!c))) : W (notD (.bool c)) Q := .mk h
theorem w_neg_i (h : Q (.int (-i))) : W (negD (.int i)) Q := .mk h
theorem w_eqD (h1 : SeqAt.shaped d = true) (h2 : SeqAt.shaped e = true) (h : Q (.bool (PyData.eqv d e))) : W (eqD d e) Q := W.guard ⟨h1, h2⟩ (.mk h)
theorem w_neD (h1 : SeqAt.shaped d = true) (h2 : SeqAt.shaped e = true) (h : Q (.bool (!PyData.eqv d e))) : W (neD d e) Q := W.guard ⟨h1, h2⟩ (.mk h)
theorem w_len_l (h : Q (.int ds.length)) : W (lenD [.list ds]) Q := .mk h
theorem w_len_t (h : Q (.int ds.length)) : W (lenD [.tuple ds]) Q := .mk h
theorem w_len_s (hz : a.length ≤ sizeLine) (h : Q (.int a.length)) : W (lenD [.str a]) Q := W.guard hz (.mk h)
theorem w_abs (h : Q (.int (if i < 0 then -i else i))) : W (absD [.int i]) Q := .mk h
theorem w_ix_l (h : W (atI ds i) Q) : W (ixD (.list ds) (.int i)) Q := h
theorem w_ix_t (h : W (atI ds i) Q) : W (ixD (.tuple ds) (.int i)) Q := h
theorem w_ix_s (hz : a.length ≤ sizeLine) (h : W (atI a.cps.toList i) fun c => Q (.str ⟨#[c]⟩)) : W (ixD (.str a) (.int i)) Q := W.guard hz (W.map h)
theorem w_isn (h : Q (.bool (match d with | .none => true | _ => false))) : W (isD d .none) Q := by
  unfold isD
  exact .mk h
theorem w_its_l {P : List PyData → Prop} (h : P ds) : W (itemsD (.list ds)) P := .mk h
theorem w_its_t {P : List PyData → Prop} (h : P ds) : W (itemsD (.tuple ds)) P := .mk h
theorem w_its_s {P : List PyData → Prop} (h : P (signs a)) : W (itemsD (.str a)) P := .mk h
theorem w_at {α : Type} {x : α} {l : List α} {P : α → Prop} (e : atI l i = some x) (h : P x) : W (atI l i) P := W.of e h
theorem atI_0 {α : Type} (x : α) (xs : List α) : atI (x :: xs) 0 = some x := by
  unfold atI ixN
  have h : (0 : Int) < ((x :: xs).length : Int) := by simp only [List.length_cons]; omega
  rw [if_pos (Int.le_refl 0), if_pos h]
  rfl
theorem atI_1 {α : Type} (x y : α) (xs : List α) : atI (x :: y :: xs) 1 = some y := by
  unfold atI ixN
  have h : (1 : Int) < ((x :: y :: xs).length : Int) := by simp only [List.length_cons]; omega
  rw [if_pos (by decide), if_pos h]
  rfl
theorem atI_in {α : Type} {l : List α} (h0 : 0 ≤ i) (h1 : i < l.length) : atI l i = some (l[i.toNat]'(by omega)) := by
  unfold atI ixN
  rw [if_pos h0, if_pos h1]
  exact List.getElem?_eq_getElem (by omega)
theorem ixN_0 (n : Nat) : ixN (n + 1) 0 = some 0 := by
  unfold ixN
  rw [if_pos (Int.le_refl 0), if_pos (by omega)]
  rfl
theorem ixN_1 (n : Nat) : ixN (n + 2) 1 = some 1 := by
  unfold ixN
  rw [if_pos (by decide), if_pos (by omega)]
  rfl
end
/-- bits -/
theorem bits64 {i : Int} (h0 : -18446744073709551616 < i) (h1 : i < 18446744073709551616) : Builtin.Int.intBits i ≤ 64 := PyProof.Rows.intBits_le (by omega)
theorem mul_fit {i j : Int} (h : Builtin.Int.intBits i ≤ 60000000) (h' : Builtin.Int.intBits j ≤ 60000000) : (Builtin.Int.intBits i : Int) + (Builtin.Int.intBits j : Int) ≤ 134217728 := by omega
theorem log_fit {j : Int} (h0 : 0 < j) (h1 : j < 18446744073709551616) : 0 < j ∧ j.natAbs.log2 < 9000 := by
  refine ⟨h0, ?_⟩
  have h : j.natAbs < 2 ^ 64 := by omega
  have : j.natAbs.log2 < 64 := (Nat.log2_lt (by omega)).mpr h
  omega
/-! ### the tactic -/
theorem fit2 {a b : PyData} : [a, b].length ≤ sizeLine := by simp only [List.length_cons, List.length_nil]; decide



theorem w_lc {fi : Eas} {own : List Nat} {h : Eh} {t : Et} {f : Ev} {r : Rs} {m : Ms} {Q : PyData × Ms → Prop} (k : W (fi r m) fun p => ∃ res, lcLoop h t f (wipeR r own) p.1 p.2 [] = some (res, p.2) ∧ Q (.list res, p.2)) : W (eLc fi own h t f r m) Q :=
  W.bind (W.mono k fun p ⟨res, e, h⟩ => W.map (W.of e h))
theorem lc_filter {h : Eh} {t : Et} {f : Ev} {r : Rs} {m : Ms} {c : PyData → Bool} : ∀ (ds acc : List PyData), (∀ d ∈ ds, W (h d r) fun r1 => W (t r1 m) fun b => b = (c d, m) ∧ W (f r1 m) fun x => x = (d, m)) → acc.length + ds.length ≤ sizeLine → lcLoop h t f r ds m acc = some (acc ++ ds.filter c, m)
  | [], acc, _, _ => by simp [lcLoop]
  | d :: ds, acc, k, hl => by
    apply W.eq
    unfold lcLoop
    simp only [List.length_cons] at hl
    refine W.bind (W.mono (k d (List.mem_cons_self)) fun r1 h1 => W.bind (W.mono h1 fun b ⟨e, h2⟩ => ?_))
    subst e
    by_cases hc : c d = true
    · rw [if_pos hc]
      refine W.bind (W.mono h2 fun x e => ?_)
      subst e
      rw [if_pos (by omega)]
      refine W.of (lc_filter ds (acc ++ [d]) (fun z hz => k z (List.mem_cons_of_mem _ hz)) (by rw [List.length_append]; simp only [List.length_cons, List.length_nil]; omega)) ?_
      rw [List.filter_cons_of_pos hc, List.append_assoc]
      rfl
    · rw [if_neg hc]
      refine W.of (lc_filter ds acc (fun z hz => k z (List.mem_cons_of_mem _ hz)) (by omega)) ?_
      rw [List.filter_cons_of_neg hc]
theorem bools_map {α : Type} (g : α → Bool) : ∀ l : List α, bools (l.map fun x => .bool (g x)) = some (l.map g)
  | [] => rfl
  | x :: l => by rw [List.map_cons, bools, bools_map g l]; rfl
theorem allD_map {α : Type} (g : α → Bool) (l : List α) : allD [.list (l.map fun x => .bool (g x))] = some (.bool ((l.map g).all id)) := by
  unfold allD
  simp only [bools_map, Option.map_some]
theorem anyD_map {α : Type} (g : α → Bool) (l : List α) : anyD [.list (l.map fun x => .bool (g x))] = some (.bool ((l.map g).any id)) := by
  unfold anyD
  simp only [bools_map, Option.map_some]
/-! ### shaped data -/
theorem lay_all : ∀ {ds : List PyData}, (∀ d ∈ ds, d.canLay0 = true) → PyData.canLayAll0 ds = true
  | [], _ => by simp [PyData.canLayAll0]
  | d :: ds, h => by
    have h1 := lay_all (ds := ds) fun x hx => h x (List.mem_cons_of_mem _ hx)
    have h2 := h d (List.mem_cons_self)
    simp [PyData.canLayAll0, h1, h2]
theorem depth_all {k : Nat} : ∀ {ds : List PyData}, (∀ d ∈ ds, d.depth ≤ k) → PyData.depthAll ds ≤ k
  | [], _ => by simp [PyData.depthAll]
  | d :: ds, h => by
    have h1 := depth_all (ds := ds) fun x hx => h x (List.mem_cons_of_mem _ hx)
    have h2 := h d (List.mem_cons_self)
    simp only [PyData.depthAll]
    omega
theorem shaped_of {d : PyData} (h1 : d.canLay0 = true) (h2 : d.depth ≤ 64) : SeqAt.shaped d = true := by
  show (d.canLay0 && decide (d.depth ≤ 64)) = true
  rw [h1, decide_eq_true h2]
  rfl
theorem shaped_l {ds : List PyData} {k : Nat} (h : ∀ d ∈ ds, d.canLay0 = true ∧ d.depth ≤ k) (hk : k ≤ 62) : SeqAt.shaped (.list ds) = true := by
  have h1 := depth_all fun d hd => (h d hd).2
  exact shaped_of (by simp only [PyData.canLay0]; exact lay_all fun d hd => (h d hd).1) (by simp only [PyData.depth]; omega)
theorem shaped_t {ds : List PyData} {k : Nat} (h : ∀ d ∈ ds, d.canLay0 = true ∧ d.depth ≤ k) (hk : k ≤ 62) : SeqAt.shaped (.tuple ds) = true := by
  have h1 := depth_all fun d hd => (h d hd).2
  exact shaped_of (by simp only [PyData.canLay0]; exact lay_all fun d hd => (h d hd).1) (by simp only [PyData.depth]; omega)
theorem shaped_i (i : Int) : SeqAt.shaped (.int i) = true := shaped_of (by simp [PyData.canLay0]) (by simp [PyData.depth])
theorem shaped_b (b : Bool) : SeqAt.shaped (.bool b) = true := shaped_of (by simp [PyData.canLay0]) (by simp [PyData.depth])
theorem shaped_n : SeqAt.shaped .none = true := shaped_of (by simp [PyData.canLay0]) (by simp [PyData.depth])
theorem shaped_s {x : Str} (h : (PyData.str x).canLay0 = true) : SeqAt.shaped (.str x) = true := shaped_of h (by simp [PyData.depth])
end TL

end
open PySem L2 TL
local macro_rules | `(tactic| walk_at "tl1") => `(tactic| first
  | with_reducible refine w_seq ?_ | with_reducible refine w_set ?_ | with_reducible refine w_ret ?_ | with_reducible refine w_sNil ?_ | with_reducible refine w_retL ?_ | with_reducible refine w_retN ?_ | with_reducible refine w_new ?_ | with_reducible refine w_setN ?_ | with_reducible refine w_setF ?_ | with_reducible refine w_retF ?_
  | ((with_reducible refine' w_put ?_ ?_); rotate_left; (exact rfl)) | with_reducible refine w_drop ?_ | with_reducible refine w_asg ?_ | with_reducible refine w_brk ?_ | with_reducible refine w_cont ?_ | ((with_reducible refine' w_aug ?_ ?_); rotate_left; (exact rfl))
  | with_reducible refine w_C ?_ | ((with_reducible refine' w_V ?_ ?_); rotate_left; (exact rfl)) | with_reducible refine w_bin ?_ | with_reducible refine w_map ?_ | with_reducible refine w_nil ?_ | with_reducible refine w_cons ?_ | with_reducible refine w_tup ?_ | with_reducible refine w_lst ?_ | with_reducible refine w_T ?_ | with_reducible refine w_not ?_ | with_reducible refine w_and ?_ | with_reducible refine w_or ?_
  | with_reducible refine w_eIf ?_ | with_reducible refine w_andV ?_ | with_reducible refine w_orV ?_ | with_reducible refine w_chain ?_ | ((with_reducible refine' w_ixO ?_ ?_); rotate_left; (exact rfl)) | ((with_reducible refine' w_callR ?_ ?_); rotate_left; (exact rfl)) | with_reducible refine w_sm ?_ | with_reducible refine w_no ?_ | with_reducible refine w_pt ?_ | with_reducible refine w_sl ?_ | with_reducible refine w_its ?_ | with_reducible refine w_rg1 ?_ | with_reducible refine w_rg2 ?_ | with_reducible refine w_enum ?_
  | with_reducible refine w_add_i ?_ | with_reducible refine w_sub_i ?_ | with_reducible refine w_lt_i ?_ | with_reducible refine w_le_i ?_ | with_reducible refine w_gt_i ?_ | with_reducible refine w_ge_i ?_ | with_reducible refine w_bl ?_ | with_reducible refine w_tru_b ?_ | with_reducible refine w_notD ?_ | with_reducible refine w_neg_i ?_ | with_reducible refine w_len_l ?_ | with_reducible refine w_len_t ?_ | with_reducible refine w_abs ?_
  | with_reducible refine w_ix_l ?_ | with_reducible refine w_ix_t ?_ | with_reducible refine w_its_l ?_ | with_reducible refine w_its_t ?_ | with_reducible refine w_its_s ?_ | with_reducible refine w_hNm ?_ | with_reducible refine w_isn ?_
  | with_reducible refine w_at (atI_0 _ _) ?_ | with_reducible refine w_at (atI_1 _ _ _) ?_ | with_reducible refine W.of (ixN_0 _) ?_ | with_reducible refine W.of (ixN_1 _) ?_
  | with_reducible refine cell_0 ?_ | with_reducible refine w_runD ?_ | with_reducible refine w_runR ?_ | with_reducible refine w_runN ?_ | ((with_reducible refine' w_arN ?_ ?_); (exact rfl))
  | with_reducible refine w_mod_i (by first | assumption | omega) ?_ | with_reducible refine w_fdiv_i (by first | assumption | exact ⟨by assumption, by assumption⟩ | exact log_fit (by omega) (by omega)) ?_
  | with_reducible refine w_mul_i (by first | assumption | exact mul_fit (Nat.le_trans (bits64 (by omega) (by omega)) (by decide)) (Nat.le_trans (bits64 (by omega) (by omega)) (by decide))) ?_)
local macro_rules | `(tactic| walk_at "tln") => `(tactic| simp only [slots, List.map_cons, List.map_nil, List.replicate, List.cons_append, List.nil_append, List.append_nil, List.set_cons_zero, List.set_cons_succ, List.length_cons, List.length_nil, Nat.zero_add, Nat.reduceAdd, then_nx, then_ct, then_bk, then_rt, then_rn, turn_nx, turn_ct, turn_bk, turn_rt, turn_rn, pd_rt, pd_nx, pd_rn, pn_rn, pr_rt, pr_nx])
local macro_rules | `(tactic| walk_at "tlx") => `(tactic| (refine Exists.intro _ (Exists.intro _ (And.intro (Eq.refl _) (And.intro (Eq.refl _) ?_)))))
local macro_rules | `(tactic| walk_at "tlev") => `(tactic| repeat (first | walk_at "tl1" | walk_at "tln" | (with_reducible walk_at "tlx") | dsimp only))
/-! TL16 -/
section
set_option maxHeartbeats 4000000
namespace TL
open PySem L2
/-! ## a new list by + -/
def catL : PyData → PyData → Option PyData
  | .list a, .list b => if a.length + b.length ≤ sizeLine then some (.list (a ++ b)) else none
  | _, _ => none
section
variable {X : Cx} {U : Hp} {pos : Pos} {a b : Expr} {f g : Ev}
theorem qn_cat (ha : PE X a (tE X.K U f)) (hb : PE X b (tE X.K U g)) : PE X (.BinOp a .Add b pos) (tN X.K U (eBin catL f g)) := pe_weak (pe_op op_catR ha hb) fun σ H Q ⟨A, F, r, m, d, m', G, e, k⟩ => by
  obtain ⟨d1, m1, d2, e1, e2, e3⟩ := bin_some e
  refine ⟨A, F, r, m, d1, m1, G, e1, fun F1 H1 x s1 G1 h1 => ⟨A, F1, r, m1, d2, m', G1, e2, fun F2 H2 y s2 G2 h2 => ?_⟩⟩
  unfold catL at e3
  split at e3
  · split at e3
    · rename_i hz
      cases e3
      cases h1 with
      | vl sa ra => cases h2 with
        | vl sb rb =>
          have l1 := rpa_len ra
          have l2 := rpa_len rb
          exact ⟨_, _, _, _, rfl, rfl, sqL_mono (s2.trans G2.sub) sa, sqL_mono G2.sub sb, by omega, fun p np => k F2 _ p _ (s1.trans s2) (G2.laidO np) (G2.nope np).1 (G2.nope np).2 (G2.notin np) upd_same ⟨_, rfl, rpa_app (Rpam s2 ra) rb⟩⟩
    · cases e3
  · cases e3
end
end TL

end
/-! TL17 -/
section
set_option maxHeartbeats 4000000
namespace TL
open PySem PySem.Spec PyProof.Rows L2
/-! ## promises that hold where nothing is being shown (so that repr may be asked) -/
structure FnG (P : Program) (w : World) (K : PySem.W.Frag) (mg : Str → Option Value) (base : Heap) (k : Nat) (f : Addr) (fd : FuncData) (ps : List Str) (sp : Sp) : Prop where
  len : ∀ vs H Q E, sp vs H Q E → vs.length = ps.length
  run : ∀ (A : Around) (outer : List Env) (s : Shared) (H : Hp) (args : Args) (us : List Value) (vs : List V) (Q : VK) (E : XK), Room k A → A.guards = some [] → Env0 P w K mg base A outer s H →
    BindsTo s fd args (ps.zip us) → Vals vs us → sp vs H Q E → codeAny (model P w) A (.call (.ref f) args) (CR CX0 outer P w H s Q E) s
theorem FnG.of {P : Program} {w : World} {K : PySem.W.Frag} {mg : Str → Option Value} {base : Heap} {k : Nat} {f : Addr} {fd : FuncData} {ps : List Str} {sp : Sp} (F : FnOk P w K mg base CX0 k f fd ps sp) : FnG P w K mg base k f fd ps sp :=
  ⟨F.len, fun A outer s H args us vs Q E room _ => F.run A outer s H args us vs Q E room⟩
theorem guards_deeper {A : Around} {env : Env} (g : A.guards = some []) : (A.deeper env).guards = some [] := g
/-- repr(x) of data that is no dict -/
def reprD : List PyData → Option PyData
  | [.list ds] => if (PyData.list ds).showable = true ∧ (PyData.list ds).hasDict = false ∧ SeqAt.shaped (.list ds) = true ∧ (PyData.list ds).shown.length ≤ sizeLine then some (.str (PyData.list ds).shown) else none
  | [.tuple ds] => if (PyData.tuple ds).showable = true ∧ (PyData.tuple ds).hasDict = false ∧ SeqAt.shaped (.tuple ds) = true ∧ (PyData.tuple ds).shown.length ≤ sizeLine then some (.str (PyData.tuple ds).shown) else none
  | [.int i] => if i.natAbs.log2 < 1920 then some (.str (toString i)) else none
  | _ => none
section
variable {X : Cx} {U : Hp}
abbrev rReprD (K : PySem.W.Frag) : List V → Hp → VK → Prop := fun xs H Q => (∃ i, xs = [.int i] ∧ i.natAbs.log2 < 1920 ∧ Q (.str (toString i)) H) ∨
  (∃ a d, xs = [.ref a] ∧ Dp K H (.ref a) d ∧ d.showable = true ∧ d.hasDict = false ∧ SeqAt.shaped d = true ∧ d.shown.length ≤ sizeLine ∧ Q (.str d.shown) H)
theorem call_reprD (g : X.A.guards = some []) (hu : X.A.units + 66 < cLine) : CallR X (.builtin "repr") (rReprD X.K) := by
  intro pins s σ H xs us Q I r h
  rcases h with h | ⟨a, d, rfl, hd, h1, h2, h3, h4, q⟩
  · exact SkE.call_repr_int pins s σ H xs us Q I r h
  · obtain ⟨u, rfl, rx⟩ := vals1 r
    obtain ⟨as, rd⟩ := Dp.reads I d (.ref a) u hd rx
    cases rx
    have hdep := SeqAt.depth_of_shaped h3
    exact repr_of_reads' (h₀ := s.heap) rd h1 (fun z => by rw [h2] at z; cases z) g (by omega) (fun _ _ z => z) (fun h' t tk hk => ⟨.str d.shown, H, I.kept hk, ⟨t, rfl⟩, q⟩) h4
theorem cd_repr : CallD X U (rReprD X.K) reprD := by
  intro A F H σ r m vs ds d Q G ha e k
  unfold reprD at e
  split at e
  · split at e
    · rename_i hz
      cases e
      obtain ⟨v, rfl, h⟩ := rpa1 ha
      cases h with
      | vl sa ra => exact .inr ⟨_, _, rfl, rp_dp G.sub _ _ (SeqAt.canLay_of_shaped hz.2.2.1) (.vl sa ra), hz.1, hz.2.1, hz.2.2.1, hz.2.2.2, k F H _ (Same.refl F) G (.vs _)⟩
    · cases e
  · split at e
    · rename_i hz
      cases e
      obtain ⟨v, rfl, h⟩ := rpa1 ha
      cases h with
      | vt sa ra => exact .inr ⟨_, _, rfl, rp_dp G.sub _ _ (SeqAt.canLay_of_shaped hz.2.2.1) (.vt sa ra), hz.1, hz.2.1, hz.2.2.1, hz.2.2.2, k F H _ (Same.refl F) G (.vs _)⟩
    · cases e
  · split at e
    · rename_i hz
      cases e
      obtain ⟨v, rfl, h⟩ := rpa1 ha
      cases h
      exact .inl ⟨_, rfl, hz, k F H _ (Same.refl F) G (.vs _)⟩
    · cases e
  · cases e
end
/-! ### such a promise from a body -/
section
variable {P : Program} {w : World} {K : PySem.W.Frag} {mg : Str → Option Value} {base : Heap} {x qual : Str} {st : Stmt} {f : Addr} {fd : FuncData} {N ps : List Str} {k : Nat} {sp : Sp}
theorem fn_ofG (F : Fun K x qual st f fd) (S : FnScope N ps (defScope st)) (len : ∀ vs H Q E, sp vs H Q E → vs.length = ps.length)
    (body : ∀ (cdv : Value) (A : Around) (outer : List Env) (s : Shared) (H : Hp) (vs : List V) (Q : VK) (E : XK), Room k (A.deeper (envOfC qual (defScope st) s.heap.objs.size f cdv)) → A.guards = some [] → sp vs H Q E →
      ∃ t, PSs (cxOf CX0 P w K mg base N qual (defScope st) f cdv A outer s H E) (defBody st) t ∧ t { nx := fun _ H' => Q .non H', rt := Q } (start N vs) H) : FnG P w K mg base (k + 1) f fd ps sp := by
  obtain ⟨oc, od, kV, doc, pm, an, cdv, ct, osl, rfl, stands, coded⟩ := F.ex
  refine ⟨len, fun A outer s H args us vs Q E room gd env bind rel pr => ?_⟩
  have many := len _ _ _ _ pr
  have laid : K.In s.heap := env.mod.kin.keeps fun b o z => (env.bs b o z).1
  have free : s.heap.NoLimit := env.mod.nolimit.keeps fun b o z => (env.bs b o z).1
  have kinds : ∀ y ∈ ps.zip us, (defScope st).names.lookup y.1 = some .local ∨ ((defScope st).names.lookup y.1 = some .cell ∧ ((cellsFrom (s.heap.objs.size + 1) (defScope st).names []).lookup y.1).isSome = true) := by
    rintro ⟨n, v⟩ hy
    cases S.par n (List.of_mem_zip hy).1 with
    | inl q => exact .inl q
    | inr q => exact .inr ⟨q, PySem.W.cellsFrom_some _ _ _ (.inl q)⟩
  apply codeAny_call_function room.depth (laid _ _ stands) rfl S.co S.gen rfl (PySem.W.codeRec_of laid coded)
  apply bind
  apply wpAny_newFunctionEnv_cells S.kind kinds
  rintro nv rfl s1 call
  refine ⟨free.keeps call.toInCall.keep, codeAny_func ?_⟩
  obtain ⟨t, does, meant⟩ := body cdv A outer s H vs Q E (room.deeper _) gd pr
  have start0 : Inv (cxOf CX0 P w K mg base N qual (defScope st) f cdv A outer s H E) [] (start N vs) H s1 := inv_start S room.hd env many rel call
  refine wpAny_mono (does.run [] s1 (start N vs) H _ start0 meant) (fun flow s' ended => ?_) fun e s' ended => ended
  have told : ∀ {σ' : L2.St} {H' : Hp} {v : V} {u : Value}, Inv (cxOf CX0 P w K mg base N qual (defScope st) f cdv A outer s H E) [] σ' H' s' → RelV v u → Q v H' → CE outer P w H s Q u s' :=
    fun {σ' H' v u} J rv q => ⟨v, H', J.os, J.bare, J.base, J.hok, rv, q⟩
  cases flow with
  | ret u => obtain ⟨v, σ', H', J, rv, q⟩ := ended; exact told J rv q
  | next => obtain ⟨σ', H', J, q⟩ := ended; exact told (v := V.non) (u := Value.none) J rfl q
  | brk => obtain ⟨_, _, _, q⟩ := ended; exact q.elim
  | cont => obtain ⟨_, _, _, q⟩ := ended; exact q.elim
end
/-! ### a call by such a promise -/
section
variable {X : Cx} {U : Hp} {f : Addr} {fd : FuncData} {ps : List Str} {k : Nat} {sp : Sp} {x : Str} {p pos : Pos} {e : Expr} {es : List Expr} {t : TA}
theorem pe_callG (F : FnG X.prog X.w X.K X.mg X.base k f fd ps sp) (room : Room k X.A) (gd : X.A.guards = some []) (hg : Gl X x) (hm : X.mg x = some (.ref f)) (kp : PySem.W.keepIn X.K (.ref f) = true) (hb : Binds X.K fd ps []) (ha : PA X (e :: es) t)
    (hdb : (x == ("__debug__" : Str)) = false := by decide) (he : starEach (e :: es) X.env = (false, eval e X.env) :: starEach es X.env := by rfl) (hpl : (backTo pos (starEach es X.env)).any (·.1) = false := by rfl) :
    PE X (.Call (.Name x p) (e :: es) [] pos) (tCall sp [] E0 t) := by
  refine ⟨fun pins s σ H Q I h => ?_⟩
  apply wpAny_Call_Name_kw (ld_glob I hg hm ?_ hdb)
  apply PySem.W.callWith_K (h₀ := X.base) I.ok.mod.kin kp (thn (ha.run pos pins s σ H _ I h) fun us s1 ⟨vs, H1, I1, r, q⟩ => ⟨I1.kIn, ?_⟩) he hpl
  have q' : sp vs H1 Q E0 := by
    have z : sp (vs ++ []) H1 Q E0 := q
    rw [List.append_nil] at z
    exact z
  have hl : us.length = ps.length := by
    rw [← r.length]
    exact F.len _ _ _ _ q'
  apply wpAny_call
  have both := F.run X.A X.stack s1 H1 ⟨us, []⟩ us vs Q E0 room gd I1.env0 (by have := hb s1 us I1.kIn (by rw [List.append_nil]; exact hl); rw [List.append_nil] at this; exact this) r q'
  refine codeAny_mono both fun res s' done => ?_
  cases res with
  | error err => exact pass0 pins σ H1 s1 err s' I1 done
  | ok flow =>
    cases flow with
    | ret u => exact I1.after done
    | next => exact done.elim
    | brk => exact done.elim
    | cont => exact done.elim
end
end TL

end
/-! TL18 -/
section
set_option maxHeartbeats 4000000
namespace TL
open PySem PySem.Spec PyProof.Rows L2
section
variable {P : Program} {w : World} {K : PySem.W.Frag} {mg mb : Str → Option Value} {k : Nat} {fa a : Addr} {fd : FuncData} {x : Str} {sp : Sp} {s₁ : Shared} {vs : List Value} {ns : List Int}
/-- the law called, its list told as a heap H in which nothing else is held -/
theorem law_G1 (laid : K.In s₁.heap) (names : s₁.heap.Ns mainGlobals mg) (blt : s₁.heap.Ns builtinsNs mb) (boot : ∀ x : Str, x ≠ "__name__" → mb x = bootBuiltins x) (free : s₁.heap.NoLimit) (gens : s₁.gens = #[])
    (script : s₁.heap.get? a = some { cls := .type "list", data := .seq vs.toArray }) (room : Room k callerA) (F : ∀ base : Heap, K.In base → base.Ns mainGlobals mg → FnG P w K mg base k fa fd [x] sp) (bind : ∀ (s : Shared) (u : Value), BindsTo s fd ⟨[u], []⟩ [(x, u)])
    (H : Hp) (only : Only H) (q : sp [.ref a] H (fun v _ => v = .bl true) E0) (ok : HOk P w H s₁.heap) (alone : ∀ b, H b ≠ none → b = a) (notK : H a ≠ none → K.lookup a = none) :
    codeAny (model P w) callerA (.call (.ref fa) ⟨[.ref a], []⟩) (fun r s' => r = .ok (.ret (.bool true)) ∧ OldK s₁.heap s'.heap ∧ s'.os = s₁.os ∧ AllBare s'.gens) s₁ := by
  have isA : ∀ {b : Addr} {u : HO}, H b = some u → b = a := fun {b u} z => alone b (by rw [z]; simp)
  have unheld : ∀ {b : Addr} {o : Obj} {es : Array DictEntry} {ep : Nat}, s₁.heap.get? b = some o → o.data = .dict es ep → H b = none := fun {b o es ep} z d => by
    cases hb : H b with
    | none => rfl
    | some u =>
      rw [isA hb, script] at z
      cases z
      cases (show Data.seq vs.toArray 0 = Data.dict es ep from d)
  have nsIn : ∀ {b : Addr} {m : Str → Option Value}, s₁.heap.Ns b m → (hidT s₁.heap H).Ns b m := fun {b m} ⟨o, es, ep, z, d, r⟩ => ⟨o, es, ep, hidT_get z (unheld z d), d, r⟩
  have kIn : K.In (hidT s₁.heap H) := fun b o z => hidT_get (laid b o z) (by
    cases hb : H b with
    | none => rfl
    | some u =>
      have hba := isA hb
      subst hba
      rw [notK (by rw [hb]; simp)] at z
      cases z)
  obtain ⟨mc, l1, l2⟩ := free
  have env : Env0 P w K mg (hidT s₁.heap H) callerA [] s₁ H :=
    ⟨rfl, ⟨kIn, nsIn names, ⟨mb, nsIn blt, boot⟩, mc, nsIn l1, l2⟩, fun b o z => of_hidT z, Nat.le_of_eq (hidT_size _ _), trivial, fun b hb => (by cases hb), ok, .of_eq gens⟩
  have ran := (F _ kIn (nsIn names)).run callerA [] s₁ H ⟨[.ref a], []⟩ [.ref a] [.ref a] _ E0 room rfl env (bind s₁ (.ref a)) (.cons rfl .nil) q
  refine codeAny_mono ran fun r s' done => ?_
  cases r with
  | error e => exact done.elim
  | ok flow =>
    cases flow with
    | next => exact done.elim
    | brk => exact done.elim
    | cont => exact done.elim
    | ret u =>
      obtain ⟨v, H', os, bare, un, ok', rv, hv⟩ := done
      have hv2 : v = .bl true := hv
      subst hv2
      obtain rfl : u = Value.bool true := rv
      refine ⟨rfl, OldK.of_keep fun b o z => ?_, os, bare⟩
      cases hb : H b with
      | none => exact un.keep b o z hb (fun y => by cases y) (by simp)
      | some u =>
        rcases only b with y | ⟨ob, xs, y⟩
        · rw [hb] at y; cases y
        · obtain ⟨z1, _⟩ := ok b _ y
          obtain ⟨z2, _⟩ := ok' b _ (un.frzs b ob _ y)
          rw [z] at z1
          cases z1
          exact z2
theorem law_G (laid : K.In s₁.heap) (names : s₁.heap.Ns mainGlobals mg) (blt : s₁.heap.Ns builtinsNs mb) (boot : ∀ x : Str, x ≠ "__name__" → mb x = bootBuiltins x) (free : s₁.heap.NoLimit) (gens : s₁.gens = #[])
    (script : s₁.heap.get? a = some { cls := .type "list", data := .seq vs.toArray }) (allI : IntsAre vs ns) (few : ns.length ≤ sizeLine) (room : Room k callerA) (F : ∀ base : Heap, K.In base → base.Ns mainGlobals mg → FnG P w K mg base k fa fd [x] sp)
    (bind : ∀ (s : Shared) (u : Value), BindsTo s fd ⟨[u], []⟩ [(x, u)]) (q : ∀ H : Hp, Only H → SqL K H a (ns.map V.int) → sp [.ref a] H (fun v _ => v = .bl true) E0) :
    codeAny (model P w) callerA (.call (.ref fa) ⟨[.ref a], []⟩) (fun r s' => r = .ok (.ret (.bool true)) ∧ OldK s₁.heap s'.heap ∧ s'.os = s₁.os ∧ AllBare s'.gens) s₁ := by
  have rel := vals_ints allI
  have many : vs.length ≤ sizeLine := by rw [allI.length]; exact few
  cases own : K.lookup a with
  | some o =>
    have z := laid a o own
    rw [script] at z
    cases z
    have only : Only (fun _ => none) := fun _ => .inl rfl
    exact law_G1 laid names blt boot free gens script room F bind _ only (q _ only (.inr ⟨_, vs.toArray, _, own, rfl, rfl, rfl, by rw [List.size_toArray]; exact many, by simpa using rel⟩))
      (fun b u z => nomatch (show (none : Option HO) = some u from z)) (fun b z => absurd rfl z) fun z => absurd rfl z
  | none =>
    have at_ : ∀ b, b ≠ a → upd (fun _ => none) a (.frz { cls := .type "list", data := .seq vs.toArray } (.lst (ns.map V.int))) b = none := fun b hb => upd_ne hb
    have only : Only (upd (fun _ => none) a (.frz { cls := .type "list", data := .seq vs.toArray } (.lst (ns.map V.int)))) := fun b => by
      by_cases hb : b = a
      · subst hb; exact .inr ⟨_, _, upd_same⟩
      · exact .inl (at_ b hb)
    refine law_G1 laid names blt boot free gens script room F bind _ only (q _ only (.inl (.inr ⟨_, upd_same⟩))) (fun b u z => ?_) (fun b z => ?_) fun _ => own
    · by_cases hb : b = a
      · subst hb
        rw [upd_same] at z
        cases z
        exact ⟨script, by rw [List.length_map]; exact few, vs, _, rel, script⟩
      · rw [at_ b hb] at z; cases z
    · by_cases hb : b = a
      · exact hb
      · exact absurd (at_ b hb) z
end
/-- a law of one list of ints whose def may ask repr: what is left is plain Lean -/
theorem walk_treeG {l : PySem.W.OpenLaw} {n k : Nat} {q : Program} {loose : List Str} {XP : (Str → Option Value) → Heap → Prop} {YP : World → Heap → Prop} {d : DefRec} {x : Str} {g : List PyData → Option PyData}
    (hn : l.most = some n) (hn2 : n ≤ sizeLine) (hdf : d.params.defaults = []) (hr : Room k callerA)
    (F : ∀ (w : World) (mg : Str → Option Value) (fa : Addr) (h : Heap), YP w h → h.Ns mainGlobals mg → mg d.name = some (.ref fa) →
      ∃ (K : PySem.W.Frag) (fd : FuncData), K.In h ∧ (∀ (s : Shared) (u : Value), BindsTo s fd ⟨[u], []⟩ [(x, u)]) ∧
        ∀ base : Heap, K.In base → base.Ns mainGlobals mg → FnG l.prog w K mg base k fa fd [x] (spD K 1 g))
    (hg : ∀ ns : List Int, ns.length ≤ n → (∀ z ∈ ns, Builtin.Int.intBits z ≤ 1048576) → g [.list (ns.map .int)] = some (.bool true)) :
    PySem.W.WalkO q loose XP YP l.row.toRowW d [] (fun f vs => PySem.call f vs) := by
  refine Att.attach_callB hn hdf fun w s₀ s₁ mg mb fa o pm cd doc a vs ns G Y ho hd hcd hmg hobj hints hlen hbits hgs => ?_
  obtain ⟨K, fd, KX, hb, hF⟩ := F w mg fa _ Y G.T.g hmg
  refine law_G KX G.T.g G.T.b G.T.builtins G.T.nolimit hgs hobj hints (Nat.le_trans hlen hn2) hr hF hb fun H hO hS => ?_
  refine ⟨H, [.list (ns.map .int)], .bool true, Same.refl H, rfl, .cons (.vl hS (rpa_ints ns)) .nil, hg ns hlen hbits, fun F' H' v _ _ _ hv => ?_⟩
  cases hv
  rfl
end TL

end
/-! TL19 -/
section
set_option maxHeartbeats 4000000
namespace TL
open PySem PySem.Spec PyProof.Rows L2
section
variable {P : Program} {w : World} {K : PySem.W.Frag} {mg : Str → Option Value} {base : Heap} {x qual : Str} {st : Stmt} {f : Addr} {fd : FuncData} {N ps : List Str} {k : Nat} {s : Es}
theorem fn_DG (F : Fun K x qual st f fd) (S : FnScope N ps (defScope st)) (hpl : ps.length ≤ N.length)
    (hb : ∀ (cdv : Value) (A : Around) (outer : List Env) (s0 : Shared) (H : Hp) (E : XK) (U : Hp), Room k (A.deeper (PyProof.Rows.envOfC qual (defScope st) s0.heap.objs.size f cdv)) → A.guards = some [] →
      PSs (cxOf CX0 P w K mg base N qual (defScope st) f cdv A outer s0 H E).nox (defBody st) (tS K U 0 s)) : FnG P w K mg base (k + 1) f fd ps (spD K ps.length (runD (N.length - ps.length) s)) := by
  refine fn_ofG F S (fun vs H Q E h => ?_) fun cdv A outer s0 H vs Q E hr gd h => ?_
  · obtain ⟨_, _, _, _, hl, _⟩ := h
    exact hl
  · obtain ⟨U, q⟩ := go_D hpl h
    exact ⟨_, (hb cdv A outer s0 H E U hr gd).nox, q⟩
theorem fn_NG (F : Fun K x qual st f fd) (S : FnScope N ps (defScope st)) (hpl : ps.length ≤ N.length)
    (hb : ∀ (cdv : Value) (A : Around) (outer : List Env) (s0 : Shared) (H : Hp) (E : XK) (U : Hp), Room k (A.deeper (PyProof.Rows.envOfC qual (defScope st) s0.heap.objs.size f cdv)) → A.guards = some [] →
      PSs (cxOf CX0 P w K mg base N qual (defScope st) f cdv A outer s0 H E).nox (defBody st) (tS K U 0 s)) : FnG P w K mg base (k + 1) f fd ps (spN K ps.length (runN (N.length - ps.length) s)) := by
  refine fn_ofG F S (fun vs H Q E h => ?_) fun cdv A outer s0 H vs Q E hr gd h => ?_
  · obtain ⟨_, _, _, _, hl, _⟩ := h
    exact hl
  · obtain ⟨U, q⟩ := go_N hpl h
    exact ⟨_, (hb cdv A outer s0 H E U hr gd).nox, q⟩
theorem fn_RG {p0 : Str} (F : Fun K x qual st f fd) (S : FnScope N (p0 :: ps) (defScope st)) (hpl : ps.length + 1 ≤ N.length)
    (hb : ∀ (cdv : Value) (A : Around) (outer : List Env) (s0 : Shared) (H : Hp) (E : XK) (U : Hp), Room k (A.deeper (PyProof.Rows.envOfC qual (defScope st) s0.heap.objs.size f cdv)) → A.guards = some [] →
      PSs (cxOf CX0 P w K mg base N qual (defScope st) f cdv A outer s0 H E).nox (defBody st) (tS K U 1 s)) : FnG P w K mg base (k + 1) f fd (p0 :: ps) (spR K ps.length (runR (N.length - (ps.length + 1)) s)) := by
  refine fn_ofG F S (fun vs H Q E h => ?_) fun cdv A outer s0 H vs Q E hr gd h => ?_
  · obtain ⟨_, _, _, ws, _, _, _, _, _, rfl, hl, _⟩ := h
    exact congrArg (· + 1) hl
  · obtain ⟨U, q⟩ := go_R hpl h
    exact ⟨_, (hb cdv A outer s0 H E U hr gd).nox, q⟩
end
structure CalG (P : Program) (w : World) (K : PySem.W.Frag) (mg : Str → Option Value) (base : Heap) (x : Str) (k : Nat) (ps : List Str) (sp : Sp) : Prop where
  ex : ∃ (f : Addr) (fd : FuncData), FnG P w K mg base k f fd ps sp ∧ mg x = some (.ref f) ∧ PySem.W.keepIn K (.ref f) = true ∧ Binds K fd ps []
section
variable {X : Cx} {U : Hp} {x : Str} {p pos : Pos} {e : Expr} {es : List Expr} {f : Eas} {j k n : Nat} {ps : List Str}
/-- a def called that is pure on trees -/
theorem qc_callG {g : List PyData → Option PyData} (C : CalG X.prog X.w X.K X.mg X.base x k ps (spD X.K n g)) (hr : Room j X.A) (gd : X.A.guards = some []) (hjk : k ≤ j) (ha : PA X (e :: es) (tAs X.K U f)) (hg : Gl X x := by rfl) (hdb : (x == ("__debug__" : Str)) = false := by decide)
    (he : starEach (e :: es) X.env = (false, eval e X.env) :: starEach es X.env := by rfl) (hpl : (backTo pos (starEach es X.env)).any (·.1) = false := by rfl) :
    PE X (.Call (.Name x p) (e :: es) [] pos) (tE X.K U (eMap f (arN n g))) := by
  obtain ⟨fa, fd, Fn, h2, h3, h4⟩ := C.ex
  refine pe_weak (pe_callG Fn (hr.mono hjk) gd hg h2 h3 h4 ha hdb he hpl) fun σ H Q ⟨A, F, r, m, d, m', G, e, k⟩ => ?_
  obtain ⟨ds, e1, e2⟩ := map_some e
  refine ⟨A, F, r, m, ds, m', G, e1, fun F1 H1 vs s1 G1 h1 => ?_⟩
  show spD X.K n g (vs ++ []) H1 Q E0
  rw [List.append_nil]
  obtain ⟨l2, e3⟩ := arN_some e2
  exact ⟨F1, ds, d, G1.sub, (rpa_len h1).trans l2, h1, e3, fun F2 H2 v s2 s3 kk h2 => k F2 H2 v (s1.trans s2) (G1.past s2 s3 kk) h2⟩
theorem qc_callRG {g : PyData → List PyData → Option (PyData × PyData)} (i : Nat) {y : Str} {p1 : Pos} (C : CalG X.prog X.w X.K X.mg X.base x k ps (spR X.K n g)) (hr : Room j X.A) (gd : X.A.guards = some []) (hjk : k ≤ j) (hv : PE X (.Name y p1) (tVar i)) (ha : PA X es (tAs X.K U f)) (hg : Gl X x := by rfl)
    (hdb : (x == ("__debug__" : Str)) = false := by decide) (he : starEach (.Name y p1 :: es) X.env = (false, eval (.Name y p1) X.env) :: starEach es X.env := by rfl) (hpl : (backTo pos (starEach es X.env)).any (·.1) = false := by rfl) :
    PE X (.Call (.Name x p) (.Name y p1 :: es) [] pos) (tE X.K U (eCallR n i g f)) := by
  obtain ⟨fa, fd, Fn, h2, h3, h4⟩ := C.ex
  refine pe_weak (pe_callG Fn (hr.mono hjk) gd hg h2 h3 h4 (pa_cons hv ha he) hdb he hpl) fun σ H Q ⟨A, F, r, m, d, m', G, e, k⟩ => ?_
  unfold eCallR at e
  split at e
  · rename_i j hj
    obtain ⟨a, hA, hσ⟩ := G.ow i j hj
    cases e1 : f r m with
    | none => rw [e1] at e; cases e
    | some z =>
      obtain ⟨ds, m1⟩ := z
      rw [e1] at e
      simp only [Option.bind_some] at e
      cases e2 : cellAt m1 j with
      | none => rw [e2] at e; cases e
      | some cs =>
        rw [e2] at e
        simp only [Option.bind_some] at e
        cases e3 : arN n (g cs) ds with
        | none => rw [e3] at e; cases e
        | some q =>
          obtain ⟨d2, cs'⟩ := q
          rw [e3] at e
          cases e
          refine ⟨_, hσ, A, F, r, m, ds, m1, G, e1, fun F1 H1 vs s1 G1 h1 => ?_⟩
          show spR X.K n g ((V.ref a :: vs) ++ []) H1 Q E0
          rw [List.append_nil]
          obtain ⟨l3, e3⟩ := arN_some e3
          obtain ⟨c1, c2, us, c3, c4⟩ := G1.cl j a cs hA e2
          exact ⟨F1, a, us, vs, cs, ds, _, cs', G1.sub, rfl, (rpa_len h1).trans l3, c1, c3, c4, h1, e3, fun F2 H2 v us' s2 s3 kk f2 h2 r2 d2 => k F2 H2 v (s1.trans s2) (G1.pastR hA e2 s2 s3 kk f2 h2 r2) d2⟩
  · cases e
/-- a def called that hands back a new object -/
theorem qn_callG {g : List PyData → Option PyData} (C : CalG X.prog X.w X.K X.mg X.base x k ps (spN X.K n g)) (hr : Room j X.A) (gd : X.A.guards = some []) (hjk : k ≤ j) (ha : PA X (e :: es) (tAs X.K U f)) (hg : Gl X x := by rfl) (hdb : (x == ("__debug__" : Str)) = false := by decide)
    (he : starEach (e :: es) X.env = (false, eval e X.env) :: starEach es X.env := by rfl) (hpl : (backTo pos (starEach es X.env)).any (·.1) = false := by rfl) : PE X (.Call (.Name x p) (e :: es) [] pos) (tN X.K U (eMap f (arN n g))) := by
  obtain ⟨fa, fd, Fn, h2, h3, h4⟩ := C.ex
  refine pe_weak (pe_callG Fn (hr.mono hjk) gd hg h2 h3 h4 ha hdb he hpl) fun σ H Q ⟨A, F, r, m, d, m', G, e, kk⟩ => ?_
  obtain ⟨ds, e1, e2⟩ := map_some e
  refine ⟨A, F, r, m, ds, m', G, e1, fun F1 H1 vs s1 G1 h1 => ?_⟩
  show spN X.K n g (vs ++ []) H1 Q E0
  rw [List.append_nil]
  obtain ⟨l2, e3⟩ := arN_some e2
  refine ⟨F1, ds, d, G1.sub, (rpa_len h1).trans l2, h1, e3, fun F2 H2 a u s2 s3 k3 f2 na h2 r2 => ?_⟩
  have nU : U a = none := by
    cases q : U a with
    | none => rfl
    | some o => rw [(G1.fo a o q).1] at na; cases na
  exact kk F2 H2 a u (s1.trans s2) (G1.past s2 s3 k3) f2 nU (G1.notin na) h2 r2
end
theorem room66 {k : Nat} {A : Around} (r : Room k A) : A.units + 66 < cLine := by have := r.un; omega
end TL

end
/-! TL20 -/
section
set_option maxHeartbeats 4000000
namespace TL
open PySem PySem.Spec PyProof.Rows L2
/-! ## a def that changes its first argument, handed a new list that nothing else holds -/
theorem Good.pastX {K : PySem.W.Frag} {U : Hp} {A : List Addr} {F H F' H' : Hp} {σ : L2.St} {r : Rs} {m : Ms} (G : Good K U A F H σ r m) {a : Addr} (hA : a ∉ A) (hU : U a = none) (s1 : Same F F') (s2 : Same F' H')
    (k : ∀ b o, H b = some o → F b = none → b ≠ a → H' b = some o ∧ F' b = none) : Good K U A F' H' σ r m := by
  refine ⟨s2, fun b o e => ?_, G.len, fun i d e => ?_, G.ow, G.al, fun j b ds e1 e2 => ?_, G.nd, fun b hb => ?_⟩
  · obtain ⟨h1, h2⟩ := G.fo b o e
    exact k b o h1 h2 fun z => by rw [z, hU] at e; cases e
  · obtain ⟨v, h1, h2⟩ := G.fz i d e
    exact ⟨v, h1, Rpm s1 h2⟩
  · obtain ⟨h1, h2, u, h3, h4⟩ := G.cl j b ds e1 e2
    obtain ⟨q1, q2⟩ := k b _ h3 h1 fun z => hA (z ▸ List.mem_of_getElem? e1)
    exact ⟨q2, h2, u, q1, stored_mono s1 h4⟩
  · obtain ⟨o, h1⟩ := G.he b hb
    cases q : F b with
    | none => exact ⟨o, (k b o h1 q fun z => hA (z ▸ hb)).1⟩
    | some o' => exact ⟨o', s2 b o' (s1 b o' q)⟩
/-- U without the object again -/
theorem Good.unhold {K : PySem.W.Frag} {U : Hp} {A : List Addr} {F H : Hp} {σ : L2.St} {r : Rs} {m : Ms} {a : Addr} {o : HO} (G : Good K (upd U a o) A F H σ r m) (hU : U a = none) : Good K U A F H σ r m := by
  have up : ∀ b x, U b = some x → upd U a o b = some x := fun b x e => by
    rw [upd_ne fun z => by rw [z, hU] at e; cases e]
    exact e
  refine ⟨G.sub, fun b x e => G.fo b x (up b x e), G.len, G.fz, G.ow, G.al, fun j b ds e1 e2 => ?_, G.nd, G.he⟩
  obtain ⟨h1, h2, h3⟩ := G.cl j b ds e1 e2
  refine ⟨h1, ?_, h3⟩
  cases q : U b with
  | none => rfl
  | some x => rw [up b x q] at h2; cases h2
def eCallT (n : Nat) (f0 : Ev) (g : PyData → List PyData → Option (PyData × PyData)) (f : Eas) : Ev := fun r m => (f0 r m).bind fun p => (f r p.2).bind fun q => (arN n (g p.1) q.1).map fun z => (z.1, q.2)
section
variable {X : Cx} {U : Hp} {x : Str} {p pos : Pos} {e0 : Expr} {es : List Expr} {f0 : Ev} {f : Eas} {j k n : Nat} {ps : List Str}
theorem qc_callTG {g : PyData → List PyData → Option (PyData × PyData)} (C : CalG X.prog X.w X.K X.mg X.base x k ps (spR X.K n g)) (hr : Room j X.A) (gd : X.A.guards = some []) (hjk : k ≤ j) (hv : PE X e0 (tN X.K U f0)) (ha : ∀ U, PA X es (tAs X.K U f)) (hg : Gl X x := by rfl)
    (hdb : (x == ("__debug__" : Str)) = false := by decide) (he : starEach (e0 :: es) X.env = (false, eval e0 X.env) :: starEach es X.env := by rfl) (hpl : (backTo pos (starEach es X.env)).any (·.1) = false := by rfl) :
    PE X (.Call (.Name x p) (e0 :: es) [] pos) (tE X.K U (eCallT n f0 g f)) := by
  obtain ⟨fa, fd, Fn, h2, h3, h4⟩ := C.ex
  have all : PA X es (fun σ H Q => ∃ U, tAs X.K U f σ H Q) := ⟨fun pos pins s σ H Q I ⟨U, q⟩ => (ha U).run pos pins s σ H Q I q⟩
  refine pe_weak (pe_callG Fn (hr.mono hjk) gd hg h2 h3 h4 (pa_cons hv all he) hdb he hpl) fun σ H Q ⟨A, F, r, m, d, m', G, e, k⟩ => ?_
  unfold eCallT at e
  cases e1 : f0 r m with
  | none => rw [e1] at e; cases e
  | some z1 =>
    obtain ⟨cs, m1⟩ := z1
    cases e2 : f r m1 with
    | none => simp [e1, e2] at e
    | some z2 =>
      obtain ⟨ds, m2⟩ := z2
      simp only [e1, e2, Option.bind_some] at e
      cases e3 : arN n (g cs) ds with
      | none => rw [e3] at e; cases e
      | some z3 =>
        obtain ⟨d3, cs'⟩ := z3
        rw [e3] at e
        cases e
        refine ⟨A, F, r, m, cs, m1, G, e1, fun F1 H1 a u s1 G1 q1 q2 q3 q4 q5 => ⟨upd U a u, A, F1, r, m1, ds, m', G1.hold q4 q1 q3, e2, fun F2 H2 vs s2 G2 h5 => ?_⟩⟩
        show spR X.K n g ((V.ref a :: vs) ++ []) H2 Q E0
        rw [List.append_nil]
        obtain ⟨l3, e4⟩ := arN_some e3
        obtain ⟨c1, c2⟩ := G2.fo a u upd_same
        exact ⟨F2, a, u, vs, cs, ds, _, cs', G2.sub, rfl, (rpa_len h5).trans l3, c2, c1, stored_mono s2 q5, h5, e4, fun F3 H3 v us' s3 s4 kk f3 h6 r3 d6 =>
          k F3 H3 v (s1.trans (s2.trans s3)) ((G2.unhold q2).pastX q3 q2 s3 s4 kk) d6⟩
end
end TL

end
/-! TL21 -/
section
set_option maxHeartbeats 4000000
namespace TL
open PySem L2
/-! ## the twins reckoned: cells looked at, frozen, handed on -/
section
variable {r : Rs} {m : Ms} {Q : PyData × Ms → Prop} {S : Out → Prop} {f f0 : Ev} {fs : Eas} {i n a : Nat} {ds : List PyData} {d : PyData} {s : Es}
theorem w_callT {u : PyData → List PyData → Option (PyData × PyData)} (h : W (f0 r m) fun p => W (fs r p.2) fun q => q.1.length = n ∧ W (u p.1 q.1) fun z => Q (z.1, q.2)) : W (eCallT n f0 u fs r m) Q :=
  W.bind (W.mono h fun _ h => W.bind (W.mono h fun _ h => W.map (w_arN h.1 h.2)))
theorem w_lenO (e : r[i]? = some (.ow a)) (e0 : cellAt m a = some (.list ds)) (h : Q (.int ds.length, m)) : W (eLenO i r m) Q := by
  unfold eLenO
  rw [e]
  exact W.bind (W.of rfl (W.bind (W.of e0 (.mk h))))
theorem w_seqO {mk : List PyData → PyData} (e : r[i]? = some (.ow a)) (e0 : cellAt m a = some (.list ds)) (h : Q (mk ds, m)) : W (eSeqO i mk r m) Q := by
  unfold eSeqO
  rw [e]
  exact W.bind (W.of rfl (W.bind (W.of e0 (.mk h))))
theorem w_cmpO {od : PyData → PyData → Option PyData} (e : r[i]? = some (.ow a)) (h : W (f r m) fun p => ∃ c, cellAt p.2 a = some c ∧ W (od c p.1) fun d => Q (d, p.2)) : W (eCmpO i od f r m) Q := by
  unfold eCmpO
  rw [e]
  exact W.bind (W.of rfl (W.bind (W.mono h fun p ⟨c, e1, h⟩ => W.bind (W.of e1 (W.map h)))))
theorem w_inO {od : PyData → PyData → Option PyData} (e : r[i]? = some (.ow a)) (h : W (f r m) fun p => ∃ c, cellAt p.2 a = some c ∧ W (od p.1 c) fun d => Q (d, p.2)) : W (eInO i od f r m) Q := by
  unfold eInO
  rw [e]
  exact W.bind (W.of rfl (W.bind (W.mono h fun p ⟨c, e1, h⟩ => W.bind (W.of e1 (W.map h)))))
theorem w_inL (h1 : SeqAt.shaped d = true) (h2 : SeqAt.shaped (.list ds) = true) {R : PyData → Prop} (h : R (.bool (ds.any fun z => PyData.eqv z d))) : W (inL d (.list ds)) R := W.guard ⟨h1, h2⟩ (.mk h)
theorem w_notInL (h1 : SeqAt.shaped d = true) (h2 : SeqAt.shaped (.list ds) = true) {R : PyData → Prop} (h : R (.bool (!ds.any fun z => PyData.eqv z d))) : W (notInL d (.list ds)) R := W.guard ⟨h1, h2⟩ (.mk h)
theorem w_frz (e : r[i]? = some (.ow a)) (e0 : cellAt m a = some d) (h : W (s (frzR a d r) (m.set a none)) S) : W (sFrz i s r m) S := by
  unfold sFrz
  rw [e]
  exact W.bind (W.of rfl (W.bind (W.of e0 h)))
theorem w_retC {n0 : Nat} (e : r[i]? = some (.ow a)) (ha : n0 ≤ a) (e0 : cellAt m a = some d) (h : S (.rn d m)) : W (sRetC n0 i r m) S := by
  unfold sRetC
  rw [e]
  exact W.bind (W.of rfl (W.guard ha (W.map (W.of e0 h))))
theorem w_lcO {own : List Nat} {h : Eh} {t : Et} (e : r[i]? = some (.ow a)) (e0 : cellAt m a = some (.list ds)) (k : ∃ res m', lcLoop h t f (wipeR r own) ds (m.set a none) [] = some (res, m') ∧ Q (.list res, m'.set a (some (.list ds)))) : W (eLcO i own h t f r m) Q := by
  obtain ⟨res, m', e1, h⟩ := k
  unfold eLcO
  rw [e]
  exact W.bind (W.of rfl (W.bind (W.of e0 (W.map (W.of e1 h)))))
theorem w_catL {es : List PyData} {R : PyData → Prop} (hz : ds.length + es.length ≤ sizeLine) (h : R (.list (ds ++ es))) : W (catL (.list ds) (.list es)) R := W.guard hz (.mk h)
theorem w_rg3 {QL : List PyData × Ms → Prop} (h : W (fs r m) fun p => ∃ i j, p.1 = [.int i, .int j, .int (-1)] ∧ (-(2 ^ 62) ≤ i ∧ i < 2 ^ 62 ∧ -(2 ^ 62) ≤ j ∧ j < 2 ^ 62) ∧ QL (rangeC i (-1) (i - j).toNat, p.2)) : W (eRg3 fs r m) QL := W.bind (W.mono h fun ⟨l, m1⟩ ⟨i, j, e, h1, h2⟩ => by
  simp only at e
  subst e
  exact W.guard ⟨rfl, h1⟩ (.mk h2))
theorem w_repr {R : PyData → Prop} (hd : (∃ l, d = .list l) ∨ ∃ l, d = .tuple l) (h1 : d.showable = true) (h2 : d.hasDict = false) (h3 : SeqAt.shaped d = true) (h4 : d.shown.length ≤ sizeLine) (h : R (.str d.shown)) : W (reprD [d]) R := by
  rcases hd with ⟨l, rfl⟩ | ⟨l, rfl⟩
  · exact W.guard ⟨h1, h2, h3, h4⟩ (.mk h)
  · exact W.guard ⟨h1, h2, h3, h4⟩ (.mk h)
end
end TL

end
/-! TL22 -/
section
set_option maxHeartbeats 4000000
namespace TL
open PySem PySem.Spec PyProof.Rows L2
section
variable {X : Cx} {U : Hp} {fa : Addr} {fd : FuncData} {ps ks : List Str} {k j n : Nat} {sp : Sp} {x : Str} {p pos : Pos} {e : Expr} {es : List Expr} {kws : List Keyword} {t tk : TA} {dvs : List V} {ds : List Value} {f : Eas}
/-- a call that leaves out the last parameters, which have defaults -/
theorem pe_callDG (F : FnG X.prog X.w X.K X.mg X.base k fa fd ps sp) (room : Room k X.A) (gd : X.A.guards = some []) (hg : Gl X x) (hm : X.mg x = some (.ref fa)) (kp : PySem.W.keepIn X.K (.ref fa) = true) (hb : Binds X.K fd ps ds) (hd : Vals dvs ds) (ha : PA X (e :: es) t)
    (hdb : (x == ("__debug__" : Str)) = false := by decide) (he : starEach (e :: es) X.env = (false, eval e X.env) :: starEach es X.env := by rfl) (hpl : (backTo pos (starEach es X.env)).any (·.1) = false := by rfl) :
    PE X (.Call (.Name x p) (e :: es) [] pos) (tCall sp dvs E0 t) := by
  refine ⟨fun pins s σ H Q I h => ?_⟩
  apply wpAny_Call_Name_kw (ld_glob I hg hm ?_ hdb)
  apply PySem.W.callWith_K (h₀ := X.base) I.ok.mod.kin kp (thn (ha.run pos pins s σ H _ I h) fun us s1 ⟨vs, H1, I1, r, q⟩ => ⟨I1.kIn, ?_⟩) he hpl
  have q' : sp (vs ++ dvs) H1 Q E0 := q
  have rel := r.append hd
  have hl : (us ++ ds).length = ps.length := by
    rw [← rel.length]
    exact F.len _ _ _ _ q'
  apply wpAny_call
  refine codeAny_mono (F.run X.A X.stack s1 H1 ⟨us, []⟩ (us ++ ds) (vs ++ dvs) Q E0 room gd I1.env0 (hb s1 us I1.kIn hl) rel q') fun res s' done => ?_
  cases res with
  | error err => exact pass0 pins σ H1 s1 err s' I1 done
  | ok flow =>
    cases flow with
    | ret u => exact I1.after done
    | next => exact done.elim
    | brk => exact done.elim
    | cont => exact done.elim
/-- a call with keywords -/
theorem pe_callKG {g : List Value → List Value → List Value} {gV : List V → List V → List V} (F : FnG X.prog X.w X.K X.mg X.base k fa fd ps sp) (room : Room k X.A) (gd : X.A.guards = some []) (hg : Gl X x) (hm : X.mg x = some (.ref fa)) (kp : PySem.W.keepIn X.K (.ref fa) = true)
    (hb : KBn X.K fd ps n ks g gV) (ha : PA X (e :: es) t) (hkw : PK X kws tk) (hall : (backToKw pos (keywordEach kws X.env)).all (·.1.isSome) = true := by rfl) (hks : (backToKw pos (keywordEach kws X.env)).filterMap (·.1) = ks := by rfl)
    (hdb : (x == ("__debug__" : Str)) = false := by decide) (he : starEach (e :: es) X.env = (false, eval e X.env) :: starEach es X.env := by rfl)
    (hpl : ((backTo pos (starEach (e :: es) X.env)).any (·.1) || (backToKw pos (keywordEach kws X.env)).any (·.1.isNone)) = false := by rfl) :
    PE X (.Call (.Name x p) (e :: es) kws pos) (tCallN n ks.length sp gV E0 t tk) := by
  refine ⟨fun pins s σ H Q I h => ?_⟩
  apply wpAny_Call_Name_kw (ld_glob I hg hm ?_ hdb)
  apply PySem.W.callWith_KW (h₀ := X.base) I.ok.mod.kin kp hall (thn (ha.run pos pins s σ H _ I h) fun us s1 ⟨vs, H1, I1, r, q⟩ => ?_) hpl he
  apply thn (hkw.run pos pins s1 σ H1 _ I1 q)
  rintro ws s2 ⟨zs, H2, I2, rz, l1, l2, q2⟩
  refine ⟨I2.kIn, ?_⟩
  rw [hks]
  apply wpAny_call
  refine codeAny_mono (F.run X.A X.stack s2 H2 ⟨us, ks.zip ws⟩ (g us ws) (gV vs zs) Q E0 room gd I2.env0 (hb.to s2 us ws I2.kIn (r.length.symm.trans l1) (rz.length.symm.trans l2)) (hb.rel r rz) q2) fun res s' done => ?_
  cases res with
  | error err => exact pass0 pins σ H2 s2 err s' I2 done
  | ok flow =>
    cases flow with
    | ret u => exact I2.after done
    | next => exact done.elim
    | brk => exact done.elim
    | cont => exact done.elim
end
/-- a def known with defaults: dd, as data, behind what is handed in -/
structure CalD (P : Program) (w : World) (K : PySem.W.Frag) (mg : Str → Option Value) (base : Heap) (x : Str) (k : Nat) (ps : List Str) (dd : List PyData) (sp : Sp) : Prop where
  ex : ∃ (f : Addr) (fd : FuncData) (dvs : List V) (ds : List Value), FnG P w K mg base k f fd ps sp ∧ mg x = some (.ref f) ∧ PySem.W.keepIn K (.ref f) = true ∧ Binds K fd ps ds ∧ Vals dvs ds ∧ ∀ F, RpAll K F dvs dd
section
variable {X : Cx} {U : Hp} {x : Str} {p pos : Pos} {e : Expr} {es : List Expr} {f : Eas} {j k n : Nat} {ps : List Str} {dd : List PyData}
theorem qc_callDG {g : List PyData → Option PyData} (C : CalD X.prog X.w X.K X.mg X.base x k ps dd (spD X.K n g)) (hr : Room j X.A) (gd : X.A.guards = some []) (hjk : k ≤ j) (ha : PA X (e :: es) (tAs X.K U f)) (hg : Gl X x := by rfl) (hdb : (x == ("__debug__" : Str)) = false := by decide)
    (he : starEach (e :: es) X.env = (false, eval e X.env) :: starEach es X.env := by rfl) (hpl : (backTo pos (starEach es X.env)).any (·.1) = false := by rfl) :
    PE X (.Call (.Name x p) (e :: es) [] pos) (tE X.K U (eMap f fun l => arN n g (l ++ dd))) := by
  obtain ⟨fa, fd, dvs, ds0, Fn, h2, h3, h4, h5, h6⟩ := C.ex
  refine pe_weak (pe_callDG Fn (hr.mono hjk) gd hg h2 h3 h4 h5 ha hdb he hpl) fun σ H Q ⟨A, F, r, m, d, m', G, e, k⟩ => ?_
  obtain ⟨ds, e1, e2⟩ := map_some e
  refine ⟨A, F, r, m, ds, m', G, e1, fun F1 H1 vs s1 G1 h1 => ?_⟩
  show spD X.K n g (vs ++ dvs) H1 Q E0
  obtain ⟨l2, e3⟩ := arN_some e2
  have all := rpa_app h1 (h6 F1)
  exact ⟨F1, ds ++ dd, d, G1.sub, (rpa_len all).trans l2, all, e3, fun F2 H2 v s2 s3 kk h2 => k F2 H2 v (s1.trans s2) (G1.past s2 s3 kk) h2⟩
end
/-! ### keywords -/
structure CalK (P : Program) (w : World) (K : PySem.W.Frag) (mg : Str → Option Value) (base : Heap) (x : Str) (k : Nat) (ps : List Str) (n : Nat) (ks : List Str) (sp : Sp) : Prop where
  ex : ∃ (f : Addr) (fd : FuncData) (g : List Value → List Value → List Value) (gV : List V → List V → List V), FnG P w K mg base k f fd ps sp ∧ mg x = some (.ref f) ∧ PySem.W.keepIn K (.ref f) = true ∧ KBn K fd ps n ks g gV ∧ ∀ vs zs, gV vs zs = vs ++ zs
def eKw (c n : Nat) (g : List PyData → Option PyData) (f fk : Eas) : Ev := fun r m => (f r m).bind fun p => (fk r p.2).bind fun q => if p.1.length = c then (arN n g (p.1 ++ q.1)).map fun d => (d, q.2) else none
section
variable {X : Cx} {U : Hp} {x : Str} {p pos kpos : Pos} {e : Expr} {es : List Expr} {kws : List Keyword} {nm : Option Str} {f fk : Eas} {fe : Ev} {c j k n : Nat} {ps ks : List Str}
theorem pk_weak {t t' : TA} (h : PK X kws t) (w : ∀ σ H Q, t' σ H Q → t σ H Q) : PK X kws t' := ⟨fun pos pins s σ H Q I q => h.run pos pins s σ H Q I (w σ H Q q)⟩
theorem qk_nil : PK X [] (tAs X.K U eNil) := pk_weak pk_nil fun σ H Q ⟨A, F, r, m, ds, m', G, e, k⟩ => by
  cases e
  exact k F H [] (Same.refl F) G .nil
theorem qk_cons (ha : PE X e (tE X.K U fe)) (hr : PK X kws (tAs X.K U fk)) : PK X (⟨nm, e, kpos⟩ :: kws) (tAs X.K U (eCons fe fk)) := pk_weak (pk_cons ha hr) fun σ H Q ⟨A, F, r, m, ds, m', G, e, k⟩ => by
  obtain ⟨d1, m1, es, e1, e2, e3⟩ := cons_some e
  subst e3
  exact ⟨A, F, r, m, d1, m1, G, e1, fun F1 H1 x s1 G1 h1 => ⟨A, F1, r, m1, es, m', G1, e2, fun F2 H2 xs s2 G2 h2 => k F2 H2 (x :: xs) (s1.trans s2) G2 (.cons (Rpm s2 h1) h2)⟩⟩
theorem qc_callKG {g : List PyData → Option PyData} (C : CalK X.prog X.w X.K X.mg X.base x k ps c ks (spD X.K n g)) (hr : Room j X.A) (gd : X.A.guards = some []) (hjk : k ≤ j) (ha : PA X (e :: es) (tAs X.K U f)) (hkw : PK X kws (tAs X.K U fk)) (hcn : n = c + ks.length) (hg : Gl X x := by rfl)
    (hall : (backToKw pos (keywordEach kws X.env)).all (·.1.isSome) = true := by rfl) (hks : (backToKw pos (keywordEach kws X.env)).filterMap (·.1) = ks := by rfl) (hdb : (x == ("__debug__" : Str)) = false := by decide)
    (he : starEach (e :: es) X.env = (false, eval e X.env) :: starEach es X.env := by rfl) (hpl : ((backTo pos (starEach (e :: es) X.env)).any (·.1) || (backToKw pos (keywordEach kws X.env)).any (·.1.isNone)) = false := by rfl) :
    PE X (.Call (.Name x p) (e :: es) kws pos) (tE X.K U (eKw c n g f fk)) := by
  obtain ⟨fa, fd, gg, gV, Fn, h2, h3, h4, h5⟩ := C.ex
  refine pe_weak (pe_callKG Fn (hr.mono hjk) gd hg h2 h3 h4 ha hkw hall hks hdb he hpl) fun σ H Q ⟨A, F, r, m, d, m', G, e, k⟩ => ?_
  unfold eKw at e
  cases e1 : f r m with
  | none => rw [e1] at e; cases e
  | some z1 =>
    obtain ⟨ds, m1⟩ := z1
    cases e2 : fk r m1 with
    | none => simp [e1, e2] at e
    | some z2 =>
      obtain ⟨zs, m2⟩ := z2
      simp only [e1, e2, Option.bind_some] at e
      split at e
      · rename_i hc
        cases e3 : arN n g (ds ++ zs) with
        | none => rw [e3] at e; cases e
        | some d3 =>
          rw [e3] at e
          cases e
          refine ⟨A, F, r, m, ds, m1, G, e1, fun F1 H1 vs s1 G1 h1 => ⟨A, F1, r, m1, zs, m', G1, e2, fun F2 H2 ws s2 G2 h6 => ?_⟩⟩
          obtain ⟨l2, e4⟩ := arN_some e3
          rw [List.length_append] at l2
          have all := rpa_app (Rpam s2 h1) h6
          refine ⟨(rpa_len h1).trans hc, by rw [rpa_len h6]; omega, ?_⟩
          rw [h5]
          exact ⟨F2, ds ++ zs, _, G2.sub, by rw [rpa_len all, List.length_append]; exact l2, all, e4, fun F3 H3 v s3 s4 kk h7 => k F3 H3 v (s1.trans (s2.trans s3)) (G2.past s3 s4 kk) h7⟩
      · cases e
end
end TL

end
/-! TL23 -/
section
set_option maxHeartbeats 4000000
/-! enumerate over a tuple -/
namespace PySem

abbrev enumAt (it : Addr) : Obj := { cls := .type "enumerate", data := .fields #[.none, .bool false, .ref it, rawInt 0, .none, .none] }
theorem tl_enum1 {x : Value} {ob : Obj} {St : Heap → Prop} (B : Begins x ob St) :
    Meets (Builtin.«enumerate.__new__» ⟨[.type "enumerate", x], []⟩) (fun _ R s => St s.heap ∧ R (.ok (.ret (.ref (s.heap.push ob).objs.size))) { s with heap := (s.heap.push ob).push (enumAt s.heap.objs.size) }) :=
  .of_wp fun prog w A R s h => by
    obtain ⟨hp, g, d, tk, os⟩ := s
    obtain ⟨st, h⟩ := h
    have subs := sub_enumerate
    have it1 : ∀ {A' : Around} {E : Value → Shared → Prop} {Q : Value → Shared → Prop}, Q (.ref hp.objs.size) ⟨hp.push ob, g, d, tk, os⟩ → wpAny (model prog w) A' (pyIter x) Q E ⟨hp, g, d, tk, os⟩ := fun q => B.iter prog w _ _ ⟨hp, g, d, tk, os⟩ _ st q
    wp_walk using it1
    refine wpAny_stack_any fun st => wpAny_pure ?_
    split
    · rename_i c _ _ _ _ _
      cases (c == Value.type "enumerate")
      · wp_walk using it1
        exact ⟨_, rfl, h⟩
      · wp_walk using it1
        exact ⟨_, rfl, h⟩
    · wp_walk using it1
      exact ⟨_, rfl, h⟩
theorem tl_call_enum {prog : Program} {w : World} {A : Around} {E : Value → Shared → Prop} {s : Shared} {x : Value} {ob : Obj} {St : Heap → Prop} {Q : Value → Shared → Prop} (B : Begins x ob St) (st : St s.heap)
    (k : ∀ hp, IsEnum hp (s.heap.objs.size + 1) s.heap.objs.size 0 .none → hp.get? s.heap.objs.size = some ob → (∀ b o, s.heap.get? b = some o → hp.get? b = some o) → Q (.ref (s.heap.objs.size + 1)) { s with heap := hp }) :
    wpAny (model prog w) A (call (.type "enumerate") [x]) Q E s := by
  refine callType_new F.called_enumerate (by decide) (F.typeCall_enumerate_1 _) (F.newCall_enumerate_1 _) (fun obj => F.args_object_init_2 obj _) F.entry_enumerate_new (tl_enum1 B) ⟨st, ?_⟩
  have hz : (s.heap.push ob).objs.size = s.heap.objs.size + 1 := Heap.size_push ..
  show _ ∧ _
  rw [hz]
  have he : IsEnum ((s.heap.push ob).push (enumAt s.heap.objs.size)) (s.heap.objs.size + 1) s.heap.objs.size 0 .none := by
    have := Heap.get?_push_size (s.heap.push ob) (o := enumAt s.heap.objs.size) rfl
    rw [hz] at this
    exact this
  exact ⟨⟨_, he, rfl⟩, k _ he (Heap.get?_push_of_some _ (Heap.get?_push_size _ B.free)) fun b o x => Heap.get?_push_of_some _ (Heap.get?_push_of_some _ x)⟩
end PySem
namespace TL
open PySem PySem.Spec PyProof.Rows L2
/-- the tuple at a, each item in a new pair -/
def Itf (K : PySem.W.Frag) (a : Addr) : It :=
  ⟨fun i H => ∃ (xs : List V) (x : V), SqT K H a xs ∧ xs[i]? = some x, fun i H v H' => ∃ T x, v = .ref T ∧ H T = none ∧ H' = upd H T (.tup [.int (i : Nat), x]) ∧ ∀ xs, SqT K H a xs → xs[i]? = some x, fun i H => ∃ xs : List V, SqT K H a xs ∧ xs.length ≤ i⟩
theorem draws_tup {prog : Program} {w : World} {A : Around} (hh : A.handled = none) {it t : Addr} (ne : t ≠ it) (items : Array Value) : Draws prog w A.in1 it [it, t] items.size (fun i v => items[i]? = some v) (fun i h => h.IsTupleIter it t i ∧ h.IsTuple t items) :=
  Draws.tuple (by first | exact hh | (show A.in1.handled = none; exact hh)) it t ne items
theorem turn_enumT {P : Program} {w : World} {K : PySem.W.Frag} {elts : List Expr} {kk : Nat} {tpos : Pos} (a e it : Addr) :
    L2.Turn P w K (.Tuple elts kk tpos) (Itf K a) [e, it] e (fun i h => (∃ old, IsEnum h e it ((i : Nat) : Int) old) ∧ h.IsTupleIter it a i ∧ e ≠ it ∧ a ≠ it ∧ a ≠ e) where
  mem := by simp
  obj := fun i h st b hb => by
    obtain ⟨⟨old, he⟩, ⟨o, ho, hc, hd⟩, _⟩ := st
    have e' : b = e ∨ b = it := by simpa using hb
    rcases e' with z | z
    · rw [z]; exact ⟨_, he, fun v q => nomatch q⟩
    · rw [z]; exact ⟨o, ho, fun v q => by rw [hd] at q; cases q⟩
  keep := fun i h h' st k => let ⟨⟨old, he⟩, hi, hne⟩ := st; ⟨⟨old, k e (by simp) _ he⟩, hi.at fun o q => k it (by simp) o q, hne⟩
  item := by
    intro X hP hw hK hc i pins s σ H E I hf st hg
    subst hP hw hK
    obtain ⟨⟨old, he⟩, hit, hne, hai, hae⟩ := st
    obtain ⟨xs, x, hq, hx⟩ := hg
    obtain ⟨its, rv, p, hz⟩ := I.tuple hq
    obtain ⟨u, hu, ru⟩ := rv.get hx
    have p : s.heap.IsTuple a its.toArray := p
    have hel : e < s.heap.objs.size := Heap.lt_size he
    have hil : it < s.heap.objs.size := by obtain ⟨_, q, _⟩ := hit; exact Heap.lt_size q
    have hlt : i < its.toArray.size := by
      have := (List.getElem?_eq_some_iff.mp hu).1
      simpa using this
    refine wpAny_pyNext_enum_itemD (draws_tup (I.ok.hd hc) hai its.toArray) he ⟨hit, p⟩ hlt hne (fun z => ?_) fun y h' tk hy ho hs' hT hsz hk => ?_
    · have z' : e = it ∨ e = a := by simpa using z
      rcases z' with z' | z'
      · exact hne z'
      · exact hae z'.symm
    have ey : y = u := by
      have q : its[i]? = some y := by simpa using hy
      rw [hu] at q
      exact (Option.some.inj q).symm
    subst ey
    refine ⟨_, rfl, wpAny_letOwnedTupleGo_enum (s := { s with heap := h', toks := tk + 1 }) ho fun h'' he' sb => ?_⟩
    have hT2 : h''.get? s.heap.objs.size = some { cls := .type "tuple", data := .seq #[.int i tk, y] } := (sb.2 _ (Nat.ne_of_gt hel)).trans hT
    have new : ObjOk X.prog X.w (upd H s.heap.objs.size (.tup [.int (i : Nat), x])) h'' s.heap.objs.size (.tup [.int (i : Nat), x]) :=
      ⟨by show 2 ≤ sizeLine; decide, [.int i tk, y], .cons ⟨_, rfl⟩ (.cons ru .nil), ⟨_, hT2, rfl, _, rfl⟩⟩
    have I1 : Inv X pins σ (upd H s.heap.objs.size (.tup [.int (i : Nat), x])) { s with heap := h'', toks := tk + 1 } :=
      I.turnedNew (ch := [e, it]) (fun b ob hb q => (sb.2 b (fun z => hb (by simp [z]))).trans (hk b ob (fun z => hb (by simp [z])) (fun z => hb (by simp [z])) q)) hf (Nat.le_refl _) new
    refine ⟨.ref s.heap.objs.size, _, I1, rfl, ⟨_, x, rfl, I.hok.fresh (Nat.le_refl _), rfl, fun ys hy => by rw [I.tuple_inj hy hq]; exact hx⟩, ⟨⟨y, ?_⟩, hs'.1.at fun o q => (sb.2 it (Ne.symm hne)).trans q, hne, hai, hae⟩, fun b hb => ?_⟩
    · have e1 : ((i + 1 : Nat) : Int) = (i : Int) + 1 := by omega
      rw [e1]; exact he'
    · have hb' : b < s.heap.objs.size := by
        have e' : b = e ∨ b = it := by simpa using hb
        rcases e' with z | z
        · rw [z]; exact hel
        · rw [z]; exact hil
      rw [upd_ne (Nat.ne_of_lt hb')]
      exact (hf b hb).1
  done := by
    intro X hP hw hK hc i pins s σ H E I hf st hg
    subst hP hw hK
    obtain ⟨⟨old, he⟩, hit, hne, hai, hae⟩ := st
    obtain ⟨xs, hq, hx⟩ := hg
    obtain ⟨its, rv, p, hz⟩ := I.tuple hq
    have p : s.heap.IsTuple a its.toArray := p
    obtain ⟨f0, f1, f2, f3, f4, f5⟩ := hf it (by simp)
    have hl := rv.length
    have hh : X.A.in1.handled = none := by first | exact I.ok.hd hc | (show X.A.handled = none; exact I.ok.hd hc)
    have D : Draws X.prog X.w X.A.in1 it [it, a] 0 (fun _ _ => False) (fun _ h => h.IsTupleIter it a i ∧ h.IsTuple a its.toArray) :=
      { live := fun _ _ st => let ⟨o, ho, _⟩ := st.1; ⟨o, ho⟩
        frame := fun _ _ _ st k => ⟨st.1.at fun o q => k it (by simp) o q, st.2.at fun o q => k a (by simp) o q⟩
        item := fun j s Q E hj => absurd hj (Nat.not_lt_zero j)
        done := fun s Q E st hE => wpAny_nextOf_tuple_end hh st.1 st.2 (by simp; omega) hE }
    exact wpAny_pyNext_enum_endD D he ⟨hit, p⟩ fun h' eb => ⟨rfl, I.turned (t' := s.toks) (fun b o hb q => eb b o hb q) f0 f1 f3 f4 f5⟩
  self := fun A i s Q E st h => let ⟨⟨_, he⟩, _⟩ := st; wpAny_pyIter_enum he h
def iEnumT (K : PySem.W.Frag) (ta : TA) : TI := fun σ H R => ta σ H fun vs H1 => ∃ a xs, vs = [.ref a] ∧ SqT K H1 a xs ∧ R (Itf K a) H1
theorem pi_enumT {X : Cx} {e : Expr} {ta : TA} {p pos tpos : Pos} {elts : List Expr} {kk : Nat} (hg : Gl X "enumerate") (hm : X.mg "enumerate" = none) (ha : PA X [e] ta) (hs : starEach [e] X.env = [(false, eval e X.env)] := by rfl) :
    PI X (.Tuple elts kk tpos) (.Call (.Name "enumerate" p) [e] [] pos) (iEnumT X.K ta) := by
  refine ⟨fun pins s σ H R I h => ?_⟩
  refine Call_ (ld_blt I hg hm boot_enumerate (PyProof.Rows.callWith_type1 (thn (ha.run pos pins s σ H _ I h) fun us s1 ⟨vs, H1, I1, r1, q1⟩ => ?_) hs rfl))
  obtain ⟨a, xs, ex, hq, q⟩ := q1
  subst ex
  cases r1 with
  | cons r rr =>
    cases rr
    cases r
    obtain ⟨its, rv, p', hz⟩ := I1.tuple hq
    have p' : s1.heap.IsTuple a its.toArray := p'
    have al : a < s1.heap.objs.size := by obtain ⟨o, q, _⟩ := p'; exact Heap.lt_size q
    refine tl_call_enum (begins_tuple a its.toArray) p' fun h' he hit hk => wpAny_pyIter_enum he ?_
    have I2 : Inv X pins σ H1 { s1 with heap := h' } := I1.kept (t' := s1.toks) hk
    refine ⟨s1.heap.objs.size + 1, [s1.heap.objs.size + 1, s1.heap.objs.size], _, _, H1, rfl, I2, turn_enumT a (s1.heap.objs.size + 1) s1.heap.objs.size, ⟨⟨.none, he⟩, ⟨_, hit, rfl, rfl⟩, Nat.succ_ne_self _, Nat.ne_of_lt al, Nat.ne_of_lt (Nat.lt_succ_of_lt al)⟩, fun b hb => ?_, q⟩
    have e' : b = s1.heap.objs.size + 1 ∨ b = s1.heap.objs.size := by simpa using hb
    have hle : s1.heap.objs.size ≤ b := by
      rcases e' with z | z
      · rw [z]; exact Nat.le_add_right _ _
      · rw [z]; exact Nat.le_refl _
    exact I1.fpOk hle (I1.hok.fresh hle)
theorem wk_enumT {K : PySem.W.Frag} {Z F : Hp} {a : Addr} {xs : List V} {ds : List PyData} (hs : SqT K F a xs) (hr : RpAll K F xs ds) : Wk K Z (Itf K a) F (enumD ds) where
  go := fun U A σ r m F1 H1 i d _ s1 G1 e => by
    unfold enumD at e
    rw [List.getElem?_map, List.getElem?_zipIdx] at e
    cases e1 : ds[i]? with
    | none => rw [e1] at e; cases e
    | some d1 =>
      rw [e1] at e
      simp only [Option.map_some, Nat.zero_add, Option.some.injEq] at e
      subst e
      obtain ⟨v, h1, h2⟩ := rpa_get hr e1
      have hq : SqT K H1 a xs := (seqT_mono (s1.trans G1.sub) hs)
      refine ⟨⟨xs, v, hq, h1⟩, fun x H2 hy => ?_⟩
      obtain ⟨T, y, e2, nT, e3, hy⟩ := hy
      have := hy xs hq
      rw [h1] at this
      cases this
      subst e2 e3
      have sF : Same F1 (upd F1 T (.tup [.int (i : Nat), v])) := same_new (G1.nope nT).1
      exact ⟨_, sF, G1.laid nT, .vt (.inl (.inl upd_same)) (.cons (.vi _) (.cons (Rpm (s1.trans sF) h2) .nil))⟩
  stop := fun F1 H1 _ s1 s2 => ⟨xs, (seqT_mono (s1.trans s2) hs), by
    unfold enumD
    rw [List.length_map, List.length_zipIdx, rpa_len hr]
    exact Nat.le_refl _⟩
/-- an iterator over what is frozen -/
def tIf (K : PySem.W.Frag) (U : Hp) (f : Eas) : TI := fun σ H R => ∃ (A : List Addr) (F : Hp) (r : Rs) (m : Ms) (ds : List PyData) (m' : Ms), Good K U A F H σ r m ∧ f r m = some (ds, m') ∧
  ∀ (F' H' : Hp) (J : It), Same F F' → Good K U A F' H' σ r m' → (∀ Z, Wk K Z J F' ds) → R J H'
theorem pi_weak {X : Cx} {tg e : Expr} {t t' : TI} (h : PI X tg e t) (w : ∀ σ H R, t' σ H R → t σ H R) : PI X tg e t' := ⟨fun pins s σ H R I q => h.run pins s σ H R I (w σ H R q)⟩
theorem qi_f {X : Cx} {U : Hp} {tg e : Expr} {f : Eas} (h : PI X tg e (tIf X.K U f)) : PI X tg e (tIt X.K U f) := pi_weak h fun σ H R ⟨A, F, r, m, ds, m', G, e, k⟩ => ⟨A, F, r, m, ds, m', G, e, fun F' H' J s G' W => k F' H' J s G' (W U)⟩
def enumA : PyData → Option (List PyData)
  | .list ds => some (enumD ds)
  | .tuple ds => some (enumD ds)
  | _ => none
def eEnumA (f : Ev) : Eas := fun r m => (f r m).bind fun p => (enumA p.1).map fun ds => (ds, p.2)
theorem qi_enumA {X : Cx} {U : Hp} {e : Expr} {f : Ev} {p pos tpos : Pos} {elts : List Expr} {kk : Nat} (hg : Gl X "enumerate") (hm : X.mg "enumerate" = none) (ha : PE X e (tE X.K U f)) (hs : starEach [e] X.env = [(false, eval e X.env)] := by rfl) (hs' : starEach [e] X.env = (false, eval e X.env) :: starEach [] X.env := by rfl) :
    PI X (.Tuple elts kk tpos) (.Call (.Name "enumerate" p) [e] [] pos) (tIf X.K U (eEnumA f)) := by
  refine ⟨fun pins s σ H R I ⟨A, F, r, m, ds, m', G, e0, k⟩ => ?_⟩
  unfold eEnumA at e0
  cases e1 : f r m with
  | none => rw [e1] at e0; cases e0
  | some q =>
    obtain ⟨d, m1⟩ := q
    rw [e1] at e0
    simp only [Option.bind_some] at e0
    cases d with
    | list l =>
      cases e0
      refine (pi_enum hg hm (pa_cons ha pa_nil hs') hs).run pins s σ H R I ⟨A, F, r, m, _, m', G, e1, fun F1 H1 v s1 G1 h1 => ?_⟩
      cases h1 with
      | vl sa ra => exact ⟨_, _, rfl, (sqL_mono G1.sub sa), k F1 H1 _ s1 G1 fun Z => wk_enum sa ra⟩
    | tuple l =>
      cases e0
      refine (pi_enumT hg hm (pa_cons ha pa_nil hs') hs).run pins s σ H R I ⟨A, F, r, m, _, m', G, e1, fun F1 H1 v s1 G1 h1 => ?_⟩
      cases h1 with
      | vt sa ra => exact ⟨_, _, rfl, (seqT_mono G1.sub sa), k F1 H1 _ s1 G1 fun Z => wk_enumT sa ra⟩
    | _ => cases e0
end TL

end
/-! TL24 -/
section
set_option maxHeartbeats 4000000
namespace TL
open PySem PySem.Spec PyProof.Rows L2
/-! ## comprehensions of two fors -/
def lcLoop2 (h : Eh) (t : Et) (fi : Eas) (own1 : List Nat) (h1 : Eh) (t1 : Et) (f : Ev) (r : Rs) : List PyData → Ms → List PyData → Option (List PyData × Ms)
  | [], m, acc => some (acc, m)
  | d :: ds, m, acc => (h d r).bind fun r2 => (t r2 m).bind fun b => if b.1 = true then (fi r2 b.2).bind fun p => (lcLoop h1 t1 f (wipeR r2 own1) p.1 p.2 acc).bind fun q => lcLoop2 h t fi own1 h1 t1 f r ds q.2 q.1 else lcLoop2 h t fi own1 h1 t1 f r ds b.2 acc
def eLc2 (fi : Eas) (own : List Nat) (h : Eh) (t : Et) (fi1 : Eas) (own1 : List Nat) (h1 : Eh) (t1 : Et) (f : Ev) : Ev := fun r m => (fi r m).bind fun p => (lcLoop2 h t fi1 own1 h1 t1 f (wipeR r own) p.1 p.2 []).map fun q => (.list q.1, q.2)
def tIX (K : PySem.W.Frag) (f : Eas) : TI := fun σ H R => ∃ U, tIf K U f σ H R
theorem pi_all {X : Cx} {tg e : Expr} {f : Eas} (k : ∀ U, PI X tg e (tIf X.K U f)) : PI X tg e (tIX X.K f) := ⟨fun pins s σ H R I ⟨U, q⟩ => (k U).run pins s σ H R I q⟩
/-- D, held, kept apart from the rest -/
theorem Good.grown {K : PySem.W.Frag} {U : Hp} {A : List Addr} {F H : Hp} {σ : L2.St} {r : Rs} {m : Ms} {D : Addr} {o : HO} (G : Good K U A F H σ r m) (hF : F D = none) (hU : U D = none) (hA : D ∉ A) : Good K U A F (upd H D o) σ r m := by
  refine ⟨fun b o q => ?_, fun b o q => ?_, G.len, G.fz, G.ow, G.al, fun kk a es q1 q2 => ?_, G.nd, fun a qa => ?_⟩
  · have hb : b ≠ D := fun z => by rw [z, hF] at q; cases q
    rw [upd_ne hb]
    exact G.sub b o q
  · have hb : b ≠ D := fun z => by rw [z, hU] at q; cases q
    rw [upd_ne hb]
    exact G.fo b o q
  · obtain ⟨c1, c2, us, c3, c4⟩ := G.cl kk a es q1 q2
    have ha : a ≠ D := fun z => hA (z ▸ List.mem_of_getElem? q1)
    exact ⟨c1, c2, us, by rw [upd_ne ha]; exact c3, c4⟩
  · obtain ⟨o', c1⟩ := G.he a qa
    have hne : a ≠ D := fun z => hA (z ▸ qa)
    exact ⟨o', by rw [upd_ne hne]; exact c1⟩
/-- the inner walk: D is there -/
theorem lc_part {K : PySem.W.Frag} {U : Hp} {A : List Addr} {F1 H1 : Hp} {σ : L2.St} {r : Rs} {m1 m9 : Ms} {ds acc0 res : List PyData} {vs0 : List V} {J : It} {D : Addr} {vsl : List Nat} {is : List Nat} {h : Eh} {t : Et} {f : Ev} {P : Hp → Prop} (his : ∀ j ∈ is, j ∈ vsl) (G1 : Good K U A F1 H1 σ r m1) (W1 : Wk K U J F1 ds)
    (nF : F1 D = none) (nU : U D = none) (nA : D ∉ A) (hD : H1 D = some (.lst vs0)) (hr : RpAll K F1 vs0 acc0)
    (e2 : lcLoop h t f (wipeR r vsl) ds m1 acc0 = some (res, m9))
    (k : ∀ (F' H' : Hp) (vs : List V), Same F1 F' → Good K U A F' H' σ r m9 → F' D = none → H' D = some (.lst vs) → RpAll K F' vs res → P H') :
    ∃ W : Nat → Nat → Hp → Prop, (∃ m, W 0 m H1) ∧ ∀ i m H, W i m H →
      (J.stop i H ∧ P H) ∨ (J.go i H ∧ ∃ Nx : Hp → Prop, (∀ H', Nx H' → ∃ m', m' < m ∧ W (i + 1) m' H') ∧ ∀ x H', J.yld i H x H' → (tGX K is h) x (wipe σ vsl) H' fun σ2 H2 => wipe σ2 vsl = wipe σ vsl ∧ (tTX K t) σ2 H2 fun b H3 =>
        if b = true then (tEX K f) σ2 H3 fun y H4 => ∃ acc, H4 D = some (.lst acc) ∧ acc.length < sizeLine ∧ Nx (upd H4 D (.lst (acc ++ [y]))) else Nx H3) := by
  refine ⟨fun i mm H2 => mm = ds.length - i ∧ i ≤ ds.length ∧ ∃ (F2 : Hp) (m2 : Ms) (vs : List V) (acc : List PyData), Same F1 F2 ∧ Good K U A F2 H2 σ r m2 ∧ H2 D = some (.lst vs) ∧ F2 D = none ∧ RpAll K F2 vs acc ∧
    lcLoop h t f (wipeR r vsl) (ds.drop i) m2 acc = some (res, m9), ⟨ds.length, by simp, Nat.zero_le _, F1, m1, vs0, acc0, Same.refl F1, G1, hD, nF, hr, by rw [List.drop_zero]; exact e2⟩, ?_⟩
  rintro i mm H2 ⟨rfl, hi2, F2, m2, vs, acc, hF, G2, hD2, hF2, hr2, e3⟩
  by_cases hlt : i < ds.length
  · rw [List.drop_eq_getElem_cons hlt] at e3
    unfold lcLoop at e3
    cases e4 : h ds[i] (wipeR r vsl) with
    | none => rw [e4] at e3; cases e3
    | some r3 =>
      rw [e4] at e3
      simp only [Option.bind_some] at e3
      cases e5 : t r3 m2 with
      | none => rw [e5] at e3; cases e3
      | some b5 =>
        obtain ⟨b, m5⟩ := b5
        rw [e5] at e3
        simp only [Option.bind_some] at e3
        have GW := (G2.hold hD2 hF2 nA).wiped vsl
        have sU : Same U (upd U D (.lst vs)) := same_new nU
        obtain ⟨w1, w2⟩ := W1.go _ A _ _ m2 F2 H2 i ds[i] sU hF GW (List.getElem?_eq_getElem hlt)
        have back : ∀ {F' H' : Hp} {σ' : L2.St} {r' : Rs} {m' : Ms}, Same F2 F' → Good K (upd U D (.lst vs)) A F' H' σ' r' m' → Good K U A F' H' σ r m' := fun {F' H' σ' r' m'} s G' => G2.mix G' s sU
        refine .inr ⟨w1, fun H' => ∃ (F' : Hp) (m' : Ms) (vs' : List V) (acc' : List PyData), Same F1 F' ∧ Good K U A F' H' σ r m' ∧ H' D = some (.lst vs') ∧ F' D = none ∧ RpAll K F' vs' acc' ∧
          lcLoop h t f (wipeR r vsl) (ds.drop (i + 1)) m' acc' = some (res, m9), fun H' w => ⟨ds.length - (i + 1), by omega, rfl, hlt, w⟩, fun x H3 hy => ?_⟩
        obtain ⟨F3, s3, G3, h3⟩ := w2 x H3 hy
        refine ⟨upd U D (.lst vs), A, F3, _, m2, ds[i], r3, G3, h3, e4, fun σ4 G4 k4 l4 => ⟨?_, ?_⟩⟩
        · refine (wipe_eq l4 fun j hj => k4 j fun z => hj (his j z)).trans wipe_twice
        · refine ⟨upd U D (.lst vs), A, F3, r3, m2, b, m5, G4, e5, fun F5 H5 s5 G5 => ?_⟩
          cases b with
          | false =>
            refine iteF ?_
            have fo5 := G5.fo D _ upd_same
            exact ⟨F5, m5, vs, acc, hF.trans (s3.trans s5), back (s3.trans s5) G5, fo5.1, fo5.2, Rpam (s3.trans s5) hr2, e3⟩
          | true =>
            refine iteT ?_
            rw [if_pos rfl] at e3
            cases e6 : f r3 m5 with
            | none => rw [e6] at e3; cases e3
            | some q6 =>
              obtain ⟨d6, m6⟩ := q6
              rw [e6] at e3
              simp only [Option.bind_some] at e3
              split at e3
              · rename_i hz
                refine ⟨upd U D (.lst vs), A, F5, r3, m5, d6, m6, G5, e6, fun F6 H6 y s6 G6 h6 => ?_⟩
                have fo6 := G6.fo D _ upd_same
                have s26 : Same F2 F6 := s3.trans (s5.trans s6)
                exact ⟨vs, fo6.1, by rw [rpa_len hr2]; exact hz, F6, m6, vs ++ [y], acc ++ [d6], hF.trans s26, (back s26 G6).grown fo6.2 nU nA, upd_same, fo6.2, rpa_app (Rpam s26 hr2) (.cons h6 .nil), e3⟩
              · cases e3
  · have ei : i = ds.length := by omega
    subst ei
    rw [List.drop_length] at e3
    cases e3
    exact .inl ⟨W1.stop F2 H2 (fun b o e => (G2.fo b o e).1) hF G2.sub, k F2 H2 vs hF G2 hF2 hD2 hr2⟩
section
variable {X : Cx} {U : Hp} {tg iter tg1 iter1 elt : Expr} {ifs ifs1 : List Expr} {scope : Scope} {own : List (Str × Nat)} {own1 : List Nat} {pos : Pos} {is is1 : List Nat} {fi fi1 : Eas} {h h1 : Eh} {t t1 : Et} {f : Ev}
theorem lc2_read (his : ∀ j ∈ is, j ∈ own.map (·.2)) (his1 : ∀ j ∈ is1, j ∈ own1) {σ : L2.St} {H : Hp} {Q : VK} (hq : tN X.K U (eLc2 fi (own.map (·.2)) h t fi1 own1 h1 t1 f) σ H Q) :
    tLc2 (tIt X.K U fi) (tGX X.K is h) (tTX X.K t) (tIX X.K fi1) (tGX X.K is1 h1) (tTX X.K t1) (tEX X.K f) (own.map (·.2)) own1 σ H Q := by
  obtain ⟨A, F, r, m, d, m', G, e, k⟩ := hq
  unfold eLc2 at e
  cases e1 : fi r m with
  | none => rw [e1] at e; cases e
  | some p =>
    obtain ⟨ds, m1⟩ := p
    rw [e1] at e
    simp only [Option.bind_some] at e
    cases e2 : lcLoop2 h t fi1 own1 h1 t1 f (wipeR r (own.map (·.2))) ds m1 [] with
    | none => rw [e2] at e; cases e
    | some q =>
      obtain ⟨res, m9⟩ := q
      rw [e2] at e
      cases e
      refine ⟨A, F, r, m, ds, m1, G, e1, fun F1 H1 J s1 G1 W1 => ?_⟩
      intro D nD
      have hF1 := (G1.nope nD).1
      have nA : D ∉ A := G1.notin nD
      have nU : U D = none := (G1.nope nD).2
      refine ⟨fun i mm H2 => mm = ds.length - i ∧ i ≤ ds.length ∧ ∃ (F2 : Hp) (m2 : Ms) (vs : List V) (acc : List PyData), Same F1 F2 ∧ Good X.K U A F2 H2 σ r m2 ∧ H2 D = some (.lst vs) ∧ F2 D = none ∧ RpAll X.K F2 vs acc ∧
        lcLoop2 h t fi1 own1 h1 t1 f (wipeR r (own.map (·.2))) (ds.drop i) m2 acc = some (res, m9), ⟨ds.length, by simp, Nat.zero_le _, F1, m1, [], [], Same.refl F1, G1.laidO nD, upd_same, hF1, .nil, by rw [List.drop_zero]; exact e2⟩, ?_⟩
      rintro i mm H2 ⟨rfl, hi2, F2, m2, vs, acc, hF, G2, hD2, hF2, hr2, e3⟩
      by_cases hlt : i < ds.length
      · rw [List.drop_eq_getElem_cons hlt] at e3
        unfold lcLoop2 at e3
        cases e4 : h ds[i] (wipeR r (own.map (·.2))) with
        | none => rw [e4] at e3; cases e3
        | some r3 =>
          rw [e4] at e3
          simp only [Option.bind_some] at e3
          cases e5 : t r3 m2 with
          | none => rw [e5] at e3; cases e3
          | some b5 =>
            obtain ⟨b, m5⟩ := b5
            rw [e5] at e3
            simp only [Option.bind_some] at e3
            have GW := (G2.hold hD2 hF2 nA).wiped (own.map (·.2))
            have sU : Same U (upd U D (.lst vs)) := same_new nU
            obtain ⟨w1, w2⟩ := W1.go _ A _ _ m2 F2 H2 i ds[i] sU hF GW (List.getElem?_eq_getElem hlt)
            refine .inr ⟨w1, fun H' => ∃ (F' : Hp) (m' : Ms) (vs' : List V) (acc' : List PyData), Same F1 F' ∧ Good X.K U A F' H' σ r m' ∧ H' D = some (.lst vs') ∧ F' D = none ∧ RpAll X.K F' vs' acc' ∧
              lcLoop2 h t fi1 own1 h1 t1 f (wipeR r (own.map (·.2))) (ds.drop (i + 1)) m' acc' = some (res, m9), fun H' w => ⟨ds.length - (i + 1), by omega, rfl, hlt, w⟩, fun x H3 hy => ?_⟩
            obtain ⟨F3, s3, G3, h3⟩ := w2 x H3 hy
            refine ⟨upd U D (.lst vs), A, F3, _, m2, ds[i], r3, G3, h3, e4, fun σ4 G4 k4 l4 => ⟨?_, ?_⟩⟩
            · exact (wipe_eq l4 fun j hj => k4 j fun z => hj (his j z)).trans wipe_twice
            · refine ⟨upd U D (.lst vs), A, F3, r3, m2, b, m5, G4, e5, fun F5 H5 s5 G5 => ?_⟩
              cases b with
              | false =>
                refine iteF ?_
                have fo5 := G5.fo D _ upd_same
                exact ⟨F5, m5, vs, acc, hF.trans (s3.trans s5), G2.mix G5 (s3.trans s5) sU, fo5.1, fo5.2, Rpam (s3.trans s5) hr2, e3⟩
              | true =>
                refine iteT ?_
                rw [if_pos rfl] at e3
                cases e6 : fi1 r3 m5 with
                | none => rw [e6] at e3; cases e3
                | some q6 =>
                  obtain ⟨ds6, m6⟩ := q6
                  rw [e6] at e3
                  simp only [Option.bind_some] at e3
                  cases e7 : lcLoop h1 t1 f (wipeR r3 own1) ds6 m6 acc with
                  | none => rw [e7] at e3; cases e3
                  | some q7 =>
                    obtain ⟨acc7, m7⟩ := q7
                    rw [e7] at e3
                    simp only [Option.bind_some] at e3
                    refine ⟨upd U D (.lst vs), A, F5, r3, m5, ds6, m6, G5, e6, fun F6 H6 J1 s6 G6 W6 => ?_⟩
                    have fo6 := G6.fo D _ upd_same
                    have s26 : Same F2 F6 := s3.trans (s5.trans s6)
                    refine lc_part his1 (G6.unhold nU) (W6 U) fo6.2 nU nA fo6.1 (Rpam s26 hr2) e7 fun F8 H8 vs8 s8 G8 n8 h8 r8 => ?_
                    exact ⟨F8, m7, vs8, acc7, hF.trans (s26.trans s8), G2.mix G8 (s26.trans s8) (fun b o q => q), h8, n8, r8, e3⟩
      · have ei : i = ds.length := by omega
        subst ei
        rw [List.drop_length] at e3
        cases e3
        exact .inl ⟨W1.stop F2 H2 (fun b o e => (G2.fo b o e).1) hF G2.sub, k F2 H2 D _ (s1.trans hF) G2 hF2 nU nA hD2 ⟨vs, rfl, hr2⟩⟩
theorem qn_lc2 (hc : X.calm = true) (hN : X.N.Nodup) (hi : PI X tg iter (tIt X.K U fi)) (ok : BlkOk X.N X.env.scope scope own) (hv : ∀ i ∈ own1, i ∈ own.map (·.2)) (his : ∀ j ∈ is, j ∈ own.map (·.2)) (his1 : ∀ j ∈ is1, j ∈ own1)
    (hg : ∀ (U : Hp) (s : Shared) (H : Hp) (C : Addr) (cl : List (Str × Addr)) (fp : List Addr), PG (X.blk s H scope (compEnvC scope cl C X.env) fp) tg (tG X.K U is h))
    (ht : ∀ (U : Hp) (s : Shared) (H : Hp) (C : Addr) (cl : List (Str × Addr)) (fp : List Addr), PTs (X.blk s H scope (compEnvC scope cl C X.env) fp) ifs (tT X.K U t))
    (hi1 : ∀ (U : Hp) (s : Shared) (H : Hp) (C : Addr) (cl : List (Str × Addr)) (fp : List Addr), PI (X.blk s H scope (compEnvC scope cl C X.env) fp) tg1 iter1 (tIf X.K U fi1))
    (hg1 : ∀ (U : Hp) (s : Shared) (H : Hp) (C : Addr) (cl : List (Str × Addr)) (fp : List Addr), PG (X.blk s H scope (compEnvC scope cl C X.env) fp) tg1 (tG X.K U is1 h1))
    (ht1 : ∀ (U : Hp) (s : Shared) (H : Hp) (C : Addr) (cl : List (Str × Addr)) (fp : List Addr), PTs (X.blk s H scope (compEnvC scope cl C X.env) fp) ifs1 (tT X.K U t1))
    (he : ∀ (U : Hp) (s : Shared) (H : Hp) (C : Addr) (cl : List (Str × Addr)) (fp : List Addr), PE (X.blk s H scope (compEnvC scope cl C X.env) fp) elt (tE X.K U f)) (hs : ∀ x, foldedSetIterable iter X.env x = pure x := by intro _; rfl) (hs1 : ∀ env x, foldedSetIterable iter1 env x = pure x := by intro _ _; rfl) :
    PE X (.ListComp elt [⟨tg, iter, ifs, 0⟩, ⟨tg1, iter1, ifs1, 0⟩] scope pos) (tN X.K U (eLc2 fi (own.map (·.2)) h t fi1 own1 h1 t1 f)) :=
  pe_weak (pe_lc2 hc hN hi ok hv (fun s H C cl fp => pg_all fun U => hg U s H C cl fp) (fun s H C cl fp => pts_all fun U => ht U s H C cl fp) (fun s H C cl fp => pi_all fun U => hi1 U s H C cl fp) (fun s H C cl fp => pg_all fun U => hg1 U s H C cl fp) (fun s H C cl fp => pts_all fun U => ht1 U s H C cl fp) (fun s H C cl fp => pe_all fun U => he U s H C cl fp) hs hs1) fun σ H Q q => lc2_read his his1 q
theorem qe_lc2 (hc : X.calm = true) (hN : X.N.Nodup) (hi : PI X tg iter (tIt X.K U fi)) (ok : BlkOk X.N X.env.scope scope own) (hv : ∀ i ∈ own1, i ∈ own.map (·.2)) (his : ∀ j ∈ is, j ∈ own.map (·.2)) (his1 : ∀ j ∈ is1, j ∈ own1)
    (hg : ∀ (U : Hp) (s : Shared) (H : Hp) (C : Addr) (cl : List (Str × Addr)) (fp : List Addr), PG (X.blk s H scope (compEnvC scope cl C X.env) fp) tg (tG X.K U is h))
    (ht : ∀ (U : Hp) (s : Shared) (H : Hp) (C : Addr) (cl : List (Str × Addr)) (fp : List Addr), PTs (X.blk s H scope (compEnvC scope cl C X.env) fp) ifs (tT X.K U t))
    (hi1 : ∀ (U : Hp) (s : Shared) (H : Hp) (C : Addr) (cl : List (Str × Addr)) (fp : List Addr), PI (X.blk s H scope (compEnvC scope cl C X.env) fp) tg1 iter1 (tIf X.K U fi1))
    (hg1 : ∀ (U : Hp) (s : Shared) (H : Hp) (C : Addr) (cl : List (Str × Addr)) (fp : List Addr), PG (X.blk s H scope (compEnvC scope cl C X.env) fp) tg1 (tG X.K U is1 h1))
    (ht1 : ∀ (U : Hp) (s : Shared) (H : Hp) (C : Addr) (cl : List (Str × Addr)) (fp : List Addr), PTs (X.blk s H scope (compEnvC scope cl C X.env) fp) ifs1 (tT X.K U t1))
    (he : ∀ (U : Hp) (s : Shared) (H : Hp) (C : Addr) (cl : List (Str × Addr)) (fp : List Addr), PE (X.blk s H scope (compEnvC scope cl C X.env) fp) elt (tE X.K U f)) (hs : ∀ x, foldedSetIterable iter X.env x = pure x := by intro _; rfl) (hs1 : ∀ env x, foldedSetIterable iter1 env x = pure x := by intro _ _; rfl) :
    PE X (.ListComp elt [⟨tg, iter, ifs, 0⟩, ⟨tg1, iter1, ifs1, 0⟩] scope pos) (tE X.K U (eLc2 fi (own.map (·.2)) h t fi1 own1 h1 t1 f)) := qe_new (qn_lc2 hc hN hi ok hv his his1 hg ht hi1 hg1 ht1 he hs hs1)
theorem qs_setLc2 {n0 i : Nat} {y : Str} {py spos : Pos} (hc : X.calm = true) (hN : X.N.Nodup) (hy : X.N[i]? = some y) (hyl : X.env.scope.names.lookup y = some .local)
    (hsw : swapsWith (.ListComp elt [⟨tg, iter, ifs, 0⟩, ⟨tg1, iter1, ifs1, 0⟩] scope pos) (some (.Name y py)) spos.line X.env = pure true) (hi : PI X tg iter (tIt X.K U fi)) (ok : BlkOk X.N X.env.scope scope own) (hv : ∀ i ∈ own1, i ∈ own.map (·.2)) (his : ∀ j ∈ is, j ∈ own.map (·.2)) (his1 : ∀ j ∈ is1, j ∈ own1)
    (hg : ∀ (U : Hp) (s : Shared) (H : Hp) (C : Addr) (cl : List (Str × Addr)) (fp : List Addr), PG (X.blk s H scope (compEnvC scope cl C X.env) fp) tg (tG X.K U is h))
    (ht : ∀ (U : Hp) (s : Shared) (H : Hp) (C : Addr) (cl : List (Str × Addr)) (fp : List Addr), PTs (X.blk s H scope (compEnvC scope cl C X.env) fp) ifs (tT X.K U t))
    (hi1 : ∀ (U : Hp) (s : Shared) (H : Hp) (C : Addr) (cl : List (Str × Addr)) (fp : List Addr), PI (X.blk s H scope (compEnvC scope cl C X.env) fp) tg1 iter1 (tIf X.K U fi1))
    (hg1 : ∀ (U : Hp) (s : Shared) (H : Hp) (C : Addr) (cl : List (Str × Addr)) (fp : List Addr), PG (X.blk s H scope (compEnvC scope cl C X.env) fp) tg1 (tG X.K U is1 h1))
    (ht1 : ∀ (U : Hp) (s : Shared) (H : Hp) (C : Addr) (cl : List (Str × Addr)) (fp : List Addr), PTs (X.blk s H scope (compEnvC scope cl C X.env) fp) ifs1 (tT X.K U t1))
    (he : ∀ (U : Hp) (s : Shared) (H : Hp) (C : Addr) (cl : List (Str × Addr)) (fp : List Addr), PE (X.blk s H scope (compEnvC scope cl C X.env) fp) elt (tE X.K U f)) (hs : ∀ x, foldedSetIterable iter X.env x = pure x := by intro _; rfl) (hs1 : ∀ env x, foldedSetIterable iter1 env x = pure x := by intro _ _; rfl) :
    PS X (.Assign [.Name y py] (.ListComp elt [⟨tg, iter, ifs, 0⟩, ⟨tg1, iter1, ifs1, 0⟩] scope pos) spos) (tS X.K U n0 (sSet i (eLc2 fi (own.map (·.2)) h t fi1 own1 h1 t1 f))) := by
  have base :=
    ps_setLc2 (g := tGX X.K is h) (tt := tTX X.K t) (wi1 := tIX X.K fi1) (g1 := tGX X.K is1 h1) (tt1 := tTX X.K t1) (te := tEX X.K f) hc hN hy hyl hsw hi ok hv (fun s H C cl fp => pg_all fun U => hg U s H C cl fp) (fun s H C cl fp => pts_all fun U => ht U s H C cl fp) (fun s H C cl fp => pi_all fun U => hi1 U s H C cl fp) (fun s H C cl fp => pg_all fun U => hg1 U s H C cl fp) (fun s H C cl fp => pts_all fun U => ht1 U s H C cl fp) (fun s H C cl fp => pe_all fun U => he U s H C cl fp) hs hs1
  refine ps_weak base fun D σ H ⟨A, F, r, m, o, G, hn, e, p⟩ => ?_
  unfold sSet at e
  cases e1 : eLc2 fi (own.map (·.2)) h t fi1 own1 h1 t1 f r m with
  | none => rw [e1] at e; cases e
  | some q =>
    rw [e1] at e
    cases e
    refine lc2_read his his1 ⟨A, F, r, m, q.1, q.2, G, e1, fun F1 H1 a u s1 G1 q1 q2 q3 q4 q5 => ?_⟩
    obtain ⟨w1, w2, w3⟩ := G1.ice q1 q2 q3 q4 q5
    exact p A _ H1 _ (List.prefix_refl A) (s1.trans w1) (w2.setFz w3)
end
end TL

end
/-! TL25 -/
section
set_option maxHeartbeats 4000000
namespace TL
open PySem PySem.Spec PyProof.Rows L2
/-! ## a new list times an int -/
def repD : PyData → PyData → Option PyData
  | .list ds, .int k => if -(2 ^ 63) ≤ k ∧ k < 2 ^ 63 ∧ ds.length * k.toNat ≤ sizeLine then some (.list (List.replicate k.toNat ds).flatten) else none
  | _, _ => none
theorem rpa_rep {K : PySem.W.Frag} {F : Hp} {vs : List V} {ds : List PyData} (h : RpAll K F vs ds) : ∀ n : Nat, RpAll K F (List.replicate n vs).flatten (List.replicate n ds).flatten
  | 0 => .nil
  | n + 1 => by
    rw [List.replicate_succ, List.replicate_succ, List.flatten_cons, List.flatten_cons]
    exact rpa_app h (rpa_rep h n)
section
variable {X : Cx} {U : Hp} {a b : Expr} {pos : Pos} {f g : Ev}
theorem qe_rep (ha : PE X a (tN X.K U f)) (hb : ∀ U, PE X b (tE X.K U g)) : PE X (.BinOp a .Mult b pos) (tE X.K U (eBin repD f g)) :=
  pe_weak (pe_op op_rep ha (pe_all hb)) fun σ H Q ⟨A, F, r, m, d, m', G, e, k⟩ => by
    obtain ⟨d1, m1, d2, e1, e2, e3⟩ := bin_some e
    refine ⟨A, F, r, m, d1, m1, G, e1, fun F1 H1 a u s1 G1 q1 q2 q3 q4 q5 => ⟨upd U a u, A, F1, r, m1, d2, m', G1.hold q4 q1 q3, e2, fun F2 H2 y s2 G2 h2 => ?_⟩⟩
    obtain ⟨c1, c2⟩ := G2.fo a u upd_same
    unfold repD at e3
    split at e3
    · rename_i ds0 k0
      split at e3
      · rename_i hz
        cases e3
        obtain ⟨vs, eu, hv⟩ := q5
        subst eu
        cases h2
        have l1 := rpa_len hv
        refine ⟨a, _, vs, rfl, rfl, c1, hz.1, hz.2.1, by rw [l1]; exact hz.2.2, fun p np => ?_⟩
        have G3 := G2.unhold q2
        have sF : Same F2 (upd F2 p (.lst (List.replicate k0.toNat vs).flatten)) := same_new (G3.nope np).1
        exact k _ _ _ (s1.trans (s2.trans sF)) (G3.laid np) (.vl (.inl (.inl upd_same)) (rpa_rep (Rpam (s2.trans sF) hv) _))
      · cases e3
    · cases e3
/-! ## equality, of texts without a word on their signs -/
def eqX (a b : PyData) : Option PyData := match a, b with
  | .str x, .str y => some (.bool (decide (x = y)))
  | a, b => eqD a b
def neX (a b : PyData) : Option PyData := match a, b with
  | .str x, .str y => some (.bool (!decide (x = y)))
  | a, b => neD a b
def rTx (neg : Bool) : R2 := fun x y H Q => ∃ i j : Str, x = .str i ∧ y = .str j ∧ Q (.bl (if neg then !decide (i = j) else decide (i = j))) H
theorem op_eqT : OpR X (compareOp .Eq) (rTx false) := by
  intro pins s σ H x y v u Q I rx ry ⟨i, j, e1, e2, q⟩
  subst e1 e2
  refine op_eq pins s σ H _ _ v u Q I rx ry ⟨rfl, ?_⟩
  have e : decide (V.str i = V.str j) = decide (i = j) := by
    by_cases h : i = j
    · subst h; simp
    · rw [decide_eq_false h, decide_eq_false (fun z => h (by cases z; rfl))]
  rw [e]
  exact q
theorem op_neT : OpR X (compareOp .NotEq) (rTx true) := by
  intro pins s σ H x y v u Q I rx ry ⟨i, j, e1, e2, q⟩
  subst e1 e2
  refine op_ne pins s σ H _ _ v u Q I rx ry ⟨rfl, ?_⟩
  have e : decide (V.str i = V.str j) = decide (i = j) := by
    by_cases h : i = j
    · subst h; simp
    · rw [decide_eq_false h, decide_eq_false (fun z => h (by cases z; rfl))]
  rw [e]
  exact q
def rEqX (K : PySem.W.Frag) : R2 := fun x y H Q => rEqD K x y H Q ∨ rTx false x y H Q
def rNeX (K : PySem.W.Frag) : R2 := fun x y H Q => rNeD K x y H Q ∨ rTx true x y H Q
theorem op_eqX (hu : X.A.units + 64 < cLine) : OpR X (compareOp .Eq) (rEqX X.K) := opr_or (op_eqD hu) op_eqT
theorem op_neX (hu : X.A.units + 64 < cLine) : OpR X (compareOp .NotEq) (rNeX X.K) := opr_or (op_neD hu) op_neT
theorem od_eqX : OpD X U (rEqX X.K) eqX := by
  intro A F H σ r m x y a b d Q G ha hb e k
  unfold eqX at e
  split at e
  · cases ha; cases hb; cases e
    exact .inr ⟨_, _, rfl, rfl, k F H _ (Same.refl F) G (.vb _)⟩
  · exact .inl (od_eq A F H σ r m x y a b d Q G ha hb e k)
theorem od_neX : OpD X U (rNeX X.K) neX := by
  intro A F H σ r m x y a b d Q G ha hb e k
  unfold neX at e
  split at e
  · cases ha; cases hb; cases e
    exact .inr ⟨_, _, rfl, rfl, k F H _ (Same.refl F) G (.vb _)⟩
  · exact .inl (od_ne A F H σ r m x y a b d Q G ha hb e k)
end
/-! ## a def called with all its keyword-only parameters -/
theorem kbn_all {K : PySem.W.Frag} {x qual : Str} {params : Arguments} {body : List Stmt} {scope : Scope} {kws : List (Str × V)} {f : Addr} {fd : FuncData} {ps : List Str} (F : FunD K x qual params body scope [] kws f fd) (n : Nat) (ks : List Str)
    (h : ∀ (kV doc pm : Value) (an : Option Addr) (cdv ct : Value) (us ws : List Value), us.length = n → ws.length = ks.length → bindArgs (PySem.W.fnOf x qual params body scope .none kV doc pm an cdv ct) ⟨us, ks.zip ws⟩ = pure (ps.zip (us ++ ws))) :
    KBn K fd ps n ks (fun us ws => us ++ ws) (fun vs zs => vs ++ zs) := by
  obtain ⟨oc, od, dV, kV, doc, pm, an, cdv, ct, osl, rfl, lk, hcd, hD, hK⟩ := F.ex
  rcases hD with ⟨_, rfl⟩ | ⟨e, _⟩
  · exact ⟨fun s us ws X l1 l2 => .of_eq (h kV doc pm an cdv ct us ws l1 l2), fun r1 r2 => r1.append r2⟩
  · exact absurd rfl e
end TL

end
/-! TL26 -/
section
set_option maxHeartbeats 4000000
namespace TL
open PySem L2
/-! ## texts of plain signs -/
def Lw (n : Nat) (s : Str) : Prop := s.cps.size ≤ n ∧ ∀ c ∈ s.cps.toList, c < 128
instance {n : Nat} {s : Str} : Decidable (Lw n s) := inferInstanceAs (Decidable (_ ∧ _))
theorem Lw.len {n : Nat} {s : Str} (h : Lw n s) : s.length ≤ n := h.1
theorem Lw.mono {n k : Nat} {s : Str} (h : Lw n s) (l : n ≤ k) : Lw k s := ⟨Nat.le_trans h.1 l, h.2⟩
theorem Lw.line {n : Nat} {s : Str} (h : Lw n s) (l : n ≤ 1000) : s.length ≤ sizeLine := Nat.le_trans h.1 (Nat.le_trans l (by decide))
theorem Lw.app {n k : Nat} {s t : Str} (h : Lw n s) (h' : Lw k t) : Lw (n + k) (s ++ t) := by
  have e : (s ++ t).cps = s.cps ++ t.cps := rfl
  refine ⟨?_, fun c hc => ?_⟩
  · rw [e, Array.size_append]
    have := h.1
    have := h'.1
    omega
  · rw [e, Array.toList_append] at hc
    rcases List.mem_append.mp hc with q | q
    · exact h.2 c q
    · exact h'.2 c q
theorem Lw.one {c : Nat} (h : c < 128) : Lw 1 ⟨#[c]⟩ := ⟨Nat.le_refl 1, fun d hd => by
  have : d = c := by simpa using hd
  omega⟩
theorem fold_app {α : Type} : ∀ (l : List (Array α)) (z : Array α), (l.foldl (· ++ ·) z).toList = z.toList ++ (l.map (·.toList)).flatten
  | [], z => by simp
  | x :: l, z => by
    rw [List.foldl_cons, fold_app l, Array.toList_append, List.map_cons, List.flatten_cons, List.append_assoc]
theorem Lw.mul {n : Nat} {s : Str} (h : Lw n s) (k : Int) : Lw (n * k.toNat) (Txt.mul s k) := by
  unfold Txt.mul
  split
  · exact ⟨Nat.zero_le _, fun c hc => by cases hc⟩
  · split
    · rename_i h1 h2
      refine ⟨?_, h.2⟩
      have : 1 ≤ k.toNat := by omega
      exact Nat.le_trans h.1 (by
        have := Nat.mul_le_mul_left n this
        rwa [Nat.mul_one] at this)
    · have e := fold_app (List.replicate k.toNat s.cps) #[]
      rw [List.map_replicate] at e
      refine ⟨?_, fun c hc => ?_⟩
      · show ((List.replicate k.toNat s.cps).foldl (· ++ ·) #[]).size ≤ _
        rw [← Array.length_toList, e, List.length_append, List.length_flatten, List.map_replicate, List.sum_replicate_nat, Array.length_toList]
        have := Nat.mul_le_mul_left k.toNat h.1
        rw [Nat.mul_comm n]
        simpa using this
      · have hc' : c ∈ ((List.replicate k.toNat s.cps).foldl (· ++ ·) #[]).toList := hc
        rw [e, List.mem_append] at hc'
        rcases hc' with q | q
        · cases q
        · obtain ⟨l, hl, hc2⟩ := List.mem_flatten.mp q
          rw [List.eq_of_mem_replicate hl] at hc2
          exact h.2 c hc2
theorem Lw.ok {n : Nat} {s : Str} (h : Lw n s) : (PyData.str s).canLay0 = true := by
  show s.cps.all (fun c => decide (c < 0x110000)) = true
  rw [Array.all_eq_true_iff_forall_mem]
  intro c hc
  have := h.2 c (Array.mem_toList_iff.mpr hc)
  exact decide_eq_true (by omega)
/-! ## what may be shown -/
structure Sh (w k : Nat) (d : PyData) : Prop where
  lay : d.canLay0 = true
  dep : d.depth ≤ k
  its : d.intsShort 13 = true
  shw : d.showable = true
  wgt : d.weight ≤ w
section
variable {w k n : Nat} {d : PyData} {ds : List PyData}
theorem Sh.mono {w' k' : Nat} (h : Sh w k d) (a : w ≤ w') (b : k ≤ k') : Sh w' k' d := ⟨h.lay, Nat.le_trans h.dep b, h.its, h.shw, Nat.le_trans h.wgt a⟩
theorem Sh.str {s : Str} (h : Lw n s) : Sh n 0 (.str s) := ⟨h.ok, by simp [PyData.depth], rfl, rfl, h.1⟩
theorem Sh.non : Sh 0 0 .none := ⟨rfl, by simp [PyData.depth], rfl, rfl, by simp [PyData.weight]⟩
theorem Sh.bool {b : Bool} : Sh 0 0 (.bool b) := ⟨rfl, by simp [PyData.depth], rfl, rfl, by simp [PyData.weight]⟩
theorem Sh.int {i : Int} (h0 : -1000000000000 < i) (h1 : i < 1000000000000) : Sh 41 0 (.int i) := by
  have hn : i.natAbs < 10 ^ 12 := by
    have : (10 : Nat) ^ 12 = 1000000000000 := by decide
    omega
  refine ⟨rfl, by simp [PyData.depth], ?_, ?_, ?_⟩
  · simp only [PyData.intsShort, decide_eq_true_eq]
    exact PyData.shown_int_le hn
  · simp only [PyData.showable, decide_eq_true_eq]
    by_cases hz : i.natAbs = 0
    · rw [hz]; decide
    · have : i.natAbs.log2 < 40 := (Nat.log2_lt hz).mpr (Nat.lt_trans hn (by decide))
      omega
  · simp only [PyData.weight]
    split
    · exact Nat.zero_le _
    · rename_i hz
      by_cases hz : i.natAbs = 0
      · rw [hz]; decide
      · have : i.natAbs.log2 < 40 := (Nat.log2_lt hz).mpr (Nat.lt_trans hn (by decide))
        omega
theorem its_all : ∀ {ds : List PyData}, (∀ d ∈ ds, d.intsShort 13 = true) → PyData.intsShortAll 13 ds = true
  | [], _ => rfl
  | d :: ds, h => by
    simp only [PyData.intsShortAll, Bool.and_eq_true]
    exact ⟨h d List.mem_cons_self, its_all fun x hx => h x (List.mem_cons_of_mem _ hx)⟩
theorem shw_all : ∀ {ds : List PyData}, (∀ d ∈ ds, d.showable = true) → PyData.showableAll ds = true
  | [], _ => rfl
  | d :: ds, h => by
    simp only [PyData.showableAll, Bool.and_eq_true]
    exact ⟨h d List.mem_cons_self, shw_all fun x hx => h x (List.mem_cons_of_mem _ hx)⟩
theorem wgt_all : ∀ {ds : List PyData}, (∀ d ∈ ds, d.weight ≤ w) → PyData.weightAll ds ≤ ds.length * (w + 1)
  | [], _ => by simp [PyData.weightAll]
  | d :: ds, h => by
    have h1 := h d List.mem_cons_self
    have h2 := wgt_all (ds := ds) fun x hx => h x (List.mem_cons_of_mem _ hx)
    simp only [PyData.weightAll, List.length_cons, Nat.add_mul]
    omega
theorem Sh.lst (h : ∀ d ∈ ds, Sh w k d) (hl : ds.length ≤ n) : Sh (n * (w + 1)) (k + 1) (.list ds) := by
  have a := depth_all fun d hd => (h d hd).dep
  have b := wgt_all fun d hd => (h d hd).wgt
  have c := Nat.mul_le_mul_right (w + 1) hl
  exact ⟨by simp only [PyData.canLay0]; exact lay_all fun d hd => (h d hd).lay, by simp only [PyData.depth]; omega, by simp only [PyData.intsShort]; exact its_all fun d hd => (h d hd).its, by simp only [PyData.showable]; exact shw_all fun d hd => (h d hd).shw, by simp only [PyData.weight]; omega⟩
theorem Sh.tup (h : ∀ d ∈ ds, Sh w k d) (hl : ds.length ≤ n) : Sh (n * (w + 1)) (k + 1) (.tuple ds) := by
  have a := depth_all fun d hd => (h d hd).dep
  have b := wgt_all fun d hd => (h d hd).wgt
  have c := Nat.mul_le_mul_right (w + 1) hl
  exact ⟨by simp only [PyData.canLay0]; exact lay_all fun d hd => (h d hd).lay, by simp only [PyData.depth]; omega, by simp only [PyData.intsShort]; exact its_all fun d hd => (h d hd).its, by simp only [PyData.showable]; exact shw_all fun d hd => (h d hd).shw, by simp only [PyData.weight]; omega⟩
theorem Sh.shaped (h : Sh w k d) (hk : k ≤ 62) : SeqAt.shaped d = true := shaped_of h.lay (by have := h.dep; omega)
theorem Sh.fits (h : Sh w k d) (hw : w ≤ 1000000) : d.shown.length ≤ sizeLine := by
  have e : (2 : Nat) ^ 20 = 1048576 := by decide
  have g := h.wgt
  exact PyData.shown_fits (B := 13) (by decide) (by decide) (PyData.leavesShort_of_canLay0 13 d h.lay h.its) (by omega)
theorem w_repr_sh {R : PyData → Prop} (hd : (∃ l, d = .list l) ∨ ∃ l, d = .tuple l) (h : Sh w k d) (hw : w ≤ 1000000) (hk : k ≤ 62) (q : R (.str d.shown)) : W (reprD [d]) R :=
  w_repr hd h.shw (PyData.hasDict_of_canLay d h.lay) (h.shaped hk) (h.fits hw) q
end
/-! ## the twins reckoned: more -/
section
variable {r : Rs} {m : Ms} {Q : PyData × Ms → Prop} {QL : List PyData × Ms → Prop} {QB : Bool × Ms → Prop} {S : Out → Prop} {R : PyData → Prop} {f g : Ev} {fs fi fi1 : Eas} {i n a : Nat} {ds es : List PyData} {d : PyData} {h h1 : Eh} {t t1 : Et} {own own1 : List Nat} {x y : Str} {b c : Bool} {j k : Int}
theorem cell_hd {c : PyData} : cellAt (some c :: m) 0 = some c := rfl
theorem cell_tl {o : Option PyData} : cellAt (o :: m) (a + 1) = cellAt m a := rfl
theorem w_eqX_ss (q : R (.bool (decide (x = y)))) : W (eqX (.str x) (.str y)) R := .mk q
theorem w_neX_ss (q : R (.bool (!decide (x = y)))) : W (neX (.str x) (.str y)) R := .mk q
theorem w_eqX_ii (q : R (.bool (decide (j = k)))) : W (eqX (.int j) (.int k)) R := by
  refine w_eqD (shaped_i j) (shaped_i k) ?_
  have e : PyData.eqv (.int j) (.int k) = decide (j = k) := by
    simp only [PyData.eqv]
    by_cases h : j = k
    · subst h; simp
    · rw [decide_eq_false h]; simpa using h
  rw [e]
  exact q
theorem w_eqX_bb (q : R (.bool (b == c))) : W (eqX (.bool b) (.bool c)) R := by
  refine w_eqD (shaped_b b) (shaped_b c) ?_
  simp only [PyData.eqv]
  exact q
theorem w_neX_bb (q : R (.bool (!(b == c)))) : W (neX (.bool b) (.bool c)) R := by
  refine w_neD (shaped_b b) (shaped_b c) ?_
  simp only [PyData.eqv]
  exact q
theorem w_neX_ll0 (hd : SeqAt.shaped (.list ds) = true) (q : R (.bool (!ds.isEmpty))) : W (neX (.list ds) (.list [])) R := by
  refine w_neD hd (by decide +kernel) ?_
  have e : PyData.eqv (.list ds) (.list []) = ds.isEmpty := by cases ds <;> simp [PyData.eqv, PyData.eqvAll]
  rw [e]
  exact q
theorem w_eqX_ll0 (hd : SeqAt.shaped (.list ds) = true) (q : R (.bool ds.isEmpty)) : W (eqX (.list ds) (.list [])) R := by
  refine w_eqD hd (by decide +kernel) ?_
  have e : PyData.eqv (.list ds) (.list []) = ds.isEmpty := by cases ds <;> simp [PyData.eqv, PyData.eqvAll]
  rw [e]
  exact q
theorem w_mul_s (h1 : x.length ≤ 4096) (h2 : 0 ≤ k) (h3 : k ≤ 4096) (q : R (.str (Txt.mul x k))) : W (mulD (.str x) (.int k)) R := W.guard ⟨h1, h3, by omega⟩ (.mk q)
theorem w_rep (h1 : 0 ≤ k) (h2 : k < 1000) (h3 : ds.length ≤ 1000) (q : R (.list (List.replicate k.toNat ds).flatten)) : W (repD (.list ds) (.int k)) R :=
  W.guard ⟨by omega, by omega, Nat.le_trans (Nat.mul_le_mul h3 (show k.toNat ≤ 1000 by omega)) (by decide)⟩ (.mk q)
theorem w_enumA_l {P : List PyData → Prop} (q : P (enumD ds)) : W (enumA (.list ds)) P := .mk q
theorem w_enumA_t {P : List PyData → Prop} (q : P (enumD ds)) : W (enumA (.tuple ds)) P := .mk q
theorem w_eEnumA (q : W (f r m) fun p => W (enumA p.1) fun ds => QL (ds, p.2)) : W (eEnumA f r m) QL := W.bind (W.mono q fun _ q => W.map q)
theorem w_tru_l {P : Bool → Prop} (q : P (!ds.isEmpty)) : W (truD (.list ds)) P := .mk q
theorem w_tru_t {P : Bool → Prop} (q : P (!ds.isEmpty)) : W (truD (.tuple ds)) P := .mk q
theorem w_isNot (q : R (.bool (match d with | .none => false | _ => true))) : W (isNotD d .none) R := by
  unfold isNotD
  exact .mk q
theorem w_tupleD_l (q : R (.tuple ds)) : W (tupleD [.list ds]) R := .mk q
theorem w_tupleD_t (q : R (.tuple ds)) : W (tupleD [.tuple ds]) R := .mk q
theorem w_listD_t (q : R (.list ds)) : W (listD2 [.tuple ds]) R := .mk q
theorem w_listD_l (q : R (.list ds)) : W (listD2 [.list ds]) R := .mk q
theorem w_intD_b (q : R (.int (if b then 1 else 0))) : W (intD1 [.bool b]) R := .mk q
theorem w_intD_i (q : R (.int j)) : W (intD1 [.int j]) R := .mk q
theorem w_min2 (q : R (.int (if k < j then k else j))) : W (min2D [.int j, .int k]) R := .mk q
theorem w_max2 (q : R (.int (if k > j then k else j))) : W (max2D [.int j, .int k]) R := .mk q
theorem w_slc_l {lo hi : Option Int} (q : R (.list (cutD ds lo hi))) : W (slcD (.list ds) lo hi) R := .mk q
theorem w_slc_t {lo hi : Option Int} (q : R (.tuple (cutD ds lo hi))) : W (slcD (.tuple ds) lo hi) R := .mk q
theorem w_yes (q : QB (true, m)) : W (eYes r m) QB := .mk q
theorem w_hTup {g : Ehs} {P : Rs → Prop} (hl : ds.length = n) (q : W (g ds r) P) : W (hTup g n (.tuple ds) r) P := by
  unfold hTup
  exact W.guard hl q
theorem w_hCons {f : Eh} {g : Ehs} {P : Rs → Prop} (q : W (f d r) fun r1 => W (g ds r1) P) : W (hCons f g (d :: ds) r) P := W.bind q
theorem w_hNil {P : Rs → Prop} (q : P r) : W (hNil [] r) P := .mk q
theorem w_eKw {c n : Nat} {u : List PyData → Option PyData} {fk : Eas} (q : W (fs r m) fun p => W (fk r p.2) fun z => p.1.length = c ∧ W (arN n u (p.1 ++ z.1)) fun d => Q (d, z.2)) : W (eKw c n u fs fk r m) Q :=
  W.bind (W.mono q fun p q => W.bind (W.mono q fun z ⟨e, q⟩ => W.guard e (W.map q)))
theorem take_eq {α : Type} {l : List α} {i : Nat} {x : α} (h : l[i]? = some x) : l.take (i + 1) = l.take i ++ [x] := by
  rw [List.take_add_one, h]
  rfl
/-- a comprehension by a word on what it made so far -/
theorem lc_inv (I : Nat → List PyData → Ms → Prop) {ds : List PyData} (step : ∀ (i : Nat) (d : PyData) (m : Ms) (acc : List PyData), ds[i]? = some d → I i acc m → W (h d r) fun r1 => W (t r1 m) fun b => (b.1 = true → W (f r1 b.2) fun x => acc.length < sizeLine ∧ I (i + 1) (acc ++ [x.1]) x.2) ∧ (b.1 = false → I (i + 1) acc b.2)) :
    ∀ (k : Nat) (m : Ms) (acc : List PyData), k ≤ ds.length → I k acc m → W (lcLoop h t f r (ds.drop k) m acc) fun p => I ds.length p.1 p.2 := by
  intro k
  induction hk : ds.length - k generalizing k with
  | zero =>
    intro m acc hl hI
    have : k = ds.length := by omega
    subst this
    rw [List.drop_length]
    exact .mk hI
  | succ n ih =>
    intro m acc hl hI
    have hlt : k < ds.length := by omega
    rw [List.drop_eq_getElem_cons hlt]
    unfold lcLoop
    refine W.bind (W.mono (step k ds[k] m acc (List.getElem?_eq_getElem hlt) hI) fun r1 q => W.bind (W.mono q fun b ⟨q1, q2⟩ => W.ite (fun z => ?_) fun z => ?_))
    · exact W.bind (W.mono (q1 z) fun x ⟨q3, q4⟩ => W.guard q3 (ih (k + 1) (by omega) x.2 _ (by omega) q4))
    · exact ih (k + 1) (by omega) b.2 _ (by omega) (q2 (by simpa using z))
theorem w_lcI (I : List PyData → Nat → List PyData → Ms → Prop) (q : W (fi r m) fun p => I p.1 0 [] p.2 ∧ (∀ (i : Nat) (d : PyData) (m : Ms) (acc : List PyData), p.1[i]? = some d → I p.1 i acc m → W (h d (wipeR r own)) fun r1 => W (t r1 m) fun b => (b.1 = true → W (f r1 b.2) fun x => acc.length < sizeLine ∧ I p.1 (i + 1) (acc ++ [x.1]) x.2) ∧ (b.1 = false → I p.1 (i + 1) acc b.2)) ∧ (∀ acc m, I p.1 p.1.length acc m → Q (.list acc, m))) :
    W (eLc fi own h t f r m) Q := W.bind (W.mono q fun p ⟨q1, q2, q3⟩ => by
  have := lc_inv (I p.1) q2 0 p.2 [] (Nat.zero_le _) q1
  rw [List.drop_zero] at this
  exact W.map (W.mono this fun z hz => q3 _ _ hz))
theorem w_lcOI (I : Nat → List PyData → Ms → Prop) (e : r[i]? = some (.ow a)) (e0 : cellAt m a = some (.list ds)) (q1 : I 0 [] (m.set a none))
    (q2 : ∀ (i : Nat) (d : PyData) (m : Ms) (acc : List PyData), ds[i]? = some d → I i acc m → W (h d (wipeR r own)) fun r1 => W (t r1 m) fun b => (b.1 = true → W (f r1 b.2) fun x => acc.length < sizeLine ∧ I (i + 1) (acc ++ [x.1]) x.2) ∧ (b.1 = false → I (i + 1) acc b.2))
    (q3 : ∀ acc m', I ds.length acc m' → Q (.list acc, m'.set a (some (.list ds)))) : W (eLcO i own h t f r m) Q := by
  have := lc_inv I q2 0 (m.set a none) [] (Nat.zero_le _) q1
  rw [List.drop_zero] at this
  obtain ⟨p, e1, q⟩ := this.get
  exact w_lcO e e0 ⟨p.1, p.2, e1, q3 _ _ q⟩
/-- of two fors, where the cells stay -/
theorem lc2_inv (I : Nat → List PyData → Prop) {ds : List PyData} (step : ∀ (i : Nat) (d : PyData) (acc : List PyData), ds[i]? = some d → I i acc → W (h d r) fun r2 => W (t r2 m) fun b => b = (true, m) ∧ W (fi1 r2 m) fun p => p.2 = m ∧ ∃ J : Nat → List PyData → Prop, J 0 acc ∧
      (∀ (j : Nat) (d : PyData) (acc : List PyData), p.1[j]? = some d → J j acc → W (h1 d (wipeR r2 own1)) fun r3 => W (t1 r3 m) fun b => b.2 = m ∧ (b.1 = true → W (f r3 m) fun x => x.2 = m ∧ acc.length < sizeLine ∧ J (j + 1) (acc ++ [x.1])) ∧ (b.1 = false → J (j + 1) acc)) ∧ (∀ acc, J p.1.length acc → I (i + 1) acc)) :
    ∀ (k : Nat) (acc : List PyData), k ≤ ds.length → I k acc → W (lcLoop2 h t fi1 own1 h1 t1 f r (ds.drop k) m acc) fun p => I ds.length p.1 ∧ p.2 = m := by
  intro k
  induction hk : ds.length - k generalizing k with
  | zero =>
    intro acc hl hI
    have : k = ds.length := by omega
    subst this
    rw [List.drop_length]
    exact .mk ⟨hI, rfl⟩
  | succ n ih =>
    intro acc hl hI
    have hlt : k < ds.length := by omega
    rw [List.drop_eq_getElem_cons hlt]
    unfold lcLoop2
    refine W.bind (W.mono (step k ds[k] acc (List.getElem?_eq_getElem hlt) hI) fun r2 q => W.bind (W.mono q fun b ⟨eb, q⟩ => ?_))
    subst eb
    refine W.guard' rfl (W.bind (W.mono q fun p ⟨ep, J, j0, js, jd⟩ => W.bind ?_))
    rw [ep]
    have := lc_inv (r := wipeR r2 own1) (fun j acc m' => J j acc ∧ m' = m) (h := h1) (t := t1) (f := f) (ds := p.1) (fun j d m' acc hd ⟨hj, em⟩ => by
      subst em
      exact W.mono (js j d acc hd hj) fun r3 q => W.mono q fun b ⟨e1, q1, q2⟩ => ⟨fun z => by
        rw [e1]
        exact W.mono (q1 z) fun x ⟨e2, q3, q4⟩ => ⟨q3, q4, e2⟩, fun z => ⟨q2 z, e1⟩⟩) 0 m acc (Nat.zero_le _) ⟨j0, rfl⟩
    rw [List.drop_zero] at this
    refine W.mono this fun z ⟨z1, z2⟩ => ?_
    rw [z2]
    exact ih (k + 1) (by omega) z.1 (by omega) (jd z.1 z1)
theorem w_lc2I (I : List PyData → Nat → List PyData → Prop) (q : W (fi r m) fun p => p.2 = m ∧ I p.1 0 [] ∧ (∀ (i : Nat) (d : PyData) (acc : List PyData), p.1[i]? = some d → I p.1 i acc → W (h d (wipeR r own)) fun r2 => W (t r2 m) fun b => b = (true, m) ∧ W (fi1 r2 m) fun p1 => p1.2 = m ∧ ∃ J : Nat → List PyData → Prop, J 0 acc ∧
      (∀ (j : Nat) (d : PyData) (acc : List PyData), p1.1[j]? = some d → J j acc → W (h1 d (wipeR r2 own1)) fun r3 => W (t1 r3 m) fun b => b.2 = m ∧ (b.1 = true → W (f r3 m) fun x => x.2 = m ∧ acc.length < sizeLine ∧ J (j + 1) (acc ++ [x.1])) ∧ (b.1 = false → J (j + 1) acc)) ∧ (∀ acc, J p1.1.length acc → I p.1 (i + 1) acc)) ∧ (∀ acc, I p.1 p.1.length acc → Q (.list acc, m))) :
    W (eLc2 fi own h t fi1 own1 h1 t1 f r m) Q := W.bind (W.mono q fun p ⟨e, q1, q2, q3⟩ => by
  have := lc2_inv (I p.1) q2 0 [] (Nat.zero_le _) q1
  rw [List.drop_zero] at this
  rw [e]
  exact W.map (W.mono this fun z ⟨z1, z2⟩ => by rw [z2]; exact q3 _ z1))
end
end TL

end
/-! TL27 -/
section
set_option maxHeartbeats 4000000
namespace TL
open PySem L2
theorem le_line {n : Nat} (h : n ≤ 1000) : n ≤ sizeLine := Nat.le_trans h (by decide)
theorem lt_line {n : Nat} (h : n ≤ 1000) : n < sizeLine := Nat.lt_of_le_of_lt h (by decide)
theorem atI_2 {α : Type} (x y z : α) (xs : List α) : atI (x :: y :: z :: xs) 2 = some z := by
  have := atI_in (l := x :: y :: z :: xs) (i := 2) (by decide) (by simp only [List.length_cons]; omega)
  exact this
theorem atI_3 {α : Type} (x y z u : α) (xs : List α) : atI (x :: y :: z :: u :: xs) 3 = some u := by
  have := atI_in (l := x :: y :: z :: u :: xs) (i := 3) (by decide) (by simp only [List.length_cons]; omega)
  exact this
theorem atI_4 {α : Type} (x y z u v : α) (xs : List α) : atI (x :: y :: z :: u :: v :: xs) 4 = some v := by
  have := atI_in (l := x :: y :: z :: u :: v :: xs) (i := 4) (by decide) (by simp only [List.length_cons]; omega)
  exact this
section
variable {r : Rs} {m : Ms} {Q : Out → Prop} {c c1 c2 : Et} {s t : Es} {X : Prop}
/-- an if whose test changes no cell: what it tells where it holds -/
theorem w_if1 (h1 : W (c r m) fun p => p.2 = m ∧ (p.1 = true → X)) (hs : X → W (s r m) Q) (ht : W (t r m) Q) : W (sIf c s t r m) Q := w_if (W.mono h1 fun p ⟨e, h⟩ => by
  rw [e]
  exact ⟨fun z => hs (h z), fun _ => ht⟩)
theorem w_if_and (h1 : W (c1 r m) fun p => p.2 = m) (h2 : W (c2 r m) fun p => p.2 = m ∧ (p.1 = true → X)) (hs : X → W (s r m) Q) (ht : W (t r m) Q) : W (sIf (eAnd c1 c2) s t r m) Q :=
  w_if1 (w_and (W.mono h1 fun p e => by
    rw [e]
    exact ⟨fun _ => h2, fun _ => ⟨rfl, fun z => by cases z⟩⟩)) hs ht
theorem w_or_p (h1 : W (c1 r m) fun p => p.2 = m) (h2 : W (c2 r m) fun p => p.2 = m) : W (eOr c1 c2 r m) fun p => p.2 = m := w_or (W.mono h1 fun p e => by
  rw [e]
  exact ⟨fun _ => rfl, fun _ => h2⟩)
theorem w_and_p (h1 : W (c1 r m) fun p => p.2 = m) (h2 : W (c2 r m) fun p => p.2 = m) : W (eAnd c1 c2 r m) fun p => p.2 = m := w_and (W.mono h1 fun p e => by
  rw [e]
  exact ⟨fun _ => h2, fun _ => rfl⟩)
theorem w_not_p (h1 : W (c r m) fun p => p.2 = m) : W (eNot c r m) fun p => p.2 = m := w_not h1
theorem w_test_p {A B : Ms → Prop} (h : W (c r m) fun p => p.2 = m) (ha : A m) (hb : B m) : W (c r m) fun b => (b.1 = true → A b.2) ∧ (b.1 = false → B b.2) := W.mono h fun p e => by
  rw [e]
  exact ⟨fun _ => ha, fun _ => hb⟩
end
theorem cut_to {ds : List PyData} {k : Int} (h : 0 ≤ k) : cutD ds none (some k) = ds.take k.toNat := by
  have e : HT.sIx ds.length ds.length (some k) = min k.toNat ds.length := by
    show (if k < 0 then (k + (ds.length : Int)).toNat else min k.toNat ds.length) = _
    rw [if_neg (by omega)]
  unfold cutD
  rw [e, HT.sIx_none, List.drop_zero, Nat.sub_zero]
  by_cases hl : k.toNat ≤ ds.length
  · rw [Nat.min_eq_left hl]
  · rw [Nat.min_eq_right (by omega), List.take_length, List.take_of_length_le (by omega)]
/-- one slot as a cell is frozen -/
def fz1 (k : Nat) (d : PyData) : Sl → Sl
  | .ow j => if j = k then .fz d else .ow j
  | s => s
theorem frz_nil {k : Nat} {d : PyData} : frzR k d [] = [] := rfl
theorem frz_cons {k : Nat} {d : PyData} {s : Sl} {r : Rs} : frzR k d (s :: r) = fz1 k d s :: frzR k d r := rfl
theorem fz1_fz {k : Nat} {d e : PyData} : fz1 k d (.fz e) = .fz e := rfl
theorem fz1_un {k : Nat} {d : PyData} : fz1 k d .un = .un := rfl
theorem fz1_eq {k : Nat} {d : PyData} : fz1 k d (.ow k) = .fz d := if_pos rfl
theorem fz1_ne {k j : Nat} {d : PyData} (h : j ≠ k) : fz1 k d (.ow j) = .ow j := if_neg h
theorem w_notInD {ds : List PyData} {x : Str} {R : PyData → Prop} (h1 : SeqAt.shaped (.str x) = true) (h2 : SeqAt.shaped (.list ds) = true) (h : ∀ b, R (.bool b)) : W (notInD (.str x) (.list ds)) R := by
  unfold notInD
  refine W.map ?_
  show W (if SeqAt.shaped (.str x) = true ∧ SeqAt.shaped (.list ds) = true then some (ds.any fun z => PyData.eqv z (.str x)) else none) _
  exact W.guard ⟨h1, h2⟩ (.mk (h _))
theorem enum_at {ds : List PyData} {i : Nat} {d : PyData} (h : (enumD ds)[i]? = some d) : ∃ e, ds[i]? = some e ∧ d = .tuple [.int (i : Nat), e] := by
  unfold enumD at h
  rw [List.getElem?_map, List.getElem?_zipIdx] at h
  cases e1 : ds[i]? with
  | none => rw [e1] at h; cases h
  | some d1 =>
    rw [e1] at h
    simp only [Option.map_some, Nat.zero_add, Option.some.injEq] at h
    exact ⟨d1, rfl, h.symm⟩
theorem enum_len (ds : List PyData) : (enumD ds).length = ds.length := by
  unfold enumD
  rw [List.length_map, List.length_zipIdx]

end TL

end
open PySem L2 TL
local macro_rules | `(tactic| walk_at "tl3") => `(tactic| first
  | with_reducible refine w_eqX_ss ?_ | with_reducible refine w_neX_ss ?_ | with_reducible refine w_eqX_ii ?_ | with_reducible refine w_eqX_bb ?_ | with_reducible refine w_neX_bb ?_
  | with_reducible refine w_eEnumA ?_ | with_reducible refine w_enumA_l ?_ | with_reducible refine w_enumA_t ?_ | with_reducible refine w_tru_l ?_ | with_reducible refine w_tru_t ?_ | with_reducible refine w_isNot ?_
  | with_reducible refine w_tupleD_l ?_ | with_reducible refine w_tupleD_t ?_ | with_reducible refine w_listD_t ?_ | with_reducible refine w_listD_l ?_ | with_reducible refine w_intD_b ?_ | with_reducible refine w_intD_i ?_ | with_reducible refine w_min2 ?_ | with_reducible refine w_max2 ?_
  | with_reducible refine w_slc_l ?_ | with_reducible refine w_slc_t ?_ | with_reducible refine w_yes ?_ | with_reducible refine w_hCons ?_ | with_reducible refine w_hNil ?_ | ((with_reducible refine' w_hTup ?_ ?_); (exact rfl)) | with_reducible refine w_eKw ?_ | with_reducible refine w_at (atI_2 _ _ _ _) ?_ | with_reducible refine w_at (atI_3 _ _ _ _ _) ?_ | with_reducible refine w_at (atI_4 _ _ _ _ _ _) ?_
  | with_reducible refine Exists.intro _ (And.intro cell_hd (And.intro trivial ?_)) | with_reducible refine And.intro (le_line (by decide)) ?_)
local macro_rules | `(tactic| walk_at "tlew") => `(tactic| repeat (first | walk_at "tl1" | walk_at "tl3" | walk_at "tln" | (with_reducible walk_at "tlx") | dsimp only))
/-! TL28 -/
section
set_option maxHeartbeats 4000000
namespace TL
open PySem PySem.Spec PyProof.Rows L2
/-! ## what calls nothing: two words on it go together -/
inductive Still {α : Type} : Sem α → Prop
  | pure (a : α) : Still (.pure a)
  | unsup (w : String) : Still (.unsupported w)
  | rule {t : String} {k : Unit → Sem α} (h : Still (k ())) : Still (.rule t k)
  | load {a : Addr} {p : Option Value} {k : Obj → Sem α} (h : ∀ o, Still (k o)) : Still (.load a p k)
  | upd {a : Addr} {p : Option Value} {f : Obj → Obj} {k : Unit → Sem α} (h : Still (k ())) : Still (.update a p f k)
  | fresh {k : Tok → Sem α} (h : ∀ t, Still (k t)) : Still (.fresh k)
  | ask {k : Setting → Sem α} (h : ∀ t, Still (k t)) : Still (.ask k)
theorem wp_both {α : Type} {M : Model} {Γ : PySem.Ctx} {t : Sem α} (st : Still t) : ∀ {Q Q' : α → Pos → Shared → Prop} {E E' : Value → Pos → Shared → Prop} {p : Pos} {s : Shared}, Sem.wp M Γ t Q E p s → Sem.wp M Γ t Q' E' p s → Sem.wp M Γ t (fun a p s => Q a p s ∧ Q' a p s) (fun e p s => E e p s ∧ E' e p s) p s := by
  induction st with
  | pure a => intro Q Q' E E' p s h h'; exact ⟨h, h'⟩
  | unsup w => intro Q Q' E E' p s h h'; exact h
  | rule _ ih => intro Q Q' E E' p s h h'; exact ih h h'
  | load _ ih =>
    intro Q Q' E E' p s ⟨o, h1, h2⟩ ⟨o', h1', h2'⟩
    rw [h1] at h1'
    cases h1'
    exact ⟨o, h1, ih o h2 h2'⟩
  | upd _ ih => intro Q Q' E E' p s h h'; exact ⟨h.1, ih h.2 h'.2⟩
  | fresh _ ih => intro Q Q' E E' p s h h'; exact ih _ h h'
  | ask _ ih => intro Q Q' E E' p s h h'; exact ih _ h h'
theorem both {α : Type} {M : Model} {A : Around} {t : Sem α} {Q Q' : α → Shared → Prop} {E E' : Value → Shared → Prop} {s : Shared} (st : Still t) (h : wpAny M A t Q E s) (h' : wpAny M A t Q' E' s) : wpAny M A t (fun a s => Q a s ∧ Q' a s) (fun e s => E e s ∧ E' e s) s :=
  fun Γ p hΓ => wp_both st (h Γ p hΓ) (h' Γ p hΓ)
theorem Still.bind {α β : Type} {t : Sem α} {f : α → Sem β} (h : Still t) (k : ∀ a, Still (f a)) : Still (t >>= f) := by
  show Still (Sem.bind t f)
  induction h with
  | pure a => exact k a
  | unsup w => exact .unsup w
  | rule _ ih => exact .rule ih
  | load _ ih => exact .load ih
  | upd _ ih => exact .upd ih
  | fresh _ ih => exact .fresh ih
  | ask _ ih => exact .ask ih
theorem still_nsSet (ns : Addr) (x : Str) (v : Value) : Still (nsSet ns x v) := by
  unfold nsSet
  refine Still.bind ?_ fun h => Still.bind ?_ fun key => Still.bind ?_ fun o => ?_
  · unfold strHash
    exact Still.bind (.ask fun w => .pure w) fun w => .pure _
  · unfold mkText
    exact Still.bind (.fresh fun t => .pure t) fun t => .pure _
  · exact .load fun o => .pure o
  · split
    · split
      · exact Still.bind (.unsup _) fun _ => .upd (.pure _)
      · exact .upd (.pure _)
    · exact .unsup _
theorem still_cell (a : Addr) (v : Option Value) : Still (cellSet a v) := by
  unfold cellSet
  refine Still.bind (.load fun o => .pure o) fun o => ?_
  split
  · exact .upd (.pure _)
  · exact .unsup _
/-- the name x stands for just u -/
def RawAt (X : Cx) (s : Shared) (x : Str) (u : Value) : Prop :=
  (X.env.scope.names.lookup x = some .local ∧ ∃ m, s.heap.Ns X.env.locals m ∧ m x = some u) ∨ (X.env.scope.names.lookup x = some .cell ∧ ∃ c, X.env.cells.lookup x = some c ∧ s.heap.IsCell c (some u))
section
variable {X : Cx} {pins : List (Addr × Obj)} {σ : L2.St} {H : Hp} {s : Shared}
theorem store_raw {i : Nat} {x : Str} {v : V} {u : Value} {Q : Unit → Shared → Prop} {E : Value → Shared → Prop} (I : Inv X pins σ H s) (hN : X.N.Nodup) (hi : X.N[i]? = some x) (hx : Loc X.env.scope x) (r : RelV v u)
    (h : ∀ s', Inv X pins (σ.set i (some v)) H s' → RawAt X s' x u → Q () s') (hf : X.fn x = true ∨ X.env.scope.names.lookup x = some .local := by first | exact .inl rfl | exact .inr rfl | assumption) : wpAny (model X.prog X.w) X.A (storeName X.env x u) Q E s := by
  have one : wpAny (model X.prog X.w) X.A (storeName X.env x u) (fun _ s' => Inv X pins (σ.set i (some v)) H s') E s := store_ok I hN hi hx r (fun s' I' => I') hf
  have two : wpAny (model X.prog X.w) X.A (storeName X.env x u) (fun _ s' => RawAt X s' x u) E s ∧ Still (storeName X.env x u) := by
    have hcls : (X.env.scope.kind == .class || (X.env.scope.kind == .module && X.env.locals != X.env.globals)) = false := by rw [I.ok.kind]; rfl
    rcases hx with hk | hk
    · obtain ⟨m, hn, _⟩ := I.loc
      refine ⟨wpAny_storeName_local hk hn (fun h' hn' _ => .inl ⟨hk, _, hn', by simp⟩) hcls, ?_⟩
      rw [storeName_local hk hcls]
      exact still_nsSet _ _ _
    · obtain ⟨c, hc⟩ := I.ok.has x (.inl hk)
      obtain ⟨w', z⟩ := I.cell x c hc
      refine ⟨wpAny_storeName_cell I.ok.kind hk hc z fun h' hc' _ => .inr ⟨hk, c, hc, hc'⟩, ?_⟩
      have hk' : X.env.kindOf x = some .cell := hk
      unfold storeName
      simp only [hk', I.ok.kind]
      refine Still.bind ?_ fun a => still_cell a _
      unfold PySem.cellOf
      rw [hc]
      exact .pure c
  exact wpAny_mono (both two.2 one two.1) (fun _ s' ⟨q1, q2⟩ => h s' q1 q2) fun _ _ q => q.1
theorem raw_at {x : Str} {u : Value} {pos : Pos} {Q E : Value → Shared → Prop} (I : Inv X pins σ H s) (h : RawAt X s x u) (fin : Q u s) (hd : (x == ("__debug__" : Str)) = false := by decide) : wpAny (model X.prog X.w) X.A (eval (.Name x pos) X.env) Q E s := by
  rcases h with ⟨hk, m, hn, hm⟩ | ⟨hk, c, hc, hz⟩
  · exact wpAny_Name (wpAny_loadName_local I.ok.kind hk hn hm fin) hd
  · exact wpAny_Name (wpAny_loadName_cell I.ok.kind hk hc hz fin) hd
end
end TL

end
/-! TL29 -/
section
set_option maxHeartbeats 4000000
namespace TL
open PySem PySem.Spec PyProof.Rows L2
/-! ## y = 'text'[e]; z = k.replace(y, '') -/
def replR (iy iz ik : Nat) (C : Str) (v : PyData) (r : Rs) : Option Rs := match v with
  | .int j => (atI C.cps.toList j).bind fun c => match (r.set iy (.fz (.str ⟨#[c]⟩)))[ik]? with
    | some (.fz (.str L)) => if C.length ≤ sizeLine ∧ L.length ≤ 1000000 then some ((r.set iy (.fz (.str ⟨#[c]⟩))).set iz (.fz (.str (Txt.replace L ⟨#[c]⟩ "")))) else none
    | _ => none
  | _ => none
def sRepl (iy iz ik : Nat) (C : Str) (f : Ev) : Es := fun r m => (f r m).bind fun p => (replR iy iz ik C p.1 r).map fun r' => .nx r' p.2
theorem repl_some {iy iz ik : Nat} {C : Str} {f : Ev} {r : Rs} {m : Ms} {o : Out} (e : sRepl iy iz ik C f r m = some o) :
    ∃ (j : Int) (m1 : Ms) (c : Nat) (L : Str), f r m = some (.int j, m1) ∧ atI C.cps.toList j = some c ∧ (r.set iy (.fz (.str ⟨#[c]⟩)))[ik]? = some (.fz (.str L)) ∧ C.length ≤ sizeLine ∧ L.length ≤ 1000000 ∧ o = .nx ((r.set iy (.fz (.str ⟨#[c]⟩))).set iz (.fz (.str (Txt.replace L ⟨#[c]⟩ "")))) m1 := by
  unfold sRepl at e
  cases e1 : f r m with
  | none => rw [e1] at e; cases e
  | some p =>
    obtain ⟨d, m1⟩ := p
    rw [e1] at e
    simp only [Option.bind_some] at e
    unfold replR at e
    cases d with
    | int j =>
      simp only at e
      cases e2 : atI C.cps.toList j with
      | none => rw [e2] at e; cases e
      | some c =>
        rw [e2] at e
        simp only [Option.bind_some] at e
        split at e
        · rename_i L hL
          split at e
          · rename_i hz
            cases e
            exact ⟨j, m1, c, L, rfl, e2, hL, hz.1, hz.2, rfl⟩
          · cases e
        · cases e
    | _ => cases e
theorem qs_repl {X : Cx} {U : Hp} {n0 iy iz ik j0 j1 : Nat} {y z k : Str} {C : Str} {idx : Expr} {f : Ev} {rest : List Stmt} {s2 : Es} {p1 p2 p3 p4 p5 c0 c1 apos cpos spos tpos : Pos} (hN : X.N.Nodup) (hy : X.N[iy]? = some y) (hyl : Loc X.env.scope y) (hz : X.N[iz]? = some z) (hzl : Loc X.env.scope z) (hk : X.N[ik]? = some k) (hkv : Loc X.env.scope k)
    (hidx : PE X idx (tE X.K U f)) (hrest : PSs X rest (tS X.K U n0 s2)) (hyf : X.fn y = true ∨ X.env.scope.names.lookup y = some .local) (hzf : X.fn z = true ∨ X.env.scope.names.lookup z = some .local) (hs : PlainIx idx := by intro _ _; rfl)
    (hs1 : swapsWith (.Subscript (.Constant (.str C) j0 c0) idx p2) (some (.Name y p1)) spos.line X.env = pure false := by rfl)
    (hs2 : swapsWith (.Call (.Attribute (.Name k p4) "replace" apos) [.Name y p5, .Constant (.str "") j1 c1] [] cpos) (some (.Name z p3)) tpos.line X.env = pure false := by rfl)
    (hdk : (k == ("__debug__" : Str)) = false := by decide) (hck : (k == ("__classdict__" : Str)) = false := by decide) (hdy : (y == ("__debug__" : Str)) = false := by decide)
    (hst : starEach [.Name y p5, .Constant (.str "") j1 c1] X.env = [(false, eval (.Name y p5) X.env), (false, eval (.Constant (.str "") j1 c1) X.env)] := by rfl)
    (hbase : attributeBase (.Name k p4) "replace" X.env (eval (.Name k p4) X.env) = eval (.Name k p4) X.env := by rfl) (hline : (apos.endLine == cpos.line) = true := by rfl) :
    PSs X (.Assign [.Name y p1] (.Subscript (.Constant (.str C) j0 c0) idx p2) spos :: .Assign [.Name z p3] (.Call (.Attribute (.Name k p4) "replace" apos) [.Name y p5, .Constant (.str "") j1 c1] [] cpos) tpos :: rest) (tS X.K U n0 (sSeq (sRepl iy iz ik C f) s2)) := by
  refine ⟨fun pins s σ H D I ⟨A, F, r, m, o, G, hn, e, p⟩ => ?_⟩
  unfold sSeq at e
  cases e0 : sRepl iy iz ik C f r m with
  | none => rw [e0] at e; cases e
  | some o1 =>
    rw [e0] at e
    simp only [Option.bind_some] at e
    obtain ⟨j, m1, c, L, e1, e2, e3, hC, hL, rfl⟩ := repl_some e0
    simp only at e
    refine wpAny_execs_cons (wpAny_Assign_Name (Subscript_ (Calls.Constant_str ?_)) hs1)
    have reads : tE X.K U f σ H (fun w H1 => ∃ F1, w = V.int j ∧ Same F F1 ∧ Good X.K U A F1 H1 σ r m1) := ⟨A, F, r, m, .int j, m1, G, e1, fun F1 H1 w s1 G1 h1 => by
      cases h1
      exact ⟨F1, rfl, s1, G1⟩⟩
    refine wpAny_mono (PySem.wpAny_toks (hidx.run pins _ σ H _ (I.tok (s.toks + 1)) reads)) (fun u s1 ⟨k1, w, H1, I1, rw1, F1, ew, sF, G1⟩ => ?_) fun _ _ z => z.2
    subst ew
    obtain ⟨tj, rfl⟩ := rw1
    have k1 : s.toks + 1 ≤ s1.toks := k1
    obtain ⟨q, h1, h2, h3, h4, h5⟩ := atI_get e2
    have hl : C.cps.toList.length = C.length := by simp [Str.length]
    rw [hl] at h1 h4 h5
    have line := line63
    refine tail_any (typeIs_str s1 C s.toks) slot_str_getitem.lookup (getItem_str (c := c) (by
      have q1 : decide (j < -(2 ^ 63 : Int)) = false := decide_eq_false (by omega)
      have q2 : decide (j ≥ 2 ^ 63) = false := decide_eq_false (by omega)
      rw [q1, q2, Bool.or_false]) (by rw [h1]; simpa using h2) ?_) (hs _ _)
    refine wpAny_mono (PySem.wpAny_toks (store_raw (v := V.str ⟨#[c]⟩) (Q := fun _ s' => Inv X pins (σ.set iy (some (V.str ⟨#[c]⟩))) H1 s' ∧ RawAt X s' y (.str ⟨#[c]⟩ s1.toks)) (I1.tok (s1.toks + 1)) hN hy hyl ⟨s1.toks, rfl⟩ (fun s' q1 q2 => ⟨q1, q2⟩) hyf)) (fun _ s3 ⟨k3, I3, raw⟩ => ?_) fun _ _ z => z.2
    have k3 : s1.toks + 1 ≤ s3.toks := k3
    have G3 : Good X.K U A F1 H1 (σ.set iy (some (V.str ⟨#[c]⟩))) (r.set iy (.fz (.str ⟨#[c]⟩))) m1 := G1.setFz (.vs _)
    obtain ⟨vk, hvk, rk⟩ := G3.fz ik _ e3
    cases rk
    have hkv' : Vis X.env.scope k := hkv.elim .inl (fun q => .inr (.inl q))
    refine wpAny_execs_cons (wpAny_Assign_Name (PySem.Call_method2 hbase hst hline (raw_name hk hkv' I3 hvk (fun v rv => ?_) hdk hck)) hs2)
    obtain ⟨tx, rfl⟩ := rv
    refine ⟨"str", _, PySem.F.plainAttrs_str, PySem.F.slot_str_replace, PySem.F.type_str_replace, typeIs_str _ _ _, (fun _ e => nomatch e), Calls.callWith_builtin rfl (Calls.evalArgs_plain (Calls.spliced_cons ?_))⟩
    refine raw_at I3 raw ?_ hdy
    refine Calls.spliced_cons (Calls.Constant_str (Calls.spliced_nil ?_))
    have hyz : ((⟨#[c]⟩ : Str) == ("" : Str)) = false := by
      rw [beq_eq_false_iff_ne]
      intro q
      have := congrArg Str.length q
      cases this
    have hb : L.length + (L.length + 1) * ("" : Str).length ≤ 16777216 := by
      have : ("" : Str).length = 0 := rfl
      rw [this, Nat.mul_zero]
      omega
    refine PySem.SC.replace (u := s1.toks) (v := s3.toks) (show s1.toks ≠ 0 by omega) (show s3.toks ≠ 0 by omega) (show s1.toks ≠ s3.toks by omega) hyz hb fun t' kk => ?_
    refine store_ok (v := V.str (Txt.replace L ⟨#[c]⟩ "")) (I3.tok kk) hN hz hzl ⟨t', rfl⟩ (fun s5 I5 => ?_) hzf
    exact hrest.run pins s5 _ H1 D I5 ⟨A, F1, _, m1, o, G3.setFz (.vs _), hn, e, p.later (List.prefix_refl A) sF⟩
theorem w_repl {iy iz ik : Nat} {C : Str} {f : Ev} {r : Rs} {m : Ms} {Q : Out → Prop} (h : W (f r m) fun p => W (replR iy iz ik C p.1 r) fun r' => Q (.nx r' p.2)) : W (sRepl iy iz ik C f r m) Q := W.bind (W.mono h fun _ h => W.map h)
end TL

end
/-! TL30 -/
section
set_option maxHeartbeats 4000000
namespace TL
open PySem PySem.Spec PyProof.Rows L2
/-! ## bits, ord, sum, min of a list -/
def borD : PyData → PyData → Option PyData
  | .int i, .int j => some (.int (Builtin.bitOr i j))
  | _, _ => none
def bandD : PyData → PyData → Option PyData
  | .int i, .int j => some (.int (Builtin.bitAnd i j))
  | _, _ => none
def bxorD : PyData → PyData → Option PyData
  | .int i, .int j => some (.int (Builtin.bitXor i j))
  | _, _ => none
def shlD : PyData → PyData → Option PyData
  | .int i, .int j => if 0 ≤ j ∧ j ≤ 1000000 ∧ i.natAbs < 2 ^ 64 then some (.int (i * 2 ^ j.toNat)) else none
  | _, _ => none
def shrD : PyData → PyData → Option PyData
  | .int i, .int j => if 0 ≤ j then some (.int (i / 2 ^ j.toNat)) else none
  | _, _ => none
def ordD : List PyData → Option PyData
  | [.str x] => if x.length = 1 then some (.int (x.cps.getD 0 0 : Nat)) else none
  | _ => none
def intsOf : List PyData → Option (List Int)
  | [] => some []
  | .int i :: ds => (intsOf ds).map (i :: ·)
  | _ => none
def sumD : List PyData → Option PyData
  | [.list ds] => (intsOf ds).map fun ns => .int ns.sum
  | _ => none
def minI : List Int → Option Int
  | [] => none
  | i :: is => some (is.foldl (fun a b => if b < a then b else a) i)
def minLD : List PyData → Option PyData
  | [.list ds] => (intsOf ds).bind fun ns => (minI ns).map .int
  | _ => none
theorem intsOf_rp {K : PySem.W.Frag} {F : Hp} : ∀ {vs : List V} {ds : List PyData} {ns : List Int}, RpAll K F vs ds → intsOf ds = some ns → vs = ns.map V.int
  | _, _, _, .nil, e => by cases e; rfl
  | _, d :: ds, ns, .cons h t, e => by
    cases d with
    | int i =>
      unfold intsOf at e
      cases e1 : intsOf ds with
      | none => rw [e1] at e; cases e
      | some ms =>
        rw [e1] at e
        cases e
        cases h
        rw [intsOf_rp t e1]
        rfl
    | _ => cases e
theorem ints_map : ∀ ns : List Int, intsOf (ns.map .int) = some ns
  | [] => rfl
  | n :: ns => by rw [List.map_cons, intsOf, ints_map ns]; rfl
theorem fold_min : ∀ (is : List Int) (i : Int), (is.foldl (fun a b => if b < a then b else a) i ∈ i :: is) ∧ ∀ y ∈ i :: is, is.foldl (fun a b => if b < a then b else a) i ≤ y
  | [], i => ⟨List.mem_cons_self, fun y hy => by rw [List.mem_singleton.mp hy]; exact Int.le_refl _⟩
  | j :: is, i => by
    rw [List.foldl_cons]
    obtain ⟨h1, h2⟩ := fold_min is (if j < i then j else i)
    refine ⟨?_, fun y hy => ?_⟩
    · rcases List.mem_cons.mp h1 with q | q
      · rw [q]
        split
        · exact List.mem_cons_of_mem _ List.mem_cons_self
        · exact List.mem_cons_self
      · exact List.mem_cons_of_mem _ (List.mem_cons_of_mem _ q)
    · have h3 := h2 _ List.mem_cons_self
      generalize List.foldl (fun a b => if b < a then b else a) (if j < i then j else i) is = z at h2 h3
      rcases List.mem_cons.mp hy with q | q
      · rw [q]
        split at h3 <;> omega
      · rcases List.mem_cons.mp q with q | q
        · rw [q]
          split at h3 <;> omega
        · exact h2 y (List.mem_cons_of_mem _ q)
section
variable {X : Cx} {U : Hp}
theorem od_bor : OpD X U (rI0 fun i j => .int (Builtin.bitOr i j)) borD := by
  intro A F H σ r m x y a b d Q G ha hb e k
  unfold borD at e
  split at e
  · cases ha; cases hb; cases e
    exact ⟨_, _, rfl, rfl, k F H _ (Same.refl F) G (.vi _)⟩
  · cases e
theorem od_band : OpD X U (rI0 fun i j => .int (Builtin.bitAnd i j)) bandD := by
  intro A F H σ r m x y a b d Q G ha hb e k
  unfold bandD at e
  split at e
  · cases ha; cases hb; cases e
    exact ⟨_, _, rfl, rfl, k F H _ (Same.refl F) G (.vi _)⟩
  · cases e
theorem od_bxor : OpD X U (rI0 fun i j => .int (Builtin.bitXor i j)) bxorD := by
  intro A F H σ r m x y a b d Q G ha hb e k
  unfold bxorD at e
  split at e
  · cases ha; cases hb; cases e
    exact ⟨_, _, rfl, rfl, k F H _ (Same.refl F) G (.vi _)⟩
  · cases e
theorem od_shl : OpD X U (rI CPow fun i j => .int (i * 2 ^ j.toNat)) shlD := by
  intro A F H σ r m x y a b d Q G ha hb e k
  unfold shlD at e
  split at e
  · split at e
    · rename_i hc
      cases ha; cases hb; cases e
      exact ⟨_, _, rfl, rfl, hc, k F H _ (Same.refl F) G (.vi _)⟩
    · cases e
  · cases e
theorem od_shr : OpD X U (rI (fun _ j => 0 ≤ j) fun i j => .int (i / 2 ^ j.toNat)) shrD := by
  intro A F H σ r m x y a b d Q G ha hb e k
  unfold shrD at e
  split at e
  · split at e
    · rename_i hc
      cases ha; cases hb; cases e
      exact ⟨_, _, rfl, rfl, hc, k F H _ (Same.refl F) G (.vi _)⟩
    · cases e
  · cases e
theorem qe_bor {a b : Expr} {f g : Ev} {pos : Pos} (ha : PE X a (tE X.K U f)) (hb : PE X b (tE X.K U g)) : PE X (.BinOp a .BitOr b pos) (tE X.K U (eBin borD f g)) := qe_op op_or od_bor ha hb
theorem qe_band {a b : Expr} {f g : Ev} {pos : Pos} (ha : PE X a (tE X.K U f)) (hb : PE X b (tE X.K U g)) : PE X (.BinOp a .BitAnd b pos) (tE X.K U (eBin bandD f g)) := qe_op op_and od_band ha hb
theorem qe_bxor {a b : Expr} {f g : Ev} {pos : Pos} (ha : PE X a (tE X.K U f)) (hb : PE X b (tE X.K U g)) : PE X (.BinOp a .BitXor b pos) (tE X.K U (eBin bxorD f g)) := qe_op op_xor od_bxor ha hb
theorem qe_shl {a b : Expr} {f g : Ev} {pos : Pos} (ha : PE X a (tE X.K U f)) (hb : PE X b (tE X.K U g)) : PE X (.BinOp a .LShift b pos) (tE X.K U (eBin shlD f g)) := qe_op op_shl od_shl ha hb
theorem qe_shr {a b : Expr} {f g : Ev} {pos : Pos} (ha : PE X a (tE X.K U f)) (hb : PE X b (tE X.K U g)) : PE X (.BinOp a .RShift b pos) (tE X.K U (eBin shrD f g)) := qe_op op_shr od_shr ha hb
theorem cd_ord : CallD X U (fun xs H Q => ∃ x, xs = [.str x] ∧ x.length = 1 ∧ Q (.int (x.cps.getD 0 0 : Nat)) H) ordD := by
  intro A F H σ r m vs ds d Q G ha e k
  unfold ordD at e
  split at e
  · split at e
    · rename_i hc
      cases e
      obtain ⟨v, rfl, h⟩ := rpa1 ha
      cases h
      exact ⟨_, rfl, hc, k F H _ (Same.refl F) G (.vi _)⟩
    · cases e
  · cases e
theorem cd_sum : CallD X U (rSum X.K) sumD := by
  intro A F H σ r m vs ds d Q G ha e k
  unfold sumD at e
  split at e
  · rename_i l
    cases e1 : intsOf l with
    | none => rw [e1] at e; cases e
    | some ns =>
      rw [e1] at e
      cases e
      obtain ⟨v, rfl, h⟩ := rpa1 ha
      cases h with
      | vl sa ra =>
        have q := intsOf_rp ra e1
        subst q
        exact ⟨_, ns, rfl, sqL_mono G.sub sa, k F H _ (Same.refl F) G (.vi _)⟩
  · cases e
theorem cd_minL : CallD X U (rMin X.K) minLD := by
  intro A F H σ r m vs ds d Q G ha e k
  unfold minLD at e
  split at e
  · rename_i l
    cases e1 : intsOf l with
    | none => rw [e1] at e; cases e
    | some ns =>
      rw [e1] at e
      cases ns with
      | nil => cases e
      | cons i is =>
        cases e
        obtain ⟨v, rfl, h⟩ := rpa1 ha
        cases h with
        | vl sa ra =>
          have q := intsOf_rp ra e1
          subst q
          refine ⟨_, i :: is, rfl, sqL_mono G.sub sa, Nat.succ_pos _, fun z hz hle => ?_⟩
          obtain ⟨h1, h2⟩ := fold_min is i
          have : z = is.foldl (fun a b => if b < a then b else a) i := Int.le_antisymm (hle _ h1) (h2 _ hz)
          rw [this]
          exact k F H _ (Same.refl F) G (.vi _)
  · cases e
end
/-- the scope of a comprehension that a statement stores -/
def lcSc (d : Scope) : Stmt → Scope
  | .Assign _ (.ListComp _ _ sc _) _ => sc
  | _ => d
/-! ## keywords in any order, some left out -/
theorem kbw {K : PySem.W.Frag} {x qual : Str} {params : Arguments} {body : List Stmt} {scope : Scope} {kws : List (Str × V)} {f : Addr} {fd : FuncData} {ps : List Str} (F : FunD K x qual params body scope [] kws f fd) (n : Nat) (ks : List Str) (ms : List (Str × V)) (hk : kws ≠ []) (hms : ∀ q ∈ ms, q ∈ kws)
    (g : {α : Type} → List α → List α → List α → List α) (hrel : ∀ {vs mz zs : List V} {us mv ws : List Value}, mz.length = ms.length → zs.length = ks.length → Vals vs us → Vals mz mv → Vals zs ws → Vals (g vs mz zs) (g us mv ws))
    (h : ∀ (D : Addr) (doc pm : Value) (an : Option Addr) (cdv ct : Value) (us mv ws : List Value), us.length = n → mv.length = ms.length → ws.length = ks.length → KwChain D ((ms.map (·.1)).zip mv) (bindArgs (PySem.W.fnOf x qual params body scope .none (.ref D) doc pm an cdv ct) ⟨us, ks.zip ws⟩) (ps.zip (g us mv ws))) :
    ∃ mv : List Value, Vals (ms.map (·.2)) mv ∧ (∀ (s : Shared) (us ws : List Value), K.In s.heap → us.length = n → ws.length = ks.length → BindsTo s fd ⟨us, ks.zip ws⟩ (ps.zip (g us mv ws))) := by
  obtain ⟨oc, od, dV, kV, doc, pm, an, cdv, ct, osl, rfl, lk, hcd, hD, hK⟩ := F.ex
  rcases hD with ⟨_, rfl⟩ | ⟨e, _⟩
  · rcases hK with e | ⟨D, rfl, hq⟩
    · exact absurd e hk
    · obtain ⟨mv, hl, rk, hv⟩ := kwd_vals (ms := ms) fun q hm => hq q (hms q hm)
      exact ⟨mv, rk, fun s us ws X l1 l2 => BindsTo.of_looks fun M => KwChain.looks X hv (h D doc pm an cdv ct us mv ws l1 hl l2)⟩
  · exact absurd rfl e
structure CalW (P : Program) (w : World) (K : PySem.W.Frag) (mg : Str → Option Value) (base : Heap) (x : Str) (k : Nat) (ps : List Str) (n : Nat) (ks : List Str) (ar : List PyData → List PyData) (sp : Sp) : Prop where
  ex : ∃ (f : Addr) (fd : FuncData) (g : List Value → List Value → List Value) (gV : List V → List V → List V), FnG P w K mg base k f fd ps sp ∧ mg x = some (.ref f) ∧ PySem.W.keepIn K (.ref f) = true ∧
    (∀ (s : Shared) (us ws : List Value), K.In s.heap → us.length = n → ws.length = ks.length → BindsTo s fd ⟨us, ks.zip ws⟩ (ps.zip (g us ws))) ∧ (∀ {vs : List V} {us : List Value} {zs : List V} {ws : List Value}, zs.length = ks.length → Vals vs us → Vals zs ws → Vals (gV vs zs) (g us ws)) ∧
    ∀ (F : Hp) (vs zs : List V) (ds es : List PyData), zs.length = ks.length → RpAll K F vs ds → RpAll K F zs es → RpAll K F (gV vs zs) (ds ++ ar es)
def eKwA (c k n : Nat) (ar : List PyData → List PyData) (g : List PyData → Option PyData) (f fk : Eas) : Ev := fun r m => (f r m).bind fun p => (fk r p.2).bind fun q => if p.1.length = c ∧ q.1.length = k then (arN n g (p.1 ++ ar q.1)).map fun d => (d, q.2) else none
section
variable {X : Cx} {U : Hp} {x : Str} {p pos : Pos} {e : Expr} {es : List Expr} {kws : List Keyword} {f fk : Eas} {c j k n kl : Nat} {ps ks : List Str} {ar : List PyData → List PyData}
theorem qc_callWG {g : List PyData → Option PyData} (C : CalW X.prog X.w X.K X.mg X.base x k ps c ks ar (spD X.K n g)) (hr : Room j X.A) (gd : X.A.guards = some []) (hjk : k ≤ j) (ha : PA X (e :: es) (tAs X.K U f)) (hkw : PK X kws (tAs X.K U fk)) (hg : Gl X x := by rfl)
    (hall : (backToKw pos (keywordEach kws X.env)).all (·.1.isSome) = true := by rfl) (hks : (backToKw pos (keywordEach kws X.env)).filterMap (·.1) = ks := by rfl) (hdb : (x == ("__debug__" : Str)) = false := by decide)
    (he : starEach (e :: es) X.env = (false, eval e X.env) :: starEach es X.env := by rfl) (hpl : ((backTo pos (starEach (e :: es) X.env)).any (·.1) || (backToKw pos (keywordEach kws X.env)).any (·.1.isNone)) = false := by rfl) (hkl : ks.length = kl := by rfl) :
    PE X (.Call (.Name x p) (e :: es) kws pos) (tE X.K U (eKwA c kl n ar g f fk)) := by
  subst hkl
  obtain ⟨fa, fd, gg, gV, Fn, h2, h3, hto, hrel, hrp⟩ := C.ex
  refine ⟨fun pins s σ H Q I ⟨A, F, r, m, d, m', G, e0, kk⟩ => ?_⟩
  unfold eKwA at e0
  cases e1 : f r m with
  | none => rw [e1] at e0; cases e0
  | some z1 =>
    obtain ⟨ds, m1⟩ := z1
    cases e2 : fk r m1 with
    | none => simp [e1, e2] at e0
    | some z2 =>
      obtain ⟨zs, m2⟩ := z2
      simp only [e1, e2, Option.bind_some] at e0
      split at e0
      · rename_i hc
        cases e3 : arN n g (ds ++ ar zs) with
        | none => rw [e3] at e0; cases e0
        | some d3 =>
          rw [e3] at e0
          cases e0
          obtain ⟨l2, e4⟩ := arN_some e3
          apply wpAny_Call_Name_kw (ld_glob I hg h2 ?_ hdb)
          apply PySem.W.callWith_KW (h₀ := X.base) I.ok.mod.kin h3 hall (thn (ha.run pos pins s σ H _ I ⟨A, F, r, m, ds, m1, G, e1, fun F1 H1 vs s1 G1 h1 => (show ∃ F1, Same F F1 ∧ Good X.K U A F1 H1 σ r m1 ∧ RpAll X.K F1 vs ds from ⟨F1, s1, G1, h1⟩)⟩) fun us s1 ⟨vs, H1, I1, r1, F1, sF1, G1, h1⟩ => ?_) hpl he
          apply thn (hkw.run pos pins s1 σ H1 _ I1 ⟨A, F1, r, m1, zs, m', G1, e2, fun F2 H2 ws s2 G2 h6 => (show ∃ F2, Same F1 F2 ∧ Good X.K U A F2 H2 σ r m' ∧ RpAll X.K F2 ws zs from ⟨F2, s2, G2, h6⟩)⟩)
          rintro ws s2 ⟨zv, H2, I2, rz, F2, sF2, G2, h6⟩
          refine ⟨I2.kIn, ?_⟩
          rw [hks]
          have lu : us.length = c := by rw [← r1.length, rpa_len h1]; exact hc.1
          have lz : zv.length = ks.length := (rpa_len h6).trans hc.2
          have lw : ws.length = ks.length := rz.length.symm.trans lz
          have all := hrp F2 vs zv ds zs lz (Rpam sF2 h1) h6
          have q2 : spD X.K n g (gV vs zv) H2 Q E0 := ⟨F2, ds ++ ar zs, _, G2.sub, by rw [rpa_len all]; exact l2, all, e4, fun F3 H3 v s3 s4 k4 h7 => kk F3 H3 v (sF1.trans (sF2.trans s3)) (G2.past s3 s4 k4) h7⟩
          apply wpAny_call
          refine codeAny_mono (Fn.run X.A X.stack s2 H2 ⟨us, ks.zip ws⟩ (gg us ws) (gV vs zv) Q E0 (hr.mono hjk) gd I2.env0 (hto s2 us ws I2.kIn lu lw) (hrel lz r1 rz) q2) fun res s' done => ?_
          cases res with
          | error err => exact pass0 pins σ H2 s2 err s' I2 done
          | ok flow =>
            cases flow with
            | ret u => exact I2.after done
            | next => exact done.elim
            | brk => exact done.elim
            | cont => exact done.elim
      · cases e0
end
section
variable {r : Rs} {m : Ms} {Q : PyData × Ms → Prop} {R : PyData → Prop} {fs : Eas} {i j : Int} {x : Str} {ns : List Int} {d : PyData}
theorem w_bor (q : R (.int (Builtin.bitOr i j))) : W (borD (.int i) (.int j)) R := .mk q
theorem w_band (q : R (.int (Builtin.bitAnd i j))) : W (bandD (.int i) (.int j)) R := .mk q
theorem w_bxor (q : R (.int (Builtin.bitXor i j))) : W (bxorD (.int i) (.int j)) R := .mk q
theorem w_shl (h0 : 0 ≤ j) (h1 : j ≤ 1000000) (h2 : i.natAbs < 2 ^ 64) (q : R (.int (i * 2 ^ j.toNat))) : W (shlD (.int i) (.int j)) R := W.guard ⟨h0, h1, h2⟩ (.mk q)
theorem w_shr (h0 : 0 ≤ j) (q : R (.int (i / 2 ^ j.toNat))) : W (shrD (.int i) (.int j)) R := W.guard h0 (.mk q)
theorem w_ord {c : Nat} (q : R (.int (c : Nat))) : W (ordD [.str ⟨#[c]⟩]) R := by
  unfold ordD
  exact W.guard rfl (.mk q)
theorem w_sum (q : R (.int ns.sum)) : W (sumD [.list (ns.map .int)]) R := by
  unfold sumD
  exact W.map (W.of (ints_map ns) q)
theorem w_eKwA {c k n : Nat} {ar : List PyData → List PyData} {u : List PyData → Option PyData} {fk : Eas} (q : W (fs r m) fun p => W (fk r p.2) fun z => p.1.length = c ∧ z.1.length = k ∧ W (arN n u (p.1 ++ ar z.1)) fun d => Q (d, z.2)) : W (eKwA c k n ar u fs fk r m) Q :=
  W.bind (W.mono q fun p q => W.bind (W.mono q fun z ⟨e1, e2, q⟩ => W.guard ⟨e1, e2⟩ (W.map q)))
end
end TL

end
/-! TL31 -/
section
set_option maxHeartbeats 4000000
namespace TL
open PySem L2
/-! ## texts whose signs have a property -/
def Lp (P : Nat → Prop) (n : Nat) (s : Str) : Prop := s.cps.size ≤ n ∧ ∀ c ∈ s.cps.toList, P c
section
variable {P : Nat → Prop} {n k : Nat} {s t : Str}
theorem Lp.mono (h : Lp P n s) (l : n ≤ k) : Lp P k s := ⟨Nat.le_trans h.1 l, h.2⟩
theorem Lp.app (h : Lp P n s) (h' : Lp P k t) : Lp P (n + k) (s ++ t) := by
  have e : (s ++ t).cps = s.cps ++ t.cps := rfl
  refine ⟨?_, fun c hc => ?_⟩
  · rw [e, Array.size_append]
    have := h.1
    have := h'.1
    omega
  · rw [e, Array.toList_append] at hc
    rcases List.mem_append.mp hc with q | q
    · exact h.2 c q
    · exact h'.2 c q
theorem Lp.one {c : Nat} (h : P c) : Lp P 1 ⟨#[c]⟩ := ⟨Nat.le_refl 1, fun d hd => by
  have : d = c := by simpa using hd
  rw [this]
  exact h⟩
theorem Lp.mul (h : Lp P n s) (k : Int) : Lp P (n * k.toNat) (Txt.mul s k) := by
  unfold Txt.mul
  split
  · exact ⟨Nat.zero_le _, fun c hc => by cases hc⟩
  · split
    · rename_i h1 h2
      refine ⟨?_, h.2⟩
      have : 1 ≤ k.toNat := by omega
      exact Nat.le_trans h.1 (by
        have := Nat.mul_le_mul_left n this
        rwa [Nat.mul_one] at this)
    · have e := fold_app (List.replicate k.toNat s.cps) #[]
      rw [List.map_replicate] at e
      refine ⟨?_, fun c hc => ?_⟩
      · show ((List.replicate k.toNat s.cps).foldl (· ++ ·) #[]).size ≤ _
        rw [← Array.length_toList, e, List.length_append, List.length_flatten, List.map_replicate, List.sum_replicate_nat, Array.length_toList]
        have := Nat.mul_le_mul_left k.toNat h.1
        rw [Nat.mul_comm n]
        simpa using this
      · have hc' : c ∈ ((List.replicate k.toNat s.cps).foldl (· ++ ·) #[]).toList := hc
        rw [e, List.mem_append] at hc'
        rcases hc' with q | q
        · cases q
        · obtain ⟨l, hl, hc2⟩ := List.mem_flatten.mp q
          rw [List.eq_of_mem_replicate hl] at hc2
          exact h.2 c hc2
theorem Lp.lw (h : Lp P n s) (hP : ∀ c, P c → c < 128) : Lw n s := ⟨h.1, fun c hc => hP c (h.2 c hc)⟩
end
/-- small letters -/
def isL (c : Nat) : Prop := 97 ≤ c ∧ c < 123
abbrev Lc (n : Nat) (s : Str) : Prop := Lp isL n s
theorem Lc.lw {n : Nat} {s : Str} (h : Lc n s) : Lw n s := Lp.lw h fun c hc => by have := hc.2; omega
theorem Lc.nil {n : Nat} : Lc n "" := ⟨Nat.zero_le _, fun c hc => by cases hc⟩

end TL

end
open PySem L2 TL
local macro_rules | `(tactic| walk_at "tl5") => `(tactic| first
  | with_reducible refine w_bor ?_ | with_reducible refine w_band ?_ | with_reducible refine w_ord ?_ | with_reducible refine w_eKwA ?_ | with_reducible refine w_repl ?_ | with_reducible refine And.intro trivial ?_)
local macro_rules | `(tactic| walk_at "tlex") => `(tactic| repeat (first | walk_at "tl1" | walk_at "tl3" | walk_at "tl5" | walk_at "tln" | (with_reducible walk_at "tlx") | dsimp only))
/-! TL32 -/
section
set_option maxHeartbeats 4000000
namespace TL
open PySem PySem.Spec PyProof.Rows L2 HT
/-! ## divmod -/
def divmodD : List PyData → Option PyData
  | [.int i, .int j] => if 0 < j ∧ Builtin.Int.intBits i ≤ Builtin.Int.intBits j + 4000 then some (.tuple [.int (i / j), .int (i % j)]) else none
  | _ => none
section
variable {X : Cx} {U : Hp}
theorem cd_divmod : CallD X U (fun xs H Q => ∃ i j, xs = [.int i, .int j] ∧ CDivP i j ∧ ∀ p, H p = none → Q (.ref p) (upd H p (.tup [.int (i / j), .int (i % j)]))) divmodD := by
  intro A F H σ r m vs ds d Q G ha e k
  unfold divmodD at e
  split at e
  · split at e
    · rename_i hz
      cases e
      obtain ⟨v, w, rfl, h1, h2⟩ := rpa2 ha
      cases h1
      cases h2
      refine ⟨_, _, rfl, divp_ok hz.1 hz.2, fun p np => ?_⟩
      have sF := fun (o : HO) => same_new (o := o) (G.nope np).1
      exact k _ _ _ (sF _) (G.laid np) (.vt (.inl (.inl upd_same)) (.cons (.vi _) (.cons (.vi _) .nil)))
    · cases e
  · cases e
end
/-! ## e[::-1] -/
section
variable {prog : Program} {w : World} {A : Around} {E : Value → Shared → Prop} {s : Shared}
theorem sliceApplied_rev {sl : Addr} {u : Tok} {n : Nat} {Q : Int × Int × Nat → Shared → Prop} (hs : s.heap.IsSliceOf sl .none .none (.int (-1) u))
    (h : Q ((n : Int) - 1, -1, n) s) : wpAny (model prog w) A (Builtin.Slice.sliceApplied (.ref sl) (pure (n : Int))) Q E s := by
  obtain ⟨os, hos, hcs, hds⟩ := id hs
  unfold Builtin.Slice.sliceApplied Builtin.Slice.sliceFields
  refine wpAny_bind (wpAny_bind (wpAny_field hos hds (x := .none) rfl (wpAny_bind (wpAny_field hos hds (x := .none) rfl (wpAny_bind (wpAny_field hos hds (x := .int (-1) u) rfl (wpAny_pure ?_)))))))
  refine wpAny_bind (slicePart_int ?_)
  show wpAny _ _ (if ((-1 : Int) == 0) = true then _ else _) _ _ s
  rw [if_neg (by decide)]
  refine wpAny_bind (slicePart_none (wpAny_bind (slicePart_none (wpAny_bind (wpAny_pure ?_)))))
  have e1 : Builtin.Slice.sliceAdjust none none (-1) (n : Int) = ((n : Int) - 1, -1) := by
    unfold Builtin.Slice.sliceAdjust
    simp
  show wpAny _ _ (match Builtin.Slice.sliceAdjust none none (-1) (n : Int) with | (lo, hi) => pure (lo, (-1 : Int), Builtin.Slice.slicePlaces lo hi (-1))) _ _ s
  rw [e1]
  have e2 : Builtin.Slice.slicePlaces ((n : Int) - 1) (-1) (-1) = n := by
    unfold Builtin.Slice.slicePlaces
    simp
    omega
  show wpAny _ _ (pure ((n : Int) - 1, (-1 : Int), Builtin.Slice.slicePlaces ((n : Int) - 1) (-1) (-1))) _ _ s
  rw [e2]
  exact wpAny_pure h
theorem fm_range {f : Nat → Option Value} {l : List Value} (h : ∀ m, m < l.length → f m = l[m]?) : ∀ n, n ≤ l.length → (List.range n).filterMap f = l.take n
  | 0, _ => by simp
  | n + 1, hn => by
    rw [List.range_succ, List.filterMap_append, fm_range h n (by omega), List.take_add_one]
    congr 1
    rw [List.filterMap_cons, h n (by omega)]
    cases l[n]? <;> rfl
theorem pick_rev (xs : Array Value) : ((List.range xs.size).filterMap fun (m : Nat) => xs[(((xs.size : Int) - 1) + (m : Int) * (-1)).toNat]?) = xs.toList.reverse := by
  have hl : xs.toList.reverse.length = xs.size := by rw [List.length_reverse, Array.length_toList]
  have := fm_range (f := fun (m : Nat) => xs[(((xs.size : Int) - 1) + (m : Int) * (-1)).toNat]?) (l := xs.toList.reverse) (fun m hm => by
    rw [hl] at hm
    have e1 : (((xs.size : Int) - 1) + (m : Int) * (-1)).toNat = xs.size - 1 - m := by omega
    show xs[(((xs.size : Int) - 1) + (m : Int) * (-1)).toNat]? = _
    rw [e1, List.getElem?_reverse (by rw [Array.length_toList]; exact hm), Array.length_toList, ← Array.getElem?_toList]) xs.size (Nat.le_of_eq hl.symm)
  rw [this, List.take_of_length_le (Nat.le_of_eq hl)]
theorem getItem_tuple_rev {t sl : Addr} {items : Array Value} {u : Tok} {Q : Value → Shared → Prop} (ht : IsTup s.heap t items) (hs : s.heap.IsSliceOf sl .none .none (.int (-1) u))
    (h : Q (.ref s.heap.objs.size) { s with heap := s.heap.push { cls := .type "tuple", data := .seq items.toList.reverse.toArray } })
    (hsz : items.size ≤ sizeLine) : wpAny (model prog w) A (getItem (.ref t) (.ref sl)) Q E s := by
  have htake : sizeOk (.seq items.toList.reverse.toArray) := by
    show items.toList.reverse.toArray.size ≤ sizeLine
    rw [List.size_toArray, List.length_reverse, Array.length_toList]
    exact hsz
  obtain ⟨os, hos, hcs, hds⟩ := id hs
  have hTs : s.TypeIs (.ref sl) "slice" := ⟨os, hos, hcs⟩
  unfold getItem
  try with_reducible refine wpAny_holding ?_
  first | refine wpAny_bind (wpAny_pure ?_) | skip
  refine wpAny_bind (wpAny_sequenceKey ht.typeIs (by decide) ?_)
  refine wpAny_bind (wpAny_callSpecial?_slot (name := Str.ofString "__getitem__") ht.typeIs PyProof.Rows.slot_tuple_getitem
    (wpAny_call_entry PyProof.Rows.slot_tuple_getitem ht.typeIs entry_tuple_getitem ?_ (args_tuple_getitem _ _)))
  show wpAny _ _ (Builtin.Tuple.tupleItemsOf (.ref t) >>= _) _ _ s
  refine wpAny_bind (tupleItemsOf_ ht ?_)
  refine wpAny_bind (wpAny_typeOf hTs ?_)
  rw [if_pos (by decide)]
  refine wpAny_bind (sliceApplied_rev hs ?_)
  have hno : ¬ ((((items.size : Int) - 1) == 0 && (-1 : Int) == 1 && items.size == items.size) = true) := by
    intro q
    rw [Bool.and_eq_true, Bool.and_eq_true] at q
    exact absurd q.1.2 (by decide)
  show wpAny _ _ (if (((items.size : Int) - 1) == 0 && (-1 : Int) == 1 && items.size == items.size) = true then _ else _) _ _ s
  rw [if_neg hno, pick_rev]
  first
    | exact wpAny_bind (m := Builtin.Tuple.tupleExact _) (wpAny_newObj_type (wpAny_pure ⟨_, rfl, wpAny_pure h⟩) htake)
    | exact wpAny_bind (m := Builtin.Tuple.tupleExact _) (wpAny_newObj_type (wpAny_bind (wpAny_pure (wpAny_pure ⟨_, rfl, wpAny_pure h⟩))) htake)
    | exact wpAny_bind (wpAny_bind (m := Builtin.Tuple.tupleExact _) (wpAny_newObj_type (wpAny_pure (wpAny_pure ⟨_, rfl, wpAny_pure h⟩)) htake))
    | exact wpAny_bind (wpAny_bind (m := Builtin.Tuple.tupleExact _) (wpAny_newObj_type (wpAny_pure ⟨_, rfl, wpAny_pure h⟩) htake))
end
def tRevA (K : PySem.W.Frag) (te : TE) : TE := fun σ H Q => te σ H fun x H1 => (∃ a xs, x = .ref a ∧ SqL K H1 a xs ∧ ∀ p, H1 p = none → Q (.ref p) (upd H1 p (.lst xs.reverse))) ∨
  (∃ a xs, x = .ref a ∧ SqT K H1 a xs ∧ ∀ p, H1 p = none → Q (.ref p) (upd H1 p (.tup xs.reverse)))
section
variable {X : Cx} {U : Hp}
theorem pe_revA {e : Expr} {te : TE} {k : Nat} {p1 p2 p3 pos : Pos} (he : PE X e te) : PE X (.Subscript e (.Slice none none (some (.UnaryOp .USub (.Constant (.int 1) k p1) p2)) p3) pos) (tRevA X.K te) := by
  refine ⟨fun pins s σ H Q I h => ?_⟩
  refine Subscript_ (thn (he.run pins s σ H _ I h) fun v s1 ⟨x, H1, I1, r1, q1⟩ => ?_)
  have hst : PO X (some (.UnaryOp .USub (.Constant (.int 1) k p1) p2)) (tPart (tUn (rU fun i => .int (-i)) (tC (.int 1)))) := po_some (pe_un un_neg pe_int)
  refine wpAny_Slice (thn (po_none.run pins s1 σ H1 (fun o H2 => o = none ∧ H2 = H1) I1 ⟨rfl, rfl⟩) fun vl s2 ⟨l, H2, I2, pl, el, e2⟩ => ?_)
  subst el e2
  refine thn (po_none.run pins s2 σ H2 (fun o H3 => o = none ∧ H3 = H2) I2 ⟨rfl, rfl⟩) fun vu s3 ⟨u, H3, I3, pu, eu, e3⟩ => ?_
  subst eu e3
  refine thn (hst.run pins s3 σ H3 (fun o H4 => o = some (-1) ∧ H4 = H3) I3 ⟨1, rfl, -1, rfl, rfl, rfl⟩) fun vs s4 ⟨o, H4, I4, ps, eo, e4⟩ => ?_
  subst eo e4
  have I5 : Inv X pins σ H4 { s4 with heap := s4.heap.push { cls := .type "slice", data := .fields #[vl, vu, vs] } } := I4.kept (t' := s4.toks) fun b ob q => Heap.get?_push_of_some _ q
  rcases q1 with q1 | q1
  · obtain ⟨a, xs, ex, hx, q⟩ := q1
    subst ex
    cases r1
    obtain ⟨its, r, ht, hz⟩ := I5.list hx
    have hlen := r.length
    show wpAny (model X.prog X.w) X.A (subscriptTail e (.Slice none none (some (.UnaryOp .USub (.Constant (.int 1) k p1) p2)) p3) (.ref a) (.ref s4.heap.objs.size)) (EP X pins σ Q) X.xe { s4 with heap := s4.heap.push { cls := .type "slice", data := .fields #[vl, vu, vs] } }
    refine tail_any (ops := [.ref a, .ref s4.heap.objs.size]) ht.isList.typeIs (PySem.slot_list_getitem.lookup) ?_ (by with_unfolding_all rfl)
    refine wpAny_getItem_list_slice ht.isList (Heap.IsSliceOf.new _ vl vu vs) pl pu ps (by decide) ?_ (by rw [List.size_toArray]; omega)
    rw [PySem.W.krv_pick]
    refine ⟨.ref _, _, I5.laid (t' := s4.toks) (o := .lst xs.reverse) (fun b ob q => Heap.get?_push_of_some _ q) (Nat.le_refl _) ?_, rfl, q _ (I5.hok.fresh (Nat.le_refl _))⟩
    exact ⟨by rw [List.length_reverse]; exact hz, its.reverse, 0, r.reverse, Heap.get?_push_size _ rfl⟩
  · obtain ⟨a, xs, ex, hx, q⟩ := q1
    subst ex
    cases r1
    obtain ⟨its, r, ht, hz⟩ := I5.tuple hx
    have hlen := r.length
    cases pl
    cases pu
    cases ps with
    | int _ tk =>
    show wpAny (model X.prog X.w) X.A (subscriptTail e (.Slice none none (some (.UnaryOp .USub (.Constant (.int 1) k p1) p2)) p3) (.ref a) (.ref s4.heap.objs.size)) (EP X pins σ Q) X.xe { s4 with heap := s4.heap.push { cls := .type "slice", data := .fields #[.none, .none, .int (-1) tk] } }
    refine tail_any (ops := [.ref a, .ref s4.heap.objs.size]) ht.typeIs (PyProof.Rows.slot_tuple_getitem.lookup) ?_ (by with_unfolding_all rfl)
    refine getItem_tuple_rev ht (Heap.IsSliceOf.new _ .none .none (.int (-1) tk)) ?_ (by rw [List.size_toArray]; omega)
    refine ⟨.ref _, _, I5.laid (t' := s4.toks) (o := .tup xs.reverse) (fun b ob q => Heap.get?_push_of_some _ q) (Nat.le_refl _) ?_, rfl, q _ (I5.hok.fresh (Nat.le_refl _))⟩
    exact ⟨by rw [List.length_reverse]; exact hz, its.reverse, r.reverse, IsTup.new _ _⟩
theorem rpa_rev {K : PySem.W.Frag} {F : Hp} : ∀ {vs : List V} {ds : List PyData}, RpAll K F vs ds → RpAll K F vs.reverse ds.reverse
  | _, _, .nil => .nil
  | _, _, .cons h t => by
    rw [List.reverse_cons, List.reverse_cons]
    exact rpa_app (rpa_rev t) (.cons h .nil)
def revD : PyData → Option PyData
  | .list ds => some (.list ds.reverse)
  | .tuple ds => some (.tuple ds.reverse)
  | _ => none
theorem qe_rev {e : Expr} {f : Ev} {k : Nat} {p1 p2 p3 pos : Pos} (he : PE X e (tE X.K U f)) : PE X (.Subscript e (.Slice none none (some (.UnaryOp .USub (.Constant (.int 1) k p1) p2)) p3) pos) (tE X.K U (eMap f revD)) := pe_weak (pe_revA he) fun σ H Q ⟨A, F, r, m, d, m', G, e, k⟩ => by
  obtain ⟨d1, e1, e2⟩ := map_some e
  refine ⟨A, F, r, m, d1, m', G, e1, fun F1 H1 x s1 G1 h1 => ?_⟩
  unfold revD at e2
  split at e2
  · cases e2
    cases h1 with
    | vl sa ra =>
      refine .inl ⟨_, _, rfl, sqL_mono G1.sub sa, fun p np => ?_⟩
      have sF := fun (o : HO) => same_new (o := o) (G1.nope np).1
      exact k _ _ _ (s1.trans (sF _)) (G1.laid np) (.vl (.inl (.inl upd_same)) (Rpam (sF _) (rpa_rev ra)))
  · cases e2
    cases h1 with
    | vt sa ra =>
      refine .inr ⟨_, _, rfl, seqT_mono G1.sub sa, fun p np => ?_⟩
      have sF := fun (o : HO) => same_new (o := o) (G1.nope np).1
      exact k _ _ _ (s1.trans (sF _)) (G1.laid np) (.vt (.inl (.inl upd_same)) (Rpam (sF _) (rpa_rev ra)))
  · cases e2
/-! ## sep.join(texts) -/
def strsOf : List PyData → Option (List Str)
  | [] => some []
  | .str s :: ds => (strsOf ds).map fun r => s :: r
  | _ :: _ => none
theorem strs_map : ∀ ss : List Str, strsOf (ss.map .str) = some ss
  | [] => rfl
  | s :: ss => by
    show (strsOf (ss.map .str)).map _ = _
    rw [strs_map ss]
    rfl
theorem strs_some : ∀ {ds : List PyData} {ss : List Str}, strsOf ds = some ss → ds = ss.map .str
  | [], _, e => by cases e; rfl
  | d :: ds, ss, e => by
    cases d with
    | str s =>
      have e : (strsOf ds).map (fun r => s :: r) = some ss := e
      cases e1 : strsOf ds with
      | none => rw [e1] at e; cases e
      | some r =>
        rw [e1] at e
        cases e
        rw [strs_some e1]
        rfl
    | _ => cases e
theorem rpa_strs_inv {K : PySem.W.Frag} {F : Hp} : ∀ {vs : List V} {ss : List Str}, RpAll K F vs (ss.map .str) → vs = ss.map V.str
  | _, [], h => by cases h; rfl
  | _, s :: ss, h => by
    cases h with
    | cons h1 h2 =>
      cases h1
      rw [rpa_strs_inv h2]
      rfl
def joinD (a : Str) : List PyData → Option PyData
  | [.list ds] => (strsOf ds).bind fun ys => if (ys.map (·.length)).sum + ys.length * a.length ≤ 16777216 then some (.str (Txt.join a ys)) else none
  | [.tuple ds] => (strsOf ds).bind fun ys => if (ys.map (·.length)).sum + ys.length * a.length ≤ 16777216 then some (.str (Txt.join a ys)) else none
  | _ => none
theorem md_join : MtD X U (fun x xs H Q => ∃ a p, ∃ ys : List Str, x = .str a ∧ xs = [.ref p] ∧ (SqL X.K H p (ys.map V.str) ∨ SqT X.K H p (ys.map V.str)) ∧
    (ys.map (·.length)).sum + ys.length * a.length ≤ 16777216 ∧ Q (.str (Txt.join a ys)) H) joinD := by
  intro A F H σ r m z xs ds d Q G ha e k
  unfold joinD at e
  split at e
  · rename_i ds
    obtain ⟨v, rfl, h⟩ := rpa1 ha
    cases h with
    | vl sa ra =>
      cases e1 : strsOf ds with
      | none => rw [e1] at e; cases e
      | some ys =>
        rw [e1] at e
        simp only [Option.bind_some] at e
        split at e
        · rename_i hz
          cases e
          rw [strs_some e1] at ra
          rw [rpa_strs_inv ra] at sa
          exact ⟨z, _, ys, rfl, rfl, .inl (sqL_mono G.sub sa), hz, k F H _ (Same.refl F) G (.vs _)⟩
        · cases e
  · rename_i ds
    obtain ⟨v, rfl, h⟩ := rpa1 ha
    cases h with
    | vt sa ra =>
      cases e1 : strsOf ds with
      | none => rw [e1] at e; cases e
      | some ys =>
        rw [e1] at e
        simp only [Option.bind_some] at e
        split at e
        · rename_i hz
          cases e
          rw [strs_some e1] at ra
          rw [rpa_strs_inv ra] at sa
          exact ⟨z, _, ys, rfl, rfl, .inr (seqT_mono G.sub sa), hz, k F H _ (Same.refl F) G (.vs _)⟩
        · cases e
  · cases e
end
/-! ## reckoned -/
section
variable {R : PyData → Prop} {ds : List PyData} {i j : Int}
theorem w_divmod (h0 : 0 < j) (h1 : Builtin.Int.intBits i ≤ 4000) (q : R (.tuple [.int (i / j), .int (i % j)])) : W (divmodD [.int i, .int j]) R := W.guard ⟨h0, by omega⟩ (.mk q)
theorem w_rev_l (q : R (.list ds.reverse)) : W (revD (.list ds)) R := .mk q
theorem w_rev_t (q : R (.tuple ds.reverse)) : W (revD (.tuple ds)) R := .mk q
theorem w_join {a : Str} {ys : List Str} (h : (ys.map (·.length)).sum + ys.length * a.length ≤ 16777216) (q : R (.str (Txt.join a ys))) : W (joinD a [.list (ys.map .str)]) R := by
  show W ((strsOf (ys.map .str)).bind _) R
  rw [strs_map]
  exact W.guard h (.mk q)
end
end TL

end
/-! TL33 -/
section
set_option maxHeartbeats 4000000
namespace TL
open PySem PySem.Spec PyProof.Rows L2
/-! ## repr of any data that is no dict -/
def reprX : List PyData → Option PyData
  | [.none] => some (.str (PyData.shown .none))
  | [.bool b] => some (.str (PyData.shown (.bool b)))
  | [.str x] => if (reprText x).length ≤ sizeLine then some (.str (PyData.shown (.str x))) else none
  | ds => reprD ds
section
variable {X : Cx} {U : Hp}
abbrev rReprX (K : PySem.W.Frag) : List V → Hp → VK → Prop := fun xs H Q => rReprD K xs H Q ∨ ((xs = [.non] ∧ Q (.str (PyData.shown .none)) H) ∨ ((∃ b, xs = [.bl b] ∧ Q (.str (PyData.shown (.bool b))) H) ∨ ∃ x, xs = [.str x] ∧ (reprText x).length ≤ sizeLine ∧ Q (.str (PyData.shown (.str x))) H))
theorem call_reprX (g : X.A.guards = some []) (hu : X.A.units + 66 < cLine) : CallR X (.builtin "repr") (rReprX X.K) := by
  intro pins s σ H xs us Q I r h
  rcases h with h | ⟨rfl, q⟩ | ⟨b, rfl, q⟩ | ⟨x, rfl, hz, q⟩
  · exact call_reprD g hu pins s σ H xs us Q I r h
  · obtain ⟨u, rfl, rx⟩ := vals1 r
    cases rx
    exact PySem.P.repr_of_none ⟨.str _, H, I.tok _, ⟨_, rfl⟩, q⟩
  · obtain ⟨u, rfl, rx⟩ := vals1 r
    cases rx
    refine PySem.P.repr_of_bool ⟨.str _, H, I.tok _, ⟨_, rfl⟩, ?_⟩
    cases b <;> exact q
  · obtain ⟨u, rfl, t, rfl⟩ := vals1 r
    refine PySem.P.repr_of_str ⟨.str _, H, I.tok _, ⟨_, rfl⟩, ?_⟩ hz
    have e : PyData.shown (.str x) = reprText x := by simp only [PyData.shown]
    rw [e] at q
    exact q
theorem cd_reprX : CallD X U (rReprX X.K) reprX := by
  intro A F H σ r m vs ds d Q G ha e k
  unfold reprX at e
  split at e
  · cases e
    obtain ⟨v, rfl, h⟩ := rpa1 ha
    cases h
    exact .inr (.inl ⟨rfl, k F H _ (Same.refl F) G (.vs _)⟩)
  · cases e
    obtain ⟨v, rfl, h⟩ := rpa1 ha
    cases h
    exact .inr (.inr (.inl ⟨_, rfl, k F H _ (Same.refl F) G (.vs _)⟩))
  · split at e
    · rename_i hz
      cases e
      obtain ⟨v, rfl, h⟩ := rpa1 ha
      cases h
      exact .inr (.inr (.inr ⟨_, rfl, hz, k F H _ (Same.refl F) G (.vs _)⟩))
    · cases e
  · exact .inl (cd_repr A F H σ r m vs ds d Q G ha e k)
end
/-! ## what is shown tells the data -/
/-- plain signs: no quotes, no backslash -/
def isP (c : Nat) : Prop := 32 ≤ c ∧ c < 127 ∧ c ≠ 39 ∧ c ≠ 92
instance {c : Nat} : Decidable (isP c) := inferInstanceAs (Decidable (_ ∧ _))
mutual
inductive Pl : PyData → Prop
  | non : Pl .none
  | bool (b : Bool) : Pl (.bool b)
  | int (i : Int) : Pl (.int i)
  | str {x : Str} (h : ∀ c ∈ x.cps.toList, isP c) : Pl (.str x)
  | lst {ds : List PyData} (h : PlAll ds) : Pl (.list ds)
  | tup {ds : List PyData} (h : PlAll ds) : Pl (.tuple ds)
inductive PlAll : List PyData → Prop
  | nil : PlAll []
  | cons {d : PyData} {ds : List PyData} (h : Pl d) (t : PlAll ds) : PlAll (d :: ds)
end
theorem PlAll.of : ∀ {ds : List PyData}, (∀ d ∈ ds, Pl d) → PlAll ds
  | [], _ => .nil
  | d :: ds, h => .cons (h d List.mem_cons_self) (PlAll.of fun x hx => h x (List.mem_cons_of_mem _ hx))
theorem PlAll.mem : ∀ {ds : List PyData}, PlAll ds → ∀ d ∈ ds, Pl d
  | _, .cons h t, d, hd => by
    rcases List.mem_cons.mp hd with q | q
    · rw [q]; exact h
    · exact PlAll.mem t d q
def sI (i : Int) : List Nat := (Str.ofString (toString i)).cps.toList
mutual
def sh : PyData → List Nat
  | .none => [78, 111, 110, 101]
  | .bool b => if b then [84, 114, 117, 101] else [70, 97, 108, 115, 101]
  | .int i => sI i
  | .str x => 39 :: (x.cps.toList ++ [39])
  | .list [] => [91, 93]
  | .list (d :: ds) => 91 :: (sh d ++ shR 93 ds)
  | .tuple [] => [40, 41]
  | .tuple [d] => 40 :: (sh d ++ [44, 41])
  | .tuple (d :: e :: ds) => 40 :: (sh d ++ shR 41 (e :: ds))
  | .dict _ => []
def shR (c : Nat) : List PyData → List Nat
  | [] => [c]
  | d :: ds => 44 :: 32 :: (sh d ++ shR c ds)
end
theorem app_cps (s t : Str) : (s ++ t).cps.toList = s.cps.toList ++ t.cps.toList := by
  show (s.cps ++ t.cps).toList = _
  exact Array.toList_append
theorem reprChar_plain {q c : Nat} (h : isP c) (hq : q = 39) : PySem.Builtin.Str.reprChar q c = [c] := by
  subst hq
  have : ∀ c : Nat, c < 127 → 32 ≤ c → c ≠ 39 → c ≠ 92 → PySem.Builtin.Str.reprChar 39 c = [c] := by decide +kernel
  exact this c h.2.1 h.1 h.2.2.1 h.2.2.2
theorem reprText_plain {x : Str} (h : ∀ c ∈ x.cps.toList, isP c) : (reprText x).cps.toList = 39 :: (x.cps.toList ++ [39]) := by
  have hq : reprQuote x = 39 := by
    unfold reprQuote
    have : ¬ (39 ∈ x.cps) := fun hc => absurd rfl (h 39 (Array.mem_toList_iff.mpr hc)).2.2.1
    simp [this]
  unfold reprText
  rw [hq]
  have : ∀ (l : List Nat) (acc : Array Nat), (∀ c ∈ l, isP c) → (l.foldl (fun out c => out ++ (PySem.Builtin.Str.reprChar 39 c).toArray) acc).toList = acc.toList ++ l := by
    intro l
    induction l with
    | nil => intro acc _; simp
    | cons c l ih =>
      intro acc hl
      rw [List.foldl_cons, reprChar_plain (hl c List.mem_cons_self) rfl, ih _ fun d hd => hl d (List.mem_cons_of_mem _ hd)]
      simp
  have e := this x.cps.toList #[39] h
  rw [← Array.foldl_toList]
  simp only [Array.toList_push]
  rw [e]
  simp
theorem text_from : ∀ (ts : List Str) (k : Nat) (acc : Str), 0 < k → (textFrom k acc ts).cps.toList = acc.cps.toList ++ (ts.map fun t => 44 :: 32 :: t.cps.toList).flatten
  | [], _, _, _ => by simp [textFrom]
  | t :: ts, k, acc, h => by
    unfold textFrom
    rw [text_from ts (k + 1) _ (Nat.succ_pos k), app_cps, app_cps, if_pos h]
    have e : (((", " : String) : Str)).cps.toList = [44, 32] := by decide +kernel
    rw [e]
    simp
theorem join_cps : ∀ (t : Str) (ts : List Str), (Str.join ", " (t :: ts)).cps.toList = t.cps.toList ++ (ts.map fun t => 44 :: 32 :: t.cps.toList).flatten
  | t, [] => by simp [Str.join]
  | t, u :: ts => by
    have e0 : Str.join ", " (t :: u :: ts) = t ++ ", " ++ Str.join ", " (u :: ts) := rfl
    rw [e0, app_cps, app_cps, join_cps u ts]
    have e : (((", " : String) : Str)).cps.toList = [44, 32] := by decide +kernel
    rw [e]
    simp
theorem shR_eq (c : Nat) : ∀ ds : List PyData, shR c ds = (ds.map fun d => 44 :: 32 :: sh d).flatten ++ [c]
  | [] => by simp [shR]
  | d :: ds => by
    rw [shR, shR_eq c ds]
    simp
mutual
theorem shown_sh : ∀ {d : PyData}, Pl d → d.shown.cps.toList = sh d
  | _, .non => by simp only [PyData.shown, sh]; decide +kernel
  | _, .bool b => by cases b <;> simp only [PyData.shown, sh] <;> decide +kernel
  | _, .int i => by simp only [PyData.shown, sh]; rfl
  | _, .str h => by simp only [PyData.shown, sh]; exact reprText_plain h
  | .list [], .lst _ => by simp only [PyData.shown, sh, PyData.shownAll]; decide +kernel
  | .list (d :: ds), .lst (.cons h t) => by
    have e1 := shown_sh h
    have e2 := shown_shAll t
    simp only [PyData.shown, PyData.shownAll, sh]
    unfold listText
    rw [app_cps]
    show (textFrom 1 (("[" : Str) ++ (if (0 : Nat) > 0 then ", " else "" : String) ++ d.shown) (PyData.shownAll ds)).cps.toList ++ _ = _
    rw [text_from _ 1 _ (by decide), app_cps, app_cps, e1, e2, shR_eq]
    have e3 : (((("[" : String) : Str)).cps.toList) = [91] := by decide +kernel
    have e4 : ((((if (0 : Nat) > 0 then ", " else "" : String) : Str)).cps.toList) = [] := by decide +kernel
    have e5 : (((("]" : String) : Str)).cps.toList) = [93] := by decide +kernel
    rw [e3, e4, e5]
    simp
  | .tuple [], .tup _ => by simp only [PyData.shown, sh, PyData.shownAll]; decide +kernel
  | .tuple [d], .tup (.cons h _) => by
    have e1 := shown_sh h
    simp only [PyData.shown, PyData.shownAll, sh]
    unfold tupleText
    rw [app_cps, app_cps, join_cps, e1]
    have e3 : (((("(" : String) : Str)).cps.toList) = [40] := by decide +kernel
    have e5 : ((((if ([d.shown].length == 1) = true then ",)" else ")" : String) : Str)).cps.toList) = [44, 41] := by
      have : ([d.shown].length == 1) = true := rfl
      rw [if_pos this]
      decide +kernel
    rw [e3, e5]
    simp
  | .tuple (d :: e :: ds), .tup (.cons h (.cons h' t)) => by
    have e1 := shown_sh h
    have e2 := shown_shAll (ds := e :: ds) (.cons h' t)
    simp only [PyData.shown, sh]
    have e0 : PyData.shownAll (d :: e :: ds) = d.shown :: PyData.shownAll (e :: ds) := rfl
    rw [e0]
    unfold tupleText
    rw [app_cps, app_cps, join_cps, e1, e2, shR_eq]
    have e3 : (((("(" : String) : Str)).cps.toList) = [40] := by decide +kernel
    have e5 : ((((if ((d.shown :: PyData.shownAll (e :: ds)).length == 1) = true then ",)" else ")" : String) : Str)).cps.toList) = [41] := by
      have : ((d.shown :: PyData.shownAll (e :: ds)).length == 1) = false := by simp [PyData.shownAll]
      rw [this]
      decide +kernel
    rw [e3, e5]
    simp
theorem shown_shAll : ∀ {ds : List PyData}, PlAll ds → ((PyData.shownAll ds).map fun t => 44 :: 32 :: t.cps.toList) = ds.map fun d => 44 :: 32 :: sh d
  | _, .nil => rfl
  | _, .cons h t => by
    have e1 := shown_sh h
    have e2 := shown_shAll t
    simp only [PyData.shownAll, List.map_cons, e1, e2]
end
/-! ### numbers -/
theorem nat_signs (m : Nat) : sI (m : Int) = (Nat.toDigits 10 m).map Char.toNat := PySem.W.KIN.signs_num m
theorem neg_signs (m : Nat) : sI (Int.negSucc m) = 45 :: (Nat.toDigits 10 (m + 1)).map Char.toNat := by
  unfold sI
  have e : toString (Int.negSucc m) = "-" ++ toString (m + 1) := rfl
  rw [e, Str.ofString_eq_toList]
  have e2 : (toString (m + 1)).toList = Nat.toDigits 10 (m + 1) := by
    show (Nat.repr (m + 1)).toList = _
    rw [Nat.toList_repr]
  simp only [String.toList_append, e2, List.map_append]
  rfl
def dg (c : Nat) : Bool := decide (48 ≤ c ∧ c < 58)
theorem digs_dg (m : Nat) : ∀ c ∈ (Nat.toDigits 10 m).map Char.toNat, dg c = true := by
  intro c hc
  obtain ⟨ch, hch, rfl⟩ := List.mem_map.mp hc
  have r := Nat.isDigit_of_mem_toDigits (by decide) (by decide) hch
  unfold dg
  simp only [Char.isDigit, Bool.and_eq_true, decide_eq_true_eq] at r
  have h1 : ch.toNat = ch.val.toNat := rfl
  have h2 := r.1
  have h3 := r.2
  rw [h1]
  simp only [decide_eq_true_eq]
  have a1 : (48 : UInt32).toNat ≤ ch.val.toNat := h2
  have a2 : ch.val.toNat ≤ (57 : UInt32).toNat := h3
  have b1 : (48 : UInt32).toNat = 48 := rfl
  have b2 : (57 : UInt32).toNat = 57 := rfl
  omega
theorem digs_pos (m : Nat) : ∃ c l, (Nat.toDigits 10 m).map Char.toNat = c :: l := by
  have h := tDigits_len_ge 10 m
  cases e : (Nat.toDigits 10 m) with
  | nil => rw [e] at h; exact absurd h (by decide)
  | cons a l => exact ⟨a.toNat, l.map Char.toNat, rfl⟩
theorem digs_inj {m n : Nat} (h : (Nat.toDigits 10 m).map Char.toNat = (Nat.toDigits 10 n).map Char.toNat) : m = n := by
  rw [← PySem.W.KIN.val_back m, ← PySem.W.KIN.val_back n, h]
/-- ahead of what a piece of a text may end -/
def Stp (s : List Nat) : Prop := s = [] ∨ ∃ c r, s = c :: r ∧ (c = 44 ∨ c = 93 ∨ c = 41)
theorem split_by {p : Nat → Bool} {a b s t : List Nat} (ha : ∀ c ∈ a, p c = true) (hb : ∀ c ∈ b, p c = true) (hs : ∀ c r, s = c :: r → p c = false) (ht : ∀ c r, t = c :: r → p c = false) (e : a ++ s = b ++ t) : a = b ∧ s = t := by
  induction a generalizing b with
  | nil =>
    cases b with
    | nil => exact ⟨rfl, e⟩
    | cons c b =>
      have := hs c (b ++ t) e
      rw [hb c List.mem_cons_self] at this
      cases this
  | cons c a ih =>
    cases b with
    | nil =>
      have := ht c (a ++ s) e.symm
      rw [ha c List.mem_cons_self] at this
      cases this
    | cons d b =>
      rw [List.cons_append, List.cons_append] at e
      injection e with e1 e2
      obtain ⟨h1, h2⟩ := ih (fun x hx => ha x (List.mem_cons_of_mem _ hx)) (fun x hx => hb x (List.mem_cons_of_mem _ hx)) e2
      exact ⟨by rw [e1, h1], h2⟩
theorem stp_dg {s : List Nat} (h : Stp s) : ∀ c r, s = c :: r → dg c = false := by
  intro c r e
  rcases h with q | ⟨d, l, q, h⟩
  · rw [q] at e; cases e
  · rw [q] at e
    injection e with e1 e2
    subst e1
    rcases h with q | q | q <;> rw [q] <;> rfl
theorem sI_inj {i j : Int} {s t : List Nat} (hs : Stp s) (ht : Stp t) (e : sI i ++ s = sI j ++ t) : i = j ∧ s = t := by
  have no : ∀ (m n : Nat) (s t : List Nat), (Nat.toDigits 10 m).map Char.toNat ++ s ≠ 45 :: ((Nat.toDigits 10 n).map Char.toNat ++ t) := by
    intro m n s t e
    obtain ⟨c, l, h⟩ := digs_pos m
    have hd := digs_dg m c (by rw [h]; exact List.mem_cons_self)
    rw [h, List.cons_append] at e
    injection e with e1 _
    subst e1
    cases hd
  cases i with
  | ofNat m =>
    cases j with
    | ofNat n =>
      rw [show Int.ofNat m = (m : Int) from rfl, show Int.ofNat n = (n : Int) from rfl, nat_signs, nat_signs] at e
      obtain ⟨h1, h2⟩ := split_by (digs_dg m) (digs_dg n) (stp_dg hs) (stp_dg ht) e
      exact ⟨by rw [digs_inj h1], h2⟩
    | negSucc n =>
      rw [show Int.ofNat m = (m : Int) from rfl, nat_signs, neg_signs, List.cons_append] at e
      exact absurd e (no _ _ _ _)
  | negSucc m =>
    cases j with
    | ofNat n =>
      rw [show Int.ofNat n = (n : Int) from rfl, nat_signs, neg_signs, List.cons_append] at e
      exact absurd e.symm (no _ _ _ _)
    | negSucc n =>
      rw [neg_signs, neg_signs, List.cons_append, List.cons_append] at e
      injection e with _ e
      obtain ⟨h1, h2⟩ := split_by (digs_dg _) (digs_dg _) (stp_dg hs) (stp_dg ht) e
      have := digs_inj h1
      exact ⟨by congr 1; omega, h2⟩
/-- the first sign of what is shown, by kinds -/
def kd : PyData → Nat
  | .none => 0
  | .bool _ => 1
  | .int _ => 2
  | .str _ => 3
  | .list _ => 4
  | .tuple _ => 5
  | .dict _ => 6
def kc (c : Nat) : Nat := if c = 78 then 0 else if c = 84 ∨ c = 70 then 1 else if c = 39 then 3 else if c = 91 then 4 else if c = 40 then 5 else if c = 45 ∨ (48 ≤ c ∧ c < 58) then 2 else 7
theorem sh_head {d : PyData} (h : Pl d) : ∃ c l, sh d = c :: l ∧ kc c = kd d := by
  cases h with
  | non => exact ⟨_, _, rfl, rfl⟩
  | bool b => cases b <;> exact ⟨_, _, rfl, rfl⟩
  | int i =>
    simp only [sh]
    cases i with
    | ofNat m =>
      obtain ⟨c, l, e⟩ := digs_pos m
      have hd := digs_dg m c (by rw [e]; exact List.mem_cons_self)
      refine ⟨c, l, by rw [show Int.ofNat m = (m : Int) from rfl, nat_signs, e], ?_⟩
      unfold dg at hd
      have hd := of_decide_eq_true hd
      unfold kc kd
      rw [if_neg (by omega), if_neg (by omega), if_neg (by omega), if_neg (by omega), if_neg (by omega), if_pos (by omega)]
    | negSucc m => exact ⟨45, _, by rw [neg_signs], rfl⟩
  | str h => exact ⟨_, _, by rw [sh], rfl⟩
  | lst h =>
    rename_i ds
    cases ds with
    | nil => exact ⟨_, _, by rw [sh], rfl⟩
    | cons d ds => exact ⟨_, _, by rw [sh], rfl⟩
  | tup h =>
    rename_i ds
    match ds with
    | [] => exact ⟨_, _, by rw [sh], rfl⟩
    | [d] => exact ⟨_, _, by rw [sh], rfl⟩
    | d :: e :: ds => exact ⟨_, _, by rw [sh], rfl⟩
theorem same_kd {d e : PyData} {s t : List Nat} (hd : Pl d) (he : Pl e) (q : sh d ++ s = sh e ++ t) : kd d = kd e := by
  obtain ⟨c, l, e1, e2⟩ := sh_head hd
  obtain ⟨c', l', e3, e4⟩ := sh_head he
  rw [e1, e3, List.cons_append, List.cons_append] at q
  injection q with q1 _
  rw [← e2, ← e4, q1]
theorem no_head {d : PyData} {s : List Nat} {c : Nat} {t : List Nat} (hd : Pl d) (hc : kc c = 7) : sh d ++ s ≠ c :: t := by
  obtain ⟨c', l, e1, e2⟩ := sh_head hd
  intro q
  rw [e1, List.cons_append] at q
  injection q with q1 _
  rw [q1] at e2
  rw [hc] at e2
  cases d <;> cases e2
theorem stp_c {c : Nat} {r : List Nat} (h : c = 44 ∨ c = 93 ∨ c = 41) : Stp (c :: r) := .inr ⟨c, r, rfl, h⟩
theorem stp_R {c : Nat} (h : c = 93 ∨ c = 41) (ds : List PyData) (s : List Nat) : Stp (shR c ds ++ s) := by
  cases ds with
  | nil => exact .inr ⟨c, s, by simp [shR], .inr h⟩
  | cons d ds => exact .inr ⟨44, 32 :: (sh d ++ shR c ds) ++ s, by simp [shR], .inl rfl⟩
mutual
theorem sh_inj : ∀ {d e : PyData} {s t : List Nat}, Pl d → Pl e → Stp s → Stp t → sh d ++ s = sh e ++ t → d = e ∧ s = t
  | .none, e, s, t, hd, he, hs, ht, q => by
    have k := same_kd hd he q
    cases he <;> first | (simp only [kd] at k; omega) | (exact ⟨rfl, List.append_cancel_left q⟩)
  | .bool b, e, s, t, hd, he, hs, ht, q => by
    have k := same_kd hd he q
    cases he <;> first | (simp only [kd] at k; omega) | skip
    rename_i b'
    cases b <;> cases b' <;> simp [sh] at q <;> exact ⟨rfl, q⟩
  | .int i, e, s, t, hd, he, hs, ht, q => by
    have k := same_kd hd he q
    cases he <;> first | (simp only [kd] at k; omega) | skip
    simp only [sh] at q
    obtain ⟨h1, h2⟩ := sI_inj hs ht q
    exact ⟨by rw [h1], h2⟩
  | .str x, e, s, t, hd, he, hs, ht, q => by
    have k := same_kd hd he q
    cases hd with
    | str hx =>
    cases he <;> first | (simp only [kd] at k; omega) | skip
    rename_i y hy
    simp only [sh, List.cons_append, List.append_assoc, List.nil_append] at q
    injection q with _ q
    obtain ⟨h1, h2⟩ := split_by (p := fun c => decide (c ≠ 39)) (fun c hc => decide_eq_true (hx c hc).2.2.1) (fun c hc => decide_eq_true (hy c hc).2.2.1) (fun c r e => by injection e with e1 _; subst e1; rfl) (fun c r e => by injection e with e1 _; subst e1; rfl) q
    injection h2 with _ h2
    refine ⟨?_, h2⟩
    obtain ⟨x⟩ := x
    obtain ⟨y⟩ := y
    have : x = y := Array.ext' h1
    rw [this]
  | .list ds, e, s, t, hd, he, hs, ht, q => by
    have k := same_kd hd he q
    cases hd with
    | lst hds =>
    cases he <;> first | (simp only [kd] at k; omega) | skip
    rename_i es hes
    cases ds with
    | nil =>
      cases es with
      | nil => simp [sh] at q; exact ⟨rfl, q⟩
      | cons e es =>
        cases hes with
        | cons h' t' =>
        simp only [sh, List.cons_append, List.append_assoc, List.nil_append] at q
        injection q with _ q
        exact absurd q.symm (no_head h' (by decide))
    | cons d ds =>
      cases hds with
      | cons h0 t0 =>
      cases es with
      | nil =>
        simp only [sh, List.cons_append, List.append_assoc, List.nil_append] at q
        injection q with _ q
        exact absurd q (no_head h0 (by decide))
      | cons e es =>
        cases hes with
        | cons h' t' =>
        simp only [sh, List.cons_append, List.append_assoc] at q
        injection q with _ q
        obtain ⟨h1, h2⟩ := sh_inj h0 h' (stp_R (.inl rfl) _ _) (stp_R (.inl rfl) _ _) q
        obtain ⟨h3, h4⟩ := shR_inj (c := 93) (.inl rfl) t0 t' hs ht h2
        exact ⟨by rw [h1, h3], h4⟩
  | .tuple ds, e, s, t, hd, he, hs, ht, q => by
    have k := same_kd hd he q
    cases hd with
    | tup hds =>
    cases he <;> first | (simp only [kd] at k; omega) | skip
    rename_i es hes
    match ds, es, hds, hes with
    | [], [], _, _ => simp [sh] at q; exact ⟨rfl, q⟩
    | [], [e], _, .cons h' _ =>
      simp only [sh, List.cons_append, List.append_assoc, List.nil_append] at q
      injection q with _ q
      exact absurd q.symm (no_head h' (by decide))
    | [], e :: e2 :: es, _, .cons h' _ =>
      simp only [sh, List.cons_append, List.append_assoc, List.nil_append] at q
      injection q with _ q
      exact absurd q.symm (no_head h' (by decide))
    | [d], [], .cons h0 _, _ =>
      simp only [sh, List.cons_append, List.append_assoc, List.nil_append] at q
      injection q with _ q
      exact absurd q (no_head h0 (by decide))
    | d :: d2 :: ds, [], .cons h0 _, _ =>
      simp only [sh, List.cons_append, List.append_assoc, List.nil_append] at q
      injection q with _ q
      exact absurd q (no_head h0 (by decide))
    | [d], [e], .cons h0 _, .cons h' _ =>
      simp only [sh, List.cons_append, List.append_assoc, List.nil_append] at q
      injection q with _ q
      obtain ⟨h1, h2⟩ := sh_inj h0 h' (stp_c (.inl rfl)) (stp_c (.inl rfl)) q
      injection h2 with _ h2
      injection h2 with _ h2
      exact ⟨by rw [h1], h2⟩
    | [d], e :: e2 :: es, .cons h0 _, .cons h' t' =>
      simp only [sh, List.cons_append, List.append_assoc, List.nil_append] at q
      injection q with _ q
      obtain ⟨h1, h2⟩ := sh_inj h0 h' (stp_c (.inl rfl)) (stp_R (.inr rfl) _ _) q
      simp [shR] at h2
    | d :: d2 :: ds, [e], .cons h0 t0, .cons h' _ =>
      simp only [sh, List.cons_append, List.append_assoc, List.nil_append] at q
      injection q with _ q
      obtain ⟨h1, h2⟩ := sh_inj h0 h' (stp_R (.inr rfl) _ _) (stp_c (.inl rfl)) q
      simp [shR] at h2
    | d :: d2 :: ds, e :: e2 :: es, .cons h0 t0, .cons h' t' =>
      simp only [sh, List.cons_append, List.append_assoc] at q
      injection q with _ q
      obtain ⟨h1, h2⟩ := sh_inj h0 h' (stp_R (.inr rfl) _ _) (stp_R (.inr rfl) _ _) q
      obtain ⟨h3, h4⟩ := shR_inj (c := 41) (.inr rfl) t0 t' hs ht h2
      exact ⟨by rw [h1, h3], h4⟩
  | .dict ps, e, s, t, hd, he, hs, ht, q => by cases hd
theorem shR_inj : ∀ {c : Nat} {ds es : List PyData} {s t : List Nat}, (c = 93 ∨ c = 41) → PlAll ds → PlAll es → Stp s → Stp t → shR c ds ++ s = shR c es ++ t → ds = es ∧ s = t
  | c, [], [], s, t, hc, hd, he, hs, ht, q => by simp [shR] at q; exact ⟨rfl, q⟩
  | c, [], e :: es, s, t, hc, hd, he, hs, ht, q => by
    simp only [shR, List.cons_append, List.nil_append] at q
    injection q with q1 _
    omega
  | c, d :: ds, [], s, t, hc, hd, he, hs, ht, q => by
    simp only [shR, List.cons_append, List.nil_append] at q
    injection q with q1 _
    omega
  | c, d :: ds, e :: es, s, t, hc, hd, he, hs, ht, q => by
    cases hd with
    | cons h0 t0 =>
    cases he with
    | cons h' t' =>
    simp only [shR, List.cons_append, List.append_assoc] at q
    injection q with _ q
    injection q with _ q
    obtain ⟨h1, h2⟩ := sh_inj h0 h' (stp_R hc _ _) (stp_R hc _ _) q
    obtain ⟨h3, h4⟩ := shR_inj hc t0 t' hs ht h2
    exact ⟨by rw [h1, h3], h4⟩
end
theorem shown_inj {d e : PyData} (hd : Pl d) (he : Pl e) (q : d.shown = e.shown) : d = e := by
  have e1 := shown_sh hd
  have e2 := shown_sh he
  rw [q, e2] at e1
  have : sh d ++ [] = sh e ++ [] := by rw [List.append_nil, List.append_nil, e1]
  exact (sh_inj hd he (.inl rfl) (.inl rfl) this).1
end TL

end
/-! TL34 -/
section
set_option maxHeartbeats 4000000
namespace TL
open PySem L2
/-! ## a, b = x, y: two names -/
def sPar (i j : Nat) (f : Eas) : Es := fun r m => (f r m).bind fun p => match p.1 with
  | [a, b] => some (.nx ((r.set i (.fz a)).set j (.fz b)) p.2)
  | _ => none
section
variable {X : Cx} {U : Hp} {n0 : Nat}
theorem qs_par {i j : Nat} {x y : Str} {a b : Expr} {f : Eas} {px py pt pos : Pos} {kt k2 pt2} (hc : X.calm = true) (hN : X.N.Nodup) (hi : X.N[i]? = some x) (hj : X.N[j]? = some y) (hij : i ≠ j)
    (hx : X.env.scope.names.lookup x = some .local) (hy : X.env.scope.names.lookup y = some .local) (ha : PA X [a, b] (tAs X.K U f))
    (hw : swappedStores [.Tuple [.Name x px, .Name y py] kt pt] (.Tuple [a, b] k2 pt2) X.env = pure (some [x, y]))
    (hs : swapsWithSole [.Tuple [.Name x px, .Name y py] kt pt] (.Tuple [a, b] k2 pt2) pos.line X.env = pure false := by rfl) :
    PS X (.Assign [.Tuple [.Name x px, .Name y py] kt pt] (.Tuple [a, b] k2 pt2) pos) (tS X.K U n0 (sPar i j f)) := ps_weak (ps_par hc hN hi hj hij hx hy ha hw hs) fun D σ H ⟨A, F, r, m, o, G, hn, e, p⟩ => by
  unfold sPar at e
  cases e1 : f r m with
  | none => rw [e1] at e; cases e
  | some q =>
    obtain ⟨ds, m1⟩ := q
    rw [e1] at e
    simp only [Option.bind_some] at e
    split at e
    · rename_i d1 d2
      cases e
      refine ⟨A, F, r, m, _, m1, G, e1, fun F1 H1 vs s1 G1 h1 => ?_⟩
      obtain ⟨v, w, rfl, g1, g2⟩ := rpa2 h1
      exact ⟨v, w, rfl, p A F1 H1 _ (List.prefix_refl A) s1 ((G1.setFz g1).setFz g2)⟩
    · cases e
theorem w_par {i j : Nat} {f : Eas} {r : Rs} {m : Ms} {Q : Out → Prop} (h : W (f r m) fun p => ∃ a b, p.1 = [a, b] ∧ Q (.nx ((r.set i (.fz a)).set j (.fz b)) p.2)) : W (sPar i j f r m) Q := by
  unfold sPar
  refine W.bind (W.mono h fun p ⟨a, b, e, q⟩ => ?_)
  rw [e]
  exact .mk q
end
/-! ## what is shown, of numbers to some 40 figures -/
mutual
theorem its_more : ∀ d : PyData, d.intsShort 13 = true → d.intsShort 40 = true
  | .none, _ => rfl
  | .bool _, _ => rfl
  | .str _, _ => rfl
  | .dict _, _ => rfl
  | .int i, h => by
    simp only [PyData.intsShort, decide_eq_true_eq] at h ⊢
    omega
  | .list xs, h => by
    simp only [PyData.intsShort] at h ⊢
    exact its_moreA xs h
  | .tuple xs, h => by
    simp only [PyData.intsShort] at h ⊢
    exact its_moreA xs h
theorem its_moreA : ∀ xs : List PyData, PyData.intsShortAll 13 xs = true → PyData.intsShortAll 40 xs = true
  | [], _ => rfl
  | x :: xs, h => by
    simp only [PyData.intsShortAll, Bool.and_eq_true] at h ⊢
    exact ⟨its_more x h.1, its_moreA xs h.2⟩
end
structure Sx (w k : Nat) (d : PyData) : Prop where
  lay : d.canLay0 = true
  dep : d.depth ≤ k
  its : d.intsShort 40 = true
  shw : d.showable = true
  wgt : d.weight ≤ w
section
variable {w k n : Nat} {d : PyData} {ds : List PyData}
theorem Sx.mono {w' k' : Nat} (h : Sx w k d) (a : w ≤ w') (b : k ≤ k') : Sx w' k' d := ⟨h.lay, Nat.le_trans h.dep b, h.its, h.shw, Nat.le_trans h.wgt a⟩
theorem Sx.str {s : Str} (h : Lw n s) : Sx n 0 (.str s) := ⟨h.ok, by simp [PyData.depth], rfl, rfl, h.1⟩
theorem Sx.non : Sx 0 0 .none := ⟨rfl, by simp [PyData.depth], rfl, rfl, by simp [PyData.weight]⟩
theorem Sx.bool {b : Bool} : Sx 0 0 (.bool b) := ⟨rfl, by simp [PyData.depth], rfl, rfl, by simp [PyData.weight]⟩
theorem p35 : (10 : Int) ^ 35 = 100000000000000000000000000000000000 := by decide +kernel
theorem Sx.int {i : Int} (h0 : -100000000000000000000000000000000000 < i) (h1 : i < 100000000000000000000000000000000000) : Sx 120 0 (.int i) := by
  have hn : i.natAbs < 10 ^ 35 := by
    have : (10 : Nat) ^ 35 = 100000000000000000000000000000000000 := by decide +kernel
    omega
  have hl : i.natAbs = 0 ∨ i.natAbs.log2 < 117 := by
    by_cases hz : i.natAbs = 0
    · exact .inl hz
    · exact .inr ((Nat.log2_lt hz).mpr (Nat.lt_trans hn (by decide +kernel)))
  refine ⟨rfl, by simp [PyData.depth], ?_, ?_, ?_⟩
  · simp only [PyData.intsShort, decide_eq_true_eq]
    have e := int_text_length_le10 (k := 35) (by decide) hn
    show (Str.ofString (toString i)).length ≤ 40
    rw [ofString_length]
    omega
  · simp only [PyData.showable, decide_eq_true_eq]
    rcases hl with q | q
    · rw [q]; decide
    · omega
  · simp only [PyData.weight]
    split
    · exact Nat.zero_le _
    · rcases hl with q | q
      · rw [q]; decide
      · omega
theorem itx_all : ∀ {ds : List PyData}, (∀ d ∈ ds, d.intsShort 40 = true) → PyData.intsShortAll 40 ds = true
  | [], _ => rfl
  | d :: ds, h => by
    simp only [PyData.intsShortAll, Bool.and_eq_true]
    exact ⟨h d List.mem_cons_self, itx_all fun x hx => h x (List.mem_cons_of_mem _ hx)⟩
theorem Sx.lst (h : ∀ d ∈ ds, Sx w k d) (hl : ds.length ≤ n) : Sx (n * (w + 1)) (k + 1) (.list ds) := by
  have a := depth_all fun d hd => (h d hd).dep
  have b := wgt_all fun d hd => (h d hd).wgt
  have c := Nat.mul_le_mul_right (w + 1) hl
  exact ⟨by simp only [PyData.canLay0]; exact lay_all fun d hd => (h d hd).lay, by simp only [PyData.depth]; omega, by simp only [PyData.intsShort]; exact itx_all fun d hd => (h d hd).its, by simp only [PyData.showable]; exact shw_all fun d hd => (h d hd).shw, by simp only [PyData.weight]; omega⟩
theorem Sx.tup (h : ∀ d ∈ ds, Sx w k d) (hl : ds.length ≤ n) : Sx (n * (w + 1)) (k + 1) (.tuple ds) := by
  have a := depth_all fun d hd => (h d hd).dep
  have b := wgt_all fun d hd => (h d hd).wgt
  have c := Nat.mul_le_mul_right (w + 1) hl
  exact ⟨by simp only [PyData.canLay0]; exact lay_all fun d hd => (h d hd).lay, by simp only [PyData.depth]; omega, by simp only [PyData.intsShort]; exact itx_all fun d hd => (h d hd).its, by simp only [PyData.showable]; exact shw_all fun d hd => (h d hd).shw, by simp only [PyData.weight]; omega⟩
theorem Sx.shaped (h : Sx w k d) (hk : k ≤ 62) : SeqAt.shaped d = true := shaped_of h.lay (by have := h.dep; omega)
theorem Sx.fits (h : Sx w k d) (hw : w ≤ 300000) : d.shown.length ≤ sizeLine := by
  have g := h.wgt
  have g2 := PyData.shown_le 40 (by decide) d (PyData.leavesShort_of_canLay0 40 d h.lay h.its)
  have g3 := Nat.mul_le_mul_left (40 + 2) (Nat.le_trans g hw)
  exact Nat.le_trans (Nat.le_trans g2 (show (40 + 2) * d.weight + 40 ≤ 13000000 by omega)) (by decide)
theorem Sx.of (h : Sh w k d) : Sx w k d := ⟨h.lay, h.dep, its_more d h.its, h.shw, h.wgt⟩
theorem w_reprX {R : PyData → Prop} (h : Sx w k d) (hw : w ≤ 300000) (hk : k ≤ 62) (q : R (.str d.shown)) : W (reprX [d]) R := by
  have h1 := h.fits hw
  have h2 := PyData.hasDict_of_canLay d h.lay
  have h3 := h.shaped hk
  have h4 := h.shw
  cases d with
  | none => exact .mk q
  | bool b => exact .mk q
  | int i =>
    unfold reprX reprD
    refine W.guard (by simpa [PyData.showable] using h4) (.mk ?_)
    simp only [PyData.shown] at q
    exact q
  | str x =>
    unfold reprX
    refine W.guard (by simpa only [PyData.shown] using h1) (.mk q)
  | list ds => exact W.guard ⟨h4, h2, h3, h1⟩ (.mk q)
  | tuple ds => exact W.guard ⟨h4, h2, h3, h1⟩ (.mk q)
  | dict ps => exact absurd h.lay (by simp [PyData.canLay0])
end
/-! ## isinstance -/
def isT (T : String) : PyData → Bool
  | .int _ => T == "int"
  | .bool _ => T == "int" || T == "bool"
  | .str _ => T == "str"
  | .list _ => T == "list"
  | .tuple _ => T == "tuple"
  | .dict _ => T == "dict"
  | .none => false
theorem w_isi {T : String} {d : PyData} {R : PyData → Prop} (hT : T ∈ ["int", "bool", "str", "list", "tuple", "dict"]) (q : R (.bool (isT T d))) : W (isiD T d) R := by
  refine W.of ?_ q
  simp only [List.mem_cons, List.not_mem_nil, or_false] at hT
  rcases hT with e | e | e | e | e | e <;> subst e <;> cases d <;> rfl
theorem w_isi_int {d : PyData} {R : PyData → Prop} (q : R (.bool (isT "int" d))) : W (isiD "int" d) R := w_isi (by decide) q
theorem w_isi_bool {d : PyData} {R : PyData → Prop} (q : R (.bool (isT "bool" d))) : W (isiD "bool" d) R := w_isi (by decide) q
theorem w_isi_str {d : PyData} {R : PyData → Prop} (q : R (.bool (isT "str" d))) : W (isiD "str" d) R := w_isi (by decide) q
theorem w_isi_list {d : PyData} {R : PyData → Prop} (q : R (.bool (isT "list" d))) : W (isiD "list" d) R := w_isi (by decide) q
theorem w_isi_tuple {d : PyData} {R : PyData → Prop} (q : R (.bool (isT "tuple" d))) : W (isiD "tuple" d) R := w_isi (by decide) q
end TL

end
/-! TL35 -/
section
set_option maxHeartbeats 4000000
namespace TL
open PySem L2
/-! ## x[i], x[j] = (a, b): x a cell -/
def putC (k : Nat) (v : PyData) (q : PyData × Ms) : Option Ms := (cellAt q.2 k).bind fun c => match c, q.1 with
  | .list ds, .int j => (ixN ds.length j).map fun n => q.2.set k (some (.list (ds.set n v)))
  | _, _ => none
theorem put_some {k : Nat} {v : PyData} {q : PyData × Ms} {m' : Ms} (e : putC k v q = some m') : ∃ ds j n, cellAt q.2 k = some (.list ds) ∧ q.1 = .int j ∧ ixN ds.length j = some n ∧ m' = q.2.set k (some (.list (ds.set n v))) := by
  unfold putC at e
  cases e1 : cellAt q.2 k with
  | none => rw [e1] at e; cases e
  | some c =>
    rw [e1] at e
    simp only [Option.bind_some] at e
    split at e
    · rename_i ds j hq
      cases e2 : ixN ds.length j with
      | none => rw [e2] at e; cases e
      | some n =>
        rw [e2] at e
        cases e
        exact ⟨ds, j, n, rfl, hq, e2, rfl⟩
    · cases e
def sSwap (i : Nat) (f g1 g2 : Ev) : Es := fun r m => (slO r[i]?).bind fun k => (f r m).bind fun p => match p.1 with
  | .tuple [a, b] => (g1 r p.2).bind fun q1 => (putC k a q1).bind fun m1 => (g2 r m1).bind fun q2 => (putC k b q2).map fun m2 => .nx r m2
  | _ => none
section
variable {X : Cx} {U : Hp} {n0 : Nat}
theorem qs_swap {i : Nat} {x : Str} {e b1 b2 : Expr} {f g1 g2 : Ev} {kt : Nat} {p1 p2 p3 p4 pt pos : Pos} (hc : X.calm = true) (hv : PE X (.Name x p1) (tVar i)) (hv' : PE X (.Name x p3) (tVar i)) (he : PE X e (tE X.K U f)) (hb1 : PE X b1 (tE X.K U g1)) (hb2 : PE X b2 (tE X.K U g2))
    (hg1 : ∀ {to ti : TE}, PE X (.Name x p1) to → PE X b1 ti → PG X (.Subscript (.Name x p1) b1 p2) (gSub to ti rSetL))
    (hg2 : ∀ {to ti : TE}, PE X (.Name x p3) to → PE X b2 ti → PG X (.Subscript (.Name x p3) b2 p4) (gSub to ti rSetL))
    (hs : swapsWithSole [.Tuple [.Subscript (.Name x p1) b1 p2, .Subscript (.Name x p3) b2 p4] kt pt] e pos.line X.env = pure false := by rfl) (hw : swappedStores [.Tuple [.Subscript (.Name x p1) b1 p2, .Subscript (.Name x p3) b2 p4] kt pt] e X.env = pure none := by rfl)
    (h1 : (assignEach [.Tuple [.Subscript (.Name x p1) b1 p2, .Subscript (.Name x p3) b2 p4] kt pt] X.env).map (·.2) = [assign (.Tuple [.Subscript (.Name x p1) b1 p2, .Subscript (.Name x p3) b2 p4] kt pt) X.env] := by rfl)
    (hn : (assignEach [.Subscript (.Name x p1) b1 p2, .Subscript (.Name x p3) b2 p4] X.env).length = 2 := by rfl) (hst : (assignEach [.Subscript (.Name x p1) b1 p2, .Subscript (.Name x p3) b2 p4] X.env).findIdx? (·.1) = none := by rfl)
    (ha1 : (assignEach [.Subscript (.Name x p1) b1 p2, .Subscript (.Name x p3) b2 p4] X.env).map (·.2) = assign (.Subscript (.Name x p1) b1 p2) X.env :: (assignEach [.Subscript (.Name x p3) b2 p4] X.env).map (·.2) := by rfl)
    (ha2 : (assignEach [.Subscript (.Name x p3) b2 p4] X.env).map (·.2) = assign (.Subscript (.Name x p3) b2 p4) X.env :: (assignEach [] X.env).map (·.2) := by rfl) :
    PS X (.Assign [.Tuple [.Subscript (.Name x p1) b1 p2, .Subscript (.Name x p3) b2 p4] kt pt] e pos) (tS X.K U n0 (sSwap i f g1 g2)) :=
  ps_weak (ps_asg he (pg_tup hc (pgs_cons (hg1 hv hb1) (pgs_cons (hg2 hv' hb2) pgs_nil ha2) ha1) hn hst) hs hw h1) fun D σ H ⟨A, F, r, m, o, G, hn, e, p⟩ => by
  unfold sSwap at e
  cases e0 : slO r[i]? with
  | none => rw [e0] at e; cases e
  | some k =>
    rw [e0] at e
    simp only [Option.bind_some] at e
    obtain ⟨a, hA, hσ⟩ := G.ow i k (slO_some e0)
    cases e1 : f r m with
    | none => rw [e1] at e; cases e
    | some q =>
      obtain ⟨d, m1⟩ := q
      rw [e1] at e
      simp only [Option.bind_some] at e
      split at e
      · rename_i da db
        cases e2 : g1 r m1 with
        | none => rw [e2] at e; cases e
        | some q1 =>
          rw [e2] at e
          simp only [Option.bind_some] at e
          cases e3 : putC k da q1 with
          | none => rw [e3] at e; cases e
          | some m2 =>
            rw [e3] at e
            simp only [Option.bind_some] at e
            cases e4 : g2 r m2 with
            | none => rw [e4] at e; cases e
            | some q2 =>
              rw [e4] at e
              simp only [Option.bind_some] at e
              cases e5 : putC k db q2 with
              | none => rw [e5] at e; cases e
              | some m3 =>
                rw [e5] at e
                cases e
                obtain ⟨d1, m1'⟩ := q1
                obtain ⟨d2, m2'⟩ := q2
                obtain ⟨ds, j, n, c1, c2, c3, c4⟩ := put_some e3
                obtain ⟨ds2, j2, n2, c5, c6, c7, c8⟩ := put_some e5
                simp only at c1 c2 c3 c4 c5 c6 c7 c8
                subst c2 c4 c6 c8
                refine ⟨A, F, r, m, _, m1, G, e1, fun F1 H1 v s1 G1 h1 => ?_⟩
                cases h1 with
                | vt sa ra =>
                  obtain ⟨va, vb, rfl, ga, gb⟩ := rpa2 ra
                  refine ⟨_, _, rfl, seqT_mono G1.sub sa, rfl, va, [vb], rfl, _, hσ, A, F1, r, m1, _, m1', G1, e2, fun F2 H2 w s2 G2 h2 => ?_⟩
                  cases h2
                  obtain ⟨k1, k2, o3, k3, vs, k5, k4⟩ := G2.cl k a _ hA c1
                  subst k5
                  refine ⟨a, vs, j, n, rfl, rfl, k3, by rw [rpa_len k4]; exact c3, ?_⟩
                  have G3 := G2.setCell hA c1 (show Stored X.K F2 (.lst (vs.set n va)) (.list (ds.set n da)) from ⟨_, rfl, rpa_set (Rpm s2 ga) n k4⟩)
                  refine ⟨vb, [], rfl, _, hσ, A, F2, r, _, _, m2', G3, e4, fun F4 H4 w4 s4 G4 h4 => ?_⟩
                  cases h4
                  obtain ⟨l1, l2, o6, l3, vs2, l5, l4⟩ := G4.cl k a _ hA c5
                  subst l5
                  refine ⟨a, vs2, j2, n2, rfl, rfl, l3, by rw [rpa_len l4]; exact c7, rfl, ?_⟩
                  exact p A F4 _ σ (List.prefix_refl A) ((s1.trans s2).trans s4) (G4.setCell hA c5 ⟨_, rfl, rpa_set (Rpm (s2.trans s4) gb) n2 l4⟩)
      · cases e
end
theorem w_putC {k : Nat} {v : PyData} {ds : List PyData} {j : Int} {m : Ms} {Q : Ms → Prop} (e : cellAt m k = some (.list ds)) (h : W (ixN ds.length j) fun n => Q (m.set k (some (.list (ds.set n v))))) : W (putC k v (.int j, m)) Q := by
  unfold putC
  exact W.bind (W.of e (W.map h))
theorem w_swap {i k : Nat} {f g1 g2 : Ev} {r : Rs} {m : Ms} {Q : Out → Prop} (e : r[i]? = some (.ow k)) (h : W (f r m) fun p => ∃ a b, p.1 = .tuple [a, b] ∧ W (g1 r p.2) fun q1 => W (putC k a q1) fun m1 => W (g2 r m1) fun q2 => W (putC k b q2) fun m2 => Q (.nx r m2)) : W (sSwap i f g1 g2 r m) Q := by
  unfold sSwap
  rw [e]
  refine W.bind (W.of rfl (W.bind (W.mono h fun p ⟨a, b, e1, h⟩ => ?_)))
  rw [e1]
  exact W.bind (W.mono h fun q1 h => W.bind (W.mono h fun m1 h => W.bind (W.mono h fun q2 h => W.map h)))
end TL

end
/-! TL36 -/
section
set_option maxHeartbeats 4000000
namespace TL
open PySem PySem.Spec PyProof.Rows L2
/-! ## repr of any data, dicts among it -/
section
variable {X : Cx} {pins : List (Addr × Obj)} {σ : L2.St} {H : Hp} {s : Shared}
abbrev RK (X : Cx) (s : Shared) (n : Nat) (bs : List Addr) (u : Value) (t : Str) : Prop := ReprK X.prog X.w bs s.heap n u t
abbrev RA (X : Cx) (s : Shared) (n : Nat) (bs : List Addr) (us : List Value) (ts : List Str) : Prop := ReprAllK X.prog X.w bs s.heap n us ts
theorem join_two {n m : Nat} {bs cs : List Addr} (h : ReadAtMost s.heap n bs) (g : ReadAtMost s.heap m cs) : ReadAtMost s.heap (max n m) (bs ++ cs) :=
  ReadAtMost.append (ReadAtMost.mono h (Nat.le_max_left n m)) (ReadAtMost.mono g (Nat.le_max_right n m))
theorem RA.put {n m : Nat} {bs cs : List Addr} {u : Value} {us : List Value} {t : Str} {ts : List Str} (h : RK X s n bs u t) (g : RA X s m cs us ts) : RA X s (max n m) (bs ++ cs) (u :: us) (t :: ts) :=
  ReprAllK.cons (ReprK.level_le (ReprK.more h (fun b q => List.mem_append.mpr (.inl q))) (Nat.le_max_left n m)) (ReprAllK.more_le (fun b q => List.mem_append.mpr (.inr q)) (Nat.le_max_right n m) g)
theorem key_reads {k : Key} {u : Value} (h : keyIs k u = true) (hs : (kD k).showable = true) (hz : (kD k).shown.length ≤ sizeLine) : Reads s.heap u (kD k) [] ∧ RK X s (kD k).depth [] u (kD k).shown := by
  rcases keyIs_shape h with ⟨i, t, rfl, rfl⟩ | ⟨x, t, rfl, rfl⟩
  · refine ⟨.int i t, ?_⟩
    simp only [kD, PyData.shown]
    exact .of_is (ReprIs.int t (by simpa [kD, PyData.showable] using hs)) _ _ _
  · refine ⟨.str x t, ?_⟩
    simp only [kD, PyData.shown]
    exact .of_is (ReprIs.str x t (by simpa only [kD, PyData.shown] using hz)) _ _ _
theorem none_at {n : Nat} : ReadAtMost s.heap n [] := fun _ q => nomatch q
mutual
theorem rp_told (I : Inv X pins σ H s) : ∀ (d : PyData) (v : V) (u : Value), Rp X.K H v d → RelV v u → d.showable = true → d.shown.length ≤ sizeLine →
    ∃ as bs, Reads s.heap u d as ∧ ReadAtMost s.heap d.depth bs ∧ RK X s d.depth bs u d.shown
  | .none, _, _, h, r, _, _ => by
    cases h; cases r
    exact ⟨_, [], .none, none_at, by simp only [PyData.shown]; exact .of_is ReprIs.none _ _ _⟩
  | .bool b, _, _, h, r, _, _ => by
    cases h; cases r
    exact ⟨_, [], .bool b, none_at, by simp only [PyData.shown]; exact .of_is (ReprIs.bool b) _ _ _⟩
  | .int i, _, _, h, r, hs, _ => by
    cases h
    obtain ⟨t, rfl⟩ := r
    exact ⟨_, [], .int i t, none_at, by simp only [PyData.shown]; exact .of_is (ReprIs.int t (by simpa [PyData.showable] using hs)) _ _ _⟩
  | .str x, _, _, h, r, _, hz => by
    cases h
    obtain ⟨t, rfl⟩ := r
    exact ⟨_, [], .str x t, none_at, by simp only [PyData.shown]; exact .of_is (ReprIs.str x t (by simpa only [PyData.shown] using hz)) _ _ _⟩
  | .list ds, _, _, h, r, hs, hz => by
    cases h with
    | vl sa ra =>
      cases r
      obtain ⟨its, rv, ⟨o, n, ho, hc, _, hd⟩, _⟩ := I.list sa
      have hz2 : (listText (PyData.shownAll ds)).length ≤ sizeLine := by simpa only [PyData.shown] using hz
      obtain ⟨as, bs, r1, r2, r3⟩ := rpa_told I ds _ its ra rv (by simpa [PyData.showable] using hs) (fun t q => Nat.le_trans (listText_mem_le q) hz2)
      have rd : Reads s.heap (.ref _) (.list ds) _ := Reads.list ho hc hd r1
      have nb := not_mem_of_deeper rd (n := PyData.depthAll ds) (by simp only [PyData.depth]; omega) r2
      refine ⟨_, _ :: bs, rd, ReadAtMost.cons rd (n := PyData.depthAll ds) (by simp only [PyData.depth]; omega) r2, ?_⟩
      simp only [PyData.depth, PyData.shown]
      cases its with
      | nil =>
        cases r1
        simp only [PyData.shownAll, listText_nil]
        exact ReprK.listEmpty ho hc hd
      | cons y l => exact ReprK.list ho hc hd nb (by simpa using r3.length_eq) fun i z e => r3.item i z (by simpa using e)
  | .tuple ds, _, _, h, r, hs, hz => by
    cases h with
    | vt sa ra =>
      cases r
      obtain ⟨its, rv, ⟨o, ho, hc, n, hd⟩, _⟩ := I.tuple sa
      have hz2 : (tupleText (PyData.shownAll ds)).length ≤ sizeLine := by simpa only [PyData.shown] using hz
      obtain ⟨as, bs, r1, r2, r3⟩ := rpa_told I ds _ its ra rv (by simpa [PyData.showable] using hs) (fun t q => Nat.le_trans (tupleText_mem_le q) hz2)
      have rd : Reads s.heap (.ref _) (.tuple ds) _ := Reads.tuple ho hc hd r1
      have nb := not_mem_of_deeper rd (n := PyData.depthAll ds) (by simp only [PyData.depth]; omega) r2
      refine ⟨_, _ :: bs, rd, ReadAtMost.cons rd (n := PyData.depthAll ds) (by simp only [PyData.depth]; omega) r2, ?_⟩
      simp only [PyData.depth, PyData.shown]
      exact ReprK.tuple ho hc hd nb r3
  | .dict ps, _, _, h, r, hs, hz => by
    cases h with
    | vd sa ra =>
      cases r
      obtain ⟨_, ns, vs, kv, o, es, ep, ho, ⟨hc, _, _⟩, hd, _, pr, _⟩ := dk_rd I.hok sa
      have hz2 : (dictText (PyData.shownKv ps)).length ≤ sizeLine := by simpa only [PyData.shown] using hz
      obtain ⟨as, bs, cs, r1, r2, r3, r4, r5⟩ := rpk_told I ps _ vs es.toList ra kv pr (by simpa [PyData.showable] using hs) (fun t q => Nat.le_trans (dictText_mem_le q) hz2)
      have rd : Reads s.heap (.ref _) (.dict ps) _ := Reads.dict ho hc hd r1 r2
      have nb := not_mem_of_deeper rd (n := PyData.depthKv ps) (by simp only [PyData.depth]; omega) r3
      refine ⟨_, _ :: cs, rd, ReadAtMost.cons rd (n := PyData.depthKv ps) (by simp only [PyData.depth]; omega) r3, ?_⟩
      simp only [PyData.depth, PyData.shown, PyData.shownKv_eq]
      exact ReprK.dict ho hc hd ns nb (ReprEntriesK.of_two _ _ _ r4 r5)
theorem rpk_told (I : Inv X pins σ H s) : ∀ (ps : List (PyData × PyData)) (ks : List (Key × V)) (vs : List (Key × Value)) (es : List DictEntry), RpKv X.K H ks ps → KV ks vs → Pairs (mixKind X.prog X.w) es vs →
    PyData.showableKv ps = true → (∀ t ∈ PyData.shownKv ps, t.length ≤ sizeLine) → ∃ as bs cs, ReadsAll s.heap (es.map (·.key)) (ps.map (·.1)) as ∧ ReadsAll s.heap (es.map (·.val)) (ps.map (·.2)) bs ∧
      ReadAtMost s.heap (PyData.depthKv ps) cs ∧ RA X s (PyData.depthKv ps) cs (es.map (·.key)) (PyData.shownAll (ps.map (·.1))) ∧ RA X s (PyData.depthKv ps) cs (es.map (·.val)) (PyData.shownAll (ps.map (·.2)))
  | [], _, _, _, h, kv, pr, _, _ => by
    cases h; cases kv; cases pr
    exact ⟨_, _, [], .nil, .nil, none_at, .nil, .nil⟩
  | (c, d) :: ps, _, _, _, h, kv, pr, hs, hz => by
    cases h with
    | cons h1 h2 =>
      cases kv with
      | cons k1 k2 =>
        cases pr with
        | cons p1 p2 p3 =>
          obtain ⟨k1, k3⟩ := k1
          simp only [PyData.showableKv, Bool.and_eq_true] at hs
          have z1 := hz _ (by simp only [PyData.shownKv]; exact List.mem_cons_self)
          rw [strLen_append, strLen_append] at z1
          have p4 : keyIs _ _ = true := p1
          rw [← k1] at p4
          obtain ⟨q1, q2⟩ := key_reads (X := X) (s := s) p4 hs.1.1 (by dsimp only; omega)
          rw [← p2] at k3
          obtain ⟨as, bs, q3, q4, q5⟩ := rp_told I d _ _ h1 k3 hs.1.2 (by omega)
          obtain ⟨as2, bs2, cs, g1, g2, g3, g4, g5⟩ := rpk_told I ps _ _ _ h2 k2 p3 hs.2 (fun t q => hz t (by simp only [PyData.shownKv]; exact List.mem_cons_of_mem _ q))
          refine ⟨_, _, bs ++ cs, ReadsAll.cons q1 g1, ReadsAll.cons q3 g2, ?_, ?_, ?_⟩
          · refine ReadAtMost.mono (join_two q4 g3) ?_
            simp only [PyData.depthKv]
            omega
          · simp only [List.map_cons, PyData.shownAll]
            exact ReprAllK.cons ((q2.more fun b q => nomatch q).level_le (by simp only [PyData.depthKv]; omega)) (g4.more_le (fun b q => List.mem_append.mpr (.inr q)) (by simp only [PyData.depthKv]; omega))
          · simp only [List.map_cons, PyData.shownAll]
            exact ReprAllK.cons ((q5.more fun b q => List.mem_append.mpr (.inl q)).level_le (by simp only [PyData.depthKv]; omega)) (g5.more_le (fun b q => List.mem_append.mpr (.inr q)) (by simp only [PyData.depthKv]; omega))
theorem rpa_told (I : Inv X pins σ H s) : ∀ (ds : List PyData) (vs : List V) (us : List Value), RpAll X.K H vs ds → Vals vs us → PyData.showableAll ds = true → (∀ t ∈ PyData.shownAll ds, t.length ≤ sizeLine) →
    ∃ as bs, ReadsAll s.heap us ds as ∧ ReadAtMost s.heap (PyData.depthAll ds) bs ∧ RA X s (PyData.depthAll ds) bs us (PyData.shownAll ds)
  | [], _, _, h, r, _, _ => by
    cases h; cases r
    exact ⟨_, [], .nil, none_at, .nil⟩
  | d :: ds, _, _, h, r, hs, hz => by
    cases h with
    | cons h1 h2 =>
      cases r with
      | cons r1 r2 =>
        simp only [PyData.showableAll, Bool.and_eq_true] at hs
        obtain ⟨as, bs, q1, q2, q3⟩ := rp_told I d _ _ h1 r1 hs.1 (hz _ (by simp only [PyData.shownAll]; exact List.mem_cons_self))
        obtain ⟨as2, bs2, g1, g2, g3⟩ := rpa_told I ds _ _ h2 r2 hs.2 (fun t q => hz t (by simp only [PyData.shownAll]; exact List.mem_cons_of_mem _ q))
        refine ⟨_, bs ++ bs2, ReadsAll.cons q1 g1, ?_, ?_⟩
        · simp only [PyData.depthAll]; exact join_two q2 g2
        · simp only [PyData.depthAll, PyData.shownAll]; exact RA.put q3 g3
end
end
abbrev rReprY (K : PySem.W.Frag) : List V → Hp → VK → Prop := fun xs H Q => ∃ v d, xs = [v] ∧ Rp K H v d ∧ d.showable = true ∧ d.depth ≤ 62 ∧ d.shown.length ≤ sizeLine ∧ Q (.str d.shown) H
def reprY : List PyData → Option PyData
  | [d] => if d.showable = true ∧ d.depth ≤ 62 ∧ d.shown.length ≤ sizeLine then some (.str d.shown) else none
  | _ => none
section
variable {X : Cx} {U : Hp}
theorem call_reprY (g : X.A.guards = some []) (hu : X.A.units + 66 < cLine) : CallR X (.builtin "repr") (rReprY X.K) := by
  intro pins s σ H xs us Q I r ⟨v, d, e, h, h1, h2, h3, q⟩
  subst e
  obtain ⟨u, rfl, rx⟩ := vals1 r
  cases h with
  | vn =>
    cases rx
    exact PySem.P.repr_of_none ⟨.str _, H, I.tok _, ⟨_, rfl⟩, q⟩
  | vb b =>
    cases rx
    refine PySem.P.repr_of_bool ⟨.str _, H, I.tok _, ⟨_, rfl⟩, ?_⟩
    cases b <;> exact q
  | vi i => exact SkE.call_repr_int pins s σ H _ _ Q I r ⟨i, rfl, by simpa [PyData.showable] using h1, by simpa only [PyData.shown] using q⟩
  | vs x =>
    obtain ⟨t, rfl⟩ := rx
    refine PySem.P.repr_of_str ⟨.str _, H, I.tok _, ⟨_, rfl⟩, ?_⟩ (by simpa only [PyData.shown] using h3)
    simpa only [PyData.shown] using q
  | @vl a xs ds sa ra =>
    cases rx
    obtain ⟨its, rv, ⟨o, n, ho, hc, _, hd⟩, _⟩ := I.list sa
    have hz2 : (listText (PyData.shownAll ds)).length ≤ sizeLine := by simpa only [PyData.shown] using h3
    obtain ⟨as, bs, r1, r2, r3⟩ := rpa_told I ds _ its ra rv (by simpa [PyData.showable] using h1) (fun t q => Nat.le_trans (listText_mem_le q) hz2)
    have nb := not_mem_of_deeper (Reads.list ho hc hd r1) (n := PyData.depthAll ds) (by simp only [PyData.depth]; omega) r2
    simp only [PyData.depth] at h2
    refine call_repr_slot (by omega) ⟨o, ho, hc⟩ F.slot_list_repr.toG ?_
    cases its with
    | nil =>
      cases r1
      refine call_list_repr_empty ⟨o, ho, hc⟩ ho hd ⟨_, _, rfl, ⟨.str _, H, I.tok _, ⟨_, rfl⟩, ?_⟩⟩
      have e : PyData.shown (.list []) = ("[]" : Str) := by simp only [PyData.shown, PyData.shownAll, listText_nil]
      rw [e] at q
      exact q
    | cons y l =>
      refine call_list_reprK (d := PyData.depthAll ds) (as := bs) ho hc hd nb (ts := PyData.shownAll ds) (by simpa using r3.length_eq) (fun i z e => r3.item i z (by simpa using e)) (by show X.A.guards = some []; exact g) (fun b _ => Clear.nil b) (by show X.A.units + 1 + _ < cLine; omega) (fun _ _ z => z) (fun h' t tk hk => ⟨_, _, rfl, ⟨.str _, H, I.kept hk, ⟨t, rfl⟩, ?_⟩⟩) hz2
      simpa only [PyData.shown] using q
  | @vt a xs ds sa ra =>
    cases rx
    obtain ⟨its, rv, ⟨o, ho, hc, n, hd⟩, _⟩ := I.tuple sa
    have hz2 : (tupleText (PyData.shownAll ds)).length ≤ sizeLine := by simpa only [PyData.shown] using h3
    obtain ⟨as, bs, r1, r2, r3⟩ := rpa_told I ds _ its ra rv (by simpa [PyData.showable] using h1) (fun t q => Nat.le_trans (tupleText_mem_le q) hz2)
    have nb := not_mem_of_deeper (Reads.tuple ho hc hd r1) (n := PyData.depthAll ds) (by simp only [PyData.depth]; omega) r2
    simp only [PyData.depth] at h2
    refine call_repr_slot (by omega) ⟨o, ho, hc⟩ F.slot_tuple_repr ?_
    refine call_tuple_reprK (d := PyData.depthAll ds) (as := bs) ho hc hd nb r3 (by show X.A.guards = some []; exact g) (fun b _ => Clear.nil b) (by show X.A.units + 1 + _ < cLine; omega) (fun _ _ z => z) (fun h' t tk hk => ⟨_, _, rfl, ⟨.str _, H, I.kept hk, ⟨t, rfl⟩, ?_⟩⟩) hz2
    simpa only [PyData.shown] using q
  | @vd a ks ps sa ra =>
    cases rx
    obtain ⟨_, ns, vs, kv, o, es, ep, ho, ⟨hc, _, _⟩, hd, _, pr, _⟩ := dk_rd I.hok sa
    have hz2 : (dictText (PyData.shownKv ps)).length ≤ sizeLine := by simpa only [PyData.shown] using h3
    obtain ⟨as, bs, cs, r1, r2, r3, r4, r5⟩ := rpk_told I ps _ vs es.toList ra kv pr (by simpa [PyData.showable] using h1) (fun t q => Nat.le_trans (dictText_mem_le q) hz2)
    have nb := not_mem_of_deeper (Reads.dict ho hc hd r1 r2) (n := PyData.depthKv ps) (by simp only [PyData.depth]; omega) r3
    simp only [PyData.depth] at h2
    refine call_repr_slot (by omega) ⟨o, ho, hc⟩ F.slot_dict_repr ?_
    refine call_dict_reprK (d := PyData.depthKv ps) (as := cs) ho hc hd ns nb (ReprEntriesK.of_two _ _ _ r4 r5) (by show X.A.guards = some []; exact g) (fun b _ => Clear.nil b) (by show X.A.units + 1 + _ < cLine; omega) (fun _ _ z => z) (fun h' t tk hk => ⟨_, _, rfl, ⟨.str _, H, I.kept hk, ⟨t, rfl⟩, ?_⟩⟩) (by rw [← PyData.shownKv_eq]; exact hz2)
    simpa only [PyData.shown, PyData.shownKv_eq] using q
theorem cd_reprY : CallD X U (rReprY X.K) reprY := by
  intro A F H σ r m vs ds d Q G ha e k
  unfold reprY at e
  split at e
  · split at e
    · rename_i hz
      cases e
      obtain ⟨v, rfl, h⟩ := rpa1 ha
      exact ⟨v, _, rfl, Rpm G.sub h, hz.1, hz.2.1, hz.2.2, k F H _ (Same.refl F) G (.vs _)⟩
    · cases e
  · cases e
/-! ## {} -/
def eDct : Ev := fun _ m => some (.dict [], m)
theorem qe_dct {pos : Pos} : PE X (.Dict [] [] pos) (tE X.K U eDct) := pe_weak pe_dnewK fun σ H Q ⟨A, F, r, m, d, m', G, e, k⟩ => by
  cases e
  exact fun p np => k _ _ _ (same_new (G.nope np).1) (G.laid np) (.vd (.inl upd_same) .nil)
end
theorem w_reprY {d : PyData} {R : PyData → Prop} (h1 : d.showable = true) (h2 : d.depth ≤ 62) (h3 : d.shown.length ≤ sizeLine) (q : R (.str d.shown)) : W (reprY [d]) R := W.guard ⟨h1, h2, h3⟩ (.mk q)
theorem w_dct {r : Rs} {m : Ms} {Q : PyData × Ms → Prop} (h : Q (.dict [], m)) : W (eDct r m) Q := .mk h
end TL

end
/-! GK21 -/
section
set_option maxHeartbeats 8000000
namespace K21
open PySem L2 TL
def topS (i : Nat) : Stmt := PySem.Challenge.pw_latehall_k21_meanings_looked_at.main.body.getD i (.Pass ⟨0, 0, 0, 0⟩)
/-! ### is_whole -/
abbrev s_is_whole : Stmt := topS 1
theorem sc_is_whole : FnScope ["thing"] ["thing"] (defScope s_is_whole) := ⟨rfl, rfl, rfl, by decide +kernel, rfl, by decide +kernel, by decide +kernel⟩
def b_is_whole : Es := (sRet (eAndV (eMap (eV 0) (isiD "int")) (eMap (eMap (eV 0) (isiD "bool")) notD)))
def m_is_whole : List PyData → Option PyData := runD 0 b_is_whole
theorem ok_is_whole {P : Program} {w : World} {K : PySem.W.Frag} {mg : Str → Option Value} {base : Heap} {f : Addr} {fd : FuncData} (F : Fun K "is_whole" "is_whole" s_is_whole f fd) (n_bool : mg "bool" = none) (n_int : mg "int" = none) (n_isinstance : mg "isinstance" = none) :
    FnG P w K mg base 1 f fd ["thing"] (spD K 1 m_is_whole) :=
  fn_DG F sc_is_whole (by decide) (fun cdv A outer s0 H E U hr gd =>
      show PSs _ _ (tS K U 0 b_is_whole) from
      (qs_one (qs_ret (qe_and (qe_isi (T := "int") (by decide +kernel) (by rfl) n_isinstance (by rfl) n_int (by decide +kernel) (qe_var 0 (pv 0))) (qe_one (qe_not (qe_isi (T := "bool") (by decide +kernel) (by rfl) n_isinstance (by rfl) n_bool (by decide +kernel) (qe_var 0 (pv 0)))))))))
/-! ### are_same -/
abbrev s_are_same : Stmt := topS 2
theorem sc_are_same : FnScope ["thing", "told", "part", "other"] ["thing", "told"] (defScope s_are_same) := ⟨rfl, rfl, rfl, by decide +kernel, rfl, by decide +kernel, by decide +kernel⟩
def b_are_same (g_ : List PyData → Option PyData) : Es := (sSeq (sIf (eT blD (eBin isD (eV 1) (eC .none))) (sRet (eBin isD (eV 0) (eC .none))) sNil)
    (sSeq (sIf (eT truD (eMap (eV 1) (isiD "tuple"))) (sSeq (sIf (eOr (eNot (eT truD (eMap (eV 0) (isiD "tuple")))) (eT blD (eBin neX (eMap (eCons (eV 0) eNil) lenD) (eMap (eCons (eV 1) eNil) lenD)))) (sRet (eC (.bool false))) sNil)
    (sRet (eMap (eCons (eLc (eZip (eCons (eV 0) (eCons (eV 1) eNil))) [2, 3] (hTup (hCons (hNm 2) (hCons (hNm 3) hNil)) 2) eYes (eMap (eCons (eV 2) (eCons (eV 3) eNil)) (arN 2 g_))) eNil) allD))) sNil)
    (sSeq (sIf (eT truD (eMap (eV 1) (isiD "str"))) (sRet (eAndV (eMap (eV 0) (isiD "str")) (eBin eqX (eV 0) (eV 1)))) sNil)
    (sRet (eAndV (eMap (eCons (eV 0) eNil) (arN 1 m_is_whole)) (eBin eqX (eV 0) (eV 1)))))))
def m_are_same_0 : List PyData → Option PyData := fun _ => none
def m_are_same_1 : List PyData → Option PyData := runD 2 (b_are_same m_are_same_0)
def m_are_same_2 : List PyData → Option PyData := runD 2 (b_are_same m_are_same_1)
def m_are_same_3 : List PyData → Option PyData := runD 2 (b_are_same m_are_same_2)
def m_are_same_4 : List PyData → Option PyData := runD 2 (b_are_same m_are_same_3)
def m_are_same_5 : List PyData → Option PyData := runD 2 (b_are_same m_are_same_4)
abbrev m_are_same : List PyData → Option PyData := m_are_same_5
theorem ok_are_same_1 {P : Program} {w : World} {K : PySem.W.Frag} {mg : Str → Option Value} {base : Heap} {f : Addr} {fd : FuncData} (F : Fun K "are_same" "are_same" s_are_same f fd) (n_all : mg "all" = none) (n_isinstance : mg "isinstance" = none) (n_len : mg "len" = none) (n_str : mg "str" = none) (n_tuple : mg "tuple" = none) (n_zip : mg "zip" = none) (C_are_same : CalG P w K mg base "are_same" 1 ["thing", "told"] (spD K 2 m_are_same_0)) (C_is_whole : CalG P w K mg base "is_whole" 1 ["thing"] (spD K 1 m_is_whole)) :
    FnG P w K mg base 2 f fd ["thing", "told"] (spD K 2 m_are_same_1) :=
  fn_DG F sc_are_same (by decide) (fun cdv A outer s0 H E U hr gd =>
      show PSs _ _ (tS K U 0 (b_are_same m_are_same_0)) from
      (qs_cons (qs_if (qt_cmp (opr_or op_isN op_isBl) od_is (qe_var 1 (pv 1)) qe_non (by rfl)) (qs_one (qs_ret (qe_cmp (opr_or op_isN op_isBl) od_is (qe_var 0 (pv 0)) qe_non (by rfl)))) qs_nil)
      (qs_cons (qs_if (qt_tru (qe_isi (T := "tuple") (by decide +kernel) (by rfl) n_isinstance (by rfl) n_tuple (by decide +kernel) (qe_var 1 (pv 1)))) (qs_cons (qs_if (PW.pt (qw_or (qt_not (qt_tru (qe_isi (T := "tuple") (by decide +kernel) (by rfl) n_isinstance (by rfl) n_tuple (by decide +kernel) (qe_var 0 (pv 0))))) (qw_or1 (qt_cmp (op_neX hr.units) od_neX (qe_callB call_len cd_len (by rfl) n_len (by decide +kernel) (qa_cons (qe_var 0 (pv 0)) qa_nil)) (qe_callB call_len cd_len (by rfl) n_len (by decide +kernel) (qa_cons (qe_var 1 (pv 1)) qa_nil)) (by rfl))))) (qs_one (qs_ret qe_bl)) qs_nil)
      (qs_one (qs_ret (qe_callB (cr_all rfl) cd_all (by rfl) n_all (by decide +kernel) (qa_cons (qe_lc (own := [("part", 2), ("other", 3)]) rfl sc_are_same.nd (qi_zip (by rfl) n_zip (qa_cons (qe_var 0 (pv 0)) (qa_cons (qe_var 1 (pv 1)) qa_nil))) (blkOk_by (own := [("part", 2), ("other", 3)]) (N := ["thing", "told", "part", "other"]) (sc := defScope s_are_same) (by decide +kernel)) (by decide) (fun _ _ _ _ _ _ => (qg_tup rfl (qgs_cons (qg_name sc_are_same.nd (i := 2) rfl (by first | exact Or.inl rfl | exact Or.inr rfl)) (qgs_cons (qg_name sc_are_same.nd (i := 3) rfl (by first | exact Or.inl rfl | exact Or.inr rfl)) qgs_nil)))) (fun _ _ _ _ _ _ => qts_nil) (fun _ _ _ _ _ _ => (qc_callG C_are_same hr gd (by decide) (qa_cons (qe_var 2 (pv 2)) (qa_cons (qe_var 3 (pv 3)) qa_nil))))) qa_nil))))) qs_nil)
      (qs_cons (qs_if (qt_tru (qe_isi (T := "str") (by decide +kernel) (by rfl) n_isinstance (by rfl) n_str (by decide +kernel) (qe_var 1 (pv 1)))) (qs_one (qs_ret (qe_and (qe_isi (T := "str") (by decide +kernel) (by rfl) n_isinstance (by rfl) n_str (by decide +kernel) (qe_var 0 (pv 0))) (qe_one (qe_cmp (op_eqX hr.units) od_eqX (qe_var 0 (pv 0)) (qe_var 1 (pv 1)) (by rfl)))))) qs_nil)
      (qs_one (qs_ret (qe_and (qc_callG C_is_whole hr gd (by decide) (qa_cons (qe_var 0 (pv 0)) qa_nil)) (qe_one (qe_cmp (op_eqX hr.units) od_eqX (qe_var 0 (pv 0)) (qe_var 1 (pv 1)) (by rfl))))))))))
theorem ok_are_same_2 {P : Program} {w : World} {K : PySem.W.Frag} {mg : Str → Option Value} {base : Heap} {f : Addr} {fd : FuncData} (F : Fun K "are_same" "are_same" s_are_same f fd) (n_all : mg "all" = none) (n_isinstance : mg "isinstance" = none) (n_len : mg "len" = none) (n_str : mg "str" = none) (n_tuple : mg "tuple" = none) (n_zip : mg "zip" = none) (C_are_same : CalG P w K mg base "are_same" 2 ["thing", "told"] (spD K 2 m_are_same_1)) (C_is_whole : CalG P w K mg base "is_whole" 1 ["thing"] (spD K 1 m_is_whole)) :
    FnG P w K mg base 3 f fd ["thing", "told"] (spD K 2 m_are_same_2) :=
  fn_DG F sc_are_same (by decide) (fun cdv A outer s0 H E U hr gd =>
      show PSs _ _ (tS K U 0 (b_are_same m_are_same_1)) from
      (qs_cons (qs_if (qt_cmp (opr_or op_isN op_isBl) od_is (qe_var 1 (pv 1)) qe_non (by rfl)) (qs_one (qs_ret (qe_cmp (opr_or op_isN op_isBl) od_is (qe_var 0 (pv 0)) qe_non (by rfl)))) qs_nil)
      (qs_cons (qs_if (qt_tru (qe_isi (T := "tuple") (by decide +kernel) (by rfl) n_isinstance (by rfl) n_tuple (by decide +kernel) (qe_var 1 (pv 1)))) (qs_cons (qs_if (PW.pt (qw_or (qt_not (qt_tru (qe_isi (T := "tuple") (by decide +kernel) (by rfl) n_isinstance (by rfl) n_tuple (by decide +kernel) (qe_var 0 (pv 0))))) (qw_or1 (qt_cmp (op_neX hr.units) od_neX (qe_callB call_len cd_len (by rfl) n_len (by decide +kernel) (qa_cons (qe_var 0 (pv 0)) qa_nil)) (qe_callB call_len cd_len (by rfl) n_len (by decide +kernel) (qa_cons (qe_var 1 (pv 1)) qa_nil)) (by rfl))))) (qs_one (qs_ret qe_bl)) qs_nil)
      (qs_one (qs_ret (qe_callB (cr_all rfl) cd_all (by rfl) n_all (by decide +kernel) (qa_cons (qe_lc (own := [("part", 2), ("other", 3)]) rfl sc_are_same.nd (qi_zip (by rfl) n_zip (qa_cons (qe_var 0 (pv 0)) (qa_cons (qe_var 1 (pv 1)) qa_nil))) (blkOk_by (own := [("part", 2), ("other", 3)]) (N := ["thing", "told", "part", "other"]) (sc := defScope s_are_same) (by decide +kernel)) (by decide) (fun _ _ _ _ _ _ => (qg_tup rfl (qgs_cons (qg_name sc_are_same.nd (i := 2) rfl (by first | exact Or.inl rfl | exact Or.inr rfl)) (qgs_cons (qg_name sc_are_same.nd (i := 3) rfl (by first | exact Or.inl rfl | exact Or.inr rfl)) qgs_nil)))) (fun _ _ _ _ _ _ => qts_nil) (fun _ _ _ _ _ _ => (qc_callG C_are_same hr gd (by decide) (qa_cons (qe_var 2 (pv 2)) (qa_cons (qe_var 3 (pv 3)) qa_nil))))) qa_nil))))) qs_nil)
      (qs_cons (qs_if (qt_tru (qe_isi (T := "str") (by decide +kernel) (by rfl) n_isinstance (by rfl) n_str (by decide +kernel) (qe_var 1 (pv 1)))) (qs_one (qs_ret (qe_and (qe_isi (T := "str") (by decide +kernel) (by rfl) n_isinstance (by rfl) n_str (by decide +kernel) (qe_var 0 (pv 0))) (qe_one (qe_cmp (op_eqX hr.units) od_eqX (qe_var 0 (pv 0)) (qe_var 1 (pv 1)) (by rfl)))))) qs_nil)
      (qs_one (qs_ret (qe_and (qc_callG C_is_whole hr gd (by decide) (qa_cons (qe_var 0 (pv 0)) qa_nil)) (qe_one (qe_cmp (op_eqX hr.units) od_eqX (qe_var 0 (pv 0)) (qe_var 1 (pv 1)) (by rfl))))))))))
theorem ok_are_same_3 {P : Program} {w : World} {K : PySem.W.Frag} {mg : Str → Option Value} {base : Heap} {f : Addr} {fd : FuncData} (F : Fun K "are_same" "are_same" s_are_same f fd) (n_all : mg "all" = none) (n_isinstance : mg "isinstance" = none) (n_len : mg "len" = none) (n_str : mg "str" = none) (n_tuple : mg "tuple" = none) (n_zip : mg "zip" = none) (C_are_same : CalG P w K mg base "are_same" 3 ["thing", "told"] (spD K 2 m_are_same_2)) (C_is_whole : CalG P w K mg base "is_whole" 1 ["thing"] (spD K 1 m_is_whole)) :
    FnG P w K mg base 4 f fd ["thing", "told"] (spD K 2 m_are_same_3) :=
  fn_DG F sc_are_same (by decide) (fun cdv A outer s0 H E U hr gd =>
      show PSs _ _ (tS K U 0 (b_are_same m_are_same_2)) from
      (qs_cons (qs_if (qt_cmp (opr_or op_isN op_isBl) od_is (qe_var 1 (pv 1)) qe_non (by rfl)) (qs_one (qs_ret (qe_cmp (opr_or op_isN op_isBl) od_is (qe_var 0 (pv 0)) qe_non (by rfl)))) qs_nil)
      (qs_cons (qs_if (qt_tru (qe_isi (T := "tuple") (by decide +kernel) (by rfl) n_isinstance (by rfl) n_tuple (by decide +kernel) (qe_var 1 (pv 1)))) (qs_cons (qs_if (PW.pt (qw_or (qt_not (qt_tru (qe_isi (T := "tuple") (by decide +kernel) (by rfl) n_isinstance (by rfl) n_tuple (by decide +kernel) (qe_var 0 (pv 0))))) (qw_or1 (qt_cmp (op_neX hr.units) od_neX (qe_callB call_len cd_len (by rfl) n_len (by decide +kernel) (qa_cons (qe_var 0 (pv 0)) qa_nil)) (qe_callB call_len cd_len (by rfl) n_len (by decide +kernel) (qa_cons (qe_var 1 (pv 1)) qa_nil)) (by rfl))))) (qs_one (qs_ret qe_bl)) qs_nil)
      (qs_one (qs_ret (qe_callB (cr_all rfl) cd_all (by rfl) n_all (by decide +kernel) (qa_cons (qe_lc (own := [("part", 2), ("other", 3)]) rfl sc_are_same.nd (qi_zip (by rfl) n_zip (qa_cons (qe_var 0 (pv 0)) (qa_cons (qe_var 1 (pv 1)) qa_nil))) (blkOk_by (own := [("part", 2), ("other", 3)]) (N := ["thing", "told", "part", "other"]) (sc := defScope s_are_same) (by decide +kernel)) (by decide) (fun _ _ _ _ _ _ => (qg_tup rfl (qgs_cons (qg_name sc_are_same.nd (i := 2) rfl (by first | exact Or.inl rfl | exact Or.inr rfl)) (qgs_cons (qg_name sc_are_same.nd (i := 3) rfl (by first | exact Or.inl rfl | exact Or.inr rfl)) qgs_nil)))) (fun _ _ _ _ _ _ => qts_nil) (fun _ _ _ _ _ _ => (qc_callG C_are_same hr gd (by decide) (qa_cons (qe_var 2 (pv 2)) (qa_cons (qe_var 3 (pv 3)) qa_nil))))) qa_nil))))) qs_nil)
      (qs_cons (qs_if (qt_tru (qe_isi (T := "str") (by decide +kernel) (by rfl) n_isinstance (by rfl) n_str (by decide +kernel) (qe_var 1 (pv 1)))) (qs_one (qs_ret (qe_and (qe_isi (T := "str") (by decide +kernel) (by rfl) n_isinstance (by rfl) n_str (by decide +kernel) (qe_var 0 (pv 0))) (qe_one (qe_cmp (op_eqX hr.units) od_eqX (qe_var 0 (pv 0)) (qe_var 1 (pv 1)) (by rfl)))))) qs_nil)
      (qs_one (qs_ret (qe_and (qc_callG C_is_whole hr gd (by decide) (qa_cons (qe_var 0 (pv 0)) qa_nil)) (qe_one (qe_cmp (op_eqX hr.units) od_eqX (qe_var 0 (pv 0)) (qe_var 1 (pv 1)) (by rfl))))))))))
theorem ok_are_same_4 {P : Program} {w : World} {K : PySem.W.Frag} {mg : Str → Option Value} {base : Heap} {f : Addr} {fd : FuncData} (F : Fun K "are_same" "are_same" s_are_same f fd) (n_all : mg "all" = none) (n_isinstance : mg "isinstance" = none) (n_len : mg "len" = none) (n_str : mg "str" = none) (n_tuple : mg "tuple" = none) (n_zip : mg "zip" = none) (C_are_same : CalG P w K mg base "are_same" 4 ["thing", "told"] (spD K 2 m_are_same_3)) (C_is_whole : CalG P w K mg base "is_whole" 1 ["thing"] (spD K 1 m_is_whole)) :
    FnG P w K mg base 5 f fd ["thing", "told"] (spD K 2 m_are_same_4) :=
  fn_DG F sc_are_same (by decide) (fun cdv A outer s0 H E U hr gd =>
      show PSs _ _ (tS K U 0 (b_are_same m_are_same_3)) from
      (qs_cons (qs_if (qt_cmp (opr_or op_isN op_isBl) od_is (qe_var 1 (pv 1)) qe_non (by rfl)) (qs_one (qs_ret (qe_cmp (opr_or op_isN op_isBl) od_is (qe_var 0 (pv 0)) qe_non (by rfl)))) qs_nil)
      (qs_cons (qs_if (qt_tru (qe_isi (T := "tuple") (by decide +kernel) (by rfl) n_isinstance (by rfl) n_tuple (by decide +kernel) (qe_var 1 (pv 1)))) (qs_cons (qs_if (PW.pt (qw_or (qt_not (qt_tru (qe_isi (T := "tuple") (by decide +kernel) (by rfl) n_isinstance (by rfl) n_tuple (by decide +kernel) (qe_var 0 (pv 0))))) (qw_or1 (qt_cmp (op_neX hr.units) od_neX (qe_callB call_len cd_len (by rfl) n_len (by decide +kernel) (qa_cons (qe_var 0 (pv 0)) qa_nil)) (qe_callB call_len cd_len (by rfl) n_len (by decide +kernel) (qa_cons (qe_var 1 (pv 1)) qa_nil)) (by rfl))))) (qs_one (qs_ret qe_bl)) qs_nil)
      (qs_one (qs_ret (qe_callB (cr_all rfl) cd_all (by rfl) n_all (by decide +kernel) (qa_cons (qe_lc (own := [("part", 2), ("other", 3)]) rfl sc_are_same.nd (qi_zip (by rfl) n_zip (qa_cons (qe_var 0 (pv 0)) (qa_cons (qe_var 1 (pv 1)) qa_nil))) (blkOk_by (own := [("part", 2), ("other", 3)]) (N := ["thing", "told", "part", "other"]) (sc := defScope s_are_same) (by decide +kernel)) (by decide) (fun _ _ _ _ _ _ => (qg_tup rfl (qgs_cons (qg_name sc_are_same.nd (i := 2) rfl (by first | exact Or.inl rfl | exact Or.inr rfl)) (qgs_cons (qg_name sc_are_same.nd (i := 3) rfl (by first | exact Or.inl rfl | exact Or.inr rfl)) qgs_nil)))) (fun _ _ _ _ _ _ => qts_nil) (fun _ _ _ _ _ _ => (qc_callG C_are_same hr gd (by decide) (qa_cons (qe_var 2 (pv 2)) (qa_cons (qe_var 3 (pv 3)) qa_nil))))) qa_nil))))) qs_nil)
      (qs_cons (qs_if (qt_tru (qe_isi (T := "str") (by decide +kernel) (by rfl) n_isinstance (by rfl) n_str (by decide +kernel) (qe_var 1 (pv 1)))) (qs_one (qs_ret (qe_and (qe_isi (T := "str") (by decide +kernel) (by rfl) n_isinstance (by rfl) n_str (by decide +kernel) (qe_var 0 (pv 0))) (qe_one (qe_cmp (op_eqX hr.units) od_eqX (qe_var 0 (pv 0)) (qe_var 1 (pv 1)) (by rfl)))))) qs_nil)
      (qs_one (qs_ret (qe_and (qc_callG C_is_whole hr gd (by decide) (qa_cons (qe_var 0 (pv 0)) qa_nil)) (qe_one (qe_cmp (op_eqX hr.units) od_eqX (qe_var 0 (pv 0)) (qe_var 1 (pv 1)) (by rfl))))))))))
theorem ok_are_same_5 {P : Program} {w : World} {K : PySem.W.Frag} {mg : Str → Option Value} {base : Heap} {f : Addr} {fd : FuncData} (F : Fun K "are_same" "are_same" s_are_same f fd) (n_all : mg "all" = none) (n_isinstance : mg "isinstance" = none) (n_len : mg "len" = none) (n_str : mg "str" = none) (n_tuple : mg "tuple" = none) (n_zip : mg "zip" = none) (C_are_same : CalG P w K mg base "are_same" 5 ["thing", "told"] (spD K 2 m_are_same_4)) (C_is_whole : CalG P w K mg base "is_whole" 1 ["thing"] (spD K 1 m_is_whole)) :
    FnG P w K mg base 6 f fd ["thing", "told"] (spD K 2 m_are_same_5) :=
  fn_DG F sc_are_same (by decide) (fun cdv A outer s0 H E U hr gd =>
      show PSs _ _ (tS K U 0 (b_are_same m_are_same_4)) from
      (qs_cons (qs_if (qt_cmp (opr_or op_isN op_isBl) od_is (qe_var 1 (pv 1)) qe_non (by rfl)) (qs_one (qs_ret (qe_cmp (opr_or op_isN op_isBl) od_is (qe_var 0 (pv 0)) qe_non (by rfl)))) qs_nil)
      (qs_cons (qs_if (qt_tru (qe_isi (T := "tuple") (by decide +kernel) (by rfl) n_isinstance (by rfl) n_tuple (by decide +kernel) (qe_var 1 (pv 1)))) (qs_cons (qs_if (PW.pt (qw_or (qt_not (qt_tru (qe_isi (T := "tuple") (by decide +kernel) (by rfl) n_isinstance (by rfl) n_tuple (by decide +kernel) (qe_var 0 (pv 0))))) (qw_or1 (qt_cmp (op_neX hr.units) od_neX (qe_callB call_len cd_len (by rfl) n_len (by decide +kernel) (qa_cons (qe_var 0 (pv 0)) qa_nil)) (qe_callB call_len cd_len (by rfl) n_len (by decide +kernel) (qa_cons (qe_var 1 (pv 1)) qa_nil)) (by rfl))))) (qs_one (qs_ret qe_bl)) qs_nil)
      (qs_one (qs_ret (qe_callB (cr_all rfl) cd_all (by rfl) n_all (by decide +kernel) (qa_cons (qe_lc (own := [("part", 2), ("other", 3)]) rfl sc_are_same.nd (qi_zip (by rfl) n_zip (qa_cons (qe_var 0 (pv 0)) (qa_cons (qe_var 1 (pv 1)) qa_nil))) (blkOk_by (own := [("part", 2), ("other", 3)]) (N := ["thing", "told", "part", "other"]) (sc := defScope s_are_same) (by decide +kernel)) (by decide) (fun _ _ _ _ _ _ => (qg_tup rfl (qgs_cons (qg_name sc_are_same.nd (i := 2) rfl (by first | exact Or.inl rfl | exact Or.inr rfl)) (qgs_cons (qg_name sc_are_same.nd (i := 3) rfl (by first | exact Or.inl rfl | exact Or.inr rfl)) qgs_nil)))) (fun _ _ _ _ _ _ => qts_nil) (fun _ _ _ _ _ _ => (qc_callG C_are_same hr gd (by decide) (qa_cons (qe_var 2 (pv 2)) (qa_cons (qe_var 3 (pv 3)) qa_nil))))) qa_nil))))) qs_nil)
      (qs_cons (qs_if (qt_tru (qe_isi (T := "str") (by decide +kernel) (by rfl) n_isinstance (by rfl) n_str (by decide +kernel) (qe_var 1 (pv 1)))) (qs_one (qs_ret (qe_and (qe_isi (T := "str") (by decide +kernel) (by rfl) n_isinstance (by rfl) n_str (by decide +kernel) (qe_var 0 (pv 0))) (qe_one (qe_cmp (op_eqX hr.units) od_eqX (qe_var 0 (pv 0)) (qe_var 1 (pv 1)) (by rfl)))))) qs_nil)
      (qs_one (qs_ret (qe_and (qc_callG C_is_whole hr gd (by decide) (qa_cons (qe_var 0 (pv 0)) qa_nil)) (qe_one (qe_cmp (op_eqX hr.units) od_eqX (qe_var 0 (pv 0)) (qe_var 1 (pv 1)) (by rfl))))))))))
/-! ### fits -/
abbrev s_fits : Stmt := topS 4
theorem sc_fits : FnScope ["give", "use", "word", "version", "cell", "_"] ["give", "use"] (defScope s_fits) := ⟨rfl, rfl, rfl, by decide +kernel, rfl, by decide +kernel, by decide +kernel⟩
def b_fits : Es := (sSeq (sAsg (eV 1) (hTup (hCons (hNm 2) (hCons (hNm 3) (hCons (hNm 4) (hCons (hNm 5) hNil)))) 4))
    (sSeq (sIf (eOr (eT blD (eBin neX (eBin ixD (eV 0) (eC (.int 0))) (eV 2))) (eT blD (eBin neX (eMap (eCons (eBin ixD (eV 0) (eC (.int 4))) eNil) (arN 1 m_is_whole)) (eV 4)))) (sRet (eC (.bool false))) sNil)
    (sRet (eOrV (eAndV (eBin eqX (eV 3) (eC (.str ""))) (eBin ixD (eV 0) (eC (.int 2)))) (eBin inD (eBin ixD (eV 0) (eC (.int 1))) (eTup (eCons (eV 3) (eCons (eC (.str "")) eNil))))))))
def m_fits : List PyData → Option PyData := runD 4 b_fits
theorem ok_fits {P : Program} {w : World} {K : PySem.W.Frag} {mg : Str → Option Value} {base : Heap} {f : Addr} {fd : FuncData} (F : Fun K "fits" "fits" s_fits f fd) (C_is_whole : CalG P w K mg base "is_whole" 1 ["thing"] (spD K 1 m_is_whole)) :
    FnG P w K mg base 2 f fd ["give", "use"] (spD K 2 m_fits) :=
  fn_DG F sc_fits (by decide) (fun cdv A outer s0 H E U hr gd =>
      show PSs _ _ (tS K U 0 b_fits) from
      (qs_cons (qs_asg (qe_var 1 (pv 1)) (qg_tup rfl (qgs_cons (qg_name sc_fits.nd (i := 2) rfl (by first | exact Or.inl rfl | exact Or.inr rfl)) (qgs_cons (qg_name sc_fits.nd (i := 3) rfl (by first | exact Or.inl rfl | exact Or.inr rfl)) (qgs_cons (qg_name sc_fits.nd (i := 4) rfl (by first | exact Or.inl rfl | exact Or.inr rfl)) (qgs_cons (qg_name sc_fits.nd (i := 5) rfl (by first | exact Or.inl rfl | exact Or.inr rfl)) qgs_nil))))))
      (qs_cons (qs_if (PW.pt (qw_or (qt_cmp (op_neX hr.units) od_neX (qe_ix (qe_var 0 (pv 0)) qe_int) (qe_var 2 (pv 2)) (by rfl)) (qw_or1 (qt_cmp (op_neX hr.units) od_neX (qc_callG C_is_whole hr gd (by decide) (qa_cons (qe_ix (qe_var 0 (pv 0)) qe_int) qa_nil)) (qe_var 4 (pv 4)) (by rfl))))) (qs_one (qs_ret qe_bl)) qs_nil)
      (qs_one (qs_ret (qe_or (qe_and (qe_cmp (op_eqX hr.units) od_eqX (qe_var 3 (pv 3)) qe_str (by rfl)) (qe_one (qe_ix (qe_var 0 (pv 0)) qe_int))) (qe_one (qe_cmp (or_inAll (room65 hr)) od_in (qe_ix (qe_var 0 (pv 0)) qe_int) (qe_tup (qa_cons (qe_var 3 (pv 3)) (qa_cons qe_str qa_nil))) (by rfl)))))))))
/-! ### first_meant -/
abbrev s_first_meant : Stmt := topS 7
theorem sc_first_meant : FnScope ["fitting", "faint", "strong", "found"] ["fitting", "faint"] (defScope s_first_meant) := ⟨rfl, rfl, rfl, by decide +kernel, rfl, by decide +kernel, by decide +kernel⟩
def b_first_meant : Es := (sSeq (sSet 2 (eLc (eIts (eV 0)) [3] (hNm 3) (eNot (eT truD (eBin ixD (eV 3) (eMap (eC (.int 1)) negD)))) (eV 3)))
    (sSeq (sIf (eAnd (eT truD (eV 1)) (eT truD (eV 2))) (sRet (eBin ixD (eV 2) (eC (.int 0)))) sNil)
    (sRet (eIf (eT truD (eV 0)) (eBin ixD (eV 0) (eC (.int 0))) (eC .none)))))
def m_first_meant : List PyData → Option PyData := runD 2 b_first_meant
theorem ok_first_meant {P : Program} {w : World} {K : PySem.W.Frag} {mg : Str → Option Value} {base : Heap} {f : Addr} {fd : FuncData} (F : Fun K "first_meant" "first_meant" s_first_meant f fd) :
    FnG P w K mg base 1 f fd ["fitting", "faint"] (spD K 2 m_first_meant) :=
  fn_DG F sc_first_meant (by decide) (fun cdv A outer s0 H E U hr gd =>
      show PSs _ _ (tS K U 0 b_first_meant) from
      (qs_cons (qs_setLc (i := 2) (own := [("found", 3)]) rfl sc_first_meant.nd rfl rfl (sw_true rfl rfl rfl (by decide +kernel)) (qi_its (qe_var 0 (pv 0))) (blkOk_by (own := [("found", 3)]) (N := ["fitting", "faint", "strong", "found"]) (sc := defScope s_first_meant) (by decide +kernel)) (by decide) (fun _ _ _ _ _ _ => (qg_name sc_first_meant.nd (i := 3) rfl (by first | exact Or.inl rfl | exact Or.inr rfl))) (fun _ _ _ _ _ _ => (qts_one (qt_not (qt_tru (qe_ix (qe_var 3 (pv 3)) (qe_neg qe_int)))))) (fun _ _ _ _ _ _ => (qe_var 3 (pv 3)))).1
      (qs_cons (qs_if (PW.pt (qw_and (qt_tru (qe_var 1 (pv 1))) (qw_and1 (qt_tru (qe_var 2 (pv 2)))))) (qs_one (qs_ret (qe_ix (qe_var 2 (pv 2)) qe_int))) qs_nil)
      (qs_one (qs_ret (qe_if (qt_tru (qe_var 0 (pv 0))) (qe_ix (qe_var 0 (pv 0)) qe_int) qe_non))))))
/-! ### _law_feed -/
abbrev s__law_feed : Stmt := topS 9
theorem sc__law_feed : FnScope ["script", "k", "seed", "digits"] ["script", "k"] (defScope s__law_feed) := ⟨rfl, rfl, rfl, by decide +kernel, rfl, by decide +kernel, by decide +kernel⟩
def b__law_feed : Es := (sSeq (sSet 2 (eBin addD (eBin mulD (eC (.int 67)) (eV 1)) (eC (.int 19))))
    (sSeq (sIf (eT blD (eBin ltD (eV 1) (eMap (eCons (eV 0) eNil) lenD))) (sSet 2 (eBin ixD (eV 0) (eV 1))) sNil)
    (sSeq (sSet 3 (eC (.int 0)))
    (sSeq (sIf (eT blD (eBin geD (eMap (eCons (eV 2) eNil) absD) (eBin powD (eC (.int 10)) (eC (.int 18))))) (sSet 3 (eBin subD (eMap (eCons (eV 2) eNil) absD) (eBin powD (eC (.int 10)) (eC (.int 18))))) sNil)
    (sRetL (eCons (eV 3) (eCons (eBin modD (eBin addD (eBin addD (eBin mulD (eV 2) (eC (.int 6364136223846793005))) (eBin mulD (eC (.int 7919)) (eV 1))) (eC (.int 1442695040888963407))) (eC (.int 2305843009213693951))) eNil)))))))
def m__law_feed : List PyData → Option PyData := runN 2 b__law_feed
theorem ok__law_feed {P : Program} {w : World} {K : PySem.W.Frag} {mg : Str → Option Value} {base : Heap} {f : Addr} {fd : FuncData} (F : Fun K "_law_feed" "_law_feed" s__law_feed f fd) (n_abs : mg "abs" = none) (n_len : mg "len" = none) :
    FnG P w K mg base 1 f fd ["script", "k"] (spN K 2 m__law_feed) :=
  fn_NG F sc__law_feed (by decide) (fun cdv A outer s0 H E U hr gd =>
      show PSs _ _ (tS K U 0 b__law_feed) from
      (qs_cons (qs_set sc__law_feed.nd (i := 2) rfl (by first | exact Or.inl rfl | exact Or.inr rfl) (qe_add (qe_mul qe_int (qe_var 1 (pv 1))) qe_int))
      (qs_cons (qs_if (qt_cmp op_lt od_lt (qe_var 1 (pv 1)) (qe_callB call_len cd_len (by rfl) n_len (by decide +kernel) (qa_cons (qe_var 0 (pv 0)) qa_nil)) (by rfl)) (qs_one (qs_set sc__law_feed.nd (i := 2) rfl (by first | exact Or.inl rfl | exact Or.inr rfl) (qe_ix (qe_var 0 (pv 0)) (qe_var 1 (pv 1))))) qs_nil)
      (qs_cons (qs_set sc__law_feed.nd (i := 3) rfl (by first | exact Or.inl rfl | exact Or.inr rfl) qe_int)
      (qs_cons (qs_if (qt_cmp op_ge od_ge (qe_callB call_abs cd_abs (by rfl) n_abs (by decide +kernel) (qa_cons (qe_var 2 (pv 2)) qa_nil)) (qe_pow qe_int qe_int) (by rfl)) (qs_one (qs_set sc__law_feed.nd (i := 3) rfl (by first | exact Or.inl rfl | exact Or.inr rfl) (qe_sub (qe_callB call_abs cd_abs (by rfl) n_abs (by decide +kernel) (qa_cons (qe_var 2 (pv 2)) qa_nil)) (qe_pow qe_int qe_int)))) qs_nil)
      (qs_one (qs_retL (qa_cons (qe_var 3 (pv 3)) (qa_cons (qe_mod (qe_add (qe_add (qe_mul (qe_var 2 (pv 2)) qe_int) (qe_mul qe_int (qe_var 1 (pv 1)))) qe_int) qe_int) qa_nil)))))))))
/-! ### _law_take -/
abbrev s__law_take : Stmt := topS 10
theorem sc__law_take : FnScope ["feed", "many", "found"] ["feed", "many"] (defScope s__law_take) := ⟨rfl, rfl, rfl, by decide +kernel, rfl, by decide +kernel, by decide +kernel⟩
def b__law_take : Es := (sSeq (sIf (eT blD (eBin gtD (eIxO 0 (eC (.int 0))) (eC (.int 0)))) (sSeq (sSet 2 (eBin modD (eIxO 0 (eC (.int 0))) (eV 1)))
    (sSeq (sPut 0 (eBin fdivD (eIxO 0 (eC (.int 0))) (eV 1)) (eC (.int 0)))
    (sRet (eV 2)))) sNil)
    (sSeq (sPut 0 (eBin modD (eBin addD (eBin mulD (eIxO 0 (eC (.int 1))) (eC (.int 48271))) (eC (.int 12345))) (eC (.int 2305843009213693951))) (eC (.int 1)))
    (sRet (eBin modD (eBin fdivD (eIxO 0 (eC (.int 1))) (eC (.int 2097152))) (eV 1)))))
def m__law_take : PyData → List PyData → Option (PyData × PyData) := runR 1 b__law_take
theorem ok__law_take {P : Program} {w : World} {K : PySem.W.Frag} {mg : Str → Option Value} {base : Heap} {f : Addr} {fd : FuncData} (F : Fun K "_law_take" "_law_take" s__law_take f fd) :
    FnG P w K mg base 1 f fd ["feed", "many"] (spR K 1 m__law_take) :=
  fn_RG F sc__law_take (by decide) (fun cdv A outer s0 H E U hr gd =>
      show PSs _ _ (tS K U 1 b__law_take) from
      (qs_cons (qs_if (qt_cmp op_gt od_gt (qe_ixO 0 (pv 0) qe_int) qe_int (by rfl)) (qs_cons (qs_set sc__law_take.nd (i := 2) rfl (by first | exact Or.inl rfl | exact Or.inr rfl) (qe_mod (qe_ixO 0 (pv 0) qe_int) (qe_var 1 (pv 1))))
      (qs_cons (qs_put (i := 0) (pv 0) (qe_fdiv (qe_ixO 0 (pv 0) qe_int) (qe_var 1 (pv 1))) qe_int (fun ho hi => pg_sub ho hi set_list))
      (qs_one (qs_ret (qe_var 2 (pv 2)))))) qs_nil)
      (qs_cons (qs_put (i := 0) (pv 0) (qe_mod (qe_add (qe_mul (qe_ixO 0 (pv 0) qe_int) qe_int) qe_int) qe_int) qe_int (fun ho hi => pg_sub ho hi set_list))
      (qs_one (qs_ret (qe_mod (qe_fdiv (qe_ixO 0 (pv 0) qe_int) qe_int) (qe_var 1 (pv 1))))))))
/-! ### _law_pick -/
abbrev s__law_pick : Stmt := topS 11
theorem sc__law_pick : FnScope ["feed", "some"] ["feed", "some"] (defScope s__law_pick) := ⟨rfl, rfl, rfl, by decide +kernel, rfl, by decide +kernel, by decide +kernel⟩
def b__law_pick : Es := (sRet (eBin ixD (eV 1) (eCallR 1 0 m__law_take (eCons (eMap (eCons (eV 1) eNil) lenD) eNil))))
def m__law_pick : PyData → List PyData → Option (PyData × PyData) := runR 0 b__law_pick
theorem ok__law_pick {P : Program} {w : World} {K : PySem.W.Frag} {mg : Str → Option Value} {base : Heap} {f : Addr} {fd : FuncData} (F : Fun K "_law_pick" "_law_pick" s__law_pick f fd) (n_len : mg "len" = none) (C__law_take : CalG P w K mg base "_law_take" 1 ["feed", "many"] (spR K 1 m__law_take)) :
    FnG P w K mg base 2 f fd ["feed", "some"] (spR K 1 m__law_pick) :=
  fn_RG F sc__law_pick (by decide) (fun cdv A outer s0 H E U hr gd =>
      show PSs _ _ (tS K U 1 b__law_pick) from
      (qs_one (qs_ret (qe_ix (qe_var 1 (pv 1)) (qc_callRG 0 C__law_take hr gd (by decide) (pv 0) (qa_cons (qe_callB call_len cd_len (by rfl) n_len (by decide +kernel) (qa_cons (qe_var 1 (pv 1)) qa_nil)) qa_nil))))))
/-! ### _law_whole -/
abbrev s__law_whole : Stmt := topS 12
theorem sc__law_whole : FnScope ["found"] ["found"] (defScope s__law_whole) := ⟨rfl, rfl, rfl, by decide +kernel, rfl, by decide +kernel, by decide +kernel⟩
def b__law_whole : Es := (sRet (eAndV (eMap (eV 0) (isiD "int")) (eMap (eMap (eV 0) (isiD "bool")) notD)))
def m__law_whole : List PyData → Option PyData := runD 0 b__law_whole
theorem ok__law_whole {P : Program} {w : World} {K : PySem.W.Frag} {mg : Str → Option Value} {base : Heap} {f : Addr} {fd : FuncData} (F : Fun K "_law_whole" "_law_whole" s__law_whole f fd) (n_bool : mg "bool" = none) (n_int : mg "int" = none) (n_isinstance : mg "isinstance" = none) :
    FnG P w K mg base 1 f fd ["found"] (spD K 1 m__law_whole) :=
  fn_DG F sc__law_whole (by decide) (fun cdv A outer s0 H E U hr gd =>
      show PSs _ _ (tS K U 0 b__law_whole) from
      (qs_one (qs_ret (qe_and (qe_isi (T := "int") (by decide +kernel) (by rfl) n_isinstance (by rfl) n_int (by decide +kernel) (qe_var 0 (pv 0))) (qe_one (qe_not (qe_isi (T := "bool") (by decide +kernel) (by rfl) n_isinstance (by rfl) n_bool (by decide +kernel) (qe_var 0 (pv 0)))))))))
/-! ### _law_words -/
abbrev s__law_words : Stmt := topS 13
theorem sc__law_words : FnScope ["feed", "letters", "first", "body", "libraries", "other", "words", "k"] ["feed"] (defScope s__law_words) := ⟨rfl, rfl, rfl, by decide +kernel, rfl, by decide +kernel, by decide +kernel⟩
def b__law_words : Es := (sSeq (sSet 1 (eC (.str "abcdefghijklmnopqrstuvwxyz")))
    (sSeq (sSet 2 (eCallR 1 0 m__law_take (eCons (eC (.int 26)) eNil)))
    (sSeq (sSet 3 (eBin mulD (eBin ixD (eV 1) (eCallR 1 0 m__law_take (eCons (eC (.int 26)) eNil))) (eCallR 1 0 m__law_take (eCons (eC (.int 7)) eNil))))
    (sSeq (sSet 4 (eLc (eRg1 (eCons (eC (.int 8)) eNil)) [7] (hNm 7) eYes (eBin addD (eBin ixD (eV 1) (eBin modD (eBin addD (eV 2) (eBin mulD (eC (.int 5)) (eV 7))) (eC (.int 26)))) (eV 3))))
    (sSeq (sSet 5 (eBin mulD (eBin ixD (eV 1) (eCallR 1 0 m__law_take (eCons (eC (.int 26)) eNil))) (eCallR 1 0 m__law_take (eCons (eC (.int 5)) eNil))))
    (sSeq (sSet 6 (eLc (eRg1 (eCons (eC (.int 5)) eNil)) [7] (hNm 7) eYes (eBin addD (eV 5) (eBin ixD (eV 1) (eBin modD (eBin addD (eV 2) (eBin mulD (eC (.int 7)) (eV 7))) (eC (.int 26)))))))
    (sRet (eTup (eCons (eV 4) (eCons (eV 6) (eCons (eLc (eRg1 (eCons (eC (.int 2)) eNil)) [7] (hNm 7) eYes (eBin mulD (eBin ixD (eV 1) (eBin modD (eBin addD (eV 2) (eBin mulD (eC (.int 3)) (eV 7))) (eC (.int 26)))) (eBin addD (eC (.int 1)) (eCallR 1 0 m__law_take (eCons (eC (.int 3)) eNil))))) eNil)))))))))))
def m__law_words : PyData → List PyData → Option (PyData × PyData) := runR 7 b__law_words
theorem ok__law_words {P : Program} {w : World} {K : PySem.W.Frag} {mg : Str → Option Value} {base : Heap} {f : Addr} {fd : FuncData} (F : Fun K "_law_words" "_law_words" s__law_words f fd) (n_range : mg "range" = none) (C__law_take : CalG P w K mg base "_law_take" 1 ["feed", "many"] (spR K 1 m__law_take)) :
    FnG P w K mg base 2 f fd ["feed"] (spR K 0 m__law_words) :=
  fn_RG F sc__law_words (by decide) (fun cdv A outer s0 H E U hr gd =>
      show PSs _ _ (tS K U 1 b__law_words) from
      (qs_cons (qs_set sc__law_words.nd (i := 1) rfl (by first | exact Or.inl rfl | exact Or.inr rfl) qe_str)
      (qs_cons (qs_set sc__law_words.nd (i := 2) rfl (by first | exact Or.inl rfl | exact Or.inr rfl) (qc_callRG 0 C__law_take hr gd (by decide) (pv 0) (qa_cons qe_int qa_nil)))
      (qs_cons (qs_set sc__law_words.nd (i := 3) rfl (by first | exact Or.inl rfl | exact Or.inr rfl) (qe_mul (qe_ix (qe_var 1 (pv 1)) (qc_callRG 0 C__law_take hr gd (by decide) (pv 0) (qa_cons qe_int qa_nil))) (qc_callRG 0 C__law_take hr gd (by decide) (pv 0) (qa_cons qe_int qa_nil))))
      (qs_cons (qs_setLc (i := 4) (own := [("k", 7)]) rfl sc__law_words.nd rfl rfl (sw_true rfl rfl rfl (by decide +kernel)) (qi_range1 (by rfl) n_range (qa_cons qe_int qa_nil)) (blkOk_by (own := [("k", 7)]) (N := ["feed", "letters", "first", "body", "libraries", "other", "words", "k"]) (sc := defScope s__law_words) (by decide +kernel)) (by decide) (fun _ _ _ _ _ _ => (qg_name sc__law_words.nd (i := 7) rfl (by first | exact Or.inl rfl | exact Or.inr rfl))) (fun _ _ _ _ _ _ => qts_nil) (fun _ _ _ _ _ _ => (qe_add (qe_ix (qe_var 1 (pv 1)) (qe_mod (qe_add (qe_var 2 (pv 2)) (qe_mul qe_int (qe_var 7 (pv 7)))) qe_int)) (qe_var 3 (pv 3))))).1
      (qs_cons (qs_set sc__law_words.nd (i := 5) rfl (by first | exact Or.inl rfl | exact Or.inr rfl) (qe_mul (qe_ix (qe_var 1 (pv 1)) (qc_callRG 0 C__law_take hr gd (by decide) (pv 0) (qa_cons qe_int qa_nil))) (qc_callRG 0 C__law_take hr gd (by decide) (pv 0) (qa_cons qe_int qa_nil))))
      (qs_cons (qs_setLc (i := 6) (own := [("k", 7)]) rfl sc__law_words.nd rfl rfl (sw_true rfl rfl rfl (by decide +kernel)) (qi_range1 (by rfl) n_range (qa_cons qe_int qa_nil)) (blkOk_by (own := [("k", 7)]) (N := ["feed", "letters", "first", "body", "libraries", "other", "words", "k"]) (sc := defScope s__law_words) (by decide +kernel)) (by decide) (fun _ _ _ _ _ _ => (qg_name sc__law_words.nd (i := 7) rfl (by first | exact Or.inl rfl | exact Or.inr rfl))) (fun _ _ _ _ _ _ => qts_nil) (fun _ _ _ _ _ _ => (qe_add (qe_var 5 (pv 5)) (qe_ix (qe_var 1 (pv 1)) (qe_mod (qe_add (qe_var 2 (pv 2)) (qe_mul qe_int (qe_var 7 (pv 7)))) qe_int))))).1
      (qs_one (qs_ret (qe_tup (qa_cons (qe_var 4 (pv 4)) (qa_cons (qe_var 6 (pv 6)) (qa_cons (qe_lc (own := [("k", 7)]) rfl sc__law_words.nd (qi_range1 (by rfl) n_range (qa_cons qe_int qa_nil)) (blkOk_by (own := [("k", 7)]) (N := ["feed", "letters", "first", "body", "libraries", "other", "words", "k"]) (sc := defScope s__law_words) (by decide +kernel)) (by decide) (fun _ _ _ _ _ _ => (qg_name sc__law_words.nd (i := 7) rfl (by first | exact Or.inl rfl | exact Or.inr rfl))) (fun _ _ _ _ _ _ => qts_nil) (fun _ _ _ _ _ _ => (qe_mul (qe_ix (qe_var 1 (pv 1)) (qe_mod (qe_add (qe_var 2 (pv 2)) (qe_mul qe_int (qe_var 7 (pv 7)))) qe_int)) (qe_add qe_int (qc_callRG 0 C__law_take hr gd (by decide) (pv 0) (qa_cons qe_int qa_nil)))))) qa_nil)))))))))))))
/-! ### _law_rows -/
abbrev s__law_rows : Stmt := topS 14
theorem sc__law_rows : FnScope ["feed", "names", "words", "uses", "found", "cells", "deeds", "turn", "way", "name", "k", "use", "number"] ["feed", "names", "words", "uses"] (defScope s__law_rows) := ⟨rfl, rfl, rfl, by decide +kernel, rfl, by decide +kernel, by decide +kernel⟩
def b__law_rows : Es := (sSeq (sNew 4 eNil)
    (sSeq (sSet 5 (eLc (eRg1 (eCons (eMap (eCons (eV 3) eNil) lenD) eNil)) [10] (hNm 10) (eT truD (eBin ixD (eBin ixD (eV 3) (eV 10)) (eC (.int 2)))) (eV 10)))
    (sSeq (sSet 6 (eLc (eRg1 (eCons (eMap (eCons (eV 3) eNil) lenD) eNil)) [10] (hNm 10) (eNot (eT truD (eBin ixD (eBin ixD (eV 3) (eV 10)) (eC (.int 2))))) (eV 10)))
    (sSeq (sFor (eRg1 (eCons (eCallR 1 0 m__law_pick (eCons (eLst (eCons (eC (.int 0)) (eCons (eC (.int 1)) (eCons (eC (.int 2)) (eCons (eC (.int 4)) eNil))))) eNil)) eNil)) (hNm 7) (sSeq (sSet 8 (eCallR 1 0 m__law_take (eCons (eC (.int 12)) eNil)))
    (sSeq (sSet 9 (eCallR 1 0 m__law_pick (eCons (eV 1) eNil)))
    (sIf (eAnd (eT blD (eBin ltD (eV 8) (eC (.int 4)))) (eT blD (eBin neX (eV 6) (eLst eNil)))) (sApp 4 (eTup (eCons (eC (.str "call")) (eCons (eCallR 1 0 m__law_pick (eCons (eV 6) eNil)) eNil)))) (sIf (eAnd (eT blD (eBin ltD (eV 8) (eC (.int 7)))) (eT blD (eBin neX (eV 5) (eLst eNil)))) (sSeq (sSet 11 (eCallR 1 0 m__law_pick (eCons (eV 5) eNil)))
    (sSeq (sSet 12 (eBin subD (eCallR 1 0 m__law_take (eCons (eC (.int 9)) eNil)) (eC (.int 4))))
    (sApp 4 (eCallR 1 0 m__law_pick (eCons (eLst (eCons (eTup (eCons (eC (.str "show")) (eCons (eV 11) eNil))) (eCons (eTup (eCons (eC (.str "put")) (eCons (eV 11) (eCons (eV 12) eNil)))) (eCons (eTup (eCons (eC (.str "add")) (eCons (eV 11) (eCons (eV 12) eNil)))) (eCons (eTup (eCons (eC (.str "skip")) (eCons (eV 11) eNil))) eNil))))) eNil))))) (sIf (eT blD (eBin ltD (eV 8) (eC (.int 10)))) (sApp 4 (eTup (eCons (eCallR 1 0 m__law_pick (eCons (eLst (eCons (eC (.str "bring")) (eCons (eC (.str "share")) (eCons (eC (.str "drop")) (eCons (eC (.str "drop")) eNil))))) eNil)) (eCons (eV 9) eNil)))) (sIf (eT blD (eBin eqX (eV 8) (eC (.int 10)))) (sApp 4 (eTup (eCons (eC (.str "ask")) (eCons (eV 9) (eCons (eCallR 1 0 m__law_pick (eCons (eV 2) eNil)) eNil))))) (sApp 4 (eTup (eCons (eC (.str "tell")) (eCons (eCallR 1 0 m__law_take (eCons (eC (.int 100)) eNil)) eNil)))))))))))
    (sRet (eSeqO 4 .tuple))))))
def m__law_rows : PyData → List PyData → Option (PyData × PyData) := runR 9 b__law_rows
theorem ok__law_rows {P : Program} {w : World} {K : PySem.W.Frag} {mg : Str → Option Value} {base : Heap} {f : Addr} {fd : FuncData} (F : Fun K "_law_rows" "_law_rows" s__law_rows f fd) (n_len : mg "len" = none) (n_range : mg "range" = none) (n_tuple : mg "tuple" = none) (C__law_pick : CalG P w K mg base "_law_pick" 2 ["feed", "some"] (spR K 1 m__law_pick)) (C__law_take : CalG P w K mg base "_law_take" 1 ["feed", "many"] (spR K 1 m__law_take)) :
    FnG P w K mg base 3 f fd ["feed", "names", "words", "uses"] (spR K 3 m__law_rows) :=
  fn_RG F sc__law_rows (by decide) (fun cdv A outer s0 H E U hr gd =>
      show PSs _ _ (tS K U 1 b__law_rows) from
      (qs_cons (qs_new sc__law_rows.nd (i := 4) rfl (by first | exact Or.inl rfl | exact Or.inr rfl) qa_nil)
      (qs_cons (qs_setLc (i := 5) (own := [("k", 10)]) rfl sc__law_rows.nd rfl rfl (sw_true rfl rfl rfl (by decide +kernel)) (qi_range1 (by rfl) n_range (qa_cons (qe_callB call_len cd_len (by rfl) n_len (by decide +kernel) (qa_cons (qe_var 3 (pv 3)) qa_nil)) qa_nil)) (blkOk_by (own := [("k", 10)]) (N := ["feed", "names", "words", "uses", "found", "cells", "deeds", "turn", "way", "name", "k", "use", "number"]) (sc := defScope s__law_rows) (by decide +kernel)) (by decide) (fun _ _ _ _ _ _ => (qg_name sc__law_rows.nd (i := 10) rfl (by first | exact Or.inl rfl | exact Or.inr rfl))) (fun _ _ _ _ _ _ => (qts_one (qt_tru (qe_ix (qe_ix (qe_var 3 (pv 3)) (qe_var 10 (pv 10))) qe_int)))) (fun _ _ _ _ _ _ => (qe_var 10 (pv 10)))).1
      (qs_cons (qs_setLc (i := 6) (own := [("k", 10)]) rfl sc__law_rows.nd rfl rfl (sw_true rfl rfl rfl (by decide +kernel)) (qi_range1 (by rfl) n_range (qa_cons (qe_callB call_len cd_len (by rfl) n_len (by decide +kernel) (qa_cons (qe_var 3 (pv 3)) qa_nil)) qa_nil)) (blkOk_by (own := [("k", 10)]) (N := ["feed", "names", "words", "uses", "found", "cells", "deeds", "turn", "way", "name", "k", "use", "number"]) (sc := defScope s__law_rows) (by decide +kernel)) (by decide) (fun _ _ _ _ _ _ => (qg_name sc__law_rows.nd (i := 10) rfl (by first | exact Or.inl rfl | exact Or.inr rfl))) (fun _ _ _ _ _ _ => (qts_one (qt_not (qt_tru (qe_ix (qe_ix (qe_var 3 (pv 3)) (qe_var 10 (pv 10))) qe_int))))) (fun _ _ _ _ _ _ => (qe_var 10 (pv 10)))).1
      (qs_cons (qs_for PySem.PassesOwn.never rfl (qi_range1 (by rfl) n_range (qa_cons (qc_callRG 0 C__law_pick hr gd (by decide) (pv 0) (qa_cons (qe_lst (qa_cons qe_int (qa_cons qe_int (qa_cons qe_int (qa_cons qe_int qa_nil))))) qa_nil)) qa_nil)) (qg_name sc__law_rows.nd (i := 7) rfl (by first | exact Or.inl rfl | exact Or.inr rfl)) (qs_cons (qs_set sc__law_rows.nd (i := 8) rfl (by first | exact Or.inl rfl | exact Or.inr rfl) (qc_callRG 0 C__law_take hr gd (by decide) (pv 0) (qa_cons qe_int qa_nil)))
      (qs_cons (qs_set sc__law_rows.nd (i := 9) rfl (by first | exact Or.inl rfl | exact Or.inr rfl) (qc_callRG 0 C__law_pick hr gd (by decide) (pv 0) (qa_cons (qe_var 1 (pv 1)) qa_nil)))
      (qs_one (qs_if (PW.pt (qw_and (qt_cmp op_lt od_lt (qe_var 8 (pv 8)) qe_int (by rfl)) (qw_and1 (qt_cmp (op_neX hr.units) od_neX (qe_var 6 (pv 6)) (qe_lst qa_nil) (by rfl))))) (qs_one (qs_app (i := 4) (pv 4) (qe_tup (qa_cons qe_str (qa_cons (qc_callRG 0 C__law_pick hr gd (by decide) (pv 0) (qa_cons (qe_var 6 (pv 6)) qa_nil)) qa_nil))))) (qs_one (qs_if (PW.pt (qw_and (qt_cmp op_lt od_lt (qe_var 8 (pv 8)) qe_int (by rfl)) (qw_and1 (qt_cmp (op_neX hr.units) od_neX (qe_var 5 (pv 5)) (qe_lst qa_nil) (by rfl))))) (qs_cons (qs_set sc__law_rows.nd (i := 11) rfl (by first | exact Or.inl rfl | exact Or.inr rfl) (qc_callRG 0 C__law_pick hr gd (by decide) (pv 0) (qa_cons (qe_var 5 (pv 5)) qa_nil)))
      (qs_cons (qs_set sc__law_rows.nd (i := 12) rfl (by first | exact Or.inl rfl | exact Or.inr rfl) (qe_sub (qc_callRG 0 C__law_take hr gd (by decide) (pv 0) (qa_cons qe_int qa_nil)) qe_int))
      (qs_one (qs_app (i := 4) (pv 4) (qc_callRG 0 C__law_pick hr gd (by decide) (pv 0) (qa_cons (qe_lst (qa_cons (qe_tup (qa_cons qe_str (qa_cons (qe_var 11 (pv 11)) qa_nil))) (qa_cons (qe_tup (qa_cons qe_str (qa_cons (qe_var 11 (pv 11)) (qa_cons (qe_var 12 (pv 12)) qa_nil)))) (qa_cons (qe_tup (qa_cons qe_str (qa_cons (qe_var 11 (pv 11)) (qa_cons (qe_var 12 (pv 12)) qa_nil)))) (qa_cons (qe_tup (qa_cons qe_str (qa_cons (qe_var 11 (pv 11)) qa_nil))) qa_nil))))) qa_nil)))))) (qs_one (qs_if (qt_cmp op_lt od_lt (qe_var 8 (pv 8)) qe_int (by rfl)) (qs_one (qs_app (i := 4) (pv 4) (qe_tup (qa_cons (qc_callRG 0 C__law_pick hr gd (by decide) (pv 0) (qa_cons (qe_lst (qa_cons qe_str (qa_cons qe_str (qa_cons qe_str (qa_cons qe_str qa_nil))))) qa_nil)) (qa_cons (qe_var 9 (pv 9)) qa_nil))))) (qs_one (qs_if (qt_cmp (op_eqX hr.units) od_eqX (qe_var 8 (pv 8)) qe_int (by rfl)) (qs_one (qs_app (i := 4) (pv 4) (qe_tup (qa_cons qe_str (qa_cons (qe_var 9 (pv 9)) (qa_cons (qc_callRG 0 C__law_pick hr gd (by decide) (pv 0) (qa_cons (qe_var 2 (pv 2)) qa_nil)) qa_nil)))))) (qs_one (qs_app (i := 4) (pv 4) (qe_tup (qa_cons qe_str (qa_cons (qc_callRG 0 C__law_take hr gd (by decide) (pv 0) (qa_cons qe_int qa_nil)) qa_nil))))))))))))))))
      (qs_one (qs_ret (qe_tupO 4 (pv 4) (by rfl) n_tuple (by decide +kernel)))))))))
/-! ### _law_gives -/
abbrev s__law_gives : Stmt := topS 15
theorem sc__law_gives : FnScope ["feed", "names", "words", "versions", "uses", "found", "turn", "at", "version", "there", "chosen", "what", "give"] ["feed", "names", "words", "versions", "uses"] (defScope s__law_gives) := ⟨rfl, rfl, rfl, by decide +kernel, rfl, by decide +kernel, by decide +kernel⟩
def b__law_gives : Es := (sSeq (sNew 5 eNil)
    (sSeq (sFor (eRg1 (eCons (eCallR 1 0 m__law_take (eCons (eC (.int 5)) eNil)) eNil)) (hNm 6) (sSeq (sSet 7 (eCallR 1 0 m__law_take (eCons (eMap (eCons (eV 2) eNil) lenD) eNil)))
    (sSeq (sSet 8 (eCallR 1 0 m__law_pick (eCons (eBin addD (eLst (eCons (eC (.str "")) (eCons (eC (.str "")) eNil))) (eV 3)) eNil)))
    (sSeq (sSet 9 (eLcO 5 [12] (hNm 12) (eT blD (eBin eqX (eBin ixD (eV 12) (eC (.int 0))) (eBin ixD (eV 2) (eV 7)))) (eV 12)))
    (sSeq (sSet 10 (eOrV (eBin eqX (eV 8) (eC (.str ""))) (eBin eqX (eCallR 1 0 m__law_take (eCons (eC (.int 2)) eNil)) (eC (.int 0)))))
    (sIf (eT blD (eBin eqX (eLc (eIts (eV 9)) [12] (hNm 12) (eOr (eT blD (eBin eqX (eBin ixD (eV 12) (eC (.int 1))) (eV 8))) (eAnd (eT truD (eBin ixD (eV 12) (eC (.int 2)))) (eT truD (eV 10)))) (eV 12)) (eLst eNil))) (sSeq (sSet 11 (eBin subD (eCallR 1 0 m__law_take (eCons (eC (.int 20)) eNil)) (eC (.int 3))))
    (sSeq (sIf (eT blD (eBin neX (eBin gtD (eV 7) (eC (.int 1))) (eBin eqX (eCallR 1 0 m__law_take (eCons (eC (.int 9)) eNil)) (eC (.int 0))))) (sSet 11 (eCallR 3 0 m__law_rows (eCons (eV 1) (eCons (eV 2) (eCons (eV 4) eNil))))) sNil)
    (sApp 5 (eTup (eCons (eBin ixD (eV 2) (eV 7)) (eCons (eV 8) (eCons (eV 10) (eCons (eBin eqX (eCallR 1 0 m__law_take (eCons (eC (.int 4)) eNil)) (eC (.int 0))) (eCons (eV 11) eNil))))))))) sNil))))))
    (sRet (eSeqO 5 .tuple))))
def m__law_gives : PyData → List PyData → Option (PyData × PyData) := runR 8 b__law_gives
theorem ok__law_gives {P : Program} {w : World} {K : PySem.W.Frag} {mg : Str → Option Value} {base : Heap} {f : Addr} {fd : FuncData} (F : Fun K "_law_gives" "_law_gives" s__law_gives f fd) (n_len : mg "len" = none) (n_range : mg "range" = none) (n_tuple : mg "tuple" = none) (C__law_pick : CalG P w K mg base "_law_pick" 2 ["feed", "some"] (spR K 1 m__law_pick)) (C__law_rows : CalG P w K mg base "_law_rows" 3 ["feed", "names", "words", "uses"] (spR K 3 m__law_rows)) (C__law_take : CalG P w K mg base "_law_take" 1 ["feed", "many"] (spR K 1 m__law_take)) :
    FnG P w K mg base 4 f fd ["feed", "names", "words", "versions", "uses"] (spR K 4 m__law_gives) :=
  fn_RG F sc__law_gives (by decide) (fun cdv A outer s0 H E U hr gd =>
      show PSs _ _ (tS K U 1 b__law_gives) from
      (qs_cons (qs_new sc__law_gives.nd (i := 5) rfl (by first | exact Or.inl rfl | exact Or.inr rfl) qa_nil)
      (qs_cons (qs_for PySem.PassesOwn.never rfl (qi_range1 (by rfl) n_range (qa_cons (qc_callRG 0 C__law_take hr gd (by decide) (pv 0) (qa_cons qe_int qa_nil)) qa_nil)) (qg_name sc__law_gives.nd (i := 6) rfl (by first | exact Or.inl rfl | exact Or.inr rfl)) (qs_cons (qs_set sc__law_gives.nd (i := 7) rfl (by first | exact Or.inl rfl | exact Or.inr rfl) (qc_callRG 0 C__law_take hr gd (by decide) (pv 0) (qa_cons (qe_callB call_len cd_len (by rfl) n_len (by decide +kernel) (qa_cons (qe_var 2 (pv 2)) qa_nil)) qa_nil)))
      (qs_cons (qs_set sc__law_gives.nd (i := 8) rfl (by first | exact Or.inl rfl | exact Or.inr rfl) (qc_callRG 0 C__law_pick hr gd (by decide) (pv 0) (qa_cons (qe_add (qe_lst (qa_cons qe_str (qa_cons qe_str qa_nil))) (qe_var 3 (pv 3))) qa_nil)))
      (qs_cons (qs_setLcO (i := 9) (j := 5) (own := [("give", 12)]) (pv 5) rfl sc__law_gives.nd rfl rfl (sw_true rfl rfl rfl (by decide +kernel)) (blkOk_by (own := [("give", 12)]) (N := ["feed", "names", "words", "versions", "uses", "found", "turn", "at", "version", "there", "chosen", "what", "give"]) (sc := defScope s__law_gives) (by decide +kernel)) (by decide) (fun _ _ _ _ _ _ => (qg_name sc__law_gives.nd (i := 12) rfl (by first | exact Or.inl rfl | exact Or.inr rfl))) (fun _ _ _ _ _ _ => (qts_one (qt_cmp (op_eqX hr.units) od_eqX (qe_ix (qe_var 12 (pv 12)) qe_int) (qe_ix (qe_var 2 (pv 2)) (qe_var 7 (pv 7))) (by rfl)))) (fun _ _ _ _ _ _ => (qe_var 12 (pv 12)))).1
      (qs_cons (qs_set sc__law_gives.nd (i := 10) rfl (by first | exact Or.inl rfl | exact Or.inr rfl) (qe_or (qe_cmp (op_eqX hr.units) od_eqX (qe_var 8 (pv 8)) qe_str (by rfl)) (qe_one (qe_cmp (op_eqX hr.units) od_eqX (qc_callRG 0 C__law_take hr gd (by decide) (pv 0) (qa_cons qe_int qa_nil)) qe_int (by rfl)))))
      (qs_one (qs_if (qt_cmp (op_eqX hr.units) od_eqX (qe_lc (own := [("give", 12)]) rfl sc__law_gives.nd (qi_its (qe_var 9 (pv 9))) (blkOk_by (own := [("give", 12)]) (N := ["feed", "names", "words", "versions", "uses", "found", "turn", "at", "version", "there", "chosen", "what", "give"]) (sc := defScope s__law_gives) (by decide +kernel)) (by decide) (fun _ _ _ _ _ _ => (qg_name sc__law_gives.nd (i := 12) rfl (by first | exact Or.inl rfl | exact Or.inr rfl))) (fun _ _ _ _ _ _ => (qts_one (PW.pt (qw_or (qt_cmp (op_eqX hr.units) od_eqX (qe_ix (qe_var 12 (pv 12)) qe_int) (qe_var 8 (pv 8)) (by rfl)) (qw_or1 (PW.pt (qw_and (qt_tru (qe_ix (qe_var 12 (pv 12)) qe_int)) (qw_and1 (qt_tru (qe_var 10 (pv 10))))))))))) (fun _ _ _ _ _ _ => (qe_var 12 (pv 12)))) (qe_lst qa_nil) (by rfl)) (qs_cons (qs_set sc__law_gives.nd (i := 11) rfl (by first | exact Or.inl rfl | exact Or.inr rfl) (qe_sub (qc_callRG 0 C__law_take hr gd (by decide) (pv 0) (qa_cons qe_int qa_nil)) qe_int))
      (qs_cons (qs_if (qt_cmp (op_neX hr.units) od_neX (qe_cmp op_gt od_gt (qe_var 7 (pv 7)) qe_int (by rfl)) (qe_cmp (op_eqX hr.units) od_eqX (qc_callRG 0 C__law_take hr gd (by decide) (pv 0) (qa_cons qe_int qa_nil)) qe_int (by rfl)) (by rfl)) (qs_one (qs_set sc__law_gives.nd (i := 11) rfl (by first | exact Or.inl rfl | exact Or.inr rfl) (qc_callRG 0 C__law_rows hr gd (by decide) (pv 0) (qa_cons (qe_var 1 (pv 1)) (qa_cons (qe_var 2 (pv 2)) (qa_cons (qe_var 4 (pv 4)) qa_nil)))))) qs_nil)
      (qs_one (qs_app (i := 5) (pv 5) (qe_tup (qa_cons (qe_ix (qe_var 2 (pv 2)) (qe_var 7 (pv 7))) (qa_cons (qe_var 8 (pv 8)) (qa_cons (qe_var 10 (pv 10)) (qa_cons (qe_cmp (op_eqX hr.units) od_eqX (qc_callRG 0 C__law_take hr gd (by decide) (pv 0) (qa_cons qe_int qa_nil)) qe_int (by rfl)) (qa_cons (qe_var 11 (pv 11)) qa_nil)))))))))) qs_nil)))))))
      (qs_one (qs_ret (qe_tupO 5 (pv 5) (by rfl) n_tuple (by decide +kernel)))))))
/-! ### _law_library -/
abbrev s__law_library : Stmt := topS 16
theorem sc__law_library : FnScope ["feed", "names", "at", "words", "versions", "given", "needs", "turn", "uses", "needed", "gives", "rows", "marks", "word", "version", "cell", "giver", "k", "need", "mark"] ["feed", "names", "at", "words", "versions", "given"] (defScope s__law_library) := ⟨rfl, rfl, rfl, by decide +kernel, rfl, by decide +kernel, by decide +kernel⟩
def b__law_library : Es := (sSeq (sNew 6 eNil)
    (sSeq (sFor (eRg1 (eCons (eCallR 1 0 m__law_pick (eCons (eLst (eCons (eC (.int 0)) (eCons (eC (.int 1)) (eCons (eC (.int 1)) (eCons (eC (.int 2)) (eCons (eC (.int 3)) eNil)))))) eNil)) eNil)) (hNm 7) (sApp 6 (eBin ixD (eV 1) (eCallR 1 0 m__law_pick (eCons (eLst (eCons (eCallR 1 0 m__law_take (eCons (eMap (eCons (eV 1) eNil) lenD) eNil)) (eCons (eMap (eCons (eBin addD (eV 2) (eC (.int 1))) (eCons (eBin subD (eMap (eCons (eV 1) eNil) lenD) (eC (.int 1))) eNil)) min2D) eNil))) eNil)))))
    (sSeq (sNew 8 eNil)
    (sSeq (sFor (eRg1 (eCons (eCallR 1 0 m__law_take (eCons (eC (.int 5)) eNil)) eNil)) (hNm 7) (sSeq (sSet 13 (eBin ixD (eV 3) (eCallR 1 0 m__law_pick (eCons (eLst (eCons (eC (.int 2)) (eCons (eC (.int 3)) (eCons (eC (.int 4)) (eCons (eCallR 1 0 m__law_take (eCons (eMap (eCons (eV 3) eNil) lenD) eNil)) eNil))))) eNil))))
    (sSeq (sSet 14 (eCallR 1 0 m__law_pick (eCons (eBin addD (eLst (eCons (eC (.str "")) (eCons (eC (.str "")) (eCons (eC (.str "")) eNil)))) (eV 4)) eNil)))
    (sSeq (sSet 15 (eAndV (eBin neX (eV 5) (eLst eNil)) (eBin eqX (eCallR 1 0 m__law_take (eCons (eC (.int 3)) eNil)) (eC (.int 0)))))
    (sSeq (sIf (eT truD (eV 15)) (sSeq (sAsg (eCallR 1 0 m__law_pick (eCons (eV 5) eNil)) (hTup (hCons (hNm 13) (hCons (hNm 16) hNil)) 2))
    (sSeq (sSet 14 (eC (.str "")))
    (sFrz 6 (sSetF 6 (eBin catL (eV 6) (eBin repD (eLst (eCons (eV 16) eNil)) (eMap (eCons (eBin gtD (eCallR 1 0 m__law_take (eCons (eC (.int 8)) eNil)) (eC (.int 0))) eNil) intD1))))))) sNil)
    (sApp 8 (eTup (eCons (eV 13) (eCons (eV 14) (eCons (eV 15) (eCons (eOrV (eV 15) (eBin eqX (eCallR 1 0 m__law_take (eCons (eC (.int 4)) eNil)) (eC (.int 0)))) eNil)))))))))))
    (sFrz 6 (sSeq (sSet 9 (eLc (eEnumA (eV 6)) [17, 18] (hTup (hCons (hNm 17) (hCons (hNm 18) hNil)) 2) (eAnd (eT blD (eBin neX (eV 18) (eBin ixD (eV 1) (eV 2)))) (eT blD (eBin notInD (eV 18) (eSl (eV 6) eNo (ePt (eV 17)))))) (eV 18)))
    (sFrz 8 (sSeq (sSet 10 (eCallR 4 0 m__law_gives (eCons (eV 1) (eCons (eV 3) (eCons (eV 4) (eCons (eV 8) eNil))))))
    (sSeq (sSet 11 (eLc (eRg1 (eCons (eC (.int 2)) eNil)) [7] (hNm 7) eYes (eCallR 3 0 m__law_rows (eCons (eV 1) (eCons (eV 3) (eCons (eV 8) eNil))))))
    (sSeq (sSet 12 (eMap (eCons (eLc (eIts (eLst (eCons (eC (.str "early")) (eCons (eC (.str "own")) (eCons (eC (.str "stays")) eNil))))) [19] (hNm 19) (eT blD (eBin eqX (eCallR 1 0 m__law_take (eCons (eC (.int 7)) eNil)) (eC (.int 0)))) (eV 19)) eNil) tupleD))
    (sRet (eTup (eCons (eBin ixD (eV 1) (eV 2)) (eCons (eMap (eCons (eSl (eV 9) eNo (ePt (eC (.int 6)))) eNil) tupleD) (eCons (eV 10) (eCons (eMap (eCons (eV 8) eNil) tupleD) (eCons (eBin ixD (eV 11) (eC (.int 0))) (eCons (eBin ixD (eV 11) (eC (.int 1))) (eCons (eV 12) eNil)))))))))))))))))))
def m__law_library : PyData → List PyData → Option (PyData × PyData) := runR 14 b__law_library
theorem ok__law_library {P : Program} {w : World} {K : PySem.W.Frag} {mg : Str → Option Value} {base : Heap} {f : Addr} {fd : FuncData} (F : Fun K "_law_library" "_law_library" s__law_library f fd) (n_enumerate : mg "enumerate" = none) (n_int : mg "int" = none) (n_len : mg "len" = none) (n_min : mg "min" = none) (n_range : mg "range" = none) (n_tuple : mg "tuple" = none) (C__law_gives : CalG P w K mg base "_law_gives" 4 ["feed", "names", "words", "versions", "uses"] (spR K 4 m__law_gives)) (C__law_pick : CalG P w K mg base "_law_pick" 2 ["feed", "some"] (spR K 1 m__law_pick)) (C__law_rows : CalG P w K mg base "_law_rows" 3 ["feed", "names", "words", "uses"] (spR K 3 m__law_rows)) (C__law_take : CalG P w K mg base "_law_take" 1 ["feed", "many"] (spR K 1 m__law_take)) :
    FnG P w K mg base 5 f fd ["feed", "names", "at", "words", "versions", "given"] (spR K 5 m__law_library) :=
  fn_RG F sc__law_library (by decide) (fun cdv A outer s0 H E U hr gd =>
      show PSs _ _ (tS K U 1 b__law_library) from
      (qs_cons (qs_new sc__law_library.nd (i := 6) rfl (by first | exact Or.inl rfl | exact Or.inr rfl) qa_nil)
      (qs_cons (qs_for PySem.PassesOwn.never rfl (qi_range1 (by rfl) n_range (qa_cons (qc_callRG 0 C__law_pick hr gd (by decide) (pv 0) (qa_cons (qe_lst (qa_cons qe_int (qa_cons qe_int (qa_cons qe_int (qa_cons qe_int (qa_cons qe_int qa_nil)))))) qa_nil)) qa_nil)) (qg_name sc__law_library.nd (i := 7) rfl (by first | exact Or.inl rfl | exact Or.inr rfl)) (qs_one (qs_app (i := 6) (pv 6) (qe_ix (qe_var 1 (pv 1)) (qc_callRG 0 C__law_pick hr gd (by decide) (pv 0) (qa_cons (qe_lst (qa_cons (qc_callRG 0 C__law_take hr gd (by decide) (pv 0) (qa_cons (qe_callB call_len cd_len (by rfl) n_len (by decide +kernel) (qa_cons (qe_var 1 (pv 1)) qa_nil)) qa_nil)) (qa_cons (qe_callB (call_min2 rfl) cd_min (by rfl) n_min (by decide +kernel) (qa_cons (qe_add (qe_var 2 (pv 2)) qe_int) (qa_cons (qe_sub (qe_callB call_len cd_len (by rfl) n_len (by decide +kernel) (qa_cons (qe_var 1 (pv 1)) qa_nil)) qe_int) qa_nil))) qa_nil))) qa_nil))))))
      (qs_cons (qs_new sc__law_library.nd (i := 8) rfl (by first | exact Or.inl rfl | exact Or.inr rfl) qa_nil)
      (qs_cons (qs_for PySem.PassesOwn.never rfl (qi_range1 (by rfl) n_range (qa_cons (qc_callRG 0 C__law_take hr gd (by decide) (pv 0) (qa_cons qe_int qa_nil)) qa_nil)) (qg_name sc__law_library.nd (i := 7) rfl (by first | exact Or.inl rfl | exact Or.inr rfl)) (qs_cons (qs_set sc__law_library.nd (i := 13) rfl (by first | exact Or.inl rfl | exact Or.inr rfl) (qe_ix (qe_var 3 (pv 3)) (qc_callRG 0 C__law_pick hr gd (by decide) (pv 0) (qa_cons (qe_lst (qa_cons qe_int (qa_cons qe_int (qa_cons qe_int (qa_cons (qc_callRG 0 C__law_take hr gd (by decide) (pv 0) (qa_cons (qe_callB call_len cd_len (by rfl) n_len (by decide +kernel) (qa_cons (qe_var 3 (pv 3)) qa_nil)) qa_nil)) qa_nil))))) qa_nil))))
      (qs_cons (qs_set sc__law_library.nd (i := 14) rfl (by first | exact Or.inl rfl | exact Or.inr rfl) (qc_callRG 0 C__law_pick hr gd (by decide) (pv 0) (qa_cons (qe_add (qe_lst (qa_cons qe_str (qa_cons qe_str (qa_cons qe_str qa_nil)))) (qe_var 4 (pv 4))) qa_nil)))
      (qs_cons (qs_set sc__law_library.nd (i := 15) rfl (by first | exact Or.inl rfl | exact Or.inr rfl) (qe_and (qe_cmp (op_neX hr.units) od_neX (qe_var 5 (pv 5)) (qe_lst qa_nil) (by rfl)) (qe_one (qe_cmp (op_eqX hr.units) od_eqX (qc_callRG 0 C__law_take hr gd (by decide) (pv 0) (qa_cons qe_int qa_nil)) qe_int (by rfl)))))
      (qs_cons (qs_if (qt_tru (qe_var 15 (pv 15))) (qs_cons (qs_asg (qc_callRG 0 C__law_pick hr gd (by decide) (pv 0) (qa_cons (qe_var 5 (pv 5)) qa_nil)) (qg_tup rfl (qgs_cons (qg_name sc__law_library.nd (i := 13) rfl (by first | exact Or.inl rfl | exact Or.inr rfl)) (qgs_cons (qg_name sc__law_library.nd (i := 16) rfl (by first | exact Or.inl rfl | exact Or.inr rfl)) qgs_nil))))
      (qs_cons (qs_set sc__law_library.nd (i := 14) rfl (by first | exact Or.inl rfl | exact Or.inr rfl) qe_str)
      (qs_frz 6 (qs_one (qs_setF sc__law_library.nd (i := 6) rfl (by first | exact Or.inl rfl | exact Or.inr rfl) (qn_cat (qe_var 6 (pv 6)) (qe_rep (qn_lst (qa_cons (qe_var 16 (pv 16)) qa_nil)) (fun _ => (qe_callTy call_int1 cd_int (by rfl) n_int (by decide +kernel) (qa_cons (qe_cmp op_gt od_gt (qc_callRG 0 C__law_take hr gd (by decide) (pv 0) (qa_cons qe_int qa_nil)) qe_int (by rfl)) qa_nil)))))))))) qs_nil)
      (qs_one (qs_app (i := 8) (pv 8) (qe_tup (qa_cons (qe_var 13 (pv 13)) (qa_cons (qe_var 14 (pv 14)) (qa_cons (qe_var 15 (pv 15)) (qa_cons (qe_or (qe_var 15 (pv 15)) (qe_one (qe_cmp (op_eqX hr.units) od_eqX (qc_callRG 0 C__law_take hr gd (by decide) (pv 0) (qa_cons qe_int qa_nil)) qe_int (by rfl)))) qa_nil))))))))))))
      (qs_frz 6 (qs_cons (qs_setLc (i := 9) (own := [("k", 17), ("need", 18)]) rfl sc__law_library.nd rfl rfl (sw_true rfl rfl rfl (by decide +kernel)) (qi_f (qi_enumA (by rfl) n_enumerate (qe_var 6 (pv 6)))) (blkOk_by (own := [("k", 17), ("need", 18)]) (N := ["feed", "names", "at", "words", "versions", "given", "needs", "turn", "uses", "needed", "gives", "rows", "marks", "word", "version", "cell", "giver", "k", "need", "mark"]) (sc := defScope s__law_library) (by decide +kernel)) (by decide) (fun _ _ _ _ _ _ => (qg_tup rfl (qgs_cons (qg_name sc__law_library.nd (i := 17) rfl (by first | exact Or.inl rfl | exact Or.inr rfl)) (qgs_cons (qg_name sc__law_library.nd (i := 18) rfl (by first | exact Or.inl rfl | exact Or.inr rfl)) qgs_nil)))) (fun _ _ _ _ _ _ => (qts_one (PW.pt (qw_and (qt_cmp (op_neX hr.units) od_neX (qe_var 18 (pv 18)) (qe_ix (qe_var 1 (pv 1)) (qe_var 2 (pv 2))) (by rfl)) (qw_and1 (qt_cmp (or_notInAll (room65 hr)) od_notIn (qe_var 18 (pv 18)) (qe_slice (qe_var 6 (pv 6)) qo_none (qo_some (qe_var 17 (pv 17)))) (by rfl))))))) (fun _ _ _ _ _ _ => (qe_var 18 (pv 18)))).1
      (qs_frz 8 (qs_cons (qs_set sc__law_library.nd (i := 10) rfl (by first | exact Or.inl rfl | exact Or.inr rfl) (qc_callRG 0 C__law_gives hr gd (by decide) (pv 0) (qa_cons (qe_var 1 (pv 1)) (qa_cons (qe_var 3 (pv 3)) (qa_cons (qe_var 4 (pv 4)) (qa_cons (qe_var 8 (pv 8)) qa_nil))))))
      (qs_cons (qs_setLc (i := 11) (own := [("turn", 7)]) rfl sc__law_library.nd rfl rfl (sw_true rfl rfl rfl (by decide +kernel)) (qi_range1 (by rfl) n_range (qa_cons qe_int qa_nil)) (blkOk_by (own := [("turn", 7)]) (N := ["feed", "names", "at", "words", "versions", "given", "needs", "turn", "uses", "needed", "gives", "rows", "marks", "word", "version", "cell", "giver", "k", "need", "mark"]) (sc := defScope s__law_library) (by decide +kernel)) (by decide) (fun _ _ _ _ _ _ => (qg_name sc__law_library.nd (i := 7) rfl (by first | exact Or.inl rfl | exact Or.inr rfl))) (fun _ _ _ _ _ _ => qts_nil) (fun _ _ _ _ _ _ => (qc_callRG 0 C__law_rows hr gd (by decide) (pv 0) (qa_cons (qe_var 1 (pv 1)) (qa_cons (qe_var 3 (pv 3)) (qa_cons (qe_var 8 (pv 8)) qa_nil)))))).1
      (qs_cons (qs_set sc__law_library.nd (i := 12) rfl (by first | exact Or.inl rfl | exact Or.inr rfl) (qe_callTy call_tuple_of cd_tuple (by rfl) n_tuple (by decide +kernel) (qa_cons (qe_lc (own := [("mark", 19)]) rfl sc__law_library.nd (qi_its (qe_lst (qa_cons qe_str (qa_cons qe_str (qa_cons qe_str qa_nil))))) (blkOk_by (own := [("mark", 19)]) (N := ["feed", "names", "at", "words", "versions", "given", "needs", "turn", "uses", "needed", "gives", "rows", "marks", "word", "version", "cell", "giver", "k", "need", "mark"]) (sc := defScope s__law_library) (by decide +kernel)) (by decide) (fun _ _ _ _ _ _ => (qg_name sc__law_library.nd (i := 19) rfl (by first | exact Or.inl rfl | exact Or.inr rfl))) (fun _ _ _ _ _ _ => (qts_one (qt_cmp (op_eqX hr.units) od_eqX (qc_callRG 0 C__law_take hr gd (by decide) (pv 0) (qa_cons qe_int qa_nil)) qe_int (by rfl)))) (fun _ _ _ _ _ _ => (qe_var 19 (pv 19)))) qa_nil)))
      (qs_one (qs_ret (qe_tup (qa_cons (qe_ix (qe_var 1 (pv 1)) (qe_var 2 (pv 2))) (qa_cons (qe_callTy call_tuple_of cd_tuple (by rfl) n_tuple (by decide +kernel) (qa_cons (qe_slice (qe_var 9 (pv 9)) qo_none (qo_some qe_int)) qa_nil)) (qa_cons (qe_var 10 (pv 10)) (qa_cons (qe_callTy call_tuple_of cd_tuple (by rfl) n_tuple (by decide +kernel) (qa_cons (qe_var 8 (pv 8)) qa_nil)) (qa_cons (qe_ix (qe_var 11 (pv 11)) qe_int) (qa_cons (qe_ix (qe_var 11 (pv 11)) qe_int) (qa_cons (qe_var 12 (pv 12)) qa_nil)))))))))))))))))))))
/-! ### _law_shelf -/
abbrev s__law_shelf : Stmt := topS 17
theorem sc__law_shelf : FnScope ["feed", "most", "many", "found", "given", "at", "names", "words", "versions", "library", "give"] ["feed", "most"] (defScope s__law_shelf) := ⟨rfl, rfl, rfl, by decide +kernel, rfl, by decide +kernel, by decide +kernel⟩
def b__law_shelf : Es := (sSeq (sAsg (eCallR 0 0 m__law_words eNil) (hTup (hCons (hNm 6) (hCons (hNm 7) (hCons (hNm 8) hNil))) 3))
    (sSeq (sSet 2 (eCallR 1 0 m__law_pick (eCons (eLst (eCons (eV 1) (eCons (eV 1) (eCons (eBin addD (eC (.int 1)) (eCallR 1 0 m__law_take (eCons (eV 1) eNil))) eNil)))) eNil)))
    (sSeq (sSet 3 (eLst eNil))
    (sSeq (sSet 4 (eLst eNil))
    (sSeq (sFor (eRg3 (eCons (eBin subD (eV 2) (eC (.int 1))) (eCons (eMap (eC (.int 1)) negD) (eCons (eMap (eC (.int 1)) negD) eNil)))) (hNm 5) (sSeq (sSet 9 (eCallR 5 0 m__law_library (eCons (eSl (eV 6) eNo (ePt (eV 2))) (eCons (eV 5) (eCons (eV 7) (eCons (eV 8) (eCons (eV 4) eNil)))))))
    (sSeq (sSet 3 (eBin addD (eLst (eCons (eV 9) eNil)) (eV 3)))
    (sSet 4 (eBin addD (eV 4) (eLc (eIts (eBin ixD (eV 9) (eC (.int 2)))) [10] (hNm 10) (eAnd (eT truD (eBin ixD (eV 10) (eC (.int 2)))) (eT truD (eMap (eCons (eBin ixD (eV 10) (eC (.int 4))) eNil) (arN 1 m__law_whole)))) (eTup (eCons (eBin ixD (eV 10) (eC (.int 0))) (eCons (eBin ixD (eV 6) (eV 5)) eNil)))))))))
    (sRet (eMap (eCons (eV 3) eNil) tupleD)))))))
def m__law_shelf : PyData → List PyData → Option (PyData × PyData) := runR 9 b__law_shelf
theorem ok__law_shelf {P : Program} {w : World} {K : PySem.W.Frag} {mg : Str → Option Value} {base : Heap} {f : Addr} {fd : FuncData} (F : Fun K "_law_shelf" "_law_shelf" s__law_shelf f fd) (n_range : mg "range" = none) (n_tuple : mg "tuple" = none) (C__law_library : CalG P w K mg base "_law_library" 5 ["feed", "names", "at", "words", "versions", "given"] (spR K 5 m__law_library)) (C__law_pick : CalG P w K mg base "_law_pick" 2 ["feed", "some"] (spR K 1 m__law_pick)) (C__law_take : CalG P w K mg base "_law_take" 1 ["feed", "many"] (spR K 1 m__law_take)) (C__law_whole : CalG P w K mg base "_law_whole" 1 ["found"] (spD K 1 m__law_whole)) (C__law_words : CalG P w K mg base "_law_words" 2 ["feed"] (spR K 0 m__law_words)) :
    FnG P w K mg base 6 f fd ["feed", "most"] (spR K 1 m__law_shelf) :=
  fn_RG F sc__law_shelf (by decide) (fun cdv A outer s0 H E U hr gd =>
      show PSs _ _ (tS K U 1 b__law_shelf) from
      (qs_cons (qs_asg (qc_callRG 0 C__law_words hr gd (by decide) (pv 0) qa_nil) (qg_tup rfl (qgs_cons (qg_name sc__law_shelf.nd (i := 6) rfl (by first | exact Or.inl rfl | exact Or.inr rfl)) (qgs_cons (qg_name sc__law_shelf.nd (i := 7) rfl (by first | exact Or.inl rfl | exact Or.inr rfl)) (qgs_cons (qg_name sc__law_shelf.nd (i := 8) rfl (by first | exact Or.inl rfl | exact Or.inr rfl)) qgs_nil)))))
      (qs_cons (qs_set sc__law_shelf.nd (i := 2) rfl (by first | exact Or.inl rfl | exact Or.inr rfl) (qc_callRG 0 C__law_pick hr gd (by decide) (pv 0) (qa_cons (qe_lst (qa_cons (qe_var 1 (pv 1)) (qa_cons (qe_var 1 (pv 1)) (qa_cons (qe_add qe_int (qc_callRG 0 C__law_take hr gd (by decide) (pv 0) (qa_cons (qe_var 1 (pv 1)) qa_nil))) qa_nil)))) qa_nil)))
      (qs_cons (qs_set sc__law_shelf.nd (i := 3) rfl (by first | exact Or.inl rfl | exact Or.inr rfl) (qe_lst qa_nil))
      (qs_cons (qs_set sc__law_shelf.nd (i := 4) rfl (by first | exact Or.inl rfl | exact Or.inr rfl) (qe_lst qa_nil))
      (qs_cons (qs_for PySem.PassesOwn.never rfl (qi_range3 (by rfl) n_range (qa_cons (qe_sub (qe_var 2 (pv 2)) qe_int) (qa_cons (qe_neg qe_int) (qa_cons (qe_neg qe_int) qa_nil)))) (qg_name sc__law_shelf.nd (i := 5) rfl (by first | exact Or.inl rfl | exact Or.inr rfl)) (qs_cons (qs_set sc__law_shelf.nd (i := 9) rfl (by first | exact Or.inl rfl | exact Or.inr rfl) (qc_callRG 0 C__law_library hr gd (by decide) (pv 0) (qa_cons (qe_slice (qe_var 6 (pv 6)) qo_none (qo_some (qe_var 2 (pv 2)))) (qa_cons (qe_var 5 (pv 5)) (qa_cons (qe_var 7 (pv 7)) (qa_cons (qe_var 8 (pv 8)) (qa_cons (qe_var 4 (pv 4)) qa_nil)))))))
      (qs_cons (qs_set sc__law_shelf.nd (i := 3) rfl (by first | exact Or.inl rfl | exact Or.inr rfl) (qe_add (qe_lst (qa_cons (qe_var 9 (pv 9)) qa_nil)) (qe_var 3 (pv 3))))
      (qs_one (qs_set sc__law_shelf.nd (i := 4) rfl (by first | exact Or.inl rfl | exact Or.inr rfl) (qe_add (qe_var 4 (pv 4)) (qe_lc (own := [("give", 10)]) rfl sc__law_shelf.nd (qi_its (qe_ix (qe_var 9 (pv 9)) qe_int)) (blkOk_by (own := [("give", 10)]) (N := ["feed", "most", "many", "found", "given", "at", "names", "words", "versions", "library", "give"]) (sc := defScope s__law_shelf) (by decide +kernel)) (by decide) (fun _ _ _ _ _ _ => (qg_name sc__law_shelf.nd (i := 10) rfl (by first | exact Or.inl rfl | exact Or.inr rfl))) (fun _ _ _ _ _ _ => (qts_one (PW.pt (qw_and (qt_tru (qe_ix (qe_var 10 (pv 10)) qe_int)) (qw_and1 (qt_tru (qc_callG C__law_whole hr gd (by decide) (qa_cons (qe_ix (qe_var 10 (pv 10)) qe_int) qa_nil)))))))) (fun _ _ _ _ _ _ => (qe_tup (qa_cons (qe_ix (qe_var 10 (pv 10)) qe_int) (qa_cons (qe_ix (qe_var 6 (pv 6)) (qe_var 5 (pv 5))) qa_nil)))))))))))
      (qs_one (qs_ret (qe_callTy call_tuple_of cd_tuple (by rfl) n_tuple (by decide +kernel) (qa_cons (qe_var 3 (pv 3)) qa_nil))))))))))
/-! ### _law_fits -/
abbrev s__law_fits : Stmt := topS 18
theorem sc__law_fits : FnScope ["give", "use"] ["give", "use"] (defScope s__law_fits) := ⟨rfl, rfl, rfl, by decide +kernel, rfl, by decide +kernel, by decide +kernel⟩
def b__law_fits : Es := (sSeq (sIf (eOr (eT blD (eBin neX (eBin ixD (eV 0) (eC (.int 0))) (eBin ixD (eV 1) (eC (.int 0))))) (eT blD (eBin neX (eMap (eCons (eBin ixD (eV 0) (eC (.int 4))) eNil) (arN 1 m__law_whole)) (eBin ixD (eV 1) (eC (.int 2)))))) (sRet (eC (.bool false))) sNil)
    (sSeq (sIf (eT blD (eBin eqX (eBin ixD (eV 0) (eC (.int 1))) (eC (.str "")))) (sRet (eC (.bool true))) sNil)
    (sRet (eOrV (eBin eqX (eBin ixD (eV 0) (eC (.int 1))) (eBin ixD (eV 1) (eC (.int 1)))) (eAndV (eBin eqX (eBin ixD (eV 1) (eC (.int 1))) (eC (.str ""))) (eBin ixD (eV 0) (eC (.int 2))))))))
def m__law_fits : List PyData → Option PyData := runD 0 b__law_fits
theorem ok__law_fits {P : Program} {w : World} {K : PySem.W.Frag} {mg : Str → Option Value} {base : Heap} {f : Addr} {fd : FuncData} (F : Fun K "_law_fits" "_law_fits" s__law_fits f fd) (C__law_whole : CalG P w K mg base "_law_whole" 1 ["found"] (spD K 1 m__law_whole)) :
    FnG P w K mg base 2 f fd ["give", "use"] (spD K 2 m__law_fits) :=
  fn_DG F sc__law_fits (by decide) (fun cdv A outer s0 H E U hr gd =>
      show PSs _ _ (tS K U 0 b__law_fits) from
      (qs_cons (qs_if (PW.pt (qw_or (qt_cmp (op_neX hr.units) od_neX (qe_ix (qe_var 0 (pv 0)) qe_int) (qe_ix (qe_var 1 (pv 1)) qe_int) (by rfl)) (qw_or1 (qt_cmp (op_neX hr.units) od_neX (qc_callG C__law_whole hr gd (by decide) (qa_cons (qe_ix (qe_var 0 (pv 0)) qe_int) qa_nil)) (qe_ix (qe_var 1 (pv 1)) qe_int) (by rfl))))) (qs_one (qs_ret qe_bl)) qs_nil)
      (qs_cons (qs_if (qt_cmp (op_eqX hr.units) od_eqX (qe_ix (qe_var 0 (pv 0)) qe_int) qe_str (by rfl)) (qs_one (qs_ret qe_bl)) qs_nil)
      (qs_one (qs_ret (qe_or (qe_cmp (op_eqX hr.units) od_eqX (qe_ix (qe_var 0 (pv 0)) qe_int) (qe_ix (qe_var 1 (pv 1)) qe_int) (by rfl)) (qe_one (qe_and (qe_cmp (op_eqX hr.units) od_eqX (qe_ix (qe_var 1 (pv 1)) qe_int) qe_str (by rfl)) (qe_one (qe_ix (qe_var 0 (pv 0)) qe_int))))))))))
/-! ### _law_due -/
abbrev s__law_due : Stmt := topS 19
theorem sc__law_due : FnScope ["scope", "use", "weak", "first", "strong", "place", "library", "number", "give"] ["scope", "use", "weak"] (defScope s__law_due) := ⟨rfl, rfl, rfl, by decide +kernel, rfl, by decide +kernel, by decide +kernel⟩
def b__law_due : Es := (sSeq (sSet 3 (eC .none))
    (sSeq (sSet 4 (eC .none))
    (sSeq (sFor (eEnumA (eV 0)) (hTup (hCons (hNm 5) (hCons (hNm 6) hNil)) 2) (sFor (eEnumA (eBin ixD (eV 6) (eC (.int 2)))) (hTup (hCons (hNm 7) (hCons (hNm 8) hNil)) 2) (sSeq (sIf (eAnd (eT truD (eMap (eCons (eV 8) (eCons (eV 1) eNil)) (arN 2 m__law_fits))) (eT blD (eBin isD (eV 3) (eC .none)))) (sSet 3 (eTup (eCons (eV 5) (eCons (eV 7) eNil)))) sNil)
    (sIf (eAnd (eT truD (eMap (eCons (eV 8) (eCons (eV 1) eNil)) (arN 2 m__law_fits))) (eAnd (eT blD (eBin isD (eV 4) (eC .none))) (eNot (eT truD (eBin ixD (eV 8) (eC (.int 3))))))) (sSet 4 (eTup (eCons (eV 5) (eCons (eV 7) eNil)))) sNil))))
    (sRet (eIf (eAnd (eT truD (eV 2)) (eT blD (eBin isNotD (eV 4) (eC .none)))) (eV 4) (eV 3))))))
def m__law_due : List PyData → Option PyData := runD 6 b__law_due
theorem ok__law_due {P : Program} {w : World} {K : PySem.W.Frag} {mg : Str → Option Value} {base : Heap} {f : Addr} {fd : FuncData} (F : Fun K "_law_due" "_law_due" s__law_due f fd) (n_enumerate : mg "enumerate" = none) (C__law_fits : CalG P w K mg base "_law_fits" 2 ["give", "use"] (spD K 2 m__law_fits)) :
    FnG P w K mg base 3 f fd ["scope", "use", "weak"] (spD K 3 m__law_due) :=
  fn_DG F sc__law_due (by decide) (fun cdv A outer s0 H E U hr gd =>
      show PSs _ _ (tS K U 0 b__law_due) from
      (qs_cons (qs_set sc__law_due.nd (i := 3) rfl (by first | exact Or.inl rfl | exact Or.inr rfl) qe_non)
      (qs_cons (qs_set sc__law_due.nd (i := 4) rfl (by first | exact Or.inl rfl | exact Or.inr rfl) qe_non)
      (qs_cons (qs_for PySem.PassesOwn.never rfl (qi_f (qi_enumA (by rfl) n_enumerate (qe_var 0 (pv 0)))) (qg_tup rfl (qgs_cons (qg_name sc__law_due.nd (i := 5) rfl (by first | exact Or.inl rfl | exact Or.inr rfl)) (qgs_cons (qg_name sc__law_due.nd (i := 6) rfl (by first | exact Or.inl rfl | exact Or.inr rfl)) qgs_nil))) (qs_one (qs_for PySem.PassesOwn.never rfl (qi_f (qi_enumA (by rfl) n_enumerate (qe_ix (qe_var 6 (pv 6)) qe_int))) (qg_tup rfl (qgs_cons (qg_name sc__law_due.nd (i := 7) rfl (by first | exact Or.inl rfl | exact Or.inr rfl)) (qgs_cons (qg_name sc__law_due.nd (i := 8) rfl (by first | exact Or.inl rfl | exact Or.inr rfl)) qgs_nil))) (qs_cons (qs_if (PW.pt (qw_and (qt_tru (qc_callG C__law_fits hr gd (by decide) (qa_cons (qe_var 8 (pv 8)) (qa_cons (qe_var 1 (pv 1)) qa_nil)))) (qw_and1 (qt_cmp (opr_or op_isN op_isBl) od_is (qe_var 3 (pv 3)) qe_non (by rfl))))) (qs_one (qs_set sc__law_due.nd (i := 3) rfl (by first | exact Or.inl rfl | exact Or.inr rfl) (qe_tup (qa_cons (qe_var 5 (pv 5)) (qa_cons (qe_var 7 (pv 7)) qa_nil))))) qs_nil)
      (qs_one (qs_if (PW.pt (qw_and (qt_tru (qc_callG C__law_fits hr gd (by decide) (qa_cons (qe_var 8 (pv 8)) (qa_cons (qe_var 1 (pv 1)) qa_nil)))) (qw_and (qt_cmp (opr_or op_isN op_isBl) od_is (qe_var 4 (pv 4)) qe_non (by rfl)) (qw_and1 (qt_not (qt_tru (qe_ix (qe_var 8 (pv 8)) qe_int))))))) (qs_one (qs_set sc__law_due.nd (i := 4) rfl (by first | exact Or.inl rfl | exact Or.inr rfl) (qe_tup (qa_cons (qe_var 5 (pv 5)) (qa_cons (qe_var 7 (pv 7)) qa_nil))))) qs_nil))))))
      (qs_one (qs_ret (qe_if (PW.pt (qw_and (qt_tru (qe_var 2 (pv 2))) (qw_and1 (qt_cmp (opr_or op_notN op_notBl) od_isNot (qe_var 4 (pv 4)) qe_non (by rfl))))) (qe_var 4 (pv 4)) (qe_var 3 (pv 3)))))))))
/-! ### _law_scope -/
abbrev s__law_scope : Stmt := topS 20
theorem sc__law_scope : FnScope ["feed", "shelf", "turn"] ["feed", "shelf"] (defScope s__law_scope) := ⟨rfl, rfl, rfl, by decide +kernel, rfl, by decide +kernel, by decide +kernel⟩
def b__law_scope : Es := (sRet (eLc (eRg1 (eCons (eCallR 1 0 m__law_take (eCons (eC (.int 11)) eNil)) eNil)) [2] (hNm 2) eYes (eCallR 1 0 m__law_pick (eCons (eV 1) eNil))))
def m__law_scope : PyData → List PyData → Option (PyData × PyData) := runR 1 b__law_scope
theorem ok__law_scope {P : Program} {w : World} {K : PySem.W.Frag} {mg : Str → Option Value} {base : Heap} {f : Addr} {fd : FuncData} (F : Fun K "_law_scope" "_law_scope" s__law_scope f fd) (n_range : mg "range" = none) (C__law_pick : CalG P w K mg base "_law_pick" 2 ["feed", "some"] (spR K 1 m__law_pick)) (C__law_take : CalG P w K mg base "_law_take" 1 ["feed", "many"] (spR K 1 m__law_take)) :
    FnG P w K mg base 3 f fd ["feed", "shelf"] (spR K 1 m__law_scope) :=
  fn_RG F sc__law_scope (by decide) (fun cdv A outer s0 H E U hr gd =>
      show PSs _ _ (tS K U 1 b__law_scope) from
      (qs_one (qs_ret (qe_lc (own := [("turn", 2)]) rfl sc__law_scope.nd (qi_range1 (by rfl) n_range (qa_cons (qc_callRG 0 C__law_take hr gd (by decide) (pv 0) (qa_cons qe_int qa_nil)) qa_nil)) (blkOk_by (own := [("turn", 2)]) (N := ["feed", "shelf", "turn"]) (sc := defScope s__law_scope) (by decide +kernel)) (by decide) (fun _ _ _ _ _ _ => (qg_name sc__law_scope.nd (i := 2) rfl (by first | exact Or.inl rfl | exact Or.inr rfl))) (fun _ _ _ _ _ _ => qts_nil) (fun _ _ _ _ _ _ => (qc_callRG 0 C__law_pick hr gd (by decide) (pv 0) (qa_cons (qe_var 1 (pv 1)) qa_nil)))))))
/-! ### _law_uses -/
abbrev s__law_uses : Stmt := topS 21
theorem sc__law_uses : FnScope ["feed", "shelf", "words", "versions", "library", "found", "turn", "gives", "cell", "give", "version", "use"] ["feed", "shelf"] (defScope s__law_uses) := ⟨rfl, rfl, rfl, by decide +kernel, rfl, by decide +kernel, by decide +kernel⟩
def b__law_uses : Es := (sSeq (sSet 2 (eLst (eCons (eC (.str "zz")) eNil)))
    (sSeq (sSet 3 (eLst (eCons (eC (.str "")) (eCons (eC (.str "")) eNil))))
    (sSeq (sFor (eIts (eV 1)) (hNm 4) (sSeq (sSet 2 (eBin addD (eBin addD (eV 2) (eLc (eIts (eBin ixD (eV 4) (eC (.int 2)))) [9] (hNm 9) eYes (eBin ixD (eV 9) (eC (.int 0))))) (eLc (eIts (eBin ixD (eV 4) (eC (.int 3)))) [11] (hNm 11) eYes (eBin ixD (eV 11) (eC (.int 0))))))
    (sSet 3 (eBin addD (eV 3) (eLc (eIts (eBin ixD (eV 4) (eC (.int 2)))) [9] (hNm 9) eYes (eBin ixD (eV 9) (eC (.int 1))))))))
    (sSeq (sNew 5 eNil)
    (sSeq (sFor (eRg1 (eCons (eC (.int 6)) eNil)) (hNm 6) (sSeq (sSet 8 (eBin eqX (eCallR 1 0 m__law_take (eCons (eC (.int 2)) eNil)) (eC (.int 0))))
    (sApp 5 (eTup (eCons (eCallR 1 0 m__law_pick (eCons (eV 2) eNil)) (eCons (eCallR 1 0 m__law_pick (eCons (eV 3) eNil)) (eCons (eV 8) (eCons (eOrV (eV 8) (eBin eqX (eCallR 1 0 m__law_take (eCons (eC (.int 2)) eNil)) (eC (.int 0)))) eNil))))))))
    (sSeq (sSet 7 (eLst eNil))
    (sSeq (sFor (eIts (eV 1)) (hNm 4) (sSet 7 (eBin addD (eV 7) (eMap (eCons (eBin ixD (eV 4) (eC (.int 2))) eNil) listD2))))
    (sSeq (sFor (eRg1 (eCons (eBin mulD (eC (.int 6)) (eMap (eCons (eBin neX (eV 7) (eLst eNil)) eNil) intD1)) eNil)) (hNm 6) (sSeq (sSet 9 (eCallR 1 0 m__law_pick (eCons (eV 7) eNil)))
    (sSeq (sSet 10 (eCallR 1 0 m__law_pick (eCons (eLst (eCons (eC (.str "")) (eCons (eBin ixD (eV 9) (eC (.int 1))) (eCons (eCallR 1 0 m__law_pick (eCons (eV 3) eNil)) eNil)))) eNil)))
    (sApp 5 (eTup (eCons (eBin ixD (eV 9) (eC (.int 0))) (eCons (eV 10) (eCons (eMap (eCons (eBin ixD (eV 9) (eC (.int 4))) eNil) (arN 1 m__law_whole)) (eCons (eC (.bool true)) eNil)))))))))
    (sFrz 5 (sRet (eV 5)))))))))))
def m__law_uses : PyData → List PyData → Option (PyData × PyData) := runR 10 b__law_uses
theorem ok__law_uses {P : Program} {w : World} {K : PySem.W.Frag} {mg : Str → Option Value} {base : Heap} {f : Addr} {fd : FuncData} (F : Fun K "_law_uses" "_law_uses" s__law_uses f fd) (n_int : mg "int" = none) (n_list : mg "list" = none) (n_range : mg "range" = none) (C__law_pick : CalG P w K mg base "_law_pick" 2 ["feed", "some"] (spR K 1 m__law_pick)) (C__law_take : CalG P w K mg base "_law_take" 1 ["feed", "many"] (spR K 1 m__law_take)) (C__law_whole : CalG P w K mg base "_law_whole" 1 ["found"] (spD K 1 m__law_whole)) :
    FnG P w K mg base 3 f fd ["feed", "shelf"] (spR K 1 m__law_uses) :=
  fn_RG F sc__law_uses (by decide) (fun cdv A outer s0 H E U hr gd =>
      show PSs _ _ (tS K U 1 b__law_uses) from
      (qs_cons (qs_set sc__law_uses.nd (i := 2) rfl (by first | exact Or.inl rfl | exact Or.inr rfl) (qe_lst (qa_cons qe_str qa_nil)))
      (qs_cons (qs_set sc__law_uses.nd (i := 3) rfl (by first | exact Or.inl rfl | exact Or.inr rfl) (qe_lst (qa_cons qe_str (qa_cons qe_str qa_nil))))
      (qs_cons (qs_for PySem.PassesOwn.never rfl (qi_its (qe_var 1 (pv 1))) (qg_name sc__law_uses.nd (i := 4) rfl (by first | exact Or.inl rfl | exact Or.inr rfl)) (qs_cons (qs_set sc__law_uses.nd (i := 2) rfl (by first | exact Or.inl rfl | exact Or.inr rfl) (qe_add (qe_add (qe_var 2 (pv 2)) (qe_lc (own := [("give", 9)]) rfl sc__law_uses.nd (qi_its (qe_ix (qe_var 4 (pv 4)) qe_int)) (blkOk_by (own := [("give", 9)]) (N := ["feed", "shelf", "words", "versions", "library", "found", "turn", "gives", "cell", "give", "version", "use"]) (sc := defScope s__law_uses) (by decide +kernel)) (by decide) (fun _ _ _ _ _ _ => (qg_name sc__law_uses.nd (i := 9) rfl (by first | exact Or.inl rfl | exact Or.inr rfl))) (fun _ _ _ _ _ _ => qts_nil) (fun _ _ _ _ _ _ => (qe_ix (qe_var 9 (pv 9)) qe_int)))) (qe_lc (own := [("use", 11)]) rfl sc__law_uses.nd (qi_its (qe_ix (qe_var 4 (pv 4)) qe_int)) (blkOk_by (own := [("use", 11)]) (N := ["feed", "shelf", "words", "versions", "library", "found", "turn", "gives", "cell", "give", "version", "use"]) (sc := defScope s__law_uses) (by decide +kernel)) (by decide) (fun _ _ _ _ _ _ => (qg_name sc__law_uses.nd (i := 11) rfl (by first | exact Or.inl rfl | exact Or.inr rfl))) (fun _ _ _ _ _ _ => qts_nil) (fun _ _ _ _ _ _ => (qe_ix (qe_var 11 (pv 11)) qe_int)))))
      (qs_one (qs_set sc__law_uses.nd (i := 3) rfl (by first | exact Or.inl rfl | exact Or.inr rfl) (qe_add (qe_var 3 (pv 3)) (qe_lc (own := [("give", 9)]) rfl sc__law_uses.nd (qi_its (qe_ix (qe_var 4 (pv 4)) qe_int)) (blkOk_by (own := [("give", 9)]) (N := ["feed", "shelf", "words", "versions", "library", "found", "turn", "gives", "cell", "give", "version", "use"]) (sc := defScope s__law_uses) (by decide +kernel)) (by decide) (fun _ _ _ _ _ _ => (qg_name sc__law_uses.nd (i := 9) rfl (by first | exact Or.inl rfl | exact Or.inr rfl))) (fun _ _ _ _ _ _ => qts_nil) (fun _ _ _ _ _ _ => (qe_ix (qe_var 9 (pv 9)) qe_int))))))))
      (qs_cons (qs_new sc__law_uses.nd (i := 5) rfl (by first | exact Or.inl rfl | exact Or.inr rfl) qa_nil)
      (qs_cons (qs_for PySem.PassesOwn.never rfl (qi_range1 (by rfl) n_range (qa_cons qe_int qa_nil)) (qg_name sc__law_uses.nd (i := 6) rfl (by first | exact Or.inl rfl | exact Or.inr rfl)) (qs_cons (qs_set sc__law_uses.nd (i := 8) rfl (by first | exact Or.inl rfl | exact Or.inr rfl) (qe_cmp (op_eqX hr.units) od_eqX (qc_callRG 0 C__law_take hr gd (by decide) (pv 0) (qa_cons qe_int qa_nil)) qe_int (by rfl)))
      (qs_one (qs_app (i := 5) (pv 5) (qe_tup (qa_cons (qc_callRG 0 C__law_pick hr gd (by decide) (pv 0) (qa_cons (qe_var 2 (pv 2)) qa_nil)) (qa_cons (qc_callRG 0 C__law_pick hr gd (by decide) (pv 0) (qa_cons (qe_var 3 (pv 3)) qa_nil)) (qa_cons (qe_var 8 (pv 8)) (qa_cons (qe_or (qe_var 8 (pv 8)) (qe_one (qe_cmp (op_eqX hr.units) od_eqX (qc_callRG 0 C__law_take hr gd (by decide) (pv 0) (qa_cons qe_int qa_nil)) qe_int (by rfl)))) qa_nil)))))))))
      (qs_cons (qs_set sc__law_uses.nd (i := 7) rfl (by first | exact Or.inl rfl | exact Or.inr rfl) (qe_lst qa_nil))
      (qs_cons (qs_for PySem.PassesOwn.never rfl (qi_its (qe_var 1 (pv 1))) (qg_name sc__law_uses.nd (i := 4) rfl (by first | exact Or.inl rfl | exact Or.inr rfl)) (qs_one (qs_set sc__law_uses.nd (i := 7) rfl (by first | exact Or.inl rfl | exact Or.inr rfl) (qe_add (qe_var 7 (pv 7)) (qe_callTy (call_list2 rfl) cd_list2 (by rfl) n_list (by decide +kernel) (qa_cons (qe_ix (qe_var 4 (pv 4)) qe_int) qa_nil))))))
      (qs_cons (qs_for PySem.PassesOwn.never rfl (qi_range1 (by rfl) n_range (qa_cons (qe_mul qe_int (qe_callTy call_int1 cd_int (by rfl) n_int (by decide +kernel) (qa_cons (qe_cmp (op_neX hr.units) od_neX (qe_var 7 (pv 7)) (qe_lst qa_nil) (by rfl)) qa_nil))) qa_nil)) (qg_name sc__law_uses.nd (i := 6) rfl (by first | exact Or.inl rfl | exact Or.inr rfl)) (qs_cons (qs_set sc__law_uses.nd (i := 9) rfl (by first | exact Or.inl rfl | exact Or.inr rfl) (qc_callRG 0 C__law_pick hr gd (by decide) (pv 0) (qa_cons (qe_var 7 (pv 7)) qa_nil)))
      (qs_cons (qs_set sc__law_uses.nd (i := 10) rfl (by first | exact Or.inl rfl | exact Or.inr rfl) (qc_callRG 0 C__law_pick hr gd (by decide) (pv 0) (qa_cons (qe_lst (qa_cons qe_str (qa_cons (qe_ix (qe_var 9 (pv 9)) qe_int) (qa_cons (qc_callRG 0 C__law_pick hr gd (by decide) (pv 0) (qa_cons (qe_var 3 (pv 3)) qa_nil)) qa_nil)))) qa_nil)))
      (qs_one (qs_app (i := 5) (pv 5) (qe_tup (qa_cons (qe_ix (qe_var 9 (pv 9)) qe_int) (qa_cons (qe_var 10 (pv 10)) (qa_cons (qc_callG C__law_whole hr gd (by decide) (qa_cons (qe_ix (qe_var 9 (pv 9)) qe_int) qa_nil)) (qa_cons qe_bl qa_nil))))))))))
      (qs_frz 5 (qs_one (qs_ret (qe_var 5 (pv 5))))))))))))))
/-! ### _law_bent -/
abbrev s__law_bent : Stmt := topS 22
theorem sc__law_bent : FnScope ["feed", "scope", "use", "due", "odd", "others", "place", "library", "number", "give"] ["feed", "scope", "use", "due"] (defScope s__law_bent) := ⟨rfl, rfl, rfl, by decide +kernel, rfl, by decide +kernel, by decide +kernel⟩
def b__law_bent : Es := (sSeq (sSet 4 (eLst (eCons (eC .none) (eCons (eTup eNil) (eCons (eC (.int 0)) (eCons (eC (.str "none")) (eCons (eLst eNil) (eCons (eTup (eCons (eC (.int 0)) eNil)) (eCons (eTup (eCons (eC (.int 0)) (eCons (eC (.int 0)) (eCons (eC (.int 0)) eNil)))) (eCons (eTup (eCons (eC (.int 0)) (eCons (eC (.int 0)) eNil))) (eCons (eTup (eCons (eC (.bool true)) (eCons (eC (.int 0)) eNil))) (eCons (eTup (eCons (eC (.int 0)) (eCons (eC (.bool false)) eNil))) (eCons (eTup (eCons (eC (.str "0")) (eCons (eC (.int 0)) eNil))) (eCons eDct eNil))))))))))))))
    (sSeq (sIf (eT blD (eBin isNotD (eV 3) (eC .none))) (sSeq (sAsg (eV 3) (hTup (hCons (hNm 6) (hCons (hNm 8) hNil)) 2))
    (sSeq (sSet 4 (eBin addD (eV 4) (eLst (eCons (eMap (eCons (eV 3) eNil) listD2) (eCons (eBin addD (eV 3) (eTup (eCons (eC (.int 0)) eNil))) (eCons (eSl (eV 3) eNo (ePt (eC (.int 1)))) (eCons (eTup (eCons (eV 3) eNil)) (eCons (eTup (eCons (eBin addD (eV 6) (eC (.int 1))) (eCons (eV 8) eNil))) (eCons (eTup (eCons (eBin subD (eV 6) (eC (.int 1))) (eCons (eV 8) eNil))) (eCons (eMap (eV 3) revD) eNil))))))))))
    (sSeq (sSet 4 (eBin addD (eV 4) (eLst (eCons (eTup (eCons (eV 6) (eCons (eBin addD (eV 8) (eC (.int 1))) eNil))) (eCons (eTup (eCons (eV 6) (eCons (eBin subD (eV 8) (eC (.int 1))) eNil))) (eCons (eTup (eCons (eBin eqX (eV 6) (eC (.int 1))) (eCons (eV 8) eNil))) (eCons (eTup (eCons (eV 6) (eCons (eBin eqX (eV 8) (eC (.int 1))) eNil))) eNil)))))))
    (sSet 4 (eBin addD (eV 4) (eLst (eCons (eTup (eCons (eMap (eCons (eV 6) eNil) strD1) (eCons (eV 8) eNil))) (eCons (eTup (eCons (eBin subD (eV 6) (eMap (eCons (eV 1) eNil) lenD)) (eCons (eV 8) eNil))) (eCons (eTup (eCons (eC .none) (eCons (eV 8) eNil))) (eCons (eTup (eCons (eV 6) (eCons (eC .none) eNil))) eNil)))))))))) sNil)
    (sSeq (sSet 5 (eLst eNil))
    (sSeq (sFor (eEnumA (eV 1)) (hTup (hCons (hNm 6) (hCons (hNm 7) hNil)) 2) (sSet 5 (eBin addD (eV 5) (eLc (eEnumA (eBin ixD (eV 7) (eC (.int 2)))) [8, 9] (hTup (hCons (hNm 8) (hCons (hNm 9) hNil)) 2) (eT truD (eMap (eCons (eV 9) (eCons (eV 2) eNil)) (arN 2 m__law_fits))) (eTup (eCons (eV 6) (eCons (eV 8) eNil)))))))
    (sSeq (sIf (eAnd (eT blD (eBin neX (eV 5) (eLst eNil))) (eT blD (eBin eqX (eCallR 1 0 m__law_take (eCons (eC (.int 2)) eNil)) (eC (.int 0))))) (sRet (eCallR 1 0 m__law_pick (eCons (eV 5) eNil))) sNil)
    (sRet (eCallR 1 0 m__law_pick (eCons (eV 4) eNil))))))))
def m__law_bent : PyData → List PyData → Option (PyData × PyData) := runR 6 b__law_bent
theorem ok__law_bent {P : Program} {w : World} {K : PySem.W.Frag} {mg : Str → Option Value} {base : Heap} {f : Addr} {fd : FuncData} (F : Fun K "_law_bent" "_law_bent" s__law_bent f fd) (n_enumerate : mg "enumerate" = none) (n_len : mg "len" = none) (n_list : mg "list" = none) (n_str : mg "str" = none) (C__law_fits : CalG P w K mg base "_law_fits" 2 ["give", "use"] (spD K 2 m__law_fits)) (C__law_pick : CalG P w K mg base "_law_pick" 2 ["feed", "some"] (spR K 1 m__law_pick)) (C__law_take : CalG P w K mg base "_law_take" 1 ["feed", "many"] (spR K 1 m__law_take)) :
    FnG P w K mg base 3 f fd ["feed", "scope", "use", "due"] (spR K 3 m__law_bent) :=
  fn_RG F sc__law_bent (by decide) (fun cdv A outer s0 H E U hr gd =>
      show PSs _ _ (tS K U 1 b__law_bent) from
      (qs_cons (qs_set sc__law_bent.nd (i := 4) rfl (by first | exact Or.inl rfl | exact Or.inr rfl) (qe_lst (qa_cons qe_non (qa_cons (qe_tup qa_nil) (qa_cons qe_int (qa_cons qe_str (qa_cons (qe_lst qa_nil) (qa_cons (qe_tup (qa_cons qe_int qa_nil)) (qa_cons (qe_tup (qa_cons qe_int (qa_cons qe_int (qa_cons qe_int qa_nil)))) (qa_cons (qe_tup (qa_cons qe_int (qa_cons qe_int qa_nil))) (qa_cons (qe_tup (qa_cons qe_bl (qa_cons qe_int qa_nil))) (qa_cons (qe_tup (qa_cons qe_int (qa_cons qe_bl qa_nil))) (qa_cons (qe_tup (qa_cons qe_str (qa_cons qe_int qa_nil))) (qa_cons qe_dct qa_nil))))))))))))))
      (qs_cons (qs_if (qt_cmp (opr_or op_notN op_notBl) od_isNot (qe_var 3 (pv 3)) qe_non (by rfl)) (qs_cons (qs_asg (qe_var 3 (pv 3)) (qg_tup rfl (qgs_cons (qg_name sc__law_bent.nd (i := 6) rfl (by first | exact Or.inl rfl | exact Or.inr rfl)) (qgs_cons (qg_name sc__law_bent.nd (i := 8) rfl (by first | exact Or.inl rfl | exact Or.inr rfl)) qgs_nil))))
      (qs_cons (qs_set sc__law_bent.nd (i := 4) rfl (by first | exact Or.inl rfl | exact Or.inr rfl) (qe_add (qe_var 4 (pv 4)) (qe_lst (qa_cons (qe_callTy (call_list2 rfl) cd_list2 (by rfl) n_list (by decide +kernel) (qa_cons (qe_var 3 (pv 3)) qa_nil)) (qa_cons (qe_add (qe_var 3 (pv 3)) (qe_tup (qa_cons qe_int qa_nil))) (qa_cons (qe_slice (qe_var 3 (pv 3)) qo_none (qo_some qe_int)) (qa_cons (qe_tup (qa_cons (qe_var 3 (pv 3)) qa_nil)) (qa_cons (qe_tup (qa_cons (qe_add (qe_var 6 (pv 6)) qe_int) (qa_cons (qe_var 8 (pv 8)) qa_nil))) (qa_cons (qe_tup (qa_cons (qe_sub (qe_var 6 (pv 6)) qe_int) (qa_cons (qe_var 8 (pv 8)) qa_nil))) (qa_cons (qe_rev (qe_var 3 (pv 3))) qa_nil))))))))))
      (qs_cons (qs_set sc__law_bent.nd (i := 4) rfl (by first | exact Or.inl rfl | exact Or.inr rfl) (qe_add (qe_var 4 (pv 4)) (qe_lst (qa_cons (qe_tup (qa_cons (qe_var 6 (pv 6)) (qa_cons (qe_add (qe_var 8 (pv 8)) qe_int) qa_nil))) (qa_cons (qe_tup (qa_cons (qe_var 6 (pv 6)) (qa_cons (qe_sub (qe_var 8 (pv 8)) qe_int) qa_nil))) (qa_cons (qe_tup (qa_cons (qe_cmp (op_eqX hr.units) od_eqX (qe_var 6 (pv 6)) qe_int (by rfl)) (qa_cons (qe_var 8 (pv 8)) qa_nil))) (qa_cons (qe_tup (qa_cons (qe_var 6 (pv 6)) (qa_cons (qe_cmp (op_eqX hr.units) od_eqX (qe_var 8 (pv 8)) qe_int (by rfl)) qa_nil))) qa_nil)))))))
      (qs_one (qs_set sc__law_bent.nd (i := 4) rfl (by first | exact Or.inl rfl | exact Or.inr rfl) (qe_add (qe_var 4 (pv 4)) (qe_lst (qa_cons (qe_tup (qa_cons (qe_callTy call_str_int cd_str (by rfl) n_str (by decide +kernel) (qa_cons (qe_var 6 (pv 6)) qa_nil)) (qa_cons (qe_var 8 (pv 8)) qa_nil))) (qa_cons (qe_tup (qa_cons (qe_sub (qe_var 6 (pv 6)) (qe_callB call_len cd_len (by rfl) n_len (by decide +kernel) (qa_cons (qe_var 1 (pv 1)) qa_nil))) (qa_cons (qe_var 8 (pv 8)) qa_nil))) (qa_cons (qe_tup (qa_cons qe_non (qa_cons (qe_var 8 (pv 8)) qa_nil))) (qa_cons (qe_tup (qa_cons (qe_var 6 (pv 6)) (qa_cons qe_non qa_nil))) qa_nil))))))))))) qs_nil)
      (qs_cons (qs_set sc__law_bent.nd (i := 5) rfl (by first | exact Or.inl rfl | exact Or.inr rfl) (qe_lst qa_nil))
      (qs_cons (qs_for PySem.PassesOwn.never rfl (qi_f (qi_enumA (by rfl) n_enumerate (qe_var 1 (pv 1)))) (qg_tup rfl (qgs_cons (qg_name sc__law_bent.nd (i := 6) rfl (by first | exact Or.inl rfl | exact Or.inr rfl)) (qgs_cons (qg_name sc__law_bent.nd (i := 7) rfl (by first | exact Or.inl rfl | exact Or.inr rfl)) qgs_nil))) (qs_one (qs_set sc__law_bent.nd (i := 5) rfl (by first | exact Or.inl rfl | exact Or.inr rfl) (qe_add (qe_var 5 (pv 5)) (qe_lc (own := [("number", 8), ("give", 9)]) rfl sc__law_bent.nd (qi_f (qi_enumA (by rfl) n_enumerate (qe_ix (qe_var 7 (pv 7)) qe_int))) (blkOk_by (own := [("number", 8), ("give", 9)]) (N := ["feed", "scope", "use", "due", "odd", "others", "place", "library", "number", "give"]) (sc := defScope s__law_bent) (by decide +kernel)) (by decide) (fun _ _ _ _ _ _ => (qg_tup rfl (qgs_cons (qg_name sc__law_bent.nd (i := 8) rfl (by first | exact Or.inl rfl | exact Or.inr rfl)) (qgs_cons (qg_name sc__law_bent.nd (i := 9) rfl (by first | exact Or.inl rfl | exact Or.inr rfl)) qgs_nil)))) (fun _ _ _ _ _ _ => (qts_one (qt_tru (qc_callG C__law_fits hr gd (by decide) (qa_cons (qe_var 9 (pv 9)) (qa_cons (qe_var 2 (pv 2)) qa_nil)))))) (fun _ _ _ _ _ _ => (qe_tup (qa_cons (qe_var 6 (pv 6)) (qa_cons (qe_var 8 (pv 8)) qa_nil)))))))))
      (qs_cons (qs_if (PW.pt (qw_and (qt_cmp (op_neX hr.units) od_neX (qe_var 5 (pv 5)) (qe_lst qa_nil) (by rfl)) (qw_and1 (qt_cmp (op_eqX hr.units) od_eqX (qc_callRG 0 C__law_take hr gd (by decide) (pv 0) (qa_cons qe_int qa_nil)) qe_int (by rfl))))) (qs_one (qs_ret (qc_callRG 0 C__law_pick hr gd (by decide) (pv 0) (qa_cons (qe_var 5 (pv 5)) qa_nil)))) qs_nil)
      (qs_one (qs_ret (qc_callRG 0 C__law_pick hr gd (by decide) (pv 0) (qa_cons (qe_var 4 (pv 4)) qa_nil))))))))))
/-! ### meaning -/
abbrev s_meaning : Stmt := topS 5
theorem sc_meaning : FnScope ["scope", "use", "faint", "fitting", "found", "place", "library", "number", "give"] ["scope", "use", "faint"] (defScope s_meaning) := ⟨rfl, rfl, rfl, by decide +kernel, rfl, by decide +kernel, by decide +kernel⟩
def b_meaning : Es := (sSeq (sSet 3 (eLc2 (eEnumA (eV 0)) [5, 6, 7, 8] (hTup (hCons (hNm 5) (hCons (hNm 6) hNil)) 2) eYes (eEnumA (eBin ixD (eV 6) (eC (.int 2)))) [7, 8] (hTup (hCons (hNm 7) (hCons (hNm 8) hNil)) 2) (eT truD (eMap (eCons (eV 8) (eCons (eV 1) eNil)) (arN 2 m_fits))) (eTup (eCons (eV 5) (eCons (eV 7) (eCons (eBin ixD (eV 8) (eC (.int 3))) eNil))))))
    (sSeq (sSet 4 (eMap (eCons (eV 3) (eCons (eV 2) eNil)) (arN 2 m_first_meant)))
    (sRet (eIf (eT blD (eBin isD (eV 4) (eC .none))) (eC .none) (eSl (eV 4) eNo (ePt (eC (.int 2))))))))
def m_meaning : List PyData → Option PyData := runD 6 b_meaning
theorem ok_meaning {P : Program} {w : World} {K : PySem.W.Frag} {mg : Str → Option Value} {base : Heap} {f : Addr} {fd : FuncData} (F : Fun K "meaning" "meaning" s_meaning f fd) (n_enumerate : mg "enumerate" = none) (C_first_meant : CalG P w K mg base "first_meant" 1 ["fitting", "faint"] (spD K 2 m_first_meant)) (C_fits : CalG P w K mg base "fits" 2 ["give", "use"] (spD K 2 m_fits)) :
    FnG P w K mg base 3 f fd ["scope", "use", "faint"] (spD K 3 m_meaning) :=
  fn_DG F sc_meaning (by decide) (fun cdv A outer s0 H E U hr gd =>
      show PSs _ _ (tS K U 0 b_meaning) from
      (qs_cons (qs_setLc2 (i := 3) (own := [("place", 5), ("library", 6), ("number", 7), ("give", 8)]) (own1 := [7, 8]) rfl sc_meaning.nd rfl rfl (sw_true rfl rfl rfl (by decide +kernel)) (qi_f (qi_enumA (by rfl) n_enumerate (qe_var 0 (pv 0)))) (blkOk_by (own := [("place", 5), ("library", 6), ("number", 7), ("give", 8)]) (N := ["scope", "use", "faint", "fitting", "found", "place", "library", "number", "give"]) (sc := defScope s_meaning) (by decide +kernel)) (by decide) (by decide) (by decide) (fun _ _ _ _ _ _ => (qg_tup rfl (qgs_cons (qg_name sc_meaning.nd (i := 5) rfl (by first | exact Or.inl rfl | exact Or.inr rfl)) (qgs_cons (qg_name sc_meaning.nd (i := 6) rfl (by first | exact Or.inl rfl | exact Or.inr rfl)) qgs_nil)))) (fun _ _ _ _ _ _ => qts_nil) (fun _ _ _ _ _ _ => (qi_enumA (by rfl) n_enumerate (qe_ix (qe_var 6 (pv 6)) qe_int))) (fun _ _ _ _ _ _ => (qg_tup rfl (qgs_cons (qg_name sc_meaning.nd (i := 7) rfl (by first | exact Or.inl rfl | exact Or.inr rfl)) (qgs_cons (qg_name sc_meaning.nd (i := 8) rfl (by first | exact Or.inl rfl | exact Or.inr rfl)) qgs_nil)))) (fun _ _ _ _ _ _ => (qts_one (qt_tru (qc_callG C_fits hr gd (by decide) (qa_cons (qe_var 8 (pv 8)) (qa_cons (qe_var 1 (pv 1)) qa_nil)))))) (fun _ _ _ _ _ _ => (qe_tup (qa_cons (qe_var 5 (pv 5)) (qa_cons (qe_var 7 (pv 7)) (qa_cons (qe_ix (qe_var 8 (pv 8)) qe_int) qa_nil))))))
      (qs_cons (qs_set sc_meaning.nd (i := 4) rfl (by first | exact Or.inl rfl | exact Or.inr rfl) (qc_callG C_first_meant hr gd (by decide) (qa_cons (qe_var 3 (pv 3)) (qa_cons (qe_var 2 (pv 2)) qa_nil))))
      (qs_one (qs_ret (qe_if (qt_cmp (opr_or op_isN op_isBl) od_is (qe_var 4 (pv 4)) qe_non (by rfl)) qe_non (qe_slice (qe_var 4 (pv 4)) qo_none (qo_some qe_int))))))))
/-! ### is_meaning -/
abbrev s_is_meaning : Stmt := topS 6
theorem sc_is_meaning : FnScope ["scope", "use", "thing", "faint"] ["scope", "use", "thing", "faint"] (defScope s_is_meaning) := ⟨rfl, rfl, rfl, by decide +kernel, rfl, by decide +kernel, by decide +kernel⟩
def b_is_meaning : Es := (sRet (eMap (eCons (eV 2) (eCons (eKw 2 3 m_meaning (eCons (eV 0) (eCons (eV 1) eNil)) (eCons (eV 3) eNil)) eNil)) (arN 2 m_are_same)))
def m_is_meaning : List PyData → Option PyData := runD 0 b_is_meaning
theorem ok_is_meaning {P : Program} {w : World} {K : PySem.W.Frag} {mg : Str → Option Value} {base : Heap} {f : Addr} {fd : FuncData} (F : Fun K "is_meaning" "is_meaning" s_is_meaning f fd) (C_are_same : CalG P w K mg base "are_same" 6 ["thing", "told"] (spD K 2 m_are_same)) (CK_meaning : CalK P w K mg base "meaning" 3 ["scope", "use", "faint"] 2 ["faint"] (spD K 3 m_meaning)) :
    FnG P w K mg base 7 f fd ["scope", "use", "thing", "faint"] (spD K 4 m_is_meaning) :=
  fn_DG F sc_is_meaning (by decide) (fun cdv A outer s0 H E U hr gd =>
      show PSs _ _ (tS K U 0 b_is_meaning) from
      (qs_one (qs_ret (qc_callG C_are_same hr gd (by decide) (qa_cons (qe_var 2 (pv 2)) (qa_cons (qc_callKG CK_meaning hr gd (by decide) (qa_cons (qe_var 0 (pv 0)) (qa_cons (qe_var 1 (pv 1)) qa_nil)) (qk_cons (qe_var 3 (pv 3)) qk_nil) (by decide)) qa_nil))))))
/-! ### law -/
abbrev s_law : Stmt := topS 23
theorem sc_law : FnScope ["script", "shelf", "k", "feed", "scope", "use", "weak", "due", "thing", "was", "told"] ["script"] (defScope s_law) := ⟨rfl, rfl, rfl, by decide +kernel, rfl, by decide +kernel, by decide +kernel⟩
def b_law : Es := (sSeq (sSet 1 (eCallT 1 (eMap (eCons (eV 0) (eCons (eC (.int 0)) eNil)) (arN 2 m__law_feed)) m__law_shelf (eCons (eC (.int 8)) eNil)))
    (sSeq (sFor (eRg1 (eCons (eC (.int 5)) eNil)) (hNm 2) (sSeq (sSetF 3 (eMap (eCons (eV 0) (eCons (eBin addD (eC (.int 1)) (eV 2)) eNil)) (arN 2 m__law_feed)))
    (sSeq (sSet 4 (eCallR 1 3 m__law_scope (eCons (eV 1) eNil)))
    (sFor (eIts (eCallR 1 3 m__law_uses (eCons (eV 1) eNil))) (hNm 5) (sSeq (sSet 6 (eBin eqX (eCallR 1 3 m__law_take (eCons (eC (.int 2)) eNil)) (eC (.int 0))))
    (sSeq (sSet 7 (eMap (eCons (eV 4) (eCons (eV 5) (eCons (eV 6) eNil))) (arN 3 m__law_due)))
    (sFor (eIts (eLst (eCons (eV 7) (eCons (eCallR 3 3 m__law_bent (eCons (eV 4) (eCons (eV 5) (eCons (eV 7) eNil)))) (eCons (eCallR 3 3 m__law_bent (eCons (eV 4) (eCons (eV 5) (eCons (eV 7) eNil)))) eNil))))) (hNm 8) (sSeq (sSet 9 (eMap (eCons (eLst (eCons (eV 4) (eCons (eV 8) eNil))) eNil) reprY))
    (sSeq (sSet 10 (eKw 3 4 m_is_meaning (eCons (eV 4) (eCons (eV 5) (eCons (eV 8) eNil))) (eCons (eV 6) eNil)))
    (sSeq (sIf (eAnd (eNot (eT truD (eV 6))) (eT blD (eBin neX (eV 10) (eMap (eCons (eV 4) (eCons (eV 5) (eCons (eV 8) eNil))) fun l => arN 4 m_is_meaning (l ++ [(.bool false)]))))) (sRet (eC (.bool false))) sNil)
    (sSeq (sIf (eOr (eNot (eT truD (eMap (eV 10) (isiD "bool")))) (eT blD (eBin neX (eMap (eCons (eLst (eCons (eV 4) (eCons (eV 8) eNil))) eNil) reprY) (eV 9)))) (sRet (eC (.bool false))) sNil)
    (sIf (eT blD (eBin neX (eV 10) (eBin eqX (eMap (eCons (eV 8) eNil) reprY) (eMap (eCons (eV 7) eNil) reprY)))) (sRet (eC (.bool false))) sNil))))))))))))
    (sRet (eC (.bool true)))))
def m_law : List PyData → Option PyData := runD 10 b_law
theorem ok_law {P : Program} {w : World} {K : PySem.W.Frag} {mg : Str → Option Value} {base : Heap} {f : Addr} {fd : FuncData} (F : Fun K "law" "law" s_law f fd) (n_bool : mg "bool" = none) (n_isinstance : mg "isinstance" = none) (n_range : mg "range" = none) (n_repr : mg "repr" = none) (C__law_bent : CalG P w K mg base "_law_bent" 3 ["feed", "scope", "use", "due"] (spR K 3 m__law_bent)) (C__law_due : CalG P w K mg base "_law_due" 3 ["scope", "use", "weak"] (spD K 3 m__law_due)) (C__law_feed : CalG P w K mg base "_law_feed" 1 ["script", "k"] (spN K 2 m__law_feed)) (C__law_scope : CalG P w K mg base "_law_scope" 3 ["feed", "shelf"] (spR K 1 m__law_scope)) (C__law_shelf : CalG P w K mg base "_law_shelf" 6 ["feed", "most"] (spR K 1 m__law_shelf)) (C__law_take : CalG P w K mg base "_law_take" 1 ["feed", "many"] (spR K 1 m__law_take)) (C__law_uses : CalG P w K mg base "_law_uses" 3 ["feed", "shelf"] (spR K 1 m__law_uses)) (CD_is_meaning : CalD P w K mg base "is_meaning" 7 ["scope", "use", "thing", "faint"] [(.bool false)] (spD K 4 m_is_meaning)) (CK_is_meaning : CalK P w K mg base "is_meaning" 7 ["scope", "use", "thing", "faint"] 3 ["faint"] (spD K 4 m_is_meaning)) :
    FnG P w K mg base 8 f fd ["script"] (spD K 1 m_law) :=
  fn_DG F sc_law (by decide) (fun cdv A outer s0 H E U hr gd =>
      show PSs _ _ (tS K U 0 b_law) from
      (qs_cons (qs_set sc_law.nd (i := 1) rfl (by first | exact Or.inl rfl | exact Or.inr rfl) (qc_callTG C__law_shelf hr gd (by decide) (qn_callG C__law_feed hr gd (by decide) (qa_cons (qe_var 0 (pv 0)) (qa_cons qe_int qa_nil))) (fun _ => (qa_cons qe_int qa_nil))))
      (qs_cons (qs_for PySem.PassesOwn.never rfl (qi_range1 (by rfl) n_range (qa_cons qe_int qa_nil)) (qg_name sc_law.nd (i := 2) rfl (by first | exact Or.inl rfl | exact Or.inr rfl)) (qs_cons (qs_setF sc_law.nd (i := 3) rfl (by first | exact Or.inl rfl | exact Or.inr rfl) (qn_callG C__law_feed hr gd (by decide) (qa_cons (qe_var 0 (pv 0)) (qa_cons (qe_add qe_int (qe_var 2 (pv 2))) qa_nil))))
      (qs_cons (qs_set sc_law.nd (i := 4) rfl (by first | exact Or.inl rfl | exact Or.inr rfl) (qc_callRG 3 C__law_scope hr gd (by decide) (pv 3) (qa_cons (qe_var 1 (pv 1)) qa_nil)))
      (qs_one (qs_for PySem.PassesOwn.never rfl (qi_its (qc_callRG 3 C__law_uses hr gd (by decide) (pv 3) (qa_cons (qe_var 1 (pv 1)) qa_nil))) (qg_name sc_law.nd (i := 5) rfl (by first | exact Or.inl rfl | exact Or.inr rfl)) (qs_cons (qs_set sc_law.nd (i := 6) rfl (by first | exact Or.inl rfl | exact Or.inr rfl) (qe_cmp (op_eqX hr.units) od_eqX (qc_callRG 3 C__law_take hr gd (by decide) (pv 3) (qa_cons qe_int qa_nil)) qe_int (by rfl)))
      (qs_cons (qs_set sc_law.nd (i := 7) rfl (by first | exact Or.inl rfl | exact Or.inr rfl) (qc_callG C__law_due hr gd (by decide) (qa_cons (qe_var 4 (pv 4)) (qa_cons (qe_var 5 (pv 5)) (qa_cons (qe_var 6 (pv 6)) qa_nil)))))
      (qs_one (qs_for PySem.PassesOwn.never rfl (qi_its (qe_lst (qa_cons (qe_var 7 (pv 7)) (qa_cons (qc_callRG 3 C__law_bent hr gd (by decide) (pv 3) (qa_cons (qe_var 4 (pv 4)) (qa_cons (qe_var 5 (pv 5)) (qa_cons (qe_var 7 (pv 7)) qa_nil)))) (qa_cons (qc_callRG 3 C__law_bent hr gd (by decide) (pv 3) (qa_cons (qe_var 4 (pv 4)) (qa_cons (qe_var 5 (pv 5)) (qa_cons (qe_var 7 (pv 7)) qa_nil)))) qa_nil))))) (qg_name sc_law.nd (i := 8) rfl (by first | exact Or.inl rfl | exact Or.inr rfl)) (qs_cons (qs_set sc_law.nd (i := 9) rfl (by first | exact Or.inl rfl | exact Or.inr rfl) (qe_callB (call_reprY gd (room66 hr)) cd_reprY (by rfl) n_repr (by decide +kernel) (qa_cons (qe_lst (qa_cons (qe_var 4 (pv 4)) (qa_cons (qe_var 8 (pv 8)) qa_nil))) qa_nil)))
      (qs_cons (qs_set sc_law.nd (i := 10) rfl (by first | exact Or.inl rfl | exact Or.inr rfl) (qc_callKG CK_is_meaning hr gd (by decide) (qa_cons (qe_var 4 (pv 4)) (qa_cons (qe_var 5 (pv 5)) (qa_cons (qe_var 8 (pv 8)) qa_nil))) (qk_cons (qe_var 6 (pv 6)) qk_nil) (by decide)))
      (qs_cons (qs_if (PW.pt (qw_and (qt_not (qt_tru (qe_var 6 (pv 6)))) (qw_and1 (qt_cmp (op_neX hr.units) od_neX (qe_var 10 (pv 10)) (qc_callDG CD_is_meaning hr gd (by decide) (qa_cons (qe_var 4 (pv 4)) (qa_cons (qe_var 5 (pv 5)) (qa_cons (qe_var 8 (pv 8)) qa_nil)))) (by rfl))))) (qs_one (qs_ret qe_bl)) qs_nil)
      (qs_cons (qs_if (PW.pt (qw_or (qt_not (qt_tru (qe_isi (T := "bool") (by decide +kernel) (by rfl) n_isinstance (by rfl) n_bool (by decide +kernel) (qe_var 10 (pv 10))))) (qw_or1 (qt_cmp (op_neX hr.units) od_neX (qe_callB (call_reprY gd (room66 hr)) cd_reprY (by rfl) n_repr (by decide +kernel) (qa_cons (qe_lst (qa_cons (qe_var 4 (pv 4)) (qa_cons (qe_var 8 (pv 8)) qa_nil))) qa_nil)) (qe_var 9 (pv 9)) (by rfl))))) (qs_one (qs_ret qe_bl)) qs_nil)
      (qs_one (qs_if (qt_cmp (op_neX hr.units) od_neX (qe_var 10 (pv 10)) (qe_cmp (op_eqX hr.units) od_eqX (qe_callB (call_reprY gd (room66 hr)) cd_reprY (by rfl) n_repr (by decide +kernel) (qa_cons (qe_var 8 (pv 8)) qa_nil)) (qe_callB (call_reprY gd (room66 hr)) cd_reprY (by rfl) n_repr (by decide +kernel) (qa_cons (qe_var 7 (pv 7)) qa_nil)) (by rfl)) (by rfl)) (qs_one (qs_ret qe_bl)) qs_nil)))))))))))))))
      (qs_one (qs_ret qe_bl)))))
end K21

end
/-! HK21 -/
section
set_option maxHeartbeats 0
namespace K21
open PySem PySem.Spec PyProof.Rows L2 TL
def d_is_whole : He.DefD := ⟨("is_whole", none), "is_whole", "is_whole", defArgs s_is_whole, defBody s_is_whole, defScope s_is_whole, [], []⟩
def d_are_same : He.DefD := ⟨("are_same", none), "are_same", "are_same", defArgs s_are_same, defBody s_are_same, defScope s_are_same, [], []⟩
def d_fits : He.DefD := ⟨("fits", none), "fits", "fits", defArgs s_fits, defBody s_fits, defScope s_fits, [], []⟩
def d_first_meant : He.DefD := ⟨("first_meant", none), "first_meant", "first_meant", defArgs s_first_meant, defBody s_first_meant, defScope s_first_meant, [], []⟩
def d__law_feed : He.DefD := ⟨("_law_feed", none), "_law_feed", "_law_feed", defArgs s__law_feed, defBody s__law_feed, defScope s__law_feed, [], []⟩
def d__law_take : He.DefD := ⟨("_law_take", none), "_law_take", "_law_take", defArgs s__law_take, defBody s__law_take, defScope s__law_take, [], []⟩
def d__law_pick : He.DefD := ⟨("_law_pick", none), "_law_pick", "_law_pick", defArgs s__law_pick, defBody s__law_pick, defScope s__law_pick, [], []⟩
def d__law_whole : He.DefD := ⟨("_law_whole", none), "_law_whole", "_law_whole", defArgs s__law_whole, defBody s__law_whole, defScope s__law_whole, [], []⟩
def d__law_words : He.DefD := ⟨("_law_words", none), "_law_words", "_law_words", defArgs s__law_words, defBody s__law_words, defScope s__law_words, [], []⟩
def d__law_rows : He.DefD := ⟨("_law_rows", none), "_law_rows", "_law_rows", defArgs s__law_rows, defBody s__law_rows, defScope s__law_rows, [], []⟩
def d__law_gives : He.DefD := ⟨("_law_gives", none), "_law_gives", "_law_gives", defArgs s__law_gives, defBody s__law_gives, defScope s__law_gives, [], []⟩
def d__law_library : He.DefD := ⟨("_law_library", none), "_law_library", "_law_library", defArgs s__law_library, defBody s__law_library, defScope s__law_library, [], []⟩
def d__law_shelf : He.DefD := ⟨("_law_shelf", none), "_law_shelf", "_law_shelf", defArgs s__law_shelf, defBody s__law_shelf, defScope s__law_shelf, [], []⟩
def d__law_fits : He.DefD := ⟨("_law_fits", none), "_law_fits", "_law_fits", defArgs s__law_fits, defBody s__law_fits, defScope s__law_fits, [], []⟩
def d__law_due : He.DefD := ⟨("_law_due", none), "_law_due", "_law_due", defArgs s__law_due, defBody s__law_due, defScope s__law_due, [], []⟩
def d__law_scope : He.DefD := ⟨("_law_scope", none), "_law_scope", "_law_scope", defArgs s__law_scope, defBody s__law_scope, defScope s__law_scope, [], []⟩
def d__law_uses : He.DefD := ⟨("_law_uses", none), "_law_uses", "_law_uses", defArgs s__law_uses, defBody s__law_uses, defScope s__law_uses, [], []⟩
def d__law_bent : He.DefD := ⟨("_law_bent", none), "_law_bent", "_law_bent", defArgs s__law_bent, defBody s__law_bent, defScope s__law_bent, [], []⟩
def d_meaning : He.DefD := ⟨("meaning", none), "meaning", "meaning", defArgs s_meaning, defBody s_meaning, defScope s_meaning, [], [("faint", .bl false)]⟩
def d_is_meaning : He.DefD := ⟨("is_meaning", none), "is_meaning", "is_meaning", defArgs s_is_meaning, defBody s_is_meaning, defScope s_is_meaning, [], [("faint", .bl false)]⟩
def d_law : He.DefD := ⟨("law", none), "law", "law", defArgs s_law, defBody s_law, defScope s_law, [], []⟩
def fns : List He.DefD := [d_is_whole, d_are_same, d_fits, d_first_meant, d__law_feed, d__law_take, d__law_pick, d__law_whole, d__law_words, d__law_rows, d__law_gives, d__law_library, d__law_shelf, d__law_fits, d__law_due, d__law_scope, d__law_uses, d__law_bent, d_meaning, d_is_meaning, d_law]
def fas : List He.Fa := [.glo "is_whole",
  .glo "are_same",
  .glo "fits",
  .glo "first_meant",
  .glo "_law_feed",
  .glo "_law_take",
  .glo "_law_pick",
  .glo "_law_whole",
  .glo "_law_words",
  .glo "_law_rows",
  .glo "_law_gives",
  .glo "_law_library",
  .glo "_law_shelf",
  .glo "_law_fits",
  .glo "_law_due",
  .glo "_law_scope",
  .glo "_law_uses",
  .glo "_law_bent",
  .glo "meaning",
  .glo "is_meaning",
  .glo "law",
  .free "abs",
  .free "all",
  .free "bool",
  .free "enumerate",
  .free "int",
  .free "isinstance",
  .free "len",
  .free "list",
  .free "min",
  .free "range",
  .free "repr",
  .free "str",
  .free "tuple",
  .free "zip"]
abbrev R : PySem.W.OpenRow := PySem.W.OpenLaw.row PySem.Challenge.rw_latehall_k21_meanings_looked_at
abbrev hk : PySem.W.Hook := He.hookD 4 fas fns
def ob (s : PySem.W.SharedT) : He.AlD := He.obsDG 4 fas fns (HandSHeadRun.getT s)
theorem ob_eq (s : PySem.W.SharedT) : ob s = hk.obs s.abs := He.obsDG_eq (HandSHeadRun.getT_eq s)
def names : List PySem.Str := ["is_whole", "are_same", "fits", "meaning", "is_meaning", "first_meant", "_law_feed", "_law_take", "_law_pick", "_law_whole", "_law_words", "_law_rows", "_law_gives", "_law_library", "_law_shelf", "_law_fits", "_law_due", "_law_scope", "_law_uses", "_law_bent"]
theorem run (w : World) : HandSHeadRun.RunEq R (PySem.W.view R.prog [23]) hk ob 3000 names w := by
  intro os
  kernel_rfl
theorem facts {P : Program} {w : World} {K : PySem.W.Frag} {h : Heap} {mg : Str → Option Value} {f : Addr} (X : K.In h) (G : h.Ns mainGlobals mg) (hfa : mg ("law" : Str) = some (.ref f)) (c : He.SaysD fas fns K) :
    ∃ fd : FuncData, (∀ (s : Shared) (v : Value), BindsTo s fd ⟨[v], []⟩ [("script", v)]) ∧ ∀ base : Heap, K.In base → base.Ns mainGlobals mg → FnG P w K mg base 8 f fd ["script"] (spD K 1 m_law) := by
  obtain ⟨fd_is_whole, F_is_whole⟩ := c.def_ 0 (d := d_is_whole) rfl
  obtain ⟨fd_are_same, F_are_same⟩ := c.def_ 1 (d := d_are_same) rfl
  obtain ⟨fd_fits, F_fits⟩ := c.def_ 2 (d := d_fits) rfl
  obtain ⟨fd_first_meant, F_first_meant⟩ := c.def_ 3 (d := d_first_meant) rfl
  obtain ⟨fd__law_feed, F__law_feed⟩ := c.def_ 4 (d := d__law_feed) rfl
  obtain ⟨fd__law_take, F__law_take⟩ := c.def_ 5 (d := d__law_take) rfl
  obtain ⟨fd__law_pick, F__law_pick⟩ := c.def_ 6 (d := d__law_pick) rfl
  obtain ⟨fd__law_whole, F__law_whole⟩ := c.def_ 7 (d := d__law_whole) rfl
  obtain ⟨fd__law_words, F__law_words⟩ := c.def_ 8 (d := d__law_words) rfl
  obtain ⟨fd__law_rows, F__law_rows⟩ := c.def_ 9 (d := d__law_rows) rfl
  obtain ⟨fd__law_gives, F__law_gives⟩ := c.def_ 10 (d := d__law_gives) rfl
  obtain ⟨fd__law_library, F__law_library⟩ := c.def_ 11 (d := d__law_library) rfl
  obtain ⟨fd__law_shelf, F__law_shelf⟩ := c.def_ 12 (d := d__law_shelf) rfl
  obtain ⟨fd__law_fits, F__law_fits⟩ := c.def_ 13 (d := d__law_fits) rfl
  obtain ⟨fd__law_due, F__law_due⟩ := c.def_ 14 (d := d__law_due) rfl
  obtain ⟨fd__law_scope, F__law_scope⟩ := c.def_ 15 (d := d__law_scope) rfl
  obtain ⟨fd__law_uses, F__law_uses⟩ := c.def_ 16 (d := d__law_uses) rfl
  obtain ⟨fd__law_bent, F__law_bent⟩ := c.def_ 17 (d := d__law_bent) rfl
  obtain ⟨fd_meaning, F_meaning⟩ := c.def_ 18 (d := d_meaning) rfl
  obtain ⟨fd_is_meaning, F_is_meaning⟩ := c.def_ 19 (d := d_is_meaning) rfl
  obtain ⟨fd_law, F_law⟩ := c.def_ 20 (d := d_law) rfl
  have e := hfa.symm.trans (He.glo_ok X G (c.fact 20 (f := .glo "law") rfl))
  cases e
  have b := FunD.bindsA (ps := ["script"]) F_law fun _ _ _ _ _ _ us hl => match us, hl with | [_], _ => rfl
  refine ⟨fd_law, fun s v => b s [v] rfl, fun base _ _ => ?_⟩
  have n_abs : mg ("abs" : Str) = none := He.free_ok X G (c.fact 21 (f := .free "abs") rfl)
  have n_all : mg ("all" : Str) = none := He.free_ok X G (c.fact 22 (f := .free "all") rfl)
  have n_bool : mg ("bool" : Str) = none := He.free_ok X G (c.fact 23 (f := .free "bool") rfl)
  have n_enumerate : mg ("enumerate" : Str) = none := He.free_ok X G (c.fact 24 (f := .free "enumerate") rfl)
  have n_int : mg ("int" : Str) = none := He.free_ok X G (c.fact 25 (f := .free "int") rfl)
  have n_isinstance : mg ("isinstance" : Str) = none := He.free_ok X G (c.fact 26 (f := .free "isinstance") rfl)
  have n_len : mg ("len" : Str) = none := He.free_ok X G (c.fact 27 (f := .free "len") rfl)
  have n_list : mg ("list" : Str) = none := He.free_ok X G (c.fact 28 (f := .free "list") rfl)
  have n_min : mg ("min" : Str) = none := He.free_ok X G (c.fact 29 (f := .free "min") rfl)
  have n_range : mg ("range" : Str) = none := He.free_ok X G (c.fact 30 (f := .free "range") rfl)
  have n_repr : mg ("repr" : Str) = none := He.free_ok X G (c.fact 31 (f := .free "repr") rfl)
  have n_str : mg ("str" : Str) = none := He.free_ok X G (c.fact 32 (f := .free "str") rfl)
  have n_tuple : mg ("tuple" : Str) = none := He.free_ok X G (c.fact 33 (f := .free "tuple") rfl)
  have n_zip : mg ("zip" : Str) = none := He.free_ok X G (c.fact 34 (f := .free "zip") rfl)
  have C_is_whole : CalG P w K mg base "is_whole" 1 ["thing"] (spD K 1 m_is_whole) := ⟨⟨_, fd_is_whole, ok_is_whole (fun_of (st := s_is_whole) F_is_whole) n_bool n_int n_isinstance, He.glo_ok X G (c.fact 0 (f := .glo "is_whole") rfl), F_is_whole.kp, FunD.bindsN (ps := ["thing"]) F_is_whole fun _ _ _ _ _ _ us hl => match us, hl with | [_], _ => rfl⟩⟩
  have C_are_same_0 : CalG P w K mg base "are_same" 1 ["thing", "told"] (spD K 2 m_are_same_0) := ⟨⟨_, fd_are_same, ⟨fun vs H Q E h => (by obtain ⟨_, _, _, _, _, _, h, _⟩ := h; cases h), fun A outer s H args us vs Q E _ _ _ _ _ h => (by obtain ⟨_, _, _, _, _, _, h, _⟩ := h; cases h)⟩, He.glo_ok X G (c.fact 1 (f := .glo "are_same") rfl), F_are_same.kp, FunD.bindsN (ps := ["thing", "told"]) F_are_same fun _ _ _ _ _ _ us hl => match us, hl with | [_, _], _ => rfl⟩⟩
  have C_are_same_1 : CalG P w K mg base "are_same" 2 ["thing", "told"] (spD K 2 m_are_same_1) := ⟨⟨_, fd_are_same, ok_are_same_1 (fun_of (st := s_are_same) F_are_same) n_all n_isinstance n_len n_str n_tuple n_zip C_are_same_0 C_is_whole, He.glo_ok X G (c.fact 1 (f := .glo "are_same") rfl), F_are_same.kp, FunD.bindsN (ps := ["thing", "told"]) F_are_same fun _ _ _ _ _ _ us hl => match us, hl with | [_, _], _ => rfl⟩⟩
  have C_are_same_2 : CalG P w K mg base "are_same" 3 ["thing", "told"] (spD K 2 m_are_same_2) := ⟨⟨_, fd_are_same, ok_are_same_2 (fun_of (st := s_are_same) F_are_same) n_all n_isinstance n_len n_str n_tuple n_zip C_are_same_1 C_is_whole, He.glo_ok X G (c.fact 1 (f := .glo "are_same") rfl), F_are_same.kp, FunD.bindsN (ps := ["thing", "told"]) F_are_same fun _ _ _ _ _ _ us hl => match us, hl with | [_, _], _ => rfl⟩⟩
  have C_are_same_3 : CalG P w K mg base "are_same" 4 ["thing", "told"] (spD K 2 m_are_same_3) := ⟨⟨_, fd_are_same, ok_are_same_3 (fun_of (st := s_are_same) F_are_same) n_all n_isinstance n_len n_str n_tuple n_zip C_are_same_2 C_is_whole, He.glo_ok X G (c.fact 1 (f := .glo "are_same") rfl), F_are_same.kp, FunD.bindsN (ps := ["thing", "told"]) F_are_same fun _ _ _ _ _ _ us hl => match us, hl with | [_, _], _ => rfl⟩⟩
  have C_are_same_4 : CalG P w K mg base "are_same" 5 ["thing", "told"] (spD K 2 m_are_same_4) := ⟨⟨_, fd_are_same, ok_are_same_4 (fun_of (st := s_are_same) F_are_same) n_all n_isinstance n_len n_str n_tuple n_zip C_are_same_3 C_is_whole, He.glo_ok X G (c.fact 1 (f := .glo "are_same") rfl), F_are_same.kp, FunD.bindsN (ps := ["thing", "told"]) F_are_same fun _ _ _ _ _ _ us hl => match us, hl with | [_, _], _ => rfl⟩⟩
  have C_are_same : CalG P w K mg base "are_same" 6 ["thing", "told"] (spD K 2 m_are_same_5) := ⟨⟨_, fd_are_same, ok_are_same_5 (fun_of (st := s_are_same) F_are_same) n_all n_isinstance n_len n_str n_tuple n_zip C_are_same_4 C_is_whole, He.glo_ok X G (c.fact 1 (f := .glo "are_same") rfl), F_are_same.kp, FunD.bindsN (ps := ["thing", "told"]) F_are_same fun _ _ _ _ _ _ us hl => match us, hl with | [_, _], _ => rfl⟩⟩
  have C_fits : CalG P w K mg base "fits" 2 ["give", "use"] (spD K 2 m_fits) := ⟨⟨_, fd_fits, ok_fits (fun_of (st := s_fits) F_fits) C_is_whole, He.glo_ok X G (c.fact 2 (f := .glo "fits") rfl), F_fits.kp, FunD.bindsN (ps := ["give", "use"]) F_fits fun _ _ _ _ _ _ us hl => match us, hl with | [_, _], _ => rfl⟩⟩
  have C_first_meant : CalG P w K mg base "first_meant" 1 ["fitting", "faint"] (spD K 2 m_first_meant) := ⟨⟨_, fd_first_meant, ok_first_meant (fun_of (st := s_first_meant) F_first_meant) , He.glo_ok X G (c.fact 3 (f := .glo "first_meant") rfl), F_first_meant.kp, FunD.bindsN (ps := ["fitting", "faint"]) F_first_meant fun _ _ _ _ _ _ us hl => match us, hl with | [_, _], _ => rfl⟩⟩
  have C__law_feed : CalG P w K mg base "_law_feed" 1 ["script", "k"] (spN K 2 m__law_feed) := ⟨⟨_, fd__law_feed, ok__law_feed (fun_of (st := s__law_feed) F__law_feed) n_abs n_len, He.glo_ok X G (c.fact 4 (f := .glo "_law_feed") rfl), F__law_feed.kp, FunD.bindsN (ps := ["script", "k"]) F__law_feed fun _ _ _ _ _ _ us hl => match us, hl with | [_, _], _ => rfl⟩⟩
  have C__law_take : CalG P w K mg base "_law_take" 1 ["feed", "many"] (spR K 1 m__law_take) := ⟨⟨_, fd__law_take, ok__law_take (fun_of (st := s__law_take) F__law_take) , He.glo_ok X G (c.fact 5 (f := .glo "_law_take") rfl), F__law_take.kp, FunD.bindsN (ps := ["feed", "many"]) F__law_take fun _ _ _ _ _ _ us hl => match us, hl with | [_, _], _ => rfl⟩⟩
  have C__law_pick : CalG P w K mg base "_law_pick" 2 ["feed", "some"] (spR K 1 m__law_pick) := ⟨⟨_, fd__law_pick, ok__law_pick (fun_of (st := s__law_pick) F__law_pick) n_len C__law_take, He.glo_ok X G (c.fact 6 (f := .glo "_law_pick") rfl), F__law_pick.kp, FunD.bindsN (ps := ["feed", "some"]) F__law_pick fun _ _ _ _ _ _ us hl => match us, hl with | [_, _], _ => rfl⟩⟩
  have C__law_whole : CalG P w K mg base "_law_whole" 1 ["found"] (spD K 1 m__law_whole) := ⟨⟨_, fd__law_whole, ok__law_whole (fun_of (st := s__law_whole) F__law_whole) n_bool n_int n_isinstance, He.glo_ok X G (c.fact 7 (f := .glo "_law_whole") rfl), F__law_whole.kp, FunD.bindsN (ps := ["found"]) F__law_whole fun _ _ _ _ _ _ us hl => match us, hl with | [_], _ => rfl⟩⟩
  have C__law_words : CalG P w K mg base "_law_words" 2 ["feed"] (spR K 0 m__law_words) := ⟨⟨_, fd__law_words, ok__law_words (fun_of (st := s__law_words) F__law_words) n_range C__law_take, He.glo_ok X G (c.fact 8 (f := .glo "_law_words") rfl), F__law_words.kp, FunD.bindsN (ps := ["feed"]) F__law_words fun _ _ _ _ _ _ us hl => match us, hl with | [_], _ => rfl⟩⟩
  have C__law_rows : CalG P w K mg base "_law_rows" 3 ["feed", "names", "words", "uses"] (spR K 3 m__law_rows) := ⟨⟨_, fd__law_rows, ok__law_rows (fun_of (st := s__law_rows) F__law_rows) n_len n_range n_tuple C__law_pick C__law_take, He.glo_ok X G (c.fact 9 (f := .glo "_law_rows") rfl), F__law_rows.kp, FunD.bindsN (ps := ["feed", "names", "words", "uses"]) F__law_rows fun _ _ _ _ _ _ us hl => match us, hl with | [_, _, _, _], _ => rfl⟩⟩
  have C__law_gives : CalG P w K mg base "_law_gives" 4 ["feed", "names", "words", "versions", "uses"] (spR K 4 m__law_gives) := ⟨⟨_, fd__law_gives, ok__law_gives (fun_of (st := s__law_gives) F__law_gives) n_len n_range n_tuple C__law_pick C__law_rows C__law_take, He.glo_ok X G (c.fact 10 (f := .glo "_law_gives") rfl), F__law_gives.kp, FunD.bindsN (ps := ["feed", "names", "words", "versions", "uses"]) F__law_gives fun _ _ _ _ _ _ us hl => match us, hl with | [_, _, _, _, _], _ => rfl⟩⟩
  have C__law_library : CalG P w K mg base "_law_library" 5 ["feed", "names", "at", "words", "versions", "given"] (spR K 5 m__law_library) := ⟨⟨_, fd__law_library, ok__law_library (fun_of (st := s__law_library) F__law_library) n_enumerate n_int n_len n_min n_range n_tuple C__law_gives C__law_pick C__law_rows C__law_take, He.glo_ok X G (c.fact 11 (f := .glo "_law_library") rfl), F__law_library.kp, FunD.bindsN (ps := ["feed", "names", "at", "words", "versions", "given"]) F__law_library fun _ _ _ _ _ _ us hl => match us, hl with | [_, _, _, _, _, _], _ => rfl⟩⟩
  have C__law_shelf : CalG P w K mg base "_law_shelf" 6 ["feed", "most"] (spR K 1 m__law_shelf) := ⟨⟨_, fd__law_shelf, ok__law_shelf (fun_of (st := s__law_shelf) F__law_shelf) n_range n_tuple C__law_library C__law_pick C__law_take C__law_whole C__law_words, He.glo_ok X G (c.fact 12 (f := .glo "_law_shelf") rfl), F__law_shelf.kp, FunD.bindsN (ps := ["feed", "most"]) F__law_shelf fun _ _ _ _ _ _ us hl => match us, hl with | [_, _], _ => rfl⟩⟩
  have C__law_fits : CalG P w K mg base "_law_fits" 2 ["give", "use"] (spD K 2 m__law_fits) := ⟨⟨_, fd__law_fits, ok__law_fits (fun_of (st := s__law_fits) F__law_fits) C__law_whole, He.glo_ok X G (c.fact 13 (f := .glo "_law_fits") rfl), F__law_fits.kp, FunD.bindsN (ps := ["give", "use"]) F__law_fits fun _ _ _ _ _ _ us hl => match us, hl with | [_, _], _ => rfl⟩⟩
  have C__law_due : CalG P w K mg base "_law_due" 3 ["scope", "use", "weak"] (spD K 3 m__law_due) := ⟨⟨_, fd__law_due, ok__law_due (fun_of (st := s__law_due) F__law_due) n_enumerate C__law_fits, He.glo_ok X G (c.fact 14 (f := .glo "_law_due") rfl), F__law_due.kp, FunD.bindsN (ps := ["scope", "use", "weak"]) F__law_due fun _ _ _ _ _ _ us hl => match us, hl with | [_, _, _], _ => rfl⟩⟩
  have C__law_scope : CalG P w K mg base "_law_scope" 3 ["feed", "shelf"] (spR K 1 m__law_scope) := ⟨⟨_, fd__law_scope, ok__law_scope (fun_of (st := s__law_scope) F__law_scope) n_range C__law_pick C__law_take, He.glo_ok X G (c.fact 15 (f := .glo "_law_scope") rfl), F__law_scope.kp, FunD.bindsN (ps := ["feed", "shelf"]) F__law_scope fun _ _ _ _ _ _ us hl => match us, hl with | [_, _], _ => rfl⟩⟩
  have C__law_uses : CalG P w K mg base "_law_uses" 3 ["feed", "shelf"] (spR K 1 m__law_uses) := ⟨⟨_, fd__law_uses, ok__law_uses (fun_of (st := s__law_uses) F__law_uses) n_int n_list n_range C__law_pick C__law_take C__law_whole, He.glo_ok X G (c.fact 16 (f := .glo "_law_uses") rfl), F__law_uses.kp, FunD.bindsN (ps := ["feed", "shelf"]) F__law_uses fun _ _ _ _ _ _ us hl => match us, hl with | [_, _], _ => rfl⟩⟩
  have C__law_bent : CalG P w K mg base "_law_bent" 3 ["feed", "scope", "use", "due"] (spR K 3 m__law_bent) := ⟨⟨_, fd__law_bent, ok__law_bent (fun_of (st := s__law_bent) F__law_bent) n_enumerate n_len n_list n_str C__law_fits C__law_pick C__law_take, He.glo_ok X G (c.fact 17 (f := .glo "_law_bent") rfl), F__law_bent.kp, FunD.bindsN (ps := ["feed", "scope", "use", "due"]) F__law_bent fun _ _ _ _ _ _ us hl => match us, hl with | [_, _, _, _], _ => rfl⟩⟩
  have CK_meaning : CalK P w K mg base "meaning" 3 ["scope", "use", "faint"] 2 ["faint"] (spD K 3 m_meaning) := ⟨⟨_, fd_meaning, _, _, ok_meaning (fun_of (st := s_meaning) F_meaning) n_enumerate C_first_meant C_fits, He.glo_ok X G (c.fact 18 (f := .glo "meaning") rfl), F_meaning.kp, kbn_all (ps := ["scope", "use", "faint"]) F_meaning 2 ["faint"] (fun _ _ _ _ _ _ us ws h1 h2 => match us, ws, h1, h2 with | [_, _], [_], _, _ => rfl), fun _ _ => rfl⟩⟩
  obtain ⟨ds_is_meaning, v_is_meaning, b_is_meaning⟩ := FunD.binds0 (ps := ["scope", "use", "thing", "faint"]) F_is_meaning 3 (List.cons_ne_nil _ _) (by rfl) (fun D doc pm an cdv ct us ks h1 h2 => match us, ks, h1, h2 with | [_, _, _], [_], _, _ => ⟨_, _, _, _, _, _, rfl, rfl, rfl⟩)
  have CD_is_meaning : CalD P w K mg base "is_meaning" 7 ["scope", "use", "thing", "faint"] [(.bool false)] (spD K 4 m_is_meaning) := ⟨⟨_, fd_is_meaning, _, ds_is_meaning, ok_is_meaning (fun_of (st := s_is_meaning) F_is_meaning) C_are_same CK_meaning, He.glo_ok X G (c.fact 19 (f := .glo "is_meaning") rfl), F_is_meaning.kp, b_is_meaning, v_is_meaning, fun F => .cons (.vb _) (.nil)⟩⟩
  have CK_is_meaning : CalK P w K mg base "is_meaning" 7 ["scope", "use", "thing", "faint"] 3 ["faint"] (spD K 4 m_is_meaning) := ⟨⟨_, fd_is_meaning, _, _, ok_is_meaning (fun_of (st := s_is_meaning) F_is_meaning) C_are_same CK_meaning, He.glo_ok X G (c.fact 19 (f := .glo "is_meaning") rfl), F_is_meaning.kp, kbn_all (ps := ["scope", "use", "thing", "faint"]) F_is_meaning 3 ["faint"] (fun _ _ _ _ _ _ us ws h1 h2 => match us, ws, h1, h2 with | [_, _, _], [_], _, _ => rfl), fun _ _ => rfl⟩⟩
  exact ok_law (fun_of (st := s_law) F_law) n_bool n_isinstance n_range n_repr C__law_bent C__law_due C__law_feed C__law_scope C__law_shelf C__law_take C__law_uses CD_is_meaning CK_is_meaning
end K21
open PySem PySem.W PySem.Calls PyProof.Rows
theorem K21.holds_of (hg : ∀ ns : List Int, ns.length ≤ 63 → (∀ z ∈ ns, Builtin.Int.intBits z ≤ 1048576) → K21.m_law [.list (ns.map .int)] = some (.bool true)) : PySem.Challenge.rw_latehall_k21_meanings_looked_at.Holds := by
  w_on; o_law
  refine HandSHeadRun.head_any (r := OpenLaw.row PySem.Challenge.rw_latehall_k21_meanings_looked_at) (q := view (OpenLaw.row PySem.Challenge.rw_latehall_k21_meanings_looked_at).prog [23]) (H := K21.hk) (ob := K21.ob) (M := 3000) (loose := K21.names) (d := HandSHeadRun.topDef (OpenLaw.row PySem.Challenge.rw_latehall_k21_meanings_looked_at).prog 23) (kwd := []) K21.ob_eq
    (by kernel_rfl) (fun s => by kernel_rfl) K21.run (by kernel_rfl) (by kernel_rfl) (by kernel_rfl) (by rfl) (by first | assumption | decide +kernel) (by decide +kernel) ⟨rfl, rfl, rfl, rfl, rfl, by decide +kernel⟩ ?hw ?hc
  case hw => w_witness2
  case hc =>
    refine TL.walk_treeG (l := PySem.Challenge.rw_latehall_k21_meanings_looked_at) (n := 63) (k := 8) (x := "script") rfl (by decide) (by kernel_rfl) ⟨rfl, by decide, by decide⟩ ?F hg
    intro w mg fa h Y G hmg0
    obtain ⟨K, KX, c⟩ := Y
    have hmg : mg ("law" : PySem.Str) = some (.ref fa) := by
      have e : (HandSHeadRun.topDef (OpenLaw.row PySem.Challenge.rw_latehall_k21_meanings_looked_at).prog 23).name = ("law" : PySem.Str) := by kernel_rfl
      rw [← e]
      exact hmg0
    obtain ⟨fd, hb, hF⟩ := K21.facts (P := (PySem.Challenge.rw_latehall_k21_meanings_looked_at).prog) (w := w) KX G hmg c
    exact ⟨K, fd, KX, hb, hF⟩

end
/-! P21a -/
section
set_option maxHeartbeats 400000
namespace K21
open PySem L2 TL

def takeV (f : Int × Int) (n : Int) : Int := if 0 < f.1 then f.1 % n else (f.2 * 48271 + 12345) % (2305843009213693951 : Int) / 2097152 % n
def takeF (f : Int × Int) (n : Int) : Int × Int := if 0 < f.1 then (f.1 / n, f.2) else (f.1, (f.2 * 48271 + 12345) % (2305843009213693951 : Int))
def fd (f : Int × Int) : PyData := .list [.int f.1, .int f.2]
theorem take_w {f : Int × Int} {n : Int} {Q : PyData × PyData → Prop} (h0 : 0 ≤ f.2) (h1 : f.2 < (2305843009213693951 : Int)) (hn : 0 < n) (hl : n.natAbs.log2 < 9000) (h : Q (.int (takeV f n), fd (takeF f n))) : W (m__law_take (fd f) [.int n]) Q := by
  obtain ⟨a, b⟩ := f
  simp only at h0 h1
  unfold m__law_take b__law_take fd
  unfold takeV takeF fd at h
  simp only at h
  walk_at "tlev"
  (refine w_if ?_; walk_at "tlev"; (refine And.intro (fun ha => ?_) (fun ha => ?_) <;> first | (simp only [reduceCtorEq, Bool.true_eq_false, Bool.false_eq_true, Bool.not_true, Bool.not_false] at ha; done) | (simp only [decide_eq_true_eq, decide_eq_false_iff_not, Int.not_lt, Int.not_le, Bool.not_eq_true', Bool.not_eq_false', Bool.not_eq_true, Bool.not_eq_false, Bool.not_true, Bool.not_false] at ha) | skip))
  · rw [if_pos ha, if_pos ha] at h
    walk_at "tlev"
    exact h
  · rw [if_neg (by omega), if_neg (by omega)] at h
    walk_at "tlev"
    exact h
theorem takeF_ok {f : Int × Int} {n : Int} (h0 : 0 ≤ f.2) (h1 : f.2 < (2305843009213693951 : Int)) : 0 ≤ (takeF f n).2 ∧ (takeF f n).2 < (2305843009213693951 : Int) := by
  unfold takeF
  by_cases h : 0 < f.1
  · rw [if_pos h]; exact ⟨h0, h1⟩
  · rw [if_neg h]; exact ⟨Int.emod_nonneg _ (by decide), Int.emod_lt_of_pos _ (by decide)⟩
theorem takeV_ok {f : Int × Int} {n : Int} (hn : 0 < n) : 0 ≤ takeV f n ∧ takeV f n < n := by
  unfold takeV
  by_cases h : 0 < f.1
  · rw [if_pos h]; exact ⟨Int.emod_nonneg _ (by omega), Int.emod_lt_of_pos _ hn⟩
  · rw [if_neg h]; exact ⟨Int.emod_nonneg _ (by omega), Int.emod_lt_of_pos _ hn⟩
/-- a draw: what is drawn and the feed behind it -/
theorem take_any {f : Int × Int} {n : Int} {Q : PyData × PyData → Prop} (hf : 0 ≤ f.2 ∧ f.2 < (2305843009213693951 : Int)) (hn : 0 < n) (hl : n.natAbs.log2 < 9000) (h : ∀ (v : Int) (f' : Int × Int), 0 ≤ v → v < n → 0 ≤ f'.2 ∧ f'.2 < (2305843009213693951 : Int) → Q (.int v, fd f')) : W (m__law_take (fd f) [.int n]) Q :=
  take_w hf.1 hf.2 hn hl (h _ _ (takeV_ok hn).1 (takeV_ok hn).2 (takeF_ok hf.1 hf.2))
theorem feed_any {ns : List Int} {k : Int} (hb : ∀ z ∈ ns, Builtin.Int.intBits z ≤ 1048576) (h0 : 0 ≤ k) (h1 : k < 1000000) {Q : PyData → Prop} (h : ∀ f : Int × Int, 0 ≤ f.2 ∧ f.2 < (2305843009213693951 : Int) → Q (fd f)) : W (m__law_feed [.list (ns.map .int), .int k]) Q := by
  unfold m__law_feed b__law_feed
  walk_at "tlev"
  refine W.mono (P := fun o => ∃ x : Int, Builtin.Int.intBits x ≤ 1048576 ∧ o = Out.nx [.fz (.list (ns.map .int)), .fz (.int k), .fz (.int x), .un] []) ?_ ?_
  · (refine w_if ?_; walk_at "tlev"; (refine And.intro (fun hk => ?_) (fun hk => ?_) <;> first | (simp only [reduceCtorEq, Bool.true_eq_false, Bool.false_eq_true, Bool.not_true, Bool.not_false] at hk; done) | (simp only [decide_eq_true_eq, decide_eq_false_iff_not, Int.not_lt, Int.not_le, Bool.not_eq_true', Bool.not_eq_false', Bool.not_eq_true, Bool.not_eq_false, Bool.not_true, Bool.not_false] at hk) | skip))
    · rw [List.length_map] at hk
      walk_at "tlev"
      refine w_at (atI_in h0 (by rw [List.length_map]; exact hk)) ?_
      rw [List.getElem_map]
      walk_at "tlev"
      exact ⟨_, hb _ (List.getElem_mem _), rfl⟩
    · walk_at "tlev"
      exact ⟨_, Nat.le_trans (bits64 (by omega) (by omega)) (by decide), rfl⟩
  · rintro o ⟨x, hx, rfl⟩
    walk_at "tlev"
    refine W.mono (P := fun o => ∃ y : Int, o = Out.nx [.fz (.list (ns.map .int)), .fz (.int k), .fz (.int x), .fz (.int y)] []) ?_ ?_
    · refine w_if ?_
      walk_at "tlev"
      refine w_pow_i (by decide +kernel) ?_
      walk_at "tlev"
      (refine And.intro (fun hk => ?_) (fun hk => ?_) <;> first | (simp only [reduceCtorEq, Bool.true_eq_false, Bool.false_eq_true, Bool.not_true, Bool.not_false] at hk; done) | (simp only [decide_eq_true_eq, decide_eq_false_iff_not, Int.not_lt, Int.not_le, Bool.not_eq_true', Bool.not_eq_false', Bool.not_eq_true, Bool.not_eq_false, Bool.not_true, Bool.not_false] at hk) | skip)
      · walk_at "tlev"
        refine w_pow_i (by decide +kernel) ?_
        walk_at "tlev"
        exact ⟨_, rfl⟩
      · walk_at "tlev"
        exact ⟨_, rfl⟩
    · rintro o ⟨y, rfl⟩
      walk_at "tlev"
      have hz := mul_fit (i := x) (j := 6364136223846793005) (Nat.le_trans hx (by decide)) (Nat.le_trans (bits64 (by omega) (by omega)) (by decide))
      with_reducible refine w_mul_i hz ?_
      walk_at "tlev"
      exact ⟨by decide, h (_, _) ⟨Int.emod_nonneg _ (by decide), Int.emod_lt_of_pos _ (by decide)⟩⟩
theorem pick_any {f : Int × Int} {ds : List PyData} {Q : PyData × PyData → Prop} (hf : 0 ≤ f.2 ∧ f.2 < (2305843009213693951 : Int)) (h0 : 0 < ds.length) (h1 : ds.length < 1000000) (h : ∀ (d : PyData) (f' : Int × Int), d ∈ ds → 0 ≤ f'.2 ∧ f'.2 < (2305843009213693951 : Int) → Q (d, fd f')) : W (m__law_pick (fd f) [.list ds]) Q := by
  unfold m__law_pick b__law_pick
  walk_at "tlev"
  refine ⟨_, rfl, trivial, ?_⟩
  refine take_any hf (by omega) (log_fit (by omega) (by omega)).2 fun v f' v0 v1 hf' => ?_
  walk_at "tlev"
  refine w_at (atI_in v0 v1) ?_
  walk_at "tlev"
  exact h _ f' (List.getElem_mem _) hf'
theorem whole_int {i : Int} {Q : PyData → Prop} (h : Q (.bool true)) : W (m__law_whole [.int i]) Q := by
  unfold m__law_whole b__law_whole
  walk_at "tlev"
  refine W.of (show isiD "int" (.int i) = some (.bool true) from rfl) ?_
  refine ⟨true, rfl, fun _ => ?_, fun z => (by cases z)⟩
  walk_at "tlev"
  refine W.of (show isiD "bool" (.int i) = some (.bool false) from rfl) ?_
  walk_at "tlev"
  exact h
end K21

end
/-! P21b -/
section
set_option maxHeartbeats 400000
namespace K21
open PySem L2 TL

abbrev LET : Str := "abcdefghijklmnopqrstuvwxyz"
def FO (f : Int × Int) : Prop := 0 ≤ f.2 ∧ f.2 < (2305843009213693951 : Int)
theorem let_at {i : Int} (h0 : 0 ≤ i) (h1 : i < 26) {Q : PyData → Prop} (h : ∀ c : Nat, c < 128 → Q (.str ⟨#[c]⟩)) : W (ixD (.str LET) (.int i)) Q := by
  have hl : LET.cps.toList.length = 26 := by decide +kernel
  have ha : ∀ c ∈ LET.cps.toList, c < 128 := by decide +kernel
  refine w_ix_s (by decide +kernel) (w_at (atI_in h0 (by rw [hl]; exact h1)) (h _ (ha _ (List.getElem_mem _))))
theorem range_at {lo : Int} {n i : Nat} {d : PyData} (h : (rangeD lo n)[i]? = some d) : i < n ∧ d = .int (lo + (i : Nat)) := by
  unfold rangeD at h
  rw [List.getElem?_map] at h
  by_cases hi : i < n
  · rw [List.getElem?_range hi] at h
    exact ⟨hi, (Option.some.inj h).symm⟩
  · rw [List.getElem?_eq_none (by rw [List.length_range]; omega)] at h
    cases h
/-- the word of a list of texts that grows -/
def Ts (k : Nat) (i : Nat) (acc : List PyData) : Prop := ∃ ss : List Str, acc = ss.map .str ∧ ss.length = i ∧ ∀ s ∈ ss, Lw k s
theorem Ts.nil {k : Nat} : Ts k 0 [] := ⟨[], rfl, rfl, fun s hs => by cases hs⟩
theorem Ts.snoc {k i : Nat} {acc : List PyData} {s : Str} (h : Ts k i acc) (hs : Lw k s) : Ts k (i + 1) (acc ++ [.str s]) := by
  obtain ⟨ss, rfl, rfl, h⟩ := h
  refine ⟨ss ++ [s], by rw [List.map_append]; rfl, by rw [List.length_append]; rfl, fun x hx => ?_⟩
  rcases List.mem_append.mp hx with q | q
  · exact h x q
  · rw [List.mem_singleton.mp q]; exact hs
theorem Ts.len {k i : Nat} {acc : List PyData} (h : Ts k i acc) : acc.length = i := by
  obtain ⟨ss, rfl, rfl, h⟩ := h
  rw [List.length_map]
theorem range_len (lo : Int) (n : Nat) : (rangeD lo n).length = n := by unfold rangeD; simp
theorem words_any {f : Int × Int} {Q : PyData × PyData → Prop} (hf : FO f) (h : ∀ (ls ws vs : List Str) (f' : Int × Int), ls.length = 8 → ws.length = 5 → vs.length = 2 → (∀ s ∈ ls, Lw 8 s) → (∀ s ∈ ws, Lw 8 s) → (∀ s ∈ vs, Lw 8 s) → FO f' → Q (.tuple [.list (ls.map .str), .list (ws.map .str), .list (vs.map .str)], fd f')) : W (m__law_words (fd f) []) Q := by
  unfold m__law_words b__law_words
  walk_at "tlew"
  refine take_any hf (by decide) (by decide +kernel) fun first f1 a0 a1 hf1 => ?_
  walk_at "tlew"
  refine take_any hf1 (by decide) (by decide +kernel) fun v f2 b0 b1 hf2 => ?_
  walk_at "tlew"
  refine let_at b0 b1 fun c hc => ?_
  walk_at "tlew"
  refine take_any hf2 (by decide) (by decide +kernel) fun v2 f3 c0 c1 hf3 => ?_
  walk_at "tlew"
  refine w_mul_s (show 1 ≤ 4096 by decide) c0 (by omega) ?_
  have lb := ((Lw.one hc).mul v2).mono (show 1 * v2.toNat ≤ 7 by omega)
  generalize Txt.mul _ v2 = body at lb
  walk_at "tlew"
  refine w_lcI (fun ds i acc m => Ts 8 i acc ∧ m = [some (fd f3)]) ?_
  walk_at "tlew"
  refine ⟨_, rfl, by omega, ⟨Ts.nil, by trivial⟩, ?_, ?_⟩
  · rintro i d m acc hd ⟨ht, rfl⟩
    obtain ⟨hi, rfl⟩ := range_at hd
    have hi : i < 8 := hi
    walk_at "tlew"
    simp only [wipeR]
    walk_at "tlew"
    refine ⟨fun _ => ?_, fun z => by cases z⟩
    walk_at "tlew"
    refine let_at (Int.emod_nonneg _ (by decide)) (Int.emod_lt_of_pos _ (by decide)) fun c hc => ?_
    walk_at "tlew"
    refine w_add_s (Nat.le_trans (Nat.add_le_add (Lw.one hc).len lb.len) (le_line (by decide))) ?_
    walk_at "tlew"
    exact ⟨lt_line (by rw [ht.len]; omega), ht.snoc ((Lw.one hc).app lb), by trivial⟩
  · rintro acc m ⟨⟨ls, rfl, hls, pls⟩, rfl⟩
    have hls : ls.length = 8 := hls.trans (range_len _ _)
    walk_at "tlew"
    refine take_any hf3 (by decide) (by decide +kernel) fun v3 f4 d0 d1 hf4 => ?_
    walk_at "tlew"
    refine let_at d0 d1 fun c2 hc2 => ?_
    walk_at "tlew"
    refine take_any hf4 (by decide) (by decide +kernel) fun v4 f5 e0 e1 hf5 => ?_
    walk_at "tlew"
    refine w_mul_s (show 1 ≤ 4096 by decide) e0 (by omega) ?_
    have lo := ((Lw.one hc2).mul v4).mono (show 1 * v4.toNat ≤ 5 by omega)
    generalize Txt.mul _ v4 = other at lo
    walk_at "tlew"
    refine w_lcI (fun ds i acc m => Ts 8 i acc ∧ m = [some (fd f5)]) ?_
    walk_at "tlew"
    refine ⟨_, rfl, by omega, ⟨Ts.nil, by trivial⟩, ?_, ?_⟩
    · rintro i d m acc hd ⟨ht, rfl⟩
      obtain ⟨hi, rfl⟩ := range_at hd
      have hi : i < 5 := hi
      walk_at "tlew"
      simp only [wipeR]
      walk_at "tlew"
      refine ⟨fun _ => ?_, fun z => by cases z⟩
      walk_at "tlew"
      refine let_at (Int.emod_nonneg _ (by decide)) (Int.emod_lt_of_pos _ (by decide)) fun c hc => ?_
      walk_at "tlew"
      refine w_add_s (Nat.le_trans (Nat.add_le_add lo.len (Lw.one hc).len) (le_line (by decide))) ?_
      walk_at "tlew"
      exact ⟨lt_line (by rw [ht.len]; omega), ht.snoc ((lo.app (Lw.one hc)).mono (by decide)), by trivial⟩
    · rintro acc m ⟨⟨ws, rfl, hws, pws⟩, rfl⟩
      have hws : ws.length = 5 := hws.trans (range_len _ _)
      walk_at "tlew"
      refine w_lcI (fun ds i acc m => Ts 8 i acc ∧ ∃ f6, FO f6 ∧ m = [some (fd f6)]) ?_
      walk_at "tlew"
      refine ⟨_, rfl, by omega, ⟨Ts.nil, f5, hf5, by trivial⟩, ?_, ?_⟩
      · rintro i d m acc hd ⟨ht, f6, hf6, rfl⟩
        obtain ⟨hi, rfl⟩ := range_at hd
        have hi : i < 2 := hi
        walk_at "tlew"
        simp only [wipeR]
        walk_at "tlew"
        refine ⟨fun _ => ?_, fun z => by cases z⟩
        walk_at "tlew"
        refine let_at (Int.emod_nonneg _ (by decide)) (Int.emod_lt_of_pos _ (by decide)) fun c hc => ?_
        walk_at "tlew"
        refine take_any hf6 (by decide) (by decide +kernel) fun v7 f7 g0 g1 hf7 => ?_
        walk_at "tlew"
        refine w_mul_s (show 1 ≤ 4096 by decide) (by omega) (by omega) ?_
        have lv := ((Lw.one hc).mul (1 + v7)).mono (show 1 * (1 + v7).toNat ≤ 8 by omega)
        walk_at "tlew"
        exact ⟨lt_line (by rw [ht.len]; omega), ht.snoc lv, f7, hf7, by trivial⟩
      · rintro acc m ⟨⟨vs, rfl, hvs, pvs⟩, f6, hf6, rfl⟩
        have hvs : vs.length = 2 := hvs.trans (range_len _ _)
        walk_at "tlew"
        exact h ls ws vs f6 hls hws hvs pls pws pvs hf6
end K21

end
/-! P21c -/
section
set_option maxHeartbeats 400000
namespace K21
open PySem L2 TL

structure Us where
  w : Str
  v : Str
  c : Bool
  b : Bool
abbrev Us.d (u : Us) : PyData := .tuple [.str u.w, .str u.v, .bool u.c, .bool u.b]
def Us.ok (u : Us) : Prop := Lw 8 u.w ∧ Lw 8 u.v
def Rw (d : PyData) : Prop := ∃ ps, d = .tuple ps ∧ ps.length ≤ 3 ∧ ∀ p ∈ ps, Sh 41 0 p
theorem Rw.two {a b : PyData} (ha : Sh 41 0 a) (hb : Sh 41 0 b) : Rw (.tuple [a, b]) := ⟨_, rfl, (by simp only [List.length_cons, List.length_nil]; decide), fun p hp => by
  rcases List.mem_cons.mp hp with q | q
  · rw [q]; exact ha
  · rw [List.mem_singleton.mp q]; exact hb⟩
theorem Rw.three {a b c : PyData} (ha : Sh 41 0 a) (hb : Sh 41 0 b) (hc : Sh 41 0 c) : Rw (.tuple [a, b, c]) := ⟨_, rfl, (by simp only [List.length_cons, List.length_nil]; decide), fun p hp => by
  rcases List.mem_cons.mp hp with q | q
  · rw [q]; exact ha
  · rcases List.mem_cons.mp q with q | q
    · rw [q]; exact hb
    · rw [List.mem_singleton.mp q]; exact hc⟩
theorem Rw.sh {d : PyData} (h : Rw d) : Sh 126 1 d := by
  obtain ⟨ps, rfl, h1, h2⟩ := h
  exact (Sh.tup h2 h1).mono (by decide) (by decide)
theorem sh_nm {n : Nat} {s : Str} (h : Lw n s) (l : n ≤ 41) : Sh 41 0 (.str s) := (Sh.str h).mono l (Nat.le_refl 0)
theorem sh_i {i : Int} (h0 : -1000 < i) (h1 : i < 1000) : Sh 41 0 (.int i) := Sh.int (by omega) (by omega)
/-- small numbers -/
def Sm (d : PyData) : Prop := ∃ i : Int, d = .int i ∧ 0 ≤ i ∧ i < 1000
theorem Sm.sh {d : PyData} (h : Sm d) : Sh 41 0 d := by
  obtain ⟨i, rfl, h0, h1⟩ := h
  exact sh_i (by omega) h1
theorem shaped_ds {ds : List PyData} {w k : Nat} (h : ∀ d ∈ ds, Sh w k d) (hk : k ≤ 60) : SeqAt.shaped (.list ds) = true := (Sh.lst h (Nat.le_refl _)).shaped (by omega)
theorem snoc_all {P : PyData → Prop} {acc : List PyData} {x : PyData} (h : ∀ d ∈ acc, P d) (hx : P x) : ∀ d ∈ acc ++ [x], P d := fun d hd => by
  rcases List.mem_append.mp hd with q | q
  · exact h d q
  · rw [List.mem_singleton.mp q]; exact hx
theorem isE {α : Type} {l : List α} (h : (!l.isEmpty) = true) : 0 < l.length := by cases l <;> simp at h ⊢
theorem small4 {d : PyData} (h : d ∈ [PyData.int 0, .int 1, .int 2, .int 4]) : ∃ j : Int, d = .int j ∧ 0 ≤ j ∧ j ≤ 4 := by
  simp only [List.mem_cons, List.not_mem_nil, or_false] at h
  rcases h with h | h | h | h <;> exact ⟨_, h, by decide, by decide⟩
theorem rows_any {f : Int × Int} {ns ws : List Str} {us : List Us} {Q : PyData × PyData → Prop} (hf : FO f) (hn : 0 < ns.length ∧ ns.length < 1000) (hw : 0 < ws.length ∧ ws.length < 1000) (hu : us.length < 1000) (pn : ∀ s ∈ ns, Lw 8 s) (pw : ∀ s ∈ ws, Lw 8 s)
    (h : ∀ (rs : List PyData) (f' : Int × Int), FO f' → rs.length ≤ 4 → (∀ r ∈ rs, Rw r) → Q (.tuple rs, fd f')) : W (m__law_rows (fd f) [.list (ns.map .str), .list (ws.map .str), .list (us.map Us.d)]) Q := by
  unfold m__law_rows b__law_rows
  walk_at "tlew"
  refine w_lcI (fun ds i acc m => acc.length ≤ i ∧ (∀ d ∈ acc, Sm d) ∧ m = [some (fd f), some (.list [])]) ?_
  walk_at "tlew"
  rw [List.length_map]
  refine ⟨_, rfl, by omega, ⟨Nat.le_refl 0, fun d hd => (by cases hd), by trivial⟩, ?_, ?_⟩
  · rintro i d m acc hd ⟨hl, ha, rfl⟩
    obtain ⟨hi, rfl⟩ := range_at hd
    have hi : i < us.length := by rw [Int.toNat_natCast] at hi; exact hi
    walk_at "tlew"
    simp only [wipeR]
    walk_at "tlew"
    refine w_at (atI_in (by omega) (by rw [List.length_map]; omega)) ?_
    rw [List.getElem_map]
    walk_at "tlew"
    refine ⟨fun _ => ?_, fun _ => ⟨Nat.le_succ_of_le hl, ha, by trivial⟩⟩
    walk_at "tlew"
    exact ⟨lt_line (by omega), by rw [List.length_append]; exact Nat.succ_le_succ hl, snoc_all ha ⟨_, rfl, by omega, by omega⟩, by trivial⟩
  · rintro cells m ⟨hcl, hcs, rfl⟩
    rw [range_len, Int.toNat_natCast] at hcl
    walk_at "tlew"
    refine w_lcI (fun ds i acc m => acc.length ≤ i ∧ (∀ d ∈ acc, Sm d) ∧ m = [some (fd f), some (.list [])]) ?_
    walk_at "tlew"
    rw [List.length_map]
    refine ⟨_, rfl, by omega, ⟨Nat.le_refl 0, fun d hd => (by cases hd), by trivial⟩, ?_, ?_⟩
    · rintro i d m acc hd ⟨hl, ha, rfl⟩
      obtain ⟨hi, rfl⟩ := range_at hd
      have hi : i < us.length := by rw [Int.toNat_natCast] at hi; exact hi
      walk_at "tlew"
      simp only [wipeR]
      walk_at "tlew"
      refine w_at (atI_in (by omega) (by rw [List.length_map]; omega)) ?_
      rw [List.getElem_map]
      walk_at "tlew"
      refine ⟨fun _ => ?_, fun _ => ⟨Nat.le_succ_of_le hl, ha, by trivial⟩⟩
      walk_at "tlew"
      exact ⟨lt_line (by omega), by rw [List.length_append]; exact Nat.succ_le_succ hl, snoc_all ha ⟨_, rfl, by omega, by omega⟩, by trivial⟩
    · rintro deeds m ⟨hdl, hds, rfl⟩
      rw [range_len, Int.toNat_natCast] at hdl
      walk_at "tlew"
      refine w_for (fun ds i r m => ∃ (f1 : Int × Int) (rs : List PyData) (e7 e8 e9 e10 e11 e12 : Sl), FO f1 ∧ ds.length ≤ 4 ∧ rs.length ≤ i ∧ (∀ r ∈ rs, Rw r) ∧ r = [.ow 0, .fz (.list (ns.map .str)), .fz (.list (ws.map .str)), .fz (.list (us.map Us.d)), .ow 1, .fz (.list cells), .fz (.list deeds), e7, e8, e9, e10, e11, e12] ∧ m = [some (fd f1), some (.list rs)]) ?_
      walk_at "tlew"
      refine pick_any hf (by decide) (by decide) fun d f1 hd hf1 => ?_
      obtain ⟨many, rfl, m0, m1⟩ := small4 hd
      walk_at "tlew"
      refine ⟨_, rfl, by omega, ⟨f1, [], _, _, _, _, _, _, hf1, by rw [range_len]; omega, Nat.zero_le _, fun r hr => (by cases hr), rfl, rfl⟩, ?_, ?_⟩
      · rintro i x r m hx ⟨f1, rs, e7, e8, e9, e10, e11, e12, hf1, h4, hl, hr, rfl, rfl⟩
        have hi := (List.getElem?_eq_some_iff.mp hx).1
        walk_at "tlew"
        refine take_any hf1 (by decide) (by decide +kernel) fun way f2 a0 a1 hf2 => ?_
        walk_at "tlew"
        refine pick_any hf2 (by rw [List.length_map]; exact hn.1) (by rw [List.length_map]; omega) fun y f3 hy hf3 => ?_
        obtain ⟨name, hname, rfl⟩ := List.mem_map.mp hy
        have pname := sh_nm (pn name hname) (by decide)
        walk_at "tlew"
        refine W.mono (P := fun o => ∃ (f4 : Int × Int) (row : PyData) (e11 e12 : Sl), FO f4 ∧ Rw row ∧ o = Out.nx [.ow 0, .fz (.list (ns.map .str)), .fz (.list (ws.map .str)), .fz (.list (us.map Us.d)), .ow 1, .fz (.list cells), .fz (.list deeds), .fz x, .fz (.int way), .fz (.str name), e10, e11, e12] [some (fd f4), some (.list (rs ++ [row]))]) ?_ ?_
        · refine w_if_and (X := 0 < deeds.length) (by walk_at "tlew") (by
            walk_at "tlew"
            refine w_neX_ll0 (shaped_ds (fun d hd => (hds d hd).sh) (by decide)) ?_
            walk_at "tlew"
            exact ⟨by trivial, fun z => isE z⟩) (fun hp => ?_) ?_
          · refine w_app rfl rfl ?_
            walk_at "tlew"
            refine pick_any hf3 hp (by omega) fun z f4 hz hf4 => ?_
            walk_at "tlew"
            exact ⟨_, rfl, lt_line (by omega), f4, _, _, _, hf4, Rw.two (sh_nm (n := 8) (by decide +kernel) (by decide)) (hds z hz).sh, rfl⟩
          · refine w_if_and (X := 0 < cells.length) (by walk_at "tlew") (by
              walk_at "tlew"
              refine w_neX_ll0 (shaped_ds (fun d hd => (hcs d hd).sh) (by decide)) ?_
              walk_at "tlew"
              exact ⟨by trivial, fun z => isE z⟩) (fun hp => ?_) ?_
            · walk_at "tlew"
              refine pick_any hf3 hp (by omega) fun z f4 hz hf4 => ?_
              walk_at "tlew"
              refine take_any hf4 (by decide) (by decide +kernel) fun num f5 b0 b1 hf5 => ?_
              walk_at "tlew"
              refine w_app rfl rfl ?_
              walk_at "tlew"
              have hz := (hcs z hz).sh
              have hnum : Sh 41 0 (.int (num - 4)) := sh_i (by omega) (by omega)
              refine pick_any hf5 (by simp only [List.length_cons]; omega) (by simp only [List.length_cons, List.length_nil]; omega) fun row f6 hrow hf6 => ?_
              walk_at "tlew"
              refine ⟨_, rfl, lt_line (by omega), f6, row, _, _, hf6, ?_, rfl⟩
              simp only [List.mem_cons, List.not_mem_nil, or_false] at hrow
              rcases hrow with q | q | q | q <;> rw [q]
              · exact Rw.two (sh_nm (n := 8) (by decide +kernel) (by decide)) hz
              · exact Rw.three (sh_nm (n := 8) (by decide +kernel) (by decide)) hz hnum
              · exact Rw.three (sh_nm (n := 8) (by decide +kernel) (by decide)) hz hnum
              · exact Rw.two (sh_nm (n := 8) (by decide +kernel) (by decide)) hz
            · refine w_if1 (X := True) (by walk_at "tlew"; exact ⟨by trivial, fun _ => trivial⟩) (fun _ => ?_) ?_
              · refine w_app rfl rfl ?_
                walk_at "tlew"
                refine pick_any hf3 (by decide) (by decide) fun z f4 hz hf4 => ?_
                walk_at "tlew"
                refine ⟨_, rfl, lt_line (by omega), f4, _, _, _, hf4, Rw.two ?_ pname, rfl⟩
                simp only [List.mem_cons, List.not_mem_nil, or_false] at hz
                rcases hz with q | q | q | q <;> rw [q] <;> exact sh_nm (n := 8) (by decide +kernel) (by decide)
              · refine w_if1 (X := True) (by walk_at "tlew"; exact ⟨by trivial, fun _ => trivial⟩) (fun _ => ?_) ?_
                · refine w_app rfl rfl ?_
                  walk_at "tlew"
                  refine pick_any hf3 (by rw [List.length_map]; exact hw.1) (by rw [List.length_map]; omega) fun z f4 hz hf4 => ?_
                  obtain ⟨word, hword, rfl⟩ := List.mem_map.mp hz
                  walk_at "tlew"
                  exact ⟨_, rfl, lt_line (by omega), f4, _, _, _, hf4, Rw.three (sh_nm (n := 8) (by decide +kernel) (by decide)) pname (sh_nm (pw word hword) (by decide)), rfl⟩
                · refine w_app rfl rfl ?_
                  walk_at "tlew"
                  refine take_any hf3 (by decide) (by decide +kernel) fun num f5 b0 b1 hf5 => ?_
                  walk_at "tlew"
                  exact ⟨_, rfl, lt_line (by omega), f5, _, _, _, hf5, Rw.two (sh_nm (n := 8) (by decide +kernel) (by decide)) (sh_i (by omega) (by omega)), rfl⟩
        · rintro o ⟨f4, row, e11, e12, hf4, hrow, rfl⟩
          walk_at "tlew"
          exact ⟨f4, rs ++ [row], _, _, _, _, _, _, hf4, h4, by rw [List.length_append]; exact Nat.succ_le_succ hl, snoc_all hr hrow, rfl, rfl⟩
      · rintro r m ⟨f1, rs, e7, e8, e9, e10, e11, e12, hf1, h4, hl, hr, rfl, rfl⟩
        walk_at "tlew"
        refine w_seqO rfl rfl ?_
        walk_at "tlew"
        exact h rs f1 hf1 (Nat.le_trans hl h4) hr
end K21

end
/-! P21d -/
section
set_option maxHeartbeats 400000
namespace K21
open PySem L2 TL

structure Gv where
  w : Str
  v : Str
  c : Bool
  f : Bool
  x : PyData
abbrev Gv.d (g : Gv) : PyData := .tuple [.str g.w, .str g.v, .bool g.c, .bool g.f, g.x]
def Wt (x : PyData) : Prop := (∃ i : Int, x = .int i ∧ -1000 < i ∧ i < 1000) ∨ (∃ rs, x = .tuple rs ∧ rs.length ≤ 4 ∧ ∀ r ∈ rs, Rw r)
def Gv.ok (g : Gv) : Prop := Lw 8 g.w ∧ Lw 8 g.v ∧ Wt g.x
theorem Wt.sh {x : PyData} (h : Wt x) : Sh 508 2 x := by
  rcases h with ⟨i, rfl, h0, h1⟩ | ⟨rs, rfl, h0, h1⟩
  · exact (sh_i h0 h1).mono (by decide) (by decide)
  · exact (Sh.tup (fun d hd => (h1 d hd).sh) h0).mono (by decide) (by decide)
theorem Gv.sh {g : Gv} (h : g.ok) : Sh 2545 3 g.d := by
  refine (Sh.tup (w := 508) (k := 2) (n := 5) (fun d hd => ?_) (by simp only [List.length_cons, List.length_nil]; decide)).mono (by decide) (by decide)
  simp only [List.mem_cons, List.not_mem_nil, or_false] at hd
  rcases hd with q | q | q | q | q <;> rw [q]
  · exact (Sh.str h.1).mono (by decide) (by decide)
  · exact (Sh.str h.2.1).mono (by decide) (by decide)
  · exact Sh.bool.mono (by decide) (by decide)
  · exact Sh.bool.mono (by decide) (by decide)
  · exact h.2.2.sh
theorem shaped_gs {gs : List Gv} (h : ∀ g ∈ gs, g.ok) : SeqAt.shaped (.list (gs.map Gv.d)) = true := shaped_ds (w := 2545) (k := 3) (fun d hd => by
  obtain ⟨g, hg, rfl⟩ := List.mem_map.mp hd
  exact Gv.sh (h g hg)) (by decide)
/-- gives gathered out of others -/
def Gs (i : Nat) (acc : List PyData) : Prop := ∃ gs : List Gv, acc = gs.map Gv.d ∧ gs.length ≤ i ∧ ∀ g ∈ gs, g.ok
theorem Gs.nil : Gs 0 [] := ⟨[], rfl, Nat.le_refl 0, fun g hg => by cases hg⟩
theorem Gs.snoc {i : Nat} {acc : List PyData} {g : Gv} (h : Gs i acc) (hg : g.ok) : Gs (i + 1) (acc ++ [g.d]) := by
  obtain ⟨gs, rfl, h1, h2⟩ := h
  refine ⟨gs ++ [g], by rw [List.map_append]; rfl, by rw [List.length_append]; exact Nat.succ_le_succ h1, fun x hx => ?_⟩
  rcases List.mem_append.mp hx with q | q
  · exact h2 x q
  · rw [List.mem_singleton.mp q]; exact hg
theorem Gs.step {i : Nat} {acc : List PyData} (h : Gs i acc) : Gs (i + 1) acc := by
  obtain ⟨gs, e, h1, h2⟩ := h
  exact ⟨gs, e, Nat.le_succ_of_le h1, h2⟩
theorem Gs.len {i : Nat} {acc : List PyData} (h : Gs i acc) : acc.length ≤ i := by
  obtain ⟨gs, rfl, h1, h2⟩ := h
  rw [List.length_map]
  exact h1
theorem gs_at {gs : List Gv} {i : Nat} {d : PyData} (h : (gs.map Gv.d)[i]? = some d) : ∃ g, gs[i]? = some g ∧ d = g.d := by
  rw [List.getElem?_map] at h
  cases e : gs[i]? with
  | none => rw [e] at h; cases h
  | some g => rw [e] at h; exact ⟨g, rfl, (Option.some.inj h).symm⟩
theorem gives_any {f : Int × Int} {ns ws vs : List Str} {us : List Us} {Q : PyData × PyData → Prop} (hf : FO f) (hn : 0 < ns.length ∧ ns.length < 1000) (hw : 0 < ws.length ∧ ws.length < 1000) (hv : vs.length < 900) (hu : us.length < 1000) (pn : ∀ s ∈ ns, Lw 8 s) (pw : ∀ s ∈ ws, Lw 8 s) (pv : ∀ s ∈ vs, Lw 8 s)
    (h : ∀ (gs : List Gv) (f' : Int × Int), FO f' → gs.length ≤ 4 → (∀ g ∈ gs, g.ok) → Q (.tuple (gs.map Gv.d), fd f')) : W (m__law_gives (fd f) [.list (ns.map .str), .list (ws.map .str), .list (vs.map .str), .list (us.map Us.d)]) Q := by
  unfold m__law_gives b__law_gives
  walk_at "tlew"
  refine w_for (fun ds i r m => ∃ (f1 : Int × Int) (gs : List Gv) (e6 e7 e8 e9 e10 e11 e12 : Sl), FO f1 ∧ ds.length ≤ 4 ∧ gs.length ≤ i ∧ (∀ g ∈ gs, g.ok) ∧ r = [.ow 0, .fz (.list (ns.map .str)), .fz (.list (ws.map .str)), .fz (.list (vs.map .str)), .fz (.list (us.map Us.d)), .ow 1, e6, e7, e8, e9, e10, e11, e12] ∧ m = [some (fd f1), some (.list (gs.map Gv.d))]) ?_
  walk_at "tlew"
  refine take_any hf (by decide) (by decide +kernel) fun many f1 m0 m1 hf1 => ?_
  walk_at "tlew"
  refine ⟨_, rfl, by omega, ⟨f1, [], _, _, _, _, _, _, _, hf1, by rw [range_len]; omega, Nat.zero_le _, fun g hg => (by cases hg), rfl, rfl⟩, ?_, ?_⟩
  · rintro i x r m hx ⟨f1, gs, e6, e7, e8, e9, e10, e11, e12, hf1, h4, hl, hg, rfl, rfl⟩
    have hi := (List.getElem?_eq_some_iff.mp hx).1
    walk_at "tlew"
    rw [List.length_map]
    refine take_any hf1 (by omega) (log_fit (by omega) (by omega)).2 fun at_ f2 a0 a1 hf2 => ?_
    walk_at "tlew"
    refine w_add_l (by simp only [List.length_cons, List.length_nil, List.length_map]; exact le_line (by omega)) ?_
    walk_at "tlew"
    refine pick_any hf2 (by simp only [List.length_cons]; omega) (by simp only [List.length_cons, List.length_map]; omega) fun y f3 hy hf3 => ?_
    have hver : ∃ version : Str, y = .str version ∧ Lw 8 version := by
      simp only [List.mem_cons] at hy
      rcases hy with q | q | q
      · exact ⟨_, q, by decide +kernel⟩
      · exact ⟨_, q, by decide +kernel⟩
      · obtain ⟨s, hs, rfl⟩ := List.mem_map.mp q
        exact ⟨s, rfl, pv s hs⟩
    obtain ⟨version, rfl, hver⟩ := hver
    walk_at "tlew"
    have h33 : gs.length < 1000 := by omega
    refine w_lcOI (fun i acc m => Gs i acc ∧ m = [some (fd f3), none]) rfl rfl ⟨Gs.nil, rfl⟩ ?_ ?_
    · rintro i d m acc hd ⟨ha, rfl⟩
      obtain ⟨g, hg1, rfl⟩ := gs_at hd
      have hgo := hg g (List.mem_of_getElem? hg1)
      have hlt := (List.getElem?_eq_some_iff.mp hg1).1
      walk_at "tlew"
      simp only [wipeR]
      walk_at "tlew"
      refine w_at (atI_in (by omega) (by rw [List.length_map]; omega)) ?_
      rw [List.getElem_map]
      walk_at "tlew"
      refine ⟨fun _ => ?_, fun _ => ⟨ha.step, by trivial⟩⟩
      walk_at "tlew"
      exact ⟨lt_line (by have := ha.len; omega), ha.snoc hgo, by trivial⟩
    · rintro acc m ⟨⟨ths, rfl, hth1, hth2⟩, rfl⟩
      have hth1 : ths.length ≤ gs.length := by rw [List.length_map] at hth1; exact hth1
      walk_at "tln"
      refine w_seq (W.mono (P := fun o => ∃ (b : Bool) (f4 : Int × Int), FO f4 ∧ o = Out.nx [.ow 0, .fz (.list (ns.map .str)), .fz (.list (ws.map .str)), .fz (.list (vs.map .str)), .fz (.list (us.map Us.d)), .ow 1, .fz x, .fz (.int at_), .fz (.str version), .fz (.list (ths.map Gv.d)), .fz (.bool b), e11, e12] [some (fd f4), some (.list (gs.map Gv.d))]) ?_ ?_)
      · walk_at "tlew"
        refine ⟨_, rfl, fun _ => ⟨_, f3, hf3, rfl⟩, fun _ => ?_⟩
        walk_at "tlew"
        refine take_any hf3 (by decide) (by decide +kernel) fun z f4 _ _ hf4 => ?_
        walk_at "tlew"
        exact ⟨_, f4, hf4, rfl⟩
      · rintro o ⟨chosen, f4, hf4, rfl⟩
        walk_at "tln"
        refine w_if1 (X := True) ?_ (fun _ => ?_) ?_
        · walk_at "tlew"
          refine w_lcI (fun ds i acc m => Gs i acc ∧ m = [some (fd f4), some (.list (gs.map Gv.d))]) ?_
          walk_at "tlew"
          refine ⟨⟨Gs.nil, by trivial⟩, ?_, ?_⟩
          · rintro i d m acc hd ⟨ha, rfl⟩
            obtain ⟨g, hg1, rfl⟩ := gs_at hd
            have hgo := hth2 g (List.mem_of_getElem? hg1)
            have hlt := (List.getElem?_eq_some_iff.mp hg1).1
            refine w_hNm ?_
            simp only [wipeR]
            walk_at "tln"
            refine w_test_p (A := fun m => W (eV 12 _ m) _) (B := fun m => _ ∧ m = _) (w_or_p (by walk_at "tlew") (w_and_p (by walk_at "tlew") (by walk_at "tlew"))) ?_ ?_
            · walk_at "tlew"
              exact ⟨lt_line (by have := ha.len; omega), ha.snoc hgo, by trivial⟩
            · exact ⟨ha.step, rfl⟩
          · rintro acc m ⟨⟨gs2, rfl, hth1, hth2⟩, rfl⟩
            walk_at "tlew"
            refine w_eqX_ll0 (shaped_gs hth2) ?_
            walk_at "tlew"
            exact ⟨by trivial, fun _ => trivial⟩
        · walk_at "tlew"
          refine take_any hf4 (by decide) (by decide +kernel) fun num f5 b0 b1 hf5 => ?_
          walk_at "tlew"
          refine W.mono (P := fun o => ∃ (wh : PyData) (f6 : Int × Int), FO f6 ∧ Wt wh ∧ o = Out.nx [.ow 0, .fz (.list (ns.map .str)), .fz (.list (ws.map .str)), .fz (.list (vs.map .str)), .fz (.list (us.map Us.d)), .ow 1, .fz x, .fz (.int at_), .fz (.str version), .fz (.list (ths.map Gv.d)), .fz (.bool chosen), .fz wh, e12] [some (fd f6), some (.list (gs.map Gv.d))]) ?_ ?_
          · refine w_if ?_
            walk_at "tlew"
            refine take_any hf5 (by decide) (by decide +kernel) fun z f6 _ _ hf6 => ?_
            walk_at "tlew"
            refine ⟨fun _ => ?_, fun _ => ?_⟩
            · walk_at "tlew"
              refine rows_any hf6 hn hw hu pn pw fun rs f7 hf7 hr1 hr2 => ?_
              walk_at "tlew"
              exact ⟨_, f7, hf7, .inr ⟨rs, rfl, hr1, hr2⟩, rfl⟩
            · walk_at "tlew"
              exact ⟨_, f6, hf6, .inl ⟨_, rfl, by omega, by omega⟩, rfl⟩
          · rintro o ⟨wh, f6, hf6, hwh, rfl⟩
            walk_at "tlew"
            refine w_app rfl rfl ?_
            walk_at "tlew"
            refine w_at (atI_in a0 (by rw [List.length_map]; exact a1)) ?_
            rw [List.getElem_map]
            walk_at "tlew"
            refine take_any hf6 (by decide) (by decide +kernel) fun z f7 _ _ hf7 => ?_
            walk_at "tlew"
            have hgs := Gs.snoc (i := i) ⟨gs, rfl, hl, hg⟩ (g := ⟨ws[at_.toNat]'(by omega), version, chosen, decide (z = 0), wh⟩) ⟨pw _ (List.getElem_mem _), hver, hwh⟩
            obtain ⟨gs3, e3, l3, k3⟩ := hgs
            refine ⟨_, rfl, lt_line (by rw [List.length_map]; omega), f7, gs3, _, _, _, _, _, _, _, hf7, h4, l3, k3, rfl, ?_⟩
            rw [← e3]
        · walk_at "tlew"
          exact ⟨f4, gs, _, _, _, _, _, _, _, hf4, h4, Nat.le_succ_of_le hl, hg, rfl, rfl⟩
  · rintro r m ⟨f1, gs, e6, e7, e8, e9, e10, e11, e12, hf1, h4, hl, hg, rfl, rfl⟩
    walk_at "tlew"
    refine w_seqO rfl rfl ?_
    walk_at "tlew"
    exact h gs f1 hf1 (Nat.le_trans hl h4) hg
end K21

end
/-! P21e -/
section
set_option maxHeartbeats 400000
namespace K21
open PySem L2 TL

structure Lb where
  n : Str
  ns : List Str
  gs : List Gv
  us : List Us
  r0 : List PyData
  r1 : List PyData
  ks : List Str
abbrev Lb.d (l : Lb) : PyData := .tuple [.str l.n, .tuple (l.ns.map .str), .tuple (l.gs.map Gv.d), .tuple (l.us.map Us.d), .tuple l.r0, .tuple l.r1, .tuple (l.ks.map .str)]
structure Lb.ok (l : Lb) : Prop where
  n : Lw 8 l.n
  ns : l.ns.length ≤ 6 ∧ ∀ s ∈ l.ns, Lw 8 s
  gs : l.gs.length ≤ 4 ∧ ∀ g ∈ l.gs, g.ok
  us : l.us.length ≤ 4 ∧ ∀ u ∈ l.us, u.ok
  r0 : l.r0.length ≤ 4 ∧ ∀ r ∈ l.r0, Rw r
  r1 : l.r1.length ≤ 4 ∧ ∀ r ∈ l.r1, Rw r
  ks : l.ks.length ≤ 3 ∧ ∀ s ∈ l.ks, Lw 8 s
abbrev gp (p : Str × Str) : PyData := .tuple [.str p.1, .str p.2]
def gpok (p : Str × Str) : Prop := Lw 8 p.1 ∧ Lw 8 p.2
theorem gp_sh {p : Str × Str} (h : gpok p) : Sh 84 1 (gp p) := (Sh.tup (w := 41) (k := 0) (n := 2) (fun d hd => by
  rcases List.mem_cons.mp hd with q | q
  · rw [q]; exact sh_nm h.1 (by decide)
  · rw [List.mem_singleton.mp q]; exact sh_nm h.2 (by decide)) (by simp only [List.length_cons, List.length_nil]; decide)).mono (by decide) (by decide)
theorem Us.sh {u : Us} (h : u.ok) : Sh 168 1 u.d := (Sh.tup (w := 41) (k := 0) (n := 4) (fun d hd => by
  simp only [List.mem_cons, List.not_mem_nil, or_false] at hd
  rcases hd with q | q | q | q <;> rw [q]
  · exact sh_nm h.1 (by decide)
  · exact sh_nm h.2 (by decide)
  · exact Sh.bool.mono (by decide) (by decide)
  · exact Sh.bool.mono (by decide) (by decide)) (by simp only [List.length_cons, List.length_nil]; decide)).mono (by decide) (by decide)
theorem shaped_strs {ss : List Str} (h : ∀ s ∈ ss, Lw 8 s) : SeqAt.shaped (.list (ss.map .str)) = true := shaped_ds (w := 41) (k := 0) (fun d hd => by
  obtain ⟨s, hs, rfl⟩ := List.mem_map.mp hd
  exact sh_nm (h s hs) (by decide)) (by decide)
theorem shaped_str {s : Str} (h : Lw 8 s) : SeqAt.shaped (.str s) = true := shaped_s h.ok
theorem snoc_s {P : Str → Prop} {acc : List Str} {x : Str} (h : ∀ d ∈ acc, P d) (hx : P x) : ∀ d ∈ acc ++ [x], P d := fun d hd => by
  rcases List.mem_append.mp hd with q | q
  · exact h d q
  · rw [List.mem_singleton.mp q]; exact hx
theorem str_at {ss : List Str} {i : Nat} {d : PyData} (h : (ss.map PyData.str)[i]? = some d) : ∃ s, ss[i]? = some s ∧ d = .str s := by
  rw [List.getElem?_map] at h
  cases e : ss[i]? with
  | none => rw [e] at h; cases h
  | some g => rw [e] at h; exact ⟨g, rfl, (Option.some.inj h).symm⟩
theorem w_str_at {ss : List Str} {j : Int} (h0 : 0 ≤ j) (h1 : j < ss.length) (hs : ∀ s ∈ ss, Lw 8 s) {Q : PyData → Prop} (h : ∀ s, Lw 8 s → Q (.str s)) : W (atI (ss.map PyData.str) j) Q := by
  refine w_at (atI_in h0 (by rw [List.length_map]; exact h1)) ?_
  rw [List.getElem_map]
  exact h _ (hs _ (List.getElem_mem _))
theorem small5 {d : PyData} (h : d ∈ [PyData.int 0, .int 1, .int 1, .int 2, .int 3]) : ∃ j : Int, d = .int j ∧ 0 ≤ j ∧ j ≤ 3 := by
  simp only [List.mem_cons, List.not_mem_nil, or_false] at h
  rcases h with h | h | h | h | h <;> exact ⟨_, h, by decide, by decide⟩
theorem rep01 (b : Bool) (s : Str) : (List.replicate (if b = true then (1 : Int) else 0).toNat [PyData.str s]).flatten = (if b = true then [s] else []).map PyData.str := by
  cases b <;> rfl
theorem library_any {f : Int × Int} {ns ws vs : List Str} {at_ : Int} {gn : List (Str × Str)} {Q : PyData × PyData → Prop} (hf : FO f) (hn : ns.length < 1000) (h0 : 0 ≤ at_) (h1 : at_ < ns.length) (hw : ws.length = 5) (hv : vs.length < 900) (pn : ∀ s ∈ ns, Lw 8 s) (pw : ∀ s ∈ ws, Lw 8 s) (pv : ∀ s ∈ vs, Lw 8 s) (hg : gn.length < 1000) (pg : ∀ p ∈ gn, gpok p)
    (h : ∀ (l : Lb) (f' : Int × Int), FO f' → l.ok → Q (l.d, fd f')) : W (m__law_library (fd f) [.list (ns.map .str), .int at_, .list (ws.map .str), .list (vs.map .str), .list (gn.map gp)]) Q := by
  unfold m__law_library b__law_library
  walk_at "tlew"
  refine w_for (fun ds i r m => ∃ (f1 : Int × Int) (ss : List Str) (e7 : Sl), FO f1 ∧ ds.length ≤ 3 ∧ ss.length ≤ i ∧ (∀ s ∈ ss, Lw 8 s) ∧ r = [.ow 0, .fz (.list (ns.map .str)), .fz (.int at_), .fz (.list (ws.map .str)), .fz (.list (vs.map .str)), .fz (.list (gn.map gp)), .ow 1, e7, .un, .un, .un, .un, .un, .un, .un, .un, .un, .un, .un, .un] ∧ m = [some (fd f1), some (.list (ss.map .str))]) ?_
  walk_at "tlew"
  refine pick_any hf (by decide) (by decide) fun d f1 hd hf1 => ?_
  obtain ⟨many, rfl, m0, m1⟩ := small5 hd
  walk_at "tlew"
  refine ⟨_, rfl, by omega, ⟨f1, [], _, hf1, by rw [range_len]; omega, Nat.zero_le _, fun g hg => (by cases hg), rfl, rfl⟩, ?_, ?_⟩
  · rintro i x r m hx ⟨f1, ss, e7, hf1, h4, hl, hs, rfl, rfl⟩
    have hi := (List.getElem?_eq_some_iff.mp hx).1
    walk_at "tlew"
    refine w_app rfl rfl ?_
    walk_at "tlew"
    simp only [List.length_map]
    refine take_any hf1 (by omega) (log_fit (by omega) (by omega)).2 fun v f2 a0 a1 hf2 => ?_
    walk_at "tlew"
    refine pick_any hf2 (by simp only [List.length_cons]; omega) (by simp only [List.length_cons, List.length_nil]; omega) fun y f3 hy hf3 => ?_
    have hj : ∃ j : Int, y = .int j ∧ 0 ≤ j ∧ j < ns.length := by
      simp only [List.mem_cons, List.not_mem_nil, or_false] at hy
      rcases hy with q | q
      · exact ⟨_, q, a0, a1⟩
      · refine ⟨_, q, ?_, ?_⟩
        · simp only [List.length_map]; split <;> omega
        · simp only [List.length_map]; split <;> omega
    obtain ⟨j, rfl, j0, j1⟩ := hj
    walk_at "tlew"
    refine w_str_at j0 j1 pn fun s hs1 => ?_
    refine ⟨_, rfl, lt_line (by rw [List.length_map]; omega), f3, ss ++ [s], _, hf3, h4, by rw [List.length_append]; exact Nat.succ_le_succ hl, snoc_s hs hs1, rfl, ?_⟩
    rw [List.map_append]
    rfl
  · rintro r m ⟨f1, ss, e7, hf1, h4, hl, hs, rfl, rfl⟩
    have hss : ss.length ≤ 3 := Nat.le_trans hl h4
    walk_at "tlew"
    refine w_for (fun ds i r m => ∃ (f1 : Int × Int) (a : Nat) (ms : Ms) (ss : List Str) (us : List Us) (e7 e13 e14 e15 e16 : Sl), FO f1 ∧ ds.length ≤ 4 ∧ ss.length ≤ 3 + i ∧ us.length ≤ i ∧ (∀ s ∈ ss, Lw 8 s) ∧ (∀ u ∈ us, u.ok) ∧ cellAt ms a = some (.list (ss.map .str)) ∧ cellAt ms 1 = some (.list (us.map Us.d)) ∧ a ≠ 1 ∧ r = [.ow 0, .fz (.list (ns.map .str)), .fz (.int at_), .fz (.list (ws.map .str)), .fz (.list (vs.map .str)), .fz (.list (gn.map gp)), .ow (a + 1), e7, .ow 2, .un, .un, .un, .un, e13, e14, e15, e16, .un, .un, .un] ∧ m = some (fd f1) :: ms) ?_
    walk_at "tlew"
    refine take_any hf1 (by decide) (by decide +kernel) fun many f2 m0 m1 hf2 => ?_
    walk_at "tlew"
    refine ⟨_, rfl, by omega, ⟨f2, 0, [some (.list (ss.map .str)), some (.list [])], ss, [], _, _, _, _, _, hf2, by rw [range_len]; omega, by omega, Nat.zero_le _, hs, fun u hu => (by cases hu), rfl, rfl, by decide, rfl, rfl⟩, ?_, ?_⟩
    · rintro i x r m hx ⟨f1, a, ms, ss, us, e7, e13, e14, e15, e16, hf1, h4, hl, hul, hs, huo, c1, c2, ha, rfl, rfl⟩
      have hi := (List.getElem?_eq_some_iff.mp hx).1
      walk_at "tlew"
      simp only [List.length_map]
      refine take_any hf1 (by omega) (log_fit (by omega) (by omega)).2 fun v f2 a0 a1 hf2 => ?_
      walk_at "tlew"
      refine pick_any hf2 (by simp only [List.length_cons]; omega) (by simp only [List.length_cons, List.length_nil]; omega) fun y f3 hy hf3 => ?_
      have hj : ∃ j : Int, y = .int j ∧ 0 ≤ j ∧ j < ws.length := by
        simp only [List.mem_cons, List.not_mem_nil, or_false] at hy
        rcases hy with q | q | q | q
        · exact ⟨_, q, by decide, by omega⟩
        · exact ⟨_, q, by decide, by omega⟩
        · exact ⟨_, q, by decide, by omega⟩
        · exact ⟨_, q, a0, a1⟩
      obtain ⟨j, rfl, j0, j1⟩ := hj
      walk_at "tlew"
      refine w_str_at j0 j1 pw fun word hword => ?_
      walk_at "tlew"
      refine w_add_l (by simp only [List.length_cons, List.length_nil, List.length_map]; exact le_line (by omega)) ?_
      walk_at "tlew"
      refine pick_any hf3 (by simp only [List.length_cons]; omega) (by simp only [List.length_cons, List.length_map]; omega) fun y f4 hy hf4 => ?_
      have hver : ∃ version : Str, y = .str version ∧ Lw 8 version := by
        simp only [List.mem_cons] at hy
        rcases hy with q | q | q | q
        · exact ⟨_, q, by decide +kernel⟩
        · exact ⟨_, q, by decide +kernel⟩
        · exact ⟨_, q, by decide +kernel⟩
        · obtain ⟨s, hs, rfl⟩ := List.mem_map.mp q
          exact ⟨s, rfl, pv s hs⟩
      obtain ⟨version, rfl, hver⟩ := hver
      walk_at "tln"
      refine w_seq (W.mono (P := fun o => ∃ (b : Bool) (f5 : Int × Int), FO f5 ∧ (b = true → 0 < gn.length) ∧ o = Out.nx [.ow 0, .fz (.list (ns.map .str)), .fz (.int at_), .fz (.list (ws.map .str)), .fz (.list (vs.map .str)), .fz (.list (gn.map gp)), .ow (a + 1), .fz x, .ow 2, .un, .un, .un, .un, .fz (.str word), .fz (.str version), .fz (.bool b), e16, .un, .un, .un] (some (fd f5) :: ms)) ?_ ?_)
      · walk_at "tlew"
        refine w_neX_ll0 (shaped_ds (w := 84) (k := 1) (fun d hd => by
          obtain ⟨p, hp, rfl⟩ := List.mem_map.mp hd
          exact gp_sh (pg p hp)) (by decide)) ?_
        walk_at "tlew"
        refine ⟨_, rfl, fun hne => ?_, fun _ => ⟨_, f4, hf4, fun z => (by cases z), rfl⟩⟩
        have hne := isE hne
        rw [List.length_map] at hne
        walk_at "tlew"
        refine take_any hf4 (by decide) (by decide +kernel) fun z f5 _ _ hf5 => ?_
        walk_at "tlew"
        exact ⟨_, f5, hf5, fun _ => hne, rfl⟩
      · rintro o ⟨cell, f5, hf5, hcell, rfl⟩
        walk_at "tln"
        refine w_seq (W.mono (P := fun o => ∃ (a : Nat) (ms : Ms) (ss : List Str) (word version : Str) (f6 : Int × Int) (e16 : Sl), FO f6 ∧ ss.length ≤ 3 + (i + 1) ∧ (∀ s ∈ ss, Lw 8 s) ∧ Lw 8 word ∧ Lw 8 version ∧ cellAt ms a = some (.list (ss.map .str)) ∧ cellAt ms 1 = some (.list (us.map Us.d)) ∧ a ≠ 1 ∧ o = Out.nx [.ow 0, .fz (.list (ns.map .str)), .fz (.int at_), .fz (.list (ws.map .str)), .fz (.list (vs.map .str)), .fz (.list (gn.map gp)), .ow (a + 1), .fz x, .ow 2, .un, .un, .un, .un, .fz (.str word), .fz (.str version), .fz (.bool cell), e16, .un, .un, .un] (some (fd f6) :: ms)) ?_ ?_)
        · refine w_if1 (X := cell = true) (by
            walk_at "tlew"
            exact ⟨by trivial, fun z => z⟩) (fun hc => ?_) ?_
          · have hne := hcell hc
            walk_at "tlew"
            refine pick_any hf5 (by rw [List.length_map]; exact hne) (by rw [List.length_map]; omega) fun y f6 hy hf6 => ?_
            obtain ⟨p, hp, rfl⟩ := List.mem_map.mp hy
            have hpo := pg p hp
            walk_at "tlew"
            refine w_frz rfl (show cellAt (some (fd f6) :: ms) (a + 1) = _ from c1) ?_
            simp only [frz_cons, frz_nil, fz1_fz, fz1_un, fz1_eq]
            rw [fz1_ne (show (0 : Nat) ≠ a + 1 by omega), fz1_ne (show (2 : Nat) ≠ a + 1 by omega)]
            walk_at "tlew"
            refine take_any hf6 (by decide) (by decide +kernel) fun z f7 z0 z1 hf7 => ?_
            walk_at "tlew"
            refine w_rep (by split <;> decide) (by split <;> decide) (by simp only [List.length_cons, List.length_nil]; decide) ?_
            rw [rep01]
            generalize hz : (if decide (0 < z) = true then [p.2] else []) = more
            have hm : more.length ≤ 1 ∧ ∀ s ∈ more, Lw 8 s := by
              subst hz
              split
              · exact ⟨Nat.le_refl 1, fun s hs => by rw [List.mem_singleton.mp hs]; exact hpo.2⟩
              · exact ⟨Nat.zero_le _, fun s hs => by cases hs⟩
            refine w_catL (by simp only [List.length_map]; exact le_line (by omega)) ?_
            walk_at "tlew"
            rw [← List.map_append]
            refine ⟨(ms.set a none).length, _, ss ++ more, p.1, _, f7, _, hf7, by rw [List.length_append]; omega, fun s hs1 => ?_, hpo.1, by decide +kernel, cellAt_new, ?_, ?_, rfl⟩
            · rcases List.mem_append.mp hs1 with q | q
              · exact hs s q
              · exact hm.2 s q
            · have hlt := cellAt_lt c2
              rw [cellAt_old (by rw [List.length_set]; exact hlt), cellAt_ne (Ne.symm ha)]
              exact c2
            · have hlt := cellAt_lt c2
              have hlt2 := cellAt_lt c1
              rw [List.length_set]
              omega
          · walk_at "tlew"
            exact ⟨a, ms, ss, word, version, f5, _, hf5, by omega, hs, hword, hver, c1, c2, ha, rfl⟩
        · rintro o ⟨a, ms, ss, word, version, f6, e16, hf6, hl, hs, hword, hver, c1, c2, ha, rfl⟩
          walk_at "tlew"
          refine w_app rfl (show cellAt (some (fd f6) :: ms) (1 + 1) = _ from c2) ?_
          refine W.mono (P := fun p => ∃ (b : Bool) (f7 : Int × Int), FO f7 ∧ p = (PyData.tuple [.str word, .str version, .bool cell, .bool b], some (fd f7) :: ms)) ?_ ?_
          · walk_at "tlew"
            refine ⟨_, rfl, fun _ => ?_, fun _ => ?_⟩
            · walk_at "tlew"
              exact ⟨_, f6, hf6, rfl⟩
            · walk_at "tlew"
              refine take_any hf6 (by decide) (by decide +kernel) fun z f7 _ _ hf7 => ?_
              walk_at "tlew"
              exact ⟨_, f7, hf7, rfl⟩
          · rintro p ⟨b, f7, hf7, rfl⟩
            have hlt := cellAt_lt c2
            refine ⟨_, c2, lt_line (by rw [List.length_map]; omega), f7, a, ms.set 1 (some (.list ((us ++ [(⟨word, version, cell, b⟩ : Us)]).map Us.d))), ss, us ++ [(⟨word, version, cell, b⟩ : Us)], _, _, _, _, _, hf7, h4, hl, by rw [List.length_append]; exact Nat.succ_le_succ hul, hs, fun u hu => ?_, (cellAt_ne ha).trans c1, cellAt_self hlt, ha, rfl, ?_⟩
            · rcases List.mem_append.mp hu with q | q
              · exact huo u q
              · rw [List.mem_singleton.mp q]; exact ⟨hword, hver⟩
            · rw [List.map_append]
              rfl
    · rintro r m ⟨f1, a, ms, ss, us, e7, e13, e14, e15, e16, hf1, h4, hl, hul, hs, huo, c1, c2, ha, rfl, rfl⟩
      have hul : us.length ≤ 4 := Nat.le_trans hul h4
      have hl : ss.length ≤ 7 := by omega
      refine w_frz rfl (show cellAt (some (fd f1) :: ms) (a + 1) = _ from c1) ?_
      simp only [frz_cons, frz_nil, fz1_fz, fz1_un, fz1_eq]
      rw [fz1_ne (show (0 : Nat) ≠ a + 1 by omega), fz1_ne (show (2 : Nat) ≠ a + 1 by omega)]
      generalize fz1 _ _ e7 = e7
      generalize fz1 _ _ e13 = e13
      generalize fz1 _ _ e14 = e14
      generalize fz1 _ _ e15 = e15
      generalize fz1 _ _ e16 = e16
      walk_at "tln"
      have c3 : cellAt (ms.set a none) 1 = some (.list (us.map Us.d)) := (cellAt_ne (Ne.symm ha)).trans c2
      generalize ms.set a none = ms at c3
      clear c1 c2 ha
      refine w_seq (w_set ?_)
      refine w_lcI (fun ds i acc m => Ts 8 acc.length acc ∧ acc.length ≤ i ∧ m = some (fd f1) :: ms) ?_
      walk_at "tlew"
      rw [enum_len, List.length_map]
      refine ⟨⟨Ts.nil, Nat.le_refl 0, by trivial⟩, ?_, ?_⟩
      · rintro i d m acc hd ⟨ht, hal, rfl⟩
        obtain ⟨d1, hd1, rfl⟩ := enum_at hd
        obtain ⟨s, hs1, rfl⟩ := str_at hd1
        have hso := hs s (List.mem_of_getElem? hs1)
        have hlt := (List.getElem?_eq_some_iff.mp hs1).1
        simp only [wipeR]
        walk_at "tlew"
        have no : Ts 8 acc.length acc ∧ acc.length ≤ i + 1 := ⟨ht, Nat.le_succ_of_le hal⟩
        refine w_str_at h0 h1 pn fun z hz => ?_
        walk_at "tlew"
        refine ⟨fun _ => ?_, fun _ => ⟨fun z => (by cases z), fun _ => ⟨no.1, no.2, by trivial⟩⟩⟩
        walk_at "tlew"
        refine ⟨_, rfl, ?_⟩
        walk_at "tlew"
        rw [cut_to (Int.natCast_nonneg i)]
        refine w_notInD (shaped_str hso) (shaped_ds (w := 41) (k := 0) (fun d hd => ?_) (by decide)) fun b => ?_
        · obtain ⟨s, hs2, rfl⟩ := List.mem_map.mp (List.mem_of_mem_take hd)
          exact sh_nm (hs s hs2) (by decide)
        · walk_at "tlew"
          refine ⟨fun _ => ?_, fun _ => ⟨no.1, no.2, by trivial⟩⟩
          walk_at "tlew"
          exact ⟨lt_line (by omega), by rw [List.length_append]; exact ht.snoc hso, by rw [List.length_append]; exact Nat.succ_le_succ hal, by trivial⟩
      · rintro acc m ⟨⟨nd, rfl, hnl, hnd⟩, hal, rfl⟩
        rw [List.length_map] at hal
        refine w_frz rfl (show cellAt (some (fd f1) :: ms) (1 + 1) = _ from c3) ?_
        simp only [frz_cons, frz_nil, fz1_fz, fz1_un, fz1_eq]
        rw [fz1_ne (show (0 : Nat) ≠ 2 by decide)]
        generalize fz1 _ _ e7 = e7
        generalize fz1 _ _ e13 = e13
        generalize fz1 _ _ e14 = e14
        generalize fz1 _ _ e15 = e15
        generalize fz1 _ _ e16 = e16
        walk_at "tln"
        generalize ms.set 1 none = ms
        walk_at "tlew"
        refine gives_any hf1 ⟨by omega, hn⟩ ⟨by omega, by omega⟩ hv (by omega) pn pw pv fun gs f2 hf2 hgl hgo => ?_
        walk_at "tlew"
        refine w_lcI (fun ds i acc m => ∃ (rl : List (List PyData)) (f3 : Int × Int), acc = rl.map .tuple ∧ rl.length = i ∧ (∀ rs ∈ rl, rs.length ≤ 4 ∧ ∀ r ∈ rs, Rw r) ∧ FO f3 ∧ m = some (fd f3) :: ms) ?_
        walk_at "tlew"
        refine ⟨_, rfl, by omega, ⟨[], f2, rfl, rfl, fun r hr => (by cases hr), hf2, by trivial⟩, ?_, ?_⟩
        · rintro i d m acc hd ⟨rl, f3, rfl, hrl, hro, hf3, rfl⟩
          have hi := (range_at hd).1
          have hi : i < 2 := hi
          walk_at "tlew"
          simp only [wipeR]
          walk_at "tlew"
          refine ⟨fun _ => ?_, fun z => by cases z⟩
          walk_at "tlew"
          refine rows_any hf3 ⟨by omega, hn⟩ ⟨by omega, by omega⟩ (by omega) pn pw fun rs f4 hf4 hr1 hr2 => ?_
          walk_at "tlew"
          refine ⟨lt_line (by rw [List.length_map]; omega), rl ++ [rs], f4, by rw [List.map_append]; rfl, by rw [List.length_append, hrl]; rfl, fun x hx => ?_, hf4, by trivial⟩
          rcases List.mem_append.mp hx with q | q
          · exact hro x q
          · rw [List.mem_singleton.mp q]; exact ⟨hr1, hr2⟩
        · rintro acc m ⟨rl, f3, rfl, hrl, hro, hf3, rfl⟩
          have hrl : rl.length = 2 := hrl.trans (range_len _ _)
          match rl, hrl with
          | [ra, rb], _ =>
          have hra := hro ra (by simp)
          have hrb := hro rb (by simp)
          walk_at "tlew"
          refine w_lcI (fun ds i acc m => ∃ (f4 : Int × Int), Ts 8 acc.length acc ∧ acc.length ≤ i ∧ FO f4 ∧ m = some (fd f4) :: ms) ?_
          walk_at "tlew"
          refine ⟨⟨f3, Ts.nil, Nat.le_refl 0, hf3, by trivial⟩, ?_, ?_⟩
          · rintro i d m acc hd ⟨f4, ht, hal2, hf4, rfl⟩
            have hlt := (List.getElem?_eq_some_iff.mp hd).1
            have hdo : ∃ s, d = .str s ∧ Lw 8 s := by
              have hm := List.mem_of_getElem? hd
              simp only [List.mem_cons, List.not_mem_nil, or_false] at hm
              rcases hm with q | q | q
              · exact ⟨_, q, by decide +kernel⟩
              · exact ⟨_, q, by decide +kernel⟩
              · exact ⟨_, q, by decide +kernel⟩
            obtain ⟨s, rfl, hso⟩ := hdo
            walk_at "tlew"
            simp only [wipeR]
            walk_at "tlew"
            refine take_any hf4 (by decide) (by decide +kernel) fun z f5 _ _ hf5 => ?_
            walk_at "tlew"
            refine ⟨fun _ => ?_, fun _ => ⟨f5, ht, Nat.le_succ_of_le hal2, hf5, by trivial⟩⟩
            walk_at "tlew"
            exact ⟨lt_line (by simp only [List.length_cons, List.length_nil] at hlt; omega), f5, by rw [List.length_append]; exact ht.snoc hso, by rw [List.length_append]; exact Nat.succ_le_succ hal2, hf5, by trivial⟩
          · rintro acc m ⟨f4, ⟨mk, rfl, hml, hmk⟩, hal2, hf4, rfl⟩
            rw [List.length_map] at hal2
            walk_at "tlew"
            refine w_str_at h0 h1 pn fun name hname => ?_
            walk_at "tlew"
            refine ⟨_, rfl, ?_⟩
            walk_at "tlew"
            rw [cut_to (by decide), ← List.map_take]
            walk_at "tlew"
            refine h ⟨name, nd.take 6, gs, us, ra, rb, mk⟩ f4 hf4 ⟨hname, ⟨?_, fun s hs => hnd s (List.mem_of_mem_take hs)⟩, ⟨hgl, hgo⟩, ⟨hul, huo⟩, hra, hrb, ⟨hal2, hmk⟩⟩
            rw [List.length_take]
            exact Nat.min_le_left _ _
end K21

end
/-! P21f -/
section
set_option maxHeartbeats 400000
namespace K21
open PySem L2 TL

def wh : PyData → Bool
  | .int _ => true
  | _ => false
theorem whole_w {x : PyData} {Q : PyData → Prop} (h : Wt x) (q : Q (.bool (wh x))) : W (m__law_whole [x]) Q := by
  rcases h with ⟨i, rfl, _, _⟩ | ⟨rs, rfl, _, _⟩
  · exact whole_int q
  · unfold m__law_whole b__law_whole
    walk_at "tlew"
    refine W.of (show isiD "int" (.tuple rs) = some (.bool false) from rfl) ?_
    refine ⟨false, rfl, fun z => (by cases z), fun _ => ?_⟩
    walk_at "tlew"
    exact q
theorem rangeC_at {lo c : Int} {n i : Nat} {d : PyData} (h : (rangeC lo c n)[i]? = some d) : i < n ∧ d = .int (lo + (i : Nat) * c) := by
  unfold rangeC at h
  rw [List.getElem?_map] at h
  by_cases hi : i < n
  · rw [List.getElem?_range hi] at h
    exact ⟨hi, (Option.some.inj h).symm⟩
  · rw [List.getElem?_eq_none (by rw [List.length_range]; omega)] at h
    cases h
theorem rangeC_len (lo c : Int) (n : Nat) : (rangeC lo c n).length = n := by unfold rangeC; simp
/-- given pairs -/
def Gp (i : Nat) (acc : List PyData) : Prop := ∃ gn : List (Str × Str), acc = gn.map gp ∧ gn.length ≤ i ∧ ∀ p ∈ gn, gpok p
theorem shelf_any {f : Int × Int} {Q : PyData × PyData → Prop} (hf : FO f)
    (h : ∀ (ls : List Lb) (f' : Int × Int), FO f' → 0 < ls.length → ls.length ≤ 8 → (∀ l ∈ ls, l.ok) → Q (.tuple (ls.map Lb.d), fd f')) : W (m__law_shelf (fd f) [.int 8]) Q := by
  unfold m__law_shelf b__law_shelf
  walk_at "tlew"
  refine words_any hf fun ls ws vs f1 hls hws hvs pls pws pvs hf1 => ?_
  walk_at "tlew"
  refine take_any hf1 (by decide) (by decide +kernel) fun v f2 a0 a1 hf2 => ?_
  walk_at "tlew"
  refine pick_any hf2 (by simp only [List.length_cons]; omega) (by simp only [List.length_cons, List.length_nil]; omega) fun y f3 hy hf3 => ?_
  have hj : ∃ j : Int, y = .int j ∧ 1 ≤ j ∧ j ≤ 8 := by
    simp only [List.mem_cons, List.not_mem_nil, or_false] at hy
    rcases hy with q | q | q
    · exact ⟨_, q, by decide, by decide⟩
    · exact ⟨_, q, by decide, by decide⟩
    · exact ⟨_, q, by omega, by omega⟩
  obtain ⟨many, rfl, m0, m1⟩ := hj
  walk_at "tlew"
  refine w_for (fun ds i r m => ∃ (f1 : Int × Int) (fs : List Lb) (gn : List (Str × Str)) (e5 e9 e10 : Sl), FO f1 ∧ fs.length = i ∧ (∀ l ∈ fs, l.ok) ∧ gn.length ≤ 4 * i ∧ (∀ p ∈ gn, gpok p) ∧ r = [.ow 0, .fz (.int 8), .fz (.int many), .fz (.list (fs.map Lb.d)), .fz (.list (gn.map gp)), e5, .fz (.list (ls.map .str)), .fz (.list (ws.map .str)), .fz (.list (vs.map .str)), e9, e10] ∧ m = [some (fd f1)]) ?_
  refine w_rg3 ?_
  walk_at "tlew"
  refine ⟨_, _, rfl, by omega, ⟨f3, [], [], _, _, _, hf3, rfl, fun l hl => (by cases hl), Nat.zero_le _, fun l hl => (by cases hl), rfl, rfl⟩, ?_, ?_⟩
  · rintro i x r m hx ⟨f1, fs, gn, e5, e9, e10, hf1, hfl, hfo, hgl, hgo, rfl, rfl⟩
    obtain ⟨hi, rfl⟩ := rangeC_at hx
    have hi : i < many.toNat := by omega
    have hat : many - 1 + (i : Nat) * (-1) = many - 1 - i := by omega
    rw [hat]
    walk_at "tlew"
    refine ⟨_, rfl, ?_⟩
    walk_at "tlew"
    rw [cut_to (show (0 : Int) ≤ many by omega), ← List.map_take]
    have htl : (ls.take many.toNat).length = many.toNat := by rw [List.length_take]; omega
    refine library_any hf1 (by omega) (by omega) (by omega) hws (by omega) (fun s hs => pls s (List.mem_of_mem_take hs)) pws pvs (by omega) hgo fun l f2 hf2 hlo => ?_
    walk_at "tlew"
    refine w_add_l (by simp only [List.length_cons, List.length_nil, List.length_map]; exact le_line (by omega)) ?_
    walk_at "tlew"
    refine w_lcI (fun ds j acc m => Gp j acc ∧ m = [some (fd f2)]) ?_
    walk_at "tlew"
    refine ⟨⟨⟨[], rfl, Nat.le_refl 0, fun p hp => (by cases hp)⟩, by trivial⟩, ?_, ?_⟩
    · rintro j d m acc hd ⟨⟨gn2, rfl, hg1, hg2⟩, rfl⟩
      obtain ⟨g, hg3, rfl⟩ := gs_at hd
      have hgok := hlo.gs.2 g (List.mem_of_getElem? hg3)
      have hlt := (List.getElem?_eq_some_iff.mp hg3).1
      have hl4 := hlo.gs.1
      walk_at "tlew"
      simp only [wipeR]
      walk_at "tlew"
      refine ⟨fun _ => ?_, fun _ => ⟨fun z => (by cases z), fun _ => ⟨⟨gn2, rfl, Nat.le_succ_of_le hg1, hg2⟩, by trivial⟩⟩⟩
      walk_at "tlew"
      refine whole_w hgok.2.2 ?_
      walk_at "tlew"
      refine ⟨fun _ => ?_, fun _ => ⟨⟨gn2, rfl, Nat.le_succ_of_le hg1, hg2⟩, by trivial⟩⟩
      walk_at "tlew"
      refine w_str_at (show (0 : Int) ≤ many - 1 - i by omega) (by omega) pls fun name hname => ?_
      walk_at "tlew"
      refine ⟨lt_line (by rw [List.length_map]; omega), ⟨gn2 ++ [(g.w, name)], by rw [List.map_append]; rfl, by rw [List.length_append]; exact Nat.succ_le_succ hg1, fun p hp => ?_⟩, by trivial⟩
      rcases List.mem_append.mp hp with q | q
      · exact hg2 p q
      · rw [List.mem_singleton.mp q]; exact ⟨hgok.1, hname⟩
    · rintro acc m ⟨⟨gn2, rfl, hg1, hg2⟩, rfl⟩
      rw [List.length_map] at hg1
      have hl4 := hlo.gs.1
      walk_at "tlew"
      refine w_add_l (by simp only [List.length_map]; exact le_line (by omega)) ?_
      walk_at "tlew"
      rw [← List.map_append]
      refine ⟨f2, l :: fs, gn ++ gn2, _, _, _, hf2, by rw [List.length_cons, hfl], fun z hz => ?_, by rw [List.length_append]; omega, fun p hp => ?_, rfl, rfl⟩
      · rcases List.mem_cons.mp hz with q | q
        · rw [q]; exact hlo
        · exact hfo z q
      · rcases List.mem_append.mp hp with q | q
        · exact hgo p q
        · exact hg2 p q
  · rintro r m ⟨f1, fs, gn, e5, e9, e10, hf1, hfl, hfo, hgl, hgo, rfl, rfl⟩
    rw [rangeC_len] at hfl
    walk_at "tlew"
    exact h fs f1 hf1 (by omega) (by omega) hfo
end K21

end
/-! P21g -/
section
set_option maxHeartbeats 400000
namespace K21
open PySem L2 TL
theorem iswhole_w {x : PyData} {Q : PyData → Prop} (h : Wt x) (q : Q (.bool (wh x))) : W (m_is_whole [x]) Q := by
  rcases h with ⟨i, rfl, _, _⟩ | ⟨rs, rfl, _, _⟩
  · unfold m_is_whole b_is_whole
    walk_at "tlew"
    refine W.of (show isiD "int" (.int i) = some (.bool true) from rfl) ?_
    refine ⟨true, rfl, fun _ => ?_, fun z => (by cases z)⟩
    walk_at "tlew"
    refine W.of (show isiD "bool" (.int i) = some (.bool false) from rfl) ?_
    walk_at "tlew"
    exact q
  · unfold m_is_whole b_is_whole
    walk_at "tlew"
    refine W.of (show isiD "int" (.tuple rs) = some (.bool false) from rfl) ?_
    refine ⟨false, rfl, fun z => (by cases z), fun _ => ?_⟩
    walk_at "tlew"
    exact q
theorem w_in2 {x a b : Str} {R : PyData → Prop} (q : R (.bool (decide (a = x) || decide (b = x)))) : W (inD (.str x) (.tuple [.str a, .str b])) R := by
  have e : inD (.str x) (.tuple [.str a, .str b]) = some (.bool (decide (a = x) || decide (b = x))) := by
    unfold inD
    show Option.map PyData.bool (if flatD (.str x) = true ∧ [PyData.str a, .str b].all flatD = true then some ([PyData.str a, .str b].any fun z => PyData.eqv z (.str x)) else none) = _
    rw [if_pos ⟨rfl, rfl⟩]
    have e1 : ∀ a : Str, PyData.eqv (.str a) (.str x) = decide (a = x) := fun a => by
      simp only [PyData.eqv]
      by_cases h : a = x
      · subst h; simp
      · rw [decide_eq_false h]; simpa using h
    simp only [List.any_cons, List.any_nil, e1, Bool.or_false, Option.map_some]
  exact W.of e q
def fitB (g : Gv) (u : Us) : Bool := decide (g.w = u.w) && (wh g.x == u.c) && (decide (g.v = "") || (decide (u.v = g.v) || (decide (u.v = "") && g.c)))
theorem fits_w {g : Gv} {u : Us} {Q : PyData → Prop} (h : g.ok) (q : Q (.bool (fitB g u))) : W (m_fits [g.d, u.d]) Q := by
  unfold m_fits b_fits
  walk_at "tlew"
  refine w_if ?_
  walk_at "tlew"
  refine ⟨fun h1 => ⟨fun _ => ?_, fun z => by cases z⟩, fun h1 => ?_⟩
  · walk_at "tlew"
    have e : fitB g u = false := by
      have : ¬ g.w = u.w := by simpa using h1
      simp [fitB, this]
    rw [← e]
    exact q
  · have h1 : g.w = u.w := by simpa using h1
    walk_at "tlew"
    refine iswhole_w h.2.2 ?_
    walk_at "tlew"
    refine ⟨fun h2 => ?_, fun h2 => ?_⟩
    · walk_at "tlew"
      have e : fitB g u = false := by
        have : (wh g.x == u.c) = false := by simpa using h2
        simp only [fitB, this, Bool.and_false, Bool.false_and]
      rw [← e]
      exact q
    · have h2 : (wh g.x == u.c) = true := by simpa using h2
      walk_at "tlew"
      refine ⟨_, rfl, fun h3 => ?_, fun h3 => ?_⟩
      · walk_at "tlew"
        refine ⟨_, rfl, fun h4 => ?_, fun h4 => ?_⟩
        · walk_at "tlew"
          have e : fitB g u = true := by
            have h3 : u.v = "" := by simpa using h3
            simp [fitB, h1, h2, h3, h4]
          rw [← e]
          exact q
        · walk_at "tlew"
          refine w_in2 ?_
          have e : fitB g u = (decide (u.v = g.v) || decide ("" = g.v)) := by
            simp only [fitB, h1, h2, h4, decide_true, Bool.and_false, Bool.or_false, Bool.true_and]
            rw [Bool.or_comm]
            congr 1
            exact decide_eq_decide.mpr ⟨Eq.symm, Eq.symm⟩
          rw [← e]
          exact q
      · refine ⟨_, rfl, fun z => (by cases z), fun _ => ?_⟩
        walk_at "tlew"
        refine w_in2 ?_
        have e : fitB g u = (decide (u.v = g.v) || decide ("" = g.v)) := by
          simp only [fitB, h1, h2, h3, decide_true, Bool.false_and, Bool.or_false, Bool.true_and]
          rw [Bool.or_comm]
          congr 1
          exact decide_eq_decide.mpr ⟨Eq.symm, Eq.symm⟩
        rw [← e]
        exact q
theorem law_fits_w {g : Gv} {u : Us} {Q : PyData → Prop} (h : g.ok) (q : Q (.bool (fitB g u))) : W (m__law_fits [g.d, u.d]) Q := by
  unfold m__law_fits b__law_fits
  walk_at "tlew"
  refine w_if ?_
  walk_at "tlew"
  refine ⟨fun h1 => ⟨fun _ => ?_, fun z => by cases z⟩, fun h1 => ?_⟩
  · walk_at "tlew"
    have e : fitB g u = false := by
      have : ¬ g.w = u.w := by simpa using h1
      simp [fitB, this]
    rw [← e]
    exact q
  · have h1 : g.w = u.w := by simpa using h1
    walk_at "tlew"
    refine whole_w h.2.2 ?_
    walk_at "tlew"
    refine ⟨fun h2 => ?_, fun h2 => ?_⟩
    · walk_at "tlew"
      have e : fitB g u = false := by
        have : (wh g.x == u.c) = false := by simpa using h2
        simp only [fitB, this, Bool.and_false, Bool.false_and]
      rw [← e]
      exact q
    · have h2 : (wh g.x == u.c) = true := by simpa using h2
      walk_at "tlew"
      refine w_if ?_
      walk_at "tlew"
      refine ⟨fun h3 => ?_, fun h3 => ?_⟩
      · walk_at "tlew"
        have e : fitB g u = true := by
          have h3 : g.v = "" := by simpa using h3
          simp [fitB, h1, h2, h3]
        rw [← e]
        exact q
      · walk_at "tlew"
        have h3 : decide (g.v = "") = false := h3
        have e : fitB g u = (decide (g.v = u.v) || (decide (u.v = "") && g.c)) := by
          simp only [fitB, h1, h2, h3, decide_true, Bool.false_or, Bool.true_and]
          congr 1
          exact decide_eq_decide.mpr ⟨Eq.symm, Eq.symm⟩
        refine ⟨_, rfl, fun h4 => ?_, fun h4 => ?_⟩
        · rw [h4, Bool.true_or] at e
          rw [← e]
          exact q
        · walk_at "tlew"
          refine ⟨_, rfl, fun h5 => ?_, fun h5 => ?_⟩
          · walk_at "tlew"
            rw [h4, h5, Bool.false_or, Bool.true_and] at e
            rw [← e]
            exact q
          · rw [h4, h5, Bool.false_or, Bool.false_and] at e
            rw [← e]
            exact q
end K21

end
/-! P21h -/
section
set_option maxHeartbeats 400000
namespace K21
open PySem L2 TL
abbrev Hit := Nat × Nat × Bool
abbrev hd (h : Hit) : PyData := .tuple [.int h.1, .int h.2.1, .bool h.2.2]
def rD : Option Hit → PyData
  | none => .none
  | some h => .tuple [.int h.1, .int h.2.1]
def S1 (H : List Hit) : Option Hit := (H.filter fun h => !h.2.2).head?
def pickH (faint : Bool) (H : List Hit) : Option Hit := if faint && (S1 H).isSome then S1 H else H.head?
theorem atI_m1 {x y z : PyData} : atI [x, y, z] (-1) = some z := rfl
def fmD : Option Hit → PyData
  | none => .none
  | some h => hd h
theorem hit_at {H : List Hit} {i : Nat} {d : PyData} (h : (H.map hd)[i]? = some d) : ∃ z, H[i]? = some z ∧ d = hd z := by
  rw [List.getElem?_map] at h
  cases e : H[i]? with
  | none => rw [e] at h; cases h
  | some g => rw [e] at h; exact ⟨g, rfl, (Option.some.inj h).symm⟩
theorem first_meant_w {H : List Hit} {faint : Bool} {Q : PyData → Prop} (hl : H.length ≤ 1000) (q : Q (fmD (pickH faint H))) : W (m_first_meant [.list (H.map hd), .bool faint]) Q := by
  unfold m_first_meant b_first_meant
  refine w_runD ?_
  walk_at "tln"
  refine w_seq (w_set ?_)
  refine w_lcI (fun ds i acc m => acc = ((H.take i).filter fun h => !h.2.2).map hd ∧ m = []) ?_
  walk_at "tlew"
  refine ⟨⟨by simp, by trivial⟩, ?_, ?_⟩
  · rintro i d m acc hd1 ⟨rfl, rfl⟩
    obtain ⟨z, hz, rfl⟩ := hit_at hd1
    have hlt := (List.getElem?_eq_some_iff.mp hz).1
    have hk : (((H.take i).filter fun h => !h.2.2).map hd).length < sizeLine := by
      rw [List.length_map]
      have := List.length_filter_le (fun h : Hit => !h.2.2) (H.take i)
      rw [List.length_take] at this
      exact lt_line (by omega)
    walk_at "tlew"
    simp only [wipeR]
    walk_at "tlew"
    refine W.of atI_m1 ?_
    walk_at "tlew"
    rw [take_eq hz, List.filter_append]
    refine ⟨fun hb => ?_, fun hb => ?_⟩
    · walk_at "tlew"
      refine ⟨hk, ?_, by trivial⟩
      simp [hb]
    · refine ⟨?_, by trivial⟩
      simp [hb]
  · rintro acc m ⟨rfl, rfl⟩
    rw [List.length_map, List.take_length]
    refine w_seq (W.mono (P := fun o => (faint && (S1 H).isSome) = false ∧ o = Out.nx [.fz (.list (H.map hd)), .fz (.bool faint), .fz (.list ((H.filter fun h => !h.2.2).map hd)), .un] [] ∨ (faint && (S1 H).isSome) = true ∧ o = Out.rt (fmD (S1 H)) []) ?_ ?_)
    · refine w_if ?_
      walk_at "tlew"
      refine ⟨fun hf => ?_, fun hf => ⟨fun z => (by cases z), fun _ => ?_⟩⟩
      · walk_at "tlew"
        subst hf
        unfold S1
        cases hs : H.filter fun h => !h.2.2 with
        | nil =>
          walk_at "tlew"
          refine ⟨fun z => (by cases z), fun _ => ?_⟩
          walk_at "tlew"
          exact .inl ⟨by rfl, by trivial⟩
        | cons a as =>
          walk_at "tlew"
          refine ⟨fun _ => ?_, fun z => (by cases z)⟩
          walk_at "tlew"
          exact .inr ⟨by rfl, rfl⟩
      · walk_at "tlew"
        subst hf
        exact .inl ⟨by rfl, by trivial⟩
    · rintro o (⟨e, rfl⟩ | ⟨e, rfl⟩)
      · walk_at "tlew"
        unfold pickH at q
        rw [if_neg (by rw [e]; exact Bool.false_ne_true)] at q
        cases H with
        | nil =>
          refine ⟨fun z => (by cases z), fun _ => ?_⟩
          walk_at "tlew"
          exact q
        | cons a as =>
          refine ⟨fun _ => ?_, fun z => (by cases z)⟩
          walk_at "tlew"
          exact q
      · walk_at "tlew"
        unfold pickH at q
        rw [if_pos e] at q
        exact q
end K21

end
/-! P21i -/
section
set_option maxHeartbeats 400000
namespace K21
open PySem L2 TL
def hitsG (p : Nat) (gs : List Gv) (u : Us) : List Hit := (gs.zipIdx.filter fun q => fitB q.1 u).map fun q => (p, q.2, q.1.f)
def hits (ls : List Lb) (u : Us) : List Hit := (ls.zipIdx.map fun q => hitsG q.2 q.1.gs u).flatten
theorem hitsG_snoc {p : Nat} {gs : List Gv} {u : Us} {j : Nat} {g : Gv} (h : gs[j]? = some g) : hitsG p (gs.take (j + 1)) u = hitsG p (gs.take j) u ++ if fitB g u = true then [(p, j, g.f)] else [] := by
  have hl : (gs.take j).length = j := by
    have := (List.getElem?_eq_some_iff.mp h).1
    rw [List.length_take]
    omega
  unfold hitsG
  rw [take_eq h, List.zipIdx_append, List.filter_append, List.map_append, hl, Nat.zero_add]
  congr 1
  simp only [List.zipIdx_cons, List.zipIdx_nil, List.filter_cons, List.filter_nil]
  split <;> rfl
theorem hits_snoc {ls : List Lb} {u : Us} {i : Nat} {l : Lb} (h : ls[i]? = some l) : hits (ls.take (i + 1)) u = hits (ls.take i) u ++ hitsG i l.gs u := by
  have hl : (ls.take i).length = i := by
    have := (List.getElem?_eq_some_iff.mp h).1
    rw [List.length_take]
    omega
  unfold hits
  rw [take_eq h, List.zipIdx_append, List.map_append, List.flatten_append, hl, Nat.zero_add]
  simp only [List.zipIdx_cons, List.zipIdx_nil, List.map_cons, List.map_nil, List.flatten_cons, List.flatten_nil, List.append_nil]
theorem hitsG_len (p : Nat) (gs : List Gv) (u : Us) : (hitsG p gs u).length ≤ gs.length := by
  unfold hitsG
  rw [List.length_map]
  have := List.length_filter_le (fun q : Gv × Nat => fitB q.1 u) gs.zipIdx
  rwa [List.length_zipIdx] at this
theorem hits_len {u : Us} : ∀ {ls : List Lb} {i : Nat}, (∀ l ∈ ls, l.ok) → i ≤ ls.length → (hits (ls.take i) u).length ≤ 4 * i
  | ls, 0, _, _ => by simp [hits]
  | ls, i + 1, h, hi => by
    have e : ls[i]? = some (ls[i]'hi) := List.getElem?_eq_getElem hi
    rw [hits_snoc e, List.length_append]
    have h1 := hits_len (u := u) (i := i) h (by omega)
    have h2 := hitsG_len i (ls[i]'hi).gs u
    have h3 := (h _ (List.getElem_mem hi)).gs.1
    omega
theorem lb_at {ls : List Lb} {i : Nat} {d : PyData} (h : (ls.map Lb.d)[i]? = some d) : ∃ l, ls[i]? = some l ∧ d = l.d := by
  rw [List.getElem?_map] at h
  cases e : ls[i]? with
  | none => rw [e] at h; cases h
  | some g => rw [e] at h; exact ⟨g, rfl, (Option.some.inj h).symm⟩
theorem meaning_w {ls : List Lb} {u : Us} {faint : Bool} {Q : PyData → Prop} (hl : ls.length ≤ 100) (ho : ∀ l ∈ ls, l.ok) (q : Q (rD (pickH faint (hits ls u)))) : W (m_meaning [.list (ls.map Lb.d), u.d, .bool faint]) Q := by
  unfold m_meaning b_meaning
  refine w_runD ?_
  walk_at "tln"
  refine w_seq (w_set ?_)
  refine w_lc2I (fun ds i acc => acc = (hits (ls.take i) u).map hd) ?_
  walk_at "tlew"
  refine ⟨by trivial, by simp [hits], ?_, ?_⟩
  · rintro i d acc hd1 rfl
    obtain ⟨d1, hd2, rfl⟩ := enum_at hd1
    obtain ⟨l, hl1, rfl⟩ := lb_at hd2
    have hlo := ho l (List.mem_of_getElem? hl1)
    have hlt := (List.getElem?_eq_some_iff.mp hl1).1
    have hb := hits_len (u := u) (i := i) ho (by omega)
    simp only [wipeR]
    walk_at "tlew"
    refine ⟨by trivial, by trivial, fun j acc => acc = (hits (ls.take i) u ++ hitsG i (l.gs.take j) u).map hd, by simp [hitsG], ?_, ?_⟩
    · rintro j d acc hd3 rfl
      obtain ⟨d3, hd4, rfl⟩ := enum_at hd3
      obtain ⟨g, hg1, rfl⟩ := gs_at hd4
      have hgo := hlo.gs.2 g (List.mem_of_getElem? hg1)
      have hgl := hlo.gs.1
      have hb2 := hitsG_len i (l.gs.take j) u
      rw [List.length_take] at hb2
      simp only [wipeR]
      walk_at "tlew"
      refine fits_w hgo ?_
      walk_at "tlew"
      rw [hitsG_snoc hg1]
      refine ⟨by trivial, fun hf => ?_, fun hf => ?_⟩
      · walk_at "tlew"
        refine ⟨by trivial, lt_line (by rw [List.length_map, List.length_append]; omega), ?_⟩
        rw [if_pos hf, ← List.append_assoc]
        simp only [List.map_append, List.map_cons, List.map_nil]
      · rw [if_neg (by rw [hf]; exact Bool.false_ne_true), List.append_nil]
    · rintro acc rfl
      rw [enum_len, List.length_map, List.take_length, hits_snoc hl1]
  · rintro acc rfl
    rw [enum_len, List.length_map, List.take_length]
    have hb := hits_len (u := u) (i := ls.length) ho (Nat.le_refl _)
    rw [List.take_length] at hb
    walk_at "tlew"
    refine first_meant_w (by omega) ?_
    walk_at "tlew"
    unfold rD at q
    cases e : pickH faint (hits ls u) with
    | none =>
      rw [e] at q
      unfold fmD
      walk_at "tlew"
      refine ⟨fun _ => ?_, fun z => (by cases z)⟩
      walk_at "tlew"
      exact q
    | some h =>
      rw [e] at q
      unfold fmD
      walk_at "tlew"
      refine ⟨fun z => (by cases z), fun _ => ?_⟩
      walk_at "tlew"
      refine ⟨_, rfl, ?_⟩
      walk_at "tlew"
      rw [cut_to (by decide)]
      exact q
end K21

end
/-! P21j -/
section
set_option maxHeartbeats 400000
namespace K21
open PySem L2 TL
theorem head_snoc (H : List Hit) (x : Hit) : (H ++ [x]).head? = if H.head?.isNone then some x else H.head? := by
  cases H <;> rfl
theorem S1_snoc (H : List Hit) (x : Hit) : S1 (H ++ [x]) = if (S1 H).isNone && !x.2.2 then some x else S1 H := by
  unfold S1
  rw [List.filter_append]
  cases hx : x.2.2 with
  | true =>
    have : List.filter (fun h : Hit => !h.2.2) [x] = [] := by simp [hx]
    rw [this, List.append_nil]
    simp
  | false =>
    have : List.filter (fun h : Hit => !h.2.2) [x] = [x] := by simp [hx]
    rw [this]
    cases List.filter (fun h : Hit => !h.2.2) H <;> rfl
theorem isn_rD {o : Option Hit} {b : Bool} (h : (match rD o with | .none => true | _ => false) = b) : o.isNone = b := by
  cases o <;> exact h
theorem isnot_rD {o : Option Hit} {b : Bool} (h : (match rD o with | .none => false | _ => true) = b) : o.isSome = b := by
  cases o <;> exact h
theorem due_w {ls : List Lb} {u : Us} {weak : Bool} {Q : PyData → Prop} (ho : ∀ l ∈ ls, l.ok) (q : Q (rD (pickH weak (hits ls u)))) : W (m__law_due [.list (ls.map Lb.d), u.d, .bool weak]) Q := by
  unfold m__law_due b__law_due
  walk_at "tlew"
  refine w_for (fun ds i r m => ∃ (e5 e6 e7 e8 : Sl), r = [.fz (.list (ls.map Lb.d)), .fz u.d, .fz (.bool weak), .fz (rD (hits (ls.take i) u).head?), .fz (rD (S1 (hits (ls.take i) u))), e5, e6, e7, e8] ∧ m = []) ?_
  walk_at "tlew"
  refine ⟨⟨_, _, _, _, rfl, by trivial⟩, ?_, ?_⟩
  · rintro i d r m hd1 ⟨e5, e6, e7, e8, rfl, rfl⟩
    obtain ⟨d1, hd2, rfl⟩ := enum_at hd1
    obtain ⟨l, hl1, rfl⟩ := lb_at hd2
    have hlo := ho l (List.mem_of_getElem? hl1)
    walk_at "tlew"
    refine w_for (fun ds j r m => ∃ (e7 e8 : Sl), r = [.fz (.list (ls.map Lb.d)), .fz u.d, .fz (.bool weak), .fz (rD (hits (ls.take i) u ++ hitsG i (l.gs.take j) u).head?), .fz (rD (S1 (hits (ls.take i) u ++ hitsG i (l.gs.take j) u))), .fz (.int (i : Nat)), .fz l.d, e7, e8] ∧ m = []) ?_
    walk_at "tlew"
    refine ⟨⟨e7, e8, by simp only [List.take_zero, hitsG, List.zipIdx_nil, List.filter_nil, List.map_nil, List.append_nil], by trivial⟩, ?_, ?_⟩
    · rintro j d r m hd3 ⟨e7, e8, rfl, rfl⟩
      obtain ⟨d3, hd4, rfl⟩ := enum_at hd3
      obtain ⟨g, hg1, rfl⟩ := gs_at hd4
      have hgo := hlo.gs.2 g (List.mem_of_getElem? hg1)
      rw [hitsG_snoc hg1, ← List.append_assoc]
      generalize hits (ls.take i) u ++ hitsG i (l.gs.take j) u = H
      refine w_hTup rfl (w_hCons (w_hNm (w_hCons (w_hNm (w_hNil ?_)))))
      walk_at "tln"
      refine w_seq (W.mono (P := fun o => o = Out.nx [.fz (.list (ls.map Lb.d)), .fz u.d, .fz (.bool weak), .fz (rD (H ++ if fitB g u = true then [(i, j, g.f)] else []).head?), .fz (rD (S1 H)), .fz (.int (i : Nat)), .fz l.d, .fz (.int (j : Nat)), .fz g.d] []) ?_ ?_)
      · refine w_if ?_
        walk_at "tlew"
        refine law_fits_w hgo ?_
        walk_at "tlew"
        refine ⟨fun hf => ?_, fun hf => ⟨fun z => (by cases z), fun _ => ?_⟩⟩
        · walk_at "tlew"
          rw [if_pos hf, head_snoc]
          refine ⟨fun hn => ?_, fun hn => ?_⟩
          · have hn := isn_rD hn
            walk_at "tlew"
            rw [if_pos hn]
            rfl
          · have hn := isn_rD hn
            walk_at "tlew"
            rw [if_neg (by rw [hn]; exact Bool.false_ne_true)]
        · walk_at "tlew"
          rw [if_neg (by rw [hf]; exact Bool.false_ne_true), List.append_nil]
      · rintro o rfl
        walk_at "tlew"
        refine W.mono (P := fun o => o = Out.nx [.fz (.list (ls.map Lb.d)), .fz u.d, .fz (.bool weak), .fz (rD (H ++ if fitB g u = true then [(i, j, g.f)] else []).head?), .fz (rD (S1 (H ++ if fitB g u = true then [(i, j, g.f)] else []))), .fz (.int (i : Nat)), .fz l.d, .fz (.int (j : Nat)), .fz g.d] []) ?_ ?_
        · refine w_if ?_
          walk_at "tlew"
          refine law_fits_w hgo ?_
          walk_at "tlew"
          refine ⟨fun hf => ?_, fun hf => ⟨fun z => (by cases z), fun _ => ?_⟩⟩
          · walk_at "tlew"
            rw [if_pos hf, S1_snoc]
            refine ⟨fun hn => ?_, fun hn => ⟨fun z => (by cases z), fun _ => ?_⟩⟩
            · have hn := isn_rD hn
              walk_at "tlew"
              refine ⟨fun hx => ?_, fun hx => ?_⟩
              · walk_at "tlew"
                rw [hn, hx]
                rfl
              · walk_at "tlew"
                rw [hn, hx]
                rfl
            · have hn := isn_rD hn
              walk_at "tlew"
              rw [hn]
              rfl
          · walk_at "tlew"
            rw [if_neg (by rw [hf]; exact Bool.false_ne_true), List.append_nil]
        · rintro o rfl
          exact ⟨_, _, rfl, rfl⟩
    · rintro r m ⟨e7, e8, rfl, rfl⟩
      rw [enum_len, List.length_map, List.take_length]
      walk_at "tlew"
      rw [hits_snoc hl1]
      exact ⟨_, _, _, _, rfl, by trivial⟩
  · rintro r m ⟨e5, e6, e7, e8, rfl, rfl⟩
    rw [enum_len, List.length_map, List.take_length]
    walk_at "tlew"
    unfold pickH at q
    refine ⟨fun hw => ?_, fun hw => ⟨fun z => (by cases z), fun _ => ?_⟩⟩
    · walk_at "tlew"
      refine ⟨fun hs => ?_, fun hs => ?_⟩
      · have hs := isnot_rD hs
        walk_at "tlew"
        rw [hw, hs] at q
        exact q
      · have hs := isnot_rD hs
        walk_at "tlew"
        rw [hw, hs] at q
        exact q
    · walk_at "tlew"
      rw [hw] at q
      exact q
end K21

end
/-! P21k -/
section
set_option maxHeartbeats 400000
namespace K21
open PySem L2 TL

theorem pick_anyT {f : Int × Int} {ds : List PyData} {Q : PyData × PyData → Prop} (hf : FO f) (h0 : 0 < ds.length) (h1 : ds.length < 1000000) (h : ∀ (d : PyData) (f' : Int × Int), d ∈ ds → FO f' → Q (d, fd f')) : W (m__law_pick (fd f) [.tuple ds]) Q := by
  unfold m__law_pick b__law_pick
  walk_at "tlew"
  refine take_any hf (by omega) (log_fit (by omega) (by omega)).2 fun v f' v0 v1 hf' => ?_
  walk_at "tlew"
  refine w_at (atI_in v0 v1) ?_
  walk_at "tlew"
  exact h _ f' (List.getElem_mem _) hf'
theorem scope_any {f : Int × Int} {ls : List Lb} {Q : PyData × PyData → Prop} (hf : FO f) (h0 : 0 < ls.length) (h1 : ls.length ≤ 8)
    (h : ∀ (sc : List Lb) (f' : Int × Int), FO f' → sc.length ≤ 10 → (∀ l ∈ sc, l ∈ ls) → Q (.list (sc.map Lb.d), fd f')) : W (m__law_scope (fd f) [.tuple (ls.map Lb.d)]) Q := by
  unfold m__law_scope b__law_scope
  refine w_runR ?_
  walk_at "tln"
  refine w_ret ?_
  refine w_lcI (fun ds i acc m => ds.length ≤ 10 ∧ ∃ (sc : List Lb) (f1 : Int × Int), acc = sc.map Lb.d ∧ sc.length = i ∧ (∀ l ∈ sc, l ∈ ls) ∧ FO f1 ∧ m = [some (fd f1)]) ?_
  walk_at "tlew"
  refine take_any hf (by decide) (by decide +kernel) fun many f1 m0 m1 hf1 => ?_
  walk_at "tlew"
  refine ⟨_, rfl, by omega, ⟨by rw [range_len]; omega, [], f1, rfl, rfl, fun l hl => (by cases hl), hf1, by trivial⟩, ?_, ?_⟩
  · rintro i d m acc hd1 ⟨hdl, sc, f2, rfl, hsl, hso, hf2, rfl⟩
    have hlt := (List.getElem?_eq_some_iff.mp hd1).1
    walk_at "tlew"
    simp only [wipeR]
    walk_at "tlew"
    refine ⟨fun _ => ?_, fun z => by cases z⟩
    walk_at "tlew"
    refine pick_anyT hf2 (by rw [List.length_map]; exact h0) (by rw [List.length_map]; omega) fun y f3 hy hf3 => ?_
    obtain ⟨l, hl, rfl⟩ := List.mem_map.mp hy
    walk_at "tlew"
    refine ⟨lt_line (by rw [List.length_map]; omega), hdl, sc ++ [l], f3, by rw [List.map_append]; rfl, by rw [List.length_append, hsl]; rfl, fun z hz => ?_, hf3, by trivial⟩
    rcases List.mem_append.mp hz with q | q
    · exact hso z q
    · rw [List.mem_singleton.mp q]; exact hl
  · rintro acc m ⟨hdl, sc, f2, rfl, hsl, hso, hf2, rfl⟩
    walk_at "tlew"
    exact h sc f2 hf2 (by omega) hso
/-- words by a list of texts -/
def Wl (k : Nat) (d : PyData) : Prop := ∃ ss : List Str, d = .list (ss.map .str) ∧ 0 < ss.length ∧ ss.length ≤ k ∧ ∀ s ∈ ss, Lw 8 s
theorem Wl.add {k n : Nat} {ss : List Str} {ts : List Str} (h : 0 < ss.length ∧ ss.length ≤ k ∧ ∀ s ∈ ss, Lw 8 s) (h2 : ts.length ≤ n ∧ ∀ s ∈ ts, Lw 8 s) : Wl (k + n) (.list (ss.map PyData.str ++ ts.map .str)) := by
  refine ⟨ss ++ ts, by rw [List.map_append], by rw [List.length_append]; omega, by rw [List.length_append]; omega, fun s hs => ?_⟩
  rcases List.mem_append.mp hs with q | q
  · exact h.2.2 s q
  · exact h2.2 s q
theorem us_at {us : List Us} {i : Nat} {d : PyData} (h : (us.map Us.d)[i]? = some d) : ∃ l, us[i]? = some l ∧ d = l.d := by
  rw [List.getElem?_map] at h
  cases e : us[i]? with
  | none => rw [e] at h; cases h
  | some g => rw [e] at h; exact ⟨g, rfl, (Option.some.inj h).symm⟩
theorem uses_any {f : Int × Int} {ls : List Lb} {Q : PyData × PyData → Prop} (hf : FO f) (h1 : ls.length ≤ 8) (ho : ∀ l ∈ ls, l.ok)
    (h : ∀ (us : List Us) (f' : Int × Int), FO f' → us.length ≤ 12 → (∀ u ∈ us, u.ok) → Q (.list (us.map Us.d), fd f')) : W (m__law_uses (fd f) [.tuple (ls.map Lb.d)]) Q := by
  unfold m__law_uses b__law_uses
  walk_at "tlew"
  refine w_for (fun ds i r m => ∃ (w v : PyData) (e4 : Sl), Wl (1 + 8 * i) w ∧ Wl (2 + 4 * i) v ∧ r = [.ow 0, .fz (.tuple (ls.map Lb.d)), .fz w, .fz v, e4, .un, .un, .un, .un, .un, .un, .un] ∧ m = [some (fd f)]) ?_
  walk_at "tlew"
  refine ⟨⟨_, _, _, ⟨["zz"], rfl, by decide, by decide, fun s hs => by rw [List.mem_singleton.mp hs]; decide +kernel⟩, ⟨["", ""], rfl, by decide, by decide, fun s hs => ?_⟩, rfl, by trivial⟩, ?_, ?_⟩
  · simp only [List.mem_cons, List.not_mem_nil, or_false, or_self] at hs
    rw [hs]; decide +kernel
  · rintro i d r m hd1 ⟨w, v, e4, ⟨ws, rfl, hw0, hw1, hw2⟩, ⟨vs, rfl, hv0, hv1, hv2⟩, rfl, rfl⟩
    obtain ⟨l, hl1, rfl⟩ := lb_at hd1
    have hlo := ho l (List.mem_of_getElem? hl1)
    have hlt := (List.getElem?_eq_some_iff.mp hl1).1
    have hg4 := hlo.gs.1
    have hu4 := hlo.us.1
    walk_at "tlew"
    refine w_lcI (fun ds i acc m => (∃ ss : List Str, acc = ss.map .str ∧ ss.length ≤ i ∧ ∀ s ∈ ss, Lw 8 s) ∧ m = [some (fd f)]) ?_
    walk_at "tlew"
    refine ⟨⟨⟨[], rfl, Nat.le_refl 0, fun s hs => (by cases hs)⟩, by trivial⟩, ?_, ?_⟩
    · rintro j d m acc hd2 ⟨⟨ss, rfl, hs1, hs2⟩, rfl⟩
      obtain ⟨g, hg1, rfl⟩ := gs_at hd2
      have hgo := hlo.gs.2 g (List.mem_of_getElem? hg1)
      have hlt2 := (List.getElem?_eq_some_iff.mp hg1).1
      walk_at "tlew"
      simp only [wipeR]
      walk_at "tlew"
      refine ⟨fun _ => ?_, fun z => by cases z⟩
      walk_at "tlew"
      exact ⟨lt_line (by rw [List.length_map]; omega), ⟨ss ++ [g.w], by rw [List.map_append]; rfl, by rw [List.length_append]; exact Nat.succ_le_succ hs1, snoc_s hs2 hgo.1⟩, by trivial⟩
    · rintro acc m ⟨⟨s1, rfl, hs1, hs2⟩, rfl⟩
      rw [List.length_map] at hs1
      walk_at "tlew"
      refine w_add_l (by simp only [List.length_map]; exact le_line (by omega)) ?_
      obtain ⟨ws2, e2, hx0, hx1, hx2⟩ := Wl.add (n := 4) ⟨hw0, hw1, hw2⟩ ⟨by omega, hs2⟩
      rw [e2]
      walk_at "tlew"
      refine w_lcI (fun ds i acc m => (∃ ss : List Str, acc = ss.map .str ∧ ss.length ≤ i ∧ ∀ s ∈ ss, Lw 8 s) ∧ m = [some (fd f)]) ?_
      walk_at "tlew"
      refine ⟨⟨⟨[], rfl, Nat.le_refl 0, fun s hs => (by cases hs)⟩, by trivial⟩, ?_, ?_⟩
      · rintro j d m acc hd2 ⟨⟨ss, rfl, hs1, hs2⟩, rfl⟩
        obtain ⟨g, hg1, rfl⟩ := us_at hd2
        have hgo := hlo.us.2 g (List.mem_of_getElem? hg1)
        have hlt2 := (List.getElem?_eq_some_iff.mp hg1).1
        walk_at "tlew"
        simp only [wipeR]
        walk_at "tlew"
        refine ⟨fun _ => ?_, fun z => by cases z⟩
        walk_at "tlew"
        exact ⟨lt_line (by rw [List.length_map]; omega), ⟨ss ++ [g.w], by rw [List.map_append]; rfl, by rw [List.length_append]; exact Nat.succ_le_succ hs1, snoc_s hs2 hgo.1⟩, by trivial⟩
      · rintro acc m ⟨⟨s3, rfl, hs3, hs4⟩, rfl⟩
        rw [List.length_map] at hs3
        walk_at "tlew"
        refine w_add_l (by simp only [List.length_map]; exact le_line (by omega)) ?_
        obtain ⟨ws3, e3, hy0, hy1, hy2⟩ := Wl.add (n := 4) ⟨hx0, hx1, hx2⟩ ⟨by omega, hs4⟩
        rw [e3]
        walk_at "tlew"
        refine w_lcI (fun ds i acc m => (∃ ss : List Str, acc = ss.map .str ∧ ss.length ≤ i ∧ ∀ s ∈ ss, Lw 8 s) ∧ m = [some (fd f)]) ?_
        walk_at "tlew"
        refine ⟨⟨⟨[], rfl, Nat.le_refl 0, fun s hs => (by cases hs)⟩, by trivial⟩, ?_, ?_⟩
        · rintro j d m acc hd2 ⟨⟨ss, rfl, hs1, hs2⟩, rfl⟩
          obtain ⟨g, hg1, rfl⟩ := gs_at hd2
          have hgo := hlo.gs.2 g (List.mem_of_getElem? hg1)
          have hlt2 := (List.getElem?_eq_some_iff.mp hg1).1
          walk_at "tlew"
          simp only [wipeR]
          walk_at "tlew"
          refine ⟨fun _ => ?_, fun z => by cases z⟩
          walk_at "tlew"
          exact ⟨lt_line (by rw [List.length_map]; omega), ⟨ss ++ [g.v], by rw [List.map_append]; rfl, by rw [List.length_append]; exact Nat.succ_le_succ hs1, snoc_s hs2 hgo.2.1⟩, by trivial⟩
        · rintro acc m ⟨⟨s5, rfl, hs5, hs6⟩, rfl⟩
          rw [List.length_map] at hs5
          walk_at "tlew"
          refine w_add_l (by simp only [List.length_map]; exact le_line (by omega)) ?_
          have hv := Wl.add (n := 4) ⟨hv0, hv1, hv2⟩ ⟨by omega, hs6⟩
          walk_at "tlew"
          refine ⟨_, _, _, ⟨ws3, rfl, hy0, by omega, hy2⟩, ?_, rfl, by trivial⟩
          obtain ⟨vs3, e4, hz0, hz1, hz2⟩ := hv
          exact ⟨vs3, e4, hz0, by omega, hz2⟩
  · rintro r m ⟨w, v, e4, ⟨ws, rfl, hw0, hw1, hw2⟩, ⟨vs, rfl, hv0, hv1, hv2⟩, rfl, rfl⟩
    rw [List.length_map] at hw1 hv1
    walk_at "tlew"
    refine w_for (fun ds i r m => ds.length = 6 ∧ ∃ (f1 : Int × Int) (us : List Us) (e6 e8 : Sl), FO f1 ∧ us.length ≤ i ∧ (∀ u ∈ us, u.ok) ∧ r = [.ow 0, .fz (.tuple (ls.map Lb.d)), .fz (.list (ws.map .str)), .fz (.list (vs.map .str)), e4, .ow 1, e6, .un, e8, .un, .un, .un] ∧ m = [some (fd f1), some (.list (us.map Us.d))]) ?_
    walk_at "tlew"
    refine ⟨_, rfl, by omega, ⟨range_len _ _, f, [], _, _, hf, Nat.le_refl 0, fun u hu => (by cases hu), rfl, by trivial⟩, ?_, ?_⟩
    · rintro i x r m hx ⟨h6, f1, us, e6, e8, hf1, hul, huo, rfl, rfl⟩
      have hi := (List.getElem?_eq_some_iff.mp hx).1
      walk_at "tlew"
      refine take_any hf1 (by decide) (by decide +kernel) fun z f2 _ _ hf2 => ?_
      walk_at "tlew"
      refine w_app rfl rfl ?_
      refine W.mono (P := fun p => ∃ (u : Us) (f3 : Int × Int), u.ok ∧ FO f3 ∧ p = (u.d, [some (fd f3), some (.list (us.map Us.d))])) ?_ ?_
      · walk_at "tlew"
        refine pick_any hf2 (by rw [List.length_map]; exact hw0) (by rw [List.length_map]; omega) fun y f3 hy hf3 => ?_
        obtain ⟨word, hword, rfl⟩ := List.mem_map.mp hy
        walk_at "tlew"
        refine pick_any hf3 (by rw [List.length_map]; exact hv0) (by rw [List.length_map]; omega) fun y f4 hy hf4 => ?_
        obtain ⟨version, hver, rfl⟩ := List.mem_map.mp hy
        walk_at "tlew"
        refine ⟨_, rfl, fun hb => ?_, fun hb => ?_⟩
        · walk_at "tlew"
          exact ⟨⟨word, version, _, _⟩, f4, ⟨hw2 word hword, hv2 version hver⟩, hf4, rfl⟩
        · walk_at "tlew"
          refine take_any hf4 (by decide) (by decide +kernel) fun z f5 _ _ hf5 => ?_
          walk_at "tlew"
          exact ⟨⟨word, version, _, _⟩, f5, ⟨hw2 word hword, hv2 version hver⟩, hf5, rfl⟩
      · rintro p ⟨u, f3, hu, hf3, rfl⟩
        refine ⟨_, rfl, lt_line (by rw [List.length_map]; omega), h6, f3, us ++ [u], _, _, hf3, by rw [List.length_append]; exact Nat.succ_le_succ hul, fun z hz => ?_, rfl, ?_⟩
        · rcases List.mem_append.mp hz with q | q
          · exact huo z q
          · rw [List.mem_singleton.mp q]; exact hu
        · rw [List.map_append]
          rfl
    · rintro r m ⟨h6, f1, us, e6, e8, hf1, hul, huo, rfl, rfl⟩
      rw [h6] at hul
      walk_at "tlew"
      refine w_for (fun ds i r m => ∃ (gs : List Gv) (e4 : Sl), gs.length ≤ 4 * i ∧ (∀ g ∈ gs, g.ok) ∧ r = [.ow 0, .fz (.tuple (ls.map Lb.d)), .fz (.list (ws.map .str)), .fz (.list (vs.map .str)), e4, .ow 1, e6, .fz (.list (gs.map Gv.d)), e8, .un, .un, .un] ∧ m = [some (fd f1), some (.list (us.map Us.d))]) ?_
      walk_at "tlew"
      refine ⟨⟨[], _, Nat.le_refl 0, fun g hg => (by cases hg), rfl, by trivial⟩, ?_, ?_⟩
      · rintro i d r m hd1 ⟨gs, e4, hg1, hg2, rfl, rfl⟩
        obtain ⟨l, hl1, rfl⟩ := lb_at hd1
        have hlo := ho l (List.mem_of_getElem? hl1)
        have hlt := (List.getElem?_eq_some_iff.mp hl1).1
        have hg4 := hlo.gs.1
        walk_at "tlew"
        refine w_add_l (by simp only [List.length_map]; exact le_line (by omega)) ?_
        walk_at "tlew"
        rw [← List.map_append]
        refine ⟨gs ++ l.gs, _, by rw [List.length_append]; omega, fun g hg => ?_, rfl, by trivial⟩
        rcases List.mem_append.mp hg with q | q
        · exact hg2 g q
        · exact hlo.gs.2 g q
      · rintro r m ⟨gs, e4, hg1, hg2, rfl, rfl⟩
        rw [List.length_map] at hg1
        walk_at "tlew"
        refine w_for (fun ds i r m => ds.length ≤ 6 ∧ (0 < ds.length → 0 < gs.length) ∧ ∃ (f1 : Int × Int) (us : List Us) (e6 e9 e10 : Sl), FO f1 ∧ us.length ≤ 6 + i ∧ (∀ u ∈ us, u.ok) ∧ r = [.ow 0, .fz (.tuple (ls.map Lb.d)), .fz (.list (ws.map .str)), .fz (.list (vs.map .str)), e4, .ow 1, e6, .fz (.list (gs.map Gv.d)), e8, e9, e10, .un] ∧ m = [some (fd f1), some (.list (us.map Us.d))]) ?_
        walk_at "tlew"
        refine w_neX_ll0 (shaped_gs hg2) ?_
        walk_at "tlew"
        have hb : (if (!(gs.map Gv.d).isEmpty) = true then (1 : Int) else 0) = 0 ∨ (if (!(gs.map Gv.d).isEmpty) = true then (1 : Int) else 0) = 1 ∧ 0 < gs.length := by
          cases gs with
          | nil => exact .inl rfl
          | cons a as => exact .inr ⟨rfl, by simp⟩
        generalize (if (!(gs.map Gv.d).isEmpty) = true then (1 : Int) else 0) = one at hb
        refine ⟨_, rfl, by omega, ⟨by rw [range_len]; omega, fun hp => by rw [range_len] at hp; omega, f1, us, _, _, _, hf1, by omega, huo, rfl, by trivial⟩, ?_, ?_⟩
        · rintro i x r m hx ⟨h6, hp, f1, us, e6, e9, e10, hf1, hul, huo, rfl, rfl⟩
          have hi := (List.getElem?_eq_some_iff.mp hx).1
          have hgp := hp (by omega)
          walk_at "tlew"
          refine pick_any hf1 (by rw [List.length_map]; exact hgp) (by rw [List.length_map]; omega) fun y f2 hy hf2 => ?_
          obtain ⟨g, hg, rfl⟩ := List.mem_map.mp hy
          have hgo := hg2 g hg
          walk_at "tlew"
          refine pick_any hf2 (by rw [List.length_map]; exact hv0) (by rw [List.length_map]; omega) fun y f3 hy hf3 => ?_
          obtain ⟨v2, hv3, rfl⟩ := List.mem_map.mp hy
          walk_at "tlew"
          refine pick_any hf3 (by simp only [List.length_cons]; omega) (by simp only [List.length_cons, List.length_nil]; omega) fun y f4 hy hf4 => ?_
          have hver : ∃ version : Str, y = .str version ∧ Lw 8 version := by
            simp only [List.mem_cons, List.not_mem_nil, or_false] at hy
            rcases hy with q | q | q
            · exact ⟨_, q, by decide +kernel⟩
            · exact ⟨_, q, hgo.2.1⟩
            · exact ⟨_, q, hv2 v2 hv3⟩
          obtain ⟨version, rfl, hver⟩ := hver
          walk_at "tlew"
          refine w_app rfl rfl ?_
          walk_at "tlew"
          refine whole_w hgo.2.2 ?_
          walk_at "tlew"
          refine ⟨_, rfl, lt_line (by rw [List.length_map]; omega), h6, hp, f4, us ++ [⟨g.w, version, wh g.x, true⟩], _, _, _, hf4, by rw [List.length_append]; exact Nat.succ_le_succ hul, fun z hz => ?_, rfl, ?_⟩
          · rcases List.mem_append.mp hz with q | q
            · exact huo z q
            · rw [List.mem_singleton.mp q]; exact ⟨hgo.1, hver⟩
          · rw [List.map_append]
            rfl
        · rintro r m ⟨h6, hp, f1, us, e6, e9, e10, hf1, hul, huo, rfl, rfl⟩
          walk_at "tlew"
          refine w_frz rfl rfl ?_
          simp only [frz_cons, frz_nil, fz1_fz, fz1_un, fz1_eq]
          rw [fz1_ne (show (0 : Nat) ≠ 1 by decide)]
          walk_at "tlew"
          exact h us f1 hf1 (by omega) huo
end K21

end
/-! P21l -/
section
set_option maxHeartbeats 400000
namespace K21
open PySem L2 TL

theorem hitsG_mem {p : Nat} {gs : List Gv} {u : Us} {h : Hit} (hh : h ∈ hitsG p gs u) : h.1 = p ∧ h.2.1 < gs.length := by
  unfold hitsG at hh
  obtain ⟨q, hq, rfl⟩ := List.mem_map.mp hh
  have h1 := (List.mem_filter.mp hq).1
  exact ⟨rfl, (List.mem_zipIdx' h1).1⟩
theorem hits_mem {ls : List Lb} {u : Us} {h : Hit} (ho : ∀ l ∈ ls, l.ok) (hh : h ∈ hits ls u) : h.1 < ls.length ∧ h.2.1 < 4 := by
  unfold hits at hh
  obtain ⟨x, hx, hh⟩ := List.mem_flatten.mp hh
  obtain ⟨q, hq, rfl⟩ := List.mem_map.mp hx
  have h1 := List.mem_zipIdx' hq
  obtain ⟨h2, h3⟩ := hitsG_mem hh
  have h4 : q.1.gs.length ≤ 4 := by
    have : q.1 ∈ ls := by
      rw [h1.2]
      exact List.getElem_mem _
    exact (ho _ this).gs.1
  exact ⟨by rw [h2]; exact h1.1, by omega⟩
theorem pick_mem {faint : Bool} {H : List Hit} {h : Hit} (e : pickH faint H = some h) : h ∈ H := by
  unfold pickH S1 at e
  split at e
  · exact (List.mem_filter.mp (List.mem_of_mem_head? e)).1
  · exact List.mem_of_mem_head? e
theorem rD_sh {ls : List Lb} {u : Us} {faint : Bool} (hl : ls.length ≤ 100) (ho : ∀ l ∈ ls, l.ok) : Sh 84 1 (rD (pickH faint (hits ls u))) := by
  cases e : pickH faint (hits ls u) with
  | none => exact Sh.non.mono (by decide) (by decide)
  | some h =>
    have hm := hits_mem ho (pick_mem e)
    refine (Sh.tup (w := 41) (k := 0) (n := 2) (fun d hd => ?_) (by simp only [List.length_cons, List.length_nil]; decide)).mono (by decide) (by decide)
    rcases List.mem_cons.mp hd with q | q
    · rw [q]; exact sh_i (by omega) (by omega)
    · rw [List.mem_singleton.mp q]; exact sh_i (by omega) (by omega)
theorem strs_sh {ss : List Str} {n : Nat} (hl : ss.length ≤ n) (h : ∀ s ∈ ss, Lw 8 s) : Sh (n * 42) 1 (.tuple (ss.map .str)) := Sh.tup (w := 41) (k := 0) (fun d hd => by
  obtain ⟨s, hs, rfl⟩ := List.mem_map.mp hd
  exact sh_nm (h s hs) (by decide)) (by rw [List.length_map]; exact hl)
theorem Lb.sh {l : Lb} (h : l.ok) : Sh 71295 5 l.d := by
  refine (Sh.tup (w := 10184) (k := 4) (n := 7) (fun d hd => ?_) (by simp only [List.length_cons, List.length_nil]; decide)).mono (by decide) (by decide)
  simp only [List.mem_cons, List.not_mem_nil, or_false] at hd
  rcases hd with q | q | q | q | q | q | q <;> rw [q]
  · exact (Sh.str h.n).mono (by decide) (by decide)
  · exact (strs_sh h.ns.1 h.ns.2).mono (by decide) (by decide)
  · exact (Sh.tup (w := 2545) (k := 3) (fun d hd => by
      obtain ⟨g, hg, rfl⟩ := List.mem_map.mp hd
      exact Gv.sh (h.gs.2 g hg)) (by rw [List.length_map]; exact h.gs.1)).mono (by decide) (by decide)
  · exact (Sh.tup (w := 168) (k := 1) (fun d hd => by
      obtain ⟨g, hg, rfl⟩ := List.mem_map.mp hd
      exact Us.sh (h.us.2 g hg)) (by rw [List.length_map]; exact h.us.1)).mono (by decide) (by decide)
  · exact (Sh.tup (fun d hd => (h.r0.2 d hd).sh) h.r0.1).mono (by decide) (by decide)
  · exact (Sh.tup (fun d hd => (h.r1.2 d hd).sh) h.r1.1).mono (by decide) (by decide)
  · exact (strs_sh h.ks.1 h.ks.2).mono (by decide) (by decide)
theorem scope_sh {sc : List Lb} (hl : sc.length ≤ 10) (h : ∀ l ∈ sc, l.ok) : Sh 1000000 6 (.list (sc.map Lb.d)) := (Sh.lst (w := 71295) (k := 5) (fun d hd => by
  obtain ⟨l, hl, rfl⟩ := List.mem_map.mp hd
  exact Lb.sh (h l hl)) (by rw [List.length_map]; exact hl)).mono (by decide) (by decide)
end K21

end
/-! P21m -/
section
set_option maxHeartbeats 4000000
namespace K21
open PySem L2 TL
theorem w_eZip_t {r : Rs} {m : Ms} {f : Eas} {Q : List PyData × Ms → Prop} (q : W (f r m) fun p => ∃ a b, p.1 = [.tuple a, .tuple b] ∧ Q (zipD a b, p.2)) : W (eZip f r m) Q := by
  unfold eZip
  refine W.bind (W.mono q fun p ⟨a, b, e, q⟩ => ?_)
  rw [e]
  exact .mk q
theorem w_neX_ii {i j : Int} {Q : PyData → Prop} (q : Q (.bool (!decide (i = j)))) : W (neX (.int i) (.int j)) Q := by
  refine w_neD (shaped_i i) (shaped_i j) ?_
  have e : PyData.eqv (.int i) (.int j) = decide (i = j) := by
    simp only [PyData.eqv]
    by_cases h : i = j
    · subst h; simp
    · rw [decide_eq_false h]; simpa using h
  rw [e]
  exact q
theorem iswhole_any {d : PyData} {Q : PyData → Prop} (q : Q (.bool (wh d))) : W (m_is_whole [d]) Q := by
  unfold m_is_whole b_is_whole
  walk_at "tlex"
  refine w_isi_int ?_
  refine ⟨_, rfl, fun h => ?_, fun h => ?_⟩
  · walk_at "tlex"
    refine w_isi_bool ?_
    walk_at "tlex"
    have e : (!isT "bool" d) = wh d := by
      revert h
      cases d <;> simp [isT, wh]
    rw [e]
    exact q
  · walk_at "tlex"
    have e : false = wh d := by
      revert h
      cases d <;> simp [isT, wh]
    rw [e]
    exact q
/-- whether it is the same as what is told, any thing -/
def TW (g : List PyData → Option PyData) (t : PyData) : Prop := ∀ (d : PyData) (Q : PyData → Prop), (∀ b : Bool, (b = true ↔ d = t) → Q (.bool b)) → W (g [d, t]) Q
theorem tw_int {g : List PyData → Option PyData} {i : Int} : TW (runD 2 (b_are_same g)) (.int i) := by
  intro d Q h
  unfold b_are_same
  refine w_runD ?_
  walk_at "tlex"
  refine w_if ?_
  walk_at "tlex"
  refine ⟨fun z => (by cases z), fun _ => ?_⟩
  walk_at "tlex"
  refine w_if ?_
  walk_at "tlex"
  refine w_isi_tuple ?_
  walk_at "tlex"
  refine ⟨fun z => (by cases z), fun _ => ?_⟩
  walk_at "tlex"
  refine w_if ?_
  walk_at "tlex"
  refine w_isi_str ?_
  walk_at "tlex"
  refine ⟨fun z => (by cases z), fun _ => ?_⟩
  walk_at "tlex"
  refine iswhole_any ?_
  refine ⟨_, rfl, fun hw => ?_, fun hw => ?_⟩
  · cases d <;> first | (cases hw; done) | skip
    walk_at "tlex"
    exact h _ (by simp)
  · walk_at "tlex"
    refine h _ ⟨fun z => (by cases z), fun e => ?_⟩
    rw [e] at hw
    cases hw
theorem tw_str {g : List PyData → Option PyData} {s : Str} : TW (runD 2 (b_are_same g)) (.str s) := by
  intro d Q h
  unfold b_are_same
  refine w_runD ?_
  walk_at "tlex"
  refine w_if ?_
  walk_at "tlex"
  refine ⟨fun z => (by cases z), fun _ => ?_⟩
  walk_at "tlex"
  refine w_if ?_
  walk_at "tlex"
  refine w_isi_tuple ?_
  walk_at "tlex"
  refine ⟨fun z => (by cases z), fun _ => ?_⟩
  walk_at "tlex"
  refine w_if ?_
  walk_at "tlex"
  refine w_isi_str ?_
  walk_at "tlex"
  refine ⟨fun _ => ?_, fun z => (by cases z)⟩
  walk_at "tlex"
  refine w_isi_str ?_
  refine ⟨_, rfl, fun hw => ?_, fun hw => ?_⟩
  · cases d <;> first | (cases hw; done) | skip
    walk_at "tlex"
    exact h _ (by simp)
  · walk_at "tlex"
    refine h _ ⟨fun z => (by cases z), fun e => ?_⟩
    rw [e] at hw
    cases hw
theorem zip_at {as bs : List PyData} {i : Nat} {d : PyData} (h : (zipD as bs)[i]? = some d) : ∃ a b, as[i]? = some a ∧ bs[i]? = some b ∧ d = .tuple [a, b] := zipD_get h
theorem zip_len : ∀ {as bs : List PyData}, as.length = bs.length → (zipD as bs).length = as.length
  | [], [], _ => rfl
  | a :: as, b :: bs, h => by
    have := zip_len (as := as) (bs := bs) (by simpa using h)
    show (zipD as bs).length + 1 = _
    rw [this]
    rfl
  | [], _ :: _, h => by cases h
  | _ :: _, [], h => by cases h
theorem tw_tup {g : List PyData → Option PyData} {es : List PyData} (hl : es.length ≤ 900) (hg : ∀ e ∈ es, TW g e) : TW (runD 2 (b_are_same g)) (.tuple es) := by
  intro d Q h
  unfold b_are_same
  refine w_runD ?_
  walk_at "tlex"
  refine w_if ?_
  walk_at "tlex"
  refine ⟨fun z => (by cases z), fun _ => ?_⟩
  walk_at "tlex"
  refine w_if ?_
  walk_at "tlex"
  refine w_isi_tuple ?_
  walk_at "tlex"
  refine ⟨fun _ => ?_, fun z => (by cases z)⟩
  walk_at "tlex"
  refine w_if ?_
  walk_at "tlex"
  refine w_isi_tuple ?_
  walk_at "tlex"
  cases hd : isT "tuple" d with
  | false =>
    refine ⟨fun _ => ?_, fun z => (by cases z)⟩
    walk_at "tlex"
    refine ⟨fun _ => ?_, fun z => (by cases z)⟩
    walk_at "tlex"
    refine h _ ⟨fun z => (by cases z), fun e => ?_⟩
    rw [e] at hd
    cases hd
  | true =>
    cases d <;> first | (cases hd; done) | skip
    rename_i ds
    refine ⟨fun z => (by cases z), fun _ => ?_⟩
    walk_at "tlex"
    refine w_neX_ii ?_
    walk_at "tlex"
    by_cases hn : ds.length = es.length
    · refine ⟨fun z => (by simp [hn] at z), fun _ => ?_⟩
      walk_at "tlex"
      refine w_lcI (fun zs i acc m => zs = zipD ds es ∧ (∃ bs : List Bool, acc = bs.map PyData.bool ∧ bs.length = i ∧ (bs.all id = true ↔ ds.take i = es.take i)) ∧ m = []) ?_
      refine w_eZip_t ?_
      walk_at "tlex"
      refine ⟨_, _, rfl, ⟨by trivial, ⟨[], rfl, rfl, by simp⟩, by trivial⟩, ?_, ?_⟩
      · rintro i x m acc hx ⟨_, ⟨bs, rfl, hbl, hbs⟩, rfl⟩
        obtain ⟨a, b, ha, hb, rfl⟩ := zip_at hx
        have hi := (List.getElem?_eq_some_iff.mp hb).1
        walk_at "tlex"
        simp only [wipeR]
        walk_at "tlex"
        refine ⟨fun _ => ?_, fun z => by cases z⟩
        walk_at "tlex"
        refine hg b (List.mem_of_getElem? hb) a _ fun c hc => ?_
        refine ⟨lt_line (by rw [List.length_map]; omega), by first | rfl | trivial, ⟨bs ++ [c], by rw [List.map_append]; rfl, by rw [List.length_append, hbl]; rfl, ?_⟩, by trivial⟩
        rw [List.all_append, Bool.and_eq_true, hbs, List.take_add_one, List.take_add_one, ha, hb]
        have hlen : (ds.take i).length = (es.take i).length := by rw [List.length_take, List.length_take, hn]
        constructor
        · rintro ⟨h1, h2⟩
          have h2 : c = true := by simpa using h2
          rw [h1, hc.mp h2]
        · intro h3
          obtain ⟨h4, h5⟩ := List.append_inj h3 hlen
          have h5 : a = b := by simpa using h5
          exact ⟨h4, by simpa using hc.mpr h5⟩
      · rintro acc m ⟨_, ⟨bs, rfl, hbl, hbs⟩, rfl⟩
        rw [zip_len hn] at hbl hbs
        have e : (bs.map PyData.bool) = bs.map fun x => PyData.bool (id x) := rfl
        rw [e]
        walk_at "tlex"
        refine W.of (allD_map id bs) ?_
        walk_at "tlex"
        refine h _ ?_
        have e2 : es.take ds.length = es := by rw [hn, List.take_length]
        rw [List.map_id, hbs, List.take_length, e2]
        exact ⟨fun e => by rw [e], fun e => by injection e⟩
    · refine ⟨fun _ => ?_, fun z => (by
        exfalso
        have h1 : ¬ ((ds.length : Int) = (es.length : Int)) := by omega
        simp [h1] at z)⟩
      walk_at "tlex"
      refine h _ ⟨fun z => (by cases z), fun e => ?_⟩
      injection e with e
      rw [e] at hn
      exact absurd rfl hn
theorem tw_non {g : List PyData → Option PyData} : TW (runD 2 (b_are_same g)) .none := by
  intro d Q h
  unfold b_are_same
  refine w_runD ?_
  walk_at "tlex"
  refine w_if ?_
  walk_at "tlex"
  refine ⟨fun _ => ?_, fun z => (by cases z)⟩
  cases d <;> walk_at "tlex" <;> exact h _ (by simp)
theorem tw_rD (o : Option Hit) : TW m_are_same (rD o) := by
  cases o with
  | none => exact tw_non
  | some h =>
    refine tw_tup (by simp only [List.length_cons, List.length_nil]; decide) fun e he => ?_
    simp only [List.mem_cons, List.not_mem_nil, or_false] at he
    rcases he with q | q <;> rw [q] <;> exact tw_int
theorem ismeaning_w {ls : List Lb} {u : Us} {faint : Bool} {d : PyData} {Q : PyData → Prop} (hl : ls.length ≤ 100) (ho : ∀ l ∈ ls, l.ok) (q : ∀ b : Bool, (b = true ↔ d = rD (pickH faint (hits ls u))) → Q (.bool b)) : W (m_is_meaning [.list (ls.map Lb.d), u.d, d, .bool faint]) Q := by
  unfold m_is_meaning b_is_meaning
  walk_at "tlew"
  refine ⟨by trivial, ?_⟩
  walk_at "tlew"
  refine meaning_w hl ho ?_
  walk_at "tlew"
  exact tw_rD _ d _ q
end K21

end
/-! P21n -/
section
set_option maxHeartbeats 4000000
namespace K21
open PySem L2 TL
/-! ## what is bent -/
structure Tg (d : PyData) : Prop where
  pl : Pl d ∨ d = .dict []
  lv : d.leavesShort 13 = true
  dep : d.depth ≤ 2
  shw : d.showable = true
  wgt : d.weight ≤ 1000
structure At (d : PyData) : Prop where
  pl : Pl d
  sx : Sh 41 0 d
theorem Tg.of {d : PyData} (h : Pl d) (s : Sh 1000 2 d) : Tg d := ⟨.inl h, PyData.leavesShort_of_canLay0 13 d s.lay s.its, s.dep, s.shw, s.wgt⟩
theorem At.tg {d : PyData} (h : At d) : Tg d := Tg.of h.pl (h.sx.mono (by decide) (by decide))
theorem At.i {i : Int} (h0 : -1000 < i) (h1 : i < 1000) : At (.int i) := ⟨.int i, Sh.int (by omega) (by omega)⟩
theorem At.b {b : Bool} : At (.bool b) := ⟨.bool b, Sh.bool.mono (by decide) (by decide)⟩
theorem At.n : At .none := ⟨.non, Sh.non.mono (by decide) (by decide)⟩
theorem At.t {ds : List PyData} (hl : ds.length ≤ 4) (h : ∀ d ∈ ds, At d) : Tg (.tuple ds) := Tg.of (.tup (PlAll.of fun d hd => (h d hd).pl)) ((Sh.tup (n := 4) (fun d hd => (h d hd).sx) hl).mono (by decide) (by decide))
theorem At.l {ds : List PyData} (hl : ds.length ≤ 4) (h : ∀ d ∈ ds, At d) : Tg (.list ds) := Tg.of (.lst (PlAll.of fun d hd => (h d hd).pl)) ((Sh.lst (n := 4) (fun d hd => (h d hd).sx) hl).mono (by decide) (by decide))
theorem At.tt {ds : List PyData} (hl : ds.length ≤ 4) (h : ∀ d ∈ ds, At d) : Tg (.tuple [.tuple ds]) :=
  Tg.of (.tup (PlAll.of fun d hd => by
    rw [List.mem_singleton.mp hd]
    exact .tup (PlAll.of fun d hd => (h d hd).pl))) ((Sh.tup (n := 1) (fun d hd => by
      rw [List.mem_singleton.mp hd]
      exact Sh.tup (n := 4) (fun d hd => (h d hd).sx) hl) (Nat.le_refl _)).mono (by decide) (by decide))
theorem tg_dct : Tg (.dict []) := ⟨.inr rfl, rfl, (by decide +kernel), rfl, (by decide +kernel)⟩
theorem al_n {P : PyData → Prop} : ∀ d ∈ ([] : List PyData), P d := fun d hd => by cases hd
theorem al_c {P : PyData → Prop} {x : PyData} {ds : List PyData} (h : P x) (t : ∀ d ∈ ds, P d) : ∀ d ∈ x :: ds, P d := fun d hd => by
  rcases List.mem_cons.mp hd with q | q
  · rw [q]; exact h
  · exact t d q
theorem al_a {P : PyData → Prop} {cs ds : List PyData} (h : ∀ d ∈ cs, P d) (t : ∀ d ∈ ds, P d) : ∀ d ∈ cs ++ ds, P d := fun d hd => by
  rcases List.mem_append.mp hd with q | q
  · exact h d q
  · exact t d q
theorem at_s1 {s : Str} (hl : s.length ≤ 8) (h : ∀ c ∈ s.cps.toList, isP c) : At (.str s) := by
  have h2 : Lw 8 s := ⟨hl, fun c hc => by have := h c hc; unfold isP at this; omega⟩
  exact ⟨.str h, (Sh.str h2).mono (by decide) (by decide)⟩
theorem digit_s {i : Int} (h0 : 0 ≤ i) (h1 : i < 16) : At (.str (toString i)) := by
  have h : ∀ n : Nat, n < 16 → (Str.ofString (toString (n : Int))).length ≤ 8 ∧ ∀ c ∈ (Str.ofString (toString (n : Int))).cps.toList, isP c := by decide +kernel
  obtain ⟨n, rfl⟩ := Int.eq_ofNat_of_zero_le h0
  have g := h n (by omega)
  exact at_s1 g.1 g.2
theorem w_strD {i : Int} {R : PyData → Prop} (h : i.natAbs.log2 < 1920) (q : R (.str (toString i))) : W (strD1 [.int i]) R := by
  unfold strD1
  exact W.guard h (.mk q)
def Ot (k : Nat) (ds : List PyData) : Prop := ds.length ≤ k ∧ ∀ d ∈ ds, ∃ p n : Int, d = .tuple [.int p, .int n] ∧ 0 ≤ p ∧ p < 10 ∧ 0 ≤ n ∧ n < 4
theorem Ot.nil {k : Nat} : Ot k [] := ⟨Nat.zero_le k, fun d hd => by cases hd⟩
theorem Ot.mono {k k' : Nat} {ds : List PyData} (h : Ot k ds) (l : k ≤ k') : Ot k' ds := ⟨Nat.le_trans h.1 l, h.2⟩
theorem Ot.app {k k' : Nat} {cs ds : List PyData} (h : Ot k cs) (g : Ot k' ds) : Ot (k + k') (cs ++ ds) := ⟨by rw [List.length_append]; exact Nat.add_le_add h.1 g.1, al_a h.2 g.2⟩
theorem Ot.one {p n : Nat} (h0 : p < 10) (h1 : n < 4) : Ot 1 [.tuple [.int (p : Nat), .int (n : Nat)]] := ⟨Nat.le_refl 1, al_c ⟨_, _, rfl, by omega, by omega, by omega, by omega⟩ al_n⟩
theorem Ot.tg {k : Nat} {ds : List PyData} (h : Ot k ds) : ∀ d ∈ ds, Tg d := fun d hd => by
  obtain ⟨p, n, rfl, h0, h1, h2, h3⟩ := h.2 d hd
  exact At.t (Nat.le_add_left 2 2) (al_c (At.i (by omega) (by omega)) (al_c (At.i (by omega) (by omega)) al_n))
theorem Ot.shaped {k : Nat} {ds : List PyData} (h : Ot k ds) : SeqAt.shaped (.list ds) = true := shaped_ds (w := 84) (k := 1) (fun d hd => by
  obtain ⟨p, n, rfl, h0, h1, h2, h3⟩ := h.2 d hd
  exact Sh.tup (w := 41) (k := 0) (n := 2) (al_c (sh_i (by omega) (by omega)) (al_c (sh_i (by omega) (by omega)) al_n)) (Nat.le_refl 2)) (by decide)
theorem w_add_tg {ds es : List PyData} {n : Nat} {Q : PyData → Prop} (h1 : ∀ d ∈ ds, Tg d) (l0 : 0 < ds.length) (l1 : ds.length ≤ n) (ln : n ≤ 100) (h2 : ∀ d ∈ es, Tg d) (l2 : es.length ≤ 10)
    (q : ∀ cs : List PyData, (∀ d ∈ cs, Tg d) → 0 < cs.length → cs.length ≤ n + 10 → Q (.list cs)) : W (addD (.list ds) (.list es)) Q :=
  w_add_l (le_line (by omega)) (q _ (al_a h1 h2) (by rw [List.length_append]; omega) (by rw [List.length_append]; omega))
theorem bent_any {f : Int × Int} {sc : List Lb} {u : Us} {o : Option Hit} {Q : PyData × PyData → Prop} (hf : FO f) (hl : sc.length ≤ 10) (ho : ∀ l ∈ sc, l.ok) (hd : ∀ h, o = some h → h.1 < 10 ∧ h.2.1 < 4)
    (q : ∀ (d : PyData) (f' : Int × Int), Tg d → FO f' → Q (d, fd f')) : W (m__law_bent (fd f) [.list (sc.map Lb.d), u.d, rD o]) Q := by
  unfold m__law_bent b__law_bent
  walk_at "tlew"
  refine w_dct ?_
  walk_at "tlew"
  refine W.mono (P := fun z => ∃ (ds : List PyData) (e6 e8 : Sl), (∀ d ∈ ds, Tg d) ∧ 0 < ds.length ∧ ds.length < 1000 ∧ z = Out.nx [.ow 0, .fz (.list (sc.map Lb.d)), .fz u.d, .fz (rD o), .fz (.list ds), .un, e6, .un, e8, .un] [some (fd f)]) ?_ ?_
  · refine w_if ?_
    have hnil : ∀ d ∈ ([PyData.none, .tuple [], .int 0, .str "none", .list [], .tuple [.int 0], .tuple [.int 0, .int 0, .int 0], .tuple [.int 0, .int 0], .tuple [.bool true, .int 0], .tuple [.int 0, .bool false], .tuple [.str "0", .int 0], .dict []] : List PyData), Tg d := by
      have z : At (.int 0) := At.i (by decide) (by decide)
      have z0 : At (.str "0") := at_s1 (by decide +kernel) (by decide +kernel)
      have zn : At (.str "none") := at_s1 (by decide +kernel) (by decide +kernel)
      exact al_c At.n.tg (al_c (At.t (by decide) al_n) (al_c z.tg (al_c zn.tg (al_c (At.l (by decide) al_n) (al_c (At.t (by decide) (al_c z al_n)) (al_c (At.t (by decide) (al_c z (al_c z (al_c z al_n))))
        (al_c (At.t (by decide) (al_c z (al_c z al_n))) (al_c (At.t (by decide) (al_c At.b (al_c z al_n))) (al_c (At.t (by decide) (al_c z (al_c At.b al_n))) (al_c (At.t (by decide) (al_c z0 (al_c z al_n))) (al_c tg_dct al_n)))))))))))
    cases o with
    | none =>
      unfold rD
      walk_at "tlew"
      refine ⟨fun z => (by cases z), fun _ => ?_⟩
      walk_at "tlew"
      exact ⟨_, _, _, hnil, by decide, by decide, rfl⟩
    | some h =>
      obtain ⟨h0, h1⟩ := hd h rfl
      obtain ⟨p, n, b⟩ := h
      simp only at h0 h1
      unfold rD
      walk_at "tlew"
      refine ⟨fun _ => ?_, fun z => (by cases z)⟩
      walk_at "tlew"
      refine w_add_t (le_line (by simp only [List.length_cons, List.length_nil]; decide)) ?_
      walk_at "tlew"
      refine ⟨_, rfl, ?_⟩
      walk_at "tlew"
      refine w_rev_t ?_
      walk_at "tlew"
      have ap : At (.int (p : Nat)) := At.i (by omega) (by omega)
      have an : At (.int (n : Nat)) := At.i (by omega) (by omega)
      have az : At (.int 0) := At.i (by decide) (by decide)
      refine w_add_tg (n := 12) hnil (by simp only [List.length_cons, List.length_nil]; decide) (by simp only [List.length_cons, List.length_nil]; decide) (by decide)
        (al_c (At.l (Nat.le_add_left 2 2) (al_c ap (al_c an al_n))) (al_c (At.t (Nat.le_add_left 3 1) (al_c ap (al_c an (al_c az al_n)))) (al_c (show Tg (.tuple [.int (p : Nat)]) from At.t (Nat.le_add_left 1 3) (al_c ap al_n))
          (al_c (At.tt (Nat.le_add_left 2 2) (al_c ap (al_c an al_n))) (al_c (At.t (Nat.le_add_left 2 2) (al_c (At.i (by omega) (by omega)) (al_c an al_n))) (al_c (At.t (Nat.le_add_left 2 2) (al_c (At.i (by omega) (by omega)) (al_c an al_n)))
          (al_c (show Tg (.tuple [.int (n : Nat), .int (p : Nat)]) from At.t (Nat.le_add_left 2 2) (al_c an (al_c ap al_n))) al_n)))))))
        (by simp only [List.length_cons, List.length_nil]; decide) fun d1 hd1 l1 m1 => ?_
      walk_at "tlew"
      refine w_add_tg (n := 22) hd1 l1 m1 (by decide)
        (al_c (At.t (Nat.le_add_left 2 2) (al_c ap (al_c (At.i (by omega) (by omega)) al_n))) (al_c (At.t (Nat.le_add_left 2 2) (al_c ap (al_c (At.i (by omega) (by omega)) al_n)))
          (al_c (At.t (Nat.le_add_left 2 2) (al_c At.b (al_c an al_n))) (al_c (At.t (Nat.le_add_left 2 2) (al_c ap (al_c At.b al_n))) al_n))))
        (by simp only [List.length_cons, List.length_nil]; decide) fun d2 hd2 l2 m2 => ?_
      walk_at "tlew"
      refine w_strD ?_ ?_
      · have hs : ∀ k : Nat, k < 10 → ((k : Nat) : Int).natAbs.log2 < 1920 := by decide +kernel
        exact hs p h0
      walk_at "tlew"
      have hlm : (sc.map Lb.d).length = sc.length := List.length_map _
      refine w_add_tg (n := 32) hd2 l2 m2 (by decide)
        (al_c (At.t (Nat.le_add_left 2 2) (al_c (digit_s (by omega) (by omega)) (al_c an al_n))) (al_c (At.t (Nat.le_add_left 2 2) (al_c (At.i (by omega) (by omega)) (al_c an al_n)))
          (al_c (At.t (Nat.le_add_left 2 2) (al_c At.n (al_c an al_n))) (al_c (At.t (Nat.le_add_left 2 2) (al_c ap (al_c At.n al_n))) al_n))))
        (by simp only [List.length_cons, List.length_nil]; decide) fun d3 hd3 l3 m3 => ?_
      walk_at "tlew"
      exact ⟨d3, _, _, hd3, l3, by omega, rfl⟩
  · rintro z ⟨ds, e6, e8, hds, hd0, hd1, rfl⟩
    walk_at "tlew"
    refine w_for (fun zs i r m => ∃ (os : List PyData) (e6 e7 e8 e9 : Sl), Ot (4 * i) os ∧ r = [.ow 0, .fz (.list (sc.map Lb.d)), .fz u.d, .fz (rD o), .fz (.list ds), .fz (.list os), e6, e7, e8, e9] ∧ m = [some (fd f)]) ?_
    walk_at "tlew"
    refine ⟨⟨[], e6, _, e8, _, Ot.nil, rfl, by trivial⟩, ?_, ?_⟩
    · rintro i d r m hd1 ⟨os, e6, e7, e8, e9, hos, rfl, rfl⟩
      obtain ⟨d1, hd2, rfl⟩ := enum_at hd1
      obtain ⟨l, hl1, rfl⟩ := lb_at hd2
      have hlo := ho l (List.mem_of_getElem? hl1)
      have hlt := (List.getElem?_eq_some_iff.mp hl1).1
      refine w_hTup rfl (w_hCons (w_hNm (w_hCons (w_hNm (w_hNil ?_)))))
      walk_at "tlew"
      refine w_lcI (fun zs j acc m => Ot j acc ∧ zs = enumD (l.gs.map Gv.d) ∧ m = [some (fd f)]) ?_
      walk_at "tlew"
      refine ⟨⟨Ot.nil, by trivial, by trivial⟩, ?_, ?_⟩
      · rintro j d m acc hd3 ⟨hac, _, rfl⟩
        obtain ⟨d3, hd4, rfl⟩ := enum_at hd3
        obtain ⟨g, hg1, rfl⟩ := gs_at hd4
        have hgo := hlo.gs.2 g (List.mem_of_getElem? hg1)
        have hgl := hlo.gs.1
        have hlt2 := (List.getElem?_eq_some_iff.mp hg1).1
        have ha := hac.1
        simp only [wipeR]
        walk_at "tlew"
        refine law_fits_w hgo ?_
        walk_at "tlew"
        refine ⟨fun hf => ?_, fun hf => ⟨hac.mono (Nat.le_succ _), by trivial, by trivial⟩⟩
        walk_at "tlew"
        exact ⟨lt_line (by omega), hac.app (Ot.one (by omega) (by omega)), by trivial, by trivial⟩
      · rintro acc m ⟨hac, _, rfl⟩
        rw [enum_len, List.length_map] at hac
        have ha := hac.1
        have hb := hos.1
        have hgl := hlo.gs.1
        walk_at "tlew"
        refine w_add_l (le_line (by omega)) ?_
        walk_at "tlew"
        exact ⟨_, _, _, _, _, (hos.app hac).mono (by omega), rfl, by trivial⟩
    · rintro r m ⟨os, e6, e7, e8, e9, hos, rfl, rfl⟩
      rw [enum_len, List.length_map] at hos
      have hb := hos.1
      walk_at "tlew"
      refine w_if ?_
      walk_at "tlew"
      refine w_neX_ll0 hos.shaped ?_
      walk_at "tlew"
      refine ⟨fun hn => ?_, fun hn => ?_⟩
      · walk_at "tlew"
        refine take_any hf (by decide) (by decide +kernel) fun v f1 v0 v1 hf1 => ?_
        walk_at "tlew"
        refine ⟨fun _ => ?_, fun _ => ?_⟩
        · walk_at "tlew"
          refine pick_any hf1 (isE hn) (by omega) fun d f2 hd2 hf2 => ?_
          walk_at "tlew"
          exact q d f2 (hos.tg d hd2) hf2
        · walk_at "tlew"
          refine pick_any hf1 hd0 (by omega) fun d f2 hd2 hf2 => ?_
          walk_at "tlew"
          exact q d f2 (hds d hd2) hf2
      · walk_at "tlew"
        refine ⟨fun z => (by cases z), fun _ => ?_⟩
        walk_at "tlew"
        refine pick_any hf hd0 (by omega) fun d f2 hd2 hf2 => ?_
        walk_at "tlew"
        exact q d f2 (hds d hd2) hf2
end K21

end
/-! P21o -/
section
set_option maxHeartbeats 4000000
namespace K21
open PySem L2 TL
theorem Tg.rD {ls : List Lb} {u : Us} {faint : Bool} (hl : ls.length ≤ 10) (ho : ∀ l ∈ ls, l.ok) : Tg (rD (pickH faint (hits ls u))) := by
  cases e : pickH faint (hits ls u) with
  | none => exact At.n.tg
  | some h =>
    have := hits_mem ho (pick_mem e)
    exact At.t (Nat.le_add_left 2 2) (al_c (At.i (by omega) (by omega)) (al_c (At.i (by omega) (by omega)) al_n))
theorem pair_w {ls : List Lb} {d : PyData} {R : PyData → Prop} (hl : ls.length ≤ 10) (ho : ∀ l ∈ ls, l.ok) (h : Tg d) (q : R (.str (PyData.list [.list (ls.map Lb.d), d]).shown)) : W (reprY [.list [.list (ls.map Lb.d), d]]) R := by
  have hs := scope_sh hl ho
  have h1 := PyData.leavesShort_of_canLay0 13 _ hs.lay hs.its
  have d1 := hs.dep
  have w1 := hs.wgt
  have s1 := hs.shw
  have d2 := h.dep
  have w2 := h.wgt
  refine w_reprY ?_ ?_ (PyData.shown_fits (B := 13) (by decide) (by decide) ?_ ?_) q
  · simp only [PyData.showable, PyData.showableAll, Bool.and_eq_true, Bool.and_true]
    exact ⟨by simpa only [PyData.showable] using s1, h.shw⟩
  · simp only [PyData.depth, PyData.depthAll] at d1 ⊢
    omega
  · simp only [PyData.leavesShort, PyData.leavesShortAll, Bool.and_eq_true, Bool.and_true]
    exact ⟨by simpa only [PyData.leavesShort] using h1, h.lv⟩
  · have e : (2 : Nat) ^ 20 = 1048576 := by decide
    simp only [PyData.weight, PyData.weightAll] at w1 ⊢
    omega
theorem one_w {d : PyData} {R : PyData → Prop} (h : Tg d) (q : R (.str d.shown)) : W (reprY [d]) R := by
  have d2 := h.dep
  have w2 := h.wgt
  have e : (2 : Nat) ^ 20 = 1048576 := by decide
  exact w_reprY h.shw (by omega) (PyData.shown_fits (B := 13) (by decide) (by decide) h.lv (by omega)) q
theorem dct_no {e : PyData} (h : Pl e) : (PyData.dict []).shown ≠ e.shown := by
  intro q
  have e1 : (PyData.dict []).shown.cps.toList = 123 :: [125] := by decide +kernel
  rw [q, shown_sh h] at e1
  have e2 : sh e ++ [] = 123 :: [125] := by rw [List.append_nil, e1]
  exact no_head h (by decide) e2
theorem rD_pl (o : Option Hit) : Pl (rD o) := by
  cases o with
  | none => exact .non
  | some h => exact .tup (.cons (.int _) (.cons (.int _) .nil))
theorem shown_iff {d : PyData} {o : Option Hit} (h : Tg d) : d.shown = (rD o).shown ↔ d = rD o := by
  constructor
  · intro q
    rcases h.pl with p | p
    · exact shown_inj p (rD_pl o) q
    · rw [p] at q
      exact absurd q (dct_no (rD_pl o))
  · intro q
    rw [q]
theorem law_true {ns : List Int} (hb : ∀ z ∈ ns, Builtin.Int.intBits z ≤ 1048576) : m_law [.list (ns.map .int)] = some (.bool true) := by
  apply W.eq
  unfold m_law b_law
  refine w_runD ?_
  walk_at "tln"
  refine w_seq (w_set (w_callT ?_))
  walk_at "tlew"
  refine feed_any hb (Int.le_refl 0) (by decide) fun f hf => ?_
  walk_at "tlew"
  refine ⟨by trivial, ?_⟩
  refine shelf_any hf fun ls f1 hf1 hl0 hl8 hlo => ?_
  walk_at "tlew"
  generalize hS : PyData.list (ns.map .int) = S
  refine w_for (fun ds i r m => ds.length = 5 ∧ ∃ (e2 e3 e4 e5 e6 e7 e8 e9 e10 : Sl), r = [.fz S, .fz (.tuple (ls.map Lb.d)), e2, e3, e4, e5, e6, e7, e8, e9, e10]) ?_
  walk_at "tlew"
  refine ⟨_, rfl, by omega, ⟨range_len _ _, _, _, _, _, _, _, _, _, _, rfl⟩, ?_, ?_⟩
  · rintro i d r m hx ⟨h5, e2, e3, e4, e5, e6, e7, e8, e9, e10, rfl⟩
    obtain ⟨hi, rfl⟩ := range_at hx
    have hi : i < 5 := hi
    subst hS
    walk_at "tlew"
    refine feed_any hb (by omega) (by omega) fun f2 hf2 => ?_
    generalize PyData.list (ns.map .int) = S
    walk_at "tlew"
    refine ⟨_, cellAt_new, by trivial, ?_⟩
    refine scope_any hf2 hl0 hl8 fun sc f3 hf3 hsl hso => ?_
    have hsc : ∀ l ∈ sc, l.ok := fun l hl => hlo l (hso l hl)
    have hsl2 : sc.length ≤ 100 := by omega
    walk_at "tlew"
    have c0 : cellAt ((m ++ [some (fd f2)]).set m.length (some (fd f3))) m.length = some (fd f3) := cellAt_self (by rw [List.length_append]; exact Nat.lt_succ_self _)
    generalize (m ++ [some (fd f2)]).set m.length (some (fd f3)) = m1 at c0 ⊢
    generalize List.length m = a at c0 ⊢
    refine w_for (fun ds j r m => (∃ us : List Us, ds = us.map Us.d ∧ ∀ u ∈ us, u.ok) ∧ (∃ f5, FO f5 ∧ cellAt m a = some (fd f5)) ∧ ∃ (e5 e6 e7 e8 e9 e10 : Sl), r = [.fz S, .fz (.tuple (ls.map Lb.d)), .fz (.int (0 + (i : Nat))), .ow a, .fz (.list (sc.map Lb.d)), e5, e6, e7, e8, e9, e10]) ?_
    walk_at "tlew"
    refine ⟨_, c0, by trivial, ?_⟩
    refine uses_any hf3 hl8 hlo fun us f4 hf4 hul huo => ?_
    walk_at "tlew"
    refine ⟨⟨⟨us, rfl, huo⟩, ⟨f4, hf4, cellAt_self (cellAt_lt c0)⟩, _, _, _, _, _, _, rfl⟩, ?_, ?_⟩
    · rintro j d r m2 hd1 ⟨_, ⟨f5, hf5, c5⟩, e5, e6, e7, e8, e9, e10, rfl⟩
      obtain ⟨u, hu1, rfl⟩ := us_at hd1
      walk_at "tlew"
      have huso := huo u (List.mem_of_getElem? hu1)
      refine ⟨_, c5, by trivial, ?_⟩
      refine take_any hf5 (by decide) (by decide +kernel) fun v f6 v0 v1 hf6 => ?_
      have c6 : cellAt (m2.set a (some (fd f6))) a = some (fd f6) := cellAt_self (cellAt_lt c5)
      generalize m2.set a (some (fd f6)) = m3 at c6 ⊢
      walk_at "tlew"
      generalize decide (v = 0) = wk
      refine due_w hsc ?_
      have hdu : ∀ h, pickH wk (hits sc u) = some h → h.1 < 10 ∧ h.2.1 < 4 := fun h e => by
        have := hits_mem hsc (pick_mem e)
        omega
      have hdT : Tg (rD (pickH wk (hits sc u))) := Tg.rD hsl hsc
      walk_at "tlew"
      refine w_for (fun ds j r m => (∀ d ∈ ds, Tg d) ∧ (∃ f5, FO f5 ∧ cellAt m a = some (fd f5)) ∧ ∃ (e8 e9 e10 : Sl), r = [.fz S, .fz (.tuple (ls.map Lb.d)), .fz (.int (0 + (i : Nat))), .ow a, .fz (.list (sc.map Lb.d)), .fz u.d, .fz (.bool wk), .fz (rD (pickH wk (hits sc u))), e8, e9, e10]) ?_
      walk_at "tlew"
      refine ⟨_, c6, by trivial, ?_⟩
      refine bent_any hf6 hsl hsc hdu fun t1 f7 ht1 hf7 => ?_
      have c7 : cellAt (m3.set a (some (fd f7))) a = some (fd f7) := cellAt_self (cellAt_lt c6)
      generalize m3.set a (some (fd f7)) = m4 at c7 ⊢
      walk_at "tlew"
      refine ⟨_, c7, by trivial, ?_⟩
      refine bent_any hf7 hsl hsc hdu fun t2 f8 ht2 hf8 => ?_
      have c8 : cellAt (m4.set a (some (fd f8))) a = some (fd f8) := cellAt_self (cellAt_lt c7)
      generalize m4.set a (some (fd f8)) = m5 at c8 ⊢
      walk_at "tlew"
      refine ⟨⟨al_c hdT (al_c ht1 (al_c ht2 al_n)), ⟨f8, hf8, c8⟩, _, _, _, rfl⟩, ?_, ?_⟩
      · rintro k d r m6 hd2 ⟨hds, hfc, e8, e9, e10, rfl⟩
        have hd := hds d (List.mem_of_getElem? hd2)
        walk_at "tlew"
        refine pair_w hsl hsc hd ?_
        walk_at "tlew"
        refine ⟨by trivial, ?_⟩
        walk_at "tlew"
        refine ismeaning_w hsl2 hsc fun b hb => ?_
        walk_at "tlew"
        refine W.mono (P := fun o => o = Out.nx [.fz S, .fz (.tuple (ls.map Lb.d)), .fz (.int (0 + (i : Nat))), .ow a, .fz (.list (sc.map Lb.d)), .fz u.d, .fz (.bool wk), .fz (rD (pickH wk (hits sc u))), .fz d, .fz (.str (PyData.list [PyData.list (List.map Lb.d sc), d]).shown), .fz (.bool b)] m6) ?_ ?_
        · refine w_if ?_
          walk_at "tlew"
          refine ⟨fun hw => ?_, fun hw => ⟨fun z => (by cases z), fun _ => ?_⟩⟩
          · walk_at "tlew"
            refine ismeaning_w hsl2 hsc fun b2 hb2 => ?_
            walk_at "tlew"
            have hwk : wk = false := by simpa using hw
            rw [hwk] at hb
            have hbb : b = b2 := by
              rw [Bool.eq_iff_iff, hb, hb2]
            refine ⟨fun z => ?_, fun _ => ?_⟩
            · rw [hbb] at z
              simp at z
            · walk_at "tlew"
          · walk_at "tlew"
        · rintro o rfl
          walk_at "tlew"
          refine W.mono (P := fun o => o = Out.nx [.fz S, .fz (.tuple (ls.map Lb.d)), .fz (.int (0 + (i : Nat))), .ow a, .fz (.list (sc.map Lb.d)), .fz u.d, .fz (.bool wk), .fz (rD (pickH wk (hits sc u))), .fz d, .fz (.str (PyData.list [PyData.list (List.map Lb.d sc), d]).shown), .fz (.bool b)] m6) ?_ ?_
          · refine w_if ?_
            walk_at "tlew"
            refine W.of (show isiD "bool" (.bool b) = some (.bool true) from rfl) ?_
            walk_at "tlew"
            refine ⟨fun z => (by cases z), fun _ => ?_⟩
            walk_at "tlew"
            refine pair_w hsl hsc hd ?_
            walk_at "tlew"
            refine ⟨fun z => (by simp at z), fun _ => ?_⟩
            walk_at "tlew"
          · rintro o rfl
            refine w_if ?_
            walk_at "tlew"
            refine one_w hd ?_
            walk_at "tlew"
            refine one_w hdT ?_
            walk_at "tlew"
            have hbb : b = decide (d.shown = (rD (pickH wk (hits sc u))).shown) := by
              rw [Bool.eq_iff_iff, hb, decide_eq_true_iff, shown_iff hd]
            refine ⟨fun z => ?_, fun _ => ?_⟩
            · rw [← hbb] at z
              simp at z
            · walk_at "tlew"
              exact ⟨hds, hfc, _, _, _, rfl⟩
      · rintro r m6 ⟨_, hfc, e8, e9, e10, rfl⟩
        walk_at "tlew"
        exact ⟨⟨us, rfl, huo⟩, hfc, _, _, _, _, _, _, rfl⟩
    · rintro r m2 ⟨_, _, e5, e6, e7, e8, e9, e10, rfl⟩
      walk_at "tlew"
      exact ⟨h5, _, _, _, _, _, _, _, _, _, rfl⟩
  · rintro r m ⟨h5, e2, e3, e4, e5, e6, e7, e8, e9, e10, rfl⟩
    walk_at "tlew"
end K21

end
set_option maxHeartbeats 0
open PySem PySem.W PyProof.Rows
theorem PySem.Challenge.cw_latehall_k21_meanings_looked_at_holds : PySem.Challenge.rw_latehall_k21_meanings_looked_at.Holds := by
  exact K21.holds_of fun ns _ h2 => K21.law_true h2
