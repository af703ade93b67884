import PyProof.Rows.All
import HandS.TupSets
import KE.KDictZip
import HandS.Iter
import HandS.Zip
import Wide.All
import OpenK.AllK
import Wide.FinOn
import HandS.ForMost
import HandS.IsInst
import HandS.WideBits
import HandS.Wide
import HandS.TupAny
import HandS.Style
import HandS.Deep
import KE.KMulAny
import HandS.Star
import HandS.Replace
import HandS.StrMore
import HandS.EndBits
import HandS.Defaults
import HandS.Head0
import HandS.Head1
import HandS.Head2
import HandS.HeadEnd
import HandS.HeadHook1
import HandS.HeadHook2
import PyProof.ReprRoads
import KE.DatumIndex
import HandS.RaiseMore
import KE.GoesEnum
import PyProof.ReprLen
import PyProof.ToksMono
import KE.KIntText
import PyProof.Rows.StrIntSpec
import HandS.More
import HandS.DictComp
import HandS.SetKeys
import HandS.SortInts
import HandS.Conv
import HandS.SetFor
import HandS.Strs
import HandS.ForSpec
import KE.OsGo
import Open.SpecLaws
import KE.DataFind
import KE.KDictList
import PyProof.TupleCall
import PyProof.CollectWalk
import PyProof.Rows.Range3
import PyProof.EqKinds
import HandS.List
import HandS.SortRule
import HandS.HeadHook3
import KE.KDictPairs
import KE.KDictCopyH
import HandS.Flow
import HandS.ExcIs
import HandS.ExcInit
import KE.KExcMake
import HandS.NoneIn
import PySem.Challenge.RW_latehall_k74_whole_images_read_back
set_option Elab.async false
set_option linter.all false
set_option maxRecDepth 100000
/-! TS1 -/
section
set_option maxHeartbeats 4000000
namespace TL
open PySem PySem.Spec PyProof.Rows L2
/-! ## a set of tuples of whole numbers: looked into -/
abbrev zh (ks : List Int) : Int := reduceHash (Builtin.Tuple.tupleHashOf (ks.map hashInt))
structure SetZ (h : Heap) (a : Addr) (L : List (Addr × List Int)) : Prop where
  ex : ∃ (es : Array (Int × Value)) (ep : Nat) (t : SetTable), (∃ o, h.get? a = some o ∧ o.ExactSet ∧ o.data = .set es ep t) ∧ es.toList = (L.map fun p => (zh p.2, Value.ref p.1)) ∧ TabOk t (L.map fun p => zh p.2) ∧ L.length * 5 < t.mask * 3
def SetHO (a : Addr) (L : List (Addr × List Int)) : HO := .ext fun h => SetZ h a L
end TL
end
/-! TS2 -/
section
set_option maxHeartbeats 4000000
namespace TL
open PySem PySem.Spec PyProof.Rows L2
/-! ## zip for a target that is a name: the pair that came first stays, or it is gone -/
end TL
end
/-! TL1 -/
section
set_option maxHeartbeats 4000000
namespace TL
open PySem L2
/-! ## data in a heap that only grows -/
theorem seqT_mono {K : PySem.W.Frag} {F F' : Hp} {a : Addr} {xs : List V} (e : Same F F') (h : SqT K F a xs) : SqT K F' a xs := by
  rcases h with (h | ⟨o, h⟩) | h
  · exact .inl (.inl (e _ _ h))
  · exact .inl (.inr ⟨o, e _ _ h⟩)
  · exact .inr h
theorem sqL_mono {K : PySem.W.Frag} {F F' : Hp} {a : Addr} {xs : List V} (e : Same F F') (h : SqL K F a xs) : SqL K F' a xs := by
  rcases h with (h | ⟨o, h⟩) | h
  · exact .inl (.inl (e _ _ h))
  · exact .inl (.inr ⟨o, e _ _ h⟩)
  · exact .inr h
/-- a set of tuples, among the trees -/
def isSetD : PyData → Bool
  | .dict ((.none, _) :: _) => true
  | _ => false
/-- a dict's key as data -/
def kD : Key → PyData
  | .inl i => .int i
  | .inr x => .str x
def keyD : PyData → Option Key
  | .int i => some (.inl i)
  | .str x => some (.inr x)
  | _ => none
theorem keyD_kD (k : Key) : keyD (kD k) = some k := by cases k <;> rfl
mutual
inductive Rp (K : PySem.W.Frag) (F : Hp) : V → PyData → Prop
  | vn : Rp K F .non .none
  | vb (b : Bool) : Rp K F (.bl b) (.bool b)
  | vi (i : Int) : Rp K F (.int i) (.int i)
  | vs (x : Str) : Rp K F (.str x) (.str x)
  | vl {a : Addr} {xs : List V} {ds : List PyData} : SqL K F a xs → RpAll K F xs ds → Rp K F (.ref a) (.list ds)
  | vt {a : Addr} {xs : List V} {ds : List PyData} : SqT K F a xs → RpAll K F xs ds → Rp K F (.ref a) (.tuple ds)
  | vd {a : Addr} {ks : List (Key × V)} {ps : List (PyData × PyData)} : Rd F a (.dK ks) → RpKv K F ks ps → Rp K F (.ref a) (.dict ps)
  | vx {a : Addr} {L : List (Addr × List Int)} {kss : List (List Int)} : F a = some (SetHO a L) → (∀ p ∈ L, SqT K F p.1 (p.2.map V.int)) → (∀ ky, ky ∈ kss ↔ ky ∈ L.map (·.2)) → Rp K F (.ref a) (.dict [(.none, .list (kss.map fun ks => .tuple (ks.map .int)))])
inductive RpKv (K : PySem.W.Frag) (F : Hp) : List (Key × V) → List (PyData × PyData) → Prop
  | nil : RpKv K F [] []
  | cons {k : Key} {v : V} {ks : List (Key × V)} {d : PyData} {ps : List (PyData × PyData)} : Rp K F v d → RpKv K F ks ps → RpKv K F ((k, v) :: ks) ((kD k, d) :: ps)
inductive RpAll (K : PySem.W.Frag) (F : Hp) : List V → List PyData → Prop
  | nil : RpAll K F [] []
  | cons {v : V} {vs : List V} {d : PyData} {ds : List PyData} : Rp K F v d → RpAll K F vs ds → RpAll K F (v :: vs) (d :: ds)
end
theorem rd_mono {F F' : Hp} {a : Addr} {u : HO} (e : Same F F') (h : Rd F a u) : Rd F' a u := by
  rcases h with h | ⟨o, h⟩
  · exact .inl (e _ _ h)
  · exact .inr ⟨o, e _ _ h⟩
mutual
theorem rp_mono {K : PySem.W.Frag} {F F' : Hp} (e : Same F F') : ∀ (d : PyData) (v : V), Rp K F v d → Rp K F' v d
  | .none, _, h => by cases h; exact .vn
  | .bool b, _, h => by cases h; exact .vb b
  | .int i, _, h => by cases h; exact .vi i
  | .str x, _, h => by cases h; exact .vs x
  | .list ds, _, h => by
    cases h with
    | vl hs ha => exact .vl (sqL_mono e hs) (rpa_mono e ds _ ha)
  | .tuple ds, _, h => by
    cases h with
    | vt hs ha => exact .vt (seqT_mono e hs) (rpa_mono e ds _ ha)
  | .dict ps, _, h => by
    cases h with
    | vd hs ha => exact .vd (rd_mono e hs) (rpk_mono e ps _ ha)
    | vx hs ha hk => exact .vx (e _ _ hs) (fun p hp => seqT_mono e (ha p hp)) hk
theorem rpk_mono {K : PySem.W.Frag} {F F' : Hp} (e : Same F F') : ∀ (ps : List (PyData × PyData)) (ks : List (Key × V)), RpKv K F ks ps → RpKv K F' ks ps
  | [], _, h => by cases h; exact .nil
  | (c, d) :: ps, _, h => by
    cases h with
    | cons h1 h2 => exact .cons (rp_mono e d _ h1) (rpk_mono e ps _ h2)
theorem rpa_mono {K : PySem.W.Frag} {F F' : Hp} (e : Same F F') : ∀ (ds : List PyData) (vs : List V), RpAll K F vs ds → RpAll K F' vs ds
  | [], _, h => by cases h; exact .nil
  | d :: ds, _, h => by
    cases h with
    | cons h1 h2 => exact .cons (rp_mono e d _ h1) (rpa_mono e ds _ h2)
end
mutual
theorem rp_dp {K : PySem.W.Frag} {F F' : Hp} (e : Same F F') : ∀ (d : PyData) (v : V), d.canLay0 = true → Rp K F v d → Dp K F' v d
  | .none, _, _, h => by cases h; exact .non
  | .bool b, _, _, h => by cases h; exact .bl b
  | .int i, _, _, h => by cases h; exact .int i
  | .str x, _, _, h => by cases h; exact .str x
  | .list ds, _, c, h => by
    cases h with
    | vl hs ha => exact .lst (sqL_mono e hs) (rpa_dp e ds _ c ha)
  | .tuple ds, _, c, h => by
    cases h with
    | vt hs ha => exact .tup (seqT_mono e hs) (rpa_dp e ds _ c ha)
  | .dict _, _, c, _ => by cases c
theorem rpa_dp {K : PySem.W.Frag} {F F' : Hp} (e : Same F F') : ∀ (ds : List PyData) (vs : List V), PyData.canLayAll0 ds = true → RpAll K F vs ds → DpAll K F' vs ds
  | [], _, _, h => by cases h; exact .nil
  | d :: ds, _, c, h => by
    have c' : d.canLay0 = true ∧ PyData.canLayAll0 ds = true := by simpa [PyData.canLayAll0] using c
    cases h with
    | cons h1 h2 => exact .cons (rp_dp e d _ c'.1 h1) (rpa_dp e ds _ c'.2 h2)
end
theorem Rpkm {K : PySem.W.Frag} {F F' : Hp} {ps : List (PyData × PyData)} {ks : List (Key × V)} (e : Same F F') (h : RpKv K F ks ps) : RpKv K F' ks ps := rpk_mono e ps ks h
theorem Rpm {K : PySem.W.Frag} {F F' : Hp} {d : PyData} {v : V} (e : Same F F') (h : Rp K F v d) : Rp K F' v d := rp_mono e d v h
theorem Rpam {K : PySem.W.Frag} {F F' : Hp} {ds : List PyData} {vs : List V} (e : Same F F') (h : RpAll K F vs ds) : RpAll K F' vs ds := rpa_mono e ds vs h
theorem rpa_len {K : PySem.W.Frag} {F : Hp} : ∀ {vs : List V} {ds : List PyData}, RpAll K F vs ds → vs.length = ds.length
  | _, _, .nil => rfl
  | _, _, .cons _ t => congrArg (· + 1) (rpa_len t)
theorem rpa_get {K : PySem.W.Frag} {F : Hp} : ∀ {vs : List V} {ds : List PyData} {i : Nat} {d : PyData}, RpAll K F vs ds → ds[i]? = some d → ∃ v, vs[i]? = some v ∧ Rp K F v d
  | _, _, _, _, .nil, e => by simp at e
  | _, _, 0, _, .cons h _, e => by simp at e; subst e; exact ⟨_, rfl, h⟩
  | _, _, i + 1, d, .cons _ t, e => by
    obtain ⟨v, h1, h2⟩ := rpa_get (i := i) (d := d) t (by simpa using e)
    exact ⟨v, by simpa using h1, h2⟩
theorem rpa_app {K : PySem.W.Frag} {F : Hp} : ∀ {vs us : List V} {ds es : List PyData}, RpAll K F vs ds → RpAll K F us es → RpAll K F (vs ++ us) (ds ++ es)
  | _, _, _, _, .nil, s => s
  | _, _, _, _, .cons r t, s => .cons r (rpa_app t s)
theorem rpa_set {K : PySem.W.Frag} {F : Hp} {v : V} {d : PyData} (r : Rp K F v d) : ∀ {vs : List V} {ds : List PyData} (i : Nat), RpAll K F vs ds → RpAll K F (vs.set i v) (ds.set i d)
  | _, _, _, .nil => .nil
  | _, _, 0, .cons _ t => .cons r t
  | _, _, i + 1, .cons q t => .cons q (rpa_set r i t)
theorem rpa_drop {K : PySem.W.Frag} {F : Hp} : ∀ {vs : List V} {ds : List PyData} (n : Nat), RpAll K F vs ds → RpAll K F (vs.drop n) (ds.drop n)
  | _, _, 0, r => r
  | _, _, _ + 1, .nil => .nil
  | _, _, n + 1, .cons _ t => rpa_drop n t
theorem rpa_take {K : PySem.W.Frag} {F : Hp} : ∀ {vs : List V} {ds : List PyData} (n : Nat), RpAll K F vs ds → RpAll K F (vs.take n) (ds.take n)
  | _, _, 0, _ => .nil
  | _, _, _ + 1, .nil => .nil
  | _, _, n + 1, .cons r t => .cons r (rpa_take n t)
theorem rpa_ints {K : PySem.W.Frag} {F : Hp} : ∀ ns : List Int, RpAll K F (ns.map V.int) (ns.map PyData.int)
  | [] => .nil
  | n :: ns => .cons (.vi n) (rpa_ints ns)
/-! ## what a frame knows: slots, cells -/
inductive Sl where
  | un | fz (d : PyData) | ow (k : Nat)
abbrev Rs := List Sl
abbrev Ms := List (Option PyData)
/-- the items of a cell that is not frozen -/
def cellAt (m : Ms) (k : Nat) : Option PyData := m[k]?.join
/-- what stands at a cell's address -/
def Stored (K : PySem.W.Frag) (F : Hp) (o : HO) : PyData → Prop
  | .list ds => ∃ vs, o = .lst vs ∧ RpAll K F vs ds
  | .dict ps => ∃ ks, o = .dK ks ∧ RpKv K F ks ps
  | _ => False
theorem stored_mono {K : PySem.W.Frag} {F F' : Hp} {o : HO} (e : Same F F') : ∀ {d : PyData}, Stored K F o d → Stored K F' o d
  | .list _, ⟨vs, h1, h2⟩ => ⟨vs, h1, Rpam e h2⟩
  | .dict _, ⟨ks, h1, h2⟩ => ⟨ks, h1, Rpkm e h2⟩
/-- frozen it is data -/
theorem stored_rp {K : PySem.W.Frag} {F : Hp} {a : Addr} {o : HO} (e : F a = some o) : ∀ {d : PyData}, Stored K F o d → Rp K F (.ref a) d
  | .list _, ⟨vs, h1, h2⟩ => .vl (.inl (.inl (by rw [e, h1]))) h2
  | .dict _, ⟨ks, h1, h2⟩ => .vd (.inl (by rw [e, h1])) h2
theorem cellAt_lt {m : Ms} {k : Nat} {ds : PyData} (e : cellAt m k = some ds) : k < m.length := by
  unfold cellAt at e
  by_cases h : k < m.length
  · exact h
  · rw [List.getElem?_eq_none (by omega)] at e; cases e
theorem cellAt_self {m : Ms} {k : Nat} {o : Option PyData} (h : k < m.length) : cellAt (m.set k o) k = o := by
  unfold cellAt
  rw [List.getElem?_set_self h]
  rfl
theorem cellAt_ne {m : Ms} {k j : Nat} {o : Option PyData} (h : j ≠ k) : cellAt (m.set k o) j = cellAt m j := by
  unfold cellAt
  rw [List.getElem?_set_ne (Ne.symm h)]
theorem cellAt_new {m : Ms} {o : Option PyData} : cellAt (m ++ [o]) m.length = o := by
  unfold cellAt
  simp
theorem cellAt_old {m : Ms} {k : Nat} {o : Option PyData} (h : k < m.length) : cellAt (m ++ [o]) k = cellAt m k := by
  unfold cellAt
  rw [List.getElem?_append_left h]
/-- what is told of the cells' addresses, once and for all -/
class Lnk where
  I : List Addr → Prop
  up : ∀ {A B : List Addr}, I A → A <+: B → I B
instance lnk0 : Lnk := ⟨fun _ => True, fun _ _ => trivial⟩
variable [Lnk]
/-- U: what stood and is not ours; A: the cells' addresses; F: what is never changed any more -/
structure Good (K : PySem.W.Frag) (U : Hp) (A : List Addr) (F H : Hp) (σ : St) (r : Rs) (m : Ms) : Prop where
  sub : Same F H
  fo : ∀ b o, U b = some o → H b = some o ∧ F b = none
  len : r.length = σ.length
  fz : ∀ (i : Nat) (d : PyData), r[i]? = some (.fz d) → ∃ v, σ[i]? = some (some v) ∧ Rp K F v d
  ow : ∀ (i k : Nat), r[i]? = some (.ow k) → ∃ a, A[k]? = some a ∧ σ[i]? = some (some (.ref a))
  al : A.length = m.length
  cl : ∀ (k : Nat) (a : Addr) (ds : PyData), A[k]? = some a → cellAt m k = some ds → F a = none ∧ U a = none ∧ ∃ o, H a = some o ∧ Stored K F o ds
  nd : A.Nodup
  he : ∀ a, a ∈ A → ∃ o, H a = some o
  lk : Lnk.I A
/-! ## expressions -/
abbrev Ev := Rs → Ms → Option (PyData × Ms)
def tE (K : PySem.W.Frag) (U : Hp) (f : Ev) : TE := fun σ H Q => ∃ (A : List Addr) (F : Hp) (r : Rs) (m : Ms) (d : PyData) (m' : Ms), Good K U A F H σ r m ∧ f r m = some (d, m') ∧
  ∀ (F' H' : Hp) (v : V), Same F F' → Good K U A F' H' σ r m' → Rp K F' v d → Q v H'
theorem pe_weak {X : Cx} {e : Expr} {t t' : TE} (h : PE X e t) (w : ∀ σ H Q, t' σ H Q → t σ H Q) : PE X e t' :=
  ⟨fun pins s σ H Q I q => h.run pins s σ H Q I (w σ H Q q)⟩
theorem pt_weak {X : Cx} {e : Expr} {t t' : TT} (h : PT X e t) (w : ∀ σ H Q, t' σ H Q → t σ H Q) : PT X e t' :=
  ⟨fun pins s σ H Q I q => h.run pins s σ H Q I (w σ H Q q)⟩
theorem ps_weak {X : Cx} {e : Stmt} {t t' : TS} (h : PS X e t) (w : ∀ D σ H, t' D σ H → t D σ H) : PS X e t' :=
  ⟨fun pins s σ H D I q => h.run pins s σ H D I (w D σ H q)⟩
theorem pss_weak {X : Cx} {e : List Stmt} {t t' : TS} (h : PSs X e t) (w : ∀ D σ H, t' D σ H → t D σ H) : PSs X e t' :=
  ⟨fun pins s σ H D I q => h.run pins s σ H D I (w D σ H q)⟩
theorem pa_weak {X : Cx} {es : List Expr} {t t' : TA} (h : PA X es t) (w : ∀ σ H Q, t' σ H Q → t σ H Q) : PA X es t' :=
  ⟨fun pos pins s σ H Q I q => h.run pos pins s σ H Q I (w σ H Q q)⟩
def eC (d : PyData) : Ev := fun _ m => some (d, m)
def slD : Option Sl → Option PyData
  | some (.fz d) => some d
  | _ => none
def eV (i : Nat) : Ev := fun r m => (slD r[i]?).map fun d => (d, m)
def eBin (op : PyData → PyData → Option PyData) (f g : Ev) : Ev := fun r m => (f r m).bind fun p => (g r p.2).bind fun q => (op p.1 q.1).map fun d => (d, q.2)
section
variable {X : Cx} {U : Hp} {pos : Pos}
theorem qe_var (i : Nat) {x : Str} (h : PE X (.Name x pos) (tVar i)) : PE X (.Name x pos) (tE X.K U (eV i)) := by
  refine pe_weak h fun σ H Q ⟨A, F, r, m, d, m', G, e, k⟩ => ?_
  unfold eV slD at e
  split at e
  · rename_i d' he
    cases e
    obtain ⟨v, hv, hd⟩ := G.fz i _ he
    exact ⟨v, hv, k F H v (Same.refl F) G hd⟩
  · cases e
theorem qe_int {i j} : PE X (.Constant (.int i) j pos) (tE X.K U (eC (.int i))) :=
  pe_weak pe_int fun σ H Q ⟨A, F, r, m, d, m', G, e, k⟩ => by
    cases e
    exact k F H _ (Same.refl F) G (.vi i)
theorem qe_bl {b j} : PE X (.Constant (.bool b) j pos) (tE X.K U (eC (.bool b))) :=
  pe_weak pe_bl fun σ H Q ⟨A, F, r, m, d, m', G, e, k⟩ => by
    cases e
    exact k F H _ (Same.refl F) G (.vb b)
theorem qe_non {j} : PE X (.Constant .none j pos) (tE X.K U (eC .none)) :=
  pe_weak pe_non fun σ H Q ⟨A, F, r, m, d, m', G, e, k⟩ => by
    cases e
    exact k F H _ (Same.refl F) G .vn
theorem qe_str {x j} : PE X (.Constant (.str x) j pos) (tE X.K U (eC (.str x))) :=
  pe_weak pe_str fun σ H Q ⟨A, F, r, m, d, m', G, e, k⟩ => by
    cases e
    exact k F H _ (Same.refl F) G (.vs x)
/-- an operator by values: r tells at data what op tells -/
def OpD (X : Cx) (U : Hp) (rd : R2) (op : PyData → PyData → Option PyData) : Prop :=
  ∀ (A : List Addr) (F H : Hp) (σ : St) (r : Rs) (m : Ms) (x y : V) (a b d : PyData) (Q : VK), Good X.K U A F H σ r m → Rp X.K F x a → Rp X.K F y b → op a b = some d →
    (∀ (F' H' : Hp) (v : V), Same F F' → Good X.K U A F' H' σ r m → Rp X.K F' v d → Q v H') → rd x y H Q
theorem bin_some {op : PyData → PyData → Option PyData} {f g : Ev} {r : Rs} {m m' : Ms} {d : PyData} (e : eBin op f g r m = some (d, m')) :
    ∃ d1 m1 d2, f r m = some (d1, m1) ∧ g r m1 = some (d2, m') ∧ op d1 d2 = some d := by
  unfold eBin at e
  cases e1 : f r m with
  | none => rw [e1] at e; cases e
  | some p =>
    rw [e1] at e
    obtain ⟨d1, m1⟩ := p
    cases e2 : g r m1 with
    | none => simp [e2] at e
    | some q =>
      obtain ⟨d2, m2⟩ := q
      simp [e2] at e
      obtain ⟨d3, e3, e4, e5⟩ := e
      subst e4 e5
      exact ⟨d1, m1, d2, rfl, e2, e3⟩
theorem op2 {rd : R2} {op : PyData → PyData → Option PyData} {f g : Ev} (ho : OpD X U rd op) {σ : St} {H : Hp} {Q : VK} (h : tE X.K U (eBin op f g) σ H Q) :
    tOp rd (tE X.K U f) (tE X.K U g) σ H Q := by
  obtain ⟨A, F, r, m, d, m', G, e, k⟩ := h
  obtain ⟨d1, m1, d2, e1, e2, e3⟩ := bin_some e
  refine ⟨A, F, r, m, d1, m1, G, e1, fun F1 H1 x s1 G1 h1 => ⟨A, F1, r, m1, d2, m', G1, e2, fun F2 H2 y s2 G2 h2 => ?_⟩⟩
  refine ho A F2 H2 σ r m' x y d1 d2 d Q G2 (Rpm s2 h1) h2 e3 fun F3 H3 v s3 G3 h3 => ?_
  exact k F3 H3 v ((s1.trans s2).trans s3) G3 h3
theorem qe_op {op : Operator} {rd : R2} {od : PyData → PyData → Option PyData} {a b : Expr} {f g : Ev} (hr : OpR X (binaryOp op) rd) (ho : OpD X U rd od) (ha : PE X a (tE X.K U f)) (hb : PE X b (tE X.K U g)) :
    PE X (.BinOp a op b pos) (tE X.K U (eBin od f g)) := pe_weak (pe_op hr ha hb) fun _ _ _ h => op2 ho h
theorem qe_cmp {op : CmpOp} {rd : R2} {od : PyData → PyData → Option PyData} {a b : Expr} {f g : Ev} (hr : OpR X (compareOp op) rd) (ho : OpD X U rd od) (ha : PE X a (tE X.K U f)) (hb : PE X b (tE X.K U g)) (hm : behindInMarks op b = false) :
    PE X (.Compare a [op] [b] pos) (tE X.K U (eBin od f g)) := pe_weak (pe_cmpR hr ha hb hm) fun _ _ _ h => op2 ho h
end
/-! ## new objects -/
theorem same_new {F : Hp} {p : Addr} {o : HO} (h : F p = none) : Same F (upd F p o) := fun b x e => by
  rw [upd_ne (ne_of_none e h)]
  exact e
section
variable {K : PySem.W.Frag} {U : Hp} {A : List Addr} {F H : Hp} {σ : St} {r : Rs} {m : Ms} {p : Addr}
theorem Good.nope (G : Good K U A F H σ r m) (h : H p = none) : F p = none ∧ U p = none := by
  refine ⟨G.sub.free h, ?_⟩
  cases e : U p with
  | none => rfl
  | some o => rw [(G.fo p o e).1] at h; cases h
/-- an object is laid that is never changed -/
theorem Good.laid (G : Good K U A F H σ r m) {o : HO} (h : H p = none) : Good K U A (upd F p o) (upd H p o) σ r m := by
  obtain ⟨hF, hU⟩ := G.nope h
  have sF : Same F (upd F p o) := same_new hF
  refine ⟨fun b u e => ?_, fun b u e => ?_, G.len, fun i d e => ?_, G.ow, G.al, fun k a ds e1 e2 => ?_, G.nd, fun a ha => ?_, G.lk⟩
  · by_cases hb : b = p
    · subst hb
      rw [upd_same] at e ⊢
      exact e
    · rw [upd_ne hb] at e ⊢
      exact G.sub b u e
  · have hb : b ≠ p := fun z => by rw [z, hU] at e; cases e
    rw [upd_ne hb, upd_ne hb]
    exact G.fo b u e
  · obtain ⟨v, h1, h2⟩ := G.fz i d e
    exact ⟨v, h1, Rpm sF h2⟩
  · obtain ⟨h1, h2, vs, h3, h4⟩ := G.cl k a ds e1 e2
    have ha : a ≠ p := fun z => by rw [z, h] at h3; cases h3
    exact ⟨by rw [upd_ne ha]; exact h1, h2, vs, by rw [upd_ne ha]; exact h3, stored_mono sF h4⟩
  · obtain ⟨o', h1⟩ := G.he a ha
    exact ⟨o', by rw [upd_ne (ne_of_none h1 h)]; exact h1⟩
end
end TL
end
/-! TL2 -/
section
set_option maxHeartbeats 4000000
namespace TL
open PySem L2
variable [TL.Lnk]
section
variable {X : Cx} {U : Hp}
theorem opr_or {f : Value → Value → Sem Value} {r r' : R2} (h : OpR X f r) (h' : OpR X f r') : OpR X f (fun x y H Q => r x y H Q ∨ r' x y H Q) := by
  intro pins s σ H x y v u Q I rx ry q
  rcases q with q | q
  · exact h pins s σ H x y v u Q I rx ry q
  · exact h' pins s σ H x y v u Q I rx ry q
/-- list + list -/
def rCatR (K : PySem.W.Frag) : R2 := fun x y H Q => ∃ l b xs zs, x = .ref l ∧ y = .ref b ∧ SqL K H l xs ∧ SqL K H b zs ∧ xs.length + zs.length ≤ sizeLine ∧ ∀ p, H p = none → Q (.ref p) (upd H p (.lst (xs ++ zs)))
theorem op_catR : OpR X (binaryOp .Add) (rCatR X.K) := by
  intro pins s σ H x y v u Q I rx ry ⟨l, b, xs, zs, e1, e2, hl, hb, hz, q⟩
  subst e1 e2
  cases (show v = Value.ref l from rx)
  cases (show u = Value.ref b from ry)
  obtain ⟨i1, r1, p1, z1⟩ := I.list hl
  obtain ⟨i2, r2, p2, z2⟩ := I.list hb
  have w1 := r1.length
  have w2 := r2.length
  obtain ⟨⟨cls, dd, data, sl⟩, ho, hc, n, hd⟩ := p1.isList
  obtain ⟨⟨cls2, dd2, data2, sl2⟩, ho2, hc2, n2, hd2⟩ := p2.isList
  simp only at hc hd hc2 hd2
  subst hc hd hc2 hd2
  have e : i1.toArray ++ i2.toArray = (i1 ++ i2).toArray := by simp
  refine concat_meets ⟨_, ho, rfl⟩ ⟨_, ho2, rfl⟩ noFill_list_add seq_list_add PySem.F.slot_list_add PySem.F.entry_list_add (PySem.F.args_list_add_2 _ _) (PyProof.Rows.list_addW l b i1.toArray i2.toArray n n2 dd dd2 sl sl2 (by simp only [List.size_toArray]; omega)) ⟨ho, ho2, ?_⟩
  rw [e]
  have hf : H s.heap.objs.size = none := I.hok.fresh (Nat.le_refl _)
  refine ⟨.ref s.heap.objs.size, upd H s.heap.objs.size (.lst (xs ++ zs)), I.laid (t' := s.toks) (fun c w g => Heap.get?_push_of_some _ g) (Nat.le_refl _) ?_, rfl, q _ hf⟩
  exact ⟨by rw [List.length_append]; omega, _, 0, r1.append r2, Heap.get?_push_size _ rfl⟩
theorem op_mulS : OpR X (binaryOp .Mult) (fun x y H Q => ∃ z n, x = .str z ∧ y = .int n ∧ MulOk z n ∧ Q (.str (Txt.mul z n)) H) := by
  intro pins s σ H x y v u Q I rx ry ⟨z, n, e1, e2, hm, q⟩
  subst e1 e2
  obtain ⟨t, rfl⟩ := rx
  obtain ⟨t', rfl⟩ := ry
  exact SB.mul hm fun t2 k => ⟨.str _, H, I.tok _, ⟨t2, rfl⟩, q⟩
end
/-! ## operators on data -/
def addD : PyData → PyData → Option PyData
  | .int i, .int j => some (.int (i + j))
  | .str a, .str b => if a.length + b.length ≤ sizeLine then some (.str (a ++ b)) else none
  | .tuple a, .tuple b => if a.length + b.length ≤ sizeLine then some (.tuple (a ++ b)) else none
  | .list a, .list b => if a.length + b.length ≤ sizeLine then some (.list (a ++ b)) else none
  | _, _ => none
def subD : PyData → PyData → Option PyData
  | .int i, .int j => some (.int (i - j))
  | _, _ => none
def mulD : PyData → PyData → Option PyData
  | .int i, .int j => if (Builtin.Int.intBits i : Int) + (Builtin.Int.intBits j : Int) ≤ 134217728 then some (.int (i * j)) else none
  | .str a, .int n => if a.length ≤ 4096 ∧ n ≤ 4096 ∧ -(2 ^ 63 : Int) ≤ n then some (.str (Txt.mul a n)) else none
  | _, _ => none
def modD : PyData → PyData → Option PyData
  | .int i, .int j => if 0 < j then some (.int (i % j)) else none
  | _, _ => none
def fdivD : PyData → PyData → Option PyData
  | .int i, .int j => if 0 < j ∧ j.natAbs.log2 < 9000 then some (.int (i / j)) else none
  | _, _ => none
def powD : PyData → PyData → Option PyData
  | .int i, .int j => if 0 ≤ j ∧ j ≤ 1000000 ∧ i.natAbs < 2 ^ 64 then some (.int (i ^ j.toNat)) else none
  | _, _ => none
def eqD (a b : PyData) : Option PyData := if SeqAt.shaped a = true ∧ SeqAt.shaped b = true then some (.bool (PyData.eqv a b)) else none
def neD (a b : PyData) : Option PyData := if SeqAt.shaped a = true ∧ SeqAt.shaped b = true then some (.bool (!PyData.eqv a b)) else none
def ltD : PyData → PyData → Option PyData
  | .int i, .int j => some (.bool (decide (i < j)))
  | _, _ => none
def leD : PyData → PyData → Option PyData
  | .int i, .int j => some (.bool (decide (i ≤ j)))
  | _, _ => none
def gtD : PyData → PyData → Option PyData
  | .int i, .int j => some (.bool (decide (j < i)))
  | _, _ => none
def geD : PyData → PyData → Option PyData
  | .int i, .int j => some (.bool (decide (j ≤ i)))
  | _, _ => none
/-- is None, is True, is False: only against such a written one -/
def isD : PyData → PyData → Option PyData
  | a, .none => some (.bool (match a with | .none => true | _ => false))
  | .bool a, .bool b => some (.bool (decide (a = b)))
  | _, _ => none
def isNotD : PyData → PyData → Option PyData
  | a, .none => some (.bool (match a with | .none => false | _ => true))
  | .bool a, .bool b => some (.bool (!decide (a = b)))
  | _, _ => none
section
variable {X : Cx} {U : Hp}
theorem od_add : OpD X U (fun x y H Q => (rI0 (fun i j => .int (i + j)) x y H Q ∨ (∃ i j, x = .str i ∧ y = .str j ∧ i.length + j.length ≤ sizeLine ∧ Q (.str (i ++ j)) H)) ∨ (rCatA X.K x y H Q ∨ rCatR X.K x y H Q)) addD := by
  intro A F H σ r m x y a b d Q G ha hb e k
  unfold addD at e
  split at e
  · cases ha; cases hb; cases e
    exact .inl (.inl ⟨_, _, rfl, rfl, k F H _ (Same.refl F) G (.vi _)⟩)
  · split at e
    · rename_i hs
      cases ha; cases hb; cases e
      exact .inl (.inr ⟨_, _, rfl, rfl, hs, k F H _ (Same.refl F) G (.vs _)⟩)
    · cases e
  · split at e
    · rename_i hs
      cases e
      cases ha with
      | vt sa ra =>
        rename_i a1 xs
        cases hb with
        | vt sb rb =>
          rename_i b1 ys
          have l1 := rpa_len ra
          have l2 := rpa_len rb
          refine .inr (.inl ⟨a1, b1, xs, ys, rfl, rfl, seqT_mono G.sub sa, seqT_mono G.sub sb, by omega, fun h0 => ?_, fun h0 h1 => ?_, fun h0 h1 p np => ?_⟩)
          · subst h0
            cases ra
            exact k F H _ (Same.refl F) G (.vt sb rb)
          · subst h1
            cases rb
            refine k F H _ (Same.refl F) G ?_
            rw [List.append_nil]
            exact .vt sa ra
          · have nF := (G.nope np).1
            have sF : Same F (upd F p (.tup (xs ++ ys))) := same_new nF
            exact k _ _ _ sF (G.laid np) (.vt (.inl (.inl upd_same)) (rpa_app (Rpam sF ra) (Rpam sF rb)))
    · cases e
  · split at e
    · rename_i hs
      cases e
      cases ha with
      | vl sa ra =>
        rename_i a1 xs
        cases hb with
        | vl sb rb =>
          rename_i b1 ys
          have l1 := rpa_len ra
          have l2 := rpa_len rb
          refine .inr (.inr ⟨a1, b1, xs, ys, rfl, rfl, sqL_mono G.sub sa, sqL_mono G.sub sb, by omega, fun p np => ?_⟩)
          have nF := (G.nope np).1
          have sF : Same F (upd F p (.lst (xs ++ ys))) := same_new nF
          exact k _ _ _ sF (G.laid np) (.vl (.inl (.inl upd_same)) (rpa_app (Rpam sF ra) (Rpam sF rb)))
    · cases e
  · cases e
theorem od_sub : OpD X U (rI0 fun i j => .int (i - j)) subD := by
  intro A F H σ r m x y a b d Q G ha hb e k
  unfold subD at e
  split at e
  · cases ha; cases hb; cases e
    exact ⟨_, _, rfl, rfl, k F H _ (Same.refl F) G (.vi _)⟩
  · cases e
theorem od_mul : OpD X U (fun x y H Q => rI CMulX (fun i j => .int (i * j)) x y H Q ∨ ∃ z n, x = .str z ∧ y = .int n ∧ MulOk z n ∧ Q (.str (Txt.mul z n)) H) mulD := by
  intro A F H σ r m x y a b d Q G ha hb e k
  unfold mulD at e
  split at e
  · split at e
    · rename_i hc
      cases ha; cases hb; cases e
      exact .inl ⟨_, _, rfl, rfl, hc, k F H _ (Same.refl F) G (.vi _)⟩
    · cases e
  · split at e
    · rename_i hc
      cases ha; cases hb; cases e
      exact .inr ⟨_, _, rfl, rfl, PyProof.Rows.mulOk_of 4096 4096 hc.1 hc.2.1 hc.2.2 (by decide) (by decide), k F H _ (Same.refl F) G (.vs _)⟩
    · cases e
  · cases e
theorem od_mod : OpD X U (rI (fun _ j => 0 < j) fun i j => .int (i % j)) modD := by
  intro A F H σ r m x y a b d Q G ha hb e k
  unfold modD at e
  split at e
  · split at e
    · rename_i hc
      cases ha; cases hb; cases e
      exact ⟨_, _, rfl, rfl, hc, k F H _ (Same.refl F) G (.vi _)⟩
    · cases e
  · cases e
theorem od_fdiv : OpD X U (rI CDivW fun i j => .int (i / j)) fdivD := by
  intro A F H σ r m x y a b d Q G ha hb e k
  unfold fdivD at e
  split at e
  · split at e
    · rename_i hc
      cases ha; cases hb; cases e
      exact ⟨_, _, rfl, rfl, hc, k F H _ (Same.refl F) G (.vi _)⟩
    · cases e
  · cases e
theorem od_pow : OpD X U (rI CPow fun i j => .int (i ^ j.toNat)) powD := by
  intro A F H σ r m x y a b d Q G ha hb e k
  unfold powD at e
  split at e
  · split at e
    · rename_i hc
      cases ha; cases hb; cases e
      exact ⟨_, _, rfl, rfl, hc, k F H _ (Same.refl F) G (.vi _)⟩
    · cases e
  · cases e
theorem od_lt : OpD X U (rI0 fun i j => .bl (decide (i < j))) ltD := by
  intro A F H σ r m x y a b d Q G ha hb e k
  unfold ltD at e
  split at e
  · cases ha; cases hb; cases e
    exact ⟨_, _, rfl, rfl, k F H _ (Same.refl F) G (.vb _)⟩
  · cases e
theorem od_le : OpD X U (rI0 fun i j => .bl (decide (i ≤ j))) leD := by
  intro A F H σ r m x y a b d Q G ha hb e k
  unfold leD at e
  split at e
  · cases ha; cases hb; cases e
    exact ⟨_, _, rfl, rfl, k F H _ (Same.refl F) G (.vb _)⟩
  · cases e
theorem od_gt : OpD X U (rI0 fun i j => .bl (decide (j < i))) gtD := by
  intro A F H σ r m x y a b d Q G ha hb e k
  unfold gtD at e
  split at e
  · cases ha; cases hb; cases e
    exact ⟨_, _, rfl, rfl, k F H _ (Same.refl F) G (.vb _)⟩
  · cases e
theorem od_ge : OpD X U (rI0 fun i j => .bl (decide (j ≤ i))) geD := by
  intro A F H σ r m x y a b d Q G ha hb e k
  unfold geD at e
  split at e
  · cases ha; cases hb; cases e
    exact ⟨_, _, rfl, rfl, k F H _ (Same.refl F) G (.vb _)⟩
  · cases e
theorem od_eq : OpD X U (rEqD X.K) eqD := by
  intro A F H σ r m x y a b d Q G ha hb e k
  unfold eqD at e
  split at e
  · rename_i hs
    cases e
    exact ⟨a, b, rp_dp G.sub _ _ (SeqAt.canLay_of_shaped hs.1) ha, rp_dp G.sub _ _ (SeqAt.canLay_of_shaped hs.2) hb, hs.1, hs.2, k F H _ (Same.refl F) G (.vb _)⟩
  · cases e
theorem od_ne : OpD X U (rNeD X.K) neD := by
  intro A F H σ r m x y a b d Q G ha hb e k
  unfold neD at e
  split at e
  · rename_i hs
    cases e
    exact ⟨a, b, rp_dp G.sub _ _ (SeqAt.canLay_of_shaped hs.1) ha, rp_dp G.sub _ _ (SeqAt.canLay_of_shaped hs.2) hb, hs.1, hs.2, k F H _ (Same.refl F) G (.vb _)⟩
  · cases e
theorem od_isNot : OpD X U (fun x y H Q => (y = .non ∧ Q (.bl (!decide (x = .non))) H) ∨ rNotB x y H Q) isNotD := by
  intro A F H σ r m x y a b d Q G ha hb e k
  unfold isNotD at e
  split at e
  · cases hb
    refine .inl ⟨rfl, ?_⟩
    have w := k F H (V.bl (!decide (x = V.non))) (Same.refl F) G
    cases e
    cases ha <;> exact w (.vb _)
  · cases ha; cases hb; cases e
    exact .inr ⟨_, _, rfl, rfl, k F H _ (Same.refl F) G (.vb _)⟩
  · cases e
variable {pos : Pos} {a b : Expr} {f g : Ev}
theorem qe_add (ha : PE X a (tE X.K U f)) (hb : PE X b (tE X.K U g)) : PE X (.BinOp a .Add b pos) (tE X.K U (eBin addD f g)) := qe_op (opr_or (opr_or op_add op_add_str) (opr_or op_catA op_catR)) od_add ha hb
theorem qe_sub (ha : PE X a (tE X.K U f)) (hb : PE X b (tE X.K U g)) : PE X (.BinOp a .Sub b pos) (tE X.K U (eBin subD f g)) := qe_op op_sub od_sub ha hb
theorem qe_mul (ha : PE X a (tE X.K U f)) (hb : PE X b (tE X.K U g)) : PE X (.BinOp a .Mult b pos) (tE X.K U (eBin mulD f g)) := qe_op (opr_or op_mulX op_mulS) od_mul ha hb
theorem qe_mod (ha : PE X a (tE X.K U f)) (hb : PE X b (tE X.K U g)) : PE X (.BinOp a .Mod b pos) (tE X.K U (eBin modD f g)) := qe_op op_mod od_mod ha hb
theorem qe_fdiv (ha : PE X a (tE X.K U f)) (hb : PE X b (tE X.K U g)) : PE X (.BinOp a .FloorDiv b pos) (tE X.K U (eBin fdivD f g)) := qe_op op_fdivW od_fdiv ha hb
theorem qe_pow (ha : PE X a (tE X.K U f)) (hb : PE X b (tE X.K U g)) : PE X (.BinOp a .Pow b pos) (tE X.K U (eBin powD f g)) := qe_op op_pow od_pow ha hb
end
end TL
end
/-! TS3 -/
section
set_option maxHeartbeats 4000000
namespace TL
open PySem L2 PyProof.Rows
end TL
end
/-! TL3 -/
section
set_option maxHeartbeats 4000000
namespace TL
open PySem L2
variable [TL.Lnk]
/-! ## argument lists, displays -/
abbrev Eas := Rs → Ms → Option (List PyData × Ms)
def tAs (K : PySem.W.Frag) (U : Hp) (f : Eas) : TA := fun σ H Q => ∃ (A : List Addr) (F : Hp) (r : Rs) (m : Ms) (ds : List PyData) (m' : Ms), Good K U A F H σ r m ∧ f r m = some (ds, m') ∧
  ∀ (F' H' : Hp) (vs : List V), Same F F' → Good K U A F' H' σ r m' → RpAll K F' vs ds → Q vs H'
def eNil : Eas := fun _ m => some ([], m)
def eCons (f : Ev) (g : Eas) : Eas := fun r m => (f r m).bind fun p => (g r p.2).map fun q => (p.1 :: q.1, q.2)
def eTup (f : Eas) : Ev := fun r m => (f r m).bind fun p => if p.1.length ≤ sizeLine then some (.tuple p.1, p.2) else none
def eLst (f : Eas) : Ev := fun r m => (f r m).bind fun p => if p.1.length ≤ sizeLine then some (.list p.1, p.2) else none
theorem cons_some {f : Ev} {g : Eas} {r : Rs} {m m' : Ms} {ds : List PyData} (e : eCons f g r m = some (ds, m')) : ∃ d1 m1 es, f r m = some (d1, m1) ∧ g r m1 = some (es, m') ∧ ds = d1 :: es := by
  unfold eCons at e
  cases e1 : f r m with
  | none => rw [e1] at e; cases e
  | some p =>
    obtain ⟨d1, m1⟩ := p
    cases e2 : g r m1 with
    | none => simp [e1, e2] at e
    | some q =>
      obtain ⟨es, m2⟩ := q
      simp [e1, e2] at e
      obtain ⟨z1, z2⟩ := e
      subst z1 z2
      exact ⟨d1, m1, es, rfl, e2, rfl⟩
/-- the value of f, turned by h -/
def eMap {α : Type} (f : Rs → Ms → Option (α × Ms)) (h : α → Option PyData) : Ev := fun r m => (f r m).bind fun p => (h p.1).map fun d => (d, p.2)
theorem map_some {α : Type} {f : Rs → Ms → Option (α × Ms)} {h : α → Option PyData} {r : Rs} {m m' : Ms} {d : PyData} (e : eMap f h r m = some (d, m')) : ∃ a, f r m = some (a, m') ∧ h a = some d := by
  unfold eMap at e
  cases e1 : f r m with
  | none => rw [e1] at e; cases e
  | some p =>
    obtain ⟨d1, m1⟩ := p
    simp [e1] at e
    obtain ⟨d2, e2, z1, z2⟩ := e
    subst z1 z2
    exact ⟨d1, rfl, e2⟩
section
variable {X : Cx} {U : Hp} {pos : Pos}
theorem qa_nil : PA X [] (tAs X.K U eNil) := pa_weak pa_nil fun σ H Q ⟨A, F, r, m, ds, m', G, e, k⟩ => by
  cases e
  exact k F H [] (Same.refl F) G .nil
theorem qa_cons {e : Expr} {es : List Expr} {f : Ev} {g : Eas} (ha : PE X e (tE X.K U f)) (hr : PA X es (tAs X.K U g)) (hs : starEach (e :: es) X.env = (false, eval e X.env) :: starEach es X.env := by rfl) :
    PA X (e :: es) (tAs X.K U (eCons f g)) := pa_weak (pa_cons ha hr hs) fun σ H Q ⟨A, F, r, m, ds, m', G, e, k⟩ => by
  obtain ⟨d1, m1, es, e1, e2, z⟩ := cons_some e
  subst z
  exact ⟨A, F, r, m, d1, m1, G, e1, fun F1 H1 x s1 G1 h1 => ⟨A, F1, r, m1, es, m', G1, e2, fun F2 H2 xs s2 G2 h2 => k F2 H2 _ (s1.trans s2) G2 (.cons (Rpm s2 h1) h2)⟩⟩
theorem qe_tup {es : List Expr} {f : Eas} {x1} (h : PA X es (tAs X.K U f)) : PE X (.Tuple es x1 pos) (tE X.K U (eTup f)) := pe_weak (pe_tup h) fun σ H Q ⟨A, F, r, m, d, m', G, e, k⟩ => by
  unfold eTup at e
  cases e1 : f r m with
  | none => rw [e1] at e; cases e
  | some p =>
    obtain ⟨ds, m1⟩ := p
    simp [e1] at e
    obtain ⟨hz, z1, z2⟩ := e
    subst z1 z2
    refine ⟨A, F, r, m, ds, m1, G, e1, fun F1 H1 xs s1 G1 h1 => ⟨by rw [rpa_len h1]; exact hz, fun p np => ?_⟩⟩
    have sF : Same F1 (upd F1 p (.tup xs)) := same_new (G1.nope np).1
    exact k _ _ _ (s1.trans sF) (G1.laid np) (.vt (.inl (.inl upd_same)) (Rpam sF h1))
theorem qe_lst {es : List Expr} {f : Eas} (h : PA X es (tAs X.K U f)) : PE X (.List es pos) (tE X.K U (eLst f)) := pe_weak (pe_lst h) fun σ H Q ⟨A, F, r, m, d, m', G, e, k⟩ => by
  unfold eLst at e
  cases e1 : f r m with
  | none => rw [e1] at e; cases e
  | some p =>
    obtain ⟨ds, m1⟩ := p
    simp [e1] at e
    obtain ⟨hz, z1, z2⟩ := e
    subst z1 z2
    refine ⟨A, F, r, m, ds, m1, G, e1, fun F1 H1 xs s1 G1 h1 => ⟨by rw [rpa_len h1]; exact hz, fun p np => ?_⟩⟩
    have sF : Same F1 (upd F1 p (.lst xs)) := same_new (G1.nope np).1
    exact k _ _ _ (s1.trans sF) (G1.laid np) (.vl (.inl (.inl upd_same)) (Rpam sF h1))
/-! ## tests -/
end
abbrev Et := Rs → Ms → Option (Bool × Ms)
def tT (K : PySem.W.Frag) (U : Hp) (f : Et) : TT := fun σ H Q => ∃ (A : List Addr) (F : Hp) (r : Rs) (m : Ms) (b : Bool) (m' : Ms), Good K U A F H σ r m ∧ f r m = some (b, m') ∧
  ∀ (F' H' : Hp), Same F F' → Good K U A F' H' σ r m' → Q b H'
def truD : PyData → Option Bool
  | .none => some false
  | .bool b => some b
  | .int i => some (i != 0)
  | .str y => if y.length ≤ sizeLine then some ((y.length : Int) != 0) else none
  | .list ds => some (!ds.isEmpty)
  | .tuple ds => some (!ds.isEmpty)
  | .dict _ => none
def blD : PyData → Option Bool
  | .bool b => some b
  | _ => none
def eT (c : PyData → Option Bool) (f : Ev) : Et := fun r m => (f r m).bind fun p => (c p.1).map fun b => (b, p.2)
def eNot (f : Et) : Et := fun r m => (f r m).map fun p => (!p.1, p.2)
def eAnd (f g : Et) : Et := fun r m => (f r m).bind fun p => if p.1 = true then g r p.2 else some (false, p.2)
def eOr (f g : Et) : Et := fun r m => (f r m).bind fun p => if p.1 = true then some (true, p.2) else g r p.2
def eIf (c : Et) (f g : Ev) : Ev := fun r m => (c r m).bind fun p => if p.1 = true then f r p.2 else g r p.2
def eAndV (f g : Ev) : Ev := fun r m => (f r m).bind fun p => match p.1 with | .bool true => g r p.2 | .bool false => some (.bool false, p.2) | _ => none
def eOrV (f g : Ev) : Ev := fun r m => (f r m).bind fun p => match p.1 with | .bool true => some (.bool true, p.2) | .bool false => g r p.2 | _ => none
def notD : PyData → Option PyData
  | .bool b => some (.bool (!b))
  | _ => none
theorem et_some {c : PyData → Option Bool} {f : Ev} {r : Rs} {m m' : Ms} {b : Bool} (e : eT c f r m = some (b, m')) : ∃ d, f r m = some (d, m') ∧ c d = some b := by
  unfold eT at e
  cases e1 : f r m with
  | none => rw [e1] at e; cases e
  | some p =>
    obtain ⟨d1, m1⟩ := p
    rw [e1] at e
    cases e2 : c d1 with
    | none => simp [e2] at e
    | some b2 =>
      simp [e2] at e
      obtain ⟨z1, z2⟩ := e
      subst z1 z2
      exact ⟨d1, rfl, e2⟩
theorem rpa_empty {K : PySem.W.Frag} {F : Hp} {vs : List V} {ds : List PyData} (h : RpAll K F vs ds) : ds.isEmpty = vs.isEmpty := by cases h <;> rfl
theorem tru_of {K : PySem.W.Frag} {F H : Hp} {x : V} {d : PyData} {b : Bool} (s : Same F H) (h : Rp K F x d) (e : truD d = some b) : TruV K x H b := by
  cases h with
  | vn => cases e; rfl
  | vb => cases e; rfl
  | vi => cases e; rfl
  | vs y =>
    simp only [truD] at e
    split at e
    · rename_i hz
      cases e
      exact ⟨hz, rfl⟩
    · cases e
  | vl hs ha => cases e; exact .inl ⟨_, sqL_mono s hs, by rw [rpa_empty ha]⟩
  | vt hs ha => cases e; exact .inr (.inl ⟨_, seqT_mono s hs, by rw [rpa_empty ha]⟩)
  | vd hs ha => cases e
  | vx hs ha hk => cases e
theorem bl_of {K : PySem.W.Frag} {F : Hp} {x : V} {d : PyData} {b : Bool} (h : Rp K F x d) (e : blD d = some b) : x = .bl b := by
  cases h <;> first | (cases e; rfl) | cases e
section
variable {X : Cx} {U : Hp} {pos : Pos} {a b c : Expr} {f g : Ev} {p q : Et} {rest : List Expr}
theorem qt_tru (ha : PE X a (tE X.K U f)) (he : ∀ whole, isTrue a X.env whole = (do let v ← whole; standAt a.pos; holding [v] (truthy v)) := by intro _; rfl) : PT X a (tT X.K U (eT truD f)) :=
  pt_weak (pt_truth ha he) fun σ H Q ⟨A, F, r, m, bb, m', G, e, k⟩ => by
    obtain ⟨d, e1, e2⟩ := et_some e
    exact ⟨A, F, r, m, d, m', G, e1, fun F1 H1 x s1 G1 h1 => ⟨bb, tru_of G1.sub h1 e2, k F1 H1 s1 G1⟩⟩
/-- a comparison as a test -/
theorem qt_cmp {op : CmpOp} {rd : R2} {od : PyData → PyData → Option PyData} (hr : OpR X (compareOp op) rd) (ho : OpD X U rd od) (ha : PE X a (tE X.K U f)) (hb : PE X b (tE X.K U g)) (hm : behindInMarks op b = false) :
    PT X (.Compare a [op] [b] pos) (tT X.K U (eT blD (eBin od f g))) := pt_weak (pt_cmpR hr ha hb hm) fun σ H Q ⟨A, F, r, m, bb, m', G, e, k⟩ => by
  obtain ⟨d, e1, e2⟩ := et_some e
  exact op2 ho ⟨A, F, r, m, d, m', G, e1, fun F1 H1 x s1 G1 h1 => ⟨bb, bl_of h1 e2, k F1 H1 s1 G1⟩⟩
theorem qt_not (ha : PT X a (tT X.K U p)) : PT X (.UnaryOp .Not a pos) (tT X.K U (eNot p)) := pt_weak (pt_not ha) fun σ H Q ⟨A, F, r, m, bb, m', G, e, k⟩ => by
  unfold eNot at e
  cases e1 : p r m with
  | none => rw [e1] at e; cases e
  | some z =>
    rw [e1] at e
    cases e
    exact ⟨A, F, r, m, z.1, z.2, G, e1, fun F1 H1 s1 G1 => k F1 H1 s1 G1⟩
theorem and_some (p q : Et) {r : Rs} {m m' : Ms} {bb : Bool} (e : eAnd p q r m = some (bb, m')) : (∃ m1, p r m = some (true, m1) ∧ q r m1 = some (bb, m')) ∨ (p r m = some (false, m') ∧ bb = false) := by
  unfold eAnd at e
  cases e1 : p r m with
  | none => rw [e1] at e; cases e
  | some z =>
    obtain ⟨b1, m1⟩ := z
    rw [e1] at e
    cases b1 with
    | true => exact .inl ⟨m1, rfl, e⟩
    | false => cases e; exact .inr ⟨rfl, rfl⟩
theorem or_some (p q : Et) {r : Rs} {m m' : Ms} {bb : Bool} (e : eOr p q r m = some (bb, m')) : (∃ m1, p r m = some (false, m1) ∧ q r m1 = some (bb, m')) ∨ (p r m = some (true, m') ∧ bb = true) := by
  unfold eOr at e
  cases e1 : p r m with
  | none => rw [e1] at e; cases e
  | some z =>
    obtain ⟨b1, m1⟩ := z
    rw [e1] at e
    cases b1 with
    | false => exact .inl ⟨m1, rfl, e⟩
    | true => cases e; exact .inr ⟨rfl, rfl⟩
theorem qw_and1 (ha : PT X a (tT X.K U p)) : PW X (.BoolOp .And [a] pos) (tT X.K U p) := pw_and1 ha
theorem qw_or1 (ha : PT X a (tT X.K U p)) : PW X (.BoolOp .Or [a] pos) (tT X.K U p) := pw_or1 ha
theorem pw_weak {e : Expr} {t t' : TT} (h : PW X e t) (w : ∀ σ H Q, t' σ H Q → t σ H Q) : PW X e t' := ⟨fun wh pins s σ H Q I q => h.run wh pins s σ H Q I (w σ H Q q)⟩
theorem qw_and (ha : PT X a (tT X.K U p)) (hb : PW X (.BoolOp .And (b :: rest) pos) (tT X.K U q)) : PW X (.BoolOp .And (a :: b :: rest) pos) (tT X.K U (eAnd p q)) := pw_weak (pw_and ha hb) fun σ H Q ⟨A, F, r, m, bb, m', G, e, k⟩ => by
  rcases and_some p q e with ⟨m1, e1, e2⟩ | ⟨e1, z⟩
  · refine ⟨A, F, r, m, true, m1, G, e1, fun F1 H1 s1 G1 => ?_⟩
    refine iteT ?_
    exact ⟨A, F1, r, m1, bb, m', G1, e2, fun F2 H2 s2 G2 => k F2 H2 (s1.trans s2) G2⟩
  · subst z
    refine ⟨A, F, r, m, false, m', G, e1, fun F1 H1 s1 G1 => ?_⟩
    refine iteF ?_
    exact k F1 H1 s1 G1
theorem qw_or (ha : PT X a (tT X.K U p)) (hb : PW X (.BoolOp .Or (b :: rest) pos) (tT X.K U q)) : PW X (.BoolOp .Or (a :: b :: rest) pos) (tT X.K U (eOr p q)) := pw_weak (pw_or ha hb) fun σ H Q ⟨A, F, r, m, bb, m', G, e, k⟩ => by
  rcases or_some p q e with ⟨m1, e1, e2⟩ | ⟨e1, z⟩
  · refine ⟨A, F, r, m, false, m1, G, e1, fun F1 H1 s1 G1 => ?_⟩
    refine iteF ?_
    exact ⟨A, F1, r, m1, bb, m', G1, e2, fun F2 H2 s2 G2 => k F2 H2 (s1.trans s2) G2⟩
  · subst z
    refine ⟨A, F, r, m, true, m', G, e1, fun F1 H1 s1 G1 => ?_⟩
    refine iteT ?_
    exact k F1 H1 s1 G1
theorem qe_one {op} (h : PE X a (tE X.K U f)) : PE X (.BoolOp op [a] pos) (tE X.K U f) := pe_one h
theorem qe_and (ha : PE X a (tE X.K U f)) (hb : PE X (.BoolOp .And (b :: rest) pos) (tE X.K U g)) : PE X (.BoolOp .And (a :: b :: rest) pos) (tE X.K U (eAndV f g)) := pe_weak (pe_and ha hb) fun σ H Q ⟨A, F, r, m, d, m', G, e, k⟩ => by
  unfold eAndV at e
  cases e1 : f r m with
  | none => rw [e1] at e; cases e
  | some z =>
    obtain ⟨d1, m1⟩ := z
    rw [e1] at e
    refine ⟨A, F, r, m, d1, m1, G, e1, fun F1 H1 x s1 G1 h1 => ?_⟩
    cases h1 with
    | vb bb =>
      refine ⟨bb, rfl, ?_⟩
      cases bb with
      | true =>
        refine iteT ?_
        exact ⟨A, F1, r, m1, d, m', G1, e, fun F2 H2 v s2 G2 h2 => k F2 H2 v (s1.trans s2) G2 h2⟩
      | false =>
        refine iteF ?_
        cases e
        exact k F1 H1 _ s1 G1 (.vb false)
    | _ => cases e
theorem qe_or (ha : PE X a (tE X.K U f)) (hb : PE X (.BoolOp .Or (b :: rest) pos) (tE X.K U g)) : PE X (.BoolOp .Or (a :: b :: rest) pos) (tE X.K U (eOrV f g)) := pe_weak (pe_or ha hb) fun σ H Q ⟨A, F, r, m, d, m', G, e, k⟩ => by
  unfold eOrV at e
  cases e1 : f r m with
  | none => rw [e1] at e; cases e
  | some z =>
    obtain ⟨d1, m1⟩ := z
    rw [e1] at e
    refine ⟨A, F, r, m, d1, m1, G, e1, fun F1 H1 x s1 G1 h1 => ?_⟩
    cases h1 with
    | vb bb =>
      refine ⟨bb, rfl, ?_⟩
      cases bb with
      | false =>
        refine iteF ?_
        exact ⟨A, F1, r, m1, d, m', G1, e, fun F2 H2 v s2 G2 h2 => k F2 H2 v (s1.trans s2) G2 h2⟩
      | true =>
        refine iteT ?_
        cases e
        exact k F1 H1 _ s1 G1 (.vb true)
    | _ => cases e
theorem qe_not (ha : PE X a (tE X.K U f)) : PE X (.UnaryOp .Not a pos) (tE X.K U (eMap f notD)) := pe_weak (pe_not ha) fun σ H Q ⟨A, F, r, m, d, m', G, e, k⟩ => by
  obtain ⟨d1, e1, e2⟩ := map_some e
  refine ⟨A, F, r, m, d1, m', G, e1, fun F1 H1 x s1 G1 h1 => ?_⟩
  cases h1 with
  | vb bb => cases e2; exact ⟨bb, rfl, k F1 H1 _ s1 G1 (.vb _)⟩
  | _ => cases e2
theorem qe_if (hc : PT X c (tT X.K U p)) (ha : PE X a (tE X.K U f)) (hb : PE X b (tE X.K U g)) : PE X (.IfExp c a b pos) (tE X.K U (eIf p f g)) := pe_weak (pe_ifExp hc ha hb) fun σ H Q ⟨A, F, r, m, d, m', G, e, k⟩ => by
  unfold eIf at e
  cases e1 : p r m with
  | none => rw [e1] at e; cases e
  | some z =>
    obtain ⟨b1, m1⟩ := z
    rw [e1] at e
    refine ⟨A, F, r, m, b1, m1, G, e1, fun F1 H1 s1 G1 => ?_⟩
    cases b1 with
    | true =>
      refine iteT ?_
      exact ⟨A, F1, r, m1, d, m', G1, e, fun F2 H2 v s2 G2 h2 => k F2 H2 v (s1.trans s2) G2 h2⟩
    | false =>
      refine iteF ?_
      exact ⟨A, F1, r, m1, d, m', G1, e, fun F2 H2 v s2 G2 h2 => k F2 H2 v (s1.trans s2) G2 h2⟩
/-- -e -/
def negD : PyData → Option PyData
  | .int i => some (.int (-i))
  | _ => none
theorem qe_neg (ha : PE X a (tE X.K U f)) : PE X (.UnaryOp .USub a pos) (tE X.K U (eMap f negD)) := pe_weak (pe_un un_neg ha) fun σ H Q ⟨A, F, r, m, d, m', G, e, k⟩ => by
  obtain ⟨d1, e1, e2⟩ := map_some e
  refine ⟨A, F, r, m, d1, m', G, e1, fun F1 H1 x s1 G1 h1 => ?_⟩
  cases h1 with
  | vi i => cases e2; exact ⟨i, rfl, k F1 H1 _ s1 G1 (.vi _)⟩
  | _ => cases e2
end
end TL
end
/-! TL4 -/
section
set_option maxHeartbeats 4000000
namespace TL
open PySem L2
variable [TL.Lnk]
/-! ## in, not in -/
def flatD : PyData → Bool
  | .none => true
  | .bool _ => true
  | .int _ => true
  | .str _ => true
  | _ => false
def inB : PyData → PyData → Option Bool
  | .str x, .str y => match x.cps.toList with
    | [c] => some (decide (c ∈ y.cps.toList))
    | _ => some (!(Builtin.Str.occurrences y x 0 y.length 1).isEmpty)
  | d, .list ds => if SeqAt.shaped d = true ∧ SeqAt.shaped (.list ds) = true then some (ds.any fun z => PyData.eqv z d) else none
  | d, .tuple ds => if flatD d = true ∧ ds.all flatD = true then some (ds.any fun z => PyData.eqv z d) else none
  | _, _ => none
def inD (a b : PyData) : Option PyData := (inB a b).map .bool
def notInD (a b : PyData) : Option PyData := (inB a b).map fun c => .bool (!c)
theorem flat_of {K : PySem.W.Frag} {F : Hp} {x : V} {d : PyData} (h : Rp K F x d) (e : flatD d = true) : flatV x = true := by
  cases h <;> first | rfl | cases e
theorem flats_of {K : PySem.W.Frag} {F : Hp} : ∀ {vs : List V} {ds : List PyData}, RpAll K F vs ds → ds.all flatD = true → vs.all flatV = true
  | _, _, .nil, _ => rfl
  | _, _, .cons h t, e => by
    simp only [List.all_cons, Bool.and_eq_true] at e ⊢
    exact ⟨flat_of h e.1, flats_of t e.2⟩
theorem eq_flat {K : PySem.W.Frag} {F F' : Hp} {x y : V} {d e : PyData} (h : Rp K F x d) (h' : Rp K F' y e) (fd : flatD d = true) (fe : flatD e = true) : eqV y x = PyData.eqv e d := by
  cases h <;> cases h' <;> first | rfl | cases fd | cases fe
theorem in_flat {K : PySem.W.Frag} {F F' : Hp} {x : V} {d : PyData} (h : Rp K F x d) (fd : flatD d = true) : ∀ {vs : List V} {ds : List PyData}, RpAll K F' vs ds → ds.all flatD = true → inV x vs = ds.any fun z => PyData.eqv z d
  | _, _, .nil, _ => rfl
  | v :: vs, z :: ds, .cons h' t, e => by
    simp only [List.all_cons, Bool.and_eq_true] at e
    have r := in_flat h fd t e.2
    unfold inV at r ⊢
    rw [List.any_cons, List.any_cons, r, eq_flat h h' fd e.1]
theorem one_cps {x : Str} {c : Nat} (h : x.cps.toList = [c]) : x = ⟨#[c]⟩ := by
  obtain ⟨a⟩ := x
  have : a = #[c] := by
    apply Array.ext'
    simpa using h
  rw [this]
abbrev rInAll (K : PySem.W.Frag) (neg : Bool) : R2 := fun x y H Q =>
  (((∃ (c : Nat) (z : Str), x = .str ⟨#[c]⟩ ∧ y = .str z ∧ Q (.bl (if neg then !decide (c ∈ z.cps.toList) else decide (c ∈ z.cps.toList))) H) ∨
    (∃ i j, x = .str i ∧ y = .str j ∧ Q (.bl (if neg then !(!(Builtin.Str.occurrences j i 0 j.length 1).isEmpty) else !(Builtin.Str.occurrences j i 0 j.length 1).isEmpty)) H)) ∨
   (∃ d ds, Dp K H x d ∧ Dp K H y (.list ds) ∧ SeqAt.shaped d = true ∧ SeqAt.shaped (.list ds) = true ∧ Q (.bl (if neg then !ds.any fun z => PyData.eqv z d else ds.any fun z => PyData.eqv z d)) H)) ∨ rIn K neg x y H Q
section
variable {X : Cx} {U : Hp}
theorem or_inAll (hu : X.A.units + 65 < cLine) : OpR X (compareOp .In) (rInAll X.K false) := opr_or (opr_or (opr_or op_in_sign op_in_str) (op_inD hu)) op_in_seq
theorem or_notInAll (hu : X.A.units + 65 < cLine) : OpR X (compareOp .NotIn) (rInAll X.K true) := opr_or (opr_or (opr_or op_notIn_sign op_notin_str) (op_notInD hu)) op_notIn_seq
theorem od_inAll (neg : Bool) : OpD X U (rInAll X.K neg) (fun a b => (inB a b).map fun c => .bool (if neg then !c else c)) := by
  intro A F H σ r m x y a b d Q G ha hb e k
  simp only at e
  cases e0 : inB a b with
  | none => rw [e0] at e; cases e
  | some c0 =>
    rw [e0] at e
    cases e
    unfold inB at e0
    split at e0
    · rename_i x y
      cases ha; cases hb
      split at e0
      · rename_i c hc
        cases e0
        rw [one_cps hc]
        exact .inl (.inl (.inl ⟨c, _, rfl, rfl, k F H _ (Same.refl F) G (.vb _)⟩))
      · cases e0
        exact .inl (.inl (.inr ⟨_, _, rfl, rfl, k F H _ (Same.refl F) G (.vb _)⟩))
    · split at e0
      · rename_i hs
        cases e0
        exact .inl (.inr ⟨_, _, rp_dp G.sub _ _ (SeqAt.canLay_of_shaped hs.1) ha, rp_dp G.sub _ _ (SeqAt.canLay_of_shaped hs.2) hb, hs.1, hs.2, k F H _ (Same.refl F) G (.vb _)⟩)
      · cases e0
    · split at e0
      · rename_i hs
        cases e0
        cases hb with
        | vt sb rb =>
          refine .inr ⟨_, _, rfl, .inr (seqT_mono G.sub sb), flat_of ha hs.1, flats_of rb hs.2, ?_⟩
          rw [in_flat ha hs.1 rb hs.2]
          exact k F H _ (Same.refl F) G (.vb _)
      · cases e0
    · cases e0
theorem od_in : OpD X U (rInAll X.K false) inD := by
  intro A F H σ r m x y a b d Q G ha hb e k
  exact od_inAll (X := X) (U := U) false A F H σ r m x y a b d Q G ha hb (by unfold inD at e; simpa using e) k
theorem od_notIn : OpD X U (rInAll X.K true) notInD := by
  intro A F H σ r m x y a b d Q G ha hb e k
  exact od_inAll (X := X) (U := U) true A F H σ r m x y a b d Q G ha hb (by unfold notInD at e; simpa using e) k
variable {pos : Pos} {a b : Expr} {f g : Ev}
end
/-! ## items, slices -/
def ixD : PyData → PyData → Option PyData
  | .list ds, .int i => atI ds i
  | .tuple ds, .int i => atI ds i
  | .str z, .int i => if z.length ≤ sizeLine then (atI z.cps.toList i).map fun c => .str ⟨#[c]⟩ else none
  | _, _ => none
theorem atI_rpa {K : PySem.W.Frag} {F : Hp} {vs : List V} {ds : List PyData} {i : Int} {d : PyData} (h : RpAll K F vs ds) (e : atI ds i = some d) : ∃ v, atI vs i = some v ∧ Rp K F v d := by
  unfold atI at e ⊢
  rw [rpa_len h]
  cases ej : ixN ds.length i with
  | none => rw [ej] at e; cases e
  | some j =>
    rw [ej] at e
    exact rpa_get h e
section
variable {X : Cx} {U : Hp}
theorem od_ix : OpD X U (rIx X.K) ixD := by
  intro A F H σ r m x y a b d Q G ha hb e k
  unfold ixD at e
  split at e
  · cases hb
    cases ha with
    | vl sa ra =>
      obtain ⟨v, e1, h1⟩ := atI_rpa ra e
      exact .inl ⟨_, _, _, v, rfl, rfl, (sqL_mono G.sub sa), e1, k F H v (Same.refl F) G h1⟩
  · cases hb
    cases ha with
    | vt sa ra =>
      obtain ⟨v, e1, h1⟩ := atI_rpa ra e
      exact .inr (.inl ⟨_, _, _, v, rfl, rfl, seqT_mono G.sub sa, e1, k F H v (Same.refl F) G h1⟩)
  · rename_i z i
    cases ha; cases hb
    split at e
    · rename_i hz
      cases e1 : atI z.cps.toList i with
      | none => rw [e1] at e; cases e
      | some c =>
        rw [e1] at e
        cases e
        exact .inr (.inr ⟨_, _, c, rfl, rfl, hz, e1, k F H _ (Same.refl F) G (.vs _)⟩)
    · cases e
  · cases e
variable {pos : Pos} {a b : Expr} {f g : Ev}
theorem qe_ix (ha : PE X a (tE X.K U f)) (hb : PE X b (tE X.K U g)) (hs : PlainIx b := by intro _ _; rfl) : PE X (.Subscript a b pos) (tE X.K U (eBin ixD f g)) := pe_weak (pe_ix ix_seq ha hb hs) fun _ _ _ h => op2 od_ix h
end
/-- x[i], x the name of a cell -/
def eIxO (i : Nat) (g : Ev) : Ev := fun r m => match r[i]? with
  | some (.ow k) => (g r m).bind fun p => (cellAt p.2 k).bind fun c => match c, p.1 with
    | .list ds, .int j => (atI ds j).map fun d => (d, p.2)
    | _, _ => none
  | _ => none
section
variable {X : Cx} {U : Hp} {pos : Pos} {b : Expr} {g : Ev}
theorem qe_ixO (i : Nat) {x : Str} {p1 : Pos} (h : PE X (.Name x p1) (tVar i)) (hb : PE X b (tE X.K U g)) (hs : PlainIx b := by intro _ _; rfl) : PE X (.Subscript (.Name x p1) b pos) (tE X.K U (eIxO i g)) := pe_weak (pe_ix ix_seq h hb hs) fun σ H Q ⟨A, F, r, m, d, m', G, e, k⟩ => by
  unfold eIxO at e
  split at e
  · rename_i kk hk
    obtain ⟨a, ha, hv⟩ := G.ow i kk hk
    cases e1 : g r m with
    | none => rw [e1] at e; cases e
    | some z =>
      obtain ⟨d1, m1⟩ := z
      rw [e1] at e
      simp only [Option.bind_some] at e
      refine ⟨_, hv, A, F, r, m, d1, m1, G, e1, fun F1 H1 y s1 G1 h1 => ?_⟩
      cases e2 : cellAt m1 kk with
      | none => rw [e2] at e; cases e
      | some c =>
        rw [e2] at e
        simp only [Option.bind_some] at e
        obtain ⟨_, _, o, hH, hr⟩ := G1.cl kk a c ha e2
        split at e
        · obtain ⟨vs, ho, hr⟩ := hr
          subst ho
          rename_i ds j
          cases h1
          cases e3 : atI ds j with
          | none => rw [e3] at e; cases e
          | some d2 =>
            rw [e3] at e
            cases e
            obtain ⟨v, e4, h4⟩ := atI_rpa hr e3
            exact .inl ⟨a, vs, j, v, rfl, rfl, .inl (.inl hH), e4, k F1 H1 v s1 G1 h4⟩
        · cases e
  · cases e
abbrev Eo := Rs → Ms → Option (Option Int × Ms)
def tO (K : PySem.W.Frag) (U : Hp) (f : Eo) : TO := fun σ H Q => ∃ (A : List Addr) (F : Hp) (r : Rs) (m : Ms) (b : Option Int) (m' : Ms), Good K U A F H σ r m ∧ f r m = some (b, m') ∧
  ∀ (F' H' : Hp), Same F F' → Good K U A F' H' σ r m' → Q b H'
def eNo : Eo := fun _ m => some (none, m)
def intD : PyData → Option (Option Int)
  | .int i => some (some i)
  | _ => none
def ePt (f : Ev) : Eo := fun r m => (f r m).bind fun p => (intD p.1).map fun o => (o, p.2)
theorem po_weak {e : Option Expr} {t t' : TO} (h : PO X e t) (w : ∀ σ H Q, t' σ H Q → t σ H Q) : PO X e t' := ⟨fun pins s σ H Q I q => h.run pins s σ H Q I (w σ H Q q)⟩
theorem qo_none : PO X none (tO X.K U eNo) := po_weak po_none fun σ H Q ⟨A, F, r, m, b, m', G, e, k⟩ => by
  cases e
  exact k F H (Same.refl F) G
theorem qo_some {e : Expr} {f : Ev} (h : PE X e (tE X.K U f)) : PO X (some e) (tO X.K U (ePt f)) := po_weak (po_some h) fun σ H Q ⟨A, F, r, m, b, m', G, e, k⟩ => by
  unfold ePt at e
  cases e1 : f r m with
  | none => rw [e1] at e; cases e
  | some z =>
    obtain ⟨d1, m1⟩ := z
    rw [e1] at e
    simp only [Option.bind_some] at e
    refine ⟨A, F, r, m, d1, m1, G, e1, fun F1 H1 y s1 G1 h1 => ?_⟩
    cases h1 with
    | vi j => cases e; exact ⟨j, rfl, k F1 H1 s1 G1⟩
    | _ => cases e
def cutD (ds : List PyData) (lo hi : Option Int) : List PyData := (ds.drop (HT.sIx ds.length 0 lo)).take (HT.sIx ds.length ds.length hi - HT.sIx ds.length 0 lo)
def slcD : PyData → Option Int → Option Int → Option PyData
  | .list ds, lo, hi => some (.list (cutD ds lo hi))
  | .tuple ds, lo, hi => some (.tuple (cutD ds lo hi))
  | .str z, lo, hi => if z.length ≤ sizeLine then some (.str (cutS z lo hi)) else none
  | _, _, _ => none
def eSl (f : Ev) (lo hi : Eo) : Ev := fun r m => (f r m).bind fun p => (lo r p.2).bind fun q => (hi r q.2).bind fun w => (slcD p.1 q.1 w.1).map fun d => (d, w.2)
theorem rpa_cut {K : PySem.W.Frag} {F : Hp} {vs : List V} {ds : List PyData} (lo hi : Option Int) (h : RpAll K F vs ds) : RpAll K F (cutV vs lo hi) (cutD ds lo hi) := by
  unfold cutV cutD
  rw [rpa_len h]
  exact rpa_take _ (rpa_drop _ h)
theorem qe_slice {e : Expr} {f : Ev} {lo hi : Option Expr} {fl fh : Eo} {p2 : Pos} (he : PE X e (tE X.K U f)) (hl : PO X lo (tO X.K U fl)) (hh : PO X hi (tO X.K U fh)) :
    PE X (.Subscript e (.Slice lo hi none p2) pos) (tE X.K U (eSl f fl fh)) := pe_weak (pe_slice (sl_list.or (sl_tupA.or sl_str)) he hl hh) fun σ H Q ⟨A, F, r, m, d, m', G, e, k⟩ => by
  unfold eSl at e
  cases e1 : f r m with
  | none => rw [e1] at e; cases e
  | some z1 =>
    obtain ⟨d1, m1⟩ := z1
    cases e2 : fl r m1 with
    | none => simp [e1, e2] at e
    | some z2 =>
      obtain ⟨l, m2⟩ := z2
      cases e3 : fh r m2 with
      | none => simp [e1, e2, e3] at e
      | some z3 =>
        obtain ⟨u, m3⟩ := z3
        simp only [e1, e2, e3, Option.bind_some] at e
        cases e4 : slcD d1 l u with
        | none => rw [e4] at e; cases e
        | some d2 =>
          rw [e4] at e
          cases e
          refine ⟨A, F, r, m, d1, m1, G, e1, fun F1 H1 x s1 G1 h1 => ⟨A, F1, r, m1, l, m2, G1, e2, fun F2 H2 s2 G2 => ⟨A, F2, r, m2, u, m', G2, e3, fun F3 H3 s3 G3 => ?_⟩⟩⟩
          have k' := fun (F' H' : Hp) (v : V) (s : Same F3 F') => k F' H' v (((s1.trans s2).trans s3).trans s)
          have h3 := Rpm (s2.trans s3) h1
          unfold slcD at e4
          split at e4
          · cases e4
            cases h3 with
            | vl sa ra =>
              refine .inl ⟨_, _, rfl, (sqL_mono G3.sub sa), fun p np => ?_⟩
              have sF := fun (o : HO) => same_new (o := o) (G3.nope np).1
              exact k' _ _ _ (sF _) (G3.laid np) (.vl (.inl (.inl upd_same)) (Rpam (sF _) (rpa_cut l u ra)))
          · cases e4
            cases h3 with
            | vt sa ra =>
              rename_i a1 xs1
              refine .inr (.inl ⟨_, _, rfl, seqT_mono G3.sub sa, fun hw => ?_, fun hw p np => ?_⟩)
              · refine k' F3 H3 _ (Same.refl F3) G3 (.vt sa ?_)
                have q := rpa_cut l u ra
                have e5 : cutV xs1 l u = xs1 := by
                  unfold cutV
                  rw [hw.1, hw.2, Nat.sub_zero, List.drop_zero, List.take_length]
                rw [e5] at q
                exact q
              · have sF := fun (o : HO) => same_new (o := o) (G3.nope np).1
                exact k' _ _ _ (sF _) (G3.laid np) (.vt (.inl (.inl upd_same)) (Rpam (sF _) (rpa_cut l u ra)))
          · split at e4
            · rename_i hz
              cases e4
              cases h3
              exact .inr (.inr ⟨_, rfl, hz, k' F3 H3 _ (Same.refl F3) G3 (.vs _)⟩)
            · cases e4
          · cases e4
end
end TL
end
/-! TL5 -/
section
set_option maxHeartbeats 4000000
namespace TL
open PySem L2
variable [TL.Lnk]
/-! ## calls of built-ins -/
def CallD (X : Cx) (U : Hp) (rc : List V → Hp → VK → Prop) (op : List PyData → Option PyData) : Prop :=
  ∀ (A : List Addr) (F H : Hp) (σ : St) (r : Rs) (m : Ms) (vs : List V) (ds : List PyData) (d : PyData) (Q : VK), Good X.K U A F H σ r m → RpAll X.K F vs ds → op ds = some d →
    (∀ (F' H' : Hp) (v : V), Same F F' → Good X.K U A F' H' σ r m → Rp X.K F' v d → Q v H') → rc vs H Q
theorem cb2 {X : Cx} {U : Hp} {rc : List V → Hp → VK → Prop} {op : List PyData → Option PyData} {f : Eas} (ho : CallD X U rc op) {σ : St} {H : Hp} {Q : VK} (h : tE X.K U (eMap f op) σ H Q) : tCB rc (tAs X.K U f) σ H Q := by
  obtain ⟨A, F, r, m, d, m', G, e, k⟩ := h
  obtain ⟨ds, e1, e2⟩ := map_some e
  exact ⟨A, F, r, m, ds, m', G, e1, fun F1 H1 vs s1 G1 h1 => ho A F1 H1 σ r m' vs ds d Q G1 h1 e2 fun F2 H2 v s2 G2 h2 => k F2 H2 v (s1.trans s2) G2 h2⟩
section
variable {X : Cx} {U : Hp} {x : Str} {p pos : Pos} {e : Expr} {es : List Expr} {id T : String} {rc : List V → Hp → VK → Prop} {op : List PyData → Option PyData} {f : Eas}
theorem qe_callB (hc : CallR X (.builtin id) rc) (ho : CallD X U rc op) (hg : Gl X x) (hm : X.mg x = none) (hv : bootBuiltins x = some (.builtin id)) (ha : PA X (e :: es) (tAs X.K U f)) (hn : x ≠ "__name__" := by decide) (hdb : (x == ("__debug__" : Str)) = false := by decide)
    (he : starEach (e :: es) X.env = (false, eval e X.env) :: starEach es X.env := by rfl) (hpl : (backTo pos (starEach es X.env)).any (·.1) = false := by rfl) : PE X (.Call (.Name x p) (e :: es) [] pos) (tE X.K U (eMap f op)) :=
  pe_weak (pe_callB hc hg hm hv ha hn hdb he hpl) fun _ _ _ h => cb2 ho h
theorem qe_callTy (hc : CallR X (.type T) rc) (ho : CallD X U rc op) (hg : Gl X x) (hm : X.mg x = none) (hv : bootBuiltins x = some (.type T)) (ha : PA X (e :: es) (tAs X.K U f)) (hn : x ≠ "__name__" := by decide) (hdb : (x == ("__debug__" : Str)) = false := by decide)
    (he : starEach (e :: es) X.env = (false, eval e X.env) :: starEach es X.env := by rfl) (hpl : (backTo pos (starEach es X.env)).any (·.1) = false := by rfl) : PE X (.Call (.Name x p) (e :: es) [] pos) (tE X.K U (eMap f op)) :=
  pe_weak (pe_callTy hc hg hm hv ha hn hdb he hpl) fun _ _ _ h => cb2 ho h
end
def lenD : List PyData → Option PyData
  | [.list ds] => some (.int ds.length)
  | [.tuple ds] => some (.int ds.length)
  | [.str z] => if z.length ≤ sizeLine then some (.int z.length) else none
  | _ => none
def absD : List PyData → Option PyData
  | [.int i] => some (.int (if i < 0 then -i else i))
  | _ => none
def bools : List PyData → Option (List Bool)
  | [] => some []
  | .bool b :: r => (bools r).map (b :: ·)
  | _ => none
def allD : List PyData → Option PyData
  | [.list ds] => (bools ds).map fun bs => .bool (bs.all id)
  | _ => none
def intD1 : List PyData → Option PyData
  | [.int i] => some (.int i)
  | [.bool k] => some (.int (if k then 1 else 0))
  | _ => none
def listD : List PyData → Option PyData
  | [.list ds] => some (.list ds)
  | [.tuple ds] => some (.list ds)
  | _ => none
def tupleD : List PyData → Option PyData
  | [.list ds] => some (.tuple ds)
  | [.tuple ds] => some (.tuple ds)
  | _ => none
def max2D : List PyData → Option PyData
  | [.int i, .int j] => some (.int (if j > i then j else i))
  | _ => none
def min2D : List PyData → Option PyData
  | [.int i, .int j] => some (.int (if j < i then j else i))
  | _ => none
section
variable {X : Cx} {U : Hp}
theorem rpa1 {K : PySem.W.Frag} {F : Hp} {vs : List V} {d : PyData} (h : RpAll K F vs [d]) : ∃ v, vs = [v] ∧ Rp K F v d := by
  cases h with
  | cons h1 h2 => cases h2; exact ⟨_, rfl, h1⟩
theorem rpa2 {K : PySem.W.Frag} {F : Hp} {vs : List V} {d e : PyData} (h : RpAll K F vs [d, e]) : ∃ v w, vs = [v, w] ∧ Rp K F v d ∧ Rp K F w e := by
  cases h with
  | cons h1 h2 => cases h2 with
    | cons h3 h4 => cases h4; exact ⟨_, _, rfl, h1, h3⟩
theorem cd_len : CallD X U (fun xs H Q => ∃ x n, xs = [x] ∧ LenV X.K x H n ∧ Q (.int n) H) lenD := by
  intro A F H σ r m vs ds d Q G ha e k
  unfold lenD at e
  split at e
  · cases e
    obtain ⟨v, rfl, h⟩ := rpa1 ha
    cases h with
    | vl sa ra => exact ⟨_, _, rfl, .inl ⟨_, (sqL_mono G.sub sa), (rpa_len ra).symm⟩, k F H _ (Same.refl F) G (.vi _)⟩
  · cases e
    obtain ⟨v, rfl, h⟩ := rpa1 ha
    cases h with
    | vt sa ra => exact ⟨_, _, rfl, .inr ⟨_, seqT_mono G.sub sa, (rpa_len ra).symm⟩, k F H _ (Same.refl F) G (.vi _)⟩
  · split at e
    · rename_i hz
      cases e
      obtain ⟨v, rfl, h⟩ := rpa1 ha
      cases h
      exact ⟨_, _, rfl, ⟨hz, rfl⟩, k F H _ (Same.refl F) G (.vi _)⟩
    · cases e
  · cases e
theorem cd_abs : CallD X U (fun xs H Q => ∃ i, xs = [.int i] ∧ Q (.int (if i < 0 then -i else i)) H) absD := by
  intro A F H σ r m vs ds d Q G ha e k
  unfold absD at e
  split at e
  · cases e
    obtain ⟨v, rfl, h⟩ := rpa1 ha
    cases h
    exact ⟨_, rfl, k F H _ (Same.refl F) G (.vi _)⟩
  · cases e
theorem bools_of {K : PySem.W.Frag} {F : Hp} : ∀ {vs : List V} {ds : List PyData} {bs : List Bool}, RpAll K F vs ds → bools ds = some bs → vs = bs.map V.bl
  | _, _, _, .nil, e => by cases e; rfl
  | v :: vs, d :: ds, bs, .cons h t, e => by
    cases h with
    | vb b =>
      simp only [bools] at e
      cases e1 : bools ds with
      | none => rw [e1] at e; cases e
      | some cs =>
        rw [e1] at e
        cases e
        rw [bools_of t e1, List.map_cons]
    | _ => cases e
theorem cd_all : CallD X U (rAll X.K) allD := by
  intro A F H σ r m vs ds d Q G ha e k
  unfold allD at e
  split at e
  · rename_i ds
    obtain ⟨v, rfl, h⟩ := rpa1 ha
    cases e1 : bools ds with
    | none => rw [e1] at e; cases e
    | some bs =>
      rw [e1] at e
      cases e
      cases h with
      | vl sa ra =>
        have q := bools_of ra e1
        subst q
        exact ⟨_, bs, rfl, (sqL_mono G.sub sa), k F H _ (Same.refl F) G (.vb _)⟩
  · cases e
theorem cd_int : CallD X U (fun xs H Q => (∃ i, xs = [.int i] ∧ Q (.int i) H) ∨ ∃ k, xs = [.bl k] ∧ Q (.int (if k then 1 else 0)) H) intD1 := by
  intro A F H σ r m vs ds d Q G ha e k
  unfold intD1 at e
  split at e
  · cases e
    obtain ⟨v, rfl, h⟩ := rpa1 ha
    cases h
    exact .inl ⟨_, rfl, k F H _ (Same.refl F) G (.vi _)⟩
  · cases e
    obtain ⟨v, rfl, h⟩ := rpa1 ha
    cases h
    exact .inr ⟨_, rfl, k F H _ (Same.refl F) G (.vi _)⟩
  · cases e
theorem cd_list : CallD X U (fun xs H Q => ∃ p ys, xs = [.ref p] ∧ (SqL X.K H p ys ∨ SqT X.K H p ys) ∧ ∀ l, H l = none → Q (.ref l) (upd H l (.lst ys))) listD := by
  intro A F H σ r m vs ds d Q G ha e k
  unfold listD at e
  split at e
  · cases e
    obtain ⟨v, rfl, h⟩ := rpa1 ha
    cases h with
    | vl sa ra =>
      rename_i a1 ys
      refine ⟨_, ys, rfl, .inl ((sqL_mono G.sub sa)), fun l hl => ?_⟩
      have sF : Same F (upd F l (.lst ys)) := same_new (G.nope hl).1
      exact k _ _ _ sF (G.laid hl) (.vl (.inl (.inl upd_same)) (Rpam sF ra))
  · cases e
    obtain ⟨v, rfl, h⟩ := rpa1 ha
    cases h with
    | vt sa ra =>
      rename_i a1 ys
      refine ⟨_, ys, rfl, .inr (seqT_mono G.sub sa), fun l hl => ?_⟩
      have sF : Same F (upd F l (.lst ys)) := same_new (G.nope hl).1
      exact k _ _ _ sF (G.laid hl) (.vl (.inl (.inl upd_same)) (Rpam sF ra))
  · cases e
theorem cd_tuple : CallD X U (fun xs H Q => ∃ p ys, xs = [.ref p] ∧ ((SqL X.K H p ys ∧ ∀ l, H l = none → Q (.ref l) (upd H l (.tup ys))) ∨ (SqT X.K H p ys ∧ Q (.ref p) H))) tupleD := by
  intro A F H σ r m vs ds d Q G ha e k
  unfold tupleD at e
  split at e
  · cases e
    obtain ⟨v, rfl, h⟩ := rpa1 ha
    cases h with
    | vl sa ra =>
      rename_i a1 ys
      refine ⟨_, ys, rfl, .inl ⟨(sqL_mono G.sub sa), fun l hl => ?_⟩⟩
      have sF : Same F (upd F l (.tup ys)) := same_new (G.nope hl).1
      exact k _ _ _ sF (G.laid hl) (.vt (.inl (.inl upd_same)) (Rpam sF ra))
  · cases e
    obtain ⟨v, rfl, h⟩ := rpa1 ha
    cases h with
    | vt sa ra => exact ⟨_, _, rfl, .inr ⟨seqT_mono G.sub sa, k F H _ (Same.refl F) G (.vt sa ra)⟩⟩
  · cases e
end
/-! ## isinstance(x, T), T a built-in type -/
def tyD : PyData → String
  | .none => "NoneType"
  | .bool _ => "bool"
  | .int _ => "int"
  | .str _ => "str"
  | .list _ => "list"
  | .tuple _ => "tuple"
  | .dict _ => "dict"
def isiD (T : String) (d : PyData) : Option PyData := if isSetD d = true then none else (kitB (tyD d) T).map .bool
theorem ty_of {K : PySem.W.Frag} {F H : Hp} {x : V} {d : PyData} (s : Same F H) (h : Rp K F x d) (hS : ¬ isSetD d = true) : TyX K H x (.type (tyD d)) := by
  cases h with
  | vn => exact .base .non
  | vb b => exact .base (.bl b)
  | vi i => exact .base (.int i)
  | vs y => exact .base (.str y)
  | vl sa ra =>
    rcases sqL_mono s sa with (e | ⟨o, e⟩) | ⟨o, its, n, e, c, _⟩
    · exact .base (.lst e)
    · exact .base (.frz e)
    · exact .kList e c
  | vt sa ra =>
    rcases seqT_mono s sa with (e | ⟨o, e⟩) | ⟨o, its, n, e, c, _⟩
    · exact .base (.tup e)
    · exact .fTuple e
    · exact .kTuple e c
  | vd sa ra =>
    rcases rd_mono s sa with e | ⟨o, e⟩
    · exact .base (.dK e)
    · exact .fDict e
  | vx _ _ _ => exact absurd rfl hS
section
variable {X : Cx} {U : Hp} {p p2 pos : Pos} {a : Expr} {f : Ev} {x y : Str} {T : String}
theorem qe_isi (hx : bootBuiltins x = some (.builtin "isinstance")) (hg : Gl X x) (hm : X.mg x = none) (hgT : Gl X y) (hmT : X.mg y = none) (hvT : bootBuiltins y = some (.type T)) (ha : PE X a (tE X.K U f)) (hn : x ≠ "__name__" := by decide) (hdb : (x == ("__debug__" : Str)) = false := by decide)
    (hnT : y ≠ "__name__" := by decide) (hdT : (y == ("__debug__" : Str)) = false := by decide) (he : starEach (a :: [.Name y p2]) X.env = (false, eval a X.env) :: starEach [.Name y p2] X.env := by rfl) (hpl : (backTo pos (starEach [.Name y p2] X.env)).any (·.1) = false := by rfl) :
    PE X (.Call (.Name x p) [a, .Name y p2] [] pos) (tE X.K U (eMap f (isiD T))) := by
  refine pe_weak (pe_callB call_isi hg hm hx (pa_cons ha (pa_cons (pe_bltn (v := .ty T) hgT hmT hvT rfl hnT hdT) pa_nil) he) hn hdb he hpl) fun σ H Q ⟨A, F, r, m, d, m', G, e, k⟩ => ?_
  obtain ⟨d1, e1, e2⟩ := map_some e
  unfold isiD at e2
  split at e2
  · cases e2
  rename_i hS
  cases e3 : kitB (tyD d1) T with
  | none => rw [e3] at e2; cases e2
  | some b =>
    rw [e3] at e2
    cases e2
    exact ⟨A, F, r, m, d1, m', G, e1, fun F1 H1 v s1 G1 h1 => ⟨v, .ty T, .type (tyD d1), .type T, b, rfl, .ty T, ty_of G1.sub h1 hS, kit_ty e3, k F1 H1 _ s1 G1 (.vb b)⟩⟩
end
/-! ## promises of defs: pure ones, ones that change their first argument, a list -/
def spD (K : PySem.W.Frag) (n : Nat) (g : List PyData → Option PyData) : Sp := fun vs H Q _ => ∃ (F : Hp) (ds : List PyData) (d : PyData), Same F H ∧ vs.length = n ∧ RpAll K F vs ds ∧ g ds = some d ∧
  ∀ (F' H' : Hp) (v : V), Same F F' → Same F' H' → (∀ b o, H b = some o → F b = none → H' b = some o ∧ F' b = none) → Rp K F' v d → Q v H'
def spR (K : PySem.W.Frag) (n : Nat) (g : PyData → List PyData → Option (PyData × PyData)) : Sp := fun vs H Q _ => ∃ (F : Hp) (a : Addr) (u : HO) (ws : List V) (cs : PyData) (ds : List PyData) (d cs' : PyData), Same F H ∧ vs = .ref a :: ws ∧ ws.length = n ∧ F a = none ∧ H a = some u ∧
  Stored K F u cs ∧ RpAll K F ws ds ∧ g cs ds = some (d, cs') ∧
  ∀ (F' H' : Hp) (v : V) (u' : HO), Same F F' → Same F' H' → (∀ b o, H b = some o → F b = none → b ≠ a → H' b = some o ∧ F' b = none) → F' a = none → H' a = some u' → Stored K F' u' cs' → Rp K F' v d → Q v H'
section
variable {K : PySem.W.Frag} {U : Hp} {A : List Addr} {F H F' H' : Hp} {σ : St} {r : Rs} {m : Ms}
theorem Good.past (G : Good K U A F H σ r m) (s1 : Same F F') (s2 : Same F' H') (k : ∀ b o, H b = some o → F b = none → H' b = some o ∧ F' b = none) : Good K U A F' H' σ r m := by
  refine ⟨s2, fun b o e => ?_, G.len, fun i d e => ?_, G.ow, G.al, fun j a ds e1 e2 => ?_, G.nd, fun a ha => ?_, G.lk⟩
  · obtain ⟨h1, h2⟩ := G.fo b o e
    exact k b o h1 h2
  · obtain ⟨v, h1, h2⟩ := G.fz i d e
    exact ⟨v, h1, Rpm s1 h2⟩
  · obtain ⟨h1, h2, vs, h3, h4⟩ := G.cl j a ds e1 e2
    obtain ⟨q1, q2⟩ := k a _ h3 h1
    exact ⟨q2, h2, vs, q1, stored_mono s1 h4⟩
  · obtain ⟨o, h1⟩ := G.he a ha
    cases q : F a with
    | none => exact ⟨o, (k a o h1 q).1⟩
    | some o' => exact ⟨o', s2 a o' (s1 a o' q)⟩
/-- the cell j was changed -/
theorem Good.pastR (G : Good K U A F H σ r m) {j : Nat} {a : Addr} {u' : HO} {cs0 cs' : PyData} (hj : A[j]? = some a) (h0 : cellAt m j = some cs0) (s1 : Same F F') (s2 : Same F' H') (k : ∀ b o, H b = some o → F b = none → b ≠ a → H' b = some o ∧ F' b = none)
    (ha : F' a = none) (hh : H' a = some u') (hr : Stored K F' u' cs') : Good K U A F' H' σ r (m.set j (some cs')) := by
  have hjm : j < m.length := cellAt_lt h0
  have hU : U a = none := (G.cl j a cs0 hj h0).2.1
  refine ⟨s2, fun b o e => ?_, G.len, fun i d e => ?_, G.ow, by rw [List.length_set]; exact G.al, fun i b ds e1 e2 => ?_, G.nd, fun b hb => ?_, G.lk⟩
  · obtain ⟨h1, h2⟩ := G.fo b o e
    exact k b o h1 h2 fun z => by rw [z, hU] at e; cases e
  · obtain ⟨v, h1, h2⟩ := G.fz i d e
    exact ⟨v, h1, Rpm s1 h2⟩
  · by_cases hi : i = j
    · subst hi
      rw [hj] at e1
      cases e1
      rw [cellAt_self hjm] at e2
      cases e2
      exact ⟨ha, hU, u', hh, hr⟩
    · rw [cellAt_ne hi] at e2
      obtain ⟨h1, h2, vs, h3, h4⟩ := G.cl i b ds e1 e2
      have hb : b ≠ a := fun z => by
        subst z
        have w1 := (List.getElem?_eq_some_iff.mp e1)
        have w2 := (List.getElem?_eq_some_iff.mp hj)
        obtain ⟨l1, q1⟩ := w1
        obtain ⟨l2, q2⟩ := w2
        exact hi ((List.getElem_inj G.nd).mp (q1.trans q2.symm))
      obtain ⟨q1, q2⟩ := k b _ h3 h1 hb
      exact ⟨q2, h2, vs, q1, stored_mono s1 h4⟩
  · by_cases hba : b = a
    · exact ⟨_, by rw [hba]; exact hh⟩
    · obtain ⟨o, h1⟩ := G.he b hb
      cases q : F b with
      | none => exact ⟨o, (k b o h1 q hba).1⟩
      | some o' => exact ⟨o', s2 b o' (s1 b o' q)⟩
end
/-- with just n arguments -/
def arN {α : Type} (n : Nat) (g : List PyData → Option α) (ds : List PyData) : Option α := if ds.length = n then g ds else none
theorem arN_some {α : Type} {n : Nat} {g : List PyData → Option α} {ds : List PyData} {a : α} (e : arN n g ds = some a) : ds.length = n ∧ g ds = some a := by
  unfold arN at e
  split at e
  · rename_i h
    exact ⟨h, e⟩
  · cases e
def eCallR (n : Nat) (i : Nat) (g : PyData → List PyData → Option (PyData × PyData)) (f : Eas) : Ev := fun r m => match r[i]? with
  | some (.ow j) => (f r m).bind fun p => (cellAt p.2 j).bind fun cs => (arN n (g cs) p.1).map fun q => (q.1, p.2.set j (some q.2))
  | _ => none
end TL
end
/-! TL6 -/
section
set_option maxHeartbeats 4000000
namespace TL
open PySem L2
variable [TL.Lnk]
/-! ## statements -/
inductive Out where
  | nx (r : Rs) (m : Ms) | rt (d : PyData) (m : Ms) | rn (ds : PyData) (m : Ms) | bk (r : Rs) (m : Ms) | ct (r : Rs) (m : Ms)
abbrev Es := Rs → Ms → Option Out
/-- what a return leaves of the first n0 cells -/
structure Fin (K : PySem.W.Frag) (U : Hp) (n0 : Nat) (A : List Addr) (F H : Hp) (m : Ms) : Prop where
  sub : Same F H
  fo : ∀ b o, U b = some o → H b = some o ∧ F b = none
  cl : ∀ (k : Nat) (a : Addr) (ds : PyData), k < n0 → A[k]? = some a → cellAt m k = some ds → F a = none ∧ ∃ o, H a = some o ∧ Stored K F o ds
def Post (K : PySem.W.Frag) (U : Hp) (n0 : Nat) (A : List Addr) (F : Hp) (D : Ends) : Out → Prop
  | .nx r m => ∀ (A' : List Addr) (F' H' : Hp) (σ' : St), A <+: A' → Same F F' → Good K U A' F' H' σ' r m → D.nx σ' H'
  | .rt d m => ∀ (A' : List Addr) (F' H' : Hp) (v : V), A <+: A' → Same F F' → Fin K U n0 A' F' H' m → Rp K F' v d → D.rt v H'
  | .rn ds m => ∀ (A' : List Addr) (F' H' : Hp) (a : Addr) (u : HO), A <+: A' → Same F F' → Fin K U n0 A' F' H' m → F' a = none → U a = none → (∀ k, k < n0 → A'[k]? ≠ some a) → H' a = some u → Stored K F' u ds → D.rt (.ref a) H'
  | .bk r m => ∀ (A' : List Addr) (F' H' : Hp) (σ' : St), A <+: A' → Same F F' → Good K U A' F' H' σ' r m → D.bk σ' H'
  | .ct r m => ∀ (A' : List Addr) (F' H' : Hp) (σ' : St), A <+: A' → Same F F' → Good K U A' F' H' σ' r m → D.ct σ' H'
def tS (K : PySem.W.Frag) (U : Hp) (n0 : Nat) (f : Es) : TS := fun D σ H => ∃ (A : List Addr) (F : Hp) (r : Rs) (m : Ms) (o : Out), Good K U A F H σ r m ∧ n0 ≤ A.length ∧ f r m = some o ∧ Post K U n0 A F D o
section
variable {K : PySem.W.Frag} {U : Hp} {n0 : Nat} {A A1 : List Addr} {F F1 H : Hp} {D : Ends} {σ : St} {r : Rs} {m : Ms}
theorem Good.fin (G : Good K U A F H σ r m) (h : n0 ≤ A.length) : Fin K U n0 A F H m := ⟨G.sub, G.fo, fun k a ds _ ha hm => by
  obtain ⟨h1, _, vs, h3, h4⟩ := G.cl k a ds ha hm
  exact ⟨h1, vs, h3, h4⟩⟩
theorem Post.later (hA : A <+: A1) (hF : Same F F1) : ∀ {o : Out}, Post K U n0 A F D o → Post K U n0 A1 F1 D o
  | .nx r m, p => fun A' F' H' σ' ha hf G => p A' F' H' σ' (hA.trans ha) (hF.trans hf) G
  | .rt d m, p => fun A' F' H' v ha hf G h => p A' F' H' v (hA.trans ha) (hF.trans hf) G h
  | .rn ds m, p => fun A' F' H' a vs ha hf G h1 h2 h3 h4 h5 => p A' F' H' a vs (hA.trans ha) (hF.trans hf) G h1 h2 h3 h4 h5
  | .bk r m, p => fun A' F' H' σ' ha hf G => p A' F' H' σ' (hA.trans ha) (hF.trans hf) G
  | .ct r m, p => fun A' F' H' σ' ha hf G => p A' F' H' σ' (hA.trans ha) (hF.trans hf) G
theorem len_of (hA : A <+: A1) (h : n0 ≤ A.length) : n0 ≤ A1.length := Nat.le_trans h hA.length_le
/-- a slot gets a value -/
theorem Good.setFz (G : Good K U A F H σ r m) {i : Nat} {v : V} {d : PyData} (h : Rp K F v d) : Good K U A F H (σ.set i (some v)) (r.set i (.fz d)) m := by
  refine ⟨G.sub, G.fo, by rw [List.length_set, List.length_set]; exact G.len, fun j e he => ?_, fun j k he => ?_, G.al, G.cl, G.nd, G.he, G.lk⟩
  · by_cases hj : i = j
    · subst hj
      by_cases hl : i < r.length
      · rw [List.getElem?_set_self hl] at he
        cases he
        exact ⟨v, List.getElem?_set_self (by rw [← G.len]; exact hl), h⟩
      · rw [List.getElem?_eq_none (by rw [List.length_set]; omega)] at he
        cases he
    · rw [List.getElem?_set_ne hj] at he
      rw [List.getElem?_set_ne hj]
      exact G.fz j e he
  · by_cases hj : i = j
    · subst hj
      by_cases hl : i < r.length
      · rw [List.getElem?_set_self hl] at he
        cases he
      · rw [List.getElem?_eq_none (by rw [List.length_set]; omega)] at he
        cases he
    · rw [List.getElem?_set_ne hj] at he
      rw [List.getElem?_set_ne hj]
      exact G.ow j k he
/-- a slot gets a new cell -/
theorem Good.setOw (G : Good K U A F H σ r m) {i : Nat} {a : Addr} {u : HO} {ds : PyData} (hF : F a = none) (hU : U a = none) (hA : a ∉ A) (hH : H a = some u) (h : Stored K F u ds) :
    Good K U (A ++ [a]) F H (σ.set i (some (.ref a))) (r.set i (.ow m.length)) (m ++ [some ds]) := by
  have at_ : (A ++ [a])[m.length]? = some a := by rw [← G.al]; simp
  have old : ∀ {k : Nat} {b : Addr}, (A ++ [a])[k]? = some b → k ≠ m.length → A[k]? = some b := fun {k b} e hk => by
    by_cases hl : k < A.length
    · rw [List.getElem?_append_left hl] at e
      exact e
    · rw [List.getElem?_append_right (by omega)] at e
      have z := (List.getElem?_eq_some_iff.mp e).1
      rw [List.length_singleton] at z
      have := G.al
      omega
  refine ⟨G.sub, G.fo, by rw [List.length_set, List.length_set]; exact G.len, fun j e he => ?_, fun j k he => ?_, by rw [List.length_append, List.length_append, G.al]; rfl, fun k b es e1 e2 => ?_, ?_, fun b hb => ?_, Lnk.up G.lk (List.prefix_append _ _)⟩
  · by_cases hj : i = j
    · subst hj
      by_cases hl : i < r.length
      · rw [List.getElem?_set_self hl] at he
        cases he
      · rw [List.getElem?_eq_none (by rw [List.length_set]; omega)] at he
        cases he
    · rw [List.getElem?_set_ne hj] at he
      rw [List.getElem?_set_ne hj]
      exact G.fz j e he
  · by_cases hj : i = j
    · subst hj
      by_cases hl : i < r.length
      · rw [List.getElem?_set_self hl] at he
        cases he
        exact ⟨a, at_, List.getElem?_set_self (by rw [← G.len]; exact hl)⟩
      · rw [List.getElem?_eq_none (by rw [List.length_set]; omega)] at he
        cases he
    · rw [List.getElem?_set_ne hj] at he
      rw [List.getElem?_set_ne hj]
      obtain ⟨b, h1, h2⟩ := G.ow j k he
      exact ⟨b, by rw [List.getElem?_append_left (List.getElem?_eq_some_iff.mp h1).1]; exact h1, h2⟩
  · by_cases hk : k = m.length
    · subst hk
      rw [at_] at e1
      cases e1
      rw [cellAt_new] at e2
      cases e2
      exact ⟨hF, hU, u, hH, h⟩
    · have e1' := old e1 hk
      have hl : k < m.length := by rw [← G.al]; exact (List.getElem?_eq_some_iff.mp e1').1
      rw [cellAt_old hl] at e2
      exact G.cl k b es e1' e2
  · rw [List.nodup_append]
    exact ⟨G.nd, by simp, fun x hx y hy => by
      rw [List.mem_singleton] at hy
      subst hy
      exact fun z => hA (z ▸ hx)⟩
  · rcases List.mem_append.mp hb with q | q
    · exact G.he b q
    · rw [List.mem_singleton] at q
      exact ⟨_, by rw [q]; exact hH⟩
/-- a new list in the heap is no cell -/
theorem Good.notin (G : Good K U A F H σ r m) {p : Addr} (h : H p = none) : p ∉ A := fun hp => by
  obtain ⟨o, e⟩ := G.he p hp
  rw [h] at e
  cases e
/-- an object is laid that is ours alone -/
theorem Good.laidO (G : Good K U A F H σ r m) {p : Addr} {o : HO} (h : H p = none) : Good K U A F (upd H p o) σ r m := by
  obtain ⟨hF, hU⟩ := G.nope h
  refine ⟨fun b u e => ?_, fun b u e => ?_, G.len, G.fz, G.ow, G.al, fun k a ds e1 e2 => ?_, G.nd, fun a ha => ?_, G.lk⟩
  · have hb : b ≠ p := fun z => by rw [z, hF] at e; cases e
    rw [upd_ne hb]
    exact G.sub b u e
  · have hb : b ≠ p := fun z => by rw [z, hU] at e; cases e
    rw [upd_ne hb]
    exact G.fo b u e
  · obtain ⟨h1, h2, vs, h3, h4⟩ := G.cl k a ds e1 e2
    have ha : a ≠ p := fun z => by rw [z, h] at h3; cases h3
    exact ⟨h1, h2, vs, by rw [upd_ne ha]; exact h3, h4⟩
  · obtain ⟨o', h1⟩ := G.he a ha
    exact ⟨o', by rw [upd_ne (ne_of_none h1 h)]; exact h1⟩
/-- the cell j is changed -/
theorem Good.setCell (G : Good K U A F H σ r m) {j : Nat} {a : Addr} {u' : HO} {ds0 ds' : PyData} (hj : A[j]? = some a) (h0 : cellAt m j = some ds0) (h : Stored K F u' ds') : Good K U A F (upd H a u') σ r (m.set j (some ds')) := by
  obtain ⟨hF, hU, vs, hH, _⟩ := G.cl j a ds0 hj h0
  refine G.pastR hj h0 (Same.refl F) (fun b o e => ?_) (fun b o e n hb => ?_) hF upd_same h
  · have hb : b ≠ a := fun z => by rw [z, hF] at e; cases e
    rw [upd_ne hb]
    exact G.sub b o e
  · exact ⟨by rw [upd_ne hb]; exact e, n⟩
/-- the cell k is frozen: its names hold data -/
def frzR (k : Nat) (d : PyData) (r : Rs) : Rs := r.map fun s => match s with
  | .ow j => if j = k then .fz d else .ow j
  | s => s
theorem Good.freeze (G : Good K U A F H σ r m) {k : Nat} {a : Addr} {ds : PyData} (hj : A[k]? = some a) (h0 : cellAt m k = some ds) :
    ∃ u, Same F (upd F a u) ∧ Good K U A (upd F a u) H σ (frzR k ds r) (m.set k none) ∧ Rp K (upd F a u) (.ref a) ds := by
  obtain ⟨hF, hU, vs, hH, hr⟩ := G.cl k a ds hj h0
  have s : Same F (upd F a vs) := same_new hF
  have hk := cellAt_lt h0
  have hv : Rp K (upd F a vs) (.ref a) ds := stored_rp upd_same (stored_mono s hr)
  refine ⟨vs, s, ⟨fun b o e => ?_, fun b o e => ?_, by unfold frzR; rw [List.length_map]; exact G.len, fun i d e => ?_, fun i j e => ?_, by rw [List.length_set]; exact G.al, fun j b es e1 e2 => ?_, G.nd, G.he, G.lk⟩, hv⟩
  · by_cases hb : b = a
    · subst hb
      rw [upd_same] at e
      cases e
      exact hH
    · rw [upd_ne hb] at e
      exact G.sub b o e
  · have hb : b ≠ a := fun z => by rw [z, hU] at e; cases e
    rw [upd_ne hb]
    exact G.fo b o e
  · unfold frzR at e
    rw [List.getElem?_map] at e
    cases e1 : r[i]? with
    | none => rw [e1] at e; cases e
    | some sl =>
      rw [e1] at e
      cases sl with
      | un => cases e
      | fz d' =>
        cases e
        obtain ⟨v, h1, h2⟩ := G.fz i _ e1
        exact ⟨v, h1, Rpm s h2⟩
      | ow j =>
        simp only [Option.map_some, Option.some.injEq] at e
        by_cases hjk : j = k
        · rw [if_pos hjk] at e
          cases e
          obtain ⟨b, h1, h2⟩ := G.ow i j e1
          rw [hjk, hj] at h1
          cases h1
          exact ⟨_, h2, hv⟩
        · rw [if_neg hjk] at e
          cases e
  · unfold frzR at e
    rw [List.getElem?_map] at e
    cases e1 : r[i]? with
    | none => rw [e1] at e; cases e
    | some sl =>
      rw [e1] at e
      cases sl with
      | un => cases e
      | fz d' => cases e
      | ow j' =>
        simp only [Option.map_some, Option.some.injEq] at e
        by_cases hjk : j' = k
        · rw [if_pos hjk] at e
          cases e
        · rw [if_neg hjk] at e
          cases e
          exact G.ow i _ e1
  · by_cases hjk : j = k
    · subst hjk
      rw [cellAt_self hk] at e2
      cases e2
    · rw [cellAt_ne hjk] at e2
      obtain ⟨h1, h2, us, h3, h4⟩ := G.cl j b es e1 e2
      have hb : b ≠ a := fun z => by
        subst z
        obtain ⟨l1, q1⟩ := List.getElem?_eq_some_iff.mp e1
        obtain ⟨l2, q2⟩ := List.getElem?_eq_some_iff.mp hj
        exact hjk ((List.getElem_inj G.nd).mp (q1.trans q2.symm))
      exact ⟨by rw [upd_ne hb]; exact h1, h2, us, h3, stored_mono s h4⟩
end
def sNil : Es := fun r m => some (.nx r m)
def sSeq (f g : Es) : Es := fun r m => (f r m).bind fun o => match o with | .nx r1 m1 => g r1 m1 | o => some o
def sSet (i : Nat) (f : Ev) : Es := fun r m => (f r m).map fun p => .nx (r.set i (.fz p.1)) p.2
def sNew (i : Nat) (f : Eas) : Es := fun r m => (f r m).bind fun p => if p.1.length ≤ sizeLine then some (.nx (r.set i (.ow p.2.length)) (p.2 ++ [some (.list p.1)])) else none
def sRet (f : Ev) : Es := fun r m => (f r m).map fun p => .rt p.1 p.2
def sRetN : Es := fun r m => some (.rt .none m)
def sRetL (f : Eas) : Es := fun r m => (f r m).bind fun p => if p.1.length ≤ sizeLine then some (.rn (.list p.1) p.2) else none
def sIf (c : Et) (f g : Es) : Es := fun r m => (c r m).bind fun p => if p.1 = true then f r p.2 else g r p.2
def sDrop (f : Ev) : Es := fun r m => (f r m).map fun p => .nx r p.2
def sBrk : Es := fun r m => some (.bk r m)
def sCont : Es := fun r m => some (.ct r m)
def slO : Option Sl → Option Nat
  | some (.ow k) => some k
  | _ => none
def sApp (i : Nat) (f : Ev) : Es := fun r m => (slO r[i]?).bind fun k => (cellAt m k).bind fun c0 => (f r m).bind fun p => match c0 with
  | .list _ => (cellAt p.2 k).bind fun c => match c with
    | .list ds => if ds.length < sizeLine then some (.nx r (p.2.set k (some (.list (ds ++ [p.1]))))) else none
    | _ => none
  | _ => none
def sPut (i : Nat) (f g : Ev) : Es := fun r m => (slO r[i]?).bind fun k => (f r m).bind fun p => (g r p.2).bind fun q => (cellAt q.2 k).bind fun c => match c, q.1 with
  | .list ds, .int j => (ixN ds.length j).map fun n => .nx r (q.2.set k (some (.list (ds.set n p.1))))
  | _, _ => none
section
variable {X : Cx} {U : Hp} {n0 : Nat} {pos : Pos} {e b : Expr} {es : List Expr} {f g : Ev} {fs : Eas}
theorem qs_nil : PSs X [] (tS X.K U n0 sNil) := pss_weak pss_nil fun D σ H ⟨A, F, r, m, o, G, hn, e, p⟩ => by
  cases e
  exact p A F H σ (List.prefix_refl A) (Same.refl F) G
theorem qs_one {st : Stmt} {s : Es} (h : PS X st (tS X.K U n0 s)) : PSs X [st] (tS X.K U n0 s) := pss_one h
theorem qs_cons {st : Stmt} {rest : List Stmt} {s t : Es} (h1 : PS X st (tS X.K U n0 s)) (h2 : PSs X rest (tS X.K U n0 t)) : PSs X (st :: rest) (tS X.K U n0 (sSeq s t)) := pss_weak (pss_cons h1 h2) fun D σ H ⟨A, F, r, m, o, G, hn, e, p⟩ => by
  unfold sSeq at e
  cases e1 : s r m with
  | none => rw [e1] at e; cases e
  | some o1 =>
    rw [e1] at e
    refine ⟨A, F, r, m, o1, G, hn, e1, ?_⟩
    cases o1 with
    | nx r1 m1 => exact fun A' F' H' σ' ha hf G' => ⟨A', F', r1, m1, o, G', len_of ha hn, e, p.later ha hf⟩
    | rt d m1 => cases e; exact p
    | rn ds m1 => cases e; exact p
    | bk r1 m1 => cases e; exact p
    | ct r1 m1 => cases e; exact p
theorem qs_set {i : Nat} {x : Str} {p1 : Pos} (hN : X.N.Nodup) (hi : X.N[i]? = some x) (hx : Loc X.env.scope x) (he : PE X e (tE X.K U f)) (hs : swapsWith e (some (.Name x p1)) pos.line X.env = pure false := by rfl)
    (hf : X.fn x = true ∨ X.env.scope.names.lookup x = some .local := by first | exact .inl rfl | exact .inr rfl | assumption) : PS X (.Assign [.Name x p1] e pos) (tS X.K U n0 (sSet i f)) := ps_weak (ps_set hN hi hx he hs hf) fun D σ H ⟨A, F, r, m, o, G, hn, e, p⟩ => by
  unfold sSet at e
  cases e1 : f r m with
  | none => rw [e1] at e; cases e
  | some q =>
    rw [e1] at e
    cases e
    exact ⟨A, F, r, m, q.1, q.2, G, e1, fun F1 H1 v s1 G1 h1 => p A F1 H1 _ (List.prefix_refl A) s1 (G1.setFz h1)⟩
theorem qs_new {i : Nat} {x : Str} {p1 p2 : Pos} (hN : X.N.Nodup) (hi : X.N[i]? = some x) (hx : Loc X.env.scope x) (he : PA X es (tAs X.K U fs)) (hs : swapsWith (.List es p2) (some (.Name x p1)) pos.line X.env = pure false := by rfl)
    (hf : X.fn x = true ∨ X.env.scope.names.lookup x = some .local := by first | exact .inl rfl | exact .inr rfl | assumption) : PS X (.Assign [.Name x p1] (.List es p2) pos) (tS X.K U n0 (sNew i fs)) := ps_weak (ps_set hN hi hx (pe_lst he) hs hf) fun D σ H ⟨A, F, r, m, o, G, hn, e, p⟩ => by
  unfold sNew at e
  cases e1 : fs r m with
  | none => rw [e1] at e; cases e
  | some q =>
    rw [e1] at e
    simp only [Option.bind_some] at e
    split at e
    · rename_i hz
      cases e
      refine ⟨A, F, r, m, q.1, q.2, G, e1, fun F1 H1 vs s1 G1 h1 => ⟨by rw [rpa_len h1]; exact hz, fun l hl => ?_⟩⟩
      exact p (A ++ [l]) F1 _ _ (List.prefix_append A [l]) s1 ((G1.laidO hl).setOw (G1.nope hl).1 (G1.nope hl).2 (G1.notin hl) upd_same ⟨_, rfl, h1⟩)
    · cases e
theorem qs_ret (he : PE X e (tE X.K U f)) : PS X (.Return (some e) pos) (tS X.K U n0 (sRet f)) := ps_weak (ps_ret he) fun D σ H ⟨A, F, r, m, o, G, hn, e, p⟩ => by
  unfold sRet at e
  cases e1 : f r m with
  | none => rw [e1] at e; cases e
  | some q =>
    rw [e1] at e
    cases e
    exact ⟨A, F, r, m, q.1, q.2, G, e1, fun F1 H1 v s1 G1 h1 => p A F1 H1 v (List.prefix_refl A) s1 (G1.fin hn) h1⟩
theorem qs_retL {p2 : Pos} (he : PA X es (tAs X.K U fs)) : PS X (.Return (some (.List es p2)) pos) (tS X.K U n0 (sRetL fs)) := ps_weak (ps_ret (pe_lst he)) fun D σ H ⟨A, F, r, m, o, G, hn, e, p⟩ => by
  unfold sRetL at e
  cases e1 : fs r m with
  | none => rw [e1] at e; cases e
  | some q =>
    rw [e1] at e
    simp only [Option.bind_some] at e
    split at e
    · rename_i hz
      cases e
      refine ⟨A, F, r, m, q.1, q.2, G, e1, fun F1 H1 vs s1 G1 h1 => ⟨by rw [rpa_len h1]; exact hz, fun l hl => ?_⟩⟩
      exact p A F1 _ l _ (List.prefix_refl A) s1 ((G1.laidO hl).fin hn) (G1.nope hl).1 (G1.nope hl).2 (fun k _ e2 => G1.notin hl (List.mem_of_getElem? e2)) upd_same ⟨_, rfl, h1⟩
    · cases e
theorem qs_if {c : Expr} {p q : List Stmt} {t : Et} {s u : Es} (hc : PT X c (tT X.K U t)) (ha : PSs X p (tS X.K U n0 s)) (hb : PSs X q (tS X.K U n0 u)) : PS X (.If c p q pos) (tS X.K U n0 (sIf t s u)) := ps_weak (ps_if hc ha hb) fun D σ H ⟨A, F, r, m, o, G, hn, e, po⟩ => by
  unfold sIf at e
  cases e1 : t r m with
  | none => rw [e1] at e; cases e
  | some z =>
    obtain ⟨b1, m1⟩ := z
    rw [e1] at e
    refine ⟨A, F, r, m, b1, m1, G, e1, fun F1 H1 s1 G1 => ?_⟩
    have p1 := po.later (List.prefix_refl A) s1
    cases b1 with
    | true => exact iteT ⟨A, F1, r, m1, o, G1, hn, e, p1⟩
    | false => exact iteF ⟨A, F1, r, m1, o, G1, hn, e, p1⟩
theorem slO_some {s : Option Sl} {k : Nat} (e : slO s = some k) : s = some (.ow k) := by
  unfold slO at e
  split at e
  · cases e; rfl
  · cases e
theorem qs_app {i : Nat} {x : Str} {p1 apos cpos : Pos} (hv : PE X (.Name x p1) (tVar i)) (he : PE X e (tE X.K U f)) (hbase : attributeBase (.Name x p1) "append" X.env (eval (.Name x p1) X.env) = eval (.Name x p1) X.env := by rfl)
    (hfew : ((backTo cpos (starEach [e] X.env)).all (fun x => !x.1) && (backToKw cpos (keywordEach [] X.env)).all (fun x => x.1.isSome) && decide ([e].length + ([] : List Keyword).length + (if ([] : List Keyword).isEmpty then 0 else 1) < 30)) = true := by rfl)
    (hline : (apos.endLine == cpos.line) = true := by rfl) (hse : starEach [e] X.env = (false, eval e X.env) :: starEach [] X.env := by rfl) (hplain : (backTo cpos (starEach [] X.env)).any (·.1) = false := by rfl)
    (hs : swapsWith (.Call (.Attribute (.Name x p1) "append" apos) [e] [] cpos) none pos.line X.env = pure false := by rfl) :
    PS X (.Expr (.Call (.Attribute (.Name x p1) "append" apos) [e] [] cpos) pos) (tS X.K U n0 (sApp i f)) :=
  ps_weak (ps_expr (pe_bm PySem.F.plainAttrs_list PySem.F.slot_list_append PySem.F.type_list_append mt_append hv (pa_cons he pa_nil hse) hbase hfew hline hse hplain) hs) fun D σ H ⟨A, F, r, m, o, G, hn, e, p⟩ => by
  unfold sApp at e
  cases e0 : slO r[i]? with
  | none => rw [e0] at e; cases e
  | some k =>
    rw [e0] at e
    simp only [Option.bind_some] at e
    obtain ⟨a, hA, hσ⟩ := G.ow i k (slO_some e0)
    cases e9 : cellAt m k with
    | none => rw [e9] at e; cases e
    | some ds9 =>
    rw [e9] at e
    simp only [Option.bind_some] at e
    cases e1 : f r m with
    | none => rw [e1] at e; cases e
    | some q =>
      obtain ⟨d, m1⟩ := q
      rw [e1] at e
      simp only [Option.bind_some] at e
      split at e
      · obtain ⟨_, _, o0, hH0, hs0⟩ := G.cl k a _ hA e9
        obtain ⟨vs0, ho, _⟩ := hs0
        subst ho
        refine ⟨_, hσ, .inl ⟨rfl, _, .inl (.inl hH0)⟩, A, F, r, m, d, m1, G, e1, fun F1 H1 v s1 G1 h1 => ?_⟩
        cases e2 : cellAt m1 k with
        | none => rw [e2] at e; cases e
        | some c =>
          rw [e2] at e
          simp only [Option.bind_some] at e
          split at e
          · split at e
            · rename_i hz
              cases e
              obtain ⟨c1, c2, o3, c3, vs, c5, c4⟩ := G1.cl k a _ hA e2
              subst c5
              refine ⟨a, vs, v, rfl, rfl, c3, by rw [rpa_len c4]; exact hz, ?_⟩
              exact p A F1 _ σ (List.prefix_refl A) s1 (G1.setCell hA e2 ⟨_, rfl, rpa_app c4 (.cons h1 .nil)⟩)
            · cases e
          · cases e
      · cases e
theorem qs_put {i : Nat} {x : Str} {p1 p2 : Pos} (hv : PE X (.Name x p1) (tVar i)) (he : PE X e (tE X.K U f)) (hb : PE X b (tE X.K U g)) (hg : ∀ {to ti : TE}, PE X (.Name x p1) to → PE X b ti → PG X (.Subscript (.Name x p1) b p2) (gSub to ti rSetL))
    (hs : swapsWithSole [.Subscript (.Name x p1) b p2] e pos.line X.env = pure false := by rfl) (hw : swappedStores [.Subscript (.Name x p1) b p2] e X.env = pure none := by rfl) (h1 : (assignEach [.Subscript (.Name x p1) b p2] X.env).map (·.2) = [assign (.Subscript (.Name x p1) b p2) X.env] := by rfl) :
    PS X (.Assign [.Subscript (.Name x p1) b p2] e pos) (tS X.K U n0 (sPut i f g)) := ps_weak (ps_asg he (hg hv hb) hs hw h1) fun D σ H ⟨A, F, r, m, o, G, hn, e, p⟩ => by
  unfold sPut at e
  cases e0 : slO r[i]? with
  | none => rw [e0] at e; cases e
  | some k =>
    rw [e0] at e
    simp only [Option.bind_some] at e
    obtain ⟨a, hA, hσ⟩ := G.ow i k (slO_some e0)
    cases e1 : f r m with
    | none => rw [e1] at e; cases e
    | some q =>
      obtain ⟨d, m1⟩ := q
      rw [e1] at e
      simp only [Option.bind_some] at e
      cases e2 : g r m1 with
      | none => rw [e2] at e; cases e
      | some q2 =>
        obtain ⟨d2, m2⟩ := q2
        rw [e2] at e
        simp only [Option.bind_some] at e
        cases e3 : cellAt m2 k with
        | none => rw [e3] at e; cases e
        | some c =>
          rw [e3] at e
          simp only [Option.bind_some] at e
          refine ⟨A, F, r, m, d, m1, G, e1, fun F1 H1 v s1 G1 h1 => ⟨_, hσ, A, F1, r, m1, d2, m2, G1, e2, fun F2 H2 w s2 G2 h2 => ?_⟩⟩
          split at e
          · rename_i ds j
            obtain ⟨c1, c2, o3, c3, vs, c5, c4⟩ := G2.cl k a _ hA e3
            subst c5
            cases h2
            cases e4 : ixN ds.length j with
            | none => rw [e4] at e; cases e
            | some n =>
              rw [e4] at e
              cases e
              refine ⟨a, vs, j, n, rfl, rfl, c3, by rw [rpa_len c4]; exact e4, ?_⟩
              exact p A F2 _ σ (List.prefix_refl A) (s1.trans s2) (G2.setCell hA e3 ⟨_, rfl, rpa_set (Rpm s2 h1) n c4⟩)
          · cases e
end
end TL
end
/-! TL7 -/
section
set_option maxHeartbeats 4000000
namespace TL
open PySem L2
variable [TL.Lnk]
/-! ## targets -/
abbrev Eh := PyData → Rs → Option Rs
/-- writes the slots of is, no other -/
def tG (K : PySem.W.Frag) (U : Hp) (is : List Nat) (h : Eh) : TG := fun v σ H Q => ∃ (A : List Addr) (F : Hp) (r : Rs) (m : Ms) (d : PyData) (r' : Rs), Good K U A F H σ r m ∧ Rp K F v d ∧ h d r = some r' ∧
  ∀ σ' : St, Good K U A F H σ' r' m → (∀ j, j ∉ is → σ'[j]? = σ[j]?) → σ'.length = σ.length → Q σ' H
abbrev Ehs := List PyData → Rs → Option Rs
def tGs (K : PySem.W.Frag) (U : Hp) (is : List Nat) (h : Ehs) : TGs := fun vs σ H Q => ∃ (A : List Addr) (F : Hp) (r : Rs) (m : Ms) (ds : List PyData) (r' : Rs), Good K U A F H σ r m ∧ RpAll K F vs ds ∧ h ds r = some r' ∧
  ∀ σ' : St, Good K U A F H σ' r' m → (∀ j, j ∉ is → σ'[j]? = σ[j]?) → σ'.length = σ.length → Q σ' H
def hNm (i : Nat) : Eh := fun d r => some (r.set i (.fz d))
def hNil : Ehs := fun ds r => match ds with | [] => some r | _ => none
def hCons (f : Eh) (g : Ehs) : Ehs := fun ds r => match ds with | d :: ds => (f d r).bind fun r1 => g ds r1 | [] => none
def hTup (g : Ehs) (n : Nat) : Eh := fun d r => match d with | .tuple ds => if ds.length = n then g ds r else none | _ => none
theorem pg_weak {X : Cx} {e : Expr} {t t' : TG} (h : PG X e t) (w : ∀ v σ H Q, t' v σ H Q → t v σ H Q) : PG X e t' := ⟨fun pins s σ H v u Q I r q => h.run pins s σ H v u Q I r (w v σ H Q q)⟩
theorem pgs_weak {X : Cx} {e : List Expr} {t t' : TGs} (h : PGs X e t) (w : ∀ v σ H Q, t' v σ H Q → t v σ H Q) : PGs X e t' := ⟨fun pins s σ H vs us Q I r q => h.run pins s σ H vs us Q I r (w vs σ H Q q)⟩
section
variable {X : Cx} {U : Hp} {pos : Pos}
theorem qg_name {i : Nat} {x : Str} (hN : X.N.Nodup) (hi : X.N[i]? = some x) (hx : Loc X.env.scope x) (hf : X.fn x = true ∨ X.env.scope.names.lookup x = some .local := by first | exact .inl rfl | exact .inr rfl | assumption) : PG X (.Name x pos) (tG X.K U [i] (hNm i)) :=
  pg_weak (pg_name hN hi hx hf) fun v σ H Q ⟨A, F, r, m, d, r', G, h, e, k⟩ => by
    cases e
    exact k _ (G.setFz h) (fun j hj => List.getElem?_set_ne (fun z => hj (by rw [z]; exact List.mem_singleton_self j))) List.length_set
theorem qgs_nil : PGs X [] (tGs X.K U [] hNil) := pgs_weak pgs_nil fun vs σ H Q ⟨A, F, r, m, ds, r', G, h, e, k⟩ => by
  unfold hNil at e
  split at e
  · cases e
    cases h
    exact ⟨rfl, k σ G (fun _ _ => rfl) rfl⟩
  · cases e
theorem qgs_cons {e : Expr} {es : List Expr} {is js : List Nat} {f : Eh} {g : Ehs} (h1 : PG X e (tG X.K U is f)) (h2 : PGs X es (tGs X.K U js g))
    (hs : (assignEach (e :: es) X.env).map (·.2) = assign e X.env :: (assignEach es X.env).map (·.2) := by rfl) : PGs X (e :: es) (tGs X.K U (is ++ js) (hCons f g)) := pgs_weak (pgs_cons h1 h2 hs) fun vs σ H Q ⟨A, F, r, m, ds, r', G, h, e, k⟩ => by
  unfold hCons at e
  split at e
  · rename_i d ds
    cases h with
    | cons ha hb =>
      cases e1 : f d r with
      | none => rw [e1] at e; cases e
      | some r1 =>
        rw [e1] at e
        refine ⟨_, _, rfl, A, F, r, m, d, r1, G, ha, e1, fun σ1 G1 k1 l1 => ⟨A, F, r1, m, ds, r', G1, hb, e, fun σ2 G2 k2 l2 => k σ2 G2 (fun j hj => ?_) (l2.trans l1)⟩⟩
        rw [List.mem_append, not_or] at hj
        exact (k2 j hj.2).trans (k1 j hj.1)
  · cases e
theorem qg_tup {es : List Expr} {kk : Nat} {is : List Nat} {g : Ehs} {n : Nat} (hc : X.calm = true) (h : PGs X es (tGs X.K U is g)) (hn : (assignEach es X.env).length = n := by rfl) (hst : (assignEach es X.env).findIdx? (·.1) = none := by rfl) :
    PG X (.Tuple es kk pos) (tG X.K U is (hTup g n)) := pg_weak (pg_tup hc h hn hst) fun v σ H Q ⟨A, F, r, m, d, r', G, h, e, k⟩ => by
  unfold hTup at e
  split at e
  · split at e
    · rename_i hz
      cases h with
      | vt sa ra => exact ⟨_, _, rfl, seqT_mono G.sub sa, (rpa_len ra).trans hz, A, F, r, m, _, r', G, ra, e, k⟩
    · cases e
  · cases e
def sAsg (f : Ev) (h : Eh) : Es := fun r m => (f r m).bind fun p => (h p.1 r).map fun r' => .nx r' p.2
theorem qs_asg {n0 : Nat} {tg e : Expr} {f : Ev} {is : List Nat} {h : Eh} (he : PE X e (tE X.K U f)) (hg : PG X tg (tG X.K U is h)) (hs : swapsWithSole [tg] e pos.line X.env = pure false := by rfl) (hw : swappedStores [tg] e X.env = pure none := by rfl)
    (h1 : (assignEach [tg] X.env).map (·.2) = [assign tg X.env] := by rfl) : PS X (.Assign [tg] e pos) (tS X.K U n0 (sAsg f h)) := ps_weak (ps_asg he hg hs hw h1) fun D σ H ⟨A, F, r, m, o, G, hn, e, p⟩ => by
  unfold sAsg at e
  cases e1 : f r m with
  | none => rw [e1] at e; cases e
  | some q =>
    rw [e1] at e
    simp only [Option.bind_some] at e
    cases e2 : h q.1 r with
    | none => rw [e2] at e; cases e
    | some r' =>
      rw [e2] at e
      cases e
      exact ⟨A, F, r, m, q.1, q.2, G, e1, fun F1 H1 v s1 G1 h1 => ⟨A, F1, r, q.2, q.1, r', G1, h1, e2, fun σ' G' _ _ => p A F1 H1 σ' (List.prefix_refl A) s1 G'⟩⟩
end
/-! ## what is walked -/
structure Wk (K : PySem.W.Frag) (Z : Hp) (J : It) (F : Hp) (ds : List PyData) : Prop where
  go : ∀ (U : Hp) (A : List Addr) (σ : St) (r : Rs) (m : Ms) (F1 H1 : Hp) (i : Nat) (d : PyData), Same Z U → Same F F1 → Good K U A F1 H1 σ r m → ds[i]? = some d →
    J.go i H1 ∧ ∀ x H2, J.yld i H1 x H2 → ∃ F2, Same F1 F2 ∧ Good K U A F2 H2 σ r m ∧ Rp K F2 x d
  stop : ∀ (F1 H1 : Hp), Same Z H1 → Same F F1 → Same F1 H1 → J.stop ds.length H1
def tIt (K : PySem.W.Frag) (U : Hp) (f : Eas) : TI := fun σ H R => ∃ (A : List Addr) (F : Hp) (r : Rs) (m : Ms) (ds : List PyData) (m' : Ms), Good K U A F H σ r m ∧ f r m = some (ds, m') ∧
  ∀ (F' H' : Hp) (J : It), Same F F' → Good K U A F' H' σ r m' → Wk K U J F' ds → R J H'
theorem wk_list {K : PySem.W.Frag} {Z F : Hp} {a : Addr} {xs : List V} {ds : List PyData} (hs : SqL K F a xs) (hr : RpAll K F xs ds) : Wk K Z (Itl K a) F ds where
  go := fun U A σ r m F1 H1 i d _ s1 G1 e => by
    obtain ⟨v, h1, h2⟩ := rpa_get hr e
    have hq : SqL K H1 a xs := (sqL_mono (s1.trans G1.sub) hs)
    refine ⟨⟨xs, v, hq, h1⟩, fun x H2 hy => ?_⟩
    obtain ⟨e2, hy⟩ := hy
    subst e2
    have := hy xs hq
    rw [h1] at this
    cases this
    exact ⟨F1, Same.refl F1, G1, Rpm s1 h2⟩
  stop := fun F1 H1 _ s1 s2 => ⟨xs, (sqL_mono (s1.trans s2) hs), by rw [rpa_len hr]; exact Nat.le_refl _⟩
theorem wk_tup {K : PySem.W.Frag} {Z F : Hp} {a : Addr} {xs : List V} {ds : List PyData} (hs : SqT K F a xs) (hr : RpAll K F xs ds) : Wk K Z (Itt K a) F ds where
  go := fun U A σ r m F1 H1 i d _ s1 G1 e => by
    obtain ⟨v, h1, h2⟩ := rpa_get hr e
    have hq : SqT K H1 a xs := seqT_mono (s1.trans G1.sub) hs
    refine ⟨⟨xs, v, hq, h1⟩, fun x H2 hy => ?_⟩
    obtain ⟨e2, hy⟩ := hy
    subst e2
    have := hy xs hq
    rw [h1] at this
    cases this
    exact ⟨F1, Same.refl F1, G1, Rpm s1 h2⟩
  stop := fun F1 H1 _ s1 s2 => ⟨xs, seqT_mono (s1.trans s2) hs, by rw [rpa_len hr]; exact Nat.le_refl _⟩
def signs (x : Str) : List PyData := x.cps.toList.map fun c => .str ⟨#[c]⟩
theorem wk_str {K : PySem.W.Frag} {Z F : Hp} {x : Str} : Wk K Z (Its x) F (signs x) where
  go := fun U A σ r m F1 H1 i d _ s1 G1 e => by
    unfold signs at e
    rw [List.getElem?_map] at e
    cases e1 : x.cps.toList[i]? with
    | none => rw [e1] at e; cases e
    | some c =>
      rw [e1] at e
      cases e
      have e1' : x.cps[i]? = some c := by rw [← Array.getElem?_toList]; exact e1
      have hi : i < x.cps.size := (Array.getElem?_eq_some_iff.mp e1').1
      refine ⟨hi, fun v H2 hy => ?_⟩
      obtain ⟨e2, c', e3, e4⟩ := hy
      subst e2 e4
      rw [e1'] at e3
      cases e3
      exact ⟨F1, Same.refl F1, G1, .vs _⟩
  stop := fun F1 H1 _ s1 s2 => by
    show x.cps.size ≤ (signs x).length
    unfold signs
    rw [List.length_map]
    simp
def rangeD (lo : Int) (n : Nat) : List PyData := (List.range n).map fun i => .int (lo + (i : Nat))
theorem wk_range {K : PySem.W.Frag} {Z F : Hp} {lo : Int} {n : Nat} : Wk K Z (Itr lo n) F (rangeD lo n) where
  go := fun U A σ r m F1 H1 i d _ s1 G1 e => by
    unfold rangeD at e
    rw [List.getElem?_map] at e
    by_cases hi : i < n
    · rw [List.getElem?_range hi] at e
      cases e
      refine ⟨hi, fun v H2 hy => ?_⟩
      obtain ⟨e2, e4⟩ := hy
      subst e2 e4
      exact ⟨F1, Same.refl F1, G1, .vi _⟩
    · rw [List.getElem?_eq_none (by rw [List.length_range]; omega)] at e
      cases e
  stop := fun F1 H1 _ s1 s2 => by
    show n ≤ (rangeD lo n).length
    unfold rangeD
    rw [List.length_map, List.length_range]
    exact Nat.le_refl n
def itemsD : PyData → Option (List PyData)
  | .list ds => some ds
  | .tuple ds => some ds
  | .str x => some (signs x)
  | _ => none
def eIts (f : Ev) : Eas := fun r m => (f r m).bind fun p => (itemsD p.1).map fun ds => (ds, p.2)
def eRg1 (f : Eas) : Eas := fun r m => (f r m).bind fun p => match p.1 with
  | [.int j] => if -(2 ^ 62) ≤ j ∧ j < 2 ^ 62 then some (rangeD 0 j.toNat, p.2) else none
  | _ => none
def eRg2 (f : Eas) : Eas := fun r m => (f r m).bind fun p => match p.1 with
  | [.int i, .int j] => if -(2 ^ 62) ≤ i ∧ i < 2 ^ 62 ∧ -(2 ^ 62) ≤ j ∧ j < 2 ^ 62 then some (rangeD i (j - i).toNat, p.2) else none
  | _ => none
def enumD (ds : List PyData) : List PyData := ds.zipIdx.map fun p => .tuple [.int (p.2 : Nat), p.1]
def eEnum (f : Ev) : Eas := fun r m => (f r m).bind fun p => match p.1 with
  | .list ds => some (enumD ds, p.2)
  | _ => none
section
variable {X : Cx} {U : Hp} {tg e a b : Expr} {f : Ev} {fs : Eas} {p pos tpos : Pos}
theorem qi_its (he : PE X e (tE X.K U f)) : PI X tg e (tIt X.K U (eIts f)) := by
  refine ⟨fun pins s σ H R I ⟨A, F, r, m, ds, m', G, e0, k⟩ => ?_⟩
  unfold eIts at e0
  cases e1 : f r m with
  | none => rw [e1] at e0; cases e0
  | some q =>
    obtain ⟨d, m1⟩ := q
    rw [e1] at e0
    simp only [Option.bind_some] at e0
    cases d with
    | list es =>
      cases e0
      refine (pi_list he).run pins s σ H R I ⟨A, F, r, m, .list ds, m', G, e1, fun F1 H1 v s1 G1 h1 => ?_⟩
      cases h1 with
      | vl sa ra => exact ⟨_, rfl, ⟨_, (sqL_mono G1.sub sa)⟩, k F1 H1 _ s1 G1 (wk_list sa ra)⟩
    | tuple es =>
      cases e0
      refine (pi_tup he).run pins s σ H R I ⟨A, F, r, m, .tuple ds, m', G, e1, fun F1 H1 v s1 G1 h1 => ?_⟩
      cases h1 with
      | vt sa ra => exact ⟨_, rfl, ⟨_, seqT_mono G1.sub sa⟩, k F1 H1 _ s1 G1 (wk_tup sa ra)⟩
    | str x =>
      cases e0
      refine (pi_str he).run pins s σ H R I ⟨A, F, r, m, .str x, m', G, e1, fun F1 H1 v s1 G1 h1 => ?_⟩
      cases h1
      exact ⟨_, rfl, k F1 H1 _ s1 G1 wk_str⟩
    | _ => cases e0
theorem qi_range1 (hg : Gl X "range") (hm : X.mg "range" = none) (ha : PA X [a] (tAs X.K U fs)) (hs : starEach [a] X.env = [(false, eval a X.env)] := by rfl) : PI X tg (.Call (.Name "range" p) [a] [] pos) (tIt X.K U (eRg1 fs)) := by
  refine ⟨fun pins s σ H R I ⟨A, F, r, m, ds, m', G, e0, k⟩ => ?_⟩
  unfold eRg1 at e0
  cases e1 : fs r m with
  | none => rw [e1] at e0; cases e0
  | some q =>
    obtain ⟨es, m1⟩ := q
    rw [e1] at e0
    simp only [Option.bind_some] at e0
    split at e0
    · split at e0
      · rename_i j hj
        cases e0
        refine (pi_range1 hg hm ha hs).run pins s σ H R I ⟨A, F, r, m, _, m', G, e1, fun F1 H1 vs s1 G1 h1 => ?_⟩
        obtain ⟨v, rfl, h⟩ := rpa1 h1
        cases h
        exact ⟨j, rfl, hj.1, hj.2, k F1 H1 _ s1 G1 wk_range⟩
      · cases e0
    · cases e0
theorem qi_range2 (hg : Gl X "range") (hm : X.mg "range" = none) (ha : PA X [a, b] (tAs X.K U fs)) (hs : starEach [a, b] X.env = [(false, eval a X.env), (false, eval b X.env)] := by rfl) (hs2 : starEach [b] X.env = [(false, eval b X.env)] := by rfl) :
    PI X tg (.Call (.Name "range" p) [a, b] [] pos) (tIt X.K U (eRg2 fs)) := by
  refine ⟨fun pins s σ H R I ⟨A, F, r, m, ds, m', G, e0, k⟩ => ?_⟩
  unfold eRg2 at e0
  cases e1 : fs r m with
  | none => rw [e1] at e0; cases e0
  | some q =>
    obtain ⟨es, m1⟩ := q
    rw [e1] at e0
    simp only [Option.bind_some] at e0
    split at e0
    · split at e0
      · rename_i i j hj
        cases e0
        refine (pi_range2 hg hm ha hs hs2).run pins s σ H R I ⟨A, F, r, m, _, m', G, e1, fun F1 H1 vs s1 G1 h1 => ?_⟩
        obtain ⟨v, w, rfl, h, h'⟩ := rpa2 h1
        cases h; cases h'
        exact ⟨i, j, rfl, hj, k F1 H1 _ s1 G1 wk_range⟩
      · cases e0
    · cases e0
theorem wk_enum {K : PySem.W.Frag} {Z F : Hp} {a : Addr} {xs : List V} {ds : List PyData} (hs : SqL K F a xs) (hr : RpAll K F xs ds) : Wk K Z (Ite K a) F (enumD ds) where
  go := fun U A σ r m F1 H1 i d _ s1 G1 e => by
    unfold enumD at e
    rw [List.getElem?_map, List.getElem?_zipIdx] at e
    cases e1 : ds[i]? with
    | none => rw [e1] at e; cases e
    | some d1 =>
      rw [e1] at e
      simp only [Option.map_some, Nat.zero_add, Option.some.injEq] at e
      subst e
      obtain ⟨v, h1, h2⟩ := rpa_get hr e1
      have hq : SqL K H1 a xs := (sqL_mono (s1.trans G1.sub) hs)
      refine ⟨⟨xs, v, hq, h1⟩, fun x H2 hy => ?_⟩
      obtain ⟨T, y, e2, nT, e3, hy⟩ := hy
      have := hy xs hq
      rw [h1] at this
      cases this
      subst e2 e3
      have sF : Same F1 (upd F1 T (.tup [.int (i : Nat), v])) := same_new (G1.nope nT).1
      exact ⟨_, sF, G1.laid nT, .vt (.inl (.inl upd_same)) (.cons (.vi _) (.cons (Rpm (s1.trans sF) h2) .nil))⟩
  stop := fun F1 H1 _ s1 s2 => ⟨xs, (sqL_mono (s1.trans s2) hs), by
    unfold enumD
    rw [List.length_map, List.length_zipIdx, rpa_len hr]
    exact Nat.le_refl _⟩
end
/-! ## for -/
def loopS (h : Eh) (body : Es) : List PyData → Es
  | [], r, m => some (.nx r m)
  | d :: ds, r, m => (h d r).bind fun r1 => (body r1 m).bind fun o => match o with
    | .nx r2 m2 => loopS h body ds r2 m2
    | .ct r2 m2 => loopS h body ds r2 m2
    | .bk r2 m2 => some (.nx r2 m2)
    | o => some o
def sFor (fi : Eas) (h : Eh) (body : Es) : Es := fun r m => (fi r m).bind fun p => loopS h body p.1 r p.2
section
variable {X : Cx} {U : Hp} {n0 : Nat} {tg iter : Expr} {body : List Stmt} {fi : Eas} {h : Eh} {s : Es} {is : List Nat} {pos : Pos}
theorem qs_for (hp : PassesOwn (model X.prog X.w) X.A X.env X.xe) (hc : X.calm = true) (hi : PI X tg iter (tIt X.K U fi)) (hg : PG X tg (tG X.K U is h)) (hb : PSs X body (tS X.K U n0 s)) (hs : ∀ x, foldedSetIterable iter X.env x = pure x := by intro _; rfl) :
    PS X (.For tg iter body [] pos) (tS X.K U n0 (sFor fi h s)) := ps_weak (ps_for hp hc hi hg hb hs) fun D σ H ⟨A, F, r, m, o, G, hn, e, p⟩ => by
  unfold sFor at e
  cases e1 : fi r m with
  | none => rw [e1] at e; cases e
  | some q =>
    obtain ⟨ds, m1⟩ := q
    rw [e1] at e
    simp only [Option.bind_some] at e
    refine ⟨A, F, r, m, ds, m1, G, e1, fun F1 H1 J s1 G1 W1 => ?_⟩
    refine ⟨fun i mm σ2 H2 => mm = ds.length - i ∧ i ≤ ds.length ∧ ∃ (A2 : List Addr) (F2 : Hp) (r2 : Rs) (m2 : Ms), A <+: A2 ∧ Same F1 F2 ∧ Good X.K U A2 F2 H2 σ2 r2 m2 ∧ loopS h s (ds.drop i) r2 m2 = some o, ⟨ds.length, by simp, Nat.zero_le _, A, F1, r, m1, List.prefix_refl A, Same.refl F1, G1, by rw [List.drop_zero]; exact e⟩, ?_⟩
    rintro i mm σ2 H2 ⟨rfl, hi2, A2, F2, r2, m2, hA, hF, G2, e2⟩
    by_cases hlt : i < ds.length
    · rw [List.drop_eq_getElem_cons hlt] at e2
      unfold loopS at e2
      cases e3 : h ds[i] r2 with
      | none => rw [e3] at e2; cases e2
      | some r3 =>
        rw [e3] at e2
        simp only [Option.bind_some] at e2
        cases e4 : s r3 m2 with
        | none => rw [e4] at e2; cases e2
        | some o4 =>
          rw [e4] at e2
          simp only [Option.bind_some] at e2
          obtain ⟨w1, w2⟩ := W1.go U A2 σ2 r2 m2 F2 H2 i ds[i] (Same.refl U) hF G2 (List.getElem?_eq_getElem hlt)
          refine .inr ⟨w1, fun σ' H' => ∃ (A' : List Addr) (F' : Hp) (r' : Rs) (m' : Ms), A <+: A' ∧ Same F1 F' ∧ Good X.K U A' F' H' σ' r' m' ∧ loopS h s (ds.drop (i + 1)) r' m' = some o, fun σ' H' w => ⟨ds.length - (i + 1), by omega, rfl, hlt, w⟩, fun x H3 hy => ?_⟩
          obtain ⟨F3, s3, G3, h3⟩ := w2 x H3 hy
          refine ⟨A2, F3, r2, m2, ds[i], r3, G3, h3, e3, fun σ4 G4 _ _ => ⟨A2, F3, r3, m2, o4, G4, len_of hA hn, e4, ?_⟩⟩
          have hF3 : Same F1 F3 := hF.trans s3
          have past := fun {A' : List Addr} {F' : Hp} (ha : A2 <+: A') (hf : Same F3 F') => Post.later (K := X.K) (U := U) (n0 := n0) (D := D) (hA.trans ha) (s1.trans (hF3.trans hf)) p
          cases o4 with
          | nx r5 m5 => exact fun A' F' H' σ' ha hf G' => ⟨A', F', r5, m5, hA.trans ha, hF3.trans hf, G', e2⟩
          | ct r5 m5 => exact fun A' F' H' σ' ha hf G' => ⟨A', F', r5, m5, hA.trans ha, hF3.trans hf, G', e2⟩
          | bk r5 m5 =>
            cases e2
            exact fun A' F' H' σ' ha hf G' => past ha hf A' F' H' σ' (List.prefix_refl A') (Same.refl F') G'
          | rt d m5 =>
            cases e2
            exact fun A' F' H' v ha hf Fi hv => past ha hf A' F' H' v (List.prefix_refl A') (Same.refl F') Fi hv
          | rn ds5 m5 =>
            cases e2
            exact fun A' F' H' a u ha hf Fi q1 q2 q3 q4 q5 => past ha hf A' F' H' a u (List.prefix_refl A') (Same.refl F') Fi q1 q2 q3 q4 q5
    · have ei : i = ds.length := by omega
      subst ei
      rw [List.drop_length] at e2
      cases e2
      exact .inl ⟨W1.stop F2 H2 (fun b o e => (G2.fo b o e).1) hF G2.sub, p A2 F2 H2 σ2 hA (s1.trans hF) G2⟩
end
end TL
end
/-! TL8 -/
section
set_option maxHeartbeats 4000000
namespace TL
open PySem L2
variable [TL.Lnk]
/-! ## comprehensions -/
def eYes : Et := fun _ m => some (true, m)
theorem pts_weak {X : Cx} {e : List Expr} {t t' : TT} (h : PTs X e t) (w : ∀ σ H Q, t' σ H Q → t σ H Q) : PTs X e t' := ⟨fun pins s σ H Q I q => h.run pins s σ H Q I (w σ H Q q)⟩
theorem qts_nil {X : Cx} {U : Hp} : PTs X [] (tT X.K U eYes) := pts_weak pts_nil fun σ H Q ⟨A, F, r, m, b, m', G, e, k⟩ => by
  cases e
  exact k F H (Same.refl F) G
def wipeR (r : Rs) : List Nat → Rs
  | [] => r
  | v :: vs => (wipeR r vs).set v .un
def lcLoop (h : Eh) (t : Et) (f : Ev) (r : Rs) : List PyData → Ms → List PyData → Option (List PyData × Ms)
  | [], m, acc => some (acc, m)
  | d :: ds, m, acc => (h d r).bind fun r1 => (t r1 m).bind fun b => if b.1 = true then (f r1 b.2).bind fun x => if acc.length < sizeLine then lcLoop h t f r ds x.2 (acc ++ [x.1]) else none else lcLoop h t f r ds b.2 acc
def eLc (fi : Eas) (own : List Nat) (h : Eh) (t : Et) (f : Ev) : Ev := fun r m => (fi r m).bind fun p => (lcLoop h t f (wipeR r own) p.1 p.2 []).map fun q => (.list q.1, q.2)
section
variable {K : PySem.W.Frag} {U : Hp} {A : List Addr} {F H F' H' : Hp} {σ σ' : St} {r r' : Rs} {m m' : Ms}
theorem wipeR_len (r : Rs) : ∀ vs : List Nat, (wipeR r vs).length = r.length
  | [] => rfl
  | v :: vs => by unfold wipeR; rw [List.length_set, wipeR_len r vs]
theorem wipeR_out {r : Rs} {i : Nat} : ∀ {vs : List Nat}, i ∉ vs → (wipeR r vs)[i]? = r[i]?
  | [], _ => rfl
  | v :: vs, h => by
    unfold wipeR
    rw [List.mem_cons, not_or] at h
    rw [List.getElem?_set_ne (Ne.symm h.1), wipeR_out h.2]
theorem wipeR_in {r : Rs} {i : Nat} : ∀ {vs : List Nat}, i ∈ vs → (wipeR r vs)[i]? = some .un ∨ (wipeR r vs)[i]? = none
  | [], h => by cases h
  | v :: vs, h => by
    unfold wipeR
    by_cases hi : v = i
    · subst hi
      by_cases hl : v < (wipeR r vs).length
      · exact .inl (List.getElem?_set_self hl)
      · exact .inr (List.getElem?_eq_none (by rw [List.length_set]; omega))
    · rw [List.getElem?_set_ne hi]
      rcases List.mem_cons.mp h with q | q
      · exact absurd q.symm hi
      · exact wipeR_in q
theorem wipe_out {σ : St} {i : Nat} : ∀ {vs : List Nat}, i ∉ vs → (wipe σ vs)[i]? = σ[i]?
  | [], _ => rfl
  | v :: vs, h => by
    unfold wipe
    rw [List.mem_cons, not_or] at h
    rw [List.getElem?_set_ne (Ne.symm h.1), wipe_out h.2]
theorem wipe_in {σ : St} {i : Nat} : ∀ {vs : List Nat}, i ∈ vs → i < σ.length → (wipe σ vs)[i]? = some none
  | [], h, _ => by cases h
  | v :: vs, h, hl => by
    unfold wipe
    by_cases hi : v = i
    · subst hi
      exact List.getElem?_set_self (by rw [wipe_length]; exact hl)
    · rw [List.getElem?_set_ne hi]
      rcases List.mem_cons.mp h with q | q
      · exact absurd q.symm hi
      · exact wipe_in q hl
theorem wipe_eq {σ σ' : St} {vs : List Nat} (hl : σ'.length = σ.length) (h : ∀ j, j ∉ vs → σ'[j]? = σ[j]?) : wipe σ' vs = wipe σ vs := by
  apply List.ext_getElem?
  intro i
  by_cases hi : i ∈ vs
  · by_cases hn : i < σ.length
    · rw [wipe_in hi hn, wipe_in hi (by omega)]
    · rw [List.getElem?_eq_none (by rw [wipe_length]; omega), List.getElem?_eq_none (by rw [wipe_length]; omega)]
  · rw [wipe_out hi, wipe_out hi, h i hi]
theorem wipe_twice {σ : St} {vs : List Nat} : wipe (wipe σ vs) vs = wipe σ vs := wipe_eq (wipe_length σ vs) fun j hj => wipe_out hj
/-- the comprehension's own names forgotten -/
theorem Good.wiped (G : Good K U A F H σ r m) (vs : List Nat) : Good K U A F H (wipe σ vs) (wipeR r vs) m := by
  refine ⟨G.sub, G.fo, by rw [wipeR_len, wipe_length]; exact G.len, fun i d e => ?_, fun i k e => ?_, G.al, G.cl, G.nd, G.he, G.lk⟩
  · by_cases hi : i ∈ vs
    · rcases wipeR_in (r := r) hi with q | q
      · rw [q] at e; cases e
      · rw [q] at e; cases e
    · rw [wipeR_out hi] at e
      rw [wipe_out hi]
      exact G.fz i d e
  · by_cases hi : i ∈ vs
    · rcases wipeR_in (r := r) hi with q | q
      · rw [q] at e; cases e
      · rw [q] at e; cases e
    · rw [wipeR_out hi] at e
      rw [wipe_out hi]
      exact G.ow i k e
/-- the elder slots over a later heap -/
theorem Good.mix {U' : Hp} (G : Good K U A F H σ r m) (G' : Good K U' A F' H' σ' r' m') (s : Same F F') (hu : ∀ b o, U b = some o → U' b = some o) : Good K U A F' H' σ r m' := by
  refine ⟨G'.sub, fun b o e => G'.fo b o (hu b o e), G.len, fun i d e => ?_, G.ow, G'.al, fun k a ds e1 e2 => ?_, G.nd, G'.he, G.lk⟩
  · obtain ⟨v, h1, h2⟩ := G.fz i d e
    exact ⟨v, h1, Rpm s h2⟩
  · obtain ⟨h1, h2, vs, h3, h4⟩ := G'.cl k a ds e1 e2
    refine ⟨h1, ?_, vs, h3, h4⟩
    cases q : U a with
    | none => rfl
    | some o => rw [hu a o q] at h2; cases h2
end
/-- U with the new list -/
theorem Good.hold {K : PySem.W.Frag} {U : Hp} {A : List Addr} {F H : Hp} {σ : St} {r : Rs} {m : Ms} {D : Addr} {o : HO} (G : Good K U A F H σ r m) (hD : H D = some o) (hF : F D = none) (hA : D ∉ A) : Good K (upd U D o) A F H σ r m := by
  refine ⟨G.sub, fun b x e => ?_, G.len, G.fz, G.ow, G.al, fun k a ds e1 e2 => ?_, G.nd, G.he, G.lk⟩
  · by_cases hb : b = D
    · subst hb
      rw [upd_same] at e
      cases e
      exact ⟨hD, hF⟩
    · rw [upd_ne hb] at e
      exact G.fo b x e
  · obtain ⟨h1, h2, h3⟩ := G.cl k a ds e1 e2
    have ha : a ≠ D := fun z => hA (z ▸ List.mem_of_getElem? e1)
    exact ⟨h1, by rw [upd_ne ha]; exact h2, h3⟩
def tGX (K : PySem.W.Frag) (is : List Nat) (h : Eh) : TG := fun v σ H Q => ∃ U, tG K U is h v σ H Q
def tTX (K : PySem.W.Frag) (f : Et) : TT := fun σ H Q => ∃ U, tT K U f σ H Q
def tEX (K : PySem.W.Frag) (f : Ev) : TE := fun σ H Q => ∃ U, tE K U f σ H Q
theorem pg_all {X : Cx} {tg : Expr} {is : List Nat} {h : Eh} (k : ∀ U, PG X tg (tG X.K U is h)) : PG X tg (tGX X.K is h) := ⟨fun pins s σ H v u Q I r ⟨U, q⟩ => (k U).run pins s σ H v u Q I r q⟩
theorem pts_all {X : Cx} {ifs : List Expr} {f : Et} (k : ∀ U, PTs X ifs (tT X.K U f)) : PTs X ifs (tTX X.K f) := ⟨fun pins s σ H Q I ⟨U, q⟩ => (k U).run pins s σ H Q I q⟩
theorem pe_all {X : Cx} {e : Expr} {f : Ev} (k : ∀ U, PE X e (tE X.K U f)) : PE X e (tEX X.K f) := ⟨fun pins s σ H Q I ⟨U, q⟩ => (k U).run pins s σ H Q I q⟩
section
variable {X : Cx} {U : Hp} {elt tg iter : Expr} {ifs : List Expr} {scope : Scope} {own : List (Str × Nat)} {pos : Pos} {fi : Eas} {is : List Nat} {h : Eh} {t : Et} {f : Ev}
theorem lc_inner {K : PySem.W.Frag} {U : Hp} {A : List Addr} {F1 H1 : Hp} {σ : St} {r : Rs} {m1 m9 : Ms} {ds res : List PyData} {J : It} {vsl : List Nat} {is : List Nat} {h : Eh} {t : Et} {f : Ev} {Q : VK} (his : ∀ j ∈ is, j ∈ vsl) (G1 : Good K U A F1 H1 σ r m1) (W1 : Wk K U J F1 ds)
    (e2 : lcLoop h t f (wipeR r vsl) ds m1 [] = some (res, m9))
    (k : ∀ (F' H' : Hp) (a : Addr) (u : HO), Same F1 F' → Good K U A F' H' σ r m9 → F' a = none → U a = none → a ∉ A → H' a = some u → Stored K F' u (.list res) → Q (.ref a) H') :
    ∀ D, H1 D = none → ∃ W : Nat → Nat → Hp → Prop, (∃ m, W 0 m (upd H1 D (.lst []))) ∧ ∀ i m H, W i m H →
      (J.stop i H ∧ Q (.ref D) H) ∨ (J.go i H ∧ ∃ Nx : Hp → Prop, (∀ H', Nx H' → ∃ m', m' < m ∧ W (i + 1) m' H') ∧ ∀ x H', J.yld i H x H' → (tGX K is h) x (wipe σ vsl) H' fun σ2 H2 => wipe σ2 vsl = wipe σ vsl ∧ (tTX K t) σ2 H2 fun b H3 =>
        if b = true then (tEX K f) σ2 H3 fun y H4 => ∃ acc, H4 D = some (.lst acc) ∧ acc.length < sizeLine ∧ Nx (upd H4 D (.lst (acc ++ [y]))) else Nx H3) := by
  intro D nD
  have hF1 := (G1.nope nD).1
  refine ⟨fun i mm H2 => mm = ds.length - i ∧ i ≤ ds.length ∧ ∃ (F2 : Hp) (m2 : Ms) (vs : List V) (acc : List PyData), Same F1 F2 ∧ Good K U A F2 H2 σ r m2 ∧ H2 D = some (.lst vs) ∧ F2 D = none ∧ RpAll K F2 vs acc ∧
    lcLoop h t f (wipeR r vsl) (ds.drop i) m2 acc = some (res, m9), ⟨ds.length, by simp, Nat.zero_le _, F1, m1, [], [], Same.refl F1, G1.laidO nD, upd_same, hF1, .nil, by rw [List.drop_zero]; exact e2⟩, ?_⟩
  rintro i mm H2 ⟨rfl, hi2, F2, m2, vs, acc, hF, G2, hD2, hF2, hr2, e3⟩
  have nA : D ∉ A := G1.notin nD
  have nU : U D = none := (G1.nope nD).2
  by_cases hlt : i < ds.length
  · rw [List.drop_eq_getElem_cons hlt] at e3
    unfold lcLoop at e3
    cases e4 : h ds[i] (wipeR r vsl) with
    | none => rw [e4] at e3; cases e3
    | some r3 =>
      rw [e4] at e3
      simp only [Option.bind_some] at e3
      cases e5 : t r3 m2 with
      | none => rw [e5] at e3; cases e3
      | some b5 =>
        obtain ⟨b, m5⟩ := b5
        rw [e5] at e3
        simp only [Option.bind_some] at e3
        have GW := (G2.hold hD2 hF2 nA).wiped vsl
        have sU : Same U (upd U D (.lst vs)) := same_new nU
        obtain ⟨w1, w2⟩ := W1.go _ A _ _ m2 F2 H2 i ds[i] sU hF GW (List.getElem?_eq_getElem hlt)
        have back : ∀ {F' H' : Hp} {σ' : St} {r' : Rs} {m' : Ms}, Same F2 F' → Good K (upd U D (.lst vs)) A F' H' σ' r' m' → Good K U A F' H' σ r m' := fun {F' H' σ' r' m'} s G' => G2.mix G' s sU
        refine .inr ⟨w1, fun H' => ∃ (F' : Hp) (m' : Ms) (vs' : List V) (acc' : List PyData), Same F1 F' ∧ Good K U A F' H' σ r m' ∧ H' D = some (.lst vs') ∧ F' D = none ∧ RpAll K F' vs' acc' ∧
          lcLoop h t f (wipeR r vsl) (ds.drop (i + 1)) m' acc' = some (res, m9), fun H' w => ⟨ds.length - (i + 1), by omega, rfl, hlt, w⟩, fun x H3 hy => ?_⟩
        obtain ⟨F3, s3, G3, h3⟩ := w2 x H3 hy
        refine ⟨upd U D (.lst vs), A, F3, _, m2, ds[i], r3, G3, h3, e4, fun σ4 G4 k4 l4 => ⟨?_, ?_⟩⟩
        · refine (wipe_eq l4 fun j hj => k4 j fun z => hj (his j z)).trans wipe_twice
        · refine ⟨upd U D (.lst vs), A, F3, r3, m2, b, m5, G4, e5, fun F5 H5 s5 G5 => ?_⟩
          cases b with
          | false =>
            refine iteF ?_
            have fo5 := G5.fo D _ upd_same
            exact ⟨F5, m5, vs, acc, hF.trans (s3.trans s5), back (s3.trans s5) G5, fo5.1, fo5.2, Rpam (s3.trans s5) hr2, e3⟩
          | true =>
            refine iteT ?_
            rw [if_pos rfl] at e3
            cases e6 : f r3 m5 with
            | none => rw [e6] at e3; cases e3
            | some q6 =>
              obtain ⟨d6, m6⟩ := q6
              rw [e6] at e3
              simp only [Option.bind_some] at e3
              split at e3
              · rename_i hz
                refine ⟨upd U D (.lst vs), A, F5, r3, m5, d6, m6, G5, e6, fun F6 H6 y s6 G6 h6 => ?_⟩
                have fo6 := G6.fo D _ upd_same
                have s26 : Same F2 F6 := s3.trans (s5.trans s6)
                refine ⟨vs, fo6.1, by rw [rpa_len hr2]; exact hz, F6, m6, vs ++ [y], acc ++ [d6], hF.trans s26, ?_, upd_same, fo6.2, rpa_app (Rpam s26 hr2) (.cons h6 .nil), e3⟩
                have GB := back s26 G6
                refine ⟨fun b o q => ?_, fun b o q => ?_, GB.len, GB.fz, GB.ow, GB.al, fun kk a es q1 q2 => ?_, GB.nd, fun a qa => ?_, GB.lk⟩
                · have hb : b ≠ D := fun z => by rw [z, fo6.2] at q; cases q
                  rw [upd_ne hb]
                  exact GB.sub b o q
                · have hb : b ≠ D := fun z => by rw [z, nU] at q; cases q
                  rw [upd_ne hb]
                  exact GB.fo b o q
                · obtain ⟨c1, c2, us, c3, c4⟩ := GB.cl kk a es q1 q2
                  have ha : a ≠ D := fun z => nA (z ▸ List.mem_of_getElem? q1)
                  exact ⟨c1, c2, us, by rw [upd_ne ha]; exact c3, c4⟩
                · obtain ⟨o', c1⟩ := GB.he a qa
                  have hne : a ≠ D := fun z => nA (z ▸ qa)
                  exact ⟨o', by rw [upd_ne hne]; exact c1⟩
              · cases e3
  · have ei : i = ds.length := by omega
    subst ei
    rw [List.drop_length] at e3
    cases e3
    exact .inl ⟨W1.stop F2 H2 (fun b o e => (G2.fo b o e).1) hF G2.sub, k F2 H2 D _ hF G2 hF2 nU nA hD2 ⟨vs, rfl, hr2⟩⟩
/-- a new object is frozen -/
theorem Good.ice {K : PySem.W.Frag} {U : Hp} {A : List Addr} {F H : Hp} {σ : St} {r : Rs} {m : Ms} {a : Addr} {u : HO} {d : PyData} (G : Good K U A F H σ r m) (hF : F a = none) (hU : U a = none) (hA : a ∉ A) (hH : H a = some u) (h : Stored K F u d) :
    Same F (upd F a u) ∧ Good K U A (upd F a u) H σ r m ∧ Rp K (upd F a u) (.ref a) d := by
  have s : Same F (upd F a u) := same_new hF
  refine ⟨s, ⟨fun b o q => ?_, fun b o q => ?_, G.len, fun j d q => ?_, G.ow, G.al, fun kk b es q1 q2 => ?_, G.nd, G.he, G.lk⟩, stored_rp upd_same (stored_mono s h)⟩
  · by_cases hb : b = a
    · subst hb
      rw [upd_same] at q
      cases q
      exact hH
    · rw [upd_ne hb] at q
      exact G.sub b o q
  · have hb : b ≠ a := fun z => by rw [z, hU] at q; cases q
    rw [upd_ne hb]
    exact G.fo b o q
  · obtain ⟨v, c1, c2⟩ := G.fz j d q
    exact ⟨v, c1, Rpm s c2⟩
  · obtain ⟨c1, c2, us, c3, c4⟩ := G.cl kk b es q1 q2
    have hb : b ≠ a := fun z => hA (z ▸ List.mem_of_getElem? q1)
    exact ⟨by rw [upd_ne hb]; exact c1, c2, us, c3, stored_mono s c4⟩
/-- the reading of an expression that makes a new object, not frozen yet -/
def tN (K : PySem.W.Frag) (U : Hp) (f : Ev) : TE := fun σ H Q => ∃ (A : List Addr) (F : Hp) (r : Rs) (m : Ms) (d : PyData) (m' : Ms), Good K U A F H σ r m ∧ f r m = some (d, m') ∧
  ∀ (F' H' : Hp) (a : Addr) (u : HO), Same F F' → Good K U A F' H' σ r m' → F' a = none → U a = none → a ∉ A → H' a = some u → Stored K F' u d → Q (.ref a) H'
theorem qe_new {X : Cx} {U : Hp} {e : Expr} {f : Ev} (h : PE X e (tN X.K U f)) : PE X e (tE X.K U f) := pe_weak h fun σ H Q ⟨A, F, r, m, d, m', G, e, k⟩ =>
  ⟨A, F, r, m, d, m', G, e, fun F' H' a u s G' q1 q2 q3 q4 q5 => by
    obtain ⟨w1, w2, w3⟩ := G'.ice q1 q2 q3 q4 q5
    exact k _ H' _ (s.trans w1) w2 w3⟩
theorem lc_read (his : ∀ j ∈ is, j ∈ own.map (·.2)) {σ : St} {H : Hp} {Q : VK} (hq : tN X.K U (eLc fi (own.map (·.2)) h t f) σ H Q) :
    tLc (tIt X.K U fi) (tGX X.K is h) (tTX X.K t) (tEX X.K f) (own.map (·.2)) σ H Q := by
  obtain ⟨A, F, r, m, d, m', G, e, k⟩ := hq
  unfold eLc at e
  cases e1 : fi r m with
  | none => rw [e1] at e; cases e
  | some p =>
    obtain ⟨ds, m1⟩ := p
    rw [e1] at e
    simp only [Option.bind_some] at e
    cases e2 : lcLoop h t f (wipeR r (own.map (·.2))) ds m1 [] with
    | none => rw [e2] at e; cases e
    | some q =>
      obtain ⟨res, m9⟩ := q
      rw [e2] at e
      cases e
      exact ⟨A, F, r, m, ds, m1, G, e1, fun F1 H1 J s1 G1 W1 => lc_inner his G1 W1 e2 fun F' H' a u s G' q1 q2 q3 q4 q5 => k F' H' a u (s1.trans s) G' q1 q2 q3 q4 q5⟩
theorem qn_lc (hc : X.calm = true) (hN : X.N.Nodup) (hi : PI X tg iter (tIt X.K U fi)) (ok : BlkOk X.N X.env.scope scope own) (his : ∀ j ∈ is, j ∈ own.map (·.2))
    (hg : ∀ (U : Hp) (s : Shared) (H : Hp) (C : Addr) (cl : List (Str × Addr)) (fp : List Addr), PG (X.blk s H scope (compEnvC scope cl C X.env) fp) tg (tG X.K U is h))
    (ht : ∀ (U : Hp) (s : Shared) (H : Hp) (C : Addr) (cl : List (Str × Addr)) (fp : List Addr), PTs (X.blk s H scope (compEnvC scope cl C X.env) fp) ifs (tT X.K U t))
    (he : ∀ (U : Hp) (s : Shared) (H : Hp) (C : Addr) (cl : List (Str × Addr)) (fp : List Addr), PE (X.blk s H scope (compEnvC scope cl C X.env) fp) elt (tE X.K U f)) (hs : ∀ x, foldedSetIterable iter X.env x = pure x := by intro _; rfl) :
    PE X (.ListComp elt [⟨tg, iter, ifs, 0⟩] scope pos) (tN X.K U (eLc fi (own.map (·.2)) h t f)) :=
  pe_weak (pe_lc hc hN hi ok (fun s H C cl fp => pg_all fun U => hg U s H C cl fp) (fun s H C cl fp => pts_all fun U => ht U s H C cl fp) (fun s H C cl fp => pe_all fun U => he U s H C cl fp) hs) fun σ H Q q => lc_read his q
theorem qe_lc (hc : X.calm = true) (hN : X.N.Nodup) (hi : PI X tg iter (tIt X.K U fi)) (ok : BlkOk X.N X.env.scope scope own) (his : ∀ j ∈ is, j ∈ own.map (·.2))
    (hg : ∀ (U : Hp) (s : Shared) (H : Hp) (C : Addr) (cl : List (Str × Addr)) (fp : List Addr), PG (X.blk s H scope (compEnvC scope cl C X.env) fp) tg (tG X.K U is h))
    (ht : ∀ (U : Hp) (s : Shared) (H : Hp) (C : Addr) (cl : List (Str × Addr)) (fp : List Addr), PTs (X.blk s H scope (compEnvC scope cl C X.env) fp) ifs (tT X.K U t))
    (he : ∀ (U : Hp) (s : Shared) (H : Hp) (C : Addr) (cl : List (Str × Addr)) (fp : List Addr), PE (X.blk s H scope (compEnvC scope cl C X.env) fp) elt (tE X.K U f)) (hs : ∀ x, foldedSetIterable iter X.env x = pure x := by intro _; rfl) :
    PE X (.ListComp elt [⟨tg, iter, ifs, 0⟩] scope pos) (tE X.K U (eLc fi (own.map (·.2)) h t f)) := qe_new (qn_lc hc hN hi ok his hg ht he hs)
/-- x = e, e a new object: a new cell -/
def sSetF (i : Nat) (f : Ev) : Es := fun r m => (f r m).map fun p => .nx (r.set i (.ow p.2.length)) (p.2 ++ [some p.1])
theorem qs_setLc {n0 i : Nat} {y : Str} {py spos : Pos} (hc : X.calm = true) (hN : X.N.Nodup) (hy : X.N[i]? = some y) (hyl : X.env.scope.names.lookup y = some .local)
    (hsw : swapsWith (.ListComp elt [⟨tg, iter, ifs, 0⟩] scope pos) (some (.Name y py)) spos.line X.env = pure true) (hi : PI X tg iter (tIt X.K U fi)) (ok : BlkOk X.N X.env.scope scope own) (his : ∀ j ∈ is, j ∈ own.map (·.2))
    (hg : ∀ (U : Hp) (s : Shared) (H : Hp) (C : Addr) (cl : List (Str × Addr)) (fp : List Addr), PG (X.blk s H scope (compEnvC scope cl C X.env) fp) tg (tG X.K U is h))
    (ht : ∀ (U : Hp) (s : Shared) (H : Hp) (C : Addr) (cl : List (Str × Addr)) (fp : List Addr), PTs (X.blk s H scope (compEnvC scope cl C X.env) fp) ifs (tT X.K U t))
    (he : ∀ (U : Hp) (s : Shared) (H : Hp) (C : Addr) (cl : List (Str × Addr)) (fp : List Addr), PE (X.blk s H scope (compEnvC scope cl C X.env) fp) elt (tE X.K U f)) (hs : ∀ x, foldedSetIterable iter X.env x = pure x := by intro _; rfl) :
    PS X (.Assign [.Name y py] (.ListComp elt [⟨tg, iter, ifs, 0⟩] scope pos) spos) (tS X.K U n0 (sSet i (eLc fi (own.map (·.2)) h t f))) ∧ PS X (.Assign [.Name y py] (.ListComp elt [⟨tg, iter, ifs, 0⟩] scope pos) spos) (tS X.K U n0 (sSetF i (eLc fi (own.map (·.2)) h t f))) := by
  have base :=
    ps_setLc (g := tGX X.K is h) (tt := tTX X.K t) (te := tEX X.K f) hc hN hy hyl hsw hi ok (fun s H C cl fp => pg_all fun U => hg U s H C cl fp) (fun s H C cl fp => pts_all fun U => ht U s H C cl fp) (fun s H C cl fp => pe_all fun U => he U s H C cl fp) hs
  refine ⟨ps_weak base fun D σ H ⟨A, F, r, m, o, G, hn, e, p⟩ => ?_, ps_weak base fun D σ H ⟨A, F, r, m, o, G, hn, e, p⟩ => ?_⟩
  · unfold sSet at e
    cases e1 : eLc fi (own.map (·.2)) h t f r m with
    | none => rw [e1] at e; cases e
    | some q =>
      rw [e1] at e
      cases e
      refine lc_read his ⟨A, F, r, m, q.1, q.2, G, e1, fun F1 H1 a u s1 G1 q1 q2 q3 q4 q5 => ?_⟩
      obtain ⟨w1, w2, w3⟩ := G1.ice q1 q2 q3 q4 q5
      exact p A _ H1 _ (List.prefix_refl A) (s1.trans w1) (w2.setFz w3)
  · unfold sSetF at e
    cases e1 : eLc fi (own.map (·.2)) h t f r m with
    | none => rw [e1] at e; cases e
    | some q =>
      rw [e1] at e
      cases e
      exact lc_read his ⟨A, F, r, m, q.1, q.2, G, e1, fun F1 H1 a u s1 G1 q1 q2 q3 q4 q5 => p (A ++ [a]) F1 H1 _ (List.prefix_append A [a]) s1 (G1.setOw q1 q2 q3 q4 q5)⟩
theorem qts_one {c : Expr} {p : Et} (h : PT X c (tT X.K U p)) : PTs X [c] (tT X.K U p) := pts_one h
end
/-! ## defs -/
def slots (n : Nat) (ds : List PyData) : Rs := ds.map Sl.fz ++ List.replicate n .un
/-- what a def of nP parameters and nL further names hands back -/
def runD (nL : Nat) (s : Es) (ds : List PyData) : Option PyData := match s (slots nL ds) [] with
  | some (.rt d _) => some d
  | some (.nx _ _) => some .none
  | some (.rn es _) => some es
  | _ => none
def runR (nL : Nat) (s : Es) (cs : PyData) (ds : List PyData) : Option (PyData × PyData) := match s (.ow 0 :: slots nL ds) [some cs] with
  | some (.rt d m) => (cellAt m 0).map fun cs' => (d, cs')
  | some (.nx _ m) => (cellAt m 0).map fun cs' => (.none, cs')
  | _ => none
def runN (nL : Nat) (s : Es) (ds : List PyData) : Option PyData := match s (slots nL ds) [] with
  | some (.rn es _) => some es
  | _ => none
def spN (K : PySem.W.Frag) (n : Nat) (g : List PyData → Option PyData) : Sp := fun vs H Q _ => ∃ (F : Hp) (ds : List PyData) (es : PyData), Same F H ∧ vs.length = n ∧ RpAll K F vs ds ∧ g ds = some es ∧
  ∀ (F' H' : Hp) (a : Addr) (u : HO), Same F F' → Same F' H' → (∀ b o, H b = some o → F b = none → H' b = some o ∧ F' b = none) → F' a = none → H a = none → H' a = some u → Stored K F' u es → Q (.ref a) H'
/-- what stands and is not frozen -/
def less (H F : Hp) : Hp := fun b => match F b with
  | none => H b
  | some _ => none
theorem less_some {H F : Hp} {b : Addr} {o : HO} : less H F b = some o ↔ H b = some o ∧ F b = none := by
  unfold less
  cases e : F b with
  | none => simp
  | some x => simp
end TL
namespace TL
open PySem L2
theorem good_start {K : PySem.W.Frag} {F H : Hp} {vs : List V} {ds : List PyData} {N : List Str} (hF : Same F H) (hr : RpAll K F vs ds) (hl : vs.length ≤ N.length) :
    Good K (less H F) [] F H (L2.start N vs) (slots (N.length - vs.length) ds) [] := by
  have hd := rpa_len hr
  refine ⟨hF, fun b o e => less_some.mp e, by unfold L2.start slots; simp [hd], fun i d e => ?_, fun i k e => ?_, rfl, fun k a es e => by simp at e, List.nodup_nil, fun a ha => (by cases ha), trivial⟩
  · unfold slots at e
    by_cases hi : i < ds.length
    · rw [List.getElem?_append_left (by simpa using hi), List.getElem?_map] at e
      cases e1 : ds[i]? with
      | none => rw [e1] at e; cases e
      | some d1 =>
        rw [e1] at e
        cases e
        obtain ⟨v, h1, h2⟩ := rpa_get hr e1
        refine ⟨v, ?_, h2⟩
        unfold L2.start
        rw [List.getElem?_append_left (by rw [List.length_map]; omega), List.getElem?_map, h1]
        rfl
    · rw [List.getElem?_append_right (by rw [List.length_map]; omega), List.getElem?_replicate] at e
      split at e <;> cases e
  · unfold slots at e
    by_cases hi : i < ds.length
    · rw [List.getElem?_append_left (by simpa using hi), List.getElem?_map] at e
      cases e1 : ds[i]? with
      | none => rw [e1] at e; cases e
      | some d1 => rw [e1] at e; cases e
    · rw [List.getElem?_append_right (by rw [List.length_map]; omega), List.getElem?_replicate] at e
      split at e <;> cases e
/-- a list of ours is frozen -/
theorem fin_freeze {K : PySem.W.Frag} {U : Hp} {A : List Addr} {F H : Hp} {m : Ms} {a : Addr} {u : HO} {d : PyData} (h : Fin K U 0 A F H m) (hF : F a = none) (hU : U a = none) (hH : H a = some u) (hr : Stored K F u d) :
    Same F (upd F a u) ∧ Fin K U 0 A (upd F a u) H m ∧ Rp K (upd F a u) (.ref a) d := by
  have s : Same F (upd F a u) := same_new hF
  refine ⟨s, ⟨fun b o e => ?_, fun b o e => ?_, fun k b es hk => absurd hk (Nat.not_lt_zero k)⟩, stored_rp upd_same (stored_mono s hr)⟩
  · by_cases hb : b = a
    · subst hb
      rw [upd_same] at e
      cases e
      exact hH
    · rw [upd_ne hb] at e
      exact h.sub b o e
  · have hb : b ≠ a := fun z => by rw [z, hU] at e; cases e
    rw [upd_ne hb]
    exact h.fo b o e
section
variable {P : Program} {w : World} {K : PySem.W.Frag} {mg : Str → Option Value} {base : Heap} {x qual : Str} {st : Stmt} {f : Addr} {fd : FuncData} {N ps : List Str} {k : Nat} {s : Es}
theorem go_D (hpl : ps.length ≤ N.length) {vs : List V} {H : Hp} {Q : VK} {E : XK} (h : spD K ps.length (runD (N.length - ps.length) s) vs H Q E) : ∃ U, tS K U 0 s { nx := fun _ H' => Q .non H', rt := Q } (L2.start N vs) H := by
  · obtain ⟨F0, ds, d, hF, hl, hr2, e, kk⟩ := h
    refine ⟨(less H F0), ?_⟩
    have G := good_start (N := N) hF hr2 (by omega)
    rw [hl] at G
    unfold runD at e
    cases e1 : s (slots (N.length - ps.length) ds) [] with
    | none => rw [e1] at e; cases e
    | some o =>
      rw [e1] at e
      refine ⟨[], F0, _, [], o, G, Nat.zero_le _, e1, ?_⟩
      have out := fun {F' H' : Hp} {A' : List Addr} {m' : Ms} (s1 : Same F0 F') (h : Fin K (less H F0) 0 A' F' H' m') {v : V} {d' : PyData} (hv : Rp K F' v d') (hd : some d' = some d) => by
        cases hd
        exact kk F' H' v s1 h.sub (fun b o e1 e2 => h.fo b o (less_some.mpr ⟨e1, e2⟩)) hv
      cases o with
      | nx r m => exact fun A' F' H' σ' _ s1 G' => out s1 (G'.fin (Nat.zero_le _)) .vn e
      | rt d' m => exact fun A' F' H' v _ s1 Fi hv => out s1 Fi hv e
      | rn es m =>
        intro A' F' H' a vs' _ s1 Fi q1 q2 _ q4 q5
        obtain ⟨w1, w2, w3⟩ := fin_freeze Fi q1 q2 q4 q5
        exact out (s1.trans w1) w2 w3 e
      | bk r m => cases e
      | ct r m => cases e
theorem go_N (hpl : ps.length ≤ N.length) {vs : List V} {H : Hp} {Q : VK} {E : XK} (h : spN K ps.length (runN (N.length - ps.length) s) vs H Q E) : ∃ U, tS K U 0 s { nx := fun _ H' => Q .non H', rt := Q } (L2.start N vs) H := by
  · obtain ⟨F0, ds, es, hF, hl, hr2, e, kk⟩ := h
    refine ⟨(less H F0), ?_⟩
    have G := good_start (N := N) hF hr2 (by omega)
    rw [hl] at G
    unfold runN at e
    cases e1 : s (slots (N.length - ps.length) ds) [] with
    | none => rw [e1] at e; cases e
    | some o =>
      rw [e1] at e
      refine ⟨[], F0, _, [], o, G, Nat.zero_le _, e1, ?_⟩
      cases o with
      | rn es' m =>
        cases e
        intro A' F' H' a vs' _ s1 Fi q1 q2 _ q4 q5
        have hn : H a = none := by
          cases q : H a with
          | none => rfl
          | some o =>
            cases q0 : F0 a with
            | none =>
              have z := less_some.mpr ⟨q, q0⟩
              rw [q2] at z
              cases z
            | some o' =>
              rw [s1 a o' q0] at q1
              cases q1
        exact kk F' H' a vs' s1 Fi.sub (fun b o e1 e2 => Fi.fo b o (less_some.mpr ⟨e1, e2⟩)) q1 hn q4 q5
      | _ => cases e
theorem go_R (hpl : ps.length + 1 ≤ N.length) {vs : List V} {H : Hp} {Q : VK} {E : XK} (h : spR K ps.length (runR (N.length - (ps.length + 1)) s) vs H Q E) : ∃ U, tS K U 1 s { nx := fun _ H' => Q .non H', rt := Q } (L2.start N vs) H := by
  · obtain ⟨F0, a, us, ws, cs, ds, d, cs', hF, rfl, hl, fa, ha, hu, hw, e, kk⟩ := h
    refine ⟨(fun b => if b = a then none else less H F0 b), ?_⟩
    have hd := rpa_len hw
    have G0 := good_start (N := N.drop 1) hF hw (by rw [List.length_drop]; omega)
    rw [List.length_drop, hl, Nat.sub_sub, Nat.add_comm 1] at G0
    have est : L2.start N (.ref a :: ws) = some (.ref a) :: L2.start (N.drop 1) ws := by
      unfold L2.start
      rw [List.length_drop, List.map_cons, List.length_cons, List.cons_append, hl, Nat.sub_sub, Nat.add_comm 1]
    have G : Good K (fun b => if b = a then none else less H F0 b) [a] F0 H (L2.start N (.ref a :: ws)) (.ow 0 :: slots (N.length - (ps.length + 1)) ds) [some cs] := by
      rw [est]
      refine ⟨hF, fun b o e => ?_, by rw [List.length_cons, List.length_cons, G0.len], fun i d' e => ?_, fun i j e => ?_, rfl, fun j b es e1 e2 => ?_, by simp, fun b hb => ⟨us, by rw [List.mem_singleton.mp hb]; exact ha⟩, trivial⟩
      · by_cases hb : b = a
        · simp [hb] at e
        · simp [hb] at e
          exact less_some.mp e
      · cases i with
        | zero => simp at e
        | succ i => exact G0.fz i d' (by simpa using e)
      · cases i with
        | zero =>
          simp at e
          subst e
          exact ⟨a, rfl, rfl⟩
        | succ i =>
          obtain ⟨b, q, _⟩ := G0.ow i j (by simpa using e)
          simp at q
      · cases j with
        | zero =>
          simp at e1
          subst e1
          cases e2
          exact ⟨fa, by simp, us, ha, hu⟩
        | succ j => simp at e1
    unfold runR at e
    cases e1 : s (.ow 0 :: slots (N.length - (ps.length + 1)) ds) [some cs] with
    | none => rw [e1] at e; cases e
    | some o =>
      rw [e1] at e
      refine ⟨[a], F0, _, [some cs], o, G, Nat.le_refl _, e1, ?_⟩
      have out : ∀ {F' H' : Hp} {A' : List Addr} {m' : Ms}, [a] <+: A' → Same F0 F' → Fin K (fun b => if b = a then none else less H F0 b) 1 A' F' H' m' → ∀ {v : V} {d' : PyData}, Rp K F' v d' → ((cellAt m' 0).map fun c => (d', c)) = some (d, cs') → Q v H' := by
        intro F' H' A' m' hA s1 h v d' hv hd
        have hA0 : A'[0]? = some a := by
          obtain ⟨t, rfl⟩ := hA
          rfl
        cases q2 : cellAt m' 0 with
        | none => rw [q2] at hd; cases hd
        | some es =>
        rw [q2] at hd
        cases hd
        obtain ⟨q1, vs', q3, q4⟩ := h.cl 0 a _ (Nat.lt_succ_self 0) hA0 q2
        refine kk F' H' v vs' s1 h.sub (fun b o e1 e2 hb => h.fo b o ?_) q1 q3 q4 hv
        show (if b = a then none else less H F0 b) = some o
        rw [if_neg hb]
        exact less_some.mpr ⟨e1, e2⟩
      cases o with
      | nx r m => exact fun A' F' H' σ' hA s1 G' => out hA s1 (G'.fin hA.length_le) .vn e
      | rt d' m => exact fun A' F' H' v hA s1 Fi hv => out hA s1 Fi hv e
      | rn es m => cases e
      | bk r m => cases e
      | ct r m => cases e
end
end TL
end
/-! TL9 -/
section
set_option maxHeartbeats 4000000
namespace TL
open PySem L2
variable [TL.Lnk]
/-! ## callees and constants by name -/
structure Glo (K : PySem.W.Frag) (mg : Str → Option Value) (x : Str) (d : PyData) : Prop where
  ex : ∃ (v : V) (u : Value), mg x = some u ∧ RelV v u ∧ ∀ F, Rp K F v d
section
variable {X : Cx} {U : Hp} {x : Str} {p pos : Pos} {e : Expr} {es : List Expr} {f : Eas} {j k n : Nat} {ps : List Str}
theorem qc_glo {d : PyData} (G : Glo X.K X.mg x d) (hg : Gl X x := by rfl) (hdb : (x == ("__debug__" : Str)) = false := by decide) : PE X (.Name x pos) (tE X.K U (eC d)) := by
  obtain ⟨v, u, h1, h2, h3⟩ := G.ex
  exact pe_weak (pe_glob hg h1 h2 hdb) fun σ H Q ⟨A, F, r, m, d', m', G, e, k⟩ => by
    cases e
    exact k F H v (Same.refl F) G (h3 F)
/-- x = f(..), f hands back a new list of its own -/
def sSetN (n i : Nat) (f : Eas) (g : List PyData → Option PyData) : Es := fun r m => (f r m).bind fun p => (arN n g p.1).map fun cs => .nx (r.set i (.ow p.2.length)) (p.2 ++ [some cs])
end
end TL
end
/-! TL10 -/
section
set_option maxHeartbeats 4000000
namespace TL
open PySem L2
variable [TL.Lnk]
/-! ## a op b op c -/
def eChain (o1 o2 : PyData → PyData → Option PyData) (f g h : Ev) : Ev := fun r m => (f r m).bind fun p => (g r p.2).bind fun q => (o1 p.1 q.1).bind fun z => match z with
  | .bool true => (h r q.2).bind fun w => (o2 q.1 w.1).map fun d => (d, w.2)
  | .bool false => some (.bool false, q.2)
  | _ => none
section
variable {X : Cx} {U : Hp} {pos : Pos} {a b c : Expr} {f g h : Ev} {op op' : CmpOp} {r1 r2 : R2} {o1 o2 : PyData → PyData → Option PyData}
theorem chain_read (w1 : OpD X U r1 o1) (w2 : OpD X U r2 o2) {σ : St} {H : Hp} {Q : VK} (hq : tE X.K U (eChain o1 o2 f g h) σ H Q) : tChain r1 r2 (tE X.K U f) (tE X.K U g) (tE X.K U h) σ H Q := by
  obtain ⟨A, F, r, m, d, m', G, e, k⟩ := hq
  unfold eChain at e
  cases e1 : f r m with
  | none => rw [e1] at e; cases e
  | some p1 =>
    obtain ⟨d1, m1⟩ := p1
    cases e2 : g r m1 with
    | none => simp [e1, e2] at e
    | some p2 =>
      obtain ⟨d2, m2⟩ := p2
      cases e3 : o1 d1 d2 with
      | none => simp [e1, e2, e3] at e
      | some z =>
        simp only [e1, e2, e3, Option.bind_some] at e
        refine ⟨A, F, r, m, d1, m1, G, e1, fun F1 H1 x s1 G1 h1 => ⟨A, F1, r, m1, d2, m2, G1, e2, fun F2 H2 y s2 G2 h2 => ?_⟩⟩
        refine w1 A F2 H2 σ r m2 x y d1 d2 z _ G2 (Rpm s2 h1) h2 e3 fun F3 H3 v s3 G3 h3 => ?_
        cases h3 with
        | vb bb =>
          refine ⟨bb, rfl, ?_⟩
          cases bb with
          | false =>
            refine iteF ?_
            cases e
            exact k F3 H3 _ (s1.trans (s2.trans s3)) G3 (.vb false)
          | true =>
            refine iteT ?_
            simp only at e
            cases e4 : h r m2 with
            | none => rw [e4] at e; cases e
            | some p4 =>
              obtain ⟨d4, m4⟩ := p4
              rw [e4] at e
              simp only [Option.bind_some] at e
              cases e5 : o2 d2 d4 with
              | none => rw [e5] at e; cases e
              | some d5 =>
                rw [e5] at e
                cases e
                refine ⟨A, F3, r, m2, d4, m', G3, e4, fun F4 H4 u s4 G4 h4 => ?_⟩
                exact w2 A F4 H4 σ r m' y u d2 d4 d Q G4 (Rpm (s3.trans s4) h2) h4 e5 fun F5 H5 v5 s5 G5 h5 => k F5 H5 v5 (s1.trans (s2.trans (s3.trans (s4.trans s5)))) G5 h5
        | _ => cases e
theorem qt_chain (c1 : OpR X (compareOp op) r1) (w1 : OpD X U r1 o1) (c2 : OpR X (compareOp op') r2) (w2 : OpD X U r2 o2) (ha : PE X a (tE X.K U f)) (hb : PE X b (tE X.K U g)) (hc : PE X c (tE X.K U h))
    (hm : lastMarks [op, op'] [b, c] = false := by with_unfolding_all rfl) : PT X (.Compare a [op, op'] [b, c] pos) (tT X.K U (eT blD (eChain o1 o2 f g h))) := pt_weak (pt_chain c1 c2 ha hb hc hm) fun σ H Q ⟨A, F, r, m, bb, m', G, e, k⟩ => by
  obtain ⟨d, e1, e2⟩ := et_some e
  exact chain_read w1 w2 ⟨A, F, r, m, d, m', G, e1, fun F1 H1 x s1 G1 h1 => ⟨bb, bl_of h1 e2, k F1 H1 s1 G1⟩⟩
end
/-! ## x op= e -/
def sAug (i : Nat) (op : PyData → PyData → Option PyData) (f : Ev) : Es := fun r m => (slD r[i]?).bind fun d => (f r m).bind fun p => (op d p.1).map fun z => .nx (r.set i (.fz z)) p.2
theorem slD_some {s : Option Sl} {d : PyData} (e : slD s = some d) : s = some (.fz d) := by
  unfold slD at e
  split at e
  · cases e; rfl
  · cases e
section
variable {X : Cx} {U : Hp} {n0 : Nat} {pos : Pos} {e : Expr} {f : Ev} {op : Operator} {rd : R2} {od : PyData → PyData → Option PyData}
theorem qs_aug {i : Nat} {x : Str} {p1 : Pos} (hr : OpR X (inplaceOp op) rd) (ho : OpD X U rd od) (hN : X.N.Nodup) (hi : X.N[i]? = some x) (hx : Loc X.env.scope x) (he : PE X e (tE X.K U f))
    (hf : X.fn x = true ∨ X.env.scope.names.lookup x = some .local := by first | exact .inl rfl | exact .inr rfl | assumption) : PS X (.AugAssign (.Name x p1) op e pos) (tS X.K U n0 (sAug i od f)) :=
  ps_weak (ps_aug (ti := rd) hN hi hx he (fun pins s σ H x y v u Q I r1 r2 h => hr pins s σ H x y v u Q I r1 r2 h) hf) fun D σ H ⟨A, F, r, m, o, G, hn, e, p⟩ => by
  unfold sAug at e
  cases e0 : slD r[i]? with
  | none => rw [e0] at e; cases e
  | some d0 =>
    rw [e0] at e
    simp only [Option.bind_some] at e
    obtain ⟨v, hv, hd⟩ := G.fz i d0 (slD_some e0)
    cases e1 : f r m with
    | none => rw [e1] at e; cases e
    | some q =>
      obtain ⟨d1, m1⟩ := q
      rw [e1] at e
      simp only [Option.bind_some] at e
      cases e2 : od d0 d1 with
      | none => rw [e2] at e; cases e
      | some z =>
        rw [e2] at e
        cases e
        refine ⟨v, hv, A, F, r, m, d1, m1, G, e1, fun F1 H1 y s1 G1 h1 => ?_⟩
        exact ho A F1 H1 σ r m1 v y d0 d1 z _ G1 (Rpm s1 hd) h1 e2 fun F2 H2 w s2 G2 h2 => p A F2 H2 _ (List.prefix_refl A) (s1.trans s2) (G2.setFz h2)
end
def addI : PyData → PyData → Option PyData
  | .int i, .int j => some (.int (i + j))
  | .str a, .str b => if a.length + b.length ≤ sizeLine then some (.str (a ++ b)) else none
  | _, _ => none
section
variable {X : Cx} {U : Hp}
theorem od_addI : OpD X U (fun x y H Q => rI0 (fun i j => .int (i + j)) x y H Q ∨ (∃ i j, x = .str i ∧ y = .str j ∧ i.length + j.length ≤ sizeLine ∧ Q (.str (i ++ j)) H)) addI := by
  intro A F H σ r m x y a b d Q G ha hb e k
  unfold addI at e
  split at e
  · cases ha; cases hb; cases e
    exact .inl ⟨_, _, rfl, rfl, k F H _ (Same.refl F) G (.vi _)⟩
  · split at e
    · rename_i hs
      cases ha; cases hb; cases e
      exact .inr ⟨_, _, rfl, rfl, hs, k F H _ (Same.refl F) G (.vs _)⟩
    · cases e
  · cases e
theorem or_addI : OpR X (inplaceOp .Add) (fun x y H Q => rI0 (fun i j => .int (i + j)) x y H Q ∨ (∃ i j, x = .str i ∧ y = .str j ∧ i.length + j.length ≤ sizeLine ∧ Q (.str (i ++ j)) H)) := opr_or iop_add iop_add_str
end
/-! ## while, with so many turns at most -/
def whileS (c : Et) (body : Es) : Nat → Es
  | 0, _, _ => none
  | n + 1, r, m => (c r m).bind fun b => if b.1 = true then (body r b.2).bind fun o => match o with
      | .nx r2 m2 => whileS c body n r2 m2
      | .ct r2 m2 => whileS c body n r2 m2
      | .bk r2 m2 => some (.nx r2 m2)
      | o => some o
    else some (.nx r b.2)
section
variable {X : Cx} {U : Hp} {n0 : Nat} {pos : Pos} {c : Expr} {body : List Stmt} {t : Et} {s : Es}
theorem qs_while (n : Nat) (hp : PassesOwn (model X.prog X.w) X.A X.env X.xe) (hc : PT X c (tT X.K U t)) (hb : PSs X body (tS X.K U n0 s)) : PS X (.While c body [] pos) (tS X.K U n0 (whileS t s n)) := ps_weak (ps_while hp hc hb) fun D σ H ⟨A, F, r, m, o, G, hn, e, p⟩ => by
  refine ⟨fun n σ2 H2 => ∃ (A2 : List Addr) (F2 : Hp) (r2 : Rs) (m2 : Ms), A <+: A2 ∧ Same F F2 ∧ Good X.K U A2 F2 H2 σ2 r2 m2 ∧ whileS t s n r2 m2 = some o, ⟨n, A, F, r, m, List.prefix_refl A, Same.refl F, G, e⟩, ?_⟩
  rintro n σ2 H2 ⟨A2, F2, r2, m2, hA, hF, G2, e2⟩
  cases n with
  | zero => cases e2
  | succ n =>
    unfold whileS at e2
    cases e3 : t r2 m2 with
    | none => rw [e3] at e2; cases e2
    | some q =>
      obtain ⟨b, m3⟩ := q
      rw [e3] at e2
      simp only [Option.bind_some] at e2
      refine ⟨A2, F2, r2, m2, b, m3, G2, e3, fun F3 H3 s3 G3 => ?_⟩
      cases b with
      | false =>
        refine iteF ?_
        cases e2
        exact p A2 F3 H3 σ2 hA (hF.trans s3) G3
      | true =>
        refine iteT ?_
        rw [if_pos rfl] at e2
        cases e4 : s r2 m3 with
        | none => rw [e4] at e2; cases e2
        | some o4 =>
          rw [e4] at e2
          simp only [Option.bind_some] at e2
          refine ⟨fun σ' H' => ∃ (A' : List Addr) (F' : Hp) (r' : Rs) (m' : Ms), A <+: A' ∧ Same F F' ∧ Good X.K U A' F' H' σ' r' m' ∧ whileS t s n r' m' = some o, fun σ' H' w => ⟨n, Nat.lt_succ_self n, w⟩, A2, F3, r2, m3, o4, G3, len_of hA hn, e4, ?_⟩
          have hF3 : Same F F3 := hF.trans s3
          have past := fun {A' : List Addr} {F' : Hp} (ha : A2 <+: A') (hf : Same F3 F') => Post.later (K := X.K) (U := U) (n0 := n0) (D := D) (hA.trans ha) (hF3.trans hf) p
          cases o4 with
          | nx r5 m5 => exact fun A' F' H' σ' ha hf G' => ⟨A', F', r5, m5, hA.trans ha, hF3.trans hf, G', e2⟩
          | ct r5 m5 => exact fun A' F' H' σ' ha hf G' => ⟨A', F', r5, m5, hA.trans ha, hF3.trans hf, G', e2⟩
          | bk r5 m5 =>
            cases e2
            exact fun A' F' H' σ' ha hf G' => past ha hf A' F' H' σ' (List.prefix_refl A') (Same.refl F') G'
          | rt d m5 =>
            cases e2
            exact fun A' F' H' v ha hf Fi hv => past ha hf A' F' H' v (List.prefix_refl A') (Same.refl F') Fi hv
          | rn ds5 m5 =>
            cases e2
            exact fun A' F' H' a u ha hf Fi q1 q2 q3 q4 q5 => past ha hf A' F' H' a u (List.prefix_refl A') (Same.refl F') Fi q1 q2 q3 q4 q5
end
/-! ## zip of two lists, of two tuples; *e -/
def zipD : List PyData → List PyData → List PyData
  | a :: as, b :: bs => .tuple [a, b] :: zipD as bs
  | _, _ => []
section
variable {X : Cx} {U : Hp} {a b : Expr} {fs : Eas} {p pos tpos : Pos}
def eStar (f : Ev) (g : Eas) : Eas := fun r m => (f r m).bind fun p => match p.1 with
  | .list ds => (g r p.2).map fun q => (ds ++ q.1, q.2)
  | .tuple ds => (g r p.2).map fun q => (ds ++ q.1, q.2)
  | _ => none
theorem qa_star {e : Expr} {es : List Expr} {f : Ev} {g : Eas} (ha : PE X e (tE X.K U f)) (hr : PA X es (tAs X.K U g)) (hs : starEach (.Starred e p :: es) X.env = (true, eval e X.env) :: starEach es X.env := by rfl) :
    PA X (.Starred e p :: es) (tAs X.K U (eStar f g)) := pa_weak (StX.pa_star ha hr hs) fun σ H Q ⟨A, F, r, m, ds, m', G, e, k⟩ => by
  unfold eStar at e
  cases e1 : f r m with
  | none => rw [e1] at e; cases e
  | some q =>
    obtain ⟨d1, m1⟩ := q
    rw [e1] at e
    simp only [Option.bind_some] at e
    split at e
    · cases e2 : g r m1 with
      | none => rw [e2] at e; cases e
      | some q2 =>
        rw [e2] at e
        cases e
        refine ⟨A, F, r, m, _, m1, G, e1, fun F1 H1 x s1 G1 h1 => ?_⟩
        cases h1 with
        | vl sa ra => exact ⟨_, _, rfl, .inr ((sqL_mono G1.sub sa)), A, F1, r, m1, q2.1, q2.2, G1, e2, fun F2 H2 vs s2 G2 h2 => k F2 H2 _ (s1.trans s2) G2 (rpa_app (Rpam s2 ra) h2)⟩
    · cases e2 : g r m1 with
      | none => rw [e2] at e; cases e
      | some q2 =>
        rw [e2] at e
        cases e
        refine ⟨A, F, r, m, _, m1, G, e1, fun F1 H1 x s1 G1 h1 => ?_⟩
        cases h1 with
        | vt sa ra => exact ⟨_, _, rfl, .inl (seqT_mono G1.sub sa), A, F1, r, m1, q2.1, q2.2, G1, e2, fun F2 H2 vs s2 G2 h2 => k F2 H2 _ (s1.trans s2) G2 (rpa_app (Rpam s2 ra) h2)⟩
    · cases e
end
theorem room65 {k : Nat} {A : Around} (r : Room k A) : A.units + 65 < cLine := by have := r.un; omega
end TL
end
/-! TL11 -/
section
set_option maxHeartbeats 4000000
namespace TL
open PySem L2
variable [TL.Lnk]
/-! ## a cell frozen ahead of a block -/
def sFrz (i : Nat) (s : Es) : Es := fun r m => (slO r[i]?).bind fun k => (cellAt m k).bind fun d => s (frzR k d r) (m.set k none)
section
variable {X : Cx} {U : Hp} {n0 : Nat}
theorem qs_frz (i : Nat) {body : List Stmt} {s : Es} (h : PSs X body (tS X.K U n0 s)) : PSs X body (tS X.K U n0 (sFrz i s)) := pss_weak h fun D σ H ⟨A, F, r, m, o, G, hn, e, p⟩ => by
  unfold sFrz at e
  cases e0 : slO r[i]? with
  | none => rw [e0] at e; cases e
  | some k =>
    rw [e0] at e
    simp only [Option.bind_some] at e
    cases e1 : cellAt m k with
    | none => rw [e1] at e; cases e
    | some d =>
      rw [e1] at e
      simp only [Option.bind_some] at e
      obtain ⟨a, hA, hσ⟩ := G.ow i k (slO_some e0)
      obtain ⟨u, s1, G1, _⟩ := G.freeze hA e1
      exact ⟨A, _, _, _, o, G1, hn, e, p.later (List.prefix_refl A) s1⟩
/-- the slot i forgotten (a name that is not read any more, or stored anew) -/
theorem qs_setF {i : Nat} {x : Str} {p1 pos : Pos} {e : Expr} {f : Ev} (hN : X.N.Nodup) (hi : X.N[i]? = some x) (hx : Loc X.env.scope x) (he : PE X e (tN X.K U f)) (hs : swapsWith e (some (.Name x p1)) pos.line X.env = pure false := by rfl)
    (hf : X.fn x = true ∨ X.env.scope.names.lookup x = some .local := by first | exact .inl rfl | exact .inr rfl | assumption) : PS X (.Assign [.Name x p1] e pos) (tS X.K U n0 (sSetF i f)) := ps_weak (ps_set hN hi hx he hs hf) fun D σ H ⟨A, F, r, m, o, G, hn, e, p⟩ => by
  unfold sSetF at e
  cases e1 : f r m with
  | none => rw [e1] at e; cases e
  | some q =>
    rw [e1] at e
    cases e
    exact ⟨A, F, r, m, q.1, q.2, G, e1, fun F1 H1 a u s1 G1 q1 q2 q3 q4 q5 => p (A ++ [a]) F1 H1 _ (List.prefix_append A [a]) s1 (G1.setOw q1 q2 q3 q4 q5)⟩
/-- return e, e a new object, as one that the caller may change -/
def sRetF (f : Ev) : Es := fun r m => (f r m).map fun p => .rn p.1 p.2
theorem qs_retF {pos : Pos} {e : Expr} {f : Ev} (he : PE X e (tN X.K U f)) : PS X (.Return (some e) pos) (tS X.K U n0 (sRetF f)) := ps_weak (ps_ret he) fun D σ H ⟨A, F, r, m, o, G, hn, e, p⟩ => by
  unfold sRetF at e
  cases e1 : f r m with
  | none => rw [e1] at e; cases e
  | some q =>
    rw [e1] at e
    cases e
    exact ⟨A, F, r, m, q.1, q.2, G, e1, fun F1 H1 a u s1 G1 q1 q2 q3 q4 q5 => p A F1 H1 a u (List.prefix_refl A) s1 (G1.fin hn) q1 q2 (fun k _ e2 => q3 (List.mem_of_getElem? e2)) q4 q5⟩
/-- return x, x a cell's name, not one of the first n0 -/
def sRetC (n0 i : Nat) : Es := fun r m => (slO r[i]?).bind fun k => if n0 ≤ k then (cellAt m k).map fun d => .rn d m else none
theorem qs_retC (i : Nat) {x : Str} {p1 pos : Pos} (hv : PE X (.Name x p1) (tVar i)) : PS X (.Return (some (.Name x p1)) pos) (tS X.K U n0 (sRetC n0 i)) := ps_weak (ps_ret hv) fun D σ H ⟨A, F, r, m, o, G, hn, e, p⟩ => by
  unfold sRetC at e
  cases e0 : slO r[i]? with
  | none => rw [e0] at e; cases e
  | some k =>
    rw [e0] at e
    simp only [Option.bind_some] at e
    split at e
    · rename_i hk
      cases e1 : cellAt m k with
      | none => rw [e1] at e; cases e
      | some d =>
        rw [e1] at e
        cases e
        obtain ⟨a, hA, hσ⟩ := G.ow i k (slO_some e0)
        obtain ⟨c1, c2, u, c3, c4⟩ := G.cl k a d hA e1
        refine ⟨_, hσ, p A F H a u (List.prefix_refl A) (Same.refl F) (G.fin hn) c1 c2 (fun j hj e2 => ?_) c3 c4⟩
        obtain ⟨l1, q1⟩ := List.getElem?_eq_some_iff.mp e2
        obtain ⟨l2, q2⟩ := List.getElem?_eq_some_iff.mp hA
        have := (List.getElem_inj G.nd).mp (q1.trans q2.symm)
        omega
    · cases e
/-! ## new objects by built-ins and operators -/
def CallN (X : Cx) (U : Hp) (rc : List V → Hp → VK → Prop) (op : List PyData → Option PyData) : Prop :=
  ∀ (A : List Addr) (F H : Hp) (σ : St) (r : Rs) (m : Ms) (vs : List V) (ds : List PyData) (d : PyData) (Q : VK), Good X.K U A F H σ r m → RpAll X.K F vs ds → op ds = some d →
    (∀ (F' H' : Hp) (a : Addr) (u : HO), Same F F' → Good X.K U A F' H' σ r m → F' a = none → U a = none → a ∉ A → H' a = some u → Stored X.K F' u d → Q (.ref a) H') → rc vs H Q
theorem cbN {rc : List V → Hp → VK → Prop} {op : List PyData → Option PyData} {f : Eas} (ho : CallN X U rc op) {σ : St} {H : Hp} {Q : VK} (h : tN X.K U (eMap f op) σ H Q) : tCB rc (tAs X.K U f) σ H Q := by
  obtain ⟨A, F, r, m, d, m', G, e, k⟩ := h
  obtain ⟨ds, e1, e2⟩ := map_some e
  exact ⟨A, F, r, m, ds, m', G, e1, fun F1 H1 vs s1 G1 h1 => ho A F1 H1 σ r m' vs ds d Q G1 h1 e2 fun F2 H2 a u s2 G2 q1 q2 q3 q4 q5 => k F2 H2 a u (s1.trans s2) G2 q1 q2 q3 q4 q5⟩
variable {x : Str} {p pos : Pos} {e : Expr} {es : List Expr} {id T : String} {rc : List V → Hp → VK → Prop} {op : List PyData → Option PyData} {f : Eas}
theorem qn_callTy (hc : CallR X (.type T) rc) (ho : CallN X U rc op) (hg : Gl X x) (hm : X.mg x = none) (hv : bootBuiltins x = some (.type T)) (ha : PA X (e :: es) (tAs X.K U f)) (hn : x ≠ "__name__" := by decide) (hdb : (x == ("__debug__" : Str)) = false := by decide)
    (he : starEach (e :: es) X.env = (false, eval e X.env) :: starEach es X.env := by rfl) (hpl : (backTo pos (starEach es X.env)).any (·.1) = false := by rfl) : PE X (.Call (.Name x p) (e :: es) [] pos) (tN X.K U (eMap f op)) :=
  pe_weak (pe_callTy hc hg hm hv ha hn hdb he hpl) fun _ _ _ h => cbN ho h
theorem cn_list : CallN X U (fun xs H Q => ∃ p ys, xs = [.ref p] ∧ (SqL X.K H p ys ∨ SqT X.K H p ys) ∧ ∀ l, H l = none → Q (.ref l) (upd H l (.lst ys))) listD := by
  intro A F H σ r m vs ds d Q G ha e k
  unfold listD at e
  split at e
  · cases e
    obtain ⟨v, rfl, h⟩ := rpa1 ha
    cases h with
    | vl sa ra => exact ⟨_, _, rfl, .inl ((sqL_mono G.sub sa)), fun l hl => k F _ l _ (Same.refl F) (G.laidO hl) (G.nope hl).1 (G.nope hl).2 (G.notin hl) upd_same ⟨_, rfl, ra⟩⟩
  · cases e
    obtain ⟨v, rfl, h⟩ := rpa1 ha
    cases h with
    | vt sa ra => exact ⟨_, _, rfl, .inr (seqT_mono G.sub sa), fun l hl => k F _ l _ (Same.refl F) (G.laidO hl) (G.nope hl).1 (G.nope hl).2 (G.notin hl) upd_same ⟨_, rfl, ra⟩⟩
  · cases e
theorem qn_lst {f : Eas} (h : PA X es (tAs X.K U f)) : PE X (.List es pos) (tN X.K U (eLst f)) := pe_weak (pe_lst h) fun σ H Q ⟨A, F, r, m, d, m', G, e, k⟩ => by
  unfold eLst at e
  cases e1 : f r m with
  | none => rw [e1] at e; cases e
  | some p =>
    obtain ⟨ds, m1⟩ := p
    simp [e1] at e
    obtain ⟨hz, z1, z2⟩ := e
    subst z1 z2
    exact ⟨A, F, r, m, ds, m1, G, e1, fun F1 H1 xs s1 G1 h1 => ⟨by rw [rpa_len h1]; exact hz, fun p np => k F1 _ p _ s1 (G1.laidO np) (G1.nope np).1 (G1.nope np).2 (G1.notin np) upd_same ⟨_, rfl, h1⟩⟩⟩
/-! ## a cell looked at -/
/-- len(x), x a cell's name -/
def eLenO (i : Nat) : Ev := fun r m => (slO r[i]?).bind fun k => (cellAt m k).bind fun c => match c with | .list ds => some (.int ds.length, m) | _ => none
theorem qe_lenO (i : Nat) {y : Str} {p1 : Pos} (hv : PE X (.Name y p1) (tVar i)) (hg : Gl X x) (hx : x = "len") (hm : X.mg x = none) (hb : bootBuiltins x = some (.builtin "len")) (hn : x ≠ "__name__" := by decide) (hdb : (x == ("__debug__" : Str)) = false := by decide)
    (he : starEach [.Name y p1] X.env = (false, eval (.Name y p1) X.env) :: starEach [] X.env := by rfl) (hpl : (backTo pos (starEach [] X.env)).any (·.1) = false := by rfl) : PE X (.Call (.Name x p) [.Name y p1] [] pos) (tE X.K U (eLenO i)) :=
  pe_weak (pe_callB call_len_seq hg hm hb (pa_cons hv pa_nil he) hn hdb he hpl) fun σ H Q ⟨A, F, r, m, d, m', G, e, k⟩ => by
  unfold eLenO at e
  cases e0 : slO r[i]? with
  | none => rw [e0] at e; cases e
  | some kk =>
    rw [e0] at e
    simp only [Option.bind_some] at e
    cases e1 : cellAt m kk with
    | none => rw [e1] at e; cases e
    | some c =>
      rw [e1] at e
      simp only [Option.bind_some] at e
      split at e
      · cases e
        obtain ⟨a, hA, hσ⟩ := G.ow i kk (slO_some e0)
        obtain ⟨c1, c2, u, c3, vs, c5, c4⟩ := G.cl kk a _ hA e1
        subst c5
        refine ⟨_, hσ, a, vs, rfl, .inl (.inl (.inl c3)), ?_⟩
        rw [rpa_len c4]
        exact k F H _ (Same.refl F) G (.vi _)
      · cases e
/-- tuple(x), list(x) -/
def eSeqO (i : Nat) (mk : List PyData → PyData) : Ev := fun r m => (slO r[i]?).bind fun k => (cellAt m k).bind fun c => match c with | .list ds => some (mk ds, m) | _ => none
theorem qe_tupO (i : Nat) {y : Str} {p1 : Pos} (hv : PE X (.Name y p1) (tVar i)) (hg : Gl X x) (hm : X.mg x = none) (hb : bootBuiltins x = some (.type "tuple")) (hn : x ≠ "__name__" := by decide) (hdb : (x == ("__debug__" : Str)) = false := by decide)
    (he : starEach [.Name y p1] X.env = (false, eval (.Name y p1) X.env) :: starEach [] X.env := by rfl) (hpl : (backTo pos (starEach [] X.env)).any (·.1) = false := by rfl) : PE X (.Call (.Name x p) [.Name y p1] [] pos) (tE X.K U (eSeqO i .tuple)) :=
  pe_weak (pe_callTy call_tuple_of hg hm hb (pa_cons hv pa_nil he) hn hdb he hpl) fun σ H Q ⟨A, F, r, m, d, m', G, e, k⟩ => by
  unfold eSeqO at e
  cases e0 : slO r[i]? with
  | none => rw [e0] at e; cases e
  | some kk =>
    rw [e0] at e
    simp only [Option.bind_some] at e
    cases e1 : cellAt m kk with
    | none => rw [e1] at e; cases e
    | some c =>
      rw [e1] at e
      simp only [Option.bind_some] at e
      split at e
      · cases e
        obtain ⟨a, hA, hσ⟩ := G.ow i kk (slO_some e0)
        obtain ⟨c1, c2, u, c3, vs, c5, c4⟩ := G.cl kk a _ hA e1
        subst c5
        refine ⟨_, hσ, a, vs, rfl, .inl ⟨.inl (.inl c3), fun l hl => ?_⟩⟩
        have sF : Same F (upd F l (.tup vs)) := same_new (G.nope hl).1
        exact k _ _ _ sF (G.laid hl) (.vt (.inl (.inl upd_same)) (Rpam sF c4))
      · cases e
/-- e in x, e not in x -/
def eInO (i : Nat) (od : PyData → PyData → Option PyData) (g : Ev) : Ev := fun r m => (slO r[i]?).bind fun k => (g r m).bind fun p => (cellAt p.2 k).bind fun c => (od p.1 c).map fun d => (d, p.2)
theorem tst_read {f : Ev} {t : TE} {σ : St} {H : Hp} {Q : Bool → Hp → Prop} (w : ∀ σ H Q, tE X.K U f σ H Q → t σ H Q) (h : tT X.K U (eT blD f) σ H Q) : tTest t σ H Q := by
  obtain ⟨A, F, r, m, bb, m', G, e, k⟩ := h
  obtain ⟨d, e1, e2⟩ := et_some e
  exact w _ _ _ ⟨A, F, r, m, d, m', G, e1, fun F1 H1 x s1 G1 h1 => ⟨bb, bl_of h1 e2, k F1 H1 s1 G1⟩⟩
end
/-! ## a comprehension over a cell -/
theorem Good.shut {K : PySem.W.Frag} {U : Hp} {A : List Addr} {F H : Hp} {σ : St} {r : Rs} {m : Ms} (G : Good K U A F H σ r m) {k : Nat} {a : Addr} {u : HO} {c : PyData} (hj : A[k]? = some a) (h0 : cellAt m k = some c) (hH : H a = some u) :
    Good K (upd U a u) A F H σ r (m.set k none) := by
  obtain ⟨hF, hU, _⟩ := G.cl k a c hj h0
  refine ⟨G.sub, fun b x e => ?_, G.len, G.fz, G.ow, by rw [List.length_set]; exact G.al, fun j b ds e1 e2 => ?_, G.nd, G.he, G.lk⟩
  · by_cases hb : b = a
    · subst hb
      rw [upd_same] at e
      cases e
      exact ⟨hH, hF⟩
    · rw [upd_ne hb] at e
      exact G.fo b x e
  · by_cases hjk : j = k
    · subst hjk
      rw [cellAt_self (cellAt_lt h0)] at e2
      cases e2
    · rw [cellAt_ne hjk] at e2
      obtain ⟨h1, h2, h3⟩ := G.cl j b ds e1 e2
      have hb : b ≠ a := fun z => by
        subst z
        obtain ⟨l1, q1⟩ := List.getElem?_eq_some_iff.mp e1
        obtain ⟨l2, q2⟩ := List.getElem?_eq_some_iff.mp hj
        exact hjk ((List.getElem_inj G.nd).mp (q1.trans q2.symm))
      exact ⟨h1, by rw [upd_ne hb]; exact h2, h3⟩
/-- and opened again -/
theorem Good.unshut {K : PySem.W.Frag} {U : Hp} {A : List Addr} {F H : Hp} {σ : St} {r : Rs} {m : Ms} {k : Nat} {a : Addr} {u : HO} {c : PyData} (G : Good K (upd U a u) A F H σ r m) (hj : A[k]? = some a) (hU : U a = none) (h : Stored K F u c) :
    Good K U A F H σ r (m.set k (some c)) := by
  have hk : k < m.length := by rw [← G.al]; exact (List.getElem?_eq_some_iff.mp hj).1
  obtain ⟨hH, hF⟩ := G.fo a u upd_same
  refine ⟨G.sub, fun b x e => G.fo b x ?_, G.len, G.fz, G.ow, by rw [List.length_set]; exact G.al, fun j b ds e1 e2 => ?_, G.nd, G.he, G.lk⟩
  · have hb : b ≠ a := fun z => by rw [z, hU] at e; cases e
    rw [upd_ne hb]
    exact e
  · by_cases hjk : j = k
    · subst hjk
      rw [hj] at e1
      cases e1
      rw [cellAt_self hk] at e2
      cases e2
      exact ⟨hF, hU, u, hH, h⟩
    · rw [cellAt_ne hjk] at e2
      obtain ⟨h1, h2, h3⟩ := G.cl j b ds e1 e2
      have hb : b ≠ a := fun z => by
        rw [z, upd_same] at h2
        cases h2
      rw [upd_ne hb] at h2
      exact ⟨h1, h2, h3⟩
theorem wk_cell {K : PySem.W.Frag} {U F : Hp} {a : Addr} {xs : List V} {ds : List PyData} (hr : RpAll K F xs ds) : Wk K (upd U a (.lst xs)) (Itl K a) F ds where
  go := fun U' A σ r m F1 H1 i d sU s1 G1 e => by
    obtain ⟨v, h1, h2⟩ := rpa_get hr e
    have hq : SqL K H1 a xs := .inl (.inl (G1.fo a _ (sU a _ upd_same)).1)
    refine ⟨⟨xs, v, hq, h1⟩, fun x H2 hy => ?_⟩
    obtain ⟨e2, hy⟩ := hy
    subst e2
    have := hy xs hq
    rw [h1] at this
    cases this
    exact ⟨F1, Same.refl F1, G1, Rpm s1 h2⟩
  stop := fun F1 H1 sZ s1 s2 => ⟨xs, .inl (.inl (sZ a _ upd_same)), by rw [rpa_len hr]; exact Nat.le_refl _⟩
def eLcO (i : Nat) (own : List Nat) (h : Eh) (t : Et) (f : Ev) : Ev := fun r m => (slO r[i]?).bind fun k => (cellAt m k).bind fun c => match c with
  | .list ds => (lcLoop h t f (wipeR r own) ds (m.set k none) []).map fun q => (.list q.1, q.2.set k (some (.list ds)))
  | _ => none
section
variable {X : Cx} {U : Hp} {elt tg : Expr} {ifs : List Expr} {scope : Scope} {own : List (Str × Nat)} {pos p1 : Pos} {is : List Nat} {h : Eh} {t : Et} {f : Ev} {y : Str}
theorem lcO_read {i : Nat} (his : ∀ j ∈ is, j ∈ own.map (·.2)) {σ : St} {H : Hp} {Q : VK} (hq : tN X.K U (eLcO i (own.map (·.2)) h t f) σ H Q) :
    tLc (iList X.K (tVar i)) (tGX X.K is h) (tTX X.K t) (tEX X.K f) (own.map (·.2)) σ H Q := by
  obtain ⟨A, F, r, m, d, m', G, e, k⟩ := hq
  unfold eLcO at e
  cases e0 : slO r[i]? with
  | none => rw [e0] at e; cases e
  | some kk =>
    rw [e0] at e
    simp only [Option.bind_some] at e
    obtain ⟨a, hA, hσ⟩ := G.ow i kk (slO_some e0)
    cases e1 : cellAt m kk with
    | none => rw [e1] at e; cases e
    | some c =>
      rw [e1] at e
      simp only [Option.bind_some] at e
      split at e
      · rename_i ds
        cases e2 : lcLoop h t f (wipeR r (own.map (·.2))) ds (m.set kk none) [] with
        | none => rw [e2] at e; cases e
        | some q =>
          obtain ⟨res, m9⟩ := q
          rw [e2] at e
          cases e
          obtain ⟨c1, c2, u, c3, vs, c5, c4⟩ := G.cl kk a _ hA e1
          subst c5
          refine ⟨_, hσ, a, rfl, ⟨vs, .inl (.inl c3)⟩, ?_⟩
          refine lc_inner his (G.shut hA e1 c3) (wk_cell c4) e2 fun F' H' b w s G' q1 q2 q3 q4 q5 => ?_
          have hb : b ≠ a := fun z => by rw [z, upd_same] at q2; cases q2
          rw [upd_ne hb] at q2
          exact k F' H' b w s (G'.unshut hA c2 ⟨vs, rfl, Rpam s c4⟩) q1 q2 q3 q4 q5
      · cases e
theorem qs_setLcO {n0 i j : Nat} {z : Str} {py spos : Pos} (hv : PE X (.Name y p1) (tVar j)) (hc : X.calm = true) (hN : X.N.Nodup) (hy : X.N[i]? = some z) (hyl : X.env.scope.names.lookup z = some .local)
    (hsw : swapsWith (.ListComp elt [⟨tg, .Name y p1, ifs, 0⟩] scope pos) (some (.Name z py)) spos.line X.env = pure true) (ok : BlkOk X.N X.env.scope scope own) (his : ∀ j ∈ is, j ∈ own.map (·.2))
    (hg : ∀ (U : Hp) (s : Shared) (H : Hp) (C : Addr) (cl : List (Str × Addr)) (fp : List Addr), PG (X.blk s H scope (compEnvC scope cl C X.env) fp) tg (tG X.K U is h))
    (ht : ∀ (U : Hp) (s : Shared) (H : Hp) (C : Addr) (cl : List (Str × Addr)) (fp : List Addr), PTs (X.blk s H scope (compEnvC scope cl C X.env) fp) ifs (tT X.K U t))
    (he : ∀ (U : Hp) (s : Shared) (H : Hp) (C : Addr) (cl : List (Str × Addr)) (fp : List Addr), PE (X.blk s H scope (compEnvC scope cl C X.env) fp) elt (tE X.K U f)) (hs : ∀ x, foldedSetIterable (.Name y p1) X.env x = pure x := by intro _; rfl) :
    PS X (.Assign [.Name z py] (.ListComp elt [⟨tg, .Name y p1, ifs, 0⟩] scope pos) spos) (tS X.K U n0 (sSet i (eLcO j (own.map (·.2)) h t f))) ∧ PS X (.Assign [.Name z py] (.ListComp elt [⟨tg, .Name y p1, ifs, 0⟩] scope pos) spos) (tS X.K U n0 (sSetF i (eLcO j (own.map (·.2)) h t f))) := by
  have base := ps_setLc (g := tGX X.K is h) (tt := tTX X.K t) (te := tEX X.K f) hc hN hy hyl hsw (pi_list hv) ok (fun s H C cl fp => pg_all fun U => hg U s H C cl fp) (fun s H C cl fp => pts_all fun U => ht U s H C cl fp) (fun s H C cl fp => pe_all fun U => he U s H C cl fp) hs
  refine ⟨ps_weak base fun D σ H ⟨A, F, r, m, o, G, hn, e, p⟩ => ?_, ps_weak base fun D σ H ⟨A, F, r, m, o, G, hn, e, p⟩ => ?_⟩
  · unfold sSet at e
    cases e1 : eLcO j (own.map (·.2)) h t f r m with
    | none => rw [e1] at e; cases e
    | some q =>
      rw [e1] at e
      cases e
      refine lcO_read his ⟨A, F, r, m, q.1, q.2, G, e1, fun F1 H1 a u s1 G1 q1 q2 q3 q4 q5 => ?_⟩
      obtain ⟨w1, w2, w3⟩ := G1.ice q1 q2 q3 q4 q5
      exact p A _ H1 _ (List.prefix_refl A) (s1.trans w1) (w2.setFz w3)
  · unfold sSetF at e
    cases e1 : eLcO j (own.map (·.2)) h t f r m with
    | none => rw [e1] at e; cases e
    | some q =>
      rw [e1] at e
      cases e
      exact lcO_read his ⟨A, F, r, m, q.1, q.2, G, e1, fun F1 H1 a u s1 G1 q1 q2 q3 q4 q5 => p (A ++ [a]) F1 H1 _ (List.prefix_append A [a]) s1 (G1.setOw q1 q2 q3 q4 q5)⟩
/-! ## range(a, b, c) -/
def rangeC (lo c : Int) (n : Nat) : List PyData := (List.range n).map fun i => .int (lo + (i : Nat) * c)
theorem wk_rangeC {K : PySem.W.Frag} {Z F : Hp} {lo c : Int} {n : Nat} : Wk K Z (Itc lo c n) F (rangeC lo c n) where
  go := fun U A σ r m F1 H1 i d _ s1 G1 e => by
    unfold rangeC at e
    rw [List.getElem?_map] at e
    by_cases hi : i < n
    · rw [List.getElem?_range hi] at e
      cases e
      refine ⟨hi, fun v H2 hy => ?_⟩
      obtain ⟨e2, e4⟩ := hy
      subst e2 e4
      exact ⟨F1, Same.refl F1, G1, .vi _⟩
    · rw [List.getElem?_eq_none (by rw [List.length_range]; omega)] at e
      cases e
  stop := fun F1 H1 _ s1 s2 => by
    show n ≤ (rangeC lo c n).length
    unfold rangeC
    rw [List.length_map, List.length_range]
    exact Nat.le_refl n
/-- a step of -1 alone -/
def eRg3 (f : Eas) : Eas := fun r m => (f r m).bind fun p => match p.1 with
  | [.int i, .int j, .int c] => if c = -1 ∧ -(2 ^ 62) ≤ i ∧ i < 2 ^ 62 ∧ -(2 ^ 62) ≤ j ∧ j < 2 ^ 62 then some (rangeC i c (i - j).toNat, p.2) else none
  | _ => none
theorem qi_range3 {a b c : Expr} {fs : Eas} {p : Pos} (hg : Gl X "range") (hm : X.mg "range" = none) (ha : PA X [a, b, c] (tAs X.K U fs)) (hs : starEach [a, b, c] X.env = (false, eval a X.env) :: starEach [b, c] X.env := by rfl) (hpl : (backTo pos (starEach [b, c] X.env)).any (·.1) = false := by rfl) :
    PI X tg (.Call (.Name "range" p) [a, b, c] [] pos) (tIt X.K U (eRg3 fs)) := by
  refine ⟨fun pins s σ H R I ⟨A, F, r, m, ds, m', G, e0, k⟩ => ?_⟩
  unfold eRg3 at e0
  cases e1 : fs r m with
  | none => rw [e1] at e0; cases e0
  | some q =>
    obtain ⟨es, m1⟩ := q
    rw [e1] at e0
    simp only [Option.bind_some] at e0
    split at e0
    · split at e0
      · rename_i i j c hj
        cases e0
        refine (pi_range3 hg hm ha hs hpl).run pins s σ H R I ⟨A, F, r, m, _, m', G, e1, fun F1 H1 vs s1 G1 h1 => ?_⟩
        cases h1 with
        | cons g1 t1 => cases t1 with
          | cons g2 t2 => cases t2 with
            | cons g3 t3 =>
              cases t3
              cases g1
              cases g2
              cases g3
              obtain ⟨rfl, w⟩ := hj
              exact ⟨i, j, -1, (i - j).toNat, rfl, RgC.neg w.1 w.2.1 w.2.2.1 w.2.2.2, k F1 H1 _ s1 G1 wk_rangeC⟩
      · cases e0
    · cases e0
end
end TL
end
/-! TL12 -/
section
set_option maxHeartbeats 4000000
namespace TL
open PySem L2
variable [TL.Lnk]
/-! ## methods of texts -/
def eSm (op : Str → List PyData → Option PyData) (f : Ev) (g : Eas) : Ev := fun r m => (f r m).bind fun p => match p.1 with
  | .str z => (g r p.2).bind fun q => (op z q.1).map fun d => (d, q.2)
  | _ => none
def MtD (X : Cx) (U : Hp) (rd : V → List V → Hp → VK → Prop) (op : Str → List PyData → Option PyData) : Prop :=
  ∀ (A : List Addr) (F H : Hp) (σ : St) (r : Rs) (m : Ms) (z : Str) (xs : List V) (ds : List PyData) (d : PyData) (Q : VK), Good X.K U A F H σ r m → RpAll X.K F xs ds → op z ds = some d →
    (∀ (F' H' : Hp) (v : V), Same F F' → Good X.K U A F' H' σ r m → Rp X.K F' v d → Q v H') → rd (.str z) xs H Q
section
variable {X : Cx} {U : Hp} {o e : Expr} {es : List Expr} {name : Str} {apos cpos : Pos} {id : String} {rd : V → List V → Hp → VK → Prop} {op : Str → List PyData → Option PyData} {f : Ev} {g : Eas}
theorem qe_sm (slot : Slot "str" name id) (hty : typeOf (.builtin id) = pure (.type "method_descriptor")) (hm : MtR X id rd) (hd : MtD X U rd op) (ho : PE X o (tE X.K U f)) (ha : PA X (e :: es) (tAs X.K U g))
    (hbase : attributeBase o name X.env (eval o X.env) = eval o X.env := by rfl)
    (hfew : ((backTo cpos (starEach (e :: es) X.env)).all (fun x => !x.1) && (backToKw cpos (keywordEach [] X.env)).all (fun x => x.1.isSome)
      && decide ((e :: es).length + ([] : List Keyword).length + (if ([] : List Keyword).isEmpty then 0 else 1) < 30)) = true := by rfl)
    (hline : (apos.endLine == cpos.line) = true := by rfl) (hs : starEach (e :: es) X.env = (false, eval e X.env) :: starEach es X.env := by rfl) (hplain : (backTo cpos (starEach es X.env)).any (·.1) = false := by rfl) :
    PE X (.Call (.Attribute o name apos) (e :: es) [] cpos) (tE X.K U (eSm op f g)) :=
  pe_weak (pe_bm PySem.F.plainAttrs_str slot hty hm ho ha hbase hfew hline hs hplain) fun σ H Q ⟨A, F, r, m, d, m', G, e, k⟩ => by
  unfold eSm at e
  cases e1 : f r m with
  | none => rw [e1] at e; cases e
  | some p =>
    obtain ⟨d1, m1⟩ := p
    rw [e1] at e
    simp only [Option.bind_some] at e
    split at e
    · rename_i z
      cases e2 : g r m1 with
      | none => rw [e2] at e; cases e
      | some q =>
        obtain ⟨ds, m2⟩ := q
        rw [e2] at e
        simp only [Option.bind_some] at e
        cases e3 : op z ds with
        | none => rw [e3] at e; cases e
        | some d3 =>
          rw [e3] at e
          cases e
          refine ⟨A, F, r, m, _, m1, G, e1, fun F1 H1 x s1 G1 h1 => ?_⟩
          cases h1
          exact ⟨rfl, A, F1, r, m1, ds, m', G1, e2, fun F2 H2 xs s2 G2 h2 => hd A F2 H2 σ r m' z xs ds d Q G2 h2 e3 fun F3 H3 v s3 G3 h3 => k F3 H3 v ((s1.trans s2).trans s3) G3 h3⟩
    · cases e
def indexD (a : Str) : List PyData → Option PyData
  | [.str b] => (Builtin.Str.occurrences a b 0 a.length 1).head?.map fun i => .int (i : Nat)
  | _ => none
theorem md_index : MtD X U (fun x xs H Q => ∃ a b i rest, x = .str a ∧ xs = [.str b] ∧ Builtin.Str.occurrences a b 0 a.length 1 = i :: rest ∧ Q (.int (i : Nat)) H) indexD := by
  intro A F H σ r m z xs ds d Q G ha e k
  unfold indexD at e
  split at e
  · rename_i b
    obtain ⟨v, rfl, h⟩ := rpa1 ha
    cases h
    cases e1 : Builtin.Str.occurrences z b 0 z.length 1 with
    | nil => rw [e1] at e; cases e
    | cons i rest =>
      rw [e1] at e
      cases e
      exact ⟨z, b, i, rest, rfl, rfl, e1, k F H _ (Same.refl F) G (.vi _)⟩
  · cases e
theorem rpa_strs {K : PySem.W.Frag} {F : Hp} : ∀ ys : List Str, RpAll K F (ys.map V.str) (ys.map PyData.str)
  | [] => .nil
  | y :: ys => .cons (.vs y) (rpa_strs ys)
end
/-! ## list(text) -/
section
variable {X : Cx} {U : Hp}
theorem call_list_txt (hc : X.calm = true) : CallR X (.type "list") (fun xs H Q => ∃ z : Str, xs = [.str z] ∧ z.length ≤ sizeLine ∧ ∀ l, H l = none → Q (.ref l) (upd H l (.lst (z.cps.toList.map fun c => V.str ⟨#[c]⟩)))) := by
  intro pins s σ H xs us Q I r h
  obtain ⟨z, rfl, hz, q⟩ := h
  obtain ⟨u, rfl, t, rfl⟩ := vals1 r
  refine PySem.call_list_str (I.ok.hd hc) z t (fun h' tk acc c' hk e hi => ?_) hz
  refine ⟨.ref s.heap.objs.size, upd H s.heap.objs.size (.lst (z.cps.toList.map fun c => V.str ⟨#[c]⟩)), I.laid hk (Nat.le_refl _) ⟨by rw [List.length_map, Array.length_toList]; exact hz, acc.toList, c', ?_, by rw [Array.toArray_toList]; exact e⟩, rfl, q _ (I.hok.fresh (Nat.le_refl _))⟩
  refine vals_of_idx _ _ (by rw [List.length_map, Array.length_toList, Array.length_toList]; exact hi.1) fun j u hj => ?_
  obtain ⟨c, t', hc, rfl⟩ := hi.2 j u (by rw [← Array.getElem?_toList]; exact hj)
  exact ⟨.str ⟨#[c]⟩, by simp [hc], ⟨_, rfl⟩⟩
def listD2 : List PyData → Option PyData
  | [.str z] => if z.length ≤ sizeLine then some (.list (signs z)) else none
  | ds => listD ds
theorem rpa_signs {K : PySem.W.Frag} {F : Hp} : ∀ l : List Nat, RpAll K F (l.map fun c => V.str ⟨#[c]⟩) (l.map fun c => PyData.str ⟨#[c]⟩)
  | [] => .nil
  | _ :: l => .cons (.vs _) (rpa_signs l)
abbrev rList2 (K : PySem.W.Frag) : List V → Hp → VK → Prop := fun xs H Q => (∃ p ys, xs = [.ref p] ∧ (SqL K H p ys ∨ SqT K H p ys) ∧ ∀ l, H l = none → Q (.ref l) (upd H l (.lst ys))) ∨
    (∃ z : Str, xs = [.str z] ∧ z.length ≤ sizeLine ∧ ∀ l, H l = none → Q (.ref l) (upd H l (.lst (z.cps.toList.map fun c => V.str ⟨#[c]⟩))))
theorem call_list2 (hc : X.calm = true) : CallR X (.type "list") (rList2 X.K) := CallR.or call_list_of (call_list_txt hc)
theorem cd_list2 : CallD X U (rList2 X.K) listD2 := by
  intro A F H σ r m vs ds d Q G ha e k
  unfold listD2 at e
  split at e
  · split at e
    · rename_i hz
      cases e
      obtain ⟨v, rfl, h⟩ := rpa1 ha
      cases h
      refine .inr ⟨_, rfl, hz, fun l hl => ?_⟩
      have sF : ∀ o, Same F (upd F l o) := fun o => same_new (G.nope hl).1
      exact k _ _ _ (sF _) (G.laid hl) (.vl (.inl (.inl upd_same)) (rpa_signs _))
    · cases e
  · exact .inl (cd_list A F H σ r m vs ds d Q G ha e k)
theorem cn_list2 : CallN X U (rList2 X.K) listD2 := by
  intro A F H σ r m vs ds d Q G ha e k
  unfold listD2 at e
  split at e
  · split at e
    · rename_i hz
      cases e
      obtain ⟨v, rfl, h⟩ := rpa1 ha
      cases h
      exact .inr ⟨_, rfl, hz, fun l hl => k F _ l _ (Same.refl F) (G.laidO hl) (G.nope hl).1 (G.nope hl).2 (G.notin hl) upd_same ⟨_, rfl, rpa_signs _⟩⟩
    · cases e
  · exact .inl (cn_list A F H σ r m vs ds d Q G ha e k)
end
end TL
end
/-! TL13 -/
section
set_option maxHeartbeats 4000000
namespace TL
open PySem PySem.Spec PyProof.Rows L2
/-! ## the end of a proof -/
theorem fun_of {K : PySem.W.Frag} {x qual : Str} {st : Stmt} {kws : List (Str × V)} {f : Addr} {fd : FuncData} (F : FunD K x qual (defArgs st) (defBody st) (defScope st) [] kws f fd) : Fun K x qual st f fd := by
  obtain ⟨oc, od, dV, kV, doc, pm, an, cdv, ct, osl, rfl, lk, hcd, hD, _⟩ := F.ex
  rcases hD with ⟨_, rfl⟩ | ⟨e, _⟩
  · exact ⟨⟨oc, od, kV, doc, pm, an, cdv, ct, osl, rfl, lk, hcd⟩, F.kp⟩
  · exact absurd rfl e
theorem glo_int {K : PySem.W.Frag} {h : Heap} {mg : Str → Option Value} {x : Str} {i : Int} (X : K.In h) (G : h.Ns mainGlobals mg) (c : (He.Fa.int x i).ok K = true) : Glo K mg x (.int i) := by
  obtain ⟨t, e⟩ := He.int_ok X G c
  exact ⟨⟨.int i, _, e, ⟨t, rfl⟩, fun F => .vi i⟩⟩
theorem glo_str {K : PySem.W.Frag} {h : Heap} {mg : Str → Option Value} {x z : Str} (X : K.In h) (G : h.Ns mainGlobals mg) (c : (He.Fa.str x z).ok K = true) : Glo K mg x (.str z) := by
  obtain ⟨t, e⟩ := He.str_ok X G c
  exact ⟨⟨.str z, _, e, ⟨t, rfl⟩, fun F => .vs z⟩⟩
end TL
end
/-! TL14 -/
section
set_option maxHeartbeats 4000000
namespace TL
open PySem L2
/-! ## the twins reckoned: W x Q, x is there and Q of it -/
inductive W {α : Type} : Option α → (α → Prop) → Prop
  | mk {a : α} {Q : α → Prop} (h : Q a) : W (some a) Q
section
variable {α β : Type} {x : Option α} {Q P : α → Prop}
theorem W.ret {a : α} (h : Q a) : W (some a) Q := .mk h
theorem W.mono (h : W x P) (k : ∀ a, P a → Q a) : W x Q := by
  cases h with
  | mk h => exact .mk (k _ h)
theorem W.bind {f : α → Option β} {R : β → Prop} (h : W x fun a => W (f a) R) : W (x.bind f) R := by
  cases h with
  | mk h => exact h
theorem W.map {f : α → β} {R : β → Prop} (h : W x fun a => R (f a)) : W (x.map f) R := by
  cases h with
  | mk h => exact .mk h
theorem W.of {a : α} (e : x = some a) (h : Q a) : W x Q := by rw [e]; exact .mk h
theorem W.eq {a : α} (h : W x fun b => b = a) : x = some a := by
  cases h with
  | mk h => exact congrArg some h
theorem W.get (h : W x Q) : ∃ a, x = some a ∧ Q a := by
  cases h with
  | mk h => exact ⟨_, rfl, h⟩
theorem W.ite {c : Prop} [Decidable c] {y : Option α} (h1 : c → W x Q) (h2 : ¬c → W y Q) : W (if c then x else y) Q := by
  by_cases hc : c
  · rw [if_pos hc]; exact h1 hc
  · rw [if_neg hc]; exact h2 hc
theorem W.guard {c : Prop} [Decidable c] (hc : c) (h : W x Q) : W (if c then x else none) Q := by rw [if_pos hc]; exact h
end
/-! ### expressions -/
section
variable {r : Rs} {m : Ms} {Q : PyData × Ms → Prop} {QL : List PyData × Ms → Prop} {QB : Bool × Ms → Prop} {QO : Option Int × Ms → Prop} {f g k : Ev} {fs gs : Eas} {c c' : Et} {op o1 o2 : PyData → PyData → Option PyData} {i n : Nat} {d : PyData}
theorem w_C (h : Q (d, m)) : W (eC d r m) Q := .mk h
theorem w_V (e : r[i]? = some (.fz d)) (h : Q (d, m)) : W (eV i r m) Q := by
  unfold eV
  rw [e]
  exact .mk h
theorem w_bin (h : W (f r m) fun p => W (g r p.2) fun q => W (op p.1 q.1) fun d => Q (d, q.2)) : W (eBin op f g r m) Q := W.bind (W.mono h fun _ h => W.bind (W.mono h fun _ h => W.map h))
theorem w_map {α : Type} {f : Rs → Ms → Option (α × Ms)} {u : α → Option PyData} (h : W (f r m) fun p => W (u p.1) fun d => Q (d, p.2)) : W (eMap f u r m) Q := W.bind (W.mono h fun _ h => W.map h)
theorem w_nil (h : QL ([], m)) : W (eNil r m) QL := .mk h
theorem w_cons (h : W (f r m) fun p => W (gs r p.2) fun q => QL (p.1 :: q.1, q.2)) : W (eCons f gs r m) QL := W.bind (W.mono h fun _ h => W.map h)
theorem w_tup (h : W (fs r m) fun p => p.1.length ≤ sizeLine ∧ Q (.tuple p.1, p.2)) : W (eTup fs r m) Q := W.bind (W.mono h fun _ h => W.guard h.1 (.mk h.2))
theorem w_lst (h : W (fs r m) fun p => p.1.length ≤ sizeLine ∧ Q (.list p.1, p.2)) : W (eLst fs r m) Q := W.bind (W.mono h fun _ h => W.guard h.1 (.mk h.2))
theorem w_T {u : PyData → Option Bool} (h : W (f r m) fun p => W (u p.1) fun b => QB (b, p.2)) : W (eT u f r m) QB := W.bind (W.mono h fun _ h => W.map h)
theorem w_not (h : W (c r m) fun p => QB (!p.1, p.2)) : W (eNot c r m) QB := W.map h
theorem w_and (h : W (c r m) fun p => (p.1 = true → W (c' r p.2) QB) ∧ (p.1 = false → QB (false, p.2))) : W (eAnd c c' r m) QB := W.bind (W.mono h fun p h => W.ite h.1 fun z => W.ret (h.2 (by simpa using z)))
theorem w_or (h : W (c r m) fun p => (p.1 = true → QB (true, p.2)) ∧ (p.1 = false → W (c' r p.2) QB)) : W (eOr c c' r m) QB := W.bind (W.mono h fun p h => W.ite (fun z => W.ret (h.1 z)) fun z => h.2 (by simpa using z))
theorem w_eIf (h : W (c r m) fun p => (p.1 = true → W (f r p.2) Q) ∧ (p.1 = false → W (g r p.2) Q)) : W (eIf c f g r m) Q := W.bind (W.mono h fun p h => W.ite h.1 fun z => h.2 (by simpa using z))
theorem w_andV (h : W (f r m) fun p => ∃ b, p.1 = .bool b ∧ (b = true → W (g r p.2) Q) ∧ (b = false → Q (.bool false, p.2))) : W (eAndV f g r m) Q := W.bind (W.mono h fun ⟨d, m1⟩ ⟨b, e, h1, h2⟩ => by
  simp only at e
  subst e
  cases b with
  | true => exact h1 rfl
  | false => exact .mk (h2 rfl))
theorem w_orV (h : W (f r m) fun p => ∃ b, p.1 = .bool b ∧ (b = true → Q (.bool true, p.2)) ∧ (b = false → W (g r p.2) Q)) : W (eOrV f g r m) Q := W.bind (W.mono h fun ⟨d, m1⟩ ⟨b, e, h1, h2⟩ => by
  simp only at e
  subst e
  cases b with
  | true => exact .mk (h1 rfl)
  | false => exact h2 rfl)
theorem w_chain (h : W (f r m) fun p => W (g r p.2) fun q => W (o1 p.1 q.1) fun z => ∃ b, z = .bool b ∧ (b = false → Q (.bool false, q.2)) ∧ (b = true → W (k r q.2) fun w => W (o2 q.1 w.1) fun d => Q (d, w.2))) : W (eChain o1 o2 f g k r m) Q :=
  W.bind (W.mono h fun _ h => W.bind (W.mono h fun _ h => W.bind (W.mono h fun z ⟨b, e, h1, h2⟩ => by
    subst e
    cases b with
    | true => exact W.bind (W.mono (h2 rfl) fun _ h => W.map h)
    | false => exact .mk (h1 rfl))))
theorem w_ixO {a : Nat} (e : r[i]? = some (.ow a)) (h : W (g r m) fun p => ∃ ds j, cellAt p.2 a = some (.list ds) ∧ p.1 = .int j ∧ W (atI ds j) fun d => Q (d, p.2)) : W (eIxO i g r m) Q := by
  unfold eIxO
  rw [e]
  refine W.bind (W.mono h fun ⟨d1, m1⟩ ⟨ds, j, e1, e2, h⟩ => ?_)
  simp only at e1 e2
  subst e2
  exact W.bind (W.of e1 (W.map h))
theorem w_callR {a n : Nat} {u : PyData → List PyData → Option (PyData × PyData)} (e : r[i]? = some (.ow a)) (h : W (fs r m) fun p => ∃ cs, cellAt p.2 a = some cs ∧ p.1.length = n ∧ W (u cs p.1) fun q => Q (q.1, p.2.set a (some q.2))) : W (eCallR n i u fs r m) Q := by
  unfold eCallR
  rw [e]
  refine W.bind (W.mono h fun p ⟨cs, e1, e2, h⟩ => W.bind (W.of e1 ?_))
  unfold arN
  rw [if_pos e2]
  exact W.map h
theorem w_sm {u : Str → List PyData → Option PyData} (h : W (f r m) fun p => ∃ z, p.1 = .str z ∧ W (gs r p.2) fun q => W (u z q.1) fun d => Q (d, q.2)) : W (eSm u f gs r m) Q := W.bind (W.mono h fun ⟨d1, m1⟩ ⟨z, e, h⟩ => by
  simp only at e
  subst e
  exact W.bind (W.mono h fun _ h => W.map h))
theorem w_no (h : QO (none, m)) : W (eNo r m) QO := .mk h
theorem w_pt (h : W (f r m) fun p => ∃ j, p.1 = .int j ∧ QO (some j, p.2)) : W (ePt f r m) QO := W.bind (W.mono h fun ⟨d, m1⟩ ⟨j, e, h⟩ => by
  simp only at e
  subst e
  exact .mk h)
theorem w_sl {lo hi : Eo} (h : W (f r m) fun p => W (lo r p.2) fun q => W (hi r q.2) fun w => W (slcD p.1 q.1 w.1) fun d => Q (d, w.2)) : W (eSl f lo hi r m) Q := W.bind (W.mono h fun _ h => W.bind (W.mono h fun _ h => W.bind (W.mono h fun _ h => W.map h)))
theorem w_its (h : W (f r m) fun p => W (itemsD p.1) fun ds => QL (ds, p.2)) : W (eIts f r m) QL := W.bind (W.mono h fun _ h => W.map h)
theorem w_rg1 (h : W (fs r m) fun p => ∃ j, p.1 = [.int j] ∧ (-(2 ^ 62) ≤ j ∧ j < 2 ^ 62) ∧ QL (rangeD 0 j.toNat, p.2)) : W (eRg1 fs r m) QL := W.bind (W.mono h fun ⟨l, m1⟩ ⟨j, e, h1, h2⟩ => by
  simp only at e
  subst e
  exact W.guard h1 (.mk h2))
theorem w_rg2 (h : W (fs r m) fun p => ∃ i j, p.1 = [.int i, .int j] ∧ (-(2 ^ 62) ≤ i ∧ i < 2 ^ 62 ∧ -(2 ^ 62) ≤ j ∧ j < 2 ^ 62) ∧ QL (rangeD i (j - i).toNat, p.2)) : W (eRg2 fs r m) QL := W.bind (W.mono h fun ⟨l, m1⟩ ⟨i, j, e, h1, h2⟩ => by
  simp only at e
  subst e
  exact W.guard h1 (.mk h2))
theorem w_enum (h : W (f r m) fun p => ∃ ds, p.1 = .list ds ∧ QL (enumD ds, p.2)) : W (eEnum f r m) QL := W.bind (W.mono h fun ⟨l, m1⟩ ⟨ds, e, h⟩ => by
  simp only at e
  subst e
  exact .mk h)
theorem w_arN {α : Type} {u : List PyData → Option α} {ds : List PyData} {R : α → Prop} (e : ds.length = n) (h : W (u ds) R) : W (arN n u ds) R := by
  unfold arN
  rw [if_pos e]
  exact h
end
/-! ### statements -/
section
variable {r : Rs} {m : Ms} {Q : Out → Prop} {f g : Ev} {fs : Eas} {c : Et} {s t : Es} {i n : Nat} {hh : Eh} {op : PyData → PyData → Option PyData}
theorem w_sNil (h : Q (.nx r m)) : W (sNil r m) Q := .mk h
/-- behind a statement -/
def Then (t : Es) (Q : Out → Prop) : Out → Prop
  | .nx r1 m1 => W (t r1 m1) Q
  | o => Q o
theorem w_seq (h : W (s r m) (Then t Q)) : W (sSeq s t r m) Q := W.bind (W.mono h fun o h => by
  cases o with
  | nx r1 m1 => exact h
  | _ => exact .mk h)
theorem w_set (h : W (f r m) fun p => Q (.nx (r.set i (.fz p.1)) p.2)) : W (sSet i f r m) Q := W.map h
theorem w_setF (h : W (f r m) fun p => Q (.nx (r.set i (.ow p.2.length)) (p.2 ++ [some p.1]))) : W (sSetF i f r m) Q := W.map h
theorem w_setN {u : List PyData → Option PyData} (h : W (fs r m) fun p => p.1.length = n ∧ W (u p.1) fun cs => Q (.nx (r.set i (.ow p.2.length)) (p.2 ++ [some cs]))) : W (sSetN n i fs u r m) Q := W.bind (W.mono h fun _ h => W.map (w_arN h.1 h.2))
theorem w_new (h : W (fs r m) fun p => p.1.length ≤ sizeLine ∧ Q (.nx (r.set i (.ow p.2.length)) (p.2 ++ [some (.list p.1)]))) : W (sNew i fs r m) Q := W.bind (W.mono h fun _ h => W.guard h.1 (.mk h.2))
theorem w_ret (h : W (f r m) fun p => Q (.rt p.1 p.2)) : W (sRet f r m) Q := W.map h
theorem w_retN (h : Q (.rt .none m)) : W (sRetN r m) Q := .mk h
theorem w_retL (h : W (fs r m) fun p => p.1.length ≤ sizeLine ∧ Q (.rn (.list p.1) p.2)) : W (sRetL fs r m) Q := W.bind (W.mono h fun _ h => W.guard h.1 (.mk h.2))
theorem w_retF (h : W (f r m) fun p => Q (.rn p.1 p.2)) : W (sRetF f r m) Q := W.map h
theorem w_if (h : W (c r m) fun p => (p.1 = true → W (s r p.2) Q) ∧ (p.1 = false → W (t r p.2) Q)) : W (sIf c s t r m) Q := W.bind (W.mono h fun p h => W.ite h.1 fun z => h.2 (by simpa using z))
theorem w_drop (h : W (f r m) fun p => Q (.nx r p.2)) : W (sDrop f r m) Q := W.map h
theorem w_brk (h : Q (.bk r m)) : W (sBrk r m) Q := .mk h
theorem w_cont (h : Q (.ct r m)) : W (sCont r m) Q := .mk h
theorem w_aug {d : PyData} (e : r[i]? = some (.fz d)) (h : W (f r m) fun p => W (op d p.1) fun z => Q (.nx (r.set i (.fz z)) p.2)) : W (sAug i op f r m) Q := by
  unfold sAug
  rw [e]
  exact W.bind (W.of rfl (W.bind (W.mono h fun _ h => W.map h)))
theorem w_put {a : Nat} (e : r[i]? = some (.ow a)) (h : W (f r m) fun p => W (g r p.2) fun q => ∃ ds j, cellAt q.2 a = some (.list ds) ∧ q.1 = .int j ∧ W (ixN ds.length j) fun n => Q (.nx r (q.2.set a (some (.list (ds.set n p.1)))))) : W (sPut i f g r m) Q := by
  unfold sPut
  rw [e]
  refine W.bind (W.of rfl (W.bind (W.mono h fun p h => W.bind (W.mono h fun ⟨d, m1⟩ ⟨ds, j, e1, e2, h⟩ => ?_))))
  simp only at e1 e2
  subst e2
  exact W.bind (W.of e1 (W.map h))
theorem w_app {a : Nat} {d0 : List PyData} (e : r[i]? = some (.ow a)) (e0 : cellAt m a = some (.list d0)) (h : W (f r m) fun p => ∃ ds, cellAt p.2 a = some (.list ds) ∧ ds.length < sizeLine ∧ Q (.nx r (p.2.set a (some (.list (ds ++ [p.1])))))) : W (sApp i f r m) Q := by
  unfold sApp
  rw [e]
  refine W.bind (W.of rfl (W.bind (W.of e0 (W.bind (W.mono h fun p ⟨ds, e1, e2, h⟩ => ?_)))))
  exact W.bind (W.of e1 (W.guard e2 (.mk h)))
theorem w_asg (h : W (f r m) fun p => W (hh p.1 r) fun r' => Q (.nx r' p.2)) : W (sAsg f hh r m) Q := W.bind (W.mono h fun _ h => W.map h)
theorem w_hNm {d : PyData} {R : Rs → Prop} (h : R (r.set i (.fz d))) : W (hNm i d r) R := .mk h
/-- behind a turn -/
def Turn (I : Rs → Ms → Prop) (Q : Out → Prop) : Out → Prop
  | .nx r2 m2 => I r2 m2
  | .ct r2 m2 => I r2 m2
  | .bk r2 m2 => Q (.nx r2 m2)
  | o => Q o
theorem turn_nx {I : Rs → Ms → Prop} : Turn I Q (.nx r m) = I r m := rfl
theorem turn_ct {I : Rs → Ms → Prop} : Turn I Q (.ct r m) = I r m := rfl
theorem turn_bk {I : Rs → Ms → Prop} : Turn I Q (.bk r m) = Q (.nx r m) := rfl
theorem turn_rt {I : Rs → Ms → Prop} {d : PyData} : Turn I Q (.rt d m) = Q (.rt d m) := rfl
theorem turn_rn {I : Rs → Ms → Prop} {d : PyData} : Turn I Q (.rn d m) = Q (.rn d m) := rfl
theorem then_nx : Then t Q (.nx r m) = W (t r m) Q := rfl
theorem then_ct : Then t Q (.ct r m) = Q (.ct r m) := rfl
theorem then_bk : Then t Q (.bk r m) = Q (.bk r m) := rfl
theorem then_rt {d : PyData} : Then t Q (.rt d m) = Q (.rt d m) := rfl
theorem then_rn {d : PyData} : Then t Q (.rn d m) = Q (.rn d m) := rfl
/-- a for that runs to its end: I i r m ahead of the i-th item; else it leaves by a return -/
theorem loop_inv {ds : List PyData} (I : Nat → Rs → Ms → Prop) (step : ∀ (i : Nat) (d : PyData) (r : Rs) (m : Ms), ds[i]? = some d → I i r m → W (hh d r) fun r1 => W (s r1 m) (Turn (I (i + 1)) Q)) (done : ∀ r m, I ds.length r m → Q (.nx r m)) : ∀ (k : Nat) (r : Rs) (m : Ms), k ≤ ds.length → I k r m → W (loopS hh s (ds.drop k) r m) Q := by
  intro k
  induction hk : ds.length - k generalizing k with
  | zero =>
    intro r m hl hI
    have : k = ds.length := by omega
    subst this
    rw [List.drop_length]
    exact .mk (done r m hI)
  | succ n ih =>
    intro r m hl hI
    have hlt : k < ds.length := by omega
    rw [List.drop_eq_getElem_cons hlt]
    unfold loopS
    refine W.bind (W.mono (step k ds[k] r m (List.getElem?_eq_getElem hlt) hI) fun r1 h => W.bind (W.mono h fun o h => ?_))
    cases o with
    | nx r2 m2 => exact ih (k + 1) (by omega) r2 m2 (by omega) h
    | ct r2 m2 => exact ih (k + 1) (by omega) r2 m2 (by omega) h
    | bk r2 m2 => exact .mk h
    | rt d m2 => exact .mk h
    | rn d m2 => exact .mk h
theorem w_for (I : List PyData → Nat → Rs → Ms → Prop) {fi : Eas} (h : W (fi r m) fun p => I p.1 0 r p.2 ∧ (∀ (i : Nat) (d : PyData) (r : Rs) (m : Ms), p.1[i]? = some d → I p.1 i r m → W (hh d r) fun r1 => W (s r1 m) (Turn (I p.1 (i + 1)) Q)) ∧ (∀ r m, I p.1 p.1.length r m → Q (.nx r m))) : W (sFor fi hh s r m) Q := W.bind (W.mono h fun p ⟨h1, h2, h3⟩ => by
  have := loop_inv (hh := hh) (s := s) (Q := Q) (ds := p.1) (I p.1) h2 h3 0 r p.2 (Nat.zero_le _) h1
  rw [List.drop_zero] at this
  exact this)
/-- a while: I n r m, at most n turns left -/
theorem w_while (I : Nat → Rs → Ms → Prop) (hI : ∀ n r m, I n r m → W (c r m) fun b => (b.1 = true → ∃ n', n = n' + 1 ∧ W (s r b.2) (Turn (I n') Q)) ∧ (b.1 = false → Q (.nx r b.2))) : ∀ (k n : Nat) (r : Rs) (m : Ms), n < k → I n r m → W (whileS c s k r m) Q := by
  intro k
  induction k with
  | zero => intro n r m h; omega
  | succ k ih =>
    intro n r m hl h
    unfold whileS
    refine W.bind (W.mono (hI n r m h) fun b ⟨h1, h2⟩ => W.ite (fun z => ?_) fun z => .mk (h2 (by simpa using z)))
    obtain ⟨n', e, h3⟩ := h1 z
    subst e
    refine W.bind (W.mono h3 fun o h => ?_)
    cases o with
    | nx r2 m2 => exact ih n' r2 m2 (by omega) h
    | ct r2 m2 => exact ih n' r2 m2 (by omega) h
    | bk r2 m2 => exact .mk h
    | rt d m2 => exact .mk h
    | rn d m2 => exact .mk h
end
/-! ### whole defs -/
section
variable {s : Es} {n : Nat} {ds : List PyData} {cs : PyData}
def PD (Q : PyData → Prop) : Out → Prop
  | .rt d _ => Q d
  | .nx _ _ => Q .none
  | .rn d _ => Q d
  | _ => False
theorem pd_rt {Q : PyData → Prop} {d : PyData} {m : Ms} : PD Q (.rt d m) = Q d := rfl
theorem pd_nx {Q : PyData → Prop} {r : Rs} {m : Ms} : PD Q (.nx r m) = Q .none := rfl
theorem pd_rn {Q : PyData → Prop} {d : PyData} {m : Ms} : PD Q (.rn d m) = Q d := rfl
theorem w_runD {Q : PyData → Prop} (h : W (s (slots n ds) []) (PD Q)) : W (runD n s ds) Q := by
  unfold runD
  cases e : s (slots n ds) [] with
  | none => rw [e] at h; cases h
  | some o =>
    rw [e] at h
    cases h with
    | mk h =>
    cases o with
    | rt d m => exact .mk h
    | nx r m => exact .mk h
    | rn d m => exact .mk h
    | bk r m => exact h.elim
    | ct r m => exact h.elim
def PN (Q : PyData → Prop) : Out → Prop
  | .rn d _ => Q d
  | _ => False
theorem pn_rn {Q : PyData → Prop} {d : PyData} {m : Ms} : PN Q (.rn d m) = Q d := rfl
theorem w_runN {Q : PyData → Prop} (h : W (s (slots n ds) []) (PN Q)) : W (runN n s ds) Q := by
  unfold runN
  cases e : s (slots n ds) [] with
  | none => rw [e] at h; cases h
  | some o =>
    rw [e] at h
    cases h with
    | mk h =>
    cases o with
    | rn d m => exact .mk h
    | rt d m => exact h.elim
    | nx r m => exact h.elim
    | bk r m => exact h.elim
    | ct r m => exact h.elim
def PR (Q : PyData × PyData → Prop) : Out → Prop
  | .rt d m => W (cellAt m 0) fun c => Q (d, c)
  | .nx _ m => W (cellAt m 0) fun c => Q (.none, c)
  | _ => False
theorem pr_rt {Q : PyData × PyData → Prop} {d : PyData} {m : Ms} : PR Q (.rt d m) = W (cellAt m 0) fun c => Q (d, c) := rfl
theorem pr_nx {Q : PyData × PyData → Prop} {r : Rs} {m : Ms} : PR Q (.nx r m) = W (cellAt m 0) fun c => Q (.none, c) := rfl
theorem cell_0 {c : PyData} {m : Ms} {Q : PyData → Prop} (h : Q c) : W (cellAt (some c :: m) 0) Q := .mk h
theorem w_runR {Q : PyData × PyData → Prop} (h : W (s (.ow 0 :: slots n ds) [some cs]) (PR Q)) : W (runR n s cs ds) Q := by
  unfold runR
  cases e : s (.ow 0 :: slots n ds) [some cs] with
  | none => rw [e] at h; cases h
  | some o =>
    rw [e] at h
    cases h with
    | mk h =>
    cases o with
    | rt d m => exact W.map h
    | nx r m => exact W.map h
    | rn d m => exact h.elim
    | bk r m => exact h.elim
    | ct r m => exact h.elim
end
/-! ### a comprehension: all items by one function, none left out -/
end TL
end
/-! TL15 -/
section
set_option maxHeartbeats 4000000
namespace TL
open PySem L2
section
variable {i j : Int} {a b : Str} {Q : PyData → Prop} {R : Bool → Prop} {d e : PyData} {ds es : List PyData}
theorem w_add_i (h : Q (.int (i + j))) : W (addD (.int i) (.int j)) Q := .mk h
theorem w_add_s (hz : a.length + b.length ≤ sizeLine) (h : Q (.str (a ++ b))) : W (addD (.str a) (.str b)) Q := W.guard hz (.mk h)
theorem w_add_l (hz : ds.length + es.length ≤ sizeLine) (h : Q (.list (ds ++ es))) : W (addD (.list ds) (.list es)) Q := W.guard hz (.mk h)
theorem w_add_t (hz : ds.length + es.length ≤ sizeLine) (h : Q (.tuple (ds ++ es))) : W (addD (.tuple ds) (.tuple es)) Q := W.guard hz (.mk h)
theorem w_sub_i (h : Q (.int (i - j))) : W (subD (.int i) (.int j)) Q := .mk h
theorem w_mul_i (hz : (Builtin.Int.intBits i : Int) + (Builtin.Int.intBits j : Int) ≤ 134217728) (h : Q (.int (i * j))) : W (mulD (.int i) (.int j)) Q := W.guard hz (.mk h)
theorem w_mod_i (hz : 0 < j) (h : Q (.int (i % j))) : W (modD (.int i) (.int j)) Q := W.guard hz (.mk h)
theorem w_fdiv_i (hz : 0 < j ∧ j.natAbs.log2 < 9000) (h : Q (.int (i / j))) : W (fdivD (.int i) (.int j)) Q := W.guard hz (.mk h)
theorem w_pow_i (hz : 0 ≤ j ∧ j ≤ 1000000 ∧ i.natAbs < 2 ^ 64) (h : Q (.int (i ^ j.toNat))) : W (powD (.int i) (.int j)) Q := W.guard hz (.mk h)
theorem w_lt_i (h : Q (.bool (decide (i < j)))) : W (ltD (.int i) (.int j)) Q := .mk h
theorem w_le_i (h : Q (.bool (decide (i ≤ j)))) : W (leD (.int i) (.int j)) Q := .mk h
theorem w_gt_i (h : Q (.bool (decide (j < i)))) : W (gtD (.int i) (.int j)) Q := .mk h
theorem w_ge_i (h : Q (.bool (decide (j ≤ i)))) : W (geD (.int i) (.int j)) Q := .mk h
theorem w_bl {c : Bool} (h : R c) : W (blD (.bool c)) R := .mk h
theorem w_tru_b {c : Bool} (h : R c) : W (truD (.bool c)) R := .mk h
theorem w_notD {c : Bool} (h : Q (.bool (!c))) : W (notD (.bool c)) Q := .mk h
theorem w_neg_i (h : Q (.int (-i))) : W (negD (.int i)) Q := .mk h
theorem w_eqD (h1 : SeqAt.shaped d = true) (h2 : SeqAt.shaped e = true) (h : Q (.bool (PyData.eqv d e))) : W (eqD d e) Q := W.guard ⟨h1, h2⟩ (.mk h)
theorem w_neD (h1 : SeqAt.shaped d = true) (h2 : SeqAt.shaped e = true) (h : Q (.bool (!PyData.eqv d e))) : W (neD d e) Q := W.guard ⟨h1, h2⟩ (.mk h)
theorem w_len_l (h : Q (.int ds.length)) : W (lenD [.list ds]) Q := .mk h
theorem w_len_t (h : Q (.int ds.length)) : W (lenD [.tuple ds]) Q := .mk h
theorem w_abs (h : Q (.int (if i < 0 then -i else i))) : W (absD [.int i]) Q := .mk h
theorem w_ix_l (h : W (atI ds i) Q) : W (ixD (.list ds) (.int i)) Q := h
theorem w_ix_t (h : W (atI ds i) Q) : W (ixD (.tuple ds) (.int i)) Q := h
theorem w_ix_s (hz : a.length ≤ sizeLine) (h : W (atI a.cps.toList i) fun c => Q (.str ⟨#[c]⟩)) : W (ixD (.str a) (.int i)) Q := W.guard hz (W.map h)
theorem w_isn (h : Q (.bool (match d with | .none => true | _ => false))) : W (isD d .none) Q := by
  unfold isD
  exact .mk h
theorem w_its_l {P : List PyData → Prop} (h : P ds) : W (itemsD (.list ds)) P := .mk h
theorem w_its_t {P : List PyData → Prop} (h : P ds) : W (itemsD (.tuple ds)) P := .mk h
theorem w_its_s {P : List PyData → Prop} (h : P (signs a)) : W (itemsD (.str a)) P := .mk h
theorem w_at {α : Type} {x : α} {l : List α} {P : α → Prop} (e : atI l i = some x) (h : P x) : W (atI l i) P := W.of e h
theorem atI_0 {α : Type} (x : α) (xs : List α) : atI (x :: xs) 0 = some x := by
  unfold atI ixN
  have h : (0 : Int) < ((x :: xs).length : Int) := by simp only [List.length_cons]; omega
  rw [if_pos (Int.le_refl 0), if_pos h]
  rfl
theorem atI_1 {α : Type} (x y : α) (xs : List α) : atI (x :: y :: xs) 1 = some y := by
  unfold atI ixN
  have h : (1 : Int) < ((x :: y :: xs).length : Int) := by simp only [List.length_cons]; omega
  rw [if_pos (by decide), if_pos h]
  rfl
theorem atI_in {α : Type} {l : List α} (h0 : 0 ≤ i) (h1 : i < l.length) : atI l i = some (l[i.toNat]'(by omega)) := by
  unfold atI ixN
  rw [if_pos h0, if_pos h1]
  exact List.getElem?_eq_getElem (by omega)
theorem ixN_0 (n : Nat) : ixN (n + 1) 0 = some 0 := by
  unfold ixN
  rw [if_pos (Int.le_refl 0), if_pos (by omega)]
  rfl
theorem ixN_1 (n : Nat) : ixN (n + 2) 1 = some 1 := by
  unfold ixN
  rw [if_pos (by decide), if_pos (by omega)]
  rfl
end
/-- bits -/
theorem bits64 {i : Int} (h0 : -18446744073709551616 < i) (h1 : i < 18446744073709551616) : Builtin.Int.intBits i ≤ 64 := PyProof.Rows.intBits_le (by omega)
theorem mul_fit {i j : Int} (h : Builtin.Int.intBits i ≤ 60000000) (h' : Builtin.Int.intBits j ≤ 60000000) : (Builtin.Int.intBits i : Int) + (Builtin.Int.intBits j : Int) ≤ 134217728 := by omega
theorem log_fit {j : Int} (h0 : 0 < j) (h1 : j < 18446744073709551616) : 0 < j ∧ j.natAbs.log2 < 9000 := by
  refine ⟨h0, ?_⟩
  have h : j.natAbs < 2 ^ 64 := by omega
  have : j.natAbs.log2 < 64 := (Nat.log2_lt (by omega)).mpr h
  omega
/-! ### the tactic -/
theorem bools_map {α : Type} (g : α → Bool) : ∀ l : List α, bools (l.map fun x => .bool (g x)) = some (l.map g)
  | [] => rfl
  | x :: l => by rw [List.map_cons, bools, bools_map g l]; rfl
theorem allD_map {α : Type} (g : α → Bool) (l : List α) : allD [.list (l.map fun x => .bool (g x))] = some (.bool ((l.map g).all id)) := by
  unfold allD
  simp only [bools_map, Option.map_some]
/-! ### shaped data -/
theorem lay_all : ∀ {ds : List PyData}, (∀ d ∈ ds, d.canLay0 = true) → PyData.canLayAll0 ds = true
  | [], _ => by simp [PyData.canLayAll0]
  | d :: ds, h => by
    have h1 := lay_all (ds := ds) fun x hx => h x (List.mem_cons_of_mem _ hx)
    have h2 := h d (List.mem_cons_self)
    simp [PyData.canLayAll0, h1, h2]
theorem depth_all {k : Nat} : ∀ {ds : List PyData}, (∀ d ∈ ds, d.depth ≤ k) → PyData.depthAll ds ≤ k
  | [], _ => by simp [PyData.depthAll]
  | d :: ds, h => by
    have h1 := depth_all (ds := ds) fun x hx => h x (List.mem_cons_of_mem _ hx)
    have h2 := h d (List.mem_cons_self)
    simp only [PyData.depthAll]
    omega
theorem shaped_of {d : PyData} (h1 : d.canLay0 = true) (h2 : d.depth ≤ 64) : SeqAt.shaped d = true := by
  show (d.canLay0 && decide (d.depth ≤ 64)) = true
  rw [h1, decide_eq_true h2]
  rfl
theorem shaped_l {ds : List PyData} {k : Nat} (h : ∀ d ∈ ds, d.canLay0 = true ∧ d.depth ≤ k) (hk : k ≤ 62) : SeqAt.shaped (.list ds) = true := by
  have h1 := depth_all fun d hd => (h d hd).2
  exact shaped_of (by simp only [PyData.canLay0]; exact lay_all fun d hd => (h d hd).1) (by simp only [PyData.depth]; omega)
theorem shaped_t {ds : List PyData} {k : Nat} (h : ∀ d ∈ ds, d.canLay0 = true ∧ d.depth ≤ k) (hk : k ≤ 62) : SeqAt.shaped (.tuple ds) = true := by
  have h1 := depth_all fun d hd => (h d hd).2
  exact shaped_of (by simp only [PyData.canLay0]; exact lay_all fun d hd => (h d hd).1) (by simp only [PyData.depth]; omega)
theorem shaped_i (i : Int) : SeqAt.shaped (.int i) = true := shaped_of (by simp [PyData.canLay0]) (by simp [PyData.depth])
theorem shaped_b (b : Bool) : SeqAt.shaped (.bool b) = true := shaped_of (by simp [PyData.canLay0]) (by simp [PyData.depth])
theorem shaped_s {x : Str} (h : (PyData.str x).canLay0 = true) : SeqAt.shaped (.str x) = true := shaped_of h (by simp [PyData.depth])
end TL
end
open PySem L2 TL
local macro_rules | `(tactic| walk_at "tl1") => `(tactic| first
  | with_reducible refine w_seq ?_ | with_reducible refine w_set ?_ | with_reducible refine w_ret ?_ | with_reducible refine w_sNil ?_ | with_reducible refine w_retL ?_ | with_reducible refine w_retN ?_ | with_reducible refine w_new ?_ | with_reducible refine w_setN ?_ | with_reducible refine w_setF ?_ | with_reducible refine w_retF ?_
  | ((with_reducible refine' w_put ?_ ?_); rotate_left; (exact rfl)) | with_reducible refine w_drop ?_ | with_reducible refine w_asg ?_ | with_reducible refine w_brk ?_ | with_reducible refine w_cont ?_ | ((with_reducible refine' w_aug ?_ ?_); rotate_left; (exact rfl))
  | with_reducible refine w_C ?_ | ((with_reducible refine' w_V ?_ ?_); rotate_left; (exact rfl)) | with_reducible refine w_bin ?_ | with_reducible refine w_map ?_ | with_reducible refine w_nil ?_ | with_reducible refine w_cons ?_ | with_reducible refine w_tup ?_ | with_reducible refine w_lst ?_ | with_reducible refine w_T ?_ | with_reducible refine w_not ?_ | with_reducible refine w_and ?_ | with_reducible refine w_or ?_
  | with_reducible refine w_eIf ?_ | with_reducible refine w_andV ?_ | with_reducible refine w_orV ?_ | with_reducible refine w_chain ?_ | ((with_reducible refine' w_ixO ?_ ?_); rotate_left; (exact rfl)) | ((with_reducible refine' w_callR ?_ ?_); rotate_left; (exact rfl)) | with_reducible refine w_sm ?_ | with_reducible refine w_no ?_ | with_reducible refine w_pt ?_ | with_reducible refine w_sl ?_ | with_reducible refine w_its ?_ | with_reducible refine w_rg1 ?_ | with_reducible refine w_rg2 ?_ | with_reducible refine w_enum ?_
  | with_reducible refine w_add_i ?_ | with_reducible refine w_sub_i ?_ | with_reducible refine w_lt_i ?_ | with_reducible refine w_le_i ?_ | with_reducible refine w_gt_i ?_ | with_reducible refine w_ge_i ?_ | with_reducible refine w_bl ?_ | with_reducible refine w_tru_b ?_ | with_reducible refine w_notD ?_ | with_reducible refine w_neg_i ?_ | with_reducible refine w_len_l ?_ | with_reducible refine w_len_t ?_ | with_reducible refine w_abs ?_
  | with_reducible refine w_ix_l ?_ | with_reducible refine w_ix_t ?_ | with_reducible refine w_its_l ?_ | with_reducible refine w_its_t ?_ | with_reducible refine w_its_s ?_ | with_reducible refine w_hNm ?_ | with_reducible refine w_isn ?_
  | with_reducible refine w_at (atI_0 _ _) ?_ | with_reducible refine w_at (atI_1 _ _ _) ?_ | with_reducible refine W.of (ixN_0 _) ?_ | with_reducible refine W.of (ixN_1 _) ?_
  | with_reducible refine cell_0 ?_ | with_reducible refine w_runD ?_ | with_reducible refine w_runR ?_ | with_reducible refine w_runN ?_ | ((with_reducible refine' w_arN ?_ ?_); (exact rfl))
  | with_reducible refine w_mod_i (by first | assumption | omega) ?_ | with_reducible refine w_fdiv_i (by first | assumption | exact ⟨by assumption, by assumption⟩ | exact log_fit (by omega) (by omega)) ?_
  | with_reducible refine w_mul_i (by first | assumption | exact mul_fit (Nat.le_trans (bits64 (by omega) (by omega)) (by decide)) (Nat.le_trans (bits64 (by omega) (by omega)) (by decide))) ?_)
local macro_rules | `(tactic| walk_at "tln") => `(tactic| simp only [slots, List.map_cons, List.map_nil, List.replicate, List.cons_append, List.nil_append, List.append_nil, List.set_cons_zero, List.set_cons_succ, List.length_cons, List.length_nil, Nat.zero_add, Nat.reduceAdd, then_nx, then_ct, then_bk, then_rt, then_rn, turn_nx, turn_ct, turn_bk, turn_rt, turn_rn, pd_rt, pd_nx, pd_rn, pn_rn, pr_rt, pr_nx])
local macro_rules | `(tactic| walk_at "tlx") => `(tactic| (refine Exists.intro _ (Exists.intro _ (And.intro (Eq.refl _) (And.intro (Eq.refl _) ?_)))))
local macro_rules | `(tactic| walk_at "tlev") => `(tactic| repeat (first | walk_at "tl1" | walk_at "tln" | (with_reducible walk_at "tlx") | dsimp only))
/-! TL16 -/
section
set_option maxHeartbeats 4000000
namespace TL
open PySem L2
variable [TL.Lnk]
/-! ## a new list by + -/
def catL : PyData → PyData → Option PyData
  | .list a, .list b => if a.length + b.length ≤ sizeLine then some (.list (a ++ b)) else none
  | _, _ => none
section
variable {X : Cx} {U : Hp} {pos : Pos} {a b : Expr} {f g : Ev}
theorem qn_cat (ha : PE X a (tE X.K U f)) (hb : PE X b (tE X.K U g)) : PE X (.BinOp a .Add b pos) (tN X.K U (eBin catL f g)) := pe_weak (pe_op op_catR ha hb) fun σ H Q ⟨A, F, r, m, d, m', G, e, k⟩ => by
  obtain ⟨d1, m1, d2, e1, e2, e3⟩ := bin_some e
  refine ⟨A, F, r, m, d1, m1, G, e1, fun F1 H1 x s1 G1 h1 => ⟨A, F1, r, m1, d2, m', G1, e2, fun F2 H2 y s2 G2 h2 => ?_⟩⟩
  unfold catL at e3
  split at e3
  · split at e3
    · rename_i hz
      cases e3
      cases h1 with
      | vl sa ra => cases h2 with
        | vl sb rb =>
          have l1 := rpa_len ra
          have l2 := rpa_len rb
          exact ⟨_, _, _, _, rfl, rfl, sqL_mono (s2.trans G2.sub) sa, sqL_mono G2.sub sb, by omega, fun p np => k F2 _ p _ (s1.trans s2) (G2.laidO np) (G2.nope np).1 (G2.nope np).2 (G2.notin np) upd_same ⟨_, rfl, rpa_app (Rpam s2 ra) rb⟩⟩
    · cases e3
  · cases e3
end
end TL
end
/-! TL17 -/
section
set_option maxHeartbeats 4000000
namespace TL
open PySem PySem.Spec PyProof.Rows L2
/-! ## promises that hold where nothing is being shown (so that repr may be asked) -/
structure FnG (P : Program) (w : World) (K : PySem.W.Frag) (mg : Str → Option Value) (base : Heap) (k : Nat) (f : Addr) (fd : FuncData) (ps : List Str) (sp : Sp) : Prop where
  len : ∀ vs H Q E, sp vs H Q E → vs.length = ps.length
  run : ∀ (A : Around) (outer : List Env) (s : Shared) (H : Hp) (args : Args) (us : List Value) (vs : List V) (Q : VK) (E : XK), Room k A → A.guards = some [] → Env0 P w K mg base A outer s H →
    BindsTo s fd args (ps.zip us) → Vals vs us → sp vs H Q E → codeAny (model P w) A (.call (.ref f) args) (CR CX0 outer P w H s Q E) s
theorem FnG.of {P : Program} {w : World} {K : PySem.W.Frag} {mg : Str → Option Value} {base : Heap} {k : Nat} {f : Addr} {fd : FuncData} {ps : List Str} {sp : Sp} (F : FnOk P w K mg base CX0 k f fd ps sp) : FnG P w K mg base k f fd ps sp :=
  ⟨F.len, fun A outer s H args us vs Q E room _ => F.run A outer s H args us vs Q E room⟩
/-! ### such a promise from a body -/
section
variable {P : Program} {w : World} {K : PySem.W.Frag} {mg : Str → Option Value} {base : Heap} {x qual : Str} {st : Stmt} {f : Addr} {fd : FuncData} {N ps : List Str} {k : Nat} {sp : Sp}
theorem fn_ofG (F : Fun K x qual st f fd) (S : FnScope N ps (defScope st)) (len : ∀ vs H Q E, sp vs H Q E → vs.length = ps.length)
    (body : ∀ (cdv : Value) (A : Around) (outer : List Env) (s : Shared) (H : Hp) (vs : List V) (Q : VK) (E : XK), Room k (A.deeper (envOfC qual (defScope st) s.heap.objs.size f cdv)) → A.guards = some [] → sp vs H Q E →
      ∃ t, PSs (cxOf CX0 P w K mg base N qual (defScope st) f cdv A outer s H E) (defBody st) t ∧ t { nx := fun _ H' => Q .non H', rt := Q } (start N vs) H) : FnG P w K mg base (k + 1) f fd ps sp := by
  obtain ⟨oc, od, kV, doc, pm, an, cdv, ct, osl, rfl, stands, coded⟩ := F.ex
  refine ⟨len, fun A outer s H args us vs Q E room gd env bind rel pr => ?_⟩
  have many := len _ _ _ _ pr
  have laid : K.In s.heap := env.mod.kin.keeps fun b o z => (env.bs b o z).1
  have free : s.heap.NoLimit := env.mod.nolimit.keeps fun b o z => (env.bs b o z).1
  have kinds : ∀ y ∈ ps.zip us, (defScope st).names.lookup y.1 = some .local ∨ ((defScope st).names.lookup y.1 = some .cell ∧ ((cellsFrom (s.heap.objs.size + 1) (defScope st).names []).lookup y.1).isSome = true) := by
    rintro ⟨n, v⟩ hy
    cases S.par n (List.of_mem_zip hy).1 with
    | inl q => exact .inl q
    | inr q => exact .inr ⟨q, PySem.W.cellsFrom_some _ _ _ (.inl q)⟩
  apply codeAny_call_function room.depth (laid _ _ stands) rfl S.co S.gen rfl (PySem.W.codeRec_of laid coded)
  apply bind
  apply wpAny_newFunctionEnv_cells S.kind kinds
  rintro nv rfl s1 call
  refine ⟨free.keeps call.toInCall.keep, codeAny_func ?_⟩
  obtain ⟨t, does, meant⟩ := body cdv A outer s H vs Q E (room.deeper _) gd pr
  have start0 : Inv (cxOf CX0 P w K mg base N qual (defScope st) f cdv A outer s H E) [] (start N vs) H s1 := inv_start S room.hd env many rel call
  refine wpAny_mono (does.run [] s1 (start N vs) H _ start0 meant) (fun flow s' ended => ?_) fun e s' ended => ended
  have told : ∀ {σ' : L2.St} {H' : Hp} {v : V} {u : Value}, Inv (cxOf CX0 P w K mg base N qual (defScope st) f cdv A outer s H E) [] σ' H' s' → RelV v u → Q v H' → CE outer P w H s Q u s' :=
    fun {σ' H' v u} J rv q => ⟨v, H', J.os, J.bare, J.base, J.hok, rv, q⟩
  cases flow with
  | ret u => obtain ⟨v, σ', H', J, rv, q⟩ := ended; exact told J rv q
  | next => obtain ⟨σ', H', J, q⟩ := ended; exact told (v := V.non) (u := Value.none) J rfl q
  | brk => obtain ⟨_, _, _, q⟩ := ended; exact q.elim
  | cont => obtain ⟨_, _, _, q⟩ := ended; exact q.elim
end
/-! ### a call by such a promise -/
section
variable {X : Cx} {U : Hp} {f : Addr} {fd : FuncData} {ps : List Str} {k : Nat} {sp : Sp} {x : Str} {p pos : Pos} {e : Expr} {es : List Expr} {t : TA}
theorem pe_callG (F : FnG X.prog X.w X.K X.mg X.base k f fd ps sp) (room : Room k X.A) (gd : X.A.guards = some []) (hg : Gl X x) (hm : X.mg x = some (.ref f)) (kp : PySem.W.keepIn X.K (.ref f) = true) (hb : Binds X.K fd ps []) (ha : PA X (e :: es) t)
    (hdb : (x == ("__debug__" : Str)) = false := by decide) (he : starEach (e :: es) X.env = (false, eval e X.env) :: starEach es X.env := by rfl) (hpl : (backTo pos (starEach es X.env)).any (·.1) = false := by rfl) :
    PE X (.Call (.Name x p) (e :: es) [] pos) (tCall sp [] E0 t) := by
  refine ⟨fun pins s σ H Q I h => ?_⟩
  apply wpAny_Call_Name_kw (ld_glob I hg hm ?_ hdb)
  apply PySem.W.callWith_K (h₀ := X.base) I.ok.mod.kin kp (thn (ha.run pos pins s σ H _ I h) fun us s1 ⟨vs, H1, I1, r, q⟩ => ⟨I1.kIn, ?_⟩) he hpl
  have q' : sp vs H1 Q E0 := by
    have z : sp (vs ++ []) H1 Q E0 := q
    rw [List.append_nil] at z
    exact z
  have hl : us.length = ps.length := by
    rw [← r.length]
    exact F.len _ _ _ _ q'
  apply wpAny_call
  have both := F.run X.A X.stack s1 H1 ⟨us, []⟩ us vs Q E0 room gd I1.env0 (by have := hb s1 us I1.kIn (by rw [List.append_nil]; exact hl); rw [List.append_nil] at this; exact this) r q'
  refine codeAny_mono both fun res s' done => ?_
  cases res with
  | error err => exact pass0 pins σ H1 s1 err s' I1 done
  | ok flow =>
    cases flow with
    | ret u => exact I1.after done
    | next => exact done.elim
    | brk => exact done.elim
    | cont => exact done.elim
end
end TL
end
/-! TL18 -/
section
set_option maxHeartbeats 4000000
namespace TL
open PySem PySem.Spec PyProof.Rows L2
section
variable {P : Program} {w : World} {K : PySem.W.Frag} {mg mb : Str → Option Value} {k : Nat} {fa a : Addr} {fd : FuncData} {x : Str} {sp : Sp} {s₁ : Shared} {vs : List Value} {ns : List Int}
/-- the law called, its list told as a heap H in which nothing else is held -/
theorem law_G1 (laid : K.In s₁.heap) (names : s₁.heap.Ns mainGlobals mg) (blt : s₁.heap.Ns builtinsNs mb) (boot : ∀ x : Str, x ≠ "__name__" → mb x = bootBuiltins x) (free : s₁.heap.NoLimit) (gens : s₁.gens = #[])
    (script : s₁.heap.get? a = some { cls := .type "list", data := .seq vs.toArray }) (room : Room k callerA) (F : ∀ base : Heap, K.In base → base.Ns mainGlobals mg → FnG P w K mg base k fa fd [x] sp) (bind : ∀ (s : Shared) (u : Value), BindsTo s fd ⟨[u], []⟩ [(x, u)])
    (H : Hp) (only : Only H) (q : sp [.ref a] H (fun v _ => v = .bl true) E0) (ok : HOk P w H s₁.heap) (alone : ∀ b, H b ≠ none → b = a) (notK : H a ≠ none → K.lookup a = none) :
    codeAny (model P w) callerA (.call (.ref fa) ⟨[.ref a], []⟩) (fun r s' => r = .ok (.ret (.bool true)) ∧ OldK s₁.heap s'.heap ∧ s'.os = s₁.os ∧ AllBare s'.gens) s₁ := by
  have isA : ∀ {b : Addr} {u : HO}, H b = some u → b = a := fun {b u} z => alone b (by rw [z]; simp)
  have unheld : ∀ {b : Addr} {o : Obj} {es : Array DictEntry} {ep : Nat}, s₁.heap.get? b = some o → o.data = .dict es ep → H b = none := fun {b o es ep} z d => by
    cases hb : H b with
    | none => rfl
    | some u =>
      rw [isA hb, script] at z
      cases z
      cases (show Data.seq vs.toArray 0 = Data.dict es ep from d)
  have nsIn : ∀ {b : Addr} {m : Str → Option Value}, s₁.heap.Ns b m → (hidT s₁.heap H).Ns b m := fun {b m} ⟨o, es, ep, z, d, r⟩ => ⟨o, es, ep, hidT_get z (unheld z d), d, r⟩
  have kIn : K.In (hidT s₁.heap H) := fun b o z => hidT_get (laid b o z) (by
    cases hb : H b with
    | none => rfl
    | some u =>
      have hba := isA hb
      subst hba
      rw [notK (by rw [hb]; simp)] at z
      cases z)
  obtain ⟨mc, l1, l2⟩ := free
  have env : Env0 P w K mg (hidT s₁.heap H) callerA [] s₁ H :=
    ⟨rfl, ⟨kIn, nsIn names, ⟨mb, nsIn blt, boot⟩, mc, nsIn l1, l2⟩, fun b o z => of_hidT z, Nat.le_of_eq (hidT_size _ _), trivial, fun b hb => (by cases hb), ok, .of_eq gens⟩
  have ran := (F _ kIn (nsIn names)).run callerA [] s₁ H ⟨[.ref a], []⟩ [.ref a] [.ref a] _ E0 room rfl env (bind s₁ (.ref a)) (.cons rfl .nil) q
  refine codeAny_mono ran fun r s' done => ?_
  cases r with
  | error e => exact done.elim
  | ok flow =>
    cases flow with
    | next => exact done.elim
    | brk => exact done.elim
    | cont => exact done.elim
    | ret u =>
      obtain ⟨v, H', os, bare, un, ok', rv, hv⟩ := done
      have hv2 : v = .bl true := hv
      subst hv2
      obtain rfl : u = Value.bool true := rv
      refine ⟨rfl, OldK.of_keep fun b o z => ?_, os, bare⟩
      cases hb : H b with
      | none => exact un.keep b o z hb (fun y => by cases y) (by simp)
      | some u =>
        rcases only b with y | ⟨ob, xs, y⟩
        · rw [hb] at y; cases y
        · obtain ⟨z1, _⟩ := ok b _ y
          obtain ⟨z2, _⟩ := ok' b _ (un.frzs b ob _ y)
          rw [z] at z1
          cases z1
          exact z2
theorem law_G (laid : K.In s₁.heap) (names : s₁.heap.Ns mainGlobals mg) (blt : s₁.heap.Ns builtinsNs mb) (boot : ∀ x : Str, x ≠ "__name__" → mb x = bootBuiltins x) (free : s₁.heap.NoLimit) (gens : s₁.gens = #[])
    (script : s₁.heap.get? a = some { cls := .type "list", data := .seq vs.toArray }) (allI : IntsAre vs ns) (few : ns.length ≤ sizeLine) (room : Room k callerA) (F : ∀ base : Heap, K.In base → base.Ns mainGlobals mg → FnG P w K mg base k fa fd [x] sp)
    (bind : ∀ (s : Shared) (u : Value), BindsTo s fd ⟨[u], []⟩ [(x, u)]) (q : ∀ H : Hp, Only H → SqL K H a (ns.map V.int) → sp [.ref a] H (fun v _ => v = .bl true) E0) :
    codeAny (model P w) callerA (.call (.ref fa) ⟨[.ref a], []⟩) (fun r s' => r = .ok (.ret (.bool true)) ∧ OldK s₁.heap s'.heap ∧ s'.os = s₁.os ∧ AllBare s'.gens) s₁ := by
  have rel := vals_ints allI
  have many : vs.length ≤ sizeLine := by rw [allI.length]; exact few
  cases own : K.lookup a with
  | some o =>
    have z := laid a o own
    rw [script] at z
    cases z
    have only : Only (fun _ => none) := fun _ => .inl rfl
    exact law_G1 laid names blt boot free gens script room F bind _ only (q _ only (.inr ⟨_, vs.toArray, _, own, rfl, rfl, rfl, by rw [List.size_toArray]; exact many, by simpa using rel⟩))
      (fun b u z => nomatch (show (none : Option HO) = some u from z)) (fun b z => absurd rfl z) fun z => absurd rfl z
  | none =>
    have at_ : ∀ b, b ≠ a → upd (fun _ => none) a (.frz { cls := .type "list", data := .seq vs.toArray } (.lst (ns.map V.int))) b = none := fun b hb => upd_ne hb
    have only : Only (upd (fun _ => none) a (.frz { cls := .type "list", data := .seq vs.toArray } (.lst (ns.map V.int)))) := fun b => by
      by_cases hb : b = a
      · subst hb; exact .inr ⟨_, _, upd_same⟩
      · exact .inl (at_ b hb)
    refine law_G1 laid names blt boot free gens script room F bind _ only (q _ only (.inl (.inr ⟨_, upd_same⟩))) (fun b u z => ?_) (fun b z => ?_) fun _ => own
    · by_cases hb : b = a
      · subst hb
        rw [upd_same] at z
        cases z
        exact ⟨script, by rw [List.length_map]; exact few, vs, _, rel, script⟩
      · rw [at_ b hb] at z; cases z
    · by_cases hb : b = a
      · exact hb
      · exact absurd (at_ b hb) z
end
/-- a law of one list of ints whose def may ask repr: what is left is plain Lean -/
theorem walk_treeG {l : PySem.W.OpenLaw} {n k : Nat} {q : Program} {loose : List Str} {XP : (Str → Option Value) → Heap → Prop} {YP : World → Heap → Prop} {d : DefRec} {x : Str} {g : List PyData → Option PyData}
    (hn : l.most = some n) (hn2 : n ≤ sizeLine) (hdf : d.params.defaults = []) (hr : Room k callerA)
    (F : ∀ (w : World) (mg : Str → Option Value) (fa : Addr) (h : Heap), YP w h → h.Ns mainGlobals mg → mg d.name = some (.ref fa) →
      ∃ (K : PySem.W.Frag) (fd : FuncData), K.In h ∧ (∀ (s : Shared) (u : Value), BindsTo s fd ⟨[u], []⟩ [(x, u)]) ∧
        ∀ base : Heap, K.In base → base.Ns mainGlobals mg → FnG l.prog w K mg base k fa fd [x] (spD K 1 g))
    (hg : ∀ ns : List Int, ns.length ≤ n → (∀ z ∈ ns, Builtin.Int.intBits z ≤ 1048576) → g [.list (ns.map .int)] = some (.bool true)) :
    PySem.W.WalkO q loose XP YP l.row.toRowW d [] (fun f vs => PySem.call f vs) := by
  refine Att.attach_callB hn hdf fun w s₀ s₁ mg mb fa o pm cd doc a vs ns G Y ho hd hcd hmg hobj hints hlen hbits hgs => ?_
  obtain ⟨K, fd, KX, hb, hF⟩ := F w mg fa _ Y G.T.g hmg
  refine law_G KX G.T.g G.T.b G.T.builtins G.T.nolimit hgs hobj hints (Nat.le_trans hlen hn2) hr hF hb fun H hO hS => ?_
  refine ⟨H, [.list (ns.map .int)], .bool true, Same.refl H, rfl, .cons (.vl hS (rpa_ints ns)) .nil, hg ns hlen hbits, fun F' H' v _ _ _ hv => ?_⟩
  cases hv
  rfl
end TL
end
/-! TL19 -/
section
set_option maxHeartbeats 4000000
namespace TL
open PySem PySem.Spec PyProof.Rows L2
section
variable {P : Program} {w : World} {K : PySem.W.Frag} {mg : Str → Option Value} {base : Heap} {x qual : Str} {st : Stmt} {f : Addr} {fd : FuncData} {N ps : List Str} {k : Nat} {s : Es}
theorem fn_DG (F : Fun K x qual st f fd) (S : FnScope N ps (defScope st)) (hpl : ps.length ≤ N.length)
    (hb : ∀ (cdv : Value) (A : Around) (outer : List Env) (s0 : Shared) (H : Hp) (E : XK) (U : Hp), Room k (A.deeper (PyProof.Rows.envOfC qual (defScope st) s0.heap.objs.size f cdv)) → A.guards = some [] →
      PSs (cxOf CX0 P w K mg base N qual (defScope st) f cdv A outer s0 H E).nox (defBody st) (tS K U 0 s)) : FnG P w K mg base (k + 1) f fd ps (spD K ps.length (runD (N.length - ps.length) s)) := by
  refine fn_ofG F S (fun vs H Q E h => ?_) fun cdv A outer s0 H vs Q E hr gd h => ?_
  · obtain ⟨_, _, _, _, hl, _⟩ := h
    exact hl
  · obtain ⟨U, q⟩ := go_D hpl h
    exact ⟨_, (hb cdv A outer s0 H E U hr gd).nox, q⟩
theorem fn_NG (F : Fun K x qual st f fd) (S : FnScope N ps (defScope st)) (hpl : ps.length ≤ N.length)
    (hb : ∀ (cdv : Value) (A : Around) (outer : List Env) (s0 : Shared) (H : Hp) (E : XK) (U : Hp), Room k (A.deeper (PyProof.Rows.envOfC qual (defScope st) s0.heap.objs.size f cdv)) → A.guards = some [] →
      PSs (cxOf CX0 P w K mg base N qual (defScope st) f cdv A outer s0 H E).nox (defBody st) (tS K U 0 s)) : FnG P w K mg base (k + 1) f fd ps (spN K ps.length (runN (N.length - ps.length) s)) := by
  refine fn_ofG F S (fun vs H Q E h => ?_) fun cdv A outer s0 H vs Q E hr gd h => ?_
  · obtain ⟨_, _, _, _, hl, _⟩ := h
    exact hl
  · obtain ⟨U, q⟩ := go_N hpl h
    exact ⟨_, (hb cdv A outer s0 H E U hr gd).nox, q⟩
theorem fn_RG {p0 : Str} (F : Fun K x qual st f fd) (S : FnScope N (p0 :: ps) (defScope st)) (hpl : ps.length + 1 ≤ N.length)
    (hb : ∀ (cdv : Value) (A : Around) (outer : List Env) (s0 : Shared) (H : Hp) (E : XK) (U : Hp), Room k (A.deeper (PyProof.Rows.envOfC qual (defScope st) s0.heap.objs.size f cdv)) → A.guards = some [] →
      PSs (cxOf CX0 P w K mg base N qual (defScope st) f cdv A outer s0 H E).nox (defBody st) (tS K U 1 s)) : FnG P w K mg base (k + 1) f fd (p0 :: ps) (spR K ps.length (runR (N.length - (ps.length + 1)) s)) := by
  refine fn_ofG F S (fun vs H Q E h => ?_) fun cdv A outer s0 H vs Q E hr gd h => ?_
  · obtain ⟨_, _, _, ws, _, _, _, _, _, rfl, hl, _⟩ := h
    exact congrArg (· + 1) hl
  · obtain ⟨U, q⟩ := go_R hpl h
    exact ⟨_, (hb cdv A outer s0 H E U hr gd).nox, q⟩
end
structure CalG (P : Program) (w : World) (K : PySem.W.Frag) (mg : Str → Option Value) (base : Heap) (x : Str) (k : Nat) (ps : List Str) (sp : Sp) : Prop where
  ex : ∃ (f : Addr) (fd : FuncData), FnG P w K mg base k f fd ps sp ∧ mg x = some (.ref f) ∧ PySem.W.keepIn K (.ref f) = true ∧ Binds K fd ps []
section
variable [TL.Lnk] {X : Cx} {U : Hp} {x : Str} {p pos : Pos} {e : Expr} {es : List Expr} {f : Eas} {j k n : Nat} {ps : List Str}
/-- a def called that is pure on trees -/
theorem qc_callG {g : List PyData → Option PyData} (C : CalG X.prog X.w X.K X.mg X.base x k ps (spD X.K n g)) (hr : Room j X.A) (gd : X.A.guards = some []) (hjk : k ≤ j) (ha : PA X (e :: es) (tAs X.K U f)) (hg : Gl X x := by rfl) (hdb : (x == ("__debug__" : Str)) = false := by decide)
    (he : starEach (e :: es) X.env = (false, eval e X.env) :: starEach es X.env := by rfl) (hpl : (backTo pos (starEach es X.env)).any (·.1) = false := by rfl) :
    PE X (.Call (.Name x p) (e :: es) [] pos) (tE X.K U (eMap f (arN n g))) := by
  obtain ⟨fa, fd, Fn, h2, h3, h4⟩ := C.ex
  refine pe_weak (pe_callG Fn (hr.mono hjk) gd hg h2 h3 h4 ha hdb he hpl) fun σ H Q ⟨A, F, r, m, d, m', G, e, k⟩ => ?_
  obtain ⟨ds, e1, e2⟩ := map_some e
  refine ⟨A, F, r, m, ds, m', G, e1, fun F1 H1 vs s1 G1 h1 => ?_⟩
  show spD X.K n g (vs ++ []) H1 Q E0
  rw [List.append_nil]
  obtain ⟨l2, e3⟩ := arN_some e2
  exact ⟨F1, ds, d, G1.sub, (rpa_len h1).trans l2, h1, e3, fun F2 H2 v s2 s3 kk h2 => k F2 H2 v (s1.trans s2) (G1.past s2 s3 kk) h2⟩
theorem qc_callRG {g : PyData → List PyData → Option (PyData × PyData)} (i : Nat) {y : Str} {p1 : Pos} (C : CalG X.prog X.w X.K X.mg X.base x k ps (spR X.K n g)) (hr : Room j X.A) (gd : X.A.guards = some []) (hjk : k ≤ j) (hv : PE X (.Name y p1) (tVar i)) (ha : PA X es (tAs X.K U f)) (hg : Gl X x := by rfl)
    (hdb : (x == ("__debug__" : Str)) = false := by decide) (he : starEach (.Name y p1 :: es) X.env = (false, eval (.Name y p1) X.env) :: starEach es X.env := by rfl) (hpl : (backTo pos (starEach es X.env)).any (·.1) = false := by rfl) :
    PE X (.Call (.Name x p) (.Name y p1 :: es) [] pos) (tE X.K U (eCallR n i g f)) := by
  obtain ⟨fa, fd, Fn, h2, h3, h4⟩ := C.ex
  refine pe_weak (pe_callG Fn (hr.mono hjk) gd hg h2 h3 h4 (pa_cons hv ha he) hdb he hpl) fun σ H Q ⟨A, F, r, m, d, m', G, e, k⟩ => ?_
  unfold eCallR at e
  split at e
  · rename_i j hj
    obtain ⟨a, hA, hσ⟩ := G.ow i j hj
    cases e1 : f r m with
    | none => rw [e1] at e; cases e
    | some z =>
      obtain ⟨ds, m1⟩ := z
      rw [e1] at e
      simp only [Option.bind_some] at e
      cases e2 : cellAt m1 j with
      | none => rw [e2] at e; cases e
      | some cs =>
        rw [e2] at e
        simp only [Option.bind_some] at e
        cases e3 : arN n (g cs) ds with
        | none => rw [e3] at e; cases e
        | some q =>
          obtain ⟨d2, cs'⟩ := q
          rw [e3] at e
          cases e
          refine ⟨_, hσ, A, F, r, m, ds, m1, G, e1, fun F1 H1 vs s1 G1 h1 => ?_⟩
          show spR X.K n g ((V.ref a :: vs) ++ []) H1 Q E0
          rw [List.append_nil]
          obtain ⟨l3, e3⟩ := arN_some e3
          obtain ⟨c1, c2, us, c3, c4⟩ := G1.cl j a cs hA e2
          exact ⟨F1, a, us, vs, cs, ds, _, cs', G1.sub, rfl, (rpa_len h1).trans l3, c1, c3, c4, h1, e3, fun F2 H2 v us' s2 s3 kk f2 h2 r2 d2 => k F2 H2 v (s1.trans s2) (G1.pastR hA e2 s2 s3 kk f2 h2 r2) d2⟩
  · cases e
/-- a def called that hands back a new object -/
theorem qn_callG {g : List PyData → Option PyData} (C : CalG X.prog X.w X.K X.mg X.base x k ps (spN X.K n g)) (hr : Room j X.A) (gd : X.A.guards = some []) (hjk : k ≤ j) (ha : PA X (e :: es) (tAs X.K U f)) (hg : Gl X x := by rfl) (hdb : (x == ("__debug__" : Str)) = false := by decide)
    (he : starEach (e :: es) X.env = (false, eval e X.env) :: starEach es X.env := by rfl) (hpl : (backTo pos (starEach es X.env)).any (·.1) = false := by rfl) : PE X (.Call (.Name x p) (e :: es) [] pos) (tN X.K U (eMap f (arN n g))) := by
  obtain ⟨fa, fd, Fn, h2, h3, h4⟩ := C.ex
  refine pe_weak (pe_callG Fn (hr.mono hjk) gd hg h2 h3 h4 ha hdb he hpl) fun σ H Q ⟨A, F, r, m, d, m', G, e, kk⟩ => ?_
  obtain ⟨ds, e1, e2⟩ := map_some e
  refine ⟨A, F, r, m, ds, m', G, e1, fun F1 H1 vs s1 G1 h1 => ?_⟩
  show spN X.K n g (vs ++ []) H1 Q E0
  rw [List.append_nil]
  obtain ⟨l2, e3⟩ := arN_some e2
  refine ⟨F1, ds, d, G1.sub, (rpa_len h1).trans l2, h1, e3, fun F2 H2 a u s2 s3 k3 f2 na h2 r2 => ?_⟩
  have nU : U a = none := by
    cases q : U a with
    | none => rfl
    | some o => rw [(G1.fo a o q).1] at na; cases na
  exact kk F2 H2 a u (s1.trans s2) (G1.past s2 s3 k3) f2 nU (G1.notin na) h2 r2
end
end TL
end
/-! TL20 -/
section
set_option maxHeartbeats 4000000
namespace TL
open PySem PySem.Spec PyProof.Rows L2
variable [TL.Lnk]
/-! ## a def that changes its first argument, handed a new list that nothing else holds -/
/-- U without the object again -/
theorem Good.unhold {K : PySem.W.Frag} {U : Hp} {A : List Addr} {F H : Hp} {σ : L2.St} {r : Rs} {m : Ms} {a : Addr} {o : HO} (G : Good K (upd U a o) A F H σ r m) (hU : U a = none) : Good K U A F H σ r m := by
  have up : ∀ b x, U b = some x → upd U a o b = some x := fun b x e => by
    rw [upd_ne fun z => by rw [z, hU] at e; cases e]
    exact e
  refine ⟨G.sub, fun b x e => G.fo b x (up b x e), G.len, G.fz, G.ow, G.al, fun j b ds e1 e2 => ?_, G.nd, G.he, G.lk⟩
  obtain ⟨h1, h2, h3⟩ := G.cl j b ds e1 e2
  refine ⟨h1, ?_, h3⟩
  cases q : U b with
  | none => rfl
  | some x => rw [up b x q] at h2; cases h2
end TL
end
/-! TL21 -/
section
set_option maxHeartbeats 4000000
namespace TL
open PySem L2
/-! ## the twins reckoned: cells looked at, frozen, handed on -/
section
variable {r : Rs} {m : Ms} {Q : PyData × Ms → Prop} {S : Out → Prop} {f f0 : Ev} {fs : Eas} {i n a : Nat} {ds : List PyData} {d : PyData} {s : Es}
theorem w_lenO (e : r[i]? = some (.ow a)) (e0 : cellAt m a = some (.list ds)) (h : Q (.int ds.length, m)) : W (eLenO i r m) Q := by
  unfold eLenO
  rw [e]
  exact W.bind (W.of rfl (W.bind (W.of e0 (.mk h))))
theorem w_seqO {mk : List PyData → PyData} (e : r[i]? = some (.ow a)) (e0 : cellAt m a = some (.list ds)) (h : Q (mk ds, m)) : W (eSeqO i mk r m) Q := by
  unfold eSeqO
  rw [e]
  exact W.bind (W.of rfl (W.bind (W.of e0 (.mk h))))
theorem w_inO {od : PyData → PyData → Option PyData} (e : r[i]? = some (.ow a)) (h : W (f r m) fun p => ∃ c, cellAt p.2 a = some c ∧ W (od p.1 c) fun d => Q (d, p.2)) : W (eInO i od f r m) Q := by
  unfold eInO
  rw [e]
  exact W.bind (W.of rfl (W.bind (W.mono h fun p ⟨c, e1, h⟩ => W.bind (W.of e1 (W.map h)))))
theorem w_frz (e : r[i]? = some (.ow a)) (e0 : cellAt m a = some d) (h : W (s (frzR a d r) (m.set a none)) S) : W (sFrz i s r m) S := by
  unfold sFrz
  rw [e]
  exact W.bind (W.of rfl (W.bind (W.of e0 h)))
theorem w_retC {n0 : Nat} (e : r[i]? = some (.ow a)) (ha : n0 ≤ a) (e0 : cellAt m a = some d) (h : S (.rn d m)) : W (sRetC n0 i r m) S := by
  unfold sRetC
  rw [e]
  exact W.bind (W.of rfl (W.guard ha (W.map (W.of e0 h))))
theorem w_lcO {own : List Nat} {h : Eh} {t : Et} (e : r[i]? = some (.ow a)) (e0 : cellAt m a = some (.list ds)) (k : ∃ res m', lcLoop h t f (wipeR r own) ds (m.set a none) [] = some (res, m') ∧ Q (.list res, m'.set a (some (.list ds)))) : W (eLcO i own h t f r m) Q := by
  obtain ⟨res, m', e1, h⟩ := k
  unfold eLcO
  rw [e]
  exact W.bind (W.of rfl (W.bind (W.of e0 (W.map (W.of e1 h)))))
theorem w_catL {es : List PyData} {R : PyData → Prop} (hz : ds.length + es.length ≤ sizeLine) (h : R (.list (ds ++ es))) : W (catL (.list ds) (.list es)) R := W.guard hz (.mk h)
theorem w_rg3 {QL : List PyData × Ms → Prop} (h : W (fs r m) fun p => ∃ i j, p.1 = [.int i, .int j, .int (-1)] ∧ (-(2 ^ 62) ≤ i ∧ i < 2 ^ 62 ∧ -(2 ^ 62) ≤ j ∧ j < 2 ^ 62) ∧ QL (rangeC i (-1) (i - j).toNat, p.2)) : W (eRg3 fs r m) QL := W.bind (W.mono h fun ⟨l, m1⟩ ⟨i, j, e, h1, h2⟩ => by
  simp only at e
  subst e
  exact W.guard ⟨rfl, h1⟩ (.mk h2))
end
end TL
end
/-! TL22 -/
section
set_option maxHeartbeats 4000000
namespace TL
open PySem PySem.Spec PyProof.Rows L2
variable [TL.Lnk]
/-! ### keywords -/
def eKw (c n : Nat) (g : List PyData → Option PyData) (f fk : Eas) : Ev := fun r m => (f r m).bind fun p => (fk r p.2).bind fun q => if p.1.length = c then (arN n g (p.1 ++ q.1)).map fun d => (d, q.2) else none
end TL
end
/-! TL23 -/
section
set_option maxHeartbeats 4000000
/-! enumerate over a tuple -/
namespace PySem
abbrev enumAt (it : Addr) : Obj := { cls := .type "enumerate", data := .fields #[.none, .bool false, .ref it, rawInt 0, .none, .none] }
theorem tl_enum1 {x : Value} {ob : Obj} {St : Heap → Prop} (B : Begins x ob St) :
    Meets (Builtin.«enumerate.__new__» ⟨[.type "enumerate", x], []⟩) (fun _ R s => St s.heap ∧ R (.ok (.ret (.ref (s.heap.push ob).objs.size))) { s with heap := (s.heap.push ob).push (enumAt s.heap.objs.size) }) :=
  .of_wp fun prog w A R s h => by
    obtain ⟨hp, g, d, tk, os⟩ := s
    obtain ⟨st, h⟩ := h
    have subs := sub_enumerate
    have it1 : ∀ {A' : Around} {E : Value → Shared → Prop} {Q : Value → Shared → Prop}, Q (.ref hp.objs.size) ⟨hp.push ob, g, d, tk, os⟩ → wpAny (model prog w) A' (pyIter x) Q E ⟨hp, g, d, tk, os⟩ := fun q => B.iter prog w _ _ ⟨hp, g, d, tk, os⟩ _ st q
    wp_walk using it1
    refine wpAny_stack_any fun st => wpAny_pure ?_
    split
    · rename_i c _ _ _ _ _
      cases (c == Value.type "enumerate")
      · wp_walk using it1
        exact ⟨_, rfl, h⟩
      · wp_walk using it1
        exact ⟨_, rfl, h⟩
    · wp_walk using it1
      exact ⟨_, rfl, h⟩
theorem tl_call_enum {prog : Program} {w : World} {A : Around} {E : Value → Shared → Prop} {s : Shared} {x : Value} {ob : Obj} {St : Heap → Prop} {Q : Value → Shared → Prop} (B : Begins x ob St) (st : St s.heap)
    (k : ∀ hp, IsEnum hp (s.heap.objs.size + 1) s.heap.objs.size 0 .none → hp.get? s.heap.objs.size = some ob → (∀ b o, s.heap.get? b = some o → hp.get? b = some o) → Q (.ref (s.heap.objs.size + 1)) { s with heap := hp }) :
    wpAny (model prog w) A (call (.type "enumerate") [x]) Q E s := by
  refine callType_new F.called_enumerate (by decide) (F.typeCall_enumerate_1 _) (F.newCall_enumerate_1 _) (fun obj => F.args_object_init_2 obj _) F.entry_enumerate_new (tl_enum1 B) ⟨st, ?_⟩
  have hz : (s.heap.push ob).objs.size = s.heap.objs.size + 1 := Heap.size_push ..
  show _ ∧ _
  rw [hz]
  have he : IsEnum ((s.heap.push ob).push (enumAt s.heap.objs.size)) (s.heap.objs.size + 1) s.heap.objs.size 0 .none := by
    have := Heap.get?_push_size (s.heap.push ob) (o := enumAt s.heap.objs.size) rfl
    rw [hz] at this
    exact this
  exact ⟨⟨_, he, rfl⟩, k _ he (Heap.get?_push_of_some _ (Heap.get?_push_size _ B.free)) fun b o x => Heap.get?_push_of_some _ (Heap.get?_push_of_some _ x)⟩
end PySem
namespace TL
open PySem PySem.Spec PyProof.Rows L2
variable [TL.Lnk]
/-- the tuple at a, each item in a new pair -/
def Itf (K : PySem.W.Frag) (a : Addr) : It :=
  ⟨fun i H => ∃ (xs : List V) (x : V), SqT K H a xs ∧ xs[i]? = some x, fun i H v H' => ∃ T x, v = .ref T ∧ H T = none ∧ H' = upd H T (.tup [.int (i : Nat), x]) ∧ ∀ xs, SqT K H a xs → xs[i]? = some x, fun i H => ∃ xs : List V, SqT K H a xs ∧ xs.length ≤ i⟩
theorem draws_tup {prog : Program} {w : World} {A : Around} (hh : A.handled = none) {it t : Addr} (ne : t ≠ it) (items : Array Value) : Draws prog w A.in1 it [it, t] items.size (fun i v => items[i]? = some v) (fun i h => h.IsTupleIter it t i ∧ h.IsTuple t items) :=
  Draws.tuple (by first | exact hh | (show A.in1.handled = none; exact hh)) it t ne items
theorem turn_enumT {P : Program} {w : World} {K : PySem.W.Frag} {elts : List Expr} {kk : Nat} {tpos : Pos} (a e it : Addr) :
    L2.Turn P w K (.Tuple elts kk tpos) (Itf K a) [e, it] e (fun i h => (∃ old, IsEnum h e it ((i : Nat) : Int) old) ∧ h.IsTupleIter it a i ∧ e ≠ it ∧ a ≠ it ∧ a ≠ e) where
  mem := by simp
  obj := fun i h st b hb => by
    obtain ⟨⟨old, he⟩, ⟨o, ho, hc, hd⟩, _⟩ := st
    have e' : b = e ∨ b = it := by simpa using hb
    rcases e' with z | z
    · rw [z]; exact ⟨_, he, fun v q => nomatch q⟩
    · rw [z]; exact ⟨o, ho, fun v q => by rw [hd] at q; cases q⟩
  keep := fun i h h' st k => let ⟨⟨old, he⟩, hi, hne⟩ := st; ⟨⟨old, k e (by simp) _ he⟩, hi.at fun o q => k it (by simp) o q, hne⟩
  item := by
    intro X hP hw hK hc i pins s σ H E I hf st hg
    subst hP hw hK
    obtain ⟨⟨old, he⟩, hit, hne, hai, hae⟩ := st
    obtain ⟨xs, x, hq, hx⟩ := hg
    obtain ⟨its, rv, p, hz⟩ := I.tuple hq
    obtain ⟨u, hu, ru⟩ := rv.get hx
    have p : s.heap.IsTuple a its.toArray := p
    have hel : e < s.heap.objs.size := Heap.lt_size he
    have hil : it < s.heap.objs.size := by obtain ⟨_, q, _⟩ := hit; exact Heap.lt_size q
    have hlt : i < its.toArray.size := by
      have := (List.getElem?_eq_some_iff.mp hu).1
      simpa using this
    refine wpAny_pyNext_enum_itemD (draws_tup (I.ok.hd hc) hai its.toArray) he ⟨hit, p⟩ hlt hne (fun z => ?_) fun y h' tk hy ho hs' hT hsz hk => ?_
    · have z' : e = it ∨ e = a := by simpa using z
      rcases z' with z' | z'
      · exact hne z'
      · exact hae z'.symm
    have ey : y = u := by
      have q : its[i]? = some y := by simpa using hy
      rw [hu] at q
      exact (Option.some.inj q).symm
    subst ey
    refine ⟨_, rfl, wpAny_letOwnedTupleGo_enum (s := { s with heap := h', toks := tk + 1 }) ho fun h'' he' sb => ?_⟩
    have hT2 : h''.get? s.heap.objs.size = some { cls := .type "tuple", data := .seq #[.int i tk, y] } := (sb.2 _ (Nat.ne_of_gt hel)).trans hT
    have new : ObjOk X.prog X.w (upd H s.heap.objs.size (.tup [.int (i : Nat), x])) h'' s.heap.objs.size (.tup [.int (i : Nat), x]) :=
      ⟨by show 2 ≤ sizeLine; decide, [.int i tk, y], .cons ⟨_, rfl⟩ (.cons ru .nil), ⟨_, hT2, rfl, _, rfl⟩⟩
    have I1 : Inv X pins σ (upd H s.heap.objs.size (.tup [.int (i : Nat), x])) { s with heap := h'', toks := tk + 1 } :=
      I.turnedNew (ch := [e, it]) (fun b ob hb q => (sb.2 b (fun z => hb (by simp [z]))).trans (hk b ob (fun z => hb (by simp [z])) (fun z => hb (by simp [z])) q)) hf (Nat.le_refl _) new
    refine ⟨.ref s.heap.objs.size, _, I1, rfl, ⟨_, x, rfl, I.hok.fresh (Nat.le_refl _), rfl, fun ys hy => by rw [I.tuple_inj hy hq]; exact hx⟩, ⟨⟨y, ?_⟩, hs'.1.at fun o q => (sb.2 it (Ne.symm hne)).trans q, hne, hai, hae⟩, fun b hb => ?_⟩
    · have e1 : ((i + 1 : Nat) : Int) = (i : Int) + 1 := by omega
      rw [e1]; exact he'
    · have hb' : b < s.heap.objs.size := by
        have e' : b = e ∨ b = it := by simpa using hb
        rcases e' with z | z
        · rw [z]; exact hel
        · rw [z]; exact hil
      rw [upd_ne (Nat.ne_of_lt hb')]
      exact (hf b hb).1
  done := by
    intro X hP hw hK hc i pins s σ H E I hf st hg
    subst hP hw hK
    obtain ⟨⟨old, he⟩, hit, hne, hai, hae⟩ := st
    obtain ⟨xs, hq, hx⟩ := hg
    obtain ⟨its, rv, p, hz⟩ := I.tuple hq
    have p : s.heap.IsTuple a its.toArray := p
    obtain ⟨f0, f1, f2, f3, f4, f5⟩ := hf it (by simp)
    have hl := rv.length
    have hh : X.A.in1.handled = none := by first | exact I.ok.hd hc | (show X.A.handled = none; exact I.ok.hd hc)
    have D : Draws X.prog X.w X.A.in1 it [it, a] 0 (fun _ _ => False) (fun _ h => h.IsTupleIter it a i ∧ h.IsTuple a its.toArray) :=
      { live := fun _ _ st => let ⟨o, ho, _⟩ := st.1; ⟨o, ho⟩
        frame := fun _ _ _ st k => ⟨st.1.at fun o q => k it (by simp) o q, st.2.at fun o q => k a (by simp) o q⟩
        item := fun j s Q E hj => absurd hj (Nat.not_lt_zero j)
        done := fun s Q E st hE => wpAny_nextOf_tuple_end hh st.1 st.2 (by simp; omega) hE }
    exact wpAny_pyNext_enum_endD D he ⟨hit, p⟩ fun h' eb => ⟨rfl, I.turned (t' := s.toks) (fun b o hb q => eb b o hb q) f0 f1 f3 f4 f5⟩
  self := fun A i s Q E st h => let ⟨⟨_, he⟩, _⟩ := st; wpAny_pyIter_enum he h
def iEnumT (K : PySem.W.Frag) (ta : TA) : TI := fun σ H R => ta σ H fun vs H1 => ∃ a xs, vs = [.ref a] ∧ SqT K H1 a xs ∧ R (Itf K a) H1
theorem pi_enumT {X : Cx} {e : Expr} {ta : TA} {p pos tpos : Pos} {elts : List Expr} {kk : Nat} (hg : Gl X "enumerate") (hm : X.mg "enumerate" = none) (ha : PA X [e] ta) (hs : starEach [e] X.env = [(false, eval e X.env)] := by rfl) :
    PI X (.Tuple elts kk tpos) (.Call (.Name "enumerate" p) [e] [] pos) (iEnumT X.K ta) := by
  refine ⟨fun pins s σ H R I h => ?_⟩
  refine Call_ (ld_blt I hg hm boot_enumerate (PyProof.Rows.callWith_type1 (thn (ha.run pos pins s σ H _ I h) fun us s1 ⟨vs, H1, I1, r1, q1⟩ => ?_) hs rfl))
  obtain ⟨a, xs, ex, hq, q⟩ := q1
  subst ex
  cases r1 with
  | cons r rr =>
    cases rr
    cases r
    obtain ⟨its, rv, p', hz⟩ := I1.tuple hq
    have p' : s1.heap.IsTuple a its.toArray := p'
    have al : a < s1.heap.objs.size := by obtain ⟨o, q, _⟩ := p'; exact Heap.lt_size q
    refine tl_call_enum (begins_tuple a its.toArray) p' fun h' he hit hk => wpAny_pyIter_enum he ?_
    have I2 : Inv X pins σ H1 { s1 with heap := h' } := I1.kept (t' := s1.toks) hk
    refine ⟨s1.heap.objs.size + 1, [s1.heap.objs.size + 1, s1.heap.objs.size], _, _, H1, rfl, I2, turn_enumT a (s1.heap.objs.size + 1) s1.heap.objs.size, ⟨⟨.none, he⟩, ⟨_, hit, rfl, rfl⟩, Nat.succ_ne_self _, Nat.ne_of_lt al, Nat.ne_of_lt (Nat.lt_succ_of_lt al)⟩, fun b hb => ?_, q⟩
    have e' : b = s1.heap.objs.size + 1 ∨ b = s1.heap.objs.size := by simpa using hb
    have hle : s1.heap.objs.size ≤ b := by
      rcases e' with z | z
      · rw [z]; exact Nat.le_add_right _ _
      · rw [z]; exact Nat.le_refl _
    exact I1.fpOk hle (I1.hok.fresh hle)
theorem wk_enumT {K : PySem.W.Frag} {Z F : Hp} {a : Addr} {xs : List V} {ds : List PyData} (hs : SqT K F a xs) (hr : RpAll K F xs ds) : Wk K Z (Itf K a) F (enumD ds) where
  go := fun U A σ r m F1 H1 i d _ s1 G1 e => by
    unfold enumD at e
    rw [List.getElem?_map, List.getElem?_zipIdx] at e
    cases e1 : ds[i]? with
    | none => rw [e1] at e; cases e
    | some d1 =>
      rw [e1] at e
      simp only [Option.map_some, Nat.zero_add, Option.some.injEq] at e
      subst e
      obtain ⟨v, h1, h2⟩ := rpa_get hr e1
      have hq : SqT K H1 a xs := (seqT_mono (s1.trans G1.sub) hs)
      refine ⟨⟨xs, v, hq, h1⟩, fun x H2 hy => ?_⟩
      obtain ⟨T, y, e2, nT, e3, hy⟩ := hy
      have := hy xs hq
      rw [h1] at this
      cases this
      subst e2 e3
      have sF : Same F1 (upd F1 T (.tup [.int (i : Nat), v])) := same_new (G1.nope nT).1
      exact ⟨_, sF, G1.laid nT, .vt (.inl (.inl upd_same)) (.cons (.vi _) (.cons (Rpm (s1.trans sF) h2) .nil))⟩
  stop := fun F1 H1 _ s1 s2 => ⟨xs, (seqT_mono (s1.trans s2) hs), by
    unfold enumD
    rw [List.length_map, List.length_zipIdx, rpa_len hr]
    exact Nat.le_refl _⟩
/-- an iterator over what is frozen -/
def tIf (K : PySem.W.Frag) (U : Hp) (f : Eas) : TI := fun σ H R => ∃ (A : List Addr) (F : Hp) (r : Rs) (m : Ms) (ds : List PyData) (m' : Ms), Good K U A F H σ r m ∧ f r m = some (ds, m') ∧
  ∀ (F' H' : Hp) (J : It), Same F F' → Good K U A F' H' σ r m' → (∀ Z, Wk K Z J F' ds) → R J H'
theorem pi_weak {X : Cx} {tg e : Expr} {t t' : TI} (h : PI X tg e t) (w : ∀ σ H R, t' σ H R → t σ H R) : PI X tg e t' := ⟨fun pins s σ H R I q => h.run pins s σ H R I (w σ H R q)⟩
theorem qi_f {X : Cx} {U : Hp} {tg e : Expr} {f : Eas} (h : PI X tg e (tIf X.K U f)) : PI X tg e (tIt X.K U f) := pi_weak h fun σ H R ⟨A, F, r, m, ds, m', G, e, k⟩ => ⟨A, F, r, m, ds, m', G, e, fun F' H' J s G' W => k F' H' J s G' (W U)⟩
def enumA : PyData → Option (List PyData)
  | .list ds => some (enumD ds)
  | .tuple ds => some (enumD ds)
  | _ => none
def eEnumA (f : Ev) : Eas := fun r m => (f r m).bind fun p => (enumA p.1).map fun ds => (ds, p.2)
theorem qi_enumA {X : Cx} {U : Hp} {e : Expr} {f : Ev} {p pos tpos : Pos} {elts : List Expr} {kk : Nat} (hg : Gl X "enumerate") (hm : X.mg "enumerate" = none) (ha : PE X e (tE X.K U f)) (hs : starEach [e] X.env = [(false, eval e X.env)] := by rfl) (hs' : starEach [e] X.env = (false, eval e X.env) :: starEach [] X.env := by rfl) :
    PI X (.Tuple elts kk tpos) (.Call (.Name "enumerate" p) [e] [] pos) (tIf X.K U (eEnumA f)) := by
  refine ⟨fun pins s σ H R I ⟨A, F, r, m, ds, m', G, e0, k⟩ => ?_⟩
  unfold eEnumA at e0
  cases e1 : f r m with
  | none => rw [e1] at e0; cases e0
  | some q =>
    obtain ⟨d, m1⟩ := q
    rw [e1] at e0
    simp only [Option.bind_some] at e0
    cases d with
    | list l =>
      cases e0
      refine (pi_enum hg hm (pa_cons ha pa_nil hs') hs).run pins s σ H R I ⟨A, F, r, m, _, m', G, e1, fun F1 H1 v s1 G1 h1 => ?_⟩
      cases h1 with
      | vl sa ra => exact ⟨_, _, rfl, (sqL_mono G1.sub sa), k F1 H1 _ s1 G1 fun Z => wk_enum sa ra⟩
    | tuple l =>
      cases e0
      refine (pi_enumT hg hm (pa_cons ha pa_nil hs') hs).run pins s σ H R I ⟨A, F, r, m, _, m', G, e1, fun F1 H1 v s1 G1 h1 => ?_⟩
      cases h1 with
      | vt sa ra => exact ⟨_, _, rfl, (seqT_mono G1.sub sa), k F1 H1 _ s1 G1 fun Z => wk_enumT sa ra⟩
    | _ => cases e0
end TL
end
/-! TL24 -/
section
set_option maxHeartbeats 4000000
namespace TL
open PySem PySem.Spec PyProof.Rows L2
/-! ## comprehensions of two fors -/
end TL
end
/-! TL25 -/
section
set_option maxHeartbeats 4000000
namespace TL
open PySem PySem.Spec PyProof.Rows L2
variable [TL.Lnk]
/-! ## a new list times an int -/
def repD : PyData → PyData → Option PyData
  | .list ds, .int k => if -(2 ^ 63) ≤ k ∧ k < 2 ^ 63 ∧ ds.length * k.toNat ≤ sizeLine then some (.list (List.replicate k.toNat ds).flatten) else none
  | _, _ => none
theorem rpa_rep {K : PySem.W.Frag} {F : Hp} {vs : List V} {ds : List PyData} (h : RpAll K F vs ds) : ∀ n : Nat, RpAll K F (List.replicate n vs).flatten (List.replicate n ds).flatten
  | 0 => .nil
  | n + 1 => by
    rw [List.replicate_succ, List.replicate_succ, List.flatten_cons, List.flatten_cons]
    exact rpa_app h (rpa_rep h n)
section
variable {X : Cx} {U : Hp} {a b : Expr} {pos : Pos} {f g : Ev}
theorem qe_rep (ha : PE X a (tN X.K U f)) (hb : ∀ U, PE X b (tE X.K U g)) : PE X (.BinOp a .Mult b pos) (tE X.K U (eBin repD f g)) :=
  pe_weak (pe_op op_rep ha (pe_all hb)) fun σ H Q ⟨A, F, r, m, d, m', G, e, k⟩ => by
    obtain ⟨d1, m1, d2, e1, e2, e3⟩ := bin_some e
    refine ⟨A, F, r, m, d1, m1, G, e1, fun F1 H1 a u s1 G1 q1 q2 q3 q4 q5 => ⟨upd U a u, A, F1, r, m1, d2, m', G1.hold q4 q1 q3, e2, fun F2 H2 y s2 G2 h2 => ?_⟩⟩
    obtain ⟨c1, c2⟩ := G2.fo a u upd_same
    unfold repD at e3
    split at e3
    · rename_i ds0 k0
      split at e3
      · rename_i hz
        cases e3
        obtain ⟨vs, eu, hv⟩ := q5
        subst eu
        cases h2
        have l1 := rpa_len hv
        refine ⟨a, _, vs, rfl, rfl, c1, hz.1, hz.2.1, by rw [l1]; exact hz.2.2, fun p np => ?_⟩
        have G3 := G2.unhold q2
        have sF : Same F2 (upd F2 p (.lst (List.replicate k0.toNat vs).flatten)) := same_new (G3.nope np).1
        exact k _ _ _ (s1.trans (s2.trans sF)) (G3.laid np) (.vl (.inl (.inl upd_same)) (rpa_rep (Rpam (s2.trans sF) hv) _))
      · cases e3
    · cases e3
/-! ## equality, of texts without a word on their signs -/
def eqX (a b : PyData) : Option PyData := match a, b with
  | .str x, .str y => some (.bool (decide (x = y)))
  | a, b => eqD a b
def neX (a b : PyData) : Option PyData := match a, b with
  | .str x, .str y => some (.bool (!decide (x = y)))
  | a, b => neD a b
def rTx (neg : Bool) : R2 := fun x y H Q => ∃ i j : Str, x = .str i ∧ y = .str j ∧ Q (.bl (if neg then !decide (i = j) else decide (i = j))) H
theorem op_eqT : OpR X (compareOp .Eq) (rTx false) := by
  intro pins s σ H x y v u Q I rx ry ⟨i, j, e1, e2, q⟩
  subst e1 e2
  refine op_eq pins s σ H _ _ v u Q I rx ry ⟨rfl, ?_⟩
  have e : decide (V.str i = V.str j) = decide (i = j) := by
    by_cases h : i = j
    · subst h; simp
    · rw [decide_eq_false h, decide_eq_false (fun z => h (by cases z; rfl))]
  rw [e]
  exact q
theorem op_neT : OpR X (compareOp .NotEq) (rTx true) := by
  intro pins s σ H x y v u Q I rx ry ⟨i, j, e1, e2, q⟩
  subst e1 e2
  refine op_ne pins s σ H _ _ v u Q I rx ry ⟨rfl, ?_⟩
  have e : decide (V.str i = V.str j) = decide (i = j) := by
    by_cases h : i = j
    · subst h; simp
    · rw [decide_eq_false h, decide_eq_false (fun z => h (by cases z; rfl))]
  rw [e]
  exact q
def rEqX (K : PySem.W.Frag) : R2 := fun x y H Q => rEqD K x y H Q ∨ rTx false x y H Q
def rNeX (K : PySem.W.Frag) : R2 := fun x y H Q => rNeD K x y H Q ∨ rTx true x y H Q
theorem op_eqX (hu : X.A.units + 64 < cLine) : OpR X (compareOp .Eq) (rEqX X.K) := opr_or (op_eqD hu) op_eqT
theorem op_neX (hu : X.A.units + 64 < cLine) : OpR X (compareOp .NotEq) (rNeX X.K) := opr_or (op_neD hu) op_neT
theorem od_eqX : OpD X U (rEqX X.K) eqX := by
  intro A F H σ r m x y a b d Q G ha hb e k
  unfold eqX at e
  split at e
  · cases ha; cases hb; cases e
    exact .inr ⟨_, _, rfl, rfl, k F H _ (Same.refl F) G (.vb _)⟩
  · exact .inl (od_eq A F H σ r m x y a b d Q G ha hb e k)
theorem od_neX : OpD X U (rNeX X.K) neX := by
  intro A F H σ r m x y a b d Q G ha hb e k
  unfold neX at e
  split at e
  · cases ha; cases hb; cases e
    exact .inr ⟨_, _, rfl, rfl, k F H _ (Same.refl F) G (.vb _)⟩
  · exact .inl (od_ne A F H σ r m x y a b d Q G ha hb e k)
end
/-! ## a def called with all its keyword-only parameters -/
end TL
end
/-! TL26 -/
section
set_option maxHeartbeats 4000000
namespace TL
open PySem L2
/-! ## texts of plain signs -/
def Lw (n : Nat) (s : Str) : Prop := s.cps.size ≤ n ∧ ∀ c ∈ s.cps.toList, c < 128
instance {n : Nat} {s : Str} : Decidable (Lw n s) := inferInstanceAs (Decidable (_ ∧ _))
theorem Lw.len {n : Nat} {s : Str} (h : Lw n s) : s.length ≤ n := h.1
theorem Lw.mono {n k : Nat} {s : Str} (h : Lw n s) (l : n ≤ k) : Lw k s := ⟨Nat.le_trans h.1 l, h.2⟩
theorem Lw.line {n : Nat} {s : Str} (h : Lw n s) (l : n ≤ 1000) : s.length ≤ sizeLine := Nat.le_trans h.1 (Nat.le_trans l (by decide))
theorem Lw.app {n k : Nat} {s t : Str} (h : Lw n s) (h' : Lw k t) : Lw (n + k) (s ++ t) := by
  have e : (s ++ t).cps = s.cps ++ t.cps := rfl
  refine ⟨?_, fun c hc => ?_⟩
  · rw [e, Array.size_append]
    have := h.1
    have := h'.1
    omega
  · rw [e, Array.toList_append] at hc
    rcases List.mem_append.mp hc with q | q
    · exact h.2 c q
    · exact h'.2 c q
theorem Lw.one {c : Nat} (h : c < 128) : Lw 1 ⟨#[c]⟩ := ⟨Nat.le_refl 1, fun d hd => by
  have : d = c := by simpa using hd
  omega⟩
theorem fold_app {α : Type} : ∀ (l : List (Array α)) (z : Array α), (l.foldl (· ++ ·) z).toList = z.toList ++ (l.map (·.toList)).flatten
  | [], z => by simp
  | x :: l, z => by
    rw [List.foldl_cons, fold_app l, Array.toList_append, List.map_cons, List.flatten_cons, List.append_assoc]
theorem Lw.mul {n : Nat} {s : Str} (h : Lw n s) (k : Int) : Lw (n * k.toNat) (Txt.mul s k) := by
  unfold Txt.mul
  split
  · exact ⟨Nat.zero_le _, fun c hc => by cases hc⟩
  · split
    · rename_i h1 h2
      refine ⟨?_, h.2⟩
      have : 1 ≤ k.toNat := by omega
      exact Nat.le_trans h.1 (by
        have := Nat.mul_le_mul_left n this
        rwa [Nat.mul_one] at this)
    · have e := fold_app (List.replicate k.toNat s.cps) #[]
      rw [List.map_replicate] at e
      refine ⟨?_, fun c hc => ?_⟩
      · show ((List.replicate k.toNat s.cps).foldl (· ++ ·) #[]).size ≤ _
        rw [← Array.length_toList, e, List.length_append, List.length_flatten, List.map_replicate, List.sum_replicate_nat, Array.length_toList]
        have := Nat.mul_le_mul_left k.toNat h.1
        rw [Nat.mul_comm n]
        simpa using this
      · have hc' : c ∈ ((List.replicate k.toNat s.cps).foldl (· ++ ·) #[]).toList := hc
        rw [e, List.mem_append] at hc'
        rcases hc' with q | q
        · cases q
        · obtain ⟨l, hl, hc2⟩ := List.mem_flatten.mp q
          rw [List.eq_of_mem_replicate hl] at hc2
          exact h.2 c hc2
theorem Lw.ok {n : Nat} {s : Str} (h : Lw n s) : (PyData.str s).canLay0 = true := by
  show s.cps.all (fun c => decide (c < 0x110000)) = true
  rw [Array.all_eq_true_iff_forall_mem]
  intro c hc
  have := h.2 c (Array.mem_toList_iff.mpr hc)
  exact decide_eq_true (by omega)
/-! ## what may be shown -/
structure Sh (w k : Nat) (d : PyData) : Prop where
  lay : d.canLay0 = true
  dep : d.depth ≤ k
  its : d.intsShort 13 = true
  shw : d.showable = true
  wgt : d.weight ≤ w
section
variable {w k n : Nat} {d : PyData} {ds : List PyData}
theorem Sh.mono {w' k' : Nat} (h : Sh w k d) (a : w ≤ w') (b : k ≤ k') : Sh w' k' d := ⟨h.lay, Nat.le_trans h.dep b, h.its, h.shw, Nat.le_trans h.wgt a⟩
theorem Sh.str {s : Str} (h : Lw n s) : Sh n 0 (.str s) := ⟨h.ok, by simp [PyData.depth], rfl, rfl, h.1⟩
theorem Sh.non : Sh 0 0 .none := ⟨rfl, by simp [PyData.depth], rfl, rfl, by simp [PyData.weight]⟩
theorem Sh.bool {b : Bool} : Sh 0 0 (.bool b) := ⟨rfl, by simp [PyData.depth], rfl, rfl, by simp [PyData.weight]⟩
theorem Sh.int {i : Int} (h0 : -1000000000000 < i) (h1 : i < 1000000000000) : Sh 41 0 (.int i) := by
  have hn : i.natAbs < 10 ^ 12 := by
    have : (10 : Nat) ^ 12 = 1000000000000 := by decide
    omega
  refine ⟨rfl, by simp [PyData.depth], ?_, ?_, ?_⟩
  · simp only [PyData.intsShort, decide_eq_true_eq]
    exact PyData.shown_int_le hn
  · simp only [PyData.showable, decide_eq_true_eq]
    by_cases hz : i.natAbs = 0
    · rw [hz]; decide
    · have : i.natAbs.log2 < 40 := (Nat.log2_lt hz).mpr (Nat.lt_trans hn (by decide))
      omega
  · simp only [PyData.weight]
    split
    · exact Nat.zero_le _
    · rename_i hz
      by_cases hz : i.natAbs = 0
      · rw [hz]; decide
      · have : i.natAbs.log2 < 40 := (Nat.log2_lt hz).mpr (Nat.lt_trans hn (by decide))
        omega
theorem its_all : ∀ {ds : List PyData}, (∀ d ∈ ds, d.intsShort 13 = true) → PyData.intsShortAll 13 ds = true
  | [], _ => rfl
  | d :: ds, h => by
    simp only [PyData.intsShortAll, Bool.and_eq_true]
    exact ⟨h d List.mem_cons_self, its_all fun x hx => h x (List.mem_cons_of_mem _ hx)⟩
theorem shw_all : ∀ {ds : List PyData}, (∀ d ∈ ds, d.showable = true) → PyData.showableAll ds = true
  | [], _ => rfl
  | d :: ds, h => by
    simp only [PyData.showableAll, Bool.and_eq_true]
    exact ⟨h d List.mem_cons_self, shw_all fun x hx => h x (List.mem_cons_of_mem _ hx)⟩
theorem wgt_all : ∀ {ds : List PyData}, (∀ d ∈ ds, d.weight ≤ w) → PyData.weightAll ds ≤ ds.length * (w + 1)
  | [], _ => by simp [PyData.weightAll]
  | d :: ds, h => by
    have h1 := h d List.mem_cons_self
    have h2 := wgt_all (ds := ds) fun x hx => h x (List.mem_cons_of_mem _ hx)
    simp only [PyData.weightAll, List.length_cons, Nat.add_mul]
    omega
theorem Sh.lst (h : ∀ d ∈ ds, Sh w k d) (hl : ds.length ≤ n) : Sh (n * (w + 1)) (k + 1) (.list ds) := by
  have a := depth_all fun d hd => (h d hd).dep
  have b := wgt_all fun d hd => (h d hd).wgt
  have c := Nat.mul_le_mul_right (w + 1) hl
  exact ⟨by simp only [PyData.canLay0]; exact lay_all fun d hd => (h d hd).lay, by simp only [PyData.depth]; omega, by simp only [PyData.intsShort]; exact its_all fun d hd => (h d hd).its, by simp only [PyData.showable]; exact shw_all fun d hd => (h d hd).shw, by simp only [PyData.weight]; omega⟩
theorem Sh.tup (h : ∀ d ∈ ds, Sh w k d) (hl : ds.length ≤ n) : Sh (n * (w + 1)) (k + 1) (.tuple ds) := by
  have a := depth_all fun d hd => (h d hd).dep
  have b := wgt_all fun d hd => (h d hd).wgt
  have c := Nat.mul_le_mul_right (w + 1) hl
  exact ⟨by simp only [PyData.canLay0]; exact lay_all fun d hd => (h d hd).lay, by simp only [PyData.depth]; omega, by simp only [PyData.intsShort]; exact its_all fun d hd => (h d hd).its, by simp only [PyData.showable]; exact shw_all fun d hd => (h d hd).shw, by simp only [PyData.weight]; omega⟩
theorem Sh.shaped (h : Sh w k d) (hk : k ≤ 62) : SeqAt.shaped d = true := shaped_of h.lay (by have := h.dep; omega)
end
/-! ## the twins reckoned: more -/
section
variable {r : Rs} {m : Ms} {Q : PyData × Ms → Prop} {QL : List PyData × Ms → Prop} {QB : Bool × Ms → Prop} {S : Out → Prop} {R : PyData → Prop} {f g : Ev} {fs fi fi1 : Eas} {i n a : Nat} {ds es : List PyData} {d : PyData} {h h1 : Eh} {t t1 : Et} {own own1 : List Nat} {x y : Str} {b c : Bool} {j k : Int}
theorem cell_hd {c : PyData} : cellAt (some c :: m) 0 = some c := rfl
theorem w_eqX_ss (q : R (.bool (decide (x = y)))) : W (eqX (.str x) (.str y)) R := .mk q
theorem w_neX_ss (q : R (.bool (!decide (x = y)))) : W (neX (.str x) (.str y)) R := .mk q
theorem w_eqX_ii (q : R (.bool (decide (j = k)))) : W (eqX (.int j) (.int k)) R := by
  refine w_eqD (shaped_i j) (shaped_i k) ?_
  have e : PyData.eqv (.int j) (.int k) = decide (j = k) := by
    simp only [PyData.eqv]
    by_cases h : j = k
    · subst h; simp
    · rw [decide_eq_false h]; simpa using h
  rw [e]
  exact q
theorem w_eqX_bb (q : R (.bool (b == c))) : W (eqX (.bool b) (.bool c)) R := by
  refine w_eqD (shaped_b b) (shaped_b c) ?_
  simp only [PyData.eqv]
  exact q
theorem w_neX_bb (q : R (.bool (!(b == c)))) : W (neX (.bool b) (.bool c)) R := by
  refine w_neD (shaped_b b) (shaped_b c) ?_
  simp only [PyData.eqv]
  exact q
theorem w_neX_ll0 (hd : SeqAt.shaped (.list ds) = true) (q : R (.bool (!ds.isEmpty))) : W (neX (.list ds) (.list [])) R := by
  refine w_neD hd (by decide +kernel) ?_
  have e : PyData.eqv (.list ds) (.list []) = ds.isEmpty := by cases ds <;> simp [PyData.eqv, PyData.eqvAll]
  rw [e]
  exact q
theorem w_eqX_ll0 (hd : SeqAt.shaped (.list ds) = true) (q : R (.bool ds.isEmpty)) : W (eqX (.list ds) (.list [])) R := by
  refine w_eqD hd (by decide +kernel) ?_
  have e : PyData.eqv (.list ds) (.list []) = ds.isEmpty := by cases ds <;> simp [PyData.eqv, PyData.eqvAll]
  rw [e]
  exact q
theorem w_mul_s (h1 : x.length ≤ 4096) (h2 : 0 ≤ k) (h3 : k ≤ 4096) (q : R (.str (Txt.mul x k))) : W (mulD (.str x) (.int k)) R := W.guard ⟨h1, h3, by omega⟩ (.mk q)
theorem w_rep (h1 : 0 ≤ k) (h2 : k < 1000) (h3 : ds.length ≤ 1000) (q : R (.list (List.replicate k.toNat ds).flatten)) : W (repD (.list ds) (.int k)) R :=
  W.guard ⟨by omega, by omega, Nat.le_trans (Nat.mul_le_mul h3 (show k.toNat ≤ 1000 by omega)) (by decide)⟩ (.mk q)
theorem w_enumA_l {P : List PyData → Prop} (q : P (enumD ds)) : W (enumA (.list ds)) P := .mk q
theorem w_enumA_t {P : List PyData → Prop} (q : P (enumD ds)) : W (enumA (.tuple ds)) P := .mk q
theorem w_eEnumA (q : W (f r m) fun p => W (enumA p.1) fun ds => QL (ds, p.2)) : W (eEnumA f r m) QL := W.bind (W.mono q fun _ q => W.map q)
theorem w_tru_l {P : Bool → Prop} (q : P (!ds.isEmpty)) : W (truD (.list ds)) P := .mk q
theorem w_tru_t {P : Bool → Prop} (q : P (!ds.isEmpty)) : W (truD (.tuple ds)) P := .mk q
theorem w_isNot (q : R (.bool (match d with | .none => false | _ => true))) : W (isNotD d .none) R := by
  unfold isNotD
  exact .mk q
theorem w_tupleD_l (q : R (.tuple ds)) : W (tupleD [.list ds]) R := .mk q
theorem w_tupleD_t (q : R (.tuple ds)) : W (tupleD [.tuple ds]) R := .mk q
theorem w_listD_t (q : R (.list ds)) : W (listD2 [.tuple ds]) R := .mk q
theorem w_listD_l (q : R (.list ds)) : W (listD2 [.list ds]) R := .mk q
theorem w_intD_b (q : R (.int (if b then 1 else 0))) : W (intD1 [.bool b]) R := .mk q
theorem w_intD_i (q : R (.int j)) : W (intD1 [.int j]) R := .mk q
theorem w_min2 (q : R (.int (if k < j then k else j))) : W (min2D [.int j, .int k]) R := .mk q
theorem w_max2 (q : R (.int (if k > j then k else j))) : W (max2D [.int j, .int k]) R := .mk q
theorem w_slc_l {lo hi : Option Int} (q : R (.list (cutD ds lo hi))) : W (slcD (.list ds) lo hi) R := .mk q
theorem w_slc_t {lo hi : Option Int} (q : R (.tuple (cutD ds lo hi))) : W (slcD (.tuple ds) lo hi) R := .mk q
theorem w_yes (q : QB (true, m)) : W (eYes r m) QB := .mk q
theorem w_hTup {g : Ehs} {P : Rs → Prop} (hl : ds.length = n) (q : W (g ds r) P) : W (hTup g n (.tuple ds) r) P := by
  unfold hTup
  exact W.guard hl q
theorem w_hCons {f : Eh} {g : Ehs} {P : Rs → Prop} (q : W (f d r) fun r1 => W (g ds r1) P) : W (hCons f g (d :: ds) r) P := W.bind q
theorem w_hNil {P : Rs → Prop} (q : P r) : W (hNil [] r) P := .mk q
theorem w_eKw {c n : Nat} {u : List PyData → Option PyData} {fk : Eas} (q : W (fs r m) fun p => W (fk r p.2) fun z => p.1.length = c ∧ W (arN n u (p.1 ++ z.1)) fun d => Q (d, z.2)) : W (eKw c n u fs fk r m) Q :=
  W.bind (W.mono q fun p q => W.bind (W.mono q fun z ⟨e, q⟩ => W.guard e (W.map q)))
/-- a comprehension by a word on what it made so far -/
theorem lc_inv (I : Nat → List PyData → Ms → Prop) {ds : List PyData} (step : ∀ (i : Nat) (d : PyData) (m : Ms) (acc : List PyData), ds[i]? = some d → I i acc m → W (h d r) fun r1 => W (t r1 m) fun b => (b.1 = true → W (f r1 b.2) fun x => acc.length < sizeLine ∧ I (i + 1) (acc ++ [x.1]) x.2) ∧ (b.1 = false → I (i + 1) acc b.2)) :
    ∀ (k : Nat) (m : Ms) (acc : List PyData), k ≤ ds.length → I k acc m → W (lcLoop h t f r (ds.drop k) m acc) fun p => I ds.length p.1 p.2 := by
  intro k
  induction hk : ds.length - k generalizing k with
  | zero =>
    intro m acc hl hI
    have : k = ds.length := by omega
    subst this
    rw [List.drop_length]
    exact .mk hI
  | succ n ih =>
    intro m acc hl hI
    have hlt : k < ds.length := by omega
    rw [List.drop_eq_getElem_cons hlt]
    unfold lcLoop
    refine W.bind (W.mono (step k ds[k] m acc (List.getElem?_eq_getElem hlt) hI) fun r1 q => W.bind (W.mono q fun b ⟨q1, q2⟩ => W.ite (fun z => ?_) fun z => ?_))
    · exact W.bind (W.mono (q1 z) fun x ⟨q3, q4⟩ => W.guard q3 (ih (k + 1) (by omega) x.2 _ (by omega) q4))
    · exact ih (k + 1) (by omega) b.2 _ (by omega) (q2 (by simpa using z))
theorem w_lcI (I : List PyData → Nat → List PyData → Ms → Prop) (q : W (fi r m) fun p => I p.1 0 [] p.2 ∧ (∀ (i : Nat) (d : PyData) (m : Ms) (acc : List PyData), p.1[i]? = some d → I p.1 i acc m → W (h d (wipeR r own)) fun r1 => W (t r1 m) fun b => (b.1 = true → W (f r1 b.2) fun x => acc.length < sizeLine ∧ I p.1 (i + 1) (acc ++ [x.1]) x.2) ∧ (b.1 = false → I p.1 (i + 1) acc b.2)) ∧ (∀ acc m, I p.1 p.1.length acc m → Q (.list acc, m))) :
    W (eLc fi own h t f r m) Q := W.bind (W.mono q fun p ⟨q1, q2, q3⟩ => by
  have := lc_inv (I p.1) q2 0 p.2 [] (Nat.zero_le _) q1
  rw [List.drop_zero] at this
  exact W.map (W.mono this fun z hz => q3 _ _ hz))
theorem w_lcOI (I : Nat → List PyData → Ms → Prop) (e : r[i]? = some (.ow a)) (e0 : cellAt m a = some (.list ds)) (q1 : I 0 [] (m.set a none))
    (q2 : ∀ (i : Nat) (d : PyData) (m : Ms) (acc : List PyData), ds[i]? = some d → I i acc m → W (h d (wipeR r own)) fun r1 => W (t r1 m) fun b => (b.1 = true → W (f r1 b.2) fun x => acc.length < sizeLine ∧ I (i + 1) (acc ++ [x.1]) x.2) ∧ (b.1 = false → I (i + 1) acc b.2))
    (q3 : ∀ acc m', I ds.length acc m' → Q (.list acc, m'.set a (some (.list ds)))) : W (eLcO i own h t f r m) Q := by
  have := lc_inv I q2 0 (m.set a none) [] (Nat.zero_le _) q1
  rw [List.drop_zero] at this
  obtain ⟨p, e1, q⟩ := this.get
  exact w_lcO e e0 ⟨p.1, p.2, e1, q3 _ _ q⟩
end
end TL
end
/-! TL27 -/
section
set_option maxHeartbeats 4000000
namespace TL
open PySem L2
theorem le_line {n : Nat} (h : n ≤ 1000) : n ≤ sizeLine := Nat.le_trans h (by decide)
theorem lt_line {n : Nat} (h : n ≤ 1000) : n < sizeLine := Nat.lt_of_le_of_lt h (by decide)
theorem atI_2 {α : Type} (x y z : α) (xs : List α) : atI (x :: y :: z :: xs) 2 = some z := by
  have := atI_in (l := x :: y :: z :: xs) (i := 2) (by decide) (by simp only [List.length_cons]; omega)
  exact this
theorem atI_3 {α : Type} (x y z u : α) (xs : List α) : atI (x :: y :: z :: u :: xs) 3 = some u := by
  have := atI_in (l := x :: y :: z :: u :: xs) (i := 3) (by decide) (by simp only [List.length_cons]; omega)
  exact this
theorem atI_4 {α : Type} (x y z u v : α) (xs : List α) : atI (x :: y :: z :: u :: v :: xs) 4 = some v := by
  have := atI_in (l := x :: y :: z :: u :: v :: xs) (i := 4) (by decide) (by simp only [List.length_cons]; omega)
  exact this
section
variable {r : Rs} {m : Ms} {Q : Out → Prop} {c c1 c2 : Et} {s t : Es} {X : Prop}
/-- an if whose test changes no cell: what it tells where it holds -/
theorem w_if1 (h1 : W (c r m) fun p => p.2 = m ∧ (p.1 = true → X)) (hs : X → W (s r m) Q) (ht : W (t r m) Q) : W (sIf c s t r m) Q := w_if (W.mono h1 fun p ⟨e, h⟩ => by
  rw [e]
  exact ⟨fun z => hs (h z), fun _ => ht⟩)
theorem w_if_and (h1 : W (c1 r m) fun p => p.2 = m) (h2 : W (c2 r m) fun p => p.2 = m ∧ (p.1 = true → X)) (hs : X → W (s r m) Q) (ht : W (t r m) Q) : W (sIf (eAnd c1 c2) s t r m) Q :=
  w_if1 (w_and (W.mono h1 fun p e => by
    rw [e]
    exact ⟨fun _ => h2, fun _ => ⟨rfl, fun z => by cases z⟩⟩)) hs ht
theorem w_or_p (h1 : W (c1 r m) fun p => p.2 = m) (h2 : W (c2 r m) fun p => p.2 = m) : W (eOr c1 c2 r m) fun p => p.2 = m := w_or (W.mono h1 fun p e => by
  rw [e]
  exact ⟨fun _ => rfl, fun _ => h2⟩)
theorem w_and_p (h1 : W (c1 r m) fun p => p.2 = m) (h2 : W (c2 r m) fun p => p.2 = m) : W (eAnd c1 c2 r m) fun p => p.2 = m := w_and (W.mono h1 fun p e => by
  rw [e]
  exact ⟨fun _ => h2, fun _ => rfl⟩)
theorem w_test_p {A B : Ms → Prop} (h : W (c r m) fun p => p.2 = m) (ha : A m) (hb : B m) : W (c r m) fun b => (b.1 = true → A b.2) ∧ (b.1 = false → B b.2) := W.mono h fun p e => by
  rw [e]
  exact ⟨fun _ => ha, fun _ => hb⟩
end
theorem cut_to {ds : List PyData} {k : Int} (h : 0 ≤ k) : cutD ds none (some k) = ds.take k.toNat := by
  have e : HT.sIx ds.length ds.length (some k) = min k.toNat ds.length := by
    show (if k < 0 then (k + (ds.length : Int)).toNat else min k.toNat ds.length) = _
    rw [if_neg (by omega)]
  unfold cutD
  rw [e, HT.sIx_none, List.drop_zero, Nat.sub_zero]
  by_cases hl : k.toNat ≤ ds.length
  · rw [Nat.min_eq_left hl]
  · rw [Nat.min_eq_right (by omega), List.take_length, List.take_of_length_le (by omega)]
/-- one slot as a cell is frozen -/
def fz1 (k : Nat) (d : PyData) : Sl → Sl
  | .ow j => if j = k then .fz d else .ow j
  | s => s
theorem frz_nil {k : Nat} {d : PyData} : frzR k d [] = [] := rfl
theorem frz_cons {k : Nat} {d : PyData} {s : Sl} {r : Rs} : frzR k d (s :: r) = fz1 k d s :: frzR k d r := rfl
theorem fz1_fz {k : Nat} {d e : PyData} : fz1 k d (.fz e) = .fz e := rfl
theorem fz1_un {k : Nat} {d : PyData} : fz1 k d .un = .un := rfl
theorem fz1_eq {k : Nat} {d : PyData} : fz1 k d (.ow k) = .fz d := if_pos rfl
theorem fz1_ne {k j : Nat} {d : PyData} (h : j ≠ k) : fz1 k d (.ow j) = .ow j := if_neg h
theorem w_notInD {ds : List PyData} {x : Str} {R : PyData → Prop} (h1 : SeqAt.shaped (.str x) = true) (h2 : SeqAt.shaped (.list ds) = true) (h : ∀ b, R (.bool b)) : W (notInD (.str x) (.list ds)) R := by
  unfold notInD
  refine W.map ?_
  show W (if SeqAt.shaped (.str x) = true ∧ SeqAt.shaped (.list ds) = true then some (ds.any fun z => PyData.eqv z (.str x)) else none) _
  exact W.guard ⟨h1, h2⟩ (.mk (h _))
theorem enum_at {ds : List PyData} {i : Nat} {d : PyData} (h : (enumD ds)[i]? = some d) : ∃ e, ds[i]? = some e ∧ d = .tuple [.int (i : Nat), e] := by
  unfold enumD at h
  rw [List.getElem?_map, List.getElem?_zipIdx] at h
  cases e1 : ds[i]? with
  | none => rw [e1] at h; cases h
  | some d1 =>
    rw [e1] at h
    simp only [Option.map_some, Nat.zero_add, Option.some.injEq] at h
    exact ⟨d1, rfl, h.symm⟩
theorem enum_len (ds : List PyData) : (enumD ds).length = ds.length := by
  unfold enumD
  rw [List.length_map, List.length_zipIdx]
end TL
end
open PySem L2 TL
local macro_rules | `(tactic| walk_at "tl3") => `(tactic| first
  | with_reducible refine w_eqX_ss ?_ | with_reducible refine w_neX_ss ?_ | with_reducible refine w_eqX_ii ?_ | with_reducible refine w_eqX_bb ?_ | with_reducible refine w_neX_bb ?_
  | with_reducible refine w_eEnumA ?_ | with_reducible refine w_enumA_l ?_ | with_reducible refine w_enumA_t ?_ | with_reducible refine w_tru_l ?_ | with_reducible refine w_tru_t ?_ | with_reducible refine w_isNot ?_
  | with_reducible refine w_tupleD_l ?_ | with_reducible refine w_tupleD_t ?_ | with_reducible refine w_listD_t ?_ | with_reducible refine w_listD_l ?_ | with_reducible refine w_intD_b ?_ | with_reducible refine w_intD_i ?_ | with_reducible refine w_min2 ?_ | with_reducible refine w_max2 ?_
  | with_reducible refine w_slc_l ?_ | with_reducible refine w_slc_t ?_ | with_reducible refine w_yes ?_ | with_reducible refine w_hCons ?_ | with_reducible refine w_hNil ?_ | ((with_reducible refine' w_hTup ?_ ?_); (exact rfl)) | with_reducible refine w_eKw ?_ | with_reducible refine w_at (atI_2 _ _ _ _) ?_ | with_reducible refine w_at (atI_3 _ _ _ _ _) ?_ | with_reducible refine w_at (atI_4 _ _ _ _ _ _) ?_
  | with_reducible refine Exists.intro _ (And.intro cell_hd (And.intro trivial ?_)) | with_reducible refine And.intro (le_line (by decide)) ?_)
local macro_rules | `(tactic| walk_at "tlew") => `(tactic| repeat (first | walk_at "tl1" | walk_at "tl3" | walk_at "tln" | (with_reducible walk_at "tlx") | dsimp only))
/-! TL28 -/
section
set_option maxHeartbeats 4000000
namespace TL
open PySem PySem.Spec PyProof.Rows L2
/-! ## what calls nothing: two words on it go together -/
inductive Still {α : Type} : Sem α → Prop
  | pure (a : α) : Still (.pure a)
  | unsup (w : String) : Still (.unsupported w)
  | rule {t : String} {k : Unit → Sem α} (h : Still (k ())) : Still (.rule t k)
  | load {a : Addr} {p : Option Value} {k : Obj → Sem α} (h : ∀ o, Still (k o)) : Still (.load a p k)
  | upd {a : Addr} {p : Option Value} {f : Obj → Obj} {k : Unit → Sem α} (h : Still (k ())) : Still (.update a p f k)
  | fresh {k : Tok → Sem α} (h : ∀ t, Still (k t)) : Still (.fresh k)
  | ask {k : Setting → Sem α} (h : ∀ t, Still (k t)) : Still (.ask k)
theorem wp_both {α : Type} {M : Model} {Γ : PySem.Ctx} {t : Sem α} (st : Still t) : ∀ {Q Q' : α → Pos → Shared → Prop} {E E' : Value → Pos → Shared → Prop} {p : Pos} {s : Shared}, Sem.wp M Γ t Q E p s → Sem.wp M Γ t Q' E' p s → Sem.wp M Γ t (fun a p s => Q a p s ∧ Q' a p s) (fun e p s => E e p s ∧ E' e p s) p s := by
  induction st with
  | pure a => intro Q Q' E E' p s h h'; exact ⟨h, h'⟩
  | unsup w => intro Q Q' E E' p s h h'; exact h
  | rule _ ih => intro Q Q' E E' p s h h'; exact ih h h'
  | load _ ih =>
    intro Q Q' E E' p s ⟨o, h1, h2⟩ ⟨o', h1', h2'⟩
    rw [h1] at h1'
    cases h1'
    exact ⟨o, h1, ih o h2 h2'⟩
  | upd _ ih => intro Q Q' E E' p s h h'; exact ⟨h.1, ih h.2 h'.2⟩
  | fresh _ ih => intro Q Q' E E' p s h h'; exact ih _ h h'
  | ask _ ih => intro Q Q' E E' p s h h'; exact ih _ h h'
theorem both {α : Type} {M : Model} {A : Around} {t : Sem α} {Q Q' : α → Shared → Prop} {E E' : Value → Shared → Prop} {s : Shared} (st : Still t) (h : wpAny M A t Q E s) (h' : wpAny M A t Q' E' s) : wpAny M A t (fun a s => Q a s ∧ Q' a s) (fun e s => E e s ∧ E' e s) s :=
  fun Γ p hΓ => wp_both st (h Γ p hΓ) (h' Γ p hΓ)
theorem Still.bind {α β : Type} {t : Sem α} {f : α → Sem β} (h : Still t) (k : ∀ a, Still (f a)) : Still (t >>= f) := by
  show Still (Sem.bind t f)
  induction h with
  | pure a => exact k a
  | unsup w => exact .unsup w
  | rule _ ih => exact .rule ih
  | load _ ih => exact .load ih
  | upd _ ih => exact .upd ih
  | fresh _ ih => exact .fresh ih
  | ask _ ih => exact .ask ih
theorem still_nsSet (ns : Addr) (x : Str) (v : Value) : Still (nsSet ns x v) := by
  unfold nsSet
  refine Still.bind ?_ fun h => Still.bind ?_ fun key => Still.bind ?_ fun o => ?_
  · unfold strHash
    exact Still.bind (.ask fun w => .pure w) fun w => .pure _
  · unfold mkText
    exact Still.bind (.fresh fun t => .pure t) fun t => .pure _
  · exact .load fun o => .pure o
  · split
    · split
      · exact Still.bind (.unsup _) fun _ => .upd (.pure _)
      · exact .upd (.pure _)
    · exact .unsup _
theorem still_cell (a : Addr) (v : Option Value) : Still (cellSet a v) := by
  unfold cellSet
  refine Still.bind (.load fun o => .pure o) fun o => ?_
  split
  · exact .upd (.pure _)
  · exact .unsup _
/-- the name x stands for just u -/
def RawAt (X : Cx) (s : Shared) (x : Str) (u : Value) : Prop :=
  (X.env.scope.names.lookup x = some .local ∧ ∃ m, s.heap.Ns X.env.locals m ∧ m x = some u) ∨ (X.env.scope.names.lookup x = some .cell ∧ ∃ c, X.env.cells.lookup x = some c ∧ s.heap.IsCell c (some u))
section
variable {X : Cx} {pins : List (Addr × Obj)} {σ : L2.St} {H : Hp} {s : Shared}
theorem store_raw {i : Nat} {x : Str} {v : V} {u : Value} {Q : Unit → Shared → Prop} {E : Value → Shared → Prop} (I : Inv X pins σ H s) (hN : X.N.Nodup) (hi : X.N[i]? = some x) (hx : Loc X.env.scope x) (r : RelV v u)
    (h : ∀ s', Inv X pins (σ.set i (some v)) H s' → RawAt X s' x u → Q () s') (hf : X.fn x = true ∨ X.env.scope.names.lookup x = some .local := by first | exact .inl rfl | exact .inr rfl | assumption) : wpAny (model X.prog X.w) X.A (storeName X.env x u) Q E s := by
  have one : wpAny (model X.prog X.w) X.A (storeName X.env x u) (fun _ s' => Inv X pins (σ.set i (some v)) H s') E s := store_ok I hN hi hx r (fun s' I' => I') hf
  have two : wpAny (model X.prog X.w) X.A (storeName X.env x u) (fun _ s' => RawAt X s' x u) E s ∧ Still (storeName X.env x u) := by
    have hcls : (X.env.scope.kind == .class || (X.env.scope.kind == .module && X.env.locals != X.env.globals)) = false := by rw [I.ok.kind]; rfl
    rcases hx with hk | hk
    · obtain ⟨m, hn, _⟩ := I.loc
      refine ⟨wpAny_storeName_local hk hn (fun h' hn' _ => .inl ⟨hk, _, hn', by simp⟩) hcls, ?_⟩
      rw [storeName_local hk hcls]
      exact still_nsSet _ _ _
    · obtain ⟨c, hc⟩ := I.ok.has x (.inl hk)
      obtain ⟨w', z⟩ := I.cell x c hc
      refine ⟨wpAny_storeName_cell I.ok.kind hk hc z fun h' hc' _ => .inr ⟨hk, c, hc, hc'⟩, ?_⟩
      have hk' : X.env.kindOf x = some .cell := hk
      unfold storeName
      simp only [hk', I.ok.kind]
      refine Still.bind ?_ fun a => still_cell a _
      unfold PySem.cellOf
      rw [hc]
      exact .pure c
  exact wpAny_mono (both two.2 one two.1) (fun _ s' ⟨q1, q2⟩ => h s' q1 q2) fun _ _ q => q.1
theorem raw_at {x : Str} {u : Value} {pos : Pos} {Q E : Value → Shared → Prop} (I : Inv X pins σ H s) (h : RawAt X s x u) (fin : Q u s) (hd : (x == ("__debug__" : Str)) = false := by decide) : wpAny (model X.prog X.w) X.A (eval (.Name x pos) X.env) Q E s := by
  rcases h with ⟨hk, m, hn, hm⟩ | ⟨hk, c, hc, hz⟩
  · exact wpAny_Name (wpAny_loadName_local I.ok.kind hk hn hm fin) hd
  · exact wpAny_Name (wpAny_loadName_cell I.ok.kind hk hc hz fin) hd
end
end TL
end
/-! TL29 -/
section
set_option maxHeartbeats 4000000
namespace TL
open PySem PySem.Spec PyProof.Rows L2
variable [TL.Lnk]
/-! ## y = 'text'[e]; z = k.replace(y, '') -/
def replR (iy iz ik : Nat) (C : Str) (v : PyData) (r : Rs) : Option Rs := match v with
  | .int j => (atI C.cps.toList j).bind fun c => match (r.set iy (.fz (.str ⟨#[c]⟩)))[ik]? with
    | some (.fz (.str L)) => if C.length ≤ sizeLine ∧ L.length ≤ 1000000 then some ((r.set iy (.fz (.str ⟨#[c]⟩))).set iz (.fz (.str (Txt.replace L ⟨#[c]⟩ "")))) else none
    | _ => none
  | _ => none
def sRepl (iy iz ik : Nat) (C : Str) (f : Ev) : Es := fun r m => (f r m).bind fun p => (replR iy iz ik C p.1 r).map fun r' => .nx r' p.2
theorem repl_some {iy iz ik : Nat} {C : Str} {f : Ev} {r : Rs} {m : Ms} {o : Out} (e : sRepl iy iz ik C f r m = some o) :
    ∃ (j : Int) (m1 : Ms) (c : Nat) (L : Str), f r m = some (.int j, m1) ∧ atI C.cps.toList j = some c ∧ (r.set iy (.fz (.str ⟨#[c]⟩)))[ik]? = some (.fz (.str L)) ∧ C.length ≤ sizeLine ∧ L.length ≤ 1000000 ∧ o = .nx ((r.set iy (.fz (.str ⟨#[c]⟩))).set iz (.fz (.str (Txt.replace L ⟨#[c]⟩ "")))) m1 := by
  unfold sRepl at e
  cases e1 : f r m with
  | none => rw [e1] at e; cases e
  | some p =>
    obtain ⟨d, m1⟩ := p
    rw [e1] at e
    simp only [Option.bind_some] at e
    unfold replR at e
    cases d with
    | int j =>
      simp only at e
      cases e2 : atI C.cps.toList j with
      | none => rw [e2] at e; cases e
      | some c =>
        rw [e2] at e
        simp only [Option.bind_some] at e
        split at e
        · rename_i L hL
          split at e
          · rename_i hz
            cases e
            exact ⟨j, m1, c, L, rfl, e2, hL, hz.1, hz.2, rfl⟩
          · cases e
        · cases e
    | _ => cases e
theorem qs_repl {X : Cx} {U : Hp} {n0 iy iz ik j0 j1 : Nat} {y z k : Str} {C : Str} {idx : Expr} {f : Ev} {rest : List Stmt} {s2 : Es} {p1 p2 p3 p4 p5 c0 c1 apos cpos spos tpos : Pos} (hN : X.N.Nodup) (hy : X.N[iy]? = some y) (hyl : Loc X.env.scope y) (hz : X.N[iz]? = some z) (hzl : Loc X.env.scope z) (hk : X.N[ik]? = some k) (hkv : Loc X.env.scope k)
    (hidx : PE X idx (tE X.K U f)) (hrest : PSs X rest (tS X.K U n0 s2)) (hyf : X.fn y = true ∨ X.env.scope.names.lookup y = some .local) (hzf : X.fn z = true ∨ X.env.scope.names.lookup z = some .local) (hs : PlainIx idx := by intro _ _; rfl)
    (hs1 : swapsWith (.Subscript (.Constant (.str C) j0 c0) idx p2) (some (.Name y p1)) spos.line X.env = pure false := by rfl)
    (hs2 : swapsWith (.Call (.Attribute (.Name k p4) "replace" apos) [.Name y p5, .Constant (.str "") j1 c1] [] cpos) (some (.Name z p3)) tpos.line X.env = pure false := by rfl)
    (hdk : (k == ("__debug__" : Str)) = false := by decide) (hck : (k == ("__classdict__" : Str)) = false := by decide) (hdy : (y == ("__debug__" : Str)) = false := by decide)
    (hst : starEach [.Name y p5, .Constant (.str "") j1 c1] X.env = [(false, eval (.Name y p5) X.env), (false, eval (.Constant (.str "") j1 c1) X.env)] := by rfl)
    (hbase : attributeBase (.Name k p4) "replace" X.env (eval (.Name k p4) X.env) = eval (.Name k p4) X.env := by rfl) (hline : (apos.endLine == cpos.line) = true := by rfl) :
    PSs X (.Assign [.Name y p1] (.Subscript (.Constant (.str C) j0 c0) idx p2) spos :: .Assign [.Name z p3] (.Call (.Attribute (.Name k p4) "replace" apos) [.Name y p5, .Constant (.str "") j1 c1] [] cpos) tpos :: rest) (tS X.K U n0 (sSeq (sRepl iy iz ik C f) s2)) := by
  refine ⟨fun pins s σ H D I ⟨A, F, r, m, o, G, hn, e, p⟩ => ?_⟩
  unfold sSeq at e
  cases e0 : sRepl iy iz ik C f r m with
  | none => rw [e0] at e; cases e
  | some o1 =>
    rw [e0] at e
    simp only [Option.bind_some] at e
    obtain ⟨j, m1, c, L, e1, e2, e3, hC, hL, rfl⟩ := repl_some e0
    simp only at e
    refine wpAny_execs_cons (wpAny_Assign_Name (Subscript_ (Calls.Constant_str ?_)) hs1)
    have reads : tE X.K U f σ H (fun w H1 => ∃ F1, w = V.int j ∧ Same F F1 ∧ Good X.K U A F1 H1 σ r m1) := ⟨A, F, r, m, .int j, m1, G, e1, fun F1 H1 w s1 G1 h1 => by
      cases h1
      exact ⟨F1, rfl, s1, G1⟩⟩
    refine wpAny_mono (PySem.wpAny_toks (hidx.run pins _ σ H _ (I.tok (s.toks + 1)) reads)) (fun u s1 ⟨k1, w, H1, I1, rw1, F1, ew, sF, G1⟩ => ?_) fun _ _ z => z.2
    subst ew
    obtain ⟨tj, rfl⟩ := rw1
    have k1 : s.toks + 1 ≤ s1.toks := k1
    obtain ⟨q, h1, h2, h3, h4, h5⟩ := atI_get e2
    have hl : C.cps.toList.length = C.length := by simp [Str.length]
    rw [hl] at h1 h4 h5
    have line := line63
    refine tail_any (typeIs_str s1 C s.toks) slot_str_getitem.lookup (getItem_str (c := c) (by
      have q1 : decide (j < -(2 ^ 63 : Int)) = false := decide_eq_false (by omega)
      have q2 : decide (j ≥ 2 ^ 63) = false := decide_eq_false (by omega)
      rw [q1, q2, Bool.or_false]) (by rw [h1]; simpa using h2) ?_) (hs _ _)
    refine wpAny_mono (PySem.wpAny_toks (store_raw (v := V.str ⟨#[c]⟩) (Q := fun _ s' => Inv X pins (σ.set iy (some (V.str ⟨#[c]⟩))) H1 s' ∧ RawAt X s' y (.str ⟨#[c]⟩ s1.toks)) (I1.tok (s1.toks + 1)) hN hy hyl ⟨s1.toks, rfl⟩ (fun s' q1 q2 => ⟨q1, q2⟩) hyf)) (fun _ s3 ⟨k3, I3, raw⟩ => ?_) fun _ _ z => z.2
    have k3 : s1.toks + 1 ≤ s3.toks := k3
    have G3 : Good X.K U A F1 H1 (σ.set iy (some (V.str ⟨#[c]⟩))) (r.set iy (.fz (.str ⟨#[c]⟩))) m1 := G1.setFz (.vs _)
    obtain ⟨vk, hvk, rk⟩ := G3.fz ik _ e3
    cases rk
    have hkv' : Vis X.env.scope k := hkv.elim .inl (fun q => .inr (.inl q))
    refine wpAny_execs_cons (wpAny_Assign_Name (PySem.Call_method2 hbase hst hline (raw_name hk hkv' I3 hvk (fun v rv => ?_) hdk hck)) hs2)
    obtain ⟨tx, rfl⟩ := rv
    refine ⟨"str", _, PySem.F.plainAttrs_str, PySem.F.slot_str_replace, PySem.F.type_str_replace, typeIs_str _ _ _, (fun _ e => nomatch e), Calls.callWith_builtin rfl (Calls.evalArgs_plain (Calls.spliced_cons ?_))⟩
    refine raw_at I3 raw ?_ hdy
    refine Calls.spliced_cons (Calls.Constant_str (Calls.spliced_nil ?_))
    have hyz : ((⟨#[c]⟩ : Str) == ("" : Str)) = false := by
      rw [beq_eq_false_iff_ne]
      intro q
      have := congrArg Str.length q
      cases this
    have hb : L.length + (L.length + 1) * ("" : Str).length ≤ 16777216 := by
      have : ("" : Str).length = 0 := rfl
      rw [this, Nat.mul_zero]
      omega
    refine PySem.SC.replace (u := s1.toks) (v := s3.toks) (show s1.toks ≠ 0 by omega) (show s3.toks ≠ 0 by omega) (show s1.toks ≠ s3.toks by omega) hyz hb fun t' kk => ?_
    refine store_ok (v := V.str (Txt.replace L ⟨#[c]⟩ "")) (I3.tok kk) hN hz hzl ⟨t', rfl⟩ (fun s5 I5 => ?_) hzf
    exact hrest.run pins s5 _ H1 D I5 ⟨A, F1, _, m1, o, G3.setFz (.vs _), hn, e, p.later (List.prefix_refl A) sF⟩
theorem w_repl {iy iz ik : Nat} {C : Str} {f : Ev} {r : Rs} {m : Ms} {Q : Out → Prop} (h : W (f r m) fun p => W (replR iy iz ik C p.1 r) fun r' => Q (.nx r' p.2)) : W (sRepl iy iz ik C f r m) Q := W.bind (W.mono h fun _ h => W.map h)
end TL
end
/-! TL30 -/
section
set_option maxHeartbeats 4000000
namespace TL
open PySem PySem.Spec PyProof.Rows L2
variable [TL.Lnk]
/-! ## bits, ord, sum, min of a list -/
def borD : PyData → PyData → Option PyData
  | .int i, .int j => some (.int (Builtin.bitOr i j))
  | _, _ => none
def bandD : PyData → PyData → Option PyData
  | .int i, .int j => some (.int (Builtin.bitAnd i j))
  | _, _ => none
def ordD : List PyData → Option PyData
  | [.str x] => if x.length = 1 then some (.int (x.cps.getD 0 0 : Nat)) else none
  | _ => none
def intsOf : List PyData → Option (List Int)
  | [] => some []
  | .int i :: ds => (intsOf ds).map (i :: ·)
  | _ => none
/-! ## keywords in any order, some left out -/
def eKwA (c k n : Nat) (ar : List PyData → List PyData) (g : List PyData → Option PyData) (f fk : Eas) : Ev := fun r m => (f r m).bind fun p => (fk r p.2).bind fun q => if p.1.length = c ∧ q.1.length = k then (arN n g (p.1 ++ ar q.1)).map fun d => (d, q.2) else none
section
variable {r : Rs} {m : Ms} {Q : PyData × Ms → Prop} {R : PyData → Prop} {fs : Eas} {i j : Int} {x : Str} {ns : List Int} {d : PyData}
theorem w_bor (q : R (.int (Builtin.bitOr i j))) : W (borD (.int i) (.int j)) R := .mk q
theorem w_band (q : R (.int (Builtin.bitAnd i j))) : W (bandD (.int i) (.int j)) R := .mk q
theorem w_ord {c : Nat} (q : R (.int (c : Nat))) : W (ordD [.str ⟨#[c]⟩]) R := by
  unfold ordD
  exact W.guard rfl (.mk q)
theorem w_eKwA {c k n : Nat} {ar : List PyData → List PyData} {u : List PyData → Option PyData} {fk : Eas} (q : W (fs r m) fun p => W (fk r p.2) fun z => p.1.length = c ∧ z.1.length = k ∧ W (arN n u (p.1 ++ ar z.1)) fun d => Q (d, z.2)) : W (eKwA c k n ar u fs fk r m) Q :=
  W.bind (W.mono q fun p q => W.bind (W.mono q fun z ⟨e1, e2, q⟩ => W.guard ⟨e1, e2⟩ (W.map q)))
end
end TL
end
/-! TL31 -/
section
set_option maxHeartbeats 4000000
namespace TL
open PySem L2
/-! ## texts whose signs have a property -/
def Lp (P : Nat → Prop) (n : Nat) (s : Str) : Prop := s.cps.size ≤ n ∧ ∀ c ∈ s.cps.toList, P c
section
variable {P : Nat → Prop} {n k : Nat} {s t : Str}
theorem Lp.mono (h : Lp P n s) (l : n ≤ k) : Lp P k s := ⟨Nat.le_trans h.1 l, h.2⟩
theorem Lp.app (h : Lp P n s) (h' : Lp P k t) : Lp P (n + k) (s ++ t) := by
  have e : (s ++ t).cps = s.cps ++ t.cps := rfl
  refine ⟨?_, fun c hc => ?_⟩
  · rw [e, Array.size_append]
    have := h.1
    have := h'.1
    omega
  · rw [e, Array.toList_append] at hc
    rcases List.mem_append.mp hc with q | q
    · exact h.2 c q
    · exact h'.2 c q
theorem Lp.one {c : Nat} (h : P c) : Lp P 1 ⟨#[c]⟩ := ⟨Nat.le_refl 1, fun d hd => by
  have : d = c := by simpa using hd
  rw [this]
  exact h⟩
theorem Lp.mul (h : Lp P n s) (k : Int) : Lp P (n * k.toNat) (Txt.mul s k) := by
  unfold Txt.mul
  split
  · exact ⟨Nat.zero_le _, fun c hc => by cases hc⟩
  · split
    · rename_i h1 h2
      refine ⟨?_, h.2⟩
      have : 1 ≤ k.toNat := by omega
      exact Nat.le_trans h.1 (by
        have := Nat.mul_le_mul_left n this
        rwa [Nat.mul_one] at this)
    · have e := fold_app (List.replicate k.toNat s.cps) #[]
      rw [List.map_replicate] at e
      refine ⟨?_, fun c hc => ?_⟩
      · show ((List.replicate k.toNat s.cps).foldl (· ++ ·) #[]).size ≤ _
        rw [← Array.length_toList, e, List.length_append, List.length_flatten, List.map_replicate, List.sum_replicate_nat, Array.length_toList]
        have := Nat.mul_le_mul_left k.toNat h.1
        rw [Nat.mul_comm n]
        simpa using this
      · have hc' : c ∈ ((List.replicate k.toNat s.cps).foldl (· ++ ·) #[]).toList := hc
        rw [e, List.mem_append] at hc'
        rcases hc' with q | q
        · cases q
        · obtain ⟨l, hl, hc2⟩ := List.mem_flatten.mp q
          rw [List.eq_of_mem_replicate hl] at hc2
          exact h.2 c hc2
theorem Lp.lw (h : Lp P n s) (hP : ∀ c, P c → c < 128) : Lw n s := ⟨h.1, fun c hc => hP c (h.2 c hc)⟩
end
/-- small letters -/
def isL (c : Nat) : Prop := 97 ≤ c ∧ c < 123
abbrev Lc (n : Nat) (s : Str) : Prop := Lp isL n s
theorem Lc.lw {n : Nat} {s : Str} (h : Lc n s) : Lw n s := Lp.lw h fun c hc => by have := hc.2; omega
theorem Lc.nil {n : Nat} : Lc n "" := ⟨Nat.zero_le _, fun c hc => by cases hc⟩
end TL
end
open PySem L2 TL
local macro_rules | `(tactic| walk_at "tl5") => `(tactic| first
  | with_reducible refine w_bor ?_ | with_reducible refine w_band ?_ | with_reducible refine w_ord ?_ | with_reducible refine w_eKwA ?_ | with_reducible refine w_repl ?_ | with_reducible refine And.intro trivial ?_)
local macro_rules | `(tactic| walk_at "tlex") => `(tactic| repeat (first | walk_at "tl1" | walk_at "tl3" | walk_at "tl5" | walk_at "tln" | (with_reducible walk_at "tlx") | dsimp only))
/-! TL32 -/
section
set_option maxHeartbeats 4000000
namespace TL
open PySem PySem.Spec PyProof.Rows L2 HT
variable [TL.Lnk]
/-! ## divmod -/
def divmodD : List PyData → Option PyData
  | [.int i, .int j] => if 0 < j ∧ Builtin.Int.intBits i ≤ Builtin.Int.intBits j + 4000 then some (.tuple [.int (i / j), .int (i % j)]) else none
  | _ => none
section
variable {X : Cx} {U : Hp}
theorem cd_divmod : CallD X U (fun xs H Q => ∃ i j, xs = [.int i, .int j] ∧ CDivP i j ∧ ∀ p, H p = none → Q (.ref p) (upd H p (.tup [.int (i / j), .int (i % j)]))) divmodD := by
  intro A F H σ r m vs ds d Q G ha e k
  unfold divmodD at e
  split at e
  · split at e
    · rename_i hz
      cases e
      obtain ⟨v, w, rfl, h1, h2⟩ := rpa2 ha
      cases h1
      cases h2
      refine ⟨_, _, rfl, divp_ok hz.1 hz.2, fun p np => ?_⟩
      have sF := fun (o : HO) => same_new (o := o) (G.nope np).1
      exact k _ _ _ (sF _) (G.laid np) (.vt (.inl (.inl upd_same)) (.cons (.vi _) (.cons (.vi _) .nil)))
    · cases e
  · cases e
end
/-! ## e[::-1] -/
section
variable {prog : Program} {w : World} {A : Around} {E : Value → Shared → Prop} {s : Shared}
theorem sliceApplied_rev {sl : Addr} {u : Tok} {n : Nat} {Q : Int × Int × Nat → Shared → Prop} (hs : s.heap.IsSliceOf sl .none .none (.int (-1) u))
    (h : Q ((n : Int) - 1, -1, n) s) : wpAny (model prog w) A (Builtin.Slice.sliceApplied (.ref sl) (pure (n : Int))) Q E s := by
  obtain ⟨os, hos, hcs, hds⟩ := id hs
  unfold Builtin.Slice.sliceApplied Builtin.Slice.sliceFields
  refine wpAny_bind (wpAny_bind (wpAny_field hos hds (x := .none) rfl (wpAny_bind (wpAny_field hos hds (x := .none) rfl (wpAny_bind (wpAny_field hos hds (x := .int (-1) u) rfl (wpAny_pure ?_)))))))
  refine wpAny_bind (slicePart_int ?_)
  show wpAny _ _ (if ((-1 : Int) == 0) = true then _ else _) _ _ s
  rw [if_neg (by decide)]
  refine wpAny_bind (slicePart_none (wpAny_bind (slicePart_none (wpAny_bind (wpAny_pure ?_)))))
  have e1 : Builtin.Slice.sliceAdjust none none (-1) (n : Int) = ((n : Int) - 1, -1) := by
    unfold Builtin.Slice.sliceAdjust
    simp
  show wpAny _ _ (match Builtin.Slice.sliceAdjust none none (-1) (n : Int) with | (lo, hi) => pure (lo, (-1 : Int), Builtin.Slice.slicePlaces lo hi (-1))) _ _ s
  rw [e1]
  have e2 : Builtin.Slice.slicePlaces ((n : Int) - 1) (-1) (-1) = n := by
    unfold Builtin.Slice.slicePlaces
    simp
    omega
  show wpAny _ _ (pure ((n : Int) - 1, (-1 : Int), Builtin.Slice.slicePlaces ((n : Int) - 1) (-1) (-1))) _ _ s
  rw [e2]
  exact wpAny_pure h
theorem fm_range {f : Nat → Option Value} {l : List Value} (h : ∀ m, m < l.length → f m = l[m]?) : ∀ n, n ≤ l.length → (List.range n).filterMap f = l.take n
  | 0, _ => by simp
  | n + 1, hn => by
    rw [List.range_succ, List.filterMap_append, fm_range h n (by omega), List.take_add_one]
    congr 1
    rw [List.filterMap_cons, h n (by omega)]
    cases l[n]? <;> rfl
theorem pick_rev (xs : Array Value) : ((List.range xs.size).filterMap fun (m : Nat) => xs[(((xs.size : Int) - 1) + (m : Int) * (-1)).toNat]?) = xs.toList.reverse := by
  have hl : xs.toList.reverse.length = xs.size := by rw [List.length_reverse, Array.length_toList]
  have := fm_range (f := fun (m : Nat) => xs[(((xs.size : Int) - 1) + (m : Int) * (-1)).toNat]?) (l := xs.toList.reverse) (fun m hm => by
    rw [hl] at hm
    have e1 : (((xs.size : Int) - 1) + (m : Int) * (-1)).toNat = xs.size - 1 - m := by omega
    show xs[(((xs.size : Int) - 1) + (m : Int) * (-1)).toNat]? = _
    rw [e1, List.getElem?_reverse (by rw [Array.length_toList]; exact hm), Array.length_toList, ← Array.getElem?_toList]) xs.size (Nat.le_of_eq hl.symm)
  rw [this, List.take_of_length_le (Nat.le_of_eq hl)]
theorem getItem_tuple_rev {t sl : Addr} {items : Array Value} {u : Tok} {Q : Value → Shared → Prop} (ht : IsTup s.heap t items) (hs : s.heap.IsSliceOf sl .none .none (.int (-1) u))
    (h : Q (.ref s.heap.objs.size) { s with heap := s.heap.push { cls := .type "tuple", data := .seq items.toList.reverse.toArray } })
    (hsz : items.size ≤ sizeLine) : wpAny (model prog w) A (getItem (.ref t) (.ref sl)) Q E s := by
  have htake : sizeOk (.seq items.toList.reverse.toArray) := by
    show items.toList.reverse.toArray.size ≤ sizeLine
    rw [List.size_toArray, List.length_reverse, Array.length_toList]
    exact hsz
  obtain ⟨os, hos, hcs, hds⟩ := id hs
  have hTs : s.TypeIs (.ref sl) "slice" := ⟨os, hos, hcs⟩
  unfold getItem
  try with_reducible refine wpAny_holding ?_
  first | refine wpAny_bind (wpAny_pure ?_) | skip
  refine wpAny_bind (wpAny_sequenceKey ht.typeIs (by decide) ?_)
  refine wpAny_bind (wpAny_callSpecial?_slot (name := Str.ofString "__getitem__") ht.typeIs PyProof.Rows.slot_tuple_getitem
    (wpAny_call_entry PyProof.Rows.slot_tuple_getitem ht.typeIs entry_tuple_getitem ?_ (args_tuple_getitem _ _)))
  show wpAny _ _ (Builtin.Tuple.tupleItemsOf (.ref t) >>= _) _ _ s
  refine wpAny_bind (tupleItemsOf_ ht ?_)
  refine wpAny_bind (wpAny_typeOf hTs ?_)
  rw [if_pos (by decide)]
  refine wpAny_bind (sliceApplied_rev hs ?_)
  have hno : ¬ ((((items.size : Int) - 1) == 0 && (-1 : Int) == 1 && items.size == items.size) = true) := by
    intro q
    rw [Bool.and_eq_true, Bool.and_eq_true] at q
    exact absurd q.1.2 (by decide)
  show wpAny _ _ (if (((items.size : Int) - 1) == 0 && (-1 : Int) == 1 && items.size == items.size) = true then _ else _) _ _ s
  rw [if_neg hno, pick_rev]
  first
    | exact wpAny_bind (m := Builtin.Tuple.tupleExact _) (wpAny_newObj_type (wpAny_pure ⟨_, rfl, wpAny_pure h⟩) htake)
    | exact wpAny_bind (m := Builtin.Tuple.tupleExact _) (wpAny_newObj_type (wpAny_bind (wpAny_pure (wpAny_pure ⟨_, rfl, wpAny_pure h⟩))) htake)
    | exact wpAny_bind (wpAny_bind (m := Builtin.Tuple.tupleExact _) (wpAny_newObj_type (wpAny_pure (wpAny_pure ⟨_, rfl, wpAny_pure h⟩)) htake))
    | exact wpAny_bind (wpAny_bind (m := Builtin.Tuple.tupleExact _) (wpAny_newObj_type (wpAny_pure ⟨_, rfl, wpAny_pure h⟩) htake))
end
def tRevA (K : PySem.W.Frag) (te : TE) : TE := fun σ H Q => te σ H fun x H1 => (∃ a xs, x = .ref a ∧ SqL K H1 a xs ∧ ∀ p, H1 p = none → Q (.ref p) (upd H1 p (.lst xs.reverse))) ∨
  (∃ a xs, x = .ref a ∧ SqT K H1 a xs ∧ ∀ p, H1 p = none → Q (.ref p) (upd H1 p (.tup xs.reverse)))
section
variable {X : Cx} {U : Hp}
theorem pe_revA {e : Expr} {te : TE} {k : Nat} {p1 p2 p3 pos : Pos} (he : PE X e te) : PE X (.Subscript e (.Slice none none (some (.UnaryOp .USub (.Constant (.int 1) k p1) p2)) p3) pos) (tRevA X.K te) := by
  refine ⟨fun pins s σ H Q I h => ?_⟩
  refine Subscript_ (thn (he.run pins s σ H _ I h) fun v s1 ⟨x, H1, I1, r1, q1⟩ => ?_)
  have hst : PO X (some (.UnaryOp .USub (.Constant (.int 1) k p1) p2)) (tPart (tUn (rU fun i => .int (-i)) (tC (.int 1)))) := po_some (pe_un un_neg pe_int)
  refine wpAny_Slice (thn (po_none.run pins s1 σ H1 (fun o H2 => o = none ∧ H2 = H1) I1 ⟨rfl, rfl⟩) fun vl s2 ⟨l, H2, I2, pl, el, e2⟩ => ?_)
  subst el e2
  refine thn (po_none.run pins s2 σ H2 (fun o H3 => o = none ∧ H3 = H2) I2 ⟨rfl, rfl⟩) fun vu s3 ⟨u, H3, I3, pu, eu, e3⟩ => ?_
  subst eu e3
  refine thn (hst.run pins s3 σ H3 (fun o H4 => o = some (-1) ∧ H4 = H3) I3 ⟨1, rfl, -1, rfl, rfl, rfl⟩) fun vs s4 ⟨o, H4, I4, ps, eo, e4⟩ => ?_
  subst eo e4
  have I5 : Inv X pins σ H4 { s4 with heap := s4.heap.push { cls := .type "slice", data := .fields #[vl, vu, vs] } } := I4.kept (t' := s4.toks) fun b ob q => Heap.get?_push_of_some _ q
  rcases q1 with q1 | q1
  · obtain ⟨a, xs, ex, hx, q⟩ := q1
    subst ex
    cases r1
    obtain ⟨its, r, ht, hz⟩ := I5.list hx
    have hlen := r.length
    show wpAny (model X.prog X.w) X.A (subscriptTail e (.Slice none none (some (.UnaryOp .USub (.Constant (.int 1) k p1) p2)) p3) (.ref a) (.ref s4.heap.objs.size)) (EP X pins σ Q) X.xe { s4 with heap := s4.heap.push { cls := .type "slice", data := .fields #[vl, vu, vs] } }
    refine tail_any (ops := [.ref a, .ref s4.heap.objs.size]) ht.isList.typeIs (PySem.slot_list_getitem.lookup) ?_ (by with_unfolding_all rfl)
    refine wpAny_getItem_list_slice ht.isList (Heap.IsSliceOf.new _ vl vu vs) pl pu ps (by decide) ?_ (by rw [List.size_toArray]; omega)
    rw [PySem.W.krv_pick]
    refine ⟨.ref _, _, I5.laid (t' := s4.toks) (o := .lst xs.reverse) (fun b ob q => Heap.get?_push_of_some _ q) (Nat.le_refl _) ?_, rfl, q _ (I5.hok.fresh (Nat.le_refl _))⟩
    exact ⟨by rw [List.length_reverse]; exact hz, its.reverse, 0, r.reverse, Heap.get?_push_size _ rfl⟩
  · obtain ⟨a, xs, ex, hx, q⟩ := q1
    subst ex
    cases r1
    obtain ⟨its, r, ht, hz⟩ := I5.tuple hx
    have hlen := r.length
    cases pl
    cases pu
    cases ps with
    | int _ tk =>
    show wpAny (model X.prog X.w) X.A (subscriptTail e (.Slice none none (some (.UnaryOp .USub (.Constant (.int 1) k p1) p2)) p3) (.ref a) (.ref s4.heap.objs.size)) (EP X pins σ Q) X.xe { s4 with heap := s4.heap.push { cls := .type "slice", data := .fields #[.none, .none, .int (-1) tk] } }
    refine tail_any (ops := [.ref a, .ref s4.heap.objs.size]) ht.typeIs (PyProof.Rows.slot_tuple_getitem.lookup) ?_ (by with_unfolding_all rfl)
    refine getItem_tuple_rev ht (Heap.IsSliceOf.new _ .none .none (.int (-1) tk)) ?_ (by rw [List.size_toArray]; omega)
    refine ⟨.ref _, _, I5.laid (t' := s4.toks) (o := .tup xs.reverse) (fun b ob q => Heap.get?_push_of_some _ q) (Nat.le_refl _) ?_, rfl, q _ (I5.hok.fresh (Nat.le_refl _))⟩
    exact ⟨by rw [List.length_reverse]; exact hz, its.reverse, r.reverse, IsTup.new _ _⟩
theorem rpa_rev {K : PySem.W.Frag} {F : Hp} : ∀ {vs : List V} {ds : List PyData}, RpAll K F vs ds → RpAll K F vs.reverse ds.reverse
  | _, _, .nil => .nil
  | _, _, .cons h t => by
    rw [List.reverse_cons, List.reverse_cons]
    exact rpa_app (rpa_rev t) (.cons h .nil)
def revD : PyData → Option PyData
  | .list ds => some (.list ds.reverse)
  | .tuple ds => some (.tuple ds.reverse)
  | _ => none
theorem qe_rev {e : Expr} {f : Ev} {k : Nat} {p1 p2 p3 pos : Pos} (he : PE X e (tE X.K U f)) : PE X (.Subscript e (.Slice none none (some (.UnaryOp .USub (.Constant (.int 1) k p1) p2)) p3) pos) (tE X.K U (eMap f revD)) := pe_weak (pe_revA he) fun σ H Q ⟨A, F, r, m, d, m', G, e, k⟩ => by
  obtain ⟨d1, e1, e2⟩ := map_some e
  refine ⟨A, F, r, m, d1, m', G, e1, fun F1 H1 x s1 G1 h1 => ?_⟩
  unfold revD at e2
  split at e2
  · cases e2
    cases h1 with
    | vl sa ra =>
      refine .inl ⟨_, _, rfl, sqL_mono G1.sub sa, fun p np => ?_⟩
      have sF := fun (o : HO) => same_new (o := o) (G1.nope np).1
      exact k _ _ _ (s1.trans (sF _)) (G1.laid np) (.vl (.inl (.inl upd_same)) (Rpam (sF _) (rpa_rev ra)))
  · cases e2
    cases h1 with
    | vt sa ra =>
      refine .inr ⟨_, _, rfl, seqT_mono G1.sub sa, fun p np => ?_⟩
      have sF := fun (o : HO) => same_new (o := o) (G1.nope np).1
      exact k _ _ _ (s1.trans (sF _)) (G1.laid np) (.vt (.inl (.inl upd_same)) (Rpam (sF _) (rpa_rev ra)))
  · cases e2
/-! ## sep.join(texts) -/
def strsOf : List PyData → Option (List Str)
  | [] => some []
  | .str s :: ds => (strsOf ds).map fun r => s :: r
  | _ :: _ => none
theorem strs_map : ∀ ss : List Str, strsOf (ss.map .str) = some ss
  | [] => rfl
  | s :: ss => by
    show (strsOf (ss.map .str)).map _ = _
    rw [strs_map ss]
    rfl
theorem strs_some : ∀ {ds : List PyData} {ss : List Str}, strsOf ds = some ss → ds = ss.map .str
  | [], _, e => by cases e; rfl
  | d :: ds, ss, e => by
    cases d with
    | str s =>
      have e : (strsOf ds).map (fun r => s :: r) = some ss := e
      cases e1 : strsOf ds with
      | none => rw [e1] at e; cases e
      | some r =>
        rw [e1] at e
        cases e
        rw [strs_some e1]
        rfl
    | _ => cases e
theorem rpa_strs_inv {K : PySem.W.Frag} {F : Hp} : ∀ {vs : List V} {ss : List Str}, RpAll K F vs (ss.map .str) → vs = ss.map V.str
  | _, [], h => by cases h; rfl
  | _, s :: ss, h => by
    cases h with
    | cons h1 h2 =>
      cases h1
      rw [rpa_strs_inv h2]
      rfl
def joinD (a : Str) : List PyData → Option PyData
  | [.list ds] => (strsOf ds).bind fun ys => if (ys.map (·.length)).sum + ys.length * a.length ≤ 16777216 then some (.str (Txt.join a ys)) else none
  | [.tuple ds] => (strsOf ds).bind fun ys => if (ys.map (·.length)).sum + ys.length * a.length ≤ 16777216 then some (.str (Txt.join a ys)) else none
  | _ => none
theorem md_join : MtD X U (fun x xs H Q => ∃ a p, ∃ ys : List Str, x = .str a ∧ xs = [.ref p] ∧ (SqL X.K H p (ys.map V.str) ∨ SqT X.K H p (ys.map V.str)) ∧
    (ys.map (·.length)).sum + ys.length * a.length ≤ 16777216 ∧ Q (.str (Txt.join a ys)) H) joinD := by
  intro A F H σ r m z xs ds d Q G ha e k
  unfold joinD at e
  split at e
  · rename_i ds
    obtain ⟨v, rfl, h⟩ := rpa1 ha
    cases h with
    | vl sa ra =>
      cases e1 : strsOf ds with
      | none => rw [e1] at e; cases e
      | some ys =>
        rw [e1] at e
        simp only [Option.bind_some] at e
        split at e
        · rename_i hz
          cases e
          rw [strs_some e1] at ra
          rw [rpa_strs_inv ra] at sa
          exact ⟨z, _, ys, rfl, rfl, .inl (sqL_mono G.sub sa), hz, k F H _ (Same.refl F) G (.vs _)⟩
        · cases e
  · rename_i ds
    obtain ⟨v, rfl, h⟩ := rpa1 ha
    cases h with
    | vt sa ra =>
      cases e1 : strsOf ds with
      | none => rw [e1] at e; cases e
      | some ys =>
        rw [e1] at e
        simp only [Option.bind_some] at e
        split at e
        · rename_i hz
          cases e
          rw [strs_some e1] at ra
          rw [rpa_strs_inv ra] at sa
          exact ⟨z, _, ys, rfl, rfl, .inr (seqT_mono G.sub sa), hz, k F H _ (Same.refl F) G (.vs _)⟩
        · cases e
  · cases e
end
/-! ## reckoned -/
section
variable {R : PyData → Prop} {ds : List PyData} {i j : Int}
theorem w_divmod (h0 : 0 < j) (h1 : Builtin.Int.intBits i ≤ 4000) (q : R (.tuple [.int (i / j), .int (i % j)])) : W (divmodD [.int i, .int j]) R := W.guard ⟨h0, by omega⟩ (.mk q)
theorem w_rev_l (q : R (.list ds.reverse)) : W (revD (.list ds)) R := .mk q
theorem w_join {a : Str} {ys : List Str} (h : (ys.map (·.length)).sum + ys.length * a.length ≤ 16777216) (q : R (.str (Txt.join a ys))) : W (joinD a [.list (ys.map .str)]) R := by
  show W ((strsOf (ys.map .str)).bind _) R
  rw [strs_map]
  exact W.guard h (.mk q)
end
end TL
end
/-! TL33 -/
section
set_option maxHeartbeats 4000000
namespace TL
open PySem PySem.Spec PyProof.Rows L2
variable [TL.Lnk]
/-! ## repr of any data that is no dict -/
/-! ## what is shown tells the data -/
/-- plain signs: no quotes, no backslash -/
def isP (c : Nat) : Prop := 32 ≤ c ∧ c < 127 ∧ c ≠ 39 ∧ c ≠ 92
instance {c : Nat} : Decidable (isP c) := inferInstanceAs (Decidable (_ ∧ _))
mutual
inductive Pl : PyData → Prop
  | non : Pl .none
  | bool (b : Bool) : Pl (.bool b)
  | int (i : Int) : Pl (.int i)
  | str {x : Str} (h : ∀ c ∈ x.cps.toList, isP c) : Pl (.str x)
  | lst {ds : List PyData} (h : PlAll ds) : Pl (.list ds)
  | tup {ds : List PyData} (h : PlAll ds) : Pl (.tuple ds)
inductive PlAll : List PyData → Prop
  | nil : PlAll []
  | cons {d : PyData} {ds : List PyData} (h : Pl d) (t : PlAll ds) : PlAll (d :: ds)
end
theorem PlAll.of : ∀ {ds : List PyData}, (∀ d ∈ ds, Pl d) → PlAll ds
  | [], _ => .nil
  | d :: ds, h => .cons (h d List.mem_cons_self) (PlAll.of fun x hx => h x (List.mem_cons_of_mem _ hx))
def sI (i : Int) : List Nat := (Str.ofString (toString i)).cps.toList
mutual
def sh : PyData → List Nat
  | .none => [78, 111, 110, 101]
  | .bool b => if b then [84, 114, 117, 101] else [70, 97, 108, 115, 101]
  | .int i => sI i
  | .str x => 39 :: (x.cps.toList ++ [39])
  | .list [] => [91, 93]
  | .list (d :: ds) => 91 :: (sh d ++ shR 93 ds)
  | .tuple [] => [40, 41]
  | .tuple [d] => 40 :: (sh d ++ [44, 41])
  | .tuple (d :: e :: ds) => 40 :: (sh d ++ shR 41 (e :: ds))
  | .dict _ => []
def shR (c : Nat) : List PyData → List Nat
  | [] => [c]
  | d :: ds => 44 :: 32 :: (sh d ++ shR c ds)
end
/-! ### numbers -/
end TL
end
/-! TL34 -/
section
set_option maxHeartbeats 4000000
namespace TL
open PySem L2
variable [TL.Lnk]
/-! ## a, b = x, y: two names -/
/-! ## what is shown, of numbers to some 40 figures -/
mutual
theorem its_more : ∀ d : PyData, d.intsShort 13 = true → d.intsShort 40 = true
  | .none, _ => rfl
  | .bool _, _ => rfl
  | .str _, _ => rfl
  | .dict _, _ => rfl
  | .int i, h => by
    simp only [PyData.intsShort, decide_eq_true_eq] at h ⊢
    omega
  | .list xs, h => by
    simp only [PyData.intsShort] at h ⊢
    exact its_moreA xs h
  | .tuple xs, h => by
    simp only [PyData.intsShort] at h ⊢
    exact its_moreA xs h
theorem its_moreA : ∀ xs : List PyData, PyData.intsShortAll 13 xs = true → PyData.intsShortAll 40 xs = true
  | [], _ => rfl
  | x :: xs, h => by
    simp only [PyData.intsShortAll, Bool.and_eq_true] at h ⊢
    exact ⟨its_more x h.1, its_moreA xs h.2⟩
end
structure Sx (w k : Nat) (d : PyData) : Prop where
  lay : d.canLay0 = true
  dep : d.depth ≤ k
  its : d.intsShort 40 = true
  shw : d.showable = true
  wgt : d.weight ≤ w
section
variable {w k n : Nat} {d : PyData} {ds : List PyData}
theorem Sx.mono {w' k' : Nat} (h : Sx w k d) (a : w ≤ w') (b : k ≤ k') : Sx w' k' d := ⟨h.lay, Nat.le_trans h.dep b, h.its, h.shw, Nat.le_trans h.wgt a⟩
theorem Sx.str {s : Str} (h : Lw n s) : Sx n 0 (.str s) := ⟨h.ok, by simp [PyData.depth], rfl, rfl, h.1⟩
theorem Sx.non : Sx 0 0 .none := ⟨rfl, by simp [PyData.depth], rfl, rfl, by simp [PyData.weight]⟩
theorem Sx.bool {b : Bool} : Sx 0 0 (.bool b) := ⟨rfl, by simp [PyData.depth], rfl, rfl, by simp [PyData.weight]⟩
theorem Sx.int {i : Int} (h0 : -100000000000000000000000000000000000 < i) (h1 : i < 100000000000000000000000000000000000) : Sx 120 0 (.int i) := by
  have hn : i.natAbs < 10 ^ 35 := by
    have : (10 : Nat) ^ 35 = 100000000000000000000000000000000000 := by decide +kernel
    omega
  have hl : i.natAbs = 0 ∨ i.natAbs.log2 < 117 := by
    by_cases hz : i.natAbs = 0
    · exact .inl hz
    · exact .inr ((Nat.log2_lt hz).mpr (Nat.lt_trans hn (by decide +kernel)))
  refine ⟨rfl, by simp [PyData.depth], ?_, ?_, ?_⟩
  · simp only [PyData.intsShort, decide_eq_true_eq]
    have e := int_text_length_le10 (k := 35) (by decide) hn
    show (Str.ofString (toString i)).length ≤ 40
    rw [ofString_length]
    omega
  · simp only [PyData.showable, decide_eq_true_eq]
    rcases hl with q | q
    · rw [q]; decide
    · omega
  · simp only [PyData.weight]
    split
    · exact Nat.zero_le _
    · rcases hl with q | q
      · rw [q]; decide
      · omega
theorem itx_all : ∀ {ds : List PyData}, (∀ d ∈ ds, d.intsShort 40 = true) → PyData.intsShortAll 40 ds = true
  | [], _ => rfl
  | d :: ds, h => by
    simp only [PyData.intsShortAll, Bool.and_eq_true]
    exact ⟨h d List.mem_cons_self, itx_all fun x hx => h x (List.mem_cons_of_mem _ hx)⟩
theorem Sx.lst (h : ∀ d ∈ ds, Sx w k d) (hl : ds.length ≤ n) : Sx (n * (w + 1)) (k + 1) (.list ds) := by
  have a := depth_all fun d hd => (h d hd).dep
  have b := wgt_all fun d hd => (h d hd).wgt
  have c := Nat.mul_le_mul_right (w + 1) hl
  exact ⟨by simp only [PyData.canLay0]; exact lay_all fun d hd => (h d hd).lay, by simp only [PyData.depth]; omega, by simp only [PyData.intsShort]; exact itx_all fun d hd => (h d hd).its, by simp only [PyData.showable]; exact shw_all fun d hd => (h d hd).shw, by simp only [PyData.weight]; omega⟩
theorem Sx.tup (h : ∀ d ∈ ds, Sx w k d) (hl : ds.length ≤ n) : Sx (n * (w + 1)) (k + 1) (.tuple ds) := by
  have a := depth_all fun d hd => (h d hd).dep
  have b := wgt_all fun d hd => (h d hd).wgt
  have c := Nat.mul_le_mul_right (w + 1) hl
  exact ⟨by simp only [PyData.canLay0]; exact lay_all fun d hd => (h d hd).lay, by simp only [PyData.depth]; omega, by simp only [PyData.intsShort]; exact itx_all fun d hd => (h d hd).its, by simp only [PyData.showable]; exact shw_all fun d hd => (h d hd).shw, by simp only [PyData.weight]; omega⟩
theorem Sx.shaped (h : Sx w k d) (hk : k ≤ 62) : SeqAt.shaped d = true := shaped_of h.lay (by have := h.dep; omega)
theorem Sx.of (h : Sh w k d) : Sx w k d := ⟨h.lay, h.dep, its_more d h.its, h.shw, h.wgt⟩
end
/-! ## isinstance -/
def isT (T : String) : PyData → Bool
  | .int _ => T == "int"
  | .bool _ => T == "int" || T == "bool"
  | .str _ => T == "str"
  | .list _ => T == "list"
  | .tuple _ => T == "tuple"
  | .dict _ => T == "dict"
  | .none => false
theorem w_isi {T : String} {d : PyData} {R : PyData → Prop} (hT : T ∈ ["int", "bool", "str", "list", "tuple", "dict"]) (hS : isSetD d = false) (q : R (.bool (isT T d))) : W (isiD T d) R := by
  refine W.of ?_ q
  unfold isiD
  rw [if_neg (by rw [hS]; exact Bool.false_ne_true)]
  simp only [List.mem_cons, List.not_mem_nil, or_false] at hT
  rcases hT with e | e | e | e | e | e <;> subst e <;> cases d <;> rfl
theorem w_isi_int {d : PyData} {R : PyData → Prop} (q : R (.bool (isT "int" d))) (hS : isSetD d = false := by first | rfl | assumption) : W (isiD "int" d) R := w_isi (by decide) hS q
theorem w_isi_bool {d : PyData} {R : PyData → Prop} (q : R (.bool (isT "bool" d))) (hS : isSetD d = false := by first | rfl | assumption) : W (isiD "bool" d) R := w_isi (by decide) hS q
theorem w_isi_list {d : PyData} {R : PyData → Prop} (q : R (.bool (isT "list" d))) (hS : isSetD d = false := by first | rfl | assumption) : W (isiD "list" d) R := w_isi (by decide) hS q
end TL
end
/-! TL35 -/
section
set_option maxHeartbeats 4000000
namespace TL
open PySem L2
variable [TL.Lnk]
/-! ## x[i], x[j] = (a, b): x a cell -/
def putC (k : Nat) (v : PyData) (q : PyData × Ms) : Option Ms := (cellAt q.2 k).bind fun c => match c, q.1 with
  | .list ds, .int j => (ixN ds.length j).map fun n => q.2.set k (some (.list (ds.set n v)))
  | _, _ => none
end TL
end
/-! TL36 -/
section
set_option maxHeartbeats 4000000
namespace TL
open PySem PySem.Spec PyProof.Rows L2
variable [TL.Lnk]
/-! ## repr of any data, dicts among it -/
section
variable {X : Cx} {pins : List (Addr × Obj)} {σ : L2.St} {H : Hp} {s : Shared}
abbrev RK (X : Cx) (s : Shared) (n : Nat) (bs : List Addr) (u : Value) (t : Str) : Prop := ReprK X.prog X.w bs s.heap n u t
abbrev RA (X : Cx) (s : Shared) (n : Nat) (bs : List Addr) (us : List Value) (ts : List Str) : Prop := ReprAllK X.prog X.w bs s.heap n us ts
theorem RA.put {n m : Nat} {bs cs : List Addr} {u : Value} {us : List Value} {t : Str} {ts : List Str} (h : RK X s n bs u t) (g : RA X s m cs us ts) : RA X s (max n m) (bs ++ cs) (u :: us) (t :: ts) :=
  ReprAllK.cons (ReprK.level_le (ReprK.more h (fun b q => List.mem_append.mpr (.inl q))) (Nat.le_max_left n m)) (ReprAllK.more_le (fun b q => List.mem_append.mpr (.inr q)) (Nat.le_max_right n m) g)
mutual
/-- no set among it -/
def noSet : PyData → Bool
  | .none | .bool _ | .int _ | .str _ => true
  | .list ds | .tuple ds => noSetAll ds
  | .dict ps => !isSetD (.dict ps) && noSetKv ps
def noSetAll : List PyData → Bool
  | [] => true
  | d :: ds => noSet d && noSetAll ds
def noSetKv : List (PyData × PyData) → Bool
  | [] => true
  | (_, d) :: ps => noSet d && noSetKv ps
end
end
def reprY : List PyData → Option PyData
  | [d] => if noSet d = true ∧ d.showable = true ∧ d.depth ≤ 62 ∧ d.shown.length ≤ sizeLine then some (.str d.shown) else none
  | _ => none
section
variable {X : Cx} {U : Hp}
/-! ## {} -/
def eDct : Ev := fun _ m => some (.dict [], m)
end
theorem w_reprY {d : PyData} {R : PyData → Prop} (h0 : noSet d = true) (h1 : d.showable = true) (h2 : d.depth ≤ 62) (h3 : d.shown.length ≤ sizeLine) (q : R (.str d.shown)) : W (reprY [d]) R := W.guard ⟨h0, h1, h2, h3⟩ (.mk q)
theorem w_dct {r : Rs} {m : Ms} {Q : PyData × Ms → Prop} (h : Q (.dict [], m)) : W (eDct r m) Q := .mk h
end TL
end
/-! TL37 -/
section
set_option maxHeartbeats 4000000
namespace TL
open PySem PySem.Spec PyProof.Rows L2
variable [TL.Lnk]
/-! ## dicts whose keys are numbers and texts -/
def valP (ps : List (PyData × PyData)) (k : Key) : Option PyData := (ps.find? fun p => decide (keyD p.1 = some k)).map (·.2)
def putP (ps : List (PyData × PyData)) (k : Key) (d : PyData) : List (PyData × PyData) :=
  if (ps.any fun p => decide (keyD p.1 = some k)) = true then ps.map (fun p => if keyD p.1 = some k then (p.1, d) else p) else ps ++ [(kD k, d)]
theorem kD_eq {j k : Key} : keyD (kD j) = some k ↔ j = k := by rw [keyD_kD]; exact Option.some_inj
section
variable {K : PySem.W.Frag} {F : Hp} {k : Key} {v : V} {d : PyData}
theorem rpk_val : ∀ {ks : List (Key × V)} {ps : List (PyData × PyData)}, RpKv K F ks ps → (valV ks k = none ∧ valP ps k = none) ∨ ∃ v d, valV ks k = some v ∧ valP ps k = some d ∧ Rp K F v d
  | _, _, .nil => .inl ⟨rfl, rfl⟩
  | _, _, .cons (k := j) (v := w) (d := e) h t => by
    by_cases q : j = k
    · refine .inr ⟨w, e, valV_pos q, ?_, h⟩
      unfold valP
      rw [List.find?_cons_of_pos (by simpa using kD_eq.mpr q)]
      rfl
    · have q2 : ¬ keyD (kD j) = some k := fun z => q (kD_eq.mp z)
      rcases rpk_val t with ⟨e1, e2⟩ | ⟨v, d, e1, e2, e3⟩
      · refine .inl ⟨by rw [valV_neg q]; exact e1, ?_⟩
        unfold valP at e2 ⊢
        rw [List.find?_cons_of_neg (by simpa using q2)]
        exact e2
      · refine .inr ⟨v, d, by rw [valV_neg q]; exact e1, ?_, e3⟩
        unfold valP at e2 ⊢
        rw [List.find?_cons_of_neg (by simpa using q2)]
        exact e2
theorem rpk_isS {ks : List (Key × V)} {ps : List (PyData × PyData)} (h : RpKv K F ks ps) : (valV ks k).isSome = (valP ps k).isSome := by
  rcases rpk_val (k := k) h with ⟨e1, e2⟩ | ⟨v, d, e1, e2, _⟩ <;> rw [e1, e2] <;> rfl
theorem rpk_any : ∀ {ks : List (Key × V)} {ps : List (PyData × PyData)}, RpKv K F ks ps → (ks.any fun kv => decide (kv.1 = k)) = ps.any fun p => decide (keyD p.1 = some k)
  | _, _, .nil => rfl
  | _, _, .cons (k := j) h t => by
    rw [List.any_cons, List.any_cons, rpk_any t]
    congr 1
    exact decide_eq_decide.mpr kD_eq.symm
theorem rpk_map (hd : Rp K F v d) : ∀ {ks : List (Key × V)} {ps : List (PyData × PyData)}, RpKv K F ks ps → RpKv K F (ks.map fun kv => if kv.1 = k then (kv.1, v) else kv) (ps.map fun p => if keyD p.1 = some k then (p.1, d) else p)
  | _, _, .nil => .nil
  | _, _, .cons (k := j) h t => by
    rw [List.map_cons, List.map_cons]
    by_cases q : j = k
    · rw [if_pos q, if_pos (kD_eq.mpr q)]
      exact .cons hd (rpk_map hd t)
    · rw [if_neg q, if_neg fun z => q (kD_eq.mp z)]
      exact .cons h (rpk_map hd t)
theorem rpk_snoc (hd : Rp K F v d) : ∀ {ks : List (Key × V)} {ps : List (PyData × PyData)}, RpKv K F ks ps → RpKv K F (ks ++ [(k, v)]) (ps ++ [(kD k, d)])
  | _, _, .nil => .cons hd .nil
  | _, _, .cons h t => .cons h (rpk_snoc hd t)
theorem rpk_put {ks : List (Key × V)} {ps : List (PyData × PyData)} (h : RpKv K F ks ps) (hd : Rp K F v d) : RpKv K F (putK ks k v) (putP ps k d) := by
  unfold putK putP
  rw [rpk_any h]
  split
  · exact rpk_map hd h
  · exact rpk_snoc hd h
theorem rpk_len : ∀ {ks : List (Key × V)} {ps : List (PyData × PyData)}, RpKv K F ks ps → ks.length = ps.length
  | _, _, .nil => rfl
  | _, _, .cons _ t => congrArg (· + 1) (rpk_len t)
theorem key_kV {y : V} {c : PyData} (h : Rp K F y c) (e : keyD c = some k) : y = kV k := by
  cases h <;> first | (cases e; rfl) | cases e
end
/-! ### c in d, d[c]: d a value -/
def dinD (neg : Bool) : PyData → PyData → Option PyData
  | c, .dict ps => if isSetD (.dict ps) = true then none else (keyD c).map fun k => .bool (if neg then !(valP ps k).isSome else (valP ps k).isSome)
  | _, _ => none
def dixD : PyData → PyData → Option PyData
  | .dict ps, c => if isSetD (.dict ps) = true then none else (keyD c).bind (valP ps)
  | _, _ => none
theorem din_some {neg : Bool} {c e d : PyData} (h : dinD neg c e = some d) : ∃ ps k, e = .dict ps ∧ isSetD (.dict ps) = false ∧ keyD c = some k ∧ d = .bool (if neg then !(valP ps k).isSome else (valP ps k).isSome) := by
  unfold dinD at h
  split at h
  · split at h
    · cases h
    rename_i hS
    obtain ⟨k, e1, e2⟩ := Option.map_eq_some_iff.mp h
    exact ⟨_, k, rfl, by simpa using hS, e1, e2.symm⟩
  · cases h
theorem dix_some {c e d : PyData} (h : dixD e c = some d) : ∃ ps k, e = .dict ps ∧ isSetD (.dict ps) = false ∧ keyD c = some k ∧ valP ps k = some d := by
  unfold dixD at h
  split at h
  · split at h
    · cases h
    rename_i hS
    obtain ⟨k, e1, e2⟩ := Option.bind_eq_some_iff.mp h
    exact ⟨_, k, rfl, by simpa using hS, e1, e2⟩
  · cases h
section
variable {X : Cx} {U : Hp} {pos p1 : Pos} {a b : Expr} {f g : Ev} {y : Str} {n0 : Nat}
theorem qe_dIx (hu : X.A.units + 1 < cLine) (ha : PE X a (tE X.K U f)) (hb : PE X b (tE X.K U g)) (hs : NoSl b := by intro _ _; rfl) : PE X (.Subscript a b pos) (tE X.K U (eBin dixD f g)) :=
  pe_weak (pe_dget hu ha hb hs) fun σ H Q ⟨A, F, r, m, d, m', G, e, k⟩ => by
    obtain ⟨d1, m1, d2, e1, e2, e3⟩ := bin_some e
    obtain ⟨ps, kk, rfl, hS, hk, hv⟩ := dix_some e3
    refine ⟨A, F, r, m, _, m1, G, e1, fun F1 H1 x s1 G1 h1 => ⟨A, F1, r, m1, d2, m', G1, e2, fun F2 H2 y s2 G2 h2 => ?_⟩⟩
    cases h1 with
    | vd sa ra =>
      rcases rpk_val (k := kk) ra with ⟨_, z⟩ | ⟨v, d3, z1, z2, z3⟩
      · rw [hv] at z; cases z
      · rw [hv] at z2
        cases z2
        exact ⟨_, v, rfl, .inl ⟨_, kk, rd_mono G2.sub (rd_mono s2 sa), key_kV h2 hk, z1.symm⟩, k F2 H2 v (s1.trans s2) G2 (Rpm s2 z3)⟩
    | vx _ _ _ => cases hS
/-! ### the same of a cell -/
theorem dinO_read {i : Nat} {neg : Bool} {σ : L2.St} {H : Hp} {Q : VK} (h : tE X.K U (eInO i (dinD neg) g) σ H Q) : (if neg then tDNotIn else tDIn) (tE X.K U g) (tVar i) σ H Q := by
  obtain ⟨A, F, r, m, d, m', G, e, k⟩ := h
  unfold eInO at e
  obtain ⟨kk, e0, e⟩ := Option.bind_eq_some_iff.mp e
  obtain ⟨a, hA, hσ⟩ := G.ow i kk (slO_some e0)
  obtain ⟨⟨d1, m1⟩, e1, e⟩ := Option.bind_eq_some_iff.mp e
  obtain ⟨c, e2, e⟩ := Option.bind_eq_some_iff.mp e
  obtain ⟨d0, e3, e4⟩ := Option.map_eq_some_iff.mp e
  cases e4
  obtain ⟨ps, ke, rfl, hS, hk, rfl⟩ := din_some e3
  cases neg with
  | false =>
    refine ⟨A, F, r, m, d1, _, G, e1, fun F1 H1 y s1 G1 h1 => ⟨_, hσ, ?_⟩⟩
    obtain ⟨c1, c2, u, c3, ks, c5, c4⟩ := G1.cl kk a _ hA e2
    subst c5
    refine ⟨a, _, rfl, .inl ⟨ks, ke, .inl c3, key_kV h1 hk, rfl⟩, ?_⟩
    rw [rpk_isS c4]
    exact k F1 H1 _ s1 G1 (.vb _)
  | true =>
    refine ⟨A, F, r, m, d1, _, G, e1, fun F1 H1 y s1 G1 h1 => ⟨_, hσ, ?_⟩⟩
    obtain ⟨c1, c2, u, c3, ks, c5, c4⟩ := G1.cl kk a _ hA e2
    subst c5
    refine ⟨a, _, rfl, .inl ⟨ks, ke, .inl c3, key_kV h1 hk, rfl⟩, ?_⟩
    rw [rpk_isS c4]
    exact k F1 H1 _ s1 G1 (.vb _)
theorem qt_dNotInO (i : Nat) (hu : X.A.units + 1 < cLine) (hb : PE X b (tE X.K U g)) (hv : PE X (.Name y p1) (tVar i)) (hm : behindInMarks .NotIn (.Name y p1) = false := by rfl) : PT X (.Compare b [.NotIn] [.Name y p1] pos) (tT X.K U (eT blD (eInO i (dinD true) g))) :=
  pt_weak (pt_cmp (pc_dnotin hu hb hv) hm) fun σ H Q h => tst_read (fun σ H Q h => dinO_read (neg := true) h) h
/-- x[c] = v: x a cell -/
def sDput (i : Nat) (f g : Ev) : Es := fun r m => (slO r[i]?).bind fun k => (f r m).bind fun p => (g r p.2).bind fun q => (cellAt q.2 k).bind fun c => match c with
  | .dict ps => (keyD q.1).bind fun ke => if ps.length < sizeLine then some (.nx r (q.2.set k (some (.dict (putP ps ke p.1))))) else none
  | _ => none
theorem qs_dput {i : Nat} {p2 : Pos} (hu : X.A.units + 1 < cLine) (hv : PE X (.Name y p1) (tVar i)) (he : PE X a (tE X.K U f)) (hb : PE X b (tE X.K U g)) (hs : swapsWith a (some (.Subscript (.Name y p1) b p2)) pos.line X.env = pure false := by rfl) :
    PS X (.Assign [.Subscript (.Name y p1) b p2] a pos) (tS X.K U n0 (sDput i f g)) := ps_weak (ps_dput hu hv hb he hs) fun D σ H ⟨A, F, r, m, o, G, hn, e, p⟩ => by
  unfold sDput at e
  obtain ⟨k, e0, e⟩ := Option.bind_eq_some_iff.mp e
  obtain ⟨ad, hA, hσ⟩ := G.ow i k (slO_some e0)
  obtain ⟨⟨d, m1⟩, e1, e⟩ := Option.bind_eq_some_iff.mp e
  obtain ⟨⟨c, m2⟩, e2, e⟩ := Option.bind_eq_some_iff.mp e
  obtain ⟨x, e3, e⟩ := Option.bind_eq_some_iff.mp e
  split at e
  · obtain ⟨ke, hk, e⟩ := Option.bind_eq_some_iff.mp e
    split at e
    · rename_i ps hz
      cases e
      refine ⟨A, F, r, m, d, m1, G, e1, fun F1 H1 v s1 G1 h1 => ⟨_, hσ, A, F1, r, m1, c, m2, G1, e2, fun F2 H2 w s2 G2 h2 => ?_⟩⟩
      obtain ⟨c1, c2, u, c3, ks, c5, c4⟩ := G2.cl k ad _ hA e3
      subst c5
      refine ⟨ad, _, rfl, .inl ⟨ks, ke, c3, key_kV h2 hk, by rw [rpk_len c4]; exact hz, rfl⟩, ?_⟩
      exact p A F2 _ σ (List.prefix_refl A) (s1.trans s2) (G2.setCell hA e3 ⟨_, rfl, rpk_put c4 (Rpm s2 h1)⟩)
    · cases e
  · cases e
/-! ### new ones -/
theorem qn_dct : PE X (.Dict [] [] pos) (tN X.K U eDct) := pe_weak pe_dnewK fun σ H Q ⟨A, F, r, m, d, m', G, e, k⟩ => by
  cases e
  exact fun p np => k F _ p _ (Same.refl F) (G.laidO np) (G.nope np).1 (G.nope np).2 (G.notin np) upd_same ⟨_, rfl, .nil⟩
end
end TL
end
/-! TL38 -/
section
set_option maxHeartbeats 4000000
namespace TL
open PySem L2
variable [TL.Lnk]
/-! ## {k: v for ..} -/
def dcLoop (h : Eh) (t : Et) (fk fv : Ev) (r : Rs) : List PyData → Ms → List (PyData × PyData) → Option (List (PyData × PyData) × Ms)
  | [], m, acc => some (acc, m)
  | d :: ds, m, acc => (h d r).bind fun r1 => (t r1 m).bind fun b => if b.1 = true then (fk r1 b.2).bind fun x => (fv r1 x.2).bind fun y => (keyD x.1).bind fun ke => if acc.length < sizeLine then dcLoop h t fk fv r ds y.2 (putP acc ke y.1) else none else dcLoop h t fk fv r ds b.2 acc
def eDc (fi : Eas) (own : List Nat) (h : Eh) (t : Et) (fk fv : Ev) : Ev := fun r m => (fi r m).bind fun p => (dcLoop h t fk fv (wipeR r own) p.1 p.2 []).map fun q => (.dict q.1, q.2)
/-- what lies at D is another -/
theorem Good.relay {K : PySem.W.Frag} {U : Hp} {A : List Addr} {F H : Hp} {σ : St} {r : Rs} {m : Ms} {D : Addr} {o : HO} (G : Good K U A F H σ r m) (hF : F D = none) (hU : U D = none) (hA : D ∉ A) : Good K U A F (upd H D o) σ r m := by
  refine ⟨fun b x q => ?_, fun b x q => ?_, G.len, G.fz, G.ow, G.al, fun kk a es q1 q2 => ?_, G.nd, fun a qa => ?_, G.lk⟩
  · have hb : b ≠ D := fun z => by rw [z, hF] at q; cases q
    rw [upd_ne hb]
    exact G.sub b x q
  · have hb : b ≠ D := fun z => by rw [z, hU] at q; cases q
    rw [upd_ne hb]
    exact G.fo b x q
  · obtain ⟨c1, c2, us, c3, c4⟩ := G.cl kk a es q1 q2
    have ha : a ≠ D := fun z => hA (z ▸ List.mem_of_getElem? q1)
    exact ⟨c1, c2, us, by rw [upd_ne ha]; exact c3, c4⟩
  · obtain ⟨o', c1⟩ := G.he a qa
    have hne : a ≠ D := fun z => hA (z ▸ qa)
    exact ⟨o', by rw [upd_ne hne]; exact c1⟩
theorem dc_inner {K : PySem.W.Frag} {U : Hp} {A : List Addr} {F1 H1 : Hp} {σ : St} {r : Rs} {m1 m9 : Ms} {ds : List PyData} {res : List (PyData × PyData)} {J : It} {vsl : List Nat} {is : List Nat} {h : Eh} {t : Et} {fk fv : Ev} {Q : VK} (his : ∀ j ∈ is, j ∈ vsl)
    (G1 : Good K U A F1 H1 σ r m1) (W1 : Wk K U J F1 ds) (e2 : dcLoop h t fk fv (wipeR r vsl) ds m1 [] = some (res, m9))
    (k : ∀ (F' H' : Hp) (a : Addr) (u : HO), Same F1 F' → Good K U A F' H' σ r m9 → F' a = none → U a = none → a ∉ A → H' a = some u → Stored K F' u (.dict res) → Q (.ref a) H') :
    ∀ D, H1 D = none → ∃ W : Nat → Nat → Hp → Prop, (∃ m, W 0 m (upd H1 D (.dK []))) ∧ ∀ i m H, W i m H →
      (J.stop i H ∧ Q (.ref D) H) ∨ (J.go i H ∧ ∃ Nx : Hp → Prop, (∀ H', Nx H' → ∃ m', m' < m ∧ W (i + 1) m' H') ∧ ∀ x H', J.yld i H x H' → (tGX K is h) x (wipe σ vsl) H' fun σ2 H2 => wipe σ2 vsl = wipe σ vsl ∧ (tTX K t) σ2 H2 fun b H3 =>
        if b = true then (tEX K fk) σ2 H3 fun y H4 => (tEX K fv) σ2 H4 fun z H5 => ∃ kvs k, y = kV k ∧ H5 D = some (.dK kvs) ∧ kvs.length < sizeLine ∧ Nx (upd H5 D (.dK (putK kvs k z))) else Nx H3) := by
  intro D nD
  have nA : D ∉ A := G1.notin nD
  have nU : U D = none := (G1.nope nD).2
  refine ⟨fun i mm H2 => mm = ds.length - i ∧ i ≤ ds.length ∧ ∃ (F2 : Hp) (m2 : Ms) (ks : List (Key × V)) (acc : List (PyData × PyData)), Same F1 F2 ∧ Good K U A F2 H2 σ r m2 ∧ H2 D = some (.dK ks) ∧ F2 D = none ∧ RpKv K F2 ks acc ∧
    dcLoop h t fk fv (wipeR r vsl) (ds.drop i) m2 acc = some (res, m9), ⟨ds.length, by simp, Nat.zero_le _, F1, m1, [], [], Same.refl F1, G1.laidO nD, upd_same, (G1.nope nD).1, .nil, by rw [List.drop_zero]; exact e2⟩, ?_⟩
  rintro i mm H2 ⟨rfl, hi2, F2, m2, ks, acc, hF, G2, hD2, hF2, hr2, e3⟩
  by_cases hlt : i < ds.length
  · rw [List.drop_eq_getElem_cons hlt] at e3
    unfold dcLoop at e3
    obtain ⟨r3, e4, e3⟩ := Option.bind_eq_some_iff.mp e3
    obtain ⟨⟨b, m5⟩, e5, e3⟩ := Option.bind_eq_some_iff.mp e3
    have GW := (G2.hold hD2 hF2 nA).wiped vsl
    have sU : Same U (upd U D (.dK ks)) := same_new nU
    obtain ⟨w1, w2⟩ := W1.go _ A _ _ m2 F2 H2 i ds[i] sU hF GW (List.getElem?_eq_getElem hlt)
    have back : ∀ {F' H' : Hp} {σ' : St} {r' : Rs} {m' : Ms}, Same F2 F' → Good K (upd U D (.dK ks)) A F' H' σ' r' m' → Good K U A F' H' σ r m' := fun {F' H' σ' r' m'} s G' => G2.mix G' s sU
    refine .inr ⟨w1, fun H' => ∃ (F' : Hp) (m' : Ms) (ks' : List (Key × V)) (acc' : List (PyData × PyData)), Same F1 F' ∧ Good K U A F' H' σ r m' ∧ H' D = some (.dK ks') ∧ F' D = none ∧ RpKv K F' ks' acc' ∧
      dcLoop h t fk fv (wipeR r vsl) (ds.drop (i + 1)) m' acc' = some (res, m9), fun H' w => ⟨ds.length - (i + 1), by omega, rfl, hlt, w⟩, fun x H3 hy => ?_⟩
    obtain ⟨F3, s3, G3, h3⟩ := w2 x H3 hy
    refine ⟨upd U D (.dK ks), A, F3, _, m2, ds[i], r3, G3, h3, e4, fun σ4 G4 k4 l4 => ⟨?_, ?_⟩⟩
    · exact (wipe_eq l4 fun j hj => k4 j fun z => hj (his j z)).trans wipe_twice
    · refine ⟨upd U D (.dK ks), A, F3, r3, m2, b, m5, G4, e5, fun F5 H5 s5 G5 => ?_⟩
      cases b with
      | false =>
        refine iteF ?_
        have fo5 := G5.fo D _ upd_same
        exact ⟨F5, m5, ks, acc, hF.trans (s3.trans s5), back (s3.trans s5) G5, fo5.1, fo5.2, Rpkm (s3.trans s5) hr2, e3⟩
      | true =>
        refine iteT ?_
        rw [if_pos rfl] at e3
        obtain ⟨⟨c6, m6⟩, e6, e3⟩ := Option.bind_eq_some_iff.mp e3
        obtain ⟨⟨d7, m7⟩, e7, e3⟩ := Option.bind_eq_some_iff.mp e3
        obtain ⟨ke, e8, e3⟩ := Option.bind_eq_some_iff.mp e3
        split at e3
        · rename_i hz
          refine ⟨upd U D (.dK ks), A, F5, r3, m5, c6, m6, G5, e6, fun F6 H6 y s6 G6 h6 => ⟨upd U D (.dK ks), A, F6, r3, m6, d7, m7, G6, e7, fun F7 H7 z s7 G7 h7 => ?_⟩⟩
          have fo7 := G7.fo D _ upd_same
          have s27 : Same F2 F7 := s3.trans (s5.trans (s6.trans s7))
          exact ⟨ks, ke, key_kV h6 e8, fo7.1, by rw [rpk_len hr2]; exact hz, F7, m7, _, _, hF.trans s27, (back s27 G7).relay fo7.2 nU nA, upd_same, fo7.2, rpk_put (Rpkm s27 hr2) h7, e3⟩
        · cases e3
  · have ei : i = ds.length := by omega
    subst ei
    rw [List.drop_length] at e3
    cases e3
    exact .inl ⟨W1.stop F2 H2 (fun b o e => (G2.fo b o e).1) hF G2.sub, k F2 H2 D _ hF G2 hF2 nU nA hD2 ⟨ks, rfl, hr2⟩⟩
section
variable {X : Cx} {U : Hp} {kx vx tg iter : Expr} {ifs : List Expr} {scope : Scope} {own : List (Str × Nat)} {pos : Pos} {fi : Eas} {is : List Nat} {h : Eh} {t : Et} {fk fv : Ev}
theorem dc_read (his : ∀ j ∈ is, j ∈ own.map (·.2)) {σ : St} {H : Hp} {Q : VK} (hq : tN X.K U (eDc fi (own.map (·.2)) h t fk fv) σ H Q) :
    tDc (tIt X.K U fi) (tGX X.K is h) (tTX X.K t) (tEX X.K fk) (tEX X.K fv) (own.map (·.2)) σ H Q := by
  obtain ⟨A, F, r, m, d, m', G, e, k⟩ := hq
  unfold eDc at e
  obtain ⟨⟨ds, m1⟩, e1, e⟩ := Option.bind_eq_some_iff.mp e
  obtain ⟨⟨res, m9⟩, e2, e⟩ := Option.map_eq_some_iff.mp e
  cases e
  exact ⟨A, F, r, m, ds, m1, G, e1, fun F1 H1 J s1 G1 W1 => dc_inner his G1 W1 e2 fun F' H' a u s G' q1 q2 q3 q4 q5 => k F' H' a u (s1.trans s) G' q1 q2 q3 q4 q5⟩
theorem qn_dc (hc : X.calm = true) (hN : X.N.Nodup) (hi : PI X tg iter (tIt X.K U fi)) (ok : BlkOk X.N X.env.scope scope own) (his : ∀ j ∈ is, j ∈ own.map (·.2))
    (hg : ∀ (U : Hp) (s : Shared) (H : Hp) (C : Addr) (cl : List (Str × Addr)) (fp : List Addr), PG (X.blk s H scope (compEnvC scope cl C X.env) fp) tg (tG X.K U is h))
    (ht : ∀ (U : Hp) (s : Shared) (H : Hp) (C : Addr) (cl : List (Str × Addr)) (fp : List Addr), PTs (X.blk s H scope (compEnvC scope cl C X.env) fp) ifs (tT X.K U t))
    (hk : ∀ (U : Hp) (s : Shared) (H : Hp) (C : Addr) (cl : List (Str × Addr)) (fp : List Addr), PE (X.blk s H scope (compEnvC scope cl C X.env) fp) kx (tE X.K U fk))
    (he : ∀ (U : Hp) (s : Shared) (H : Hp) (C : Addr) (cl : List (Str × Addr)) (fp : List Addr), PE (X.blk s H scope (compEnvC scope cl C X.env) fp) vx (tE X.K U fv)) (hs : ∀ x, foldedSetIterable iter X.env x = pure x := by intro _; rfl) :
    PE X (.DictComp kx vx [⟨tg, iter, ifs, 0⟩] scope pos) (tN X.K U (eDc fi (own.map (·.2)) h t fk fv)) :=
  pe_weak (pe_dc hc hN hi ok (fun s H C cl fp => pg_all fun U => hg U s H C cl fp) (fun s H C cl fp => pts_all fun U => ht U s H C cl fp) (fun s H C cl fp => pe_all fun U => hk U s H C cl fp) (fun s H C cl fp => pe_all fun U => he U s H C cl fp) hs) fun σ H Q q => dc_read his q
end
/-! ## dict(..) of pairs, sorted(..), list(..), dict(..) of a dict -/
def mergeP (ps : List (PyData × PyData)) (more : List (Key × PyData)) : List (PyData × PyData) := more.foldl (fun acc kv => putP acc kv.1 kv.2) ps
section
variable {K : PySem.W.Frag} {F : Hp}
theorem rpk_merge : ∀ {more : List (Key × PyData)} {mv : List (Key × V)} {ks : List (Key × V)} {ps : List (PyData × PyData)}, Paired (fun p q => p.1 = q.1 ∧ Rp K F q.2 p.2) more mv → RpKv K F ks ps → RpKv K F (mergeK ks mv) (mergeP ps more)
  | [], _, _, _, q, h => by cases q; exact h
  | (k, d) :: more, _, _, _, q, h => by
    cases q with
    | @cons _ z _ _ q1 q2 =>
      obtain ⟨k2, v⟩ := z
      obtain ⟨e, q1⟩ := q1
      cases e
      show RpKv K F (mergeK (putK _ k v) _) (mergeP (putP _ k d) more)
      exact rpk_merge (more := more) q2 (rpk_put h q1)
end
end TL
end
/-! TL39 -/
section
set_option maxHeartbeats 4000000
namespace TL
open PySem L2
variable [TL.Lnk]
theorem room1 {k : Nat} {A : Around} (r : Room k A) : A.units + 1 < cLine := by have := r.un; omega
/-! ## sets of tuples of whole numbers -/
def intOf : PyData → Option Int
  | .int i => some i
  | _ => none
/-! ## zip(a, b) of two lists, each pair to a name -/
instance {i j c : Int} {n : Nat} : Decidable (RgC i j c n) := by unfold RgC; infer_instance
end TL
end
/-! TL40 -/
section
set_option maxHeartbeats 4000000
namespace TL
open PySem L2
variable [TL.Lnk]
section
variable {K : PySem.W.Frag} {U F H : Hp} {A B : List Addr} {σ : St} {r : Rs} {m : Ms} {p a : Addr} {u u' : HO} {k : Nat} {d : PyData}
theorem addr_ne {A : List Addr} {j k : Nat} {a p : Addr} (nd : A.Nodup) (h1 : A[j]? = some a) (h2 : A[k]? = some p) (hjk : j ≠ k) : a ≠ p := fun z => by
  subst z
  obtain ⟨l1, q1⟩ := List.getElem?_eq_some_iff.mp h1
  obtain ⟨l2, q2⟩ := List.getElem?_eq_some_iff.mp h2
  exact hjk ((List.getElem_inj nd).mp (q1.trans q2.symm))
/-- and it comes back -/
theorem Good.bare (G : Good K (upd U p u) A F H σ r m) (hU : U p = none) (hk : A[k]? = some p) (hm : k < m.length) (h : Stored K F u d) : Good K U A F H σ r (m.set k (some d)) := by
  have hp := G.fo p u upd_same
  refine ⟨G.sub, fun b o e => ?_, G.len, G.fz, G.ow, by rw [List.length_set]; exact G.al, fun j a es e1 e2 => ?_, G.nd, G.he, G.lk⟩
  · have hb : b ≠ p := fun z => by rw [z, hU] at e; cases e
    exact G.fo b o (by rw [upd_ne hb]; exact e)
  · by_cases hjk : j = k
    · subst hjk
      rw [cellAt_self hm] at e2
      cases e2
      rw [hk] at e1
      cases e1
      exact ⟨hp.2, hU, u, hp.1, h⟩
    · rw [cellAt_ne hjk] at e2
      obtain ⟨h1, h2, us, h3, h4⟩ := G.cl j a es e1 e2
      rw [upd_ne (addr_ne G.nd e1 hk hjk)] at h2
      exact ⟨h1, h2, us, h3, h4⟩
theorem Good.more (G : Good K U A F H σ r m) (hF : F a = none) (hU : U a = none) (hA : a ∉ A) (hH : H a = some u) (h : Stored K F u d) : Good K U (A ++ [a]) F H σ r (m ++ [some d]) := by
  have := G.setOw (i := r.length) hF hU hA hH h
  rwa [List.set_eq_of_length_le (by rw [G.len]; exact Nat.le_refl _), List.set_eq_of_length_le (Nat.le_refl _)] at this
end
end TL
end
/-! TL41 -/
section
set_option maxHeartbeats 4000000
namespace TL
open PySem L2
variable [TL.Lnk]
/-! ## a dict of lists, filled by setdefault and append -/
abbrev Gs := List (Int × Addr × List PyData)
end TL
end
/-! TL42 -/
section
set_option maxHeartbeats 4000000
namespace TL
open PySem L2
end TL
end
/-! TL43 -/
section
set_option maxHeartbeats 4000000
namespace TL
open PySem L2
variable [TL.Lnk]
/-! ## d.get(k, x), d a value -/
def dgetD : PyData → PyData → PyData → Option PyData
  | .dict ps, c, z => if isSetD (.dict ps) = true then none else (keyD c).map fun k => (valP ps k).getD z
  | _, _, _ => none
def eGet (f g h : Ev) : Ev := fun r m => (f r m).bind fun p => (g r p.2).bind fun q => (h r q.2).bind fun w => (dgetD p.1 q.1 w.1).map fun d => (d, w.2)
theorem dget_some {e c z d : PyData} (h : dgetD e c z = some d) : ∃ ps k, e = .dict ps ∧ isSetD (.dict ps) = false ∧ keyD c = some k ∧ d = (valP ps k).getD z := by
  unfold dgetD at h
  split at h
  · split at h
    · cases h
    rename_i hS
    obtain ⟨k, e1, e2⟩ := Option.map_eq_some_iff.mp h
    exact ⟨_, k, rfl, by simpa using hS, e1, e2.symm⟩
  · cases h
section
variable {X : Cx} {U : Hp} {o e f : Expr} {fo fe ff : Ev} {apos cpos : Pos}
theorem qe_get2 (hu : X.A.units + 1 < cLine) (ho : PE X o (tE X.K U fo)) (he : PE X e (tE X.K U fe)) (hf : PE X f (tE X.K U ff)) (m : M2 X o "get" apos e f cpos) :
    PE X (.Call (.Attribute o "get" apos) [e, f] [] cpos) (tE X.K U (eGet fo fe ff)) :=
  pe_weak (pe_dget2 hu ho he hf m) fun σ H Q ⟨A, F, r, m, d, m', G, e, k⟩ => by
    unfold eGet at e
    obtain ⟨⟨d1, m1⟩, e1, e'⟩ := Option.bind_eq_some_iff.mp e
    obtain ⟨⟨d2, m2⟩, e2, e'⟩ := Option.bind_eq_some_iff.mp e'
    obtain ⟨⟨d3, m3⟩, e3, e'⟩ := Option.bind_eq_some_iff.mp e'
    obtain ⟨d4, e4, e'⟩ := Option.map_eq_some_iff.mp e'
    cases e'
    dsimp only at e2 e3 e4
    obtain ⟨ps, kk, rfl, hS, hk, rfl⟩ := dget_some e4
    refine ⟨A, F, r, m, _, m1, G, e1, fun F1 H1 x s1 G1 h1 => ?_⟩
    cases h1 with
    | vd sa ra =>
      refine ⟨_, rfl, .inl ⟨_, rd_mono G1.sub sa⟩, A, F1, r, m1, d2, m2, G1, e2, fun F2 H2 y s2 G2 h2 => ⟨A, F2, r, m2, d3, _, G2, e3, fun F3 H3 z s3 G3 h3 => ?_⟩⟩
      have s23 := s2.trans s3
      refine ⟨_, .inl ⟨_, kk, rd_mono G3.sub (rd_mono s23 sa), key_kV h2 hk, rfl⟩, ?_⟩
      rcases rpk_val (k := kk) ra with ⟨z0, z1⟩ | ⟨v, d5, z1, z2, z3⟩
      · rw [z0] at *
        rw [z1] at k
        exact k F3 H3 _ (s1.trans s23) G3 h3
      · rw [z1]
        rw [z2] at k
        exact k F3 H3 v (s1.trans s23) G3 (Rpm s23 z3)
    | vx _ _ _ => cases hS
end
/-! ## sorted of a list of whole numbers -/
end TL
end
/-! TL44 -/
section
set_option maxHeartbeats 4000000
namespace TL
open PySem L2
end TL
end
/-! TL45 -/
section
set_option maxHeartbeats 4000000
namespace TL
open PySem L2
/-! ## list(range(n)), x.pop(i) -/
end TL
end
/-! TS4 -/
section
set_option maxHeartbeats 4000000
namespace TL
open PySem PySem.Spec PyProof.Rows L2
/-! ## set(l), l a list of whole numbers: as a set that sorted can walk -/
end TL
end
/-! TL46 -/
section
set_option maxHeartbeats 4000000
namespace TL
open PySem L2
variable [TL.Lnk]
/-! ## sorted(set(l)), l a list of whole numbers -/
section
variable {X : Cx} {U : Hp}
def rSetL (K : PySem.W.Frag) (w : World) : List V → Hp → VK → Prop := fun xs H Q => ∃ (l : Addr) (zs : List Int), xs = [V.ref l] ∧ SqL K H l (zs.map V.int) ∧ zs.length < 60 ∧
  ∀ (p : Addr) (c : Nat), H p = none → c < 60 → Q (.ref p) (upd H p (SetO w p (fun j => decide (j ∈ zs)) c))
end
end TL
end
/-! TL47 -/
section
set_option maxHeartbeats 4000000
namespace TL
open PySem L2
/-! ## list(d), d a cell -/
end TL
end
/-! TX0 -/
section
set_option maxHeartbeats 4000000
namespace TX
open PySem PySem.W PySem.Calls PyProof.Rows PySem.HandSPX
end TX
end
/-! TX1 -/
section
set_option maxHeartbeats 4000000
/-! An own exception over LookupError (or another built-in base) whose __init__ stores one field. -/
namespace TX
open PySem PySem.W PySem.Calls PyProof.Rows PySem.HandSPX
end TX
end
/-! TX2 -/
section
set_option maxHeartbeats 4000000
namespace TX
open PySem PySem.W PySem.Calls PyProof.Rows PySem.HandSPX
/-! ### the maker's text: one row, self.name = name -/
end TX
end
/-! TX3 -/
section
set_option maxHeartbeats 4000000
namespace TX
open PySem PySem.W PySem.Calls PyProof.Rows PySem.HandSPX
end TX
namespace TX
open PySem PySem.Spec PyProof.Rows L2
/-- the field of a caught one -/
abbrev fldO (v : V) : HO := .xd [(("name" : Str), v)]
end TX
end
/-! TX4 -/
section
set_option maxHeartbeats 4000000
namespace TX
open PySem PySem.Spec PyProof.Rows L2 TL
/-! ## promises of defs that an exception may leave, guards told -/
structure FnC (CX : CXT) (P : Program) (w : World) (K : PySem.W.Frag) (mg : Str → Option Value) (base : Heap) (k : Nat) (f : Addr) (fd : FuncData) (ps : List Str) (sp : Sp) : Prop where
  len : ∀ vs H Q E, sp vs H Q E → vs.length = ps.length
  run : ∀ (A : Around) (outer : List Env) (s : Shared) (H : Hp) (args : Args) (us : List Value) (vs : List V) (Q : VK) (E : XK), Room k A → A.guards = some [] → Env0 P w K mg base A outer s H →
    BindsTo s fd args (ps.zip us) → Vals vs us → sp vs H Q E → codeAny (model P w) A (.call (.ref f) args) (CR CX outer P w H s Q E) s
section
variable {CX : CXT} {P : Program} {w : World} {K : PySem.W.Frag} {mg : Str → Option Value} {base : Heap} {x qual : Str} {st : Stmt} {f : Addr} {fd : FuncData} {N ps : List Str} {k : Nat} {sp : Sp}
theorem fn_ofC (F : Fun K x qual st f fd) (S : FnScope N ps (defScope st)) (len : ∀ vs H Q E, sp vs H Q E → vs.length = ps.length)
    (body : ∀ (cdv : Value) (A : Around) (outer : List Env) (s : Shared) (H : Hp) (vs : List V) (Q : VK) (E : XK), Room k (A.deeper (envOfC qual (defScope st) s.heap.objs.size f cdv)) → A.guards = some [] → sp vs H Q E →
      ∃ t, PSs (cxOf CX P w K mg base N qual (defScope st) f cdv A outer s H E) (defBody st) t ∧ t { nx := fun _ H' => Q .non H', rt := Q } (start N vs) H) : FnC CX P w K mg base (k + 1) f fd ps sp := by
  obtain ⟨oc, od, kV, doc, pm, an, cdv, ct, osl, rfl, stands, coded⟩ := F.ex
  refine ⟨len, fun A outer s H args us vs Q E room gd env bind rel pr => ?_⟩
  have many := len _ _ _ _ pr
  have laid : K.In s.heap := env.mod.kin.keeps fun b o z => (env.bs b o z).1
  have free : s.heap.NoLimit := env.mod.nolimit.keeps fun b o z => (env.bs b o z).1
  have kinds : ∀ y ∈ ps.zip us, (defScope st).names.lookup y.1 = some .local ∨ ((defScope st).names.lookup y.1 = some .cell ∧ ((cellsFrom (s.heap.objs.size + 1) (defScope st).names []).lookup y.1).isSome = true) := by
    rintro ⟨n, v⟩ hy
    cases S.par n (List.of_mem_zip hy).1 with
    | inl q => exact .inl q
    | inr q => exact .inr ⟨q, PySem.W.cellsFrom_some _ _ _ (.inl q)⟩
  apply codeAny_call_function room.depth (laid _ _ stands) rfl S.co S.gen rfl (PySem.W.codeRec_of laid coded)
  apply bind
  apply wpAny_newFunctionEnv_cells S.kind kinds
  rintro nv rfl s1 call
  refine ⟨free.keeps call.toInCall.keep, codeAny_func ?_⟩
  obtain ⟨t, does, meant⟩ := body cdv A outer s H vs Q E (room.deeper _) gd pr
  have start0 : Inv (cxOf CX P w K mg base N qual (defScope st) f cdv A outer s H E) [] (start N vs) H s1 := inv_start S room.hd env many rel call
  refine wpAny_mono (does.run [] s1 (start N vs) H _ start0 meant) (fun flow s' ended => ?_) fun e s' ended => ended
  have told : ∀ {σ' : L2.St} {H' : Hp} {v : V} {u : Value}, Inv (cxOf CX P w K mg base N qual (defScope st) f cdv A outer s H E) [] σ' H' s' → RelV v u → Q v H' → CE outer P w H s Q u s' :=
    fun {σ' H' v u} J rv q => ⟨v, H', J.os, J.bare, J.base, J.hok, rv, q⟩
  cases flow with
  | ret u => obtain ⟨v, σ', H', J, rv, q⟩ := ended; exact told J rv q
  | next => obtain ⟨σ', H', J, q⟩ := ended; exact told (v := V.non) (u := Value.none) J rfl q
  | brk => obtain ⟨_, _, _, q⟩ := ended; exact q.elim
  | cont => obtain ⟨_, _, _, q⟩ := ended; exact q.elim
end
/-! ### calls by such promises: as they stand, with defaults, with keywords -/
end TX
end
/-! TX5 -/
section
set_option maxHeartbeats 4000000
namespace TX
open PySem PySem.Spec PyProof.Rows L2 TL
variable [TL.Lnk]
/-! ## statements that may raise, on trees -/
inductive OutX where
  | ok (o : Out) | xc (d : PyData) (r : Rs) (m : Ms)
section
variable (K : PySem.W.Frag) (U : Hp) (n0 : Nat) (C : Addr) (W : WX)
def PostX (A : List Addr) (F : Hp) (D : Ends) : OutX → Prop
  | .ok o => Post K U n0 A F D o
  | .xc d r m => ∀ (A' : List Addr) (F' H' : Hp) (σ' : L2.St) (dd : Addr) (v : V), A <+: A' → Same F F' → Good K U A' F' H' σ' r m → F' dd = some (fldO v) → Rp K F' v d → W (.ref C) (some dd) σ' H'
end
theorem PostX.later {K : PySem.W.Frag} {U : Hp} {n0 : Nat} {C : Addr} {W : WX} {A A1 : List Addr} {F F1 : Hp} {D : Ends} (hA : A <+: A1) (hF : Same F F1) : ∀ {o : OutX}, PostX K U n0 C W A F D o → PostX K U n0 C W A1 F1 D o
  | .ok _, p => Post.later hA hF p
  | .xc d r m, p => fun A' F' H' σ' dd v ha hf G h1 h2 => p A' F' H' σ' dd v (hA.trans ha) (hF.trans hf) G h1 h2
/-! ### statements -/
end TX
end
/-! TX6 -/
section
set_option maxHeartbeats 4000000
namespace TX
open PySem PySem.Spec PyProof.Rows L2 TL
/-! ### a call's reading -/
end TX
end
/-! TX7 -/
section
set_option maxHeartbeats 4000000
namespace TX
open PySem PySem.Spec PyProof.Rows L2 TL
end TX
end
/-! TX8 -/
section
set_option maxHeartbeats 4000000
namespace TX
open PySem PySem.Spec PyProof.Rows L2 TL
end TX
end
/-! TX9 -/
section
set_option maxHeartbeats 4000000
namespace TX
open PySem PySem.Spec PyProof.Rows L2 TL
/-! ## names that hold data or a cell, looked at -/
end TX
end
/-! TXA -/
section
set_option maxHeartbeats 4000000
namespace TX
open PySem PySem.Spec PyProof.Rows L2 TL
variable [TL.Lnk]
/-! ## a comprehension over a dict's keys: the dict is held meanwhile -/
structure Alt (F F' : Hp) (d : Addr) (ks : List (Key × V)) : Prop where
  ne : ∀ a, a ≠ d → F a = F' a
  a1 : Rd F d (.dK ks)
  a2 : Rd F' d (.dK ks)
section
variable {K : PySem.W.Frag} {F F' : Hp} {d : Addr} {ks : List (Key × V)}
theorem Alt.symm (h : Alt F F' d ks) : Alt F' F d ks := ⟨fun a ha => (h.ne a ha).symm, h.a2, h.a1⟩
theorem alt_L (h : Alt F F' d ks) {a : Addr} {xs : List V} (s : SqL K F a xs) : SqL K F' a xs := by
  rcases s with (s | ⟨o, s⟩) | s
  · have hne : a ≠ d := fun z => by
      subst z
      rcases h.a1 with q | ⟨o, q⟩ <;> rw [s] at q <;> cases q
    exact .inl (.inl ((h.ne a hne) ▸ s))
  · have hne : a ≠ d := fun z => by
      subst z
      rcases h.a1 with q | ⟨o, q⟩ <;> rw [s] at q <;> cases q
    exact .inl (.inr ⟨o, (h.ne a hne) ▸ s⟩)
  · exact .inr s
theorem alt_T (h : Alt F F' d ks) {a : Addr} {xs : List V} (s : SqT K F a xs) : SqT K F' a xs := by
  rcases s with (s | ⟨o, s⟩) | s
  · have hne : a ≠ d := fun z => by
      subst z
      rcases h.a1 with q | ⟨o, q⟩ <;> rw [s] at q <;> cases q
    exact .inl (.inl ((h.ne a hne) ▸ s))
  · have hne : a ≠ d := fun z => by
      subst z
      rcases h.a1 with q | ⟨o, q⟩ <;> rw [s] at q <;> cases q
    exact .inl (.inr ⟨o, (h.ne a hne) ▸ s⟩)
  · exact .inr s
theorem alt_D (h : Alt F F' d ks) {a : Addr} {js : List (Key × V)} (s : Rd F a (.dK js)) : Rd F' a (.dK js) := by
  by_cases hne : a = d
  · subst hne
    have e : js = ks := by
      rcases s with s | ⟨o, s⟩ <;> rcases h.a1 with q | ⟨o', q⟩ <;> rw [s] at q <;> cases q <;> rfl
    rw [e]
    exact h.a2
  · rcases s with s | ⟨o, s⟩
    · exact .inl ((h.ne a hne) ▸ s)
    · exact .inr ⟨o, (h.ne a hne) ▸ s⟩
mutual
theorem alt_rp (h : Alt F F' d ks) : ∀ (t : PyData) (v : V), Rp K F v t → Rp K F' v t
  | .none, _, g => by cases g; exact .vn
  | .bool b, _, g => by cases g; exact .vb b
  | .int i, _, g => by cases g; exact .vi i
  | .str x, _, g => by cases g; exact .vs x
  | .list ds, _, g => by
    cases g with
    | vl hs ha => exact .vl (alt_L h hs) (alt_rpa h ds _ ha)
  | .tuple ds, _, g => by
    cases g with
    | vt hs ha => exact .vt (alt_T h hs) (alt_rpa h ds _ ha)
  | .dict ps, _, g => by
    cases g with
    | vd hs ha => exact .vd (alt_D h hs) (alt_rpk h ps _ ha)
    | @vx a L kss hs ha hk =>
      have hne : a ≠ d := fun z => by
        subst z
        rcases h.a1 with q | ⟨o, q⟩ <;> rw [hs] at q <;> cases q
      exact .vx ((h.ne a hne) ▸ hs) (fun p hp => alt_T h (ha p hp)) hk
theorem alt_rpk (h : Alt F F' d ks) : ∀ (ps : List (PyData × PyData)) (js : List (Key × V)), RpKv K F js ps → RpKv K F' js ps
  | [], _, g => by cases g; exact .nil
  | (c, t) :: ps, _, g => by
    cases g with
    | cons h1 h2 => exact .cons (alt_rp h t _ h1) (alt_rpk h ps _ h2)
theorem alt_rpa (h : Alt F F' d ks) : ∀ (ds : List PyData) (vs : List V), RpAll K F vs ds → RpAll K F' vs ds
  | [], _, g => by cases g; exact .nil
  | t :: ds, _, g => by
    cases g with
    | cons h1 h2 => exact .cons (alt_rp h t _ h1) (alt_rpa h ds _ h2)
end
theorem alt_stored (h : Alt F F' d ks) {o : HO} : ∀ {t : PyData}, Stored K F o t → Stored K F' o t
  | .list _, ⟨vs, h1, h2⟩ => ⟨vs, h1, alt_rpa h _ _ h2⟩
  | .dict _, ⟨js, h1, h2⟩ => ⟨js, h1, alt_rpk h _ _ h2⟩
/-- what a frame knows, the dict's hold changed -/
theorem alt_good {U H : Hp} {A : List Addr} {σ : L2.St} {r : Rs} {m : Ms} {u1 u2 : HO} (G : Good K U A F H σ r m) (e1 : F d = some u1) (h1 : Rd F d (.dK ks)) (h2 : u2 = .dK ks ∨ ∃ o, u2 = .frz o (.dK ks)) : Good K U A (upd F d u2) (upd H d u2) σ r m := by
  have h : Alt F (upd F d u2) d ks := ⟨fun a ha => (upd_ne ha).symm, h1, by
    rcases h2 with q | ⟨o, q⟩
    · exact .inl (by rw [upd_same, q])
    · exact .inr ⟨o, by rw [upd_same, q]⟩⟩
  refine ⟨fun b o e => ?_, fun b o e => ?_, G.len, fun i t e => ?_, G.ow, G.al, fun k a t q1 q2 => ?_, G.nd, fun a ha => ?_, G.lk⟩
  · by_cases hb : b = d
    · subst hb
      rw [upd_same] at e ⊢
      exact e
    · rw [upd_ne hb] at e ⊢
      exact G.sub b o e
  · obtain ⟨q1, q2⟩ := G.fo b o e
    have hb : b ≠ d := fun z => by rw [z, e1] at q2; cases q2
    rw [upd_ne hb, upd_ne hb]
    exact ⟨q1, q2⟩
  · obtain ⟨v, q1, q2⟩ := G.fz i t e
    exact ⟨v, q1, alt_rp h _ _ q2⟩
  · obtain ⟨c1, c2, o, c3, c4⟩ := G.cl k a t q1 q2
    have hb : a ≠ d := fun z => by rw [z, e1] at c1; cases c1
    exact ⟨by rw [upd_ne hb]; exact c1, c2, o, by rw [upd_ne hb]; exact c3, alt_stored h c4⟩
  · obtain ⟨o, q⟩ := G.he a ha
    by_cases hb : a = d
    · exact ⟨u2, by rw [hb, upd_same]⟩
    · exact ⟨o, by rw [upd_ne hb]; exact q⟩
theorem wk_keys {Z : Hp} {o : Obj} {ps : List (PyData × PyData)} (hs : F d = some (.frz o (.dK ks))) (hr : RpKv K F ks ps) : Wk K Z (Itk d o ks) F (ps.map (·.1)) := by
  have hl : ∀ {ks : List (Key × V)} {ps : List (PyData × PyData)}, RpKv K F ks ps → ps.map (·.1) = ks.map fun q => kD q.1 := by
    intro ks ps h
    induction ps generalizing ks with
    | nil => cases h; rfl
    | cons p ps ih =>
      cases h with
      | cons h1 h2 => rw [List.map_cons, List.map_cons, ih h2]
  have e := hl hr
  refine ⟨fun U A σ r m F1 H1 i t _ s1 G1 q => ?_, fun F1 H1 _ s1 s2 => ⟨s2 _ _ (s1 _ _ hs), by rw [e, List.length_map]; exact Nat.le_refl _⟩⟩
  rw [e, List.getElem?_map] at q
  obtain ⟨kv, q1, q2⟩ := Option.map_eq_some_iff.mp q
  refine ⟨⟨G1.sub _ _ (s1 _ _ hs), (List.getElem?_eq_some_iff.mp q1).1⟩, fun x H2 hy => ?_⟩
  obtain ⟨rfl, k, v, q3, rfl⟩ := hy
  rw [q1] at q3
  cases q3
  refine ⟨F1, Same.refl F1, G1, ?_⟩
  rw [← q2]
  cases k with
  | inl i => exact .vi i
  | inr x => exact .vs x
end
def eKeys (i : Nat) : Eas := fun r m => match r[i]? with
  | some (.fz (.dict ps)) => if isSetD (.dict ps) = true then none else some (ps.map (·.1), m)
  | _ => none
theorem pe_or {X : Cx} {e : Expr} {t1 t2 : TE} (h1 : PE X e t1) (h2 : PE X e t2) : PE X e (fun σ H Q => t1 σ H Q ∨ t2 σ H Q) := ⟨fun pins s σ H Q I q => by
  rcases q with q | q
  · exact h1.run pins s σ H Q I q
  · exact h2.run pins s σ H Q I q⟩
end TX
end
/-! TXB -/
section
set_option maxHeartbeats 4000000
namespace TX
open PySem PySem.Spec PyProof.Rows L2 TL
variable [TL.Lnk]
/-! ## sorted of a dict whose keys are texts -/
section
variable {K : PySem.W.Frag} {F : Hp}
theorem rpa_strs {K : PySem.W.Frag} {F : Hp} : ∀ xs : List Str, RpAll K F (xs.map V.str) (xs.map PyData.str)
  | [] => .nil
  | x :: xs => .cons (.vs x) (rpa_strs xs)
end
end TX
end
/-! TXC -/
section
set_option maxHeartbeats 4000000
namespace TX
open PySem PySem.Spec PyProof.Rows L2 TL
variable [TL.Lnk]
/-! ## for over a cell that the body leaves alone -/
theorem wk_cell {K : PySem.W.Frag} {U F : Hp} {a : Addr} {xs : List V} {ds : List PyData} (hs : U a = some (.lst xs)) (hr : RpAll K F xs ds) : Wk K U (Itl K a) F ds where
  go := fun U1 A σ r m F1 H1 i d sU s1 G1 e => by
    obtain ⟨v, h1, h2⟩ := rpa_get hr e
    have hq : SqL K H1 a xs := .inl (.inl (G1.fo a _ (sU _ _ hs)).1)
    refine ⟨⟨xs, v, hq, h1⟩, fun x H2 hy => ?_⟩
    obtain ⟨e2, hy⟩ := hy
    subst e2
    have := hy xs hq
    rw [h1] at this
    cases this
    exact ⟨F1, Same.refl F1, G1, Rpm s1 h2⟩
  stop := fun F1 H1 sU s1 s2 => ⟨xs, .inl (.inl (sU _ _ hs)), by rw [rpa_len hr]; exact Nat.le_refl _⟩
end TX
end
/-! TXD -/
section
set_option maxHeartbeats 4000000
namespace TX
open PySem PySem.Spec PyProof.Rows L2 TL
/-! ## the head: facts by names, and more of one's own -/
end TX
end
/-! TXE -/
section
set_option maxHeartbeats 4000000
namespace TX
open PySem L2 TL
/-! ## the twins that may raise, reckoned -/
end TX
end
/-! TXF -/
section
set_option maxHeartbeats 4000000
namespace TX
open PySem PySem.Spec PyProof.Rows L2 TL
/-! ## a raising call's value handed on; as a statement; x.remove(e) -/
/-! ### x.remove(e), x the name of a cell -/
end TX
end
/-! TXH -/
section
set_option maxHeartbeats 4000000
namespace TX
open PySem PySem.Spec PyProof.Rows L2 TL
/-! ## {k: v for .. in .. for .. in ..} -/
end TX
end
/-! TXI -/
section
set_option maxHeartbeats 4000000
namespace TX
open PySem PySem.Spec PyProof.Rows L2 TL
end TX
end
/-! TXJ -/
section
set_option maxHeartbeats 4000000
namespace TX
open PySem PySem.Spec PyProof.Rows L2 TL
end TX
end
/-! TXK -/
section
set_option maxHeartbeats 4000000
namespace TX
open PySem PySem.Spec PyProof.Rows L2 TL
variable [TL.Lnk]
/-- items of a value, as the second clause's source -/
theorem qi_itsF {X : Cx} {U : Hp} {tg e : Expr} {f : Ev} (he : PE X e (tE X.K U f)) : PI X tg e (tIf X.K U (eIts f)) := by
  refine ⟨fun pins s σ H R I ⟨A, F, r, m, ds, m', G, e0, k⟩ => ?_⟩
  unfold eIts at e0
  obtain ⟨⟨d, m1⟩, e1, e2⟩ := Option.bind_eq_some_iff.mp e0
  obtain ⟨ds1, e3, e4⟩ := Option.map_eq_some_iff.mp e2
  cases e4
  cases d with
  | list es =>
    cases e3
    refine (pi_list he).run pins s σ H R I ⟨A, F, r, m, _, _, G, e1, fun F1 H1 v s1 G1 h1 => ?_⟩
    cases h1 with
    | vl sa ra => exact ⟨_, rfl, ⟨_, (sqL_mono G1.sub sa)⟩, k F1 H1 _ s1 G1 fun Z => wk_list sa ra⟩
  | tuple es =>
    cases e3
    refine (pi_tup he).run pins s σ H R I ⟨A, F, r, m, _, _, G, e1, fun F1 H1 v s1 G1 h1 => ?_⟩
    cases h1 with
    | vt sa ra => exact ⟨_, rfl, ⟨_, seqT_mono G1.sub sa⟩, k F1 H1 _ s1 G1 fun Z => wk_tup sa ra⟩
  | str x =>
    cases e3
    refine (pi_str he).run pins s σ H R I ⟨A, F, r, m, _, _, G, e1, fun F1 H1 v s1 G1 h1 => ?_⟩
    cases h1
    exact ⟨_, rfl, k F1 H1 _ s1 G1 fun Z => wk_str⟩
  | _ => cases e3
end TX
end
/-! TXL -/
section
set_option maxHeartbeats 4000000
namespace TX
open PySem PySem.Spec PyProof.Rows L2 TL
variable [TL.Lnk]
/-! ## for over a cell, whatever becomes of it -/
/-- len(d), d the name of a cell that is a dict -/
def eLenDO (i : Nat) : Ev := fun r m => (slO r[i]?).bind fun k => match cellAt m k with
  | some (.dict ps) => some (.int ps.length, m)
  | _ => none
theorem qe_lenDO {X : Cx} {U : Hp} (i : Nat) {x y : Str} {p p1 pos : Pos} (hv : PE X (.Name y p1) (tVar i)) (hg : Gl X x) (hx : x = "len") (hm : X.mg x = none) (hb : bootBuiltins x = some (.builtin "len")) (hn : x ≠ "__name__" := by decide) (hdb : (x == ("__debug__" : Str)) = false := by decide)
    (he : starEach [.Name y p1] X.env = (false, eval (.Name y p1) X.env) :: starEach [] X.env := by rfl) (hpl : (backTo pos (starEach [] X.env)).any (·.1) = false := by rfl) : PE X (.Call (.Name x p) [.Name y p1] [] pos) (tE X.K U (eLenDO i)) :=
  pe_weak (pe_callB call_lenD hg hm hb (pa_cons hv pa_nil he) hn hdb he hpl) fun σ H Q ⟨A, F, r, m, d, m', G, e, k⟩ => by
    unfold eLenDO at e
    obtain ⟨kk, e0, e1⟩ := Option.bind_eq_some_iff.mp e
    obtain ⟨a, hA, hσ⟩ := G.ow i kk (slO_some e0)
    split at e1
    · rename_i ps hc
      cases e1
      obtain ⟨c1, c2, u, c3, ks, c4, c5⟩ := G.cl kk a _ hA hc
      subst c4
      refine ⟨_, hσ, a, ks, rfl, c3, ?_⟩
      rw [rpk_len c5]
      exact k F H _ (Same.refl F) G (.vi _)
    · cases e1
theorem w_lenDO {i k : Nat} {r : Rs} {m : Ms} {ps : List (PyData × PyData)} {Q : PyData × Ms → Prop} (e : r[i]? = some (.ow k)) (e0 : cellAt m k = some (.dict ps)) (h : Q (.int ps.length, m)) : W (eLenDO i r m) Q := by
  unfold eLenDO
  rw [e]
  refine W.bind (W.of rfl ?_)
  rw [e0]
  exact .mk h
end TX
end
/-! TXM -/
section
set_option maxHeartbeats 4000000
/-! tuple(d), d a dict: its keys -/
namespace PySem
end PySem
namespace TX
open PySem PySem.Spec PyProof.Rows L2 TL
end TX
end
/-! TXN -/
section
set_option maxHeartbeats 4000000
namespace PySem.SeqAt
open MeetsSeq MeetsSeq2 MeetsSeq3 SeqRoads2
end PySem.SeqAt
namespace TX
open PySem PySem.Spec PyProof.Rows L2 TL
/-! x in xs, x a dict, xs texts: no -/
end TX
end
/-! TXO -/
section
set_option maxHeartbeats 4000000
namespace TX
open PySem PySem.Spec PyProof.Rows L2 TL
/-! ## sorted of a list of texts; the scope of a comprehension that a test compares -/
end TX
end
/-! TXP -/
section
set_option maxHeartbeats 4000000
namespace TX
open PySem PySem.Spec PyProof.Rows L2 TL
/-! ## sorted of a dict of whole numbers, any number of them -/
end TX
end
/-! TXQ -/
section
set_option maxHeartbeats 4000000
namespace TX
open PySem PySem.Spec PyProof.Rows L2 TL
variable [TL.Lnk]
/-! ## an expression that reads a live cell as a value and hands back none of it -/
section
variable {K : PySem.W.Frag} {U : Hp} {A : List Addr} {F H : Hp} {σ : L2.St} {r : Rs} {m : Ms}
theorem pt_all {X : Cx} {e : Expr} {f : Et} (k : ∀ U, PT X e (tT X.K U f)) : PT X e (fun σ H Q => ∃ U, tT X.K U f σ H Q) := ⟨fun pins s σ H Q I ⟨U, q⟩ => (k U).run pins s σ H Q I q⟩
end
/-! ## list(range(a, b)) -/
end TX
end
/-! TXR -/
section
set_option maxHeartbeats 4000000
namespace TX
open PySem PySem.Spec PyProof.Rows L2 TL
/-! ## a list turned about as a new one; return of a new list or of something else -/
end TX
end
/-! TXS -/
section
set_option maxHeartbeats 4000000
namespace TX
open PySem PySem.Spec PyProof.Rows L2 TL
/-! ## a raising call of data without lists that hands back a list: the list is new -/
end TX
end
/-! TXT -/
section
set_option maxHeartbeats 4000000
namespace TX
open PySem PySem.Spec PyProof.Rows L2 TL
/-! ## a caught exception kept by another name behind its suite, its field read on the return -/
end TX
end
/-! TXU -/
section
set_option maxHeartbeats 4000000
namespace TX
open PySem PySem.Spec PyProof.Rows L2 TL
variable [TL.Lnk]
/-! ## x.extend(e): e a new list, or a cell of one's own -/
def extC (c d : PyData) : Option PyData := match c, d with
  | .list cs, .list ds => if cs.length + ds.length ≤ sizeLine then some (.list (cs ++ ds)) else none
  | _, _ => none
def isLD : PyData → Bool
  | .list _ => true
  | _ => false
def sExt (i : Nat) (f : Ev) : Es := fun r m => (slO r[i]?).bind fun k => (cellAt m k).bind fun c0 => if isLD c0 = true then (f r m).bind fun p => (cellAt p.2 k).bind fun c => (extC c p.1).map fun z => .nx r (p.2.set k (some z)) else none
def sExtO (i j : Nat) : Es := fun r m => (slO r[i]?).bind fun k => (slO r[j]?).bind fun l => if k = l then none else (cellAt m k).bind fun c => (cellAt m l).bind fun d => (extC c d).map fun z => .nx r (m.set k (some z))
theorem extC_some {c d z : PyData} (h : extC c d = some z) : ∃ cs ds, c = .list cs ∧ d = .list ds ∧ cs.length + ds.length ≤ sizeLine ∧ z = .list (cs ++ ds) := by
  unfold extC at h
  split at h
  · split at h
    · rename_i cs ds hz
      cases h
      exact ⟨cs, ds, rfl, rfl, hz, rfl⟩
    · cases h
  · cases h
section
variable {X : Cx} {U : Hp} {n0 : Nat} {e : Expr} {f : Ev} {pos : Pos}
theorem qs_ext {i : Nat} {x : Str} {p1 apos cpos : Pos} (hv : PE X (.Name x p1) (tVar i)) (he : PE X e (tN X.K U f)) (hbase : attributeBase (.Name x p1) "extend" X.env (eval (.Name x p1) X.env) = eval (.Name x p1) X.env := by rfl)
    (hfew : ((backTo cpos (starEach [e] X.env)).all (fun x => !x.1) && (backToKw cpos (keywordEach [] X.env)).all (fun x => x.1.isSome) && decide ([e].length + ([] : List Keyword).length + (if ([] : List Keyword).isEmpty then 0 else 1) < 30)) = true := by rfl)
    (hline : (apos.endLine == cpos.line) = true := by rfl) (hse : starEach [e] X.env = (false, eval e X.env) :: starEach [] X.env := by rfl) (hplain : (backTo cpos (starEach [] X.env)).any (·.1) = false := by rfl)
    (hs : swapsWith (.Call (.Attribute (.Name x p1) "extend" apos) [e] [] cpos) none pos.line X.env = pure false := by rfl) :
    PS X (.Expr (.Call (.Attribute (.Name x p1) "extend" apos) [e] [] cpos) pos) (tS X.K U n0 (sExt i f)) :=
  ps_weak (ps_expr (pe_bm PySem.F.plainAttrs_list PySem.F.slot_list_extend PySem.F.type_list_extend mt_extend hv (pa_cons he pa_nil hse) hbase hfew hline hse hplain) hs) fun D σ H ⟨A, F, r, m, o, G, hn, e, p⟩ => by
  unfold sExt at e
  obtain ⟨k, e0, e⟩ := Option.bind_eq_some_iff.mp e
  obtain ⟨a, hA, hσ⟩ := G.ow i k (slO_some e0)
  obtain ⟨c0, e9, e⟩ := Option.bind_eq_some_iff.mp e
  split at e
  case isFalse => cases e
  rename_i hc0
  obtain ⟨⟨d, m1⟩, e1, e⟩ := Option.bind_eq_some_iff.mp e
  obtain ⟨c, e2, e⟩ := Option.bind_eq_some_iff.mp e
  obtain ⟨z, e3, e⟩ := Option.map_eq_some_iff.mp e
  cases e
  obtain ⟨cs, ds, rfl, rfl, hz, rfl⟩ := extC_some e3
  obtain ⟨_, _, o0, hH0, hs0⟩ := G.cl k a _ hA e9
  have ty0 : ∃ us, c0 = .list us := by
    cases c0 with
    | list us => exact ⟨us, rfl⟩
    | _ => cases hc0
  obtain ⟨us, rfl⟩ := ty0
  obtain ⟨vs0, ho, _⟩ := hs0
  subst ho
  refine ⟨_, hσ, .inl ⟨rfl, _, .inl (.inl hH0)⟩, A, F, r, m, _, m1, G, e1, fun F1 H1 b u s1 G1 q1 q2 q3 q4 q5 => ?_⟩
  obtain ⟨c1, c2, o3, c3, vs, c5, c4⟩ := G1.cl k a _ hA e2
  subst c5
  obtain ⟨ws, w5, w4⟩ := q5
  subst w5
  refine ⟨a, b, vs, ws, rfl, rfl, c3, q4, by rw [rpa_len c4, rpa_len w4]; exact hz, ?_⟩
  exact p A F1 _ σ (List.prefix_refl A) s1 (G1.setCell hA e2 ⟨_, rfl, rpa_app c4 w4⟩)
theorem qs_extO {i j : Nat} {x y : Str} {p1 p2 apos cpos : Pos} (hv : PE X (.Name x p1) (tVar i)) (hy : PE X (.Name y p2) (tVar j)) (hbase : attributeBase (.Name x p1) "extend" X.env (eval (.Name x p1) X.env) = eval (.Name x p1) X.env := by rfl)
    (hfew : ((backTo cpos (starEach [.Name y p2] X.env)).all (fun x => !x.1) && (backToKw cpos (keywordEach [] X.env)).all (fun x => x.1.isSome) && decide ([Expr.Name y p2].length + ([] : List Keyword).length + (if ([] : List Keyword).isEmpty then 0 else 1) < 30)) = true := by rfl)
    (hline : (apos.endLine == cpos.line) = true := by rfl) (hse : starEach [.Name y p2] X.env = (false, eval (.Name y p2) X.env) :: starEach [] X.env := by rfl) (hplain : (backTo cpos (starEach [] X.env)).any (·.1) = false := by rfl)
    (hs : swapsWith (.Call (.Attribute (.Name x p1) "extend" apos) [.Name y p2] [] cpos) none pos.line X.env = pure false := by rfl) :
    PS X (.Expr (.Call (.Attribute (.Name x p1) "extend" apos) [.Name y p2] [] cpos) pos) (tS X.K U n0 (sExtO i j)) :=
  ps_weak (ps_expr (pe_bm PySem.F.plainAttrs_list PySem.F.slot_list_extend PySem.F.type_list_extend mt_extend hv (pa_cons hy pa_nil hse) hbase hfew hline hse hplain) hs) fun D σ H ⟨A, F, r, m, o, G, hn, e, p⟩ => by
  unfold sExtO at e
  obtain ⟨k, e0, e⟩ := Option.bind_eq_some_iff.mp e
  obtain ⟨l, e1, e⟩ := Option.bind_eq_some_iff.mp e
  split at e
  · cases e
  · rename_i hkl
    obtain ⟨c, e2, e⟩ := Option.bind_eq_some_iff.mp e
    obtain ⟨d, e4, e⟩ := Option.bind_eq_some_iff.mp e
    obtain ⟨z, e3, e⟩ := Option.map_eq_some_iff.mp e
    cases e
    obtain ⟨cs, ds, rfl, rfl, hz, rfl⟩ := extC_some e3
    obtain ⟨a, hA, hσ⟩ := G.ow i k (slO_some e0)
    obtain ⟨b, hB, hσ2⟩ := G.ow j l (slO_some e1)
    obtain ⟨c1, c2, o3, c3, vs, c5, c4⟩ := G.cl k a _ hA e2
    subst c5
    obtain ⟨d1, d2, o4, d3, ws, d5, d4⟩ := G.cl l b _ hB e4
    subst d5
    refine ⟨_, hσ, .inl ⟨rfl, _, .inl (.inl c3)⟩, _, hσ2, a, b, vs, ws, rfl, rfl, c3, d3, by rw [rpa_len c4, rpa_len d4]; exact hz, ?_⟩
    exact p A F _ σ (List.prefix_refl A) (Same.refl F) (G.setCell hA e2 ⟨_, rfl, rpa_app c4 d4⟩)
end
end TX
end
/-! TXV -/
section
set_option maxHeartbeats 4000000
namespace TX
open PySem PySem.Spec PyProof.Rows L2 TL
/-! ## kind S: a def that changes its second argument, a list -/
end TX
end
/-! TXW -/
section
set_option maxHeartbeats 4000000
namespace TX
open PySem PySem.Spec PyProof.Rows L2 TL
variable [TL.Lnk]
/-! ## for over a frozen dict's keys; a slice as a new list -/
def sForK (i : Nat) (h : Eh) (body : Es) : Es := fun r m => (eKeys i r m).bind fun p => (loopS h body p.1 r m).bind fun o => match o with
  | .nx r1 m1 => some (.nx r1 m1)
  | _ => none
theorem ps_or {X : Cx} {st : Stmt} {t1 t2 : TS} (h1 : PS X st t1) (h2 : PS X st t2) : PS X st (fun D σ H => t1 D σ H ∨ t2 D σ H) := ⟨fun pins s σ H D I q => by
  rcases q with q | q
  · exact h1.run pins s σ H D I q
  · exact h2.run pins s σ H D I q⟩
section
variable {X : Cx} {U : Hp} {n0 : Nat} {tg : Expr} {body : List Stmt} {h : Eh} {s : Es} {is : List Nat} {pos p1 : Pos} {y : Str}
theorem for_core {K : PySem.W.Frag} {A : List Addr} {F H : Hp} {σ : L2.St} {r r9 : Rs} {m m9 : Ms} {J : It} {ds : List PyData} {D : Ends} (hn : n0 ≤ A.length) (G : Good K U A F H σ r m) (W1 : Wk K U J F ds) (e : loopS h s ds r m = some (.nx r9 m9))
    (p : ∀ (A' : List Addr) (F' H' : Hp) (σ' : L2.St), A <+: A' → Same F F' → Good K U A' F' H' σ' r9 m9 → D.nx σ' H') :
    ∃ Wv : Nat → Nat → L2.St → Hp → Prop, (∃ m0, Wv 0 m0 σ H) ∧ ∀ i mm σ2 H2, Wv i mm σ2 H2 → (J.stop i H2 ∧ D.nx σ2 H2) ∨ (J.go i H2 ∧ ∃ nxt : L2.St → Hp → Prop, (∀ σ' H', nxt σ' H' → ∃ m', m' < mm ∧ Wv (i + 1) m' σ' H') ∧ ∀ x H3, J.yld i H2 x H3 → tG K U is h x σ2 H3 fun σ4 H4 => tS K U n0 s { nx := nxt, rt := D.rt, bk := D.nx, ct := nxt } σ4 H4) := by
  refine ⟨fun i mm σ2 H2 => mm = ds.length - i ∧ i ≤ ds.length ∧ ∃ (A2 : List Addr) (F2 : Hp) (r2 : Rs) (m2 : Ms), A <+: A2 ∧ Same F F2 ∧ Good K U A2 F2 H2 σ2 r2 m2 ∧ loopS h s (ds.drop i) r2 m2 = some (.nx r9 m9), ⟨ds.length, by simp, Nat.zero_le _, A, F, r, m, List.prefix_refl A, Same.refl F, G, by rw [List.drop_zero]; exact e⟩, ?_⟩
  rintro i mm σ2 H2 ⟨rfl, hi2, A2, F2, r2, m2, hA, hF, G2, e2⟩
  by_cases hlt : i < ds.length
  · rw [List.drop_eq_getElem_cons hlt] at e2
    unfold loopS at e2
    obtain ⟨r3, e3, e2⟩ := Option.bind_eq_some_iff.mp e2
    obtain ⟨o4, e4, e2⟩ := Option.bind_eq_some_iff.mp e2
    obtain ⟨w1, w2⟩ := W1.go U A2 σ2 r2 m2 F2 H2 i ds[i] (Same.refl U) hF G2 (List.getElem?_eq_getElem hlt)
    refine .inr ⟨w1, fun σ' H' => ∃ (A' : List Addr) (F' : Hp) (r' : Rs) (m' : Ms), A <+: A' ∧ Same F F' ∧ Good K U A' F' H' σ' r' m' ∧ loopS h s (ds.drop (i + 1)) r' m' = some (.nx r9 m9), fun σ' H' w => ⟨ds.length - (i + 1), by omega, rfl, hlt, w⟩, fun x H3 hy => ?_⟩
    obtain ⟨F3, s3, G3, h3⟩ := w2 x H3 hy
    refine ⟨A2, F3, r2, m2, ds[i], r3, G3, h3, e3, fun σ4 G4 _ _ => ⟨A2, F3, r3, m2, o4, G4, len_of hA hn, e4, ?_⟩⟩
    have hF3 : Same F F3 := hF.trans s3
    cases o4 with
    | nx r5 m5 => exact fun A' F' H' σ' ha hf G' => ⟨A', F', r5, m5, hA.trans ha, hF3.trans hf, G', e2⟩
    | ct r5 m5 => exact fun A' F' H' σ' ha hf G' => ⟨A', F', r5, m5, hA.trans ha, hF3.trans hf, G', e2⟩
    | bk r5 m5 =>
      cases e2
      exact fun A' F' H' σ' ha hf G' => p A' F' H' σ' (hA.trans ha) (hF3.trans hf) G'
    | rt d m5 => cases e2
    | rn ds5 m5 => cases e2
  · have ei : i = ds.length := by omega
    subst ei
    rw [List.drop_length] at e2
    cases e2
    exact .inl ⟨W1.stop F2 H2 (fun b o e => (G2.fo b o e).1) hF G2.sub, p A2 F2 H2 σ2 hA hF G2⟩
theorem qs_forK (i : Nat) (hv : PE X (.Name y p1) (tVar i)) (hp : PassesOwn (model X.prog X.w) X.A X.env X.xe) (hc : X.calm = true) (hg : PG X tg (tG X.K U is h)) (hb : PSs X body (tS X.K U n0 s)) (hs : ∀ x, foldedSetIterable (.Name y p1) X.env x = pure x := by intro _; rfl) :
    PS X (.For tg (.Name y p1) body [] pos) (tS X.K U n0 (sForK i h s)) := by
  have base := ps_for (pos := pos) hp hc (pi_keys hv) hg hb hs
  refine ps_weak (ps_or (ps_lock base) base) fun D σ H ⟨A, F, r, m, o, G, hn, e, p⟩ => ?_
  unfold sForK at e
  obtain ⟨⟨ds, m1⟩, e1, e⟩ := Option.bind_eq_some_iff.mp e
  obtain ⟨o2, e2, e⟩ := Option.bind_eq_some_iff.mp e
  unfold eKeys at e1
  split at e1
  · rename_i ps hs
    split at e1
    · cases e1
    · rename_i hS
      cases e1
      cases o2 with
      | nx r9 m9 =>
        cases e
        obtain ⟨v, hσ, hr⟩ := G.fz i _ hs
        cases hr with
        | vx _ _ _ => exact absurd rfl hS
        | @vd a ks _ sa ra =>
          rcases sa with sa | ⟨o, sa⟩
          · refine .inl ⟨a, .dK ks, G.sub _ _ sa, trivial, fun od => ?_⟩
            have GL := alt_good (u2 := .frz od (.dK ks)) G sa (.inl sa) (.inr ⟨od, rfl⟩)
            have aL : Alt F (upd F a (.frz od (.dK ks))) a ks := ⟨fun b hb => (upd_ne hb).symm, .inl sa, .inr ⟨od, upd_same⟩⟩
            refine ⟨_, hσ, a, od, rfl, .inl ⟨ks, upd_same, ?_⟩⟩
            refine for_core hn GL (wk_keys upd_same (alt_rpk aL _ _ ra)) e2 fun A' F' H' σ' hA s1 G' => ?_
            have fd : F' a = some (.frz od (.dK ks)) := s1 _ _ upd_same
            refine ⟨G'.sub _ _ fd, ?_⟩
            have GU := alt_good (u2 := .dK ks) G' fd (.inr ⟨od, fd⟩) (.inl rfl)
            have sF : Same F (upd F' a (.dK ks)) := fun c o q => by
              by_cases hc : c = a
              · subst hc
                rw [upd_same]
                rw [sa] at q
                exact q
              · rw [upd_ne hc]
                exact s1 c o (by rw [upd_ne hc]; exact q)
            exact p A' _ _ σ' hA sF GU
          · refine .inr ⟨_, hσ, a, o, rfl, .inl ⟨ks, G.sub _ _ sa, ?_⟩⟩
            exact for_core hn G (wk_keys sa ra) e2 fun A' F' H' σ' hA s1 G' => p A' F' H' σ' hA s1 G'
      | _ => cases e
  · cases e1
/-- e[lo:hi] of a list, as a new one -/
def slcL : PyData → Option Int → Option Int → Option PyData
  | .list ds, l, u => some (.list (cutD ds l u))
  | _, _, _ => none
def eSlL (f : Ev) (lo hi : Eo) : Ev := fun r m => (f r m).bind fun p => (lo r p.2).bind fun q => (hi r q.2).bind fun w => (slcL p.1 q.1 w.1).map fun d => (d, w.2)
theorem qn_slc {e : Expr} {f : Ev} {lo hi : Option Expr} {fl fh : Eo} {p2 : Pos} (he : PE X e (tE X.K U f)) (hl : PO X lo (tO X.K U fl)) (hh : PO X hi (tO X.K U fh)) :
    PE X (.Subscript e (.Slice lo hi none p2) pos) (tN X.K U (eSlL f fl fh)) := pe_weak (pe_slice sl_list he hl hh) fun σ H Q ⟨A, F, r, m, d, m', G, e, k⟩ => by
  unfold eSlL at e
  obtain ⟨⟨d1, m1⟩, e1, e⟩ := Option.bind_eq_some_iff.mp e
  obtain ⟨⟨l, m2⟩, e2, e⟩ := Option.bind_eq_some_iff.mp e
  obtain ⟨⟨u, m3⟩, e3, e⟩ := Option.bind_eq_some_iff.mp e
  obtain ⟨d2, e4, e5⟩ := Option.map_eq_some_iff.mp e
  cases e5
  refine ⟨A, F, r, m, d1, m1, G, e1, fun F1 H1 x s1 G1 h1 => ⟨A, F1, r, m1, l, m2, G1, e2, fun F2 H2 s2 G2 => ⟨A, F2, r, m2, u, _, G2, e3, fun F3 H3 s3 G3 => ?_⟩⟩⟩
  have h3 := Rpm (s2.trans s3) h1
  have e4 : slcL d1 l u = some _ := e4
  unfold slcL at e4
  split at e4
  · cases e4
    cases h3 with
    | vl sa ra =>
      refine ⟨_, _, rfl, sqL_mono G3.sub sa, fun q hq => ?_⟩
      exact k F3 _ q _ ((s1.trans s2).trans s3) (G3.laidO hq) (G3.nope hq).1 (G3.nope hq).2 (G3.notin hq) upd_same ⟨_, rfl, rpa_cut l u ra⟩
  · cases e4
end
end TX
end
/-! TXX -/
section
set_option maxHeartbeats 4000000
namespace TX
open PySem PySem.Spec PyProof.Rows L2 TL
variable [TL.Lnk]
/-! ## sorted of a list of (whole number, text, whole number), the first ones unlike -/
abbrev K3 := Int × Str × Int
def IsTri (h : Heap) (v : Value) (k : K3) : Prop := ∃ a o t u w n, v = .ref a ∧ h.get? a = some o ∧ o.cls = .type "tuple" ∧ o.data = .seq #[.int k.1 t, .str k.2.1 u, .int k.2.2 w] n
theorem IsTri.keeps {h h' : Heap} {v : Value} {k : K3} (p : IsTri h v k) (kk : ∀ b o, h.get? b = some o → o.cls = .type "tuple" → h'.get? b = some o) : IsTri h' v k := by
  obtain ⟨a, o, t, u, w, n, e, ho, hc, hd⟩ := p
  exact ⟨a, o, t, u, w, n, e, kk _ _ ho hc, hc, hd⟩
/-! ### on trees -/
abbrev kD3 (k : K3) : PyData := .tuple [.int k.1, .str k.2.1, .int k.2.2]
end TX
end
/-! TXY -/
section
set_option maxHeartbeats 4000000
namespace TX
open PySem PySem.Spec PyProof.Rows L2 TL
/-! ## dict(d); two like dicts of whole numbers are not unlike -/
end TX
end
/-! TXZ -/
section
set_option maxHeartbeats 4000000
namespace TX
open PySem PySem.Spec PyProof.Rows L2 TL
variable [TL.Lnk]
/-! ## .index of a list, a tuple of texts -/
theorem rpa_txts {K : PySem.W.Frag} {F : Hp} : ∀ {xs : List V} {ys : List Str}, RpAll K F xs (ys.map PyData.str) → xs = ys.map V.str
  | _, [], h => by cases h; rfl
  | _, y :: ys, h => by
    cases h with
    | cons h t =>
      cases h
      rw [List.map_cons, ← rpa_txts t]
/-- the first place of z -/
def plc (z : Str) (ys : List Str) : Option Nat := if ys.idxOf z < ys.length then some (ys.idxOf z) else none
theorem plc_some {z : Str} {ys : List Str} {j : Nat} (h : plc z ys = some j) : ys[j]? = some z ∧ ∀ m, m < j → ys[m]? ≠ some z := by
  unfold plc at h
  split at h
  · rename_i hl
    cases h
    refine ⟨by rw [List.getElem?_eq_getElem hl, List.getElem_idxOf hl], fun m hm e => ?_⟩
    obtain ⟨h1, h2⟩ := List.getElem?_eq_some_iff.mp e
    have := List.not_of_lt_findIdx (p := fun x => x == z) (xs := ys) (i := m) hm
    simp only [h2] at this
    simp at this
  · cases h
theorem pe_gloR {X : Cx} {x : Str} {u : Value} {v : V} {p1 : Pos} (hg : Gl X x) (hm : X.mg x = some u) (rv : RelV v u) (hdb : (x == ("__debug__" : Str)) = false) : PE X (.Name x p1) (tC v) := ⟨fun pins s σ H Q I h => ld_glob I hg hm ⟨v, H, I, rv, h⟩ hdb⟩
section
variable {X : Cx} {U : Hp} {o e : Expr} {f : Ev} {g : Eas} {apos cpos : Pos}
/-- a module's tuple without a dict of its own -/
structure GloD (K : PySem.W.Frag) (mg : Str → Option Value) (x : Str) : Prop where
  ex : ∃ (a : Addr) (o : Obj), mg x = some (.ref a) ∧ K.lookup a = some o ∧ o.cls = .type "tuple" ∧ o.dict = none
def dnoB (K : PySem.W.Frag) (a : Addr) : Bool := match K.lookup a with
  | some ⟨.type c, none, _, _⟩ => decide (c = "tuple")
  | _ => false
theorem gloD_of {K : PySem.W.Frag} {mg : Str → Option Value} {x : Str} {a : Addr} (hm : mg x = some (.ref a)) (hb : dnoB K a = true) : GloD K mg x := by
  unfold dnoB at hb
  split at hb
  · rename_i c dt sl q
    have e := of_decide_eq_true hb
    subst e
    exact ⟨⟨a, _, hm, q, rfl, rfl⟩⟩
  · cases hb
def idxG (ys : List Str) : List PyData → Option PyData
  | [.str z] => (plc z ys).map fun j => .int (j : Nat)
  | _ => none
theorem qe_idxG {x : Str} {ys : List Str} {p1 : Pos} (C : Glo X.K X.mg x (.tuple (ys.map .str))) (D : GloD X.K X.mg x) (hg : Gl X x) (ha : PA X [e] (tAs X.K U g)) (hdb : (x == ("__debug__" : Str)) = false := by decide) (hbase : attributeBase (.Name x p1) "index" X.env (eval (.Name x p1) X.env) = eval (.Name x p1) X.env := by rfl)
    (hfew : ((backTo cpos (starEach [e] X.env)).all (fun x => !x.1) && (backToKw cpos (keywordEach [] X.env)).all (fun x => x.1.isSome) && decide ([e].length + ([] : List Keyword).length + (if ([] : List Keyword).isEmpty then 0 else 1) < 30)) = true := by rfl)
    (hline : (apos.endLine == cpos.line) = true := by rfl) (hs : starEach [e] X.env = (false, eval e X.env) :: starEach [] X.env := by rfl) (hplain : (backTo cpos (starEach [] X.env)).any (·.1) = false := by rfl) :
    PE X (.Call (.Attribute (.Name x p1) "index" apos) [e] [] cpos) (tE X.K U (eMap g (idxG ys))) := by
  obtain ⟨a, ob, hm, hl, hc, hd⟩ := D.ex
  obtain ⟨v, u, hm2, rv, hr⟩ := C.ex
  rw [hm] at hm2
  cases hm2
  have ev : v = .ref a := RelV.inj rv (show RelV (.ref a) (.ref a) from rfl)
  subst ev
  refine pe_weak (pe_bm PySem.F.plainAttrs_tuple PySem.F.slot_tuple_index PySem.F.type_tuple_index mt_tup_index (TX.pe_gloR (v := .ref a) hg hm rfl hdb) ha hbase hfew hline hs hplain) fun σ H Q ⟨A, F, r, m, d, m', G, e, k⟩ => ?_
  obtain ⟨ds, e1, e2⟩ := map_some e
  refine ⟨.inr (.inl ⟨rfl, ob, hl, hc, hd⟩), A, F, r, m, ds, m', G, e1, fun F1 H1 xs s1 G1 h1 => ?_⟩
  unfold idxG at e2
  split at e2
  · obtain ⟨j, q2, q3⟩ := Option.map_eq_some_iff.mp e2
    cases q3
    obtain ⟨p1, p2⟩ := plc_some q2
    obtain ⟨v, rfl, h3⟩ := rpa1 h1
    cases h3
    cases hr F1 with
    | vt sa ra =>
      have hx := rpa_txts ra
      subst hx
      exact ⟨_, ys, _, j, rfl, rfl, seqT_mono G1.sub sa, p1, p2, k F1 H1 _ s1 G1 (.vi _)⟩
  · cases e2
end
end TX
end
/-! TC1 -/
section
set_option maxHeartbeats 4000000
namespace TC
open PySem PySem.Spec PyProof.Rows L2 TL
variable [TL.Lnk]
/-! ## constants of the module: tuples of texts, tables of them under text keys -/
abbrev SL := List (Str × List Str)
def tabP (l : SL) : List (Str × PyData) := l.map fun p => (p.1, .tuple (p.2.map .str))
/-- at t a tuple of these texts -/
def txtB (K : PySem.W.Frag) (t : Addr) (xs : List Str) : Bool := match K.lookup t with
  | some ⟨.type c, _, .seq its _, _⟩ => decide (c = "tuple") && (decide (its.size ≤ sizeLine) && He.relAll (xs.map .str) its.toList)
  | _ => false
theorem rpa_strs {K : PySem.W.Frag} {F : Hp} : ∀ xs : List Str, RpAll K F (xs.map V.str) (xs.map PyData.str)
  | [] => .nil
  | x :: xs => .cons (.vs x) (rpa_strs xs)
theorem txtB_rp {K : PySem.W.Frag} {t : Addr} {xs : List Str} (h : txtB K t xs = true) (F : Hp) : Rp K F (.ref t) (.tuple (xs.map .str)) := by
  unfold txtB at h
  split at h
  · rename_i c od its n sl q
    simp only [Bool.and_eq_true, decide_eq_true_eq] at h
    obtain ⟨rfl, h2, h3⟩ := h
    exact .vt (.inr ⟨_, its, n, q, rfl, rfl, h2, He.relAll_ok h3⟩) (rpa_strs xs)
  · cases h
def tblB (K : PySem.W.Frag) (a : Addr) (l : SL) : Bool := l.all fun p => match PySem.W.nsIn K a p.1 with
  | some (some (.ref t)) => txtB K t p.2
  | _ => false
/-- a table of the module under this name -/
structure GloT (K : PySem.W.Frag) (w : World) (mg : Str → Option Value) (x : Str) (l : SL) : Prop where
  ex : ∃ (a : Addr) (es : Array DictEntry) (n : Nat), mg x = some (.ref a) ∧ KDict K w a es n ∧ ∀ z, (PySem.W.nsIn K a z = some none ∧ (tabP l).lookup z = none) ∨ ∃ t d, PySem.W.nsIn K a z = some (some (.ref t)) ∧ (tabP l).lookup z = some d ∧ ∀ F, Rp K F (.ref t) d
theorem dic_has {K : PySem.W.Frag} {P : Params} {a : Addr} {ks : List Str} (h : He.dicW K a = some (He.keysIn P ks)) : ∃ es n, K.lookup a = some ⟨.type "dict", none, .dict es n, #[]⟩ ∧ es.toList.map He.keyOf = He.keysIn P ks := by
  unfold He.dicW at h
  split at h
  · rename_i c es n sl q
    split at h
    · rename_i hb
      simp only [Bool.and_eq_true, decide_eq_true_eq] at hb
      obtain ⟨rfl, h2, _⟩ := hb
      have e2 : sl = #[] := Array.isEmpty_iff.mp h2
      subst e2
      exact ⟨es, n, q, Option.some.inj h⟩
    · cases h
  · cases h
theorem key_of {P : Params} {es : List DictEntry} {ks : List Str} (h : es.map He.keyOf = He.keysIn P ks) {e : DictEntry} (he : e ∈ es) : ∃ k t, k ∈ ks ∧ e.key = .str k t := by
  have h1 : He.keyOf e ∈ He.keysIn P ks := h ▸ List.mem_map_of_mem he
  unfold He.keysIn at h1
  obtain ⟨k, hk, e1⟩ := List.mem_map.mp h1
  unfold He.keyOf at e1
  split at e1
  · rename_i x t q
    have e2 := (Prod.mk.inj (Option.some.inj e1)).1
    exact ⟨x, t, e2 ▸ hk, q⟩
  · cases e1
theorem ns_none {K : PySem.W.Frag} {P : Params} {a : Addr} {ks : List Str} (h : He.dicW K a = some (He.keysIn P ks)) {z : Str} (hz : z ∉ ks) : PySem.W.nsIn K a z = some none := by
  obtain ⟨es, n, q, e⟩ := dic_has h
  unfold PySem.W.nsIn
  rw [q]
  have f1 : es.toList.find? (·.key.isStr z) = none := by
    rw [List.find?_eq_none]
    intro en hen
    obtain ⟨k, t, hk, ek⟩ := key_of e hen
    rw [ek]
    intro c
    have : k = z := by simpa [Value.isStr] using c
    exact hz (this ▸ hk)
  have f2 : es.toList.any (·.refKey) = false := by
    rw [List.any_eq_false]
    intro en hen hc
    obtain ⟨k, t, hk, ek⟩ := key_of e hen
    unfold DictEntry.refKey at hc
    rw [ek] at hc
    exact absurd hc (fun c => nomatch c)
  dsimp only
  rw [f1]
  dsimp only
  rw [f2]
  rfl
theorem lk_none : ∀ {l : SL} {z : Str}, z ∉ l.map (·.1) → (tabP l).lookup z = none
  | [], _, _ => rfl
  | p :: l, z, h => by
    rw [List.map_cons, List.mem_cons, not_or] at h
    show List.lookup z ((p.1, _) :: tabP l) = none
    rw [List.lookup_cons, show (z == p.1) = false by simpa using h.1]
    exact lk_none h.2
theorem lk_some : ∀ {l : SL} {z : Str}, z ∈ l.map (·.1) → ∃ p ∈ l, p.1 = z ∧ (tabP l).lookup z = some (.tuple (p.2.map .str))
  | [], _, h => by cases h
  | p :: l, z, h => by
    by_cases e : z = p.1
    · refine ⟨p, List.mem_cons_self, e.symm, ?_⟩
      show List.lookup z ((p.1, _) :: tabP l) = _
      rw [List.lookup_cons, show (z == p.1) = true by simpa using e]
    · rw [List.map_cons, List.mem_cons] at h
      obtain ⟨q, h1, h2, h3⟩ := lk_some (h.resolve_left e)
      refine ⟨q, List.mem_cons_of_mem _ h1, h2, ?_⟩
      show List.lookup z ((p.1, _) :: tabP l) = _
      rw [List.lookup_cons, show (z == p.1) = false by simpa using e]
      exact h3
theorem gloT_of {K : PySem.W.Frag} {w : World} {mg : Str → Option Value} {x : Str} {l : SL} {ks : List Str} {a : Addr} (hm : mg x = some (.ref a)) (hd : He.dicW K a = some (He.keysIn w.params ks)) (hk : ks = l.map (·.1)) (hb : tblB K a l = true) : GloT K w mg x l := by
  obtain ⟨es, n, D⟩ := He.dicW_ok hd
  refine ⟨a, es, n, hm, D, fun z => ?_⟩
  by_cases hz : z ∈ l.map (·.1)
  · obtain ⟨p, h1, h2, h3⟩ := lk_some hz
    have hp := List.all_eq_true.mp hb p h1
    split at hp
    · rename_i t q
      rw [h2] at q
      exact .inr ⟨t, _, q, h3, fun F => txtB_rp hp F⟩
    · cases hp
  · exact .inl ⟨ns_none hd (hk ▸ hz), lk_none hz⟩
theorem gloU_of {K : PySem.W.Frag} {mg : Str → Option Value} {x : Str} {xs : List Str} {a : Addr} (hm : mg x = some (.ref a)) (hb : txtB K a xs = true) : Glo K mg x (.tuple (xs.map .str)) :=
  ⟨⟨.ref a, _, hm, rfl, fun F => txtB_rp hb F⟩⟩
/-! ### x in T, x not in T, T[x] -/
def ixT (l : SL) : PyData → Option PyData
  | .str z => (tabP l).lookup z
  | _ => none
theorem ixT_some {l : SL} {d e : PyData} (h : ixT l d = some e) : ∃ z, d = .str z ∧ (tabP l).lookup z = some e := by
  unfold ixT at h
  split at h
  · exact ⟨_, rfl, h⟩
  · cases h
def eUn (g : PyData → Option PyData) (f : Ev) : Ev := fun r m => (f r m).bind fun p => (g p.1).map fun d => (d, p.2)
section
variable {X : Cx} {U : Hp} {a : Expr} {f : Ev} {x : Str} {l : SL} {p pos : Pos}
theorem qe_ixT (GT : GloT X.K X.w X.mg x l) (ha : PE X a (tE X.K U f)) (hg : Gl X x := by rfl) (hdb : (x == ("__debug__" : Str)) = false := by decide) (hs : PlainIx a := by intro _ _; rfl) :
    PE X (.Subscript (.Name x p) a pos) (tE X.K U (eUn (ixT l) f)) := by
  obtain ⟨c, es, n, h1, D, h2⟩ := GT.ex
  refine pe_weak (pe_ix ix_kdict (pe_glob (v := V.ref c) hg h1 rfl hdb) ha hs) fun σ H Q ⟨A, F, r, m, d, m', G, e, k⟩ => ?_
  unfold eUn at e
  obtain ⟨⟨d0, m0⟩, e1, e2⟩ := Option.bind_eq_some_iff.mp e
  obtain ⟨d1, e3, e4⟩ := Option.map_eq_some_iff.mp e2
  cases e4
  refine ⟨A, F, r, m, d0, _, G, e1, fun F1 H1 v s1 G1 hv => ?_⟩
  obtain ⟨z, rfl, e5⟩ := ixT_some e3
  cases hv
  rcases h2 z with ⟨q1, q2⟩ | ⟨t, d, q1, q2, q3⟩
  · rw [q2] at e5; cases e5
  · rw [q2] at e5
    cases e5
    exact ⟨c, z, .ref t, rfl, rfl, ⟨es, n, _, D.at_, D.lit, q1, rfl⟩, k F1 H1 _ s1 G1 (q3 F1)⟩
end
/-! ### the head: facts, defs, tables, more of one's own -/
def hookC (n : Nat) (fa : List He.Fa) (fn : List He.DefD) (ts : List He.Tab) (xs : PySem.W.Frag → Bool) : PySem.W.Hook where
  α := He.AlT × Bool
  obs := fun s => (He.obsT fa fn ts (He.frG s.heap.get? (He.asD s.heap.get? n)), xs (He.frG s.heap.get? (He.asD s.heap.get? n)))
  val := fun w => (He.valT fn ts w, true)
  says := fun w h => ∃ K, K.In h ∧ He.SaysT fa fn ts w K ∧ xs K = true
  of := fun _ s e => ⟨_, He.frG_in, congrArg Prod.fst e, congrArg Prod.snd e⟩
  keeps := fun _ h h' ⟨K, k1, k2, k3⟩ kk => ⟨K, k1.keeps kk, k2, k3⟩
def obsCG (n : Nat) (fa : List He.Fa) (fn : List He.DefD) (ts : List He.Tab) (xs : PySem.W.Frag → Bool) (g : Addr → Option Obj) : He.AlT × Bool := (He.obsT fa fn ts (He.frG g (He.asD g n)), xs (He.frG g (He.asD g n)))
theorem obsCG_eq {n : Nat} {fa : List He.Fa} {fn : List He.DefD} {ts : List He.Tab} {xs : PySem.W.Frag → Bool} {g : Addr → Option Obj} {s : Shared} (h : ∀ a, g a = s.heap.get? a) : obsCG n fa fn ts xs g = (hookC n fa fn ts xs).obs s := by
  have e : g = s.heap.get? := funext h
  rw [e]
  rfl
theorem says_tab {fa : List He.Fa} {fn : List He.DefD} {ts : List He.Tab} {w : World} {K : PySem.W.Frag} (c : He.SaysT fa fn ts w K) (i : Nat) {t : He.Tab} (h : ts[i]? = some t := by rfl) : He.dicW K (t.1 K) = some (He.keysIn w.params t.2) := by
  have e : ts.map (fun t => He.dicW K (t.1 K)) = ts.map fun t => some (He.keysIn w.params t.2) := congrArg (fun z : He.AlT => z.2) c
  have e2 : (ts.map fun t => He.dicW K (t.1 K))[i]? = (ts.map fun t => some (He.keysIn w.params t.2))[i]? := by rw [e]
  rw [List.getElem?_map, List.getElem?_map, h] at e2
  exact Option.some.inj e2
/-! ### W -/
end TC
end
/-! TY0 -/
section
set_option maxHeartbeats 4000000
namespace TX
open PySem PySem.Spec PyProof.Rows L2 TL
variable [TL.Lnk]
/-! ## dict(zip(xs, ys)), list(d.values()) -/
def tDictZip (K : PySem.W.Frag) (ta : TA) : TE := fun σ H Q => ta σ H fun vs H1 => ∃ (a b : Addr) (ks : List Key) (ys : List V), vs = [.ref a, .ref b] ∧ SqL K H1 a (ks.map kV) ∧ SqL K H1 b ys ∧ ∀ p, H1 p = none → Q (.ref p) (upd H1 p (.dK (mergeK [] (ks.zip ys))))
theorem keep_list {h h' : Heap} {a : Addr} {its : Array Value} (k : ∀ (c : Addr) (o : Obj), h.get? c = some o → h'.get? c = some o) (p : h.IsList a its) : h'.IsList a its := by
  obtain ⟨o, e, r⟩ := p
  exact ⟨o, k _ _ e, r⟩
theorem kv_zip : ∀ {ks : List Key} {ys : List V} {us ws : List Value}, Vals (ks.map kV) us → Vals ys ws → ∃ vs : List (Key × Value), KV (ks.zip ys) vs ∧ vs.length = min us.length ws.length ∧ ∀ (i : Nat) (k v : Value), us[i]? = some k → ws[i]? = some v → ∃ c, vs[i]? = some (c, v) ∧ keyIs c k = true
  | [], ys, us, ws, h1, h2 => by
    cases h1
    exact ⟨[], .nil, by simp, fun i k v e _ => by cases i <;> cases e⟩
  | c :: ks, [], us, ws, h1, h2 => by
    cases h2
    exact ⟨[], .nil, by simp, fun i k v _ e => by cases i <;> cases e⟩
  | c :: ks, y :: ys, us, ws, h1, h2 => by
    cases h1 with
    | cons r1 h1 => cases h2 with
      | cons r2 h2 =>
        rename_i u us w ws
        obtain ⟨vs, e1, e2, e3⟩ := kv_zip h1 h2
        refine ⟨(c, w) :: vs, .cons ⟨rfl, r2⟩ e1, by simp [e2, Nat.succ_min_succ], fun i k v q1 q2 => ?_⟩
        cases i with
        | zero =>
          cases q1
          cases q2
          refine ⟨c, rfl, ?_⟩
          cases c with
          | inl i => obtain ⟨t, rfl⟩ := r1; simp [keyIs, Value.isInt]
          | inr x => obtain ⟨t, rfl⟩ := r1; simp [keyIs, Value.isStrOf]
        | succ i => exact e3 i k v q1 q2
theorem pe_dictZip {X : Cx} {e e2 : Expr} {ta : TA} {p p0 pos pos0 : Pos} (hc : X.calm = true) (hgd : Gl X "dict") (hmd : X.mg "dict" = none) (hg : Gl X "zip") (hm : X.mg "zip" = none) (ha : PA X [e, e2] ta)
    (hs : starEach [e, e2] X.env = (false, eval e X.env) :: starEach [e2] X.env := by rfl) (hpl : (backTo pos (starEach [e2] X.env)).any (·.1) = false := by rfl)
    (hs0 : starEach [.Call (.Name "zip" p) [e, e2] [] pos] X.env = (false, eval (.Call (.Name "zip" p) [e, e2] [] pos) X.env) :: starEach [] X.env := by rfl) :
    PE X (.Call (.Name "dict" p0) [.Call (.Name "zip" p) [e, e2] [] pos] [] pos0) (tDictZip X.K ta) := by
  refine ⟨fun pins s σ H Q I h => ?_⟩
  refine wpAny_Call_Name_kw (ld_blt I hgd hmd (by rfl : bootBuiltins "dict" = some (Value.type "dict")) (PyProof.Rows.callWith_type1 ?_ hs0 rfl))
  rw [hs0]
  refine Calls.spliced_cons ?_
  refine wpAny_Call_Name_kw (ld_blt I hg hm PyProof.Rows.boot_zip (PyProof.Rows.callWith_type1 (thn (ha.run pos pins s σ H _ I h) fun us s1 ⟨vs, H1, I1, r1, q1⟩ => ?_) hs hpl))
  obtain ⟨a, b, ks, ys, ex, hqx, hqy, q⟩ := q1
  subst ex
  cases r1 with
  | cons r rr =>
    cases rr with
    | cons r' rr =>
      cases rr
      cases r
      cases r'
      obtain ⟨its, rv, p1, z1⟩ := I1.list hqx
      obtain ⟨its2, rv2, p2, z2⟩ := I1.list hqy
      refine call_zip_2 p1.isList p2.isList fun h' hz hTI hTO n1 n2 hsz hk => ?_
      refine Calls.spliced_nil ?_
      obtain ⟨vs, kv, hlen, hat⟩ := kv_zip rv rv2
      have hkl : ks.length = its.length := by have := rv.length; rw [List.length_map] at this; exact this
      have hyl : ys.length = its2.length := rv2.length
      refine call_dict_pairs (knd := mixKind X.prog X.w) (kvs := vs) (PairArg.zip _ _ _ _ _ a b (PySem.W.ktu_apart s1.heap.objs.size a b p1.lt p2.lt) its.toArray its2.toArray) (I1.ok.hd hc) ⟨hz, hTI, ⟨_, _, hTO⟩, n1, n2, keep_list hk p1.isList, keep_list hk p2.isList⟩ ⟨by simpa using hlen, fun i k v ⟨q1, q2⟩ => ?_⟩ ?_ fun h2 tk hd hk2 => ?_
      · exact hat i k v (by simpa using q1) (by simpa using q2)
      · simp only [List.size_toArray]
        rw [List.length_map] at z1
        omega
      · have hz0 : (ks.zip ys).length ≤ sizeLine := by rw [List.length_zip]; rw [List.length_map] at z1; omega
        have keep : ∀ (c : Addr) (o : Obj), s1.heap.get? c = some o → h2.get? c = some o := fun c o e => by
          have hlt := Heap.lt_size e
          refine hk2 c o (fun hm => ?_) (hk c o e)
          simp only [List.mem_cons, List.not_mem_nil, or_false] at hm
          rcases hm with z | z | z | z <;> rw [z] at hlt <;> first | exact Nat.not_lt.mpr (Nat.le_add_right _ _) hlt | exact Nat.lt_irrefl _ hlt
        have hle : s1.heap.objs.size ≤ h'.objs.size := by rw [hsz]; exact Nat.le_add_right _ _
        have hml : (mergeK [] (ks.zip ys)).length ≤ sizeLine := by
          have := length_mergeK (ks.zip ys) []
          simp only [List.length_nil, Nat.zero_add] at this
          omega
        have hsys : (h'.objs.size == sysModules) = false := by
          rw [beq_eq_false_iff_ne]
          exact Nat.ne_of_gt (Nat.lt_of_lt_of_le I1.big hle)
        exact ⟨.ref h'.objs.size, _, I1.laid keep hle (dk_new hml hsys (KV.merge kv .nil) hd), rfl, q _ (I1.hok.fresh hle)⟩
def zipD : PyData → PyData → Option PyData
  | .list ks, .list ds => (ks.mapM keyD).map fun cs => .dict (mergeP [] (cs.zip ds))
  | _, _ => none
theorem keys_rp {K : PySem.W.Frag} {F : Hp} : ∀ {ks : List PyData} {vs : List V} {cs : List Key}, RpAll K F vs ks → ks.mapM keyD = some cs → vs = cs.map kV
  | [], vs, cs, h, e => by
    cases h
    cases e
    rfl
  | d :: ks, vs, cs, h, e => by
    rw [List.mapM_cons] at e
    obtain ⟨c, e1, e⟩ := Option.bind_eq_some_iff.mp e
    obtain ⟨cs', e2, e⟩ := Option.bind_eq_some_iff.mp e
    cases e
    cases h with
    | cons r h =>
      rw [keys_rp h e2, List.map_cons]
      congr 1
      cases d with
      | int i => cases e1; cases r; rfl
      | str x => cases e1; cases r; rfl
      | _ => cases e1
theorem paired_zip {K : PySem.W.Frag} {F : Hp} : ∀ {cs : List Key} {ds : List PyData} {vs : List V}, RpAll K F vs ds → Paired (fun p q => p.1 = q.1 ∧ Rp K F q.2 p.2) (cs.zip ds) (cs.zip vs)
  | [], _, _, _ => by
    rw [List.zip_nil_left, List.zip_nil_left]
    exact .nil
  | c :: cs, _, _, .nil => .nil
  | c :: cs, _, _, .cons r1 r => .cons ⟨rfl, r1⟩ (paired_zip r)
section
variable {X : Cx} {U : Hp} {a b o : Expr} {f g : Ev} {p p0 p1 pos pos0 apos mpos : Pos}
theorem qn_dictZip (hc : X.calm = true) (hgd : Gl X "dict") (hmd : X.mg "dict" = none) (hgz : Gl X "zip") (hmz : X.mg "zip" = none) (ha : PE X a (tE X.K U f)) (hb : PE X b (tE X.K U g))
    (na : starEach [a, b] X.env = (false, eval a X.env) :: starEach [b] X.env := by rfl) (nb : starEach [b] X.env = (false, eval b X.env) :: starEach [] X.env := by rfl) (hpl : (backTo pos (starEach [b] X.env)).any (·.1) = false := by rfl)
    (hs0 : starEach [.Call (.Name "zip" p) [a, b] [] pos] X.env = (false, eval (.Call (.Name "zip" p) [a, b] [] pos) X.env) :: starEach [] X.env := by rfl) :
    PE X (.Call (.Name "dict" p0) [.Call (.Name "zip" p) [a, b] [] pos] [] pos0) (tN X.K U (eBin zipD f g)) :=
  pe_weak (pe_dictZip hc hgd hmd hgz hmz (pa_cons ha (pa_cons hb pa_nil nb) na) na hpl hs0) fun σ H Q ⟨A, F, r, m, d, m', G, e, k⟩ => by
    unfold eBin at e
    obtain ⟨⟨d1, m1⟩, e1, e⟩ := Option.bind_eq_some_iff.mp e
    obtain ⟨⟨d2, m2⟩, e2, e⟩ := Option.bind_eq_some_iff.mp e
    obtain ⟨d3, e3, e⟩ := Option.map_eq_some_iff.mp e
    cases e
    dsimp only at e3
    unfold zipD at e3
    split at e3
    · rename_i ks ds
      obtain ⟨cs, e4, e5⟩ := Option.map_eq_some_iff.mp e3
      cases e5
      refine ⟨A, F, r, m, _, _, G, e1, fun F1 H1 x s1 G1 h1 => ⟨A, F1, r, m1, _, _, G1, e2, fun F2 H2 y s2 G2 h2 => ?_⟩⟩
      cases h1 with
      | vl sa ra => cases h2 with
        | vl sb rb =>
          have ek := keys_rp ra e4
          subst ek
          exact ⟨_, _, cs, _, rfl, sqL_mono G2.sub (sqL_mono s2 sa), sqL_mono G2.sub sb, fun q hq => k F2 _ q _ (s1.trans s2) (G2.laidO hq) (G2.nope hq).1 (G2.nope hq).2 (G2.notin hq) upd_same ⟨_, rfl, rpk_merge (paired_zip rb) .nil⟩⟩
    · cases e3
theorem w_zipD {ks ds : List PyData} {cs : List Key} {R : PyData → Prop} (h : ks.mapM keyD = some cs) (q : R (.dict (mergeP [] (cs.zip ds)))) : W (zipD (.list ks) (.list ds)) R := by
  show W ((ks.mapM keyD).map _) R
  rw [h]
  exact .mk q
end
/-! ## len of a frozen dict -/
abbrev rLenM : List V → Hp → VK → Prop := fun xs H Q => ∃ (a : Addr) (kvs : List (Key × V)), xs = [.ref a] ∧ Rd H a (.dK kvs) ∧ Q (.int kvs.length) H
def lenM : List PyData → Option PyData
  | [.dict ps] => if isSetD (.dict ps) = true then none else some (.int ps.length)
  | _ => none
theorem call_lenM {X : Cx} : CallR X (.builtin "len") rLenM := by
  intro pins s σ H xs us Q I r h
  obtain ⟨a, kvs, rfl, ha, q⟩ := h
  obtain ⟨u, rfl, ru⟩ := vals1 r
  cases ru
  exact d_len I ha fun t s' I' => ⟨.int kvs.length, H, I', ⟨t, rfl⟩, q⟩
theorem cd_lenM {X : Cx} {U : Hp} : CallD X U rLenM lenM := by
  intro A F H σ r m vs ds d Q G ha e k
  unfold lenM at e
  split at e
  · split at e
    · cases e
    rename_i hS
    cases e
    obtain ⟨v, rfl, h⟩ := rpa1 ha
    cases h with
    | vd sa ra =>
      refine ⟨_, _, rfl, rd_mono G.sub sa, ?_⟩
      rw [rpk_len ra]
      exact k F H _ (Same.refl F) G (.vi _)
    | vx _ _ _ => exact absurd rfl hS
  · cases e
theorem w_lenM {ps : List (PyData × PyData)} {R : PyData → Prop} (h : isSetD (.dict ps) = false) (q : R (.int ps.length)) : W (lenM [.dict ps]) R := by
  show W (if isSetD (.dict ps) = true then none else some (PyData.int ps.length)) R
  rw [if_neg (by rw [h]; decide)]
  exact .mk q
end TX
end
/-! TO1 -/
/-! TO2 -/
/-! TO3 -/
/-! TO4 -/
/-! TO5 -/
section
set_option maxHeartbeats 4000000
namespace TP
open PySem PySem.Spec PyProof.Rows L2 TL TX
variable [TL.Lnk]
/-! ## sorted of a list of (whole number, whole number), the first ones unlike -/
abbrev K3 := Int × Int
def IsTri (h : Heap) (v : Value) (k : K3) : Prop := ∃ a o t w n, v = .ref a ∧ h.get? a = some o ∧ o.cls = .type "tuple" ∧ o.data = .seq #[.int k.1 t, .int k.2 w] n
theorem IsTri.keeps {h h' : Heap} {v : Value} {k : K3} (p : IsTri h v k) (kk : ∀ b o, h.get? b = some o → o.cls = .type "tuple" → h'.get? b = some o) : IsTri h' v k := by
  obtain ⟨a, o, t, w, n, e, ho, hc, hd⟩ := p
  exact ⟨a, o, t, w, n, e, kk _ _ ho hc, hc, hd⟩
/-! ### on trees -/
end TP
end
/-! TO6 -/
/-! TO7 -/
/-! NG1 -/
section
set_option maxHeartbeats 4000000
namespace NG
open PySem PySem.Spec PyProof.Rows L2 TL
/-! ## one heap for all defs: cells that name cells -/
abbrev Frag := PySem.W.Frag
abbrev St := L2.St
/-- what is hidden, over what is hidden below it -/
def jn (U Z : Hp) : Hp := fun b => match Z b with | some o => some o | none => U b
theorem jn_z {U Z : Hp} {b : Addr} {o : HO} (h : Z b = some o) : jn U Z b = some o := by unfold jn; rw [h]
theorem jn_u {U Z : Hp} {b : Addr} (h : Z b = none) : jn U Z b = U b := by unfold jn; rw [h]
theorem jn_none {U Z : Hp} {b : Addr} (h : jn U Z b = none) : Z b = none ∧ U b = none := by
  unfold jn at h
  cases e : Z b with
  | none => rw [e] at h; exact ⟨rfl, h⟩
  | some o => rw [e] at h; cases h
/-- the classes, by number -/
class ClsT where
  cl : Nat → Addr
/-- an exception's object -/
def exObj (C : Addr) (dd : Option Addr) (o : Obj) : Prop := Zc (.ref C) dd o ∧ ∃ vs, o.data = .fields vs
inductive Cl where
  | lst (xs : List Sl) | tup (xs : List Sl) | dct (ps : List (Key × Sl)) | dctL (ps : List (Key × Sl)) | dcT (ps : List (List Key × Sl)) | obj (C : Nat) (fs : List (Str × Sl)) | exc (C : Nat) (fs : List (Str × PyData))
/-- the cells that name cells -/
abbrev Dd := List (Option Cl)
def dAt (D : Dd) (k : Nat) : Option Cl := D[k]?.join
def dPut (D : Dd) (k : Nat) (c : Option Cl) : Dd := (D ++ List.replicate (k + 1 - D.length) none).set k c
theorem dAt_self {D : Dd} {k : Nat} {c : Option Cl} : dAt (dPut D k c) k = c := by
  unfold dAt dPut
  rw [List.getElem?_set_self (by rw [List.length_append, List.length_replicate]; omega)]
  rfl
theorem dAt_ne {D : Dd} {k j : Nat} {c : Option Cl} (h : j ≠ k) : dAt (dPut D k c) j = dAt D j := by
  unfold dAt dPut
  rw [List.getElem?_set_ne (Ne.symm h)]
  by_cases hj : j < D.length
  · rw [List.getElem?_append_left hj]
  · rw [List.getElem?_append_right (by omega), List.getElem?_eq_none (l := D) (by omega), List.getElem?_replicate]
    split <;> rfl
/-- a value: data, or a cell -/
def Rv (K : Frag) (A : List Addr) (F : Hp) (v : V) : Sl → Prop
  | .un => False
  | .fz d => Rp K F v d
  | .ow k => ∃ a, A[k]? = some a ∧ v = .ref a
theorem pre_get {A A' : List Addr} {k : Nat} {a : Addr} (h : A <+: A') (e : A[k]? = some a) : A'[k]? = some a := by
  obtain ⟨t, rfl⟩ := h
  rw [List.getElem?_append_left (List.getElem?_eq_some_iff.mp e).1]
  exact e
theorem Rv.mono {K : Frag} {A A' : List Addr} {F F' : Hp} {v : V} (hA : A <+: A') (hF : Same F F') : ∀ {s : Sl}, Rv K A F v s → Rv K A' F' v s
  | .un, h => h
  | .fz d, h => Rpm hF h
  | .ow k, ⟨a, h1, h2⟩ => ⟨a, pre_get hA h1, h2⟩
abbrev RvAll (K : Frag) (A : List Addr) (F : Hp) : List V → List Sl → Prop := Paired (Rv K A F)
theorem RvAll.mono {K : Frag} {A A' : List Addr} {F F' : Hp} {vs : List V} {xs : List Sl} (hA : A <+: A') (hF : Same F F') (h : RvAll K A F vs xs) : RvAll K A' F' vs xs := Paired.mapP h fun _ _ q => Rv.mono hA hF q
def KvS (K : Frag) (A : List Addr) (F : Hp) {κ : Type} : List (κ × V) → List (κ × Sl) → Prop := Paired fun p q => p.1 = q.1 ∧ Rv K A F p.2 q.2
theorem KvS.mono {K : Frag} {A A' : List Addr} {F F' : Hp} {κ : Type} {vs : List (κ × V)} {xs : List (κ × Sl)} (hA : A <+: A') (hF : Same F F') (h : KvS K A F vs xs) : KvS K A' F' vs xs := Paired.mapP h fun _ _ q => ⟨q.1, Rv.mono hA hF q.2⟩
/-- fields that are data -/
def KvD (K : Frag) (F : Hp) : List (Str × V) → List (Str × PyData) → Prop := Paired fun p q => p.1 = q.1 ∧ Rp K F p.2 q.2
theorem KvD.mono {K : Frag} {F F' : Hp} {vs : List (Str × V)} {xs : List (Str × PyData)} (hF : Same F F') (h : KvD K F vs xs) : KvD K F' vs xs := Paired.mapP h fun _ _ q => ⟨q.1, Rpm hF q.2⟩
variable [ClsT]
/-- fields in a frozen dict; none, none needed -/
def FOk (K : Frag) (F : Hp) (dd : Option Addr) (fs : List (Str × PyData)) : Prop := (fs = [] ∧ dd = none) ∨ ∃ q vs, dd = some q ∧ F q = some (.xd vs) ∧ KvD K F vs fs
theorem FOk.mono {K : Frag} {F F' : Hp} {dd : Option Addr} {fs : List (Str × PyData)} (hF : Same F F') : FOk K F dd fs → FOk K F' dd fs
  | .inl h => .inl h
  | .inr ⟨q, vs, h1, h2, h3⟩ => .inr ⟨q, vs, h1, hF _ _ h2, h3.mono hF⟩
/-- what an object at a is, as a cell: Z has its dict -/
def StO (K : Frag) (Z : Hp) (A : List Addr) (F : Hp) (a : Addr) (o : HO) : Cl → Prop
  | .lst xs => ∃ vs, o = .lst vs ∧ RvAll K A F vs xs
  | .tup xs => ∃ vs, o = .tup vs ∧ RvAll K A F vs xs
  | .dct ps => ∃ ks, o = .dK ks ∧ KvS K A F ks ps
  | .dctL ps => ∃ ks od, o = .frz od (.dK ks) ∧ KvS K A F ks ps
  | .dcT ps => ∃ ks, o = .dT ks ∧ KvS K A F ks ps
  | .obj C fs => ∃ dx vs, o = .ins (ClsT.cl C) dx vs ∧ Z dx = some (.own a) ∧ KvS K A F vs fs
  | .exc C fs => ∃ oe dd, o = .ext (fun h => h.get? a = some oe) ∧ exObj (ClsT.cl C) dd oe ∧ FOk K F dd fs
def StC (K : Frag) (Z : Hp) (A : List Addr) (F : Hp) (a : Addr) (c : Cl) : Prop := ∃ o, Z a = some o ∧ StO K Z A F a o c
theorem StO.mono {K : Frag} {Z : Hp} {A A' : List Addr} {F F' : Hp} {a : Addr} {o : HO} (hA : A <+: A') (hF : Same F F') : ∀ {c : Cl}, StO K Z A F a o c → StO K Z A' F' a o c
  | .lst _, ⟨vs, h1, h2⟩ => ⟨vs, h1, h2.mono hA hF⟩
  | .tup _, ⟨vs, h1, h2⟩ => ⟨vs, h1, h2.mono hA hF⟩
  | .dct _, ⟨vs, h1, h2⟩ => ⟨vs, h1, h2.mono hA hF⟩
  | .dctL _, ⟨vs, od, h1, h2⟩ => ⟨vs, od, h1, h2.mono hA hF⟩
  | .dcT _, ⟨vs, h1, h2⟩ => ⟨vs, h1, h2.mono hA hF⟩
  | .obj _ _, ⟨dx, vs, h1, h2, h3⟩ => ⟨dx, vs, h1, h2, h3.mono hA hF⟩
  | .exc _ _, ⟨oe, dd, h1, h2, h3⟩ => ⟨oe, dd, h1, h2, h3.mono hF⟩
theorem StC.mono {K : Frag} {Z : Hp} {A A' : List Addr} {F F' : Hp} {a : Addr} {c : Cl} (hA : A <+: A') (hF : Same F F') (h : StC K Z A F a c) : StC K Z A' F' a c := by
  obtain ⟨o, h1, h2⟩ := h
  exact ⟨o, h1, h2.mono hA hF⟩
theorem StO.ne {K : Frag} {Z : Hp} {A : List Addr} {F : Hp} {a : Addr} {o : HO} : ∀ {c : Cl}, StO K Z A F a o c → ∀ b, o ≠ .own b
  | .lst _, ⟨vs, h1, _⟩, _, z => by rw [h1] at z; cases z
  | .tup _, ⟨vs, h1, _⟩, _, z => by rw [h1] at z; cases z
  | .dct _, ⟨vs, h1, _⟩, _, z => by rw [h1] at z; cases z
  | .dctL _, ⟨vs, od, h1, _⟩, _, z => by rw [h1] at z; cases z
  | .dcT _, ⟨vs, h1, _⟩, _, z => by rw [h1] at z; cases z
  | .obj _ _, ⟨dx, vs, h1, _⟩, _, z => by rw [h1] at z; cases z
  | .exc _ _, ⟨oe, dd, h1, _⟩, _, z => by rw [h1] at z; cases z
/-- another heap that has the dict -/
theorem StO.heap {K : Frag} {Z Z' : Hp} {A : List Addr} {F : Hp} {a : Addr} {o : HO} (h : ∀ dx, Z dx = some (.own a) → Z' dx = some (.own a)) : ∀ {c : Cl}, StO K Z A F a o c → StO K Z' A F a o c
  | .lst _, q => q
  | .tup _, q => q
  | .dct _, q => q
  | .dctL _, q => q
  | .dcT _, q => q
  | .obj _ _, ⟨dx, vs, h1, h2, h3⟩ => ⟨dx, vs, h1, h dx h2, h3⟩
  | .exc _ _, q => q
/-- another object changes -/
theorem StC.upd {K : Frag} {Z : Hp} {A : List Addr} {F : Hp} {a b : Addr} {u : HO} {c : Cl} (hb : a ≠ b) (hd : ∀ c, Z b ≠ some (.own c)) (h : StC K Z A F a c) : StC K (upd Z b u) A F a c := by
  obtain ⟨o, h1, h2⟩ := h
  exact ⟨o, by rw [upd_ne hb]; exact h1, h2.heap fun dx q => by rw [upd_ne (fun z => hd _ (z ▸ q))]; exact q⟩
/-- where a cell's object is held: a locked dict stands among what is not ours -/
def hpOf (c : Cl) (U Z : Hp) : Hp := match c with
  | .dctL _ => U
  | _ => Z
def notL : Cl → Prop
  | .dctL _ => False
  | _ => True
theorem hp_not {c : Cl} (h : notL c) (U Z : Hp) : hpOf c U Z = Z := by
  cases c <;> first | rfl | exact h.elim
structure GZ (K : Frag) (U Z : Hp) (A : List Addr) (F H : Hp) (σ : St) (r : Rs) (m : Ms) (D : Dd) : Prop where
  dj : ∀ b o, Z b = some o → U b = none
  g : Good K (jn U Z) A F H σ r m
  d : ∀ k c, dAt D k = some c → ∃ a, A[k]? = some a ∧ StC K (hpOf c U Z) A F a c
def GG (K : Frag) (U : Hp) (A : List Addr) (F H : Hp) (σ : St) (r : Rs) (m : Ms) (D : Dd) : Prop := ∃ Z, GZ K U Z A F H σ r m D
section
variable {K : Frag} {U Z : Hp} {A A' : List Addr} {F F' H H' : Hp} {σ σ' : St} {r r' : Rs} {m m' : Ms} {D : Dd}
/-- a step that leaves the cells that name cells -/
theorem GZ.old (G : GZ K U Z A F H σ r m D) (hA : A <+: A') (hF : Same F F') (g : Good K (jn U Z) A' F' H' σ' r' m') : GZ K U Z A' F' H' σ' r' m' D :=
  ⟨G.dj, g, fun k c e => by obtain ⟨a, h1, h2⟩ := G.d k c e; exact ⟨a, pre_get hA h1, h2.mono hA hF⟩⟩
theorem GZ.zh (G : GZ K U Z A F H σ r m D) {b : Addr} {o : HO} (h : Z b = some o) : H b = some o ∧ F b = none := G.g.fo b o (jn_z h)
theorem GZ.hh (G : GZ K U Z A F H σ r m D) {c : Cl} {b : Addr} {o : HO} (h : hpOf c U Z b = some o) : H b = some o ∧ F b = none := by
  have hu : U b = some o → H b = some o ∧ F b = none := fun h => G.g.fo b o (by
    unfold jn
    cases e : Z b with
    | none => exact h
    | some o' => have := G.dj b o' e; rw [h] at this; cases this)
  cases c <;> first | exact G.zh h | exact hu h
theorem GZ.nope (G : GZ K U Z A F H σ r m D) {p : Addr} (h : H p = none) : F p = none ∧ U p = none ∧ Z p = none ∧ p ∉ A := by
  obtain ⟨q1, q2⟩ := G.g.nope h
  obtain ⟨q3, q4⟩ := jn_none q2
  exact ⟨q1, q4, q3, G.g.notin h⟩
/-- the slots are left -/
theorem good_bare {U : Hp} (G : Good K U A F H σ r m) : Good K U A F H [] [] m :=
  ⟨G.sub, G.fo, rfl, fun i d e => by simp at e, fun i k e => by simp at e, G.al, G.cl, G.nd, G.he, G.lk⟩
/-- the slots as they were -/
theorem good_back {U0 U : Hp} {H0 : Hp} {m0 : Ms} (G : Good K U0 A F H0 σ r m0) (hA : A <+: A') (hF : Same F F') (G' : Good K U A' F' H' [] [] m') : Good K U A' F' H' σ r m' :=
  ⟨G'.sub, G'.fo, G.len, fun i d e => by obtain ⟨v, h1, h2⟩ := G.fz i d e; exact ⟨v, h1, Rpm hF h2⟩, fun i k e => by obtain ⟨a, h1, h2⟩ := G.ow i k e; exact ⟨a, pre_get hA h1, h2⟩, G'.al, G'.cl, G'.nd, G'.he, G'.lk⟩
theorem GG.bare (G : GG K U A F H σ r m D) : GG K U A F H [] [] m D := by
  obtain ⟨Z, G⟩ := G
  exact ⟨Z, G.dj, good_bare G.g, G.d⟩
theorem GG.back {U0 H0 : Hp} {m0 : Ms} {D0 : Dd} (G : GG K U0 A F H0 σ r m0 D0) (hA : A <+: A') (hF : Same F F') (G' : GG K U A' F' H' [] [] m' D) : GG K U A' F' H' σ r m' D := by
  obtain ⟨Z0, G⟩ := G
  obtain ⟨Z, G'⟩ := G'
  exact ⟨Z, G'.dj, good_back G.g hA hF G'.g, G'.d⟩
theorem GG.sub (G : GG K U A F H σ r m D) : Same F H := by obtain ⟨Z, G⟩ := G; exact G.g.sub
/-- a slot gets a value -/
theorem good_set {U : Hp} (G : Good K U A F H σ r m) (i : Nat) {v : V} : ∀ {s : Sl}, Rv K A F v s → Good K U A F H (σ.set i (some v)) (r.set i s) m
  | .un, h => h.elim
  | .fz d, h => G.setFz h
  | .ow k, ⟨a, h1, h2⟩ => by
    refine ⟨G.sub, G.fo, by rw [List.length_set, List.length_set]; exact G.len, fun j e he => ?_, fun j k' he => ?_, G.al, G.cl, G.nd, G.he, G.lk⟩
    · by_cases hj : i = j
      · subst hj
        by_cases hl : i < r.length
        · rw [List.getElem?_set_self hl] at he
          cases he
        · rw [List.getElem?_eq_none (by rw [List.length_set]; omega)] at he
          cases he
      · rw [List.getElem?_set_ne hj] at he
        rw [List.getElem?_set_ne hj]
        exact G.fz j e he
    · by_cases hj : i = j
      · subst hj
        by_cases hl : i < r.length
        · rw [List.getElem?_set_self hl] at he
          cases he
          exact ⟨a, h1, by rw [h2]; exact List.getElem?_set_self (by rw [← G.len]; exact hl)⟩
        · rw [List.getElem?_eq_none (by rw [List.length_set]; omega)] at he
          cases he
      · rw [List.getElem?_set_ne hj] at he
        rw [List.getElem?_set_ne hj]
        exact G.ow j k' he
theorem GG.set (G : GG K U A F H σ r m D) (i : Nat) {v : V} {s : Sl} (h : Rv K A F v s) : GG K U A F H (σ.set i (some v)) (r.set i s) m D := by
  obtain ⟨Z, G⟩ := G
  exact ⟨Z, G.dj, good_set G.g i h, G.d⟩
/-- what a slot holds -/
theorem GG.slot (G : GG K U A F H σ r m D) {i : Nat} : ∀ {s : Sl}, r[i]? = some s → s ≠ .un → ∃ v, σ[i]? = some (some v) ∧ Rv K A F v s
  | .un, _, h => absurd rfl h
  | .fz d, e, _ => by obtain ⟨Z, G⟩ := G; exact G.g.fz i d e
  | .ow k, e, _ => by obtain ⟨Z, G⟩ := G; obtain ⟨a, h1, h2⟩ := G.g.ow i k e; exact ⟨_, h2, a, h1, rfl⟩
end
end NG
end
/-! NG2 -/
section
set_option maxHeartbeats 4000000
namespace NG
open PySem PySem.Spec PyProof.Rows L2 TL
/-! ## what a cell holds; changes -/
def kvF : List (PyData × PyData) → List (Key × Sl)
  | [] => []
  | (c, d) :: r => match keyD c with | some k => (k, .fz d) :: kvF r | none => kvF r
def cont (m : Ms) (D : Dd) (k : Nat) : Option Cl := match dAt D k with
  | some c => some c
  | none => match cellAt m k with
    | some (.list ds) => some (.lst (ds.map .fz))
    | some (.dict ps) => some (.dct (kvF ps))
    | _ => none
def fzL : List Sl → Option (List PyData)
  | [] => some []
  | .fz d :: r => (fzL r).map (d :: ·)
  | _ => none
def fzK : List (Key × Sl) → Option (List (PyData × PyData))
  | [] => some []
  | (k, .fz d) :: r => (fzK r).map ((kD k, d) :: ·)
  | _ => none
/-- data alone -/
def shal : Cl → Option PyData
  | .lst xs => (fzL xs).map .list
  | .dct ps => (fzK ps).map .dict
  | _ => none
def putC (m : Ms) (D : Dd) (k : Nat) (c : Cl) : Ms × Dd := match dAt D k with
  | some _ => (m, dPut D k (some c))
  | none => match shal c with
    | some d => (m.set k (some d), D)
    | none => (m.set k none, dPut D k (some c))
def newC (m : Ms) (D : Dd) (c : Cl) : Ms × Dd := match shal c with
  | some d => (m ++ [some d], D)
  | none => (m ++ [none], dPut D m.length (some c))
section
variable [ClsT] {K : Frag} {U Z : Hp} {A A' : List Addr} {F F' H H' : Hp} {σ σ' : St} {r r' : Rs} {m m' : Ms} {D : Dd}
theorem rv_fzs : ∀ {vs : List V} {ds : List PyData}, RpAll K F vs ds → RvAll K A F vs (ds.map .fz)
  | _, _, .nil => .nil
  | _, _, .cons h t => .cons h (rv_fzs t)
theorem rp_fzL : ∀ {vs : List V} {xs : List Sl} {ds : List PyData}, RvAll K A F vs xs → fzL xs = some ds → RpAll K F vs ds
  | _, _, _, .nil, e => by cases e; exact .nil
  | _ :: _, .fz d :: _, _, .cons h t, e => by
    simp only [fzL] at e
    obtain ⟨ds, e1, e2⟩ := Option.map_eq_some_iff.mp e
    subst e2
    exact .cons h (rp_fzL t e1)
  | _ :: _, .un :: _, _, _, e => by cases e
  | _ :: _, .ow _ :: _, _, _, e => by cases e
theorem kv_fzs : ∀ {ks : List (Key × V)} {ps : List (PyData × PyData)}, RpKv K F ks ps → KvS K A F ks (kvF ps)
  | _, _, .nil => .nil
  | _, _, .cons h t => by
    simp only [kvF, keyD_kD]
    exact .cons ⟨rfl, h⟩ (kv_fzs t)
theorem kv_fzK : ∀ {ks : List (Key × V)} {xs : List (Key × Sl)} {ps : List (PyData × PyData)}, KvS K A F ks xs → fzK xs = some ps → RpKv K F ks ps
  | _, _, _, .nil, e => by cases e; exact .nil
  | (k, v) :: _, (k', .fz d) :: _, _, .cons h t, e => by
    simp only [fzK] at e
    obtain ⟨ds, e1, e2⟩ := Option.map_eq_some_iff.mp e
    subst e2
    obtain ⟨h1, h2⟩ := h
    simp only at h1
    subst h1
    exact .cons h2 (kv_fzK t e1)
  | _ :: _, (_, .un) :: _, _, _, e => by cases e
  | _ :: _, (_, .ow _) :: _, _, _, e => by cases e
theorem stored_of {a : Addr} {o : HO} {c : Cl} {d : PyData} (h : StO K H A F a o c) (e : shal c = some d) : Stored K F o d := by
  unfold shal at e
  split at e
  · obtain ⟨ds, e1, e2⟩ := Option.map_eq_some_iff.mp e
    subst e2
    obtain ⟨vs, rfl, h2⟩ := h
    exact ⟨vs, rfl, rp_fzL h2 e1⟩
  · obtain ⟨ds, e1, e2⟩ := Option.map_eq_some_iff.mp e
    subst e2
    obtain ⟨vs, rfl, h2⟩ := h
    exact ⟨vs, rfl, kv_fzK h2 e1⟩
  · cases e
theorem mem_at {a : Addr} {k : Nat} (e : A[k]? = some a) : a ∈ A := List.mem_of_getElem? e
theorem nodup_ne {a b : Addr} {j k : Nat} (hn : A.Nodup) (e1 : A[j]? = some a) (e2 : A[k]? = some b) (h : j ≠ k) : a ≠ b := fun z => by
  subst z
  obtain ⟨l1, q1⟩ := List.getElem?_eq_some_iff.mp e1
  obtain ⟨l2, q2⟩ := List.getElem?_eq_some_iff.mp e2
  exact h ((List.getElem_inj hn).mp (q1.trans q2.symm))
/-- what stands behind a cell -/
theorem GG.cont (G : GG K U A F H σ r m D) {k : Nat} {c : Cl} (e : cont m D k = some c) : ∃ a o, A[k]? = some a ∧ H a = some o ∧ StO K H A F a o c ∧ F a = none := by
  obtain ⟨Z, G⟩ := G
  unfold NG.cont at e
  cases e1 : dAt D k with
  | some c' =>
    rw [e1] at e
    cases e
    obtain ⟨a, h1, o, h2, h3⟩ := G.d k _ e1
    obtain ⟨q1, q2⟩ := G.hh h2
    exact ⟨a, o, h1, q1, h3.heap fun dx q => (G.hh q).1, q2⟩
  | none =>
    rw [e1] at e
    simp only at e
    cases e2 : cellAt m k with
    | none => rw [e2] at e; cases e
    | some d =>
      rw [e2] at e
      have hk := cellAt_lt e2
      obtain ⟨a, ha⟩ : ∃ a, A[k]? = some a := ⟨A[k]'(by rw [G.g.al]; exact hk), List.getElem?_eq_getElem _⟩
      obtain ⟨q1, q2, o, q3, q4⟩ := G.g.cl k a d ha e2
      cases d with
      | list ds =>
        cases e
        obtain ⟨vs, rfl, q5⟩ := q4
        exact ⟨a, _, ha, q3, ⟨vs, rfl, rv_fzs q5⟩, q1⟩
      | dict ps =>
        cases e
        obtain ⟨vs, rfl, q5⟩ := q4
        exact ⟨a, _, ha, q3, ⟨vs, rfl, kv_fzs q5⟩, q1⟩
      | _ => cases e
theorem StC.updL {a b : Addr} {u : HO} {c : Cl} (hb : a ≠ b) (hd : ∀ c, Z b ≠ some (.own c)) (h : StC K (hpOf c U Z) A F a c) : StC K (hpOf c U (L2.upd Z b u)) A F a c := by
  cases c <;> first | exact h.upd hb hd | exact h
/-- a cell that names cells, from now on -/
theorem GZ.deep (G : GZ K U Z A F H σ r m D) {k : Nat} {c : Cl} {a : Addr} {o : HO} (ha : A[k]? = some a) (hF : F a = none) (hU : U a = none) (hZ : ∀ b, Z a ≠ some (.own b)) (hm : ∀ j, j ≠ k → cellAt m' j = cellAt m j) (hl : m'.length = m.length) (hk : cellAt m' k = none)
    (h : StO K (upd Z a o) A F a o c) (hn : notL c) : GZ K U (upd Z a o) A F (upd H a o) σ r m' (dPut D k (some c)) := by
  refine ⟨fun b o' z => ?_, ⟨fun b o' z => ?_, fun b o' z => ?_, G.g.len, G.g.fz, G.g.ow, by rw [hl]; exact G.g.al, fun j b ds q1 q2 => ?_, G.g.nd, fun b hb => ?_, trivial⟩, fun j c' q => ?_⟩
  · by_cases hb : b = a
    · rw [hb]; exact hU
    · rw [upd_ne hb] at z; exact G.dj b o' z
  · have hb : b ≠ a := fun y => by rw [y, hF] at z; cases z
    rw [upd_ne hb]
    exact G.g.sub b o' z
  · by_cases hb : b = a
    · rw [hb] at z ⊢
      rw [jn_z (o := o) upd_same] at z
      cases z
      exact ⟨upd_same, hF⟩
    · rw [upd_ne hb]
      refine G.g.fo b o' ?_
      unfold jn at z ⊢
      rw [upd_ne hb] at z
      exact z
  · have hj : j ≠ k := fun y => by rw [y, hk] at q2; cases q2
    have q3 : cellAt m j = some ds := by rw [← hm j hj]; exact q2
    have hb := nodup_ne G.g.nd q1 ha hj
    obtain ⟨w1, w2, o', w3, w4⟩ := G.g.cl j b ds q1 q3
    refine ⟨w1, ?_, o', by rw [upd_ne hb]; exact w3, w4⟩
    unfold jn at w2 ⊢
    rw [upd_ne hb]
    exact w2
  · by_cases hb' : b = a
    · exact ⟨o, by rw [hb']; exact upd_same⟩
    · obtain ⟨o', w⟩ := G.g.he b hb
      exact ⟨o', by rw [upd_ne hb']; exact w⟩
  · by_cases hj : j = k
    · rw [hj, dAt_self] at q
      cases q
      exact ⟨a, by rw [hj]; exact ha, o, by rw [hp_not hn]; exact upd_same, by rw [hp_not hn]; exact h⟩
    · rw [dAt_ne hj] at q
      obtain ⟨b, w1, w2⟩ := G.d j c' q
      exact ⟨b, w1, w2.updL (nodup_ne G.g.nd w1 ha hj) hZ⟩
/-- no object of a class -/
def plainC : Cl → Prop
  | .obj _ _ => False
  | .dctL _ => False
  | _ => True
theorem plainC.notL : ∀ {c : Cl}, plainC c → notL c
  | .lst _, _ => trivial
  | .tup _, _ => trivial
  | .dct _, _ => trivial
  | .dctL _, h => h.elim
  | .dcT _, _ => trivial
  | .obj _ _, h => h.elim
  | .exc _ _, _ => trivial
theorem StO.any {a : Addr} {o : HO} {Z' : Hp} : ∀ {c : Cl}, plainC c → StO K Z A F a o c → StO K Z' A F a o c
  | .lst _, _, q => q
  | .tup _, _, q => q
  | .dct _, _, q => q
  | .dctL _, p, _ => p.elim
  | .dcT _, _, q => q
  | .obj _ _, p, _ => p.elim
  | .exc _ _, _, q => q
/-- a cell is changed -/
theorem GG.put (G : GG K U A F H σ r m D) {k : Nat} {c0 c : Cl} {a : Addr} {o : HO} (e : NG.cont m D k = some c0) (ha : A[k]? = some a) (hp : plainC c) (h : StO K H A F a o c) (hn : notL c0 := by trivial) :
    GG K U A F (upd H a o) σ r (putC m D k c).1 (putC m D k c).2 := by
  obtain ⟨a', o0, ha', hH, h0, hF⟩ := G.cont e
  rw [ha] at ha'
  cases ha'
  obtain ⟨Z, G⟩ := G
  have hkA : k < m.length := by rw [← G.g.al]; exact (List.getElem?_eq_some_iff.mp ha).1
  unfold putC
  cases e1 : dAt D k with
  | some c' =>
    obtain ⟨a', h1, o', h2, h3⟩ := G.d k _ e1
    have ec : c' = c0 := by
      unfold NG.cont at e
      rw [e1] at e
      exact Option.some.inj e
    rw [ec, hp_not hn] at h2 h3
    rw [ha] at h1
    cases h1
    have hc : cellAt m k = none := by
      cases q : cellAt m k with
      | none => rfl
      | some ds =>
        obtain ⟨_, w, _⟩ := G.g.cl k a ds ha q
        rw [jn_z h2] at w
        cases w
    exact ⟨_, G.deep ha hF (G.dj a _ h2) (fun b y => by rw [h2] at y; cases y; exact h3.ne b rfl) (fun _ _ => rfl) rfl hc (h.any hp) hp.notL⟩
  | none =>
    unfold NG.cont at e
    rw [e1] at e
    simp only at e
    cases e2 : cellAt m k with
    | none => rw [e2] at e; cases e
    | some d0 =>
      obtain ⟨w1, w2, w3⟩ := G.g.cl k a d0 ha e2
      obtain ⟨w4, w5⟩ := jn_none w2
      cases e3 : shal c with
      | some d => exact ⟨Z, G.old (List.prefix_refl A) (Same.refl F) (G.g.setCell ha e2 (stored_of h e3))⟩
      | none => exact ⟨_, G.deep ha hF w5 (fun b y => by rw [w4] at y; cases y) (fun j hj => cellAt_ne hj) (by rw [List.length_set]) (cellAt_self hkA) (h.any hp) hp.notL⟩
/-- a fresh object that is never changed -/
theorem GG.laid (G : GG K U A F H σ r m D) {p : Addr} {o : HO} (h : H p = none) : GG K U A (upd F p o) (upd H p o) σ r m D := by
  obtain ⟨Z, G⟩ := G
  exact ⟨Z, G.old (List.prefix_refl A) (same_new (G.nope h).1) (G.g.laid h)⟩
theorem GG.laidO (G : GG K U A F H σ r m D) {p : Addr} {o : HO} (h : H p = none) : GG K U A F (upd H p o) σ r m D := by
  obtain ⟨Z, G⟩ := G
  exact ⟨Z, G.old (List.prefix_refl A) (Same.refl F) (G.g.laidO h)⟩
theorem GG.nope (G : GG K U A F H σ r m D) {p : Addr} (h : H p = none) : F p = none ∧ U p = none ∧ p ∉ A := by
  obtain ⟨Z, G⟩ := G
  obtain ⟨h1, h2, _, h4⟩ := G.nope h
  exact ⟨h1, h2, h4⟩
theorem GG.al (G : GG K U A F H σ r m D) : A.length = m.length := by obtain ⟨Z, G⟩ := G; exact G.g.al
theorem new_at {p : Addr} {n : Nat} (h : A.length = n) : (A ++ [p])[n]? = some p := by rw [← h]; simp
theorem new_old {p b : Addr} {n k : Nat} (h : A.length = n) (e : (A ++ [p])[k]? = some b) (hk : k ≠ n) : A[k]? = some b := by
  by_cases hl : k < A.length
  · rw [List.getElem?_append_left hl] at e
    exact e
  · rw [List.getElem?_append_right (by omega)] at e
    have z := (List.getElem?_eq_some_iff.mp e).1
    rw [List.length_singleton] at z
    omega
/-- a new cell that no name holds yet: what is kept of the old ones -/
theorem good_ext {U : Hp} (G : Good K U A F H σ r m) {p : Addr} {o : HO} (h : H p = some o) (hp : p ∉ A) : Good K U (A ++ [p]) F H σ r (m ++ [none]) := by
  refine ⟨G.sub, G.fo, G.len, G.fz, fun i k e => ?_, by rw [List.length_append, List.length_append, G.al]; rfl, fun k b ds e1 e2 => ?_, ?_, fun b hb => ?_, trivial⟩
  · obtain ⟨a, h1, h2⟩ := G.ow i k e
    exact ⟨a, pre_get (List.prefix_append _ _) h1, h2⟩
  · have hk : k ≠ m.length := fun y => by rw [y, cellAt_new] at e2; cases e2
    have e3 := new_old G.al e1 hk
    have hl : k < m.length := by rw [← G.al]; exact (List.getElem?_eq_some_iff.mp e3).1
    rw [cellAt_old hl] at e2
    exact G.cl k b ds e3 e2
  · rw [List.nodup_append]
    exact ⟨G.nd, by simp, fun x hx y hy => by
      rw [List.mem_singleton] at hy
      subst hy
      exact fun z => hp (z ▸ hx)⟩
  · rcases List.mem_append.mp hb with q | q
    · exact G.he b q
    · rw [List.mem_singleton] at q
      exact ⟨_, by rw [q]; exact h⟩
theorem good_in {U : Hp} (G : Good K U A F H σ r (m ++ [none])) {p : Addr} {o : HO} {d : PyData} (hA : A[m.length]? = some p) (h : H p = some o) (hF : F p = none) (hU : U p = none) (hs : Stored K F o d) : Good K U A F H σ r (m ++ [some d]) := by
  refine ⟨G.sub, G.fo, G.len, G.fz, G.ow, by rw [G.al]; simp, fun k b ds e1 e2 => ?_, G.nd, G.he, trivial⟩
  by_cases hk : k = m.length
  · rw [hk] at e1 e2
    rw [hA] at e1
    cases e1
    rw [cellAt_new] at e2
    cases e2
    exact ⟨hF, hU, o, h, hs⟩
  · have hl : k < m.length := by
      have := cellAt_lt e2
      rw [List.length_append, List.length_singleton] at this
      omega
    refine G.cl k b ds e1 ?_
    rw [cellAt_old hl] at e2 ⊢
    exact e2
/-- a new cell -/
theorem GG.new (G : GG K U A F H σ r m D) {p : Addr} {o : HO} {c : Cl} (h : H p = none) (hp : plainC c) (hs : StO K H A F p o c) : GG K U (A ++ [p]) F (upd H p o) σ r (newC m D c).1 (newC m D c).2 := by
  have hpre : A <+: A ++ [p] := List.prefix_append _ _
  obtain ⟨Z, G⟩ := G
  obtain ⟨q1, q2, q3, q4⟩ := G.nope h
  have g1 : Good K (jn U Z) (A ++ [p]) F (upd H p o) σ r (m ++ [none]) := good_ext (G.g.laidO h) upd_same q4
  have hat : (A ++ [p])[m.length]? = some p := new_at G.g.al
  have hj : jn U Z p = none := by rw [jn_u q3]; exact q2
  unfold newC
  cases e : shal c with
  | some d => exact ⟨Z, G.old hpre (Same.refl F) (good_in g1 hat upd_same q1 hj (stored_of hs e))⟩
  | none =>
    have g2 := (G.old hpre (Same.refl F) g1).deep (o := o) hat q1 q2 (fun b y => by rw [q3] at y; cases y) (m' := m ++ [none]) (fun _ _ => rfl) rfl cellAt_new ((hs.mono hpre (Same.refl F)).any hp)
    rw [upd_upd] at g2
    exact ⟨_, g2 hp.notL⟩
/-- a new object of a class, no field set -/
theorem GG.obj (G : GG K U A F H σ r m D) {x dx : Addr} {C : Nat} (hx : H x = none) (hd : H dx = none) (hne : dx ≠ x) :
    GG K U (A ++ [x]) F (upd (upd H dx (.own x)) x (.ins (ClsT.cl C) dx [])) σ r (m ++ [none]) (dPut D m.length (some (.obj C []))) := by
  have hpre : A <+: A ++ [x] := List.prefix_append _ _
  obtain ⟨Z, G⟩ := G
  obtain ⟨q1, q2, q3, q4⟩ := G.nope hx
  obtain ⟨d1, d2, d3, d4⟩ := G.nope hd
  -- the dict is hidden
  have g0 : GZ K U (upd Z dx (.own x)) A F (upd H dx (.own x)) σ r m D := by
    refine ⟨fun b o z => ?_, ⟨(G.g.laidO hd).sub, fun b o z => ?_, G.g.len, G.g.fz, G.g.ow, G.g.al, fun j b ds e1 e2 => ?_, G.g.nd, (G.g.laidO (o := .own x) hd).he, trivial⟩, fun j c e => ?_⟩
    · by_cases hb : b = dx
      · rw [hb]; exact d2
      · rw [upd_ne hb] at z; exact G.dj b o z
    · by_cases hb : b = dx
      · rw [hb] at z ⊢
        rw [jn_z (o := .own x) upd_same] at z
        cases z
        exact ⟨upd_same, d1⟩
      · rw [upd_ne hb]
        refine G.g.fo b o ?_
        unfold jn at z ⊢
        rw [upd_ne hb] at z
        exact z
    · obtain ⟨w1, w2, o', w3, w4⟩ := G.g.cl j b ds e1 e2
      have hb : b ≠ dx := fun y => by rw [y, hd] at w3; cases w3
      refine ⟨w1, ?_, o', by rw [upd_ne hb]; exact w3, w4⟩
      unfold jn at w2 ⊢
      rw [upd_ne hb]
      exact w2
    · obtain ⟨b, w1, w2⟩ := G.d j c e
      exact ⟨b, w1, w2.updL (fun y => d4 (y ▸ mem_at w1)) (fun b y => by rw [d3] at y; cases y)⟩
  have hx' : upd H dx (.own x) x = none := by rw [upd_ne (Ne.symm hne)]; exact hx
  have g1 : Good K (jn U (upd Z dx (.own x))) (A ++ [x]) F (upd (upd H dx (.own x)) x (.ins (ClsT.cl C) dx [])) σ r (m ++ [none]) := good_ext (g0.g.laidO hx') upd_same q4
  have zx : upd Z dx (.own x) x = none := by rw [upd_ne (Ne.symm hne)]; exact q3
  have g2 := (g0.old hpre (Same.refl F) g1).deep (o := .ins (ClsT.cl C) dx []) (c := .obj C []) (new_at G.g.al) q1 q2 (fun b y => by rw [zx] at y; cases y) (m' := m ++ [none]) (fun _ _ => rfl) rfl cellAt_new
    ⟨dx, [], rfl, by rw [upd_ne hne]; exact upd_same, .nil⟩ trivial
  rw [upd_upd] at g2
  exact ⟨_, g2⟩
/-- a cell of data is frozen; its names are left -/
theorem good_frz {U : Hp} (G : Good K U A F H σ r m) {k : Nat} {a : Addr} {d : PyData} (ha : A[k]? = some a) (e : cellAt m k = some d) : ∃ F', Same F F' ∧ Good K U A F' H σ r (m.set k none) ∧ Rp K F' (.ref a) d := by
  obtain ⟨hF, hU, u, hH, hr⟩ := G.cl k a d ha e
  have s : Same F (upd F a u) := same_new hF
  refine ⟨upd F a u, s, ⟨fun b o e => ?_, fun b o e => ?_, G.len, fun i d e => ?_, G.ow, by rw [List.length_set]; exact G.al, fun j b es e1 e2 => ?_, G.nd, G.he, trivial⟩, stored_rp upd_same (stored_mono s hr)⟩
  · by_cases hb : b = a
    · subst hb
      rw [upd_same] at e
      cases e
      exact hH
    · rw [upd_ne hb] at e
      exact G.sub b o e
  · have hb : b ≠ a := fun z => by rw [z, hU] at e; cases e
    rw [upd_ne hb]
    exact G.fo b o e
  · obtain ⟨v, h1, h2⟩ := G.fz i d e
    exact ⟨v, h1, Rpm s h2⟩
  · have hj : j ≠ k := fun y => by rw [y, cellAt_self (cellAt_lt e)] at e2; cases e2
    rw [cellAt_ne hj] at e2
    obtain ⟨h1, h2, us, h3, h4⟩ := G.cl j b es e1 e2
    exact ⟨by rw [upd_ne (nodup_ne G.nd e1 ha hj)]; exact h1, h2, us, h3, stored_mono s h4⟩
theorem GG.frz (G : GG K U A F H σ r m D) {k : Nat} {a : Addr} {d : PyData} (ha : A[k]? = some a) (e : cellAt m k = some d) : ∃ F', Same F F' ∧ GG K U A F' H σ r (m.set k none) D ∧ Rp K F' (.ref a) d := by
  obtain ⟨Z, G⟩ := G
  obtain ⟨F', h1, h2, h3⟩ := good_frz G.g ha e
  exact ⟨F', h1, ⟨Z, G.old (List.prefix_refl A) h1 h2⟩, h3⟩
end
/-! ## a value read as data, for a moment -/
def optAll {α : Type} : List (Option α) → Option (List α)
  | [] => some []
  | none :: _ => none
  | some a :: r => (optAll r).map (a :: ·)
def snap : Nat → Ms → Dd → Sl → Option PyData
  | 0, _, _, _ => none
  | _ + 1, _, _, .un => none
  | _ + 1, _, _, .fz d => some d
  | n + 1, m, D, .ow k => match cont m D k with
    | some (.lst xs) => (optAll (xs.map (snap n m D))).map .list
    | some (.tup xs) => (optAll (xs.map (snap n m D))).map .tuple
    | some (.dct ps) => (optAll (ps.map fun p => (snap n m D p.2).map fun d => (kD p.1, d))).map .dict
    | _ => none
section
variable [ClsT] {K : Frag} {U Z : Hp} {A A' : List Addr} {F F' H H' : Hp} {σ σ' : St} {r r' : Rs} {m m' : Ms} {D : Dd}
theorem rpa_opt {f : Sl → Option PyData} (h : ∀ v s d, Rv K A F v s → f s = some d → Rp K H v d) : ∀ {vs : List V} {xs : List Sl} {ds : List PyData}, RvAll K A F vs xs → optAll (xs.map f) = some ds → RpAll K H vs ds
  | _, _, _, .nil, e => by cases e; exact .nil
  | v :: _, s :: xs, ds, .cons h1 t, e => by
    simp only [List.map_cons] at e
    cases e1 : f s with
    | none => rw [e1] at e; cases e
    | some d =>
      rw [e1] at e
      obtain ⟨es, e2, e3⟩ := Option.map_eq_some_iff.mp e
      subst e3
      exact .cons (h _ _ _ h1 e1) (rpa_opt h t e2)
theorem rpk_opt {f : Sl → Option PyData} (h : ∀ v s d, Rv K A F v s → f s = some d → Rp K H v d) : ∀ {vs : List (Key × V)} {xs : List (Key × Sl)} {ds : List (PyData × PyData)}, KvS K A F vs xs → optAll (xs.map fun p => (f p.2).map fun d => (kD p.1, d)) = some ds → RpKv K H vs ds
  | _, _, _, .nil, e => by cases e; exact .nil
  | (k, v) :: _, (k', s) :: xs, ds, .cons h1 t, e => by
    simp only [List.map_cons] at e
    cases e1 : f s with
    | none => rw [e1] at e; cases e
    | some d =>
      rw [e1] at e
      obtain ⟨es, e2, e3⟩ := Option.map_eq_some_iff.mp e
      subst e3
      obtain ⟨q1, q2⟩ := h1
      simp only at q1
      subst q1
      exact .cons (h _ _ _ q2 e1) (rpk_opt h t e2)
theorem GG.snap (G : GG K U A F H σ r m D) : ∀ (n : Nat) (v : V) (s : Sl) (d : PyData), Rv K A F v s → NG.snap n m D s = some d → Rp K H v d
  | 0, _, _, _, _, e => by cases e
  | n + 1, v, .un, _, h, _ => h.elim
  | n + 1, v, .fz d, _, h, e => by cases e; exact Rpm G.sub h
  | n + 1, v, .ow k, d, ⟨a, ha, hv⟩, e => by
    subst hv
    unfold NG.snap at e
    cases e1 : NG.cont m D k with
    | none => rw [e1] at e; cases e
    | some c =>
      rw [e1] at e
      obtain ⟨a', o, ha', hH, h0, _⟩ := G.cont e1
      rw [ha] at ha'
      cases ha'
      cases c with
      | lst xs =>
        obtain ⟨ds, e2, rfl⟩ := Option.map_eq_some_iff.mp e
        obtain ⟨vs, rfl, h2⟩ := h0
        exact .vl (.inl (.inl hH)) (rpa_opt (fun v s d => G.snap n v s d) h2 e2)
      | tup xs =>
        obtain ⟨ds, e2, rfl⟩ := Option.map_eq_some_iff.mp e
        obtain ⟨vs, rfl, h2⟩ := h0
        exact .vt (.inl (.inl hH)) (rpa_opt (fun v s d => G.snap n v s d) h2 e2)
      | dct ps =>
        obtain ⟨ds, e2, rfl⟩ := Option.map_eq_some_iff.mp e
        obtain ⟨vs, rfl, h2⟩ := h0
        exact .vd (.inl hH) (rpk_opt (fun v s d => G.snap n v s d) h2 e2)
      | _ => cases e
/-- the heap as it stands, read by an expression of data -/
theorem GG.frozen (G : GG K U A F H σ r m D) {rs : Rs} (hl : rs.length = σ.length) (h : ∀ (i : Nat) (d : PyData), rs[i]? = some (.fz d) → ∃ s n, r[i]? = some s ∧ NG.snap n m D s = some d) (ho : ∀ (i k : Nat), rs[i]? ≠ some (.ow k)) :
    Good K (fun _ => none) [] H H σ rs [] := by
  refine ⟨Same.refl H, fun b o e => (by cases e), hl, fun i d e => ?_, fun i k e => absurd e (ho i k), rfl, fun k a ds e1 e2 => (by simp at e1), List.nodup_nil, fun a ha => (by cases ha), trivial⟩
  obtain ⟨s, n, h1, h2⟩ := h i d e
  have hs : s ≠ .un := fun y => by subst y; cases n <;> cases h2
  obtain ⟨v, h3, h4⟩ := G.slot h1 hs
  exact ⟨v, h3, G.snap n v s d h4 h2⟩
/-- all that stood stands -/
theorem GG.grow (G : GG K U A F H σ r m D) (h : Same H H') : GG K U A F H' σ r m D := by
  obtain ⟨Z, G⟩ := G
  refine ⟨Z, G.old (List.prefix_refl A) (Same.refl F) ⟨fun b o e => h _ _ (G.g.sub b o e), fun b o e => ?_, G.g.len, G.g.fz, G.g.ow, G.g.al, fun k a ds e1 e2 => ?_, G.g.nd, fun a ha => ?_, trivial⟩⟩
  · obtain ⟨h1, h2⟩ := G.g.fo b o e
    exact ⟨h _ _ h1, h2⟩
  · obtain ⟨h1, h2, o, h3, h4⟩ := G.g.cl k a ds e1 e2
    exact ⟨h1, h2, o, h _ _ h3, h4⟩
  · obtain ⟨o, h1⟩ := G.g.he a ha
    exact ⟨o, h _ _ h1⟩
end
end NG
end
/-! NG3 -/
section
set_option maxHeartbeats 4000000
namespace NG
open PySem PySem.Spec PyProof.Rows L2 TL
/-! ## expressions -/
/-- an exception: its class, its fields -/
structure Xn where
  C : Nat
  fs : List (Str × PyData)
inductive Ro (α : Type) where
  | ok (a : α) (m : Ms) (D : Dd) | xc (x : Xn) (m : Ms) (D : Dd)
abbrev Gr (α : Type) := Rs → Ms → Dd → Option (Ro α)
abbrev Gv := Gr Sl
abbrev Gt := Gr Bool
abbrev Ga := Gr (List Sl)
def bd {α β : Type} (o : Option (Ro α)) (f : α → Ms → Dd → Option (Ro β)) : Option (Ro β) := match o with
  | some (.ok a m D) => f a m D
  | some (.xc x m D) => some (.xc x m D)
  | none => none
theorem bd_some {α β : Type} {o : Option (Ro α)} {f : α → Ms → Dd → Option (Ro β)} {z : Ro β} (e : bd o f = some z) : (∃ a m D, o = some (.ok a m D) ∧ f a m D = some z) ∨ ∃ x m D, o = some (.xc x m D) ∧ z = .xc x m D := by
  match o, e with
  | some (.ok a m D), e => exact .inl ⟨a, m, D, rfl, e⟩
  | some (.xc x m D), e => cases e; exact .inr ⟨x, m, D, rfl, rfl⟩
abbrev XOk (K : Frag) (F : Hp) (x : Xn) (dd : Option Addr) : Prop := FOk K F dd x.fs
section
variable [ClsT] (K : Frag) (U : Hp) (W : WX)
def PoE (A : List Addr) (F : Hp) (σ : St) (r : Rs) {α β : Type} (R : List Addr → Hp → β → α → Prop) (Q : β → Hp → Prop) : Ro α → Prop
  | .ok a m D => ∀ (A' : List Addr) (F' H' : Hp) (b : β), A <+: A' → Same F F' → GG K U A' F' H' σ r m D → R A' F' b a → Q b H'
  | .xc x m D => ∀ (A' : List Addr) (F' H' : Hp) (dd : Option Addr), A <+: A' → Same F F' → GG K U A' F' H' σ r m D → XOk K F' x dd → W (.ref (ClsT.cl x.C)) dd σ H'
def tR {α β : Type} (R : List Addr → Hp → β → α → Prop) (f : Gr α) (σ : St) (H : Hp) (Q : β → Hp → Prop) : Prop := ∃ (A : List Addr) (F : Hp) (r : Rs) (m : Ms) (D : Dd) (o : Ro α), GG K U A F H σ r m D ∧ f r m D = some o ∧ PoE K U W A F σ r R Q o
abbrev tGE (f : Gv) : TE := tR K U W (Rv K) f
abbrev tGT (f : Gt) : TT := tR K U W (fun _ _ b a => b = a) f
abbrev tGA (f : Ga) : TA := tR K U W (RvAll K) f
end
section
variable [ClsT] {K : Frag} {U : Hp} {W : WX} {A A1 : List Addr} {F F1 H : Hp} {σ : St} {r : Rs} {m : Ms} {D : Dd}
theorem PoE.later {α β : Type} {R : List Addr → Hp → β → α → Prop} {Q : β → Hp → Prop} (hA : A <+: A1) (hF : Same F F1) : ∀ {o : Ro α}, PoE K U W A F σ r R Q o → PoE K U W A1 F1 σ r R Q o
  | .ok a m D, p => fun A' F' H' b ha hf G h => p A' F' H' b (hA.trans ha) (hF.trans hf) G h
  | .xc x m D, p => fun A' F' H' dd ha hf G h => p A' F' H' dd (hA.trans ha) (hF.trans hf) G h
/-- one step, then the rest -/
theorem seqR {α β α' β' : Type} {R : List Addr → Hp → β → α → Prop} {R' : List Addr → Hp → β' → α' → Prop} {f : Gr α} {g : α → Ms → Dd → Option (Ro α')} {o : Ro α'} {Q : β' → Hp → Prop} {Q1 : β → Hp → Prop}
    (G : GG K U A F H σ r m D) (e : bd (f r m D) g = some o) (p : PoE K U W A F σ r R' Q o)
    (k : ∀ (a : α) (m1 : Ms) (D1 : Dd) (A1 : List Addr) (F1 H1 : Hp) (b : β), A <+: A1 → Same F F1 → GG K U A1 F1 H1 σ r m1 D1 → R A1 F1 b a → g a m1 D1 = some o → PoE K U W A1 F1 σ r R' Q o → Q1 b H1) : tR K U W R f σ H Q1 := by
  rcases bd_some e with ⟨a, m1, D1, e1, e2⟩ | ⟨x, m1, D1, e1, rfl⟩
  · exact ⟨A, F, r, m, D, _, G, e1, fun A1 F1 H1 b hA hF G1 h => k a m1 D1 A1 F1 H1 b hA hF G1 h e2 (p.later hA hF)⟩
  · exact ⟨A, F, r, m, D, _, G, e1, fun A1 F1 H1 dd hA hF G1 h => p A1 F1 H1 dd hA hF G1 h⟩
theorem PoE.at {α β : Type} {R : List Addr → Hp → β → α → Prop} {Q : β → Hp → Prop} {a : α} {b : β} (p : PoE K U W A F σ r R Q (.ok a m D)) (G : GG K U A F H σ r m D) (h : R A F b a) : Q b H := p A F H b (List.prefix_refl A) (Same.refl F) G h
end
/-- an old one -/
def lE (f : Ev) : Gv := fun r m D => (f r m).map fun p => .ok (.fz p.1) p.2 D
def lT (f : Et) : Gt := fun r m D => (f r m).map fun p => .ok p.1 p.2 D
def gVar (i : Nat) : Gv := fun r m D => match r[i]? with
  | some (.fz d) => some (.ok (.fz d) m D)
  | some (.ow k) => some (.ok (.ow k) m D)
  | _ => none
def gNil : Ga := fun _ m D => some (.ok [] m D)
def gCons (f : Gv) (g : Ga) : Ga := fun r m D => bd (f r m D) fun a m D => bd (g r m D) fun as m D => some (.ok (a :: as) m D)
/-- a new cell and its name -/
def newV (c : Cl) (m : Ms) (D : Dd) : Option (Ro Sl) := some (.ok (.ow m.length) (newC m D c).1 (newC m D c).2)
def gTup (f : Ga) : Gv := fun r m D => bd (f r m D) fun xs m D => if xs.length ≤ sizeLine then (match fzL xs with | some ds => some (.ok (.fz (.tuple ds)) m D) | none => newV (.tup xs) m D) else none
def gLst (f : Ga) : Gv := fun r m D => bd (f r m D) fun xs m D => if xs.length ≤ sizeLine then newV (.lst xs) m D else none
/-- the value as data from now on -/
def frzV (s : Sl) (m : Ms) (D : Dd) : Option (Ro Sl) := match s with
  | .fz d => some (.ok (.fz d) m D)
  | .ow k => match cellAt m k with
    | some d => some (.ok (.fz d) (m.set k none) D)
    | none => none
  | .un => none
def gFrz (f : Gv) : Gv := fun r m D => bd (f r m D) frzV
/-- a field of an object of the class C -/
def fldV (C : Nat) (x : Str) (a : Sl) (m : Ms) (D : Dd) : Option Sl := match a with
  | .ow k => match cont m D k with
    | some (.obj C' fs) => if C' = C then fs.lookup x else none
    | _ => none
  | _ => none
def gFld (C : Nat) (f : Gv) (x : Str) : Gv := fun r m D => bd (f r m D) fun a m D => (fldV C x a m D).map fun s => .ok s m D
def atS (xs : List Sl) (i : Int) : Option Sl := (ixN xs.length i).bind fun j => xs[j]?
/-- x[i] of sequences -/
def ixV (a b : Sl) (m : Ms) (D : Dd) : Option (Ro Sl) := match a, b with
  | .fz d, .fz j => (ixD d j).map fun e => .ok (.fz e) m D
  | .ow k, .fz (.int i) => match cont m D k with
    | some (.lst xs) => (atS xs i).map fun s => .ok s m D
    | some (.tup xs) => (atS xs i).map fun s => .ok s m D
    | _ => none
  | _, _ => none
def gIx (f g : Gv) : Gv := fun r m D => bd (f r m D) fun a m D => bd (g r m D) fun b m D => ixV a b m D
def gBin (op : PyData → PyData → Option PyData) (f g : Gv) : Gv := fun r m D => bd (f r m D) fun a m D => bd (g r m D) fun b m D => match a, b with
  | .fz x, .fz y => (op x y).map fun d => .ok (.fz d) m D
  | _, _ => none
def gMap (op : PyData → Option PyData) (f : Gv) : Gv := fun r m D => bd (f r m D) fun a m D => match a with
  | .fz x => (op x).map fun d => .ok (.fz d) m D
  | _ => none
def gT (c : PyData → Option Bool) (f : Gv) : Gt := fun r m D => bd (f r m D) fun a m D => match a with
  | .fz x => (c x).map fun b => .ok b m D
  | _ => none
/-- truth of a cell, too -/
def truV (s : Sl) (m : Ms) (D : Dd) : Option Bool := match s with
  | .fz x => truD x
  | .ow k => match cont m D k with
    | some (.lst xs) => some (!xs.isEmpty)
    | some (.tup xs) => some (!xs.isEmpty)
    | _ => none
  | .un => none
def gTru (f : Gv) : Gt := fun r m D => bd (f r m D) fun a m D => (truV a m D).map fun b => .ok b m D
def gNot (f : Gt) : Gt := fun r m D => bd (f r m D) fun a m D => some (.ok (!a) m D)
/-- a built-in of data -/
def gBlt (op : List PyData → Option PyData) (f : Ga) : Gv := fun r m D => bd (f r m D) fun as m D => (fzL as).bind fun ds => (op ds).map fun d => .ok (.fz d) m D
section
variable [ClsT] {X : Cx} {U : Hp} {W : WX} {pos : Pos}
theorem ge_old {e : Expr} {f : Ev} (h : ∀ U, PE X e (tE X.K U f)) : PE X e (tGE X.K U W (lE f)) := pe_weak (pe_all h) fun σ H Q ⟨A, F, r, m, D, o, ⟨Z, G⟩, e, p⟩ => by
  obtain ⟨⟨d, m'⟩, e1, rfl⟩ := Option.map_eq_some_iff.mp e
  exact ⟨jn U Z, A, F, r, m, d, m', G.g, e1, fun F' H' v s G' h => p A F' H' v (List.prefix_refl A) s ⟨Z, G.old (List.prefix_refl A) s G'⟩ h⟩
def tTX' (K : Frag) (f : Et) : TT := fun σ H Q => ∃ U, tT K U f σ H Q
theorem pt_all {e : Expr} {f : Et} (k : ∀ U, PT X e (tT X.K U f)) : PT X e (tTX' X.K f) := ⟨fun pins s σ H Q I ⟨U, q⟩ => (k U).run pins s σ H Q I q⟩
theorem gt_old {e : Expr} {f : Et} (h : ∀ U, PT X e (tT X.K U f)) : PT X e (tGT X.K U W (lT f)) := pt_weak (pt_all h) fun σ H Q ⟨A, F, r, m, D, o, ⟨Z, G⟩, e, p⟩ => by
  obtain ⟨⟨d, m'⟩, e1, rfl⟩ := Option.map_eq_some_iff.mp e
  exact ⟨jn U Z, A, F, r, m, d, m', G.g, e1, fun F' H' s G' => p A F' H' d (List.prefix_refl A) s ⟨Z, G.old (List.prefix_refl A) s G'⟩ rfl⟩
theorem ge_var (i : Nat) {x : Str} {p1 : Pos} (h : PE X (.Name x p1) (tVar i)) : PE X (.Name x p1) (tGE X.K U W (gVar i)) := pe_weak h fun σ H Q ⟨A, F, r, m, D, o, G, e, p⟩ => by
  unfold gVar at e
  split at e
  · rename_i d hd
    cases e
    obtain ⟨v, h1, h2⟩ := G.slot hd (by simp)
    exact ⟨v, h1, p.at G h2⟩
  · rename_i k hk
    cases e
    obtain ⟨v, h1, h2⟩ := G.slot hk (by simp)
    exact ⟨v, h1, p.at G h2⟩
  · cases e
theorem ga_nil : PA X [] (tGA X.K U W gNil) := pa_weak pa_nil fun σ H Q ⟨A, F, r, m, D, o, G, e, p⟩ => by
  cases e
  exact p.at G .nil
theorem ga_cons {e : Expr} {es : List Expr} {f : Gv} {g : Ga} (ha : PE X e (tGE X.K U W f)) (hr : PA X es (tGA X.K U W g)) (hs : starEach (e :: es) X.env = (false, eval e X.env) :: starEach es X.env := by rfl) :
    PA X (e :: es) (tGA X.K U W (gCons f g)) := pa_weak (pa_cons ha hr hs) fun σ H Q ⟨A, F, r, m, D, o, G, e, p⟩ =>
  seqR G e p fun a m1 D1 A1 F1 H1 v hA1 hF1 G1 h1 e1 p1 => seqR G1 e1 p1 fun as m2 D2 A2 F2 H2 vs hA2 hF2 G2 h2 e2 p2 => by
    cases e2
    exact p2.at G2 (.cons (h1.mono hA2 hF2) h2)
theorem rv_len {K : Frag} {A : List Addr} {F : Hp} {vs : List V} {xs : List Sl} (h : RvAll K A F vs xs) : vs.length = xs.length := Paired.length h
theorem GG.newR {K : Frag} {A : List Addr} {F H : Hp} {σ : St} {r : Rs} {m : Ms} {D : Dd} {Q : VK} {c : Cl} {o : HO} {z : Ro Sl} {l : Addr} (G : GG K U A F H σ r m D) (e : newV c m D = some z) (p : PoE K U W A F σ r (Rv K) Q z) (hp : plainC c) (hs : StO K H A F l o c) (hl : H l = none) : Q (.ref l) (upd H l o) := by
  cases e
  exact p _ _ _ _ (List.prefix_append A [l]) (Same.refl F) (G.new hl hp hs) ⟨l, new_at G.al, rfl⟩
theorem ge_tup {es : List Expr} {f : Ga} {x1} (h : PA X es (tGA X.K U W f)) : PE X (.Tuple es x1 pos) (tGE X.K U W (gTup f)) := pe_weak (pe_tup h) fun σ H Q ⟨A, F, r, m, D, o, G, e, p⟩ =>
  seqR G e p fun as m1 D1 A1 F1 H1 vs hA1 hF1 G1 h1 e1 p1 => by
    split at e1
    · rename_i hz
      refine ⟨by rw [rv_len h1]; exact hz, fun l hl => ?_⟩
      split at e1
      · rename_i ds hd
        cases e1
        exact p1 A1 _ _ _ (List.prefix_refl A1) (same_new (G1.nope hl).1) (G1.laid hl) (.vt (.inl (.inl upd_same)) (Rpam (same_new (G1.nope hl).1) (rp_fzL h1 hd)))
      · exact G1.newR e1 p1 trivial ⟨vs, rfl, h1⟩ hl
    · cases e1
theorem pgetS {α β : Type} {R : α → β → Prop} : ∀ {l₁ : List α} {l₂ : List β} {j : Nat} {x : β}, Paired R l₁ l₂ → l₂[j]? = some x → ∃ y, l₁[j]? = some y ∧ R y x
  | _, _, _, _, .nil, e => by simp at e
  | _, _, 0, _, .cons r _, e => by simp at e; subst e; exact ⟨_, rfl, r⟩
  | _, _, j + 1, x, .cons _ t, e => by
    obtain ⟨y, h1, h2⟩ := pgetS (j := j) (x := x) t (by simpa using e)
    exact ⟨y, by simpa using h1, h2⟩
/-! ### items -/
theorem atS_rv {K : Frag} {A : List Addr} {F : Hp} {vs : List V} {xs : List Sl} {i : Int} {s : Sl} (h : RvAll K A F vs xs) (e : atS xs i = some s) : ∃ v, atI vs i = some v ∧ Rv K A F v s := by
  obtain ⟨j, e1, e2⟩ := Option.bind_eq_some_iff.mp e
  unfold atI
  rw [rv_len h, e1]
  exact pgetS h e2
theorem ge_ix {a b : Expr} {f g : Gv} (ha : PE X a (tGE X.K U W f)) (hb : PE X b (tGE X.K U W g)) (hs : PlainIx b := by intro _ _; rfl) : PE X (.Subscript a b pos) (tGE X.K U W (gIx f g)) := pe_weak (pe_ix ix_seq ha hb hs) fun σ H Q ⟨A, F, r, m, D, o, G, e, p⟩ =>
  seqR G e p fun a m1 D1 A1 F1 H1 v hA1 hF1 G1 h1 e1 p1 => seqR G1 e1 p1 fun b m2 D2 A2 F2 H2 w hA2 hF2 G2 h2 e2 p2 => by
    have h1' := h1.mono hA2 hF2
    unfold ixV at e2
    split at e2
    · rename_i d j
      obtain ⟨z, e3, rfl⟩ := Option.map_eq_some_iff.mp e2
      obtain ⟨Z, G2⟩ := G2
      exact od_ix (U := jn U Z) A2 F2 H2 σ r m2 v w d j z Q G2.g h1' h2 e3 fun F' H' u s G' h => p2 A2 F' H' u (List.prefix_refl A2) s ⟨Z, G2.old (List.prefix_refl A2) s G'⟩ h
    · rename_i k i
      obtain ⟨q, hq, rfl⟩ := h1'
      cases h2
      split at e2
      · rename_i xs hc
        obtain ⟨s, e3, rfl⟩ := Option.map_eq_some_iff.mp e2
        obtain ⟨q', o, hq', hH, ⟨vs, rfl, h3⟩, _⟩ := G2.cont hc
        rw [hq] at hq'
        cases hq'
        obtain ⟨u, h4, h5⟩ := atS_rv h3 e3
        exact .inl ⟨q, vs, i, u, rfl, rfl, .inl (.inl hH), h4, p2.at G2 h5⟩
      · rename_i xs hc
        obtain ⟨s, e3, rfl⟩ := Option.map_eq_some_iff.mp e2
        obtain ⟨q', o, hq', hH, ⟨vs, rfl, h3⟩, _⟩ := G2.cont hc
        rw [hq] at hq'
        cases hq'
        obtain ⟨u, h4, h5⟩ := atS_rv h3 e3
        exact .inr (.inl ⟨q, vs, i, u, rfl, rfl, .inl (.inl hH), h4, p2.at G2 h5⟩)
      · cases e2
    · cases e2
/-! ### operators -/
theorem gbin_read {rd : R2} {od : PyData → PyData → Option PyData} {f g : Gv} {K : Frag} (ho : ∀ (U : Hp) (A : List Addr) (F H : Hp) (σ : St) (r : Rs) (m : Ms) (x y : V) (a b d : PyData) (Q : VK), Good K U A F H σ r m → Rp K F x a → Rp K F y b → od a b = some d →
    (∀ (F' H' : Hp) (v : V), Same F F' → Good K U A F' H' σ r m → Rp K F' v d → Q v H') → rd x y H Q) {σ : St} {H : Hp} {Q : VK} (h : tGE K U W (gBin od f g) σ H Q) : tOp rd (tGE K U W f) (tGE K U W g) σ H Q := by
  obtain ⟨A, F, r, m, D, o, G, e, p⟩ := h
  refine seqR G e p fun a m1 D1 A1 F1 H1 v hA1 hF1 G1 h1 e1 p1 => seqR G1 e1 p1 fun b m2 D2 A2 F2 H2 w hA2 hF2 G2 h2 e2 p2 => ?_
  have h1' := h1.mono hA2 hF2
  split at e2
  · rename_i x y
    obtain ⟨z, e3, rfl⟩ := Option.map_eq_some_iff.mp e2
    obtain ⟨Z, G2⟩ := G2
    exact ho (jn U Z) A2 F2 H2 σ r m2 v w x y z Q G2.g h1' h2 e3 fun F' H' u s G' h => p2 A2 F' H' u (List.prefix_refl A2) s ⟨Z, G2.old (List.prefix_refl A2) s G'⟩ h
  · cases e2
theorem ge_op {op : Operator} {rd : R2} {od : PyData → PyData → Option PyData} {a b : Expr} {f g : Gv} (hr : OpR X (binaryOp op) rd) (ho : ∀ U, OpD X U rd od) (ha : PE X a (tGE X.K U W f)) (hb : PE X b (tGE X.K U W g)) : PE X (.BinOp a op b pos) (tGE X.K U W (gBin od f g)) :=
  pe_weak (pe_op hr ha hb) fun _ _ _ h => gbin_read (fun U A F H σ r m x y a b d Q => ho U A F H σ r m x y a b d Q) h
variable {a b c : Expr} {f g : Gv} {p q : Gt} {rest : List Expr}
/-! ### built-ins of data -/
end
end NG
end
/-! NG4 -/
section
set_option maxHeartbeats 4000000
namespace NG
open PySem PySem.Spec PyProof.Rows L2 TL
/-! ## statements -/
inductive Og where
  | nx (r : Rs) (m : Ms) (D : Dd) | rt (s : Sl) (m : Ms) (D : Dd) | bk (r : Rs) (m : Ms) (D : Dd) | ct (r : Rs) (m : Ms) (D : Dd) | xc (x : Xn) (r : Rs) (m : Ms) (D : Dd)
abbrev Gs := Rs → Ms → Dd → Option Og
def bs {α : Type} (o : Option (Ro α)) (r : Rs) (f : α → Ms → Dd → Option Og) : Option Og := match o with
  | some (.ok a m D) => f a m D
  | some (.xc x m D) => some (.xc x r m D)
  | none => none
theorem bs_some {α : Type} {o : Option (Ro α)} {r : Rs} {f : α → Ms → Dd → Option Og} {z : Og} (e : bs o r f = some z) : (∃ a m D, o = some (.ok a m D) ∧ f a m D = some z) ∨ ∃ x m D, o = some (.xc x m D) ∧ z = .xc x r m D := by
  match o, e with
  | some (.ok a m D), e => exact .inl ⟨a, m, D, rfl, e⟩
  | some (.xc x m D), e => cases e; exact .inr ⟨x, m, D, rfl, rfl⟩
section
variable [ClsT] (K : Frag) (U : Hp) (W : WX)
def PoS (A : List Addr) (F : Hp) (N : Ends) : Og → Prop
  | .nx r m D => ∀ (A' : List Addr) (F' H' : Hp) (σ' : St), A <+: A' → Same F F' → GG K U A' F' H' σ' r m D → N.nx σ' H'
  | .rt s m D => ∀ (A' : List Addr) (F' H' : Hp) (v : V), A <+: A' → Same F F' → GG K U A' F' H' [] [] m D → Rv K A' F' v s → N.rt v H'
  | .bk r m D => ∀ (A' : List Addr) (F' H' : Hp) (σ' : St), A <+: A' → Same F F' → GG K U A' F' H' σ' r m D → N.bk σ' H'
  | .ct r m D => ∀ (A' : List Addr) (F' H' : Hp) (σ' : St), A <+: A' → Same F F' → GG K U A' F' H' σ' r m D → N.ct σ' H'
  | .xc x r m D => ∀ (A' : List Addr) (F' H' : Hp) (σ' : St) (dd : Option Addr), A <+: A' → Same F F' → GG K U A' F' H' σ' r m D → XOk K F' x dd → W (.ref (ClsT.cl x.C)) dd σ' H'
def tGS (f : Gs) : TS := fun N σ H => ∃ (A : List Addr) (F : Hp) (r : Rs) (m : Ms) (D : Dd) (o : Og), GG K U A F H σ r m D ∧ f r m D = some o ∧ PoS K U W A F N o
end
section
variable [ClsT] {K : Frag} {U : Hp} {W : WX} {A A1 : List Addr} {F F1 H : Hp} {σ : St} {r : Rs} {m : Ms} {D : Dd} {N : Ends}
theorem PoS.later (hA : A <+: A1) (hF : Same F F1) : ∀ {o : Og}, PoS K U W A F N o → PoS K U W A1 F1 N o
  | .nx r m D, p => fun A' F' H' σ' ha hf G => p A' F' H' σ' (hA.trans ha) (hF.trans hf) G
  | .rt s m D, p => fun A' F' H' v ha hf G h => p A' F' H' v (hA.trans ha) (hF.trans hf) G h
  | .bk r m D, p => fun A' F' H' σ' ha hf G => p A' F' H' σ' (hA.trans ha) (hF.trans hf) G
  | .ct r m D, p => fun A' F' H' σ' ha hf G => p A' F' H' σ' (hA.trans ha) (hF.trans hf) G
  | .xc x r m D, p => fun A' F' H' σ' dd ha hf G h => p A' F' H' σ' dd (hA.trans ha) (hF.trans hf) G h
theorem PoS.nxt (p : PoS K U W A F N (.nx r m D)) (G : GG K U A F H σ r m D) : N.nx σ H := p A F H σ (List.prefix_refl A) (Same.refl F) G
theorem seqS {α β : Type} {R : List Addr → Hp → β → α → Prop} {f : Gr α} {g : α → Ms → Dd → Option Og} {o : Og} {Q1 : β → Hp → Prop} (G : GG K U A F H σ r m D) (e : bs (f r m D) r g = some o) (p : PoS K U W A F N o)
    (k : ∀ (a : α) (m1 : Ms) (D1 : Dd) (A1 : List Addr) (F1 H1 : Hp) (b : β), A <+: A1 → Same F F1 → GG K U A1 F1 H1 σ r m1 D1 → R A1 F1 b a → g a m1 D1 = some o → PoS K U W A1 F1 N o → Q1 b H1) : tR K U W R f σ H Q1 := by
  rcases bs_some e with ⟨a, m1, D1, e1, e2⟩ | ⟨x, m1, D1, e1, rfl⟩
  · exact ⟨A, F, r, m, D, _, G, e1, fun A1 F1 H1 b hA hF G1 h => k a m1 D1 A1 F1 H1 b hA hF G1 h e2 (p.later hA hF)⟩
  · exact ⟨A, F, r, m, D, _, G, e1, fun A1 F1 H1 dd hA hF G1 h => p A1 F1 H1 σ dd hA hF G1 h⟩
end
def lO (D : Dd) : Out → Option Og
  | .nx r m => some (.nx r m D)
  | .bk r m => some (.bk r m D)
  | .ct r m => some (.ct r m D)
  | _ => none
/-- an old statement -/
def lS (f : Es) : Gs := fun r m D => (f r m).bind (lO D)
def gsNil : Gs := fun r m D => some (.nx r m D)
def gsSeq (f g : Gs) : Gs := fun r m D => (f r m D).bind fun o => match o with | .nx r m D => g r m D | o => some o
def gsSet (i : Nat) (f : Gv) : Gs := fun r m D => bs (f r m D) r fun s m D => some (.nx (r.set i s) m D)
def gsRet (f : Gv) : Gs := fun r m D => bs (f r m D) r fun s m D => some (.rt s m D)
def gsRetN : Gs := fun r m D => some (.rt (.fz .none) m D)
def gsIf (c : Gt) (f g : Gs) : Gs := fun r m D => bs (c r m D) r fun b m D => if b = true then f r m D else g r m D
def gsDrop (f : Gv) : Gs := fun r m D => bs (f r m D) r fun _ m D => some (.nx r m D)
section
variable [ClsT] {X : Cx} {U : Hp} {W : WX} {pos : Pos} {st : Stmt} {rest : List Stmt} {s t : Gs} {e : Expr} {f : Gv}
def tSX (K : Frag) (n0 : Nat) (f : Es) : TS := fun D σ H => ∃ U, tS K U n0 f D σ H
theorem ps_all {st : Stmt} {f : Es} {n0 : Nat} (k : ∀ U, PS X st (tS X.K U n0 f)) : PS X st (tSX X.K n0 f) := ⟨fun pins s σ H D I ⟨U, q⟩ => (k U).run pins s σ H D I q⟩
theorem old_read {K : Frag} {f : Es} {N : Ends} {σ : St} {H : Hp} (h : tGS K U W (lS f) N σ H) : tSX K 0 f N σ H := by
  obtain ⟨A, F, r, m, D, o, ⟨Z, G⟩, e, p⟩ := h
  obtain ⟨o1, e1, e2⟩ := Option.bind_eq_some_iff.mp e
  refine ⟨jn U Z, A, F, r, m, o1, G.g, Nat.zero_le _, e1, ?_⟩
  cases o1 with
  | nx r1 m1 => cases e2; exact fun A' F' H' σ' hA hF G' => p A' F' H' σ' hA hF ⟨Z, G.old hA hF G'⟩
  | bk r1 m1 => cases e2; exact fun A' F' H' σ' hA hF G' => p A' F' H' σ' hA hF ⟨Z, G.old hA hF G'⟩
  | ct r1 m1 => cases e2; exact fun A' F' H' σ' hA hF G' => p A' F' H' σ' hA hF ⟨Z, G.old hA hF G'⟩
  | rt d m1 => cases e2
  | rn d m1 => cases e2
theorem gs_old {f : Es} (h : ∀ U, PS X st (tS X.K U 0 f)) : PS X st (tGS X.K U W (lS f)) := ps_weak (ps_all h) fun _ _ _ z => old_read z
theorem gs_nil : PSs X [] (tGS X.K U W gsNil) := pss_weak pss_nil fun N σ H ⟨A, F, r, m, D, o, G, e, p⟩ => by
  cases e
  exact p.nxt G
theorem gs_one (h : PS X st (tGS X.K U W s)) : PSs X [st] (tGS X.K U W s) := pss_one h
theorem gs_cons (h1 : PS X st (tGS X.K U W s)) (h2 : PSs X rest (tGS X.K U W t)) : PSs X (st :: rest) (tGS X.K U W (gsSeq s t)) := pss_weak (pss_cons h1 h2) fun N σ H ⟨A, F, r, m, D, o, G, e, p⟩ => by
  unfold gsSeq at e
  obtain ⟨o1, e1, e2⟩ := Option.bind_eq_some_iff.mp e
  refine ⟨A, F, r, m, D, o1, G, e1, ?_⟩
  cases o1 with
  | nx r1 m1 D1 => exact fun A' F' H' σ' ha hf G' => ⟨A', F', r1, m1, D1, o, G', e2, p.later ha hf⟩
  | rt d m1 => cases e2; exact p
  | bk r1 m1 => cases e2; exact p
  | ct r1 m1 => cases e2; exact p
  | xc x r1 m1 => cases e2; exact p
theorem gs_set {i : Nat} {x : Str} {p1 : Pos} (hN : X.N.Nodup) (hi : X.N[i]? = some x) (hx : Loc X.env.scope x) (he : PE X e (tGE X.K U W f)) (hs : swapsWith e (some (.Name x p1)) pos.line X.env = pure false := by rfl)
    (hf : X.fn x = true ∨ X.env.scope.names.lookup x = some .local := by first | exact .inl rfl | exact .inr rfl | assumption) : PS X (.Assign [.Name x p1] e pos) (tGS X.K U W (gsSet i f)) := ps_weak (ps_set hN hi hx he hs hf) fun N σ H ⟨A, F, r, m, D, o, G, e, p⟩ =>
  seqS G e p fun a m1 D1 A1 F1 H1 v hA1 hF1 G1 h1 e1 p1 => by
    cases e1
    exact p1.nxt (G1.set i h1)
theorem gs_ret (he : PE X e (tGE X.K U W f)) : PS X (.Return (some e) pos) (tGS X.K U W (gsRet f)) := ps_weak (ps_ret he) fun N σ H ⟨A, F, r, m, D, o, G, e, p⟩ =>
  seqS G e p fun a m1 D1 A1 F1 H1 v hA1 hF1 G1 h1 e1 p1 => by
    cases e1
    exact p1 A1 F1 H1 v (List.prefix_refl A1) (Same.refl F1) G1.bare h1
theorem gs_if {c : Expr} {p q : List Stmt} {b : Gt} (hc : PT X c (tGT X.K U W b)) (ha : PSs X p (tGS X.K U W s)) (hb : PSs X q (tGS X.K U W t)) : PS X (.If c p q pos) (tGS X.K U W (gsIf b s t)) := ps_weak (ps_if hc ha hb) fun N σ H ⟨A, F, r, m, D, o, G, e, p⟩ =>
  seqS G e p fun a m1 D1 A1 F1 H1 v hA1 hF1 G1 h1 e1 p1 => by
    cases h1
    cases a with
    | true => exact iteT ⟨A1, F1, r, m1, D1, o, G1, by simpa using e1, p1⟩
    | false => exact iteF ⟨A1, F1, r, m1, D1, o, G1, by simpa using e1, p1⟩
theorem gs_expr (he : PE X e (tGE X.K U W f)) (hs : swapsWith e none pos.line X.env = pure false := by rfl) : PS X (.Expr e pos) (tGS X.K U W (gsDrop f)) := ps_weak (ps_expr he hs) fun N σ H ⟨A, F, r, m, D, o, G, e, p⟩ =>
  seqS G e p fun a m1 D1 A1 F1 H1 v hA1 hF1 G1 h1 e1 p1 => by
    cases e1
    exact p1.nxt G1
end
end NG
end
/-! NG5 -/
section
set_option maxHeartbeats 4000000
namespace NG
open PySem PySem.Spec PyProof.Rows L2 TL
/-! ## targets -/
abbrev Gh := Sl → Rs → Option Rs
def lH (h : Eh) : Gh := fun s r => match s with | .fz d => h d r | _ => none
def ghNm (i : Nat) : Gh := fun s r => match s with | .un => none | s => some (r.set i s)
section
variable [ClsT]
def tGG (K : Frag) (U : Hp) (is : List Nat) (h : Gh) : TG := fun v σ H Q => ∃ (A : List Addr) (F : Hp) (r : Rs) (m : Ms) (D : Dd) (s : Sl) (r' : Rs), GG K U A F H σ r m D ∧ Rv K A F v s ∧ h s r = some r' ∧
  ∀ σ' : St, GG K U A F H σ' r' m D → (∀ j, j ∉ is → σ'[j]? = σ[j]?) → σ'.length = σ.length → Q σ' H
variable {X : Cx} {U : Hp} {W : WX} {pos : Pos}
theorem gg_old {tg : Expr} {is : List Nat} {h : Eh} (k : ∀ U, PG X tg (tG X.K U is h)) : PG X tg (tGG X.K U is (lH h)) := pg_weak (pg_all k) fun v σ H Q ⟨A, F, r, m, D, s, r', ⟨Z, G⟩, h1, e, q⟩ => by
  cases s with
  | fz d => exact ⟨jn U Z, A, F, r, m, d, r', G.g, h1, e, fun σ' G' k1 k2 => q σ' ⟨Z, G.old (List.prefix_refl A) (Same.refl F) G'⟩ k1 k2⟩
  | _ => cases e
theorem gg_name {i : Nat} {x : Str} (hN : X.N.Nodup) (hi : X.N[i]? = some x) (hx : Loc X.env.scope x) (hf : X.fn x = true ∨ X.env.scope.names.lookup x = some .local := by first | exact .inl rfl | exact .inr rfl | assumption) : PG X (.Name x pos) (tGG X.K U [i] (ghNm i)) :=
  pg_weak (pg_name hN hi hx hf) fun v σ H Q ⟨A, F, r, m, D, s, r', G, h, e, k⟩ => by
    have e' : r' = r.set i s := by
      cases s with
      | un => cases e
      | fz d => cases e; rfl
      | ow k => cases e; rfl
    subst e'
    exact k _ (G.set i h) (fun j hj => List.getElem?_set_ne (fun z => hj (by rw [z]; exact List.mem_singleton_self j))) List.length_set
end
/-! ## for -/
/-- what is walked, of data -/
def tGI [ClsT] (K : Frag) (U : Hp) (W : WX) (f : Gr (List PyData)) : TI := fun σ H R => ∃ (A : List Addr) (F : Hp) (r : Rs) (m : Ms) (D : Dd) (o : Ro (List PyData)), GG K U A F H σ r m D ∧ f r m D = some o ∧ PoE K U W A F σ r (fun A' F' (J : It) ds => ∀ Z, Wk K Z J F' ds) (fun J H => R J H) o
def lI (f : Eas) : Gr (List PyData) := fun r m D => (f r m).map fun p => .ok p.1 p.2 D
def gsLoop (h : Gh) (body : Gs) : List PyData → Gs
  | [], r, m, D => some (.nx r m D)
  | d :: ds, r, m, D => (h (.fz d) r).bind fun r1 => (body r1 m D).bind fun o => match o with
    | .nx r2 m2 D2 => gsLoop h body ds r2 m2 D2
    | .ct r2 m2 D2 => gsLoop h body ds r2 m2 D2
    | .bk r2 m2 D2 => some (.nx r2 m2 D2)
    | o => some o
def gsFor (fi : Gr (List PyData)) (h : Gh) (body : Gs) : Gs := fun r m D => bs (fi r m D) r fun ds m D => gsLoop h body ds r m D
section
variable [ClsT] {X : Cx} {U : Hp} {W : WX} {tg iter : Expr} {body : List Stmt} {fi : Gr (List PyData)} {h : Gh} {s : Gs} {is : List Nat} {pos : Pos}
theorem gi_old {f : Eas} (k : ∀ U, PI X tg iter (tIf X.K U f)) : PI X tg iter (tGI X.K U W (lI f)) := by
  refine ⟨fun pins s σ H R I ⟨A, F, r, m, D, o, ⟨Z, G⟩, e, p⟩ => ?_⟩
  obtain ⟨⟨ds, m'⟩, e1, rfl⟩ := Option.map_eq_some_iff.mp e
  exact (k (jn U Z)).run pins s σ H R I ⟨A, F, r, m, ds, m', G.g, e1, fun F' H' J s1 G' w => p A F' H' J (List.prefix_refl A) s1 ⟨Z, G.old (List.prefix_refl A) s1 G'⟩ w⟩
theorem gs_for (hp : PassesOwn (model X.prog X.w) X.A X.env X.xe) (hc : X.calm = true) (hi : PI X tg iter (tGI X.K U W fi)) (hg : PG X tg (tGG X.K U is h)) (hb : PSs X body (tGS X.K U W s)) (hs : ∀ x, foldedSetIterable iter X.env x = pure x := by intro _; rfl) :
    PS X (.For tg iter body [] pos) (tGS X.K U W (gsFor fi h s)) := ps_weak (ps_for hp hc hi hg hb hs) fun N σ H ⟨A, F, r, m, D, o, G, e, p⟩ => by
  rcases bs_some e with ⟨ds, m1, D1, e1, e⟩ | ⟨x, m1, D1, e1, rfl⟩
  · refine ⟨A, F, r, m, D, _, G, e1, fun A1 F1 H1 J hA1 s1 G1 W1 => ?_⟩
    refine ⟨fun i mm σ2 H2 => mm = ds.length - i ∧ i ≤ ds.length ∧ ∃ (A2 : List Addr) (F2 : Hp) (r2 : Rs) (m2 : Ms) (D2 : Dd), A1 <+: A2 ∧ Same F1 F2 ∧ GG X.K U A2 F2 H2 σ2 r2 m2 D2 ∧ gsLoop h s (ds.drop i) r2 m2 D2 = some o, ⟨ds.length, by simp, Nat.zero_le _, A1, F1, r, m1, D1, List.prefix_refl A1, Same.refl F1, G1, by rw [List.drop_zero]; exact e⟩, ?_⟩
    rintro i mm σ2 H2 ⟨rfl, hi2, A2, F2, r2, m2, D2, hA, hF, G2, e2⟩
    by_cases hlt : i < ds.length
    · rw [List.drop_eq_getElem_cons hlt] at e2
      unfold gsLoop at e2
      obtain ⟨r3, e3, e2⟩ := Option.bind_eq_some_iff.mp e2
      obtain ⟨o4, e4, e2⟩ := Option.bind_eq_some_iff.mp e2
      obtain ⟨Z2, G2'⟩ := G2
      obtain ⟨w1, w2⟩ := (W1 (jn U Z2)).go (jn U Z2) A2 σ2 r2 m2 F2 H2 i ds[i] (Same.refl _) hF G2'.g (List.getElem?_eq_getElem hlt)
      refine .inr ⟨w1, fun σ' H' => ∃ (A' : List Addr) (F' : Hp) (r' : Rs) (m' : Ms) (D' : Dd), A1 <+: A' ∧ Same F1 F' ∧ GG X.K U A' F' H' σ' r' m' D' ∧ gsLoop h s (ds.drop (i + 1)) r' m' D' = some o, fun σ' H' w => ⟨ds.length - (i + 1), by omega, rfl, hlt, w⟩, fun x H3 hy => ?_⟩
      obtain ⟨F3, s3, G3, h3⟩ := w2 x H3 hy
      have G3' : GG X.K U A2 F3 H3 σ2 r2 m2 D2 := ⟨Z2, G2'.old (List.prefix_refl A2) s3 G3⟩
      have hF3 : Same F1 F3 := hF.trans s3
      refine ⟨A2, F3, r2, m2, D2, .fz ds[i], r3, G3', h3, e3, fun σ4 G4 _ _ => ⟨A2, F3, r3, m2, D2, o4, G4, e4, ?_⟩⟩
      have past := fun {A' : List Addr} {F' : Hp} (ha : A2 <+: A') (hf : Same F3 F') => PoS.later (K := X.K) (U := U) (W := W) (N := N) ((hA1.trans hA).trans ha) (s1.trans (hF3.trans hf)) p
      cases o4 with
      | xc d r5 m5 D5 => cases e2; exact PoS.later (List.prefix_refl A2) (Same.refl F3) (past (List.prefix_refl A2) (Same.refl F3))
      | nx r5 m5 D5 => exact fun A' F' H' σ' ha hf G' => ⟨A', F', r5, m5, D5, hA.trans ha, hF3.trans hf, G', e2⟩
      | ct r5 m5 D5 => exact fun A' F' H' σ' ha hf G' => ⟨A', F', r5, m5, D5, hA.trans ha, hF3.trans hf, G', e2⟩
      | bk r5 m5 D5 => cases e2; exact fun A' F' H' σ' ha hf G' => (past ha hf).nxt G'
      | rt d m5 D5 => cases e2; exact PoS.later (List.prefix_refl A2) (Same.refl F3) (past (List.prefix_refl A2) (Same.refl F3))
    · have ei : i = ds.length := by omega
      subst ei
      rw [List.drop_length] at e2
      cases e2
      obtain ⟨Z2, G2'⟩ := id G2
      exact .inl ⟨(W1 (jn U Z2)).stop F2 H2 (fun b o e => (G2'.g.fo b o e).1) hF G2'.g.sub, (p.later (hA1.trans hA) (s1.trans hF)).nxt G2⟩
  · exact ⟨A, F, r, m, D, _, G, e1, fun A1 F1 H1 dd hA hF G1 h => p A1 F1 H1 σ dd hA hF G1 h⟩
theorem lstAt {K : Frag} {A : List Addr} {F H : Hp} {σ : St} {r : Rs} {m : Ms} {D : Dd} {k : Nat} {a : Addr} {xs : List Sl} (G : GG K U A F H σ r m D) (ha : A[k]? = some a) (e : cont m D k = some (.lst xs)) : ∃ vs, H a = some (.lst vs) ∧ RvAll K A F vs xs := by
  obtain ⟨a', o, h1, h2, ⟨vs, rfl, h3⟩, _⟩ := G.cont e
  rw [ha] at h1
  cases h1
  exact ⟨vs, h2, h3⟩
end
end NG
end
/-! TA2 -/
/-! TA3 -/
section
set_option maxHeartbeats 4000000
namespace TA
open TX
open PySem PySem.Spec PyProof.Rows L2
/-- the field of a caught one -/
abbrev fldO (v : V) : HO := .xd [(("at" : Str), v)]
end TA
end
/-! TA5 -/
section
set_option maxHeartbeats 4000000
namespace TA
open TX
open PySem PySem.Spec PyProof.Rows L2 TL
variable [TL.Lnk]
/-! ## statements that may raise, on trees -/
inductive OutX where
  | ok (o : Out) | xc (d : PyData) (r : Rs) (m : Ms)
section
variable (K : PySem.W.Frag) (U : Hp) (n0 : Nat) (C : Addr) (W : WX)
def PostX (A : List Addr) (F : Hp) (D : Ends) : OutX → Prop
  | .ok o => Post K U n0 A F D o
  | .xc d r m => ∀ (A' : List Addr) (F' H' : Hp) (σ' : L2.St) (dd : Addr) (v : V), A <+: A' → Same F F' → Good K U A' F' H' σ' r m → F' dd = some (fldO v) → Rp K F' v d → W (.ref C) (some dd) σ' H'
end
theorem PostX.later {K : PySem.W.Frag} {U : Hp} {n0 : Nat} {C : Addr} {W : WX} {A A1 : List Addr} {F F1 : Hp} {D : Ends} (hA : A <+: A1) (hF : Same F F1) : ∀ {o : OutX}, PostX K U n0 C W A F D o → PostX K U n0 C W A1 F1 D o
  | .ok _, p => Post.later hA hF p
  | .xc d r m, p => fun A' F' H' σ' dd v ha hf G h1 h2 => p A' F' H' σ' dd v (hA.trans ha) (hF.trans hf) G h1 h2
/-! ### statements -/
end TA
end
/-! TA6 -/
/-! TA7 -/
/-! TA8 -/
/-! TO8 -/
/-! TO9 -/
/-! NG6 -/
section
set_option maxHeartbeats 4000000
namespace NG
open PySem PySem.Spec PyProof.Rows L2 TL
/-! ## defs, their calls -/
section
variable [ClsT]
def PoR (K : Frag) (U : Hp) (A : List Addr) (F : Hp) (Q : VK) (E : XK) : Ro Sl → Prop
  | .ok s m D => ∀ (A' : List Addr) (F' H' : Hp) (v : V), A <+: A' → Same F F' → GG K U A' F' H' [] [] m D → Rv K A' F' v s → Q v H'
  | .xc x m D => ∀ (A' : List Addr) (F' H' : Hp) (dd : Option Addr), A <+: A' → Same F F' → GG K U A' F' H' [] [] m D → XOk K F' x dd → E (.ref (ClsT.cl x.C)) dd H'
abbrev Gf := List Sl → Ms → Dd → Option (Ro Sl)
def spG (K : Frag) (n : Nat) (g : Gf) : Sp := fun vs H Q E => ∃ (U : Hp) (A : List Addr) (F : Hp) (ss : List Sl) (m : Ms) (D : Dd) (o : Ro Sl), GG K U A F H [] [] m D ∧ vs.length = n ∧ RvAll K A F vs ss ∧ g ss m D = some o ∧ PoR K U A F Q E o
end
section
variable [ClsT] {K : Frag} {U : Hp} {A : List Addr} {F H : Hp} {m : Ms} {D : Dd}
theorem GG.start (G : GG K U A F H [] [] m D) {N : List Str} {vs : List V} {ss : List Sl} (h : RvAll K A F vs ss) (hl : vs.length ≤ N.length) : GG K U A F H (L2.start N vs) (ss ++ List.replicate (N.length - vs.length) .un) m D := by
  obtain ⟨Z, G⟩ := G
  have hs := rv_len h
  have at_ : ∀ (i : Nat) (s : Sl), (ss ++ List.replicate (N.length - vs.length) Sl.un)[i]? = some s → s ≠ .un → ∃ v, (L2.start N vs)[i]? = some (some v) ∧ Rv K A F v s := by
    intro i s e hu
    by_cases hi : i < ss.length
    · rw [List.getElem?_append_left hi] at e
      obtain ⟨v, h1, h2⟩ := pgetS h e
      refine ⟨v, ?_, h2⟩
      unfold L2.start
      rw [List.getElem?_append_left (by rw [List.length_map]; omega), List.getElem?_map, h1]
      rfl
    · rw [List.getElem?_append_right (by omega), List.getElem?_replicate] at e
      split at e
      · cases e; exact absurd rfl hu
      · cases e
  refine ⟨Z, G.dj, ⟨G.g.sub, G.g.fo, ?_, fun i d e => at_ i (.fz d) e (by simp), fun i k e => ?_, G.g.al, G.g.cl, G.g.nd, G.g.he, trivial⟩, G.d⟩
  · unfold L2.start
    rw [List.length_append, List.length_append, List.length_map, List.length_replicate, List.length_replicate, hs]
  · obtain ⟨v, h1, a, h2, h3⟩ := at_ i (.ow k) e (by simp)
    exact ⟨a, h2, by rw [h1, h3]⟩
end
section
variable [ClsT] {P : Program} {w : World} {K : Frag} {mg : Str → Option Value} {base : Heap} {x qual : Str} {st : Stmt} {f : Addr} {fd : FuncData} {N ps : List Str} {k : Nat} {s : Gs}
/-! ### the law itself: data in, data out -/
def runGD (nL : Nat) (s : Gs) (ds : List PyData) : Option PyData := match s (ds.map Sl.fz ++ List.replicate nL .un) [] [] with
  | some (.rt (.fz d) _ _) => some d
  | _ => none
theorem gg_start {F H : Hp} (hF : Same F H) : GG K (less H F) [] F H [] [] [] [] :=
  ⟨fun _ => none, fun b o e => (by cases e), ⟨hF, fun b o e => less_some.mp e, rfl, fun i d e => (by simp at e), fun i k e => (by simp at e), rfl, fun k a es e => (by simp at e), List.nodup_nil, fun a ha => (by cases ha), trivial⟩, fun k c e => (by unfold dAt at e; simp at e)⟩
theorem go_GD (hpl : ps.length ≤ N.length) {vs : List V} {H : Hp} {Q : VK} {E : XK} (h : spD K ps.length (runGD (N.length - ps.length) s) vs H Q E) : ∃ U, tGS K U (fun _ _ _ _ => False) s { nx := fun _ H' => Q .non H', rt := Q } (L2.start N vs) H := by
  obtain ⟨F0, ds, d, hF, hl, hr2, e, kk⟩ := h
  refine ⟨less H F0, ?_⟩
  have G1 := (gg_start (K := K) hF).start (N := N) (rv_fzs (A := []) hr2) (by omega)
  rw [hl] at G1
  unfold runGD at e
  split at e
  · rename_i d' m1 D1 e1
    cases e
    refine ⟨[], F0, _, [], [], _, G1, e1, ?_⟩
    intro A' F' H' v hA hF' G' hv
    obtain ⟨Z, G'⟩ := G'
    refine kk F' H' v hF' G'.g.sub (fun b o e1 e2 => ?_) hv
    refine G'.g.fo b o ?_
    have q : less H F0 b = some o := less_some.mpr ⟨e1, e2⟩
    rw [jn_u]
    · exact q
    · cases z : Z b with
      | none => rfl
      | some o' => have := G'.dj b o' z; rw [q] at this; cases this
  · cases e
theorem fn_GD (F : Fun K x qual st f fd) (S : FnScope N ps (defScope st)) (hpl : ps.length ≤ N.length)
    (hb : ∀ (cdv : Value) (A : Around) (outer : List Env) (s0 : Shared) (H : Hp) (E : XK) (U : Hp), Room k (A.deeper (PyProof.Rows.envOfC qual (defScope st) s0.heap.objs.size f cdv)) → A.guards = some [] →
      PSs (cxOf CX0 P w K mg base N qual (defScope st) f cdv A outer s0 H E).nox (defBody st) (tGS K U (fun _ _ _ _ => False) s)) : FnG P w K mg base (k + 1) f fd ps (spD K ps.length (runGD (N.length - ps.length) s)) := by
  have Q : TX.FnC CX0 P w K mg base (k + 1) f fd ps (spD K ps.length (runGD (N.length - ps.length) s)) := by
    refine TX.fn_ofC F S (fun vs H Q E h => ?_) fun cdv A outer s0 H vs Q E hr gd h => ?_
    · obtain ⟨_, _, _, _, hl, _⟩ := h
      exact hl
    · obtain ⟨U, q⟩ := go_GD hpl h
      exact ⟨_, (hb cdv A outer s0 H E U hr gd).nox, q⟩
  exact ⟨Q.len, Q.run⟩
end
/-! ### calls -/
def gCall (n : Nat) (dd : List PyData) (g : Gf) (f : Ga) : Gv := fun r m D => bd (f r m D) fun as m D => if (as ++ dd.map Sl.fz).length = n then g (as ++ dd.map Sl.fz) m D else none
section
variable [ClsT] {K : Frag} {U : Hp} {W : WX} {A : List Addr} {F H : Hp} {σ : St} {r : Rs} {m : Ms} {D : Dd} {Q : VK}
theorem rv_ow {k : Nat} {a : Addr} (h : A[k]? = some a) : Rv K A F (.ref a) (.ow k) := ⟨a, h, rfl⟩
theorem rva_app {vs us : List V} {xs ys : List Sl} (h1 : RvAll K A F vs xs) (h2 : RvAll K A F us ys) : RvAll K A F (vs ++ us) (xs ++ ys) := by
  induction h1 with
  | nil => exact h2
  | cons r _ ih => exact .cons r ih
theorem GG.call {n : Nat} {g : Gf} {vs : List V} {ss : List Sl} {o : Ro Sl} (G : GG K U A F H σ r m D) (hr : RvAll K A F vs ss) (hn : ss.length = n) (e : g ss m D = some o) (p : PoE K U W A F σ r (Rv K) Q o) : spG K n g vs H Q (WE W σ) := by
  refine ⟨U, A, F, ss, m, D, o, G.bare, (rv_len hr).trans hn, hr, e, ?_⟩
  cases o with
  | ok s m' D' => exact fun A' F' H' v hA hF G' hv => p A' F' H' v hA hF (G.back hA hF G') hv
  | xc x m' D' => exact fun A' F' H' dd hA hF G' hv => p A' F' H' dd hA hF (G.back hA hF G') hv
end
end NG
end
/-! NG7 -/
section
set_option maxHeartbeats 4000000
namespace NG
open PySem PySem.Spec PyProof.Rows L2 TL
/-! ## lists in cells -/
/-- an old one that makes a new list or dict -/
def lN (f : Ev) : Gv := fun r m D => (f r m).map fun p => .ok (.ow p.2.length) (p.2 ++ [some p.1]) D
section
variable [ClsT] {X : Cx} {U : Hp} {W : WX} {pos : Pos}
def tNX (K : Frag) (f : Ev) : TE := fun σ H Q => ∃ U, tN K U f σ H Q
theorem pn_all {e : Expr} {f : Ev} (k : ∀ U, PE X e (tN X.K U f)) : PE X e (tNX X.K f) := ⟨fun pins s σ H Q I ⟨U, q⟩ => (k U).run pins s σ H Q I q⟩
theorem new_read {K : Frag} {A : List Addr} {F H : Hp} {σ : St} {r : Rs} {m : Ms} {D : Dd} {Q : VK} {Z : Hp} {d : PyData} {m' : Ms} (G : GZ K U Z A F H σ r m D) (p : PoE K U W A F σ r (Rv K) Q (.ok (.ow m'.length) (m' ++ [some d]) D)) :
    ∀ (F' H' : Hp) (a : Addr) (u : HO), Same F F' → Good K (jn U Z) A F' H' σ r m' → F' a = none → jn U Z a = none → a ∉ A → H' a = some u → Stored K F' u d → Q (.ref a) H' := by
  intro F' H' a u s G' h1 h2 h3 h4 h5
  have hat : (A ++ [a])[m'.length]? = some a := new_at G'.al
  exact p (A ++ [a]) F' H' _ (List.prefix_append A [a]) s ⟨Z, G.old (List.prefix_append A [a]) s (good_in (good_ext G' h4 h3) hat h4 h1 h2 h5)⟩ (rv_ow hat)
theorem ge_new {e : Expr} {f : Ev} (h : ∀ U, PE X e (tN X.K U f)) : PE X e (tGE X.K U W (lN f)) := pe_weak (pn_all h) fun σ H Q ⟨A, F, r, m, D, o, ⟨Z, G⟩, e, p⟩ => by
  obtain ⟨⟨d, m'⟩, e1, rfl⟩ := Option.map_eq_some_iff.mp e
  exact ⟨jn U Z, A, F, r, m, d, m', G.g, e1, new_read G p⟩
end
/-! ### what is walked, whatever is hidden -/
/-! ### len, list(x) -/
def lenV (s : Sl) (m : Ms) (D : Dd) : Option Nat := match s with
  | .fz (.list ds) => some ds.length
  | .fz (.tuple ds) => some ds.length
  | .ow k => match cont m D k with
    | some (.lst xs) => some xs.length
    | some (.tup xs) => some xs.length
    | _ => none
  | _ => none
def gLen (f : Gv) : Gv := fun r m D => bd (f r m D) fun a m D => (lenV a m D).map fun (n : Nat) => .ok (.fz (.int n)) m D
/-- the items of a sequence -/
def itemsV (s : Sl) (m : Ms) (D : Dd) : Option (List Sl) := match s with
  | .fz (.list ds) => some (ds.map .fz)
  | .fz (.tuple ds) => some (ds.map .fz)
  | .ow k => match cont m D k with
    | some (.lst xs) => some xs
    | some (.tup xs) => some xs
    | _ => none
  | _ => none
def gListOf (f : Gv) : Gv := fun r m D => bd (f r m D) fun a m D => (itemsV a m D).bind fun xs => newV (.lst xs) m D
/-! ### methods of lists -/
/-- what a method makes of a list: what it hands back, the list behind it -/
abbrev Lop := List Sl → List Sl → Option (Sl × List Sl)
def lmOk (K : Frag) (rd : V → List V → Hp → VK → Prop) (op : Lop) : Prop := ∀ (A : List Addr) (F H : Hp) (a : Addr) (vs ws : List V) (xs as ys : List Sl) (s : Sl) (Q : VK), H a = some (.lst vs) → RvAll K A F vs xs → RvAll K A F ws as → op xs as = some (s, ys) →
  (∀ us v, RvAll K A F us ys → Rv K A F v s → Q v (upd H a (.lst us))) → rd (.ref a) ws H Q
def gLm (op : Lop) (fo : Gv) (f : Ga) : Gv := fun r m D => bd (fo r m D) fun o m D => match o with
  | .ow k => match cont m D k with
    | some (.lst _) => bd (f r m D) fun as m D => match cont m D k with
      | some (.lst xs) => (op xs as).map fun q => .ok q.1 (putC m D k (.lst q.2)).1 (putC m D k (.lst q.2)).2
      | _ => none
    | _ => none
  | _ => none
def appL : Lop := fun xs as => match as with | [s] => if xs.length < sizeLine then some (.fz .none, xs ++ [s]) else none | _ => none
section
variable [ClsT]
theorem rv_one {K : Frag} {A : List Addr} {F : Hp} {ws : List V} {s : Sl} (h : RvAll K A F ws [s]) : ∃ v, ws = [v] ∧ Rv K A F v s := by
  cases h with
  | cons h1 h2 => cases h2; exact ⟨_, rfl, h1⟩
theorem rv_set {K : Frag} {A : List Addr} {F : Hp} {v : V} {s : Sl} (h : Rv K A F v s) : ∀ {vs : List V} {xs : List Sl} (n : Nat), RvAll K A F vs xs → RvAll K A F (vs.set n v) (xs.set n s)
  | _, _, _, .nil => .nil
  | _, _, 0, .cons _ t => .cons h t
  | _, _, n + 1, .cons r t => .cons r (rv_set h n t)
theorem rv_int {K : Frag} {A : List Addr} {F : Hp} {v : V} {i : Int} (h : Rv K A F v (.fz (.int i))) : v = .int i := by cases h; rfl
end
section
variable [ClsT] {K : Frag}
theorem lm_append : lmOk K rAppend appL := by
  intro A F H a vs ws xs as ys s Q hH hr hw e k
  unfold appL at e
  split at e
  · split at e
    · rename_i hl
      cases e
      obtain ⟨v, rfl, hv⟩ := rv_one hw
      exact ⟨a, vs, v, rfl, rfl, hH, by rw [rv_len hr]; exact hl, k _ _ (rva_app hr (.cons hv .nil)) .vn⟩
    · cases e
  · cases e
end
section
variable [ClsT] {X : Cx} {U : Hp} {W : WX} {pos apos cpos : Pos} {o e : Expr} {es : List Expr} {fo : Gv} {f : Ga} {name : Str} {id : String} {rd : V → List V → Hp → VK → Prop} {op : Lop}
theorem gc_lm (slot : Slot "list" name id) (hty : typeOf (.builtin id) = pure (.type "method_descriptor")) (hm : MtR X id rd) (hop : lmOk X.K rd op) (ho : PE X o (tGE X.K U W fo)) (ha : PA X (e :: es) (tGA X.K U W f)) (hbase : attributeBase o name X.env (eval o X.env) = eval o X.env := by rfl)
    (hfew : ((backTo cpos (starEach (e :: es) X.env)).all (fun x => !x.1) && (backToKw cpos (keywordEach [] X.env)).all (fun x => x.1.isSome) && decide ((e :: es).length + ([] : List Keyword).length + (if ([] : List Keyword).isEmpty then 0 else 1) < 30)) = true := by rfl)
    (hline : (apos.endLine == cpos.line) = true := by rfl) (hs : starEach (e :: es) X.env = (false, eval e X.env) :: starEach es X.env := by rfl) (hplain : (backTo cpos (starEach es X.env)).any (·.1) = false := by rfl) :
    PE X (.Call (.Attribute o name apos) (e :: es) [] cpos) (tGE X.K U W (gLm op fo f)) := pe_weak (pe_bm PySem.F.plainAttrs_list slot hty hm ho ha hbase hfew hline hs hplain) fun σ H Q ⟨A, F, r, m, D, o, G, e, p⟩ => seqR G e p fun a m1 D1 A1 F1 H1 v hA1 hF1 G1 h1 e1 p1 => by
  split at e1
  · rename_i k
    obtain ⟨q, hq, rfl⟩ := h1
    split at e1
    · rename_i xs0 hc0
      obtain ⟨vs0, hH0, _⟩ := lstAt G1 hq hc0
      refine ⟨.inl ⟨rfl, _, .inl (.inl hH0)⟩, seqR G1 e1 p1 fun as m2 D2 A2 F2 H2 ws hA2 hF2 G2 h2 e2 p2 => ?_⟩
      split at e2
      · rename_i xs hc
        obtain ⟨⟨s, ys⟩, e3, rfl⟩ := Option.map_eq_some_iff.mp e2
        have hq2 := pre_get hA2 hq
        obtain ⟨vs, hH, hr⟩ := lstAt G2 hq2 hc
        exact hop A2 F2 H2 q vs ws xs as ys s Q hH hr h2 e3 fun us v hu hv => p2.at (G2.put hc hq2 trivial ⟨us, rfl, hu⟩) hv
      · cases e2
    · cases e1
  · cases e1
end
/-! ### del x[i], x[i] = e -/
/-- x[i] = e of lists -/
def gsPutL (fo f fv : Gv) : Gs := fun r m D => bs (fv r m D) r fun s m D => bs (fo r m D) r fun o m D => bs (f r m D) r fun i m D => match o, i with
  | .ow k, .fz (.int j) => match cont m D k with
    | some (.lst xs) => (ixN xs.length j).map fun n => .nx r (putC m D k (.lst (xs.set n s))).1 (putC m D k (.lst (xs.set n s))).2
    | _ => none
  | _, _ => none
section
variable [ClsT] {X : Cx} {U : Hp} {W : WX} {pos : Pos} {o i e : Expr} {fo f fv : Gv}
theorem gs_putL {p2 : Pos} (ho : PE X o (tGE X.K U W fo)) (hi : PE X i (tGE X.K U W f)) (hv : PE X e (tGE X.K U W fv)) (hg : ∀ {to ti : TE}, PE X o to → PE X i ti → PG X (.Subscript o i p2) (gSub to ti rSetL))
    (hs : swapsWithSole [.Subscript o i p2] e pos.line X.env = pure false := by rfl) (hw : swappedStores [.Subscript o i p2] e X.env = pure none := by rfl) (h1 : (assignEach [.Subscript o i p2] X.env).map (·.2) = [assign (.Subscript o i p2) X.env] := by rfl) :
    PS X (.Assign [.Subscript o i p2] e pos) (tGS X.K U W (gsPutL fo f fv)) := ps_weak (ps_asg hv (hg ho hi) hs hw h1) fun N σ H ⟨A, F, r, m, D, o, G, e, p⟩ =>
  seqS G e p fun a m1 D1 A1 F1 H1 v hA1 hF1 G1 h1 e1 p1 => seqS G1 e1 p1 fun b m2 D2 A2 F2 H2 w hA2 hF2 G2 h2 e2 p2 => seqS G2 e2 p2 fun c m3 D3 A3 F3 H3 y hA3 hF3 G3 h3 e3 p3 => by
    split at e3
    · rename_i k j
      obtain ⟨q, hq, rfl⟩ := h2
      cases rv_int h3
      split at e3
      · rename_i xs hc
        obtain ⟨n, e4, rfl⟩ := Option.map_eq_some_iff.mp e3
        have hq2 := pre_get hA3 hq
        obtain ⟨vs, hH, hr⟩ := lstAt G3 hq2 hc
        exact ⟨q, vs, j, n, rfl, rfl, hH, by rw [rv_len hr]; exact e4, p3.nxt (G3.put hc hq2 trivial ⟨_, rfl, rv_set (h1.mono (hA2.trans hA3) (hF2.trans hF3)) n hr⟩)⟩
      · cases e3
    · cases e3
end
/-! ### a comprehension over a list of data, all else as ever -/
end NG
end
/-! NG8 -/
section
set_option maxHeartbeats 4000000
namespace PySem.W
open PySem PySem.Spec PySem.Calls PyProof.Rows
end PySem.W
namespace NG
open PySem PySem.Spec PyProof.Rows L2 TL
/-! ## a caught exception, kept: an object of the heap from then on -/
end NG
end
/-! NG9 -/
section
set_option maxHeartbeats 4000000
namespace NG
open PySem PySem.Spec PyProof.Rows L2 TL
/-! ## raise, try, the kept exception -/
end NG
end
/-! TAD -/
/-! NGA -/
section
set_option maxHeartbeats 4000000
namespace NG
open PySem PySem.Spec PyProof.Rows L2 TL
/-! ## defs of data called with what cells hold; classes' facts -/
def gCallD (n : Nat) (g : List PyData → Option PyData) (f : Ga) : Gv := fun r m D => bd (f r m D) fun as m D => (fzL as).bind fun ds => (arN n g ds).map fun d => .ok (.fz d) m D
/-- a name's cell is data from here on -/
def gsFrz (i : Nat) (s : Gs) : Gs := fun r m D => match r[i]? with
  | some (.ow k) => match cellAt m k with
    | some d => s (r.set i (.fz d)) (m.set k none) D
    | none => none
  | _ => s r m D
theorem gss_frz [ClsT] {X : Cx} {U : Hp} {W : WX} (i : Nat) {es : List Stmt} {s : Gs} (h : PSs X es (tGS X.K U W s)) : PSs X es (tGS X.K U W (gsFrz i s)) := pss_weak h fun N σ H ⟨A, F, r, m, D, o, G, e, p⟩ => by
  unfold gsFrz at e
  split at e
  · rename_i k hk
    split at e
    · rename_i d hd
      obtain ⟨v, h1, a, h2, rfl⟩ := G.slot hk (by simp)
      obtain ⟨F', s, G', h'⟩ := G.frz h2 hd
      have G2 := G'.set i (s := .fz d) h'
      have es : σ.set i (some (.ref a)) = σ := by
        apply List.ext_getElem?
        intro j
        by_cases hj : i = j
        · subst hj
          rw [List.getElem?_set_self (List.getElem?_eq_some_iff.mp h1).1, h1]
        · rw [List.getElem?_set_ne hj]
      rw [es] at G2
      exact ⟨A, F', _, _, D, o, G2, e, p.later (List.prefix_refl A) s⟩
    · cases e
  · exact ⟨A, F, r, m, D, o, G, e, p⟩
def noFB (K : Frag) (D : Addr) (x : Str) : Bool := He.eqO (PySem.W.findIn K (.ref D) x) (some none)
end NG
end
/-! NX0 -/
section
set_option maxHeartbeats 4000000
/-! own exceptions as values: how one is made, by what its class says -/
namespace NX
open TX PySem PySem.W PySem.Calls PyProof.Rows PySem.HandSPX
end NX
end
/-! NX1 -/
section
set_option maxHeartbeats 4000000
namespace NX
open TX PySem PySem.W PySem.Calls PyProof.Rows PySem.HandSPX
/-! ### self.name = name -/
/-! ### self.word = word -/
/-! ### self.line = line -/
/-! ### self.at = at -/
/-! ### self.address = address -/
end NX
end
/-! NX2 -/
section
set_option maxHeartbeats 4000000
namespace NX
open TX PySem PySem.W PySem.Calls PyProof.Rows PySem.HandSPX
/-! ### self.name = name, self.word = word -/
end NX
end
/-! NX3 -/
section
set_option maxHeartbeats 4000000
namespace NX
open TX PySem PySem.W PySem.Calls PyProof.Rows PySem.HandSPX
/-- an exception made, and its dict -/
structure MadeX (h h' : Heap) (e C : Addr) (dd : Option Addr) (xs : List Str) (vs : List Value) : Prop where
  keep : ∀ b o, h.get? b = some o → h'.get? b = some o
  new : h.objs.size ≤ e
  obj : ∃ oe fv, h'.get? e = some oe ∧ oe.cls = .ref C ∧ oe.dict = dd ∧ oe.data = .fields fv
  dct : (xs = [] ∧ dd = none) ∨ ∃ d mA, dd = some d ∧ h.objs.size ≤ d ∧ d ≠ e ∧ h'.Ns1 d mA ∧ ∀ f, mA f = (xs.zip vs).lookup f
def MkOk (prog : Program) (w : World) (K : Frag) (C : Addr) (xs : List Str) : Prop := ∀ (A : Around) (Q : Value → Shared → Prop) (E : Value → Shared → Prop) (s : Shared) (vs : List Value), vs.length = xs.length → K.In s.heap → s.heap.NoLimit → A.depth + 1 < recursionLimit →
  (∀ h' tk e dd, MadeX s.heap h' e C dd xs vs → Q (.ref e) { s with heap := h', toks := tk }) → wpAny (model prog w) A (call (.ref C) vs) Q E s
variable {prog : Program} {w : World} {K : Frag} {tail : List String} {B newId initId : String} {bmB : List Value} {C fI : Addr} {xs : List Str}
end NX
namespace NG
open PySem PySem.Spec PyProof.Rows L2 TL
open NX (MkOk MadeX)
end NG
end
/-! NX4 -/
section
set_option maxHeartbeats 4000000
namespace NG
open PySem PySem.Spec PyProof.Rows L2 TL
open NX (MkOk MadeX)
/-! ## own exceptions as values, lists of them -/
/-! ### targets that take a pair of what cells hold -/
abbrev Ghs := List Sl → Rs → Option Rs
def ghNil : Ghs := fun ss r => match ss with | [] => some r | _ => none
def ghCons (f : Gh) (g : Ghs) : Ghs := fun ss r => match ss with | s :: ss => (f s r).bind fun r1 => g ss r1 | [] => none
section
variable [ClsT] {X : Cx} {U : Hp} {W : WX} {pos : Pos}
def tGGs (K : Frag) (U : Hp) (is : List Nat) (h : Ghs) : TGs := fun vs σ H Q => ∃ (A : List Addr) (F : Hp) (r : Rs) (m : Ms) (D : Dd) (ss : List Sl) (r' : Rs), GG K U A F H σ r m D ∧ RvAll K A F vs ss ∧ h ss r = some r' ∧
  ∀ σ' : St, GG K U A F H σ' r' m D → (∀ j, j ∉ is → σ'[j]? = σ[j]?) → σ'.length = σ.length → Q σ' H
theorem ggs_nil : PGs X [] (tGGs X.K U [] ghNil) := pgs_weak pgs_nil fun vs σ H Q ⟨A, F, r, m, D, ss, r', G, h1, e, q⟩ => by
  cases ss with
  | nil => cases h1; cases e; exact ⟨rfl, q σ G (fun _ _ => rfl) rfl⟩
  | cons _ _ => cases e
/-- what a pair says -/
def tGGT (K : Frag) (U : Hp) (is : List Nat) (h : Ghs) : TG := fun v σ H Q => ∃ (A : List Addr) (F : Hp) (r : Rs) (m : Ms) (D : Dd) (a : Addr) (vs : List V) (ss : List Sl) (r' : Rs), v = .ref a ∧ H a = some (.tup vs) ∧ GG K U A F H σ r m D ∧ RvAll K A F vs ss ∧ h ss r = some r' ∧
  ∀ σ' : St, GG K U A F H σ' r' m D → (∀ j, j ∉ is → σ'[j]? = σ[j]?) → σ'.length = σ.length → Q σ' H
theorem ggs_cons {e : Expr} {es : List Expr} {is js : List Nat} {f : Gh} {g : Ghs} (h1 : PG X e (tGG X.K U is f)) (h2 : PGs X es (tGGs X.K U js g))
    (hs : (assignEach (e :: es) X.env).map (·.2) = assign e X.env :: (assignEach es X.env).map (·.2) := by rfl) : PGs X (e :: es) (tGGs X.K U (is ++ js) (ghCons f g)) := pgs_weak (pgs_cons h1 h2 hs) fun vs σ H Q ⟨A, F, r, m, D, ss, r', G, h, e, k⟩ => by
  cases ss with
  | nil => cases e
  | cons s ss =>
    cases h with
    | cons ha hb =>
      obtain ⟨r1, e1, e2⟩ := Option.bind_eq_some_iff.mp e
      refine ⟨_, _, rfl, A, F, r, m, D, s, r1, G, ha, e1, fun σ1 G1 k1 l1 => ⟨A, F, r1, m, D, ss, r', G1, hb, e2, fun σ2 G2 k2 l2 => k σ2 G2 (fun j hj => ?_) (l2.trans l1)⟩⟩
      rw [List.mem_append, not_or] at hj
      exact (k2 j hj.2).trans (k1 j hj.1)
theorem gg_tupC {es : List Expr} {kk : Nat} {is : List Nat} {g : Ghs} {n : Nat} (hc : X.calm = true) (h : PGs X es (tGGs X.K U is g)) (hl : ∀ ss r r', g ss r = some r' → ss.length = n) (hn : (assignEach es X.env).length = n := by rfl) (hst : (assignEach es X.env).findIdx? (·.1) = none := by rfl) :
    PG X (.Tuple es kk pos) (tGGT X.K U is g) := pg_weak (pg_tup hc h hn hst) fun v σ H Q ⟨A, F, r, m, D, a, vs, ss, r', e1, e2, G, h, e, k⟩ =>
  ⟨a, vs, e1, .inl (.inl e2), (rv_len h).trans (hl _ _ _ e), A, F, r, m, D, ss, r', G, h, e, k⟩
theorem ghs2 {f g : Gh} : ∀ ss r r', ghCons f (ghCons g ghNil) ss r = some r' → ss.length = 2 := fun ss r r' e => by
  match ss with
  | [] => cases e
  | [_] =>
    obtain ⟨_, _, e2⟩ := Option.bind_eq_some_iff.mp e
    cases e2
  | [_, _] => rfl
  | _ :: _ :: _ :: _ =>
    obtain ⟨_, _, e2⟩ := Option.bind_eq_some_iff.mp e
    obtain ⟨_, _, e3⟩ := Option.bind_eq_some_iff.mp e2
    cases e3
end
end NG
end
/-! NX5 -/
section
set_option maxHeartbeats 4000000
namespace NG
open PySem PySem.Spec PyProof.Rows L2 TL
end NG
namespace NX
open PySem PySem.W PyProof.Rows PySem.HandSPX
open NG (noFB)
variable {prog : Program} {w : World} {K : Frag} {tail : List String} {B newId initId : String} {bmB : List Value} {C : Addr} {xs : List Str}
def tO : List String := ["OverflowError", "ArithmeticError", "Exception", "BaseException", "object"]
def tR : List String := ["RuntimeError", "Exception", "BaseException", "object"]
end NX
end
/-! NY1 -/
section
set_option maxHeartbeats 4000000
namespace NG
open PySem PySem.Spec PyProof.Rows L2 TL
/-! ## what cells hold read as data, where the answer is flat -/
def rdS (m : Ms) (D : Dd) (r : Rs) : Rs := r.map fun s => match s with
  | .un => .un
  | s => match snap 6 m D s with
    | some d => .fz d
    | none => .un
def gSnT (t : Et) : Gt := fun r m D => (t (rdS m D r) []).map fun p => .ok p.1 m D
section
variable [ClsT] {X : Cx} {U : Hp} {W : WX} {e : Expr}
theorem GG.frz0 {K : Frag} {A : List Addr} {F H : Hp} {σ : St} {r : Rs} {m : Ms} {D : Dd} (G : GG K U A F H σ r m D) : Good K (fun _ => none) [] H H σ (rdS m D r) [] := by
  refine G.frozen ?_ (fun i d h => ?_) (fun i k h => ?_)
  · unfold rdS
    rw [List.length_map]
    obtain ⟨Z, G⟩ := G
    exact G.g.len
  · unfold rdS at h
    rw [List.getElem?_map] at h
    obtain ⟨s, h1, h2⟩ := Option.map_eq_some_iff.mp h
    refine ⟨s, 6, h1, ?_⟩
    cases s with
    | un => cases h2
    | fz d' =>
      dsimp only at h2
      split at h2
      · rename_i d2 e; cases h2; exact e
      · cases h2
    | ow k =>
      dsimp only at h2
      split at h2
      · rename_i d2 e; cases h2; exact e
      · cases h2
  · unfold rdS at h
    rw [List.getElem?_map] at h
    obtain ⟨s, h1, h2⟩ := Option.map_eq_some_iff.mp h
    cases s with
    | un => cases h2
    | fz d' =>
      dsimp only at h2
      split at h2 <;> cases h2
    | ow k =>
      dsimp only at h2
      split at h2 <;> cases h2
theorem gt_sn {t : Et} (h : ∀ U, PT X e (tT X.K U t)) : PT X e (tGT X.K U W (gSnT t)) := pt_weak (h fun _ => none) fun σ H Q ⟨A, F, r, m, D, o, G, e, p⟩ => by
  obtain ⟨⟨b, m'⟩, e1, rfl⟩ := Option.map_eq_some_iff.mp e
  exact ⟨[], H, rdS m D r, [], b, m', G.frz0, e1, fun F1 H1 s1 G1 => p.at (G.grow (s1.trans G1.sub)) rfl⟩
end
end NG
end
/-! NY2 -/
section
set_option maxHeartbeats 4000000
namespace NG
open PySem PySem.Spec PyProof.Rows L2 TL
/-! ## for a, b in a cell that is a list of tuples that are cells -/
def tupAt (m : Ms) (D : Dd) : Sl → Option (List Sl)
  | .ow j => match cont m D j with | some (.tup ss) => some ss | _ => none
  | _ => none
def gsLoopT (k n : Nat) (h : Ghs) (body : Gs) : Nat → Gs
  | 0, r, m, D => match cont m D k with | some (.lst xs) => if xs.length = n then some (.nx r m D) else none | _ => none
  | j + 1, r, m, D => match cont m D k with
    | some (.lst xs) => if xs.length = n then (xs[n - (j + 1)]?).bind fun s => (tupAt m D s).bind fun ss => (h ss r).bind fun r1 => (body r1 m D).bind fun o => match o with
      | .nx r2 m2 D2 => gsLoopT k n h body j r2 m2 D2
      | .ct r2 m2 D2 => gsLoopT k n h body j r2 m2 D2
      | .bk r2 m2 D2 => some (.nx r2 m2 D2)
      | o => some o else none
    | _ => none
def gsForT (f : Gv) (h : Ghs) (body : Gs) : Gs := fun r m D => bs (f r m D) r fun s m D => match s with
  | .ow k => match cont m D k with
    | some (.lst xs) => gsLoopT k xs.length h body xs.length r m D
    | _ => none
  | _ => none
section
variable [ClsT] {X : Cx} {U : Hp} {W : WX} {iter : Expr} {body : List Stmt} {h : Ghs} {s : Gs} {is : List Nat} {pos tpos : Pos} {elts : List Expr} {kk : Nat}
theorem tupAt_ok {K : Frag} {A : List Addr} {F H : Hp} {σ : St} {r : Rs} {m : Ms} {D : Dd} {s : Sl} {v : V} {ss : List Sl} (G : GG K U A F H σ r m D) (h : Rv K A F v s) (e : tupAt m D s = some ss) : ∃ q vs, v = .ref q ∧ H q = some (.tup vs) ∧ RvAll K A F vs ss := by
  unfold tupAt at e
  split at e
  · rename_i j
    obtain ⟨q, hq, rfl⟩ := h
    split at e
    · rename_i ys hc
      cases e
      obtain ⟨q', o, hq', hH, ⟨vs, rfl, h3⟩, _⟩ := G.cont hc
      rw [hq] at hq'
      cases hq'
      exact ⟨q, vs, rfl, hH, h3⟩
    · cases e
  · cases e
theorem gs_forT {f : Gv} (hp : PassesOwn (model X.prog X.w) X.A X.env X.xe) (hc : X.calm = true) (hi : PE X iter (tGE X.K U W f)) (hg : PG X (.Tuple elts kk tpos) (tGGT X.K U is h)) (hb : PSs X body (tGS X.K U W s)) (hs : ∀ x, foldedSetIterable iter X.env x = pure x := by intro _; rfl) :
    PS X (.For (.Tuple elts kk tpos) iter body [] pos) (tGS X.K U W (gsForT f h s)) := ps_weak (ps_for hp hc (pi_list hi) hg hb hs) fun N σ H ⟨A, F, r, m, D, o, G, e, p⟩ =>
  seqS G e p fun a m1 D1 A1 F1 H1 v hA1 s1 G1 h1 e1 p => by
    split at e1
    · rename_i k
      obtain ⟨q, hq, rfl⟩ := h1
      split at e1
      · rename_i xs hc
        obtain ⟨vs, hH, hr⟩ := lstAt G1 hq hc
        refine ⟨q, rfl, ⟨vs, .inl (.inl hH)⟩, ?_⟩
        refine ⟨fun i mm σ2 H2 => i + mm = xs.length ∧ ∃ (A2 : List Addr) (F2 : Hp) (r2 : Rs) (m2 : Ms) (D2 : Dd), A1 <+: A2 ∧ Same F1 F2 ∧ GG X.K U A2 F2 H2 σ2 r2 m2 D2 ∧ gsLoopT k xs.length h s mm r2 m2 D2 = some o, ⟨xs.length, by simp, A1, F1, r, m1, D1, List.prefix_refl A1, Same.refl F1, G1, e1⟩, ?_⟩
        rintro i mm σ2 H2 ⟨hmm, A2, F2, r2, m2, D2, hA, hF, G2, e2⟩
        have hq2 := pre_get hA hq
        cases mm with
        | succ j =>
          unfold gsLoopT at e2
          split at e2
          · rename_i ys hc2
            split at e2
            · rename_i hl
              obtain ⟨vs2, hH2, hr2⟩ := lstAt G2 hq2 hc2
              obtain ⟨y, e3, e2⟩ := Option.bind_eq_some_iff.mp e2
              obtain ⟨ss, e6, e2⟩ := Option.bind_eq_some_iff.mp e2
              obtain ⟨r3, e4, e2⟩ := Option.bind_eq_some_iff.mp e2
              obtain ⟨o4, e5, e2⟩ := Option.bind_eq_some_iff.mp e2
              have hij : xs.length - (j + 1) = i := by omega
              rw [hij] at e3
              obtain ⟨w, hw, hrw⟩ := pgetS hr2 e3
              refine .inr ⟨⟨vs2, w, .inl (.inl hH2), hw⟩, fun σ' H' => ∃ (A' : List Addr) (F' : Hp) (r' : Rs) (m' : Ms) (D' : Dd), A1 <+: A' ∧ Same F1 F' ∧ GG X.K U A' F' H' σ' r' m' D' ∧ gsLoopT k xs.length h s j r' m' D' = some o, fun σ' H' w => ⟨j, Nat.lt_succ_self j, by omega, w⟩, fun x H3 hy => ?_⟩
              obtain ⟨eH, hy⟩ := hy
              subst eH
              have ex := hy vs2 (.inl (.inl hH2))
              rw [hw] at ex
              cases ex
              obtain ⟨qt, wt, rfl, hT, hrt⟩ := tupAt_ok G2 hrw e6
              refine ⟨A2, F2, r2, m2, D2, qt, wt, ss, r3, rfl, hT, G2, hrt, e4, fun σ4 G4 _ _ => ⟨A2, F2, r3, m2, D2, o4, G4, e5, ?_⟩⟩
              have past := p.later hA hF
              cases o4 with
              | xc d r5 m5 D5 => cases e2; exact past
              | nx r5 m5 D5 => exact fun A' F' H' σ' ha hf G' => ⟨A', F', r5, m5, D5, hA.trans ha, hF.trans hf, G', e2⟩
              | ct r5 m5 D5 => exact fun A' F' H' σ' ha hf G' => ⟨A', F', r5, m5, D5, hA.trans ha, hF.trans hf, G', e2⟩
              | bk r5 m5 D5 => cases e2; exact fun A' F' H' σ' ha hf G' => (past.later ha hf).nxt G'
              | rt d m5 D5 => cases e2; exact past
            · cases e2
          · cases e2
        | zero =>
          unfold gsLoopT at e2
          split at e2
          · rename_i ys hc2
            split at e2
            · rename_i hl
              cases e2
              obtain ⟨vs2, hH2, hr2⟩ := lstAt G2 hq2 hc2
              exact .inl ⟨⟨vs2, .inl (.inl hH2), by rw [rv_len hr2]; omega⟩, (p.later hA hF).nxt G2⟩
            · cases e2
          · cases e2
      · cases e1
    · cases e1
end
end NG
end
/-! NY3 -/
section
set_option maxHeartbeats 4000000
namespace NG
open PySem PySem.Spec PyProof.Rows L2 TL
/-- a new list, by a test -/
theorem qn_if [TL.Lnk] {X : Cx} {U : Hp} {c a b : Expr} {p : Et} {f g : Ev} {pos : Pos} (hc : PT X c (tT X.K U p)) (ha : PE X a (tN X.K U f)) (hb : PE X b (tN X.K U g)) : PE X (.IfExp c a b pos) (tN X.K U (eIf p f g)) := pe_weak (pe_ifExp hc ha hb) fun σ H Q ⟨A, F, r, m, d, m', G, e, k⟩ => by
  unfold eIf at e
  cases e1 : p r m with
  | none => rw [e1] at e; cases e
  | some z =>
    obtain ⟨b1, m1⟩ := z
    rw [e1] at e
    refine ⟨A, F, r, m, b1, m1, G, e1, fun F1 H1 s1 G1 => ?_⟩
    cases b1 with
    | true =>
      refine iteT ?_
      exact ⟨A, F1, r, m1, d, m', G1, e, fun F2 H2 v u s2 G2 q1 q2 q3 q4 q5 => k F2 H2 v u (s1.trans s2) G2 q1 q2 q3 q4 q5⟩
    | false =>
      refine iteF ?_
      exact ⟨A, F1, r, m1, d, m', G1, e, fun F2 H2 v u s2 G2 q1 q2 q3 q4 q5 => k F2 H2 v u (s1.trans s2) G2 q1 q2 q3 q4 q5⟩
/-- a, b, .. = a list -/
def hLst (g : Ehs) (n : Nat) : Eh := fun d r => match d with | .list ds => if ds.length = n then g ds r else none | _ => none
theorem qg_lst [TL.Lnk] {X : Cx} {U : Hp} {pos : Pos} {es : List Expr} {kk : Nat} {is : List Nat} {g : Ehs} {n : Nat} (hc : X.calm = true) (h : PGs X es (tGs X.K U is g)) (hn : (assignEach es X.env).length = n := by rfl) (hst : (assignEach es X.env).findIdx? (·.1) = none := by rfl) :
    PG X (.Tuple es kk pos) (tG X.K U is (hLst g n)) := pg_weak (pg_unl hc h hn hst) fun v σ H Q ⟨A, F, r, m, d, r', G, h, e, k⟩ => by
  unfold hLst at e
  split at e
  · split at e
    · rename_i hz
      cases h with
      | vl sa ra => exact ⟨_, _, rfl, sqL_mono G.sub sa, (rpa_len ra).trans hz, A, F, r, m, _, r', G, ra, e, k⟩
    · cases e
  · cases e
theorem w_hLst {g : Ehs} {P : Rs → Prop} {ds : List PyData} {n : Nat} {r : Rs} (hl : ds.length = n) (q : W (g ds r) P) : W (hLst g n (.list ds) r) P := by
  unfold hLst
  dsimp only
  rw [if_pos hl]
  exact q
end NG
end
/-! GK74 -/
section
set_option maxHeartbeats 8000000
namespace K74
open PySem L2 TL
def topS (i : Nat) : Stmt := PySem.Challenge.pw_latehall_k74_whole_images_read_back.main.body.getD i (.Pass ⟨0, 0, 0, 0⟩)
/-! ### is_whole -/
abbrev s_is_whole : Stmt := topS 2
theorem sc_is_whole : FnScope ["thing"] ["thing"] (defScope s_is_whole) := ⟨rfl, rfl, rfl, by decide +kernel, rfl, by decide +kernel, by decide +kernel⟩
def b_is_whole : Es := (sRet (eAndV (eMap (eV 0) (isiD "int")) (eMap (eMap (eV 0) (isiD "bool")) notD)))
def m_is_whole : List PyData → Option PyData := runD 0 b_is_whole
theorem ok_is_whole {P : Program} {w : World} {K : PySem.W.Frag} {mg : Str → Option Value} {base : Heap} {f : Addr} {fd : FuncData} (F : Fun K "is_whole" "is_whole" s_is_whole f fd) (n_bool : mg "bool" = none) (n_int : mg "int" = none) (n_isinstance : mg "isinstance" = none) :
    FnG P w K mg base 1 f fd ["thing"] (spD K 1 m_is_whole) :=
  fn_DG F sc_is_whole (by decide) (fun cdv A outer s0 H E U hr gd =>
      show PSs _ _ (tS K U 0 b_is_whole) from
      (qs_one (qs_ret (qe_and (qe_isi (T := "int") (by decide +kernel) (by rfl) n_isinstance (by rfl) n_int (by decide +kernel) (qe_var 0 (pv 0))) (qe_one (qe_not (qe_isi (T := "bool") (by decide +kernel) (by rfl) n_isinstance (by rfl) n_bool (by decide +kernel) (qe_var 0 (pv 0)))))))))
abbrev cBASE : PyData := (.int 36)
abbrev cFIRST_LETTER : PyData := (.int 10)
abbrev cLETTERS : PyData := (.str "abcdefghijklmnopqrstuvwxyz")
/-! ### name_number -/
abbrev s_name_number : Stmt := topS 11
theorem sc_name_number : FnScope ["name", "number", "letter"] ["name"] (defScope s_name_number) := ⟨rfl, rfl, rfl, by decide +kernel, rfl, by decide +kernel, by decide +kernel⟩
def b_name_number : Es := (sSeq (sSet 1 (eC (.int 0)))
    (sSeq (sFor (eIts (eV 0)) (hNm 2) (sSet 1 (eBin addD (eBin addD (eBin mulD (eC cBASE) (eV 1)) (eSm indexD (eC cLETTERS) (eCons (eV 2) eNil))) (eC cFIRST_LETTER))))
    (sRet (eV 1))))
def m_name_number : List PyData → Option PyData := runD 2 b_name_number
theorem ok_name_number {P : Program} {w : World} {K : PySem.W.Frag} {mg : Str → Option Value} {base : Heap} {f : Addr} {fd : FuncData} (F : Fun K "name_number" "name_number" s_name_number f fd) (c_BASE : Glo K mg "BASE" cBASE) (c_FIRST_LETTER : Glo K mg "FIRST_LETTER" cFIRST_LETTER) (c_LETTERS : Glo K mg "LETTERS" cLETTERS) :
    FnG P w K mg base 1 f fd ["name"] (spD K 1 m_name_number) :=
  fn_DG F sc_name_number (by decide) (fun cdv A outer s0 H E U hr gd =>
      show PSs _ _ (tS K U 0 b_name_number) from
      (qs_cons (qs_set sc_name_number.nd (i := 1) rfl (by first | exact Or.inl rfl | exact Or.inr rfl) qe_int)
      (qs_cons (qs_for PySem.PassesOwn.never rfl (qi_its (qe_var 0 (pv 0))) (qg_name sc_name_number.nd (i := 2) rfl (by first | exact Or.inl rfl | exact Or.inr rfl)) (qs_one (qs_set sc_name_number.nd (i := 1) rfl (by first | exact Or.inl rfl | exact Or.inr rfl) (qe_add (qe_add (qe_mul (qc_glo c_BASE) (qe_var 1 (pv 1))) (qe_sm PySem.F.slot_str_index PySem.F.type_str_index mt_sindex md_index (qc_glo c_LETTERS) (qa_cons (qe_var 2 (pv 2)) qa_nil))) (qc_glo c_FIRST_LETTER)))))
      (qs_one (qs_ret (qe_var 1 (pv 1)))))))
/-! ### name_of -/
abbrev s_name_of : Stmt := topS 12
theorem sc_name_of : FnScope ["number", "letters", "worth"] ["number"] (defScope s_name_of) := ⟨rfl, rfl, rfl, by decide +kernel, rfl, by decide +kernel, by decide +kernel⟩
def b_name_of : Es := (sSeq (sIf (eNot (eT blD (eChain leD ltD (eC cFIRST_LETTER) (eV 0) (eBin powD (eC cBASE) (eC (.int 8)))))) (sRet (eC .none)) sNil)
    (sSeq (sNew 1 eNil)
    (sSeq (whileS (eT blD (eBin gtD (eV 0) (eC (.int 0)))) (sSeq (sAsg (eMap (eCons (eV 0) (eCons (eC cBASE) eNil)) divmodD) (hTup (hCons (hNm 0) (hCons (hNm 2) hNil)) 2))
    (sSeq (sIf (eT blD (eBin ltD (eV 2) (eC cFIRST_LETTER))) (sRet (eC .none)) sNil)
    (sApp 1 (eBin ixD (eC cLETTERS) (eBin subD (eV 2) (eC cFIRST_LETTER)))))) 10000)
    (sFrz 1 (sRet (eSm joinD (eC (.str "")) (eCons (eMap (eV 1) revD) eNil)))))))
def m_name_of : List PyData → Option PyData := runD 2 b_name_of
theorem ok_name_of {P : Program} {w : World} {K : PySem.W.Frag} {mg : Str → Option Value} {base : Heap} {f : Addr} {fd : FuncData} (F : Fun K "name_of" "name_of" s_name_of f fd) (n_divmod : mg "divmod" = none) (c_BASE : Glo K mg "BASE" cBASE) (c_FIRST_LETTER : Glo K mg "FIRST_LETTER" cFIRST_LETTER) (c_LETTERS : Glo K mg "LETTERS" cLETTERS) :
    FnG P w K mg base 1 f fd ["number"] (spD K 1 m_name_of) :=
  fn_DG F sc_name_of (by decide) (fun cdv A outer s0 H E U hr gd =>
      show PSs _ _ (tS K U 0 b_name_of) from
      (qs_cons (qs_if (qt_not (qt_chain op_le od_le op_lt od_lt (qc_glo c_FIRST_LETTER) (qe_var 0 (pv 0)) (qe_pow (qc_glo c_BASE) qe_int))) (qs_one (qs_ret qe_non)) qs_nil)
      (qs_cons (qs_new sc_name_of.nd (i := 1) rfl (by first | exact Or.inl rfl | exact Or.inr rfl) qa_nil)
      (qs_cons (qs_while 10000 PySem.PassesOwn.never (qt_cmp op_gt od_gt (qe_var 0 (pv 0)) qe_int (by rfl)) (qs_cons (qs_asg (qe_callB call_divmodW cd_divmod (by rfl) n_divmod (by decide +kernel) (qa_cons (qe_var 0 (pv 0)) (qa_cons (qc_glo c_BASE) qa_nil))) (qg_tup rfl (qgs_cons (qg_name sc_name_of.nd (i := 0) rfl (by first | exact Or.inl rfl | exact Or.inr rfl)) (qgs_cons (qg_name sc_name_of.nd (i := 2) rfl (by first | exact Or.inl rfl | exact Or.inr rfl)) qgs_nil))))
      (qs_cons (qs_if (qt_cmp op_lt od_lt (qe_var 2 (pv 2)) (qc_glo c_FIRST_LETTER) (by rfl)) (qs_one (qs_ret qe_non)) qs_nil)
      (qs_one (qs_app (i := 1) (pv 1) (qe_ix (qc_glo c_LETTERS) (qe_sub (qe_var 2 (pv 2)) (qc_glo c_FIRST_LETTER))))))))
      (qs_frz 1 (qs_one (qs_ret (qe_sm PySem.F.slot_str_join PySem.F.type_str_join mt_join md_join qe_str (qa_cons (qe_rev (qe_var 1 (pv 1))) qa_nil)))))))))
/-! ### filled -/
abbrev s_filled : Stmt := topS 15
theorem sc_filled : FnScope ["image", "base", "addresses", "lies", "numbers", "places", "at", "kind", "k"] ["image", "base", "addresses"] (defScope s_filled) := ⟨rfl, rfl, rfl, by decide +kernel, rfl, by decide +kernel, by decide +kernel⟩
def b_filled : Es := (sSeq (sAsg (eV 0) (hTup (hCons (hNm 4) (hCons (hNm 5) hNil)) 2))
    (sSeq (sSetF 3 (eMap (eCons (eV 4) eNil) listD2))
    (sSeq (sFor (eIts (eV 5)) (hTup (hCons (hNm 6) (hCons (hNm 7) (hCons (hNm 8) hNil))) 3) (sPut 3 (eIf (eT blD (eBin eqX (eV 7) (eC (.str "own")))) (eBin addD (eV 1) (eV 8)) (eBin dixD (eV 2) (eV 8))) (eV 6)))
    (sRetC 0 3))))
def m_filled : List PyData → Option PyData := runN 6 b_filled
theorem ok_filled {P : Program} {w : World} {K : PySem.W.Frag} {mg : Str → Option Value} {base : Heap} {f : Addr} {fd : FuncData} (F : Fun K "filled" "filled" s_filled f fd) (n_list : mg "list" = none) :
    FnG P w K mg base 1 f fd ["image", "base", "addresses"] (spN K 3 m_filled) :=
  fn_NG F sc_filled (by decide) (fun cdv A outer s0 H E U hr gd =>
      show PSs _ _ (tS K U 0 b_filled) from
      (qs_cons (qs_asg (qe_var 0 (pv 0)) (qg_tup rfl (qgs_cons (qg_name sc_filled.nd (i := 4) rfl (by first | exact Or.inl rfl | exact Or.inr rfl)) (qgs_cons (qg_name sc_filled.nd (i := 5) rfl (by first | exact Or.inl rfl | exact Or.inr rfl)) qgs_nil))))
      (qs_cons (qs_setF sc_filled.nd (i := 3) rfl (by first | exact Or.inl rfl | exact Or.inr rfl) (qn_callTy (call_list2 rfl) cn_list2 (by rfl) n_list (by decide +kernel) (qa_cons (qe_var 4 (pv 4)) qa_nil)))
      (qs_cons (qs_for PySem.PassesOwn.never rfl (qi_its (qe_var 5 (pv 5))) (qg_tup rfl (qgs_cons (qg_name sc_filled.nd (i := 6) rfl (by first | exact Or.inl rfl | exact Or.inr rfl)) (qgs_cons (qg_name sc_filled.nd (i := 7) rfl (by first | exact Or.inl rfl | exact Or.inr rfl)) (qgs_cons (qg_name sc_filled.nd (i := 8) rfl (by first | exact Or.inl rfl | exact Or.inr rfl)) qgs_nil)))) (qs_one (qs_put (i := 3) (pv 3) (qe_if (qt_cmp (op_eqX hr.units) od_eqX (qe_var 7 (pv 7)) qe_str (by rfl)) (qe_add (qe_var 1 (pv 1)) (qe_var 8 (pv 8))) (qe_dIx (room1 hr) (qe_var 2 (pv 2)) (qe_var 8 (pv 8)))) (qe_var 6 (pv 6)) (fun ho hi => pg_sub ho hi set_list))))
      (qs_one (qs_retC 3 (pv 3)))))))
abbrev cSTEP : PyData := (.int 3)
/-! ### _places_of_stubs -/
abbrev s__places_of_stubs : Stmt := topS 17
theorem sc__places_of_stubs : FnScope ["library", "at", "deeds", "use", "row", "number", "give"] ["library"] (defScope s__places_of_stubs) := ⟨rfl, rfl, rfl, by decide +kernel, rfl, by decide +kernel, by decide +kernel⟩
def b__places_of_stubs : Es := (sSeq (sSet 1 (eBin addD (eMap (eCons (eBin ixD (eV 0) (eC (.int 3))) eNil) lenD) (eMap (eCons (eLc (eIts (eBin ixD (eV 0) (eC (.int 2)))) [6] (hNm 6) (eT truD (eMap (eCons (eBin ixD (eV 6) (eC (.int 4))) eNil) (arN 1 m_is_whole))) (eV 6)) eNil) lenD)))
    (sSeq (sSet 2 (eLc (eEnumA (eBin ixD (eV 0) (eC (.int 3)))) [3, 4] (hTup (hCons (hNm 3) (hCons (hNm 4) hNil)) 2) (eNot (eT truD (eBin ixD (eV 4) (eC (.int 2))))) (eV 3)))
    (sRet (eDc (eEnumA (eV 2)) [5, 3] (hTup (hCons (hNm 5) (hCons (hNm 3) hNil)) 2) eYes (eV 3) (eBin addD (eV 1) (eBin mulD (eC cSTEP) (eV 5)))))))
def m__places_of_stubs : List PyData → Option PyData := runD 6 b__places_of_stubs
theorem ok__places_of_stubs {P : Program} {w : World} {K : PySem.W.Frag} {mg : Str → Option Value} {base : Heap} {f : Addr} {fd : FuncData} (F : Fun K "_places_of_stubs" "_places_of_stubs" s__places_of_stubs f fd) (n_enumerate : mg "enumerate" = none) (n_len : mg "len" = none) (c_STEP : Glo K mg "STEP" cSTEP) (C_is_whole : CalG P w K mg base "is_whole" 1 ["thing"] (spD K 1 m_is_whole)) :
    FnG P w K mg base 2 f fd ["library"] (spD K 1 m__places_of_stubs) :=
  fn_DG F sc__places_of_stubs (by decide) (fun cdv A outer s0 H E U hr gd =>
      show PSs _ _ (tS K U 0 b__places_of_stubs) from
      (qs_cons (qs_set sc__places_of_stubs.nd (i := 1) rfl (by first | exact Or.inl rfl | exact Or.inr rfl) (qe_add (qe_callB call_len cd_len (by rfl) n_len (by decide +kernel) (qa_cons (qe_ix (qe_var 0 (pv 0)) qe_int) qa_nil)) (qe_callB call_len cd_len (by rfl) n_len (by decide +kernel) (qa_cons (qe_lc (own := [("give", 6)]) rfl sc__places_of_stubs.nd (qi_its (qe_ix (qe_var 0 (pv 0)) qe_int)) (blkOk_by (own := [("give", 6)]) (N := ["library", "at", "deeds", "use", "row", "number", "give"]) (sc := defScope s__places_of_stubs) (by decide +kernel)) (by decide) (fun _ _ _ _ _ _ => (qg_name sc__places_of_stubs.nd (i := 6) rfl (by first | exact Or.inl rfl | exact Or.inr rfl))) (fun _ _ _ _ _ _ => (qts_one (qt_tru (qc_callG C_is_whole hr gd (by decide) (qa_cons (qe_ix (qe_var 6 (pv 6)) qe_int) qa_nil))))) (fun _ _ _ _ _ _ => (qe_var 6 (pv 6)))) qa_nil))))
      (qs_cons (qs_setLc (i := 2) (own := [("use", 3), ("row", 4)]) rfl sc__places_of_stubs.nd rfl rfl (sw_true rfl rfl rfl (by decide +kernel)) (qi_f (qi_enumA (by rfl) n_enumerate (qe_ix (qe_var 0 (pv 0)) qe_int))) (blkOk_by (own := [("use", 3), ("row", 4)]) (N := ["library", "at", "deeds", "use", "row", "number", "give"]) (sc := defScope s__places_of_stubs) (by decide +kernel)) (by decide) (fun _ _ _ _ _ _ => (qg_tup rfl (qgs_cons (qg_name sc__places_of_stubs.nd (i := 3) rfl (by first | exact Or.inl rfl | exact Or.inr rfl)) (qgs_cons (qg_name sc__places_of_stubs.nd (i := 4) rfl (by first | exact Or.inl rfl | exact Or.inr rfl)) qgs_nil)))) (fun _ _ _ _ _ _ => (qts_one (qt_not (qt_tru (qe_ix (qe_var 4 (pv 4)) qe_int))))) (fun _ _ _ _ _ _ => (qe_var 3 (pv 3)))).1
      (qs_one (qs_ret (qe_new (qn_dc (own := [("number", 5), ("use", 3)]) rfl sc__places_of_stubs.nd (qi_f (qi_enumA (by rfl) n_enumerate (qe_var 2 (pv 2)))) (blkOk_by (own := [("number", 5), ("use", 3)]) (N := ["library", "at", "deeds", "use", "row", "number", "give"]) (sc := defScope s__places_of_stubs) (by decide +kernel)) (by decide) (fun _ _ _ _ _ _ => (qg_tup rfl (qgs_cons (qg_name sc__places_of_stubs.nd (i := 5) rfl (by first | exact Or.inl rfl | exact Or.inr rfl)) (qgs_cons (qg_name sc__places_of_stubs.nd (i := 3) rfl (by first | exact Or.inl rfl | exact Or.inr rfl)) qgs_nil)))) (fun _ _ _ _ _ _ => qts_nil) (fun _ _ _ _ _ _ => (qe_var 3 (pv 3))) (fun _ _ _ _ _ _ => (qe_add (qe_var 1 (pv 1)) (qe_mul (qc_glo c_STEP) (qe_var 5 (pv 5))))))))))))
/-! ### _all_rows -/
abbrev s__all_rows : Stmt := topS 18
theorem sc__all_rows : FnScope ["library", "give"] ["library"] (defScope s__all_rows) := ⟨rfl, rfl, rfl, by decide +kernel, rfl, by decide +kernel, by decide +kernel⟩
def b__all_rows : Es := (sRet (eLst (eStar (eLc (eIts (eBin ixD (eV 0) (eC (.int 2)))) [1] (hNm 1) (eNot (eT truD (eMap (eCons (eBin ixD (eV 1) (eC (.int 4))) eNil) (arN 1 m_is_whole)))) (eBin ixD (eV 1) (eC (.int 4)))) (eCons (eBin ixD (eV 0) (eC (.int 4))) (eCons (eBin ixD (eV 0) (eC (.int 5))) eNil)))))
def m__all_rows : List PyData → Option PyData := runD 1 b__all_rows
theorem ok__all_rows {P : Program} {w : World} {K : PySem.W.Frag} {mg : Str → Option Value} {base : Heap} {f : Addr} {fd : FuncData} (F : Fun K "_all_rows" "_all_rows" s__all_rows f fd) (C_is_whole : CalG P w K mg base "is_whole" 1 ["thing"] (spD K 1 m_is_whole)) :
    FnG P w K mg base 2 f fd ["library"] (spD K 1 m__all_rows) :=
  fn_DG F sc__all_rows (by decide) (fun cdv A outer s0 H E U hr gd =>
      show PSs _ _ (tS K U 0 b__all_rows) from
      (qs_one (qs_ret (qe_lst (qa_star (qe_lc (own := [("give", 1)]) rfl sc__all_rows.nd (qi_its (qe_ix (qe_var 0 (pv 0)) qe_int)) (blkOk_by (own := [("give", 1)]) (N := ["library", "give"]) (sc := defScope s__all_rows) (by decide +kernel)) (by decide) (fun _ _ _ _ _ _ => (qg_name sc__all_rows.nd (i := 1) rfl (by first | exact Or.inl rfl | exact Or.inr rfl))) (fun _ _ _ _ _ _ => (qts_one (qt_not (qt_tru (qc_callG C_is_whole hr gd (by decide) (qa_cons (qe_ix (qe_var 1 (pv 1)) qe_int) qa_nil)))))) (fun _ _ _ _ _ _ => (qe_ix (qe_var 1 (pv 1)) qe_int))) (qa_cons (qe_ix (qe_var 0 (pv 0)) qe_int) (qa_cons (qe_ix (qe_var 0 (pv 0)) qe_int) qa_nil)))))))
abbrev cWORDS : PyData := (.tuple [(.str "end"), (.str "tell"), (.str "show"), (.str "put"), (.str "add"), (.str "call"), (.str "bring"), (.str "share"), (.str "drop"), (.str "ask"), (.str "stub"), (.str "skip")])
/-! ### _laid_row -/
abbrev s__laid_row : Stmt := topS 19
theorem sc__laid_row : FnScope ["row", "parts", "part"] ["row"] (defScope s__laid_row) := ⟨rfl, rfl, rfl, by decide +kernel, rfl, by decide +kernel, by decide +kernel⟩
def b__laid_row : Es := (sSeq (sSet 1 (eLc (eIts (eSl (eV 0) (ePt (eC (.int 1))) eNo)) [2] (hNm 2) eYes (eIf (eT truD (eMap (eV 2) (isiD "str"))) (eMap (eCons (eV 2) eNil) (arN 1 m_name_number)) (eV 2))))
    (sRetF (TX.eSlL (eLst (eCons (eMap (eCons (eBin ixD (eV 0) (eC (.int 0))) eNil) (TX.idxG ["end", "tell", "show", "put", "add", "call", "bring", "share", "drop", "ask", "stub", "skip"])) (eStar (eV 1) (eCons (eC (.int 0)) eNil)))) eNo (ePt (eC cSTEP)))))
def m__laid_row : List PyData → Option PyData := runN 2 b__laid_row
theorem ok__laid_row {P : Program} {w : World} {K : PySem.W.Frag} {mg : Str → Option Value} {base : Heap} {f : Addr} {fd : FuncData} (F : Fun K "_laid_row" "_laid_row" s__laid_row f fd) (n_isinstance : mg "isinstance" = none) (n_str : mg "str" = none) (c_STEP : Glo K mg "STEP" cSTEP) (c_WORDS : Glo K mg "WORDS" cWORDS) (d_WORDS : TX.GloD K mg "WORDS") (C_name_number : CalG P w K mg base "name_number" 1 ["name"] (spD K 1 m_name_number)) :
    FnG P w K mg base 2 f fd ["row"] (spN K 1 m__laid_row) :=
  fn_NG F sc__laid_row (by decide) (fun cdv A outer s0 H E U hr gd =>
      show PSs _ _ (tS K U 0 b__laid_row) from
      (qs_cons (qs_setLc (i := 1) (own := [("part", 2)]) rfl sc__laid_row.nd rfl rfl (sw_true rfl rfl rfl (by decide +kernel)) (qi_its (qe_slice (qe_var 0 (pv 0)) (qo_some qe_int) qo_none)) (blkOk_by (own := [("part", 2)]) (N := ["row", "parts", "part"]) (sc := defScope s__laid_row) (by decide +kernel)) (by decide) (fun _ _ _ _ _ _ => (qg_name sc__laid_row.nd (i := 2) rfl (by first | exact Or.inl rfl | exact Or.inr rfl))) (fun _ _ _ _ _ _ => qts_nil) (fun _ _ _ _ _ _ => (qe_if (qt_tru (qe_isi (T := "str") (by decide +kernel) (by rfl) n_isinstance (by rfl) n_str (by decide +kernel) (qe_var 2 (pv 2)))) (qc_callG C_name_number hr gd (by decide) (qa_cons (qe_var 2 (pv 2)) qa_nil)) (qe_var 2 (pv 2))))).1
      (qs_one (qs_retF (TX.qn_slc (qe_lst (qa_cons (TX.qe_idxG (ys := ["end", "tell", "show", "put", "add", "call", "bring", "share", "drop", "ask", "stub", "skip"]) c_WORDS d_WORDS rfl (qa_cons (qe_ix (qe_var 0 (pv 0)) qe_int) qa_nil)) (qa_star (qe_var 1 (pv 1)) (qa_cons qe_int qa_nil)))) qo_none (qo_some (qc_glo c_STEP)))))))
/-! ### _law_feed -/
abbrev s__law_feed : Stmt := topS 21
theorem sc__law_feed : FnScope ["script", "k", "seed", "digits"] ["script", "k"] (defScope s__law_feed) := ⟨rfl, rfl, rfl, by decide +kernel, rfl, by decide +kernel, by decide +kernel⟩
def b__law_feed : Es := (sSeq (sSet 2 (eBin addD (eBin mulD (eC (.int 67)) (eV 1)) (eC (.int 19))))
    (sSeq (sIf (eT blD (eBin ltD (eV 1) (eMap (eCons (eV 0) eNil) lenD))) (sSet 2 (eBin ixD (eV 0) (eV 1))) sNil)
    (sSeq (sSet 3 (eC (.int 0)))
    (sSeq (sIf (eT blD (eBin geD (eMap (eCons (eV 2) eNil) absD) (eBin powD (eC (.int 10)) (eC (.int 18))))) (sSet 3 (eBin subD (eMap (eCons (eV 2) eNil) absD) (eBin powD (eC (.int 10)) (eC (.int 18))))) sNil)
    (sRetL (eCons (eV 3) (eCons (eBin modD (eBin addD (eBin addD (eBin mulD (eV 2) (eC (.int 6364136223846793005))) (eBin mulD (eC (.int 7919)) (eV 1))) (eC (.int 1442695040888963407))) (eC (.int 2305843009213693951))) eNil)))))))
def m__law_feed : List PyData → Option PyData := runN 2 b__law_feed
theorem ok__law_feed {P : Program} {w : World} {K : PySem.W.Frag} {mg : Str → Option Value} {base : Heap} {f : Addr} {fd : FuncData} (F : Fun K "_law_feed" "_law_feed" s__law_feed f fd) (n_abs : mg "abs" = none) (n_len : mg "len" = none) :
    FnG P w K mg base 1 f fd ["script", "k"] (spN K 2 m__law_feed) :=
  fn_NG F sc__law_feed (by decide) (fun cdv A outer s0 H E U hr gd =>
      show PSs _ _ (tS K U 0 b__law_feed) from
      (qs_cons (qs_set sc__law_feed.nd (i := 2) rfl (by first | exact Or.inl rfl | exact Or.inr rfl) (qe_add (qe_mul qe_int (qe_var 1 (pv 1))) qe_int))
      (qs_cons (qs_if (qt_cmp op_lt od_lt (qe_var 1 (pv 1)) (qe_callB call_len cd_len (by rfl) n_len (by decide +kernel) (qa_cons (qe_var 0 (pv 0)) qa_nil)) (by rfl)) (qs_one (qs_set sc__law_feed.nd (i := 2) rfl (by first | exact Or.inl rfl | exact Or.inr rfl) (qe_ix (qe_var 0 (pv 0)) (qe_var 1 (pv 1))))) qs_nil)
      (qs_cons (qs_set sc__law_feed.nd (i := 3) rfl (by first | exact Or.inl rfl | exact Or.inr rfl) qe_int)
      (qs_cons (qs_if (qt_cmp op_ge od_ge (qe_callB call_abs cd_abs (by rfl) n_abs (by decide +kernel) (qa_cons (qe_var 2 (pv 2)) qa_nil)) (qe_pow qe_int qe_int) (by rfl)) (qs_one (qs_set sc__law_feed.nd (i := 3) rfl (by first | exact Or.inl rfl | exact Or.inr rfl) (qe_sub (qe_callB call_abs cd_abs (by rfl) n_abs (by decide +kernel) (qa_cons (qe_var 2 (pv 2)) qa_nil)) (qe_pow qe_int qe_int)))) qs_nil)
      (qs_one (qs_retL (qa_cons (qe_var 3 (pv 3)) (qa_cons (qe_mod (qe_add (qe_add (qe_mul (qe_var 2 (pv 2)) qe_int) (qe_mul qe_int (qe_var 1 (pv 1)))) qe_int) qe_int) qa_nil)))))))))
/-! ### _law_take -/
abbrev s__law_take : Stmt := topS 22
theorem sc__law_take : FnScope ["feed", "many", "found"] ["feed", "many"] (defScope s__law_take) := ⟨rfl, rfl, rfl, by decide +kernel, rfl, by decide +kernel, by decide +kernel⟩
def b__law_take : Es := (sSeq (sIf (eT blD (eBin gtD (eIxO 0 (eC (.int 0))) (eC (.int 0)))) (sSeq (sSet 2 (eBin modD (eIxO 0 (eC (.int 0))) (eV 1)))
    (sSeq (sPut 0 (eBin fdivD (eIxO 0 (eC (.int 0))) (eV 1)) (eC (.int 0)))
    (sRet (eV 2)))) sNil)
    (sSeq (sPut 0 (eBin modD (eBin addD (eBin mulD (eIxO 0 (eC (.int 1))) (eC (.int 48271))) (eC (.int 12345))) (eC (.int 2305843009213693951))) (eC (.int 1)))
    (sRet (eBin modD (eBin fdivD (eIxO 0 (eC (.int 1))) (eC (.int 2097152))) (eV 1)))))
def m__law_take : PyData → List PyData → Option (PyData × PyData) := runR 1 b__law_take
theorem ok__law_take {P : Program} {w : World} {K : PySem.W.Frag} {mg : Str → Option Value} {base : Heap} {f : Addr} {fd : FuncData} (F : Fun K "_law_take" "_law_take" s__law_take f fd) :
    FnG P w K mg base 1 f fd ["feed", "many"] (spR K 1 m__law_take) :=
  fn_RG F sc__law_take (by decide) (fun cdv A outer s0 H E U hr gd =>
      show PSs _ _ (tS K U 1 b__law_take) from
      (qs_cons (qs_if (qt_cmp op_gt od_gt (qe_ixO 0 (pv 0) qe_int) qe_int (by rfl)) (qs_cons (qs_set sc__law_take.nd (i := 2) rfl (by first | exact Or.inl rfl | exact Or.inr rfl) (qe_mod (qe_ixO 0 (pv 0) qe_int) (qe_var 1 (pv 1))))
      (qs_cons (qs_put (i := 0) (pv 0) (qe_fdiv (qe_ixO 0 (pv 0) qe_int) (qe_var 1 (pv 1))) qe_int (fun ho hi => pg_sub ho hi set_list))
      (qs_one (qs_ret (qe_var 2 (pv 2)))))) qs_nil)
      (qs_cons (qs_put (i := 0) (pv 0) (qe_mod (qe_add (qe_mul (qe_ixO 0 (pv 0) qe_int) qe_int) qe_int) qe_int) qe_int (fun ho hi => pg_sub ho hi set_list))
      (qs_one (qs_ret (qe_mod (qe_fdiv (qe_ixO 0 (pv 0) qe_int) qe_int) (qe_var 1 (pv 1))))))))
/-! ### _law_pick -/
abbrev s__law_pick : Stmt := topS 23
theorem sc__law_pick : FnScope ["feed", "some"] ["feed", "some"] (defScope s__law_pick) := ⟨rfl, rfl, rfl, by decide +kernel, rfl, by decide +kernel, by decide +kernel⟩
def b__law_pick : Es := (sRet (eBin ixD (eV 1) (eCallR 1 0 m__law_take (eCons (eMap (eCons (eV 1) eNil) lenD) eNil))))
def m__law_pick : PyData → List PyData → Option (PyData × PyData) := runR 0 b__law_pick
theorem ok__law_pick {P : Program} {w : World} {K : PySem.W.Frag} {mg : Str → Option Value} {base : Heap} {f : Addr} {fd : FuncData} (F : Fun K "_law_pick" "_law_pick" s__law_pick f fd) (n_len : mg "len" = none) (C__law_take : CalG P w K mg base "_law_take" 1 ["feed", "many"] (spR K 1 m__law_take)) :
    FnG P w K mg base 2 f fd ["feed", "some"] (spR K 1 m__law_pick) :=
  fn_RG F sc__law_pick (by decide) (fun cdv A outer s0 H E U hr gd =>
      show PSs _ _ (tS K U 1 b__law_pick) from
      (qs_one (qs_ret (qe_ix (qe_var 1 (pv 1)) (qc_callRG 0 C__law_take hr gd (by decide) (pv 0) (qa_cons (qe_callB call_len cd_len (by rfl) n_len (by decide +kernel) (qa_cons (qe_var 1 (pv 1)) qa_nil)) qa_nil))))))
/-! ### _law_whole -/
abbrev s__law_whole : Stmt := topS 24
theorem sc__law_whole : FnScope ["found"] ["found"] (defScope s__law_whole) := ⟨rfl, rfl, rfl, by decide +kernel, rfl, by decide +kernel, by decide +kernel⟩
def b__law_whole : Es := (sRet (eAndV (eMap (eV 0) (isiD "int")) (eMap (eMap (eV 0) (isiD "bool")) notD)))
def m__law_whole : List PyData → Option PyData := runD 0 b__law_whole
theorem ok__law_whole {P : Program} {w : World} {K : PySem.W.Frag} {mg : Str → Option Value} {base : Heap} {f : Addr} {fd : FuncData} (F : Fun K "_law_whole" "_law_whole" s__law_whole f fd) (n_bool : mg "bool" = none) (n_int : mg "int" = none) (n_isinstance : mg "isinstance" = none) :
    FnG P w K mg base 1 f fd ["found"] (spD K 1 m__law_whole) :=
  fn_DG F sc__law_whole (by decide) (fun cdv A outer s0 H E U hr gd =>
      show PSs _ _ (tS K U 0 b__law_whole) from
      (qs_one (qs_ret (qe_and (qe_isi (T := "int") (by decide +kernel) (by rfl) n_isinstance (by rfl) n_int (by decide +kernel) (qe_var 0 (pv 0))) (qe_one (qe_not (qe_isi (T := "bool") (by decide +kernel) (by rfl) n_isinstance (by rfl) n_bool (by decide +kernel) (qe_var 0 (pv 0)))))))))
/-! ### _law_unlike -/
abbrev s__law_unlike : Stmt := topS 25
theorem sc__law_unlike : FnScope ["feed", "many", "letters", "filler", "signs", "first", "place", "stride", "k", "sign"] ["feed", "many"] (defScope s__law_unlike) := ⟨rfl, rfl, rfl, by decide +kernel, rfl, by decide +kernel, by decide +kernel⟩
def b__law_unlike : Es := (sSeq (sSet 2 (eC (.str "abcdefghijklmnopqrstuvwxyz")))
    (sSeq (sRepl 3 4 2 "abcefghijklmnopqrstuvwxyz" (eCallR 1 0 m__law_take (eCons (eC (.int 25)) eNil)))
    (sSeq (sSet 5 (eCallR 1 0 m__law_take (eCons (eC (.int 25)) eNil)))
    (sSeq (sSet 6 (eCallR 1 0 m__law_take (eCons (eC (.int 8)) eNil)))
    (sSeq (sSet 7 (eBin ixD (eLst (eCons (eC (.int 1)) (eCons (eC (.int 2)) (eCons (eC (.int 3)) (eCons (eC (.int 4)) (eCons (eC (.int 6)) (eCons (eC (.int 7)) eNil))))))) (eCallR 1 0 m__law_take (eCons (eC (.int 6)) eNil))))
    (sSeq (sSet 4 (eLc (eRg1 (eCons (eV 1) eNil)) [8] (hNm 8) eYes (eBin ixD (eV 4) (eBin modD (eBin addD (eV 5) (eBin mulD (eV 7) (eV 8))) (eC (.int 25))))))
    (sRet (eLc (eIts (eV 4)) [9] (hNm 9) eYes (eBin addD (eBin addD (eBin mulD (eV 3) (eV 6)) (eV 9)) (eBin mulD (eV 3) (eCallR 1 0 m__law_take (eCons (eBin subD (eC (.int 8)) (eV 6)) eNil))))))))))))
def m__law_unlike : PyData → List PyData → Option (PyData × PyData) := runR 8 b__law_unlike
theorem ok__law_unlike {P : Program} {w : World} {K : PySem.W.Frag} {mg : Str → Option Value} {base : Heap} {f : Addr} {fd : FuncData} (F : Fun K "_law_unlike" "_law_unlike" s__law_unlike f fd) (n_range : mg "range" = none) (C__law_take : CalG P w K mg base "_law_take" 1 ["feed", "many"] (spR K 1 m__law_take)) :
    FnG P w K mg base 2 f fd ["feed", "many"] (spR K 1 m__law_unlike) :=
  fn_RG F sc__law_unlike (by decide) (fun cdv A outer s0 H E U hr gd =>
      show PSs _ _ (tS K U 1 b__law_unlike) from
      (qs_cons (qs_set sc__law_unlike.nd (i := 2) rfl (by first | exact Or.inl rfl | exact Or.inr rfl) qe_str)
      (qs_repl (iy := 3) (iz := 4) (ik := 2) sc__law_unlike.nd rfl (by first | exact Or.inl rfl | exact Or.inr rfl) rfl (by first | exact Or.inl rfl | exact Or.inr rfl) rfl (by first | exact Or.inl rfl | exact Or.inr rfl) (qc_callRG 0 C__law_take hr gd (by decide) (pv 0) (qa_cons qe_int qa_nil))
      (qs_cons (qs_set sc__law_unlike.nd (i := 5) rfl (by first | exact Or.inl rfl | exact Or.inr rfl) (qc_callRG 0 C__law_take hr gd (by decide) (pv 0) (qa_cons qe_int qa_nil)))
      (qs_cons (qs_set sc__law_unlike.nd (i := 6) rfl (by first | exact Or.inl rfl | exact Or.inr rfl) (qc_callRG 0 C__law_take hr gd (by decide) (pv 0) (qa_cons qe_int qa_nil)))
      (qs_cons (qs_set sc__law_unlike.nd (i := 7) rfl (by first | exact Or.inl rfl | exact Or.inr rfl) (qe_ix (qe_lst (qa_cons qe_int (qa_cons qe_int (qa_cons qe_int (qa_cons qe_int (qa_cons qe_int (qa_cons qe_int qa_nil))))))) (qc_callRG 0 C__law_take hr gd (by decide) (pv 0) (qa_cons qe_int qa_nil))))
      (qs_cons (qs_set sc__law_unlike.nd (i := 4) rfl (by first | exact Or.inl rfl | exact Or.inr rfl) (qe_lc (own := [("k", 8)]) rfl sc__law_unlike.nd (qi_range1 (by rfl) n_range (qa_cons (qe_var 1 (pv 1)) qa_nil)) (blkOk_by (own := [("k", 8)]) (N := ["feed", "many", "letters", "filler", "signs", "first", "place", "stride", "k", "sign"]) (sc := defScope s__law_unlike) (by decide +kernel)) (by decide) (fun _ _ _ _ _ _ => (qg_name sc__law_unlike.nd (i := 8) rfl (by first | exact Or.inl rfl | exact Or.inr rfl))) (fun _ _ _ _ _ _ => qts_nil) (fun _ _ _ _ _ _ => (qe_ix (qe_var 4 (pv 4)) (qe_mod (qe_add (qe_var 5 (pv 5)) (qe_mul (qe_var 7 (pv 7)) (qe_var 8 (pv 8)))) qe_int)))))
      (qs_one (qs_ret (qe_lc (own := [("sign", 9)]) rfl sc__law_unlike.nd (qi_its (qe_var 4 (pv 4))) (blkOk_by (own := [("sign", 9)]) (N := ["feed", "many", "letters", "filler", "signs", "first", "place", "stride", "k", "sign"]) (sc := defScope s__law_unlike) (by decide +kernel)) (by decide) (fun _ _ _ _ _ _ => (qg_name sc__law_unlike.nd (i := 9) rfl (by first | exact Or.inl rfl | exact Or.inr rfl))) (fun _ _ _ _ _ _ => qts_nil) (fun _ _ _ _ _ _ => (qe_add (qe_add (qe_mul (qe_var 3 (pv 3)) (qe_var 6 (pv 6))) (qe_var 9 (pv 9))) (qe_mul (qe_var 3 (pv 3)) (qc_callRG 0 C__law_take hr gd (by decide) (pv 0) (qa_cons (qe_sub qe_int (qe_var 6 (pv 6))) qa_nil)))))))))))) (by first | exact Or.inl rfl | exact Or.inr rfl) (by first | exact Or.inl rfl | exact Or.inr rfl))))
/-! ### _law_number -/
abbrev s__law_number : Stmt := topS 26
theorem sc__law_number : FnScope ["feed"] ["feed"] (defScope s__law_number) := ⟨rfl, rfl, rfl, by decide +kernel, rfl, by decide +kernel, by decide +kernel⟩
def b__law_number : Es := (sRet (eCallR 1 0 m__law_pick (eCons (eLst (eCons (eC (.int 0)) (eCons (eC (.int 1)) (eCons (eMap (eC (.int 1)) negD) (eCons (eCallR 1 0 m__law_take (eCons (eC (.int 100)) eNil)) (eCons (eBin subD (eBin mulD (eC (.int 5)) (eBin powD (eC (.int 10)) (eC (.int 8)))) (eCallR 1 0 m__law_take (eCons (eBin powD (eC (.int 10)) (eC (.int 9))) eNil))) eNil)))))) eNil)))
def m__law_number : PyData → List PyData → Option (PyData × PyData) := runR 0 b__law_number
theorem ok__law_number {P : Program} {w : World} {K : PySem.W.Frag} {mg : Str → Option Value} {base : Heap} {f : Addr} {fd : FuncData} (F : Fun K "_law_number" "_law_number" s__law_number f fd) (C__law_pick : CalG P w K mg base "_law_pick" 2 ["feed", "some"] (spR K 1 m__law_pick)) (C__law_take : CalG P w K mg base "_law_take" 1 ["feed", "many"] (spR K 1 m__law_take)) :
    FnG P w K mg base 3 f fd ["feed"] (spR K 0 m__law_number) :=
  fn_RG F sc__law_number (by decide) (fun cdv A outer s0 H E U hr gd =>
      show PSs _ _ (tS K U 1 b__law_number) from
      (qs_one (qs_ret (qc_callRG 0 C__law_pick hr gd (by decide) (pv 0) (qa_cons (qe_lst (qa_cons qe_int (qa_cons qe_int (qa_cons (qe_neg qe_int) (qa_cons (qc_callRG 0 C__law_take hr gd (by decide) (pv 0) (qa_cons qe_int qa_nil)) (qa_cons (qe_sub (qe_mul qe_int (qe_pow qe_int qe_int)) (qc_callRG 0 C__law_take hr gd (by decide) (pv 0) (qa_cons (qe_pow qe_int qe_int) qa_nil))) qa_nil)))))) qa_nil)))))
/-! ### _law_rows_drawn -/
abbrev s__law_rows_drawn : Stmt := topS 27
theorem sc__law_rows_drawn : FnScope ["feed", "names", "words", "uses", "some", "k", "many", "other", "turn"] ["feed", "names", "words", "uses"] (defScope s__law_rows_drawn) := ⟨rfl, rfl, rfl, by decide +kernel, rfl, by decide +kernel, by decide +kernel⟩
def b__law_rows_drawn : Es := (sSeq (sSet 4 (eLst (eCons (eTup (eCons (eC (.str "tell")) (eCons (eCallR 0 0 m__law_number eNil) eNil))) (eCons (eTup (eCons (eC (.str "drop")) (eCons (eCallR 1 0 m__law_pick (eCons (eV 1) eNil)) eNil))) (eCons (eTup (eCons (eC (.str "bring")) (eCons (eCallR 1 0 m__law_pick (eCons (eV 1) eNil)) eNil))) eNil)))))
    (sSeq (sSet 4 (eBin addD (eV 4) (eLst (eCons (eTup (eCons (eC (.str "share")) (eCons (eCallR 1 0 m__law_pick (eCons (eV 1) eNil)) eNil))) (eCons (eTup (eCons (eC (.str "ask")) (eCons (eCallR 1 0 m__law_pick (eCons (eV 1) eNil)) (eCons (eCallR 1 0 m__law_pick (eCons (eV 2) eNil)) eNil)))) eNil)))))
    (sSeq (sFor (eRg1 (eCons (eMap (eCons (eV 3) eNil) lenD) eNil)) (hNm 5) (sSeq (sNew 7 (eCons (eTup (eCons (eC (.str "call")) (eCons (eV 5) eNil))) eNil))
    (sSeq (sIf (eT truD (eBin ixD (eBin ixD (eV 3) (eV 5)) (eC (.int 2)))) (sSeq (sNew 7 (eCons (eTup (eCons (eC (.str "show")) (eCons (eV 5) eNil))) (eCons (eTup (eCons (eC (.str "skip")) (eCons (eV 5) eNil))) (eCons (eTup (eCons (eC (.str "put")) (eCons (eV 5) (eCons (eCallR 0 0 m__law_number eNil) eNil)))) eNil))))
    (sApp 7 (eTup (eCons (eC (.str "add")) (eCons (eV 5) (eCons (eCallR 0 0 m__law_number eNil) eNil)))))) sNil)
    (sFrz 7 (sSet 4 (eBin addD (eV 4) (eV 7)))))))
    (sSeq (sSet 6 (eCallR 1 0 m__law_pick (eCons (eLst (eCons (eCallR 1 0 m__law_take (eCons (eC (.int 4)) eNil)) (eCons (eC (.int 1)) (eCons (eCallR 1 0 m__law_take (eCons (eC (.int 3)) eNil)) (eCons (eCallR 1 0 m__law_take (eCons (eC (.int 9)) eNil)) eNil))))) eNil)))
    (sRet (eMap (eCons (eLc (eRg1 (eCons (eV 6) eNil)) [8] (hNm 8) eYes (eCallR 1 0 m__law_pick (eCons (eV 4) eNil))) eNil) tupleD))))))
def m__law_rows_drawn : PyData → List PyData → Option (PyData × PyData) := runR 5 b__law_rows_drawn
theorem ok__law_rows_drawn {P : Program} {w : World} {K : PySem.W.Frag} {mg : Str → Option Value} {base : Heap} {f : Addr} {fd : FuncData} (F : Fun K "_law_rows_drawn" "_law_rows_drawn" s__law_rows_drawn f fd) (n_len : mg "len" = none) (n_range : mg "range" = none) (n_tuple : mg "tuple" = none) (C__law_number : CalG P w K mg base "_law_number" 3 ["feed"] (spR K 0 m__law_number)) (C__law_pick : CalG P w K mg base "_law_pick" 2 ["feed", "some"] (spR K 1 m__law_pick)) (C__law_take : CalG P w K mg base "_law_take" 1 ["feed", "many"] (spR K 1 m__law_take)) :
    FnG P w K mg base 4 f fd ["feed", "names", "words", "uses"] (spR K 3 m__law_rows_drawn) :=
  fn_RG F sc__law_rows_drawn (by decide) (fun cdv A outer s0 H E U hr gd =>
      show PSs _ _ (tS K U 1 b__law_rows_drawn) from
      (qs_cons (qs_set sc__law_rows_drawn.nd (i := 4) rfl (by first | exact Or.inl rfl | exact Or.inr rfl) (qe_lst (qa_cons (qe_tup (qa_cons qe_str (qa_cons (qc_callRG 0 C__law_number hr gd (by decide) (pv 0) qa_nil) qa_nil))) (qa_cons (qe_tup (qa_cons qe_str (qa_cons (qc_callRG 0 C__law_pick hr gd (by decide) (pv 0) (qa_cons (qe_var 1 (pv 1)) qa_nil)) qa_nil))) (qa_cons (qe_tup (qa_cons qe_str (qa_cons (qc_callRG 0 C__law_pick hr gd (by decide) (pv 0) (qa_cons (qe_var 1 (pv 1)) qa_nil)) qa_nil))) qa_nil)))))
      (qs_cons (qs_set sc__law_rows_drawn.nd (i := 4) rfl (by first | exact Or.inl rfl | exact Or.inr rfl) (qe_add (qe_var 4 (pv 4)) (qe_lst (qa_cons (qe_tup (qa_cons qe_str (qa_cons (qc_callRG 0 C__law_pick hr gd (by decide) (pv 0) (qa_cons (qe_var 1 (pv 1)) qa_nil)) qa_nil))) (qa_cons (qe_tup (qa_cons qe_str (qa_cons (qc_callRG 0 C__law_pick hr gd (by decide) (pv 0) (qa_cons (qe_var 1 (pv 1)) qa_nil)) (qa_cons (qc_callRG 0 C__law_pick hr gd (by decide) (pv 0) (qa_cons (qe_var 2 (pv 2)) qa_nil)) qa_nil)))) qa_nil)))))
      (qs_cons (qs_for PySem.PassesOwn.never rfl (qi_range1 (by rfl) n_range (qa_cons (qe_callB call_len cd_len (by rfl) n_len (by decide +kernel) (qa_cons (qe_var 3 (pv 3)) qa_nil)) qa_nil)) (qg_name sc__law_rows_drawn.nd (i := 5) rfl (by first | exact Or.inl rfl | exact Or.inr rfl)) (qs_cons (qs_new sc__law_rows_drawn.nd (i := 7) rfl (by first | exact Or.inl rfl | exact Or.inr rfl) (qa_cons (qe_tup (qa_cons qe_str (qa_cons (qe_var 5 (pv 5)) qa_nil))) qa_nil))
      (qs_cons (qs_if (qt_tru (qe_ix (qe_ix (qe_var 3 (pv 3)) (qe_var 5 (pv 5))) qe_int)) (qs_cons (qs_new sc__law_rows_drawn.nd (i := 7) rfl (by first | exact Or.inl rfl | exact Or.inr rfl) (qa_cons (qe_tup (qa_cons qe_str (qa_cons (qe_var 5 (pv 5)) qa_nil))) (qa_cons (qe_tup (qa_cons qe_str (qa_cons (qe_var 5 (pv 5)) qa_nil))) (qa_cons (qe_tup (qa_cons qe_str (qa_cons (qe_var 5 (pv 5)) (qa_cons (qc_callRG 0 C__law_number hr gd (by decide) (pv 0) qa_nil) qa_nil)))) qa_nil))))
      (qs_one (qs_app (i := 7) (pv 7) (qe_tup (qa_cons qe_str (qa_cons (qe_var 5 (pv 5)) (qa_cons (qc_callRG 0 C__law_number hr gd (by decide) (pv 0) qa_nil) qa_nil))))))) qs_nil)
      (qs_frz 7 (qs_one (qs_set sc__law_rows_drawn.nd (i := 4) rfl (by first | exact Or.inl rfl | exact Or.inr rfl) (qe_add (qe_var 4 (pv 4)) (qe_var 7 (pv 7)))))))))
      (qs_cons (qs_set sc__law_rows_drawn.nd (i := 6) rfl (by first | exact Or.inl rfl | exact Or.inr rfl) (qc_callRG 0 C__law_pick hr gd (by decide) (pv 0) (qa_cons (qe_lst (qa_cons (qc_callRG 0 C__law_take hr gd (by decide) (pv 0) (qa_cons qe_int qa_nil)) (qa_cons qe_int (qa_cons (qc_callRG 0 C__law_take hr gd (by decide) (pv 0) (qa_cons qe_int qa_nil)) (qa_cons (qc_callRG 0 C__law_take hr gd (by decide) (pv 0) (qa_cons qe_int qa_nil)) qa_nil))))) qa_nil)))
      (qs_one (qs_ret (qe_callTy call_tuple_of cd_tuple (by rfl) n_tuple (by decide +kernel) (qa_cons (qe_lc (own := [("turn", 8)]) rfl sc__law_rows_drawn.nd (qi_range1 (by rfl) n_range (qa_cons (qe_var 6 (pv 6)) qa_nil)) (blkOk_by (own := [("turn", 8)]) (N := ["feed", "names", "words", "uses", "some", "k", "many", "other", "turn"]) (sc := defScope s__law_rows_drawn) (by decide +kernel)) (by decide) (fun _ _ _ _ _ _ => (qg_name sc__law_rows_drawn.nd (i := 8) rfl (by first | exact Or.inl rfl | exact Or.inr rfl))) (fun _ _ _ _ _ _ => qts_nil) (fun _ _ _ _ _ _ => (qc_callRG 0 C__law_pick hr gd (by decide) (pv 0) (qa_cons (qe_var 4 (pv 4)) qa_nil)))) qa_nil)))))))))
/-! ### _law_gives_drawn -/
abbrev s__law_gives_drawn : Stmt := topS 28
theorem sc__law_gives_drawn : FnScope ["feed", "names", "words", "uses", "tags", "found", "turn", "word", "tag", "chosen", "there", "what", "give"] ["feed", "names", "words", "uses", "tags"] (defScope s__law_gives_drawn) := ⟨rfl, rfl, rfl, by decide +kernel, rfl, by decide +kernel, by decide +kernel⟩
def b__law_gives_drawn : Es := (sSeq (sNew 5 eNil)
    (sSeq (sFor (eRg1 (eCons (eCallR 1 0 m__law_pick (eCons (eLst (eCons (eCallR 1 0 m__law_take (eCons (eC (.int 5)) eNil)) (eCons (eC (.int 2)) (eCons (eCallR 1 0 m__law_take (eCons (eC (.int 13)) eNil)) eNil)))) eNil)) eNil)) (hNm 6) (sSeq (sSet 7 (eCallR 1 0 m__law_pick (eCons (eV 2) eNil)))
    (sSeq (sSet 8 (eCallR 1 0 m__law_pick (eCons (eBin addD (eLst (eCons (eC (.str "")) (eCons (eC (.str "")) eNil))) (eV 4)) eNil)))
    (sSeq (sSet 9 (eOrV (eBin eqX (eV 8) (eC (.str ""))) (eBin eqX (eCallR 1 0 m__law_take (eCons (eC (.int 2)) eNil)) (eC (.int 0)))))
    (sSeq (sSet 10 (eLcO 5 [12] (hNm 12) (eT blD (eBin eqX (eBin ixD (eV 12) (eC (.int 0))) (eV 7))) (eV 12)))
    (sSeq (sSet 10 (eLc (eIts (eV 10)) [12] (hNm 12) (eOr (eT blD (eBin eqX (eBin ixD (eV 12) (eC (.int 1))) (eV 8))) (eAnd (eT truD (eBin ixD (eV 12) (eC (.int 2)))) (eT truD (eV 9)))) (eV 12)))
    (sIf (eAnd (eT blD (eBin eqX (eV 10) (eLst eNil))) (eT blD (eBin ltD (eLenO 5) (eC (.int 8))))) (sSeq (sSet 11 (eCallR 0 0 m__law_number eNil))
    (sSeq (sIf (eT blD (eBin eqX (eBin inD (eV 7) (eSl (eV 2) eNo (ePt (eC (.int 2))))) (eBin eqX (eCallR 1 0 m__law_take (eCons (eC (.int 9)) eNil)) (eC (.int 0))))) (sSet 11 (eCallR 3 0 m__law_rows_drawn (eCons (eV 1) (eCons (eV 2) (eCons (eV 3) eNil))))) sNil)
    (sApp 5 (eTup (eCons (eV 7) (eCons (eV 8) (eCons (eV 9) (eCons (eBin eqX (eCallR 1 0 m__law_take (eCons (eC (.int 4)) eNil)) (eC (.int 0))) (eCons (eV 11) eNil))))))))) sNil)))))))
    (sRet (eSeqO 5 .tuple))))
def m__law_gives_drawn : PyData → List PyData → Option (PyData × PyData) := runR 8 b__law_gives_drawn
theorem ok__law_gives_drawn {P : Program} {w : World} {K : PySem.W.Frag} {mg : Str → Option Value} {base : Heap} {f : Addr} {fd : FuncData} (F : Fun K "_law_gives_drawn" "_law_gives_drawn" s__law_gives_drawn f fd) (n_len : mg "len" = none) (n_range : mg "range" = none) (n_tuple : mg "tuple" = none) (C__law_number : CalG P w K mg base "_law_number" 3 ["feed"] (spR K 0 m__law_number)) (C__law_pick : CalG P w K mg base "_law_pick" 2 ["feed", "some"] (spR K 1 m__law_pick)) (C__law_rows_drawn : CalG P w K mg base "_law_rows_drawn" 4 ["feed", "names", "words", "uses"] (spR K 3 m__law_rows_drawn)) (C__law_take : CalG P w K mg base "_law_take" 1 ["feed", "many"] (spR K 1 m__law_take)) :
    FnG P w K mg base 5 f fd ["feed", "names", "words", "uses", "tags"] (spR K 4 m__law_gives_drawn) :=
  fn_RG F sc__law_gives_drawn (by decide) (fun cdv A outer s0 H E U hr gd =>
      show PSs _ _ (tS K U 1 b__law_gives_drawn) from
      (qs_cons (qs_new sc__law_gives_drawn.nd (i := 5) rfl (by first | exact Or.inl rfl | exact Or.inr rfl) qa_nil)
      (qs_cons (qs_for PySem.PassesOwn.never rfl (qi_range1 (by rfl) n_range (qa_cons (qc_callRG 0 C__law_pick hr gd (by decide) (pv 0) (qa_cons (qe_lst (qa_cons (qc_callRG 0 C__law_take hr gd (by decide) (pv 0) (qa_cons qe_int qa_nil)) (qa_cons qe_int (qa_cons (qc_callRG 0 C__law_take hr gd (by decide) (pv 0) (qa_cons qe_int qa_nil)) qa_nil)))) qa_nil)) qa_nil)) (qg_name sc__law_gives_drawn.nd (i := 6) rfl (by first | exact Or.inl rfl | exact Or.inr rfl)) (qs_cons (qs_set sc__law_gives_drawn.nd (i := 7) rfl (by first | exact Or.inl rfl | exact Or.inr rfl) (qc_callRG 0 C__law_pick hr gd (by decide) (pv 0) (qa_cons (qe_var 2 (pv 2)) qa_nil)))
      (qs_cons (qs_set sc__law_gives_drawn.nd (i := 8) rfl (by first | exact Or.inl rfl | exact Or.inr rfl) (qc_callRG 0 C__law_pick hr gd (by decide) (pv 0) (qa_cons (qe_add (qe_lst (qa_cons qe_str (qa_cons qe_str qa_nil))) (qe_var 4 (pv 4))) qa_nil)))
      (qs_cons (qs_set sc__law_gives_drawn.nd (i := 9) rfl (by first | exact Or.inl rfl | exact Or.inr rfl) (qe_or (qe_cmp (op_eqX hr.units) od_eqX (qe_var 8 (pv 8)) qe_str (by rfl)) (qe_one (qe_cmp (op_eqX hr.units) od_eqX (qc_callRG 0 C__law_take hr gd (by decide) (pv 0) (qa_cons qe_int qa_nil)) qe_int (by rfl)))))
      (qs_cons (qs_setLcO (i := 10) (j := 5) (own := [("give", 12)]) (pv 5) rfl sc__law_gives_drawn.nd rfl rfl (sw_true rfl rfl rfl (by decide +kernel)) (blkOk_by (own := [("give", 12)]) (N := ["feed", "names", "words", "uses", "tags", "found", "turn", "word", "tag", "chosen", "there", "what", "give"]) (sc := defScope s__law_gives_drawn) (by decide +kernel)) (by decide) (fun _ _ _ _ _ _ => (qg_name sc__law_gives_drawn.nd (i := 12) rfl (by first | exact Or.inl rfl | exact Or.inr rfl))) (fun _ _ _ _ _ _ => (qts_one (qt_cmp (op_eqX hr.units) od_eqX (qe_ix (qe_var 12 (pv 12)) qe_int) (qe_var 7 (pv 7)) (by rfl)))) (fun _ _ _ _ _ _ => (qe_var 12 (pv 12)))).1
      (qs_cons (qs_setLc (i := 10) (own := [("give", 12)]) rfl sc__law_gives_drawn.nd rfl rfl (sw_true rfl rfl rfl (by decide +kernel)) (qi_its (qe_var 10 (pv 10))) (blkOk_by (own := [("give", 12)]) (N := ["feed", "names", "words", "uses", "tags", "found", "turn", "word", "tag", "chosen", "there", "what", "give"]) (sc := defScope s__law_gives_drawn) (by decide +kernel)) (by decide) (fun _ _ _ _ _ _ => (qg_name sc__law_gives_drawn.nd (i := 12) rfl (by first | exact Or.inl rfl | exact Or.inr rfl))) (fun _ _ _ _ _ _ => (qts_one (PW.pt (qw_or (qt_cmp (op_eqX hr.units) od_eqX (qe_ix (qe_var 12 (pv 12)) qe_int) (qe_var 8 (pv 8)) (by rfl)) (qw_or1 (PW.pt (qw_and (qt_tru (qe_ix (qe_var 12 (pv 12)) qe_int)) (qw_and1 (qt_tru (qe_var 9 (pv 9))))))))))) (fun _ _ _ _ _ _ => (qe_var 12 (pv 12)))).1
      (qs_one (qs_if (PW.pt (qw_and (qt_cmp (op_eqX hr.units) od_eqX (qe_var 10 (pv 10)) (qe_lst qa_nil) (by rfl)) (qw_and1 (qt_cmp op_lt od_lt (qe_lenO 5 (pv 5) (by rfl) rfl n_len (by decide +kernel)) qe_int (by rfl))))) (qs_cons (qs_set sc__law_gives_drawn.nd (i := 11) rfl (by first | exact Or.inl rfl | exact Or.inr rfl) (qc_callRG 0 C__law_number hr gd (by decide) (pv 0) qa_nil))
      (qs_cons (qs_if (qt_cmp (op_eqX hr.units) od_eqX (qe_cmp (or_inAll (room65 hr)) od_in (qe_var 7 (pv 7)) (qe_slice (qe_var 2 (pv 2)) qo_none (qo_some qe_int)) (by rfl)) (qe_cmp (op_eqX hr.units) od_eqX (qc_callRG 0 C__law_take hr gd (by decide) (pv 0) (qa_cons qe_int qa_nil)) qe_int (by rfl)) (by rfl)) (qs_one (qs_set sc__law_gives_drawn.nd (i := 11) rfl (by first | exact Or.inl rfl | exact Or.inr rfl) (qc_callRG 0 C__law_rows_drawn hr gd (by decide) (pv 0) (qa_cons (qe_var 1 (pv 1)) (qa_cons (qe_var 2 (pv 2)) (qa_cons (qe_var 3 (pv 3)) qa_nil)))))) qs_nil)
      (qs_one (qs_app (i := 5) (pv 5) (qe_tup (qa_cons (qe_var 7 (pv 7)) (qa_cons (qe_var 8 (pv 8)) (qa_cons (qe_var 9 (pv 9)) (qa_cons (qe_cmp (op_eqX hr.units) od_eqX (qc_callRG 0 C__law_take hr gd (by decide) (pv 0) (qa_cons qe_int qa_nil)) qe_int (by rfl)) (qa_cons (qe_var 11 (pv 11)) qa_nil)))))))))) qs_nil))))))))
      (qs_one (qs_ret (qe_tupO 5 (pv 5) (by rfl) n_tuple (by decide +kernel)))))))
/-! ### _law_library_drawn -/
abbrev s__law_library_drawn : Stmt := topS 29
theorem sc__law_library_drawn : FnScope ["feed", "names", "at", "words", "given", "tags", "needs", "turn", "uses", "gives", "rows", "marks", "tag", "use", "some", "word", "edition", "bare", "giver", "k", "one", "mark"] ["feed", "names", "at", "words", "given", "tags"] (defScope s__law_library_drawn) := ⟨rfl, rfl, rfl, by decide +kernel, rfl, by decide +kernel, by decide +kernel⟩
def b__law_library_drawn : Es := (sSeq (sNew 6 eNil)
    (sSeq (sFor (eRg1 (eCons (eCallR 1 0 m__law_take (eCons (eC (.int 4)) eNil)) eNil)) (hNm 7) (sApp 6 (eBin ixD (eV 1) (eCallR 1 0 m__law_pick (eCons (eLst (eCons (eCallR 1 0 m__law_take (eCons (eMap (eCons (eV 1) eNil) lenD) eNil)) (eCons (eBin modD (eBin addD (eV 2) (eC (.int 1))) (eMap (eCons (eV 1) eNil) lenD)) eNil))) eNil)))))
    (sSeq (sNew 8 eNil)
    (sSeq (sFor (eRg1 (eCons (eCallR 1 0 m__law_pick (eCons (eLst (eCons (eCallR 1 0 m__law_take (eCons (eC (.int 5)) eNil)) (eCons (eC (.int 2)) (eCons (eCallR 1 0 m__law_take (eCons (eC (.int 9)) eNil)) eNil)))) eNil)) eNil)) (hNm 7) (sSeq (sSet 12 (eCallR 1 0 m__law_pick (eCons (eBin addD (eLst (eCons (eC (.str "")) (eCons (eC (.str "")) (eCons (eC (.str "")) eNil)))) (eV 5)) eNil)))
    (sSeq (sSet 13 (eTup (eCons (eCallR 1 0 m__law_pick (eCons (eV 3) eNil)) (eCons (eV 12) (eCons (eC (.bool false)) (eCons (eBin eqX (eCallR 1 0 m__law_take (eCons (eC (.int 4)) eNil)) (eC (.int 0))) eNil))))))
    (sSeq (sIf (eAnd (eT blD (eBin neX (eV 4) (eLst eNil))) (eT blD (eBin eqX (eCallR 1 0 m__law_take (eCons (eC (.int 3)) eNil)) (eC (.int 0))))) (sSeq (sAsg (eCallR 1 0 m__law_pick (eCons (eV 4) eNil)) (hTup (hCons (hNm 15) (hCons (hNm 16) (hCons (hNm 17) (hCons (hNm 18) hNil)))) 4))
    (sSeq (sSet 14 (eBin addD (eBin repD (eLst (eCons (eV 16) (eCons (eV 16) (eCons (eIf (eT truD (eV 17)) (eC (.str "")) (eV 16)) (eCons (eIf (eT truD (eV 17)) (eC (.str "")) (eV 16)) eNil))))) (eC (.int 3))) (eSl (eV 5) eNo (ePt (eC (.int 1))))))
    (sSeq (sSet 13 (eTup (eCons (eV 15) (eCons (eCallR 1 0 m__law_pick (eCons (eV 14) eNil)) (eCons (eC (.bool true)) (eCons (eC (.bool true)) eNil))))))
    (sFrz 6 (sSetF 6 (eBin catL (eV 6) (eBin repD (eLst (eCons (eV 18) eNil)) (eMap (eCons (eBin gtD (eCallR 1 0 m__law_take (eCons (eC (.int 9)) eNil)) (eC (.int 0))) eNil) intD1)))))))) sNil)
    (sApp 8 (eV 13))))))
    (sFrz 6 (sSeq (sSetF 6 (eLc (eEnumA (eV 6)) [19, 20] (hTup (hCons (hNm 19) (hCons (hNm 20) hNil)) 2) (eAnd (eT blD (eBin neX (eV 20) (eBin ixD (eV 1) (eV 2)))) (eT blD (eBin notInD (eV 20) (eSl (eV 6) eNo (ePt (eV 19)))))) (eV 20)))
    (sFrz 8 (sSeq (sSet 9 (eCallR 4 0 m__law_gives_drawn (eCons (eV 1) (eCons (eV 3) (eCons (eV 8) (eCons (eV 5) eNil))))))
    (sSeq (sSet 10 (eLc (eRg1 (eCons (eC (.int 2)) eNil)) [7] (hNm 7) eYes (eCallR 3 0 m__law_rows_drawn (eCons (eV 1) (eCons (eV 3) (eCons (eV 8) eNil))))))
    (sSeq (sSet 11 (eMap (eCons (eLc (eIts (eLst (eCons (eC (.str "early")) (eCons (eC (.str "own")) (eCons (eC (.str "stays")) eNil))))) [21] (hNm 21) (eT blD (eBin eqX (eCallR 1 0 m__law_take (eCons (eC (.int 8)) eNil)) (eC (.int 0)))) (eV 21)) eNil) tupleD))
    (sFrz 6 (sRet (eTup (eCons (eBin ixD (eV 1) (eV 2)) (eCons (eMap (eCons (eSl (eV 6) eNo (ePt (eC (.int 6)))) eNil) tupleD) (eCons (eV 9) (eCons (eMap (eCons (eV 8) eNil) tupleD) (eCons (eBin ixD (eV 10) (eC (.int 0))) (eCons (eBin ixD (eV 10) (eC (.int 1))) (eCons (eV 11) eNil))))))))))))))))))))
def m__law_library_drawn : PyData → List PyData → Option (PyData × PyData) := runR 16 b__law_library_drawn
theorem ok__law_library_drawn {P : Program} {w : World} {K : PySem.W.Frag} {mg : Str → Option Value} {base : Heap} {f : Addr} {fd : FuncData} (F : Fun K "_law_library_drawn" "_law_library_drawn" s__law_library_drawn f fd) (n_enumerate : mg "enumerate" = none) (n_int : mg "int" = none) (n_len : mg "len" = none) (n_range : mg "range" = none) (n_tuple : mg "tuple" = none) (C__law_gives_drawn : CalG P w K mg base "_law_gives_drawn" 5 ["feed", "names", "words", "uses", "tags"] (spR K 4 m__law_gives_drawn)) (C__law_pick : CalG P w K mg base "_law_pick" 2 ["feed", "some"] (spR K 1 m__law_pick)) (C__law_rows_drawn : CalG P w K mg base "_law_rows_drawn" 4 ["feed", "names", "words", "uses"] (spR K 3 m__law_rows_drawn)) (C__law_take : CalG P w K mg base "_law_take" 1 ["feed", "many"] (spR K 1 m__law_take)) :
    FnG P w K mg base 6 f fd ["feed", "names", "at", "words", "given", "tags"] (spR K 5 m__law_library_drawn) :=
  fn_RG F sc__law_library_drawn (by decide) (fun cdv A outer s0 H E U hr gd =>
      show PSs _ _ (tS K U 1 b__law_library_drawn) from
      (qs_cons (qs_new sc__law_library_drawn.nd (i := 6) rfl (by first | exact Or.inl rfl | exact Or.inr rfl) qa_nil)
      (qs_cons (qs_for PySem.PassesOwn.never rfl (qi_range1 (by rfl) n_range (qa_cons (qc_callRG 0 C__law_take hr gd (by decide) (pv 0) (qa_cons qe_int qa_nil)) qa_nil)) (qg_name sc__law_library_drawn.nd (i := 7) rfl (by first | exact Or.inl rfl | exact Or.inr rfl)) (qs_one (qs_app (i := 6) (pv 6) (qe_ix (qe_var 1 (pv 1)) (qc_callRG 0 C__law_pick hr gd (by decide) (pv 0) (qa_cons (qe_lst (qa_cons (qc_callRG 0 C__law_take hr gd (by decide) (pv 0) (qa_cons (qe_callB call_len cd_len (by rfl) n_len (by decide +kernel) (qa_cons (qe_var 1 (pv 1)) qa_nil)) qa_nil)) (qa_cons (qe_mod (qe_add (qe_var 2 (pv 2)) qe_int) (qe_callB call_len cd_len (by rfl) n_len (by decide +kernel) (qa_cons (qe_var 1 (pv 1)) qa_nil))) qa_nil))) qa_nil))))))
      (qs_cons (qs_new sc__law_library_drawn.nd (i := 8) rfl (by first | exact Or.inl rfl | exact Or.inr rfl) qa_nil)
      (qs_cons (qs_for PySem.PassesOwn.never rfl (qi_range1 (by rfl) n_range (qa_cons (qc_callRG 0 C__law_pick hr gd (by decide) (pv 0) (qa_cons (qe_lst (qa_cons (qc_callRG 0 C__law_take hr gd (by decide) (pv 0) (qa_cons qe_int qa_nil)) (qa_cons qe_int (qa_cons (qc_callRG 0 C__law_take hr gd (by decide) (pv 0) (qa_cons qe_int qa_nil)) qa_nil)))) qa_nil)) qa_nil)) (qg_name sc__law_library_drawn.nd (i := 7) rfl (by first | exact Or.inl rfl | exact Or.inr rfl)) (qs_cons (qs_set sc__law_library_drawn.nd (i := 12) rfl (by first | exact Or.inl rfl | exact Or.inr rfl) (qc_callRG 0 C__law_pick hr gd (by decide) (pv 0) (qa_cons (qe_add (qe_lst (qa_cons qe_str (qa_cons qe_str (qa_cons qe_str qa_nil)))) (qe_var 5 (pv 5))) qa_nil)))
      (qs_cons (qs_set sc__law_library_drawn.nd (i := 13) rfl (by first | exact Or.inl rfl | exact Or.inr rfl) (qe_tup (qa_cons (qc_callRG 0 C__law_pick hr gd (by decide) (pv 0) (qa_cons (qe_var 3 (pv 3)) qa_nil)) (qa_cons (qe_var 12 (pv 12)) (qa_cons qe_bl (qa_cons (qe_cmp (op_eqX hr.units) od_eqX (qc_callRG 0 C__law_take hr gd (by decide) (pv 0) (qa_cons qe_int qa_nil)) qe_int (by rfl)) qa_nil))))))
      (qs_cons (qs_if (PW.pt (qw_and (qt_cmp (op_neX hr.units) od_neX (qe_var 4 (pv 4)) (qe_lst qa_nil) (by rfl)) (qw_and1 (qt_cmp (op_eqX hr.units) od_eqX (qc_callRG 0 C__law_take hr gd (by decide) (pv 0) (qa_cons qe_int qa_nil)) qe_int (by rfl))))) (qs_cons (qs_asg (qc_callRG 0 C__law_pick hr gd (by decide) (pv 0) (qa_cons (qe_var 4 (pv 4)) qa_nil)) (qg_tup rfl (qgs_cons (qg_name sc__law_library_drawn.nd (i := 15) rfl (by first | exact Or.inl rfl | exact Or.inr rfl)) (qgs_cons (qg_name sc__law_library_drawn.nd (i := 16) rfl (by first | exact Or.inl rfl | exact Or.inr rfl)) (qgs_cons (qg_name sc__law_library_drawn.nd (i := 17) rfl (by first | exact Or.inl rfl | exact Or.inr rfl)) (qgs_cons (qg_name sc__law_library_drawn.nd (i := 18) rfl (by first | exact Or.inl rfl | exact Or.inr rfl)) qgs_nil))))))
      (qs_cons (qs_set sc__law_library_drawn.nd (i := 14) rfl (by first | exact Or.inl rfl | exact Or.inr rfl) (qe_add (qe_rep (qn_lst (qa_cons (qe_var 16 (pv 16)) (qa_cons (qe_var 16 (pv 16)) (qa_cons (qe_if (qt_tru (qe_var 17 (pv 17))) qe_str (qe_var 16 (pv 16))) (qa_cons (qe_if (qt_tru (qe_var 17 (pv 17))) qe_str (qe_var 16 (pv 16))) qa_nil))))) (fun _ => qe_int)) (qe_slice (qe_var 5 (pv 5)) qo_none (qo_some qe_int))))
      (qs_cons (qs_set sc__law_library_drawn.nd (i := 13) rfl (by first | exact Or.inl rfl | exact Or.inr rfl) (qe_tup (qa_cons (qe_var 15 (pv 15)) (qa_cons (qc_callRG 0 C__law_pick hr gd (by decide) (pv 0) (qa_cons (qe_var 14 (pv 14)) qa_nil)) (qa_cons qe_bl (qa_cons qe_bl qa_nil))))))
      (qs_frz 6 (qs_one (qs_setF sc__law_library_drawn.nd (i := 6) rfl (by first | exact Or.inl rfl | exact Or.inr rfl) (qn_cat (qe_var 6 (pv 6)) (qe_rep (qn_lst (qa_cons (qe_var 18 (pv 18)) qa_nil)) (fun _ => (qe_callTy call_int1 cd_int (by rfl) n_int (by decide +kernel) (qa_cons (qe_cmp op_gt od_gt (qc_callRG 0 C__law_take hr gd (by decide) (pv 0) (qa_cons qe_int qa_nil)) qe_int (by rfl)) qa_nil))))))))))) qs_nil)
      (qs_one (qs_app (i := 8) (pv 8) (qe_var 13 (pv 13))))))))
      (qs_frz 6 (qs_cons (qs_setF sc__law_library_drawn.nd (i := 6) rfl (by first | exact Or.inl rfl | exact Or.inr rfl) (qn_lc (own := [("k", 19), ("one", 20)]) rfl sc__law_library_drawn.nd (qi_f (qi_enumA (by rfl) n_enumerate (qe_var 6 (pv 6)))) (blkOk_by (own := [("k", 19), ("one", 20)]) (N := ["feed", "names", "at", "words", "given", "tags", "needs", "turn", "uses", "gives", "rows", "marks", "tag", "use", "some", "word", "edition", "bare", "giver", "k", "one", "mark"]) (sc := defScope s__law_library_drawn) (by decide +kernel)) (by decide) (fun _ _ _ _ _ _ => (qg_tup rfl (qgs_cons (qg_name sc__law_library_drawn.nd (i := 19) rfl (by first | exact Or.inl rfl | exact Or.inr rfl)) (qgs_cons (qg_name sc__law_library_drawn.nd (i := 20) rfl (by first | exact Or.inl rfl | exact Or.inr rfl)) qgs_nil)))) (fun _ _ _ _ _ _ => (qts_one (PW.pt (qw_and (qt_cmp (op_neX hr.units) od_neX (qe_var 20 (pv 20)) (qe_ix (qe_var 1 (pv 1)) (qe_var 2 (pv 2))) (by rfl)) (qw_and1 (qt_cmp (or_notInAll (room65 hr)) od_notIn (qe_var 20 (pv 20)) (qe_slice (qe_var 6 (pv 6)) qo_none (qo_some (qe_var 19 (pv 19)))) (by rfl))))))) (fun _ _ _ _ _ _ => (qe_var 20 (pv 20)))))
      (qs_frz 8 (qs_cons (qs_set sc__law_library_drawn.nd (i := 9) rfl (by first | exact Or.inl rfl | exact Or.inr rfl) (qc_callRG 0 C__law_gives_drawn hr gd (by decide) (pv 0) (qa_cons (qe_var 1 (pv 1)) (qa_cons (qe_var 3 (pv 3)) (qa_cons (qe_var 8 (pv 8)) (qa_cons (qe_var 5 (pv 5)) qa_nil))))))
      (qs_cons (qs_setLc (i := 10) (own := [("turn", 7)]) rfl sc__law_library_drawn.nd rfl rfl (sw_true rfl rfl rfl (by decide +kernel)) (qi_range1 (by rfl) n_range (qa_cons qe_int qa_nil)) (blkOk_by (own := [("turn", 7)]) (N := ["feed", "names", "at", "words", "given", "tags", "needs", "turn", "uses", "gives", "rows", "marks", "tag", "use", "some", "word", "edition", "bare", "giver", "k", "one", "mark"]) (sc := defScope s__law_library_drawn) (by decide +kernel)) (by decide) (fun _ _ _ _ _ _ => (qg_name sc__law_library_drawn.nd (i := 7) rfl (by first | exact Or.inl rfl | exact Or.inr rfl))) (fun _ _ _ _ _ _ => qts_nil) (fun _ _ _ _ _ _ => (qc_callRG 0 C__law_rows_drawn hr gd (by decide) (pv 0) (qa_cons (qe_var 1 (pv 1)) (qa_cons (qe_var 3 (pv 3)) (qa_cons (qe_var 8 (pv 8)) qa_nil)))))).1
      (qs_cons (qs_set sc__law_library_drawn.nd (i := 11) rfl (by first | exact Or.inl rfl | exact Or.inr rfl) (qe_callTy call_tuple_of cd_tuple (by rfl) n_tuple (by decide +kernel) (qa_cons (qe_lc (own := [("mark", 21)]) rfl sc__law_library_drawn.nd (qi_its (qe_lst (qa_cons qe_str (qa_cons qe_str (qa_cons qe_str qa_nil))))) (blkOk_by (own := [("mark", 21)]) (N := ["feed", "names", "at", "words", "given", "tags", "needs", "turn", "uses", "gives", "rows", "marks", "tag", "use", "some", "word", "edition", "bare", "giver", "k", "one", "mark"]) (sc := defScope s__law_library_drawn) (by decide +kernel)) (by decide) (fun _ _ _ _ _ _ => (qg_name sc__law_library_drawn.nd (i := 21) rfl (by first | exact Or.inl rfl | exact Or.inr rfl))) (fun _ _ _ _ _ _ => (qts_one (qt_cmp (op_eqX hr.units) od_eqX (qc_callRG 0 C__law_take hr gd (by decide) (pv 0) (qa_cons qe_int qa_nil)) qe_int (by rfl)))) (fun _ _ _ _ _ _ => (qe_var 21 (pv 21)))) qa_nil)))
      (qs_frz 6 (qs_one (qs_ret (qe_tup (qa_cons (qe_ix (qe_var 1 (pv 1)) (qe_var 2 (pv 2))) (qa_cons (qe_callTy call_tuple_of cd_tuple (by rfl) n_tuple (by decide +kernel) (qa_cons (qe_slice (qe_var 6 (pv 6)) qo_none (qo_some qe_int)) qa_nil)) (qa_cons (qe_var 9 (pv 9)) (qa_cons (qe_callTy call_tuple_of cd_tuple (by rfl) n_tuple (by decide +kernel) (qa_cons (qe_var 8 (pv 8)) qa_nil)) (qa_cons (qe_ix (qe_var 10 (pv 10)) qe_int) (qa_cons (qe_ix (qe_var 10 (pv 10)) qe_int) (qa_cons (qe_var 11 (pv 11)) qa_nil))))))))))))))))))))))
/-! ### _law_shelf -/
abbrev s__law_shelf : Stmt := topS 30
theorem sc__law_shelf : FnScope ["feed", "most", "many", "names", "words", "tags", "found", "given", "at", "cells", "give"] ["feed", "most"] (defScope s__law_shelf) := ⟨rfl, rfl, rfl, by decide +kernel, rfl, by decide +kernel, by decide +kernel⟩
def b__law_shelf : Es := (sSeq (sSet 2 (eCallR 1 0 m__law_pick (eCons (eLst (eCons (eV 1) (eCons (eBin addD (eC (.int 1)) (eCallR 1 0 m__law_take (eCons (eV 1) eNil))) eNil))) eNil)))
    (sSeq (sSet 3 (eCallR 1 0 m__law_unlike (eCons (eV 2) eNil)))
    (sSeq (sSet 4 (eCallR 1 0 m__law_unlike (eCons (eC (.int 4)) eNil)))
    (sSeq (sSet 5 (eCallR 1 0 m__law_unlike (eCons (eC (.int 2)) eNil)))
    (sSeq (sSet 6 (eLst eNil))
    (sSeq (sSet 7 (eLst eNil))
    (sSeq (sFor (eRg3 (eCons (eBin subD (eMap (eCons (eV 3) eNil) lenD) (eC (.int 1))) (eCons (eMap (eC (.int 1)) negD) (eCons (eMap (eC (.int 1)) negD) eNil)))) (hNm 8) (sSeq (sSet 6 (eBin addD (eLst (eCons (eCallR 5 0 m__law_library_drawn (eCons (eV 3) (eCons (eV 8) (eCons (eV 4) (eCons (eV 7) (eCons (eV 5) eNil)))))) eNil)) (eV 6)))
    (sSeq (sSet 9 (eLc (eIts (eBin ixD (eBin ixD (eV 6) (eC (.int 0))) (eC (.int 2)))) [10] (hNm 10) (eT truD (eMap (eCons (eBin ixD (eV 10) (eC (.int 4))) eNil) (arN 1 m__law_whole))) (eV 10)))
    (sSet 7 (eBin addD (eV 7) (eLc (eIts (eV 9)) [10] (hNm 10) eYes (eBin addD (eSl (eV 10) eNo (ePt (eC (.int 3)))) (eTup (eCons (eBin ixD (eV 3) (eV 8)) eNil)))))))))
    (sRet (eMap (eCons (eV 6) eNil) tupleD)))))))))
def m__law_shelf : PyData → List PyData → Option (PyData × PyData) := runR 9 b__law_shelf
theorem ok__law_shelf {P : Program} {w : World} {K : PySem.W.Frag} {mg : Str → Option Value} {base : Heap} {f : Addr} {fd : FuncData} (F : Fun K "_law_shelf" "_law_shelf" s__law_shelf f fd) (n_len : mg "len" = none) (n_range : mg "range" = none) (n_tuple : mg "tuple" = none) (C__law_library_drawn : CalG P w K mg base "_law_library_drawn" 6 ["feed", "names", "at", "words", "given", "tags"] (spR K 5 m__law_library_drawn)) (C__law_pick : CalG P w K mg base "_law_pick" 2 ["feed", "some"] (spR K 1 m__law_pick)) (C__law_take : CalG P w K mg base "_law_take" 1 ["feed", "many"] (spR K 1 m__law_take)) (C__law_unlike : CalG P w K mg base "_law_unlike" 2 ["feed", "many"] (spR K 1 m__law_unlike)) (C__law_whole : CalG P w K mg base "_law_whole" 1 ["found"] (spD K 1 m__law_whole)) :
    FnG P w K mg base 7 f fd ["feed", "most"] (spR K 1 m__law_shelf) :=
  fn_RG F sc__law_shelf (by decide) (fun cdv A outer s0 H E U hr gd =>
      show PSs _ _ (tS K U 1 b__law_shelf) from
      (qs_cons (qs_set sc__law_shelf.nd (i := 2) rfl (by first | exact Or.inl rfl | exact Or.inr rfl) (qc_callRG 0 C__law_pick hr gd (by decide) (pv 0) (qa_cons (qe_lst (qa_cons (qe_var 1 (pv 1)) (qa_cons (qe_add qe_int (qc_callRG 0 C__law_take hr gd (by decide) (pv 0) (qa_cons (qe_var 1 (pv 1)) qa_nil))) qa_nil))) qa_nil)))
      (qs_cons (qs_set sc__law_shelf.nd (i := 3) rfl (by first | exact Or.inl rfl | exact Or.inr rfl) (qc_callRG 0 C__law_unlike hr gd (by decide) (pv 0) (qa_cons (qe_var 2 (pv 2)) qa_nil)))
      (qs_cons (qs_set sc__law_shelf.nd (i := 4) rfl (by first | exact Or.inl rfl | exact Or.inr rfl) (qc_callRG 0 C__law_unlike hr gd (by decide) (pv 0) (qa_cons qe_int qa_nil)))
      (qs_cons (qs_set sc__law_shelf.nd (i := 5) rfl (by first | exact Or.inl rfl | exact Or.inr rfl) (qc_callRG 0 C__law_unlike hr gd (by decide) (pv 0) (qa_cons qe_int qa_nil)))
      (qs_cons (qs_set sc__law_shelf.nd (i := 6) rfl (by first | exact Or.inl rfl | exact Or.inr rfl) (qe_lst qa_nil))
      (qs_cons (qs_set sc__law_shelf.nd (i := 7) rfl (by first | exact Or.inl rfl | exact Or.inr rfl) (qe_lst qa_nil))
      (qs_cons (qs_for PySem.PassesOwn.never rfl (qi_range3 (by rfl) n_range (qa_cons (qe_sub (qe_callB call_len cd_len (by rfl) n_len (by decide +kernel) (qa_cons (qe_var 3 (pv 3)) qa_nil)) qe_int) (qa_cons (qe_neg qe_int) (qa_cons (qe_neg qe_int) qa_nil)))) (qg_name sc__law_shelf.nd (i := 8) rfl (by first | exact Or.inl rfl | exact Or.inr rfl)) (qs_cons (qs_set sc__law_shelf.nd (i := 6) rfl (by first | exact Or.inl rfl | exact Or.inr rfl) (qe_add (qe_lst (qa_cons (qc_callRG 0 C__law_library_drawn hr gd (by decide) (pv 0) (qa_cons (qe_var 3 (pv 3)) (qa_cons (qe_var 8 (pv 8)) (qa_cons (qe_var 4 (pv 4)) (qa_cons (qe_var 7 (pv 7)) (qa_cons (qe_var 5 (pv 5)) qa_nil)))))) qa_nil)) (qe_var 6 (pv 6))))
      (qs_cons (qs_setLc (i := 9) (own := [("give", 10)]) rfl sc__law_shelf.nd rfl rfl (sw_true rfl rfl rfl (by decide +kernel)) (qi_its (qe_ix (qe_ix (qe_var 6 (pv 6)) qe_int) qe_int)) (blkOk_by (own := [("give", 10)]) (N := ["feed", "most", "many", "names", "words", "tags", "found", "given", "at", "cells", "give"]) (sc := defScope s__law_shelf) (by decide +kernel)) (by decide) (fun _ _ _ _ _ _ => (qg_name sc__law_shelf.nd (i := 10) rfl (by first | exact Or.inl rfl | exact Or.inr rfl))) (fun _ _ _ _ _ _ => (qts_one (qt_tru (qc_callG C__law_whole hr gd (by decide) (qa_cons (qe_ix (qe_var 10 (pv 10)) qe_int) qa_nil))))) (fun _ _ _ _ _ _ => (qe_var 10 (pv 10)))).1
      (qs_one (qs_set sc__law_shelf.nd (i := 7) rfl (by first | exact Or.inl rfl | exact Or.inr rfl) (qe_add (qe_var 7 (pv 7)) (qe_lc (own := [("give", 10)]) rfl sc__law_shelf.nd (qi_its (qe_var 9 (pv 9))) (blkOk_by (own := [("give", 10)]) (N := ["feed", "most", "many", "names", "words", "tags", "found", "given", "at", "cells", "give"]) (sc := defScope s__law_shelf) (by decide +kernel)) (by decide) (fun _ _ _ _ _ _ => (qg_name sc__law_shelf.nd (i := 10) rfl (by first | exact Or.inl rfl | exact Or.inr rfl))) (fun _ _ _ _ _ _ => qts_nil) (fun _ _ _ _ _ _ => (qe_add (qe_slice (qe_var 10 (pv 10)) qo_none (qo_some qe_int)) (qe_tup (qa_cons (qe_ix (qe_var 3 (pv 3)) (qe_var 8 (pv 8))) qa_nil)))))))))))
      (qs_one (qs_ret (qe_callTy call_tuple_of cd_tuple (by rfl) n_tuple (by decide +kernel) (qa_cons (qe_var 6 (pv 6)) qa_nil))))))))))))
/-! ### _law_back -/
abbrev s__law_back : Stmt := topS 31
theorem sc__law_back : FnScope ["found", "base", "at", "words", "rows", "rest", "code", "one", "other", "number"] ["found", "base", "at"] (defScope s__law_back) := ⟨rfl, rfl, rfl, by decide +kernel, rfl, by decide +kernel, by decide +kernel⟩
def b__law_back : Es := (sSeq (sSet 3 (eLst (eCons (eC (.str "tell")) (eCons (eC (.str "show")) (eCons (eC (.str "put")) (eCons (eC (.str "add")) (eCons (eC (.str "call")) (eCons (eC (.str "bring")) (eCons (eC (.str "share")) (eCons (eC (.str "drop")) (eCons (eC (.str "ask")) (eCons (eC (.str "")) (eCons (eC (.str "skip")) eNil)))))))))))))
    (sSeq (sNew 4 eNil)
    (sSeq (whileS (eAnd (eT blD (eBin neX (eSl (eV 0) (ePt (eV 2)) (ePt (eBin addD (eV 2) (eC (.int 3))))) (eLst (eCons (eC (.int 0)) (eCons (eC (.int 0)) (eCons (eC (.int 0)) eNil)))))) (eT blD (eBin ltD (eLenO 4) (eC (.int 9))))) (sSeq (sAsg (eSl (eV 0) (ePt (eV 2)) (ePt (eBin addD (eV 2) (eC (.int 3))))) (NG.hLst (hCons (hNm 6) (hCons (hNm 7) (hCons (hNm 8) hNil))) 3))
    (sSeq (sSetF 5 (eIf (eT blD (eBin inD (eV 6) (eTup (eCons (eC (.int 1)) (eCons (eC (.int 2)) (eCons (eC (.int 5)) (eCons (eC (.int 6)) (eCons (eC (.int 7)) (eCons (eC (.int 8)) (eCons (eC (.int 11)) eNil)))))))))) (eLst (eCons (eV 7) eNil)) (eLst (eCons (eV 7) (eCons (eV 8) eNil)))))
    (sSeq (sIf (eOr (eT blD (eChain ltD ltD (eC (.int 1)) (eV 6) (eC (.int 6)))) (eT blD (eBin eqX (eV 6) (eC (.int 11))))) (sPut 5 (eBin subD (eV 7) (eV 1)) (eC (.int 0))) (sIf (eT blD (eBin gtD (eV 6) (eC (.int 5)))) (sSetF 5 (eLcO 5 [9] (hNm 9) eYes (eMap (eCons (eV 9) eNil) (arN 1 m_name_of)))) sNil))
    (sSeq (sApp 4 (eBin addD (eTup (eCons (eBin ixD (eV 3) (eBin subD (eV 6) (eC (.int 1)))) eNil)) (eSeqO 5 .tuple)))
    (sSet 2 (eBin addD (eV 2) (eC (.int 3)))))))) 10000)
    (sRet (eSeqO 4 .tuple)))))
def m__law_back : List PyData → Option PyData := runD 7 b__law_back
theorem ok__law_back {P : Program} {w : World} {K : PySem.W.Frag} {mg : Str → Option Value} {base : Heap} {f : Addr} {fd : FuncData} (F : Fun K "_law_back" "_law_back" s__law_back f fd) (n_len : mg "len" = none) (n_tuple : mg "tuple" = none) (C_name_of : CalG P w K mg base "name_of" 1 ["number"] (spD K 1 m_name_of)) :
    FnG P w K mg base 2 f fd ["found", "base", "at"] (spD K 3 m__law_back) :=
  fn_DG F sc__law_back (by decide) (fun cdv A outer s0 H E U hr gd =>
      show PSs _ _ (tS K U 0 b__law_back) from
      (qs_cons (qs_set sc__law_back.nd (i := 3) rfl (by first | exact Or.inl rfl | exact Or.inr rfl) (qe_lst (qa_cons qe_str (qa_cons qe_str (qa_cons qe_str (qa_cons qe_str (qa_cons qe_str (qa_cons qe_str (qa_cons qe_str (qa_cons qe_str (qa_cons qe_str (qa_cons qe_str (qa_cons qe_str qa_nil)))))))))))))
      (qs_cons (qs_new sc__law_back.nd (i := 4) rfl (by first | exact Or.inl rfl | exact Or.inr rfl) qa_nil)
      (qs_cons (qs_while 10000 PySem.PassesOwn.never (PW.pt (qw_and (qt_cmp (op_neX hr.units) od_neX (qe_slice (qe_var 0 (pv 0)) (qo_some (qe_var 2 (pv 2))) (qo_some (qe_add (qe_var 2 (pv 2)) qe_int))) (qe_lst (qa_cons qe_int (qa_cons qe_int (qa_cons qe_int qa_nil)))) (by rfl)) (qw_and1 (qt_cmp op_lt od_lt (qe_lenO 4 (pv 4) (by rfl) rfl n_len (by decide +kernel)) qe_int (by rfl))))) (qs_cons (qs_asg (qe_slice (qe_var 0 (pv 0)) (qo_some (qe_var 2 (pv 2))) (qo_some (qe_add (qe_var 2 (pv 2)) qe_int))) (NG.qg_lst rfl (qgs_cons (qg_name sc__law_back.nd (i := 6) rfl (by first | exact Or.inl rfl | exact Or.inr rfl)) (qgs_cons (qg_name sc__law_back.nd (i := 7) rfl (by first | exact Or.inl rfl | exact Or.inr rfl)) (qgs_cons (qg_name sc__law_back.nd (i := 8) rfl (by first | exact Or.inl rfl | exact Or.inr rfl)) qgs_nil)))))
      (qs_cons (qs_setF sc__law_back.nd (i := 5) rfl (by first | exact Or.inl rfl | exact Or.inr rfl) (NG.qn_if (qt_cmp (or_inAll (room65 hr)) od_in (qe_var 6 (pv 6)) (qe_tup (qa_cons qe_int (qa_cons qe_int (qa_cons qe_int (qa_cons qe_int (qa_cons qe_int (qa_cons qe_int (qa_cons qe_int qa_nil)))))))) (by rfl)) (qn_lst (qa_cons (qe_var 7 (pv 7)) qa_nil)) (qn_lst (qa_cons (qe_var 7 (pv 7)) (qa_cons (qe_var 8 (pv 8)) qa_nil)))))
      (qs_cons (qs_if (PW.pt (qw_or (qt_chain op_lt od_lt op_lt od_lt qe_int (qe_var 6 (pv 6)) qe_int) (qw_or1 (qt_cmp (op_eqX hr.units) od_eqX (qe_var 6 (pv 6)) qe_int (by rfl))))) (qs_one (qs_put (i := 5) (pv 5) (qe_sub (qe_var 7 (pv 7)) (qe_var 1 (pv 1))) qe_int (fun ho hi => pg_sub ho hi set_list))) (qs_one (qs_if (qt_cmp op_gt od_gt (qe_var 6 (pv 6)) qe_int (by rfl)) (qs_one (qs_setLcO (i := 5) (j := 5) (own := [("number", 9)]) (pv 5) rfl sc__law_back.nd rfl rfl (sw_true rfl rfl rfl (by decide +kernel)) (blkOk_by (own := [("number", 9)]) (N := ["found", "base", "at", "words", "rows", "rest", "code", "one", "other", "number"]) (sc := defScope s__law_back) (by decide +kernel)) (by decide) (fun _ _ _ _ _ _ => (qg_name sc__law_back.nd (i := 9) rfl (by first | exact Or.inl rfl | exact Or.inr rfl))) (fun _ _ _ _ _ _ => qts_nil) (fun _ _ _ _ _ _ => (qc_callG C_name_of hr gd (by decide) (qa_cons (qe_var 9 (pv 9)) qa_nil)))).2) qs_nil)))
      (qs_cons (qs_app (i := 4) (pv 4) (qe_add (qe_tup (qa_cons (qe_ix (qe_var 3 (pv 3)) (qe_sub (qe_var 6 (pv 6)) qe_int)) qa_nil)) (qe_tupO 5 (pv 5) (by rfl) n_tuple (by decide +kernel))))
      (qs_one (qs_set sc__law_back.nd (i := 2) rfl (by first | exact Or.inl rfl | exact Or.inr rfl) (qe_add (qe_var 2 (pv 2)) qe_int))))))))
      (qs_one (qs_ret (qe_tupO 4 (pv 4) (by rfl) n_tuple (by decide +kernel))))))))
/-! ### _law_wide -/
abbrev s__law_wide : Stmt := topS 33
theorem sc__law_wide : FnScope ["feed", "library", "names", "some", "k", "gives", "give", "ends", "rows", "kinds", "what", "turn"] ["feed", "library"] (defScope s__law_wide) := ⟨rfl, rfl, rfl, by decide +kernel, rfl, by decide +kernel, by decide +kernel⟩
def b__law_wide : Es := (sSeq (sSet 2 (eLst (eCons (eBin ixD (eV 1) (eC (.int 0))) (eCons (eC (.str "abcdefgh")) (eCons (eC (.str "zyx")) (eCons (eC (.str "q")) eNil))))))
    (sSeq (sSet 3 (eLst (eCons (eTup (eCons (eC (.str "bring")) (eCons (eCallR 1 0 m__law_pick (eCons (eV 2) eNil)) eNil))) (eCons (eTup (eCons (eC (.str "ask")) (eCons (eCallR 1 0 m__law_pick (eCons (eV 2) eNil)) (eCons (eC (.str "wxyzabcd")) eNil)))) eNil))))
    (sSeq (sSet 3 (eBin addD (eV 3) (eLst (eCons (eTup (eCons (eC (.str "tell")) (eCons (eCallR 1 0 m__law_take (eCons (eBin powD (eC (.int 10)) (eC (.int 29))) eNil)) eNil))) (eCons (eTup (eCons (eC (.str "tell")) (eCons (eBin subD (eC (.int 0)) (eCallR 1 0 m__law_take (eCons (eBin powD (eC (.int 10)) (eC (.int 29))) eNil))) eNil))) eNil)))))
    (sSeq (sFor (eRg1 (eCons (eMap (eCons (eBin ixD (eV 1) (eC (.int 3))) eNil) lenD) eNil)) (hNm 4) (sSeq (sSet 9 (eLst (eCons (eTup (eCons (eC (.str "call")) (eCons (eV 4) eNil))) eNil)))
    (sSeq (sIf (eT truD (eBin ixD (eBin ixD (eBin ixD (eV 1) (eC (.int 3))) (eV 4)) (eC (.int 2)))) (sSet 9 (eLst (eCons (eTup (eCons (eC (.str "put")) (eCons (eV 4) (eCons (eBin subD (eC (.int 0)) (eCallR 1 0 m__law_take (eCons (eBin powD (eC (.int 10)) (eC (.int 20))) eNil))) eNil)))) (eCons (eTup (eCons (eC (.str "add")) (eCons (eV 4) (eCons (eCallR 1 0 m__law_take (eCons (eBin powD (eC (.int 10)) (eC (.int 20))) eNil)) eNil)))) eNil)))) sNil)
    (sSet 3 (eBin addD (eV 3) (eV 9))))))
    (sSeq (sNew 5 eNil)
    (sSeq (sFor (eIts (eBin ixD (eV 1) (eC (.int 2)))) (hNm 6) (sSeq (sSet 10 (eBin ixD (eV 6) (eC (.int 4))))
    (sSeq (sIf (eNot (eT truD (eMap (eCons (eV 10) eNil) (arN 1 m__law_whole)))) (sSet 10 (eMap (eCons (eLc (eRg1 (eCons (eCallR 1 0 m__law_take (eCons (eC (.int 9)) eNil)) eNil)) [11] (hNm 11) eYes (eCallR 1 0 m__law_pick (eCons (eBin addD (eV 3) (eMap (eCons (eV 10) eNil) listD2)) eNil))) eNil) tupleD)) sNil)
    (sApp 5 (eBin addD (eSl (eV 6) eNo (ePt (eC (.int 4)))) (eTup (eCons (eV 10) eNil)))))))
    (sSeq (sNew 7 eNil)
    (sSeq (sFor (eIts (eSl (eV 1) (ePt (eC (.int 4))) (ePt (eC (.int 6))))) (hNm 8) (sApp 7 (eMap (eCons (eLc (eRg1 (eCons (eCallR 1 0 m__law_take (eCons (eC (.int 9)) eNil)) eNil)) [11] (hNm 11) eYes (eCallR 1 0 m__law_pick (eCons (eBin addD (eV 3) (eMap (eCons (eV 8) eNil) listD2)) eNil))) eNil) tupleD)))
    (sRet (eBin addD (eSl (eV 1) eNo (ePt (eC (.int 2)))) (eTup (eCons (eSeqO 5 .tuple) (eCons (eBin ixD (eV 1) (eC (.int 3))) (eCons (eIxO 7 (eC (.int 0))) (eCons (eIxO 7 (eC (.int 1))) (eCons (eBin ixD (eV 1) (eC (.int 6))) eNil))))))))))))))))
def m__law_wide : PyData → List PyData → Option (PyData × PyData) := runR 10 b__law_wide
theorem ok__law_wide {P : Program} {w : World} {K : PySem.W.Frag} {mg : Str → Option Value} {base : Heap} {f : Addr} {fd : FuncData} (F : Fun K "_law_wide" "_law_wide" s__law_wide f fd) (n_len : mg "len" = none) (n_list : mg "list" = none) (n_range : mg "range" = none) (n_tuple : mg "tuple" = none) (C__law_pick : CalG P w K mg base "_law_pick" 2 ["feed", "some"] (spR K 1 m__law_pick)) (C__law_take : CalG P w K mg base "_law_take" 1 ["feed", "many"] (spR K 1 m__law_take)) (C__law_whole : CalG P w K mg base "_law_whole" 1 ["found"] (spD K 1 m__law_whole)) :
    FnG P w K mg base 3 f fd ["feed", "library"] (spR K 1 m__law_wide) :=
  fn_RG F sc__law_wide (by decide) (fun cdv A outer s0 H E U hr gd =>
      show PSs _ _ (tS K U 1 b__law_wide) from
      (qs_cons (qs_set sc__law_wide.nd (i := 2) rfl (by first | exact Or.inl rfl | exact Or.inr rfl) (qe_lst (qa_cons (qe_ix (qe_var 1 (pv 1)) qe_int) (qa_cons qe_str (qa_cons qe_str (qa_cons qe_str qa_nil))))))
      (qs_cons (qs_set sc__law_wide.nd (i := 3) rfl (by first | exact Or.inl rfl | exact Or.inr rfl) (qe_lst (qa_cons (qe_tup (qa_cons qe_str (qa_cons (qc_callRG 0 C__law_pick hr gd (by decide) (pv 0) (qa_cons (qe_var 2 (pv 2)) qa_nil)) qa_nil))) (qa_cons (qe_tup (qa_cons qe_str (qa_cons (qc_callRG 0 C__law_pick hr gd (by decide) (pv 0) (qa_cons (qe_var 2 (pv 2)) qa_nil)) (qa_cons qe_str qa_nil)))) qa_nil))))
      (qs_cons (qs_set sc__law_wide.nd (i := 3) rfl (by first | exact Or.inl rfl | exact Or.inr rfl) (qe_add (qe_var 3 (pv 3)) (qe_lst (qa_cons (qe_tup (qa_cons qe_str (qa_cons (qc_callRG 0 C__law_take hr gd (by decide) (pv 0) (qa_cons (qe_pow qe_int qe_int) qa_nil)) qa_nil))) (qa_cons (qe_tup (qa_cons qe_str (qa_cons (qe_sub qe_int (qc_callRG 0 C__law_take hr gd (by decide) (pv 0) (qa_cons (qe_pow qe_int qe_int) qa_nil))) qa_nil))) qa_nil)))))
      (qs_cons (qs_for PySem.PassesOwn.never rfl (qi_range1 (by rfl) n_range (qa_cons (qe_callB call_len cd_len (by rfl) n_len (by decide +kernel) (qa_cons (qe_ix (qe_var 1 (pv 1)) qe_int) qa_nil)) qa_nil)) (qg_name sc__law_wide.nd (i := 4) rfl (by first | exact Or.inl rfl | exact Or.inr rfl)) (qs_cons (qs_set sc__law_wide.nd (i := 9) rfl (by first | exact Or.inl rfl | exact Or.inr rfl) (qe_lst (qa_cons (qe_tup (qa_cons qe_str (qa_cons (qe_var 4 (pv 4)) qa_nil))) qa_nil)))
      (qs_cons (qs_if (qt_tru (qe_ix (qe_ix (qe_ix (qe_var 1 (pv 1)) qe_int) (qe_var 4 (pv 4))) qe_int)) (qs_one (qs_set sc__law_wide.nd (i := 9) rfl (by first | exact Or.inl rfl | exact Or.inr rfl) (qe_lst (qa_cons (qe_tup (qa_cons qe_str (qa_cons (qe_var 4 (pv 4)) (qa_cons (qe_sub qe_int (qc_callRG 0 C__law_take hr gd (by decide) (pv 0) (qa_cons (qe_pow qe_int qe_int) qa_nil))) qa_nil)))) (qa_cons (qe_tup (qa_cons qe_str (qa_cons (qe_var 4 (pv 4)) (qa_cons (qc_callRG 0 C__law_take hr gd (by decide) (pv 0) (qa_cons (qe_pow qe_int qe_int) qa_nil)) qa_nil)))) qa_nil))))) qs_nil)
      (qs_one (qs_set sc__law_wide.nd (i := 3) rfl (by first | exact Or.inl rfl | exact Or.inr rfl) (qe_add (qe_var 3 (pv 3)) (qe_var 9 (pv 9))))))))
      (qs_cons (qs_new sc__law_wide.nd (i := 5) rfl (by first | exact Or.inl rfl | exact Or.inr rfl) qa_nil)
      (qs_cons (qs_for PySem.PassesOwn.never rfl (qi_its (qe_ix (qe_var 1 (pv 1)) qe_int)) (qg_name sc__law_wide.nd (i := 6) rfl (by first | exact Or.inl rfl | exact Or.inr rfl)) (qs_cons (qs_set sc__law_wide.nd (i := 10) rfl (by first | exact Or.inl rfl | exact Or.inr rfl) (qe_ix (qe_var 6 (pv 6)) qe_int))
      (qs_cons (qs_if (qt_not (qt_tru (qc_callG C__law_whole hr gd (by decide) (qa_cons (qe_var 10 (pv 10)) qa_nil)))) (qs_one (qs_set sc__law_wide.nd (i := 10) rfl (by first | exact Or.inl rfl | exact Or.inr rfl) (qe_callTy call_tuple_of cd_tuple (by rfl) n_tuple (by decide +kernel) (qa_cons (qe_lc (own := [("turn", 11)]) rfl sc__law_wide.nd (qi_range1 (by rfl) n_range (qa_cons (qc_callRG 0 C__law_take hr gd (by decide) (pv 0) (qa_cons qe_int qa_nil)) qa_nil)) (blkOk_by (own := [("turn", 11)]) (N := ["feed", "library", "names", "some", "k", "gives", "give", "ends", "rows", "kinds", "what", "turn"]) (sc := defScope s__law_wide) (by decide +kernel)) (by decide) (fun _ _ _ _ _ _ => (qg_name sc__law_wide.nd (i := 11) rfl (by first | exact Or.inl rfl | exact Or.inr rfl))) (fun _ _ _ _ _ _ => qts_nil) (fun _ _ _ _ _ _ => (qc_callRG 0 C__law_pick hr gd (by decide) (pv 0) (qa_cons (qe_add (qe_var 3 (pv 3)) (qe_callTy (call_list2 rfl) cd_list2 (by rfl) n_list (by decide +kernel) (qa_cons (qe_var 10 (pv 10)) qa_nil))) qa_nil)))) qa_nil)))) qs_nil)
      (qs_one (qs_app (i := 5) (pv 5) (qe_add (qe_slice (qe_var 6 (pv 6)) qo_none (qo_some qe_int)) (qe_tup (qa_cons (qe_var 10 (pv 10)) qa_nil))))))))
      (qs_cons (qs_new sc__law_wide.nd (i := 7) rfl (by first | exact Or.inl rfl | exact Or.inr rfl) qa_nil)
      (qs_cons (qs_for PySem.PassesOwn.never rfl (qi_its (qe_slice (qe_var 1 (pv 1)) (qo_some qe_int) (qo_some qe_int))) (qg_name sc__law_wide.nd (i := 8) rfl (by first | exact Or.inl rfl | exact Or.inr rfl)) (qs_one (qs_app (i := 7) (pv 7) (qe_callTy call_tuple_of cd_tuple (by rfl) n_tuple (by decide +kernel) (qa_cons (qe_lc (own := [("turn", 11)]) rfl sc__law_wide.nd (qi_range1 (by rfl) n_range (qa_cons (qc_callRG 0 C__law_take hr gd (by decide) (pv 0) (qa_cons qe_int qa_nil)) qa_nil)) (blkOk_by (own := [("turn", 11)]) (N := ["feed", "library", "names", "some", "k", "gives", "give", "ends", "rows", "kinds", "what", "turn"]) (sc := defScope s__law_wide) (by decide +kernel)) (by decide) (fun _ _ _ _ _ _ => (qg_name sc__law_wide.nd (i := 11) rfl (by first | exact Or.inl rfl | exact Or.inr rfl))) (fun _ _ _ _ _ _ => qts_nil) (fun _ _ _ _ _ _ => (qc_callRG 0 C__law_pick hr gd (by decide) (pv 0) (qa_cons (qe_add (qe_var 3 (pv 3)) (qe_callTy (call_list2 rfl) cd_list2 (by rfl) n_list (by decide +kernel) (qa_cons (qe_var 8 (pv 8)) qa_nil))) qa_nil)))) qa_nil)))))
      (qs_one (qs_ret (qe_add (qe_slice (qe_var 1 (pv 1)) qo_none (qo_some qe_int)) (qe_tup (qa_cons (qe_tupO 5 (pv 5) (by rfl) n_tuple (by decide +kernel)) (qa_cons (qe_ix (qe_var 1 (pv 1)) qe_int) (qa_cons (qe_ixO 7 (pv 7) qe_int) (qa_cons (qe_ixO 7 (pv 7) qe_int) (qa_cons (qe_ix (qe_var 1 (pv 1)) qe_int) qa_nil))))))))))))))))))
abbrev cEND : PyData := (.int 0)
abbrev cROW_PARTS : TC.SL := [("tell", ["number"]), ("show", ["cell"]), ("put", ["cell", "number"]), ("add", ["cell", "number"]), ("skip", ["cell"]), ("call", ["deed"]), ("bring", ["name"]), ("share", ["name"]), ("drop", ["name"]), ("ask", ["name", "name"])]
abbrev cSTUB : PyData := (.int 10)
/-! ### image -/
abbrev s_image : Stmt := topS 13
theorem sc_image : FnScope ["library", "uses", "stubs", "numbers", "places", "use", "rows", "row", "laid", "give"] ["library"] (defScope s_image) := ⟨rfl, rfl, rfl, by decide +kernel, rfl, by decide +kernel, by decide +kernel⟩
def b_image : Es := (sSeq (sSet 1 (eBin ixD (eV 0) (eC (.int 3))))
    (sSeq (sSet 2 (eMap (eCons (eV 0) eNil) (arN 1 m__places_of_stubs)))
    (sSeq (sSetF 3 (eLc (eRg1 (eCons (eMap (eCons (eV 1) eNil) lenD) eNil)) [5] (hNm 5) eYes (eGet (eV 2) (eV 5) (eC (.int 0)))))
    (sSeq (sSetF 4 (eLc (eEnumA (eV 1)) [5, 7] (hTup (hCons (hNm 5) (hCons (hNm 7) hNil)) 2) eYes (eTup (eCons (eV 5) (eCons (eIf (eT truD (eBin ixD (eV 7) (eC (.int 2)))) (eC (.str "cell")) (eC (.str "own"))) (eCons (eIf (eT truD (eBin ixD (eV 7) (eC (.int 2)))) (eV 5) (eBin dixD (eV 2) (eV 5))) eNil))))))
    (sSeq (TX.sExt 3 (eLc (eIts (eBin ixD (eV 0) (eC (.int 2)))) [9] (hNm 9) (eT truD (eMap (eCons (eBin ixD (eV 9) (eC (.int 4))) eNil) (arN 1 m_is_whole))) (eBin ixD (eV 9) (eC (.int 4)))))
    (sSeq (TX.sForK 2 (hNm 5) (TX.sExt 3 (eLst (eCons (eC cSTUB) (eCons (eV 5) (eCons (eC (.int 0)) eNil))))))
    (sSeq (sFor (eIts (eMap (eCons (eV 0) eNil) (arN 1 m__all_rows))) (hNm 6) (sSeq (sFor (eIts (eV 6)) (hNm 7) (sSeq (sSetF 8 (eMap (eCons (eV 7) eNil) (arN 1 m__laid_row)))
    (sSeq (sIf (eT blD (eBin inD (eBin ixD (TC.eUn (TC.ixT cROW_PARTS) (eBin ixD (eV 7) (eC (.int 0)))) (eC (.int 0))) (eTup (eCons (eC (.str "cell")) (eCons (eC (.str "deed")) eNil))))) (sApp 4 (eTup (eCons (eBin addD (eLenO 3) (eC (.int 1))) (eCons (eC (.str "own")) (eCons (eIxO 8 (eC (.int 1))) eNil))))) sNil)
    (TX.sExtO 3 8))))
    (TX.sExt 3 (eLst (eCons (eC cEND) (eCons (eC (.int 0)) (eCons (eC (.int 0)) eNil)))))))
    (sFrz 4 (sRet (eTup (eCons (eSeqO 3 .tuple) (eCons (eV 4) eNil))))))))))))
def m_image : List PyData → Option PyData := runD 9 b_image
theorem ok_image {P : Program} {w : World} {K : PySem.W.Frag} {mg : Str → Option Value} {base : Heap} {f : Addr} {fd : FuncData} (F : Fun K "image" "image" s_image f fd) (n_enumerate : mg "enumerate" = none) (n_len : mg "len" = none) (n_range : mg "range" = none) (n_tuple : mg "tuple" = none) (c_END : Glo K mg "END" cEND) (c_ROW_PARTS : TC.GloT K w mg "ROW_PARTS" cROW_PARTS) (c_STUB : Glo K mg "STUB" cSTUB) (C__all_rows : CalG P w K mg base "_all_rows" 2 ["library"] (spD K 1 m__all_rows)) (C__laid_row : CalG P w K mg base "_laid_row" 2 ["row"] (spN K 1 m__laid_row)) (C__places_of_stubs : CalG P w K mg base "_places_of_stubs" 2 ["library"] (spD K 1 m__places_of_stubs)) (C_is_whole : CalG P w K mg base "is_whole" 1 ["thing"] (spD K 1 m_is_whole)) :
    FnG P w K mg base 3 f fd ["library"] (spD K 1 m_image) :=
  fn_DG F sc_image (by decide) (fun cdv A outer s0 H E U hr gd =>
      show PSs _ _ (tS K U 0 b_image) from
      (qs_cons (qs_set sc_image.nd (i := 1) rfl (by first | exact Or.inl rfl | exact Or.inr rfl) (qe_ix (qe_var 0 (pv 0)) qe_int))
      (qs_cons (qs_set sc_image.nd (i := 2) rfl (by first | exact Or.inl rfl | exact Or.inr rfl) (qc_callG C__places_of_stubs hr gd (by decide) (qa_cons (qe_var 0 (pv 0)) qa_nil)))
      (qs_cons (qs_setLc (i := 3) (own := [("use", 5)]) rfl sc_image.nd rfl rfl (sw_true rfl rfl rfl (by decide +kernel)) (qi_range1 (by rfl) n_range (qa_cons (qe_callB call_len cd_len (by rfl) n_len (by decide +kernel) (qa_cons (qe_var 1 (pv 1)) qa_nil)) qa_nil)) (blkOk_by (own := [("use", 5)]) (N := ["library", "uses", "stubs", "numbers", "places", "use", "rows", "row", "laid", "give"]) (sc := defScope s_image) (by decide +kernel)) (by decide) (fun _ _ _ _ _ _ => (qg_name sc_image.nd (i := 5) rfl (by first | exact Or.inl rfl | exact Or.inr rfl))) (fun _ _ _ _ _ _ => qts_nil) (fun _ _ _ _ _ _ => (qe_get2 (room1 hr) (qe_var 2 (pv 2)) (qe_var 5 (pv 5)) qe_int ⟨by rfl, by rfl, by rfl, by rfl⟩))).2
      (qs_cons (qs_setLc (i := 4) (own := [("use", 5), ("row", 7)]) rfl sc_image.nd rfl rfl (sw_true rfl rfl rfl (by decide +kernel)) (qi_f (qi_enumA (by rfl) n_enumerate (qe_var 1 (pv 1)))) (blkOk_by (own := [("use", 5), ("row", 7)]) (N := ["library", "uses", "stubs", "numbers", "places", "use", "rows", "row", "laid", "give"]) (sc := defScope s_image) (by decide +kernel)) (by decide) (fun _ _ _ _ _ _ => (qg_tup rfl (qgs_cons (qg_name sc_image.nd (i := 5) rfl (by first | exact Or.inl rfl | exact Or.inr rfl)) (qgs_cons (qg_name sc_image.nd (i := 7) rfl (by first | exact Or.inl rfl | exact Or.inr rfl)) qgs_nil)))) (fun _ _ _ _ _ _ => qts_nil) (fun _ _ _ _ _ _ => (qe_tup (qa_cons (qe_var 5 (pv 5)) (qa_cons (qe_if (qt_tru (qe_ix (qe_var 7 (pv 7)) qe_int)) qe_str qe_str) (qa_cons (qe_if (qt_tru (qe_ix (qe_var 7 (pv 7)) qe_int)) (qe_var 5 (pv 5)) (qe_dIx (room1 hr) (qe_var 2 (pv 2)) (qe_var 5 (pv 5)))) qa_nil)))))).2
      (qs_cons (TX.qs_ext (i := 3) (pv 3) (qn_lc (own := [("give", 9)]) rfl sc_image.nd (qi_its (qe_ix (qe_var 0 (pv 0)) qe_int)) (blkOk_by (own := [("give", 9)]) (N := ["library", "uses", "stubs", "numbers", "places", "use", "rows", "row", "laid", "give"]) (sc := defScope s_image) (by decide +kernel)) (by decide) (fun _ _ _ _ _ _ => (qg_name sc_image.nd (i := 9) rfl (by first | exact Or.inl rfl | exact Or.inr rfl))) (fun _ _ _ _ _ _ => (qts_one (qt_tru (qc_callG C_is_whole hr gd (by decide) (qa_cons (qe_ix (qe_var 9 (pv 9)) qe_int) qa_nil))))) (fun _ _ _ _ _ _ => (qe_ix (qe_var 9 (pv 9)) qe_int))))
      (qs_cons (TX.qs_forK 2 (pv 2) PySem.PassesOwn.never rfl (qg_name sc_image.nd (i := 5) rfl (by first | exact Or.inl rfl | exact Or.inr rfl)) (qs_one (TX.qs_ext (i := 3) (pv 3) (qn_lst (qa_cons (qc_glo c_STUB) (qa_cons (qe_var 5 (pv 5)) (qa_cons qe_int qa_nil)))))))
      (qs_cons (qs_for PySem.PassesOwn.never rfl (qi_its (qc_callG C__all_rows hr gd (by decide) (qa_cons (qe_var 0 (pv 0)) qa_nil))) (qg_name sc_image.nd (i := 6) rfl (by first | exact Or.inl rfl | exact Or.inr rfl)) (qs_cons (qs_for PySem.PassesOwn.never rfl (qi_its (qe_var 6 (pv 6))) (qg_name sc_image.nd (i := 7) rfl (by first | exact Or.inl rfl | exact Or.inr rfl)) (qs_cons (qs_setF sc_image.nd (i := 8) rfl (by first | exact Or.inl rfl | exact Or.inr rfl) (qn_callG C__laid_row hr gd (by decide) (qa_cons (qe_var 7 (pv 7)) qa_nil)))
      (qs_cons (qs_if (qt_cmp (or_inAll (room65 hr)) od_in (qe_ix (TC.qe_ixT c_ROW_PARTS (qe_ix (qe_var 7 (pv 7)) qe_int)) qe_int) (qe_tup (qa_cons qe_str (qa_cons qe_str qa_nil))) (by rfl)) (qs_one (qs_app (i := 4) (pv 4) (qe_tup (qa_cons (qe_add (qe_lenO 3 (pv 3) (by rfl) rfl n_len (by decide +kernel)) qe_int) (qa_cons qe_str (qa_cons (qe_ixO 8 (pv 8) qe_int) qa_nil)))))) qs_nil)
      (qs_one (TX.qs_extO (i := 3) (j := 8) (pv 3) (pv 8))))))
      (qs_one (TX.qs_ext (i := 3) (pv 3) (qn_lst (qa_cons (qc_glo c_END) (qa_cons qe_int (qa_cons qe_int qa_nil))))))))
      (qs_frz 4 (qs_one (qs_ret (qe_tup (qa_cons (qe_tupO 3 (pv 3) (by rfl) n_tuple (by decide +kernel)) (qa_cons (qe_var 4 (pv 4)) qa_nil))))))))))))))
/-! ### begins -/
abbrev s_begins : Stmt := topS 14
theorem sc_begins : FnScope ["library", "gives", "in_cells", "cells", "stubs", "at", "starts", "rows", "in_deeds", "give", "row"] ["library"] (defScope s_begins) := ⟨rfl, rfl, rfl, by decide +kernel, rfl, by decide +kernel, by decide +kernel⟩
def b_begins : Es := (sSeq (sSet 1 (eBin ixD (eV 0) (eC (.int 2))))
    (sSeq (sSet 2 (eLc (eEnumA (eV 1)) [9, 10] (hTup (hCons (hNm 9) (hCons (hNm 10) hNil)) 2) (eT truD (eMap (eCons (eBin ixD (eV 10) (eC (.int 4))) eNil) (arN 1 m_is_whole))) (eV 9)))
    (sSeq (sSetF 3 (eDc (eEnumA (eV 2)) [5, 9] (hTup (hCons (hNm 5) (hCons (hNm 9) hNil)) 2) eYes (eV 9) (eBin addD (eMap (eCons (eBin ixD (eV 0) (eC (.int 3))) eNil) lenD) (eV 5))))
    (sSeq (sSet 4 (eMap (eCons (eV 0) eNil) (arN 1 m__places_of_stubs)))
    (sSeq (sSet 5 (eBin addD (eBin addD (eMap (eCons (eBin ixD (eV 0) (eC (.int 3))) eNil) lenD) (TX.eLenDO 3)) (eBin mulD (eC cSTEP) (eMap (eCons (eV 4) eNil) TX.lenM))))
    (sSeq (sNew 6 eNil)
    (sSeq (sFor (eIts (eMap (eCons (eV 0) eNil) (arN 1 m__all_rows))) (hNm 7) (sSeq (sApp 6 (eV 5))
    (sAug 5 addI (eBin mulD (eC cSTEP) (eBin addD (eMap (eCons (eV 7) eNil) lenD) (eC (.int 1)))))))
    (sSeq (sSet 8 (eLc (eRg1 (eCons (eMap (eCons (eV 1) eNil) lenD) eNil)) [9] (hNm 9) (eT blD (eInO 3 (dinD true) (eV 9))) (eV 9)))
    (sFrz 6 (sFrz 3 (sRet (eTup (eCons (eV 3) (eCons (eBin TX.zipD (eV 8) (eV 6)) (eCons (eBin ixD (eV 6) (eMap (eC (.int 2)) negD)) (eCons (eBin ixD (eV 6) (eMap (eC (.int 1)) negD)) eNil))))))))))))))))
def m_begins : List PyData → Option PyData := runD 10 b_begins
theorem ok_begins {P : Program} {w : World} {K : PySem.W.Frag} {mg : Str → Option Value} {base : Heap} {f : Addr} {fd : FuncData} (F : Fun K "begins" "begins" s_begins f fd) (n_dict : mg "dict" = none) (n_enumerate : mg "enumerate" = none) (n_len : mg "len" = none) (n_range : mg "range" = none) (n_zip : mg "zip" = none) (c_STEP : Glo K mg "STEP" cSTEP) (C__all_rows : CalG P w K mg base "_all_rows" 2 ["library"] (spD K 1 m__all_rows)) (C__places_of_stubs : CalG P w K mg base "_places_of_stubs" 2 ["library"] (spD K 1 m__places_of_stubs)) (C_is_whole : CalG P w K mg base "is_whole" 1 ["thing"] (spD K 1 m_is_whole)) :
    FnG P w K mg base 3 f fd ["library"] (spD K 1 m_begins) :=
  fn_DG F sc_begins (by decide) (fun cdv A outer s0 H E U hr gd =>
      show PSs _ _ (tS K U 0 b_begins) from
      (qs_cons (qs_set sc_begins.nd (i := 1) rfl (by first | exact Or.inl rfl | exact Or.inr rfl) (qe_ix (qe_var 0 (pv 0)) qe_int))
      (qs_cons (qs_setLc (i := 2) (own := [("give", 9), ("row", 10)]) rfl sc_begins.nd rfl rfl (sw_true rfl rfl rfl (by decide +kernel)) (qi_f (qi_enumA (by rfl) n_enumerate (qe_var 1 (pv 1)))) (blkOk_by (own := [("give", 9), ("row", 10)]) (N := ["library", "gives", "in_cells", "cells", "stubs", "at", "starts", "rows", "in_deeds", "give", "row"]) (sc := defScope s_begins) (by decide +kernel)) (by decide) (fun _ _ _ _ _ _ => (qg_tup rfl (qgs_cons (qg_name sc_begins.nd (i := 9) rfl (by first | exact Or.inl rfl | exact Or.inr rfl)) (qgs_cons (qg_name sc_begins.nd (i := 10) rfl (by first | exact Or.inl rfl | exact Or.inr rfl)) qgs_nil)))) (fun _ _ _ _ _ _ => (qts_one (qt_tru (qc_callG C_is_whole hr gd (by decide) (qa_cons (qe_ix (qe_var 10 (pv 10)) qe_int) qa_nil))))) (fun _ _ _ _ _ _ => (qe_var 9 (pv 9)))).1
      (qs_cons (qs_setF sc_begins.nd (i := 3) rfl (by first | exact Or.inl rfl | exact Or.inr rfl) (qn_dc (own := [("at", 5), ("give", 9)]) rfl sc_begins.nd (qi_f (qi_enumA (by rfl) n_enumerate (qe_var 2 (pv 2)))) (blkOk_by (own := [("at", 5), ("give", 9)]) (N := ["library", "gives", "in_cells", "cells", "stubs", "at", "starts", "rows", "in_deeds", "give", "row"]) (sc := defScope s_begins) (by decide +kernel)) (by decide) (fun _ _ _ _ _ _ => (qg_tup rfl (qgs_cons (qg_name sc_begins.nd (i := 5) rfl (by first | exact Or.inl rfl | exact Or.inr rfl)) (qgs_cons (qg_name sc_begins.nd (i := 9) rfl (by first | exact Or.inl rfl | exact Or.inr rfl)) qgs_nil)))) (fun _ _ _ _ _ _ => qts_nil) (fun _ _ _ _ _ _ => (qe_var 9 (pv 9))) (fun _ _ _ _ _ _ => (qe_add (qe_callB call_len cd_len (by rfl) n_len (by decide +kernel) (qa_cons (qe_ix (qe_var 0 (pv 0)) qe_int) qa_nil)) (qe_var 5 (pv 5))))))
      (qs_cons (qs_set sc_begins.nd (i := 4) rfl (by first | exact Or.inl rfl | exact Or.inr rfl) (qc_callG C__places_of_stubs hr gd (by decide) (qa_cons (qe_var 0 (pv 0)) qa_nil)))
      (qs_cons (qs_set sc_begins.nd (i := 5) rfl (by first | exact Or.inl rfl | exact Or.inr rfl) (qe_add (qe_add (qe_callB call_len cd_len (by rfl) n_len (by decide +kernel) (qa_cons (qe_ix (qe_var 0 (pv 0)) qe_int) qa_nil)) (TX.qe_lenDO 3 (pv 3) (by rfl) rfl n_len (by decide +kernel))) (qe_mul (qc_glo c_STEP) (qe_callB TX.call_lenM TX.cd_lenM (by rfl) n_len (by decide +kernel) (qa_cons (qe_var 4 (pv 4)) qa_nil)))))
      (qs_cons (qs_new sc_begins.nd (i := 6) rfl (by first | exact Or.inl rfl | exact Or.inr rfl) qa_nil)
      (qs_cons (qs_for PySem.PassesOwn.never rfl (qi_its (qc_callG C__all_rows hr gd (by decide) (qa_cons (qe_var 0 (pv 0)) qa_nil))) (qg_name sc_begins.nd (i := 7) rfl (by first | exact Or.inl rfl | exact Or.inr rfl)) (qs_cons (qs_app (i := 6) (pv 6) (qe_var 5 (pv 5)))
      (qs_one (qs_aug (i := 5) or_addI od_addI sc_begins.nd rfl (by first | exact Or.inl rfl | exact Or.inr rfl) (qe_mul (qc_glo c_STEP) (qe_add (qe_callB call_len cd_len (by rfl) n_len (by decide +kernel) (qa_cons (qe_var 7 (pv 7)) qa_nil)) qe_int))))))
      (qs_cons (qs_setLc (i := 8) (own := [("give", 9)]) rfl sc_begins.nd rfl rfl (sw_true rfl rfl rfl (by decide +kernel)) (qi_range1 (by rfl) n_range (qa_cons (qe_callB call_len cd_len (by rfl) n_len (by decide +kernel) (qa_cons (qe_var 1 (pv 1)) qa_nil)) qa_nil)) (blkOk_by (own := [("give", 9)]) (N := ["library", "gives", "in_cells", "cells", "stubs", "at", "starts", "rows", "in_deeds", "give", "row"]) (sc := defScope s_begins) (by decide +kernel)) (by decide) (fun _ _ _ _ _ _ => (qg_name sc_begins.nd (i := 9) rfl (by first | exact Or.inl rfl | exact Or.inr rfl))) (fun _ _ _ _ _ _ => (qts_one (qt_dNotInO 3 (room1 hr) (qe_var 9 (pv 9)) (pv 3)))) (fun _ _ _ _ _ _ => (qe_var 9 (pv 9)))).1
      (qs_frz 6 (qs_frz 3 (qs_one (qs_ret (qe_tup (qa_cons (qe_var 3 (pv 3)) (qa_cons (qe_new (TX.qn_dictZip rfl (by rfl) n_dict (by rfl) n_zip (qe_var 8 (pv 8)) (qe_var 6 (pv 6)))) (qa_cons (qe_ix (qe_var 6 (pv 6)) (qe_neg qe_int)) (qa_cons (qe_ix (qe_var 6 (pv 6)) (qe_neg qe_int)) qa_nil))))))))))))))))))
/-! ### wrong_place -/
abbrev s_wrong_place : Stmt := topS 16
theorem sc_wrong_place : FnScope ["library", "base", "thing", "laid", "slots", "free", "lies", "wrong", "at", "use", "number"] ["library", "base", "thing"] (defScope s_wrong_place) := ⟨rfl, rfl, rfl, by decide +kernel, rfl, by decide +kernel, by decide +kernel⟩
def b_wrong_place : Es := (sSeq (sSet 3 (eMap (eCons (eV 0) eNil) (arN 1 m_image)))
    (sSeq (sIf (eOr (eNot (eT truD (eMap (eV 2) (isiD "list")))) (eT blD (eBin neX (eMap (eCons (eV 2) eNil) lenD) (eMap (eCons (eBin ixD (eV 3) (eC (.int 0))) eNil) lenD)))) (sRet (eMap (eC (.int 1)) negD)) sNil)
    (sSeq (sIf (eNot (eT truD (eMap (eCons (eLc (eIts (eV 2)) [10] (hNm 10) eYes (eMap (eCons (eV 10) eNil) (arN 1 m_is_whole))) eNil) allD))) (sRet (eMap (eC (.int 1)) negD)) sNil)
    (sSeq (sSet 4 (eMap (eCons (eBin ixD (eV 0) (eC (.int 3))) eNil) lenD))
    (sSeq (sSet 5 (eBin addD (eV 4) (eMap (eCons (eBin ixD (eMap (eCons (eV 0) eNil) (arN 1 m_begins)) (eC (.int 0))) eNil) TX.lenM)))
    (sSeq (sSetF 6 (eMap (eCons (eV 3) (eCons (eV 1) (eCons (eDc (eRg1 (eCons (eV 4) eNil)) [9] (hNm 9) eYes (eV 9) (eC (.int 0))) eNil))) (arN 3 m_filled)))
    (sSeq (sSet 7 (eLc (eRg2 (eCons (eV 5) (eCons (eLenO 6) eNil))) [8] (hNm 8) (eT blD (eBin neX (eBin ixD (eV 2) (eV 8)) (eIxO 6 (eV 8)))) (eV 8)))
    (sRet (eIf (eT truD (eV 7)) (eBin ixD (eV 7) (eC (.int 0))) (eC .none))))))))))
def m_wrong_place : List PyData → Option PyData := runD 8 b_wrong_place
theorem ok_wrong_place {P : Program} {w : World} {K : PySem.W.Frag} {mg : Str → Option Value} {base : Heap} {f : Addr} {fd : FuncData} (F : Fun K "wrong_place" "wrong_place" s_wrong_place f fd) (n_all : mg "all" = none) (n_isinstance : mg "isinstance" = none) (n_len : mg "len" = none) (n_list : mg "list" = none) (n_range : mg "range" = none) (C_begins : CalG P w K mg base "begins" 3 ["library"] (spD K 1 m_begins)) (C_filled : CalG P w K mg base "filled" 1 ["image", "base", "addresses"] (spN K 3 m_filled)) (C_image : CalG P w K mg base "image" 3 ["library"] (spD K 1 m_image)) (C_is_whole : CalG P w K mg base "is_whole" 1 ["thing"] (spD K 1 m_is_whole)) :
    FnG P w K mg base 4 f fd ["library", "base", "thing"] (spD K 3 m_wrong_place) :=
  fn_DG F sc_wrong_place (by decide) (fun cdv A outer s0 H E U hr gd =>
      show PSs _ _ (tS K U 0 b_wrong_place) from
      (qs_cons (qs_set sc_wrong_place.nd (i := 3) rfl (by first | exact Or.inl rfl | exact Or.inr rfl) (qc_callG C_image hr gd (by decide) (qa_cons (qe_var 0 (pv 0)) qa_nil)))
      (qs_cons (qs_if (PW.pt (qw_or (qt_not (qt_tru (qe_isi (T := "list") (by decide +kernel) (by rfl) n_isinstance (by rfl) n_list (by decide +kernel) (qe_var 2 (pv 2))))) (qw_or1 (qt_cmp (op_neX hr.units) od_neX (qe_callB call_len cd_len (by rfl) n_len (by decide +kernel) (qa_cons (qe_var 2 (pv 2)) qa_nil)) (qe_callB call_len cd_len (by rfl) n_len (by decide +kernel) (qa_cons (qe_ix (qe_var 3 (pv 3)) qe_int) qa_nil)) (by rfl))))) (qs_one (qs_ret (qe_neg qe_int))) qs_nil)
      (qs_cons (qs_if (qt_not (qt_tru (qe_callB (cr_all rfl) cd_all (by rfl) n_all (by decide +kernel) (qa_cons (qe_lc (own := [("number", 10)]) rfl sc_wrong_place.nd (qi_its (qe_var 2 (pv 2))) (blkOk_by (own := [("number", 10)]) (N := ["library", "base", "thing", "laid", "slots", "free", "lies", "wrong", "at", "use", "number"]) (sc := defScope s_wrong_place) (by decide +kernel)) (by decide) (fun _ _ _ _ _ _ => (qg_name sc_wrong_place.nd (i := 10) rfl (by first | exact Or.inl rfl | exact Or.inr rfl))) (fun _ _ _ _ _ _ => qts_nil) (fun _ _ _ _ _ _ => (qc_callG C_is_whole hr gd (by decide) (qa_cons (qe_var 10 (pv 10)) qa_nil)))) qa_nil)))) (qs_one (qs_ret (qe_neg qe_int))) qs_nil)
      (qs_cons (qs_set sc_wrong_place.nd (i := 4) rfl (by first | exact Or.inl rfl | exact Or.inr rfl) (qe_callB call_len cd_len (by rfl) n_len (by decide +kernel) (qa_cons (qe_ix (qe_var 0 (pv 0)) qe_int) qa_nil)))
      (qs_cons (qs_set sc_wrong_place.nd (i := 5) rfl (by first | exact Or.inl rfl | exact Or.inr rfl) (qe_add (qe_var 4 (pv 4)) (qe_callB TX.call_lenM TX.cd_lenM (by rfl) n_len (by decide +kernel) (qa_cons (qe_ix (qc_callG C_begins hr gd (by decide) (qa_cons (qe_var 0 (pv 0)) qa_nil)) qe_int) qa_nil))))
      (qs_cons (qs_setF sc_wrong_place.nd (i := 6) rfl (by first | exact Or.inl rfl | exact Or.inr rfl) (qn_callG C_filled hr gd (by decide) (qa_cons (qe_var 3 (pv 3)) (qa_cons (qe_var 1 (pv 1)) (qa_cons (qe_new (qn_dc (own := [("use", 9)]) rfl sc_wrong_place.nd (qi_range1 (by rfl) n_range (qa_cons (qe_var 4 (pv 4)) qa_nil)) (blkOk_by (own := [("use", 9)]) (N := ["library", "base", "thing", "laid", "slots", "free", "lies", "wrong", "at", "use", "number"]) (sc := defScope s_wrong_place) (by decide +kernel)) (by decide) (fun _ _ _ _ _ _ => (qg_name sc_wrong_place.nd (i := 9) rfl (by first | exact Or.inl rfl | exact Or.inr rfl))) (fun _ _ _ _ _ _ => qts_nil) (fun _ _ _ _ _ _ => (qe_var 9 (pv 9))) (fun _ _ _ _ _ _ => qe_int))) qa_nil)))))
      (qs_cons (qs_setLc (i := 7) (own := [("at", 8)]) rfl sc_wrong_place.nd rfl rfl (sw_true rfl rfl rfl (by decide +kernel)) (qi_range2 (by rfl) n_range (qa_cons (qe_var 5 (pv 5)) (qa_cons (qe_lenO 6 (pv 6) (by rfl) rfl n_len (by decide +kernel)) qa_nil))) (blkOk_by (own := [("at", 8)]) (N := ["library", "base", "thing", "laid", "slots", "free", "lies", "wrong", "at", "use", "number"]) (sc := defScope s_wrong_place) (by decide +kernel)) (by decide) (fun _ _ _ _ _ _ => (qg_name sc_wrong_place.nd (i := 8) rfl (by first | exact Or.inl rfl | exact Or.inr rfl))) (fun _ _ _ _ _ _ => (qts_one (qt_cmp (op_neX hr.units) od_neX (qe_ix (qe_var 2 (pv 2)) (qe_var 8 (pv 8))) (qe_ixO 6 (pv 6) (qe_var 8 (pv 8))) (by rfl)))) (fun _ _ _ _ _ _ => (qe_var 8 (pv 8)))).1
      (qs_one (qs_ret (qe_if (qt_tru (qe_var 7 (pv 7))) (qe_ix (qe_var 7 (pv 7)) qe_int) qe_non)))))))))))
/-! ### _law_right -/
abbrev s__law_right : Stmt := topS 32
theorem sc__law_right : FnScope ["library", "found", "base", "addresses", "spots", "deeds", "first", "last", "k", "give", "use", "at"] ["library", "found", "base", "addresses"] (defScope s__law_right) := ⟨rfl, rfl, rfl, by decide +kernel, rfl, by decide +kernel, by decide +kernel⟩
def b__law_right : Es := (sSeq (sAsg (eMap (eCons (eV 0) eNil) (arN 1 m_begins)) (hTup (hCons (hNm 4) (hCons (hNm 5) (hCons (hNm 6) (hCons (hNm 7) hNil)))) 4))
    (sSeq (sFor (eEnumA (eBin ixD (eV 0) (eC (.int 2)))) (hTup (hCons (hNm 8) (hCons (hNm 9) hNil)) 2) (sSeq (sIf (eAnd (eT truD (eMap (eCons (eBin ixD (eV 9) (eC (.int 4))) eNil) (arN 1 m__law_whole))) (eT blD (eBin neX (eBin ixD (eV 1) (eBin dixD (eV 4) (eV 8))) (eBin ixD (eV 9) (eC (.int 4)))))) (sRet (eC (.bool false))) sNil)
    (sIf (eAnd (eNot (eT truD (eMap (eCons (eBin ixD (eV 9) (eC (.int 4))) eNil) (arN 1 m__law_whole)))) (eT blD (eBin neX (eMap (eCons (eV 1) (eCons (eV 2) (eCons (eBin dixD (eV 5) (eV 8)) eNil))) (arN 3 m__law_back)) (eBin ixD (eV 9) (eC (.int 4)))))) (sRet (eC (.bool false))) sNil)))
    (sSeq (sFor (eEnumA (eBin ixD (eV 0) (eC (.int 3)))) (hTup (hCons (hNm 8) (hCons (hNm 10) hNil)) 2) (sSeq (sIf (eAnd (eT truD (eBin ixD (eV 10) (eC (.int 2)))) (eT blD (eBin neX (eBin ixD (eV 1) (eV 8)) (eBin dixD (eV 3) (eV 8))))) (sRet (eC (.bool false))) sNil)
    (sSeq (sSet 11 (eBin subD (eBin ixD (eV 1) (eV 8)) (eV 2)))
    (sIf (eAnd (eNot (eT truD (eBin ixD (eV 10) (eC (.int 2))))) (eT blD (eBin neX (eSl (eV 1) (ePt (eV 11)) (ePt (eBin addD (eV 11) (eC (.int 3))))) (eLst (eCons (eC (.int 10)) (eCons (eV 8) (eCons (eC (.int 0)) eNil))))))) (sRet (eC (.bool false))) sNil))))
    (sSeq (sIf (eT blD (eBin neX (eMap (eCons (eV 1) (eCons (eV 2) (eCons (eV 6) eNil))) (arN 3 m__law_back)) (eBin ixD (eV 0) (eC (.int 4))))) (sRet (eC (.bool false))) sNil)
    (sRet (eBin eqX (eMap (eCons (eV 1) (eCons (eV 2) (eCons (eV 7) eNil))) (arN 3 m__law_back)) (eBin ixD (eV 0) (eC (.int 5)))))))))
def m__law_right : List PyData → Option PyData := runD 8 b__law_right
theorem ok__law_right {P : Program} {w : World} {K : PySem.W.Frag} {mg : Str → Option Value} {base : Heap} {f : Addr} {fd : FuncData} (F : Fun K "_law_right" "_law_right" s__law_right f fd) (n_enumerate : mg "enumerate" = none) (C__law_back : CalG P w K mg base "_law_back" 2 ["found", "base", "at"] (spD K 3 m__law_back)) (C__law_whole : CalG P w K mg base "_law_whole" 1 ["found"] (spD K 1 m__law_whole)) (C_begins : CalG P w K mg base "begins" 3 ["library"] (spD K 1 m_begins)) :
    FnG P w K mg base 4 f fd ["library", "found", "base", "addresses"] (spD K 4 m__law_right) :=
  fn_DG F sc__law_right (by decide) (fun cdv A outer s0 H E U hr gd =>
      show PSs _ _ (tS K U 0 b__law_right) from
      (qs_cons (qs_asg (qc_callG C_begins hr gd (by decide) (qa_cons (qe_var 0 (pv 0)) qa_nil)) (qg_tup rfl (qgs_cons (qg_name sc__law_right.nd (i := 4) rfl (by first | exact Or.inl rfl | exact Or.inr rfl)) (qgs_cons (qg_name sc__law_right.nd (i := 5) rfl (by first | exact Or.inl rfl | exact Or.inr rfl)) (qgs_cons (qg_name sc__law_right.nd (i := 6) rfl (by first | exact Or.inl rfl | exact Or.inr rfl)) (qgs_cons (qg_name sc__law_right.nd (i := 7) rfl (by first | exact Or.inl rfl | exact Or.inr rfl)) qgs_nil))))))
      (qs_cons (qs_for PySem.PassesOwn.never rfl (qi_f (qi_enumA (by rfl) n_enumerate (qe_ix (qe_var 0 (pv 0)) qe_int))) (qg_tup rfl (qgs_cons (qg_name sc__law_right.nd (i := 8) rfl (by first | exact Or.inl rfl | exact Or.inr rfl)) (qgs_cons (qg_name sc__law_right.nd (i := 9) rfl (by first | exact Or.inl rfl | exact Or.inr rfl)) qgs_nil))) (qs_cons (qs_if (PW.pt (qw_and (qt_tru (qc_callG C__law_whole hr gd (by decide) (qa_cons (qe_ix (qe_var 9 (pv 9)) qe_int) qa_nil))) (qw_and1 (qt_cmp (op_neX hr.units) od_neX (qe_ix (qe_var 1 (pv 1)) (qe_dIx (room1 hr) (qe_var 4 (pv 4)) (qe_var 8 (pv 8)))) (qe_ix (qe_var 9 (pv 9)) qe_int) (by rfl))))) (qs_one (qs_ret qe_bl)) qs_nil)
      (qs_one (qs_if (PW.pt (qw_and (qt_not (qt_tru (qc_callG C__law_whole hr gd (by decide) (qa_cons (qe_ix (qe_var 9 (pv 9)) qe_int) qa_nil)))) (qw_and1 (qt_cmp (op_neX hr.units) od_neX (qc_callG C__law_back hr gd (by decide) (qa_cons (qe_var 1 (pv 1)) (qa_cons (qe_var 2 (pv 2)) (qa_cons (qe_dIx (room1 hr) (qe_var 5 (pv 5)) (qe_var 8 (pv 8))) qa_nil)))) (qe_ix (qe_var 9 (pv 9)) qe_int) (by rfl))))) (qs_one (qs_ret qe_bl)) qs_nil))))
      (qs_cons (qs_for PySem.PassesOwn.never rfl (qi_f (qi_enumA (by rfl) n_enumerate (qe_ix (qe_var 0 (pv 0)) qe_int))) (qg_tup rfl (qgs_cons (qg_name sc__law_right.nd (i := 8) rfl (by first | exact Or.inl rfl | exact Or.inr rfl)) (qgs_cons (qg_name sc__law_right.nd (i := 10) rfl (by first | exact Or.inl rfl | exact Or.inr rfl)) qgs_nil))) (qs_cons (qs_if (PW.pt (qw_and (qt_tru (qe_ix (qe_var 10 (pv 10)) qe_int)) (qw_and1 (qt_cmp (op_neX hr.units) od_neX (qe_ix (qe_var 1 (pv 1)) (qe_var 8 (pv 8))) (qe_dIx (room1 hr) (qe_var 3 (pv 3)) (qe_var 8 (pv 8))) (by rfl))))) (qs_one (qs_ret qe_bl)) qs_nil)
      (qs_cons (qs_set sc__law_right.nd (i := 11) rfl (by first | exact Or.inl rfl | exact Or.inr rfl) (qe_sub (qe_ix (qe_var 1 (pv 1)) (qe_var 8 (pv 8))) (qe_var 2 (pv 2))))
      (qs_one (qs_if (PW.pt (qw_and (qt_not (qt_tru (qe_ix (qe_var 10 (pv 10)) qe_int))) (qw_and1 (qt_cmp (op_neX hr.units) od_neX (qe_slice (qe_var 1 (pv 1)) (qo_some (qe_var 11 (pv 11))) (qo_some (qe_add (qe_var 11 (pv 11)) qe_int))) (qe_lst (qa_cons qe_int (qa_cons (qe_var 8 (pv 8)) (qa_cons qe_int qa_nil)))) (by rfl))))) (qs_one (qs_ret qe_bl)) qs_nil)))))
      (qs_cons (qs_if (qt_cmp (op_neX hr.units) od_neX (qc_callG C__law_back hr gd (by decide) (qa_cons (qe_var 1 (pv 1)) (qa_cons (qe_var 2 (pv 2)) (qa_cons (qe_var 6 (pv 6)) qa_nil)))) (qe_ix (qe_var 0 (pv 0)) qe_int) (by rfl)) (qs_one (qs_ret qe_bl)) qs_nil)
      (qs_one (qs_ret (qe_cmp (op_eqX hr.units) od_eqX (qc_callG C__law_back hr gd (by decide) (qa_cons (qe_var 1 (pv 1)) (qa_cons (qe_var 2 (pv 2)) (qa_cons (qe_var 7 (pv 7)) qa_nil)))) (qe_ix (qe_var 0 (pv 0)) qe_int) (by rfl)))))))))
open NG
/-! ### law -/
abbrev s_law : Stmt := topS 34
theorem sc_law : FnScope ["script", "feed", "drawn", "library", "addresses", "k", "whole", "both", "base", "found", "at", "kind"] ["script"] (defScope s_law) := ⟨rfl, rfl, rfl, by decide +kernel, rfl, by decide +kernel, by decide +kernel⟩
def b_law : NG.Gs := (gsSeq (lS (sSetF 1 (eMap (eCons (eV 0) (eCons (eC (.int 0)) eNil)) (arN 2 m__law_feed))))
    (gsSeq (gsFor (lI (eIts (eCallR 1 1 m__law_shelf (eCons (eC (.int 8)) eNil)))) (lH (hNm 2)) (gsSeq (lS (sSet 3 (eCallR 1 1 m__law_pick (eCons (eLst (eCons (eV 2) (eCons (eCallR 1 1 m__law_wide (eCons (eV 2) eNil)) eNil))) eNil))))
    (gsSeq (lS (sSetF 4 eDct))
    (gsSeq (lS (sFor (eRg1 (eCons (eMap (eCons (eBin ixD (eV 3) (eC (.int 3))) eNil) lenD) eNil)) (hNm 5) (sIf (eT truD (eBin ixD (eBin ixD (eBin ixD (eV 3) (eC (.int 3))) (eV 5)) (eC (.int 2)))) (sDput 4 (eCallR 1 1 m__law_take (eCons (eC (.int 5000)) eNil)) (eV 5)) sNil)))
    (gsSeq (lS (sSet 6 (eMap (eCons (eV 3) eNil) (arN 1 m_image))))
    (gsSeq (gsSet 7 (lN (eLst eNil)))
    (gsFrz 4 (gsSeq (gsFor (lI (eIts (eLst (eCons (eCallR 1 1 m__law_take (eCons (eC (.int 3000)) eNil)) (eCons (eCallR 1 1 m__law_take (eCons (eBin powD (eC (.int 10)) (eC (.int 20))) eNil)) eNil))))) (lH (hNm 8)) (gsSeq (gsSet 9 (lN (eMap (eCons (eV 6) (eCons (eV 8) (eCons (eV 4) eNil))) (arN 3 m_filled))))
    (gsSeq (gsIf (gSnT (eNot (eT truD (eMap (eCons (eV 3) (eCons (eV 9) (eCons (eV 8) (eCons (eV 4) eNil)))) (arN 4 m__law_right))))) (gsRet (lE (eC (.bool false)))) gsNil)
    (gsSeq (gsIf (gSnT (eT blD (eBin isNotD (eMap (eCons (eV 3) (eCons (eV 8) (eCons (eV 9) eNil))) (arN 3 m_wrong_place)) (eC .none)))) (gsRet (lE (eC (.bool false)))) gsNil)
    (gsDrop (gLm appL (gVar 7) (gCons (gTup (gCons (lE (eV 8)) (gCons (gVar 9) gNil))) gNil)))))))
    (gsSeq (gsFor (lI (eIts (eBin ixD (eV 6) (eC (.int 1))))) (lH (hTup (hCons (hNm 10) (hCons (hNm 11) (hCons (hNm 5) hNil))) 3)) (gsForT (gVar 7) (ghCons (lH (hNm 8)) (ghCons (ghNm 9) ghNil)) (gsIf (lT (eT blD (eBin eqX (eV 11) (eC (.str "own"))))) (gsPutL (gVar 9) (lE (eV 10)) (gBin subD (gIx (gVar 9) (lE (eV 10))) (lE (eV 8)))) gsNil)))
    (gsIf (gSnT (eT blD (eBin neX (eBin ixD (eBin ixD (eV 7) (eC (.int 0))) (eC (.int 1))) (eBin ixD (eBin ixD (eV 7) (eC (.int 1))) (eC (.int 1)))))) (gsRet (lE (eC (.bool false)))) gsNil))))))))))
    (gsRet (lE (eC (.bool true))))))
def m_law : List PyData → Option PyData := NG.runGD 11 b_law
theorem ok_law [CT : NG.ClsT] {P : Program} {w : World} {K : PySem.W.Frag} {mg : Str → Option Value} {base : Heap} {f : Addr} {fd : FuncData} (F : Fun K "law" "law" s_law f fd)
    (n_len : mg "len" = none)
    (n_range : mg "range" = none)
    (C__law_feed : CalG P w K mg base "_law_feed" 1 ["script", "k"] (spN K 2 m__law_feed))
    (C__law_pick : CalG P w K mg base "_law_pick" 2 ["feed", "some"] (spR K 1 m__law_pick))
    (C__law_right : CalG P w K mg base "_law_right" 4 ["library", "found", "base", "addresses"] (spD K 4 m__law_right))
    (C__law_shelf : CalG P w K mg base "_law_shelf" 7 ["feed", "most"] (spR K 1 m__law_shelf))
    (C__law_take : CalG P w K mg base "_law_take" 1 ["feed", "many"] (spR K 1 m__law_take))
    (C__law_wide : CalG P w K mg base "_law_wide" 3 ["feed", "library"] (spR K 1 m__law_wide))
    (C_filled : CalG P w K mg base "filled" 1 ["image", "base", "addresses"] (spN K 3 m_filled))
    (C_image : CalG P w K mg base "image" 3 ["library"] (spD K 1 m_image))
    (C_wrong_place : CalG P w K mg base "wrong_place" 4 ["library", "base", "thing"] (spD K 3 m_wrong_place)) :
    FnG P w K mg base 8 f fd ["script"] (spD K 1 m_law) :=
  NG.fn_GD F sc_law (by decide) (fun cdv A outer s0 H E U hr gd =>
      show PSs _ _ (NG.tGS K U _ b_law) from
      (gs_cons (gs_old (fun _ => (qs_setF sc_law.nd (i := 1) rfl (by first | exact Or.inl rfl | exact Or.inr rfl) (qn_callG C__law_feed hr gd (by decide) (qa_cons (qe_var 0 (pv 0)) (qa_cons qe_int qa_nil))))))
      (gs_cons (gs_for PySem.PassesOwn.never rfl (gi_old (fun _ => (TX.qi_itsF (qc_callRG 1 C__law_shelf hr gd (by decide) (pv 1) (qa_cons qe_int qa_nil))))) (gg_old (fun _ => (qg_name sc_law.nd (i := 2) rfl (by first | exact Or.inl rfl | exact Or.inr rfl)))) (gs_cons (gs_old (fun _ => (qs_set sc_law.nd (i := 3) rfl (by first | exact Or.inl rfl | exact Or.inr rfl) (qc_callRG 1 C__law_pick hr gd (by decide) (pv 1) (qa_cons (qe_lst (qa_cons (qe_var 2 (pv 2)) (qa_cons (qc_callRG 1 C__law_wide hr gd (by decide) (pv 1) (qa_cons (qe_var 2 (pv 2)) qa_nil)) qa_nil))) qa_nil)))))
      (gs_cons (gs_old (fun _ => (qs_setF sc_law.nd (i := 4) rfl (by first | exact Or.inl rfl | exact Or.inr rfl) qn_dct)))
      (gs_cons (gs_old (fun _ => (qs_for PySem.PassesOwn.never rfl (qi_range1 (by rfl) n_range (qa_cons (qe_callB call_len cd_len (by rfl) n_len (by decide +kernel) (qa_cons (qe_ix (qe_var 3 (pv 3)) qe_int) qa_nil)) qa_nil)) (qg_name sc_law.nd (i := 5) rfl (by first | exact Or.inl rfl | exact Or.inr rfl)) (qs_one (qs_if (qt_tru (qe_ix (qe_ix (qe_ix (qe_var 3 (pv 3)) qe_int) (qe_var 5 (pv 5))) qe_int)) (qs_one (qs_dput (i := 4) (room1 hr) (pv 4) (qc_callRG 1 C__law_take hr gd (by decide) (pv 1) (qa_cons qe_int qa_nil)) (qe_var 5 (pv 5)))) qs_nil)))))
      (gs_cons (gs_old (fun _ => (qs_set sc_law.nd (i := 6) rfl (by first | exact Or.inl rfl | exact Or.inr rfl) (qc_callG C_image hr gd (by decide) (qa_cons (qe_var 3 (pv 3)) qa_nil)))))
      (gs_cons (gs_set sc_law.nd (i := 7) rfl (by first | exact Or.inl rfl | exact Or.inr rfl) (ge_new (fun _ => (qn_lst qa_nil))))
      (gss_frz 4 (gs_cons (gs_for PySem.PassesOwn.never rfl (gi_old (fun _ => (TX.qi_itsF (qe_lst (qa_cons (qc_callRG 1 C__law_take hr gd (by decide) (pv 1) (qa_cons qe_int qa_nil)) (qa_cons (qc_callRG 1 C__law_take hr gd (by decide) (pv 1) (qa_cons (qe_pow qe_int qe_int) qa_nil)) qa_nil)))))) (gg_old (fun _ => (qg_name sc_law.nd (i := 8) rfl (by first | exact Or.inl rfl | exact Or.inr rfl)))) (gs_cons (gs_set sc_law.nd (i := 9) rfl (by first | exact Or.inl rfl | exact Or.inr rfl) (ge_new (fun _ => (qn_callG C_filled hr gd (by decide) (qa_cons (qe_var 6 (pv 6)) (qa_cons (qe_var 8 (pv 8)) (qa_cons (qe_var 4 (pv 4)) qa_nil)))))))
      (gs_cons (gs_if (gt_sn (fun _ => (qt_not (qt_tru (qc_callG C__law_right hr gd (by decide) (qa_cons (qe_var 3 (pv 3)) (qa_cons (qe_var 9 (pv 9)) (qa_cons (qe_var 8 (pv 8)) (qa_cons (qe_var 4 (pv 4)) qa_nil))))))))) (gs_one (gs_ret (ge_old (fun _ => qe_bl)))) gs_nil)
      (gs_cons (gs_if (gt_sn (fun _ => (qt_cmp (opr_or op_notN op_notBl) od_isNot (qc_callG C_wrong_place hr gd (by decide) (qa_cons (qe_var 3 (pv 3)) (qa_cons (qe_var 8 (pv 8)) (qa_cons (qe_var 9 (pv 9)) qa_nil)))) qe_non (by rfl)))) (gs_one (gs_ret (ge_old (fun _ => qe_bl)))) gs_nil)
      (gs_one (gs_expr (gc_lm PySem.F.slot_list_append PySem.F.type_list_append mt_append lm_append (ge_var 7 (pv 7)) (ga_cons (ge_tup (ga_cons (ge_old (fun _ => (qe_var 8 (pv 8)))) (ga_cons (ge_var 9 (pv 9)) ga_nil))) ga_nil))))))))
      (gs_cons (gs_for PySem.PassesOwn.never rfl (gi_old (fun _ => (TX.qi_itsF (qe_ix (qe_var 6 (pv 6)) qe_int)))) (gg_old (fun _ => (qg_tup rfl (qgs_cons (qg_name sc_law.nd (i := 10) rfl (by first | exact Or.inl rfl | exact Or.inr rfl)) (qgs_cons (qg_name sc_law.nd (i := 11) rfl (by first | exact Or.inl rfl | exact Or.inr rfl)) (qgs_cons (qg_name sc_law.nd (i := 5) rfl (by first | exact Or.inl rfl | exact Or.inr rfl)) qgs_nil)))))) (gs_one (gs_forT PySem.PassesOwn.never rfl (ge_var 7 (pv 7)) (gg_tupC rfl (ggs_cons (gg_old (fun _ => (qg_name sc_law.nd (i := 8) rfl (by first | exact Or.inl rfl | exact Or.inr rfl)))) (ggs_cons (gg_name sc_law.nd (i := 9) rfl (by first | exact Or.inl rfl | exact Or.inr rfl)) ggs_nil)) ghs2) (gs_one (gs_if (gt_old (fun _ => (qt_cmp (op_eqX hr.units) od_eqX (qe_var 11 (pv 11)) qe_str (by rfl)))) (gs_one (gs_putL (ge_var 9 (pv 9)) (ge_old (fun _ => (qe_var 10 (pv 10)))) (ge_op op_sub (fun _ => od_sub) (ge_ix (ge_var 9 (pv 9)) (ge_old (fun _ => (qe_var 10 (pv 10))))) (ge_old (fun _ => (qe_var 8 (pv 8))))) (fun ho hi => pg_sub ho hi set_list))) gs_nil)))))
      (gs_one (gs_if (gt_sn (fun _ => (qt_cmp (op_neX hr.units) od_neX (qe_ix (qe_ix (qe_var 7 (pv 7)) qe_int) qe_int) (qe_ix (qe_ix (qe_var 7 (pv 7)) qe_int) qe_int) (by rfl)))) (gs_one (gs_ret (ge_old (fun _ => qe_bl)))) gs_nil)))))))))))
      (gs_one (gs_ret (ge_old (fun _ => qe_bl)))))))
end K74
end
/-! HK74 -/
section
set_option maxHeartbeats 0
namespace K74
open PySem PySem.Spec PyProof.Rows L2 TL
def d_is_whole : He.DefD := ⟨("is_whole", none), "is_whole", "is_whole", defArgs s_is_whole, defBody s_is_whole, defScope s_is_whole, [], []⟩
def d_name_number : He.DefD := ⟨("name_number", none), "name_number", "name_number", defArgs s_name_number, defBody s_name_number, defScope s_name_number, [], []⟩
def d_name_of : He.DefD := ⟨("name_of", none), "name_of", "name_of", defArgs s_name_of, defBody s_name_of, defScope s_name_of, [], []⟩
def d_filled : He.DefD := ⟨("filled", none), "filled", "filled", defArgs s_filled, defBody s_filled, defScope s_filled, [], []⟩
def d__places_of_stubs : He.DefD := ⟨("_places_of_stubs", none), "_places_of_stubs", "_places_of_stubs", defArgs s__places_of_stubs, defBody s__places_of_stubs, defScope s__places_of_stubs, [], []⟩
def d__all_rows : He.DefD := ⟨("_all_rows", none), "_all_rows", "_all_rows", defArgs s__all_rows, defBody s__all_rows, defScope s__all_rows, [], []⟩
def d__laid_row : He.DefD := ⟨("_laid_row", none), "_laid_row", "_laid_row", defArgs s__laid_row, defBody s__laid_row, defScope s__laid_row, [], []⟩
def d__law_feed : He.DefD := ⟨("_law_feed", none), "_law_feed", "_law_feed", defArgs s__law_feed, defBody s__law_feed, defScope s__law_feed, [], []⟩
def d__law_take : He.DefD := ⟨("_law_take", none), "_law_take", "_law_take", defArgs s__law_take, defBody s__law_take, defScope s__law_take, [], []⟩
def d__law_pick : He.DefD := ⟨("_law_pick", none), "_law_pick", "_law_pick", defArgs s__law_pick, defBody s__law_pick, defScope s__law_pick, [], []⟩
def d__law_whole : He.DefD := ⟨("_law_whole", none), "_law_whole", "_law_whole", defArgs s__law_whole, defBody s__law_whole, defScope s__law_whole, [], []⟩
def d__law_unlike : He.DefD := ⟨("_law_unlike", none), "_law_unlike", "_law_unlike", defArgs s__law_unlike, defBody s__law_unlike, defScope s__law_unlike, [], []⟩
def d__law_number : He.DefD := ⟨("_law_number", none), "_law_number", "_law_number", defArgs s__law_number, defBody s__law_number, defScope s__law_number, [], []⟩
def d__law_rows_drawn : He.DefD := ⟨("_law_rows_drawn", none), "_law_rows_drawn", "_law_rows_drawn", defArgs s__law_rows_drawn, defBody s__law_rows_drawn, defScope s__law_rows_drawn, [], []⟩
def d__law_gives_drawn : He.DefD := ⟨("_law_gives_drawn", none), "_law_gives_drawn", "_law_gives_drawn", defArgs s__law_gives_drawn, defBody s__law_gives_drawn, defScope s__law_gives_drawn, [], []⟩
def d__law_library_drawn : He.DefD := ⟨("_law_library_drawn", none), "_law_library_drawn", "_law_library_drawn", defArgs s__law_library_drawn, defBody s__law_library_drawn, defScope s__law_library_drawn, [], []⟩
def d__law_shelf : He.DefD := ⟨("_law_shelf", none), "_law_shelf", "_law_shelf", defArgs s__law_shelf, defBody s__law_shelf, defScope s__law_shelf, [], []⟩
def d__law_back : He.DefD := ⟨("_law_back", none), "_law_back", "_law_back", defArgs s__law_back, defBody s__law_back, defScope s__law_back, [], []⟩
def d__law_wide : He.DefD := ⟨("_law_wide", none), "_law_wide", "_law_wide", defArgs s__law_wide, defBody s__law_wide, defScope s__law_wide, [], []⟩
def d_image : He.DefD := ⟨("image", none), "image", "image", defArgs s_image, defBody s_image, defScope s_image, [], []⟩
def d_begins : He.DefD := ⟨("begins", none), "begins", "begins", defArgs s_begins, defBody s_begins, defScope s_begins, [], []⟩
def d_wrong_place : He.DefD := ⟨("wrong_place", none), "wrong_place", "wrong_place", defArgs s_wrong_place, defBody s_wrong_place, defScope s_wrong_place, [], []⟩
def d__law_right : He.DefD := ⟨("_law_right", none), "_law_right", "_law_right", defArgs s__law_right, defBody s__law_right, defScope s__law_right, [], []⟩
def d_law : He.DefD := ⟨("law", none), "law", "law", defArgs s_law, defBody s_law, defScope s_law, [], []⟩
def fns : List He.DefD := [d_is_whole, d_name_number, d_name_of, d_filled, d__places_of_stubs, d__all_rows, d__laid_row, d__law_feed, d__law_take, d__law_pick, d__law_whole, d__law_unlike, d__law_number, d__law_rows_drawn, d__law_gives_drawn, d__law_library_drawn, d__law_shelf, d__law_back, d__law_wide, d_image, d_begins, d_wrong_place, d__law_right, d_law]
def tbs : List He.Tab := [(fun K => He.ga K "ROW_PARTS", ["tell", "show", "put", "add", "skip", "call", "bring", "share", "drop", "ask"])]
def fas : List He.Fa := [.glo "is_whole",
  .glo "name_number",
  .glo "name_of",
  .glo "filled",
  .glo "_places_of_stubs",
  .glo "_all_rows",
  .glo "_laid_row",
  .glo "_law_feed",
  .glo "_law_take",
  .glo "_law_pick",
  .glo "_law_whole",
  .glo "_law_unlike",
  .glo "_law_number",
  .glo "_law_rows_drawn",
  .glo "_law_gives_drawn",
  .glo "_law_library_drawn",
  .glo "_law_shelf",
  .glo "_law_back",
  .glo "_law_wide",
  .glo "image",
  .glo "begins",
  .glo "wrong_place",
  .glo "_law_right",
  .glo "law",
  .free "abs",
  .free "all",
  .free "bool",
  .free "dict",
  .free "divmod",
  .free "enumerate",
  .free "int",
  .free "isinstance",
  .free "len",
  .free "list",
  .free "range",
  .free "str",
  .free "tuple",
  .free "zip",
  .int "BASE" 36,
  .int "END" 0,
  .int "FIRST_LETTER" 10,
  .str "LETTERS" "abcdefghijklmnopqrstuvwxyz",
  .glo "ROW_PARTS",
  .int "STEP" 3,
  .int "STUB" 10,
  .glo "WORDS"]
def xs (K : PySem.W.Frag) : Bool := (TC.tblB K (He.ga K "ROW_PARTS") cROW_PARTS) && (TC.txtB K (He.ga K "WORDS") ["end", "tell", "show", "put", "add", "call", "bring", "share", "drop", "ask", "stub", "skip"]) && (TX.dnoB K (He.ga K "WORDS"))
abbrev R : PySem.W.OpenRow := PySem.W.OpenLaw.row PySem.Challenge.rw_latehall_k74_whole_images_read_back
abbrev hk : PySem.W.Hook := TC.hookC 4 fas fns tbs xs
def ob (s : PySem.W.SharedT) : He.AlT × Bool := TC.obsCG 4 fas fns tbs xs (HandSHeadRun.getT s)
theorem ob_eq (s : PySem.W.SharedT) : ob s = hk.obs s.abs := TC.obsCG_eq (HandSHeadRun.getT_eq s)
def names : List PySem.Str := [("is_whole" : PySem.Str), ("name_number" : PySem.Str), ("name_of" : PySem.Str), ("image" : PySem.Str), ("begins" : PySem.Str), ("filled" : PySem.Str), ("wrong_place" : PySem.Str), ("_places_of_stubs" : PySem.Str), ("_all_rows" : PySem.Str), ("_laid_row" : PySem.Str), ("_law_feed" : PySem.Str), ("_law_take" : PySem.Str), ("_law_pick" : PySem.Str), ("_law_whole" : PySem.Str), ("_law_unlike" : PySem.Str), ("_law_number" : PySem.Str), ("_law_rows_drawn" : PySem.Str), ("_law_gives_drawn" : PySem.Str), ("_law_library_drawn" : PySem.Str), ("_law_shelf" : PySem.Str), ("_law_back" : PySem.Str), ("_law_right" : PySem.Str), ("_law_wide" : PySem.Str), ("LETTERS" : PySem.Str), ("ROW_PARTS" : PySem.Str), ("WORDS" : PySem.Str), ("END" : PySem.Str), ("STUB" : PySem.Str), ("STEP" : PySem.Str), ("BASE" : PySem.Str), ("FIRST_LETTER" : PySem.Str)]
theorem run_false (w : World) : HandSHeadRun.RunEq R (PySem.W.view R.prog [34]) hk ob 4000 names (w.withFollow "special-get-raises" false) := by
  intro os
  kernel_rfl
theorem run_true (w : World) : HandSHeadRun.RunEq R (PySem.W.view R.prog [34]) hk ob 4000 names (w.withFollow "special-get-raises" true) := by
  intro os
  kernel_rfl
theorem run (w : World) : HandSHeadRun.RunEq R (PySem.W.view R.prog [34]) hk ob 4000 names w := PySem.W.byRow2 "special-get-raises" run_false run_true w
theorem facts {P : Program} {w : World} {K : PySem.W.Frag} {h : Heap} {mg : Str → Option Value} {f : Addr} (X : K.In h) (G : h.Ns mainGlobals mg) (hfa : mg ("law" : Str) = some (.ref f)) (c1 : He.SaysT fas fns tbs w K) (cx : xs K = true) :
    ∃ fd : FuncData, (∀ (s : Shared) (v : Value), BindsTo s fd ⟨[v], []⟩ [("script", v)]) ∧ ∀ base : Heap, K.In base → base.Ns mainGlobals mg → FnG P w K mg base 8 f fd ["script"] (spD K 1 m_law) := by
  have c := c1.d
  letI CT : NG.ClsT := ⟨fun n => match n with  | _ => 0⟩
  simp only [xs, Bool.and_eq_true, decide_eq_true_eq] at cx
  obtain ⟨⟨x0, x1⟩, x2⟩ := cx
  obtain ⟨fd_is_whole, F_is_whole⟩ := c.def_ 0 (d := d_is_whole) rfl
  obtain ⟨fd_name_number, F_name_number⟩ := c.def_ 1 (d := d_name_number) rfl
  obtain ⟨fd_name_of, F_name_of⟩ := c.def_ 2 (d := d_name_of) rfl
  obtain ⟨fd_filled, F_filled⟩ := c.def_ 3 (d := d_filled) rfl
  obtain ⟨fd__places_of_stubs, F__places_of_stubs⟩ := c.def_ 4 (d := d__places_of_stubs) rfl
  obtain ⟨fd__all_rows, F__all_rows⟩ := c.def_ 5 (d := d__all_rows) rfl
  obtain ⟨fd__laid_row, F__laid_row⟩ := c.def_ 6 (d := d__laid_row) rfl
  obtain ⟨fd__law_feed, F__law_feed⟩ := c.def_ 7 (d := d__law_feed) rfl
  obtain ⟨fd__law_take, F__law_take⟩ := c.def_ 8 (d := d__law_take) rfl
  obtain ⟨fd__law_pick, F__law_pick⟩ := c.def_ 9 (d := d__law_pick) rfl
  obtain ⟨fd__law_whole, F__law_whole⟩ := c.def_ 10 (d := d__law_whole) rfl
  obtain ⟨fd__law_unlike, F__law_unlike⟩ := c.def_ 11 (d := d__law_unlike) rfl
  obtain ⟨fd__law_number, F__law_number⟩ := c.def_ 12 (d := d__law_number) rfl
  obtain ⟨fd__law_rows_drawn, F__law_rows_drawn⟩ := c.def_ 13 (d := d__law_rows_drawn) rfl
  obtain ⟨fd__law_gives_drawn, F__law_gives_drawn⟩ := c.def_ 14 (d := d__law_gives_drawn) rfl
  obtain ⟨fd__law_library_drawn, F__law_library_drawn⟩ := c.def_ 15 (d := d__law_library_drawn) rfl
  obtain ⟨fd__law_shelf, F__law_shelf⟩ := c.def_ 16 (d := d__law_shelf) rfl
  obtain ⟨fd__law_back, F__law_back⟩ := c.def_ 17 (d := d__law_back) rfl
  obtain ⟨fd__law_wide, F__law_wide⟩ := c.def_ 18 (d := d__law_wide) rfl
  obtain ⟨fd_image, F_image⟩ := c.def_ 19 (d := d_image) rfl
  obtain ⟨fd_begins, F_begins⟩ := c.def_ 20 (d := d_begins) rfl
  obtain ⟨fd_wrong_place, F_wrong_place⟩ := c.def_ 21 (d := d_wrong_place) rfl
  obtain ⟨fd__law_right, F__law_right⟩ := c.def_ 22 (d := d__law_right) rfl
  obtain ⟨fd_law, F_law⟩ := c.def_ 23 (d := d_law) rfl
  have e := hfa.symm.trans (He.glo_ok X G (c.fact 23 (f := .glo "law") rfl))
  cases e
  have b := FunD.bindsA (ps := ["script"]) F_law fun _ _ _ _ _ _ us hl => match us, hl with | [_], _ => rfl
  refine ⟨fd_law, fun s v => b s [v] rfl, fun base _ _ => ?_⟩
  have n_abs : mg ("abs" : Str) = none := He.free_ok X G (c.fact 24 (f := .free "abs") rfl)
  have n_all : mg ("all" : Str) = none := He.free_ok X G (c.fact 25 (f := .free "all") rfl)
  have n_bool : mg ("bool" : Str) = none := He.free_ok X G (c.fact 26 (f := .free "bool") rfl)
  have n_dict : mg ("dict" : Str) = none := He.free_ok X G (c.fact 27 (f := .free "dict") rfl)
  have n_divmod : mg ("divmod" : Str) = none := He.free_ok X G (c.fact 28 (f := .free "divmod") rfl)
  have n_enumerate : mg ("enumerate" : Str) = none := He.free_ok X G (c.fact 29 (f := .free "enumerate") rfl)
  have n_int : mg ("int" : Str) = none := He.free_ok X G (c.fact 30 (f := .free "int") rfl)
  have n_isinstance : mg ("isinstance" : Str) = none := He.free_ok X G (c.fact 31 (f := .free "isinstance") rfl)
  have n_len : mg ("len" : Str) = none := He.free_ok X G (c.fact 32 (f := .free "len") rfl)
  have n_list : mg ("list" : Str) = none := He.free_ok X G (c.fact 33 (f := .free "list") rfl)
  have n_range : mg ("range" : Str) = none := He.free_ok X G (c.fact 34 (f := .free "range") rfl)
  have n_str : mg ("str" : Str) = none := He.free_ok X G (c.fact 35 (f := .free "str") rfl)
  have n_tuple : mg ("tuple" : Str) = none := He.free_ok X G (c.fact 36 (f := .free "tuple") rfl)
  have n_zip : mg ("zip" : Str) = none := He.free_ok X G (c.fact 37 (f := .free "zip") rfl)
  have c_BASE : Glo K mg "BASE" cBASE := glo_int X G (c.fact 38 rfl)
  have c_END : Glo K mg "END" cEND := glo_int X G (c.fact 39 rfl)
  have c_FIRST_LETTER : Glo K mg "FIRST_LETTER" cFIRST_LETTER := glo_int X G (c.fact 40 rfl)
  have c_LETTERS : Glo K mg "LETTERS" cLETTERS := glo_str X G (c.fact 41 rfl)
  have c_ROW_PARTS : TC.GloT K w mg "ROW_PARTS" cROW_PARTS := TC.gloT_of (He.glo_ok X G (c.fact 42 (f := .glo "ROW_PARTS") rfl)) (TC.says_tab c1 0 rfl) (by decide) x0
  have c_STEP : Glo K mg "STEP" cSTEP := glo_int X G (c.fact 43 rfl)
  have c_STUB : Glo K mg "STUB" cSTUB := glo_int X G (c.fact 44 rfl)
  have c_WORDS : Glo K mg "WORDS" cWORDS := TC.gloU_of (He.glo_ok X G (c.fact 45 (f := .glo "WORDS") rfl)) x1
  have d_WORDS : TX.GloD K mg "WORDS" := TX.gloD_of (He.glo_ok X G (c.fact 45 (f := .glo "WORDS") rfl)) x2
  have C_is_whole : CalG P w K mg base "is_whole" 1 ["thing"] (spD K 1 m_is_whole) := ⟨⟨_, fd_is_whole, ok_is_whole (fun_of (st := s_is_whole) F_is_whole) n_bool n_int n_isinstance, He.glo_ok X G (c.fact 0 (f := .glo "is_whole") rfl), F_is_whole.kp, FunD.bindsN (ps := ["thing"]) F_is_whole fun _ _ _ _ _ _ us hl => match us, hl with | [_], _ => rfl⟩⟩
  have C_name_number : CalG P w K mg base "name_number" 1 ["name"] (spD K 1 m_name_number) := ⟨⟨_, fd_name_number, ok_name_number (fun_of (st := s_name_number) F_name_number) c_BASE c_FIRST_LETTER c_LETTERS, He.glo_ok X G (c.fact 1 (f := .glo "name_number") rfl), F_name_number.kp, FunD.bindsN (ps := ["name"]) F_name_number fun _ _ _ _ _ _ us hl => match us, hl with | [_], _ => rfl⟩⟩
  have C_name_of : CalG P w K mg base "name_of" 1 ["number"] (spD K 1 m_name_of) := ⟨⟨_, fd_name_of, ok_name_of (fun_of (st := s_name_of) F_name_of) n_divmod c_BASE c_FIRST_LETTER c_LETTERS, He.glo_ok X G (c.fact 2 (f := .glo "name_of") rfl), F_name_of.kp, FunD.bindsN (ps := ["number"]) F_name_of fun _ _ _ _ _ _ us hl => match us, hl with | [_], _ => rfl⟩⟩
  have C_filled : CalG P w K mg base "filled" 1 ["image", "base", "addresses"] (spN K 3 m_filled) := ⟨⟨_, fd_filled, ok_filled (fun_of (st := s_filled) F_filled) n_list, He.glo_ok X G (c.fact 3 (f := .glo "filled") rfl), F_filled.kp, FunD.bindsN (ps := ["image", "base", "addresses"]) F_filled fun _ _ _ _ _ _ us hl => match us, hl with | [_, _, _], _ => rfl⟩⟩
  have C__places_of_stubs : CalG P w K mg base "_places_of_stubs" 2 ["library"] (spD K 1 m__places_of_stubs) := ⟨⟨_, fd__places_of_stubs, ok__places_of_stubs (fun_of (st := s__places_of_stubs) F__places_of_stubs) n_enumerate n_len c_STEP C_is_whole, He.glo_ok X G (c.fact 4 (f := .glo "_places_of_stubs") rfl), F__places_of_stubs.kp, FunD.bindsN (ps := ["library"]) F__places_of_stubs fun _ _ _ _ _ _ us hl => match us, hl with | [_], _ => rfl⟩⟩
  have C__all_rows : CalG P w K mg base "_all_rows" 2 ["library"] (spD K 1 m__all_rows) := ⟨⟨_, fd__all_rows, ok__all_rows (fun_of (st := s__all_rows) F__all_rows) C_is_whole, He.glo_ok X G (c.fact 5 (f := .glo "_all_rows") rfl), F__all_rows.kp, FunD.bindsN (ps := ["library"]) F__all_rows fun _ _ _ _ _ _ us hl => match us, hl with | [_], _ => rfl⟩⟩
  have C__laid_row : CalG P w K mg base "_laid_row" 2 ["row"] (spN K 1 m__laid_row) := ⟨⟨_, fd__laid_row, ok__laid_row (fun_of (st := s__laid_row) F__laid_row) n_isinstance n_str c_STEP c_WORDS d_WORDS C_name_number, He.glo_ok X G (c.fact 6 (f := .glo "_laid_row") rfl), F__laid_row.kp, FunD.bindsN (ps := ["row"]) F__laid_row fun _ _ _ _ _ _ us hl => match us, hl with | [_], _ => rfl⟩⟩
  have C__law_feed : CalG P w K mg base "_law_feed" 1 ["script", "k"] (spN K 2 m__law_feed) := ⟨⟨_, fd__law_feed, ok__law_feed (fun_of (st := s__law_feed) F__law_feed) n_abs n_len, He.glo_ok X G (c.fact 7 (f := .glo "_law_feed") rfl), F__law_feed.kp, FunD.bindsN (ps := ["script", "k"]) F__law_feed fun _ _ _ _ _ _ us hl => match us, hl with | [_, _], _ => rfl⟩⟩
  have C__law_take : CalG P w K mg base "_law_take" 1 ["feed", "many"] (spR K 1 m__law_take) := ⟨⟨_, fd__law_take, ok__law_take (fun_of (st := s__law_take) F__law_take) , He.glo_ok X G (c.fact 8 (f := .glo "_law_take") rfl), F__law_take.kp, FunD.bindsN (ps := ["feed", "many"]) F__law_take fun _ _ _ _ _ _ us hl => match us, hl with | [_, _], _ => rfl⟩⟩
  have C__law_pick : CalG P w K mg base "_law_pick" 2 ["feed", "some"] (spR K 1 m__law_pick) := ⟨⟨_, fd__law_pick, ok__law_pick (fun_of (st := s__law_pick) F__law_pick) n_len C__law_take, He.glo_ok X G (c.fact 9 (f := .glo "_law_pick") rfl), F__law_pick.kp, FunD.bindsN (ps := ["feed", "some"]) F__law_pick fun _ _ _ _ _ _ us hl => match us, hl with | [_, _], _ => rfl⟩⟩
  have C__law_whole : CalG P w K mg base "_law_whole" 1 ["found"] (spD K 1 m__law_whole) := ⟨⟨_, fd__law_whole, ok__law_whole (fun_of (st := s__law_whole) F__law_whole) n_bool n_int n_isinstance, He.glo_ok X G (c.fact 10 (f := .glo "_law_whole") rfl), F__law_whole.kp, FunD.bindsN (ps := ["found"]) F__law_whole fun _ _ _ _ _ _ us hl => match us, hl with | [_], _ => rfl⟩⟩
  have C__law_unlike : CalG P w K mg base "_law_unlike" 2 ["feed", "many"] (spR K 1 m__law_unlike) := ⟨⟨_, fd__law_unlike, ok__law_unlike (fun_of (st := s__law_unlike) F__law_unlike) n_range C__law_take, He.glo_ok X G (c.fact 11 (f := .glo "_law_unlike") rfl), F__law_unlike.kp, FunD.bindsN (ps := ["feed", "many"]) F__law_unlike fun _ _ _ _ _ _ us hl => match us, hl with | [_, _], _ => rfl⟩⟩
  have C__law_number : CalG P w K mg base "_law_number" 3 ["feed"] (spR K 0 m__law_number) := ⟨⟨_, fd__law_number, ok__law_number (fun_of (st := s__law_number) F__law_number) C__law_pick C__law_take, He.glo_ok X G (c.fact 12 (f := .glo "_law_number") rfl), F__law_number.kp, FunD.bindsN (ps := ["feed"]) F__law_number fun _ _ _ _ _ _ us hl => match us, hl with | [_], _ => rfl⟩⟩
  have C__law_rows_drawn : CalG P w K mg base "_law_rows_drawn" 4 ["feed", "names", "words", "uses"] (spR K 3 m__law_rows_drawn) := ⟨⟨_, fd__law_rows_drawn, ok__law_rows_drawn (fun_of (st := s__law_rows_drawn) F__law_rows_drawn) n_len n_range n_tuple C__law_number C__law_pick C__law_take, He.glo_ok X G (c.fact 13 (f := .glo "_law_rows_drawn") rfl), F__law_rows_drawn.kp, FunD.bindsN (ps := ["feed", "names", "words", "uses"]) F__law_rows_drawn fun _ _ _ _ _ _ us hl => match us, hl with | [_, _, _, _], _ => rfl⟩⟩
  have C__law_gives_drawn : CalG P w K mg base "_law_gives_drawn" 5 ["feed", "names", "words", "uses", "tags"] (spR K 4 m__law_gives_drawn) := ⟨⟨_, fd__law_gives_drawn, ok__law_gives_drawn (fun_of (st := s__law_gives_drawn) F__law_gives_drawn) n_len n_range n_tuple C__law_number C__law_pick C__law_rows_drawn C__law_take, He.glo_ok X G (c.fact 14 (f := .glo "_law_gives_drawn") rfl), F__law_gives_drawn.kp, FunD.bindsN (ps := ["feed", "names", "words", "uses", "tags"]) F__law_gives_drawn fun _ _ _ _ _ _ us hl => match us, hl with | [_, _, _, _, _], _ => rfl⟩⟩
  have C__law_library_drawn : CalG P w K mg base "_law_library_drawn" 6 ["feed", "names", "at", "words", "given", "tags"] (spR K 5 m__law_library_drawn) := ⟨⟨_, fd__law_library_drawn, ok__law_library_drawn (fun_of (st := s__law_library_drawn) F__law_library_drawn) n_enumerate n_int n_len n_range n_tuple C__law_gives_drawn C__law_pick C__law_rows_drawn C__law_take, He.glo_ok X G (c.fact 15 (f := .glo "_law_library_drawn") rfl), F__law_library_drawn.kp, FunD.bindsN (ps := ["feed", "names", "at", "words", "given", "tags"]) F__law_library_drawn fun _ _ _ _ _ _ us hl => match us, hl with | [_, _, _, _, _, _], _ => rfl⟩⟩
  have C__law_shelf : CalG P w K mg base "_law_shelf" 7 ["feed", "most"] (spR K 1 m__law_shelf) := ⟨⟨_, fd__law_shelf, ok__law_shelf (fun_of (st := s__law_shelf) F__law_shelf) n_len n_range n_tuple C__law_library_drawn C__law_pick C__law_take C__law_unlike C__law_whole, He.glo_ok X G (c.fact 16 (f := .glo "_law_shelf") rfl), F__law_shelf.kp, FunD.bindsN (ps := ["feed", "most"]) F__law_shelf fun _ _ _ _ _ _ us hl => match us, hl with | [_, _], _ => rfl⟩⟩
  have C__law_back : CalG P w K mg base "_law_back" 2 ["found", "base", "at"] (spD K 3 m__law_back) := ⟨⟨_, fd__law_back, ok__law_back (fun_of (st := s__law_back) F__law_back) n_len n_tuple C_name_of, He.glo_ok X G (c.fact 17 (f := .glo "_law_back") rfl), F__law_back.kp, FunD.bindsN (ps := ["found", "base", "at"]) F__law_back fun _ _ _ _ _ _ us hl => match us, hl with | [_, _, _], _ => rfl⟩⟩
  have C__law_wide : CalG P w K mg base "_law_wide" 3 ["feed", "library"] (spR K 1 m__law_wide) := ⟨⟨_, fd__law_wide, ok__law_wide (fun_of (st := s__law_wide) F__law_wide) n_len n_list n_range n_tuple C__law_pick C__law_take C__law_whole, He.glo_ok X G (c.fact 18 (f := .glo "_law_wide") rfl), F__law_wide.kp, FunD.bindsN (ps := ["feed", "library"]) F__law_wide fun _ _ _ _ _ _ us hl => match us, hl with | [_, _], _ => rfl⟩⟩
  have C_image : CalG P w K mg base "image" 3 ["library"] (spD K 1 m_image) := ⟨⟨_, fd_image, ok_image (fun_of (st := s_image) F_image) n_enumerate n_len n_range n_tuple c_END c_ROW_PARTS c_STUB C__all_rows C__laid_row C__places_of_stubs C_is_whole, He.glo_ok X G (c.fact 19 (f := .glo "image") rfl), F_image.kp, FunD.bindsN (ps := ["library"]) F_image fun _ _ _ _ _ _ us hl => match us, hl with | [_], _ => rfl⟩⟩
  have C_begins : CalG P w K mg base "begins" 3 ["library"] (spD K 1 m_begins) := ⟨⟨_, fd_begins, ok_begins (fun_of (st := s_begins) F_begins) n_dict n_enumerate n_len n_range n_zip c_STEP C__all_rows C__places_of_stubs C_is_whole, He.glo_ok X G (c.fact 20 (f := .glo "begins") rfl), F_begins.kp, FunD.bindsN (ps := ["library"]) F_begins fun _ _ _ _ _ _ us hl => match us, hl with | [_], _ => rfl⟩⟩
  have C_wrong_place : CalG P w K mg base "wrong_place" 4 ["library", "base", "thing"] (spD K 3 m_wrong_place) := ⟨⟨_, fd_wrong_place, ok_wrong_place (fun_of (st := s_wrong_place) F_wrong_place) n_all n_isinstance n_len n_list n_range C_begins C_filled C_image C_is_whole, He.glo_ok X G (c.fact 21 (f := .glo "wrong_place") rfl), F_wrong_place.kp, FunD.bindsN (ps := ["library", "base", "thing"]) F_wrong_place fun _ _ _ _ _ _ us hl => match us, hl with | [_, _, _], _ => rfl⟩⟩
  have C__law_right : CalG P w K mg base "_law_right" 4 ["library", "found", "base", "addresses"] (spD K 4 m__law_right) := ⟨⟨_, fd__law_right, ok__law_right (fun_of (st := s__law_right) F__law_right) n_enumerate C__law_back C__law_whole C_begins, He.glo_ok X G (c.fact 22 (f := .glo "_law_right") rfl), F__law_right.kp, FunD.bindsN (ps := ["library", "found", "base", "addresses"]) F__law_right fun _ _ _ _ _ _ us hl => match us, hl with | [_, _, _, _], _ => rfl⟩⟩
  exact ok_law (fun_of (st := s_law) F_law) n_len n_range C__law_feed C__law_pick C__law_right C__law_shelf C__law_take C__law_wide C_filled C_image C_wrong_place
end K74
open PySem PySem.W PySem.Calls PyProof.Rows
theorem K74.holds_of (hg : ∀ ns : List Int, ns.length ≤ 63 → (∀ z ∈ ns, Builtin.Int.intBits z ≤ 1048576) → K74.m_law [.list (ns.map .int)] = some (.bool true)) : PySem.Challenge.rw_latehall_k74_whole_images_read_back.Holds := by
  w_on; o_law
  refine HandSHeadRun.head_any (r := OpenLaw.row PySem.Challenge.rw_latehall_k74_whole_images_read_back) (q := view (OpenLaw.row PySem.Challenge.rw_latehall_k74_whole_images_read_back).prog [34]) (H := K74.hk) (ob := K74.ob) (M := 4000) (loose := K74.names) (d := HandSHeadRun.topDef (OpenLaw.row PySem.Challenge.rw_latehall_k74_whole_images_read_back).prog 34) (kwd := []) K74.ob_eq
    (by kernel_rfl) (fun s => by kernel_rfl) K74.run (by kernel_rfl) (by kernel_rfl) (by kernel_rfl) (by rfl) (by first | assumption | decide +kernel) (by decide +kernel) ⟨rfl, rfl, rfl, rfl, rfl, by decide +kernel⟩ ?hw ?hc
  case hw => w_witness2
  case hc =>
    refine TL.walk_treeG (l := PySem.Challenge.rw_latehall_k74_whole_images_read_back) (n := 63) (k := 8) (x := "script") rfl (by decide) (by kernel_rfl) ⟨rfl, by decide, by decide⟩ ?F hg
    intro w mg fa h Y G hmg0
    obtain ⟨K, KX, c, cx⟩ := Y
    have hmg : mg ("law" : PySem.Str) = some (.ref fa) := by
      have e : (HandSHeadRun.topDef (OpenLaw.row PySem.Challenge.rw_latehall_k74_whole_images_read_back).prog 34).name = ("law" : PySem.Str) := by kernel_rfl
      rw [← e]
      exact hmg0
    obtain ⟨fd, hb, hF⟩ := K74.facts (P := (PySem.Challenge.rw_latehall_k74_whole_images_read_back).prog) (w := w) KX G hmg c cx
    exact ⟨K, fd, KX, hb, hF⟩
end
/-! P74a -/
section
set_option maxHeartbeats 4000000
namespace K74
open PySem L2 TL
def takeV (f : Int × Int) (n : Int) : Int := if 0 < f.1 then f.1 % n else (f.2 * 48271 + 12345) % (2305843009213693951 : Int) / 2097152 % n
def takeF (f : Int × Int) (n : Int) : Int × Int := if 0 < f.1 then (f.1 / n, f.2) else (f.1, (f.2 * 48271 + 12345) % (2305843009213693951 : Int))
def fd (f : Int × Int) : PyData := .list [.int f.1, .int f.2]
theorem take_w {f : Int × Int} {n : Int} {Q : PyData × PyData → Prop} (h0 : 0 ≤ f.2) (h1 : f.2 < (2305843009213693951 : Int)) (hn : 0 < n) (hl : n.natAbs.log2 < 9000) (h : Q (.int (takeV f n), fd (takeF f n))) : W (m__law_take (fd f) [.int n]) Q := by
  obtain ⟨a, b⟩ := f
  simp only at h0 h1
  unfold m__law_take b__law_take fd
  unfold takeV takeF fd at h
  simp only at h
  walk_at "tlev"
  (refine w_if ?_; walk_at "tlev"; (refine And.intro (fun ha => ?_) (fun ha => ?_) <;> first | (simp only [reduceCtorEq, Bool.true_eq_false, Bool.false_eq_true, Bool.not_true, Bool.not_false] at ha; done) | (simp only [decide_eq_true_eq, decide_eq_false_iff_not, Int.not_lt, Int.not_le, Bool.not_eq_true', Bool.not_eq_false', Bool.not_eq_true, Bool.not_eq_false, Bool.not_true, Bool.not_false] at ha) | skip))
  · rw [if_pos ha, if_pos ha] at h
    walk_at "tlev"
    exact h
  · rw [if_neg (by omega), if_neg (by omega)] at h
    walk_at "tlev"
    exact h
theorem takeF_ok {f : Int × Int} {n : Int} (h0 : 0 ≤ f.2) (h1 : f.2 < (2305843009213693951 : Int)) : 0 ≤ (takeF f n).2 ∧ (takeF f n).2 < (2305843009213693951 : Int) := by
  unfold takeF
  by_cases h : 0 < f.1
  · rw [if_pos h]; exact ⟨h0, h1⟩
  · rw [if_neg h]; exact ⟨Int.emod_nonneg _ (by decide), Int.emod_lt_of_pos _ (by decide)⟩
theorem takeV_ok {f : Int × Int} {n : Int} (hn : 0 < n) : 0 ≤ takeV f n ∧ takeV f n < n := by
  unfold takeV
  by_cases h : 0 < f.1
  · rw [if_pos h]; exact ⟨Int.emod_nonneg _ (by omega), Int.emod_lt_of_pos _ hn⟩
  · rw [if_neg h]; exact ⟨Int.emod_nonneg _ (by omega), Int.emod_lt_of_pos _ hn⟩
/-- a draw: what is drawn and the feed behind it -/
theorem take_any {f : Int × Int} {n : Int} {Q : PyData × PyData → Prop} (hf : 0 ≤ f.2 ∧ f.2 < (2305843009213693951 : Int)) (hn : 0 < n) (hl : n.natAbs.log2 < 9000) (h : ∀ (v : Int) (f' : Int × Int), 0 ≤ v → v < n → 0 ≤ f'.2 ∧ f'.2 < (2305843009213693951 : Int) → Q (.int v, fd f')) : W (m__law_take (fd f) [.int n]) Q :=
  take_w hf.1 hf.2 hn hl (h _ _ (takeV_ok hn).1 (takeV_ok hn).2 (takeF_ok hf.1 hf.2))
theorem feed_any {ns : List Int} {k : Int} (hb : ∀ z ∈ ns, Builtin.Int.intBits z ≤ 1048576) (h0 : 0 ≤ k) (h1 : k < 1000000) {Q : PyData → Prop} (h : ∀ f : Int × Int, 0 ≤ f.2 ∧ f.2 < (2305843009213693951 : Int) → Q (fd f)) : W (m__law_feed [.list (ns.map .int), .int k]) Q := by
  unfold m__law_feed b__law_feed
  walk_at "tlev"
  refine W.mono (P := fun o => ∃ x : Int, Builtin.Int.intBits x ≤ 1048576 ∧ o = Out.nx [.fz (.list (ns.map .int)), .fz (.int k), .fz (.int x), .un] []) ?_ ?_
  · (refine w_if ?_; walk_at "tlev"; (refine And.intro (fun hk => ?_) (fun hk => ?_) <;> first | (simp only [reduceCtorEq, Bool.true_eq_false, Bool.false_eq_true, Bool.not_true, Bool.not_false] at hk; done) | (simp only [decide_eq_true_eq, decide_eq_false_iff_not, Int.not_lt, Int.not_le, Bool.not_eq_true', Bool.not_eq_false', Bool.not_eq_true, Bool.not_eq_false, Bool.not_true, Bool.not_false] at hk) | skip))
    · rw [List.length_map] at hk
      walk_at "tlev"
      refine w_at (atI_in h0 (by rw [List.length_map]; exact hk)) ?_
      rw [List.getElem_map]
      walk_at "tlev"
      exact ⟨_, hb _ (List.getElem_mem _), rfl⟩
    · walk_at "tlev"
      exact ⟨_, Nat.le_trans (bits64 (by omega) (by omega)) (by decide), rfl⟩
  · rintro o ⟨x, hx, rfl⟩
    walk_at "tlev"
    refine W.mono (P := fun o => ∃ y : Int, o = Out.nx [.fz (.list (ns.map .int)), .fz (.int k), .fz (.int x), .fz (.int y)] []) ?_ ?_
    · refine w_if ?_
      walk_at "tlev"
      refine w_pow_i (by decide +kernel) ?_
      walk_at "tlev"
      (refine And.intro (fun hk => ?_) (fun hk => ?_) <;> first | (simp only [reduceCtorEq, Bool.true_eq_false, Bool.false_eq_true, Bool.not_true, Bool.not_false] at hk; done) | (simp only [decide_eq_true_eq, decide_eq_false_iff_not, Int.not_lt, Int.not_le, Bool.not_eq_true', Bool.not_eq_false', Bool.not_eq_true, Bool.not_eq_false, Bool.not_true, Bool.not_false] at hk) | skip)
      · walk_at "tlev"
        refine w_pow_i (by decide +kernel) ?_
        walk_at "tlev"
        exact ⟨_, rfl⟩
      · walk_at "tlev"
        exact ⟨_, rfl⟩
    · rintro o ⟨y, rfl⟩
      walk_at "tlev"
      have hz := mul_fit (i := x) (j := 6364136223846793005) (Nat.le_trans hx (by decide)) (Nat.le_trans (bits64 (by omega) (by omega)) (by decide))
      with_reducible refine w_mul_i hz ?_
      walk_at "tlev"
      exact ⟨by decide, h (_, _) ⟨Int.emod_nonneg _ (by decide), Int.emod_lt_of_pos _ (by decide)⟩⟩
theorem pick_any {f : Int × Int} {ds : List PyData} {Q : PyData × PyData → Prop} (hf : 0 ≤ f.2 ∧ f.2 < (2305843009213693951 : Int)) (h0 : 0 < ds.length) (h1 : ds.length < 1000000) (h : ∀ (d : PyData) (f' : Int × Int), d ∈ ds → 0 ≤ f'.2 ∧ f'.2 < (2305843009213693951 : Int) → Q (d, fd f')) : W (m__law_pick (fd f) [.list ds]) Q := by
  unfold m__law_pick b__law_pick
  walk_at "tlev"
  refine ⟨_, rfl, trivial, ?_⟩
  refine take_any hf (by omega) (log_fit (by omega) (by omega)).2 fun v f' v0 v1 hf' => ?_
  walk_at "tlev"
  refine w_at (atI_in v0 v1) ?_
  walk_at "tlev"
  exact h _ f' (List.getElem_mem _) hf'
theorem whole_int {i : Int} {Q : PyData → Prop} (h : Q (.bool true)) : W (m__law_whole [.int i]) Q := by
  unfold m__law_whole b__law_whole
  walk_at "tlev"
  refine W.of (show isiD "int" (.int i) = some (.bool true) from rfl) ?_
  refine ⟨true, rfl, fun _ => ?_, fun z => (by cases z)⟩
  walk_at "tlev"
  refine W.of (show isiD "bool" (.int i) = some (.bool false) from rfl) ?_
  walk_at "tlev"
  exact h
end K74
end
/-! P74b -/
section
set_option maxHeartbeats 4000000
namespace K74
open PySem L2 TL
abbrev LET : Str := "abcdefghijklmnopqrstuvwxyz"
abbrev FIL : Str := "abcefghijklmnopqrstuvwxyz"
def FO (f : Int × Int) : Prop := 0 ≤ f.2 ∧ f.2 < (2305843009213693951 : Int)
theorem range_at {lo : Int} {n i : Nat} {d : PyData} (h : (rangeD lo n)[i]? = some d) : i < n ∧ d = .int (lo + (i : Nat)) := by
  unfold rangeD at h
  rw [List.getElem?_map] at h
  by_cases hi : i < n
  · rw [List.getElem?_range hi] at h
    exact ⟨hi, (Option.some.inj h).symm⟩
  · rw [List.getElem?_eq_none (by rw [List.length_range]; omega)] at h
    cases h
theorem range_len (lo : Int) (n : Nat) : (rangeD lo n).length = n := by unfold rangeD; simp
/-- letters, one at least -/
abbrev Lk (k : Nat) (s : Str) : Prop := Lc k s ∧ 1 ≤ s.length
abbrev Ln (s : Str) : Prop := Lk 8 s
def Ts (k : Nat) (i : Nat) (acc : List PyData) : Prop := ∃ ss : List Str, acc = ss.map .str ∧ ss.length = i ∧ ∀ s ∈ ss, Lk k s
theorem Ts.nil {k : Nat} : Ts k 0 [] := ⟨[], rfl, rfl, fun s hs => by cases hs⟩
theorem Ts.snoc {k i : Nat} {acc : List PyData} {s : Str} (h : Ts k i acc) (hs : Lk k s) : Ts k (i + 1) (acc ++ [.str s]) := by
  obtain ⟨ss, rfl, rfl, h⟩ := h
  refine ⟨ss ++ [s], by rw [List.map_append]; rfl, by rw [List.length_append]; rfl, fun x hx => ?_⟩
  rcases List.mem_append.mp hx with q | q
  · exact h x q
  · rw [List.mem_singleton.mp q]; exact hs
theorem Ts.len {k i : Nat} {acc : List PyData} (h : Ts k i acc) : acc.length = i := by
  obtain ⟨ss, rfl, rfl, h⟩ := h
  rw [List.length_map]
/-- letters or none -/
def Tc (k : Nat) (i : Nat) (acc : List PyData) : Prop := ∃ ss : List Str, acc = ss.map .str ∧ ss.length = i ∧ ∀ s ∈ ss, Lc k s
theorem Tc.nil {k : Nat} : Tc k 0 [] := ⟨[], rfl, rfl, fun s hs => by cases hs⟩
theorem Tc.snoc {k i : Nat} {acc : List PyData} {s : Str} (h : Tc k i acc) (hs : Lc k s) : Tc k (i + 1) (acc ++ [.str s]) := by
  obtain ⟨ss, rfl, rfl, h⟩ := h
  refine ⟨ss ++ [s], by rw [List.map_append]; rfl, by rw [List.length_append]; rfl, fun x hx => ?_⟩
  rcases List.mem_append.mp hx with q | q
  · exact h x q
  · rw [List.mem_singleton.mp q]; exact hs
theorem Tc.len {k i : Nat} {acc : List PyData} (h : Tc k i acc) : acc.length = i := by
  obtain ⟨ss, rfl, rfl, h⟩ := h
  rw [List.length_map]
theorem fil_ok : ∀ i : _root_.Fin 25, ∃ c, FIL.cps.toList[i.val]? = some c ∧ (97 ≤ c ∧ c < 123) ∧ (Txt.replace LET ⟨#[c]⟩ "").length = 25 ∧ (∀ d ∈ (Txt.replace LET ⟨#[c]⟩ "").cps.toList, 97 ≤ d ∧ d < 123) := by
  have h : ∀ i : _root_.Fin 25, (match FIL.cps.toList[i.val]? with | some c => decide ((97 ≤ c ∧ c < 123) ∧ (Txt.replace LET ⟨#[c]⟩ "").length = 25 ∧ (∀ d ∈ (Txt.replace LET ⟨#[c]⟩ "").cps.toList, 97 ≤ d ∧ d < 123)) | none => false) = true := by decide +kernel
  intro i
  have := h i
  cases e : FIL.cps.toList[i.val]? with
  | none => rw [e] at this; cases this
  | some c =>
    rw [e] at this
    exact ⟨c, rfl, of_decide_eq_true this⟩
theorem str_ix {L : Str} {i : Int} {n : Nat} (hl : L.length = n) (hn : n ≤ 1000) (ha : ∀ d ∈ L.cps.toList, 97 ≤ d ∧ d < 123) (h0 : 0 ≤ i) (h1 : i < n) {Q : PyData → Prop} (h : ∀ c : Nat, isL c → Q (.str ⟨#[c]⟩)) : W (ixD (.str L) (.int i)) Q := by
  have hs : L.cps.toList.length = n := by rw [← hl]; simp [Str.length]
  exact w_ix_s (le_line (by omega)) (w_at (atI_in h0 (by rw [hs]; exact h1)) (h _ (ha _ (List.getElem_mem _))))
theorem len_ap (s t : Str) : (s ++ t).length = s.length + t.length := by
  have e : (s ++ t).cps = s.cps ++ t.cps := rfl
  show (s ++ t).cps.size = _
  rw [e, Array.size_append]
  rfl
theorem unlike_any {f : Int × Int} {many : Int} {Q : PyData × PyData → Prop} (hf : FO f) (h0 : 0 ≤ many) (h1 : many ≤ 25) (h : ∀ (ss : List Str) (f' : Int × Int), FO f' → ss.length = many.toNat → (∀ s ∈ ss, Ln s) → Q (.list (ss.map .str), fd f')) : W (m__law_unlike (fd f) [.int many]) Q := by
  unfold m__law_unlike b__law_unlike
  walk_at "tlex"
  refine take_any hf (by decide) (by decide +kernel) fun v f1 a0 a1 hf1 => ?_
  walk_at "tlex"
  obtain ⟨c, hc1, hc2, hc3, hc4⟩ := fil_ok ⟨v.toNat, by omega⟩
  have e : replR 3 4 2 FIL (.int v) [.ow 0, .fz (.int many), .fz (.str LET), .un, .un, .un, .un, .un, .un, .un] = some [.ow 0, .fz (.int many), .fz (.str LET), .fz (.str ⟨#[c]⟩), .fz (.str (Txt.replace LET ⟨#[c]⟩ "")), .un, .un, .un, .un, .un] := by
    have hat : atI FIL.cps.toList v = some c := by
      have hl : FIL.cps.toList.length = 25 := by decide +kernel
      rw [atI_in a0 (by rw [hl]; exact a1)]
      rw [List.getElem?_eq_getElem (by rw [hl]; show v.toNat < 25; omega)] at hc1
      exact hc1
    unfold replR
    simp only [hat, Option.bind_some]
    show (if FIL.length ≤ sizeLine ∧ LET.length ≤ 1000000 then _ else none) = _
    rw [if_pos ⟨by decide +kernel, by decide +kernel⟩]
    rfl
  refine W.of e ?_
  generalize Txt.replace LET ⟨#[c]⟩ "" = signs at hc3 hc4
  walk_at "tlex"
  refine take_any hf1 (by decide) (by decide +kernel) fun first f2 b0 b1 hf2 => ?_
  walk_at "tlex"
  refine take_any hf2 (by decide) (by decide +kernel) fun place f3 c0 c1 hf3 => ?_
  walk_at "tlex"
  refine take_any hf3 (by decide) (by decide +kernel) fun z f4 d0 d1 hf4 => ?_
  walk_at "tlex"
  refine w_at (atI_in d0 (by simp only [List.length_cons, List.length_nil]; omega)) ?_
  have hst : ∀ (n : Nat) (hn : n < 6), ∃ k : Int, 0 ≤ k ∧ k ≤ 7 ∧ [PyData.int 1, PyData.int 2, PyData.int 3, PyData.int 4, PyData.int 6, PyData.int 7][n]'hn = .int k := fun n hn => match n, hn with
    | 0, _ => ⟨1, by decide, by decide, rfl⟩
    | 1, _ => ⟨2, by decide, by decide, rfl⟩
    | 2, _ => ⟨3, by decide, by decide, rfl⟩
    | 3, _ => ⟨4, by decide, by decide, rfl⟩
    | 4, _ => ⟨6, by decide, by decide, rfl⟩
    | 5, _ => ⟨7, by decide, by decide, rfl⟩
  obtain ⟨stride, s0, s1, es⟩ := hst z.toNat (by omega)
  rw [es]
  walk_at "tlex"
  refine w_lcI (fun ds i acc m => Ts 1 i acc ∧ m = [some (fd f4)]) ?_
  walk_at "tlex"
  refine ⟨_, rfl, by omega, ⟨Ts.nil, by trivial⟩, ?_, ?_⟩
  · rintro i d m acc hd ⟨ht, rfl⟩
    obtain ⟨hi, rfl⟩ := range_at hd
    walk_at "tlex"
    simp only [wipeR]
    walk_at "tlex"
    refine ⟨fun _ => ?_, fun z => by cases z⟩
    walk_at "tlex"
    refine str_ix hc3 (by decide) hc4 (Int.emod_nonneg _ (by decide)) (Int.emod_lt_of_pos _ (by decide)) fun c hc => ?_
    walk_at "tlex"
    exact ⟨lt_line (by rw [ht.len]; omega), ht.snoc ⟨Lp.one hc, Nat.le_refl 1⟩, by trivial⟩
  · rintro acc m ⟨⟨ss, rfl, hs1, hs2⟩, rfl⟩
    rw [range_len] at hs1
    walk_at "tlex"
    refine w_lcI (fun ds i acc m => ∃ f5, FO f5 ∧ Ts 8 i acc ∧ m = [some (fd f5)]) ?_
    walk_at "tlex"
    refine ⟨⟨f4, hf4, Ts.nil, by trivial⟩, ?_, ?_⟩
    · rintro i d m acc hd ⟨f5, hf5, ht, rfl⟩
      have hlt := (List.getElem?_eq_some_iff.mp hd).1
      rw [List.length_map] at hlt
      have hdo : ∃ s, d = .str s ∧ Lk 1 s := by
        obtain ⟨s, hs3, rfl⟩ := List.mem_map.mp (List.mem_of_getElem? hd)
        exact ⟨s, rfl, hs2 s hs3⟩
      obtain ⟨s, rfl, hso, hs1'⟩ := hdo
      walk_at "tlex"
      simp only [wipeR]
      walk_at "tlex"
      refine ⟨fun _ => ?_, fun z => by cases z⟩
      walk_at "tlex"
      refine w_mul_s (show 1 ≤ 4096 by decide) c0 (by omega) ?_
      have l1 := (Lp.one (P := isL) (c := c) hc2).mul place
      generalize Txt.mul _ place = body at l1
      walk_at "tlex"
      refine w_add_s (Nat.le_trans (Nat.add_le_add l1.1 hso.1) (le_line (by omega))) ?_
      walk_at "tlex"
      refine take_any hf5 (by omega) (log_fit (by omega) (by omega)).2 fun v2 f6 g0 g1 hf6 => ?_
      walk_at "tlex"
      refine w_mul_s (show 1 ≤ 4096 by decide) g0 (by omega) ?_
      have l2 := (Lp.one (P := isL) (c := c) hc2).mul v2
      generalize Txt.mul _ v2 = tail at l2
      walk_at "tlex"
      have l3 := (l1.app hso).app l2
      refine w_add_s (Nat.le_trans (Nat.add_le_add (l1.app hso).1 l2.1) (le_line (by omega))) ?_
      walk_at "tlex"
      exact ⟨lt_line (by rw [ht.len]; omega), f6, hf6, ht.snoc ⟨l3.mono (by omega), by rw [len_ap, len_ap]; omega⟩, by trivial⟩
    · rintro acc m ⟨f5, hf5, ⟨ss2, rfl, hs3, hs4⟩, rfl⟩
      rw [List.length_map] at hs3
      walk_at "tlex"
      exact h ss2 f5 hf5 (hs3.trans hs1) hs4
end K74
end
/-! P74c -/
section
set_option maxHeartbeats 4000000
namespace K74
open PySem L2 TL
structure Us where
  w : Str
  v : Str
  c : Bool
  b : Bool
abbrev Us.d (u : Us) : PyData := .tuple [.str u.w, .str u.v, .bool u.c, .bool u.b]
def Us.ok (u : Us) : Prop := Lc 8 u.w ∧ Lc 8 u.v
/-- a row: its word, its parts; its whole numbers below B -/
inductive Rk (B : Int) : PyData → Prop
  | tell (i : Int) : -B < i → i < B → Rk B (.tuple [.str "tell", .int i])
  | name (w s : Str) : w ∈ [("bring" : Str), "share", "drop"] → Ln s → Rk B (.tuple [.str w, .str s])
  | ask (s t : Str) : Ln s → Ln t → Rk B (.tuple [.str "ask", .str s, .str t])
  | one (w : Str) (k : Int) : w ∈ [("show" : Str), "skip", "call"] → 0 ≤ k → k < 100 → Rk B (.tuple [.str w, .int k])
  | two (w : Str) (k i : Int) : w ∈ [("put" : Str), "add"] → 0 ≤ k → k < 100 → -B < i → i < B → Rk B (.tuple [.str w, .int k, .int i])
abbrev Rw (d : PyData) : Prop := Rk 1000000000 d
theorem sh_nm {n : Nat} {s : Str} (h : Lc n s) (l : n ≤ 41) : Sh 41 0 (.str s) := (Sh.str h.lw).mono l (Nat.le_refl 0)
theorem sh_lw {n : Nat} {s : Str} (h : Lw n s) (l : n ≤ 41) : Sh 41 0 (.str s) := (Sh.str h).mono l (Nat.le_refl 0)
theorem sh_i {i : Int} (h0 : -1000000000 < i) (h1 : i < 1000000000) : Sh 41 0 (.int i) := Sh.int (by omega) (by omega)
theorem lw_w {w : Str} (h : w ∈ [("tell" : Str), "bring", "share", "drop", "ask", "show", "skip", "call", "put", "add"]) : Lw 8 w := by
  simp only [List.mem_cons, List.not_mem_nil, or_false] at h
  rcases h with q | q | q | q | q | q | q | q | q | q <;> rw [q] <;> decide +kernel
theorem Rw.sh {d : PyData} (h : Rw d) : Sh 126 1 d := by
  have t2 : ∀ {a b : PyData}, Sh 41 0 a → Sh 41 0 b → Sh 126 1 (.tuple [a, b]) := fun {a b} ha hb => (Sh.tup (w := 41) (k := 0) (n := 3) (fun p hp => by
    rcases List.mem_cons.mp hp with q | q
    · rw [q]; exact ha
    · rw [List.mem_singleton.mp q]; exact hb) (by simp only [List.length_cons, List.length_nil]; decide)).mono (by decide) (by decide)
  have t3 : ∀ {a b c : PyData}, Sh 41 0 a → Sh 41 0 b → Sh 41 0 c → Sh 126 1 (.tuple [a, b, c]) := fun {a b c} ha hb hc => (Sh.tup (w := 41) (k := 0) (n := 3) (fun p hp => by
    rcases List.mem_cons.mp hp with q | q
    · rw [q]; exact ha
    · rcases List.mem_cons.mp q with q | q
      · rw [q]; exact hb
      · rw [List.mem_singleton.mp q]; exact hc) (by simp only [List.length_cons, List.length_nil]; decide)).mono (by decide) (by decide)
  have wd : ∀ {w : Str}, w ∈ [("tell" : Str), "bring", "share", "drop", "ask", "show", "skip", "call", "put", "add"] → Sh 41 0 (.str w) := fun {w} h => sh_lw (lw_w h) (by decide)
  cases h with
  | tell i h0 h1 => exact t2 (wd (by simp)) (sh_i h0 h1)
  | name w s hw hs => exact t2 (wd (by simp only [List.mem_cons, List.not_mem_nil, or_false] at hw ⊢; rcases hw with q | q | q <;> simp [q])) (sh_nm hs.1 (by decide))
  | ask s t hs ht => exact t3 (wd (by simp)) (sh_nm hs.1 (by decide)) (sh_nm ht.1 (by decide))
  | one w k hw h0 h1 => exact t2 (wd (by simp only [List.mem_cons, List.not_mem_nil, or_false] at hw ⊢; rcases hw with q | q | q <;> simp [q])) (sh_i (by omega) (by omega))
  | two w k i hw h0 h1 h2 h3 => exact t3 (wd (by simp only [List.mem_cons, List.not_mem_nil, or_false] at hw ⊢; rcases hw with q | q <;> simp [q])) (sh_i (by omega) (by omega)) (sh_i h2 h3)
/-- small numbers -/
def Sm (d : PyData) : Prop := ∃ i : Int, d = .int i ∧ 0 ≤ i ∧ i < 1000
theorem Sm.sh {d : PyData} (h : Sm d) : Sh 41 0 d := by
  obtain ⟨i, rfl, h0, h1⟩ := h
  exact sh_i (by omega) (by omega)
theorem shaped_ds {ds : List PyData} {w k : Nat} (h : ∀ d ∈ ds, Sh w k d) (hk : k ≤ 60) : SeqAt.shaped (.list ds) = true := (Sh.lst h (Nat.le_refl _)).shaped (by omega)
theorem snoc_all {P : PyData → Prop} {acc : List PyData} {x : PyData} (h : ∀ d ∈ acc, P d) (hx : P x) : ∀ d ∈ acc ++ [x], P d := fun d hd => by
  rcases List.mem_append.mp hd with q | q
  · exact h d q
  · rw [List.mem_singleton.mp q]; exact hx
theorem isE {α : Type} {l : List α} (h : (!l.isEmpty) = true) : 0 < l.length := by cases l <;> simp at h ⊢
structure Gv where
  w : Str
  v : Str
  c : Bool
  f : Bool
  x : PyData
abbrev Gv.d (g : Gv) : PyData := .tuple [.str g.w, .str g.v, .bool g.c, .bool g.f, g.x]
def Wt (x : PyData) : Prop := (∃ i : Int, x = .int i ∧ -1000000000 < i ∧ i < 1000000000) ∨ (∃ rs, x = .tuple rs ∧ rs.length ≤ 8 ∧ ∀ r ∈ rs, Rw r)
def Gv.ok (g : Gv) : Prop := Lc 8 g.w ∧ Lc 8 g.v ∧ Wt g.x
theorem Wt.sh {x : PyData} (h : Wt x) : Sh 1016 2 x := by
  rcases h with ⟨i, rfl, h0, h1⟩ | ⟨rs, rfl, h0, h1⟩
  · exact (sh_i h0 h1).mono (by decide) (by decide)
  · exact (Sh.tup (fun d hd => (h1 d hd).sh) h0).mono (by decide) (by decide)
theorem Gv.sh {g : Gv} (h : g.ok) : Sh 5085 3 g.d := by
  refine (Sh.tup (w := 1016) (k := 2) (n := 5) (fun d hd => ?_) (by simp only [List.length_cons, List.length_nil]; decide)).mono (by decide) (by decide)
  simp only [List.mem_cons, List.not_mem_nil, or_false] at hd
  rcases hd with q | q | q | q | q <;> rw [q]
  · exact (Sh.str h.1.lw).mono (by decide) (by decide)
  · exact (Sh.str h.2.1.lw).mono (by decide) (by decide)
  · exact Sh.bool.mono (by decide) (by decide)
  · exact Sh.bool.mono (by decide) (by decide)
  · exact h.2.2.sh
theorem shaped_gs {gs : List Gv} (h : ∀ g ∈ gs, g.ok) : SeqAt.shaped (.list (gs.map Gv.d)) = true := shaped_ds (w := 5085) (k := 3) (fun d hd => by
  obtain ⟨g, hg, rfl⟩ := List.mem_map.mp hd
  exact Gv.sh (h g hg)) (by decide)
/-- gives gathered out of others -/
def Gs (i : Nat) (acc : List PyData) : Prop := ∃ gs : List Gv, acc = gs.map Gv.d ∧ gs.length ≤ i ∧ ∀ g ∈ gs, g.ok
theorem Gs.nil : Gs 0 [] := ⟨[], rfl, Nat.le_refl 0, fun g hg => by cases hg⟩
theorem Gs.snoc {i : Nat} {acc : List PyData} {g : Gv} (h : Gs i acc) (hg : g.ok) : Gs (i + 1) (acc ++ [g.d]) := by
  obtain ⟨gs, rfl, h1, h2⟩ := h
  refine ⟨gs ++ [g], by rw [List.map_append]; rfl, by rw [List.length_append]; exact Nat.succ_le_succ h1, fun x hx => ?_⟩
  rcases List.mem_append.mp hx with q | q
  · exact h2 x q
  · rw [List.mem_singleton.mp q]; exact hg
theorem Gs.step {i : Nat} {acc : List PyData} (h : Gs i acc) : Gs (i + 1) acc := by
  obtain ⟨gs, e, h1, h2⟩ := h
  exact ⟨gs, e, Nat.le_succ_of_le h1, h2⟩
theorem Gs.len {i : Nat} {acc : List PyData} (h : Gs i acc) : acc.length ≤ i := by
  obtain ⟨gs, rfl, h1, h2⟩ := h
  rw [List.length_map]
  exact h1
theorem gs_at {gs : List Gv} {i : Nat} {d : PyData} (h : (gs.map Gv.d)[i]? = some d) : ∃ g, gs[i]? = some g ∧ d = g.d := by
  rw [List.getElem?_map] at h
  cases e : gs[i]? with
  | none => rw [e] at h; cases h
  | some g => rw [e] at h; exact ⟨g, rfl, (Option.some.inj h).symm⟩
structure Lb where
  n : Str
  ns : List Str
  gs : List Gv
  us : List Us
  r0 : List PyData
  r1 : List PyData
  ks : List Str
abbrev Lb.d (l : Lb) : PyData := .tuple [.str l.n, .tuple (l.ns.map .str), .tuple (l.gs.map Gv.d), .tuple (l.us.map Us.d), .tuple l.r0, .tuple l.r1, .tuple (l.ks.map .str)]
structure Lb.ok (l : Lb) : Prop where
  n : Ln l.n
  ns : l.ns.length ≤ 6 ∧ ∀ s ∈ l.ns, Lc 8 s
  gs : l.gs.length ≤ 8 ∧ ∀ g ∈ l.gs, g.ok
  us : l.us.length ≤ 8 ∧ ∀ u ∈ l.us, u.ok
  r0 : l.r0.length ≤ 8 ∧ ∀ r ∈ l.r0, Rw r
  r1 : l.r1.length ≤ 8 ∧ ∀ r ∈ l.r1, Rw r
  ks : l.ks.length ≤ 3 ∧ ∀ s ∈ l.ks, Lw 8 s
theorem Us.sh {u : Us} (h : u.ok) : Sh 168 1 u.d := (Sh.tup (w := 41) (k := 0) (n := 4) (fun d hd => by
  simp only [List.mem_cons, List.not_mem_nil, or_false] at hd
  rcases hd with q | q | q | q <;> rw [q]
  · exact sh_nm h.1 (by decide)
  · exact sh_nm h.2 (by decide)
  · exact Sh.bool.mono (by decide) (by decide)
  · exact Sh.bool.mono (by decide) (by decide)) (by simp only [List.length_cons, List.length_nil]; decide)).mono (by decide) (by decide)
theorem shaped_strs {ss : List Str} (h : ∀ s ∈ ss, Lc 8 s) : SeqAt.shaped (.list (ss.map .str)) = true := shaped_ds (w := 41) (k := 0) (fun d hd => by
  obtain ⟨s, hs, rfl⟩ := List.mem_map.mp hd
  exact sh_nm (h s hs) (by decide)) (by decide)
theorem shaped_str {s : Str} (h : Lc 8 s) : SeqAt.shaped (.str s) = true := shaped_s h.lw.ok
theorem snoc_s {P : Str → Prop} {acc : List Str} {x : Str} (h : ∀ d ∈ acc, P d) (hx : P x) : ∀ d ∈ acc ++ [x], P d := fun d hd => by
  rcases List.mem_append.mp hd with q | q
  · exact h d q
  · rw [List.mem_singleton.mp q]; exact hx
theorem str_at {ss : List Str} {i : Nat} {d : PyData} (h : (ss.map PyData.str)[i]? = some d) : ∃ s, ss[i]? = some s ∧ d = .str s := by
  rw [List.getElem?_map] at h
  cases e : ss[i]? with
  | none => rw [e] at h; cases h
  | some g => rw [e] at h; exact ⟨g, rfl, (Option.some.inj h).symm⟩
theorem w_str_at {ss : List Str} {j : Int} (h0 : 0 ≤ j) (h1 : j < ss.length) (hs : ∀ s ∈ ss, Lc 8 s) {Q : PyData → Prop} (h : ∀ s, Lc 8 s → Q (.str s)) : W (atI (ss.map PyData.str) j) Q := by
  refine w_at (atI_in h0 (by rw [List.length_map]; exact h1)) ?_
  rw [List.getElem_map]
  exact h _ (hs _ (List.getElem_mem _))
theorem w_str_atN {ss : List Str} {j : Int} (h0 : 0 ≤ j) (h1 : j < ss.length) (hs : ∀ s ∈ ss, Ln s) {Q : PyData → Prop} (h : ∀ s, Ln s → Q (.str s)) : W (atI (ss.map PyData.str) j) Q := by
  refine w_at (atI_in h0 (by rw [List.length_map]; exact h1)) ?_
  rw [List.getElem_map]
  exact h _ (hs _ (List.getElem_mem _))
theorem rep01 (b : Bool) (s : Str) : (List.replicate (if b = true then (1 : Int) else 0).toNat [PyData.str s]).flatten = (if b = true then [s] else []).map PyData.str := by
  cases b <;> rfl
def wh : PyData → Bool
  | .int _ => true
  | _ => false
theorem whole_w {x : PyData} {Q : PyData → Prop} (h : Wt x) (q : Q (.bool (wh x))) : W (m__law_whole [x]) Q := by
  rcases h with ⟨i, rfl, _, _⟩ | ⟨rs, rfl, _, _⟩
  · exact whole_int q
  · unfold m__law_whole b__law_whole
    walk_at "tlex"
    refine W.of (show isiD "int" (.tuple rs) = some (.bool false) from rfl) ?_
    refine ⟨false, rfl, fun z => (by cases z), fun _ => ?_⟩
    walk_at "tlex"
    exact q
theorem rangeC_at {lo c : Int} {n i : Nat} {d : PyData} (h : (rangeC lo c n)[i]? = some d) : i < n ∧ d = .int (lo + (i : Nat) * c) := by
  unfold rangeC at h
  rw [List.getElem?_map] at h
  by_cases hi : i < n
  · rw [List.getElem?_range hi] at h
    exact ⟨hi, (Option.some.inj h).symm⟩
  · rw [List.getElem?_eq_none (by rw [List.length_range]; omega)] at h
    cases h
theorem rangeC_len (lo c : Int) (n : Nat) : (rangeC lo c n).length = n := by unfold rangeC; simp
end K74
end
/-! P74d -/
section
set_option maxHeartbeats 4000000
namespace K74
open PySem L2 TL
theorem number_any {f : Int × Int} {Q : PyData × PyData → Prop} (hf : FO f) (h : ∀ (i : Int) (f' : Int × Int), FO f' → -1000000000 < i → i < 1000000000 → Q (.int i, fd f')) : W (m__law_number (fd f) []) Q := by
  unfold m__law_number b__law_number
  walk_at "tlex"
  refine take_any hf (by decide) (by decide +kernel) fun v f1 a0 a1 hf1 => ?_
  walk_at "tlex"
  refine w_pow_i (by decide +kernel) ?_
  have e8 : (10 : Int) ^ (Int.toNat 8) = 100000000 := by decide +kernel
  rw [e8]
  walk_at "tlex"
  refine w_pow_i (by decide +kernel) ?_
  have e9 : (10 : Int) ^ (Int.toNat 9) = 1000000000 := by decide +kernel
  rw [e9]
  walk_at "tlex"
  refine take_any hf1 (by decide) (by decide +kernel) fun v2 f2 b0 b1 hf2 => ?_
  walk_at "tlex"
  refine pick_any hf2 (by simp only [List.length_cons]; omega) (by simp only [List.length_cons, List.length_nil]; omega) fun y f3 hy hf3 => ?_
  have hj : ∃ j : Int, y = .int j ∧ -1000000000 < j ∧ j < 1000000000 := by
    simp only [List.mem_cons, List.not_mem_nil, or_false] at hy
    rcases hy with q | q | q | q | q
    · exact ⟨_, q, by decide, by decide⟩
    · exact ⟨_, q, by decide, by decide⟩
    · exact ⟨_, q, by decide, by decide⟩
    · exact ⟨_, q, by omega, by omega⟩
    · exact ⟨_, q, by omega, by omega⟩
  obtain ⟨j, rfl, j0, j1⟩ := hj
  walk_at "tlex"
  exact h j f3 hf3 j0 j1
theorem w_all {P : PyData → Prop} {a b : List PyData} (ha : ∀ d ∈ a, P d) (hb : ∀ d ∈ b, P d) : ∀ d ∈ a ++ b, P d := fun d hd => by
  rcases List.mem_append.mp hd with q | q
  · exact ha d q
  · exact hb d q
theorem rows_any {f : Int × Int} {ns ws : List Str} {us : List Us} {Q : PyData × PyData → Prop} (hf : FO f) (hn : 0 < ns.length ∧ ns.length < 1000) (hw : 0 < ws.length ∧ ws.length < 1000) (hu : us.length < 100) (pn : ∀ s ∈ ns, Ln s) (pw : ∀ s ∈ ws, Ln s)
    (h : ∀ (rs : List PyData) (f' : Int × Int), FO f' → rs.length ≤ 8 → (∀ r ∈ rs, Rw r) → Q (.tuple rs, fd f')) : W (m__law_rows_drawn (fd f) [.list (ns.map .str), .list (ws.map .str), .list (us.map Us.d)]) Q := by
  have pk : ∀ {ss : List Str} {f : Int × Int} {R : PyData × PyData → Prop}, FO f → 0 < ss.length ∧ ss.length < 1000 → (∀ s ∈ ss, Ln s) → (∀ (s : Str) (f' : Int × Int), FO f' → Ln s → R (.str s, fd f')) → W (m__law_pick (fd f) [.list (ss.map .str)]) R := fun {ss f R} hf hl hp k => by
    refine pick_any hf (by rw [List.length_map]; exact hl.1) (by rw [List.length_map]; omega) fun y f3 hy hf3 => ?_
    obtain ⟨s, hs, rfl⟩ := List.mem_map.mp hy
    exact k s f3 hf3 (hp s hs)
  unfold m__law_rows_drawn b__law_rows_drawn
  walk_at "tlex"
  refine number_any hf fun i0 f1 hf1 i00 i01 => ?_
  walk_at "tlex"
  refine pk hf1 hn pn fun s1 f2 hf2 hs1 => ?_
  walk_at "tlex"
  refine pk hf2 hn pn fun s2 f3 hf3 hs2 => ?_
  walk_at "tlex"
  refine pk hf3 hn pn fun s3 f4 hf4 hs3 => ?_
  walk_at "tlex"
  refine pk hf4 hn pn fun s4 f5 hf5 hs4 => ?_
  walk_at "tlex"
  refine pk hf5 hw pw fun s5 f6 hf6 hs5 => ?_
  walk_at "tlex"
  refine w_add_l (by simp only [List.length_cons, List.length_nil]; exact le_line (by omega)) ?_
  walk_at "tlex"
  have hsome : ∀ d ∈ [PyData.tuple [PyData.str "tell", PyData.int i0], PyData.tuple [PyData.str "drop", PyData.str s1], PyData.tuple [PyData.str "bring", PyData.str s2], PyData.tuple [PyData.str "share", PyData.str s3], PyData.tuple [PyData.str "ask", PyData.str s4, PyData.str s5]], Rw d := fun d hd => by
    simp only [List.mem_cons, List.not_mem_nil, or_false] at hd
    rcases hd with q | q | q | q | q <;> rw [q]
    · exact .tell i0 i00 i01
    · exact .name _ s1 (by simp) hs1
    · exact .name _ s2 (by simp) hs2
    · exact .name _ s3 (by simp) hs3
    · exact .ask s4 s5 hs4 hs5
  have hlen : [PyData.tuple [PyData.str "tell", PyData.int i0], PyData.tuple [PyData.str "drop", PyData.str s1], PyData.tuple [PyData.str "bring", PyData.str s2], PyData.tuple [PyData.str "share", PyData.str s3], PyData.tuple [PyData.str "ask", PyData.str s4, PyData.str s5]].length = 5 := rfl
  generalize [PyData.tuple [PyData.str "tell", PyData.int i0], PyData.tuple [PyData.str "drop", PyData.str s1], PyData.tuple [PyData.str "bring", PyData.str s2], PyData.tuple [PyData.str "share", PyData.str s3], PyData.tuple [PyData.str "ask", PyData.str s4, PyData.str s5]] = some0 at hsome hlen
  refine w_for (fun ds i r m => ∃ (f1 : Int × Int) (so : List PyData) (ms : Ms) (e5 e7 : Sl), FO f1 ∧ ds.length < 100 ∧ so.length ≤ 5 + 4 * i ∧ 0 < so.length ∧ (∀ r ∈ so, Rw r) ∧ r = [.ow 0, .fz (.list (ns.map .str)), .fz (.list (ws.map .str)), .fz (.list (us.map Us.d)), .fz (.list so), e5, .un, e7, .un] ∧ m = some (fd f1) :: ms) ?_
  walk_at "tlex"
  simp only [List.length_map]
  refine ⟨_, rfl, by omega, ⟨f6, some0, [], _, _, hf6, by rw [range_len]; omega, by omega, by omega, hsome, rfl, rfl⟩, ?_, ?_⟩
  · rintro i x r m hx ⟨f1, so, ms, e5, e7, hf1, h99, hl, hl0, hr, rfl, rfl⟩
    obtain ⟨hi, rfl⟩ := range_at hx
    have hi : i < us.length := by rw [Int.toNat_natCast] at hi; exact hi
    walk_at "tlex"
    have hk : Sh 41 0 (.int (0 + (i : Nat))) := sh_i (by omega) (by omega)
    refine W.mono (P := fun o => ∃ (f2 : Int × Int) (a : Nat) (ms : Ms) (rs : List PyData), FO f2 ∧ rs.length ≤ 4 ∧ (∀ r ∈ rs, Rw r) ∧ cellAt ms a = some (.list rs) ∧ o = Out.nx [.ow 0, .fz (.list (ns.map .str)), .fz (.list (ws.map .str)), .fz (.list (us.map Us.d)), .fz (.list so), .fz (.int (0 + (i : Nat))), .un, .ow (a + 1), .un] (some (fd f2) :: ms)) ?_ ?_
    · refine w_if1 (X := True) (by
        walk_at "tlex"
        refine w_at (atI_in (by omega) (by rw [List.length_map]; omega)) ?_
        rw [List.getElem_map]
        walk_at "tlex"
        exact fun _ => trivial) (fun _ => ?_) ?_
      · walk_at "tlex"
        refine number_any hf1 fun i1 f2 hf2 i10 i11 => ?_
        walk_at "tlex"
        refine w_app rfl (show cellAt (some (fd f2) :: _) (List.length _ + 1) = _ from cellAt_new) ?_
        walk_at "tlex"
        refine number_any hf2 fun i2 f3 hf3 i20 i21 => ?_
        walk_at "tlex"
        refine ⟨_, cellAt_new, lt_line (by simp only [List.length_cons, List.length_nil]; omega), f3, _, _, _, hf3, ?_, ?_, cellAt_self (by simp only [List.length_append, List.length_cons, List.length_nil]; omega), rfl⟩
        · simp only [List.length_append, List.length_cons, List.length_nil]; omega
        · refine snoc_all (fun d hd => ?_) (.two _ _ _ (by simp) (by omega) (by omega) i20 i21)
          simp only [List.mem_cons, List.not_mem_nil, or_false] at hd
          rcases hd with q | q | q <;> rw [q]
          · exact .one _ _ (by simp) (by omega) (by omega)
          · exact .one _ _ (by simp) (by omega) (by omega)
          · exact .two _ _ _ (by simp) (by omega) (by omega) i10 i11
      · walk_at "tlex"
        exact ⟨f1, _, _, _, hf1, by simp only [List.length_cons, List.length_nil]; omega, fun d hd => by rw [List.mem_singleton.mp hd]; exact .one _ _ (by simp) (by omega) (by omega), cellAt_new, rfl⟩
    · rintro o ⟨f2, a, ms, rs, hf2, hrl, hrr, hc, rfl⟩
      walk_at "tln"
      refine w_frz rfl (show cellAt (some (fd f2) :: ms) (a + 1) = _ from hc) ?_
      simp only [frz_cons, frz_nil, fz1_fz, fz1_un, fz1_eq]
      rw [fz1_ne (show (0 : Nat) ≠ a + 1 by omega)]
      walk_at "tlex"
      refine w_add_l (le_line (by omega)) ?_
      walk_at "tlex"
      exact ⟨f2, so ++ rs, _, _, _, hf2, h99, by rw [List.length_append]; omega, by rw [List.length_append]; omega, w_all hr hrr, rfl, rfl⟩
  · rintro r m ⟨f1, so, ms, e5, e7, hf1, h99, hl, hl0, hr, rfl, rfl⟩
    walk_at "tlex"
    refine take_any hf1 (by decide) (by decide +kernel) fun v1 f2 a0 a1 hf2 => ?_
    walk_at "tlex"
    refine take_any hf2 (by decide) (by decide +kernel) fun v2 f3 b0 b1 hf3 => ?_
    walk_at "tlex"
    refine take_any hf3 (by decide) (by decide +kernel) fun v3 f4 c0 c1 hf4 => ?_
    walk_at "tlex"
    refine pick_any hf4 (by simp only [List.length_cons]; omega) (by simp only [List.length_cons, List.length_nil]; omega) fun y f5 hy hf5 => ?_
    have hj : ∃ j : Int, y = .int j ∧ 0 ≤ j ∧ j ≤ 8 := by
      simp only [List.mem_cons, List.not_mem_nil, or_false] at hy
      rcases hy with q | q | q | q
      · exact ⟨_, q, by omega, by omega⟩
      · exact ⟨_, q, by decide, by decide⟩
      · exact ⟨_, q, by omega, by omega⟩
      · exact ⟨_, q, by omega, by omega⟩
    obtain ⟨many, rfl, m0, m1⟩ := hj
    walk_at "tlex"
    refine w_lcI (fun ds i acc m => ds.length ≤ 8 ∧ ∃ f6, FO f6 ∧ acc.length = i ∧ (∀ r ∈ acc, Rw r) ∧ m = some (fd f6) :: ms) ?_
    walk_at "tlex"
    refine ⟨_, rfl, by omega, ⟨by rw [range_len]; omega, f5, hf5, by trivial, fun r hr => (by cases hr), by trivial⟩, ?_, ?_⟩
    · rintro i d m acc hd ⟨h8, f6, hf6, hal, har, rfl⟩
      have hlt := (List.getElem?_eq_some_iff.mp hd).1
      walk_at "tlex"
      simp only [wipeR]
      walk_at "tlex"
      refine ⟨fun _ => ?_, fun z => by cases z⟩
      walk_at "tlex"
      refine pick_any hf6 hl0 (by omega) fun row f7 hrow hf7 => ?_
      walk_at "tlex"
      exact ⟨lt_line (by omega), h8, f7, hf7, by rw [List.length_append, hal]; rfl, snoc_all har (hr row hrow), by trivial⟩
    · rintro acc m ⟨h8, f6, hf6, hal, har, rfl⟩
      walk_at "tlex"
      exact h acc f6 hf6 (by omega) har
end K74
end
/-! P74e -/
section
set_option maxHeartbeats 4000000
namespace K74
open PySem L2 TL
theorem w_inD {ds : List PyData} {x : Str} {R : PyData → Prop} (h1 : SeqAt.shaped (.str x) = true) (h2 : SeqAt.shaped (.list ds) = true) (h : ∀ b, R (.bool b)) : W (inD (.str x) (.list ds)) R := by
  unfold inD
  refine W.map ?_
  show W (if SeqAt.shaped (.str x) = true ∧ SeqAt.shaped (.list ds) = true then some (ds.any fun z => PyData.eqv z (.str x)) else none) _
  exact W.guard ⟨h1, h2⟩ (.mk (h _))
theorem shaped_take {ss : List Str} {n : Nat} (h : ∀ s ∈ ss, Lc 8 s) : SeqAt.shaped (.list ((ss.map PyData.str).take n)) = true := by
  rw [← List.map_take]
  exact shaped_strs fun s hs => h s (List.mem_of_mem_take hs)
theorem gives_any {f : Int × Int} {ns ws vs : List Str} {us : List Us} {Q : PyData × PyData → Prop} (hf : FO f) (hn : 0 < ns.length ∧ ns.length < 1000) (hw : 0 < ws.length ∧ ws.length < 1000) (hv : vs.length < 900) (hu : us.length < 100) (pn : ∀ s ∈ ns, Ln s) (pw : ∀ s ∈ ws, Ln s) (pv : ∀ s ∈ vs, Lc 8 s)
    (h : ∀ (gs : List Gv) (f' : Int × Int), FO f' → gs.length ≤ 8 → (∀ g ∈ gs, g.ok) → Q (.tuple (gs.map Gv.d), fd f')) : W (m__law_gives_drawn (fd f) [.list (ns.map .str), .list (ws.map .str), .list (us.map Us.d), .list (vs.map .str)]) Q := by
  unfold m__law_gives_drawn b__law_gives_drawn
  walk_at "tlex"
  refine w_for (fun ds i r m => ∃ (f1 : Int × Int) (gs : List Gv) (e6 e7 e8 e9 e10 e11 e12 : Sl), FO f1 ∧ gs.length ≤ 8 ∧ (∀ g ∈ gs, g.ok) ∧ r = [.ow 0, .fz (.list (ns.map .str)), .fz (.list (ws.map .str)), .fz (.list (us.map Us.d)), .fz (.list (vs.map .str)), .ow 1, e6, e7, e8, e9, e10, e11, e12] ∧ m = [some (fd f1), some (.list (gs.map Gv.d))]) ?_
  walk_at "tlex"
  refine take_any hf (by decide) (by decide +kernel) fun v1 f1 a0 a1 hf1 => ?_
  walk_at "tlex"
  refine take_any hf1 (by decide) (by decide +kernel) fun v2 f2 b0 b1 hf2 => ?_
  walk_at "tlex"
  refine pick_any hf2 (by simp only [List.length_cons]; omega) (by simp only [List.length_cons, List.length_nil]; omega) fun y f3 hy hf3 => ?_
  have hj : ∃ j : Int, y = .int j ∧ 0 ≤ j ∧ j ≤ 12 := by
    simp only [List.mem_cons, List.not_mem_nil, or_false] at hy
    rcases hy with q | q | q
    · exact ⟨_, q, by omega, by omega⟩
    · exact ⟨_, q, by decide, by decide⟩
    · exact ⟨_, q, by omega, by omega⟩
  obtain ⟨many, rfl, m0, m1⟩ := hj
  walk_at "tlex"
  refine ⟨_, rfl, by omega, ⟨f3, [], _, _, _, _, _, _, _, hf3, Nat.zero_le _, fun g hg => (by cases hg), rfl, rfl⟩, ?_, ?_⟩
  · rintro i x r m hx ⟨f1, gs, e6, e7, e8, e9, e10, e11, e12, hf1, h8, hg, rfl, rfl⟩
    walk_at "tlex"
    refine pick_any hf1 (by rw [List.length_map]; exact hw.1) (by rw [List.length_map]; omega) fun y f2 hy hf2 => ?_
    obtain ⟨word, hword, rfl⟩ := List.mem_map.mp hy
    have hwo := pw word hword
    walk_at "tlex"
    refine w_add_l (by simp only [List.length_cons, List.length_nil, List.length_map]; exact le_line (by omega)) ?_
    walk_at "tlex"
    refine pick_any hf2 (by simp only [List.length_cons]; omega) (by simp only [List.length_cons, List.length_map]; omega) fun y f3 hy hf3 => ?_
    have hver : ∃ version : Str, y = .str version ∧ Lc 8 version := by
      simp only [List.mem_cons] at hy
      rcases hy with q | q | q
      · exact ⟨_, q, Lc.nil⟩
      · exact ⟨_, q, Lc.nil⟩
      · obtain ⟨s, hs, rfl⟩ := List.mem_map.mp q
        exact ⟨s, rfl, pv s hs⟩
    obtain ⟨version, rfl, hver⟩ := hver
    walk_at "tln"
    refine w_seq (W.mono (P := fun o => ∃ (b : Bool) (f4 : Int × Int), FO f4 ∧ o = Out.nx [.ow 0, .fz (.list (ns.map .str)), .fz (.list (ws.map .str)), .fz (.list (us.map Us.d)), .fz (.list (vs.map .str)), .ow 1, .fz x, .fz (.str word), .fz (.str version), .fz (.bool b), e10, e11, e12] [some (fd f4), some (.list (gs.map Gv.d))]) ?_ ?_)
    · walk_at "tlex"
      refine ⟨_, rfl, fun _ => ⟨_, f3, hf3, rfl⟩, fun _ => ?_⟩
      walk_at "tlex"
      refine take_any hf3 (by decide) (by decide +kernel) fun z f4 _ _ hf4 => ?_
      walk_at "tlex"
      exact ⟨_, f4, hf4, rfl⟩
    · rintro o ⟨chosen, f4, hf4, rfl⟩
      walk_at "tlex"
      refine w_lcOI (fun i acc m => Gs i acc ∧ m = [some (fd f4), none]) rfl rfl ⟨Gs.nil, rfl⟩ ?_ ?_
      · rintro i d m acc hd ⟨ha, rfl⟩
        obtain ⟨g, hg1, rfl⟩ := gs_at hd
        have hgo := hg g (List.mem_of_getElem? hg1)
        have hlt := (List.getElem?_eq_some_iff.mp hg1).1
        walk_at "tlex"
        simp only [wipeR]
        walk_at "tlex"
        refine ⟨fun _ => ?_, fun _ => ⟨ha.step, by trivial⟩⟩
        walk_at "tlex"
        exact ⟨lt_line (by have := ha.len; omega), ha.snoc hgo, by trivial⟩
      · rintro acc m ⟨⟨ths, rfl, hth1, hth2⟩, rfl⟩
        have hth1 : ths.length ≤ gs.length := by rw [List.length_map] at hth1; exact hth1
        walk_at "tln"
        refine w_seq (w_set ?_)
        refine w_lcI (fun ds i acc m => Gs i acc ∧ m = [some (fd f4), some (.list (gs.map Gv.d))]) ?_
        walk_at "tlex"
        refine ⟨⟨Gs.nil, by trivial⟩, ?_, ?_⟩
        · rintro i d m acc hd ⟨ha, rfl⟩
          obtain ⟨g, hg1, rfl⟩ := gs_at hd
          have hgo := hth2 g (List.mem_of_getElem? hg1)
          have hlt := (List.getElem?_eq_some_iff.mp hg1).1
          refine w_hNm ?_
          simp only [wipeR]
          walk_at "tln"
          refine w_test_p (A := fun m => W (eV 12 _ m) _) (B := fun m => _ ∧ m = _) (w_or_p (by walk_at "tlex") (w_and_p (by walk_at "tlex") (by walk_at "tlex"))) ?_ ?_
          · walk_at "tlex"
            exact ⟨lt_line (by have := ha.len; omega), ha.snoc hgo, by trivial⟩
          · exact ⟨ha.step, rfl⟩
        · rintro acc m ⟨⟨gs2, rfl, hth3, hth4⟩, rfl⟩
          refine w_if_and (X := gs.length < 8) ?_ ?_ (fun h7 => ?_) ?_
          · walk_at "tlex"
            refine w_eqX_ll0 (shaped_gs hth4) ?_
            walk_at "tlex"
          · refine w_T (w_bin (w_lenO rfl rfl ?_))
            walk_at "tlex"
            rw [List.length_map]
            exact fun z => by
              have := of_decide_eq_true z
              omega
          · walk_at "tlex"
            refine number_any hf4 fun num f5 hf5 n0 n1 => ?_
            walk_at "tlex"
            refine W.mono (P := fun o => ∃ (wh : PyData) (f6 : Int × Int), FO f6 ∧ Wt wh ∧ o = Out.nx [.ow 0, .fz (.list (ns.map .str)), .fz (.list (ws.map .str)), .fz (.list (us.map Us.d)), .fz (.list (vs.map .str)), .ow 1, .fz x, .fz (.str word), .fz (.str version), .fz (.bool chosen), .fz (.list (gs2.map Gv.d)), .fz wh, e12] [some (fd f6), some (.list (gs.map Gv.d))]) ?_ ?_
            · refine w_if ?_
              walk_at "tlex"
              refine ⟨_, rfl, ?_⟩
              walk_at "tlex"
              rw [cut_to (by decide)]
              refine w_inD (shaped_str hwo.1) (shaped_take fun s hs => (pw s hs).1) fun b => ?_
              walk_at "tlex"
              refine take_any hf5 (by decide) (by decide +kernel) fun z f6 _ _ hf6 => ?_
              walk_at "tlex"
              refine ⟨fun _ => ?_, fun _ => ?_⟩
              · walk_at "tlex"
                refine rows_any hf6 hn hw hu pn pw fun rs f7 hf7 hr1 hr2 => ?_
                walk_at "tlex"
                exact ⟨_, f7, hf7, .inr ⟨rs, rfl, hr1, hr2⟩, rfl⟩
              · walk_at "tlex"
                exact ⟨_, f6, hf6, .inl ⟨_, rfl, n0, n1⟩, rfl⟩
            · rintro o ⟨wh, f6, hf6, hwh, rfl⟩
              walk_at "tlex"
              refine w_app rfl rfl ?_
              walk_at "tlex"
              refine take_any hf6 (by decide) (by decide +kernel) fun z f7 _ _ hf7 => ?_
              walk_at "tlex"
              have hgs := Gs.snoc (i := 7) ⟨gs, rfl, by omega, hg⟩ (g := ⟨word, version, chosen, decide (z = 0), wh⟩) ⟨hwo.1, hver, hwh⟩
              obtain ⟨gs3, e3, l3, k3⟩ := hgs
              refine ⟨_, rfl, lt_line (by rw [List.length_map]; omega), f7, gs3, _, _, _, _, _, _, _, hf7, l3, k3, rfl, ?_⟩
              rw [← e3]
          · walk_at "tlex"
            exact ⟨f4, gs, _, _, _, _, _, _, _, hf4, h8, hg, rfl, rfl⟩
  · rintro r m ⟨f1, gs, e6, e7, e8, e9, e10, e11, e12, hf1, h8, hg, rfl, rfl⟩
    walk_at "tlex"
    refine w_seqO rfl rfl ?_
    walk_at "tlex"
    exact h gs f1 hf1 h8 hg
end K74
end
/-! P74f -/
section
set_option maxHeartbeats 4000000
namespace K74
open PySem L2 TL
structure G4 where
  w : Str
  v : Str
  c : Bool
  n : Str
abbrev gp (p : G4) : PyData := .tuple [.str p.w, .str p.v, .bool p.c, .str p.n]
def gpok (p : G4) : Prop := Lc 8 p.w ∧ Lc 8 p.v ∧ Lc 8 p.n
theorem gp_sh {p : G4} (h : gpok p) : Sh 168 1 (gp p) := (Sh.tup (w := 41) (k := 0) (n := 4) (fun d hd => by
  simp only [List.mem_cons, List.not_mem_nil, or_false] at hd
  rcases hd with q | q | q | q <;> rw [q]
  · exact sh_nm h.1 (by decide)
  · exact sh_nm h.2.1 (by decide)
  · exact Sh.bool.mono (by decide) (by decide)
  · exact sh_nm h.2.2 (by decide)) (by simp only [List.length_cons, List.length_nil]; decide)).mono (by decide) (by decide)
theorem three {a b c d : Str} : (List.replicate (3 : Int).toNat [PyData.str a, .str b, .str c, .str d]).flatten = ([a, b, c, d] ++ [a, b, c, d] ++ [a, b, c, d]).map PyData.str := rfl
theorem library_any {f : Int × Int} {ns ws vs : List Str} {at_ : Int} {gn : List G4} {Q : PyData × PyData → Prop} (hf : FO f) (hn : ns.length < 1000) (h0 : 0 ≤ at_) (h1 : at_ < ns.length) (hw : 0 < ws.length ∧ ws.length < 1000) (hv : 0 < vs.length ∧ vs.length < 800) (pn : ∀ s ∈ ns, Ln s) (pw : ∀ s ∈ ws, Ln s) (pv : ∀ s ∈ vs, Lc 8 s) (hg : gn.length < 1000) (pg : ∀ p ∈ gn, gpok p)
    (h : ∀ (l : Lb) (f' : Int × Int), FO f' → l.ok → Q (l.d, fd f')) : W (m__law_library_drawn (fd f) [.list (ns.map .str), .int at_, .list (ws.map .str), .list (gn.map gp), .list (vs.map .str)]) Q := by
  have pk : ∀ {ss : List Str} {f : Int × Int} {R : PyData × PyData → Prop}, FO f → 0 < ss.length ∧ ss.length < 1000 → (∀ s ∈ ss, Lc 8 s) → (∀ (s : Str) (f' : Int × Int), FO f' → Lc 8 s → R (.str s, fd f')) → W (m__law_pick (fd f) [.list (ss.map .str)]) R := fun {ss f R} hf hl hp k => by
    refine pick_any hf (by rw [List.length_map]; exact hl.1) (by rw [List.length_map]; omega) fun y f3 hy hf3 => ?_
    obtain ⟨s, hs, rfl⟩ := List.mem_map.mp hy
    exact k s f3 hf3 (hp s hs)
  have pn' : ∀ s ∈ ns, Lc 8 s := fun s hs => (pn s hs).1
  have pw' : ∀ s ∈ ws, Lc 8 s := fun s hs => (pw s hs).1
  unfold m__law_library_drawn b__law_library_drawn
  walk_at "tlex"
  refine w_for (fun ds i r m => ∃ (f1 : Int × Int) (ss : List Str) (e7 : Sl), FO f1 ∧ ds.length ≤ 3 ∧ ss.length ≤ i ∧ (∀ s ∈ ss, Lc 8 s) ∧ r = [.ow 0, .fz (.list (ns.map .str)), .fz (.int at_), .fz (.list (ws.map .str)), .fz (.list (gn.map gp)), .fz (.list (vs.map .str)), .ow 1, e7, .un, .un, .un, .un, .un, .un, .un, .un, .un, .un, .un, .un, .un, .un] ∧ m = [some (fd f1), some (.list (ss.map .str))]) ?_
  walk_at "tlex"
  refine take_any hf (by decide) (by decide +kernel) fun many f1 m0 m1 hf1 => ?_
  walk_at "tlex"
  refine ⟨_, rfl, by omega, ⟨f1, [], _, hf1, by rw [range_len]; omega, Nat.zero_le _, fun g hg => (by cases hg), rfl, rfl⟩, ?_, ?_⟩
  · rintro i x r m hx ⟨f1, ss, e7, hf1, h4, hl, hs, rfl, rfl⟩
    have hi := (List.getElem?_eq_some_iff.mp hx).1
    walk_at "tlex"
    refine w_app rfl rfl ?_
    walk_at "tlex"
    simp only [List.length_map]
    refine take_any hf1 (by omega) (log_fit (by omega) (by omega)).2 fun v f2 a0 a1 hf2 => ?_
    walk_at "tlex"
    rw [List.length_map]
    refine w_mod_i (by omega) ?_
    walk_at "tlex"
    refine pick_any hf2 (by simp only [List.length_cons]; omega) (by simp only [List.length_cons, List.length_nil]; omega) fun y f3 hy hf3 => ?_
    have hj : ∃ j : Int, y = .int j ∧ 0 ≤ j ∧ j < ns.length := by
      simp only [List.mem_cons, List.not_mem_nil, or_false] at hy
      rcases hy with q | q
      · exact ⟨_, q, a0, a1⟩
      · exact ⟨_, q, Int.emod_nonneg _ (by omega), Int.emod_lt_of_pos _ (by omega)⟩
    obtain ⟨j, rfl, j0, j1⟩ := hj
    walk_at "tlex"
    refine w_str_at j0 j1 pn' fun s hs1 => ?_
    refine ⟨_, rfl, lt_line (by rw [List.length_map]; omega), f3, ss ++ [s], _, hf3, h4, by rw [List.length_append]; exact Nat.succ_le_succ hl, snoc_s hs hs1, rfl, ?_⟩
    rw [List.map_append]
    rfl
  · rintro r m ⟨f1, ss, e7, hf1, h4, hl, hs, rfl, rfl⟩
    have hss : ss.length ≤ 3 := Nat.le_trans hl h4
    walk_at "tlex"
    refine w_for (fun ds i r m => ∃ (f1 : Int × Int) (a : Nat) (ms : Ms) (ss : List Str) (us : List Us) (e7 e12 e13 e14 e15 e16 e17 e18 : Sl), FO f1 ∧ ds.length ≤ 8 ∧ ss.length ≤ 3 + i ∧ us.length ≤ i ∧ (∀ s ∈ ss, Lc 8 s) ∧ (∀ u ∈ us, u.ok) ∧ cellAt ms a = some (.list (ss.map .str)) ∧ cellAt ms 1 = some (.list (us.map Us.d)) ∧ a ≠ 1 ∧ r = [.ow 0, .fz (.list (ns.map .str)), .fz (.int at_), .fz (.list (ws.map .str)), .fz (.list (gn.map gp)), .fz (.list (vs.map .str)), .ow (a + 1), e7, .ow 2, .un, .un, .un, e12, e13, e14, e15, e16, e17, e18, .un, .un, .un] ∧ m = some (fd f1) :: ms) ?_
    walk_at "tlex"
    refine take_any hf1 (by decide) (by decide +kernel) fun v1 f2 a0 a1 hf2 => ?_
    walk_at "tlex"
    refine take_any hf2 (by decide) (by decide +kernel) fun v2 f3 b0 b1 hf3 => ?_
    walk_at "tlex"
    refine pick_any hf3 (by simp only [List.length_cons]; omega) (by simp only [List.length_cons, List.length_nil]; omega) fun y f4 hy hf4 => ?_
    have hj : ∃ j : Int, y = .int j ∧ 0 ≤ j ∧ j ≤ 8 := by
      simp only [List.mem_cons, List.not_mem_nil, or_false] at hy
      rcases hy with q | q | q
      · exact ⟨_, q, by omega, by omega⟩
      · exact ⟨_, q, by decide, by decide⟩
      · exact ⟨_, q, by omega, by omega⟩
    obtain ⟨many, rfl, m0, m1⟩ := hj
    walk_at "tlex"
    refine ⟨_, rfl, by omega, ⟨f4, 0, [some (.list (ss.map .str)), some (.list [])], ss, [], _, _, _, _, _, _, _, _, hf4, by rw [range_len]; omega, by omega, Nat.zero_le _, hs, fun u hu => (by cases hu), rfl, rfl, by decide, rfl, rfl⟩, ?_, ?_⟩
    · rintro i x r m hx ⟨f1, a, ms, ss, us, e7, e12, e13, e14, e15, e16, e17, e18, hf1, h4, hl, hul, hs, huo, c1, c2, ha, rfl, rfl⟩
      have hi := (List.getElem?_eq_some_iff.mp hx).1
      walk_at "tlex"
      refine w_add_l (by simp only [List.length_cons, List.length_nil, List.length_map]; exact le_line (by omega)) ?_
      walk_at "tlex"
      refine pick_any hf1 (by simp only [List.length_cons]; omega) (by simp only [List.length_cons, List.length_map]; omega) fun y f4 hy hf4 => ?_
      have hver : ∃ version : Str, y = .str version ∧ Lc 8 version := by
        simp only [List.mem_cons] at hy
        rcases hy with q | q | q | q
        · exact ⟨_, q, Lc.nil⟩
        · exact ⟨_, q, Lc.nil⟩
        · exact ⟨_, q, Lc.nil⟩
        · obtain ⟨s, hs, rfl⟩ := List.mem_map.mp q
          exact ⟨s, rfl, pv s hs⟩
      obtain ⟨version, rfl, hver⟩ := hver
      walk_at "tlex"
      refine pk hf4 hw pw' fun word f5 hf5 hwo => ?_
      walk_at "tlex"
      refine take_any hf5 (by decide) (by decide +kernel) fun z f6 _ _ hf6 => ?_
      have hu0 : Us.ok ⟨word, version, false, decide (z = 0)⟩ := ⟨hwo, hver⟩
      walk_at "tlex"
      refine W.mono (P := fun o => ∃ (a : Nat) (ms : Ms) (ss : List Str) (u : Us) (f7 : Int × Int) (e14 e15 e16 e17 e18 : Sl), FO f7 ∧ ss.length ≤ 3 + (i + 1) ∧ (∀ s ∈ ss, Lc 8 s) ∧ u.ok ∧ cellAt ms a = some (.list (ss.map .str)) ∧ cellAt ms 1 = some (.list (us.map Us.d)) ∧ a ≠ 1 ∧ o = Out.nx [.ow 0, .fz (.list (ns.map .str)), .fz (.int at_), .fz (.list (ws.map .str)), .fz (.list (gn.map gp)), .fz (.list (vs.map .str)), .ow (a + 1), .fz x, .ow 2, .un, .un, .un, .fz (.str version), .fz u.d, e14, e15, e16, e17, e18, .un, .un, .un] (some (fd f7) :: ms)) ?_ ?_
      · refine w_if ?_
        walk_at "tlex"
        refine w_neX_ll0 (shaped_ds (w := 168) (k := 1) (fun d hd => by
          obtain ⟨p, hp, rfl⟩ := List.mem_map.mp hd
          exact gp_sh (pg p hp)) (by decide)) ?_
        walk_at "tlex"
        refine ⟨fun hne => ?_, fun _ => ⟨fun z => (by cases z), fun _ => ?_⟩⟩
        · have hne := isE hne
          rw [List.length_map] at hne
          walk_at "tlex"
          refine take_any hf6 (by decide) (by decide +kernel) fun z2 f7 _ _ hf7 => ?_
          walk_at "tlex"
          refine ⟨fun _ => ?_, fun _ => ?_⟩
          · walk_at "tlex"
            refine pick_any hf7 (by rw [List.length_map]; exact hne) (by rw [List.length_map]; omega) fun y f8 hy hf8 => ?_
            obtain ⟨p, hp, rfl⟩ := List.mem_map.mp hy
            have hpo := pg p hp
            refine w_hTup rfl (w_hCons (w_hNm (w_hCons (w_hNm (w_hCons (w_hNm (w_hCons (w_hNm (w_hNil ?_)))))))))
            walk_at "tln"
            refine w_seq (W.mono (P := fun o => ∃ so : List Str, so.length ≤ 13 ∧ 0 < so.length ∧ (∀ s ∈ so, Lc 8 s) ∧ o = Out.nx [.ow 0, .fz (.list (ns.map .str)), .fz (.int at_), .fz (.list (ws.map .str)), .fz (.list (gn.map gp)), .fz (.list (vs.map .str)), .ow (a + 1), .fz x, .ow 2, .un, .un, .un, .fz (.str version), .fz (.tuple [.str word, .str version, .bool false, .bool (decide (z = 0))]), .fz (.list (so.map .str)), .fz (.str p.w), .fz (.str p.v), .fz (.bool p.c), .fz (.str p.n), .un, .un, .un] (some (fd f8) :: ms)) ?_ ?_)
            · have fin : ∀ b : Str, Lc 8 b → ∃ so : List Str, so.length ≤ 13 ∧ 0 < so.length ∧ (∀ s ∈ so, Lc 8 s) ∧ ([p.v, p.v, b, b] ++ [p.v, p.v, b, b] ++ [p.v, p.v, b, b]).map PyData.str ++ (vs.take (Int.toNat 1)).map PyData.str = so.map PyData.str := fun b hb => by
                refine ⟨([p.v, p.v, b, b] ++ [p.v, p.v, b, b] ++ [p.v, p.v, b, b]) ++ vs.take (Int.toNat 1), ?_, ?_, fun s hs => ?_, by rw [← List.map_append]⟩
                · rw [List.length_append, List.length_take]; simp only [List.length_append, List.length_cons, List.length_nil]; omega
                · rw [List.length_append]; simp only [List.length_append, List.length_cons, List.length_nil]; omega
                · rcases List.mem_append.mp hs with q | q
                  · simp only [List.mem_append, List.mem_cons, List.not_mem_nil, or_false] at q
                    have : s = p.v ∨ s = b := by
                      rcases q with (q | q) | q <;> rcases q with q | q | q | q <;> first | exact .inl q | exact .inr q
                    rcases this with q | q <;> rw [q]
                    · exact hpo.2.1
                    · exact hb
                  · exact pv s (List.mem_of_mem_take q)
              cases hb : p.c with
              | true =>
                walk_at "tlex"
                refine ⟨fun _ => ?_, fun z => (by cases z)⟩
                walk_at "tlex"
                refine ⟨fun _ => ?_, fun z => (by cases z)⟩
                walk_at "tlex"
                refine w_rep (by decide) (by decide) (by simp only [List.length_cons, List.length_nil]; decide) ?_
                walk_at "tlex"
                refine ⟨_, rfl, ?_⟩
                walk_at "tlex"
                rw [cut_to (by decide), ← List.map_take, three]
                obtain ⟨so, q1, q2, q3, q4⟩ := fin "" Lc.nil
                refine w_add_l (by rw [← List.length_append]; exact le_line (by rw [q4, List.length_map]; omega)) ?_
                rw [q4]
                walk_at "tlex"
                exact ⟨so, q1, q2, q3, rfl⟩
              | false =>
                walk_at "tlex"
                refine ⟨fun z => (by cases z), fun _ => ?_⟩
                walk_at "tlex"
                refine ⟨fun z => (by cases z), fun _ => ?_⟩
                walk_at "tlex"
                refine w_rep (by decide) (by decide) (by simp only [List.length_cons, List.length_nil]; decide) ?_
                walk_at "tlex"
                refine ⟨_, rfl, ?_⟩
                walk_at "tlex"
                rw [cut_to (by decide), ← List.map_take, three]
                obtain ⟨so, q1, q2, q3, q4⟩ := fin p.v hpo.2.1
                refine w_add_l (by rw [← List.length_append]; exact le_line (by rw [q4, List.length_map]; omega)) ?_
                rw [q4]
                walk_at "tlex"
                exact ⟨so, q1, q2, q3, rfl⟩
            · rintro o ⟨so, q1, q2, q3, rfl⟩
              walk_at "tlex"
              refine pk hf8 ⟨q2, by omega⟩ q3 fun ed f9 hf9 hed => ?_
              walk_at "tlex"
              refine w_frz rfl (show cellAt (some (fd f9) :: ms) (a + 1) = _ from c1) ?_
              simp only [frz_cons, frz_nil, fz1_fz, fz1_un, fz1_eq]
              rw [fz1_ne (show (0 : Nat) ≠ a + 1 by omega), fz1_ne (show (2 : Nat) ≠ a + 1 by omega)]
              walk_at "tlex"
              refine take_any hf9 (by decide) (by decide +kernel) fun z3 f10 z0 z1 hf10 => ?_
              walk_at "tlex"
              refine w_rep (by split <;> decide) (by split <;> decide) (by simp only [List.length_cons, List.length_nil]; decide) ?_
              rw [rep01]
              generalize hz : (if decide (0 < z3) = true then [p.n] else []) = more
              have hm : more.length ≤ 1 ∧ ∀ s ∈ more, Lc 8 s := by
                subst hz
                split
                · exact ⟨Nat.le_refl 1, fun s hs => by rw [List.mem_singleton.mp hs]; exact hpo.2.2⟩
                · exact ⟨Nat.zero_le _, fun s hs => by cases hs⟩
              refine w_catL (by simp only [List.length_map]; exact le_line (by omega)) ?_
              walk_at "tlex"
              rw [← List.map_append]
              refine ⟨(ms.set a none).length, _, ss ++ more, ⟨p.w, ed, true, true⟩, f10, _, _, _, _, _, hf10, by rw [List.length_append]; omega, fun s hs1 => ?_, ⟨hpo.1, hed⟩, cellAt_new, ?_, ?_, rfl⟩
              · rcases List.mem_append.mp hs1 with q | q
                · exact hs s q
                · exact hm.2 s q
              · have hlt := cellAt_lt c2
                rw [cellAt_old (by rw [List.length_set]; exact hlt), cellAt_ne (Ne.symm ha)]
                exact c2
              · have hlt := cellAt_lt c2
                have hlt2 := cellAt_lt c1
                rw [List.length_set]
                omega
          · walk_at "tlex"
            exact ⟨a, ms, ss, ⟨word, version, false, decide (z = 0)⟩, f7, _, _, _, _, _, hf7, by omega, hs, hu0, c1, c2, ha, rfl⟩
        · walk_at "tlex"
          exact ⟨a, ms, ss, ⟨word, version, false, decide (z = 0)⟩, f6, _, _, _, _, _, hf6, by omega, hs, hu0, c1, c2, ha, rfl⟩
      · rintro o ⟨a, ms, ss, u, f7, e14, e15, e16, e17, e18, hf7, hl, hs, huo1, c1, c2, ha, rfl⟩
        walk_at "tlex"
        refine w_app rfl (show cellAt (some (fd f7) :: ms) (1 + 1) = _ from c2) ?_
        walk_at "tlex"
        have hlt := cellAt_lt c2
        refine ⟨_, c2, lt_line (by rw [List.length_map]; omega), f7, a, ms.set 1 (some (.list ((us ++ [u]).map Us.d))), ss, us ++ [u], _, _, _, _, _, _, _, _, hf7, h4, hl, by rw [List.length_append]; exact Nat.succ_le_succ hul, hs, fun z hz => ?_, (cellAt_ne ha).trans c1, cellAt_self hlt, ha, rfl, ?_⟩
        · rcases List.mem_append.mp hz with q | q
          · exact huo z q
          · rw [List.mem_singleton.mp q]; exact huo1
        · rw [List.map_append]
          rfl
    · rintro r m ⟨f1, a, ms, ss, us, e7, e12, e13, e14, e15, e16, e17, e18, hf1, h4, hl, hul, hs, huo, c1, c2, ha, rfl, rfl⟩
      have hul : us.length ≤ 8 := Nat.le_trans hul h4
      have hl : ss.length ≤ 11 := by omega
      refine w_frz rfl (show cellAt (some (fd f1) :: ms) (a + 1) = _ from c1) ?_
      simp only [frz_cons, frz_nil, fz1_fz, fz1_un, fz1_eq]
      rw [fz1_ne (show (0 : Nat) ≠ a + 1 by omega), fz1_ne (show (2 : Nat) ≠ a + 1 by omega)]
      generalize fz1 _ _ e7 = e7
      generalize fz1 _ _ e12 = e12
      generalize fz1 _ _ e13 = e13
      generalize fz1 _ _ e14 = e14
      generalize fz1 _ _ e15 = e15
      generalize fz1 _ _ e16 = e16
      generalize fz1 _ _ e17 = e17
      generalize fz1 _ _ e18 = e18
      walk_at "tln"
      have c3 : cellAt (ms.set a none) 1 = some (.list (us.map Us.d)) := (cellAt_ne (Ne.symm ha)).trans c2
      generalize ms.set a none = ms at c3
      clear c1 c2 ha
      refine w_seq (w_setF ?_)
      refine w_lcI (fun ds i acc m => Tc 8 acc.length acc ∧ acc.length ≤ i ∧ m = some (fd f1) :: ms) ?_
      walk_at "tlex"
      rw [enum_len, List.length_map]
      refine ⟨⟨Tc.nil, Nat.le_refl 0, by trivial⟩, ?_, ?_⟩
      · rintro i d m acc hd ⟨ht, hal, rfl⟩
        obtain ⟨d1, hd1, rfl⟩ := enum_at hd
        obtain ⟨s, hs1, rfl⟩ := str_at hd1
        have hso := hs s (List.mem_of_getElem? hs1)
        have hlt := (List.getElem?_eq_some_iff.mp hs1).1
        simp only [wipeR]
        walk_at "tlex"
        have no : Tc 8 acc.length acc ∧ acc.length ≤ i + 1 := ⟨ht, Nat.le_succ_of_le hal⟩
        refine w_str_at h0 h1 pn' fun z hz => ?_
        walk_at "tlex"
        refine ⟨fun _ => ?_, fun _ => ⟨fun z => (by cases z), fun _ => ⟨no.1, no.2, by trivial⟩⟩⟩
        walk_at "tlex"
        refine ⟨_, rfl, ?_⟩
        walk_at "tlex"
        rw [cut_to (Int.natCast_nonneg i)]
        refine w_notInD (shaped_str hso) (shaped_take hs) fun b => ?_
        walk_at "tlex"
        refine ⟨fun _ => ?_, fun _ => ⟨no.1, no.2, by trivial⟩⟩
        walk_at "tlex"
        exact ⟨lt_line (by omega), by rw [List.length_append]; exact ht.snoc hso, by rw [List.length_append]; exact Nat.succ_le_succ hal, by trivial⟩
      · rintro acc m ⟨⟨nd, rfl, hnl, hnd⟩, hal, rfl⟩
        rw [List.length_map] at hal
        have h1l := cellAt_lt c3
        walk_at "tln"
        refine w_frz rfl (show cellAt (some (fd f1) :: (ms ++ [some (.list (nd.map .str))])) (1 + 1) = _ from (cellAt_old h1l).trans c3) ?_
        simp only [frz_cons, frz_nil, fz1_fz, fz1_un, fz1_eq]
        rw [fz1_ne (show (0 : Nat) ≠ 2 by decide), fz1_ne (show List.length ms + 1 ≠ 2 by omega)]
        generalize fz1 _ _ e7 = e7
        generalize fz1 _ _ e12 = e12
        generalize fz1 _ _ e13 = e13
        generalize fz1 _ _ e14 = e14
        generalize fz1 _ _ e15 = e15
        generalize fz1 _ _ e16 = e16
        generalize fz1 _ _ e17 = e17
        generalize fz1 _ _ e18 = e18
        walk_at "tln"
        have c4 : cellAt ((ms ++ [some (PyData.list (nd.map PyData.str))]).set 1 none) ms.length = some (.list (nd.map PyData.str)) := (cellAt_ne (show List.length ms ≠ 1 by omega)).trans cellAt_new
        generalize (ms ++ [some (PyData.list (nd.map PyData.str))]).set 1 none = ms2 at c4 ⊢
        generalize List.length ms = a2 at c4 h1l ⊢
        walk_at "tlex"
        refine gives_any hf1 ⟨by omega, hn⟩ hw (by omega) (by omega) pn pw pv fun gs f2 hf2 hgl hgo => ?_
        walk_at "tlex"
        refine w_lcI (fun ds i acc m => ∃ (rl : List (List PyData)) (f3 : Int × Int), acc = rl.map .tuple ∧ rl.length = i ∧ (∀ rs ∈ rl, rs.length ≤ 8 ∧ ∀ r ∈ rs, Rw r) ∧ FO f3 ∧ m = some (fd f3) :: ms2) ?_
        walk_at "tlex"
        refine ⟨_, rfl, by omega, ⟨[], f2, rfl, by trivial, fun r hr => (by cases hr), hf2, by trivial⟩, ?_, ?_⟩
        · rintro i d m acc hd ⟨rl, f3, rfl, hrl, hro, hf3, rfl⟩
          have hi := (range_at hd).1
          have hi : i < 2 := hi
          walk_at "tlex"
          simp only [wipeR]
          walk_at "tlex"
          refine ⟨fun _ => ?_, fun z => by cases z⟩
          walk_at "tlex"
          refine rows_any hf3 ⟨by omega, hn⟩ hw (by omega) pn pw fun rs f4 hf4 hr1 hr2 => ?_
          walk_at "tlex"
          refine ⟨lt_line (by rw [List.length_map]; omega), rl ++ [rs], f4, by rw [List.map_append]; rfl, by rw [List.length_append, hrl]; rfl, fun x hx => ?_, hf4, by trivial⟩
          rcases List.mem_append.mp hx with q | q
          · exact hro x q
          · rw [List.mem_singleton.mp q]; exact ⟨hr1, hr2⟩
        · rintro acc m ⟨rl, f3, rfl, hrl, hro, hf3, rfl⟩
          have hrl : rl.length = 2 := hrl.trans (range_len _ _)
          match rl, hrl with
          | [ra, rb], _ =>
          have hra := hro ra (by simp)
          have hrb := hro rb (by simp)
          walk_at "tlex"
          refine w_lcI (fun ds i acc m => ∃ (f4 : Int × Int), (∃ ks : List Str, acc = ks.map .str ∧ ks.length ≤ i ∧ ∀ s ∈ ks, Lw 8 s) ∧ FO f4 ∧ m = some (fd f4) :: ms2) ?_
          walk_at "tlex"
          refine ⟨⟨f3, ⟨[], rfl, Nat.le_refl 0, fun s hs => (by cases hs)⟩, hf3, by trivial⟩, ?_, ?_⟩
          · rintro i d m acc hd ⟨f4, ⟨ks, rfl, hk1, hk2⟩, hf4, rfl⟩
            have hlt := (List.getElem?_eq_some_iff.mp hd).1
            have hdo : ∃ s, d = .str s ∧ Lw 8 s := by
              have hm := List.mem_of_getElem? hd
              simp only [List.mem_cons, List.not_mem_nil, or_false] at hm
              rcases hm with q | q | q
              · exact ⟨_, q, by decide +kernel⟩
              · exact ⟨_, q, by decide +kernel⟩
              · exact ⟨_, q, by decide +kernel⟩
            obtain ⟨s, rfl, hso⟩ := hdo
            walk_at "tlex"
            simp only [wipeR]
            walk_at "tlex"
            refine take_any hf4 (by decide) (by decide +kernel) fun z f5 _ _ hf5 => ?_
            walk_at "tlex"
            refine ⟨fun _ => ?_, fun _ => ⟨f5, ⟨ks, rfl, Nat.le_succ_of_le hk1, hk2⟩, hf5, by trivial⟩⟩
            walk_at "tlex"
            exact ⟨lt_line (by rw [List.length_map]; simp only [List.length_cons, List.length_nil] at hlt; omega), f5, ⟨ks ++ [s], by rw [List.map_append]; rfl, by rw [List.length_append]; exact Nat.succ_le_succ hk1, snoc_s hk2 hso⟩, hf5, by trivial⟩
          · rintro acc m ⟨f4, ⟨mk, rfl, hml, hmk⟩, hf4, rfl⟩
            walk_at "tlex"
            refine w_frz rfl (show cellAt (some (fd f4) :: ms2) (a2 + 1) = _ from c4) ?_
            simp only [frz_cons, frz_nil, fz1_fz, fz1_un, fz1_eq]
            rw [fz1_ne (show (0 : Nat) ≠ a2 + 1 by omega)]
            walk_at "tlex"
            refine w_str_atN h0 h1 pn fun name hname => ?_
            walk_at "tlex"
            refine ⟨_, rfl, ?_⟩
            walk_at "tlex"
            rw [cut_to (by decide), ← List.map_take]
            walk_at "tlex"
            refine h ⟨name, nd.take 6, gs, us, ra, rb, mk⟩ f4 hf4 ⟨hname, ⟨?_, fun s hs => hnd s (List.mem_of_mem_take hs)⟩, ⟨hgl, hgo⟩, ⟨hul, huo⟩, hra, hrb, ⟨hml, hmk⟩⟩
            rw [List.length_take]
            exact Nat.min_le_left _ _
end K74
end
/-! P74g -/
section
set_option maxHeartbeats 4000000
namespace K74
open PySem L2 TL
/-- given gives -/
def Gp (i : Nat) (acc : List PyData) : Prop := ∃ gn : List G4, acc = gn.map gp ∧ gn.length ≤ i ∧ ∀ p ∈ gn, gpok p
theorem shelf_any {f : Int × Int} {Q : PyData × PyData → Prop} (hf : FO f)
    (h : ∀ (ls : List Lb) (f' : Int × Int), FO f' → 0 < ls.length → ls.length ≤ 8 → (∀ l ∈ ls, l.ok) → Q (.tuple (ls.map Lb.d), fd f')) : W (m__law_shelf (fd f) [.int 8]) Q := by
  unfold m__law_shelf b__law_shelf
  walk_at "tlex"
  refine take_any hf (by decide) (by decide +kernel) fun v f2 a0 a1 hf2 => ?_
  walk_at "tlex"
  refine pick_any hf2 (by simp only [List.length_cons]; omega) (by simp only [List.length_cons, List.length_nil]; omega) fun y f3 hy hf3 => ?_
  have hj : ∃ j : Int, y = .int j ∧ 1 ≤ j ∧ j ≤ 8 := by
    simp only [List.mem_cons, List.not_mem_nil, or_false] at hy
    rcases hy with q | q
    · exact ⟨_, q, by decide, by decide⟩
    · exact ⟨_, q, by omega, by omega⟩
  obtain ⟨many, rfl, m0, m1⟩ := hj
  walk_at "tlex"
  refine unlike_any hf3 (by omega) (by omega) fun ls f4 hf4 hls pls => ?_
  walk_at "tlex"
  refine unlike_any hf4 (by decide) (by decide) fun ws f5 hf5 hws pws => ?_
  walk_at "tlex"
  refine unlike_any hf5 (by decide) (by decide) fun vs f6 hf6 hvs pvs => ?_
  have hws : ws.length = 4 := hws
  have hvs : vs.length = 2 := hvs
  walk_at "tlex"
  refine w_for (fun ds i r m => ∃ (f1 : Int × Int) (fs : List Lb) (gn : List G4) (e8 e9 e10 : Sl), FO f1 ∧ fs.length = i ∧ (∀ l ∈ fs, l.ok) ∧ gn.length ≤ 8 * i ∧ (∀ p ∈ gn, gpok p) ∧ r = [.ow 0, .fz (.int 8), .fz (.int many), .fz (.list (ls.map .str)), .fz (.list (ws.map .str)), .fz (.list (vs.map .str)), .fz (.list (fs.map Lb.d)), .fz (.list (gn.map gp)), e8, e9, e10] ∧ m = [some (fd f1)]) ?_
  refine w_rg3 ?_
  walk_at "tlex"
  refine ⟨_, _, rfl, ?_, ⟨f6, [], [], _, _, _, hf6, rfl, fun l hl => (by cases hl), Nat.zero_le _, fun l hl => (by cases hl), rfl, rfl⟩, ?_, ?_⟩
  · simp only [List.length_map]; omega
  · rintro i x r m hx ⟨f1, fs, gn, e8, e9, e10, hf1, hfl, hfo, hgl, hgo, rfl, rfl⟩
    obtain ⟨hi, rfl⟩ := rangeC_at hx
    simp only [List.length_map] at hi
    have hi : i < many.toNat := by omega
    have hat : ((ls.map PyData.str).length : Int) - 1 + (i : Nat) * (-1) = many - 1 - i := by simp only [List.length_map]; omega
    rw [hat]
    walk_at "tlex"
    refine library_any hf1 (by omega) (by omega) (by omega) (by omega) (by omega) pls pws (fun s hs => (pvs s hs).1) (by omega) hgo fun l f2 hf2 hlo => ?_
    walk_at "tlex"
    refine w_add_l (by simp only [List.length_cons, List.length_nil, List.length_map]; exact le_line (by omega)) ?_
    walk_at "tlex"
    refine w_lcI (fun ds j acc m => (Gs j acc ∧ acc.length ≤ j) ∧ m = [some (fd f2)]) ?_
    walk_at "tlex"
    refine ⟨⟨⟨Gs.nil, Nat.le_refl 0⟩, by trivial⟩, ?_, ?_⟩
    · rintro j d m acc hd ⟨⟨hg1, hg2⟩, rfl⟩
      obtain ⟨g, hg3, rfl⟩ := gs_at hd
      have hgok := hlo.gs.2 g (List.mem_of_getElem? hg3)
      have hlt := (List.getElem?_eq_some_iff.mp hg3).1
      have hl4 := hlo.gs.1
      walk_at "tlex"
      simp only [wipeR]
      walk_at "tlex"
      refine whole_w hgok.2.2 ?_
      walk_at "tlex"
      refine ⟨fun _ => ?_, fun _ => ⟨⟨hg1.step, Nat.le_succ_of_le hg2⟩, by trivial⟩⟩
      walk_at "tlex"
      exact ⟨lt_line (by omega), ⟨hg1.snoc hgok, by rw [List.length_append]; exact Nat.succ_le_succ hg2⟩, by trivial⟩
    · rintro acc m ⟨⟨⟨gs, rfl, hg1, hg2⟩, _⟩, rfl⟩
      rw [List.length_map] at hg1
      have hl4 := hlo.gs.1
      walk_at "tlex"
      refine w_lcI (fun ds j acc m => Gp j acc ∧ m = [some (fd f2)]) ?_
      walk_at "tlex"
      refine ⟨⟨⟨[], rfl, Nat.le_refl 0, fun p hp => (by cases hp)⟩, by trivial⟩, ?_, ?_⟩
      · rintro j d m acc hd ⟨⟨gn2, rfl, hg3, hg4⟩, rfl⟩
        obtain ⟨g, hg5, rfl⟩ := gs_at hd
        have hgok := hg2 g (List.mem_of_getElem? hg5)
        have hlt := (List.getElem?_eq_some_iff.mp hg5).1
        walk_at "tlex"
        simp only [wipeR]
        walk_at "tlex"
        refine ⟨fun _ => ?_, fun z => (by cases z)⟩
        walk_at "tlex"
        refine ⟨_, rfl, w_slc_t ?_⟩
        rw [cut_to (show (0 : Int) ≤ 3 by decide)]
        walk_at "tlex"
        refine w_str_at (show (0 : Int) ≤ many - 1 - i by omega) (by omega) (fun s hs => (pls s hs).1) fun name hname => ?_
        walk_at "tlex"
        refine w_add_t (le_line (by rw [List.length_take]; simp only [List.length_cons, List.length_nil]; omega)) ?_
        refine ⟨lt_line (by rw [List.length_map]; omega), ⟨gn2 ++ [⟨g.w, g.v, g.c, name⟩], by rw [List.map_append]; rfl, by rw [List.length_append]; exact Nat.succ_le_succ hg3, fun p hp => ?_⟩, by trivial⟩
        rcases List.mem_append.mp hp with q | q
        · exact hg4 p q
        · rw [List.mem_singleton.mp q]; exact ⟨hgok.1, hgok.2.1, hname⟩
      · rintro acc m ⟨⟨gn2, rfl, hg3, hg4⟩, rfl⟩
        rw [List.length_map] at hg3
        walk_at "tlex"
        refine w_add_l (by simp only [List.length_map]; exact le_line (by omega)) ?_
        walk_at "tlex"
        rw [← List.map_append]
        refine ⟨f2, l :: fs, gn ++ gn2, _, _, _, hf2, by rw [List.length_cons, hfl], fun z hz => ?_, by rw [List.length_append]; omega, fun p hp => ?_, rfl, rfl⟩
        · rcases List.mem_cons.mp hz with q | q
          · rw [q]; exact hlo
          · exact hfo z q
        · rcases List.mem_append.mp hp with q | q
          · exact hgo p q
          · exact hg4 p q
  · rintro r m ⟨f1, fs, gn, e8, e9, e10, hf1, hfl, hfo, hgl, hgo, rfl, rfl⟩
    rw [rangeC_len] at hfl
    simp only [List.length_map] at hfl
    walk_at "tlex"
    exact h fs f1 hf1 (by omega) (by omega) hfo
end K74
end
/-! P74h -/
section
set_option maxHeartbeats 4000000
namespace K74
open PySem L2 TL
/-! ### figures of thirty-six -/
def sg (d : Nat) : Nat := if d < 10 then 48 + d else 87 + d
def one (d : Nat) : Str := ⟨#[sg d]⟩
def txt (l : List Nat) : Str := ⟨(l.map sg).toArray⟩
def num (l : List Nat) : Nat := l.foldl (fun n d => n * 36 + d) 0
theorem occ26 : ∀ d : _root_.Fin 36, 10 ≤ d.val → (Builtin.Str.occurrences LET (one d.val) 0 LET.length 1).head? = some (d.val - 10) := by decide +kernel
theorem idx26 {d : Nat} (h : d < 36) (h' : 10 ≤ d) : indexD LET [.str (one d)] = some (.int ((d : Int) - 10)) := by
  unfold indexD
  have e := occ26 ⟨d, h⟩ h'
  simp only at e ⊢
  rw [e]
  simp only [Option.map_some, Option.some.injEq, PyData.int.injEq]
  omega
theorem signs_txt (l : List Nat) : signs (txt l) = l.map fun d => .str (one d) := by
  unfold signs txt one
  simp
theorem at_txt {l : List Nat} {i : Nat} {x : PyData} (h : (signs (txt l))[i]? = some x) : ∃ d, l[i]? = some d ∧ x = .str (one d) := by
  rw [signs_txt, List.getElem?_map] at h
  cases e : l[i]? with
  | none => rw [e] at h; cases h
  | some d => rw [e] at h; exact ⟨d, rfl, (Option.some.inj h).symm⟩
theorem txt_len (l : List Nat) : (txt l).length = l.length := by
  unfold txt
  show (l.map sg).toArray.size = l.length
  simp
theorem str_app (a b : List Nat) : (⟨a.toArray⟩ : Str) ++ ⟨b.toArray⟩ = ⟨(a ++ b).toArray⟩ := by
  show (⟨a.toArray ++ b.toArray⟩ : Str) = _
  have e : a.toArray ++ b.toArray = (a ++ b).toArray := by simp
  rw [e]
theorem txt_app (l k : List Nat) : txt (l ++ k) = txt l ++ txt k := by
  unfold txt
  rw [str_app, List.map_append]
theorem num_app (l : List Nat) (d : Nat) : num (l ++ [d]) = num l * 36 + d := by
  unfold num
  rw [List.foldl_append]
  rfl
theorem revInd {P : List Nat → Prop} (h0 : P []) (h1 : ∀ l d, P l → P (l ++ [d])) (l : List Nat) : P l := by
  have k : ∀ m : List Nat, P m.reverse := by
    intro m
    induction m with
    | nil => exact h0
    | cons d m ih => rw [List.reverse_cons]; exact h1 _ _ ih
  have := k l.reverse
  rwa [List.reverse_reverse] at this
theorem num_lt : ∀ l : List Nat, (∀ d ∈ l, d < 36) → num l < 36 ^ l.length := by
  refine revInd (fun _ => by decide) fun l d ih h => ?_
  · have h1 := ih fun x hx => h x (List.mem_append_left _ hx)
    have h2 := h d (by simp)
    rw [num_app, List.length_append, List.length_singleton, Nat.pow_succ]
    omega
theorem bits_num {l : List Nat} (hl : ∀ d ∈ l, d < 36) (hn : l.length ≤ 9) : Builtin.Int.intBits (num l : Int) ≤ 64 := by
  have h := num_lt l hl
  have : 36 ^ l.length ≤ 36 ^ 9 := Nat.pow_le_pow_right (by decide) hn
  exact bits64 (by omega) (by have : (36 : Nat) ^ 9 = 101559956668416 := by decide +kernel
                              omega)
theorem name_num_w {l : List Nat} (hl : ∀ d ∈ l, d < 36 ∧ 10 ≤ d) (hn : l.length ≤ 8) {Q : PyData → Prop} (h : Q (.int (num l))) : W (m_name_number [.str (txt l)]) Q := by
  unfold m_name_number b_name_number
  walk_at "tlex"
  refine w_for (fun ds i r m => ∃ d : Sl, ds = signs (txt l) ∧ i ≤ l.length ∧ m = [] ∧ r = [.fz (.str (txt l)), .fz (.int (num (l.take i))), d]) ?_
  walk_at "tlex"
  refine ⟨⟨.un, by trivial, Nat.zero_le _, by trivial, rfl⟩, ?_, ?_⟩
  · rintro i x r m hx ⟨d', _, hi, rfl, rfl⟩
    obtain ⟨d, hd, hx2⟩ := at_txt hx
    rw [hx2]
    have hd2 := hl d (List.mem_of_getElem? hd)
    have hb : Builtin.Int.intBits (num (l.take i) : Int) ≤ 64 := bits_num (fun z hz => (hl z (List.mem_of_mem_take hz)).1) (by rw [List.length_take]; omega)
    have hm : (Builtin.Int.intBits 36 : Int) + (Builtin.Int.intBits (num (l.take i) : Int) : Int) ≤ 134217728 := mul_fit (Nat.le_trans (bits64 (by omega) (by omega)) (by decide)) (Nat.le_trans hb (by decide))
    walk_at "tlex"
    refine ⟨_, rfl, ?_⟩
    walk_at "tlex"
    refine W.of (idx26 hd2.1 hd2.2) ?_
    walk_at "tlex"
    have hlt : i < l.length := (List.getElem?_eq_some_iff.mp hd).1
    refine ⟨.fz (.str (one d)), by trivial, hlt, by trivial, ?_⟩
    have e : l.take (i + 1) = l.take i ++ [d] := by rw [List.take_add_one, hd]; rfl
    rw [e, num_app]
    have e2 : ((num (l.take i) * 36 + d : Nat) : Int) = 36 * (num (l.take i) : Int) + ((d : Int) - 10) + 10 := by omega
    rw [e2]
  · rintro r m ⟨d', _, _, rfl, rfl⟩
    walk_at "tlex"
    rw [signs_txt, List.length_map, List.take_length]
    exact h
/-- a word's number -/
theorem lc_txt {s : Str} (h : Lc 8 s) : ∃ l, s = txt l ∧ (∀ d ∈ l, d < 36 ∧ 10 ≤ d) ∧ l.length ≤ 8 := by
  refine ⟨s.cps.toList.map fun c => c - 87, ?_, fun d hd => ?_, ?_⟩
  · unfold txt
    rw [List.map_map]
    have e : s.cps.toList.map (sg ∘ fun c => c - 87) = s.cps.toList := by
      have : ∀ c ∈ s.cps.toList, (sg ∘ fun c => c - 87) c = c := fun c hc => by
        have : 97 ≤ c ∧ c < 123 := h.2 c hc
        show sg (c - 87) = c
        unfold sg
        rw [if_neg (by omega)]
        omega
      rw [List.map_congr_left this, List.map_id']
    rw [e]
  · obtain ⟨c, hc, rfl⟩ := List.mem_map.mp hd
    have : 97 ≤ c ∧ c < 123 := h.2 c hc
    omega
  · rw [List.length_map]
    exact h.1
theorem num_36 {l : List Nat} (hl : ∀ d ∈ l, d < 36) (h2 : l.length ≤ 8) : num l < 2821109907456 := by
  have h := num_lt l hl
  have : 36 ^ l.length ≤ 36 ^ 8 := Nat.pow_le_pow_right (by decide) h2
  have e : (36 : Nat) ^ 8 = 2821109907456 := by decide +kernel
  omega
def nm (s : Str) : Int := num (s.cps.toList.map fun c => c - 87)
theorem nm_txt {l : List Nat} (hl : ∀ d ∈ l, d < 36 ∧ 10 ≤ d) : nm (txt l) = num l := by
  unfold nm
  have e : (txt l).cps.toList.map (fun c => c - 87) = l := by
    unfold txt
    rw [List.map_map]
    have : ∀ d ∈ l, ((fun c => c - 87) ∘ sg) d = d := fun d hd => by
      have := hl d hd
      show sg d - 87 = d
      unfold sg
      rw [if_neg (by omega)]
      omega
    rw [List.map_congr_left this, List.map_id']
  rw [e]
theorem nm_w {s : Str} {Q : PyData → Prop} (h : Lc 8 s) (q : Q (.int (nm s))) : W (m_name_number [.str s]) Q := by
  obtain ⟨l, rfl, h1, h2⟩ := lc_txt h
  rw [nm_txt h1] at q
  exact name_num_w h1 h2 q
theorem nm_ok {s : Str} (h : Lc 8 s) : 0 ≤ nm s ∧ nm s < 2821109907456 := by
  obtain ⟨l, rfl, h1, h2⟩ := lc_txt h
  rw [nm_txt h1]
  have := num_36 (fun d hd => (h1 d hd).1) h2
  omega
end K74
end
/-! P74i -/
section
set_option maxHeartbeats 4000000
namespace K74
open PySem L2 TL
/-! ## rows laid, one by one -/
abbrev WDS : List Str := ["end", "tell", "show", "put", "add", "call", "bring", "share", "drop", "ask", "stub", "skip"]
abbrev WD9 : List Str := ["tell", "show", "put", "add", "call", "bring", "share", "drop", "ask", "", "skip"]
def wc (w : Str) : Int := (WDS.idxOf w : Nat)
abbrev TEN : List Str := ["tell", "bring", "share", "drop", "ask", "show", "skip", "call", "put", "add"]
theorem idx_G {w : Str} (h : w ∈ TEN) : TX.idxG WDS [.str w] = some (.int (wc w)) := by
  have k : ∀ w ∈ TEN, TX.plc w WDS = some (WDS.idxOf w) := by decide +kernel
  show (TX.plc w WDS).map _ = _
  rw [k w h]
  rfl
/-- the three numbers of a row -/
def pn : PyData → Int
  | .str s => nm s
  | .int i => i
  | _ => 0
def rn : PyData → List Int
  | .tuple (.str w :: ps) => ((wc w :: ps.map pn) ++ [0]).take 3
  | _ => []
/-- has it a place to be filled: the number behind its word is a cell's or a deed's -/
def rp : PyData → Bool
  | .tuple (.str w :: _) => decide (w ∈ [("show" : Str), "skip", "call", "put", "add"])
  | _ => false
def arg1 : PyData → Int
  | .tuple (_ :: a :: _) => pn a
  | _ => 0
def Pt (p : PyData) : Prop := (∃ s, p = .str s ∧ Ln s) ∨ ∃ i : Int, p = .int i
structure Fm (d : PyData) (w : Str) (ps : List PyData) : Prop where
  e : d = .tuple (.str w :: ps)
  hw : w ∈ TEN
  l1 : 1 ≤ ps.length
  l2 : ps.length ≤ 2
  p : ∀ p ∈ ps, Pt p
  nam : w ∈ [("bring" : Str), "share", "drop", "ask"] → ∀ p ∈ ps, ∃ s, p = .str s ∧ Ln s
  whl : w ∉ [("bring" : Str), "share", "drop", "ask"] → ∀ p ∈ ps, ∃ i : Int, p = .int i
theorem Rk.form {B : Int} {d : PyData} (h : Rk B d) : ∃ w ps, Fm d w ps := by
  cases h with
  | tell i _ _ => exact ⟨_, [.int i], rfl, by simp, by simp, by simp, fun p hp => .inr ⟨i, List.mem_singleton.mp hp⟩, fun z => absurd z (by decide +kernel), fun _ p hp => ⟨i, List.mem_singleton.mp hp⟩⟩
  | name w s hw hs => exact ⟨w, [.str s], rfl, by simp only [List.mem_cons, List.not_mem_nil, or_false] at hw ⊢; rcases hw with q | q | q <;> simp [q], by simp, by simp, fun p hp => .inl ⟨s, List.mem_singleton.mp hp, hs⟩, fun _ p hp => ⟨s, List.mem_singleton.mp hp, hs⟩, fun z => absurd (by simp only [List.mem_cons, List.not_mem_nil, or_false] at hw ⊢; rcases hw with q | q | q <;> simp [q]) z⟩
  | ask s t hs ht =>
    have k : ∀ p ∈ [PyData.str s, .str t], ∃ s, p = .str s ∧ Ln s := fun p hp => by
      rcases List.mem_cons.mp hp with q | q
      · exact ⟨s, q, hs⟩
      · exact ⟨t, List.mem_singleton.mp q, ht⟩
    exact ⟨_, [.str s, .str t], rfl, by simp, by simp, by simp, fun p hp => .inl (k p hp), fun _ => k, fun z => absurd (by simp) z⟩
  | one w k hw _ _ => exact ⟨w, [.int k], rfl, by simp only [List.mem_cons, List.not_mem_nil, or_false] at hw ⊢; rcases hw with q | q | q <;> simp [q], by simp, by simp, fun p hp => .inr ⟨k, List.mem_singleton.mp hp⟩, fun z => by
      simp only [List.mem_cons, List.not_mem_nil, or_false] at hw
      rcases hw with q | q | q <;> rw [q] at z <;> exact absurd z (by decide +kernel), fun _ p hp => ⟨k, List.mem_singleton.mp hp⟩⟩
  | two w k i hw _ _ _ _ =>
    exact ⟨w, [.int k, .int i], rfl, by simp only [List.mem_cons, List.not_mem_nil, or_false] at hw ⊢; rcases hw with q | q <;> simp [q], by simp, by simp, fun p hp => by
      rcases List.mem_cons.mp hp with q | q
      · exact .inr ⟨k, q⟩
      · exact .inr ⟨i, List.mem_singleton.mp q⟩, fun z => by
      simp only [List.mem_cons, List.not_mem_nil, or_false] at hw
      rcases hw with q | q <;> rw [q] at z <;> exact absurd z (by decide +kernel), fun _ p hp => by
      rcases List.mem_cons.mp hp with q | q
      · exact ⟨k, q⟩
      · exact ⟨i, List.mem_singleton.mp q⟩⟩
theorem Fm.rn {d : PyData} {w : Str} {ps : List PyData} (h : Fm d w ps) : K74.rn d = ((wc w :: ps.map pn) ++ [0]).take 3 := by rw [h.e]; rfl
theorem rn_len {B : Int} {d : PyData} (h : Rk B d) : (rn d).length = 3 := by
  obtain ⟨w, ps, f⟩ := h.form
  have := f.l1
  have := f.l2
  rw [f.rn, List.length_take]
  simp only [List.length_cons, List.length_append, List.length_map, List.length_nil]
  omega
abbrev iL (l : List Int) : PyData := .list (l.map .int)
theorem isi_ss (s : Str) : isiD "str" (.str s) = some (.bool true) := rfl
theorem kit_is : kitB "int" "str" = some false := by decide +kernel
theorem isi_si (i : Int) : isiD "str" (.int i) = some (.bool false) := by
  show (if isSetD (.int i) = true then none else (kitB "int" "str").map PyData.bool) = _
  rw [kit_is]
  rfl
/-- a part told as a number -/
theorem part_w {p : PyData} {e0 e1 : Sl} {m : Ms} {Q : PyData × Ms → Prop} (hp : Pt p) (q : Q (.int (pn p), m)) : W (eIf (eT truD (eMap (eV 2) (isiD "str"))) (eMap (eCons (eV 2) eNil) (arN 1 m_name_number)) (eV 2) [e0, e1, .fz p] m) Q := by
  rcases hp with ⟨s, rfl, hs⟩ | ⟨i, rfl⟩
  · walk_at "tlex"
    refine W.of (isi_ss s) ?_
    walk_at "tlex"
    refine ⟨fun _ => ?_, fun z => (by cases z)⟩
    walk_at "tlex"
    exact nm_w hs.1 q
  · walk_at "tlex"
    refine W.of (isi_si i) ?_
    walk_at "tlex"
    exact ⟨fun z => (by cases z), fun _ => (by walk_at "tlex"; exact q)⟩
theorem w_slL {f : Ev} {lo hi : Eo} {r : Rs} {m : Ms} {Q : PyData × Ms → Prop} (h : W (f r m) fun p => W (lo r p.2) fun q => W (hi r q.2) fun w => W (TX.slcL p.1 q.1 w.1) fun d => Q (d, w.2)) : W (TX.eSlL f lo hi r m) Q := W.bind (W.mono h fun _ h => W.bind (W.mono h fun _ h => W.bind (W.mono h fun _ h => W.map h)))
theorem w_starL {f : Ev} {g : Eas} {r : Rs} {m : Ms} {Q : List PyData × Ms → Prop} (h : W (f r m) fun p => ∃ ds, p.1 = .list ds ∧ W (g r p.2) fun q => Q (ds ++ q.1, q.2)) : W (eStar f g r m) Q := W.bind (W.mono h fun p h => by
  obtain ⟨d, m1⟩ := p
  obtain ⟨ds, e, h⟩ := h
  have e : d = .list ds := e
  subst e
  exact W.map h)
theorem laidrow_w {B : Int} {d : PyData} {Q : PyData → Prop} (h : Rk B d) (q : Q (iL (rn d))) : W (m__laid_row [d]) Q := by
  obtain ⟨w, ps, f⟩ := h.form
  rw [f.rn] at q
  obtain ⟨rfl, hw, l1, l2, hp, _, _⟩ := f
  unfold m__laid_row b__laid_row
  walk_at "tlex"
  refine w_lcI (fun ds i acc m => ds = ps ∧ i ≤ ps.length ∧ acc = (ps.take i).map (fun p => .int (pn p)) ∧ m = []) ?_
  walk_at "tlex"
  refine ⟨_, rfl, ?_⟩
  walk_at "tlex"
  have hc : cutD (.str w :: ps) (some 1) none = ps := by
    unfold cutD
    have e : HT.sIx (PyData.str w :: ps).length 0 (some 1) = 1 := by
      show (if (1 : Int) < 0 then (1 + ((PyData.str w :: ps).length : Int)).toNat else min (1 : Int).toNat (PyData.str w :: ps).length) = 1
      rw [if_neg (by decide), List.length_cons]
      show min 1 (ps.length + 1) = 1
      omega
    rw [e, HT.sIx_none]
    simp
  rw [hc]
  walk_at "tlex"
  refine ⟨⟨by trivial, Nat.zero_le _, rfl, by trivial⟩, ?_, ?_⟩
  · rintro i d m acc hx ⟨_, hi, rfl, rfl⟩
    have hlt := (List.getElem?_eq_some_iff.mp hx).1
    simp only [wipeR]
    walk_at "tlex"
    refine ⟨fun _ => ?_, fun z => (by cases z)⟩
    refine part_w (hp d (List.mem_of_getElem? hx)) ?_
    refine ⟨lt_line (by rw [List.length_map, List.length_take]; omega), by trivial, hlt, ?_, rfl⟩
    rw [List.take_add_one, hx, List.map_append]
    rfl
  · rintro acc m ⟨_, hi, rfl, rfl⟩
    rw [List.take_length]
    refine w_retF (w_slL ?_)
    walk_at "tlex"
    refine W.of (idx_G hw) ?_
    walk_at "tlex"
    refine w_starL ?_
    walk_at "tlex"
    refine ⟨_, rfl, ?_⟩
    refine ⟨le_line (by rw [List.length_append, List.length_map, List.length_singleton]; omega), ?_⟩
    walk_at "tlex"
    refine ⟨_, rfl, .mk ?_⟩
    have e3 : ∀ ds : List PyData, cutD ds none (some 3) = ds.take 3 := fun ds => by
      unfold cutD
      rw [HT.sIx_none, List.drop_zero, Nat.sub_zero]
      have e : HT.sIx ds.length ds.length (some 3) = min 3 ds.length := by
        show (if (3 : Int) < 0 then (3 + (ds.length : Int)).toNat else min (3 : Int).toNat ds.length) = _
        rw [if_neg (by decide)]
        rfl
      rw [e]
      by_cases h : 3 ≤ ds.length
      · rw [Nat.min_eq_left h]
      · rw [Nat.min_eq_right (by omega), List.take_length, List.take_of_length_le (by omega)]
    rw [e3]
    have e4 : (PyData.int (wc w) :: (List.map (fun p => PyData.int (pn p)) ps ++ [PyData.int 0])).take 3 = (((wc w :: ps.map pn) ++ [0]).take 3).map PyData.int := by
      rw [List.map_take]
      simp [List.map_map, Function.comp_def]
    rw [e4]
    exact q
end K74
end
/-! P74j -/
section
set_option maxHeartbeats 4000000
namespace K74
open PySem L2 TL
/-! ## _law_rows_laid -/
abbrev K3 := Int × Str × Int
def rowsN (rs : List PyData) : List Int := (rs.map rn).flatten ++ [0, 0, 0]
def pl1 (a : Int) (r : PyData) : List K3 := if rp r = true then [(a + 1, ("own" : Str), arg1 r)] else []
def plN (a : Int) : List PyData → List K3
  | [] => []
  | r :: rs => pl1 a r ++ plN (a + 3) rs
theorem plN_snoc : ∀ (rs : List PyData) (a : Int) (r : PyData), plN a (rs ++ [r]) = plN a rs ++ pl1 (a + 3 * (rs.length : Int)) r
  | [], a, r => by
    show pl1 a r ++ [] = [] ++ pl1 (a + 3 * (0 : Nat)) r
    simp
  | x :: rs, a, r => by
    rw [List.cons_append]
    show _ ++ plN (a + 3) (rs ++ [r]) = _
    rw [plN_snoc rs (a + 3) r, ← List.append_assoc]
    have e : a + 3 + 3 * (rs.length : Int) = a + 3 * ((x :: rs).length : Int) := by
      rw [List.length_cons]
      push_cast
      omega
    rw [e]
    rfl
theorem plN_len : ∀ (rs : List PyData) (a : Int), (plN a rs).length ≤ rs.length
  | [], _ => Nat.le_refl _
  | r :: rs, a => by
    have ih := plN_len rs (a + 3)
    have h1 : (pl1 a r).length ≤ 1 := by
      unfold pl1
      split
      · exact Nat.le_refl _
      · exact Nat.zero_le _
    show (pl1 a r ++ plN (a + 3) rs).length ≤ rs.length + 1
    rw [List.length_append]
    omega
theorem flat_len {rs : List PyData} {B : Int} (h : ∀ r ∈ rs, Rk B r) : (rs.map rn).flatten.length = 3 * rs.length := by
  induction rs with
  | nil => rfl
  | cons r rs ih =>
    rw [List.map_cons, List.flatten_cons, List.length_append, rn_len (h r List.mem_cons_self), ih fun x hx => h x (List.mem_cons_of_mem _ hx), List.length_cons]
    omega
theorem not_both {w : Str} (h : w ∈ [("bring" : Str), "share", "drop", "ask"]) : w ∉ [("show" : Str), "skip", "call", "put", "add"] := by
  have k : ∀ w ∈ [("bring" : Str), "share", "drop", "ask"], w ∉ [("show" : Str), "skip", "call", "put", "add"] := by decide +kernel
  exact k w h
end K74
end
/-! P74k -/
section
set_option maxHeartbeats 4000000
namespace K74
open PySem L2 TL
/-! ## what an image says -/
/-- what a give holds: a whole number, or rows -/
def isI : PyData → Bool
  | .int _ => true
  | _ => false
def rowsOf : PyData → List PyData
  | .tuple rs => rs
  | _ => []
def intOf : PyData → Int
  | .int i => i
  | _ => 0
def cells (l : Lb) : List Int := (l.gs.filter fun g => isI g.x).map fun g => intOf g.x
def deeds (l : Lb) : List PyData := (l.gs.filter fun g => !isI g.x).map fun g => g.x
def rowL (l : Lb) : List (List PyData) := (deeds l).map rowsOf ++ [l.r0, l.r1]
/-- a library as it is laid: rows of any such numbers -/
structure L2k (l : Lb) : Prop where
  gs : l.gs.length ≤ 8
  us : l.us.length ≤ 8
  gx : ∀ g ∈ l.gs, (∃ i : Int, g.x = .int i) ∨ ∃ rs, g.x = .tuple rs ∧ rs.length ≤ 8 ∧ ∀ r ∈ rs, Rk 1000000000000000000000000000000 r
  r0 : l.r0.length ≤ 8 ∧ ∀ r ∈ l.r0, Rk 1000000000000000000000000000000 r
  r1 : l.r1.length ≤ 8 ∧ ∀ r ∈ l.r1, Rk 1000000000000000000000000000000 r
  gi : ∀ g ∈ l.gs, ∀ i : Int, g.x = .int i → -1000000000000000000000000000000 < i ∧ i < 1000000000000000000000000000000
theorem Rk.mono {B C : Int} (h : B ≤ C) {d : PyData} (r : Rk B d) : Rk C d := by
  cases r with
  | tell i h0 h1 => exact .tell i (by omega) (by omega)
  | name w s hw hs => exact .name w s hw hs
  | ask s t hs ht => exact .ask s t hs ht
  | one w k hw h0 h1 => exact .one w k hw h0 h1
  | two w k i hw h0 h1 h2 h3 => exact .two w k i hw h0 h1 (by omega) (by omega)
theorem Lb.ok.k {l : Lb} (h : l.ok) : L2k l := ⟨h.gs.1, h.us.1, fun g hg => by
  rcases (h.gs.2 g hg).2.2 with ⟨i, e, _, _⟩ | ⟨rs, e, h1, h2⟩
  · exact .inl ⟨i, e⟩
  · exact .inr ⟨rs, e, h1, fun r hr => (h2 r hr).mono (by decide)⟩, ⟨h.r0.1, fun r hr => (h.r0.2 r hr).mono (by decide)⟩, ⟨h.r1.1, fun r hr => (h.r1.2 r hr).mono (by decide)⟩, fun g hg i e => by
  rcases (h.gs.2 g hg).2.2 with ⟨j, e2, h1, h2⟩ | ⟨rs, e2, _, _⟩
  · rw [e2] at e
    cases e
    omega
  · rw [e2] at e
    cases e⟩
/-- is_whole, _law_whole of what a give holds -/
theorem kit_tupI : kitB "tuple" "int" = some false := by decide +kernel
theorem isi_ti (rs : List PyData) : isiD "int" (.tuple rs) = some (.bool false) := by
  show (if isSetD (.tuple rs) = true then none else (kitB "tuple" "int").map PyData.bool) = _
  rw [kit_tupI]
  rfl
abbrev IT (x : PyData) : Prop := (∃ i : Int, x = .int i) ∨ ∃ rs, x = .tuple rs
theorem iswhole_w {x : PyData} {Q : PyData → Prop} (h : IT x) (q : Q (.bool (isI x))) : W (m_is_whole [x]) Q := by
  unfold m_is_whole b_is_whole
  rcases h with ⟨i, rfl⟩ | ⟨rs, rfl⟩
  · walk_at "tlex"
    refine W.of (show isiD "int" (.int i) = some (.bool true) from rfl) ?_
    refine ⟨true, rfl, fun _ => ?_, fun z => (by cases z)⟩
    walk_at "tlex"
    refine W.of (show isiD "bool" (.int i) = some (.bool false) from rfl) ?_
    walk_at "tlex"
    exact q
  · walk_at "tlex"
    refine W.of (isi_ti rs) ?_
    exact ⟨false, rfl, fun z => (by cases z), fun _ => q⟩
theorem lwhole_w {x : PyData} {Q : PyData → Prop} (h : IT x) (q : Q (.bool (isI x))) : W (m__law_whole [x]) Q := by
  unfold m__law_whole b__law_whole
  rcases h with ⟨i, rfl⟩ | ⟨rs, rfl⟩
  · walk_at "tlex"
    refine W.of (show isiD "int" (.int i) = some (.bool true) from rfl) ?_
    refine ⟨true, rfl, fun _ => ?_, fun z => (by cases z)⟩
    walk_at "tlex"
    refine W.of (show isiD "bool" (.int i) = some (.bool false) from rfl) ?_
    walk_at "tlex"
    exact q
  · walk_at "tlex"
    refine W.of (isi_ti rs) ?_
    exact ⟨false, rfl, fun z => (by cases z), fun _ => q⟩
theorem L2k.it {l : Lb} (h : L2k l) {g : Gv} (hg : g ∈ l.gs) : IT g.x := by
  rcases h.gx g hg with ⟨i, e⟩ | ⟨rs, e, _⟩
  · exact .inl ⟨i, e⟩
  · exact .inr ⟨rs, e⟩
theorem fil_step {α β : Type} {p : α → Bool} {f : α → β} {l : List α} {i : Nat} {x : α} (hx : l[i]? = some x) : ((l.take (i + 1)).filter p).map f = ((l.take i).filter p).map f ++ if p x = true then [f x] else [] := by
  rw [List.take_add_one, hx]
  show ((l.take i ++ [x]).filter p).map f = _
  rw [List.filter_append, List.map_append, List.filter_cons]
  cases p x <;> rfl
/-- a comprehension over the gives, of those that hold whole numbers (or rows) -/
theorem allrows_w {l : Lb} {Q : PyData → Prop} (h : L2k l) (q : Q (.list ((rowL l).map .tuple))) : W (m__all_rows [l.d]) Q := by
  have hgl := h.gs
  unfold m__all_rows b__all_rows
  walk_at "tlex"
  refine w_starL ?_
  refine w_lcI (fun ds i acc m => ds = l.gs.map Gv.d ∧ i ≤ l.gs.length ∧ acc = ((l.gs.take i).filter fun g => !isI g.x).map (fun g => g.x) ∧ m = []) ?_
  walk_at "tlex"
  refine ⟨⟨by trivial, Nat.zero_le _, rfl, by trivial⟩, ?_, ?_⟩
  · rintro i d m acc hx ⟨_, hi, rfl, rfl⟩
    obtain ⟨g, hg, rfl⟩ := gs_at hx
    have hlt := (List.getElem?_eq_some_iff.mp hg).1
    have hm := List.mem_of_getElem? hg
    have st := fil_step (p := fun g : Gv => !isI g.x) (f := fun g => g.x) hg
    have hfl : (((l.gs.take i).filter fun g => !isI g.x).map (fun g => g.x)).length ≤ i := by
      rw [List.length_map]
      exact Nat.le_trans (List.length_filter_le _ _) (by rw [List.length_take]; omega)
    simp only [wipeR]
    walk_at "tlex"
    refine iswhole_w (h.it hm) ?_
    walk_at "tlex"
    refine ⟨fun z => ?_, fun z => ⟨by trivial, hlt, ?_, by trivial⟩⟩
    · walk_at "tlex"
      refine ⟨lt_line (by omega), by trivial, hlt, ?_, by trivial⟩
      rw [st, if_pos (by simpa using z)]
    · rw [st, if_neg (by simpa using z), List.append_nil]
  · rintro acc m ⟨_, hi, rfl, rfl⟩
    rw [List.length_map, List.take_length]
    refine ⟨_, rfl, ?_⟩
    walk_at "tlex"
    refine W.of (show atI [PyData.str l.n, .tuple (l.ns.map .str), .tuple (l.gs.map Gv.d), .tuple (l.us.map Us.d), .tuple l.r0, .tuple l.r1, .tuple (l.ks.map .str)] 5 = some (.tuple l.r1) from rfl) ?_
    walk_at "tlex"
    have e : ((l.gs.filter fun g => !isI g.x).map fun g => g.x) ++ [PyData.tuple l.r0, .tuple l.r1] = (rowL l).map .tuple := by
      unfold rowL deeds
      rw [List.map_append, List.map_map, List.map_map]
      congr 1
      refine List.map_congr_left fun g hg => ?_
      have hg2 := List.mem_filter.mp hg
      rcases h.it hg2.1 with ⟨i, e⟩ | ⟨rs, e⟩
      · have z := hg2.2
        rw [e] at z
        cases z
      · show g.x = PyData.tuple (rowsOf g.x)
        rw [e]
        rfl
    have hfl : (l.gs.filter fun g => !isI g.x).length ≤ 8 := Nat.le_trans (List.length_filter_le _ _) hgl
    rw [e]
    refine ⟨?_, q⟩
    rw [← e, List.length_append, List.length_map]
    exact le_line (by simp only [List.length_cons, List.length_nil]; omega)
end K74
end
/-! P74l0 -/
section
set_option maxHeartbeats 4000000
namespace K74
open PySem L2 TL
/-! ## dicts of whole numbers -/
abbrev dI (qs : List (Int × PyData)) : List (PyData × PyData) := qs.map fun q => (.int q.1, q.2)
def putI (qs : List (Int × PyData)) (r : Int) (d : PyData) : List (Int × PyData) := if (qs.any fun q => decide (q.1 = r)) = true then qs.map (fun q => if q.1 = r then (q.1, d) else q) else qs ++ [(r, d)]
theorem keyI {i r : Int} : keyD (.int i) = some (.inl r) ↔ i = r := by
  constructor
  · intro h
    injection h with h
    injection h
  · intro h
    rw [h]; rfl
theorem putP_dI (qs : List (Int × PyData)) (r : Int) (d : PyData) : putP (dI qs) (.inl r) d = dI (putI qs r d) := by
  have ha : ((dI qs).any fun p => decide (keyD p.1 = some (.inl r))) = qs.any fun q => decide (q.1 = r) := by
    rw [List.any_map]
    congr 1
    funext q
    exact decide_eq_decide.mpr keyI
  unfold putP putI
  rw [ha]
  split
  · show List.map _ (List.map _ qs) = List.map _ (List.map _ qs)
    rw [List.map_map, List.map_map]
    refine List.map_congr_left fun q _ => ?_
    simp only [Function.comp]
    by_cases h : q.1 = r
    · rw [if_pos (keyI.mpr h), if_pos h]
    · rw [if_neg fun z => h (keyI.mp z), if_neg h]
  · show _ = List.map _ (qs ++ [(r, d)])
    rw [List.map_append]
    rfl
theorem valP_dI (qs : List (Int × PyData)) (r : Int) : (valP (dI qs) (.inl r)).isSome = decide (r ∈ qs.map (·.1)) := by
  unfold valP
  rw [Option.isSome_map]
  rw [Bool.eq_iff_iff, List.find?_isSome, decide_eq_true_iff]
  simp only [List.mem_map, decide_eq_true_eq]
  constructor
  · rintro ⟨p, ⟨q, hq, rfl⟩, h⟩
    exact ⟨q, hq, keyI.mp h⟩
  · rintro ⟨q, hq, h⟩
    exact ⟨_, ⟨q, hq, rfl⟩, keyI.mpr h⟩
section
variable {fi : Eas} {own : List Nat} {h : Eh} {t : Et} {fk fv : Ev} {r : Rs} {m : Ms} {Q : PyData × Ms → Prop}
theorem dcI_inv (I : Nat → List (Int × PyData) → Ms → Prop) {r : Rs} {ds : List PyData} (step : ∀ (i : Nat) (d : PyData) (m : Ms) (qs : List (Int × PyData)), ds[i]? = some d → I i qs m → W (h d r) fun r1 => W (t r1 m) fun b => b.1 = true ∧ W (fk r1 b.2) fun x => W (fv r1 x.2) fun y => ∃ z, x.1 = .int z ∧ qs.length < sizeLine ∧ I (i + 1) (putI qs z y.1) y.2) :
    ∀ (k : Nat) (m : Ms) (qs : List (Int × PyData)), k ≤ ds.length → I k qs m → W (dcLoop h t fk fv r (ds.drop k) m (dI qs)) fun p => ∃ qs, p.1 = dI qs ∧ I ds.length qs p.2 := by
  intro k
  induction hk : ds.length - k generalizing k with
  | zero =>
    intro m qs hl hI
    have : k = ds.length := by omega
    subst this
    rw [List.drop_length]
    exact .mk ⟨qs, rfl, hI⟩
  | succ n ih =>
    intro m qs hl hI
    have hlt : k < ds.length := by omega
    rw [List.drop_eq_getElem_cons hlt]
    unfold dcLoop
    refine W.bind (W.mono (step k ds[k] m qs (List.getElem?_eq_getElem hlt) hI) fun r1 q => W.bind (W.mono q fun b ⟨q1, q2⟩ => ?_))
    rw [if_pos q1]
    refine W.bind (W.mono q2 fun x q3 => W.bind (W.mono q3 fun y ⟨z, e, q4, q5⟩ => ?_))
    rw [e]
    show W (Option.bind (some (Sum.inl z)) _) _
    refine W.bind (W.mk ?_)
    rw [putP_dI]
    exact W.guard (by rw [List.length_map]; exact q4) (ih (k + 1) (by omega) y.2 _ (by omega) q5)
theorem w_dcN (I : List PyData → Nat → List (Int × PyData) → Ms → Prop) (q : W (fi r m) fun p => I p.1 0 [] p.2 ∧ (∀ (i : Nat) (d : PyData) (m : Ms) (qs : List (Int × PyData)), p.1[i]? = some d → I p.1 i qs m → W (h d (wipeR r own)) fun r1 => W (t r1 m) fun b => b.1 = true ∧ W (fk r1 b.2) fun x => W (fv r1 x.2) fun y => ∃ z, x.1 = .int z ∧ qs.length < sizeLine ∧ I p.1 (i + 1) (putI qs z y.1) y.2) ∧
    ∀ qs m, I p.1 p.1.length qs m → Q (.dict (dI qs), m)) : W (eDc fi own h t fk fv r m) Q := W.bind (W.mono q fun p ⟨q1, q2, q3⟩ => by
  have := dcI_inv (I p.1) q2 0 p.2 [] (Nat.zero_le _) q1
  rw [List.drop_zero] at this
  refine W.map (W.mono this fun z ⟨qs, e, hz⟩ => ?_)
  rw [e]
  exact q3 qs _ hz)
end
theorem putI_new {qs : List (Int × PyData)} {r : Int} {d : PyData} (h : r ∉ qs.map (·.1)) : putI qs r d = qs ++ [(r, d)] := by
  unfold putI
  rw [if_neg fun z => h (by
    obtain ⟨q, hq, e⟩ := List.any_eq_true.mp z
    exact List.mem_map.mpr ⟨q, hq, of_decide_eq_true e⟩)]
end K74
end
/-! P74l -/
section
set_option maxHeartbeats 4000000
namespace K74
open PySem L2 TL
/-! ## _places_of_stubs -/
def stb : List Us → Nat → Int → List (Int × Int)
  | [], _, _ => []
  | u :: us, k, a => if u.c = true then stb us (k + 1) a else ((k : Int), a) :: stb us (k + 1) (a + 3)
abbrev iV (qs : List (Int × Int)) : List (Int × PyData) := qs.map fun p => (p.1, .int p.2)
def at0 (l : Lb) : Int := l.us.length + (cells l).length
def st1 (us : List Us) (k : Nat) (a : Int) (u : Us) : List (Int × Int) := if u.c = true then [] else [(((k + us.length : Nat) : Int), a + 3 * ((stb us k a).length : Int))]
theorem stb_snoc : ∀ (us : List Us) (k : Nat) (a : Int) (u : Us), stb (us ++ [u]) k a = stb us k a ++ st1 us k a u
  | [], k, a, u => by
    unfold st1
    show (if u.c = true then _ else _) = _
    cases u.c <;> simp [stb]
  | x :: us, k, a, u => by
    rw [List.cons_append]
    have h1 := stb_snoc us (k + 1) a u
    have h2 := stb_snoc us (k + 1) (a + 3) u
    unfold st1 at h1 h2 ⊢
    have ek : k + (x :: us).length = k + 1 + us.length := by rw [List.length_cons]; omega
    rw [ek]
    cases hx : x.c with
    | true =>
      have e1 : stb (x :: us) k a = stb us (k + 1) a := by simp [stb, hx]
      have e2 : stb (x :: (us ++ [u])) k a = stb (us ++ [u]) (k + 1) a := by simp [stb, hx]
      rw [e1, e2, h1]
    | false =>
      have e1 : stb (x :: us) k a = ((k : Int), a) :: stb us (k + 1) (a + 3) := by simp [stb, hx]
      have e2 : stb (x :: (us ++ [u])) k a = ((k : Int), a) :: stb (us ++ [u]) (k + 1) (a + 3) := by simp [stb, hx]
      rw [e1, e2, h2, List.cons_append, List.length_cons]
      have ea : a + 3 + 3 * ((stb us (k + 1) (a + 3)).length : Int) = a + 3 * (((stb us (k + 1) (a + 3)).length + 1 : Nat) : Int) := by
        push_cast
        omega
      rw [ea]
theorem stb_keys : ∀ (us : List Us) (k : Nat) (a b : Int), (stb us k a).map (·.1) = (stb us k b).map (·.1)
  | [], _, _, _ => rfl
  | u :: us, k, a, b => by
    cases hu : u.c with
    | true => simp [stb, hu, stb_keys us (k + 1) a b]
    | false => simp [stb, hu, stb_keys us (k + 1) (a + 3) (b + 3)]
theorem stb_lo : ∀ (us : List Us) (k : Nat) (a : Int) (p : Int × Int), p ∈ stb us k a → (k : Int) ≤ p.1 ∧ p.1 < k + us.length
  | [], _, _, _, h => by cases h
  | u :: us, k, a, p, h => by
    have g : ∀ b, p ∈ stb us (k + 1) b → (k : Int) ≤ p.1 ∧ p.1 < k + (u :: us).length := fun b h => by
      have := stb_lo us (k + 1) b p h
      rw [List.length_cons]
      push_cast at this ⊢
      omega
    cases hu : u.c with
    | true => exact g a (by simpa [stb, hu] using h)
    | false =>
      have h : p = ((k : Int), a) ∨ p ∈ stb us (k + 1) (a + 3) := by simpa [stb, hu] using h
      rcases h with e | h
      · rw [e, List.length_cons]
        push_cast
        omega
      · exact g _ h
theorem stb_nd : ∀ (us : List Us) (k : Nat) (a : Int), ((stb us k a).map (·.1)).Nodup
  | [], _, _ => List.nodup_nil
  | u :: us, k, a => by
    cases hu : u.c with
    | true => simpa [stb, hu] using stb_nd us (k + 1) a
    | false =>
      have e : stb (u :: us) k a = ((k : Int), a) :: stb us (k + 1) (a + 3) := by simp [stb, hu]
      rw [e, List.map_cons]
      refine List.nodup_cons.mpr ⟨fun h => ?_, stb_nd us (k + 1) (a + 3)⟩
      obtain ⟨p, hp, e⟩ := List.mem_map.mp h
      have := (stb_lo us (k + 1) (a + 3) p hp).1
      have e : p.1 = (k : Int) := e
      push_cast at this
      omega
theorem stb_snd : ∀ (us : List Us) (k : Nat) (a : Int) (j : Nat) (p : Int × Int), (stb us k a)[j]? = some p → p.2 = a + 3 * (j : Int)
  | [], _, _, _, _, h => by cases h
  | u :: us, k, a, j, p, h => by
    cases hu : u.c with
    | true => exact stb_snd us (k + 1) a j p (by simpa [stb, hu] using h)
    | false =>
      have e : stb (u :: us) k a = ((k : Int), a) :: stb us (k + 1) (a + 3) := by simp [stb, hu]
      rw [e] at h
      cases j with
      | zero =>
        cases h
        simp
      | succ j =>
        have := stb_snd us (k + 1) (a + 3) j p (by simpa using h)
        push_cast
        omega
theorem stb_len : ∀ (us : List Us) (k : Nat) (a : Int), (stb us k a).length ≤ us.length
  | [], _, _ => Nat.le_refl _
  | u :: us, k, a => by
    cases hu : u.c with
    | true =>
      have := stb_len us (k + 1) a
      simp only [stb, hu, if_true, List.length_cons]
      omega
    | false =>
      have := stb_len us (k + 1) (a + 3)
      have e : stb (u :: us) k a = ((k : Int), a) :: stb us (k + 1) (a + 3) := by simp [stb, hu]
      rw [e, List.length_cons, List.length_cons]
      omega
theorem us_at {us : List Us} {i : Nat} {d : PyData} (h : (us.map Us.d)[i]? = some d) : ∃ u, us[i]? = some u ∧ d = u.d := by
  rw [List.getElem?_map] at h
  cases e : us[i]? with
  | none => rw [e] at h; cases h
  | some g => rw [e] at h; exact ⟨g, rfl, (Option.some.inj h).symm⟩
theorem stubs_w {l : Lb} {Q : PyData → Prop} (h : L2k l) (q : Q (.dict (dI (iV (stb l.us 0 (at0 l)))))) : W (m__places_of_stubs [l.d]) Q := by
  have hgl := h.gs
  have hul := h.us
  unfold m__places_of_stubs b__places_of_stubs
  walk_at "tlex"
  refine w_lcI (fun ds i acc m => ds = l.gs.map Gv.d ∧ i ≤ l.gs.length ∧ acc = ((l.gs.take i).filter fun g => isI g.x).map Gv.d ∧ m = []) ?_
  walk_at "tlex"
  refine ⟨⟨by trivial, Nat.zero_le _, rfl, by trivial⟩, ?_, ?_⟩
  · rintro i d m acc hx ⟨_, hi, rfl, rfl⟩
    obtain ⟨g, hg, rfl⟩ := gs_at hx
    have hlt := (List.getElem?_eq_some_iff.mp hg).1
    have hm := List.mem_of_getElem? hg
    have st := fil_step (p := fun g : Gv => isI g.x) (f := Gv.d) hg
    have hfl : (((l.gs.take i).filter fun g => isI g.x).map Gv.d).length ≤ i := by
      rw [List.length_map]
      exact Nat.le_trans (List.length_filter_le _ _) (by rw [List.length_take]; omega)
    simp only [wipeR]
    walk_at "tlex"
    refine iswhole_w (h.it hm) ?_
    walk_at "tlex"
    refine ⟨fun z => ?_, fun z => ⟨by trivial, hlt, ?_, by trivial⟩⟩
    · walk_at "tlex"
      refine ⟨lt_line (by omega), by trivial, hlt, ?_, by trivial⟩
      rw [st, if_pos z]
    · rw [st, if_neg (by rw [z]; decide), List.append_nil]
  · rintro acc m ⟨_, hi, rfl, rfl⟩
    rw [List.length_map, List.take_length]
    walk_at "tlex"
    refine w_lcI (fun ds i acc m => ds = enumD (l.us.map Us.d) ∧ i ≤ l.us.length ∧ acc = ((stb (l.us.take i) 0 0).map (·.1)).map .int ∧ m = []) ?_
    walk_at "tlex"
    refine ⟨⟨by trivial, Nat.zero_le _, rfl, by trivial⟩, ?_, ?_⟩
    · rintro i d m acc hx ⟨_, hi, rfl, rfl⟩
      obtain ⟨e0, hx2, rfl⟩ := enum_at hx
      obtain ⟨u, hu, rfl⟩ := us_at hx2
      have hlt := (List.getElem?_eq_some_iff.mp hu).1
      have hsn : l.us.take (i + 1) = l.us.take i ++ [u] := by rw [List.take_add_one, hu]; rfl
      have hti : (l.us.take i).length = i := by rw [List.length_take]; omega
      have st := stb_snoc (l.us.take i) 0 0 u
      rw [← hsn] at st
      have hsl := stb_len (l.us.take i) 0 0
      rw [hti] at hsl
      simp only [wipeR]
      walk_at "tlex"
      refine ⟨fun z => ?_, fun z => ⟨by trivial, hlt, ?_, by trivial⟩⟩
      · have hc : u.c = false := by simpa using z
        walk_at "tlex"
        refine ⟨lt_line (by rw [List.length_map, List.length_map]; omega), by trivial, hlt, ?_, by trivial⟩
        rw [st, List.map_append, List.map_append]
        unfold st1
        rw [hc, hti]
        simp
      · have hc : u.c = true := by simpa using z
        rw [st]
        unfold st1
        rw [hc]
        simp
    · rintro acc m ⟨_, hi, rfl, rfl⟩
      have el : (enumD (l.us.map Us.d)).length = l.us.length := by unfold enumD; rw [List.length_map, List.length_zipIdx, List.length_map]
      rw [el, List.take_length]
      walk_at "tlex"
      have hkey := stb_keys l.us 0 0 (at0 l)
      have hnd := stb_nd l.us 0 (at0 l)
      refine w_dcN (fun ds i qs m => ds = enumD (((stb l.us 0 0).map (·.1)).map .int) ∧ i ≤ (stb l.us 0 (at0 l)).length ∧ qs = iV ((stb l.us 0 (at0 l)).take i) ∧ m = []) ?_
      walk_at "tlex"
      have hsl := stb_len l.us 0 (at0 l)
      refine ⟨⟨by trivial, Nat.zero_le _, rfl, by trivial⟩, ?_, ?_⟩
      · rintro i d m qs hx ⟨_, hi, rfl, rfl⟩
        obtain ⟨e0, hx2, rfl⟩ := enum_at hx
        rw [hkey, List.map_map, List.getElem?_map] at hx2
        obtain ⟨p, hp, hpe⟩ := Option.map_eq_some_iff.mp hx2
        have hpe : PyData.int p.1 = e0 := hpe
        subst hpe
        have hlt := (List.getElem?_eq_some_iff.mp hp).1
        have h2 := stb_snd l.us 0 (at0 l) i p hp
        simp only [wipeR]
        walk_at "tlex"
        refine ⟨_, rfl, lt_line (by rw [List.length_map, List.length_take]; omega), by trivial, hlt, ?_, by trivial⟩
        have hnin : p.1 ∉ (iV ((stb l.us 0 (at0 l)).take i)).map (·.1) := fun hc => by
          rw [List.map_map] at hc
          have hc : p.1 ∈ ((stb l.us 0 (at0 l)).take i).map (·.1) := hc
          rw [List.map_take] at hc
          obtain ⟨j, hj⟩ := List.mem_iff_getElem?.mp hc
          have hji : j < i := by
            have := (List.getElem?_eq_some_iff.mp hj).1
            rw [List.length_take] at this
            omega
          rw [List.getElem?_take, if_pos hji] at hj
          have hi2 : ((stb l.us 0 (at0 l)).map (·.1))[i]? = some p.1 := by rw [List.getElem?_map, hp]; rfl
          have := (List.getElem?_inj (List.getElem?_eq_some_iff.mp hj).1 hnd).mp (hj.trans hi2.symm)
          omega
        rw [putI_new hnin, List.take_add_one, hp]
        show _ = List.map _ (_ ++ [p])
        rw [List.map_append]
        have ea : ((l.us.map Us.d).length : Int) + (((l.gs.filter fun g => isI g.x).map Gv.d).length : Int) + 3 * (i : Int) = p.2 := by
          rw [h2]
          unfold at0 cells
          rw [List.length_map, List.length_map, List.length_map]
        rw [ea]
        rfl
      · rintro qs m ⟨_, hi, rfl, rfl⟩
        have el2 : (enumD (((stb l.us 0 0).map (·.1)).map PyData.int)).length = (stb l.us 0 (at0 l)).length := by
          unfold enumD
          rw [List.length_map, List.length_zipIdx, List.length_map, hkey, List.length_map]
        rw [el2, List.take_length]
        exact q
end K74
end
/-! P74m -/
section
set_option maxHeartbeats 4000000
namespace K74
open PySem L2 TL
/-! ## image -/
/-- the place of a use's stub, 0 where it has none -/
def slk (l : Lb) (k : Int) : Int := (((stb l.us 0 (at0 l)).find? fun p => decide (p.1 = k)).map (·.2)).getD 0
def num0 (l : Lb) : List Int := (List.range l.us.length).map fun k : Nat => slk l k
def pla0 (l : Lb) : List K3 := (List.range l.us.length).map fun k : Nat => if ((l.us.map Us.c)[k]?).getD false = true then ((k : Int), ("cell" : Str), (k : Int)) else ((k : Int), ("own" : Str), slk l k)
def num2 (l : Lb) : List Int := ((stb l.us 0 (at0 l)).map fun p => [10, p.1, 0]).flatten
def num3 (rl : List (List PyData)) : List Int := (rl.map rowsN).flatten
def plR (a : Int) : List (List PyData) → List K3
  | [] => []
  | rs :: rl => plN a rs ++ plR (a + (rowsN rs).length) rl
def numI (l : Lb) : List Int := num0 l ++ cells l ++ num2 l ++ num3 (rowL l)
def plaI (l : Lb) : List K3 := pla0 l ++ plR ((num0 l ++ cells l ++ num2 l).length : Nat) (rowL l)
theorem valP_iV (qs : List (Int × Int)) (k : Int) : valP (dI (iV qs)) (.inl k) = (qs.find? fun p => decide (p.1 = k)).map fun p => .int p.2 := by
  induction qs with
  | nil => rfl
  | cons p qs ih =>
    unfold valP at ih ⊢
    show Option.map _ (List.find? _ ((PyData.int p.1, PyData.int p.2) :: dI (iV qs))) = _
    rw [List.find?_cons, List.find?_cons]
    by_cases h : p.1 = k
    · rw [decide_eq_true (keyI.mpr h), decide_eq_true h]
      rfl
    · rw [decide_eq_false fun z => h (keyI.mp z), decide_eq_false h]
      exact ih
theorem w_get2 {f g h : Ev} {r : Rs} {m : Ms} {Q : PyData × Ms → Prop} (q : W (f r m) fun p => W (g r p.2) fun u => W (h r u.2) fun w => W (dgetD p.1 u.1 w.1) fun d => Q (d, w.2)) : W (eGet f g h r m) Q := W.bind (W.mono q fun _ q => W.bind (W.mono q fun _ q => W.bind (W.mono q fun _ q => W.map q)))
theorem noSI (qs : List (Int × PyData)) : isSetD (.dict (dI qs)) = false := by cases qs <;> rfl
theorem w_getV {qs : List (Int × Int)} {k : Int} {R : PyData → Prop} (q : R (.int (((qs.find? fun p => decide (p.1 = k)).map (·.2)).getD 0))) : W (dgetD (.dict (dI (iV qs))) (.int k) (.int 0)) R := by
  show W (if isSetD (.dict (dI (iV qs))) = true then none else (keyD (.int k)).map fun c => (valP (dI (iV qs)) c).getD (.int 0)) R
  rw [if_neg (by rw [noSI]; decide)]
  show W (some ((valP (dI (iV qs)) (.inl k)).getD (.int 0))) R
  rw [valP_iV]
  refine .mk ?_
  cases e : qs.find? fun p => decide (p.1 = k) with
  | none => rw [e] at q; exact q
  | some p => rw [e] at q; exact q
theorem w_dixV {qs : List (Int × Int)} {k : Int} {R : PyData → Prop} (hk : k ∈ qs.map (·.1)) (q : R (.int (((qs.find? fun p => decide (p.1 = k)).map (·.2)).getD 0))) : W (dixD (.dict (dI (iV qs))) (.int k)) R := by
  show W (if isSetD (.dict (dI (iV qs))) = true then none else Option.bind (some (Sum.inl k)) (valP (dI (iV qs)))) R
  rw [if_neg (by rw [noSI]; decide)]
  show W (valP (dI (iV qs)) (.inl k)) R
  rw [valP_iV]
  cases e : qs.find? fun p => decide (p.1 = k) with
  | none =>
    obtain ⟨p, hp, e2⟩ := List.mem_map.mp hk
    exact absurd (decide_eq_true e2) (List.find?_eq_none.mp e p hp)
  | some p => rw [e] at q; exact .mk q
theorem stb_has : ∀ (us : List Us) (k : Nat) (a : Int) (i : Nat) (u : Us), us[i]? = some u → u.c = false → ((k + i : Nat) : Int) ∈ (stb us k a).map (·.1)
  | [], _, _, _, _, h, _ => by cases h
  | x :: us, k, a, 0, u, h, hc => by
    cases h
    simp [stb, hc]
  | x :: us, k, a, i + 1, u, h, hc => by
    have h : us[i]? = some u := by simpa using h
    have e : k + (i + 1) = k + 1 + i := by omega
    rw [e]
    cases hx : x.c with
    | true => simpa [stb, hx] using stb_has us (k + 1) a i u h hc
    | false =>
      have := stb_has us (k + 1) (a + 3) i u h hc
      have e1 : stb (x :: us) k a = ((k : Int), a) :: stb us (k + 1) (a + 3) := by simp [stb, hx]
      rw [e1, List.map_cons]
      exact List.mem_cons_of_mem _ this
theorem rng_take {α : Type} {f : Nat → α} {n i : Nat} (h : i < n) : (((List.range n).map f).take (i + 1)) = (((List.range n).map f).take i) ++ [f i] := by
  rw [List.take_add_one, List.getElem?_map, List.getElem?_range h]
  rfl
theorem fl3 {α : Type} (f : α → List Int) (h : ∀ x, (f x).length = 3) (l : List α) : ((l.map f).flatten).length = 3 * l.length := by
  induction l with
  | nil => rfl
  | cons x l ih =>
    rw [List.map_cons, List.flatten_cons, List.length_append, h, ih, List.length_cons]
    omega
theorem w_un {op : PyData → Option PyData} {f : Ev} {r : Rs} {m : Ms} {Q : PyData × Ms → Prop} (h : W (f r m) fun p => W (op p.1) fun d => Q (d, p.2)) : W (TC.eUn op f r m) Q := W.bind (W.mono h fun _ h => W.map h)
theorem tab_w {w : Str} (h : w ∈ TEN) : ∃ (k : Str) (ks : List PyData), TC.ixT cROW_PARTS (.str w) = some (.tuple (.str k :: ks)) ∧ inD (.str k) (.tuple [.str "cell", .str "deed"]) = some (.bool (decide (w ∈ [("show" : Str), "skip", "call", "put", "add"]))) := by
  simp only [List.mem_cons, List.not_mem_nil, or_false] at h
  rcases h with q | q | q | q | q | q | q | q | q | q <;> subst q <;> exact ⟨_, _, rfl, rfl⟩
theorem plR_snoc : ∀ (rl : List (List PyData)) (a : Int) (rs : List PyData), plR a (rl ++ [rs]) = plR a rl ++ plN (a + ((num3 rl).length : Nat)) rs
  | [], a, rs => by
    show plN a rs ++ [] = [] ++ plN (a + (0 : Nat)) rs
    simp
  | x :: rl, a, rs => by
    rw [List.cons_append]
    show plN a x ++ plR (a + (rowsN x).length) (rl ++ [rs]) = (plN a x ++ plR (a + (rowsN x).length) rl) ++ _
    rw [plR_snoc rl _ rs, ← List.append_assoc]
    have e : a + ((rowsN x).length : Int) + ((num3 rl).length : Nat) = a + ((num3 (x :: rl)).length : Nat) := by
      unfold num3
      rw [List.map_cons, List.flatten_cons, List.length_append]
      push_cast
      omega
    rw [e]
theorem rowL_ok {l : Lb} (h : L2k l) : (rowL l).length ≤ 10 ∧ ∀ rs ∈ rowL l, rs.length ≤ 8 ∧ ∀ r ∈ rs, Rk 1000000000000000000000000000000 r := by
  unfold rowL deeds
  refine ⟨?_, fun rs hrs => ?_⟩
  · rw [List.length_append, List.length_map, List.length_map]
    have := List.length_filter_le (fun g : Gv => !isI g.x) l.gs
    have := h.gs
    simp only [List.length_cons, List.length_nil]
    omega
  · rcases List.mem_append.mp hrs with q | q
    · obtain ⟨x, hx, rfl⟩ := List.mem_map.mp q
      obtain ⟨g, hg, rfl⟩ := List.mem_map.mp hx
      have hg2 := List.mem_filter.mp hg
      rcases h.gx g hg2.1 with ⟨i, e⟩ | ⟨rs, e, h1, h2⟩
      · have z := hg2.2
        rw [e] at z
        cases z
      · rw [e]
        exact ⟨h1, h2⟩
    · simp only [List.mem_cons, List.not_mem_nil, or_false] at q
      rcases q with q | q <;> rw [q]
      · exact h.r0
      · exact h.r1
theorem num3_len {rl : List (List PyData)} (h : ∀ rs ∈ rl, rs.length ≤ 8 ∧ ∀ r ∈ rs, Rk 1000000000000000000000000000000 r) : (num3 rl).length ≤ 27 * rl.length := by
  induction rl with
  | nil => exact Nat.le_refl _
  | cons x rl ih =>
    have h1 := h x List.mem_cons_self
    have h2 := flat_len h1.2
    have h3 := ih fun y hy => h y (List.mem_cons_of_mem _ hy)
    unfold num3 rowsN at h3 ⊢
    rw [List.map_cons, List.flatten_cons, List.length_append, List.length_append, h2, List.length_cons]
    simp only [List.length_cons, List.length_nil]
    omega
theorem w_ext {i k : Nat} {f : Ev} {r : Rs} {m : Ms} {S : Out → Prop} (hk : slO r[i]? = some k) (h0 : ∃ c, cellAt m k = some (.list c)) (h : W (f r m) fun p => ∃ cs ds, cellAt p.2 k = some (.list cs) ∧ p.1 = .list ds ∧ cs.length + ds.length ≤ sizeLine ∧ S (.nx r (p.2.set k (some (.list (cs ++ ds)))))) : W (TX.sExt i f r m) S := by
  obtain ⟨c, hc⟩ := h0
  unfold TX.sExt
  refine W.bind (W.of hk (W.bind (W.of hc ?_)))
  rw [if_pos (by rfl)]
  refine W.bind (W.mono h fun p hp => ?_)
  obtain ⟨cs, ds, h1, h2, h3, h4⟩ := hp
  refine W.bind (W.of h1 (W.map ?_))
  rw [h2]
  exact W.guard h3 (.mk h4)
theorem w_extO {i j k n : Nat} {r : Rs} {m : Ms} {S : Out → Prop} {cs ds : List PyData} (hk : slO r[i]? = some k) (hj : slO r[j]? = some n) (hne : k ≠ n) (h1 : cellAt m k = some (.list cs)) (h2 : cellAt m n = some (.list ds)) (h3 : cs.length + ds.length ≤ sizeLine) (h4 : S (.nx r (m.set k (some (.list (cs ++ ds)))))) : W (TX.sExtO i j r m) S := by
  unfold TX.sExtO
  refine W.bind (W.of hk (W.bind (W.of hj ?_)))
  rw [if_neg hne]
  exact W.bind (W.of h1 (W.bind (W.of h2 (W.map (W.guard h3 (.mk h4))))))
theorem w_forK {i : Nat} {h : Eh} {b : Es} {r : Rs} {m : Ms} {S : Out → Prop} {ps : List (PyData × PyData)} (I : Nat → Rs → Ms → Prop) (e : r[i]? = some (.fz (.dict ps))) (hS : isSetD (.dict ps) = false) (h0 : I 0 r m) (step : ∀ (j : Nat) (d : PyData) (r : Rs) (m : Ms), (ps.map (·.1))[j]? = some d → I j r m → W (h d r) fun r1 => W (b r1 m) fun o => ∃ r2 m2, o = .nx r2 m2 ∧ I (j + 1) r2 m2) (done : ∀ r m, I ps.length r m → S (.nx r m)) : W (TX.sForK i h b r m) S := by
  unfold TX.sForK
  refine W.bind ?_
  unfold TX.eKeys
  simp only [e]
  rw [if_neg (by rw [hS]; decide)]
  refine .mk ?_
  have key : ∀ (n j : Nat) (r : Rs) (m : Ms), j + n = ps.length → I j r m → W (loopS h b ((ps.map (·.1)).drop j) r m) fun o => ∃ r2 m2, o = .nx r2 m2 ∧ I ps.length r2 m2 := by
    intro n
    induction n with
    | zero =>
      intro j r m hj hI
      have : j = ps.length := by omega
      subst this
      rw [List.drop_of_length_le (by rw [List.length_map]; exact Nat.le_refl _)]
      exact .mk ⟨r, m, rfl, hI⟩
    | succ n ih =>
      intro j r m hj hI
      have hlt : j < (ps.map (·.1)).length := by rw [List.length_map]; omega
      rw [List.drop_eq_getElem_cons hlt]
      unfold loopS
      refine W.bind (W.mono (step j _ r m (List.getElem?_eq_getElem hlt) hI) fun r1 h1 => W.bind (W.mono h1 fun o h2 => ?_))
      obtain ⟨r2, m2, rfl, h3⟩ := h2
      exact ih (j + 1) r2 m2 (by omega) h3
  have k0 := key ps.length 0 r m (by omega) h0
  rw [List.drop_zero] at k0
  refine W.bind (W.mono k0 fun o h1 => ?_)
  obtain ⟨r2, m2, rfl, h2⟩ := h1
  exact .mk (done r2 m2 h2)
theorem plR_len {rl : List (List PyData)} (h : ∀ rs ∈ rl, rs.length ≤ 8 ∧ ∀ r ∈ rs, Rk 1000000000000000000000000000000 r) : ∀ a : Int, (plR a rl).length ≤ 8 * rl.length := by
  induction rl with
  | nil => exact fun _ => Nat.le_refl _
  | cons x rl ih =>
    intro a
    have h1 := (h x List.mem_cons_self).1
    have h2 := plN_len x a
    have h3 := ih (fun y hy => h y (List.mem_cons_of_mem _ hy)) (a + (rowsN x).length)
    show (plN a x ++ plR (a + (rowsN x).length) rl).length ≤ 8 * (rl.length + 1)
    rw [List.length_append]
    omega
theorem rn_1 {d : PyData} {w : Str} {ps : List PyData} (f : Fm d w ps) : atI ((rn d).map PyData.int) 1 = some (.int (arg1 d)) := by
  have h := f.rn
  obtain ⟨rfl, hw, l1, l2, hp, _, _⟩ := f
  rw [h]
  match ps, l1, l2 with
  | [x], _, _ => rfl
  | [x, y], _, _ => rfl
theorem image_w {l : Lb} {Q : PyData → Prop} (h : L2k l) (q : Q (.tuple [.tuple ((numI l).map .int), .list ((plaI l).map TX.kD3)])) : W (m_image [l.d]) Q := by
  have hgl := h.gs
  have hul := h.us
  unfold m_image b_image
  walk_at "tlex"
  refine stubs_w h ?_
  walk_at "tlex"
  refine w_lcI (fun ds i acc m => ds = rangeD 0 l.us.length ∧ i ≤ l.us.length ∧ acc = ((num0 l).take i).map .int ∧ m = []) ?_
  walk_at "tlex"
  refine ⟨_, rfl, by rw [List.length_map]; omega, ⟨by rw [List.length_map, Int.toNat_natCast], Nat.zero_le _, rfl, by trivial⟩, ?_, ?_⟩
  · rintro i d m acc hx ⟨hds, hi, rfl, rfl⟩
    obtain ⟨hlt, rfl⟩ := range_at hx
    rw [List.length_map, Int.toNat_natCast] at hlt
    simp only [wipeR]
    walk_at "tlex"
    refine ⟨fun _ => ?_, fun z => (by cases z)⟩
    walk_at "tlex"
    refine w_get2 ?_
    walk_at "tlex"
    rw [Int.zero_add]
    refine w_getV ?_
    refine ⟨lt_line (by rw [List.length_map, List.length_take]; omega), hds, hlt, ?_, by trivial⟩
    unfold num0
    rw [rng_take hlt, List.map_append]
    rfl
  · rintro acc m ⟨hds, hi, rfl, rfl⟩
    have e0 : (num0 l).length = l.us.length := by unfold num0; rw [List.length_map, List.length_range]
    rw [hds, range_len, ← e0, List.take_length]
    walk_at "tlex"
    refine w_lcI (fun ds i acc m => ds = enumD (l.us.map Us.d) ∧ i ≤ l.us.length ∧ acc = ((pla0 l).take i).map TX.kD3 ∧ m = [some (.list ((num0 l).map .int))]) ?_
    walk_at "tlex"
    refine ⟨⟨by trivial, Nat.zero_le _, rfl, by trivial⟩, ?_, ?_⟩
    · rintro i d m acc hx ⟨_, hi, rfl, rfl⟩
      obtain ⟨e0, hx2, rfl⟩ := enum_at hx
      obtain ⟨u, hu, rfl⟩ := us_at hx2
      have hlt := (List.getElem?_eq_some_iff.mp hu).1
      have hcu : ((l.us.map Us.c)[i]?).getD false = u.c := by rw [List.getElem?_map, hu]; rfl
      have fin : ((pla0 l).take i).map TX.kD3 ++ [TX.kD3 (if u.c = true then ((i : Int), ("cell" : Str), (i : Int)) else ((i : Int), ("own" : Str), slk l i))] = ((pla0 l).take (i + 1)).map TX.kD3 := by
        unfold pla0
        rw [rng_take hlt, List.map_append, hcu]
        rfl
      simp only [wipeR]
      walk_at "tlex"
      refine ⟨fun _ => ?_, fun z => (by cases z)⟩
      cases hc : u.c with
      | true =>
        rw [hc] at fin
        walk_at "tlex"
        refine ⟨fun _ => ?_, fun z => (by rw [hc] at z; cases z)⟩
        walk_at "tlex"
        refine ⟨fun _ => ?_, fun z => (by rw [hc] at z; cases z)⟩
        walk_at "tlex"
        refine ⟨lt_line (by rw [List.length_map, List.length_take]; omega), by trivial, hlt, ?_, by trivial⟩
        exact fin
      | false =>
        rw [hc] at fin
        walk_at "tlex"
        refine ⟨fun z => (by rw [hc] at z; cases z), fun _ => ?_⟩
        walk_at "tlex"
        refine ⟨fun z => (by rw [hc] at z; cases z), fun _ => ?_⟩
        walk_at "tlex"
        refine w_dixV (by have := stb_has l.us 0 (at0 l) i u hu hc; rwa [Nat.zero_add] at this) ?_
        walk_at "tlex"
        refine ⟨lt_line (by rw [List.length_map, List.length_take]; omega), by trivial, hlt, ?_, by trivial⟩
        exact fin
    · rintro acc m ⟨_, hi, rfl, rfl⟩
      have el : (enumD (l.us.map Us.d)).length = l.us.length := by unfold enumD; rw [List.length_map, List.length_zipIdx, List.length_map]
      have ep : (pla0 l).length = l.us.length := by unfold pla0; rw [List.length_map, List.length_range]
      rw [el, ← ep, List.take_length]
      walk_at "tlex"
      have hfil : ∀ j, (((l.gs.take j).filter fun g => isI g.x).map fun g => PyData.int (intOf g.x)).length ≤ 8 := fun j => by
        rw [List.length_map]
        exact Nat.le_trans (List.length_filter_le _ _) (by rw [List.length_take]; omega)
      refine w_ext rfl ⟨_, rfl⟩ ?_
      refine w_lcI (fun ds i acc m => ds = l.gs.map Gv.d ∧ i ≤ l.gs.length ∧ acc = ((l.gs.take i).filter fun g => isI g.x).map (fun g => PyData.int (intOf g.x)) ∧ m = [some (.list ((num0 l).map .int)), some (.list ((pla0 l).map TX.kD3))]) ?_
      walk_at "tlex"
      refine ⟨⟨by trivial, Nat.zero_le _, rfl, by trivial⟩, ?_, ?_⟩
      · rintro i d m acc hx ⟨_, hi, rfl, rfl⟩
        obtain ⟨g, hg, rfl⟩ := gs_at hx
        have hlt := (List.getElem?_eq_some_iff.mp hg).1
        have hm := List.mem_of_getElem? hg
        have st := fil_step (p := fun g : Gv => isI g.x) (f := fun g => PyData.int (intOf g.x)) hg
        have hf8 := hfil i
        simp only [wipeR]
        walk_at "tlex"
        refine iswhole_w (h.it hm) ?_
        walk_at "tlex"
        refine ⟨fun z => ?_, fun z => ⟨by trivial, hlt, ?_, by trivial⟩⟩
        · walk_at "tlex"
          refine ⟨lt_line (by omega), by trivial, hlt, ?_, by trivial⟩
          rw [st, if_pos z]
          rcases h.it hm with ⟨i, e⟩ | ⟨rs, e⟩
          · rw [e]; rfl
          · rw [e] at z; cases z
        · rw [st, if_neg (by rw [z]; decide), List.append_nil]
      · rintro acc m ⟨_, hi, rfl, rfl⟩
        have hf8 := hfil l.gs.length
        rw [List.length_map, List.take_length]
        rw [List.take_length] at hf8
        have ec : ((l.gs.filter fun g => isI g.x).map fun g => PyData.int (intOf g.x)) = (cells l).map .int := by
          unfold cells
          rw [List.map_map]
          rfl
        rw [ec] at hf8 ⊢
        rw [List.length_map] at hf8
        refine ⟨_, _, rfl, rfl, by rw [List.length_map, List.length_map, e0]; exact le_line (by omega), ?_⟩
        rw [← List.map_append]
        walk_at "tln"
        have hsl := stb_len l.us 0 (at0 l)
        refine w_seq ?_
        refine w_forK (fun j r m => m = [some (.list ((num0 l ++ cells l ++ (((stb l.us 0 (at0 l)).take j).map fun p => [10, p.1, 0]).flatten).map .int)), some (.list ((pla0 l).map TX.kD3))] ∧ ∃ e5 : Sl, r = [.fz l.d, .fz (.tuple (l.us.map Us.d)), .fz (.dict (dI (iV (stb l.us 0 (at0 l))))), .ow 0, .ow 1, e5, .un, .un, .un, .un]) rfl (noSI _) ?_ ?_ ?_
        · refine ⟨?_, _, rfl⟩
          simp
        · rintro j d r m hx ⟨rfl, e5, rfl⟩
          rw [List.getElem?_map, List.getElem?_map, List.getElem?_map] at hx
          obtain ⟨q, hq, hqd⟩ := Option.map_eq_some_iff.mp hx
          obtain ⟨q2, hq2, rfl⟩ := Option.map_eq_some_iff.mp hq
          obtain ⟨p, hp, rfl⟩ := Option.map_eq_some_iff.mp hq2
          have hqd : PyData.int p.1 = d := hqd
          subst hqd
          walk_at "tlex"
          refine w_ext rfl ⟨_, rfl⟩ ?_
          walk_at "tlex"
          have hfj := fl3 (fun p : Int × Int => [10, p.1, 0]) (fun _ => rfl) ((stb l.us 0 (at0 l)).take j)
          have hjl : ((stb l.us 0 (at0 l)).take j).length ≤ 8 := by rw [List.length_take]; omega
          refine ⟨le_line (by rw [List.length_map, List.length_append, List.length_append, hfj, e0]; omega), _, _, rfl, ?_, _, rfl⟩
          rw [List.take_add_one, hp]
          show _ = [some (PyData.list (List.map PyData.int (num0 l ++ cells l ++ (List.map (fun p => [10, p.1, 0]) (_ ++ [p])).flatten))), _]
          simp only [List.map_append, List.map_cons, List.map_nil, List.flatten_append, List.flatten_cons, List.flatten_nil, List.append_nil, List.append_assoc, List.cons_append, List.nil_append]
        · rintro r m ⟨rfl, e5, rfl⟩
          have hdl : (dI (iV (stb l.us 0 (at0 l)))).length = (stb l.us 0 (at0 l)).length := by rw [List.length_map, List.length_map]
          rw [hdl, List.take_length]
          have hfj := fl3 (fun p : Int × Int => [10, p.1, 0]) (fun _ => rfl) (stb l.us 0 (at0 l))
          have hN : (num0 l ++ cells l ++ num2 l).length ≤ 40 := by
            unfold num2
            rw [List.length_append, List.length_append, hfj, e0]
            omega
          show Then _ _ (Out.nx _ [some (.list ((num0 l ++ cells l ++ num2 l).map .int)), _])
          have hrl := rowL_ok h
          unfold plaI numI at q
          generalize num0 l ++ cells l ++ num2 l = N at hN q ⊢
          walk_at "tln"
          refine w_seq ?_
          refine w_for (fun ds i r m => ds = (rowL l).map .tuple ∧ i ≤ (rowL l).length ∧ ∃ (ms : Ms) (e5 e6 e7 e8 : Sl), m = some (.list ((N ++ num3 ((rowL l).take i)).map .int)) :: some (.list ((pla0 l ++ plR (N.length : Nat) ((rowL l).take i)).map TX.kD3)) :: ms ∧ r = [.fz l.d, .fz (.tuple (l.us.map Us.d)), .fz (.dict (dI (iV (stb l.us 0 (at0 l))))), .ow 0, .ow 1, e5, e6, e7, e8, .un]) ?_
          walk_at "tlex"
          refine allrows_w h ?_
          walk_at "tlex"
          refine ⟨⟨by trivial, Nat.zero_le _, [], _, _, _, _, ?_, rfl⟩, ?_, ?_⟩
          · rw [List.take_zero]
            show _ = [some (PyData.list ((N ++ []).map .int)), some (.list ((pla0 l ++ []).map TX.kD3))]
            rw [List.append_nil, List.append_nil]
          · rintro i d r m hx ⟨_, hi, ms, f5, f6, f7, f8, rfl, rfl⟩
            rw [List.getElem?_map] at hx
            obtain ⟨rs, hrs, hrd⟩ := Option.map_eq_some_iff.mp hx
            have hrd : PyData.tuple rs = d := hrd
            subst hrd
            have hlt := (List.getElem?_eq_some_iff.mp hrs).1
            have hrsk := hrl.2 rs (List.mem_of_getElem? hrs)
            have hsn : (rowL l).take (i + 1) = (rowL l).take i ++ [rs] := by rw [List.take_add_one, hrs]; rfl
            have hps := plR_snoc ((rowL l).take i) (N.length : Nat) rs
            have hn3 := num3_len (rl := (rowL l).take i) fun x hx => hrl.2 x (List.mem_of_mem_take hx)
            have hti : ((rowL l).take i).length = i := by rw [List.length_take]; omega
            rw [hti] at hn3
            have e3 : num3 ((rowL l).take (i + 1)) = num3 ((rowL l).take i) ++ rowsN rs := by
              rw [hsn]
              unfold num3
              rw [List.map_append, List.flatten_append]
              simp
            rw [hsn, hps, ← hsn, e3, ← List.append_assoc, ← List.append_assoc]
            have hP : (pla0 l ++ plR (N.length : Nat) ((rowL l).take i)).length ≤ 200 := by
              have := plR_len (rl := (rowL l).take i) (fun x hx => hrl.2 x (List.mem_of_mem_take hx)) (N.length : Nat)
              rw [hti] at this
              rw [List.length_append, ep]
              omega
            have hM : (N ++ num3 ((rowL l).take i)).length = N.length + (num3 ((rowL l).take i)).length := List.length_append
            have hM4 : (N ++ num3 ((rowL l).take i)).length ≤ 400 := by rw [hM]; omega
            have hoff : ((N.length : Nat) : Int) + ((num3 ((rowL l).take i)).length : Nat) = ((N ++ num3 ((rowL l).take i)).length : Nat) := by rw [hM]; push_cast; rfl
            rw [hoff]
            generalize N ++ num3 ((rowL l).take i) = M at hM4
            generalize pla0 l ++ plR (N.length : Nat) ((rowL l).take i) = P at hP
            walk_at "tlex"
            refine w_for (fun ds j r m => ds = rs ∧ j ≤ rs.length ∧ ∃ (ms : Ms) (e7 e8 : Sl), m = some (.list ((M ++ ((rs.take j).map rn).flatten).map .int)) :: some (.list ((P ++ plN (M.length : Nat) (rs.take j)).map TX.kD3)) :: ms ∧ r = [.fz l.d, .fz (.tuple (l.us.map Us.d)), .fz (.dict (dI (iV (stb l.us 0 (at0 l))))), .ow 0, .ow 1, f5, .fz (.tuple rs), e7, e8, .un]) ?_
            walk_at "tlex"
            refine ⟨⟨by trivial, Nat.zero_le _, ms, _, _, ?_, rfl⟩, ?_, ?_⟩
            · rw [List.take_zero]
              show _ = some (PyData.list ((M ++ []).map .int)) :: some (.list ((P ++ []).map TX.kD3)) :: ms
              rw [List.append_nil, List.append_nil]
            · rintro j d r m hx2 ⟨_, hj, ms2, g7, g8, rfl, rfl⟩
              have hjl := (List.getElem?_eq_some_iff.mp hx2).1
              have hd := hrsk.2 d (List.mem_of_getElem? hx2)
              have hfl := flat_len (rs := rs.take j) fun x hx => hrsk.2 x (List.mem_of_mem_take hx)
              have htj : (rs.take j).length = j := by rw [List.length_take]; omega
              rw [htj] at hfl
              have hrlen := rn_len hd
              have hsj : rs.take (j + 1) = rs.take j ++ [d] := by rw [List.take_add_one, hx2]; rfl
              have hpj := plN_snoc (rs.take j) (M.length : Nat) d
              rw [htj] at hpj
              walk_at "tlex"
              refine laidrow_w hd ?_
              walk_at "tlex"
              have hPl := plN_len (rs.take j) (M.length : Nat)
              rw [htj] at hPl
              obtain ⟨w, ps, f⟩ := hd.form
              have h1 := rn_1 f
              have hrp : rp d = decide (w ∈ [("show" : Str), "skip", "call", "put", "add"]) := by rw [f.e]; rfl
              have hd0 : ixD d (.int 0) = some (.str w) := by
                rw [f.e]
                show atI (PyData.str w :: ps) 0 = _
                exact atI_0 _ _
              obtain ⟨k, ks, t1, t2⟩ := tab_w f.hw
              rw [← hrp] at t2
              refine W.mono (P := fun o => o = Out.nx [.fz l.d, .fz (.tuple (l.us.map Us.d)), .fz (.dict (dI (iV (stb l.us 0 (at0 l))))), .ow 0, .ow 1, f5, .fz (.tuple rs), .fz d, .ow (ms2.length + 2), .un] (some (.list ((M ++ ((rs.take j).map rn).flatten).map .int)) :: some (.list ((P ++ plN (M.length : Nat) (rs.take (j + 1))).map TX.kD3)) :: (ms2 ++ [some (iL (rn d))]))) ?_ ?_
              · refine w_if ?_
                walk_at "tlex"
                refine w_un ?_
                walk_at "tlex"
                refine W.of hd0 ?_
                refine W.of t1 ?_
                walk_at "tlex"
                refine W.of t2 ?_
                walk_at "tlex"
                refine ⟨fun z => ?_, fun z => ?_⟩
                · have e1 : pl1 ((M.length : Nat) + 3 * (j : Int)) d = [((M.length : Nat) + 3 * (j : Int) + 1, ("own" : Str), arg1 d)] := by
                    unfold pl1
                    rw [if_pos z]
                  refine w_app rfl rfl ?_
                  walk_at "tlex"
                  refine w_lenO rfl rfl ?_
                  walk_at "tlex"
                  refine ⟨_, _, cellAt_new (m := some _ :: some _ :: ms2), rfl, ?_⟩
                  refine W.of h1 ?_
                  walk_at "tlex"
                  refine ⟨_, rfl, lt_line (by rw [List.length_map, List.length_append]; omega), ?_⟩
                  have ec : (((M ++ ((rs.take j).map rn).flatten).map PyData.int).length : Int) + 1 = (M.length : Nat) + 3 * (j : Int) + 1 := by
                    rw [List.length_map, List.length_append, hfl]
                    push_cast
                    rfl
                  rw [ec, hsj, hpj, e1, ← List.append_assoc, List.map_append (l₂ := [_])]
                  rfl
                · have e1 : pl1 ((M.length : Nat) + 3 * (j : Int)) d = [] := by
                    unfold pl1
                    rw [z]
                    rfl
                  rw [hsj, hpj, e1, List.append_nil]
                  walk_at "tlex"
              · rintro o rfl
                walk_at "tln"
                refine w_extO (k := 0) (n := ms2.length + 2) (ds := (rn d).map PyData.int) rfl rfl (by omega) rfl ?_ ?_ ?_
                · show cellAt (_ :: _ :: (ms2 ++ [some (iL (rn d))])) (ms2.length + 2) = _
                  exact cellAt_new (m := _ :: _ :: ms2)
                · rw [List.length_map, List.length_map, List.length_append, hfl, hrlen]
                  exact le_line (by omega)
                · refine ⟨by trivial, hjl, ms2 ++ [some (iL (rn d))], _, _, ?_, rfl⟩
                  have eL : (M ++ ((rs.take j).map rn).flatten).map PyData.int ++ (rn d).map PyData.int = (M ++ ((rs.take (j + 1)).map rn).flatten).map PyData.int := by
                    rw [hsj]
                    simp only [List.map_append, List.map_cons, List.map_nil, List.flatten_append, List.flatten_cons, List.flatten_nil, List.append_nil, List.append_assoc]
                  show some (PyData.list (_ ++ _)) :: _ = _
                  rw [eL]
            · rintro r m ⟨_, hj, ms2, g7, g8, rfl, rfl⟩
              rw [List.take_length]
              have hfr := flat_len (rs := rs) hrsk.2
              refine w_ext rfl ⟨_, rfl⟩ ?_
              walk_at "tlex"
              refine ⟨?_, by trivial, hlt, ms2, f5, _, g7, g8, ?_, rfl⟩
              · rw [List.length_map, List.length_append, hfr]
                have := hrsk.1
                exact le_line (by omega)
              · unfold rowsN
                rw [← List.append_assoc, List.map_append (l₂ := [0, 0, 0])]
                rfl
          · rintro r m ⟨_, hi, ms, f5, f6, f7, f8, rfl, rfl⟩
            rw [List.length_map, List.take_length]
            refine w_frz rfl rfl ?_
            simp (config := { decide := true }) only [frzR, List.map, if_true, if_false]
            walk_at "tlex"
            refine w_seqO rfl rfl ?_
            walk_at "tlex"
            exact q
end K74
end
/-! P74n1 -/
section
namespace K74
open PySem L2 TL
/-! ## the rows' own places rise -/
theorem plN_in : ∀ (rs : List PyData) (a : Int) (p : K3), p ∈ plN a rs → a < p.1 ∧ p.1 < a + 3 * (rs.length : Int)
  | [], _, _, h => by cases h
  | r :: rs, a, p, h => by
    rw [show plN a (r :: rs) = pl1 a r ++ plN (a + 3) rs from rfl] at h
    rw [List.length_cons]
    push_cast
    rcases List.mem_append.mp h with h | h
    · unfold pl1 at h
      split at h
      · rw [List.mem_singleton.mp h]
        show a < a + 1 ∧ a + 1 < _
        omega
      · cases h
    · have := plN_in rs (a + 3) p h
      omega
theorem plN_up : ∀ (rs : List PyData) (a : Int), (plN a rs).Pairwise fun x y => x.1 < y.1
  | [], _ => .nil
  | r :: rs, a => by
    rw [show plN a (r :: rs) = pl1 a r ++ plN (a + 3) rs from rfl]
    refine List.pairwise_append.mpr ⟨?_, plN_up rs (a + 3), fun x hx y hy => ?_⟩
    · unfold pl1
      split
      · exact List.pairwise_singleton _ _
      · exact .nil
    · have h := plN_in rs (a + 3) y hy
      unfold pl1 at hx
      split at hx
      · rw [List.mem_singleton.mp hx]
        show a + 1 < _
        omega
      · cases hx
theorem plR_in : ∀ (rl : List (List PyData)), (∀ rs ∈ rl, rs.length ≤ 8 ∧ ∀ r ∈ rs, Rk 1000000000000000000000000000000 r) → ∀ (a : Int) (p : K3), p ∈ plR a rl → a < p.1 ∧ p.1 < a + ((num3 rl).length : Int)
  | [], _, _, _, h => by cases h
  | rs :: rl, hk, a, p, h => by
    rw [show plR a (rs :: rl) = plN a rs ++ plR (a + (rowsN rs).length) rl from rfl] at h
    have e : (rowsN rs).length = 3 * rs.length + 3 := by
      unfold rowsN
      rw [List.length_append, flat_len (hk rs (List.mem_cons_self ..)).2]
      rfl
    have e2 : (num3 (rs :: rl)).length = (rowsN rs).length + (num3 rl).length := by
      unfold num3
      rw [List.map_cons, List.flatten_cons, List.length_append]
    rw [e2]
    push_cast
    rcases List.mem_append.mp h with h | h
    · have := plN_in rs a p h
      omega
    · have := plR_in rl (fun x hx => hk x (List.mem_cons_of_mem _ hx)) _ p h
      omega
theorem plR_up : ∀ (rl : List (List PyData)), (∀ rs ∈ rl, rs.length ≤ 8 ∧ ∀ r ∈ rs, Rk 1000000000000000000000000000000 r) → ∀ a : Int, (plR a rl).Pairwise fun x y => x.1 < y.1
  | [], _, _ => .nil
  | rs :: rl, hk, a => by
    rw [show plR a (rs :: rl) = plN a rs ++ plR (a + (rowsN rs).length) rl from rfl]
    have hk' : ∀ x ∈ rl, x.length ≤ 8 ∧ ∀ r ∈ x, Rk 1000000000000000000000000000000 r := fun x hx => hk x (List.mem_cons_of_mem _ hx)
    have e : (rowsN rs).length = 3 * rs.length + 3 := by
      unfold rowsN
      rw [List.length_append, flat_len (hk rs (List.mem_cons_self ..)).2]
      rfl
    refine List.pairwise_append.mpr ⟨plN_up rs a, plR_up rl hk' _, fun x hx y hy => ?_⟩
    have := plN_in rs a x hx
    have := plR_in rl hk' _ y hy
    omega
def plC (us : List Us) : List K3 := ((List.range us.length).filter fun k => ((us.map Us.c)[k]?).getD false).map fun k : Nat => ((k : Int), ("cell" : Str), (k : Int))
/-- The numbers and the places as the law's own loops leave them, before the last loop writes the places' numbers in. -/
def lawF (l : Lb) : List Int := List.replicate l.us.length (0 : Int) ++ cells l ++ num2 l
def lawP (l : Lb) : List K3 := plC l.us ++ ((stb l.us 0 (at0 l)).map fun p => (p.1, ("own" : Str), p.2)) ++ plR ((lawF l).length : Nat) (rowL l)
theorem plC_in {us : List Us} {p : K3} (h : p ∈ plC us) : 0 ≤ p.1 ∧ p.1 < (us.length : Int) := by
  unfold plC at h
  obtain ⟨k, hk, rfl⟩ := List.mem_map.mp h
  have := List.mem_range.mp (List.mem_filter.mp hk).1
  show (0 : Int) ≤ (k : Int) ∧ (k : Int) < _
  omega
theorem lawF_len (l : Lb) : l.us.length ≤ (lawF l).length := by
  unfold lawF
  rw [List.length_append, List.length_append, List.length_replicate]
  omega
/-- a place before the rows -/
theorem law_lo {l : Lb} {p : K3} (h : p ∈ plC l.us ++ ((stb l.us 0 (at0 l)).map fun p => (p.1, ("own" : Str), p.2))) : 0 ≤ p.1 ∧ p.1 < (l.us.length : Int) := by
  rcases List.mem_append.mp h with h | h
  · exact plC_in h
  · obtain ⟨x, hx, rfl⟩ := List.mem_map.mp h
    have := stb_lo l.us 0 (at0 l) x hx
    show (0 : Int) ≤ x.1 ∧ x.1 < _
    omega
theorem law_in {l : Lb} (h : L2k l) : ∀ p ∈ lawP l, 0 ≤ p.1 ∧ p.1 < ((lawF l ++ num3 (rowL l)).length : Nat) := by
  intro p hp
  have hl := lawF_len l
  rw [List.length_append]
  push_cast
  unfold lawP at hp
  rcases List.mem_append.mp hp with hp | hp
  · have := law_lo hp
    omega
  · have := plR_in (rowL l) (rowL_ok h).2 _ p hp
    omega
theorem pla0_1 (l : Lb) : (pla0 l).map (·.1) = (List.range l.us.length).map fun k : Nat => (k : Int) := by
  unfold pla0
  rw [List.map_map]
  refine List.map_congr_left fun k _ => ?_
  show (ite _ _ _ : K3).1 = _
  split <;> rfl
theorem pla0_in {l : Lb} {p : K3} (h : p ∈ pla0 l) : 0 ≤ p.1 ∧ p.1 < (l.us.length : Int) := by
  have g := List.mem_map_of_mem (f := fun x : K3 => x.1) h
  rw [pla0_1] at g
  obtain ⟨k, hk, e⟩ := List.mem_map.mp g
  have := List.mem_range.mp hk
  have e' : (k : Int) = p.1 := e
  omega
theorem pla0_up (l : Lb) : (pla0 l).Pairwise fun x y => x.1 < y.1 := by
  have g : ((pla0 l).map (·.1)).Pairwise fun x y : Int => x < y := by
    rw [pla0_1]
    exact List.pairwise_map.mpr (List.pairwise_lt_range.imp fun h => by omega)
  exact List.pairwise_map.mp g
/-- the program's places rise -/
theorem plaI_up {l : Lb} (h : L2k l) : (plaI l).Pairwise fun x y => x.1 < y.1 := by
  unfold plaI
  refine List.pairwise_append.mpr ⟨pla0_up l, plR_up (rowL l) (rowL_ok h).2 _, fun x hx y hy => ?_⟩
  have g1 := pla0_in hx
  have g2 := plR_in (rowL l) (rowL_ok h).2 _ y hy
  have e : (num0 l).length = l.us.length := by unfold num0; rw [List.length_map, List.length_range]
  rw [List.length_append, List.length_append, e] at g2
  push_cast at g2
  omega
theorem law_at (l : Lb) : (num0 l ++ cells l ++ num2 l).length = (lawF l).length := by
  unfold lawF num0
  simp only [List.length_append, List.length_map, List.length_range, List.length_replicate]
theorem low_perm {l : Lb} : (plaI l).Perm (lawP l) ↔ (pla0 l).Perm (plC l.us ++ ((stb l.us 0 (at0 l)).map fun p => (p.1, ("own" : Str), p.2))) := by
  unfold plaI lawP
  rw [law_at]
  exact List.perm_append_right_iff _
/-- the stubs of the uses from k on, by their place in the list -/
theorem stb_fil : ∀ (us : List Us) (k : Nat) (a : Int), (stb us k a).map (·.1) = ((List.range us.length).filter fun i => !((us.map Us.c)[i]?).getD false).map fun i : Nat => ((k + i : Nat) : Int)
  | [], _, _ => rfl
  | u :: us, k, a => by
    rw [List.length_cons, List.range_succ_eq_map, List.filter_cons, List.filter_map]
    have e : ((fun i => !(((u :: us).map Us.c)[i]?).getD false) ∘ Nat.succ) = fun i => !((us.map Us.c)[i]?).getD false := rfl
    rw [e]
    have ih : ∀ b, (stb us (k + 1) b).map (·.1) = (((List.range us.length).filter fun i => !((us.map Us.c)[i]?).getD false).map Nat.succ).map fun i : Nat => ((k + i : Nat) : Int) := fun b => by
      rw [stb_fil us (k + 1) b, List.map_map]
      refine List.map_congr_left fun i _ => ?_
      show ((k + 1 + i : Nat) : Int) = ((k + (i + 1) : Nat) : Int)
      congr 1
      omega
    cases hu : u.c with
    | true => simpa [stb, hu] using ih a
    | false => simpa [stb, hu] using ih (a + 3)
theorem find_nd : ∀ {qs : List (Int × Int)}, (qs.map (·.1)).Nodup → ∀ {p : Int × Int}, p ∈ qs → qs.find? (fun q => decide (q.1 = p.1)) = some p
  | [], _, _, h => by cases h
  | q :: qs, hn, p, h => by
    rw [List.map_cons] at hn
    obtain ⟨n1, n2⟩ := List.nodup_cons.mp hn
    rcases List.mem_cons.mp h with rfl | h
    · rw [List.find?_cons, decide_eq_true rfl]
    · have ne : ¬ q.1 = p.1 := fun e => n1 (e ▸ List.mem_map_of_mem (f := fun x : Int × Int => x.1) h)
      rw [List.find?_cons, decide_eq_false ne]
      exact find_nd n2 h
theorem slk_in {l : Lb} {p : Int × Int} (h : p ∈ stb l.us 0 (at0 l)) : slk l p.1 = p.2 := by
  unfold slk
  rw [find_nd (stb_nd _ _ _) h]
  rfl
theorem pla0_perm (l : Lb) : (pla0 l).Perm (plC l.us ++ ((stb l.us 0 (at0 l)).map fun p => (p.1, ("own" : Str), p.2))) := by
  have e2 : ((stb l.us 0 (at0 l)).map fun p => ((p.1, ("own" : Str), p.2) : K3)) = (((List.range l.us.length).filter fun i => !((l.us.map Us.c)[i]?).getD false).map fun i : Nat => (((i : Int), ("own" : Str), slk l i) : K3)) := by
    have e3 : ((stb l.us 0 (at0 l)).map fun p => ((p.1, ("own" : Str), p.2) : K3)) = ((stb l.us 0 (at0 l)).map (·.1)).map fun k => ((k, ("own" : Str), slk l k) : K3) := by
      rw [List.map_map]
      refine List.map_congr_left fun p hp => ?_
      show _ = (p.1, _, slk l p.1)
      rw [slk_in hp]
    rw [e3, stb_fil, List.map_map]
    refine List.map_congr_left fun i _ => ?_
    show ((((0 + i : Nat) : Int)), _, slk l ((0 + i : Nat) : Int)) = _
    rw [Nat.zero_add]
  rw [e2]
  unfold pla0 plC
  refine ((List.filter_append_perm (fun k => ((l.us.map Us.c)[k]?).getD false) (List.range l.us.length)).symm.map _).trans (List.Perm.of_eq ?_)
  rw [List.map_append]
  congr 1
  · refine List.map_congr_left fun k hk => ?_
    exact if_pos (List.mem_filter.mp hk).2
  · refine List.map_congr_left fun k hk => ?_
    exact if_neg (by have := (List.mem_filter.mp hk).2; simpa using this)
theorem law_perm (l : Lb) : (plaI l).Perm (lawP l) := low_perm.mpr (pla0_perm l)
end K74
end
/-! P74n2 -/
section
namespace K74
open PySem L2 TL
/-! ## the places' numbers written in -/
def putA (xs : List Int) (ks : List K3) : List Int := ks.foldl (fun xs p => if p.2.1 = ("own" : Str) then xs.set p.1.toNat p.2.2 else xs) xs
theorem putA_len (ks : List K3) : ∀ xs : List Int, (putA xs ks).length = xs.length := by
  induction ks with
  | nil => intro xs; rfl
  | cons k ks ih =>
    intro xs
    unfold putA at ih ⊢
    rw [List.foldl_cons, ih]
    split
    · rw [List.length_set]
    · rfl
theorem putA_app (xs : List Int) (ks js : List K3) : putA xs (ks ++ js) = putA (putA xs ks) js := by
  unfold putA
  rw [List.foldl_append]
theorem putA_same : ∀ (ks : List K3) (xs : List Int), (∀ p ∈ ks, p.2.1 = ("own" : Str) → xs[p.1.toNat]? = some p.2.2) → putA xs ks = xs
  | [], _, _ => rfl
  | k :: ks, xs, h => by
    have e : (if k.2.1 = ("own" : Str) then xs.set k.1.toNat k.2.2 else xs) = xs := by
      split
      · rename_i z
        obtain ⟨hl, e⟩ := List.getElem?_eq_some_iff.mp (h k (List.mem_cons_self ..) z)
        rw [← e]
        exact List.set_getElem_self hl
      · rfl
    show putA (if k.2.1 = ("own" : Str) then xs.set k.1.toNat k.2.2 else xs) ks = xs
    rw [e]
    exact putA_same ks xs fun p hp => h p (List.mem_cons_of_mem _ hp)
theorem putA_stb : ∀ (qs : List (Int × Int)) (xs : List Int), (qs.map (·.1)).Nodup → (∀ p ∈ qs, 0 ≤ p.1 ∧ p.1 < (xs.length : Int)) → ∀ i : Nat, (putA xs (qs.map fun p => (p.1, ("own" : Str), p.2)))[i]? = (xs[i]?).map fun x => ((qs.find? fun p => decide (p.1 = (i : Int))).map (·.2)).getD x
  | [], xs, _, _, i => by
    show xs[i]? = _
    cases xs[i]? <;> rfl
  | q :: qs, xs, hn, hb, i => by
    rw [List.map_cons] at hn
    obtain ⟨n1, n2⟩ := List.nodup_cons.mp hn
    obtain ⟨b0, b1⟩ := hb q (List.mem_cons_self ..)
    have ih := putA_stb qs (xs.set q.1.toNat q.2) n2 (fun p hp => by rw [List.length_set]; exact hb p (List.mem_cons_of_mem _ hp)) i
    have e : putA xs ((q :: qs).map fun p => (p.1, ("own" : Str), p.2)) = putA (xs.set q.1.toNat q.2) (qs.map fun p => (p.1, ("own" : Str), p.2)) := rfl
    rw [e, ih, List.getElem?_set, List.find?_cons]
    by_cases h : q.1 = (i : Int)
    · have h2 : q.1.toNat = i := by omega
      have h3 : q.1.toNat < xs.length := by omega
      have h4 : qs.find? (fun p => decide (p.1 = (i : Int))) = none := List.find?_eq_none.mpr fun p hp z => n1 (by
        rw [h, ← of_decide_eq_true z]
        exact List.mem_map_of_mem (f := fun x : Int × Int => x.1) hp)
      rw [if_pos h2, if_pos (h2 ▸ h3), decide_eq_true h, h4, List.getElem?_eq_getElem (h2 ▸ h3)]
      rfl
    · have h2 : ¬ q.1.toNat = i := by omega
      rw [if_neg h2, decide_eq_false h]
theorem rn_at {d : PyData} {w : Str} {ps : List PyData} (f : Fm d w ps) : (rn d)[1]? = some (arg1 d) := by
  have h := f.rn
  obtain ⟨rfl, hw, l1, l2, hp, _, _⟩ := f
  rw [h]
  match ps, l1, l2 with
  | [x], _, _ => rfl
  | [x, y], _, _ => rfl
theorem plN_at : ∀ (rs : List PyData), (∀ r ∈ rs, Rk 1000000000000000000000000000000 r) → ∀ (A R : List Int) (p : K3), p ∈ plN (A.length : Nat) rs → (A ++ ((rs.map rn).flatten ++ R))[p.1.toNat]? = some p.2.2
  | [], _, _, _, _, h => by cases h
  | r :: rs, hk, A, R, p, h => by
    rw [show plN (A.length : Nat) (r :: rs) = pl1 (A.length : Nat) r ++ plN ((A.length : Nat) + 3) rs from rfl] at h
    rw [List.map_cons, List.flatten_cons]
    have h3 := rn_len (hk r (List.mem_cons_self ..))
    rcases List.mem_append.mp h with h | h
    · unfold pl1 at h
      split at h
      · rw [List.mem_singleton.mp h]
        obtain ⟨w, ps, f⟩ := (hk r (List.mem_cons_self ..)).form
        show (A ++ _)[((A.length : Nat) + 1 : Int).toNat]? = some (arg1 r)
        rw [show ((A.length : Nat) + 1 : Int).toNat = A.length + 1 by omega, List.getElem?_append_right (by omega), Nat.add_sub_cancel_left, List.append_assoc, List.getElem?_append_left (by omega)]
        exact rn_at f
      · cases h
    · have ih := plN_at rs (fun x hx => hk x (List.mem_cons_of_mem _ hx)) (A ++ rn r) R p (by
        rw [List.length_append, h3]
        push_cast
        exact h)
      rw [List.append_assoc] at ih
      rw [List.append_assoc]
      exact ih
theorem plR_at : ∀ (rl : List (List PyData)), (∀ rs ∈ rl, rs.length ≤ 8 ∧ ∀ r ∈ rs, Rk 1000000000000000000000000000000 r) → ∀ (A : List Int) (p : K3), p ∈ plR (A.length : Nat) rl → (A ++ num3 rl)[p.1.toNat]? = some p.2.2
  | [], _, _, _, h => by cases h
  | rs :: rl, hk, A, p, h => by
    rw [show plR (A.length : Nat) (rs :: rl) = plN (A.length : Nat) rs ++ plR ((A.length : Nat) + (rowsN rs).length) rl from rfl] at h
    have e : num3 (rs :: rl) = rowsN rs ++ num3 rl := rfl
    rw [e]
    rcases List.mem_append.mp h with h | h
    · have := plN_at rs (hk rs (List.mem_cons_self ..)).2 A ([0, 0, 0] ++ num3 rl) p h
      rw [show rowsN rs ++ num3 rl = (rs.map rn).flatten ++ ([0, 0, 0] ++ num3 rl) by unfold rowsN; rw [List.append_assoc]]
      exact this
    · have ih := plR_at rl (fun x hx => hk x (List.mem_cons_of_mem _ hx)) (A ++ rowsN rs) p (by
        rw [List.length_append]
        push_cast
        exact h)
      rw [List.append_assoc] at ih
      exact ih
theorem putA_own (l : Lb) (T : List Int) : putA (List.replicate l.us.length (0 : Int) ++ T) ((stb l.us 0 (at0 l)).map fun p => (p.1, ("own" : Str), p.2)) = num0 l ++ T := by
  have hN : (num0 l).length = l.us.length := by unfold num0; rw [List.length_map, List.length_range]
  refine List.ext_getElem? fun i => ?_
  rw [putA_stb _ _ (stb_nd _ _ _) (fun p hp => by
    have := stb_lo l.us 0 (at0 l) p hp
    rw [List.length_append, List.length_replicate]
    push_cast
    omega)]
  by_cases h : i < l.us.length
  · rw [List.getElem?_append_left (by rw [List.length_replicate]; exact h), List.getElem?_append_left (by omega), List.getElem?_replicate, if_pos h]
    unfold num0
    rw [List.getElem?_map, List.getElem?_range h]
    rfl
  · rw [List.getElem?_append_right (by rw [List.length_replicate]; omega), List.getElem?_append_right (by omega), List.length_replicate, hN]
    have e : (stb l.us 0 (at0 l)).find? (fun p => decide (p.1 = (i : Int))) = none := List.find?_eq_none.mpr fun p hp z => by
      have := stb_lo l.us 0 (at0 l) p hp
      have := of_decide_eq_true z
      omega
    rw [e]
    cases T[i - l.us.length]? <;> rfl
theorem law_fin {l : Lb} (h : L2k l) : putA (lawF l ++ num3 (rowL l)) (lawP l) = numI l := by
  unfold lawP
  rw [putA_app, putA_app]
  have e1 : putA (lawF l ++ num3 (rowL l)) (plC l.us) = lawF l ++ num3 (rowL l) := putA_same _ _ fun p hp z => by
    unfold plC at hp
    obtain ⟨k, hk, rfl⟩ := List.mem_map.mp hp
    exact absurd (show ("cell" : Str) = "own" from z) (by decide +kernel)
  have e2 : putA (lawF l ++ num3 (rowL l)) ((stb l.us 0 (at0 l)).map fun p => (p.1, ("own" : Str), p.2)) = num0 l ++ cells l ++ num2 l ++ num3 (rowL l) := by
    unfold lawF
    rw [List.append_assoc, List.append_assoc, putA_own, List.append_assoc, List.append_assoc]
  rw [e1, e2, ← law_at l]
  exact putA_same _ _ fun p hp _ => plR_at (rowL l) (rowL_ok h).2 _ p hp
end K74
end
/-! P74m1 -/
section
set_option maxHeartbeats 4000000
namespace K74
open PySem L2 TL
/-! ## numbers of what is so, and where cells lie -/
def bT (bs : List Bool) (i : Nat) : List Int := (((List.range bs.length).take i).filter fun k => (bs[k]?).getD false).map fun k : Nat => (k : Int)
theorem bT_len (bs : List Bool) (i : Nat) : (bT bs i).length ≤ i := by
  unfold bT
  rw [List.length_map]
  refine Nat.le_trans (List.length_filter_le _ _) ?_
  rw [List.length_take]
  omega
theorem bT_succ {bs : List Bool} {i : Nat} {b : Bool} (hb : bs[i]? = some b) : bT bs (i + 1) = bT bs i ++ if b = true then [(i : Int)] else [] := by
  have hlt := (List.getElem?_eq_some_iff.mp hb).1
  unfold bT
  rw [List.take_add_one, List.getElem?_range hlt, List.filter_append, List.map_append]
  congr 1
  show (List.filter _ [i]).map _ = _
  rw [List.filter_cons, hb]
  cases b <;> rfl
theorem bT_in {bs : List Bool} {i : Nat} {z : Int} (h : z ∈ bT bs i) : ∃ k : Nat, z = k ∧ k < i ∧ bs[k]? = some true := by
  unfold bT at h
  obtain ⟨k, hk, e⟩ := List.mem_map.mp h
  obtain ⟨hk, hb⟩ := List.mem_filter.mp hk
  obtain ⟨j, hj⟩ := List.mem_iff_getElem?.mp hk
  rw [List.getElem?_take] at hj
  split at hj
  · rename_i hji
    obtain ⟨_, e2⟩ := List.getElem?_eq_some_iff.mp hj
    rw [List.getElem_range] at e2
    refine ⟨k, e.symm, by omega, ?_⟩
    cases hk2 : bs[k]? with
    | none => rw [hk2] at hb; cases hb
    | some b => rw [hk2] at hb; exact congrArg some hb
  · cases hj
theorem bT_nd (bs : List Bool) (i : Nat) : (bT bs i).Nodup := by
  unfold bT
  refine (List.Pairwise.filter _ ((List.nodup_range).sublist (List.take_sublist _ _))).map _ fun a b h e => h (by omega)
theorem bT_cnt {bs : List Bool} : ∀ {i : Nat}, i ≤ bs.length → (bT bs i).length = ((bs.take i).filter id).length
  | 0, _ => rfl
  | i + 1, h => by
    have hlt : i < bs.length := h
    have e : bs[i]? = some bs[i] := List.getElem?_eq_getElem hlt
    rw [bT_succ e, List.length_append, bT_cnt (Nat.le_of_lt hlt), List.take_add_one, e, List.filter_append, List.length_append]
    congr 1
    show _ = (List.filter id [bs[i]]).length
    cases bs[i] <;> rfl
/-- the cells' bits of a library, and where its cells lie -/
def cb (l : Lb) : List Bool := l.gs.map fun g => isI g.x
def spN (l : Lb) (i : Nat) : List (Int × Int) := (bT (cb l) i).zipIdx.map fun p => (p.1, (l.us.length : Int) + (p.2 : Nat))
theorem cb_at {l : Lb} {i : Nat} {g : Gv} (hg : l.gs[i]? = some g) : (cb l)[i]? = some (isI g.x) := by
  unfold cb
  rw [List.getElem?_map, hg]
  rfl
theorem spN_len (l : Lb) (i : Nat) : (spN l i).length = (bT (cb l) i).length := by
  unfold spN
  rw [List.length_map, List.length_zipIdx]
theorem spN_1 (l : Lb) (i : Nat) : (spN l i).map (·.1) = bT (cb l) i := by
  unfold spN
  rw [List.map_map]
  show List.map (fun p : Int × Nat => p.1) _ = _
  exact List.zipIdx_map_fst ..
theorem cb_len (l : Lb) : (cb l).length = l.gs.length := by unfold cb; rw [List.length_map]
theorem cnt_cells {l : Lb} {i : Nat} (h : i ≤ l.gs.length) : (bT (cb l) i).length = ((l.gs.take i).filter fun g => isI g.x).length := by
  rw [bT_cnt (by rw [cb_len]; exact h)]
  unfold cb
  rw [← List.map_take, List.filter_map, List.length_map]
  rfl
def spots (l : Lb) : List (Int × Int) := spN l l.gs.length
theorem spots_len (l : Lb) : (spots l).length = (cells l).length := by
  unfold spots cells
  rw [spN_len, cnt_cells (Nat.le_refl _), List.take_length, List.length_map]
theorem putI_iV {qs : List (Int × Int)} {r v : Int} (h : r ∉ qs.map (·.1)) : putI (iV qs) r (.int v) = iV (qs ++ [(r, v)]) := by
  rw [putI_new (by rw [List.map_map]; exact h)]
  show _ = List.map _ _
  rw [List.map_append]
  rfl
end K74
end
/-! P74n -/
section
set_option maxHeartbeats 4000000
namespace K74
open PySem L2 TL
/-! ## _law_laid -/
theorem w_dput {i k : Nat} {f g : Ev} {r : Rs} {m : Ms} {S : Out → Prop} (hk : slO r[i]? = some k) (h : W (f r m) fun p => W (g r p.2) fun q => ∃ ps ke, cellAt q.2 k = some (.dict ps) ∧ keyD q.1 = some ke ∧ ps.length < sizeLine ∧ S (.nx r (q.2.set k (some (.dict (putP ps ke p.1)))))) : W (sDput i f g r m) S := by
  unfold sDput
  refine W.bind (W.of hk (W.bind (W.mono h fun p h => W.bind (W.mono h fun q h => ?_))))
  obtain ⟨ps, ke, h1, h2, h3, h4⟩ := h
  refine W.bind (W.of h1 ?_)
  exact W.bind (W.of h2 (W.guard h3 (.mk h4)))
theorem rowsN_len {B : Int} {rs : List PyData} (h : ∀ r ∈ rs, Rk B r) : (rowsN rs).length = 3 * rs.length + 3 := by
  unfold rowsN
  rw [List.length_append, flat_len h]
  rfl
theorem us_ix {l : Lb} {i : Nat} {u : Us} (hu : l.us[i]? = some u) : atI (l.us.map Us.d) (i : Int) = some u.d := by
  have hlt := (List.getElem?_eq_some_iff.mp hu).1
  rw [atI_in (Int.natCast_nonneg _) (by rw [List.length_map]; omega)]
  obtain ⟨_, e⟩ := List.getElem?_eq_some_iff.mp hu
  simp only [Int.toNat_natCast, List.getElem_map, e]
theorem ixN_in {n : Nat} {j : Int} (h0 : 0 ≤ j) (h1 : j < n) : ixN n j = some j.toNat := by
  unfold ixN
  rw [if_pos h0, if_pos h1]
end K74
end
/-! P74o -/
section
set_option maxHeartbeats 4000000
namespace K74
open PySem L2 TL
/-! ## _law_wide -/
theorem lc_of {s : Str} (h : decide (s.length ≤ 8 ∧ ∀ c ∈ s.cps.toList, 97 ≤ c ∧ c < 123) = true) : Lc 8 s := by
  have h := of_decide_eq_true h
  exact ⟨h.1, h.2⟩
/-- rows drawn from some and from those that are there -/
theorem drawrows8_w {f : Int × Int} {so rs : List PyData} {e1 e2 e4 e5 e6 e7 e9 e10 e11 : Sl} {ms : Ms} {Q : PyData × Ms → Prop} (hf : FO f) (hl0 : 0 < so.length) (hl1 : so.length ≤ 20) (hr : ∀ r ∈ so, Rk 1000000000000000000000000000000 r) (hl2 : rs.length ≤ 8) (hr2 : ∀ r ∈ rs, Rk 1000000000000000000000000000000 r) (q : ∀ (ts : List PyData) (f' : Int × Int), FO f' → ts.length ≤ 8 → (∀ r ∈ ts, Rk 1000000000000000000000000000000 r) → Q (.list ts, some (fd f') :: ms)) : W (eLc (eRg1 (eCons (eCallR 1 0 m__law_take (eCons (eC (.int 9)) eNil)) eNil)) [11] (hNm 11) eYes (eCallR 1 0 m__law_pick (eCons (eBin addD (eV 3) (eMap (eCons (eV 8) eNil) listD2)) eNil)) [.ow 0, e1, e2, .fz (.list so), e4, e5, e6, e7, .fz (.tuple rs), e9, e10, e11] (some (fd f) :: ms)) Q := by
  walk_at "tlex"
  refine w_lcI (fun ds i acc m => ds.length ≤ 8 ∧ ∃ f6, FO f6 ∧ acc.length = i ∧ (∀ r ∈ acc, Rk 1000000000000000000000000000000 r) ∧ m = some (fd f6) :: ms) ?_
  walk_at "tlex"
  refine take_any hf (by decide) (by decide +kernel) fun n f1 a0 a1 hf1 => ?_
  walk_at "tlex"
  refine ⟨_, rfl, by omega, ⟨by rw [range_len]; omega, f1, hf1, by trivial, fun r hr => (by cases hr), by trivial⟩, ?_, ?_⟩
  · rintro i d m acc hd ⟨h8, f6, hf6, hal, har, rfl⟩
    have hlt := (List.getElem?_eq_some_iff.mp hd).1
    walk_at "tlex"
    simp only [wipeR]
    walk_at "tlex"
    refine ⟨fun _ => ?_, fun z => by cases z⟩
    walk_at "tlex"
    refine w_add_l ?_ ?_
    · exact le_line (by omega)
    walk_at "tlex"
    refine pick_any hf6 (by rw [List.length_append]; omega) (by rw [List.length_append]; omega) fun row f7 hrow hf7 => ?_
    walk_at "tlex"
    refine ⟨lt_line (by omega), h8, f7, hf7, by rw [List.length_append, hal]; rfl, snoc_all har ?_, by trivial⟩
    rcases List.mem_append.mp hrow with q | q
    · exact hr row q
    · exact hr2 row q
  · rintro acc m ⟨h8, f6, hf6, hal, har, rfl⟩
    walk_at "tlex"
    exact q acc f6 hf6 (by omega) har
theorem drawrows10_w {f : Int × Int} {so rs : List PyData} {e1 e2 e4 e5 e6 e7 e8 e9 e11 : Sl} {ms : Ms} {Q : PyData × Ms → Prop} (hf : FO f) (hl0 : 0 < so.length) (hl1 : so.length ≤ 20) (hr : ∀ r ∈ so, Rk 1000000000000000000000000000000 r) (hl2 : rs.length ≤ 8) (hr2 : ∀ r ∈ rs, Rk 1000000000000000000000000000000 r) (q : ∀ (ts : List PyData) (f' : Int × Int), FO f' → ts.length ≤ 8 → (∀ r ∈ ts, Rk 1000000000000000000000000000000 r) → Q (.list ts, some (fd f') :: ms)) : W (eLc (eRg1 (eCons (eCallR 1 0 m__law_take (eCons (eC (.int 9)) eNil)) eNil)) [11] (hNm 11) eYes (eCallR 1 0 m__law_pick (eCons (eBin addD (eV 3) (eMap (eCons (eV 10) eNil) listD2)) eNil)) [.ow 0, e1, e2, .fz (.list so), e4, e5, e6, e7, e8, e9, .fz (.tuple rs), e11] (some (fd f) :: ms)) Q := by
  walk_at "tlex"
  refine w_lcI (fun ds i acc m => ds.length ≤ 8 ∧ ∃ f6, FO f6 ∧ acc.length = i ∧ (∀ r ∈ acc, Rk 1000000000000000000000000000000 r) ∧ m = some (fd f6) :: ms) ?_
  walk_at "tlex"
  refine take_any hf (by decide) (by decide +kernel) fun n f1 a0 a1 hf1 => ?_
  walk_at "tlex"
  refine ⟨_, rfl, by omega, ⟨by rw [range_len]; omega, f1, hf1, by trivial, fun r hr => (by cases hr), by trivial⟩, ?_, ?_⟩
  · rintro i d m acc hd ⟨h8, f6, hf6, hal, har, rfl⟩
    have hlt := (List.getElem?_eq_some_iff.mp hd).1
    walk_at "tlex"
    simp only [wipeR]
    walk_at "tlex"
    refine ⟨fun _ => ?_, fun z => by cases z⟩
    walk_at "tlex"
    refine w_add_l ?_ ?_
    · exact le_line (by omega)
    walk_at "tlex"
    refine pick_any hf6 (by rw [List.length_append]; omega) (by rw [List.length_append]; omega) fun row f7 hrow hf7 => ?_
    walk_at "tlex"
    refine ⟨lt_line (by omega), h8, f7, hf7, by rw [List.length_append, hal]; rfl, snoc_all har ?_, by trivial⟩
    rcases List.mem_append.mp hrow with q | q
    · exact hr row q
    · exact hr2 row q
  · rintro acc m ⟨h8, f6, hf6, hal, har, rfl⟩
    walk_at "tlex"
    exact q acc f6 hf6 (by omega) har
theorem wide_any {f : Int × Int} {l : Lb} {Q : PyData × PyData → Prop} (hf : FO f) (hl : l.ok) (h : ∀ (l' : Lb) (f' : Int × Int), FO f' → L2k l' → Q (l'.d, fd f')) : W (m__law_wide (fd f) [l.d]) Q := by
  have hul := hl.us.1
  have hgl := hl.gs.1
  have e29 : (10 : Int) ^ (Int.toNat 29) = 100000000000000000000000000000 := by decide +kernel
  have e20 : (10 : Int) ^ (Int.toNat 20) = 100000000000000000000 := by decide +kernel
  have hnm : ∀ y ∈ [PyData.str l.n, .str "abcdefgh", .str "zyx", .str "q"], ∃ s, y = .str s ∧ Ln s := fun y hy => by
    simp only [List.mem_cons, List.not_mem_nil, or_false] at hy
    rcases hy with q | q | q | q
    · exact ⟨_, q, hl.n⟩
    · exact ⟨_, q, lc_of (by decide +kernel), by decide +kernel⟩
    · exact ⟨_, q, lc_of (by decide +kernel), by decide +kernel⟩
    · exact ⟨_, q, lc_of (by decide +kernel), by decide +kernel⟩
  unfold m__law_wide b__law_wide
  walk_at "tlex"
  refine pick_any hf (by simp only [List.length_cons]; omega) (by simp only [List.length_cons, List.length_nil]; omega) fun y f1 hy hf1 => ?_
  obtain ⟨s1, rfl, hs1⟩ := hnm y hy
  walk_at "tlex"
  refine pick_any hf1 (by simp only [List.length_cons]; omega) (by simp only [List.length_cons, List.length_nil]; omega) fun y f2 hy hf2 => ?_
  obtain ⟨s2, rfl, hs2⟩ := hnm y hy
  walk_at "tlex"
  refine w_pow_i (by decide +kernel) ?_
  rw [e29]
  walk_at "tlex"
  refine take_any hf2 (by decide) (by decide +kernel) fun i1 f3 a0 a1 hf3 => ?_
  walk_at "tlex"
  refine w_pow_i (by decide +kernel) ?_
  rw [e29]
  walk_at "tlex"
  refine take_any hf3 (by decide) (by decide +kernel) fun i2 f4 b0 b1 hf4 => ?_
  walk_at "tlex"
  refine w_add_l (by simp only [List.length_cons, List.length_nil]; exact le_line (by omega)) ?_
  walk_at "tlex"
  have hsome : ∀ d ∈ [PyData.tuple [PyData.str "bring", PyData.str s1], PyData.tuple [PyData.str "ask", PyData.str s2, PyData.str "wxyzabcd"], PyData.tuple [PyData.str "tell", PyData.int i1], PyData.tuple [PyData.str "tell", PyData.int (0 - i2)]], Rk 1000000000000000000000000000000 d := fun d hd => by
    simp only [List.mem_cons, List.not_mem_nil, or_false] at hd
    rcases hd with q | q | q | q <;> rw [q]
    · exact .name _ s1 (by simp) hs1
    · exact .ask s2 _ hs2 ⟨lc_of (by decide +kernel), by decide +kernel⟩
    · exact .tell i1 (by omega) (by omega)
    · exact .tell _ (by omega) (by omega)
  have hlen : ([PyData.tuple [PyData.str "bring", PyData.str s1], PyData.tuple [PyData.str "ask", PyData.str s2, PyData.str "wxyzabcd"], PyData.tuple [PyData.str "tell", PyData.int i1], PyData.tuple [PyData.str "tell", PyData.int (0 - i2)]]).length = 4 := rfl
  generalize [PyData.tuple [PyData.str "bring", PyData.str s1], PyData.tuple [PyData.str "ask", PyData.str s2, PyData.str "wxyzabcd"], PyData.tuple [PyData.str "tell", PyData.int i1], PyData.tuple [PyData.str "tell", PyData.int (0 - i2)]] = some0 at hsome hlen ⊢
  generalize hNM : PyData.list [PyData.str l.n, .str "abcdefgh", .str "zyx", .str "q"] = NM
  refine w_for (fun ds i r m => ds = rangeD 0 l.us.length ∧ ∃ (f1 : Int × Int) (so : List PyData) (e4 e9 : Sl), FO f1 ∧ so.length ≤ 4 + 2 * i ∧ 0 < so.length ∧ (∀ r ∈ so, Rk 1000000000000000000000000000000 r) ∧ r = [.ow 0, .fz l.d, .fz NM, .fz (.list so), e4, .un, .un, .un, .un, e9, .un, .un] ∧ m = [some (fd f1)]) ?_
  walk_at "tlex"
  refine ⟨_, rfl, by rw [List.length_map]; omega, ⟨by rw [List.length_map, Int.toNat_natCast], f4, some0, _, _, hf4, by omega, by omega, hsome, rfl, rfl⟩, ?_, ?_⟩
  · rintro i x r m hx ⟨hds, f1, so, e4, e9, hf1, hl1, hl0, hr, rfl, rfl⟩
    obtain ⟨hi, rfl⟩ := range_at hx
    have hi : i < l.us.length := by rw [List.length_map, Int.toNat_natCast] at hi; exact hi
    obtain ⟨u, hu⟩ : ∃ u, l.us[i]? = some u := ⟨_, List.getElem?_eq_getElem hi⟩
    rw [Int.zero_add]
    walk_at "tlex"
    refine w_if ?_
    walk_at "tlex"
    refine W.of (us_ix hu) ?_
    walk_at "tlex"
    refine ⟨fun z => ?_, fun z => ?_⟩
    · walk_at "tlex"
      refine w_pow_i (by decide +kernel) ?_
      rw [e20]
      walk_at "tlex"
      refine take_any hf1 (by decide) (by decide +kernel) fun j1 f2 c0 c1 hf2 => ?_
      walk_at "tlex"
      refine w_pow_i (by decide +kernel) ?_
      rw [e20]
      walk_at "tlex"
      refine take_any hf2 (by decide) (by decide +kernel) fun j2 f3 d0 d1 hf3 => ?_
      walk_at "tlex"
      refine w_add_l (by simp only [List.length_cons, List.length_nil]; exact le_line (by omega)) ?_
      walk_at "tlex"
      refine ⟨hds, f3, _, _, _, hf3, by rw [List.length_append]; simp only [List.length_cons, List.length_nil]; omega, by rw [List.length_append]; omega, w_all hr fun d hd => ?_, rfl, rfl⟩
      simp only [List.mem_cons, List.not_mem_nil, or_false] at hd
      rcases hd with q | q <;> rw [q]
      · exact .two _ _ _ (by simp) (by omega) (by omega) (by omega) (by omega)
      · exact .two _ _ _ (by simp) (by omega) (by omega) (by omega) (by omega)
    · walk_at "tlex"
      refine w_add_l (by simp only [List.length_cons, List.length_nil]; exact le_line (by omega)) ?_
      walk_at "tlex"
      refine ⟨hds, f1, _, _, _, hf1, by rw [List.length_append]; simp only [List.length_cons, List.length_nil]; omega, by rw [List.length_append]; omega, w_all hr fun d hd => ?_, rfl, rfl⟩
      rw [List.mem_singleton.mp hd]
      exact .one _ _ (by simp) (by omega) (by omega)
  · rintro r m ⟨hds, f1, so, e4, e9, hf1, hl1, hl0, hr, rfl, rfl⟩
    rw [hds, range_len] at hl1
    walk_at "tlex"
    refine w_for (fun ds i r m => ds = l.gs.map Gv.d ∧ ∃ (f1 : Int × Int) (gs : List Gv) (e6 e10 e11 : Sl), FO f1 ∧ gs.length = i ∧ (∀ g ∈ gs, (∃ i : Int, g.x = .int i ∧ -1000000000 < i ∧ i < 1000000000) ∨ ∃ rs, g.x = .tuple rs ∧ rs.length ≤ 8 ∧ ∀ r ∈ rs, Rk 1000000000000000000000000000000 r) ∧ r = [.ow 0, .fz l.d, .fz NM, .fz (.list so), e4, .ow 1, e6, .un, .un, e9, e10, e11] ∧ m = [some (fd f1), some (.list (gs.map Gv.d))]) ?_
    walk_at "tlex"
    refine ⟨⟨by trivial, f1, [], _, _, _, hf1, rfl, fun g hg => (by cases hg), rfl, rfl⟩, ?_, ?_⟩
    · rintro i x r m hx ⟨hds, f1, gs, e6, e10, e11, hf1, hgs, hgo, rfl, rfl⟩
      obtain ⟨g, hg, rfl⟩ := gs_at hx
      have hlt := (List.getElem?_eq_some_iff.mp hg).1
      have hgok := hl.gs.2 g (List.mem_of_getElem? hg)
      walk_at "tlex"
      refine W.mono (P := fun o => ∃ (x : PyData) (f2 : Int × Int), FO f2 ∧ ((∃ i : Int, x = .int i ∧ -1000000000 < i ∧ i < 1000000000) ∨ ∃ rs, x = .tuple rs ∧ rs.length ≤ 8 ∧ ∀ r ∈ rs, Rk 1000000000000000000000000000000 r) ∧ o = Out.nx [.ow 0, .fz l.d, .fz NM, .fz (.list so), e4, .ow 1, .fz g.d, .un, .un, e9, .fz x, e11] [some (fd f2), some (.list (gs.map Gv.d))]) ?_ ?_
      · refine w_if ?_
        walk_at "tlex"
        refine whole_w hgok.2.2 ?_
        walk_at "tlex"
        refine ⟨fun z => ?_, fun z => ?_⟩
        · rcases hgok.2.2 with ⟨i, e, _⟩ | ⟨rs, e, hl1', hr1⟩
          · rw [e] at z; cases z
          · rw [e]
            walk_at "tlex"
            refine drawrows10_w hf1 hl0 (by omega) hr hl1' (fun r h => (hr1 r h).mono (by decide)) fun ts f2 hf2 t1 t2 => ?_
            walk_at "tlex"
            exact ⟨_, f2, hf2, .inr ⟨ts, rfl, t1, t2⟩, rfl⟩
        · rcases hgok.2.2 with ⟨i, e, i0, i1⟩ | ⟨rs, e, hl1', hr1⟩
          · rw [e]
            walk_at "tlex"
            exact ⟨_, f1, hf1, .inl ⟨i, rfl, i0, i1⟩, rfl⟩
          · rw [e] at z; cases z
      · rintro o ⟨x, f2, hf2, hx, rfl⟩
        walk_at "tlex"
        refine w_app rfl rfl ?_
        walk_at "tlex"
        refine ⟨_, rfl, w_slc_t ?_⟩
        rw [cut_to (show (0 : Int) ≤ 4 by decide)]
        walk_at "tlex"
        refine w_add_t (le_line (by rw [List.length_take]; simp only [List.length_cons, List.length_nil]; omega)) ?_
        refine ⟨_, rfl, lt_line (by rw [List.length_map]; omega), hds, f2, gs ++ [⟨g.w, g.v, g.c, g.f, x⟩], _, _, _, hf2, by rw [List.length_append, hgs]; rfl, fun y hy => ?_, rfl, by rw [List.map_append]; rfl⟩
        rcases List.mem_append.mp hy with q | q
        · exact hgo y q
        · rw [List.mem_singleton.mp q]; exact hx
    · rintro r m ⟨hds, f1, gs, e6, e10, e11, hf1, hgs, hgo, rfl, rfl⟩
      rw [List.length_map] at hgs
      walk_at "tlex"
      refine w_for (fun ds i r m => ds = [.tuple l.r0, .tuple l.r1] ∧ ∃ (f1 : Int × Int) (es : List (List PyData)) (e8 e11 : Sl), FO f1 ∧ es.length = i ∧ (∀ rs ∈ es, rs.length ≤ 8 ∧ ∀ r ∈ rs, Rk 1000000000000000000000000000000 r) ∧ r = [.ow 0, .fz l.d, .fz NM, .fz (.list so), e4, .ow 1, e6, .ow 2, e8, e9, e10, e11] ∧ m = [some (fd f1), some (.list (gs.map Gv.d)), some (.list (es.map .tuple))]) ?_
      walk_at "tlex"
      refine ⟨_, rfl, ?_⟩
      walk_at "tlex"
      refine ⟨_, rfl, w_slc_t ?_⟩
      rw [show cutD [PyData.str l.n, PyData.tuple (List.map PyData.str l.ns), PyData.tuple (List.map Gv.d l.gs), PyData.tuple (List.map Us.d l.us), PyData.tuple l.r0, PyData.tuple l.r1, PyData.tuple (List.map PyData.str l.ks)] (some 4) (some 6) = [PyData.tuple l.r0, PyData.tuple l.r1] from rfl]
      walk_at "tlex"
      refine ⟨⟨by trivial, f1, [], _, _, hf1, rfl, fun g hg => (by cases hg), rfl, rfl⟩, ?_, ?_⟩
      · rintro i x r m hx ⟨hds, f1, es, e8, e11, hf1, hes, heo, rfl, rfl⟩
        obtain ⟨rs, rfl, hl2, hr2⟩ : ∃ rs, x = .tuple rs ∧ rs.length ≤ 8 ∧ ∀ r ∈ rs, Rw r := by
          have hm := List.mem_of_getElem? hx
          rcases List.mem_cons.mp hm with q | q
          · exact ⟨_, q, hl.r0⟩
          · exact ⟨_, List.mem_singleton.mp q, hl.r1⟩
        have hi : i < 2 := (List.getElem?_eq_some_iff.mp hx).1
        walk_at "tlex"
        refine w_app rfl rfl ?_
        walk_at "tlex"
        refine drawrows8_w hf1 hl0 (by omega) hr hl2 (fun r h => (hr2 r h).mono (by decide)) fun ts f2 hf2 t1 t2 => ?_
        walk_at "tlex"
        refine ⟨_, rfl, lt_line (by rw [List.length_map]; omega), hds, f2, es ++ [ts], _, _, hf2, by rw [List.length_append, hes]; rfl, fun y hy => ?_, rfl, by rw [List.map_append]; rfl⟩
        rcases List.mem_append.mp hy with q | q
        · exact heo y q
        · rw [List.mem_singleton.mp q]; exact ⟨t1, t2⟩
      · rintro r m ⟨hds, f1, es, e8, e11, hf1, hes, heo, rfl, rfl⟩
        match es, hes with
        | [t0, t1], _ =>
        walk_at "tlex"
        refine ⟨_, rfl, w_slc_t ?_⟩
        rw [cut_to (show (0 : Int) ≤ 2 by decide)]
        walk_at "tlex"
        refine w_seqO rfl rfl ?_
        walk_at "tlex"
        refine W.of rfl ?_
        walk_at "tlex"
        refine w_add_t (le_line (by simp only [List.length_take, List.length_cons, List.length_nil]; omega)) ?_
        walk_at "tlex"
        exact h ⟨l.n, l.ns, gs, l.us, t0, t1, l.ks⟩ f1 hf1 ⟨by rw [hgs]; exact hgl, hul, fun g hg => (hgo g hg).imp (fun ⟨i, e, _⟩ => ⟨i, e⟩) id, heo t0 (by simp), heo t1 (by simp), fun g hg i e => by
          rcases hgo g hg with ⟨j, e2, j0, j1⟩ | ⟨rs, e2, _⟩
          · rw [e2] at e
            cases e
            omega
          · rw [e2] at e
            cases e⟩
end K74
end
/-! P74p -/
section
set_option maxHeartbeats 4000000
namespace K74
open PySem L2 TL
/-! ## filled -/
abbrev wholeD (N : List Int) (P : List K3) : PyData := .tuple [.tuple (N.map .int), .list (P.map TX.kD3)]
def fval (b : Int) (ad : List (Int × Int)) (p : K3) : Int := if p.2.1 = ("own" : Str) then b + p.2.2 else ((ad.find? fun q => decide (q.1 = p.2.2)).map (·.2)).getD 0
def fil (b : Int) (ad : List (Int × Int)) (xs : List Int) (ks : List K3) : List Int := ks.foldl (fun xs p => xs.set p.1.toNat (fval b ad p)) xs
theorem fil_snoc (b : Int) (ad : List (Int × Int)) (xs : List Int) (ks : List K3) (k : K3) : fil b ad xs (ks ++ [k]) = (fil b ad xs ks).set k.1.toNat (fval b ad k) := by
  unfold fil
  rw [List.foldl_append]
  rfl
theorem fil_len (b : Int) (ad : List (Int × Int)) (ks : List K3) : ∀ xs : List Int, (fil b ad xs ks).length = xs.length := by
  induction ks with
  | nil => intro xs; rfl
  | cons k ks ih =>
    intro xs
    unfold fil at ih ⊢
    rw [List.foldl_cons, ih, List.length_set]
theorem fil_take {b : Int} {ad : List (Int × Int)} {xs : List Int} {P : List K3} {i : Nat} {p : K3} (hp : P[i]? = some p) : fil b ad xs (P.take (i + 1)) = (fil b ad xs (P.take i)).set p.1.toNat (fval b ad p) := (congrArg (fil b ad xs) (by rw [List.take_add_one, hp]; rfl)).trans (fil_snoc b ad xs (P.take i) p)
theorem filled_w {N : List Int} {P : List K3} {b : Int} {ad : List (Int × Int)} {Q : PyData → Prop} (hin : ∀ p ∈ P, 0 ≤ p.1 ∧ p.1 < (N.length : Nat)) (hk : ∀ p ∈ P, p.2.1 = ("own" : Str) ∨ p.2.2 ∈ ad.map (·.1)) (q : Q (iL (fil b ad N P))) : W (m_filled [wholeD N P, .int b, .dict (dI (iV ad))]) Q := by
  unfold m_filled b_filled
  walk_at "tlex"
  refine w_for (fun ds i r m => ds = P.map TX.kD3 ∧ i ≤ P.length ∧ ∃ (e6 e7 e8 : Sl), m = [some (iL (fil b ad N (P.take i)))] ∧ r = [.fz (wholeD N P), .fz (.int b), .fz (.dict (dI (iV ad))), .ow 0, .fz (.tuple (N.map .int)), .fz (.list (P.map TX.kD3)), e6, e7, e8]) ?_
  walk_at "tlex"
  refine ⟨⟨by trivial, Nat.zero_le _, _, _, _, by rw [List.take_zero]; rfl, rfl⟩, ?_, ?_⟩
  · rintro i d r m hx ⟨-, hi, e6, e7, e8, rfl, rfl⟩
    rw [List.getElem?_map] at hx
    obtain ⟨p, hp, rfl⟩ := Option.map_eq_some_iff.mp hx
    have hlt := (List.getElem?_eq_some_iff.mp hp).1
    obtain ⟨q0, q1⟩ := hin p (List.mem_of_getElem? hp)
    have st := fil_take (b := b) (ad := ad) (xs := N) hp
    refine w_hTup rfl (w_hCons (w_hNm (w_hCons (w_hNm (w_hCons (w_hNm (w_hNil ?_))))))) 
    walk_at "tlex"
    refine ⟨fun z => ?_, fun z => ?_⟩
    · have z' : p.2.1 = ("own" : Str) := by simpa using z
      walk_at "tlex"
      rw [List.length_map, fil_len]
      refine W.of (ixN_in q0 q1) ?_
      refine ⟨by trivial, hlt, _, _, _, ?_, rfl⟩
      rw [st]
      unfold fval
      rw [if_pos z', iL, List.map_set]
    · have z' : ¬ p.2.1 = ("own" : Str) := by simpa using z
      walk_at "tlex"
      refine w_dixV ((hk p (List.mem_of_getElem? hp)).resolve_left z') ?_
      walk_at "tlex"
      rw [List.length_map, fil_len]
      refine W.of (ixN_in q0 q1) ?_
      refine ⟨by trivial, hlt, _, _, _, ?_, rfl⟩
      rw [st]
      unfold fval
      rw [if_neg z', iL, List.map_set]
  · rintro r m ⟨-, hi, e6, e7, e8, rfl, rfl⟩
    rw [List.length_map, List.take_length]
    walk_at "tlex"
    exact w_retC rfl (by decide) rfl q
/-! ## the places of an image -/
def keysC (l : Lb) : List Int := ((List.range l.us.length).filter fun k => ((l.us.map Us.c)[k]?).getD false).map fun k : Nat => (k : Int)
theorem pla_in {l : Lb} (h : L2k l) : ∀ p ∈ plaI l, 0 ≤ p.1 ∧ p.1 < ((numI l).length : Nat) := fun p hp => by
  have := law_in h p ((law_perm l).mem_iff.mp hp)
  rw [← law_fin h, putA_len]
  exact this
theorem plN_own : ∀ (rs : List PyData) (a : Int) (p : K3), p ∈ plN a rs → p.2.1 = ("own" : Str)
  | [], _, _, h => by cases h
  | r :: rs, a, p, h => by
    rw [show plN a (r :: rs) = pl1 a r ++ plN (a + 3) rs from rfl] at h
    rcases List.mem_append.mp h with h | h
    · unfold pl1 at h
      split at h
      · rw [List.mem_singleton.mp h]
      · cases h
    · exact plN_own rs _ p h
theorem plR_own : ∀ (rl : List (List PyData)) (a : Int) (p : K3), p ∈ plR a rl → p.2.1 = ("own" : Str)
  | [], _, _, h => by cases h
  | rs :: rl, a, p, h => by
    rw [show plR a (rs :: rl) = plN a rs ++ plR (a + (rowsN rs).length) rl from rfl] at h
    rcases List.mem_append.mp h with h | h
    · exact plN_own rs a p h
    · exact plR_own rl _ p h
theorem pla_kd {l : Lb} : ∀ p ∈ plaI l, p.2.1 = ("own" : Str) ∨ (p.2.1 = ("cell" : Str) ∧ p.2.2 ∈ keysC l) := fun p hp => by
  unfold plaI at hp
  rcases List.mem_append.mp hp with h | h
  · unfold pla0 at h
    obtain ⟨k, hk, rfl⟩ := List.mem_map.mp h
    split
    · rename_i z
      exact .inr ⟨rfl, List.mem_map.mpr ⟨k, List.mem_filter.mpr ⟨hk, z⟩, rfl⟩⟩
    · exact .inl rfl
  · exact .inl (plR_own _ _ p h)
theorem eqv_ints : ∀ xs ys : List Int, PyData.eqvAll (xs.map PyData.int) (ys.map PyData.int) = decide (xs = ys)
  | [], [] => by simp [PyData.eqvAll]
  | [], _ :: _ => by simp [PyData.eqvAll]
  | _ :: _, [] => by simp [PyData.eqvAll]
  | x :: xs, y :: ys => by
    have ih := eqv_ints xs ys
    show (PyData.eqv (.int x) (.int y) && PyData.eqvAll (xs.map PyData.int) (ys.map PyData.int)) = _
    rw [ih, Bool.eq_iff_iff, Bool.and_eq_true, decide_eq_true_iff, decide_eq_true_iff]
    simp [PyData.eqv]
theorem iL_shaped (zs : List Int) : SeqAt.shaped (iL zs) = true := shaped_l (k := 0) (fun d hd => by
  obtain ⟨x, _, rfl⟩ := List.mem_map.mp hd
  exact ⟨by simp [PyData.canLay0], by simp [PyData.depth]⟩) (by decide)
theorem w_neX_LL {xs ys : List Int} {R : PyData → Prop} (q : R (.bool (!decide (xs = ys)))) : W (neX (iL xs) (iL ys)) R := by
  refine w_neD (iL_shaped xs) (iL_shaped ys) ?_
  have e : PyData.eqv (iL xs) (iL ys) = decide (xs = ys) := by
    simp only [PyData.eqv]
    exact eqv_ints xs ys
  rw [e]
  exact q
end K74
end
/-! P74r -/
section
set_option maxHeartbeats 4000000
namespace K74
open PySem L2 TL
/-! ## begins -/
def stA (a : Int) : List (List PyData) → List Int
  | [] => []
  | rs :: rl => a :: stA (a + 3 * ((rs.length : Int) + 1)) rl
def wdt : List (List PyData) → Int
  | [] => 0
  | rs :: rl => 3 * ((rs.length : Int) + 1) + wdt rl
theorem stA_app : ∀ (xs ys : List (List PyData)) (a : Int), stA a (xs ++ ys) = stA a xs ++ stA (a + wdt xs) ys
  | [], ys, a => by show stA a ys = [] ++ stA (a + 0) ys; rw [Int.add_zero, List.nil_append]
  | x :: xs, ys, a => by
    show a :: stA _ (xs ++ ys) = a :: (stA _ xs ++ stA _ ys)
    rw [stA_app xs ys]
    congr 3
    show _ = a + (3 * ((x.length : Int) + 1) + wdt xs)
    omega
theorem wdt_app : ∀ (xs ys : List (List PyData)), wdt (xs ++ ys) = wdt xs + wdt ys
  | [], ys => by show wdt ys = 0 + wdt ys; omega
  | x :: xs, ys => by
    show _ + wdt (xs ++ ys) = _ + wdt xs + wdt ys
    rw [wdt_app xs ys]
    omega
theorem stA_len : ∀ (xs : List (List PyData)) (a : Int), (stA a xs).length = xs.length
  | [], _ => rfl
  | x :: xs, a => by show (stA _ xs).length + 1 = _; rw [stA_len xs]; rfl
/-- where the rows begin -/
def atR (l : Lb) : Int := at0 l + 3 * ((stb l.us 0 (at0 l)).length : Int)
def dedK (l : Lb) : List Int := bT ((cb l).map not) l.gs.length
def dedS (l : Lb) : List Int := stA (atR l) ((deeds l).map rowsOf)
def frs (l : Lb) : Int := atR l + wdt ((deeds l).map rowsOf)
def las (l : Lb) : Int := frs l + 3 * ((l.r0.length : Int) + 1)
abbrev begD (l : Lb) : PyData := .tuple [.dict (dI (iV (spots l))), .dict (dI (iV ((dedK l).zip (dedS l)))), .int (frs l), .int (las l)]
theorem stA_row (l : Lb) : stA (atR l) (rowL l) = dedS l ++ [frs l, las l] := by
  unfold rowL
  rw [stA_app]
  rfl
theorem enum_at' {ds : List PyData} {i : Nat} {d : PyData} (h : (enumD ds)[i]? = some d) : ∃ e, ds[i]? = some e ∧ d = .tuple [.int i, e] := enum_at h
theorem nb_at {l : Lb} {i : Nat} {g : Gv} (hg : l.gs[i]? = some g) : ((cb l).map not)[i]? = some (!isI g.x) := by
  rw [List.getElem?_map, cb_at hg]
  rfl
theorem in_spots {l : Lb} {i : Nat} {g : Gv} (hg : l.gs[i]? = some g) : decide ((i : Int) ∈ (spots l).map (·.1)) = isI g.x := by
  unfold spots
  rw [spN_1, Bool.eq_iff_iff, decide_eq_true_iff]
  constructor
  · intro h
    obtain ⟨k, e, _, hk⟩ := bT_in h
    have : k = i := by omega
    subst this
    rw [cb_at hg] at hk
    exact Option.some.inj hk
  · intro h
    have hlt := (List.getElem?_eq_some_iff.mp hg).1
    unfold bT
    refine List.mem_map.mpr ⟨i, List.mem_filter.mpr ⟨?_, ?_⟩, rfl⟩
    · rw [List.mem_take_iff_getElem]
      exact ⟨i, by rw [List.length_range, cb_len]; omega, by rw [List.getElem_range]⟩
    · rw [cb_at hg, h]
      rfl
theorem mul_ok {i j : Int} (h0 : -1000000 < i) (h1 : i < 1000000) (h2 : -1000000 < j) (h3 : j < 1000000) : (Builtin.Int.intBits i : Int) + (Builtin.Int.intBits j : Int) ≤ 134217728 := by
  have h1 := bits64 (i := i) (by omega) (by omega)
  have h2 := bits64 (i := j) (by omega) (by omega)
  omega
theorem w_dinI {neg : Bool} {qs : List (Int × Int)} {k : Int} {R : PyData → Prop} (q : R (.bool (if neg then !decide (k ∈ qs.map (·.1)) else decide (k ∈ qs.map (·.1))))) : W (dinD neg (.int k) (.dict (dI (iV qs)))) R := by
  show W (if isSetD (.dict (dI (iV qs))) = true then none else some (.bool (if neg then !(valP (dI (iV qs)) (.inl k)).isSome else (valP (dI (iV qs)) (.inl k)).isSome))) R
  rw [if_neg (by rw [noSI]; decide), valP_dI, List.map_map]
  exact .mk q
theorem keys_inl : ∀ ks : List Int, (ks.map PyData.int).mapM keyD = some (ks.map Sum.inl)
  | [] => rfl
  | k :: ks => by
    rw [List.map_cons, List.mapM_cons, keys_inl ks]
    rfl
theorem merge_zip : ∀ (ks vs : List Int) (A : List (Int × Int)), ks.Nodup → (∀ k ∈ ks, k ∉ A.map (·.1)) → mergeP (dI (iV A)) ((ks.map (Sum.inl : Int → Key)).zip (vs.map PyData.int)) = dI (iV (A ++ ks.zip vs))
  | [], vs, A, _, _ => by
    rw [List.map_nil, List.zip_nil_left, List.zip_nil_left, List.append_nil]
    rfl
  | k :: ks, [], A, _, _ => by
    rw [List.map_nil, List.zip_nil_right, List.zip_nil_right, List.append_nil]
    rfl
  | k :: ks, v :: vs, A, hn, hd => by
    obtain ⟨n1, n2⟩ := List.nodup_cons.mp hn
    show mergeP (putP (dI (iV A)) (.inl k) (.int v)) ((ks.map (Sum.inl : Int → Key)).zip (vs.map PyData.int)) = _
    rw [putP_dI, putI_iV (hd k (List.mem_cons_self ..)), merge_zip ks vs (A ++ [(k, v)]) n2 (fun x hx hm => by
      rw [List.map_append] at hm
      rcases List.mem_append.mp hm with q | q
      · exact hd x (List.mem_cons_of_mem _ hx) q
      · have e : x = k := by simpa using q
        exact n1 (e ▸ hx)), List.append_assoc]
    rfl
theorem w_zipI {ks vs : List Int} {R : PyData → Prop} (hn : ks.Nodup) (q : R (.dict (dI (iV (ks.zip vs))))) : W (TX.zipD (.list (ks.map .int)) (.list (vs.map .int))) R := by
  refine TX.w_zipD (keys_inl ks) ?_
  have := merge_zip ks vs [] hn (fun _ _ h => by cases h)
  rw [List.nil_append] at this
  rw [show ([] : List (PyData × PyData)) = dI (iV []) from rfl, this]
  exact q
theorem zip_more {α β : Type} : ∀ (a : List α) (b c : List β), a.length = b.length → a.zip (b ++ c) = a.zip b
  | [], b, c, _ => by rw [List.zip_nil_left, List.zip_nil_left]
  | x :: a, [], c, h => by cases h
  | x :: a, y :: b, c, h => by
    rw [List.cons_append, List.zip_cons_cons, List.zip_cons_cons, zip_more a b c (Nat.succ.inj h)]
theorem ded_len (l : Lb) : (dedK l).length = (dedS l).length := by
  unfold dedK dedS
  rw [stA_len, bT_cnt (by rw [List.length_map, cb_len]; exact Nat.le_refl _), List.length_map]
  unfold cb deeds
  rw [List.length_map, List.map_map, ← List.map_take, List.take_length, List.filter_map, List.length_map]
  rfl
theorem at_2 {xs : List Int} {f g : Int} : atI ((xs ++ [f, g]).map PyData.int) (-2) = some (.int f) := by
  have e : ixN ((xs ++ [f, g]).map PyData.int).length (-2) = some xs.length := by
    rw [List.length_map, List.length_append]
    unfold ixN
    rw [if_neg (by omega)]
    simp only [List.length_cons, List.length_nil]
    rw [if_pos (by omega)]
    congr 1
    omega
  unfold atI
  rw [e]
  simp
theorem at_1 {xs : List Int} {f g : Int} : atI ((xs ++ [f, g]).map PyData.int) (-1) = some (.int g) := by
  have e : ixN ((xs ++ [f, g]).map PyData.int).length (-1) = some (xs.length + 1) := by
    rw [List.length_map, List.length_append]
    unfold ixN
    rw [if_neg (by omega)]
    simp only [List.length_cons, List.length_nil]
    rw [if_pos (by omega)]
    congr 1
    omega
  unfold atI
  rw [e]
  simp
theorem spots_at {l : Lb} {i : Nat} {k : Int} (h : (bT (cb l) l.gs.length)[i]? = some k) : (spots l)[i]? = some (k, (l.us.length : Int) + (i : Nat)) := by
  unfold spots spN
  rw [List.getElem?_map, List.getElem?_zipIdx, h]
  simp
theorem spots_nin {l : Lb} {i : Nat} {k : Int} (h : (bT (cb l) l.gs.length)[i]? = some k) : k ∉ ((spots l).take i).map (·.1) := fun hc => by
  rw [List.map_take] at hc
  unfold spots at hc
  rw [spN_1] at hc
  obtain ⟨j, hj⟩ := List.mem_iff_getElem?.mp hc
  rw [List.getElem?_take] at hj
  split at hj
  · have := (List.getElem?_inj (List.getElem?_eq_some_iff.mp hj).1 (bT_nd (cb l) l.gs.length)).mp (hj.trans h.symm)
    omega
  · cases hj
theorem begins_w {l : Lb} {Q : PyData → Prop} (h : L2k l) (q : Q (begD l)) : W (m_begins [l.d]) Q := by
  have hgl := h.gs
  have hul := h.us
  unfold m_begins b_begins
  walk_at "tlex"
  refine w_lcI (fun ds i acc m => ds = enumD (l.gs.map Gv.d) ∧ i ≤ l.gs.length ∧ acc = (bT (cb l) i).map .int ∧ m = []) ?_
  walk_at "tlex"
  refine ⟨⟨by trivial, Nat.zero_le _, rfl, by trivial⟩, ?_, ?_⟩
  · rintro i d m acc hx ⟨_, hi, rfl, rfl⟩
    obtain ⟨e0, hx2, rfl⟩ := enum_at hx
    obtain ⟨g, hg, rfl⟩ := gs_at hx2
    have hlt := (List.getElem?_eq_some_iff.mp hg).1
    have hm := List.mem_of_getElem? hg
    have hbl := bT_len (cb l) i
    simp only [wipeR]
    walk_at "tlex"
    refine iswhole_w (h.it hm) ?_
    walk_at "tlex"
    refine ⟨fun z => ?_, fun z => ⟨by trivial, hlt, ?_, by trivial⟩⟩
    · walk_at "tlex"
      refine ⟨lt_line (by rw [List.length_map]; omega), by trivial, hlt, ?_, by trivial⟩
      rw [bT_succ (cb_at hg), if_pos z, List.map_append]
      rfl
    · rw [bT_succ (cb_at hg), if_neg (by rw [z]; decide), List.append_nil]
  · rintro acc m ⟨_, hi, rfl, rfl⟩
    have el : (enumD (l.gs.map Gv.d)).length = l.gs.length := by unfold enumD; rw [List.length_map, List.length_zipIdx, List.length_map]
    rw [el]
    walk_at "tlex"
    refine w_dcN (fun ds i qs m => ds = enumD ((bT (cb l) l.gs.length).map .int) ∧ i ≤ (bT (cb l) l.gs.length).length ∧ qs = iV ((spots l).take i) ∧ m = []) ?_
    walk_at "tlex"
    have hspl : (spots l).length ≤ 8 := by unfold spots; rw [spN_len]; exact Nat.le_trans (bT_len _ _) hgl
    have hbl : (bT (cb l) l.gs.length).length = (spots l).length := by unfold spots; rw [spN_len]
    refine ⟨⟨by trivial, Nat.zero_le _, rfl, by trivial⟩, ?_, ?_⟩
    · rintro i d m qs hx ⟨_, hi, rfl, rfl⟩
      obtain ⟨e0, hx2, rfl⟩ := enum_at hx
      rw [List.getElem?_map] at hx2
      obtain ⟨k, hk, rfl⟩ := Option.map_eq_some_iff.mp hx2
      have hlt := (List.getElem?_eq_some_iff.mp hk).1
      simp only [wipeR]
      walk_at "tlex"
      refine ⟨_, rfl, lt_line (by rw [List.length_map, List.length_take]; omega), by trivial, hlt, ?_, by trivial⟩
      rw [putI_iV (spots_nin hk), List.take_add_one, spots_at hk, List.length_map]
      rfl
    · rintro qs m ⟨_, hi, rfl, rfl⟩
      have el : (enumD (List.map PyData.int (bT (cb l) l.gs.length))).length = (spots l).length := by unfold enumD; rw [List.length_map, List.length_zipIdx, List.length_map, hbl]
      rw [el, List.take_length]
      walk_at "tlex"
      refine stubs_w h ?_
      walk_at "tlex"
      refine TX.w_lenDO rfl rfl ?_
      walk_at "tlex"
      refine TX.w_lenM (noSI _) ?_
      walk_at "tlex"
      have hsl := stb_len l.us 0 (at0 l)
      rw [show (dI (iV (stb l.us 0 (at0 l)))).length = (stb l.us 0 (at0 l)).length by rw [List.length_map, List.length_map], show (dI (iV (spots l))).length = (spots l).length by rw [List.length_map, List.length_map], List.length_map]
      refine w_mul_i (mul_ok (by decide) (by decide) (by omega) (by omega)) ?_
      walk_at "tlex"
      have eat : (l.us.length : Int) + ((spots l).length : Int) + 3 * ((stb l.us 0 (at0 l)).length : Int) = atR l := by
        unfold atR
        rw [spots_len]
        unfold at0
        push_cast
        rfl
      rw [eat]
      have hb0 : -1000 ≤ atR l ∧ atR l ≤ 1000 := by rw [← eat]; omega
      have hok := rowL_ok h
      refine w_for (fun ds i r m => ds = (rowL l).map .tuple ∧ i ≤ (rowL l).length ∧ ∃ (e7 : Sl), m = [some (.dict (dI (iV (spots l)))), some (.list ((stA (atR l) ((rowL l).take i)).map .int))] ∧ r = [.fz l.d, .fz (.tuple (l.gs.map Gv.d)), .fz (.list ((bT (cb l) l.gs.length).map .int)), .ow 0, .fz (.dict (dI (iV (stb l.us 0 (at0 l))))), .fz (.int (atR l + wdt ((rowL l).take i))), .ow 1, e7, .un, .un, .un]) ?_
      walk_at "tlex"
      refine allrows_w h ?_
      walk_at "tlex"
      refine ⟨⟨by trivial, Nat.zero_le _, _, rfl, by rw [List.take_zero]; show _ = [_, _, _, _, _, Sl.fz (.int (atR l + 0)), _, _, _, _, _]; rw [Int.add_zero]⟩, ?_, ?_⟩
      · rintro i d r m hx ⟨_, hi, e7, rfl, rfl⟩
        rw [List.getElem?_map] at hx
        obtain ⟨rs, hrs, rfl⟩ := Option.map_eq_some_iff.mp hx
        have hlt := (List.getElem?_eq_some_iff.mp hrs).1
        have hr8 := (hok.2 rs (List.mem_of_getElem? hrs)).1
        have htk : (rowL l).take (i + 1) = (rowL l).take i ++ [rs] := by rw [List.take_add_one, hrs]; rfl
        walk_at "tlex"
        refine w_app rfl rfl ?_
        walk_at "tlex"
        refine ⟨_, rfl, lt_line (by rw [List.length_map, stA_len, List.length_take]; omega), ?_⟩
        refine w_aug rfl ?_
        walk_at "tlex"
        refine .mk ⟨by trivial, hlt, .fz (.tuple rs), ?_, ?_⟩
        · rw [htk, stA_app, List.map_append]
          rfl
        · rw [htk, wdt_app]
          show _ = [_, _, _, _, _, Sl.fz (.int (atR l + (wdt ((rowL l).take i) + (3 * ((rs.length : Int) + 1) + 0)))), _, _, _, _, _]
          rw [Int.add_zero, ← Int.add_assoc]
      · rintro r m ⟨_, hi, e7, rfl, rfl⟩
        rw [List.length_map, List.take_length, stA_row]
        walk_at "tlex"
        refine w_lcI (fun ds i acc m => ds = rangeD 0 l.gs.length ∧ i ≤ l.gs.length ∧ acc = (bT ((cb l).map not) i).map .int ∧ m = [some (.dict (dI (iV (spots l)))), some (.list ((dedS l ++ [frs l, las l]).map .int))]) ?_
        walk_at "tlex"
        refine ⟨_, rfl, by rw [List.length_map]; omega, ⟨by rw [List.length_map, Int.toNat_natCast], Nat.zero_le _, rfl, by trivial⟩, ?_, ?_⟩
        · rintro i d m acc hx ⟨hds, hi, rfl, rfl⟩
          obtain ⟨hlt, rfl⟩ := range_at hx
          rw [List.length_map, Int.toNat_natCast] at hlt
          obtain ⟨g, hg⟩ : ∃ g, l.gs[i]? = some g := ⟨_, List.getElem?_eq_getElem hlt⟩
          have hbl2 := bT_len ((cb l).map not) i
          rw [Int.zero_add]
          simp only [wipeR]
          walk_at "tlex"
          refine w_inO rfl ?_
          walk_at "tlex"
          refine ⟨_, rfl, ?_⟩
          refine w_dinI ?_
          rw [in_spots hg]
          walk_at "tlex"
          refine ⟨fun z => ?_, fun z => ?_⟩
          · walk_at "tlex"
            refine ⟨lt_line (by rw [List.length_map]; omega), hds, hlt, ?_, by trivial⟩
            rw [bT_succ (nb_at hg), if_pos (by simpa using z), List.map_append]
            rfl
          · refine ⟨hds, hlt, ?_, by trivial⟩
            rw [bT_succ (nb_at hg), if_neg (by simpa using z), List.append_nil]
        · rintro acc m ⟨hds, hi, rfl, rfl⟩
          rw [hds, range_len]
          refine w_frz rfl rfl ?_
          simp only [frz_cons, frz_nil, fz1_fz, fz1_un, fz1_eq]
          rw [fz1_ne (by decide : (0 : Nat) ≠ 1)]
          generalize fz1 1 _ e7 = e7
          refine w_frz rfl rfl ?_
          simp only [frz_cons, frz_nil, fz1_fz, fz1_un, fz1_eq]
          walk_at "tlex"
          refine w_zipI (bT_nd _ _) ?_
          rw [zip_more (bT ((cb l).map not) l.gs.length) (dedS l) [frs l, las l] (ded_len l)]
          walk_at "tlex"
          refine W.of at_2 ?_
          walk_at "tlex"
          refine W.of at_1 ?_
          walk_at "tlex"
          exact q
end K74
end
/-! P74s -/
section
set_option maxHeartbeats 4000000
namespace K74
open PySem L2 TL
/-! ## bounds of an image's numbers -/
/-- all places with the base more -/
def fila (b : Int) (xs : List Int) (ks : List K3) : List Int := ks.foldl (fun xs p => xs.set p.1.toNat (b + p.2.2)) xs
theorem fil_agree {b : Int} {ad : List (Int × Int)} {n : Nat} : ∀ (ks : List K3) (xs ys : List Int), xs.length = ys.length → (∀ p ∈ ks, 0 ≤ p.1 ∧ (p.2.1 = ("own" : Str) ∨ p.1 < n)) → (∀ i, n ≤ i → xs[i]? = ys[i]?) → ∀ i, n ≤ i → (fil b ad xs ks)[i]? = (fila b ys ks)[i]?
  | [], xs, ys, _, _, h, i, hi => h i hi
  | k :: ks, xs, ys, hl, hk, h, i, hi => fil_agree ks (xs.set k.1.toNat (fval b ad k)) (ys.set k.1.toNat (b + k.2.2)) (by rw [List.length_set, List.length_set]; exact hl) (fun p hp => hk p (List.mem_cons_of_mem _ hp)) (fun j hj => by
    rw [List.getElem?_set, List.getElem?_set, hl, h j hj]
    obtain ⟨h0, q | q⟩ := hk k (List.mem_cons_self ..)
    · unfold fval
      rw [if_pos q]
    · rw [if_neg (by omega), if_neg (by omega)]) i hi
theorem pla_lo {l : Lb} (h : L2k l) : ∀ p ∈ plaI l, 0 ≤ p.1 ∧ (p.2.1 = ("own" : Str) ∨ p.1 < (l.us.length : Nat)) := by
  intro p hp
  refine ⟨(pla_in h p hp).1, ?_⟩
  unfold plaI at hp
  rcases List.mem_append.mp hp with hp | hp
  · exact .inr (pla0_in hp).2
  · exact .inl (plR_own _ _ p hp)
end K74
end
/-! P74t -/
section
set_option maxHeartbeats 4000000
namespace K74
open PySem L2 TL
/-! ## _law_filled -/
def nfr (l : Lb) : Nat := l.us.length + (cells l).length
theorem spots_le {l : Lb} (h : L2k l) : (spots l).length ≤ 8 := by
  unfold spots
  rw [spN_len]
  exact Nat.le_trans (bT_len _ _) h.gs
theorem nfr_le {l : Lb} (h : L2k l) : nfr l ≤ 16 := by
  have h1 := spots_le h
  rw [spots_len] at h1
  have := h.us
  unfold nfr
  omega
end K74
end
/-! P74u -/
section
set_option maxHeartbeats 4000000
namespace K74
open PySem L2 TL
/-! ## any data: sizes; is it whole numbers -/
mutual
theorem noSet_lay : ∀ d : PyData, d.canLay0 = true → noSet d = true
  | .none, _ => rfl
  | .bool _, _ => rfl
  | .int _, _ => rfl
  | .str _, _ => rfl
  | .list ds, h => by simp only [noSet]; exact noSet_layA ds (by simpa [PyData.canLay0] using h)
  | .tuple ds, h => by simp only [noSet]; exact noSet_layA ds (by simpa [PyData.canLay0] using h)
  | .dict _, h => by simp [PyData.canLay0] at h
theorem noSet_layA : ∀ ds : List PyData, PyData.canLayAll0 ds = true → noSetAll ds = true
  | [], _ => rfl
  | d :: ds, h => by
    have h' : d.canLay0 = true ∧ PyData.canLayAll0 ds = true := by simpa [PyData.canLayAll0] using h
    simp only [noSetAll, noSet_lay d h'.1, noSet_layA ds h'.2, Bool.and_self]
end
structure Ky (w k : Nat) (d : PyData) : Prop where
  ns : noSet d = true
  lv : d.leavesShort 40 = true
  dep : d.depth ≤ k
  shw : d.showable = true
  wgt : d.weight ≤ w
theorem Ky.mono {w k w' k' : Nat} {d : PyData} (h : Ky w k d) (a : w ≤ w') (b : k ≤ k') : Ky w' k' d := ⟨h.ns, h.lv, Nat.le_trans h.dep b, h.shw, Nat.le_trans h.wgt a⟩
theorem Ky.of {w k : Nat} {d : PyData} (h : Sx w k d) : Ky w k d := ⟨noSet_lay d h.lay, PyData.leavesShort_of_canLay0 40 d h.lay h.its, h.dep, h.shw, h.wgt⟩
theorem Ky.dct : Ky 0 1 (.dict []) := ⟨rfl, rfl, by decide +kernel, rfl, by decide +kernel⟩
theorem ky_ns : ∀ {ds : List PyData}, (∀ d ∈ ds, noSet d = true) → noSetAll ds = true
  | [], _ => rfl
  | d :: ds, h => by
    simp only [noSetAll, Bool.and_eq_true]
    exact ⟨h d List.mem_cons_self, ky_ns fun x hx => h x (List.mem_cons_of_mem _ hx)⟩
theorem ky_lv : ∀ {ds : List PyData}, (∀ d ∈ ds, d.leavesShort 40 = true) → PyData.leavesShortAll 40 ds = true
  | [], _ => rfl
  | d :: ds, h => by
    simp only [PyData.leavesShortAll, Bool.and_eq_true]
    exact ⟨h d List.mem_cons_self, ky_lv fun x hx => h x (List.mem_cons_of_mem _ hx)⟩
theorem Ky.lst {w k n : Nat} {ds : List PyData} (h : ∀ d ∈ ds, Ky w k d) (hl : ds.length ≤ n) : Ky (n * (w + 1)) (k + 1) (.list ds) := by
  have a := depth_all fun d hd => (h d hd).dep
  have b := wgt_all fun d hd => (h d hd).wgt
  have c := Nat.mul_le_mul_right (w + 1) hl
  exact ⟨by simp only [noSet]; exact ky_ns fun d hd => (h d hd).ns, by simp only [PyData.leavesShort]; exact ky_lv fun d hd => (h d hd).lv, by simp only [PyData.depth]; omega, by simp only [PyData.showable]; exact shw_all fun d hd => (h d hd).shw, by simp only [PyData.weight]; omega⟩
theorem Ky.tup {w k n : Nat} {ds : List PyData} (h : ∀ d ∈ ds, Ky w k d) (hl : ds.length ≤ n) : Ky (n * (w + 1)) (k + 1) (.tuple ds) := by
  have a := depth_all fun d hd => (h d hd).dep
  have b := wgt_all fun d hd => (h d hd).wgt
  have c := Nat.mul_le_mul_right (w + 1) hl
  exact ⟨by simp only [noSet]; exact ky_ns fun d hd => (h d hd).ns, by simp only [PyData.leavesShort]; exact ky_lv fun d hd => (h d hd).lv, by simp only [PyData.depth]; omega, by simp only [PyData.showable]; exact shw_all fun d hd => (h d hd).shw, by simp only [PyData.weight]; omega⟩
theorem Ky.w {w k : Nat} {d : PyData} {R : PyData → Prop} (h : Ky w k d) (hw : w ≤ 300000) (hk : k ≤ 62) (q : R (.str d.shown)) : W (reprY [d]) R := by
  have g := h.wgt
  have g2 := PyData.shown_le 40 (by decide) d h.lv
  have g3 := Nat.mul_le_mul_left (40 + 2) (Nat.le_trans g hw)
  exact w_reprY h.ns h.shw (Nat.le_trans h.dep hk) (Nat.le_trans (Nat.le_trans g2 (show (40 + 2) * d.weight + 40 ≤ 13000000 by omega)) (by decide)) q
def whI : PyData → Bool
  | .int _ => true
  | _ => false
def wholes : PyData → Bool
  | .list ds => ds.all whI
  | _ => false
theorem noSet_top {d : PyData} (h : noSet d = true) : isSetD d = false := by
  cases d <;> first | rfl | skip
  simp only [noSet, Bool.and_eq_true] at h
  simpa using h.1
theorem noSet_in : ∀ {ds : List PyData}, noSetAll ds = true → ∀ d ∈ ds, noSet d = true
  | d :: ds, h, x, hx => by
    simp only [noSetAll, Bool.and_eq_true] at h
    rcases List.mem_cons.mp hx with q | q
    · rw [q]; exact h.1
    · exact noSet_in h.2 x q
theorem iswhole_any {d : PyData} {Q : PyData → Prop} (hS : isSetD d = false) (q : Q (.bool (whI d))) : W (m_is_whole [d]) Q := by
  unfold m_is_whole b_is_whole
  walk_at "tlex"
  refine w_isi_int ?_ hS
  refine ⟨_, rfl, fun h => ?_, fun h => ?_⟩
  · walk_at "tlex"
    refine w_isi_bool ?_ hS
    walk_at "tlex"
    have e : (!isT "bool" d) = whI d := by
      revert h
      cases d <;> simp [isT, whI]
    rw [e]
    exact q
  · walk_at "tlex"
    have e : false = whI d := by
      revert h
      cases d <;> simp [isT, whI]
    rw [e]
    exact q
theorem wholes_ints {d : PyData} (h : wholes d = true) : ∃ zs : List Int, d = iL zs := by
  cases d <;> first | (cases h; done) | skip
  rename_i ds
  have go : ∀ ds : List PyData, ds.all whI = true → ∃ zs : List Int, ds = zs.map .int := by
    intro ds
    induction ds with
    | nil => exact fun _ => ⟨[], rfl⟩
    | cons x xs ih =>
      intro h
      rw [List.all_cons, Bool.and_eq_true] at h
      obtain ⟨zs, e⟩ := ih h.2
      cases x <;> first | (cases h.1; done) | skip
      rename_i k
      exact ⟨k :: zs, by rw [e]; rfl⟩
  obtain ⟨zs, e⟩ := go ds h
  exact ⟨zs, by rw [e]⟩
theorem wholes_iL (zs : List Int) : wholes (iL zs) = true := by
  show (zs.map PyData.int).all whI = true
  rw [List.all_eq_true]
  intro d hd
  obtain ⟨z, _, rfl⟩ := List.mem_map.mp hd
  rfl
theorem w_neX_ii {j k : Int} {R : PyData → Prop} (q : R (.bool (!decide (j = k)))) : W (neX (.int j) (.int k)) R := by
  refine w_neD (shaped_i j) (shaped_i k) ?_
  have e : PyData.eqv (.int j) (.int k) = decide (j = k) := by
    rw [Bool.eq_iff_iff, decide_eq_true_iff]
    simp [PyData.eqv]
  rw [e]
  exact q
/-! ## what is wrong -/
def wrL (n0 : Nat) (ts xs : List Int) : List Nat := ((List.range (ts.length - n0)).map fun k => n0 + k).filter fun k => decide (ts[k]? ≠ xs[k]?)
def wrR : List Nat → PyData
  | [] => .none
  | k :: _ => .int (k : Int)
def intsOf : PyData → List Int
  | .list ds => ds.map intOf
  | _ => []
def resD (l : Lb) (b : Int) (d : PyData) : PyData := if (wholes d && decide ((intsOf d).length = (numI l).length)) = true then wrR (wrL (nfr l) (intsOf d) (fila b (numI l) (plaI l))) else .int (-1)
theorem intsOf_iL (zs : List Int) : intsOf (iL zs) = zs := by
  show (zs.map PyData.int).map intOf = zs
  rw [List.map_map]
  exact List.map_id _
theorem resD_no {l : Lb} {b : Int} {d : PyData} (h : wholes d = false) : resD l b d = .int (-1) := by
  unfold resD
  rw [h]
  rfl
end K74
end
/-! P74v -/
section
set_option maxHeartbeats 4000000
namespace K74
open PySem L2 TL
/-! ## wrong_place -/
theorem all_w {ds : List PyData} {i : Nat} {x : PyData} (hx : ds[i]? = some x) : (ds.take (i + 1)).map (fun d => PyData.bool (whI d)) = (ds.take i).map (fun d => PyData.bool (whI d)) ++ [.bool (whI x)] := by
  rw [List.take_add_one, hx]
  simp
def adz (n : Nat) : List (Int × Int) := (List.range n).map fun k : Nat => ((k : Int), (0 : Int))
theorem adz_1 (n : Nat) : (adz n).map (·.1) = (List.range n).map fun k : Nat => (k : Int) := by
  unfold adz
  rw [List.map_map]
  rfl
theorem adz_nin (n : Nat) : (n : Int) ∉ (adz n).map (·.1) := fun h => by
  rw [adz_1] at h
  obtain ⟨k, hk, e⟩ := List.mem_map.mp h
  have := List.mem_range.mp hk
  have e : (k : Int) = n := e
  omega
theorem adz_succ (n : Nat) : adz (n + 1) = adz n ++ [((n : Int), (0 : Int))] := by
  unfold adz
  rw [List.range_succ, List.map_append]
  rfl
theorem adz_has {l : Lb} : ∀ p ∈ plaI l, p.2.1 = ("own" : Str) ∨ p.2.2 ∈ (adz l.us.length).map (·.1) := fun p hp => by
  rcases pla_kd p hp with q | ⟨_, q⟩
  · exact .inl q
  · refine .inr ?_
    rw [adz_1]
    unfold keysC at q
    obtain ⟨k, hk, e⟩ := List.mem_map.mp q
    exact List.mem_map.mpr ⟨k, (List.mem_filter.mp hk).1, e⟩
theorem wrL_step {n0 : Nat} {ts xs : List Int} {i : Nat} (h : i < ts.length - n0) : ((((List.range (ts.length - n0)).map fun k => n0 + k).take (i + 1)).filter fun k => decide (ts[k]? ≠ xs[k]?)) = ((((List.range (ts.length - n0)).map fun k => n0 + k).take i).filter fun k => decide (ts[k]? ≠ xs[k]?)) ++ if ts[n0 + i]? ≠ xs[n0 + i]? then [n0 + i] else [] := by
  rw [List.take_add_one, List.getElem?_map, List.getElem?_range h, List.filter_append]
  congr 1
  show List.filter _ [n0 + i] = _
  rw [List.filter_cons]
  by_cases hq : ts[n0 + i]? ≠ xs[n0 + i]?
  · rw [decide_eq_true hq, if_pos rfl, if_pos hq]
    rfl
  · rw [decide_eq_false hq, if_neg (by decide), if_neg hq]
    rfl
theorem wrL_congr {n0 : Nat} {ts xs ys : List Int} (h : ∀ i, n0 ≤ i → xs[i]? = ys[i]?) : wrL n0 ts xs = wrL n0 ts ys := by
  unfold wrL
  refine List.filter_congr fun k hk => ?_
  obtain ⟨j, _, rfl⟩ := List.mem_map.mp hk
  rw [h (n0 + j) (Nat.le_add_right _ _)]
theorem at_int {ts : List Int} {k : Nat} {v : Int} (h : ts[k]? = some v) : atI (ts.map PyData.int) (k : Int) = some (.int v) := by
  obtain ⟨hl, e⟩ := List.getElem?_eq_some_iff.mp h
  rw [atI_in (Int.natCast_nonneg _) (by rw [List.length_map]; omega)]
  simp only [Int.toNat_natCast, List.getElem_map, e]
theorem wrongplace_w {l : Lb} {b : Int} {d : PyData} {Q : PyData → Prop} (h : L2k l) (hs : noSet d = true) (hl : ∀ ds, d = .list ds → ds.length ≤ 900) (q : Q (resD l b d)) : W (m_wrong_place [l.d, .int b, d]) Q := by
  have hin := pla_in h
  have hul := h.us
  unfold m_wrong_place b_wrong_place
  walk_at "tlex"
  refine image_w h ?_
  walk_at "tlex"
  refine w_if (w_or (w_not ?_))
  walk_at "tlex"
  refine w_isi_list ?_ (noSet_top hs)
  walk_at "tlex"
  by_cases hd : ∃ ds, d = .list ds
  · obtain ⟨ds, rfl⟩ := hd
    have h9 := hl ds rfl
    simp only [noSet] at hs
    refine ⟨fun z => (by cases z), fun _ => ?_⟩
    walk_at "tlex"
    refine w_neX_ii ?_
    walk_at "tlex"
    rw [List.length_map]
    refine ⟨fun z => ?_, fun z => ?_⟩
    · walk_at "tlex"
      have e : resD l b (.list ds) = .int (-1) := by
        unfold resD
        rw [show (intsOf (.list ds)).length = ds.length from List.length_map _]
        have : decide (ds.length = (numI l).length) = false := by
          have : ¬ ((ds.length : Int) = ((numI l).length : Int)) := by simpa using z
          exact decide_eq_false (by omega)
        rw [this, Bool.and_false]
        rfl
      rw [e] at q
      exact q
    · have hlen : ds.length = (numI l).length := by
        have : (ds.length : Int) = ((numI l).length : Int) := by simpa using z
        omega
      walk_at "tlex"
      refine w_if (w_not ?_)
      walk_at "tlex"
      refine w_lcI (fun zs i acc m => zs = ds ∧ i ≤ ds.length ∧ acc = (ds.take i).map (fun d => .bool (whI d)) ∧ m = []) ?_
      walk_at "tlex"
      refine ⟨⟨by trivial, Nat.zero_le _, rfl, by trivial⟩, ?_, ?_⟩
      · rintro i x m acc hx ⟨_, hi, rfl, rfl⟩
        have hlt := (List.getElem?_eq_some_iff.mp hx).1
        simp only [wipeR]
        walk_at "tlex"
        refine ⟨fun _ => ?_, fun z => by cases z⟩
        walk_at "tlex"
        refine iswhole_any (noSet_top (noSet_in hs x (List.mem_of_getElem? hx))) ?_
        refine ⟨lt_line (by simp only [List.length_map, List.length_take]; omega), by trivial, hlt, (all_w hx).symm, by trivial⟩
      · rintro acc m ⟨_, hi, rfl, rfl⟩
        rw [List.take_length]
        walk_at "tlex"
        refine W.of (allD_map whI ds) ?_
        have e : (ds.map whI).all id = wholes (.list ds) := by rw [List.all_map]; rfl
        rw [e]
        walk_at "tlex"
        refine ⟨fun z => ?_, fun z => ?_⟩
        · have hw : wholes (.list ds) = false := by simpa using z
          walk_at "tlex"
          rw [resD_no hw] at q
          exact q
        · have hw : wholes (.list ds) = true := by simpa using z
          obtain ⟨ts, ets⟩ := wholes_ints hw
          cases ets
          rw [List.length_map] at hlen
          walk_at "tlex"
          refine begins_w h ?_
          walk_at "tlex"
          refine TX.w_lenM (noSI _) ?_
          walk_at "tlex"
          refine w_dcN (fun ds i qs m => ds = rangeD 0 l.us.length ∧ i ≤ l.us.length ∧ qs = iV (adz i) ∧ m = []) ?_
          walk_at "tlex"
          refine ⟨_, rfl, by rw [List.length_map]; omega, ⟨by rw [List.length_map, Int.toNat_natCast], Nat.zero_le _, rfl, by trivial⟩, ?_, ?_⟩
          · rintro i d m qs hx ⟨hds, hi, rfl, rfl⟩
            obtain ⟨hlt, rfl⟩ := range_at hx
            rw [List.length_map, Int.toNat_natCast] at hlt
            rw [Int.zero_add]
            simp only [wipeR]
            walk_at "tlex"
            refine ⟨_, rfl, lt_line (by unfold adz; rw [List.length_map, List.length_map, List.length_range]; omega), hds, hlt, ?_, by trivial⟩
            rw [putI_iV (adz_nin i), adz_succ]
          · rintro qs m ⟨hds, hi, rfl, rfl⟩
            rw [hds, range_len]
            walk_at "tlex"
            refine filled_w hin adz_has ?_
            walk_at "tlex"
            have hsp : (dI (iV (spots l))).length = (cells l).length := by rw [List.length_map, List.length_map, spots_len]
            rw [hsp, List.length_map]
            have hn := nfr_le h
            have hnf : ((l.us.length : Int) + ((cells l).length : Int)) = (nfr l : Nat) := by unfold nfr; push_cast; rfl
            rw [hnf]
            have hL : (fil b (adz l.us.length) (numI l) (plaI l)).length = ts.length := by rw [fil_len, hlen]
            have hag := fil_agree (b := b) (ad := adz l.us.length) (plaI l) (numI l) (numI l) rfl (pla_lo h) (fun _ _ => rfl)
            generalize fil b (adz l.us.length) (numI l) (plaI l) = X at hL hag ⊢
            have hq : resD l b (iL ts) = wrR (wrL (nfr l) ts X) := by
              unfold resD
              rw [intsOf_iL, hw, decide_eq_true hlen, if_pos (by rfl), wrL_congr (fun i hi => hag i (by unfold nfr at hi; omega))]
            rw [hq] at q
            rw [List.length_map] at h9
            refine w_lcI (fun ds i acc m => ds = rangeD (nfr l : Nat) (ts.length - nfr l) ∧ i ≤ ts.length - nfr l ∧ acc = ((((List.range (ts.length - nfr l)).map fun k => nfr l + k).take i).filter fun k => decide (ts[k]? ≠ X[k]?)).map (fun k : Nat => PyData.int (k : Int)) ∧ m = [some (iL X)]) ?_
            walk_at "tlex"
            refine w_lenO rfl rfl ?_
            walk_at "tlex"
            rw [List.length_map, hL]
            refine ⟨_, _, rfl, by omega, ⟨by rw [show ((ts.length : Int) - (nfr l : Nat)).toNat = ts.length - nfr l by omega], Nat.zero_le _, rfl, by trivial⟩, ?_, ?_⟩
            · rintro i d m acc hx ⟨hds2, hi, rfl, rfl⟩
              rw [hds2] at hx
              obtain ⟨hlt, rfl⟩ := range_at hx
              have hk : nfr l + i < ts.length := by omega
              obtain ⟨t, ht⟩ : ∃ t, ts[nfr l + i]? = some t := ⟨_, List.getElem?_eq_getElem hk⟩
              obtain ⟨x, hx2⟩ : ∃ x, X[nfr l + i]? = some x := ⟨_, List.getElem?_eq_getElem (by omega)⟩
              have hst := wrL_step (ts := ts) (xs := X) (n0 := nfr l) hlt
              have hkk : ((nfr l : Nat) : Int) + (i : Nat) = ((nfr l + i : Nat) : Int) := by push_cast; rfl
              rw [hkk]
              simp only [wipeR]
              walk_at "tlex"
              refine W.of (at_int ht) ?_
              walk_at "tlex"
              refine W.of (at_int hx2) ?_
              walk_at "tlex"
              refine w_neX_ii ?_
              walk_at "tlex"
              have hbl : ((((List.range (ts.length - nfr l)).map fun k => nfr l + k).take i).filter fun k => decide (ts[k]? ≠ X[k]?)).length ≤ i := Nat.le_trans (List.length_filter_le _ _) (by rw [List.length_take]; omega)
              refine ⟨fun z => ?_, fun z => ⟨hds2, hlt, ?_, by trivial⟩⟩
              · have hne : ¬ t = x := by simpa using z
                walk_at "tlex"
                refine ⟨lt_line (by rw [List.length_map]; omega), hds2, hlt, ?_, by trivial⟩
                rw [hst, if_pos (by rw [ht, hx2]; exact fun e => hne (Option.some.inj e)), List.map_append]
                rfl
              · have he : t = x := by simpa using z
                rw [hst, if_neg (by rw [ht, hx2, he]; exact fun e => e rfl), List.append_nil]
            · rintro acc m ⟨hds2, hi, rfl, rfl⟩
              have et : (((List.range (ts.length - nfr l)).map fun k => nfr l + k).take (rangeD ((nfr l : Nat) : Int) ((ts.length : Int) - (nfr l : Nat)).toNat).length) = (List.range (ts.length - nfr l)).map fun k => nfr l + k := List.take_of_length_le (by rw [range_len, List.length_map, List.length_range]; omega)
              rw [et]
              have ew0 : ((List.range (ts.length - nfr l)).map fun k => nfr l + k).filter (fun k => decide (ts[k]? ≠ X[k]?)) = wrL (nfr l) ts X := rfl
              rw [ew0]
              walk_at "tlex"
              cases ewl : wrL (nfr l) ts X with
              | nil =>
                rw [ewl] at q
                refine ⟨fun z => (by cases z), fun _ => ?_⟩
                walk_at "tlex"
                exact q
              | cons k ks =>
                rw [ewl] at q
                refine ⟨fun _ => ?_, fun z => (by cases z)⟩
                walk_at "tlex"
                exact q
  · have e : isT "list" d = false := by
      cases d <;> first | rfl | exact absurd ⟨_, rfl⟩ hd
    have hw : wholes d = false := by
      cases d <;> first | rfl | exact absurd ⟨_, rfl⟩ hd
    rw [resD_no hw] at q
    rw [e]
    refine ⟨fun _ => ⟨fun _ => ?_, fun z => (by cases z)⟩, fun z => (by cases z)⟩
    walk_at "tlex"
    exact q
end K74
end
/-! P74N -/
section
set_option maxHeartbeats 4000000
namespace K74
open PySem L2 TL
/-- the figures of a number -/
def digs (n : Nat) : List Nat := if h : n = 0 then [] else digs (n / 36) ++ [n % 36]
termination_by n
decreasing_by omega
theorem digs_0 : digs 0 = [] := by rw [digs]; rfl
theorem digs_s {n : Nat} (h : n ≠ 0) : digs n = digs (n / 36) ++ [n % 36] := by rw [digs, dif_neg h]
theorem digs_lt : ∀ (n d : Nat), d ∈ digs n → d < 36 := by
  intro n
  induction n using Nat.strongRecOn with
  | _ n ih =>
    intro d h
    by_cases hn : n = 0
    · rw [hn, digs_0] at h; cases h
    · rw [digs_s hn] at h
      rcases List.mem_append.mp h with h | h
      · exact ih (n / 36) (by omega) d h
      · rw [List.mem_singleton] at h; omega
theorem digs_len : ∀ (k n : Nat), n < 36 ^ k → (digs n).length ≤ k := by
  intro k
  induction k with
  | zero => intro n h; have : n = 0 := by omega
            rw [this, digs_0]; exact Nat.le_refl 0
  | succ k ih =>
    intro n h
    by_cases hn : n = 0
    · rw [hn, digs_0]; exact Nat.zero_le _
    · rw [digs_s hn, List.length_append, List.length_singleton]
      have := ih (n / 36) (by rw [Nat.pow_succ] at h; omega)
      omega
theorem digs_num : ∀ l : List Nat, (∀ d ∈ l, d < 36 ∧ 0 < d) → digs (num l) = l := by
  refine revInd (fun _ => digs_0) fun l d ih h => ?_
  · have h1 := ih fun x hx => h x (List.mem_append_left _ hx)
    have h2 := h d (by simp)
    rw [num_app, digs_s (by omega), show (num l * 36 + d) / 36 = num l by omega, show (num l * 36 + d) % 36 = d by omega, h1]
/-! ### the numbers of names -/
theorem at26 {d : Nat} (h : d < 36) (h' : 10 ≤ d) : atI LET.cps.toList ((d : Int) - 10) = some (sg d) := by
  have hl : LET.cps.toList.length = 26 := by decide +kernel
  have e : ∀ d : _root_.Fin 36, 10 ≤ d.val → LET.cps.toList[d.val - 10]? = some (sg d.val) := by decide +kernel
  unfold atI ixN
  rw [hl, if_pos (by omega), if_pos (by omega)]
  have e1 : ((d : Int) - 10).toNat = d - 10 := by omega
  simp only [Option.bind_some, e1]
  exact e ⟨d, h⟩ h'
/-- just letters, one to eight -/
def isN (l : List Nat) : Bool := decide (1 ≤ l.length) && (decide (l.length ≤ 8) && l.all fun d => decide (10 ≤ d))
/-- the name that has the number -/
def nmD (n : Int) : PyData := if isN (digs n.toNat) = true then .str (txt (digs n.toNat)) else .none
theorem txt_cons (d : Nat) (l : List Nat) : txt (d :: l) = one d ++ txt l := txt_app [d] l
theorem num_digs (n : Nat) : num (digs n) = n := by
  induction n using Nat.strongRecOn with
  | _ n ih =>
    by_cases hn : n = 0
    · rw [hn, digs_0]; rfl
    · rw [digs_s hn, num_app, ih (n / 36) (by omega)]
      omega
theorem p8 : (36 : Nat) ^ 8 = 2821109907456 := by decide +kernel
theorem digs_ge {n : Nat} (h : 2821109907456 ≤ n) : 9 ≤ (digs n).length := by
  by_cases hl : (digs n).length ≤ 8
  · have h1 := num_lt (digs n) fun d hd => digs_lt n d hd
    rw [num_digs] at h1
    have h2 : 36 ^ (digs n).length ≤ 36 ^ 8 := Nat.pow_le_pow_right (by decide) hl
    rw [p8] at h2
    omega
  · omega
theorem nm_lo {n : Int} (h : n < 10) : nmD n = .none := by
  unfold nmD
  rw [if_neg]
  intro q
  by_cases h0 : n.toNat = 0
  · rw [h0, digs_0] at q; exact absurd q (by decide)
  · rw [digs_s h0, show n.toNat / 36 = 0 by omega, digs_0, show n.toNat % 36 = n.toNat by omega] at q
    unfold isN at q
    simp at q
    omega
theorem nm_hi {n : Int} (h : 2821109907456 ≤ n) : nmD n = .none := by
  unfold nmD
  rw [if_neg]
  intro q
  have := digs_ge (n := n.toNat) (by omega)
  unfold isN at q
  simp at q
  omega
theorem nm_bad {n : Int} {d : Nat} (h : d ∈ digs n.toNat) (hd : d < 10) : nmD n = .none := by
  unfold nmD
  rw [if_neg]
  intro q
  unfold isN at q
  simp at q
  have := q.2.2 d h
  omega
theorem join_one : ∀ l : List Nat, Txt.join "" (l.map one) = txt l := by
  intro l
  rw [join_eq]
  induction l with
  | nil => rfl
  | cons d l ih =>
    cases l with
    | nil => rfl
    | cons e l =>
      have e0 : Str.join "" ((d :: e :: l).map one) = one d ++ "" ++ Str.join "" ((e :: l).map one) := rfl
      rw [e0, ih, txt_cons d (e :: l)]
      have e1 : one d ++ (Str.ofString "") = one d := by
        unfold one
        rfl
      rw [e1]
theorem name_of_w {n : Int} (hn : n.toNat < 36 ^ 30) {Q : PyData → Prop} (h : Q (nmD n)) : W (m_name_of [.int n]) Q := by
  unfold m_name_of b_name_of
  refine w_runD ?_
  walk_at "tlex"
  refine w_if ?_
  walk_at "tlex"
  refine ⟨_, rfl, fun h1 => ⟨fun _ => ?_, fun z => (by cases z)⟩, fun h1 => ?_⟩
  · walk_at "tlex"
    rw [nm_lo (by have := of_decide_eq_false h1; omega)] at h
    exact h
  have h1 := of_decide_eq_true h1
  walk_at "tlex"
  refine w_pow_i (by decide +kernel) ?_
  rw [show (36 : Int) ^ (8 : Int).toNat = 2821109907456 by decide +kernel]
  walk_at "tlex"
  refine ⟨fun h2 => ?_, fun h2 => ?_⟩
  · have h2 : ¬ n < 2821109907456 := by simpa using h2
    walk_at "tlex"
    rw [nm_hi (by omega)] at h
    exact h
  have h2 : n < 2821109907456 := by simpa using h2
  walk_at "tlex"
  refine w_while (fun k r m => ∃ (z : Int) (suf : List Nat) (e2 : Sl), k = (digs z.toNat).length ∧ digs n.toNat = digs z.toNat ++ suf ∧ (∀ d ∈ suf, 10 ≤ d) ∧ z ≤ n ∧ r = [.fz (.int z), .ow 0, e2] ∧ m = [some (.list (suf.reverse.map fun d => .str (one d)))]) ?_ 10000 (digs n.toNat).length _ _ ?_ ?_
  · rintro k r m ⟨z, suf, e2, hk, hd, hsuf, hzn, rfl, rfl⟩
    have hl := congrArg List.length hd
    rw [List.length_append] at hl
    have hs : (digs n.toNat).length ≤ 30 := digs_len 30 _ hn
    walk_at "tlex"
    refine ⟨fun hz => ?_, fun hz => ?_⟩
    · have hz := of_decide_eq_true hz
      have e := digs_s (n := z.toNat) (by omega)
      have e1 : (z / 36).toNat = z.toNat / 36 := by omega
      have hmem : z.toNat % 36 ∈ digs n.toNat := by
        rw [hd, e]
        simp
      refine ⟨(digs (z / 36).toNat).length, by rw [hk, e, List.length_append, e1]; rfl, ?_⟩
      walk_at "tlex"
      refine w_divmod (by decide) (Nat.le_trans (bits64 (by omega) (by omega)) (by decide)) ?_
      walk_at "tlex"
      refine w_if ?_
      walk_at "tlex"
      have e3 : z % 36 = ((z.toNat % 36 : Nat) : Int) := by omega
      rw [e3]
      generalize hdg : z.toNat % 36 = d at *
      refine ⟨fun hw => ?_, fun hw => ?_⟩
      · have hw := of_decide_eq_true hw
        walk_at "tlex"
        rw [nm_bad hmem (by omega)] at h
        exact h
      · have hw := of_decide_eq_false hw
        walk_at "tlex"
        refine w_app rfl rfl ?_
        walk_at "tlex"
        refine w_ix_s (by decide +kernel) ?_
        refine W.of (at26 (d := d) (by omega) (by omega)) ?_
        walk_at "tlex"
        refine ⟨_, rfl, lt_line (by rw [List.length_map, List.length_reverse]; omega), z / 36, d :: suf, _, rfl, ?_, ?_, by omega, rfl, ?_⟩
        · rw [hd, e, e1, List.append_assoc]
          rfl
        · intro x hx
          rcases List.mem_cons.mp hx with q | q
          · rw [q]; omega
          · exact hsuf x q
        · rw [List.reverse_cons, List.map_append]
          rfl
    · have hz := of_decide_eq_false hz
      walk_at "tlex"
      have e : digs z.toNat = [] := by rw [show z.toNat = 0 by omega, digs_0]
      rw [e, List.nil_append] at hd
      refine w_frz rfl rfl ?_
      simp only [frz_cons, frz_nil, fz1_fz, fz1_un, fz1_eq]
      walk_at "tlex"
      refine ⟨_, rfl, ?_⟩
      walk_at "tlex"
      refine w_rev_l ?_
      rw [← List.map_reverse, List.reverse_reverse]
      have e4 : (suf.map fun d => PyData.str (one d)) = (suf.map one).map .str := by rw [List.map_map]; rfl
      rw [e4]
      walk_at "tlex"
      have e5 : ((suf.map one).map (·.length)).sum = suf.length := by
        rw [List.map_map]
        have : ((fun x : Str => x.length) ∘ one : Nat → Nat) = fun _ => 1 := rfl
        rw [this]
        have : ∀ l : List Nat, (l.map fun _ => 1).sum = l.length := fun l => by induction l with
          | nil => rfl
          | cons a l ih => rw [List.map_cons, List.sum_cons, ih, List.length_cons]; omega
        exact this suf
      refine w_join ?_ ?_
      · rw [e5, List.length_map]
        have : (("" : Str)).length = 0 := rfl
        rw [this]
        omega
      · rw [join_one]
        unfold nmD at h
        rw [hd, if_pos] at h
        · walk_at "tlex"
          exact h
        · have h8 : suf.length ≤ 8 := by
            rw [← hd]
            exact digs_len 8 _ (by rw [p8]; omega)
          have h0 : 1 ≤ suf.length := by
            rw [← hd, digs_s (by omega), List.length_append]
            simp
          unfold isN
          rw [decide_eq_true h0, decide_eq_true h8]
          simpa using hsuf
  · have hs : (digs n.toNat).length ≤ 30 := digs_len 30 _ hn
    omega
  · exact ⟨n, [], _, rfl, by rw [List.append_nil], fun d hd => (by cases hd), by omega, rfl, rfl⟩
/-- the law's own -/
theorem nm_num {l : List Nat} (hl : ∀ d ∈ l, d < 36 ∧ 10 ≤ d) (h1 : 1 ≤ l.length) (h2 : l.length ≤ 8) : nmD (num l : Int) = .str (txt l) := by
  have e : digs ((num l : Int)).toNat = l := by rw [Int.toNat_natCast]; exact digs_num l fun d hd => ⟨(hl d hd).1, by have := (hl d hd).2; omega⟩
  unfold nmD
  rw [e, if_pos]
  unfold isN
  rw [decide_eq_true h1, decide_eq_true h2]
  simpa using fun d hd => (hl d hd).2
end K74
end
/-! P74B -/
section
set_option maxHeartbeats 4000000
namespace K74
open PySem L2 TL
/-! ## a row read back -/
def fr (b : Int) (d : PyData) : List Int := if rp d = true then (rn d).set 1 (b + arg1 d) else rn d
abbrev wdsD : PyData := .list (WD9.map .str)
abbrev rcE : Ev := eIf (eT blD (eBin inD (eV 6) (eTup (eCons (eC (.int 1)) (eCons (eC (.int 2)) (eCons (eC (.int 5)) (eCons (eC (.int 6)) (eCons (eC (.int 7)) (eCons (eC (.int 8)) (eCons (eC (.int 11)) eNil)))))))))) (eLst (eCons (eV 7) eNil)) (eLst (eCons (eV 7) (eCons (eV 8) eNil)))
abbrev chS : Es := sIf (eOr (eT blD (eChain ltD ltD (eC (.int 1)) (eV 6) (eC (.int 6)))) (eT blD (eBin eqX (eV 6) (eC (.int 11))))) (sPut 5 (eBin subD (eV 7) (eV 1)) (eC (.int 0))) (sIf (eT blD (eBin gtD (eV 6) (eC (.int 5)))) (sSetF 5 (eLcO 5 [9] (hNm 9) eYes (eMap (eCons (eV 9) eNil) (arN 1 m_name_of)))) sNil)
abbrev enS : Es := sSeq (sApp 4 (eBin addD (eTup (eCons (eBin ixD (eV 3) (eBin subD (eV 6) (eC (.int 1)))) eNil)) (eSeqO 5 .tuple))) (sSet 2 (eBin addD (eV 2) (eC (.int 3))))
section
variable {F e5 e7 e8 e9 : Sl} {b a c x y : Int} {acc L : List PyData} {g : Ms} {Q : Out → Prop} {w : Str} {j : Nat}
theorem any_ints (z : Int) : ∀ zs : List Int, ((zs.map PyData.int).any fun d => PyData.eqv d (.int z)) = decide (z ∈ zs)
  | [] => by simp
  | x :: xs => by
    have e : PyData.eqv (.int x) (.int z) = decide (x = z) := by
      rw [Bool.eq_iff_iff, decide_eq_true_iff]
      simp [PyData.eqv]
    rw [List.map_cons, List.any_cons, any_ints z xs, e, Bool.eq_iff_iff, Bool.or_eq_true, decide_eq_true_iff, decide_eq_true_iff, decide_eq_true_iff, List.mem_cons]
    exact ⟨fun h => h.imp Eq.symm id, fun h => h.imp Eq.symm id⟩
theorem inT_w (z : Int) (zs : List Int) : inD (.int z) (.tuple (zs.map .int)) = some (.bool (decide (z ∈ zs))) := by
  have hf : (zs.map PyData.int).all flatD = true := by
    rw [List.all_eq_true]
    intro d hd
    obtain ⟨x, _, rfl⟩ := List.mem_map.mp hd
    rfl
  show (if flatD (.int z) = true ∧ (zs.map PyData.int).all flatD = true then some ((zs.map PyData.int).any fun w => PyData.eqv w (.int z)) else none).map PyData.bool = _
  rw [if_pos ⟨rfl, hf⟩, any_ints]
  rfl
theorem rc_w {m : Ms} {R : PyData × Ms → Prop} (q : R (.list (if c ∈ [(1 : Int), 2, 5, 6, 7, 8, 11] then [.int x] else [.int x, .int y]), m)) : W (rcE [F, .fz (.int b), .fz (.int a), .fz wdsD, .ow 0, e5, .fz (.int c), .fz (.int x), .fz (.int y), e9] m) R := by
  refine w_eIf (w_T (w_bin (w_V rfl ?_)))
  refine w_tup (w_cons (w_C (w_cons (w_C (w_cons (w_C (w_cons (w_C (w_cons (w_C (w_cons (w_C (w_cons (w_C (w_nil ⟨?_, W.of (inT_w c [1, 2, 5, 6, 7, 8, 11]) (w_bl ⟨fun h => ?_, fun h => ?_⟩)⟩)))))))))))))))
  · rw [sizeLine_eq]; exact (by decide : (7 : Nat) ≤ 16777216)
  · rw [if_pos (of_decide_eq_true h)] at q
    exact w_lst (w_cons (w_V rfl (w_nil ⟨by rw [sizeLine_eq]; exact (by decide : (1 : Nat) ≤ 16777216), q⟩)))
  · rw [if_neg (of_decide_eq_false h)] at q
    exact w_lst (w_cons (w_V rfl (w_cons (w_V rfl (w_nil ⟨by rw [sizeLine_eq]; exact (by decide : (2 : Nat) ≤ 16777216), q⟩)))))
theorem ch_w {m : Ms} {r : Rs} {QB : Bool × Ms → Prop} (e6 : r[6]? = some (.fz (.int c))) (q : QB (decide ((1 < c ∧ c < 6) ∨ c = 11), m)) : W (eOr (eT blD (eChain ltD ltD (eC (.int 1)) (eV 6) (eC (.int 6)))) (eT blD (eBin eqX (eV 6) (eC (.int 11)))) r m) QB := by
  have last : ¬ (1 < c ∧ c < 6) → W (eT blD (eBin eqX (eV 6) (eC (.int 11))) r m) QB := fun h => by
    refine w_T (w_bin (w_V e6 (w_C (w_eqX_ii (w_bl ?_)))))
    have e : decide ((1 < c ∧ c < 6) ∨ c = 11) = decide (c = 11) := by apply decide_eq_decide.mpr; exact ⟨fun z => z.resolve_left h, .inr⟩
    rw [e] at q
    exact q
  refine w_or (w_T (w_chain (w_C (w_V e6 (w_lt_i ⟨_, rfl, fun h1 => w_bl ⟨fun z => (by cases z), fun _ => last fun z => ?_⟩, fun h1 => w_C (w_lt_i (w_bl ⟨fun h2 => ?_, fun h2 => last fun z => ?_⟩))⟩)))))
  · exact absurd z.1 (of_decide_eq_false h1)
  · have e : decide ((1 < c ∧ c < 6) ∨ c = 11) = true := decide_eq_true (.inl ⟨of_decide_eq_true h1, of_decide_eq_true h2⟩)
    rw [e] at q
    exact q
  · exact absurd z.2 (of_decide_eq_false h2)
theorem en_w (hl : acc.length ≤ 20) (hL : L.length ≤ 3) (hj : cellAt (some (.list acc) :: g) j = some (.list L)) (hw : atI (WD9.map PyData.str) (c - 1) = some (.str w))
    (q : Q (.nx [F, .fz (.int b), .fz (.int (a + 3)), .fz wdsD, .ow 0, .ow j, .fz (.int c), e7, e8, e9] (some (.list (acc ++ [.tuple (.str w :: L)])) :: g))) :
    W (enS [F, .fz (.int b), .fz (.int a), .fz wdsD, .ow 0, .ow j, .fz (.int c), e7, e8, e9] (some (.list acc) :: g)) Q := by
  unfold enS
  refine w_seq (w_app (a := 0) rfl rfl ?_)
  refine w_bin (w_tup (w_cons (w_bin (w_V rfl (w_bin (w_V rfl (w_C (w_sub_i (w_ix_l (W.of hw (w_nil ⟨?_, ?_⟩)))))))))))
  · rw [sizeLine_eq]; exact (by decide : (1 : Nat) ≤ 16777216)
  refine w_seqO rfl hj (w_add_t ?_ ?_)
  · rw [sizeLine_eq, List.length_singleton]; omega
  refine ⟨acc, rfl, by rw [sizeLine_eq]; omega, ?_⟩
  refine w_set (w_bin (w_V rfl (w_C (w_add_i ?_))))
  exact q
theorem newc {o s : Option PyData} : cellAt (s :: (g ++ [o])) (s :: g).length = o := cellAt_new (m := s :: g)
theorem setc {o o' s : Option PyData} : (s :: (g ++ [o])).set (s :: g).length o' = s :: (g ++ [o']) := by
  show s :: (g ++ [o]).set g.length o' = _
  rw [List.set_append_right _ _ (Nat.le_refl _), Nat.sub_self]
  rfl
abbrev bodyS : Es := sSeq (sSetF 5 rcE) (sSeq chS enS)
theorem put_end {L1 : List PyData} {m : Ms} (hj : cellAt m j = some (.list (.int x :: L1))) {P : Out → Prop} (q : P (.nx [F, .fz (.int b), .fz (.int a), .fz wdsD, .ow 0, .ow j, .fz (.int c), .fz (.int x), e8, e9] (m.set j (some (.list (.int (x - b) :: L1)))))) :
    W (sPut 5 (eBin subD (eV 7) (eV 1)) (eC (.int 0)) [F, .fz (.int b), .fz (.int a), .fz wdsD, .ow 0, .ow j, .fz (.int c), .fz (.int x), e8, e9] m) P := by
  have ei : ixN (PyData.int x :: L1).length 0 = some 0 := by
    show ixN (L1.length + 1) 0 = some 0
    simp [ixN]
  exact w_put (a := j) rfl (w_bin (w_V rfl (w_V rfl (w_sub_i (w_C ⟨_, 0, hj, rfl, W.of ei q⟩)))))
end
theorem nm_back {s : Str} (h : Ln s) : nmD (nm s) = .str s := by
  obtain ⟨l, rfl, hl, h8⟩ := lc_txt h.1
  rw [nm_txt hl]
  exact nm_num hl (by have := h.2; rw [txt_len] at this; exact this) h8
theorem nmo_w {r : Rs} {m : Ms} {j : Nat} {ss : List Str} {R : PyData × Ms → Prop} (hr : r.length = 10) (e5 : r[5]? = some (.ow j)) (hj : cellAt m j = some (.list (ss.map fun s => .int (nm s)))) (hs : ∀ s ∈ ss, Ln s) (hl : ss.length ≤ 5) (q : R (.list (ss.map .str), m)) :
    W (eLcO 5 [9] (hNm 9) eYes (eMap (eCons (eV 9) eNil) (arN 1 m_name_of)) r m) R := by
  refine w_lcOI (fun i acc m' => acc = (ss.take i).map .str ∧ m' = m.set j none) e5 hj ⟨rfl, rfl⟩ ?_ ?_
  · rintro i d m' acc hd ⟨rfl, rfl⟩
    rw [List.getElem?_map] at hd
    obtain ⟨s, hx, rfl⟩ := Option.map_eq_some_iff.mp hd
    have hsn := hs s (List.mem_of_getElem? hx)
    refine w_hNm (w_yes ⟨fun _ => ?_, fun z => by cases z⟩)
    have l9 : ((wipeR r [9]).set 9 (.fz (.int (nm s))))[9]? = some (.fz (.int (nm s))) := List.getElem?_set_self (by simp [wipeR, hr])
    refine w_map (w_cons (w_V l9 (w_nil (w_arN rfl (name_of_w ?_ ?_)))))
    · have := nm_ok hsn.1
      exact Nat.lt_trans (show (nm s).toNat < 2821109907456 by omega) (by decide +kernel)
    · rw [nm_back hsn]
      refine ⟨?_, ?_, rfl⟩
      · rw [List.length_map, List.length_take, sizeLine_eq]; omega
      · rw [List.take_succ, hx]; simp
  · rintro acc m' ⟨rfl, rfl⟩
    rw [List.length_map, List.take_length, List.set_set]
    have e : m.set j (some (.list (ss.map fun s => .int (nm s)))) = m := by
      apply List.ext_getElem?
      intro i
      by_cases hi : j = i
      · subst hi
        have hlt := cellAt_lt hj
        rw [List.getElem?_set_self hlt]
        unfold cellAt at hj
        cases q : m[j]? with
        | none => rw [q] at hj; cases hj
        | some o => rw [q] at hj; rw [show o = _ from hj]
      · rw [List.getElem?_set_ne hi]
    rw [e]
    exact q
end K74
end
/-! P74C -/
section
set_option maxHeartbeats 4000000
namespace K74
open PySem L2 TL
/-! ## one turn of the loop that reads rows back -/
theorem seq_eq {s t : Es} {r r1 : Rs} {m m1 : Ms} {o : Out} (h1 : s r m = some (.nx r1 m1)) (h2 : t r1 m1 = some o) : sSeq s t r m = some o := by
  unfold sSeq
  rw [h1]
  exact h2
theorem setF_eq {i : Nat} {f : Ev} {r : Rs} {m m1 : Ms} {d : PyData} (h : f r m = some (d, m1)) : sSetF i f r m = some (.nx (r.set i (.ow m1.length)) (m1 ++ [some d])) := by
  unfold sSetF
  rw [h]
  rfl
theorem if_t {c : Et} {s t : Es} {r : Rs} {m m1 : Ms} {o : Out} (h : c r m = some (true, m1)) (h2 : s r m1 = some o) : sIf c s t r m = some o := by
  unfold sIf
  rw [h]
  exact h2
theorem if_f {c : Et} {s t : Es} {r : Rs} {m m1 : Ms} {o : Out} (h : c r m = some (false, m1)) (h2 : t r m1 = some o) : sIf c s t r m = some o := by
  unfold sIf
  rw [h]
  exact h2
section
variable {F e5 e7 e8 e9 : Sl} {b a c x y : Int} {acc L : List PyData} {g : Ms} {Q : Out → Prop} {w : Str} {j : Nat}
theorem rc_e {m : Ms} : rcE [F, .fz (.int b), .fz (.int a), .fz wdsD, .ow 0, e5, .fz (.int c), .fz (.int x), .fz (.int y), e9] m = some (.list (if c ∈ [(1 : Int), 2, 5, 6, 7, 8, 11] then [.int x] else [.int x, .int y]), m) := W.eq (rc_w rfl)
/-- the codes of names, of places -/
theorem ch_e {m : Ms} {r : Rs} (e6 : r[6]? = some (.fz (.int c))) : eOr (eT blD (eChain ltD ltD (eC (.int 1)) (eV 6) (eC (.int 6)))) (eT blD (eBin eqX (eV 6) (eC (.int 11)))) r m = some (decide ((1 < c ∧ c < 6) ∨ c = 11), m) := W.eq (ch_w e6 rfl)
theorem gt_e {m : Ms} {r : Rs} (e6 : r[6]? = some (.fz (.int c))) : eT blD (eBin gtD (eV 6) (eC (.int 5))) r m = some (decide (5 < c), m) := W.eq (w_T (w_bin (w_V e6 (w_C (w_gt_i (w_bl rfl))))))
/-- a number that stays as it is -/
theorem ch_0 (m : Ms) (hc : c = 1) : chS [F, .fz (.int b), .fz (.int a), .fz wdsD, .ow 0, .ow j, .fz (.int c), e7, e8, e9] m = some (.nx [F, .fz (.int b), .fz (.int a), .fz wdsD, .ow 0, .ow j, .fz (.int c), e7, e8, e9] m) := by
  have h := ch_e (c := c) (m := m) (r := [F, .fz (.int b), .fz (.int a), .fz wdsD, .ow 0, .ow j, .fz (.int c), e7, e8, e9]) rfl
  rw [decide_eq_false (by omega)] at h
  refine if_f h ?_
  have h := gt_e (c := c) (m := m) (r := [F, .fz (.int b), .fz (.int a), .fz wdsD, .ow 0, .ow j, .fz (.int c), e7, e8, e9]) rfl
  rw [decide_eq_false (by omega)] at h
  exact if_f h rfl
/-- a place -/
theorem ch_1 {m : Ms} {L1 : List PyData} (hc : (1 < c ∧ c < 6) ∨ c = 11) (hj : cellAt m j = some (.list (.int x :: L1))) : chS [F, .fz (.int b), .fz (.int a), .fz wdsD, .ow 0, .ow j, .fz (.int c), .fz (.int x), e8, e9] m = some (.nx [F, .fz (.int b), .fz (.int a), .fz wdsD, .ow 0, .ow j, .fz (.int c), .fz (.int x), e8, e9] (m.set j (some (.list (.int (x - b) :: L1))))) := by
  have h := ch_e (c := c) (m := m) (r := [F, .fz (.int b), .fz (.int a), .fz wdsD, .ow 0, .ow j, .fz (.int c), .fz (.int x), e8, e9]) rfl
  rw [decide_eq_true hc] at h
  exact if_t h (W.eq (put_end hj rfl))
/-- names -/
theorem ch_2 {m : Ms} {ss : List Str} (hc : 5 < c ∧ c < 11) (hj : cellAt m j = some (.list (ss.map fun s => .int (nm s)))) (hs : ∀ s ∈ ss, Ln s) (hl : ss.length ≤ 5) : chS [F, .fz (.int b), .fz (.int a), .fz wdsD, .ow 0, .ow j, .fz (.int c), e7, e8, e9] m = some (.nx [F, .fz (.int b), .fz (.int a), .fz wdsD, .ow 0, .ow m.length, .fz (.int c), e7, e8, e9] (m ++ [some (.list (ss.map .str))])) := by
  have h := ch_e (c := c) (m := m) (r := [F, .fz (.int b), .fz (.int a), .fz wdsD, .ow 0, .ow j, .fz (.int c), e7, e8, e9]) rfl
  rw [decide_eq_false (by omega)] at h
  refine if_f h ?_
  have h := gt_e (c := c) (m := m) (r := [F, .fz (.int b), .fz (.int a), .fz wdsD, .ow 0, .ow j, .fz (.int c), e7, e8, e9]) rfl
  rw [decide_eq_true (by omega)] at h
  refine if_t h ?_
  exact setF_eq (W.eq (nmo_w rfl rfl hj hs hl rfl))
theorem en_e (hl : acc.length ≤ 20) (hL : L.length ≤ 3) (hj : cellAt (some (.list acc) :: g) j = some (.list L)) (hw : atI (WD9.map PyData.str) (c - 1) = some (.str w)) :
    enS [F, .fz (.int b), .fz (.int a), .fz wdsD, .ow 0, .ow j, .fz (.int c), e7, e8, e9] (some (.list acc) :: g) = some (.nx [F, .fz (.int b), .fz (.int (a + 3)), .fz wdsD, .ow 0, .ow j, .fz (.int c), e7, e8, e9] (some (.list (acc ++ [.tuple (.str w :: L)])) :: g)) := W.eq (en_w hl hL hj hw rfl)
/-- the three parts of a turn -/
theorem body_e {r2 : Rs} {m2 : Ms} {o : Out} {m : Ms} {LL : List PyData} (hLL : (if c ∈ [(1 : Int), 2, 5, 6, 7, 8, 11] then [PyData.int x] else [.int x, .int y]) = LL)
    (h2 : chS [F, .fz (.int b), .fz (.int a), .fz wdsD, .ow 0, .ow m.length, .fz (.int c), .fz (.int x), .fz (.int y), e9] (m ++ [some (.list LL)]) = some (.nx r2 m2)) (h3 : enS r2 m2 = some o) :
    bodyS [F, .fz (.int b), .fz (.int a), .fz wdsD, .ow 0, e5, .fz (.int c), .fz (.int x), .fz (.int y), e9] m = some o := by
  have h := rc_e (F := F) (b := b) (a := a) (e5 := e5) (c := c) (x := x) (y := y) (e9 := e9) (m := m)
  rw [hLL] at h
  exact seq_eq (setF_eq h) (seq_eq h2 h3)
theorem new_c {o s : Option PyData} : cellAt (s :: g ++ [o]) (s :: g).length = o := cellAt_new (m := s :: g)
theorem one_le (d : PyData) : [d].length ≤ 3 := by simp
theorem two_le (d e : PyData) : [d, e].length ≤ 3 := by simp
/-- A turn: the row whose three numbers these are is told. -/
theorem turn_tell {i : Int} (hl : acc.length ≤ 20) : ∃ k g', bodyS [F, .fz (.int b), .fz (.int a), .fz wdsD, .ow 0, e5, .fz (.int 1), .fz (.int i), .fz (.int y), e9] (some (.list acc) :: g) = some (.nx [F, .fz (.int b), .fz (.int (a + 3)), .fz wdsD, .ow 0, .ow k, .fz (.int 1), .fz (.int i), .fz (.int y), e9] (some (.list (acc ++ [.tuple [.str "tell", .int i]])) :: g')) :=
  ⟨(some (.list acc) :: g).length, g ++ [some (.list [.int i])], body_e (LL := [.int i]) (by simp) (ch_0 _ rfl) (en_e (g := g ++ [some (.list [.int i])]) (L := [.int i]) (w := "tell") hl (one_le _) newc rfl)⟩
theorem turn_one {k : Int} (hc : c = 2 ∨ c = 5 ∨ c = 11) (hw : atI (WD9.map PyData.str) (c - 1) = some (.str w)) (hl : acc.length ≤ 20) : ∃ n g', bodyS [F, .fz (.int b), .fz (.int a), .fz wdsD, .ow 0, e5, .fz (.int c), .fz (.int (b + k)), .fz (.int y), e9] (some (.list acc) :: g) = some (.nx [F, .fz (.int b), .fz (.int (a + 3)), .fz wdsD, .ow 0, .ow n, .fz (.int c), .fz (.int (b + k)), .fz (.int y), e9] (some (.list (acc ++ [.tuple [.str w, .int k]])) :: g')) := by
  have h3 := en_e (F := F) (b := b) (a := a) (e7 := .fz (.int (b + k))) (e8 := .fz (.int y)) (e9 := e9) (g := g ++ [some (.list [.int k])]) (L := [.int k]) hl (one_le _) newc hw
  have h2 := ch_1 (F := F) (b := b) (a := a) (c := c) (x := b + k) (e8 := .fz (.int y)) (e9 := e9) (m := some (.list acc) :: g ++ [some (.list [.int (b + k)])]) (L1 := []) (by omega) new_c
  rw [show b + k - b = k by omega] at h2
  rw [show ((some (PyData.list acc) :: g ++ [some (PyData.list [.int (b + k)])]).set (some (PyData.list acc) :: g).length (some (.list [.int k]))) = some (.list acc) :: (g ++ [some (.list [.int k])]) from setc] at h2
  exact ⟨(some (.list acc) :: g).length, g ++ [some (.list [.int k])], body_e (if_pos (by simp; omega)) h2 h3⟩
theorem turn_two {k : Int} (hc : c = 3 ∨ c = 4) (hw : atI (WD9.map PyData.str) (c - 1) = some (.str w)) (hl : acc.length ≤ 20) : ∃ n g', bodyS [F, .fz (.int b), .fz (.int a), .fz wdsD, .ow 0, e5, .fz (.int c), .fz (.int (b + k)), .fz (.int y), e9] (some (.list acc) :: g) = some (.nx [F, .fz (.int b), .fz (.int (a + 3)), .fz wdsD, .ow 0, .ow n, .fz (.int c), .fz (.int (b + k)), .fz (.int y), e9] (some (.list (acc ++ [.tuple [.str w, .int k, .int y]])) :: g')) := by
  have h3 := en_e (F := F) (b := b) (a := a) (e7 := .fz (.int (b + k))) (e8 := .fz (.int y)) (e9 := e9) (g := g ++ [some (.list [.int k, .int y])]) (L := [.int k, .int y]) hl (two_le _ _) newc hw
  have h2 := ch_1 (F := F) (b := b) (a := a) (c := c) (x := b + k) (e8 := .fz (.int y)) (e9 := e9) (m := some (.list acc) :: g ++ [some (.list [.int (b + k), .int y])]) (L1 := [.int y]) (by omega) new_c
  rw [show b + k - b = k by omega] at h2
  rw [show ((some (PyData.list acc) :: g ++ [some (PyData.list [.int (b + k), .int y])]).set (some (PyData.list acc) :: g).length (some (.list [.int k, .int y]))) = some (.list acc) :: (g ++ [some (.list [.int k, .int y])]) from setc] at h2
  exact ⟨(some (.list acc) :: g).length, g ++ [some (.list [.int k, .int y])], body_e (if_neg (by simp; omega)) h2 h3⟩
theorem turn_nm {ss : List Str} {LL : List PyData} (hLL : (if c ∈ [(1 : Int), 2, 5, 6, 7, 8, 11] then [PyData.int x] else [.int x, .int y]) = LL) (h2 : LL = ss.map fun s => .int (nm s)) (hc : 5 < c ∧ c < 11) (hs : ∀ s ∈ ss, Ln s) (hls : ss.length ≤ 3) (hw : atI (WD9.map PyData.str) (c - 1) = some (.str w)) (hl : acc.length ≤ 20) : ∃ n g', bodyS [F, .fz (.int b), .fz (.int a), .fz wdsD, .ow 0, e5, .fz (.int c), .fz (.int x), .fz (.int y), e9] (some (.list acc) :: g) = some (.nx [F, .fz (.int b), .fz (.int (a + 3)), .fz wdsD, .ow 0, .ow n, .fz (.int c), .fz (.int x), .fz (.int y), e9] (some (.list (acc ++ [.tuple (.str w :: ss.map .str)])) :: g')) := by
  subst h2
  have h3 := en_e (F := F) (b := b) (a := a) (e7 := .fz (.int x)) (e8 := .fz (.int y)) (e9 := e9) (g := g ++ [some (.list (ss.map fun s => .int (nm s)))] ++ [some (.list (ss.map .str))]) (L := ss.map .str) hl (by rw [List.length_map]; omega) (newc (g := g ++ [some (.list (ss.map fun s => .int (nm s)))])) hw
  have h2 := ch_2 (F := F) (b := b) (a := a) (c := c) (e7 := .fz (.int x)) (e8 := .fz (.int y)) (e9 := e9) (j := (some (PyData.list acc) :: g).length) (m := some (.list acc) :: (g ++ [some (.list (ss.map fun s => .int (nm s)))])) (ss := ss) hc newc hs (by omega)
  rw [List.cons_append] at h2
  exact ⟨_, _, body_e (m := some (.list acc) :: g) hLL h2 h3⟩
theorem wd_at {w : Str} (h : w ∈ TEN) : atI (WD9.map PyData.str) (wc w - 1) = some (.str w) := by
  have one : ∀ (w : Str) (k : Int), wc w = k → atI (WD9.map PyData.str) (k - 1) = some (.str w) → atI (WD9.map PyData.str) (wc w - 1) = some (.str w) := fun w k e h => by rw [e]; exact h
  simp only [List.mem_cons, List.not_mem_nil, or_false] at h
  rcases h with rfl | rfl | rfl | rfl | rfl | rfl | rfl | rfl | rfl | rfl
  · exact one _ 1 (by decide +kernel) rfl
  · exact one _ 6 (by decide +kernel) rfl
  · exact one _ 7 (by decide +kernel) rfl
  · exact one _ 8 (by decide +kernel) rfl
  · exact one _ 9 (by decide +kernel) rfl
  · exact one _ 2 (by decide +kernel) rfl
  · exact one _ 11 (by decide +kernel) rfl
  · exact one _ 5 (by decide +kernel) rfl
  · exact one _ 3 (by decide +kernel) rfl
  · exact one _ 4 (by decide +kernel) rfl
theorem ten_sub {A B : List Str} {w : Str} (h : (A.all fun x => decide (x ∈ B)) = true) (hw : w ∈ A) : w ∈ B := of_decide_eq_true (List.all_eq_true.mp h w hw)
/-- the three numbers of a row that is laid -/
theorem turn_w {B : Int} {d : PyData} (h : Rk B d) (hl : acc.length ≤ 20) : ∃ c x y n g', fr b d = [c, x, y] ∧ c ≠ 0 ∧ bodyS [F, .fz (.int b), .fz (.int a), .fz wdsD, .ow 0, e5, .fz (.int c), .fz (.int x), .fz (.int y), e9] (some (.list acc) :: g) = some (.nx [F, .fz (.int b), .fz (.int (a + 3)), .fz wdsD, .ow 0, .ow n, .fz (.int c), .fz (.int x), .fz (.int y), e9] (some (.list (acc ++ [d])) :: g')) := by
  cases h with
  | tell i h0 h1 =>
    obtain ⟨n, g', e⟩ := turn_tell (F := F) (e5 := e5) (e9 := e9) (b := b) (a := a) (y := 0) (g := g) (i := i) hl
    exact ⟨1, i, 0, n, g', rfl, by decide, e⟩
  | name w s hw hs =>
    have hw' : w ∈ TEN := ten_sub (by decide +kernel) hw
    have hc : wc w = 6 ∨ wc w = 7 ∨ wc w = 8 := by
      simp only [List.mem_cons, List.not_mem_nil, or_false] at hw
      rcases hw with rfl | rfl | rfl <;> decide +kernel
    have hr : rp (.tuple [.str w, .str s]) = false := decide_eq_false (not_both (ten_sub (by decide +kernel) hw))
    obtain ⟨n, g', e⟩ := turn_nm (F := F) (e5 := e5) (e9 := e9) (b := b) (a := a) (c := wc w) (x := nm s) (y := 0) (g := g) (ss := [s]) (w := w) (if_pos (by simp only [List.mem_cons, List.not_mem_nil, or_false]; omega)) rfl (by omega) (fun z hz => by rw [List.mem_singleton.mp hz]; exact hs) (by simp) (wd_at hw') hl
    refine ⟨wc w, nm s, 0, n, g', ?_, by omega, e⟩
    unfold fr
    rw [if_neg (by rw [hr]; decide)]
    rfl
  | ask s t hs ht =>
    obtain ⟨n, g', e⟩ := turn_nm (F := F) (e5 := e5) (e9 := e9) (b := b) (a := a) (c := 9) (x := nm s) (y := nm t) (g := g) (ss := [s, t]) (w := "ask") (if_neg (by simp)) rfl (by omega) (fun z hz => by rcases List.mem_cons.mp hz with rfl | hz; exact hs; rw [List.mem_singleton.mp hz]; exact ht) (by simp) rfl hl
    exact ⟨9, nm s, nm t, n, g', rfl, by decide, e⟩
  | one w k hw h0 h1 =>
    have hw' : w ∈ TEN := ten_sub (by decide +kernel) hw
    have hc : wc w = 2 ∨ wc w = 5 ∨ wc w = 11 := by
      simp only [List.mem_cons, List.not_mem_nil, or_false] at hw
      rcases hw with rfl | rfl | rfl <;> decide +kernel
    have hr : rp (.tuple [.str w, .int k]) = true := decide_eq_true (ten_sub (by decide +kernel) hw)
    obtain ⟨n, g', e⟩ := turn_one (F := F) (e5 := e5) (e9 := e9) (b := b) (a := a) (c := wc w) (k := k) (y := 0) (g := g) (w := w) hc (wd_at hw') hl
    refine ⟨wc w, b + k, 0, n, g', ?_, by omega, e⟩
    unfold fr
    rw [if_pos hr]
    rfl
  | two w k i hw h0 h1 h2 h3 =>
    have hw' : w ∈ TEN := ten_sub (by decide +kernel) hw
    have hc : wc w = 3 ∨ wc w = 4 := by
      simp only [List.mem_cons, List.not_mem_nil, or_false] at hw
      rcases hw with rfl | rfl <;> decide +kernel
    have hr : rp (.tuple [.str w, .int k, .int i]) = true := decide_eq_true (ten_sub (by decide +kernel) hw)
    obtain ⟨n, g', e⟩ := turn_two (F := F) (e5 := e5) (e9 := e9) (b := b) (a := a) (c := wc w) (k := k) (y := i) (g := g) (w := w) hc (wd_at hw') hl
    refine ⟨wc w, b + k, i, n, g', ?_, by omega, e⟩
    unfold fr
    rw [if_pos hr]
    rfl
end
/-! ## _law_back -/
theorem fr_len {B b : Int} {d : PyData} (h : Rk B d) : (fr b d).length = 3 := by
  unfold fr
  split
  · rw [List.length_set]; exact rn_len h
  · exact rn_len h
/-- the rows as they lie from a place on -/
def rowsF (b : Int) (rs : List PyData) : List Int := (rs.map (fr b)).flatten ++ [0, 0, 0]
theorem rowsF_cons (b : Int) (d : PyData) (rs : List PyData) : rowsF b (d :: rs) = fr b d ++ rowsF b rs := by
  unfold rowsF
  rw [List.map_cons, List.flatten_cons, List.append_assoc]
theorem cut_at (A M R : List Int) {k : Int} (hk : k = A.length) (hM : M.length = 3) : cutD ((A ++ M ++ R).map PyData.int) (some k) (some (k + 3)) = M.map .int := by
  subst hk
  unfold cutD
  rw [show ((A.length : Int) + 3) = ((A.length + 3 : Nat) : Int) by omega, HT.sIx_nat, HT.sIx_nat]
  rw [List.length_map, List.length_append, List.length_append, hM, List.append_assoc, List.map_append, List.map_append]
  have e1 : min A.length (A.length + 3 + R.length) = A.length := by omega
  have e2 : min (A.length + 3) (A.length + 3 + R.length) = A.length + 3 := by omega
  rw [e1, e2]
  have e3 : A.length = (A.map PyData.int).length := (List.length_map ..).symm
  rw [show A.length + 3 - A.length = (M.map PyData.int).length by rw [List.length_map, hM]; omega, e3, List.drop_left, List.take_left]
abbrev sliceE : Ev := eSl (eV 0) (ePt (eV 2)) (ePt (eBin addD (eV 2) (eC (.int 3))))
theorem slice_w {r : Rs} {m : Ms} {A M R : List Int} {k : Int} {Q : PyData × Ms → Prop} (h0 : r[0]? = some (.fz (iL (A ++ M ++ R)))) (h2 : r[2]? = some (.fz (.int k))) (hk : k = A.length) (hM : M.length = 3) (q : Q (iL M, m)) : W (sliceE r m) Q := by
  refine w_sl (w_V h0 (w_pt (w_V h2 ⟨_, rfl, w_pt (w_bin (w_V h2 (w_C (w_add_i ⟨_, rfl, ?_⟩))))⟩)))
  refine W.of (show slcD (iL (A ++ M ++ R)) (some k) (some (k + 3)) = some (iL M) from ?_) q
  show some (PyData.list (cutD ((A ++ M ++ R).map PyData.int) (some k) (some (k + 3)))) = _
  rw [cut_at A M R hk hM]
abbrev zeroE : Ev := eLst (eCons (eC (.int 0)) (eCons (eC (.int 0)) (eCons (eC (.int 0)) eNil)))
theorem zero_w {r : Rs} {m : Ms} {Q : PyData × Ms → Prop} (q : Q (iL [0, 0, 0], m)) : W (zeroE r m) Q :=
  w_lst (w_cons (w_C (w_cons (w_C (w_cons (w_C (w_nil ⟨by rw [sizeLine_eq]; exact (by decide : (3 : Nat) ≤ 16777216), q⟩)))))))
theorem back_w {b k : Int} {A R : List Int} {rs : List PyData} {B : Int} {Q : PyData → Prop} (h : ∀ d ∈ rs, Rk B d) (hl : rs.length ≤ 8) (hk : k = A.length) (q : Q (.tuple rs)) :
    W (m__law_back [iL (A ++ rowsF b rs ++ R), .int b, .int k]) Q := by
  unfold m__law_back
  refine w_runD ?_
  refine w_seq (w_set ?_)
  refine w_lst ?_
  iterate 11 refine w_cons (w_C ?_)
  refine w_nil ⟨by rw [sizeLine_eq]; exact (by decide : (11 : Nat) ≤ 16777216), ?_⟩
  refine w_seq (w_new (w_nil ⟨by rw [sizeLine_eq]; exact (by decide : (0 : Nat) ≤ 16777216), ?_⟩))
  refine w_seq ?_
  refine w_while (fun n r m => ∃ (i : Nat) (e5 e6 e7 e8 e9 : Sl) (g : Ms), n = rs.length - i ∧ i ≤ rs.length ∧ r = [.fz (iL (A ++ rowsF b rs ++ R)), .fz (.int b), .fz (.int (k + 3 * (i : Int))), .fz wdsD, .ow 0, e5, e6, e7, e8, e9] ∧ m = some (.list (rs.take i)) :: g) ?_ 10000 rs.length _ _ (by omega) ⟨0, _, _, _, _, _, [], by omega, by omega, by rw [show k + 3 * ((0 : Nat) : Int) = k by omega]; rfl, by rw [List.take_zero]; rfl⟩
  rintro n r m ⟨i, e5, e6, e7, e8, e9, g, hn, hi, rfl, rfl⟩
  have hsplit : rowsF b rs = ((rs.take i).map (fr b)).flatten ++ rowsF b (rs.drop i) := by
    unfold rowsF
    rw [← List.append_assoc, ← List.flatten_append, ← List.map_append, List.take_append_drop]
  have hpl : ∀ (ts : List PyData), (∀ d ∈ ts, Rk B d) → ((ts.map (fr b)).flatten).length = 3 * ts.length := by
    intro ts
    induction ts with
    | nil => intro _; rfl
    | cons d ts ih =>
      intro hd
      rw [List.map_cons, List.flatten_cons, List.length_append, fr_len (hd d (List.mem_cons_self ..)), ih fun x hx => hd x (List.mem_cons_of_mem _ hx), List.length_cons]
      omega
  have hAl : k + 3 * (i : Int) = ((A ++ ((rs.take i).map (fr b)).flatten).length : Nat) := by
    rw [List.length_append, hpl _ fun d hd => h d (List.mem_of_mem_take hd), List.length_take, hk]
    omega
  by_cases hlt : i < rs.length
  · -- a row
    have hdrop : rs.drop i = rs[i] :: rs.drop (i + 1) := List.drop_eq_getElem_cons hlt
    have hrk : Rk B rs[i] := h _ (List.getElem_mem hlt)
    obtain ⟨c, x, y, k2, g', hfr, hc0, hbody⟩ := turn_w (F := .fz (iL (A ++ rowsF b rs ++ R))) (e5 := e5) (e9 := e9) (b := b) (a := k + 3 * (i : Int)) (acc := rs.take i) (g := g) hrk (by rw [List.length_take]; omega)
    have hN : A ++ rowsF b rs ++ R = (A ++ ((rs.take i).map (fr b)).flatten) ++ [c, x, y] ++ (rowsF b (rs.drop (i + 1)) ++ R) := by
      rw [hsplit, hdrop, rowsF_cons, hfr]
      simp only [List.append_assoc]
    have hsl : ∀ {S : PyData × Ms → Prop} {q6 q7 q8 : Sl} {m' : Ms}, S (iL [c, x, y], m') → W (sliceE [.fz (iL (A ++ rowsF b rs ++ R)), .fz (.int b), .fz (.int (k + 3 * (i : Int))), .fz wdsD, .ow 0, e5, q6, q7, q8, e9] m') S := fun {S q6 q7 q8 m'} s => by
      rw [hN]
      exact slice_w (A := A ++ ((rs.take i).map (fr b)).flatten) (M := [c, x, y]) (R := rowsF b (rs.drop (i + 1)) ++ R) rfl rfl hAl rfl s
    refine w_and (w_T (w_bin (hsl ?_)))
    refine zero_w ?_
    refine w_neX_LL (w_bl ⟨fun _ => ?_, fun z => ?_⟩)
    rotate_left
    · have z' : (!decide ([c, x, y] = [0, 0, 0])) = false := z
      rw [Bool.not_eq_false', decide_eq_true_iff] at z'
      injection z' with z1 _
      exact absurd z1 hc0
    refine w_T (w_bin (w_lenO (a := 0) rfl rfl (w_C (w_lt_i (w_bl ⟨fun _ => ⟨rs.length - (i + 1), by omega, ?_⟩, fun z => ?_⟩)))))
    rotate_left
    · have z' : decide (((rs.take i).length : Int) < 9) = false := z
      rw [decide_eq_false_iff_not, List.length_take] at z'
      omega
    refine w_seq (w_asg (hsl ?_))
    refine NG.w_hLst rfl ?_
    refine w_hCons (w_hNm (w_hCons (w_hNm (w_hCons (w_hNm (w_hNil ?_))))))
    rw [then_nx]
    refine W.of hbody ?_
    rw [turn_nx]
    refine ⟨i + 1, .ow k2, .fz (.int c), .fz (.int x), .fz (.int y), e9, g', by omega, by omega, ?_, ?_⟩
    · rw [show k + 3 * (i : Int) + 3 = k + 3 * ((i + 1 : Nat) : Int) by omega]
    · rw [List.take_succ_eq_append_getElem hlt]
  · -- the noughts
    have hi' : i = rs.length := by omega
    subst hi'
    have hN : A ++ rowsF b rs ++ R = (A ++ ((rs.take rs.length).map (fr b)).flatten) ++ [0, 0, 0] ++ R := by
      rw [List.take_length]
      unfold rowsF
      simp only [List.append_assoc]
    have hsl : ∀ {S : PyData × Ms → Prop} {m' : Ms}, S (iL [0, 0, 0], m') → W (sliceE [.fz (iL (A ++ rowsF b rs ++ R)), .fz (.int b), .fz (.int (k + 3 * (rs.length : Int))), .fz wdsD, .ow 0, e5, e6, e7, e8, e9] m') S := fun {S m'} s => by
      rw [hN]
      exact slice_w (A := A ++ ((rs.take rs.length).map (fr b)).flatten) (M := [0, 0, 0]) (R := R) rfl rfl hAl rfl s
    refine w_and (w_T (w_bin (hsl ?_)))
    refine zero_w ?_
    refine w_neX_LL (w_bl ⟨fun z => by simp at z, fun _ => ?_⟩)
    refine ⟨fun z => by simp at z, fun _ => ?_⟩
    show W _ _
    refine w_ret (w_seqO (a := 0) rfl rfl ?_)
    rw [List.take_length]
    exact q
end K74
end
/-! P74D -/
section
set_option maxHeartbeats 4000000
namespace K74
open PySem L2 TL
/-! ## how a filled image lies -/
abbrev BB : Int := 1000000000000000000000000000000
theorem fil_app (b : Int) (ad : List (Int × Int)) (xs : List Int) (ks js : List K3) : fil b ad xs (ks ++ js) = fil b ad (fil b ad xs ks) js := by
  unfold fil
  rw [List.foldl_append]
theorem fil_range {b : Int} {ad : List (Int × Int)} (f : Nat → K3) (hf : ∀ k : Nat, (f k).1 = (k : Int)) : ∀ (n : Nat) (xs : List Int), n ≤ xs.length → fil b ad xs ((List.range n).map f) = (List.range n).map (fun k => fval b ad (f k)) ++ xs.drop n
  | 0, xs, _ => by simp [fil]
  | n + 1, xs, h => by
    rw [List.range_succ, List.map_append, List.map_append]
    show fil b ad xs (_ ++ [f n]) = _
    rw [fil_snoc, fil_range f hf n xs (by omega), hf, Int.toNat_natCast, List.set_append_right _ _ (by rw [List.length_map, List.length_range]; exact Nat.le_refl _), List.length_map, List.length_range, Nat.sub_self, List.drop_eq_getElem_cons (show n < xs.length by omega), List.set_cons_zero, List.append_assoc]
    rfl
def adv (ad : List (Int × Int)) (k : Int) : Int := ((ad.find? fun q => decide (q.1 = k)).map (·.2)).getD 0
def slot (l : Lb) (b : Int) (ad : List (Int × Int)) (k : Nat) : Int := if ((l.us.map Us.c)[k]?).getD false = true then adv ad k else b + slk l k
def slotsF (l : Lb) (b : Int) (ad : List (Int × Int)) : List Int := (List.range l.us.length).map (slot l b ad)
theorem slotsF_len (l : Lb) (b : Int) (ad : List (Int × Int)) : (slotsF l b ad).length = l.us.length := by unfold slotsF; rw [List.length_map, List.length_range]
theorem num0_len (l : Lb) : (num0 l).length = l.us.length := by unfold num0; rw [List.length_map, List.length_range]
theorem fil_slots (l : Lb) (b : Int) (ad : List (Int × Int)) (T : List Int) : fil b ad (num0 l ++ T) (pla0 l) = slotsF l b ad ++ T := by
  unfold pla0
  rw [fil_range _ (fun k => by split <;> rfl) _ _ (by rw [List.length_append, num0_len]; omega)]
  congr 1
  · unfold slotsF
    refine List.map_congr_left fun k _ => ?_
    unfold slot
    split
    · unfold fval adv
      rw [if_neg (show ¬ (("cell" : Str) = "own") by decide +kernel)]
    · unfold fval
      rw [if_pos rfl]
  · rw [← num0_len l, List.drop_left]
theorem fil_pl1 {B b : Int} {ad : List (Int × Int)} {r : PyData} (h : Rk B r) (A T : List Int) {a : Int} (ha : a = A.length) : fil b ad (A ++ (rn r ++ T)) (pl1 a r) = A ++ (fr b r ++ T) := by
  subst ha
  unfold pl1 fr
  split
  · rename_i z
    show (A ++ (rn r ++ T)).set ((A.length : Int) + 1).toNat (fval b ad ((A.length : Int) + 1, "own", arg1 r)) = _
    have e : ((A.length : Int) + 1).toNat = A.length + 1 := by omega
    rw [e, List.set_append_right _ _ (by omega), show A.length + 1 - A.length = 1 by omega, List.set_append_left _ _ (by rw [rn_len h]; omega)]
    unfold fval
    rw [if_pos rfl]
  · rfl
theorem fil_rows {B b : Int} {ad : List (Int × Int)} : ∀ (rs : List PyData), (∀ r ∈ rs, Rk B r) → ∀ (A T : List Int) (a : Int), a = A.length → fil b ad (A ++ ((rs.map rn).flatten ++ T)) (plN a rs) = A ++ ((rs.map (fr b)).flatten ++ T)
  | [], _, A, T, a, _ => rfl
  | r :: rs, h, A, T, a, ha => by
    have hr := h r (List.mem_cons_self ..)
    rw [show plN a (r :: rs) = pl1 a r ++ plN (a + 3) rs from rfl, fil_app, List.map_cons, List.flatten_cons, List.map_cons, List.flatten_cons, List.append_assoc, List.append_assoc, fil_pl1 hr A _ ha]
    have e := fil_rows (b := b) (ad := ad) rs (fun x hx => h x (List.mem_cons_of_mem _ hx)) (A ++ fr b r) T (a + 3) (by rw [List.length_append, fr_len hr, ha]; omega)
    rw [List.append_assoc, List.append_assoc] at e
    exact e
theorem rowsF_len {B b : Int} {rs : List PyData} (h : ∀ d ∈ rs, Rk B d) : (rowsF b rs).length = 3 * rs.length + 3 := by
  induction rs with
  | nil => rfl
  | cons d rs ih => rw [rowsF_cons, List.length_append, fr_len (h d (List.mem_cons_self ..)), ih fun x hx => h x (List.mem_cons_of_mem _ hx), List.length_cons]; omega
theorem fil_all {b : Int} {ad : List (Int × Int)} : ∀ (rl : List (List PyData)), (∀ rs ∈ rl, rs.length ≤ 8 ∧ ∀ r ∈ rs, Rk BB r) → ∀ (A : List Int) (a : Int), a = A.length → fil b ad (A ++ num3 rl) (plR a rl) = A ++ (rl.map (rowsF b)).flatten
  | [], _, A, a, _ => rfl
  | rs :: rl, h, A, a, ha => by
    have hr := (h rs (List.mem_cons_self ..)).2
    rw [show plR a (rs :: rl) = plN a rs ++ plR (a + (rowsN rs).length) rl from rfl, fil_app]
    have e0 : num3 (rs :: rl) = (rs.map rn).flatten ++ ([0, 0, 0] ++ num3 rl) := by
      show rowsN rs ++ num3 rl = _
      unfold rowsN
      rw [List.append_assoc]
    rw [e0, fil_rows rs hr A _ a ha]
    have e1 : A ++ ((rs.map (fr b)).flatten ++ ([0, 0, 0] ++ num3 rl)) = (A ++ rowsF b rs) ++ num3 rl := by
      unfold rowsF
      simp only [List.append_assoc]
    rw [e1, fil_all rl (fun x hx => h x (List.mem_cons_of_mem _ hx)) (A ++ rowsF b rs) _ (by rw [List.length_append, rowsF_len hr, rowsN_len hr, ha]; omega), List.map_cons, List.flatten_cons, List.append_assoc]
/-- the whole filled image -/
def filF (l : Lb) (b : Int) (ad : List (Int × Int)) : List Int := slotsF l b ad ++ cells l ++ num2 l ++ ((rowL l).map (rowsF b)).flatten
theorem fil_lies {l : Lb} (h : L2k l) (b : Int) (ad : List (Int × Int)) : fil b ad (numI l) (plaI l) = filF l b ad := by
  unfold numI plaI filF
  rw [fil_app]
  have e1 : num0 l ++ cells l ++ num2 l ++ num3 (rowL l) = num0 l ++ (cells l ++ num2 l ++ num3 (rowL l)) := by simp only [List.append_assoc]
  rw [e1, fil_slots]
  have e2 : slotsF l b ad ++ (cells l ++ num2 l ++ num3 (rowL l)) = (slotsF l b ad ++ cells l ++ num2 l) ++ num3 (rowL l) := by simp only [List.append_assoc]
  rw [e2, fil_all _ (rowL_ok h).2 _ _ (by simp only [List.length_append, slotsF_len, num0_len])]
/-! ### where things lie -/
theorem filF_slot {l : Lb} {b : Int} {ad : List (Int × Int)} {k : Nat} (h : k < l.us.length) : (filF l b ad)[k]? = some (slot l b ad k) := by
  unfold filF
  rw [List.append_assoc, List.append_assoc, List.getElem?_append_left (by rw [slotsF_len]; exact h)]
  unfold slotsF
  rw [List.getElem?_map, List.getElem?_range h]
  rfl
theorem filF_cell {l : Lb} {b : Int} {ad : List (Int × Int)} {j : Nat} {z : Int} (h : (cells l)[j]? = some z) : (filF l b ad)[l.us.length + j]? = some z := by
  unfold filF
  have hj := (List.getElem?_eq_some_iff.mp h).1
  rw [List.append_assoc, List.append_assoc, List.getElem?_append_right (by rw [slotsF_len]; omega), slotsF_len, show l.us.length + j - l.us.length = j by omega, List.getElem?_append_left hj, h]
theorem num2_split : ∀ (qs : List (Int × Int)) (j : Nat) (p : Int × Int), qs[j]? = some p → ∃ A R : List Int, (qs.map fun p => [10, p.1, 0]).flatten = A ++ [10, p.1, 0] ++ R ∧ A.length = 3 * j
  | [], _, _, h => by cases h
  | q :: qs, 0, p, h => by
    cases h
    exact ⟨[], _, by rw [List.map_cons, List.flatten_cons]; rfl, rfl⟩
  | q :: qs, j + 1, p, h => by
    obtain ⟨A, R, e, hl⟩ := num2_split qs j p h
    exact ⟨[10, q.1, 0] ++ A, R, by rw [List.map_cons, List.flatten_cons, e]; simp only [List.append_assoc], by rw [List.length_append, hl]; simp only [List.length_cons, List.length_nil]; omega⟩
theorem filF_stub {l : Lb} {b : Int} {ad : List (Int × Int)} {k : Nat} {u : Us} (hu : l.us[k]? = some u) (hc : u.c = false) : ∃ A R : List Int, filF l b ad = A ++ [10, (k : Int), 0] ++ R ∧ slk l k = A.length := by
  have hm := stb_has l.us 0 (at0 l) k u hu hc
  rw [Nat.zero_add] at hm
  obtain ⟨p, hp, e⟩ := List.mem_map.mp hm
  obtain ⟨j, hj⟩ := List.mem_iff_getElem?.mp hp
  have h2 := stb_snd l.us 0 (at0 l) j p hj
  have hs := slk_in hp
  obtain ⟨A, R, e1, hl⟩ := num2_split _ j p hj
  refine ⟨slotsF l b ad ++ cells l ++ A, R ++ ((rowL l).map (rowsF b)).flatten, ?_, ?_⟩
  · unfold filF
    rw [show num2 l = A ++ [10, p.1, 0] ++ R from e1, e]
    simp only [List.append_assoc]
  · rw [← e, hs, h2, List.length_append, List.length_append, slotsF_len, hl]
    unfold at0
    push_cast
    omega
/-- where the i-th rows begin -/
theorem num2_len (l : Lb) : (num2 l).length = 3 * (stb l.us 0 (at0 l)).length := fl3 _ (fun _ => rfl) _
theorem flat_wdt {b : Int} : ∀ (pre : List (List PyData)), (∀ rs ∈ pre, ∀ r ∈ rs, Rk BB r) → (((pre.map (rowsF b)).flatten).length : Int) = wdt pre
  | [], _ => rfl
  | rs :: pre, h => by
    rw [List.map_cons, List.flatten_cons, List.length_append, rowsF_len (h rs (List.mem_cons_self ..))]
    have ih := flat_wdt (b := b) pre fun x hx => h x (List.mem_cons_of_mem _ hx)
    show _ = 3 * ((rs.length : Int) + 1) + wdt pre
    push_cast
    omega
theorem filF_rows {l : Lb} (h : L2k l) {b : Int} {ad : List (Int × Int)} {pre post : List (List PyData)} {rs : List PyData} (e : rowL l = pre ++ rs :: post) : ∃ A R : List Int, filF l b ad = A ++ rowsF b rs ++ R ∧ atR l + wdt pre = A.length := by
  have hk := (rowL_ok h).2
  refine ⟨slotsF l b ad ++ cells l ++ num2 l ++ ((pre.map (rowsF b)).flatten), (post.map (rowsF b)).flatten, ?_, ?_⟩
  · unfold filF
    rw [e, List.map_append, List.map_cons, List.flatten_append, List.flatten_cons]
    simp only [List.append_assoc]
  · have e1 := flat_wdt (b := b) pre fun x hx => (hk x (by rw [e]; exact List.mem_append_left _ hx)).2
    rw [List.length_append, List.length_append, List.length_append, slotsF_len, num2_len]
    push_cast
    rw [e1]
    unfold atR at0
    omega
theorem stA_at : ∀ (xs : List (List PyData)) (a : Int) (i : Nat), i < xs.length → (stA a xs)[i]? = some (a + wdt (xs.take i))
  | [], _, _, h => by cases h
  | x :: xs, a, 0, _ => by
    show some a = some (a + 0)
    rw [Int.add_zero]
  | x :: xs, a, i + 1, h => by
    show (stA (a + 3 * ((x.length : Int) + 1)) xs)[i]? = _
    rw [stA_at xs _ i (by simpa using h)]
    show some (a + 3 * ((x.length : Int) + 1) + wdt (xs.take i)) = some (a + (3 * ((x.length : Int) + 1) + wdt (xs.take i)))
    congr 1
    omega
theorem find_zip : ∀ (ks vs : List Int) (i : Nat) (k v : Int), ks.Nodup → ks[i]? = some k → vs[i]? = some v → (ks.zip vs).find? (fun q => decide (q.1 = k)) = some (k, v)
  | [], _, _, _, _, _, h, _ => by cases h
  | x :: ks, [], i, k, v, _, _, h => by cases h
  | x :: ks, y :: vs, 0, k, v, _, h1, h2 => by
    cases h1; cases h2
    rw [List.zip_cons_cons, List.find?_cons]
    simp
  | x :: ks, y :: vs, i + 1, k, v, hn, h1, h2 => by
    rw [List.zip_cons_cons, List.find?_cons]
    have hne : x ≠ k := fun z => (List.nodup_cons.mp hn).1 (by rw [z]; exact List.mem_of_getElem? h1)
    rw [decide_eq_false hne]
    exact find_zip ks vs i k v (List.nodup_cons.mp hn).2 h1 h2
/-- the number of a give among those that hold rows -/
theorem bT_at {bs : List Bool} : ∀ {n k : Nat}, k < n → n ≤ bs.length → bs[k]? = some true → (bT bs n)[((bs.take k).filter id).length]? = some (k : Int)
  | 0, _, h, _, _ => by cases h
  | n + 1, k, h, hn, hb => by
    have hlt : n < bs.length := hn
    rw [bT_succ (List.getElem?_eq_getElem hlt)]
    by_cases e : k = n
    · subst e
      rw [List.getElem?_eq_getElem hlt] at hb
      have hb := Option.some.inj hb
      rw [if_pos hb, List.getElem?_append_right (by rw [bT_cnt (by omega)]; exact Nat.le_refl _), bT_cnt (by omega), Nat.sub_self]
      rfl
    · have ih := bT_at (bs := bs) (n := n) (k := k) (by omega) (by omega) hb
      rw [List.getElem?_append_left (List.getElem?_eq_some_iff.mp ih).1, ih]
theorem fil_pre {α : Type} {p : α → Bool} : ∀ {l : List α} {k : Nat} {x : α}, l[k]? = some x → p x = true → (l.filter p)[((l.take k).filter p).length]? = some x ∧ l.filter p = (l.take k).filter p ++ x :: (l.drop (k + 1)).filter p
  | l, k, x, h, hp => by
    obtain ⟨hl, e⟩ := List.getElem?_eq_some_iff.mp h
    have e1 : l = l.take k ++ x :: l.drop (k + 1) := by
      rw [← e, ← List.drop_eq_getElem_cons hl, List.take_append_drop]
    have e2 : l.filter p = (l.take k).filter p ++ x :: (l.drop (k + 1)).filter p := by
      conv => lhs; rw [e1]
      rw [List.filter_append, List.filter_cons_of_pos hp]
    refine ⟨?_, e2⟩
    rw [e2, List.getElem?_append_right (Nat.le_refl _), Nat.sub_self]
    rfl
/-- a cell's place -/
theorem spot_cell {l : Lb} {k : Nat} {g : Gv} (hg : l.gs[k]? = some g) (hi : isI g.x = true) : ∃ j : Nat, (((spots l).find? fun q => decide (q.1 = (k : Int))).map (·.2)).getD 0 = (l.us.length : Int) + j ∧ (cells l)[j]? = some (intOf g.x) := by
  have hlt := (List.getElem?_eq_some_iff.mp hg).1
  have hat := bT_at (bs := cb l) (n := l.gs.length) (k := k) hlt (by rw [cb_len]; exact Nat.le_refl _) (by rw [cb_at hg, hi])
  refine ⟨((cb l).take k |>.filter id).length, ?_, ?_⟩
  · have hsp := spots_at hat
    have hmem := List.mem_of_getElem? hsp
    rw [find_nd (qs := spots l) (by unfold spots; rw [spN_1]; exact bT_nd _ _) hmem]
    rfl
  · unfold cells
    have e := (fil_pre (p := fun g : Gv => isI g.x) hg hi).1
    rw [List.getElem?_map]
    have e3 : ((cb l).take k |>.filter id).length = ((l.gs.take k).filter fun g => isI g.x).length := by
      unfold cb
      rw [← List.map_take, List.filter_map, List.length_map]
      rfl
    rw [e3, e]
    rfl
/-- where a give's rows begin -/
theorem deed_rows {l : Lb} (h : L2k l) {b : Int} {ad : List (Int × Int)} {k : Nat} {g : Gv} {rs : List PyData} (hg : l.gs[k]? = some g) (hi : g.x = .tuple rs) : ∃ (z : Int) (A R : List Int), (k : Int) ∈ ((dedK l).zip (dedS l)).map (·.1) ∧ ((((dedK l).zip (dedS l)).find? fun q => decide (q.1 = (k : Int))).map (·.2)).getD 0 = z ∧ filF l b ad = A ++ rowsF b rs ++ R ∧ z = A.length := by
  have hlt := (List.getElem?_eq_some_iff.mp hg).1
  have hni : (!isI g.x) = true := by rw [hi]; rfl
  have hat := bT_at (bs := (cb l).map not) (n := l.gs.length) (k := k) hlt (by rw [List.length_map, cb_len]; exact Nat.le_refl _) (by rw [nb_at hg, hni])
  obtain ⟨e1, e2⟩ := fil_pre (p := fun g : Gv => !isI g.x) hg hni
  have en : (((cb l).map not).take k |>.filter id).length = ((l.gs.take k).filter fun g => !isI g.x).length := by
    unfold cb
    rw [List.map_map, ← List.map_take, List.filter_map, List.length_map]
    rfl
  rw [en] at hat
  have hdl : (deeds l)[((l.gs.take k).filter fun g => !isI g.x).length]? = some g.x := by
    unfold deeds
    rw [List.getElem?_map, e1]
    rfl
  have hlt2 : ((l.gs.take k).filter fun g => !isI g.x).length < ((deeds l).map rowsOf).length := by
    rw [List.length_map]
    exact (List.getElem?_eq_some_iff.mp hdl).1
  have hS : (dedS l)[((l.gs.take k).filter fun g => !isI g.x).length]? = some (atR l + wdt (((deeds l).map rowsOf).take ((l.gs.take k).filter fun g => !isI g.x).length)) := stA_at _ _ _ hlt2
  have hf := find_zip (dedK l) (dedS l) _ _ _ (bT_nd _ _) hat hS
  have hpre : ((deeds l).map rowsOf).take ((l.gs.take k).filter fun g => !isI g.x).length = (((l.gs.take k).filter fun g => !isI g.x).map fun g => rowsOf g.x) := by
    unfold deeds
    rw [List.map_map, e2, List.map_append, List.take_left' (by rw [List.length_map])]
    rfl
  have hrow : rowL l = (((l.gs.take k).filter fun g => !isI g.x).map fun g => rowsOf g.x) ++ rs :: ((((l.gs.drop (k + 1)).filter fun g => !isI g.x).map fun g => rowsOf g.x) ++ [l.r0, l.r1]) := by
    unfold rowL deeds
    rw [List.map_map, e2, List.map_append, List.map_cons, List.append_assoc]
    show _ ++ (rowsOf g.x :: _ ++ _) = _
    rw [hi]
    rfl
  obtain ⟨A, R, h1, h2⟩ := filF_rows h (b := b) (ad := ad) hrow
  refine ⟨_, A, R, ?_, by rw [hf], h1, ?_⟩
  · have hm := List.mem_of_find?_eq_some hf
    exact List.mem_map.mpr ⟨_, hm, rfl⟩
  · show atR l + _ = _
    rw [hpre, h2]
theorem first_rows {l : Lb} (h : L2k l) {b : Int} {ad : List (Int × Int)} : ∃ A R : List Int, filF l b ad = A ++ rowsF b l.r0 ++ R ∧ frs l = A.length :=
  filF_rows h (pre := (deeds l).map rowsOf) (post := [l.r1]) rfl
theorem last_rows {l : Lb} (h : L2k l) {b : Int} {ad : List (Int × Int)} : ∃ A R : List Int, filF l b ad = A ++ rowsF b l.r1 ++ R ∧ las l = A.length := by
  obtain ⟨A, R, h1, h2⟩ := filF_rows h (b := b) (ad := ad) (pre := (deeds l).map rowsOf ++ [l.r0]) (rs := l.r1) (post := []) (by unfold rowL; rw [List.append_assoc]; rfl)
  refine ⟨A, R, h1, ?_⟩
  rw [wdt_app] at h2
  unfold las frs
  rw [← h2]
  show _ = atR l + (wdt ((deeds l).map rowsOf) + (3 * ((l.r0.length : Int) + 1) + 0))
  omega
end K74
end
/-! P74E -/
section
set_option maxHeartbeats 4000000
namespace K74
open PySem L2 TL
/-! ## _law_right -/
theorem lay_tw {a b : PyData} (ha : a.canLay0 = true) (hb : b.canLay0 = true) : (PyData.tuple [a, b]).canLay0 = true := by
  simp [PyData.canLay0, PyData.canLayAll0, ha, hb]
theorem lay_th {a b c : PyData} (ha : a.canLay0 = true) (hb : b.canLay0 = true) (hc : c.canLay0 = true) : (PyData.tuple [a, b, c]).canLay0 = true := by
  simp [PyData.canLay0, PyData.canLayAll0, ha, hb, hc]
theorem lay_i (i : Int) : (PyData.int i).canLay0 = true := by simp [PyData.canLay0]
theorem lay_s {s : Str} (h : Ln s) : (PyData.str s).canLay0 = true := h.1.lw.ok
theorem lay_w {w : Str} (h : w ∈ TEN) : (PyData.str w).canLay0 = true := (lw_w h).ok
theorem rk_lay {B : Int} {d : PyData} (h : Rk B d) : d.canLay0 = true ∧ d.depth ≤ 1 := by
  cases h with
  | tell i h0 h1 => exact ⟨lay_tw (lay_w (by decide +kernel)) (lay_i i), by simp [PyData.depth, PyData.depthAll]⟩
  | name w s hw hs =>
    have hw' : w ∈ TEN := ten_sub (by decide +kernel) hw
    exact ⟨lay_tw (lay_w hw') (lay_s hs), by simp [PyData.depth, PyData.depthAll]⟩
  | ask s t hs ht => exact ⟨lay_th (lay_w (by decide +kernel)) (lay_s hs) (lay_s ht), by simp [PyData.depth, PyData.depthAll]⟩
  | one w k hw h0 h1 =>
    have hw' : w ∈ TEN := ten_sub (by decide +kernel) hw
    exact ⟨lay_tw (lay_w hw') (lay_i k), by simp [PyData.depth, PyData.depthAll]⟩
  | two w k i hw h0 h1 h2 h3 =>
    have hw' : w ∈ TEN := ten_sub (by decide +kernel) hw
    exact ⟨lay_th (lay_w hw') (lay_i k) (lay_i i), by simp [PyData.depth, PyData.depthAll]⟩
theorem rows_shaped {B : Int} {rs : List PyData} (h : ∀ r ∈ rs, Rk B r) : SeqAt.shaped (.tuple rs) = true := shaped_t (k := 1) (fun d hd => rk_lay (h d hd)) (by decide)
theorem rows_lay {B : Int} {rs : List PyData} (h : ∀ r ∈ rs, Rk B r) : (PyData.tuple rs).canLay0 = true := by
  simp only [PyData.canLay0]
  exact lay_all fun d hd => (rk_lay (h d hd)).1
theorem w_neX_rows {B : Int} {rs : List PyData} {R : PyData → Prop} (h : ∀ r ∈ rs, Rk B r) (q : R (.bool false)) : W (neX (.tuple rs) (.tuple rs)) R := by
  have e := PySem.SeqAt.eqv_refl (.tuple rs) (rows_lay h)
  refine w_neD (rows_shaped h) (rows_shaped h) ?_
  rw [e]
  exact q
theorem w_eqX_rows {B : Int} {rs : List PyData} {R : PyData → Prop} (h : ∀ r ∈ rs, Rk B r) (q : R (.bool true)) : W (eqX (.tuple rs) (.tuple rs)) R := by
  have e := PySem.SeqAt.eqv_refl (.tuple rs) (rows_lay h)
  refine w_eqD (rows_shaped h) (rows_shaped h) ?_
  rw [e]
  exact q
theorem at_nat {zs : List Int} {k : Nat} {v : Int} (h : zs[k]? = some v) : atI (zs.map PyData.int) (k : Int) = some (.int v) := at_int h
abbrev rs0 (l : Lb) (b : Int) (ad : List (Int × Int)) : Rs := [.fz l.d, .fz (iL (filF l b ad)), .fz (.int b), .fz (.dict (dI (iV ad))), .fz (.dict (dI (iV (spots l)))), .fz (.dict (dI (iV ((dedK l).zip (dedS l))))), .fz (.int (frs l)), .fz (.int (las l))]
abbrev ifW : Es := sIf (eAnd (eT truD (eMap (eCons (eBin ixD (eV 9) (eC (.int 4))) eNil) (arN 1 m__law_whole))) (eT blD (eBin neX (eBin ixD (eV 1) (eBin dixD (eV 4) (eV 8))) (eBin ixD (eV 9) (eC (.int 4)))))) (sRet (eC (.bool false))) sNil
abbrev ifR : Es := sIf (eAnd (eNot (eT truD (eMap (eCons (eBin ixD (eV 9) (eC (.int 4))) eNil) (arN 1 m__law_whole)))) (eT blD (eBin neX (eMap (eCons (eV 1) (eCons (eV 2) (eCons (eBin dixD (eV 5) (eV 8)) eNil))) (arN 3 m__law_back)) (eBin ixD (eV 9) (eC (.int 4)))))) (sRet (eC (.bool false))) sNil
section
variable {l : Lb} {b : Int} {ad : List (Int × Int)} {e10 e11 : Sl} {m : Ms}
theorem x_w {r : Rs} {g : Gv} {Q : PyData × Ms → Prop} (h9 : r[9]? = some (.fz g.d)) (q : Q (g.x, m)) : W (eBin ixD (eV 9) (eC (.int 4)) r m) Q := w_bin (w_V h9 (w_C (w_ix_t (W.of (show atI [PyData.str g.w, .str g.v, .bool g.c, .bool g.f, g.x] 4 = some g.x from rfl) q))))
theorem wh_w {r : Rs} {g : Gv} {QB : Bool × Ms → Prop} (h9 : r[9]? = some (.fz g.d)) (hi : IT g.x) (q : QB (isI g.x, m)) : W (eT truD (eMap (eCons (eBin ixD (eV 9) (eC (.int 4))) eNil) (arN 1 m__law_whole)) r m) QB :=
  w_T (w_map (w_cons (x_w h9 (w_nil (w_arN rfl (lwhole_w hi (w_tru_b q)))))))
theorem ifW_w (h : L2k l) {k : Nat} {g : Gv} (hg : l.gs[k]? = some g) {Q : Out → Prop} (q : Q (.nx (rs0 l b ad ++ [.fz (.int (k : Int)), .fz g.d, e10, e11]) m)) : W (ifW (rs0 l b ad ++ [.fz (.int (k : Int)), .fz g.d, e10, e11]) m) Q := by
  have hm := List.mem_of_getElem? hg
  refine w_if (w_and (wh_w rfl (h.it hm) ⟨fun z => ?_, fun _ => ⟨fun z => (by cases z), fun _ => .mk q⟩⟩))
  have hi : isI g.x = true := z
  obtain ⟨j, e1, e2⟩ := spot_cell hg hi
  have hx : ∃ i : Int, g.x = .int i := by
    rcases h.it hm with h | ⟨rs, h⟩
    · exact h
    · rw [h] at hi; cases hi
  obtain ⟨i, hx⟩ := hx
  have hin : (k : Int) ∈ (spots l).map (·.1) := by
    have := in_spots hg
    rw [hi] at this
    exact of_decide_eq_true this
  refine w_T (w_bin (w_bin (w_V rfl (w_bin (w_V rfl (w_V rfl (w_dixV hin ?_)))))))
  rw [e1]
  have ec := filF_cell (b := b) (ad := ad) e2
  refine w_ix_l (W.of (show atI ((filF l b ad).map PyData.int) ((l.us.length : Int) + (j : Int)) = some (.int (intOf g.x)) from ?_) ?_)
  · rw [show (l.us.length : Int) + (j : Int) = ((l.us.length + j : Nat) : Int) by omega]
    exact at_nat ec
  · refine x_w rfl ?_
    rw [hx]
    refine w_neX_ii (w_bl ⟨fun z => ?_, fun _ => .mk q⟩)
    simp [intOf] at z
theorem ifR_w (h : L2k l) {k : Nat} {g : Gv} (hg : l.gs[k]? = some g) {Q : Out → Prop} (q : Q (.nx (rs0 l b ad ++ [.fz (.int (k : Int)), .fz g.d, e10, e11]) m)) : W (ifR (rs0 l b ad ++ [.fz (.int (k : Int)), .fz g.d, e10, e11]) m) Q := by
  have hm := List.mem_of_getElem? hg
  refine w_if (w_and (w_not (wh_w rfl (h.it hm) ⟨fun z => ?_, fun _ => ⟨fun z => (by cases z), fun _ => .mk q⟩⟩)))
  have hi : isI g.x = false := by
    have : (!isI g.x) = true := z
    simpa using this
  have hx : ∃ rs, g.x = .tuple rs ∧ rs.length ≤ 8 ∧ ∀ r ∈ rs, Rk BB r := by
    rcases h.gx g hm with ⟨i, e⟩ | e
    · rw [e] at hi; cases hi
    · exact e
  obtain ⟨rs, hx, hl, hr⟩ := hx
  obtain ⟨zz, A, R, hin, e1, e2, e3⟩ := deed_rows h (b := b) (ad := ad) hg hx
  refine w_T (w_bin (w_map (w_cons (w_V rfl (w_cons (w_V rfl (w_cons (w_bin (w_V rfl (w_V rfl (w_dixV hin ?_)))))))))))
  rw [e1]
  refine w_nil (w_arN rfl ?_)
  rw [e2]
  refine back_w hr hl e3 ?_
  refine x_w rfl ?_
  rw [hx]
  exact w_neX_rows hr (w_bl ⟨fun z => (by cases z), fun _ => .mk q⟩)
abbrev ifC : Es := sIf (eAnd (eT truD (eBin ixD (eV 10) (eC (.int 2)))) (eT blD (eBin neX (eBin ixD (eV 1) (eV 8)) (eBin dixD (eV 3) (eV 8))))) (sRet (eC (.bool false))) sNil
abbrev ifS : Es := sIf (eAnd (eNot (eT truD (eBin ixD (eV 10) (eC (.int 2))))) (eT blD (eBin neX (eSl (eV 1) (ePt (eV 11)) (ePt (eBin addD (eV 11) (eC (.int 3))))) (eLst (eCons (eC (.int 10)) (eCons (eV 8) (eCons (eC (.int 0)) eNil))))))) (sRet (eC (.bool false))) sNil
theorem c_w {r : Rs} {u : Us} {Q : PyData × Ms → Prop} (h : r[10]? = some (.fz u.d)) (q : Q (.bool u.c, m)) : W (eBin ixD (eV 10) (eC (.int 2)) r m) Q := w_bin (w_V h (w_C (w_ix_t (W.of (show atI [PyData.str u.w, .str u.v, .bool u.c, .bool u.b] 2 = some (.bool u.c) from rfl) q))))
theorem fk_w {r : Rs} {k : Nat} {Q : PyData × Ms → Prop} (h1 : r[1]? = some (.fz (iL (filF l b ad)))) (h8 : r[8]? = some (.fz (.int (k : Int)))) (hk : k < l.us.length) (q : Q (.int (slot l b ad k), m)) : W (eBin ixD (eV 1) (eV 8) r m) Q :=
  w_bin (w_V h1 (w_V h8 (w_ix_l (W.of (at_nat (filF_slot hk)) q))))
theorem uc_at {k : Nat} {u : Us} (hu : l.us[k]? = some u) : ((l.us.map Us.c)[k]?).getD false = u.c := by rw [List.getElem?_map, hu]; rfl
theorem ifC_w {k : Nat} {u : Us} {e9 : Sl} (hu : l.us[k]? = some u) (had : ∀ k : Nat, ∀ u : Us, l.us[k]? = some u → u.c = true → (k : Int) ∈ ad.map (·.1)) {Q : Out → Prop} (q : Q (.nx (rs0 l b ad ++ [.fz (.int (k : Int)), e9, .fz u.d, e11]) m)) : W (ifC (rs0 l b ad ++ [.fz (.int (k : Int)), e9, .fz u.d, e11]) m) Q := by
  refine w_if (w_and (w_T (c_w rfl (w_tru_b ⟨fun z => ?_, fun _ => ⟨fun z => (by cases z), fun _ => .mk q⟩⟩))))
  have hc : u.c = true := z
  have hk := (List.getElem?_eq_some_iff.mp hu).1
  refine w_T (w_bin (fk_w rfl rfl hk (w_bin (w_V rfl (w_V rfl (w_dixV (had k u hu hc) ?_))))))
  have e : slot l b ad k = ((ad.find? fun p => decide (p.1 = (k : Int))).map (·.2)).getD 0 := by
    unfold slot
    rw [uc_at hu, if_pos hc]
    rfl
  rw [e]
  refine w_neX_ii (w_bl ⟨fun z => ?_, fun _ => .mk q⟩)
  simp at z
theorem ifS_w {k : Nat} {u : Us} {e9 : Sl} (hu : l.us[k]? = some u) {Q : Out → Prop} (q : Q (.nx (rs0 l b ad ++ [.fz (.int (k : Int)), e9, .fz u.d, .fz (.int (slot l b ad k - b))]) m)) : W (ifS (rs0 l b ad ++ [.fz (.int (k : Int)), e9, .fz u.d, .fz (.int (slot l b ad k - b))]) m) Q := by
  refine w_if (w_and (w_not (w_T (c_w rfl (w_tru_b ⟨fun z => ?_, fun _ => ⟨fun z => (by cases z), fun _ => .mk q⟩⟩)))))
  have hc : u.c = false := by
    have : (!u.c) = true := z
    simpa using this
  obtain ⟨A, R, e1, e2⟩ := filF_stub (b := b) (ad := ad) hu hc
  have e3 : slot l b ad k - b = A.length := by
    unfold slot
    rw [uc_at hu, hc, if_neg (by decide), ← e2]
    omega
  refine w_T (w_bin (w_sl (w_V (d := iL (filF l b ad)) rfl (w_pt (w_V rfl ⟨_, rfl, w_pt (w_bin (w_V rfl (w_C (w_add_i ⟨_, rfl, ?_⟩))))⟩)))))
  refine W.of (show slcD (iL (filF l b ad)) (some (slot l b ad k - b)) (some (slot l b ad k - b + 3)) = some (iL [10, (k : Int), 0]) from ?_) ?_
  · show some (PyData.list (cutD ((filF l b ad).map PyData.int) _ _)) = _
    rw [e1, cut_at A [10, (k : Int), 0] R e3 rfl]
  refine w_lst (w_cons (w_C (w_cons (w_V rfl (w_cons (w_C (w_nil ⟨by rw [sizeLine_eq]; exact (by decide : (3 : Nat) ≤ 16777216), ?_⟩)))))))
  refine w_neX_LL (xs := [10, (k : Int), 0]) (ys := [10, (k : Int), 0]) (w_bl ⟨fun z => ?_, fun _ => .mk q⟩)
  simp at z
end
theorem right_w {l : Lb} {b : Int} {ad : List (Int × Int)} {Q : PyData → Prop} (h : L2k l) (had : ∀ k : Nat, ∀ u : Us, l.us[k]? = some u → u.c = true → (k : Int) ∈ ad.map (·.1)) (q : Q (.bool true)) :
    W (m__law_right [l.d, iL (filF l b ad), .int b, .dict (dI (iV ad))]) Q := by
  unfold m__law_right
  refine w_runD ?_
  refine w_seq (w_asg (w_map (w_cons (w_V rfl (w_nil (w_arN rfl (begins_w h ?_)))))))
  show W (some _) _
  refine .mk ?_
  refine w_seq (w_for (fun ds i r m => ds = enumD (l.gs.map Gv.d) ∧ ∃ e8 e9 e10 e11, r = rs0 l b ad ++ [e8, e9, e10, e11]) ?_)
  refine W.bind (W.mono (P := fun p => p = (PyData.tuple (l.gs.map Gv.d), ([] : Ms))) (w_bin (w_V rfl (w_C (w_ix_t (W.of (show atI [PyData.str l.n, .tuple (l.ns.map .str), .tuple (l.gs.map Gv.d), .tuple (l.us.map Us.d), .tuple l.r0, .tuple l.r1, .tuple (l.ks.map .str)] 2 = some _ from rfl) rfl))))) ?_)
  rintro p rfl
  refine W.map (w_enumA_t ?_)
  refine ⟨⟨rfl, _, _, _, _, rfl⟩, ?_, ?_⟩
  · rintro i d r m hd ⟨_, e8, e9, e10, e11, rfl⟩
    obtain ⟨x, hx, rfl⟩ := enum_at' hd
    obtain ⟨g, hg, rfl⟩ := gs_at hx
    show W (some _) _
    refine .mk ?_
    refine w_seq (ifW_w h hg (e10 := e10) (e11 := e11) ?_)
    exact ifR_w h hg (e10 := e10) (e11 := e11) ⟨rfl, _, _, _, _, rfl⟩
  rintro r m ⟨_, e8, e9, e10, e11, rfl⟩
  show W _ _
  refine w_seq (w_for (fun ds i r m => ds = enumD (l.us.map Us.d) ∧ ∃ e8 e9 e10 e11, r = rs0 l b ad ++ [e8, e9, e10, e11]) ?_)
  refine W.bind (W.mono (P := fun p => p = (PyData.tuple (l.us.map Us.d), m)) (w_bin (w_V rfl (w_C (w_ix_t (W.of (show atI [PyData.str l.n, .tuple (l.ns.map .str), .tuple (l.gs.map Gv.d), .tuple (l.us.map Us.d), .tuple l.r0, .tuple l.r1, .tuple (l.ks.map .str)] 3 = some _ from rfl) rfl))))) ?_)
  rintro p rfl
  refine W.map (w_enumA_t ?_)
  refine ⟨⟨rfl, _, _, _, _, rfl⟩, ?_, ?_⟩
  · rintro i d r m hd ⟨_, e8, e9, e10, e11, rfl⟩
    obtain ⟨x, hx, rfl⟩ := enum_at' hd
    obtain ⟨u, hu, rfl⟩ := us_at hx
    have hk := (List.getElem?_eq_some_iff.mp hu).1
    show W (some _) _
    refine .mk ?_
    refine w_seq (ifC_w hu had (e9 := e9) (e11 := e11) ?_)
    show W _ _
    refine w_seq (w_set (w_bin (fk_w rfl rfl hk (w_V rfl (w_sub_i ?_)))))
    show W _ _
    exact ifS_w hu (e9 := e9) ⟨rfl, _, _, _, _, rfl⟩
  rintro r m ⟨_, e8, e9, e10, e11, rfl⟩
  show W _ _
  have r0at : atI [PyData.str l.n, .tuple (l.ns.map .str), .tuple (l.gs.map Gv.d), .tuple (l.us.map Us.d), .tuple l.r0, .tuple l.r1, .tuple (l.ks.map .str)] 4 = some (.tuple l.r0) := rfl
  have r1at : atI [PyData.str l.n, .tuple (l.ns.map .str), .tuple (l.gs.map Gv.d), .tuple (l.us.map Us.d), .tuple l.r0, .tuple l.r1, .tuple (l.ks.map .str)] 5 = some (.tuple l.r1) := rfl
  obtain ⟨A, R, e1, e2⟩ := first_rows h (b := b) (ad := ad)
  obtain ⟨A', R', e1', e2'⟩ := last_rows h (b := b) (ad := ad)
  refine w_seq (w_if (w_T (w_bin (w_map (w_cons (w_V (d := iL (filF l b ad)) rfl (w_cons (w_V rfl (w_cons (w_V rfl (w_nil (w_arN rfl ?_))))))))))))
  rw [e1]
  refine back_w h.r0.2 h.r0.1 e2 ?_
  refine w_bin (w_V rfl (w_C (w_ix_t (W.of r0at ?_))))
  refine w_neX_rows h.r0.2 (w_bl ⟨fun z => (by cases z), fun _ => .mk ?_⟩)
  rw [← e1]
  show W _ _
  refine w_ret (w_bin (w_map (w_cons (w_V (d := iL (filF l b ad)) rfl (w_cons (w_V rfl (w_cons (w_V rfl (w_nil (w_arN rfl ?_))))))))))
  rw [e1']
  refine back_w h.r1.2 h.r1.1 e2' ?_
  refine w_bin (w_V rfl (w_C (w_ix_t (W.of r1at ?_))))
  exact w_eqX_rows h.r1.2 q
end K74
end
/-! NGW -/
section
set_option maxHeartbeats 4000000
namespace NG
open PySem L2 TL
/-! ## the twins over one heap, reckoned -/
def RX {α : Type} (Q : α → Ms → Dd → Prop) (E : Xn → Ms → Dd → Prop) : Ro α → Prop
  | .ok a m D => Q a m D
  | .xc x m D => E x m D
section
variable {α β : Type} {r : Rs} {m : Ms} {D : Dd} {E : Xn → Ms → Dd → Prop} {Q : Sl → Ms → Dd → Prop} {QB : Bool → Ms → Dd → Prop} {QA : List Sl → Ms → Dd → Prop} {f g fo : Gv} {fa : Ga} {t u : Gt} {i k n C : Nat} {x : Str}
theorem w_bd {o : Option (Ro α)} {ff : α → Ms → Dd → Option (Ro β)} {R : β → Ms → Dd → Prop} (h : W o (RX (fun a m D => W (ff a m D) (RX R E)) E)) : W (bd o ff) (RX R E) := by
  obtain ⟨a, e, q⟩ := h.get
  subst e
  cases a with
  | ok a m D => exact q
  | xc x m D => exact .mk q
theorem w_bs {o : Option (Ro α)} {ff : α → Ms → Dd → Option Og} {P : Og → Prop} (h : W o (RX (fun a m D => W (ff a m D) P) (fun x m D => P (.xc x r m D)))) : W (bs o r ff) P := by
  obtain ⟨a, e, q⟩ := h.get
  subst e
  cases a with
  | ok a m D => exact q
  | xc x m D => exact .mk q
theorem RX.mono {Q Q' : α → Ms → Dd → Prop} {E E' : Xn → Ms → Dd → Prop} (h1 : ∀ a m D, Q a m D → Q' a m D) (h2 : ∀ x m D, E x m D → E' x m D) : ∀ {o : Ro α}, RX Q E o → RX Q' E' o
  | .ok a m D, h => h1 a m D h
  | .xc x m D, h => h2 x m D h
/-- nothing is raised -/
abbrev nE : Xn → Ms → Dd → Prop := fun _ _ _ => False
theorem RX.calm {Q Q' : α → Ms → Dd → Prop} {E' : Xn → Ms → Dd → Prop} (h1 : ∀ a m D, Q a m D → Q' a m D) {o : Ro α} (h : RX Q nE o) : RX Q' E' o := RX.mono h1 (fun _ _ _ z => z.elim) h
theorem W.calm {o : Option (Ro α)} {Q Q' : α → Ms → Dd → Prop} {E' : Xn → Ms → Dd → Prop} (h : W o (RX Q nE)) (k : ∀ a m D, Q a m D → Q' a m D) : W o (RX Q' E') := W.mono h fun _ h => h.calm k
theorem w_lE {f : Ev} (h : W (f r m) fun p => Q (.fz p.1) p.2 D) : W (lE f r m D) (RX Q E) := W.map h
theorem w_lT {f : Et} (h : W (f r m) fun p => QB p.1 p.2 D) : W (lT f r m D) (RX QB E) := W.map h
theorem w_lN {f : Ev} (h : W (f r m) fun p => Q (.ow p.2.length) (p.2 ++ [some p.1]) D) : W (lN f r m D) (RX Q E) := W.map h
theorem w_lI {f : Eas} {R : List PyData → Ms → Dd → Prop} (h : W (f r m) fun p => R p.1 p.2 D) : W (lI f r m D) (RX R E) := W.map h
theorem w_gVarO (e : r[i]? = some (.ow k)) (h : Q (.ow k) m D) : W (gVar i r m D) (RX Q E) := by
  unfold gVar
  rw [e]
  exact .mk h
theorem w_gVarF {d : PyData} (e : r[i]? = some (.fz d)) (h : Q (.fz d) m D) : W (gVar i r m D) (RX Q E) := by
  unfold gVar
  rw [e]
  exact .mk h
theorem w_gNil (h : QA [] m D) : W (gNil r m D) (RX QA E) := .mk h
theorem w_gCons (h : W (f r m D) (RX (fun a m D => W (fa r m D) (RX (fun as m D => QA (a :: as) m D) E)) E)) : W (gCons f fa r m D) (RX QA E) := w_bd (W.mono h fun _ h => RX.mono (fun _ _ _ h => w_bd (W.mono h fun _ h => RX.mono (fun _ _ _ h => .mk h) (fun _ _ _ z => z) h)) (fun _ _ _ z => z) h)
theorem w_gFld (h : W (f r m D) (RX (fun a m D => W (fldV C x a m D) fun s => Q s m D) E)) : W (gFld C f x r m D) (RX Q E) := w_bd (W.mono h fun _ h => RX.mono (fun _ _ _ h => W.map h) (fun _ _ _ z => z) h)
theorem w_gIx (h : W (f r m D) (RX (fun a m D => W (g r m D) (RX (fun b m D => W (ixV a b m D) (RX Q E)) E)) E)) : W (gIx f g r m D) (RX Q E) := w_bd (W.mono h fun _ h => RX.mono (fun _ _ _ h => w_bd h) (fun _ _ _ z => z) h)
theorem w_ixV_f {d j : PyData} (h : W (ixD d j) fun e => Q (.fz e) m D) : W (ixV (.fz d) (.fz j) m D) (RX Q E) := W.map h
theorem w_ixV_l {xs : List Sl} {j : Int} {s : Sl} (e : cont m D k = some (.lst xs)) (e2 : atS xs j = some s) (h : Q s m D) : W (ixV (.ow k) (.fz (.int j)) m D) (RX Q E) := by
  unfold ixV
  simp only [e, e2]
  exact .mk h
theorem w_gBin {op : PyData → PyData → Option PyData} (h : W (f r m D) (RX (fun a m D => W (g r m D) (RX (fun b m D => ∃ x y, a = .fz x ∧ b = .fz y ∧ W (op x y) fun d => Q (.fz d) m D) E)) E)) : W (gBin op f g r m D) (RX Q E) :=
  w_bd (W.mono h fun _ h => RX.mono (fun _ _ _ h => w_bd (W.mono h fun _ h => RX.mono (fun _ _ _ ⟨x, y, e1, e2, q⟩ => by subst e1 e2; exact W.map q) (fun _ _ _ z => z) h)) (fun _ _ _ z => z) h)
theorem w_gMap {op : PyData → Option PyData} (h : W (f r m D) (RX (fun a m D => ∃ x, a = .fz x ∧ W (op x) fun d => Q (.fz d) m D) E)) : W (gMap op f r m D) (RX Q E) :=
  w_bd (W.mono h fun _ h => RX.mono (fun _ _ _ ⟨x, e1, q⟩ => by subst e1; exact W.map q) (fun _ _ _ z => z) h)
theorem w_gT {c : PyData → Option Bool} (h : W (f r m D) (RX (fun a m D => ∃ x, a = .fz x ∧ W (c x) fun b => QB b m D) E)) : W (gT c f r m D) (RX QB E) :=
  w_bd (W.mono h fun _ h => RX.mono (fun _ _ _ ⟨x, e1, q⟩ => by subst e1; exact W.map q) (fun _ _ _ z => z) h)
theorem w_gTru (h : W (f r m D) (RX (fun a m D => W (truV a m D) fun b => QB b m D) E)) : W (gTru f r m D) (RX QB E) := w_bd (W.mono h fun _ h => RX.mono (fun _ _ _ h => W.map h) (fun _ _ _ z => z) h)
theorem w_gNot (h : W (t r m D) (RX (fun b m D => QB (!b) m D) E)) : W (gNot t r m D) (RX QB E) := w_bd (W.mono h fun _ h => RX.mono (fun _ _ _ h => .mk h) (fun _ _ _ z => z) h)
theorem w_gBlt {op : List PyData → Option PyData} (h : W (fa r m D) (RX (fun as m D => ∃ ds, fzL as = some ds ∧ W (op ds) fun d => Q (.fz d) m D) E)) : W (gBlt op fa r m D) (RX Q E) :=
  w_bd (W.mono h fun _ h => RX.mono (fun _ _ _ ⟨ds, e, h⟩ => W.bind (W.of e (W.map h))) (fun _ _ _ z => z) h)
theorem w_gCallD {op : List PyData → Option PyData} (h : W (fa r m D) (RX (fun as m D => ∃ ds, fzL as = some ds ∧ ds.length = n ∧ W (op ds) fun d => Q (.fz d) m D) E)) : W (gCallD n op fa r m D) (RX Q E) :=
  w_bd (W.mono h fun _ h => RX.mono (fun _ _ _ ⟨ds, e, hl, h⟩ => W.bind (W.of e (W.map (w_arN hl h)))) (fun _ _ _ z => z) h)
theorem w_gLst (h : W (fa r m D) (RX (fun xs m D => xs.length ≤ sizeLine ∧ Q (.ow m.length) (newC m D (.lst xs)).1 (newC m D (.lst xs)).2) E)) : W (gLst fa r m D) (RX Q E) :=
  w_bd (W.mono h fun _ h => RX.mono (fun _ _ _ h => W.guard h.1 (.mk h.2)) (fun _ _ _ z => z) h)
theorem w_gFrz (h : W (f r m D) (RX (fun s m D => W (frzV s m D) (RX Q E)) E)) : W (gFrz f r m D) (RX Q E) := w_bd h
theorem w_frzV_f {d : PyData} (h : Q (.fz d) m D) : W (frzV (.fz d) m D) (RX Q E) := .mk h
theorem w_gCall {dd : List PyData} {u : Gf} (h : W (fa r m D) (RX (fun as m D => (as ++ dd.map Sl.fz).length = n ∧ W (u (as ++ dd.map Sl.fz) m D) (RX Q E)) E)) : W (gCall n dd u fa r m D) (RX Q E) :=
  w_bd (W.mono h fun _ h => RX.mono (fun _ _ _ h => W.guard h.1 h.2) (fun _ _ _ z => z) h)
theorem w_gLen (h : W (f r m D) (RX (fun a m D => W (lenV a m D) fun n => Q (.fz (.int (n : Nat))) m D) E)) : W (gLen f r m D) (RX Q E) := w_bd (W.mono h fun _ h => RX.mono (fun _ _ _ h => W.map h) (fun _ _ _ z => z) h)
theorem w_gListOf (h : W (f r m D) (RX (fun a m D => W (itemsV a m D) fun xs => Q (.ow m.length) (newC m D (.lst xs)).1 (newC m D (.lst xs)).2) E)) : W (gListOf f r m D) (RX Q E) := w_bd (W.mono h fun _ h => RX.mono (fun _ _ _ h => W.bind (W.mono h fun _ h => (show W (newV _ _ _) _ from .mk h))) (fun _ _ _ z => z) h)
theorem w_truV_f {d : PyData} {R : Bool → Prop} (h : W (truD d) R) : W (truV (.fz d) m D) R := h
theorem w_gLm {op : Lop} (h : W (fo r m D) (RX (fun o m D => ∃ k xs0, o = .ow k ∧ cont m D k = some (.lst xs0) ∧ W (fa r m D) (RX (fun as m D => ∃ xs, cont m D k = some (.lst xs) ∧ W (op xs as) fun q => Q q.1 (putC m D k (.lst q.2)).1 (putC m D k (.lst q.2)).2) E)) E)) : W (gLm op fo fa r m D) (RX Q E) :=
  w_bd (W.mono h fun _ h => RX.mono (fun _ _ _ ⟨k, xs0, e, e1, h⟩ => by
    subst e
    simp only [e1]
    exact w_bd (W.mono h fun _ h => RX.mono (fun _ _ _ ⟨xs, e2, h⟩ => by simp only [e2]; exact W.map h) (fun _ _ _ z => z) h)) (fun _ _ _ z => z) h)
end
/-! ### statements -/
def ThenG (t : Gs) (P : Og → Prop) : Og → Prop
  | .nx r m D => W (t r m D) P
  | o => P o
def LS (D : Dd) (P : Og → Prop) : Out → Prop
  | .nx r m => P (.nx r m D)
  | .bk r m => P (.bk r m D)
  | .ct r m => P (.ct r m D)
  | _ => False
def TurnG (I : Rs → Ms → Dd → Prop) (P : Og → Prop) : Og → Prop
  | .nx r m D => I r m D
  | .ct r m D => I r m D
  | .bk r m D => P (.nx r m D)
  | o => P o
/-- behind a def's body -/
def PG (P : Ro Sl → Prop) : Og → Prop
  | .rt v m D => P (.ok v m D)
  | .nx _ m D => P (.ok (.fz .none) m D)
  | .xc x _ m D => P (.xc x m D)
  | _ => False
section
variable {r : Rs} {m : Ms} {D : Dd} {P : Og → Prop} {f g fo fv : Gv} {t : Gt} {s s' : Gs} {i k n C : Nat} {x : Str} {hh : Gh}
theorem w_gsNil (h : P (.nx r m D)) : W (gsNil r m D) P := .mk h
theorem w_gsSeq (h : W (s r m D) (ThenG s' P)) : W (gsSeq s s' r m D) P := W.bind (W.mono h fun o h => by
  cases o with
  | nx r m D => exact h
  | _ => exact .mk h)
theorem w_lS {f : Es} (h : W (f r m) (LS D P)) : W (lS f r m D) P := W.bind (W.mono h fun o h => by
  cases o with
  | nx r m => exact .mk h
  | bk r m => exact .mk h
  | ct r m => exact .mk h
  | _ => exact h.elim)
theorem w_gsSet (h : W (f r m D) (RX (fun s m D => P (.nx (r.set i s) m D)) fun x m D => P (.xc x r m D))) : W (gsSet i f r m D) P := w_bs (W.mono h fun _ h => RX.mono (fun _ _ _ h => .mk h) (fun _ _ _ z => z) h)
theorem w_gsRet (h : W (f r m D) (RX (fun s m D => P (.rt s m D)) fun x m D => P (.xc x r m D))) : W (gsRet f r m D) P := w_bs (W.mono h fun _ h => RX.mono (fun _ _ _ h => .mk h) (fun _ _ _ z => z) h)
theorem w_gsRetN (h : P (.rt (.fz .none) m D)) : W (gsRetN r m D) P := .mk h
theorem w_gsIf (h : W (t r m D) (RX (fun b m D => (b = true → W (s r m D) P) ∧ (b = false → W (s' r m D) P)) fun x m D => P (.xc x r m D))) : W (gsIf t s s' r m D) P :=
  w_bs (W.mono h fun _ h => RX.mono (fun _ _ _ h => W.ite h.1 fun z => h.2 (by simpa using z)) (fun _ _ _ z => z) h)
theorem w_gsDrop (h : W (f r m D) (RX (fun s m D => P (.nx r m D)) fun x m D => P (.xc x r m D))) : W (gsDrop f r m D) P := w_bs (W.mono h fun _ h => RX.mono (fun _ _ _ h => .mk h) (fun _ _ _ z => z) h)
theorem w_gsFrzO {d : PyData} (e : r[i]? = some (.ow k)) (e1 : cellAt m k = some d) (h : W (s (r.set i (.fz d)) (m.set k none) D) P) : W (gsFrz i s r m D) P := by
  unfold gsFrz
  simp only [e, e1]
  exact h
theorem w_lH {h : Eh} {d : PyData} {R : Rs → Prop} (q : W (h d r) R) : W (lH h (.fz d) r) R := q
theorem loopG_inv {ds : List PyData} (I : Nat → Rs → Ms → Dd → Prop) (step : ∀ (i : Nat) (d : PyData) (r : Rs) (m : Ms) (D : Dd), ds[i]? = some d → I i r m D → W (hh (.fz d) r) fun r1 => W (s r1 m D) (TurnG (I (i + 1)) P)) (done : ∀ r m D, I ds.length r m D → P (.nx r m D)) :
    ∀ (k : Nat) (r : Rs) (m : Ms) (D : Dd), k ≤ ds.length → I k r m D → W (gsLoop hh s (ds.drop k) r m D) P := by
  intro k
  induction hk : ds.length - k generalizing k with
  | zero =>
    intro r m D hl hI
    have : k = ds.length := by omega
    subst this
    rw [List.drop_length]
    exact .mk (done r m D hI)
  | succ n ih =>
    intro r m D hl hI
    have hlt : k < ds.length := by omega
    rw [List.drop_eq_getElem_cons hlt]
    unfold gsLoop
    refine W.bind (W.mono (step k ds[k] r m D (List.getElem?_eq_getElem hlt) hI) fun r1 h => W.bind (W.mono h fun o h => ?_))
    cases o with
    | nx r2 m2 D2 => exact ih (k + 1) (by omega) r2 m2 D2 (by omega) h
    | ct r2 m2 D2 => exact ih (k + 1) (by omega) r2 m2 D2 (by omega) h
    | bk r2 m2 D2 => exact .mk h
    | rt d m2 D2 => exact .mk h
    | xc d r2 m2 D2 => exact .mk h
theorem w_gsFor (I : List PyData → Nat → Rs → Ms → Dd → Prop) {fi : Gr (List PyData)} (h : W (fi r m D) (RX (fun ds m D => I ds 0 r m D ∧ (∀ (i : Nat) (d : PyData) (r : Rs) (m : Ms) (D : Dd), ds[i]? = some d → I ds i r m D → W (hh (.fz d) r) fun r1 => W (s r1 m D) (TurnG (I ds (i + 1)) P)) ∧ (∀ r m D, I ds ds.length r m D → P (.nx r m D))) fun x m D => P (.xc x r m D))) : W (gsFor fi hh s r m D) P :=
  w_bs (W.mono h fun _ h => RX.mono (fun ds m D ⟨h1, h2, h3⟩ => by
    have := loopG_inv (hh := hh) (s := s) (P := P) (ds := ds) (I ds) h2 h3 0 r m D (Nat.zero_le _) h1
    rw [List.drop_zero] at this
    exact this) (fun _ _ _ z => z) h)
def PGD (R : PyData → Prop) : Og → Prop
  | .rt (.fz d) _ _ => R d
  | _ => False
theorem w_runGD {ds : List PyData} {R : PyData → Prop} (h : W (s (ds.map .fz ++ List.replicate n .un) [] []) (PGD R)) : W (runGD n s ds) R := by
  unfold runGD
  cases e : s (ds.map .fz ++ List.replicate n .un) [] [] with
  | none => rw [e] at h; cases h
  | some o =>
    rw [e] at h
    cases h with
    | mk h =>
    cases o with
    | rt v m D => cases v with
      | fz d => exact .mk h
      | _ => exact h.elim
    | _ => exact h.elim
end
/-! ### cells -/
section
variable {m : Ms} {D : Dd} {k j : Nat}
theorem cont_deep {c : Cl} (e : dAt D k = some c) : cont m D k = some c := by unfold cont; rw [e]
theorem cont_list {ds : List PyData} (e : dAt D k = none) (e2 : cellAt m k = some (.list ds)) : cont m D k = some (.lst (ds.map .fz)) := by unfold cont; rw [e]; simp only [e2]
theorem fzL_map (ds : List PyData) : fzL (ds.map .fz) = some ds := by
  induction ds with
  | nil => rfl
  | cons d ds ih => rw [List.map_cons, fzL, ih]; rfl
theorem shal_list (ds : List PyData) : shal (.lst (ds.map .fz)) = some (.list ds) := by
  show (fzL (ds.map .fz)).map PyData.list = _
  rw [fzL_map]
  rfl
theorem putC_list {ds : List PyData} (e : dAt D k = none) : putC m D k (.lst (ds.map .fz)) = (m.set k (some (.list ds)), D) := by
  unfold putC
  rw [e, shal_list]
theorem atS_map {ds : List PyData} {i : Int} {d : PyData} (e : atI ds i = some d) : atS (ds.map .fz) i = some (.fz d) := by
  obtain ⟨j, e1, e2⟩ := Option.bind_eq_some_iff.mp e
  unfold atS
  rw [List.length_map, e1, Option.bind_some, List.getElem?_map, e2]
  rfl
end
section
variable {r : Rs} {m : Ms} {D : Dd} {P : Og → Prop} {t : Gs} {I : Rs → Ms → Dd → Prop} {v : Sl} {x : Xn} {R : Ro Sl → Prop}
theorem ls_nx : LS D P (.nx r m) = P (.nx r m D) := rfl
theorem ls_bk : LS D P (.bk r m) = P (.bk r m D) := rfl
theorem ls_ct : LS D P (.ct r m) = P (.ct r m D) := rfl
theorem tg_nx : ThenG t P (.nx r m D) = W (t r m D) P := rfl
theorem tg_rt : ThenG t P (.rt v m D) = P (.rt v m D) := rfl
theorem tg_bk : ThenG t P (.bk r m D) = P (.bk r m D) := rfl
theorem tg_ct : ThenG t P (.ct r m D) = P (.ct r m D) := rfl
theorem tg_xc : ThenG t P (.xc x r m D) = P (.xc x r m D) := rfl
theorem tu_nx : TurnG I P (.nx r m D) = I r m D := rfl
theorem tu_ct : TurnG I P (.ct r m D) = I r m D := rfl
theorem tu_bk : TurnG I P (.bk r m D) = P (.nx r m D) := rfl
theorem tu_rt : TurnG I P (.rt v m D) = P (.rt v m D) := rfl
theorem tu_xc : TurnG I P (.xc x r m D) = P (.xc x r m D) := rfl
theorem pg_rt : PG R (.rt v m D) = R (.ok v m D) := rfl
theorem pg_nx : PG R (.nx r m D) = R (.ok (.fz .none) m D) := rfl
theorem pg_xc : PG R (.xc x r m D) = R (.xc x m D) := rfl
theorem rx_ok {α : Type} {Q : α → Ms → Dd → Prop} {E : Xn → Ms → Dd → Prop} {a : α} : RX Q E (.ok a m D) = Q a m D := rfl
theorem rx_xc {α : Type} {Q : α → Ms → Dd → Prop} {E : Xn → Ms → Dd → Prop} : RX Q E (.xc x m D) = E x m D := rfl
theorem pgd_rt {R : PyData → Prop} {d : PyData} : PGD R (.rt (.fz d) m D) = R d := rfl
end
end NG
end
open PySem L2 TL
local macro_rules | `(tactic| walk_at "tlg1") => `(tactic| first
  | with_reducible refine NG.w_gsSeq ?_ | with_reducible refine NG.w_gsSet ?_ | with_reducible refine NG.w_gsRet ?_ | with_reducible refine NG.w_gsRetN ?_ | with_reducible refine NG.w_gsDrop ?_ | with_reducible refine NG.w_gsNil ?_ | with_reducible refine NG.w_lS ?_ | with_reducible refine NG.w_lE ?_ | with_reducible refine NG.w_lT ?_ | with_reducible refine NG.w_lN ?_ | with_reducible refine NG.w_lI ?_ | with_reducible refine NG.w_gNil ?_ | with_reducible refine NG.w_gCons ?_ | with_reducible refine NG.w_gIx ?_ | with_reducible refine NG.w_gBin ?_ | with_reducible refine NG.w_gT ?_ | with_reducible refine NG.w_gMap ?_ | with_reducible refine NG.w_gNot ?_ | with_reducible refine NG.w_gTru ?_ | with_reducible refine NG.w_gBlt ?_ | with_reducible refine NG.w_gCallD ?_ | with_reducible refine NG.w_gCall ?_ | with_reducible refine NG.w_gFrz ?_ | with_reducible refine NG.w_frzV_f ?_ | with_reducible refine NG.w_gLen ?_ | with_reducible refine NG.w_ixV_f ?_ | with_reducible refine NG.w_truV_f ?_ | with_reducible refine NG.w_gFld ?_ | with_reducible refine NG.w_gListOf ?_ | with_reducible refine NG.w_gLst ?_ | with_reducible refine NG.w_lH ?_ | ((with_reducible refine' NG.w_gVarO ?_ ?_); rotate_left; (exact rfl)) | ((with_reducible refine' NG.w_gVarF ?_ ?_); rotate_left; (exact rfl)))
local macro_rules | `(tactic| walk_at "tlgn") => `(tactic| simp only [NG.ls_nx, NG.ls_bk, NG.ls_ct, NG.tg_nx, NG.tg_rt, NG.tg_bk, NG.tg_ct, NG.tg_xc, NG.tu_nx, NG.tu_ct, NG.tu_bk, NG.tu_rt, NG.tu_xc, NG.pg_rt, NG.pg_nx, NG.pg_xc, NG.pgd_rt, NG.rx_ok, NG.rx_xc])
local macro_rules | `(tactic| walk_at "tlgx") => `(tactic| (first | refine Exists.intro _ (Exists.intro _ (And.intro (Eq.refl _) (And.intro (Eq.refl _) ?_))) | refine Exists.intro _ (And.intro (Eq.refl _) ?_)))
local macro_rules | `(tactic| walk_at "tlgv") => `(tactic| repeat (first | walk_at "tlg1" | walk_at "tl1" | walk_at "tl3" | walk_at "tln" | walk_at "tlgn" | (with_reducible walk_at "tlgx") | dsimp only))
/-! NYW -/
section
set_option maxHeartbeats 4000000
namespace NG
open PySem L2 TL
/-! ## W rules for snapshots, tuples of cells, lists of tuples walked -/
section
variable {r : Rs} {m : Ms} {D : Dd} {E : Xn → Ms → Dd → Prop} {Q : Sl → Ms → Dd → Prop} {QB : Bool → Ms → Dd → Prop} {QA : List Sl → Ms → Dd → Prop} {P : Og → Prop} {f g fo fv : Gv} {fa : Ga} {k n : Nat} {s : Gs} {h : Ghs}
theorem w_gSnT {t : Et} (q : W (t (rdS m D r) []) fun p => QB p.1 m D) : W (gSnT t r m D) (RX QB E) := W.map q
theorem rd_fz {i : Nat} {d : PyData} (e : r[i]? = some (.fz d)) : (rdS m D r)[i]? = some (.fz d) := by
  unfold rdS
  rw [List.getElem?_map, e]
  rfl
theorem rd_ow {i k : Nat} {d : PyData} (e : r[i]? = some (.ow k)) (e2 : snap 6 m D (.ow k) = some d) : (rdS m D r)[i]? = some (.fz d) := by
  unfold rdS
  rw [List.getElem?_map, e]
  simp only [Option.map_some, e2]
theorem opt_fz {n : Nat} : ∀ ds : List PyData, optAll ((ds.map Sl.fz).map (snap (n + 1) m D)) = some ds
  | [] => rfl
  | d :: ds => by
    show Option.map _ (optAll ((ds.map Sl.fz).map (snap (n + 1) m D))) = _
    rw [opt_fz ds]
    rfl
theorem snap_lst {n : Nat} {xs : List Sl} {ds : List PyData} (e : cont m D k = some (.lst xs)) (h : optAll (xs.map (snap n m D)) = some ds) : snap (n + 1) m D (.ow k) = some (.list ds) := by
  unfold snap
  simp only [e]
  rw [h]
  rfl
theorem snap_tup {n : Nat} {xs : List Sl} {ds : List PyData} (e : cont m D k = some (.tup xs)) (h : optAll (xs.map (snap n m D)) = some ds) : snap (n + 1) m D (.ow k) = some (.tuple ds) := by
  unfold snap
  simp only [e]
  rw [h]
  rfl
theorem snap_list {n : Nat} {ds : List PyData} (e : cont m D k = some (.lst (ds.map .fz))) : snap (n + 2) m D (.ow k) = some (.list ds) := snap_lst e (opt_fz ds)
/-- a tuple that holds cells -/
theorem w_gTupO (q : W (fa r m D) (RX (fun xs m D => xs.length ≤ sizeLine ∧ fzL xs = none ∧ Q (.ow m.length) (newC m D (.tup xs)).1 (newC m D (.tup xs)).2) E)) : W (gTup fa r m D) (RX Q E) :=
  w_bd (W.mono q fun _ h => RX.mono (fun _ _ _ h => W.guard h.1 (by rw [h.2.1]; exact .mk h.2.2)) (fun _ _ _ z => z) h)
theorem newC_tup {xs : List Sl} : newC m D (.tup xs) = (m ++ [none], dPut D m.length (some (.tup xs))) := rfl
theorem w_gsPutL (q : W (fv r m D) (RX (fun v m D => W (fo r m D) (RX (fun o m D => W (f r m D) (RX (fun i m D => ∃ k j xs n, o = .ow k ∧ i = .fz (.int j) ∧ cont m D k = some (.lst xs) ∧ ixN xs.length j = some n ∧ P (.nx r (putC m D k (.lst (xs.set n v))).1 (putC m D k (.lst (xs.set n v))).2)) fun x m D => P (.xc x r m D))) fun x m D => P (.xc x r m D))) fun x m D => P (.xc x r m D))) : W (gsPutL fo f fv r m D) P :=
  w_bs (W.mono q fun _ h => RX.mono (fun _ _ _ h => w_bs (W.mono h fun _ h => RX.mono (fun _ _ _ h => w_bs (W.mono h fun _ h => RX.mono (fun _ _ _ ⟨k, j, xs, n, e, e0, e1, e2, q⟩ => by
    subst e e0
    dsimp only
    rw [e1]
    dsimp only
    rw [e2]
    exact .mk q) (fun _ _ _ z => z) h)) (fun _ _ _ z => z) h)) (fun _ _ _ z => z) h)
theorem loopT_inv {xs : List Sl} (I : Nat → Rs → Ms → Dd → Prop) (hc : ∀ i r m D, I i r m D → cont m D k = some (.lst xs)) (step : ∀ (i : Nat) (x : Sl) (r : Rs) (m : Ms) (D : Dd), xs[i]? = some x → I i r m D → ∃ ss, tupAt m D x = some ss ∧ W (h ss r) fun r1 => W (s r1 m D) (TurnG (I (i + 1)) P)) (done : ∀ r m D, I xs.length r m D → P (.nx r m D)) :
    ∀ (j : Nat) (r : Rs) (m : Ms) (D : Dd), j ≤ xs.length → I (xs.length - j) r m D → W (gsLoopT k xs.length h s j r m D) P := by
  intro j
  induction j with
  | zero =>
    intro r m D hl hI
    unfold gsLoopT
    rw [hc _ _ _ _ hI]
    dsimp only
    rw [if_pos rfl]
    exact .mk (done _ _ _ hI)
  | succ j ih =>
    intro r m D hl hI
    have hlt : xs.length - (j + 1) < xs.length := by omega
    obtain ⟨ss, e, h1⟩ := step _ _ r m D (List.getElem?_eq_getElem hlt) hI
    unfold gsLoopT
    rw [hc _ _ _ _ hI]
    dsimp only
    rw [if_pos rfl, List.getElem?_eq_getElem hlt]
    refine W.bind (W.of rfl (W.bind (W.of e (W.bind (W.mono h1 fun r1 h2 => W.bind (W.mono h2 fun o h3 => ?_))))))
    have ei : xs.length - (j + 1) + 1 = xs.length - j := by omega
    rw [ei] at h3
    cases o with
    | nx r2 m2 D2 => exact ih r2 m2 D2 (by omega) h3
    | ct r2 m2 D2 => exact ih r2 m2 D2 (by omega) h3
    | bk r2 m2 D2 => exact .mk h3
    | rt d m2 D2 => exact .mk h3
    | xc d r2 m2 D2 => exact .mk h3
theorem w_gsForT {xs : List Sl} (I : Nat → Rs → Ms → Dd → Prop) (q : W (f r m D) (RX (fun o m D => o = .ow k ∧ cont m D k = some (.lst xs) ∧ I 0 r m D) fun x m D => P (.xc x r m D))) (hc : ∀ i r m D, I i r m D → cont m D k = some (.lst xs)) (step : ∀ (i : Nat) (x : Sl) (r : Rs) (m : Ms) (D : Dd), xs[i]? = some x → I i r m D → ∃ ss, tupAt m D x = some ss ∧ W (h ss r) fun r1 => W (s r1 m D) (TurnG (I (i + 1)) P)) (done : ∀ r m D, I xs.length r m D → P (.nx r m D)) : W (gsForT f h s r m D) P :=
  w_bs (W.mono q fun _ h => RX.mono (fun o m D ⟨e, e1, h⟩ => by
    subst e
    dsimp only
    rw [e1]
    dsimp only
    exact loopT_inv I hc step done xs.length r m D (Nat.le_refl _) (by rw [Nat.sub_self]; exact h)) (fun _ _ _ z => z) h)
theorem tupAt_of {xs : List Sl} (e : cont m D k = some (.tup xs)) : tupAt m D (.ow k) = some xs := by
  unfold tupAt
  simp only [e]
end
theorem dAt_len {D : Dd} {k : Nat} (h : D.length ≤ k) : dAt D k = none := by
  unfold dAt
  rw [List.getElem?_eq_none h]
  rfl
theorem dPut_len (D : Dd) (k : Nat) (c : Option Cl) : (dPut D k c).length = max D.length (k + 1) := by
  unfold dPut
  rw [List.length_set, List.length_append, List.length_replicate]
  omega
end NG
namespace NG
open PySem L2 TL
section
variable {m : Ms} {D : Dd} {k j : Nat} {c : Cl}
theorem putC_deep (h : shal c = none) : dAt (putC m D k c).2 k = some c ∧ (∀ j, j ≠ k → dAt (putC m D k c).2 j = dAt D j ∧ cellAt (putC m D k c).1 j = cellAt m j) ∧ (putC m D k c).1.length = m.length ∧ (putC m D k c).2.length ≤ max D.length (k + 1) := by
  unfold putC
  cases e : dAt D k with
  | some c0 => exact ⟨dAt_self, fun j hj => ⟨dAt_ne hj, rfl⟩, rfl, Nat.le_of_eq (dPut_len _ _ _)⟩
  | none =>
    simp only [h]
    exact ⟨dAt_self, fun j hj => ⟨dAt_ne hj, cellAt_ne hj⟩, List.length_set, Nat.le_of_eq (dPut_len _ _ _)⟩
theorem cont_old {o : Option PyData} (h : k < m.length) : cont (m ++ [o]) D k = cont m D k := by
  unfold cont
  rw [cellAt_old h]
theorem cont_oldD {o : Option PyData} (h : k < m.length) {c : Option Cl} : cont (m ++ [o]) (dPut D m.length c) k = cont m D k := by
  unfold cont
  rw [cellAt_old h, dAt_ne (by omega)]
/-- a for over two items -/
theorem w_gsFor2 {r : Rs} {P : Og → Prop} {s : Gs} {hh : Gh} {fi : Gr (List PyData)} (h : W (fi r m D) (RX (fun ds m D => ∃ d1 d2, ds = [d1, d2] ∧ W (hh (.fz d1) r) fun r1 => W (s r1 m D) (TurnG (fun r m D => W (hh (.fz d2) r) fun r1 => W (s r1 m D) (TurnG (fun r m D => P (.nx r m D)) P)) P)) fun x m D => P (.xc x r m D))) : W (gsFor fi hh s r m D) P :=
  w_bs (W.mono h fun _ h => RX.mono (fun ds m D ⟨d1, d2, e, h⟩ => by
    subst e
    unfold gsLoop
    refine W.bind (W.mono h fun r1 h => W.bind (W.mono h fun o h => ?_))
    have two : ∀ {r2 : Rs} {m2 : Ms} {D2 : Dd}, (W (hh (.fz d2) r2) fun r1 => W (s r1 m2 D2) (TurnG (fun r m D => P (.nx r m D)) P)) → W (gsLoop hh s [d2] r2 m2 D2) P := fun {r2 m2 D2} h => by
      unfold gsLoop
      refine W.bind (W.mono h fun r1 h => W.bind (W.mono h fun o h => ?_))
      cases o <;> first | exact .mk h | (unfold gsLoop; exact .mk h)
    cases o with
    | nx r2 m2 D2 => exact two h
    | ct r2 m2 D2 => exact two h
    | bk r2 m2 D2 => exact .mk h
    | rt d m2 D2 => exact .mk h
    | xc d r2 m2 D2 => exact .mk h) (fun _ _ _ z => z) h)
end
end NG
end
/-! P74F -/
section
set_option maxHeartbeats 4000000
namespace K74
open PySem L2 TL
/-! ## the base taken off again -/
def cellT (l : Lb) (i : Nat) : List Int := (((List.range l.us.length).take i).filter fun k => ((l.us.map Us.c)[k]?).getD false).map fun k : Nat => (k : Int)
theorem cellT_len (l : Lb) (i : Nat) : (cellT l i).length ≤ l.us.length := by
  unfold cellT
  rw [List.length_map]
  refine Nat.le_trans (List.length_filter_le _ _) ?_
  rw [List.length_take, List.length_range]
  omega
theorem cellT_succ {l : Lb} {i : Nat} {u : Us} (hu : l.us[i]? = some u) : cellT l (i + 1) = cellT l i ++ if u.c = true then [(i : Int)] else [] := by
  have hlt := (List.getElem?_eq_some_iff.mp hu).1
  have hcu : ((l.us.map Us.c)[i]?).getD false = u.c := by rw [List.getElem?_map, hu]; rfl
  unfold cellT
  rw [List.take_add_one, List.getElem?_range hlt, List.filter_append, List.map_append]
  congr 1
  show (List.filter _ [i]).map _ = _
  rw [List.filter_cons, hcu]
  split <;> rfl
theorem cellT_nin {l : Lb} {i : Nat} : (i : Int) ∉ cellT l i := fun h => by
  unfold cellT at h
  obtain ⟨k, hk, e⟩ := List.mem_map.mp h
  have hk := (List.mem_filter.mp hk).1
  obtain ⟨j, hj⟩ := List.mem_iff_getElem?.mp hk
  rw [List.getElem?_take] at hj
  split at hj
  · rename_i hji
    obtain ⟨_, e2⟩ := List.getElem?_eq_some_iff.mp hj
    rw [List.getElem_range] at e2
    have e : (k : Int) = i := e
    omega
  · cases hj
theorem numI_len {l : Lb} (h : L2k l) : (numI l).length ≤ 400 := by
  have h1 := num3_len (rowL_ok h).2
  have h2 := (rowL_ok h).1
  have h3 : (cells l).length ≤ 8 := by
    unfold cells
    rw [List.length_map]
    exact Nat.le_trans (List.length_filter_le _ _) h.gs
  have h4 : (num2 l).length ≤ 24 := by
    unfold num2
    rw [fl3 (fun p : Int × Int => [10, p.1, 0]) (fun _ => rfl)]
    have := stb_len l.us 0 (at0 l)
    have := h.us
    omega
  have h5 : (num0 l).length ≤ 8 := by
    unfold num0
    rw [List.length_map, List.length_range]
    exact h.us
  unfold numI
  rw [List.length_append, List.length_append, List.length_append]
  omega
def unf1 (b : Int) (xs : List Int) (p : K3) : List Int := if p.2.1 = ("own" : Str) then xs.set p.1.toNat ((xs[p.1.toNat]?).getD 0 - b) else xs
def unf (b : Int) (xs : List Int) (ks : List K3) : List Int := ks.foldl (unf1 b) xs
theorem unf_snoc (b : Int) (xs : List Int) (ks : List K3) (k : K3) : unf b xs (ks ++ [k]) = unf1 b (unf b xs ks) k := by
  unfold unf
  rw [List.foldl_append]
  rfl
theorem unf1_len (b : Int) (xs : List Int) (k : K3) : (unf1 b xs k).length = xs.length := by
  unfold unf1
  split
  · rw [List.length_set]
  · rfl
theorem unf_len (b : Int) (ks : List K3) : ∀ xs : List Int, (unf b xs ks).length = xs.length := by
  induction ks with
  | nil => intro xs; rfl
  | cons k ks ih =>
    intro xs
    show (unf b (unf1 b xs k) ks).length = _
    rw [ih, unf1_len]
theorem unf1_set {b : Int} {xs : List Int} {k : K3} {i : Nat} {v : Int} (h : i ≠ k.1.toNat) : unf1 b (xs.set i v) k = (unf1 b xs k).set i v := by
  unfold unf1
  split
  · rw [List.getElem?_set_ne h, List.set_comm _ _ (Ne.symm h)]
  · rfl
theorem unf_set {b : Int} {i : Nat} {v : Int} : ∀ (ks : List K3) (xs : List Int), (∀ k ∈ ks, i ≠ k.1.toNat) → unf b (xs.set i v) ks = (unf b xs ks).set i v
  | [], _, _ => rfl
  | k :: ks, xs, h => by
    show unf b (unf1 b (xs.set i v) k) ks = _
    rw [unf1_set (h k (List.mem_cons_self ..))]
    exact unf_set ks _ fun x hx => h x (List.mem_cons_of_mem _ hx)
theorem unf_fil {b : Int} {ad : List (Int × Int)} {N : List Int} {P : List K3} (hp : P.Pairwise fun x y => x.1 < y.1) (hin : ∀ p ∈ P, 0 ≤ p.1 ∧ p.1 < (N.length : Nat)) : ∀ i : Nat, i ≤ P.length → unf b (fil b ad N (P.take i)) (P.take i) = fil 0 ad N (P.take i)
  | 0, _ => rfl
  | i + 1, h => by
    have hlt : i < P.length := h
    have hat : P[i]? = some P[i] := List.getElem?_eq_getElem hlt
    have hm := hin _ (List.getElem_mem hlt)
    rw [fil_take hat, fil_take hat, List.take_succ_eq_append_getElem hlt, unf_snoc, unf_set _ _ fun k hk => ?_, unf_fil hp hin i (by omega)]
    · have hl : P[i].1.toNat < (fil 0 ad N (P.take i)).length := by rw [fil_len]; omega
      unfold unf1 fval
      split
      · rw [List.getElem?_set_self hl, List.set_set]
        congr 1
        show b + _ - b = 0 + _
        omega
      · rfl
    · obtain ⟨j, hj⟩ := List.mem_iff_getElem?.mp hk
      rw [List.getElem?_take] at hj
      split at hj
      · rename_i hji
        obtain ⟨hjl, e⟩ := List.getElem?_eq_some_iff.mp hj
        have := List.pairwise_iff_getElem.mp hp j i hjl hlt hji
        rw [e] at this
        have := hin k (List.mem_of_mem_take hk)
        omega
      · cases hj
theorem keysC_T (l : Lb) : keysC l = cellT l l.us.length := by
  unfold keysC cellT
  rw [List.take_of_length_le (by rw [List.length_range]; exact Nat.le_refl _)]
theorem had_of {l : Lb} {ad : List (Int × Int)} (h : ad.map (·.1) = keysC l) : ∀ k : Nat, ∀ u : Us, l.us[k]? = some u → u.c = true → (k : Int) ∈ ad.map (·.1) := fun k u hu hc => by
  rw [h]
  unfold keysC
  refine List.mem_map.mpr ⟨k, List.mem_filter.mpr ⟨List.mem_range.mpr (List.getElem?_eq_some_iff.mp hu).1, ?_⟩, rfl⟩
  rw [uc_at hu, hc]
theorem places_ok {l : Lb} {ad : List (Int × Int)} (h : ad.map (·.1) = keysC l) : ∀ p ∈ plaI l, p.2.1 = ("own" : Str) ∨ p.2.2 ∈ ad.map (·.1) := fun p hp => by
  rcases pla_kd p hp with q | q
  · exact .inl q
  · exact .inr (by rw [h]; exact q.2)
theorem filF_len {l : Lb} (h : L2k l) (b : Int) (ad : List (Int × Int)) : (filF l b ad).length = (numI l).length := by rw [← fil_lies h, fil_len]
/-- nothing is wrong -/
theorem res_none {l : Lb} (h : L2k l) (b : Int) (ad : List (Int × Int)) : resD l b (iL (filF l b ad)) = .none := by
  unfold resD
  rw [wholes_iL, intsOf_iL, decide_eq_true (filF_len h b ad), Bool.and_true, if_pos rfl]
  have e : wrL (nfr l) (filF l b ad) (fila b (numI l) (plaI l)) = [] := by
    unfold wrL
    refine List.filter_eq_nil_iff.mpr fun k hk z => ?_
    obtain ⟨j, _, rfl⟩ := List.mem_map.mp hk
    have hag := fil_agree (b := b) (ad := ad) (n := l.us.length) (plaI l) (numI l) (numI l) rfl (pla_lo h) (fun _ _ => rfl) (nfr l + j) (by unfold nfr; omega)
    rw [fil_lies h] at hag
    exact of_decide_eq_true z hag
  rw [e]
  rfl
end K74
end
/-! P74G -/
section
set_option maxHeartbeats 4000000
namespace K74
open PySem L2 TL NG
/-! ## the law -/
abbrev adD (ad : List (Int × Int)) : PyData := .dict (dI (iV ad))
abbrev whD (l : Lb) : PyData := wholeD (numI l) (plaI l)
abbrev baseS : NG.Gs := gsSeq (gsSet 9 (lN (eMap (eCons (eV 6) (eCons (eV 8) (eCons (eV 4) eNil))) (arN 3 m_filled))))
    (gsSeq (gsIf (gSnT (eNot (eT truD (eMap (eCons (eV 3) (eCons (eV 9) (eCons (eV 8) (eCons (eV 4) eNil)))) (arN 4 m__law_right))))) (gsRet (lE (eC (.bool false)))) gsNil)
    (gsSeq (gsIf (gSnT (eT blD (eBin isNotD (eMap (eCons (eV 3) (eCons (eV 8) (eCons (eV 9) eNil))) (arN 3 m_wrong_place)) (eC .none)))) (gsRet (lE (eC (.bool false)))) gsNil)
    (gsDrop (gLm appL (gVar 7) (gCons (gTup (gCons (lE (eV 8)) (gCons (gVar 9) gNil))) gNil)))))
theorem base_turn {S e2 e5 e9 e10 e11 : Sl} {l : Lb} {ad : List (Int × Int)} {b : Int} {B : Nat} {xs : List Sl} {m : Ms} {D : Dd} {P : Og → Prop} (h : L2k l) (hk : ad.map (·.1) = keysC l) (hB : B < m.length) (hD : D.length ≤ m.length) (hc : cont m D B = some (.lst xs)) (hx : xs.length ≤ 5)
    (q : ∀ (m' : Ms) (D' : Dd), m'.length = m.length + 2 → D'.length ≤ m'.length → cont m' D' B = some (.lst (xs ++ [.ow (m.length + 1)])) → dAt D' (m.length + 1) = some (.tup [.fz (.int b), .ow m.length]) → dAt D' m.length = none → cellAt m' m.length = some (iL (filF l b ad)) → (∀ j, j < m.length → j ≠ B → cellAt m' j = cellAt m j ∧ dAt D' j = dAt D j) → P (.nx [S, .ow 0, e2, .fz l.d, .fz (adD ad), e5, .fz (whD l), .ow B, .fz (.int b), .ow m.length, e10, e11] m' D')) :
    W (baseS [S, .ow 0, e2, .fz l.d, .fz (adD ad), e5, .fz (whD l), .ow B, .fz (.int b), e9, e10, e11] m D) P := by
  have hs : SeqAt.shaped (iL (filF l b ad)) = true := iL_shaped _
  refine w_gsSeq (w_gsSet (w_lN (w_map (w_cons (w_V rfl (w_cons (w_V rfl (w_cons (w_V rfl (w_nil (w_arN rfl (filled_w (pla_in h) (places_ok hk) ?_))))))))))))
  rw [fil_lies h]
  have c1 : cont (m ++ [some (iL (filF l b ad))]) D m.length = some (.lst ((filF l b ad).map fun z => Sl.fz (.int z))) := by
    have e := cont_list (m := m ++ [some (iL (filF l b ad))]) (D := D) (k := m.length) (ds := (filF l b ad).map .int) (dAt_len hD) cellAt_new
    rw [List.map_map] at e
    exact e
  have c2 : snap 6 (m ++ [some (iL (filF l b ad))]) D (.ow m.length) = some (iL (filF l b ad)) := snap_list (n := 4) (ds := (filF l b ad).map .int) (by rw [List.map_map]; exact c1)
  rw [tg_nx]
  refine w_gsSeq (w_gsIf (w_gSnT (w_not (w_T (w_map (w_cons (w_V (rd_fz rfl) (w_cons (w_V (rd_ow rfl c2) (w_cons (w_V (rd_fz rfl) (w_cons (w_V (rd_fz rfl) (w_nil (w_arN rfl (right_w h (had_of hk) (w_tru_b ⟨fun z => (by cases z), fun _ => w_gsNil ?_⟩)))))))))))))))))
  rw [tg_nx]
  refine w_gsSeq (w_gsIf (w_gSnT (w_T (w_bin (w_map (w_cons (w_V (rd_fz rfl) (w_cons (w_V (rd_fz rfl) (w_cons (w_V (rd_ow rfl c2) (w_nil (w_arN rfl (wrongplace_w h ?_ ?_ ?_))))))))))))))
  · exact noSet_lay _ (by simp only [PyData.canLay0]; exact lay_all fun d hd => by obtain ⟨z, _, rfl⟩ := List.mem_map.mp hd; simp [PyData.canLay0])
  · intro ds e
    injection e with e
    rw [← e, List.length_map, filF_len h]
    have := numI_len h
    omega
  rw [res_none h]
  refine w_C (W.of (show isNotD .none .none = some (.bool false) from rfl) (w_bl ⟨fun z => (by cases z), fun _ => w_gsNil ?_⟩))
  rw [tg_nx]
  have hB1 : B < (m ++ [some (iL (filF l b ad))]).length := by rw [List.length_append]; omega
  have hc1 : cont (m ++ [some (iL (filF l b ad))]) D B = some (.lst xs) := by rw [cont_old hB]; exact hc
  refine w_gsDrop (w_gLm (w_gVarO rfl ⟨B, xs, rfl, hc1, ?_⟩))
  refine w_gCons (w_gTupO (w_gCons (w_lE (w_V rfl (w_gCons (w_gVarO rfl (w_gNil ⟨by rw [sizeLine_eq]; exact (by decide : (2 : Nat) ≤ 16777216), rfl, ?_⟩)))))))
  refine w_gNil ?_
  rw [newC_tup]
  refine ⟨xs, by rw [cont_oldD hB1]; exact hc1, W.guard (by rw [sizeLine_eq]; omega) (.mk ?_)⟩
  dsimp only
  have hl : (m ++ [some (iL (filF l b ad))]).length = m.length + 1 := by rw [List.length_append]; rfl
  rw [hl]
  have hsh : shal (.lst (xs ++ [Sl.ow (m.length + 1)])) = none := by
    show (fzL (xs ++ [Sl.ow (m.length + 1)])).map PyData.list = none
    have : ∀ ys : List Sl, fzL (ys ++ [Sl.ow (m.length + 1)]) = none := fun ys => by
      induction ys with
      | nil => rfl
      | cons y ys ih =>
        cases y <;> simp [fzL, ih]
    rw [this]
    rfl
  obtain ⟨p1, p2, p3, p4⟩ := putC_deep (m := m ++ [some (iL (filF l b ad))] ++ [none]) (D := dPut D (m.length + 1) (some (.tup [.fz (.int b), .ow m.length]))) (k := B) hsh
  refine q _ _ (by rw [p3, List.length_append, hl]; rfl) ?_ (cont_deep p1) ?_ ?_ ?_ ?_
  · rw [p3, List.length_append, hl]
    rw [dPut_len] at p4
    show _ ≤ m.length + 1 + 1
    omega
  · rw [(p2 _ (by omega)).1, dAt_self]
  · rw [(p2 _ (by omega)).1, dAt_ne (by omega), dAt_len hD]
  · rw [(p2 _ (by omega)).2, cellAt_old (by omega), cellAt_new]
  · intro j hj hne
    rw [(p2 _ hne).1, (p2 _ hne).2, dAt_ne (by omega), cellAt_old (by omega), cellAt_old hj]
    exact ⟨rfl, rfl⟩
/-! ### the bases taken off -/
/-- what stands while the places are walked -/
structure Wk (l : Lb) (ad : List (Int × Int)) (D : Dd) (B N1 T1 N2 T2 : Nat) (b1 b2 : Int) : Prop where
  dB : dAt D B = some (.lst [.ow T1, .ow T2])
  d1 : dAt D T1 = some (.tup [.fz (.int b1), .ow N1])
  d2 : dAt D T2 = some (.tup [.fz (.int b2), .ow N2])
  n1 : dAt D N1 = none
  n2 : dAt D N2 = none
  ne : N1 ≠ N2
  z1 : N1 ≠ 0
  z2 : N2 ≠ 0
abbrev takeS : NG.Gs := gsForT (gVar 7) (ghCons (lH (hNm 8)) (ghCons (ghNm 9) ghNil)) (gsIf (lT (eT blD (eBin eqX (eV 11) (eC (.str "own"))))) (gsPutL (gVar 9) (lE (eV 10)) (gBin subD (gIx (gVar 9) (lE (eV 10))) (lE (eV 8)))) gsNil)
abbrev oneS : NG.Gs := gsIf (lT (eT blD (eBin eqX (eV 11) (eC (.str "own"))))) (gsPutL (gVar 9) (lE (eV 10)) (gBin subD (gIx (gVar 9) (lE (eV 10))) (lE (eV 8)))) gsNil
theorem one_turn {S e2 e3 e4 e5 e6 e7 : Sl} {m : Ms} {D : Dd} {N : Nat} {b : Int} {xs : List Int} {p : K3} {P : Og → Prop} (hd : dAt D N = none) (hc : cellAt m N = some (iL xs)) (h0 : 0 ≤ p.1) (h1 : p.1 < xs.length)
    (q : ∀ m' : Ms, m'.length = m.length → cellAt m' N = some (iL (unf1 b xs p)) → (∀ j, j ≠ N → cellAt m' j = cellAt m j) → P (.nx [S, .ow 0, e2, e3, e4, e5, e6, e7, .fz (.int b), .ow N, .fz (.int p.1), .fz (.str p.2.1)] m' D)) :
    W (oneS [S, .ow 0, e2, e3, e4, e5, e6, e7, .fz (.int b), .ow N, .fz (.int p.1), .fz (.str p.2.1)] m D) P := by
  have c1 : cont m D N = some (.lst ((xs.map PyData.int).map .fz)) := cont_list hd hc
  refine w_gsIf (w_lT (w_T (w_bin (w_V rfl (w_C (w_eqX_ss (w_bl ⟨fun z => ?_, fun z => ?_⟩)))))))
  · have hz : p.2.1 = ("own" : Str) := of_decide_eq_true z
    obtain ⟨i, hi⟩ : ∃ i : Nat, p.1 = (i : Int) := ⟨p.1.toNat, by omega⟩
    have hlt : i < xs.length := by omega
    have hat : atI (xs.map PyData.int) p.1 = some (.int xs[i]) := by rw [hi]; exact at_nat (List.getElem?_eq_getElem hlt)
    refine w_gsPutL (w_gBin (w_gIx (w_gVarO rfl (w_lE (w_V rfl (w_ixV_l c1 (atS_map hat) (w_lE (w_V rfl ⟨_, _, rfl, rfl, w_sub_i ?_⟩))))))))
    refine w_gVarO rfl (w_lE (w_V rfl ⟨N, p.1, _, i, rfl, rfl, c1, ?_, ?_⟩))
    · rw [List.length_map, List.length_map, hi]
      unfold ixN
      rw [if_pos (by omega), if_pos (by omega), Int.toNat_natCast]
    · rw [show ((xs.map PyData.int).map Sl.fz).set i (.fz (.int (xs[i] - b))) = ((xs.set i (xs[i] - b)).map PyData.int).map Sl.fz by rw [List.map_set, List.map_set], putC_list hd]
      refine q _ List.length_set ?_ fun j hj => cellAt_ne hj
      rw [cellAt_self (cellAt_lt hc)]
      unfold unf1
      rw [if_pos hz, hi, Int.toNat_natCast, List.getElem?_eq_getElem hlt]
      rfl
  · refine w_gsNil (q m rfl ?_ fun _ _ => rfl)
    unfold unf1
    rw [if_neg (of_decide_eq_false z)]
    exact hc
theorem take_turn {l : Lb} {ad : List (Int × Int)} {S e2 e3 e4 e5 e6 e8 e9 : Sl} {m : Ms} {D : Dd} {B N1 T1 N2 T2 : Nat} {b1 b2 : Int} {x1 x2 : List Int} {p : K3} {P : Og → Prop} (w : Wk l ad D B N1 T1 N2 T2 b1 b2) (c1 : cellAt m N1 = some (iL x1)) (c2 : cellAt m N2 = some (iL x2)) (h0 : 0 ≤ p.1) (h1 : p.1 < x1.length) (h2 : p.1 < x2.length)
    (q : ∀ (m' : Ms) (e8 e9 : Sl), m'.length = m.length → cellAt m' N1 = some (iL (unf1 b1 x1 p)) → cellAt m' N2 = some (iL (unf1 b2 x2 p)) → cellAt m' 0 = cellAt m 0 → P (.nx [S, .ow 0, e2, e3, e4, e5, e6, .ow B, e8, e9, .fz (.int p.1), .fz (.str p.2.1)] m' D)) :
    W (takeS [S, .ow 0, e2, e3, e4, e5, e6, .ow B, e8, e9, .fz (.int p.1), .fz (.str p.2.1)] m D) P := by
  refine w_gsForT (k := B) (xs := [.ow T1, .ow T2]) (fun i r m' D' => D' = D ∧ m'.length = m.length ∧ (∃ e8 e9, r = [S, .ow 0, e2, e3, e4, e5, e6, .ow B, e8, e9, .fz (.int p.1), .fz (.str p.2.1)]) ∧ cellAt m' N1 = some (iL (if 1 ≤ i then unf1 b1 x1 p else x1)) ∧ cellAt m' N2 = some (iL (if 2 ≤ i then unf1 b2 x2 p else x2)) ∧ cellAt m' 0 = cellAt m 0) ?_ ?_ ?_ ?_
  · exact w_gVarO rfl ⟨rfl, cont_deep w.dB, rfl, rfl, ⟨_, _, rfl⟩, c1, c2, rfl⟩
  · rintro i r m' D' ⟨rfl, _⟩
    exact cont_deep w.dB
  · rintro i x r m' D' hx ⟨rfl, hl, ⟨e8, e9, rfl⟩, k1, k2, k0⟩
    match i, hx with
    | 0, hx =>
      cases hx
      refine ⟨_, tupAt_of (cont_deep w.d1), ?_⟩
      show W (some _) _
      refine .mk ?_
      refine one_turn (N := N1) (b := b1) (xs := x1) w.n1 k1 h0 h1 fun m2 hl2 g1 g2 => ?_
      exact ⟨rfl, hl2.trans hl, ⟨_, _, rfl⟩, g1, (g2 _ (Ne.symm w.ne)).trans k2, (g2 _ (Ne.symm w.z1)).trans k0⟩
    | 1, hx =>
      cases hx
      refine ⟨_, tupAt_of (cont_deep w.d2), ?_⟩
      show W (some _) _
      refine .mk ?_
      refine one_turn (N := N2) (b := b2) (xs := x2) w.n2 k2 h0 h2 fun m2 hl2 g1 g2 => ?_
      exact ⟨rfl, hl2.trans hl, ⟨_, _, rfl⟩, (g2 _ w.ne).trans k1, g1, (g2 _ (Ne.symm w.z2)).trans k0⟩
    | i + 2, hx => cases hx
  · rintro r m' D' ⟨rfl, hl, ⟨e8, e9, rfl⟩, k1, k2, k0⟩
    exact q m' e8 e9 hl k1 k2 k0
end K74
end
/-! P74H -/
section
set_option maxHeartbeats 4000000
namespace K74
open PySem L2 TL NG
theorem pw20 : (10 : Int) ^ (20 : Int).toNat = 100000000000000000000 := by decide +kernel
abbrev placeS : NG.Gs := gsFor (lI (eIts (eBin ixD (eV 6) (eC (.int 1))))) (lH (hTup (hCons (hNm 10) (hCons (hNm 11) (hCons (hNm 5) hNil))) 3)) takeS
theorem places_w {S e2 e5 e8 e9 e10 e11 : Sl} {l : Lb} {ad : List (Int × Int)} {m : Ms} {D : Dd} {B N1 T1 N2 T2 : Nat} {b1 b2 : Int} {P : Og → Prop} (h : L2k l) (w : Wk l ad D B N1 T1 N2 T2 b1 b2) (c1 : cellAt m N1 = some (iL (filF l b1 ad))) (c2 : cellAt m N2 = some (iL (filF l b2 ad)))
    (q : ∀ (m' : Ms) (e5 e8 e9 e10 e11 : Sl), m'.length = m.length → cellAt m' N1 = some (iL (fil 0 ad (numI l) (plaI l))) → cellAt m' N2 = some (iL (fil 0 ad (numI l) (plaI l))) → cellAt m' 0 = cellAt m 0 → P (.nx [S, .ow 0, e2, .fz l.d, .fz (adD ad), e5, .fz (whD l), .ow B, e8, e9, e10, e11] m' D)) :
    W (placeS [S, .ow 0, e2, .fz l.d, .fz (adD ad), e5, .fz (whD l), .ow B, e8, e9, e10, e11] m D) P := by
  refine w_gsFor (fun ds i r m' D' => ds = (plaI l).map TX.kD3 ∧ i ≤ (plaI l).length ∧ D' = D ∧ m'.length = m.length ∧ (∃ e5 e8 e9 e10 e11, r = [S, .ow 0, e2, .fz l.d, .fz (adD ad), e5, .fz (whD l), .ow B, e8, e9, e10, e11]) ∧ cellAt m' N1 = some (iL (unf b1 (filF l b1 ad) ((plaI l).take i))) ∧ cellAt m' N2 = some (iL (unf b2 (filF l b2 ad) ((plaI l).take i))) ∧ cellAt m' 0 = cellAt m 0) ?_
  refine w_lI (w_its (w_bin (w_V rfl (w_C (w_ix_t (W.of (show atI [PyData.tuple ((numI l).map .int), .list ((plaI l).map TX.kD3)] 1 = some (.list ((plaI l).map TX.kD3)) from rfl) (w_its_l ⟨⟨rfl, Nat.zero_le _, rfl, rfl, ⟨_, _, _, _, _, rfl⟩, c1, c2, rfl⟩, ?_, ?_⟩)))))))
  · rintro i d r m' D' hd ⟨_, hi, rfl, hl, ⟨e5, e8, e9, e10, e11, rfl⟩, k1, k2, k0⟩
    rw [List.getElem?_map] at hd
    obtain ⟨p, hp, rfl⟩ := Option.map_eq_some_iff.mp hd
    have hlt := (List.getElem?_eq_some_iff.mp hp).1
    have hin := pla_in h p (List.mem_of_getElem? hp)
    have hun : ∀ b : Int, unf b (filF l b ad) ((plaI l).take (i + 1)) = unf1 b (unf b (filF l b ad) ((plaI l).take i)) p := fun b => by
      rw [List.take_succ_eq_append_getElem hlt, unf_snoc, (List.getElem?_eq_some_iff.mp hp).2]
    refine w_lH (w_hTup rfl (w_hCons (w_hNm (w_hCons (w_hNm (w_hCons (w_hNm (w_hNil ?_))))))))
    refine take_turn w k1 k2 hin.1 (by rw [unf_len, filF_len h]; exact hin.2) (by rw [unf_len, filF_len h]; exact hin.2) fun m2 e8 e9 hl2 g1 g2 g0 => ?_
    rw [tu_nx]
    exact ⟨rfl, hlt, rfl, hl2.trans hl, ⟨_, _, _, _, _, rfl⟩, by rw [hun]; exact g1, by rw [hun]; exact g2, g0.trans k0⟩
  · rintro r m' D' ⟨_, hi, rfl, hl, ⟨e5, e8, e9, e10, e11, rfl⟩, k1, k2, k0⟩
    have hall : ∀ b : Int, unf b (filF l b ad) (plaI l) = fil 0 ad (numI l) (plaI l) := fun b => by
      have e := unf_fil (b := b) (ad := ad) (N := numI l) (plaI_up h) (pla_in h) (plaI l).length (Nat.le_refl _)
      rw [List.take_length, fil_lies h] at e
      exact e
    rw [List.length_map, List.take_length, hall] at k1 k2
    exact q m' _ _ _ _ _ hl k1 k2 k0
theorem law_true {ns : List Int} (hb : ∀ z ∈ ns, Builtin.Int.intBits z ≤ 1048576) : m_law [.list (ns.map .int)] = some (.bool true) := by
  apply W.eq
  unfold m_law b_law
  refine w_runGD ?_
  generalize hS : PyData.list (ns.map .int) = S0
  refine w_gsSeq (w_lS (w_setF (w_map (w_cons (w_V rfl (w_cons (w_C (w_nil (w_arN rfl ?_)))))))))
  rw [← hS]
  refine feed_any hb (by decide) (by decide) fun f hf => ?_
  rw [hS]
  rw [ls_nx, tg_nx]
  refine w_gsSeq (w_gsFor (fun ds i r m D => ∃ (ls : List Lb) (f : Int × Int) (e2 e3 e4 e5 e6 e7 e8 e9 e10 e11 : Sl), ds = ls.map Lb.d ∧ (∀ l ∈ ls, l.ok) ∧ FO f ∧ cellAt m 0 = some (fd f) ∧ dAt D 0 = none ∧ D.length ≤ m.length ∧ r = [.fz S0, .ow 0, e2, e3, e4, e5, e6, e7, e8, e9, e10, e11]) ?_)
  refine w_lI (w_its (w_callR (a := 0) rfl (w_cons (w_C (w_nil ⟨_, rfl, rfl, shelf_any hf fun ls f1 hf1 hl0 hl8 hlo => w_its_t ⟨⟨ls, f1, _, _, _, _, _, _, _, _, _, _, rfl, hlo, hf1, rfl, rfl, Nat.zero_le _, rfl⟩, ?_, ?_⟩⟩)))))
  · skip
    rintro i d r m D hd ⟨ls, f, e2, e3, e4, e5, e6, e7, e8, e9, e10, e11, hds, hlo, hf, c0, d0, hD, rfl⟩
    obtain ⟨l0, hl0m, rfl⟩ : ∃ l, l ∈ ls ∧ d = l.d := by
      rw [hds] at hd
      obtain ⟨l, hl, e⟩ := List.mem_map.mp (List.mem_of_getElem? hd)
      exact ⟨l, hl, e.symm⟩
    have hok := hlo l0 hl0m
    refine w_lH (w_hNm ?_)
    -- the library
    refine w_gsSeq (w_lS (w_set (w_callR (a := 0) rfl (w_cons (w_lst (w_cons (w_V rfl (w_cons (w_callR (a := 0) rfl (w_cons (w_V rfl (w_nil ⟨_, c0, rfl, wide_any hf hok fun l1 f2 hf2 hl1 => ?_⟩))))))))))))
    have c1 : cellAt (m.set 0 (some (fd f2))) 0 = some (fd f2) := cellAt_self (cellAt_lt c0)
    have hD1 : D.length ≤ (m.set 0 (some (fd f2))).length := by rw [List.length_set]; exact hD
    dsimp only
    generalize m.set 0 (some (fd f2)) = m1 at c1 hD1 ⊢
    refine w_nil ⟨by rw [sizeLine_eq]; exact (by decide : (2 : Nat) ≤ 16777216), w_nil ⟨_, c1, rfl, pick_any hf2 (by simp only [List.length_cons]; omega) (by simp only [List.length_cons, List.length_nil]; omega) fun y f3 hy hf3 => ?_⟩⟩
    obtain ⟨l, rfl, h⟩ : ∃ l : Lb, y = l.d ∧ L2k l := by
      simp only [List.mem_cons, List.not_mem_nil, or_false] at hy
      rcases hy with q | q
      · exact ⟨_, q, hok.k⟩
      · exact ⟨_, q, hl1⟩
    clear hy
    have c2 : cellAt (m1.set 0 (some (fd f3))) 0 = some (fd f3) := cellAt_self (cellAt_lt c1)
    have hD2 : D.length ≤ (m1.set 0 (some (fd f3))).length := by rw [List.length_set]; exact hD1
    dsimp only
    generalize m1.set 0 (some (fd f3)) = m2 at c2 hD2 ⊢
    have hul := h.us
    rw [ls_nx, tg_nx]
    -- the addresses
    refine w_gsSeq (w_lS (w_setF (w_dct ?_)))
    rw [ls_nx, tg_nx]
    have h0m : 0 < m2.length := cellAt_lt c2
    have g0 := (cellAt_old (o := some (PyData.dict [])) (cellAt_lt c2)).trans c2
    have g1 : cellAt (m2 ++ [some (PyData.dict [])]) m2.length = some (.dict []) := cellAt_new
    have g2 : (m2 ++ [some (PyData.dict [])]).length = m2.length + 1 := by rw [List.length_append]; rfl
    dsimp only
    generalize m2 ++ [some (PyData.dict [])] = m3 at g0 g1 g2 ⊢
    generalize hA : m2.length = A at *
    refine w_gsSeq (w_lS (w_for (fun ds i r m => ds = rangeD 0 l.us.length ∧ i ≤ l.us.length ∧ ∃ (f1 : Int × Int) (ad : List (Int × Int)) (e5 : Sl), FO f1 ∧ cellAt m 0 = some (fd f1) ∧ m.length = A + 1 ∧ ad.map (·.1) = cellT l i ∧ cellAt m A = some (.dict (dI (iV ad))) ∧ r = [.fz S0, .ow 0, .fz l0.d, .fz l.d, .ow A, e5, e6, e7, e8, e9, e10, e11]) ?_))
    have r3at : atI [PyData.str l.n, .tuple (l.ns.map .str), .tuple (l.gs.map Gv.d), .tuple (l.us.map Us.d), .tuple l.r0, .tuple l.r1, .tuple (l.ks.map .str)] 3 = some (.tuple (l.us.map Us.d)) := rfl
    refine w_rg1 (w_cons (w_map (w_cons (w_bin (w_V rfl (w_C (w_ix_t (W.of r3at (w_nil (w_len_t (w_nil ⟨_, rfl, ?_, ⟨?_, Nat.zero_le _, f3, [], _, hf3, g0, g2, by unfold cellT; rfl, g1, rfl⟩, ?_, ?_⟩)))))))))))
    · rw [List.length_map]; omega
    · rw [List.length_map, Int.toNat_natCast]
    · clear g0 g1 g2
      rintro i d r m hx ⟨hdu, hi, f1, ad, e5, hf1, k0, kl, hka, k1, rfl⟩
      obtain ⟨hlt, rfl⟩ := range_at hx
      rw [List.length_map, Int.toNat_natCast] at hlt
      obtain ⟨u, hu⟩ : ∃ u, l.us[i]? = some u := ⟨_, List.getElem?_eq_getElem hlt⟩
      have hcs := cellT_succ hu
      have hadl : ad.length ≤ 8 := by
        have := congrArg List.length hka
        rw [List.length_map] at this
        have := cellT_len l i
        omega
      rw [Int.zero_add]
      refine w_hNm ?_
      refine w_if (w_T (w_bin (w_bin (w_bin (w_V rfl (w_C (w_ix_t (W.of r3at (w_V rfl (w_ix_t (W.of (us_ix hu) (w_C (w_ix_t (W.of (show atI [PyData.str u.w, .str u.v, .bool u.c, .bool u.b] 2 = some (.bool u.c) from rfl) (w_tru_b ⟨fun z => ?_, fun z => ?_⟩)))))))))))))))
      · refine w_dput rfl (w_callR (a := 0) rfl (w_cons (w_C (w_nil ⟨_, k0, rfl, take_any hf1 (by decide) (by decide +kernel) fun v f2 g0 g1 hf2 => ?_⟩))))
        have k0' : cellAt (m.set 0 (some (fd f2))) 0 = some (fd f2) := cellAt_self (cellAt_lt k0)
        have k1' : cellAt (m.set 0 (some (fd f2))) A = _ := (cellAt_ne (by omega)).trans k1
        have kl' : (m.set 0 (some (fd f2))).length = A + 1 := by rw [List.length_set]; exact kl
        dsimp only
        generalize m.set 0 (some (fd f2)) = m' at k0' k1' kl' ⊢
        refine w_V rfl ⟨_, _, k1', rfl, lt_line (by rw [List.length_map, List.length_map]; omega), ?_⟩
        rw [putP_dI]
        have hnw : (i : Int) ∉ (iV ad).map (·.1) := by
          rw [List.map_map, show ((fun x : Int × PyData => x.1) ∘ fun p : Int × Int => (p.1, PyData.int p.2)) = (fun p : Int × Int => p.1) from rfl, hka]
          exact cellT_nin
        rw [putI_new hnw, turn_nx]
        refine ⟨hdu, hlt, f2, ad ++ [((i : Int), v)], _, hf2, (cellAt_ne (by omega)).trans k0', by rw [List.length_set]; exact kl', ?_, ?_, rfl⟩
        · rw [List.map_append, hka, hcs, if_pos z]
          rfl
        · have e : iV ad ++ [((i : Int), PyData.int v)] = iV (ad ++ [((i : Int), v)]) := by
            show _ = List.map _ _
            rw [List.map_append]
            rfl
          rw [e]
          exact cellAt_self (cellAt_lt k1')
      · refine w_sNil ?_
        rw [turn_nx]
        refine ⟨hdu, hlt, f1, ad, _, hf1, k0, kl, ?_, k1, rfl⟩
        rw [hka, hcs, if_neg (by rw [show u.c = false from z]; decide), List.append_nil]
    · clear g0 g1 g2
      rintro r m ⟨hdu, hi, f1, ad, e5', hf1, k0, kl, hka, k1, rfl⟩
      have hkc : ad.map (·.1) = keysC l := by
        rw [hka, hdu, range_len, keysC_T]
      rw [ls_nx, tg_nx]
      -- the image, the list of both
      refine w_gsSeq (w_lS (w_set (w_map (w_cons (w_V rfl (w_nil (w_arN rfl (image_w h ?_))))))))
      rw [ls_nx, tg_nx]
      refine w_gsSeq (w_gsSet (w_lN (w_lst (w_nil ⟨by rw [sizeLine_eq]; exact (by decide : (0 : Nat) ≤ 16777216), ?_⟩))))
      rw [tg_nx]
      have j0 : cellAt ((m ++ [some (PyData.list [])]).set A none) 0 = some (fd f1) := by
        rw [cellAt_ne (by omega), cellAt_old (by omega)]
        exact k0
      have jB : cellAt ((m ++ [some (PyData.list [])]).set A none) (A + 1) = some (.list []) := by
        rw [cellAt_ne (by omega), ← kl]
        exact cellAt_new
      have jl : ((m ++ [some (PyData.list [])]).set A none).length = A + 2 := by rw [List.length_set, List.length_append, kl]; rfl
      dsimp only
      rw [kl]
      refine w_gsFrzO (k := A) (d := adD ad) rfl (by rw [cellAt_old (by omega)]; exact k1) ?_
      generalize (m ++ [some (PyData.list [])]).set A none = m4 at j0 jB jl ⊢
      -- both bases
      refine w_gsSeq (w_gsFor2 (w_lI (w_its (w_lst (w_cons (w_callR (a := 0) rfl (w_cons (w_C (w_nil ⟨_, j0, rfl, take_any hf1 (by decide) (by decide +kernel) fun b1 f2 _ _ hf2 => ?_⟩)))))))))
      have j0' : cellAt (m4.set 0 (some (fd f2))) 0 = some (fd f2) := cellAt_self (cellAt_lt j0)
      have jB' : cellAt (m4.set 0 (some (fd f2))) (A + 1) = some (.list []) := (cellAt_ne (by omega)).trans jB
      have jl' : (m4.set 0 (some (fd f2))).length = A + 2 := by rw [List.length_set]; exact jl
      dsimp only
      generalize m4.set 0 (some (fd f2)) = m5 at j0' jB' jl' ⊢
      refine w_cons (w_callR (a := 0) rfl (w_cons (w_bin (w_C (w_C (w_pow_i (by decide +kernel) (w_nil ⟨_, j0', rfl, ?_⟩)))))))
      rw [pw20]
      refine take_any hf2 (by decide +kernel) (by decide +kernel) fun b2 f3 _ _ hf3 => ?_
      have i0 : cellAt (m5.set 0 (some (fd f3))) 0 = some (fd f3) := cellAt_self (cellAt_lt j0')
      have iB : cellAt (m5.set 0 (some (fd f3))) (A + 1) = some (.list []) := (cellAt_ne (by omega)).trans jB'
      have il : (m5.set 0 (some (fd f3))).length = A + 2 := by rw [List.length_set]; exact jl'
      dsimp only
      generalize m5.set 0 (some (fd f3)) = m6 at i0 iB il ⊢
      refine w_nil ⟨by rw [sizeLine_eq]; exact (by decide : (2 : Nat) ≤ 16777216), w_its_l ⟨_, _, rfl, w_lH (w_hNm ?_)⟩⟩
      dsimp only
      have dB : dAt D (A + 1) = none := dAt_len (by omega)
      refine base_turn (B := A + 1) (xs := []) h hkc (by omega) (by omega) (cont_list (ds := []) dB iB) (by simp) fun m7 D7 hl7 hD7 hc7 hT7 hN7 hF7 hfr7 => ?_
      rw [tu_nx]
      refine w_lH (w_hNm ?_)
      refine base_turn (B := A + 1) (xs := [.ow (m6.length + 1)]) h hkc (by omega) (by omega) hc7 (by simp) fun m8 D8 hl8 hD8 hc8 hT8 hN8 hF8 hfr8 => ?_
      rw [tu_nx, tg_nx]
      have x0 : cellAt m8 0 = some (fd f3) := by
        rw [(hfr8 0 (by omega) (by omega)).1, (hfr7 0 (by omega) (by omega)).1]
        exact i0
      have xd : dAt D8 0 = none := by
        rw [(hfr8 0 (by omega) (by omega)).2, (hfr7 0 (by omega) (by omega)).2]
        exact d0
      have dBB : dAt D8 (A + 1) = some (.lst [.ow (m6.length + 1), .ow (m7.length + 1)]) := by
        cases e : dAt D8 (A + 1) with
        | some c => rw [cont_deep e] at hc8; exact hc8
        | none =>
          unfold cont at hc8
          rw [e] at hc8
          dsimp only at hc8
          split at hc8
          · rename_i ds _
            injection hc8 with hc8
            injection hc8 with hc8
            cases ds <;> simp at hc8
          · cases hc8
          · cases hc8
      have w : Wk l ad D8 (A + 1) m6.length (m6.length + 1) m7.length (m7.length + 1) b1 b2 := ⟨dBB, (hfr8 _ (by omega) (by omega)).2.trans hT7, hT8, (hfr8 _ (by omega) (by omega)).2.trans hN7, hN8, by omega, by omega, by omega⟩
      refine w_gsSeq (places_w h w ((hfr8 _ (by omega) (by omega)).1.trans hF7) hF8 fun m9 e5 e8 e9 e10 e11 hl9 q1 q2 q0 => ?_)
      rw [tg_nx]
      have s1 : ∀ n : Nat, snap (n + 2) m9 D8 (.ow m6.length) = some (iL (fil 0 ad (numI l) (plaI l))) := fun n => snap_list (n := n) (ds := (fil 0 ad (numI l) (plaI l)).map .int) (cont_list w.n1 q1)
      have s2 : ∀ n : Nat, snap (n + 2) m9 D8 (.ow m7.length) = some (iL (fil 0 ad (numI l) (plaI l))) := fun n => snap_list (n := n) (ds := (fil 0 ad (numI l) (plaI l)).map .int) (cont_list w.n2 q2)
      have t1 : snap 5 m9 D8 (.ow (m6.length + 1)) = some (.tuple [.int b1, iL (fil 0 ad (numI l) (plaI l))]) := snap_tup (n := 4) (cont_deep w.d1) (by
        show optAll [snap 4 m9 D8 (.fz (.int b1)), snap 4 m9 D8 (.ow m6.length)] = _
        rw [s1 2]
        rfl)
      have t2 : snap 5 m9 D8 (.ow (m7.length + 1)) = some (.tuple [.int b2, iL (fil 0 ad (numI l) (plaI l))]) := snap_tup (n := 4) (cont_deep w.d2) (by
        show optAll [snap 4 m9 D8 (.fz (.int b2)), snap 4 m9 D8 (.ow m7.length)] = _
        rw [s2 2]
        rfl)
      have sB : snap 6 m9 D8 (.ow (A + 1)) = some (.list [.tuple [.int b1, iL (fil 0 ad (numI l) (plaI l))], .tuple [.int b2, iL (fil 0 ad (numI l) (plaI l))]]) := snap_lst (n := 5) (cont_deep w.dB) (by
        show optAll [snap 5 m9 D8 (.ow (m6.length + 1)), snap 5 m9 D8 (.ow (m7.length + 1))] = _
        rw [t1, t2]
        rfl)
      have two : ∀ {r : Rs} {j : Int} {d : PyData} {Q : PyData × Ms → Prop}, r[7]? = some (.fz (.list [.tuple [.int b1, iL (fil 0 ad (numI l) (plaI l))], .tuple [.int b2, iL (fil 0 ad (numI l) (plaI l))]])) → (j = 0 ∨ j = 1) → Q (iL (fil 0 ad (numI l) (plaI l)), []) → W (eBin ixD (eBin ixD (eV 7) (eC (.int j))) (eC (.int 1)) r []) Q := fun {r j d Q} h7 hj q => by
        refine w_bin (w_bin (w_V h7 (w_C (w_ix_l ?_))))
        rcases hj with rfl | rfl
        · exact W.of (atI_0 _ _) (w_C (w_ix_t (W.of (atI_1 _ _ _) q)))
        · exact W.of (atI_1 _ _ _) (w_C (w_ix_t (W.of (atI_1 _ _ _) q)))
      refine w_gsIf (w_gSnT (w_T (w_bin (two (d := .none) (rd_ow rfl sB) (.inl rfl) (two (d := .none) (rd_ow rfl sB) (.inr rfl) (w_neX_LL (w_bl ⟨fun z => ?_, fun _ => w_gsNil ?_⟩)))))))
      · simp at z
      · rw [tu_nx]
        exact ⟨ls, f3, _, _, _, _, _, _, _, _, _, _, hds, hlo, hf3, q0.trans x0, xd, by omega, rfl⟩
  · rintro r m D ⟨ls, f, e2, e3, e4, e5, e6, e7, e8, e9, e10, e11, hds, hlo, hf, c0, d0, hD, rfl⟩
    rw [tg_nx]
    exact w_gsRet (w_lE (w_C rfl))
end K74
end
set_option maxHeartbeats 0
open PySem PySem.W PyProof.Rows
theorem PySem.Challenge.cw_latehall_k74_whole_images_read_back_holds : PySem.Challenge.rw_latehall_k74_whole_images_read_back.Holds := by
  exact K74.holds_of fun ns h1 h2 => K74.law_true h2
