import PyProof.Rows.All
import HandS.TupSets
import KE.KDictZip
import HandS.Iter
import HandS.Zip
import Wide.All
import OpenK.AllK
import Wide.FinOn
import HandS.ForMost
import HandS.IsInst
import HandS.WideBits
import HandS.Wide
import HandS.TupAny
import HandS.Style
import HandS.Deep
import KE.KMulAny
import HandS.Star
import HandS.Replace
import HandS.StrMore
import HandS.EndBits
import HandS.Defaults
import HandS.Head0
import HandS.Head1
import HandS.Head2
import HandS.HeadEnd
import HandS.HeadHook1
import HandS.HeadHook2
import PyProof.ReprRoads
import KE.DatumIndex
import HandS.RaiseMore
import KE.GoesEnum
import PyProof.ReprLen
import PyProof.ToksMono
import KE.KIntText
import PyProof.Rows.StrIntSpec
import HandS.More
import HandS.DictComp
import HandS.SetKeys
import HandS.SortInts
import HandS.Conv
import HandS.SetFor
import HandS.Strs
import HandS.ForSpec
import KE.OsGo
import Open.SpecLaws
import KE.DataFind
import KE.KDictList
import PyProof.TupleCall
import PyProof.CollectWalk
import PyProof.Rows.Range3
import PyProof.EqKinds
import PySem.Challenge.RW_latehall_k40_what_is_reached
set_option Elab.async false
set_option linter.all false
set_option maxRecDepth 100000
/-! TS1 -/
section
set_option maxHeartbeats 4000000
namespace TL
open PySem PySem.Spec PyProof.Rows L2
/-! ## a set of tuples of whole numbers: looked into -/
abbrev zh (ks : List Int) : Int := reduceHash (Builtin.Tuple.tupleHashOf (ks.map hashInt))
structure SetZ (h : Heap) (a : Addr) (L : List (Addr × List Int)) : Prop where
  ex : ∃ (es : Array (Int × Value)) (ep : Nat) (t : SetTable), (∃ o, h.get? a = some o ∧ o.ExactSet ∧ o.data = .set es ep t) ∧ es.toList = (L.map fun p => (zh p.2, Value.ref p.1)) ∧ TabOk t (L.map fun p => zh p.2) ∧ L.length * 5 < t.mask * 3
def SetHO (a : Addr) (L : List (Addr × List Int)) : HO := .ext fun h => SetZ h a L
theorem setZ_new {P : Program} {w : World} {H : Hp} {h : Heap} {a : Addr} {L : List (Addr × List Int)} (R : SetZ h a L) : ObjOk P w H h a (SetHO a L) := by
  have ⟨es, ep, t, ⟨o, ho, r⟩, q⟩ := R.ex
  refine ⟨R, ⟨o, ho⟩, fun h1 h2 z k => ?_⟩
  have ⟨e2, ep2, t2, ⟨o2, ho2, r2⟩, q2⟩ := SetZ.ex z
  exact ⟨e2, ep2, t2, ⟨o2, k o2 ho2, r2⟩, q2⟩
theorem setZ_at {P : Program} {w : World} {H : Hp} {h : Heap} {a : Addr} {L : List (Addr × List Int)} (hok : HOk P w H h) (e : H a = some (SetHO a L)) : SetZ h a L := by
  have x : ObjOk P w H h a (.ext fun h => SetZ h a L) := hok a _ e
  exact x.1
section
variable {P : Program} {w : World} {A : Around} {E : Value → Shared → Prop} {s : Shared} {a : Addr} {L : List (Addr × List Int)}
def prb (t : SetTable) (h : Int) (c : Nat) : SetTable.Probe := nth t.mask (runAt t.mask (SetTable.bits h % (t.mask + 1)) (SetTable.bits h)) c
theorem prb_on (t : SetTable) (h : Int) (c q : Nat) : nth t.mask (prb t h c) q = prb t h (c + q) := (nth_add t.mask c _ q).symm
theorem prb_no (t : SetTable) (h : Int) (c : Nat) : (prb t h c).dummy = none := by
  have all : ∀ (n : Nat) (p : SetTable.Probe), p.dummy = none → (nth t.mask p n).dummy = none := by
    intro n
    induction n with
    | zero => exact fun p q => q
    | succ n ih => exact fun p q => ih (adv t.mask p) (by unfold adv; split <;> exact q)
  exact all c _ rfl
/-- the table as it lies, looked into for the tuple at x -/
theorem seek {es : Array (Int × Value)} {ep : Nat} {t : SetTable} {o : Obj} (ho : s.heap.get? a = some o) (hd : o.data = .set es ep t) (hf : t.fits es.size = true) (hr : es.toList = L.map fun p => (zh p.2, Value.ref p.1)) (T : TabOk t (L.map fun p => zh p.2))
    (tup : ∀ p ∈ L, IsT P w s.heap p.2 p.1) {x : Addr} {ky : List Int} (hx : IsT P w s.heap ky x) (hu : A.units < cLine) {N : Nat} (hN : N < 10 * SetTable.turns t.mask) (hfree : (prb t (zh ky) N).j ∉ t.place.toList)
    (hfull : ∀ c, c < N → (prb t (zh ky) c).j ∈ t.place.toList) {Q : SetFound → Shared → Prop} (yes : ky ∈ L.map (·.2) → ∀ i, Q (.there (some i)) s) (no : ky ∉ L.map (·.2) → ∀ j b, Q (.free j b) s) :
    ∀ (f c : Nat) (stand : Option SetTable.Probe), stand.getD (t.probeStart (zh ky)) = prb t (zh ky) c → c ≤ N → N - c < f →
      (∀ (i : Nat) p, L[i]? = some p → p.2 = ky → ∃ c2, c ≤ c2 ∧ c2 < N ∧ t.place.toList[i]? = some (prb t (zh ky) c2).j) → wpAny (model P w) A (setSearchFrom a (.ref x) (zh ky) false f stand) Q E s
  | 0, c, stand, _, _, z, _ => absurd z (Nat.not_lt_zero _)
  | f + 1, c, stand, e0, hc, hfu, ahead => by
    rw [setSearchFrom_succ]
    refine wpAny_bind (wpAny_setState_of ho hd hf ?_)
    dsimp only
    refine wp_if_neg (by unfold SetTable.gaveWay; rw [mask_odd T.mok]; decide) ?_
    try refine wpAny_bind (wpAny_pure ?_)
    have ent : ∀ {i : Nat} {p : Addr × List Int}, L[i]? = some p → es[i]? = some (zh p.2, Value.ref p.1) := fun {i p} q => by
      rw [← Array.getElem?_toList, hr, List.getElem?_map, q]; rfl
    have shift : ∀ q, (nth t.mask (prb t (zh ky) c) q).j = (prb t (zh ky) (c + q)).j := fun q => congrArg SetTable.Probe.j (prb_on t _ c q)
    have told := go_spec t T.ris T.dm (fun i => (es[i]?.map (·.1)).getD 0) (zh ky) (10 * SetTable.turns t.mask) (N - c) (prb t (zh ky) c) (prb_no t _ c) (by omega) (fun q hq => by rw [shift]; exact hfull (c + q) (by omega)) (by rw [shift, Nat.add_sub_cancel' hc]; exact hfree)
    rcases told with ⟨q, i, hq, hi, hh, none_ahead, hgo⟩ | ⟨none_at, hgo⟩
    · have hgo2 : t.probe (fun i => (es[i]?.map (·.1)).getD 0) (zh ky) (stand.getD (t.probeStart (zh ky))) = some (.candidate (prb t (zh ky) (c + q)).j i (prb t (zh ky) (c + (q + 1)))) := by
        rw [e0, ← shift, ← prb_on]; exact hgo
      rw [hgo2]
      dsimp only
      rw [shift] at hi
      have hil : i < L.length := by
        have l1 := (List.getElem?_eq_some_iff.mp hi).1
        have l2 := T.sz
        rw [List.length_map] at l2
        rw [Array.length_toList] at l1
        omega
      obtain ⟨p, hp⟩ : ∃ p, L[i]? = some p := ⟨_, List.getElem?_eq_getElem hil⟩
      have pm := List.mem_of_getElem? hp
      have slo : t.slot (prb t (zh ky) (c + q)).j = .live i := slot_live T.ris hi
      have on : wpAny (model P w) A (searchRest a (.ref x) (zh ky) false f es t (prb t (zh ky) (c + q)).j i (prb t (zh ky) (c + (q + 1)))) Q E s := by
        unfold searchRest
        rw [ent hp]
        dsimp only
        refine wpAny_bind (wpAny_holding (wpAny_eqBool_tuple hu (tup p pm) hx ?_))
        refine wpAny_bind (wpAny_setState_of ho hd hf ?_)
        dsimp only
        refine wp_if_neg (by simp) ?_
        try refine wpAny_bind (wpAny_pure ?_)
        rw [sameMem]
        dsimp only
        simp only [if_true, slo, ent hp]
        refine wpAny_bind (wpAny_isSame_ref_self (wpAny_bind (wpAny_pure ?_)))
        simp only [if_true]
        by_cases hkk : p.2 = ky
        · refine wp_if_pos (by simp [hkk]) ?_
          exact wpAny_pure (yes (List.mem_map.mpr ⟨p, pm, hkk⟩) i)
        · refine wp_if_neg (by simp [hkk]) ?_
          refine seek ho hd hf hr T tup hx hu hN hfree hfull yes no f (c + (q + 1)) _ rfl (by omega) (by omega) fun i2 p2 h2 k2 => ?_
          obtain ⟨c2, a1, a2, a3⟩ := ahead i2 p2 h2 k2
          refine ⟨c2, ?_, a2, a3⟩
          have same : (es[i2]?.map (·.1)).getD 0 = zh ky := by
            rw [ent h2, k2]; rfl
          rcases Nat.lt_trichotomy c2 (c + q) with z | z | z
          · refine absurd same (none_ahead (c2 - c) i2 (by omega) ?_)
            rw [shift, Nat.add_sub_cancel' a1]
            exact a3
          · rw [z] at a3
            have s2 := slot_live T.ris a3
            rw [slo] at s2
            injection s2 with s2
            rw [← s2, hp] at h2
            injection h2 with h2
            exact absurd (h2 ▸ k2) hkk
          · omega
      by_cases hl : t.led = true
      · refine wp_if_neg (by simp [hl]) ?_
        try refine wpAny_bind (wpAny_pure ?_)
        exact on
      · refine wp_if_pos (by simp [hl]) ?_
        refine wpAny_bind (seen_tup hx (fun y hy => ?_) ?_)
        · obtain ⟨e, he, ee⟩ := List.mem_map.mp hy
          have m1 : e ∈ es.toList := by
            have m0 : e ∈ es ∧ e.1 = zh ky := by simpa using he
            simpa using m0.1
          rw [hr] at m1
          obtain ⟨p3, m3, e3⟩ := List.mem_map.mp m1
          exact ⟨p3.2, p3.1, by rw [← ee, ← e3], tup p3 m3⟩
        · refine wp_if_neg (by decide) ?_
          try refine wpAny_bind (wpAny_pure ?_)
          exact on
    · have hgo2 : t.probe (fun i => (es[i]?.map (·.1)).getD 0) (zh ky) (stand.getD (t.probeStart (zh ky))) = some (.empty (prb t (zh ky) N).j none) := by
        have eN : (prb t (zh ky) N).j = (nth t.mask (prb t (zh ky) c) (N - c)).j := by rw [shift, Nat.add_sub_cancel' hc]
        rw [e0, eN]; exact hgo
      rw [hgo2]
      dsimp only
      refine wpAny_pure (no (fun hm => ?_) _ _)
      obtain ⟨p2, m2, k2⟩ := List.mem_map.mp hm
      obtain ⟨i2, l2, e2⟩ := List.getElem_of_mem m2
      have h2 : L[i2]? = some p2 := by rw [List.getElem?_eq_getElem l2, e2]
      obtain ⟨c2, a1, a2, a3⟩ := ahead i2 p2 h2 k2
      refine none_at (c2 - c) i2 (by omega) (by rw [shift, Nat.add_sub_cancel' a1]; exact a3) ?_
      show (es[i2]?.map (·.1)).getD 0 = zh ky
      rw [ent h2, k2]; rfl
/-- the search of x in the set at a -/
theorem find_tup (R : SetZ s.heap a L) (tup : ∀ p ∈ L, IsT P w s.heap p.2 p.1) {x : Addr} {ky : List Int} (hx : IsT P w s.heap ky x) (hu : A.units < cLine) {Q : Option Nat → Shared → Prop} (h : ∀ r : Option Nat, r.isSome = decide (ky ∈ L.map (·.2)) → Q r s) :
    wpAny (model P w) A (setFind a (.ref x) (zh ky)) Q E s := by
  obtain ⟨es, ep, t, ⟨o, ho, _, hd⟩, hr, T, room⟩ := R.ex
  have hsz : es.size = L.length := by
    have e := congrArg List.length hr
    rw [Array.length_toList, List.length_map] at e
    exact e
  have hf : t.fits es.size = true := by
    have e := T.sz
    rw [List.length_map] at e
    unfold SetTable.fits SetTable.fill
    rw [T.dm, Bool.and_eq_true, beq_iff_eq, decide_eq_true_eq]
    show t.place.size = es.size ∧ t.place.size + 0 ≤ t.mask
    omega
  obtain ⟨N, n1, n2, n3⟩ := T.first (by rw [List.length_map]; omega) (zh ky)
  have big : N < 100000 := by
    have : 10 * SetTable.turns t.mask ≤ 1420 := by
      unfold SetTable.turns
      rcases T.mok with e | e | e <;> omega
    omega
  unfold setFind
  show wpAny _ _ (setFindIn a (.ref x) (zh ky) (99999 + 1)) Q E s
  unfold setFindIn
  refine wpAny_bind (wpAny_setState_of ho hd hf ?_)
  dsimp only
  refine wp_if_neg (by simp [byScan, Value.scannable]) ?_
  try refine wpAny_bind (wpAny_pure ?_)
  unfold setSearch
  refine wpAny_bind (seek ho hd hf hr T tup hx hu n1 n2 n3 (fun m i => ?_) (fun m j b => ?_) 100000 0 none rfl (Nat.zero_le _) (by omega) fun i p hp hk => ?_)
  · exact wpAny_pure (h _ (by simpa using m))
  · exact wpAny_pure (h _ (by simpa using m))
  · have h1 : (L.map fun p => zh p.2)[i]? = some (zh ky) := by rw [List.getElem?_map, hp, ← hk]; rfl
    have l1 : i < t.place.toList.length := by
      have l0 := (List.getElem?_eq_some_iff.mp hp).1
      have l2 := T.sz
      rw [List.length_map] at l2
      rw [Array.length_toList]
      omega
    have h2 := List.getElem?_eq_getElem l1
    obtain ⟨c, c1, c2⟩ := T.before n2 h1 h2
    exact ⟨c, Nat.zero_le _, c1, by rw [h2, ← c2]; rfl⟩
theorem in_setZ (R : SetZ s.heap a L) (tup : ∀ p ∈ L, IsT P w s.heap p.2 p.1) {x : Addr} {ky : List Int} (hx : IsT P w s.heap ky x) (hu : A.units + 64 < cLine) {Q : Value → Shared → Prop} (h : ∀ t, Q (.bool (decide (ky ∈ L.map (·.2)))) { s with toks := t }) :
    wpAny (model P w) A (compareOp .In (.ref x) (.ref a)) Q E s := by
  obtain ⟨es, ep, t, ⟨o, ho, hx1, hd⟩, rest⟩ := R.ex
  have ty : s.TypeIs (.ref a) "set" := ⟨o, ho, hx1.1⟩
  show wpAny _ _ (contains (.ref a) (.ref x) >>= fun b => pure (Value.bool b)) Q E s
  refine wpAny_bind ?_
  unfold contains
  try with_reducible refine wpAny_holding ?_
  refine wpAny_bind (wpAny_specialOf ty F.slot_set_contains.lookup ?_)
  rw [if_neg (by rw [beq_builtin_none]; exact Bool.false_ne_true)]
  refine wpAny_bind (wpAny_callSpecialUnlessNone?_slot (name := Str.ofString "__contains__") ty F.slot_set_contains (wpAny_call_entry F.slot_set_contains ty entry_set_contains ?_ (F.args_set_contains_2 _ _)))
  unfold Builtin.«frozenset.__contains__» Builtin.Frozenset.oneOther
  simp only [List.isEmpty_nil, bind_assoc]
  unfold Builtin.Frozenset.addrOf Builtin.Frozenset.withSetAsKey setContains
  repeat (first | (refine wpAny_bind (wpAny_pure ?_); try dsimp only) | dsimp only)
  refine wpAny_bind (wpAny_tryCatch ?_)
  refine wpAny_holding ?_
  refine wpAny_bind ((tupleKind (intKind P w)).pyHash (by show _ < cLine; simp only [Around.in1]; omega) hx ?_)
  have eh : (tupleKind (intKind P w)).hash ky = zh ky := rfl
  rw [eh]
  refine wpAny_bind (find_tup (P := P) (w := w) (A := A.in1) (s := { s with toks := s.toks + (tupleKind (intKind P w)).draws ky }) R tup hx ?_ fun r hr => ?_)
  · show A.units + 1 < cLine
    omega
  refine wpAny_pure ?_
  show wpAny _ _ (ret (Value.bool r.isSome)) _ _ _
  rw [hr]
  exact wpAny_pure ⟨_, rfl, wpAny_truthy_bool (wpAny_pure (h _))⟩
end
end TL

end
/-! TS2 -/
section
set_option maxHeartbeats 4000000
namespace TL
open PySem PySem.Spec PyProof.Rows L2
/-! ## zip for a target that is a name: the pair that came first stays, or it is gone -/
section
variable {prog : Program} {w : World} {A : Around} {E : Value → Shared → Prop} {s : Shared}
theorem alive_no {a : Addr} {Q : Option Obj → Shared → Prop} (ho : s.heap.get? a = none) (h : Q none s) : wpAny (model prog w) A (loadIfAlive a) Q E s := by
  have h' : Q (s.heap.get? a) s := by rw [ho]; exact h
  exact fun _ _ _ => h'
theorem free_no {z TI TO T : Addr} {f : Bool} {Q : Bool → Shared → Prop} (hz : IsZipHeld s.heap z TI TO T f) (hT : s.heap.get? T = none) (h : Q true s) : wpAny (model prog w) A (Builtin.SmallTypes.ownedTupleIsFree (.ref z)) Q E s := by
  unfold Builtin.SmallTypes.ownedTupleIsFree
  refine wpAny_bind (wpAny_field hz rfl (x := rawInt T) rfl ?_)
  show wpAny _ _ (loadIfAlive ((T : Int).toNat) >>= _) _ _ _
  rw [Int.toNat_natCast]
  exact wpAny_bind (alive_no hT (wpAny_pure h))
variable {z TI TO T i1 i2 l1 l2 : Addr} {f : Bool} {k1 k2 : Nat} {xs ys : Array Value} {x y a b : Value}
theorem next_gone {Q : Value → Shared → Prop} (D : ZipApart z TI TO i1 i2 l1 l2) (z0 : IsZipHeld s.heap z TI TO T f) (gone : s.heap.get? T = none) (pTI : IsPair s.heap TI (.ref i1) (.ref i2)) (pTO : IsPair s.heap TO a b)
    (n1 : s.heap.IsListIter i1 l1 k1) (n2 : s.heap.IsListIter i2 l2 k2) (m1 : s.heap.IsList l1 xs) (m2 : s.heap.IsList l2 ys) (ex : xs[k1]? = some x) (ey : ys[k2]? = some y)
    (q : ∀ g, IsZipHeld g z TI TO s.heap.objs.size false → IsPair g TO x y → g.IsListIter i1 l1 (k1 + 1) → g.IsListIter i2 l2 (k2 + 1) → IsPair g s.heap.objs.size x y → g.objs.size = s.heap.objs.size + 1 →
      (∀ c o, c ≠ z → c ≠ TO → c ≠ i1 → c ≠ i2 → s.heap.get? c = some o → g.get? c = some o) → Q (.ref s.heap.objs.size) { s with heap := g }) :
    wpAny (model prog w) A (Builtin.«zip.__next__» ⟨[.ref z], []⟩) (fun fin s' => ∃ v, fin = .done (.ret v) ∧ Q v s') E s := by
  show wpAny _ _ (field (.ref z) 2 >>= _) _ _ _
  refine wpAny_bind (wpAny_field z0 rfl (x := .bool false) rfl ?_)
  show wpAny _ _ (field (.ref z) 3 >>= _) _ _ _
  refine wpAny_bind (wpAny_field z0 rfl (x := .ref TI) rfl (wpAny_bind (wpAny_seqItems pTI rfl ?_)))
  show wpAny _ _ (Builtin.SmallTypes.ownedTupleIsFree (.ref z) >>= _) _ _ _
  refine wpAny_bind (free_no z0 gone ?_)
  simp only [if_true]
  refine wpAny_bind (wpAny_rule (wpAny_bind (wpAny_field z0 rfl (x := .ref TO) rfl (wpAny_bind (wpAny_setField_rec z0 (by simp) fun g1 z1 b1 => ?_)))))
  replace z1 : g1.get? z = some { cls := .type "zip", dict := none, data := .fields #[.ellipsis, .bool f, .bool false, .ref TI, .ref TO], slots := #[] } := z1
  refine wpAny_bind ?_
  simp only [List.zipIdx_cons, List.zipIdx_nil, List.forIn_cons, List.forIn_nil]
  refine wpAny_bind (wpAny_bind (wpAny_onRaise ?_))
  show wpAny _ _ (Builtin.SmallTypes.nextOf (.ref i1) >>= _) _ _ _
  refine wpAny_bind (wpAny_nextOf_list_item (n1.extBut b1.extBut D.i1z) (m1.extBut b1.extBut D.l1z) ex fun g2 a2 b2 => wpAny_pure ?_)
  have o2 : IsPair g2 TO a b := b2.extBut _ _ D.TOi1 (b1.extBut _ _ D.TOz pTO)
  refine wpAny_bind (wpAny_seqItems o2 rfl (wpAny_bind (wpAny_updateSeq_pair o2 fun g3 o3 b3 => ?_)))
  replace o3 : IsPair g3 TO x b := o3
  refine wpAny_bind (wpAny_letGo (wpAny_pure (wpAny_bind (wpAny_bind (wpAny_onRaise ?_)))))
  show wpAny _ _ (Builtin.SmallTypes.nextOf (.ref i2) >>= _) _ _ _
  refine wpAny_bind (wpAny_nextOf_list_item (((n2.extBut b1.extBut D.i2z).extBut b2.extBut D.i12.symm).extBut b3.extBut D.TOi2.symm) (((m2.extBut b1.extBut D.l2z).extBut b2.extBut D.l2i1).extBut b3.extBut D.l2TO) ey fun g4 a4 b4 => wpAny_pure ?_)
  have o4 : IsPair g4 TO x b := b4.extBut _ _ D.TOi2 o3
  refine wpAny_bind (wpAny_seqItems o4 rfl (wpAny_bind (wpAny_updateSeq_pair o4 fun g5 o5 b5 => ?_)))
  replace o5 : IsPair g5 TO x y := o5
  refine wpAny_bind (wpAny_letGo (wpAny_pure (wpAny_pure (wpAny_bind (wpAny_seqItems o5 rfl (wpAny_bind (wpAny_newTuple ?_)))))))
  have sz : g5.objs.size = s.heap.objs.size := by rw [b5.1, b4.1, b3.1, b2.1, b1.1]
  have z5 := b5.extBut _ _ D.TOz.symm (b4.extBut _ _ D.i2z.symm (b3.extBut _ _ D.TOz.symm (b2.extBut _ _ D.i1z.symm z1)))
  have kp : ∀ c o, c ≠ z → c ≠ TO → c ≠ i1 → c ≠ i2 → s.heap.get? c = some o → g5.get? c = some o := fun c o c1 c2 c3 c4 e => b5.extBut _ _ c2 (b4.extBut _ _ c4 (b3.extBut _ _ c2 (b2.extBut _ _ c3 (b1.extBut _ _ c1 e))))
  have q1 : g5.IsListIter i1 l1 (k1 + 1) := ((a2.extBut b3.extBut D.TOi1.symm).extBut b4.extBut D.i12).extBut b5.extBut D.TOi1.symm
  have q2 : g5.IsListIter i2 l2 (k2 + 1) := a4.extBut b5.extBut D.TOi2.symm
  have lz : z < g5.objs.size := Heap.lt_size z5
  show wpAny _ _ (Builtin.SmallTypes.ownedTupleHandOut (.ref z) (.ref g5.objs.size) >>= _) _ _ _
  unfold Builtin.SmallTypes.ownedTupleHandOut
  have z6 : (g5.push { cls := .type "tuple", data := .seq #[x, y] }).get? z = _ := Heap.get?_push_of_some _ z5
  refine wpAny_bind (wpAny_bind (wpAny_setField_rec z6 (by simp) fun g7 z7 b7 => ?_))
  replace z7 : IsZipHeld g7 z TI TO g5.objs.size f := z7
  refine wpAny_setField_rec z7 (by simp) fun g8 z8 b8 => ?_
  replace z8 : IsZipHeld g8 z TI TO g5.objs.size false := z8
  have up : ∀ c o, c ≠ z → g5.get? c = some o → g8.get? c = some o := fun c o c1 e => b8.extBut _ _ c1 (b7.extBut _ _ c1 (Heap.get?_push_of_some _ e))
  have t8 : IsPair g8 g5.objs.size x y := b8.extBut _ _ (Nat.ne_of_gt lz) (b7.extBut _ _ (Nat.ne_of_gt lz) (Heap.get?_push_size _ rfl))
  have s8 : g8.objs.size = g5.objs.size + 1 := by rw [b8.1, b7.1, Heap.size_push]
  rw [sz] at z8 t8 s8
  refine wpAny_pure ⟨_, rfl, ?_⟩
  show Q (.ref g5.objs.size) _
  rw [sz]
  exact q g8 z8 (up _ _ D.TOz o5) (q1.at fun o e => up _ o D.i1z e) (q2.at fun o e => up _ o D.i2z e) t8 s8 fun c o c1 c2 c3 c4 e => up c o c1 (kp c o c1 c2 c3 c4 e)
theorem end_gone {Q : Fin → Shared → Prop} (hh : A.handled = none) (D : ZipApart z TI TO i1 i2 l1 l2) (z0 : IsZipHeld s.heap z TI TO T f) (gone : s.heap.get? T = none) (pTI : IsPair s.heap TI (.ref i1) (.ref i2)) (pTO : IsPair s.heap TO a b)
    (n1 : s.heap.IsListIter i1 l1 k1) (n2 : s.heap.IsListIter i2 l2 k2) (m1 : s.heap.IsList l1 xs) (m2 : s.heap.IsList l2 ys) (over : xs[k1]? = none ∨ ys[k2]? = none)
    (q : ∀ g e, (∀ c o, c ≠ z → c ≠ TO → c ≠ i1 → c ≠ i2 → s.heap.get? c = some o → g.get? c = some o) → (∃ o, g.get? e = some o ∧ o.cls = .type "StopIteration") → E (.ref e) { s with heap := g }) :
    wpAny (model prog w) A (Builtin.«zip.__next__» ⟨[.ref z], []⟩) Q E s := by
  show wpAny _ _ (field (.ref z) 2 >>= _) _ _ _
  refine wpAny_bind (wpAny_field z0 rfl (x := .bool false) rfl ?_)
  show wpAny _ _ (field (.ref z) 3 >>= _) _ _ _
  refine wpAny_bind (wpAny_field z0 rfl (x := .ref TI) rfl (wpAny_bind (wpAny_seqItems pTI rfl ?_)))
  show wpAny _ _ (Builtin.SmallTypes.ownedTupleIsFree (.ref z) >>= _) _ _ _
  refine wpAny_bind (free_no z0 gone ?_)
  simp only [if_true]
  refine wpAny_bind (wpAny_rule (wpAny_bind (wpAny_field z0 rfl (x := .ref TO) rfl (wpAny_bind (wpAny_setField_rec z0 (by simp) fun g1 z1 b1 => ?_)))))
  replace z1 : g1.get? z = some { cls := .type "zip", dict := none, data := .fields #[.ellipsis, .bool f, .bool false, .ref TI, .ref TO], slots := #[] } := z1
  refine wpAny_bind ?_
  simp only [List.zipIdx_cons, List.zipIdx_nil, List.forIn_cons, List.forIn_nil]
  refine wpAny_bind (wpAny_bind (wpAny_onRaise ?_))
  show wpAny _ _ (Builtin.SmallTypes.nextOf (.ref i1) >>= _) _ _ _
  cases ex : xs[k1]? with
  | none =>
    refine wpAny_bind (wpAny_nextOf_list_end hh (n1.extBut b1.extBut D.i1z) (m1.extBut b1.extBut D.l1z) ex fun g2 e b2 he => ?_)
    obtain ⟨oe, e1, e2⟩ := he
    have z2 := b2 _ _ D.i1z.symm z1
    have ne : e ≠ z := fun u => by subst u; rw [z2] at e1; cases e1; simp at e2
    exact wpAny_setField_rec z2 (by simp) fun g3 _ b3 => q g3 e (fun c o c1 _ c3 _ u => b3.extBut _ _ c1 (b2 _ _ c3 (b1.extBut _ _ c1 u))) ⟨oe, b3.extBut _ _ ne e1, e2⟩
  | some x =>
    have ey : ys[k2]? = none := by rcases over with h | h; rw [ex] at h; cases h; exact h
    refine wpAny_bind (wpAny_nextOf_list_item (n1.extBut b1.extBut D.i1z) (m1.extBut b1.extBut D.l1z) ex fun g2 a2 b2 => wpAny_pure ?_)
    have o2 : IsPair g2 TO a b := b2.extBut _ _ D.TOi1 (b1.extBut _ _ D.TOz pTO)
    refine wpAny_bind (wpAny_seqItems o2 rfl (wpAny_bind (wpAny_updateSeq_pair o2 fun g3 o3 b3 => ?_)))
    refine wpAny_bind (wpAny_letGo (wpAny_pure (wpAny_bind (wpAny_bind (wpAny_onRaise ?_)))))
    show wpAny _ _ (Builtin.SmallTypes.nextOf (.ref i2) >>= _) _ _ _
    refine wpAny_bind (wpAny_nextOf_list_end hh (((n2.extBut b1.extBut D.i2z).extBut b2.extBut D.i12.symm).extBut b3.extBut D.TOi2.symm) (((m2.extBut b1.extBut D.l2z).extBut b2.extBut D.l2i1).extBut b3.extBut D.l2TO) ey fun g4 e b4 he => ?_)
    obtain ⟨oe, e1, e2⟩ := he
    have z4 := b4 _ _ D.i2z.symm (b3.extBut _ _ D.TOz.symm (b2.extBut _ _ D.i1z.symm z1))
    have ne : e ≠ z := fun u => by subst u; rw [z4] at e1; cases e1; simp at e2
    exact wpAny_setField_rec z4 (by simp) fun g5 _ b5 => q g5 e (fun c o c1 c2 c3 c4 u => b5.extBut _ _ c1 (b4 _ _ c4 (b3.extBut _ _ c2 (b2.extBut _ _ c3 (b1.extBut _ _ c1 u))))) ⟨oe, b5.extBut _ _ ne e1, e2⟩
/-- the next pair, whether the first one stays or is gone -/
theorem next_any {Q : Option Value → Shared → Prop} (D : ZipApart z TI TO i1 i2 l1 l2) (z0 : IsZipHeld s.heap z TI TO T f) (pTI : IsPair s.heap TI (.ref i1) (.ref i2)) (pTO : IsPair s.heap TO a b)
    (n1 : s.heap.IsListIter i1 l1 k1) (n2 : s.heap.IsListIter i2 l2 k2) (m1 : s.heap.IsList l1 xs) (m2 : s.heap.IsList l2 ys) (ex : xs[k1]? = some x) (ey : ys[k2]? = some y)
    (q : ∀ g T' f', IsZipHeld g z TI TO T' f' → (∃ c d, IsPair g TO c d) → g.IsListIter i1 l1 (k1 + 1) → g.IsListIter i2 l2 (k2 + 1) → IsPair g s.heap.objs.size x y → g.objs.size = s.heap.objs.size + 1 →
      (∀ c o, c ≠ z → c ≠ TO → c ≠ i1 → c ≠ i2 → s.heap.get? c = some o → g.get? c = some o) → Q (some (.ref s.heap.objs.size)) { s with heap := g }) : wpAny (model prog w) A (pyNext (.ref z)) Q E s := by
  cases hT : s.heap.get? T with
  | some oT => exact wpAny_pyNext_zip_item_held D z0 hT pTI n1 n2 m1 m2 ex ey fun g c1 c2 c3 c4 c5 c6 => q g T true c1 ⟨a, b, c6 _ _ D.TOz D.TOi1 D.TOi2 pTO⟩ c2 c3 c4 c5 fun c o d1 _ d3 d4 e => c6 c o d1 d3 d4 e
  | none =>
    have ty : s.TypeIs (.ref z) "zip" := ⟨_, z0, rfl⟩
    unfold pyNext
    exact wpAny_bind (wpAny_attempt (wpAny_callSpecial?_slot (name := Str.ofString "__next__") ty F.slot_zip_next (wpAny_call_entry F.slot_zip_next ty F.entry_zip_next
      (next_gone D z0 hT pTI pTO n1 n2 m1 m2 ex ey fun g c1 c2 c3 c4 c5 c6 c7 => wpAny_pure (q g _ _ c1 ⟨x, y, c2⟩ c3 c4 c5 c6 c7)) (F.args_zip_next_1 _))))
theorem stop_any {Q : Option Value → Shared → Prop} (hh : A.handled = none) (D : ZipApart z TI TO i1 i2 l1 l2) (z0 : IsZipHeld s.heap z TI TO T f) (pTI : IsPair s.heap TI (.ref i1) (.ref i2)) (pTO : IsPair s.heap TO a b)
    (n1 : s.heap.IsListIter i1 l1 k1) (n2 : s.heap.IsListIter i2 l2 k2) (m1 : s.heap.IsList l1 xs) (m2 : s.heap.IsList l2 ys) (over : xs[k1]? = none ∨ ys[k2]? = none)
    (q : ∀ g, (∀ c o, c ≠ z → c ≠ TO → c ≠ i1 → c ≠ i2 → s.heap.get? c = some o → g.get? c = some o) → Q none { s with heap := g }) : wpAny (model prog w) A (pyNext (.ref z)) Q E s := by
  cases hT : s.heap.get? T with
  | some oT => exact wpAny_pyNext_zip_end_held hh D z0 hT pTI n1 n2 m1 m2 over fun g c1 => q g fun c o d1 _ d3 d4 e => c1 c o d1 d3 d4 e
  | none =>
    have ty : s.TypeIs (.ref z) "zip" := ⟨_, z0, rfl⟩
    unfold pyNext
    refine wpAny_bind (wpAny_attempt (wpAny_callSpecial?_slot (name := Str.ofString "__next__") ty F.slot_zip_next (wpAny_call_entry F.slot_zip_next ty F.entry_zip_next (end_gone hh D z0 hT pTI pTO n1 n2 m1 m2 over fun g e hk he => ?_) (F.args_zip_next_1 _))))
    obtain ⟨oe, e1, e2⟩ := he
    exact wpAny_bind (wpAny_isInstance (T := "StopIteration") (b := true) ⟨oe, e1, e2⟩ isSubtype_stop (wpAny_pure (q _ hk)))
end
/-- a walk over zip of two lists, each pair to a name -/
theorem turn_zipN {P : Program} {w : World} {K : PySem.W.Frag} {nm : Str} {py : Pos} {a b z TI TO i1 i2 : Addr} (D : ZipApart z TI TO i1 i2 a b) :
    Turn P w K (.Name nm py) (Itz K a b) [z, TI, TO, i1, i2] z (fun i h => (IsZip h z TI TO .none ∨ ∃ T f, IsZipHeld h z TI TO T f) ∧ IsPair h TI (.ref i1) (.ref i2) ∧ (∃ x y, IsPair h TO x y) ∧ h.IsListIter i1 a i ∧ h.IsListIter i2 b i) where
  mem := by simp
  obj := fun i h st c hc => by
    obtain ⟨hz, hTI, ⟨x, y, hTO⟩, ⟨o1, e1, _, d1⟩, ⟨o2, e2, _, d2⟩⟩ := st
    have cs : c = z ∨ c = TI ∨ c = TO ∨ c = i1 ∨ c = i2 := by simpa using hc
    rcases cs with q | q | q | q | q <;> rw [q]
    · rcases hz with hz | ⟨T, f, hz⟩ <;> exact ⟨_, hz, fun v q => nomatch q⟩
    · exact ⟨_, hTI, fun v q => nomatch q⟩
    · exact ⟨_, hTO, fun v q => nomatch q⟩
    · exact ⟨o1, e1, fun v q => by rw [d1] at q; cases q⟩
    · exact ⟨o2, e2, fun v q => by rw [d2] at q; cases q⟩
  keep := fun i h h' st k => by
    obtain ⟨hz, hTI, ⟨x, y, hTO⟩, n1, n2⟩ := st
    refine ⟨?_, k TI (by simp) _ hTI, ⟨x, y, k TO (by simp) _ hTO⟩, n1.at fun o q => k i1 (by simp) o q, n2.at fun o q => k i2 (by simp) o q⟩
    rcases hz with hz | ⟨T, f, hz⟩
    · exact .inl (k z (by simp) _ hz)
    · exact .inr ⟨T, f, k z (by simp) _ hz⟩
  item := by
    intro X hP hw hK hc i pins s σ H E I hf st hg
    subst hP hw hK
    obtain ⟨hz, hTI, ⟨x0, y0, hTO⟩, n1, n2⟩ := st
    obtain ⟨xs, ys, x, y, hqx, hqy, hx, hy⟩ := hg
    obtain ⟨its, rv, p, _⟩ := I.list hqx
    obtain ⟨its2, rv2, p2, _⟩ := I.list hqy
    obtain ⟨u, hu, ru⟩ := rv.get hx
    obtain ⟨u2, hu2, ru2⟩ := rv2.get hy
    have go : ∀ g T' f', IsZipHeld g z TI TO T' f' → (∃ c d, IsPair g TO c d) → g.IsListIter i1 a (i + 1) → g.IsListIter i2 b (i + 1) → IsPair g s.heap.objs.size u u2 → g.objs.size = s.heap.objs.size + 1 →
        (∀ c o, c ≠ z → c ≠ TO → c ≠ i1 → c ≠ i2 → s.heap.get? c = some o → g.get? c = some o) → (fun r s1 => ∃ u, r = some u ∧ wpAny (model X.prog X.w) X.A (letOwnedTupleGo (.Name nm py) (.ref z) u) (fun _ s2 => ∃ x H', Inv X pins σ H' s2 ∧ RelV x u ∧ (Itz X.K a b).yld i H x H' ∧
          ((IsZip s2.heap z TI TO .none ∨ ∃ T f, IsZipHeld s2.heap z TI TO T f) ∧ IsPair s2.heap TI (.ref i1) (.ref i2) ∧ (∃ x y, IsPair s2.heap TO x y) ∧ s2.heap.IsListIter i1 a (i + 1) ∧ s2.heap.IsListIter i2 b (i + 1)) ∧ ∀ b ∈ [z, TI, TO, i1, i2], H' b = none) E s1)
          (some (Value.ref s.heap.objs.size)) { s with heap := g } := by
      intro g T' f' c1 c2 c3 c4 c5 c6 c7
      refine ⟨_, rfl, wpAny_pure ?_⟩
      have new : ObjOk X.prog X.w (upd H s.heap.objs.size (.tup [x, y])) g s.heap.objs.size (.tup [x, y]) := ⟨by show 2 ≤ sizeLine; decide, [u, u2], .cons ru (.cons ru2 .nil), ⟨_, c5, rfl, _, rfl⟩⟩
      have I1 : Inv X pins σ (upd H s.heap.objs.size (.tup [x, y])) { s with heap := g } :=
        I.turnedNew (t' := s.toks) (ch := [z, TI, TO, i1, i2]) (fun c o hb q => c7 c o (fun e => hb (by simp [e])) (fun e => hb (by simp [e])) (fun e => hb (by simp [e])) (fun e => hb (by simp [e])) q) hf (Nat.le_refl _) new
      refine ⟨.ref s.heap.objs.size, _, I1, rfl, ⟨_, x, y, rfl, I.hok.fresh (Nat.le_refl _), rfl, fun l hl => by rw [I.list_inj hl hqx]; exact hx, fun l hl => by rw [I.list_inj hl hqy]; exact hy⟩,
        ⟨.inr ⟨T', f', c1⟩, c7 _ _ D.TIz D.TITO D.TIi1 D.TIi2 hTI, c2, c3, c4⟩, fun c hcm => ?_⟩
      have lt : c < s.heap.objs.size := by
        have cs : c = z ∨ c = TI ∨ c = TO ∨ c = i1 ∨ c = i2 := by simpa using hcm
        rcases cs with q | q | q | q | q <;> rw [q]
        · rcases hz with hz | ⟨T, f, hz⟩ <;> exact Heap.lt_size hz
        · exact Heap.lt_size hTI
        · exact Heap.lt_size hTO
        · obtain ⟨_, e1, _⟩ := n1; exact Heap.lt_size e1
        · obtain ⟨_, e2, _⟩ := n2; exact Heap.lt_size e2
      rw [upd_ne (Nat.ne_of_lt lt)]
      exact (hf c hcm).1
    rcases hz with hz | ⟨T, f, hz⟩
    · exact wpAny_pyNext_zip_item D hz hTI hTO n1 n2 p.isList p2.isList (x := u) (y := u2) (by simpa using hu) (by simpa using hu2) fun g c1 c2 c3 c4 c5 c6 c7 => go g _ false c1 ⟨_, _, c2⟩ c3 c4 c5 c6 c7
    · exact next_any D hz hTI hTO n1 n2 p.isList p2.isList (x := u) (y := u2) (by simpa using hu) (by simpa using hu2) go
  done := by
    intro X hP hw hK hc i pins s σ H E I hf st hg
    subst hP hw hK
    obtain ⟨hz, hTI, ⟨x0, y0, hTO⟩, n1, n2⟩ := st
    obtain ⟨xs, ys, hqx, hqy, hend⟩ := hg
    obtain ⟨its, rv, p, _⟩ := I.list hqx
    obtain ⟨its2, rv2, p2, _⟩ := I.list hqy
    have l1 := rv.length
    have l2 := rv2.length
    have he : its.toArray[i]? = none ∨ its2.toArray[i]? = none := hend.imp (fun q => by simp; omega) (fun q => by simp; omega)
    have fin : ∀ g, (∀ c o, c ≠ z → c ≠ TO → c ≠ i1 → c ≠ i2 → s.heap.get? c = some o → g.get? c = some o) → (none : Option Value) = none ∧ Inv X pins σ H { s with heap := g } := fun g hk =>
      ⟨rfl, I.turnedL (t' := s.toks) (ch := [z, TI, TO, i1, i2]) (fun c o hb q => hk c o (fun e => hb (by simp [e])) (fun e => hb (by simp [e])) (fun e => hb (by simp [e])) (fun e => hb (by simp [e])) q) hf⟩
    rcases hz with hz | ⟨T, f, hz⟩
    · exact wpAny_pyNext_zip_end (I.ok.hd hc) D hz hTI hTO n1 n2 p.isList p2.isList he fin
    · exact stop_any (I.ok.hd hc) D hz hTI hTO n1 n2 p.isList p2.isList he fin
  self := fun A i s Q E st h => by
    rcases st.1 with hz | ⟨T, f, hz⟩
    · exact wpAny_pyIter_zip hz h
    · have ty : s.TypeIs (.ref z) "zip" := ⟨_, hz, rfl⟩
      refine wpAny_pyIter_slot ty F.slot_zip_iter (wpAny_call_entry F.slot_zip_iter ty F.entry_zip_iter ?_ (F.args_zip_iter_1 _))
      show wpAny _ _ (ret (.ref z)) _ _ s
      exact wpAny_pure ⟨_, rfl, "zip", _, ty, F.slot_zip_next.lookup, h⟩
/-- zip(e, e2) of two lists, each pair to a name -/
theorem pi_zipN {X : Cx} {e e2 : Expr} {ta : TA} {p pos py : Pos} {y : Str} (hg : Gl X "zip") (hm : X.mg "zip" = none) (ha : PA X [e, e2] ta)
    (hs : starEach [e, e2] X.env = (false, eval e X.env) :: starEach [e2] X.env := by rfl) (hpl : (backTo pos (starEach [e2] X.env)).any (·.1) = false := by rfl) :
    PI X (.Name y py) (.Call (.Name "zip" p) [e, e2] [] pos) (iZip X.K ta) := by
  refine ⟨fun pins s σ H R I h => ?_⟩
  refine Call_ (ld_blt I hg hm PyProof.Rows.boot_zip (PyProof.Rows.callWith_type1 (thn (ha.run pos pins s σ H _ I h) fun us s1 ⟨vs, H1, I1, r1, q1⟩ => ?_) hs hpl))
  obtain ⟨a, b, xs, ys, ex, hqx, hqy, q⟩ := q1
  subst ex
  cases r1 with
  | cons r rr =>
    cases rr with
    | cons r' rr =>
      cases rr
      cases r
      cases r'
      obtain ⟨its, rv, p1, _⟩ := I1.list hqx
      obtain ⟨its2, rv2, p2, _⟩ := I1.list hqy
      refine call_zip_2 p1.isList p2.isList fun h' hz hTI hTO n1 n2 hsz hk => wpAny_pyIter_zip hz ?_
      refine ⟨s1.heap.objs.size + 4, [s1.heap.objs.size + 4, s1.heap.objs.size + 2, s1.heap.objs.size + 3, s1.heap.objs.size, s1.heap.objs.size + 1], _, _, H1, rfl, I1.kept (t' := s1.toks) hk, turn_zipN (PySem.W.ktu_apart s1.heap.objs.size a b p1.lt p2.lt),
        ⟨.inl hz, hTI, ⟨_, _, hTO⟩, n1, n2⟩, fun c hcm => ?_, q⟩
      have ge : s1.heap.objs.size ≤ c := by
        have cs : c = s1.heap.objs.size + 4 ∨ c = s1.heap.objs.size + 2 ∨ c = s1.heap.objs.size + 3 ∨ c = s1.heap.objs.size ∨ c = s1.heap.objs.size + 1 := by simpa using hcm
        rcases cs with z | z | z | z | z <;> rw [z] <;> first | exact Nat.le_add_right _ _ | exact Nat.le_refl _
      exact I1.fpOk ge (I1.hok.fresh ge)
end TL

end
/-! TL1 -/
section
set_option maxHeartbeats 4000000
namespace TL
open PySem L2

/-! ## data in a heap that only grows -/
theorem seqT_mono {K : PySem.W.Frag} {F F' : Hp} {a : Addr} {xs : List V} (e : Same F F') (h : SqT K F a xs) : SqT K F' a xs := by
  rcases h with (h | ⟨o, h⟩) | h
  · exact .inl (.inl (e _ _ h))
  · exact .inl (.inr ⟨o, e _ _ h⟩)
  · exact .inr h
theorem sqL_mono {K : PySem.W.Frag} {F F' : Hp} {a : Addr} {xs : List V} (e : Same F F') (h : SqL K F a xs) : SqL K F' a xs := by
  rcases h with (h | ⟨o, h⟩) | h
  · exact .inl (.inl (e _ _ h))
  · exact .inl (.inr ⟨o, e _ _ h⟩)
  · exact .inr h
/-- a set of tuples, among the trees -/
def isSetD : PyData → Bool
  | .dict ((.none, _) :: _) => true
  | _ => false
/-- a dict's key as data -/
def kD : Key → PyData
  | .inl i => .int i
  | .inr x => .str x
def keyD : PyData → Option Key
  | .int i => some (.inl i)
  | .str x => some (.inr x)
  | _ => none
theorem keyD_kD (k : Key) : keyD (kD k) = some k := by cases k <;> rfl
mutual
inductive Rp (K : PySem.W.Frag) (F : Hp) : V → PyData → Prop
  | vn : Rp K F .non .none
  | vb (b : Bool) : Rp K F (.bl b) (.bool b)
  | vi (i : Int) : Rp K F (.int i) (.int i)
  | vs (x : Str) : Rp K F (.str x) (.str x)
  | vl {a : Addr} {xs : List V} {ds : List PyData} : SqL K F a xs → RpAll K F xs ds → Rp K F (.ref a) (.list ds)
  | vt {a : Addr} {xs : List V} {ds : List PyData} : SqT K F a xs → RpAll K F xs ds → Rp K F (.ref a) (.tuple ds)
  | vd {a : Addr} {ks : List (Key × V)} {ps : List (PyData × PyData)} : Rd F a (.dK ks) → RpKv K F ks ps → Rp K F (.ref a) (.dict ps)
  | vx {a : Addr} {L : List (Addr × List Int)} {kss : List (List Int)} : F a = some (SetHO a L) → (∀ p ∈ L, SqT K F p.1 (p.2.map V.int)) → (∀ ky, ky ∈ kss ↔ ky ∈ L.map (·.2)) → Rp K F (.ref a) (.dict [(.none, .list (kss.map fun ks => .tuple (ks.map .int)))])
inductive RpKv (K : PySem.W.Frag) (F : Hp) : List (Key × V) → List (PyData × PyData) → Prop
  | nil : RpKv K F [] []
  | cons {k : Key} {v : V} {ks : List (Key × V)} {d : PyData} {ps : List (PyData × PyData)} : Rp K F v d → RpKv K F ks ps → RpKv K F ((k, v) :: ks) ((kD k, d) :: ps)
inductive RpAll (K : PySem.W.Frag) (F : Hp) : List V → List PyData → Prop
  | nil : RpAll K F [] []
  | cons {v : V} {vs : List V} {d : PyData} {ds : List PyData} : Rp K F v d → RpAll K F vs ds → RpAll K F (v :: vs) (d :: ds)
end
theorem rd_mono {F F' : Hp} {a : Addr} {u : HO} (e : Same F F') (h : Rd F a u) : Rd F' a u := by
  rcases h with h | ⟨o, h⟩
  · exact .inl (e _ _ h)
  · exact .inr ⟨o, e _ _ h⟩
mutual
theorem rp_mono {K : PySem.W.Frag} {F F' : Hp} (e : Same F F') : ∀ (d : PyData) (v : V), Rp K F v d → Rp K F' v d
  | .none, _, h => by cases h; exact .vn
  | .bool b, _, h => by cases h; exact .vb b
  | .int i, _, h => by cases h; exact .vi i
  | .str x, _, h => by cases h; exact .vs x
  | .list ds, _, h => by
    cases h with
    | vl hs ha => exact .vl (sqL_mono e hs) (rpa_mono e ds _ ha)
  | .tuple ds, _, h => by
    cases h with
    | vt hs ha => exact .vt (seqT_mono e hs) (rpa_mono e ds _ ha)
  | .dict ps, _, h => by
    cases h with
    | vd hs ha => exact .vd (rd_mono e hs) (rpk_mono e ps _ ha)
    | vx hs ha hk => exact .vx (e _ _ hs) (fun p hp => seqT_mono e (ha p hp)) hk
theorem rpk_mono {K : PySem.W.Frag} {F F' : Hp} (e : Same F F') : ∀ (ps : List (PyData × PyData)) (ks : List (Key × V)), RpKv K F ks ps → RpKv K F' ks ps
  | [], _, h => by cases h; exact .nil
  | (c, d) :: ps, _, h => by
    cases h with
    | cons h1 h2 => exact .cons (rp_mono e d _ h1) (rpk_mono e ps _ h2)
theorem rpa_mono {K : PySem.W.Frag} {F F' : Hp} (e : Same F F') : ∀ (ds : List PyData) (vs : List V), RpAll K F vs ds → RpAll K F' vs ds
  | [], _, h => by cases h; exact .nil
  | d :: ds, _, h => by
    cases h with
    | cons h1 h2 => exact .cons (rp_mono e d _ h1) (rpa_mono e ds _ h2)
end
mutual
theorem rp_dp {K : PySem.W.Frag} {F F' : Hp} (e : Same F F') : ∀ (d : PyData) (v : V), d.canLay0 = true → Rp K F v d → Dp K F' v d
  | .none, _, _, h => by cases h; exact .non
  | .bool b, _, _, h => by cases h; exact .bl b
  | .int i, _, _, h => by cases h; exact .int i
  | .str x, _, _, h => by cases h; exact .str x
  | .list ds, _, c, h => by
    cases h with
    | vl hs ha => exact .lst (sqL_mono e hs) (rpa_dp e ds _ c ha)
  | .tuple ds, _, c, h => by
    cases h with
    | vt hs ha => exact .tup (seqT_mono e hs) (rpa_dp e ds _ c ha)
  | .dict _, _, c, _ => by cases c
theorem rpa_dp {K : PySem.W.Frag} {F F' : Hp} (e : Same F F') : ∀ (ds : List PyData) (vs : List V), PyData.canLayAll0 ds = true → RpAll K F vs ds → DpAll K F' vs ds
  | [], _, _, h => by cases h; exact .nil
  | d :: ds, _, c, h => by
    have c' : d.canLay0 = true ∧ PyData.canLayAll0 ds = true := by simpa [PyData.canLayAll0] using c
    cases h with
    | cons h1 h2 => exact .cons (rp_dp e d _ c'.1 h1) (rpa_dp e ds _ c'.2 h2)
end
theorem Rpkm {K : PySem.W.Frag} {F F' : Hp} {ps : List (PyData × PyData)} {ks : List (Key × V)} (e : Same F F') (h : RpKv K F ks ps) : RpKv K F' ks ps := rpk_mono e ps ks h
theorem Rpm {K : PySem.W.Frag} {F F' : Hp} {d : PyData} {v : V} (e : Same F F') (h : Rp K F v d) : Rp K F' v d := rp_mono e d v h
theorem Rpam {K : PySem.W.Frag} {F F' : Hp} {ds : List PyData} {vs : List V} (e : Same F F') (h : RpAll K F vs ds) : RpAll K F' vs ds := rpa_mono e ds vs h
theorem rpa_len {K : PySem.W.Frag} {F : Hp} : ∀ {vs : List V} {ds : List PyData}, RpAll K F vs ds → vs.length = ds.length
  | _, _, .nil => rfl
  | _, _, .cons _ t => congrArg (· + 1) (rpa_len t)
theorem rpa_get {K : PySem.W.Frag} {F : Hp} : ∀ {vs : List V} {ds : List PyData} {i : Nat} {d : PyData}, RpAll K F vs ds → ds[i]? = some d → ∃ v, vs[i]? = some v ∧ Rp K F v d
  | _, _, _, _, .nil, e => by simp at e
  | _, _, 0, _, .cons h _, e => by simp at e; subst e; exact ⟨_, rfl, h⟩
  | _, _, i + 1, d, .cons _ t, e => by
    obtain ⟨v, h1, h2⟩ := rpa_get (i := i) (d := d) t (by simpa using e)
    exact ⟨v, by simpa using h1, h2⟩
theorem rpa_app {K : PySem.W.Frag} {F : Hp} : ∀ {vs us : List V} {ds es : List PyData}, RpAll K F vs ds → RpAll K F us es → RpAll K F (vs ++ us) (ds ++ es)
  | _, _, _, _, .nil, s => s
  | _, _, _, _, .cons r t, s => .cons r (rpa_app t s)
theorem rpa_set {K : PySem.W.Frag} {F : Hp} {v : V} {d : PyData} (r : Rp K F v d) : ∀ {vs : List V} {ds : List PyData} (i : Nat), RpAll K F vs ds → RpAll K F (vs.set i v) (ds.set i d)
  | _, _, _, .nil => .nil
  | _, _, 0, .cons _ t => .cons r t
  | _, _, i + 1, .cons q t => .cons q (rpa_set r i t)
theorem rpa_drop {K : PySem.W.Frag} {F : Hp} : ∀ {vs : List V} {ds : List PyData} (n : Nat), RpAll K F vs ds → RpAll K F (vs.drop n) (ds.drop n)
  | _, _, 0, r => r
  | _, _, _ + 1, .nil => .nil
  | _, _, n + 1, .cons _ t => rpa_drop n t
theorem rpa_take {K : PySem.W.Frag} {F : Hp} : ∀ {vs : List V} {ds : List PyData} (n : Nat), RpAll K F vs ds → RpAll K F (vs.take n) (ds.take n)
  | _, _, 0, _ => .nil
  | _, _, _ + 1, .nil => .nil
  | _, _, n + 1, .cons r t => .cons r (rpa_take n t)
theorem rpa_ints {K : PySem.W.Frag} {F : Hp} : ∀ ns : List Int, RpAll K F (ns.map V.int) (ns.map PyData.int)
  | [] => .nil
  | n :: ns => .cons (.vi n) (rpa_ints ns)

/-! ## what a frame knows: slots, cells -/
inductive Sl where
  | un | fz (d : PyData) | ow (k : Nat)
abbrev Rs := List Sl
abbrev Ms := List (Option PyData)
/-- the items of a cell that is not frozen -/
def cellAt (m : Ms) (k : Nat) : Option PyData := m[k]?.join
/-- what stands at a cell's address -/
def Stored (K : PySem.W.Frag) (F : Hp) (o : HO) : PyData → Prop
  | .list ds => ∃ vs, o = .lst vs ∧ RpAll K F vs ds
  | .dict ps => ∃ ks, o = .dK ks ∧ RpKv K F ks ps
  | _ => False
theorem stored_mono {K : PySem.W.Frag} {F F' : Hp} {o : HO} (e : Same F F') : ∀ {d : PyData}, Stored K F o d → Stored K F' o d
  | .list _, ⟨vs, h1, h2⟩ => ⟨vs, h1, Rpam e h2⟩
  | .dict _, ⟨ks, h1, h2⟩ => ⟨ks, h1, Rpkm e h2⟩
/-- frozen it is data -/
theorem stored_rp {K : PySem.W.Frag} {F : Hp} {a : Addr} {o : HO} (e : F a = some o) : ∀ {d : PyData}, Stored K F o d → Rp K F (.ref a) d
  | .list _, ⟨vs, h1, h2⟩ => .vl (.inl (.inl (by rw [e, h1]))) h2
  | .dict _, ⟨ks, h1, h2⟩ => .vd (.inl (by rw [e, h1])) h2
theorem cellAt_lt {m : Ms} {k : Nat} {ds : PyData} (e : cellAt m k = some ds) : k < m.length := by
  unfold cellAt at e
  by_cases h : k < m.length
  · exact h
  · rw [List.getElem?_eq_none (by omega)] at e; cases e
theorem cellAt_self {m : Ms} {k : Nat} {o : Option PyData} (h : k < m.length) : cellAt (m.set k o) k = o := by
  unfold cellAt
  rw [List.getElem?_set_self h]
  rfl
theorem cellAt_ne {m : Ms} {k j : Nat} {o : Option PyData} (h : j ≠ k) : cellAt (m.set k o) j = cellAt m j := by
  unfold cellAt
  rw [List.getElem?_set_ne (Ne.symm h)]
theorem cellAt_new {m : Ms} {o : Option PyData} : cellAt (m ++ [o]) m.length = o := by
  unfold cellAt
  simp
theorem cellAt_old {m : Ms} {k : Nat} {o : Option PyData} (h : k < m.length) : cellAt (m ++ [o]) k = cellAt m k := by
  unfold cellAt
  rw [List.getElem?_append_left h]
def Grow (F H F' H' : Hp) : Prop := Same F F' ∧ Same F' H'
/-- U: what stood and is not ours; A: the cells' addresses; F: what is never changed any more -/
structure Good (K : PySem.W.Frag) (U : Hp) (A : List Addr) (F H : Hp) (σ : St) (r : Rs) (m : Ms) : Prop where
  sub : Same F H
  fo : ∀ b o, U b = some o → H b = some o ∧ F b = none
  len : r.length = σ.length
  fz : ∀ (i : Nat) (d : PyData), r[i]? = some (.fz d) → ∃ v, σ[i]? = some (some v) ∧ Rp K F v d
  ow : ∀ (i k : Nat), r[i]? = some (.ow k) → ∃ a, A[k]? = some a ∧ σ[i]? = some (some (.ref a))
  al : A.length = m.length
  cl : ∀ (k : Nat) (a : Addr) (ds : PyData), A[k]? = some a → cellAt m k = some ds → F a = none ∧ U a = none ∧ ∃ o, H a = some o ∧ Stored K F o ds
  nd : A.Nodup
  he : ∀ a, a ∈ A → ∃ o, H a = some o

/-! ## expressions -/
abbrev Ev := Rs → Ms → Option (PyData × Ms)
def tE (K : PySem.W.Frag) (U : Hp) (f : Ev) : TE := fun σ H Q => ∃ (A : List Addr) (F : Hp) (r : Rs) (m : Ms) (d : PyData) (m' : Ms), Good K U A F H σ r m ∧ f r m = some (d, m') ∧
  ∀ (F' H' : Hp) (v : V), Same F F' → Good K U A F' H' σ r m' → Rp K F' v d → Q v H'
theorem pe_weak {X : Cx} {e : Expr} {t t' : TE} (h : PE X e t) (w : ∀ σ H Q, t' σ H Q → t σ H Q) : PE X e t' :=
  ⟨fun pins s σ H Q I q => h.run pins s σ H Q I (w σ H Q q)⟩
theorem pt_weak {X : Cx} {e : Expr} {t t' : TT} (h : PT X e t) (w : ∀ σ H Q, t' σ H Q → t σ H Q) : PT X e t' :=
  ⟨fun pins s σ H Q I q => h.run pins s σ H Q I (w σ H Q q)⟩
theorem ps_weak {X : Cx} {e : Stmt} {t t' : TS} (h : PS X e t) (w : ∀ D σ H, t' D σ H → t D σ H) : PS X e t' :=
  ⟨fun pins s σ H D I q => h.run pins s σ H D I (w D σ H q)⟩
theorem pss_weak {X : Cx} {e : List Stmt} {t t' : TS} (h : PSs X e t) (w : ∀ D σ H, t' D σ H → t D σ H) : PSs X e t' :=
  ⟨fun pins s σ H D I q => h.run pins s σ H D I (w D σ H q)⟩
theorem pa_weak {X : Cx} {es : List Expr} {t t' : TA} (h : PA X es t) (w : ∀ σ H Q, t' σ H Q → t σ H Q) : PA X es t' :=
  ⟨fun pos pins s σ H Q I q => h.run pos pins s σ H Q I (w σ H Q q)⟩

def eC (d : PyData) : Ev := fun _ m => some (d, m)
def slD : Option Sl → Option PyData
  | some (.fz d) => some d
  | _ => none
def eV (i : Nat) : Ev := fun r m => (slD r[i]?).map fun d => (d, m)
def eBin (op : PyData → PyData → Option PyData) (f g : Ev) : Ev := fun r m => (f r m).bind fun p => (g r p.2).bind fun q => (op p.1 q.1).map fun d => (d, q.2)

section
variable {X : Cx} {U : Hp} {pos : Pos}
theorem qe_var (i : Nat) {x : Str} (h : PE X (.Name x pos) (tVar i)) : PE X (.Name x pos) (tE X.K U (eV i)) := by
  refine pe_weak h fun σ H Q ⟨A, F, r, m, d, m', G, e, k⟩ => ?_
  unfold eV slD at e
  split at e
  · rename_i d' he
    cases e
    obtain ⟨v, hv, hd⟩ := G.fz i _ he
    exact ⟨v, hv, k F H v (Same.refl F) G hd⟩
  · cases e
theorem qe_int {i j} : PE X (.Constant (.int i) j pos) (tE X.K U (eC (.int i))) :=
  pe_weak pe_int fun σ H Q ⟨A, F, r, m, d, m', G, e, k⟩ => by
    cases e
    exact k F H _ (Same.refl F) G (.vi i)
theorem qe_bl {b j} : PE X (.Constant (.bool b) j pos) (tE X.K U (eC (.bool b))) :=
  pe_weak pe_bl fun σ H Q ⟨A, F, r, m, d, m', G, e, k⟩ => by
    cases e
    exact k F H _ (Same.refl F) G (.vb b)
theorem qe_non {j} : PE X (.Constant .none j pos) (tE X.K U (eC .none)) :=
  pe_weak pe_non fun σ H Q ⟨A, F, r, m, d, m', G, e, k⟩ => by
    cases e
    exact k F H _ (Same.refl F) G .vn
theorem qe_str {x j} : PE X (.Constant (.str x) j pos) (tE X.K U (eC (.str x))) :=
  pe_weak pe_str fun σ H Q ⟨A, F, r, m, d, m', G, e, k⟩ => by
    cases e
    exact k F H _ (Same.refl F) G (.vs x)

/-- an operator by values: r tells at data what op tells -/
def OpD (X : Cx) (U : Hp) (rd : R2) (op : PyData → PyData → Option PyData) : Prop :=
  ∀ (A : List Addr) (F H : Hp) (σ : St) (r : Rs) (m : Ms) (x y : V) (a b d : PyData) (Q : VK), Good X.K U A F H σ r m → Rp X.K F x a → Rp X.K F y b → op a b = some d →
    (∀ (F' H' : Hp) (v : V), Same F F' → Good X.K U A F' H' σ r m → Rp X.K F' v d → Q v H') → rd x y H Q
theorem bin_some {op : PyData → PyData → Option PyData} {f g : Ev} {r : Rs} {m m' : Ms} {d : PyData} (e : eBin op f g r m = some (d, m')) :
    ∃ d1 m1 d2, f r m = some (d1, m1) ∧ g r m1 = some (d2, m') ∧ op d1 d2 = some d := by
  unfold eBin at e
  cases e1 : f r m with
  | none => rw [e1] at e; cases e
  | some p =>
    rw [e1] at e
    obtain ⟨d1, m1⟩ := p
    cases e2 : g r m1 with
    | none => simp [e2] at e
    | some q =>
      obtain ⟨d2, m2⟩ := q
      simp [e2] at e
      obtain ⟨d3, e3, e4, e5⟩ := e
      subst e4 e5
      exact ⟨d1, m1, d2, rfl, e2, e3⟩
theorem op2 {rd : R2} {op : PyData → PyData → Option PyData} {f g : Ev} (ho : OpD X U rd op) {σ : St} {H : Hp} {Q : VK} (h : tE X.K U (eBin op f g) σ H Q) :
    tOp rd (tE X.K U f) (tE X.K U g) σ H Q := by
  obtain ⟨A, F, r, m, d, m', G, e, k⟩ := h
  obtain ⟨d1, m1, d2, e1, e2, e3⟩ := bin_some e
  refine ⟨A, F, r, m, d1, m1, G, e1, fun F1 H1 x s1 G1 h1 => ⟨A, F1, r, m1, d2, m', G1, e2, fun F2 H2 y s2 G2 h2 => ?_⟩⟩
  refine ho A F2 H2 σ r m' x y d1 d2 d Q G2 (Rpm s2 h1) h2 e3 fun F3 H3 v s3 G3 h3 => ?_
  exact k F3 H3 v ((s1.trans s2).trans s3) G3 h3
theorem qe_op {op : Operator} {rd : R2} {od : PyData → PyData → Option PyData} {a b : Expr} {f g : Ev} (hr : OpR X (binaryOp op) rd) (ho : OpD X U rd od) (ha : PE X a (tE X.K U f)) (hb : PE X b (tE X.K U g)) :
    PE X (.BinOp a op b pos) (tE X.K U (eBin od f g)) := pe_weak (pe_op hr ha hb) fun _ _ _ h => op2 ho h
theorem qe_cmp {op : CmpOp} {rd : R2} {od : PyData → PyData → Option PyData} {a b : Expr} {f g : Ev} (hr : OpR X (compareOp op) rd) (ho : OpD X U rd od) (ha : PE X a (tE X.K U f)) (hb : PE X b (tE X.K U g)) (hm : behindInMarks op b = false) :
    PE X (.Compare a [op] [b] pos) (tE X.K U (eBin od f g)) := pe_weak (pe_cmpR hr ha hb hm) fun _ _ _ h => op2 ho h
end

/-! ## new objects -/
theorem same_new {F : Hp} {p : Addr} {o : HO} (h : F p = none) : Same F (upd F p o) := fun b x e => by
  rw [upd_ne (ne_of_none e h)]
  exact e
section
variable {K : PySem.W.Frag} {U : Hp} {A : List Addr} {F H : Hp} {σ : St} {r : Rs} {m : Ms} {p : Addr}
theorem Good.nope (G : Good K U A F H σ r m) (h : H p = none) : F p = none ∧ U p = none := by
  refine ⟨G.sub.free h, ?_⟩
  cases e : U p with
  | none => rfl
  | some o => rw [(G.fo p o e).1] at h; cases h
/-- an object is laid that is never changed -/
theorem Good.laid (G : Good K U A F H σ r m) {o : HO} (h : H p = none) : Good K U A (upd F p o) (upd H p o) σ r m := by
  obtain ⟨hF, hU⟩ := G.nope h
  have sF : Same F (upd F p o) := same_new hF
  refine ⟨fun b u e => ?_, fun b u e => ?_, G.len, fun i d e => ?_, G.ow, G.al, fun k a ds e1 e2 => ?_, G.nd, fun a ha => ?_⟩
  · by_cases hb : b = p
    · subst hb
      rw [upd_same] at e ⊢
      exact e
    · rw [upd_ne hb] at e ⊢
      exact G.sub b u e
  · have hb : b ≠ p := fun z => by rw [z, hU] at e; cases e
    rw [upd_ne hb, upd_ne hb]
    exact G.fo b u e
  · obtain ⟨v, h1, h2⟩ := G.fz i d e
    exact ⟨v, h1, Rpm sF h2⟩
  · obtain ⟨h1, h2, vs, h3, h4⟩ := G.cl k a ds e1 e2
    have ha : a ≠ p := fun z => by rw [z, h] at h3; cases h3
    exact ⟨by rw [upd_ne ha]; exact h1, h2, vs, by rw [upd_ne ha]; exact h3, stored_mono sF h4⟩
  · obtain ⟨o', h1⟩ := G.he a ha
    exact ⟨o', by rw [upd_ne (ne_of_none h1 h)]; exact h1⟩
end
end TL

end
/-! TL2 -/
section
set_option maxHeartbeats 4000000
namespace TL
open PySem L2
section
variable {X : Cx} {U : Hp}
theorem opr_or {f : Value → Value → Sem Value} {r r' : R2} (h : OpR X f r) (h' : OpR X f r') : OpR X f (fun x y H Q => r x y H Q ∨ r' x y H Q) := by
  intro pins s σ H x y v u Q I rx ry q
  rcases q with q | q
  · exact h pins s σ H x y v u Q I rx ry q
  · exact h' pins s σ H x y v u Q I rx ry q
/-- list + list -/
def rCatR (K : PySem.W.Frag) : R2 := fun x y H Q => ∃ l b xs zs, x = .ref l ∧ y = .ref b ∧ SqL K H l xs ∧ SqL K H b zs ∧ xs.length + zs.length ≤ sizeLine ∧ ∀ p, H p = none → Q (.ref p) (upd H p (.lst (xs ++ zs)))
theorem op_catR : OpR X (binaryOp .Add) (rCatR X.K) := by
  intro pins s σ H x y v u Q I rx ry ⟨l, b, xs, zs, e1, e2, hl, hb, hz, q⟩
  subst e1 e2
  cases (show v = Value.ref l from rx)
  cases (show u = Value.ref b from ry)
  obtain ⟨i1, r1, p1, z1⟩ := I.list hl
  obtain ⟨i2, r2, p2, z2⟩ := I.list hb
  have w1 := r1.length
  have w2 := r2.length
  obtain ⟨⟨cls, dd, data, sl⟩, ho, hc, n, hd⟩ := p1.isList
  obtain ⟨⟨cls2, dd2, data2, sl2⟩, ho2, hc2, n2, hd2⟩ := p2.isList
  simp only at hc hd hc2 hd2
  subst hc hd hc2 hd2
  have e : i1.toArray ++ i2.toArray = (i1 ++ i2).toArray := by simp
  refine concat_meets ⟨_, ho, rfl⟩ ⟨_, ho2, rfl⟩ noFill_list_add seq_list_add PySem.F.slot_list_add PySem.F.entry_list_add (PySem.F.args_list_add_2 _ _) (PyProof.Rows.list_addW l b i1.toArray i2.toArray n n2 dd dd2 sl sl2 (by simp only [List.size_toArray]; omega)) ⟨ho, ho2, ?_⟩
  rw [e]
  have hf : H s.heap.objs.size = none := I.hok.fresh (Nat.le_refl _)
  refine ⟨.ref s.heap.objs.size, upd H s.heap.objs.size (.lst (xs ++ zs)), I.laid (t' := s.toks) (fun c w g => Heap.get?_push_of_some _ g) (Nat.le_refl _) ?_, rfl, q _ hf⟩
  exact ⟨by rw [List.length_append]; omega, _, 0, r1.append r2, Heap.get?_push_size _ rfl⟩
theorem op_mulS : OpR X (binaryOp .Mult) (fun x y H Q => ∃ z n, x = .str z ∧ y = .int n ∧ MulOk z n ∧ Q (.str (Txt.mul z n)) H) := by
  intro pins s σ H x y v u Q I rx ry ⟨z, n, e1, e2, hm, q⟩
  subst e1 e2
  obtain ⟨t, rfl⟩ := rx
  obtain ⟨t', rfl⟩ := ry
  exact SB.mul hm fun t2 k => ⟨.str _, H, I.tok _, ⟨t2, rfl⟩, q⟩
end

/-! ## operators on data -/
def addD : PyData → PyData → Option PyData
  | .int i, .int j => some (.int (i + j))
  | .str a, .str b => if a.length + b.length ≤ sizeLine then some (.str (a ++ b)) else none
  | .tuple a, .tuple b => if a.length + b.length ≤ sizeLine then some (.tuple (a ++ b)) else none
  | .list a, .list b => if a.length + b.length ≤ sizeLine then some (.list (a ++ b)) else none
  | _, _ => none
def subD : PyData → PyData → Option PyData
  | .int i, .int j => some (.int (i - j))
  | _, _ => none
def mulD : PyData → PyData → Option PyData
  | .int i, .int j => if (Builtin.Int.intBits i : Int) + (Builtin.Int.intBits j : Int) ≤ 134217728 then some (.int (i * j)) else none
  | .str a, .int n => if a.length ≤ 4096 ∧ n ≤ 4096 ∧ -(2 ^ 63 : Int) ≤ n then some (.str (Txt.mul a n)) else none
  | _, _ => none
def modD : PyData → PyData → Option PyData
  | .int i, .int j => if 0 < j then some (.int (i % j)) else none
  | _, _ => none
def fdivD : PyData → PyData → Option PyData
  | .int i, .int j => if 0 < j ∧ j.natAbs.log2 < 9000 then some (.int (i / j)) else none
  | _, _ => none
def powD : PyData → PyData → Option PyData
  | .int i, .int j => if 0 ≤ j ∧ j ≤ 1000000 ∧ i.natAbs < 2 ^ 64 then some (.int (i ^ j.toNat)) else none
  | _, _ => none
def eqD (a b : PyData) : Option PyData := if SeqAt.shaped a = true ∧ SeqAt.shaped b = true then some (.bool (PyData.eqv a b)) else none
def neD (a b : PyData) : Option PyData := if SeqAt.shaped a = true ∧ SeqAt.shaped b = true then some (.bool (!PyData.eqv a b)) else none
def ltD : PyData → PyData → Option PyData
  | .int i, .int j => some (.bool (decide (i < j)))
  | _, _ => none
def leD : PyData → PyData → Option PyData
  | .int i, .int j => some (.bool (decide (i ≤ j)))
  | _, _ => none
def gtD : PyData → PyData → Option PyData
  | .int i, .int j => some (.bool (decide (j < i)))
  | _, _ => none
def geD : PyData → PyData → Option PyData
  | .int i, .int j => some (.bool (decide (j ≤ i)))
  | _, _ => none
/-- is None, is True, is False: only against such a written one -/
def isD : PyData → PyData → Option PyData
  | a, .none => some (.bool (match a with | .none => true | _ => false))
  | .bool a, .bool b => some (.bool (decide (a = b)))
  | _, _ => none
def isNotD : PyData → PyData → Option PyData
  | a, .none => some (.bool (match a with | .none => false | _ => true))
  | .bool a, .bool b => some (.bool (!decide (a = b)))
  | _, _ => none
section
variable {X : Cx} {U : Hp}
theorem od_add : OpD X U (fun x y H Q => (rI0 (fun i j => .int (i + j)) x y H Q ∨ (∃ i j, x = .str i ∧ y = .str j ∧ i.length + j.length ≤ sizeLine ∧ Q (.str (i ++ j)) H)) ∨ (rCatA X.K x y H Q ∨ rCatR X.K x y H Q)) addD := by
  intro A F H σ r m x y a b d Q G ha hb e k
  unfold addD at e
  split at e
  · cases ha; cases hb; cases e
    exact .inl (.inl ⟨_, _, rfl, rfl, k F H _ (Same.refl F) G (.vi _)⟩)
  · split at e
    · rename_i hs
      cases ha; cases hb; cases e
      exact .inl (.inr ⟨_, _, rfl, rfl, hs, k F H _ (Same.refl F) G (.vs _)⟩)
    · cases e
  · split at e
    · rename_i hs
      cases e
      cases ha with
      | vt sa ra =>
        rename_i a1 xs
        cases hb with
        | vt sb rb =>
          rename_i b1 ys
          have l1 := rpa_len ra
          have l2 := rpa_len rb
          refine .inr (.inl ⟨a1, b1, xs, ys, rfl, rfl, seqT_mono G.sub sa, seqT_mono G.sub sb, by omega, fun h0 => ?_, fun h0 h1 => ?_, fun h0 h1 p np => ?_⟩)
          · subst h0
            cases ra
            exact k F H _ (Same.refl F) G (.vt sb rb)
          · subst h1
            cases rb
            refine k F H _ (Same.refl F) G ?_
            rw [List.append_nil]
            exact .vt sa ra
          · have nF := (G.nope np).1
            have sF : Same F (upd F p (.tup (xs ++ ys))) := same_new nF
            exact k _ _ _ sF (G.laid np) (.vt (.inl (.inl upd_same)) (rpa_app (Rpam sF ra) (Rpam sF rb)))
    · cases e
  · split at e
    · rename_i hs
      cases e
      cases ha with
      | vl sa ra =>
        rename_i a1 xs
        cases hb with
        | vl sb rb =>
          rename_i b1 ys
          have l1 := rpa_len ra
          have l2 := rpa_len rb
          refine .inr (.inr ⟨a1, b1, xs, ys, rfl, rfl, sqL_mono G.sub sa, sqL_mono G.sub sb, by omega, fun p np => ?_⟩)
          have nF := (G.nope np).1
          have sF : Same F (upd F p (.lst (xs ++ ys))) := same_new nF
          exact k _ _ _ sF (G.laid np) (.vl (.inl (.inl upd_same)) (rpa_app (Rpam sF ra) (Rpam sF rb)))
    · cases e
  · cases e
theorem od_sub : OpD X U (rI0 fun i j => .int (i - j)) subD := by
  intro A F H σ r m x y a b d Q G ha hb e k
  unfold subD at e
  split at e
  · cases ha; cases hb; cases e
    exact ⟨_, _, rfl, rfl, k F H _ (Same.refl F) G (.vi _)⟩
  · cases e
theorem od_mul : OpD X U (fun x y H Q => rI CMulX (fun i j => .int (i * j)) x y H Q ∨ ∃ z n, x = .str z ∧ y = .int n ∧ MulOk z n ∧ Q (.str (Txt.mul z n)) H) mulD := by
  intro A F H σ r m x y a b d Q G ha hb e k
  unfold mulD at e
  split at e
  · split at e
    · rename_i hc
      cases ha; cases hb; cases e
      exact .inl ⟨_, _, rfl, rfl, hc, k F H _ (Same.refl F) G (.vi _)⟩
    · cases e
  · split at e
    · rename_i hc
      cases ha; cases hb; cases e
      exact .inr ⟨_, _, rfl, rfl, PyProof.Rows.mulOk_of 4096 4096 hc.1 hc.2.1 hc.2.2 (by decide) (by decide), k F H _ (Same.refl F) G (.vs _)⟩
    · cases e
  · cases e
theorem od_mod : OpD X U (rI (fun _ j => 0 < j) fun i j => .int (i % j)) modD := by
  intro A F H σ r m x y a b d Q G ha hb e k
  unfold modD at e
  split at e
  · split at e
    · rename_i hc
      cases ha; cases hb; cases e
      exact ⟨_, _, rfl, rfl, hc, k F H _ (Same.refl F) G (.vi _)⟩
    · cases e
  · cases e
theorem od_fdiv : OpD X U (rI CDivW fun i j => .int (i / j)) fdivD := by
  intro A F H σ r m x y a b d Q G ha hb e k
  unfold fdivD at e
  split at e
  · split at e
    · rename_i hc
      cases ha; cases hb; cases e
      exact ⟨_, _, rfl, rfl, hc, k F H _ (Same.refl F) G (.vi _)⟩
    · cases e
  · cases e
theorem od_pow : OpD X U (rI CPow fun i j => .int (i ^ j.toNat)) powD := by
  intro A F H σ r m x y a b d Q G ha hb e k
  unfold powD at e
  split at e
  · split at e
    · rename_i hc
      cases ha; cases hb; cases e
      exact ⟨_, _, rfl, rfl, hc, k F H _ (Same.refl F) G (.vi _)⟩
    · cases e
  · cases e
theorem od_lt : OpD X U (rI0 fun i j => .bl (decide (i < j))) ltD := by
  intro A F H σ r m x y a b d Q G ha hb e k
  unfold ltD at e
  split at e
  · cases ha; cases hb; cases e
    exact ⟨_, _, rfl, rfl, k F H _ (Same.refl F) G (.vb _)⟩
  · cases e
theorem od_le : OpD X U (rI0 fun i j => .bl (decide (i ≤ j))) leD := by
  intro A F H σ r m x y a b d Q G ha hb e k
  unfold leD at e
  split at e
  · cases ha; cases hb; cases e
    exact ⟨_, _, rfl, rfl, k F H _ (Same.refl F) G (.vb _)⟩
  · cases e
theorem od_gt : OpD X U (rI0 fun i j => .bl (decide (j < i))) gtD := by
  intro A F H σ r m x y a b d Q G ha hb e k
  unfold gtD at e
  split at e
  · cases ha; cases hb; cases e
    exact ⟨_, _, rfl, rfl, k F H _ (Same.refl F) G (.vb _)⟩
  · cases e
theorem od_ge : OpD X U (rI0 fun i j => .bl (decide (j ≤ i))) geD := by
  intro A F H σ r m x y a b d Q G ha hb e k
  unfold geD at e
  split at e
  · cases ha; cases hb; cases e
    exact ⟨_, _, rfl, rfl, k F H _ (Same.refl F) G (.vb _)⟩
  · cases e
theorem od_eq : OpD X U (rEqD X.K) eqD := by
  intro A F H σ r m x y a b d Q G ha hb e k
  unfold eqD at e
  split at e
  · rename_i hs
    cases e
    exact ⟨a, b, rp_dp G.sub _ _ (SeqAt.canLay_of_shaped hs.1) ha, rp_dp G.sub _ _ (SeqAt.canLay_of_shaped hs.2) hb, hs.1, hs.2, k F H _ (Same.refl F) G (.vb _)⟩
  · cases e
theorem od_ne : OpD X U (rNeD X.K) neD := by
  intro A F H σ r m x y a b d Q G ha hb e k
  unfold neD at e
  split at e
  · rename_i hs
    cases e
    exact ⟨a, b, rp_dp G.sub _ _ (SeqAt.canLay_of_shaped hs.1) ha, rp_dp G.sub _ _ (SeqAt.canLay_of_shaped hs.2) hb, hs.1, hs.2, k F H _ (Same.refl F) G (.vb _)⟩
  · cases e
theorem od_is : OpD X U (fun x y H Q => (y = .non ∧ Q (.bl (decide (x = .non))) H) ∨ rIsB x y H Q) isD := by
  intro A F H σ r m x y a b d Q G ha hb e k
  unfold isD at e
  split at e
  · cases hb
    refine .inl ⟨rfl, ?_⟩
    have w := k F H (V.bl (decide (x = V.non))) (Same.refl F) G
    cases e
    cases ha <;> exact w (.vb _)
  · cases ha; cases hb; cases e
    exact .inr ⟨_, _, rfl, rfl, k F H _ (Same.refl F) G (.vb _)⟩
  · cases e
theorem od_isNot : OpD X U (fun x y H Q => (y = .non ∧ Q (.bl (!decide (x = .non))) H) ∨ rNotB x y H Q) isNotD := by
  intro A F H σ r m x y a b d Q G ha hb e k
  unfold isNotD at e
  split at e
  · cases hb
    refine .inl ⟨rfl, ?_⟩
    have w := k F H (V.bl (!decide (x = V.non))) (Same.refl F) G
    cases e
    cases ha <;> exact w (.vb _)
  · cases ha; cases hb; cases e
    exact .inr ⟨_, _, rfl, rfl, k F H _ (Same.refl F) G (.vb _)⟩
  · cases e

variable {pos : Pos} {a b : Expr} {f g : Ev}
theorem qe_add (ha : PE X a (tE X.K U f)) (hb : PE X b (tE X.K U g)) : PE X (.BinOp a .Add b pos) (tE X.K U (eBin addD f g)) := qe_op (opr_or (opr_or op_add op_add_str) (opr_or op_catA op_catR)) od_add ha hb
theorem qe_sub (ha : PE X a (tE X.K U f)) (hb : PE X b (tE X.K U g)) : PE X (.BinOp a .Sub b pos) (tE X.K U (eBin subD f g)) := qe_op op_sub od_sub ha hb
theorem qe_mul (ha : PE X a (tE X.K U f)) (hb : PE X b (tE X.K U g)) : PE X (.BinOp a .Mult b pos) (tE X.K U (eBin mulD f g)) := qe_op (opr_or op_mulX op_mulS) od_mul ha hb
theorem qe_mod (ha : PE X a (tE X.K U f)) (hb : PE X b (tE X.K U g)) : PE X (.BinOp a .Mod b pos) (tE X.K U (eBin modD f g)) := qe_op op_mod od_mod ha hb
theorem qe_fdiv (ha : PE X a (tE X.K U f)) (hb : PE X b (tE X.K U g)) : PE X (.BinOp a .FloorDiv b pos) (tE X.K U (eBin fdivD f g)) := qe_op op_fdivW od_fdiv ha hb
theorem qe_pow (ha : PE X a (tE X.K U f)) (hb : PE X b (tE X.K U g)) : PE X (.BinOp a .Pow b pos) (tE X.K U (eBin powD f g)) := qe_op op_pow od_pow ha hb
theorem qe_lt (ha : PE X a (tE X.K U f)) (hb : PE X b (tE X.K U g)) (hm : behindInMarks .Lt b = false := by rfl) : PE X (.Compare a [.Lt] [b] pos) (tE X.K U (eBin ltD f g)) := qe_cmp op_lt od_lt ha hb hm
theorem qe_le (ha : PE X a (tE X.K U f)) (hb : PE X b (tE X.K U g)) (hm : behindInMarks .LtE b = false := by rfl) : PE X (.Compare a [.LtE] [b] pos) (tE X.K U (eBin leD f g)) := qe_cmp op_le od_le ha hb hm
theorem qe_gt (ha : PE X a (tE X.K U f)) (hb : PE X b (tE X.K U g)) (hm : behindInMarks .Gt b = false := by rfl) : PE X (.Compare a [.Gt] [b] pos) (tE X.K U (eBin gtD f g)) := qe_cmp op_gt od_gt ha hb hm
theorem qe_ge (ha : PE X a (tE X.K U f)) (hb : PE X b (tE X.K U g)) (hm : behindInMarks .GtE b = false := by rfl) : PE X (.Compare a [.GtE] [b] pos) (tE X.K U (eBin geD f g)) := qe_cmp op_ge od_ge ha hb hm
theorem qe_eq (hu : X.A.units + 64 < cLine) (ha : PE X a (tE X.K U f)) (hb : PE X b (tE X.K U g)) (hm : behindInMarks .Eq b = false := by rfl) : PE X (.Compare a [.Eq] [b] pos) (tE X.K U (eBin eqD f g)) := qe_cmp (op_eqD hu) od_eq ha hb hm
theorem qe_ne (hu : X.A.units + 64 < cLine) (ha : PE X a (tE X.K U f)) (hb : PE X b (tE X.K U g)) (hm : behindInMarks .NotEq b = false := by rfl) : PE X (.Compare a [.NotEq] [b] pos) (tE X.K U (eBin neD f g)) := qe_cmp (op_neD hu) od_ne ha hb hm
theorem qe_is (ha : PE X a (tE X.K U f)) (hb : PE X b (tE X.K U g)) (hm : behindInMarks .Is b = false := by rfl) : PE X (.Compare a [.Is] [b] pos) (tE X.K U (eBin isD f g)) := qe_cmp (opr_or op_isN op_isBl) od_is ha hb hm
theorem qe_isNot (ha : PE X a (tE X.K U f)) (hb : PE X b (tE X.K U g)) (hm : behindInMarks .IsNot b = false := by rfl) : PE X (.Compare a [.IsNot] [b] pos) (tE X.K U (eBin isNotD f g)) := qe_cmp (opr_or op_notN op_notBl) od_isNot ha hb hm
end
end TL

end
/-! TS3 -/
section
set_option maxHeartbeats 4000000
namespace TL
open PySem L2 PyProof.Rows
section
variable {X : Cx} {U : Hp}
/-! ## a list times a whole number -/
abbrev repL {α : Type} (n : Int) (xs : List α) : List α := (List.replicate n.toNat xs).flatten
theorem repL_len {α : Type} {n : Int} {xs : List α} (hx : xs.length ≤ 64) (hn : n ≤ 64) : (repL n xs).length ≤ 4096 := by
  have e : (repL n xs).length = n.toNat * xs.length := by simp [repL]
  rw [e]
  exact Nat.le_trans (Nat.mul_le_mul (show n.toNat ≤ 64 by omega) hx) (by decide)
def rMulR (K : PySem.W.Frag) : R2 := fun x y H Q => ∃ l xs n, x = .ref l ∧ y = .int n ∧ SqL K H l xs ∧ xs.length ≤ 64 ∧ 0 ≤ n ∧ n ≤ 64 ∧ ∀ p, H p = none → Q (.ref p) (upd H p (.lst (repL n xs)))
theorem op_mulL : OpR X (binaryOp .Mult) (rMulR X.K) := by
  intro pins s σ H x y v u Q I rx ry ⟨l, xs, k, e1, e2, hl, hz, k0, k1, q⟩
  subst e1 e2
  cases (show v = Value.ref l from rx)
  obtain ⟨t, rfl⟩ := ry
  obtain ⟨i1, r1, p1, z1⟩ := I.list hl
  have w1 := r1.length
  obtain ⟨⟨cls, dd, data, sl⟩, ho, hc, n, hd⟩ := p1.isList
  simp only at hc hd
  subst hc hd
  have sz : i1.toArray.size * k.toNat ≤ 4096 := by
    rw [List.size_toArray]
    exact Nat.le_trans (Nat.mul_le_mul (show i1.length ≤ 64 by omega) (show k.toNat ≤ 64 by omega)) (by decide)
  refine wpAny_binaryOp_repeat_ref (T := "list") (U := "int") (by decide) ⟨_, ho, rfl⟩ (fun s' => typeIs_int s' k t) noFill_list_mul F.fills_int_mul F.slot_int_rmul repeat_list F.slot_int_index.lookup
    (call_meets F.slot_int_rmul (typeIs_int s k t) F.entry_int_rmul (F.args_int_rmul_2 _ _) (lm_int_rmul_list_any k t l i1.toArray n dd sl)
      ⟨ho, rfl, ⟨_, ho, rfl⟩, call_meets F.slot_list_mul ⟨_, ho, rfl⟩ F.entry_list_mul (F.args_list_mul_2 _ _)
        (lm_list_mul_any l i1.toArray n dd sl k t (by simp [Builtin.List.listFitsIndex]; omega) (by omega) (by have := Nat.le_trans sz (show 4096 ≤ sizeLine by decide); simp only [Builtin.List.listTooLong, decide_eq_true_eq]; omega))
        ⟨ho, ?_⟩⟩)
  rw [listMul_foldl_if]
  have hf : H s.heap.objs.size = none := I.hok.fresh (Nat.le_refl _)
  refine ⟨.ref s.heap.objs.size, upd H s.heap.objs.size (.lst (repL k xs)), I.laid (t' := s.toks) (fun c w g => Heap.get?_push_of_some _ g) (Nat.le_refl _) ?_, rfl, q _ hf⟩
  have rr : ∀ j : Nat, Vals (List.replicate j xs).flatten (List.replicate j i1).flatten := by
    intro j
    induction j with
    | zero => exact .nil
    | succ j ih => rw [List.replicate_succ, List.replicate_succ]; exact r1.append ih
  exact ⟨Nat.le_trans (repL_len hz k1) (by decide), _, 0, rr _, Heap.get?_push_size _ rfl⟩
def mulN : PyData → PyData → Option PyData
  | .list ds, .int n => if ds.length ≤ 64 ∧ 0 ≤ n ∧ n ≤ 64 then some (.list (repL n ds)) else none
  | _, _ => none
theorem od_mulL : OpD X U (rMulR X.K) mulN := by
  intro A F H σ r m x y a b d Q G ha hb e k
  unfold mulN at e
  split at e
  · split at e
    · rename_i ds0 n0 hc
      cases e
      cases hb
      cases ha with
      | vl sa ra =>
        rename_i a1 xs
        have l1 := rpa_len ra
        refine ⟨a1, xs, _, rfl, rfl, sqL_mono G.sub sa, by omega, hc.2.1, hc.2.2, fun p np => ?_⟩
        have nF := (G.nope np).1
        have sF : Same F (upd F p (.lst (repL n0 xs))) := same_new nF
        refine k _ _ _ sF (G.laid np) (.vl (.inl (.inl upd_same)) ?_)
        have ra' := Rpam sF ra
        have rr : ∀ j : Nat, RpAll X.K (upd F p (.lst (repL n0 xs))) (List.replicate j xs).flatten (List.replicate j ds0).flatten := by
          intro j
          induction j with
          | zero => exact .nil
          | succ j ih => rw [List.replicate_succ, List.replicate_succ]; exact rpa_app ra' ih
        exact rr _
    · cases e
  · cases e
theorem qe_mulL {a b : Expr} {f g : Ev} {pos : Pos} (ha : PE X a (tE X.K U f)) (hb : PE X b (tE X.K U g)) : PE X (.BinOp a .Mult b pos) (tE X.K U (eBin mulN f g)) := qe_op op_mulL od_mulL ha hb
end
end TL

end
/-! TL3 -/
section
set_option maxHeartbeats 4000000
namespace TL
open PySem L2

/-! ## argument lists, displays -/
abbrev Eas := Rs → Ms → Option (List PyData × Ms)
def tAs (K : PySem.W.Frag) (U : Hp) (f : Eas) : TA := fun σ H Q => ∃ (A : List Addr) (F : Hp) (r : Rs) (m : Ms) (ds : List PyData) (m' : Ms), Good K U A F H σ r m ∧ f r m = some (ds, m') ∧
  ∀ (F' H' : Hp) (vs : List V), Same F F' → Good K U A F' H' σ r m' → RpAll K F' vs ds → Q vs H'
def eNil : Eas := fun _ m => some ([], m)
def eCons (f : Ev) (g : Eas) : Eas := fun r m => (f r m).bind fun p => (g r p.2).map fun q => (p.1 :: q.1, q.2)
def eTup (f : Eas) : Ev := fun r m => (f r m).bind fun p => if p.1.length ≤ sizeLine then some (.tuple p.1, p.2) else none
def eLst (f : Eas) : Ev := fun r m => (f r m).bind fun p => if p.1.length ≤ sizeLine then some (.list p.1, p.2) else none
theorem cons_some {f : Ev} {g : Eas} {r : Rs} {m m' : Ms} {ds : List PyData} (e : eCons f g r m = some (ds, m')) : ∃ d1 m1 es, f r m = some (d1, m1) ∧ g r m1 = some (es, m') ∧ ds = d1 :: es := by
  unfold eCons at e
  cases e1 : f r m with
  | none => rw [e1] at e; cases e
  | some p =>
    obtain ⟨d1, m1⟩ := p
    cases e2 : g r m1 with
    | none => simp [e1, e2] at e
    | some q =>
      obtain ⟨es, m2⟩ := q
      simp [e1, e2] at e
      obtain ⟨z1, z2⟩ := e
      subst z1 z2
      exact ⟨d1, m1, es, rfl, e2, rfl⟩
/-- the value of f, turned by h -/
def eMap {α : Type} (f : Rs → Ms → Option (α × Ms)) (h : α → Option PyData) : Ev := fun r m => (f r m).bind fun p => (h p.1).map fun d => (d, p.2)
theorem map_some {α : Type} {f : Rs → Ms → Option (α × Ms)} {h : α → Option PyData} {r : Rs} {m m' : Ms} {d : PyData} (e : eMap f h r m = some (d, m')) : ∃ a, f r m = some (a, m') ∧ h a = some d := by
  unfold eMap at e
  cases e1 : f r m with
  | none => rw [e1] at e; cases e
  | some p =>
    obtain ⟨d1, m1⟩ := p
    simp [e1] at e
    obtain ⟨d2, e2, z1, z2⟩ := e
    subst z1 z2
    exact ⟨d1, rfl, e2⟩
section
variable {X : Cx} {U : Hp} {pos : Pos}
theorem qa_nil : PA X [] (tAs X.K U eNil) := pa_weak pa_nil fun σ H Q ⟨A, F, r, m, ds, m', G, e, k⟩ => by
  cases e
  exact k F H [] (Same.refl F) G .nil
theorem qa_cons {e : Expr} {es : List Expr} {f : Ev} {g : Eas} (ha : PE X e (tE X.K U f)) (hr : PA X es (tAs X.K U g)) (hs : starEach (e :: es) X.env = (false, eval e X.env) :: starEach es X.env := by rfl) :
    PA X (e :: es) (tAs X.K U (eCons f g)) := pa_weak (pa_cons ha hr hs) fun σ H Q ⟨A, F, r, m, ds, m', G, e, k⟩ => by
  obtain ⟨d1, m1, es, e1, e2, z⟩ := cons_some e
  subst z
  exact ⟨A, F, r, m, d1, m1, G, e1, fun F1 H1 x s1 G1 h1 => ⟨A, F1, r, m1, es, m', G1, e2, fun F2 H2 xs s2 G2 h2 => k F2 H2 _ (s1.trans s2) G2 (.cons (Rpm s2 h1) h2)⟩⟩
theorem qe_tup {es : List Expr} {f : Eas} {x1} (h : PA X es (tAs X.K U f)) : PE X (.Tuple es x1 pos) (tE X.K U (eTup f)) := pe_weak (pe_tup h) fun σ H Q ⟨A, F, r, m, d, m', G, e, k⟩ => by
  unfold eTup at e
  cases e1 : f r m with
  | none => rw [e1] at e; cases e
  | some p =>
    obtain ⟨ds, m1⟩ := p
    simp [e1] at e
    obtain ⟨hz, z1, z2⟩ := e
    subst z1 z2
    refine ⟨A, F, r, m, ds, m1, G, e1, fun F1 H1 xs s1 G1 h1 => ⟨by rw [rpa_len h1]; exact hz, fun p np => ?_⟩⟩
    have sF : Same F1 (upd F1 p (.tup xs)) := same_new (G1.nope np).1
    exact k _ _ _ (s1.trans sF) (G1.laid np) (.vt (.inl (.inl upd_same)) (Rpam sF h1))
theorem qe_lst {es : List Expr} {f : Eas} (h : PA X es (tAs X.K U f)) : PE X (.List es pos) (tE X.K U (eLst f)) := pe_weak (pe_lst h) fun σ H Q ⟨A, F, r, m, d, m', G, e, k⟩ => by
  unfold eLst at e
  cases e1 : f r m with
  | none => rw [e1] at e; cases e
  | some p =>
    obtain ⟨ds, m1⟩ := p
    simp [e1] at e
    obtain ⟨hz, z1, z2⟩ := e
    subst z1 z2
    refine ⟨A, F, r, m, ds, m1, G, e1, fun F1 H1 xs s1 G1 h1 => ⟨by rw [rpa_len h1]; exact hz, fun p np => ?_⟩⟩
    have sF : Same F1 (upd F1 p (.lst xs)) := same_new (G1.nope np).1
    exact k _ _ _ (s1.trans sF) (G1.laid np) (.vl (.inl (.inl upd_same)) (Rpam sF h1))

/-! ## tests -/
end
abbrev Et := Rs → Ms → Option (Bool × Ms)
def tT (K : PySem.W.Frag) (U : Hp) (f : Et) : TT := fun σ H Q => ∃ (A : List Addr) (F : Hp) (r : Rs) (m : Ms) (b : Bool) (m' : Ms), Good K U A F H σ r m ∧ f r m = some (b, m') ∧
  ∀ (F' H' : Hp), Same F F' → Good K U A F' H' σ r m' → Q b H'
def truD : PyData → Option Bool
  | .none => some false
  | .bool b => some b
  | .int i => some (i != 0)
  | .str y => if y.length ≤ sizeLine then some ((y.length : Int) != 0) else none
  | .list ds => some (!ds.isEmpty)
  | .tuple ds => some (!ds.isEmpty)
  | .dict _ => none
def blD : PyData → Option Bool
  | .bool b => some b
  | _ => none
def eT (c : PyData → Option Bool) (f : Ev) : Et := fun r m => (f r m).bind fun p => (c p.1).map fun b => (b, p.2)
def eNot (f : Et) : Et := fun r m => (f r m).map fun p => (!p.1, p.2)
def eAnd (f g : Et) : Et := fun r m => (f r m).bind fun p => if p.1 = true then g r p.2 else some (false, p.2)
def eOr (f g : Et) : Et := fun r m => (f r m).bind fun p => if p.1 = true then some (true, p.2) else g r p.2
def eB (f : Et) : Ev := fun r m => (f r m).map fun p => (.bool p.1, p.2)
def eIf (c : Et) (f g : Ev) : Ev := fun r m => (c r m).bind fun p => if p.1 = true then f r p.2 else g r p.2
def eAndV (f g : Ev) : Ev := fun r m => (f r m).bind fun p => match p.1 with | .bool true => g r p.2 | .bool false => some (.bool false, p.2) | _ => none
def eOrV (f g : Ev) : Ev := fun r m => (f r m).bind fun p => match p.1 with | .bool true => some (.bool true, p.2) | .bool false => g r p.2 | _ => none
def notD : PyData → Option PyData
  | .bool b => some (.bool (!b))
  | _ => none
theorem et_some {c : PyData → Option Bool} {f : Ev} {r : Rs} {m m' : Ms} {b : Bool} (e : eT c f r m = some (b, m')) : ∃ d, f r m = some (d, m') ∧ c d = some b := by
  unfold eT at e
  cases e1 : f r m with
  | none => rw [e1] at e; cases e
  | some p =>
    obtain ⟨d1, m1⟩ := p
    rw [e1] at e
    cases e2 : c d1 with
    | none => simp [e2] at e
    | some b2 =>
      simp [e2] at e
      obtain ⟨z1, z2⟩ := e
      subst z1 z2
      exact ⟨d1, rfl, e2⟩
theorem rpa_empty {K : PySem.W.Frag} {F : Hp} {vs : List V} {ds : List PyData} (h : RpAll K F vs ds) : ds.isEmpty = vs.isEmpty := by cases h <;> rfl
theorem tru_of {K : PySem.W.Frag} {F H : Hp} {x : V} {d : PyData} {b : Bool} (s : Same F H) (h : Rp K F x d) (e : truD d = some b) : TruV K x H b := by
  cases h with
  | vn => cases e; rfl
  | vb => cases e; rfl
  | vi => cases e; rfl
  | vs y =>
    simp only [truD] at e
    split at e
    · rename_i hz
      cases e
      exact ⟨hz, rfl⟩
    · cases e
  | vl hs ha => cases e; exact .inl ⟨_, sqL_mono s hs, by rw [rpa_empty ha]⟩
  | vt hs ha => cases e; exact .inr (.inl ⟨_, seqT_mono s hs, by rw [rpa_empty ha]⟩)
  | vd hs ha => cases e
  | vx hs ha hk => cases e
theorem bl_of {K : PySem.W.Frag} {F : Hp} {x : V} {d : PyData} {b : Bool} (h : Rp K F x d) (e : blD d = some b) : x = .bl b := by
  cases h <;> first | (cases e; rfl) | cases e
section
variable {X : Cx} {U : Hp} {pos : Pos} {a b c : Expr} {f g : Ev} {p q : Et} {rest : List Expr}
theorem qt_tru (ha : PE X a (tE X.K U f)) (he : ∀ whole, isTrue a X.env whole = (do let v ← whole; standAt a.pos; holding [v] (truthy v)) := by intro _; rfl) : PT X a (tT X.K U (eT truD f)) :=
  pt_weak (pt_truth ha he) fun σ H Q ⟨A, F, r, m, bb, m', G, e, k⟩ => by
    obtain ⟨d, e1, e2⟩ := et_some e
    exact ⟨A, F, r, m, d, m', G, e1, fun F1 H1 x s1 G1 h1 => ⟨bb, tru_of G1.sub h1 e2, k F1 H1 s1 G1⟩⟩
/-- a comparison as a test -/
theorem qt_cmp {op : CmpOp} {rd : R2} {od : PyData → PyData → Option PyData} (hr : OpR X (compareOp op) rd) (ho : OpD X U rd od) (ha : PE X a (tE X.K U f)) (hb : PE X b (tE X.K U g)) (hm : behindInMarks op b = false) :
    PT X (.Compare a [op] [b] pos) (tT X.K U (eT blD (eBin od f g))) := pt_weak (pt_cmpR hr ha hb hm) fun σ H Q ⟨A, F, r, m, bb, m', G, e, k⟩ => by
  obtain ⟨d, e1, e2⟩ := et_some e
  exact op2 ho ⟨A, F, r, m, d, m', G, e1, fun F1 H1 x s1 G1 h1 => ⟨bb, bl_of h1 e2, k F1 H1 s1 G1⟩⟩
theorem qt_not (ha : PT X a (tT X.K U p)) : PT X (.UnaryOp .Not a pos) (tT X.K U (eNot p)) := pt_weak (pt_not ha) fun σ H Q ⟨A, F, r, m, bb, m', G, e, k⟩ => by
  unfold eNot at e
  cases e1 : p r m with
  | none => rw [e1] at e; cases e
  | some z =>
    rw [e1] at e
    cases e
    exact ⟨A, F, r, m, z.1, z.2, G, e1, fun F1 H1 s1 G1 => k F1 H1 s1 G1⟩
theorem and_some (p q : Et) {r : Rs} {m m' : Ms} {bb : Bool} (e : eAnd p q r m = some (bb, m')) : (∃ m1, p r m = some (true, m1) ∧ q r m1 = some (bb, m')) ∨ (p r m = some (false, m') ∧ bb = false) := by
  unfold eAnd at e
  cases e1 : p r m with
  | none => rw [e1] at e; cases e
  | some z =>
    obtain ⟨b1, m1⟩ := z
    rw [e1] at e
    cases b1 with
    | true => exact .inl ⟨m1, rfl, e⟩
    | false => cases e; exact .inr ⟨rfl, rfl⟩
theorem or_some (p q : Et) {r : Rs} {m m' : Ms} {bb : Bool} (e : eOr p q r m = some (bb, m')) : (∃ m1, p r m = some (false, m1) ∧ q r m1 = some (bb, m')) ∨ (p r m = some (true, m') ∧ bb = true) := by
  unfold eOr at e
  cases e1 : p r m with
  | none => rw [e1] at e; cases e
  | some z =>
    obtain ⟨b1, m1⟩ := z
    rw [e1] at e
    cases b1 with
    | false => exact .inl ⟨m1, rfl, e⟩
    | true => cases e; exact .inr ⟨rfl, rfl⟩
theorem qw_and1 (ha : PT X a (tT X.K U p)) : PW X (.BoolOp .And [a] pos) (tT X.K U p) := pw_and1 ha
theorem qw_or1 (ha : PT X a (tT X.K U p)) : PW X (.BoolOp .Or [a] pos) (tT X.K U p) := pw_or1 ha
theorem pw_weak {e : Expr} {t t' : TT} (h : PW X e t) (w : ∀ σ H Q, t' σ H Q → t σ H Q) : PW X e t' := ⟨fun wh pins s σ H Q I q => h.run wh pins s σ H Q I (w σ H Q q)⟩
theorem qw_and (ha : PT X a (tT X.K U p)) (hb : PW X (.BoolOp .And (b :: rest) pos) (tT X.K U q)) : PW X (.BoolOp .And (a :: b :: rest) pos) (tT X.K U (eAnd p q)) := pw_weak (pw_and ha hb) fun σ H Q ⟨A, F, r, m, bb, m', G, e, k⟩ => by
  rcases and_some p q e with ⟨m1, e1, e2⟩ | ⟨e1, z⟩
  · refine ⟨A, F, r, m, true, m1, G, e1, fun F1 H1 s1 G1 => ?_⟩
    refine iteT ?_
    exact ⟨A, F1, r, m1, bb, m', G1, e2, fun F2 H2 s2 G2 => k F2 H2 (s1.trans s2) G2⟩
  · subst z
    refine ⟨A, F, r, m, false, m', G, e1, fun F1 H1 s1 G1 => ?_⟩
    refine iteF ?_
    exact k F1 H1 s1 G1
theorem qw_or (ha : PT X a (tT X.K U p)) (hb : PW X (.BoolOp .Or (b :: rest) pos) (tT X.K U q)) : PW X (.BoolOp .Or (a :: b :: rest) pos) (tT X.K U (eOr p q)) := pw_weak (pw_or ha hb) fun σ H Q ⟨A, F, r, m, bb, m', G, e, k⟩ => by
  rcases or_some p q e with ⟨m1, e1, e2⟩ | ⟨e1, z⟩
  · refine ⟨A, F, r, m, false, m1, G, e1, fun F1 H1 s1 G1 => ?_⟩
    refine iteF ?_
    exact ⟨A, F1, r, m1, bb, m', G1, e2, fun F2 H2 s2 G2 => k F2 H2 (s1.trans s2) G2⟩
  · subst z
    refine ⟨A, F, r, m, true, m', G, e1, fun F1 H1 s1 G1 => ?_⟩
    refine iteT ?_
    exact k F1 H1 s1 G1
theorem qe_one {op} (h : PE X a (tE X.K U f)) : PE X (.BoolOp op [a] pos) (tE X.K U f) := pe_one h
theorem qe_and (ha : PE X a (tE X.K U f)) (hb : PE X (.BoolOp .And (b :: rest) pos) (tE X.K U g)) : PE X (.BoolOp .And (a :: b :: rest) pos) (tE X.K U (eAndV f g)) := pe_weak (pe_and ha hb) fun σ H Q ⟨A, F, r, m, d, m', G, e, k⟩ => by
  unfold eAndV at e
  cases e1 : f r m with
  | none => rw [e1] at e; cases e
  | some z =>
    obtain ⟨d1, m1⟩ := z
    rw [e1] at e
    refine ⟨A, F, r, m, d1, m1, G, e1, fun F1 H1 x s1 G1 h1 => ?_⟩
    cases h1 with
    | vb bb =>
      refine ⟨bb, rfl, ?_⟩
      cases bb with
      | true =>
        refine iteT ?_
        exact ⟨A, F1, r, m1, d, m', G1, e, fun F2 H2 v s2 G2 h2 => k F2 H2 v (s1.trans s2) G2 h2⟩
      | false =>
        refine iteF ?_
        cases e
        exact k F1 H1 _ s1 G1 (.vb false)
    | _ => cases e
theorem qe_or (ha : PE X a (tE X.K U f)) (hb : PE X (.BoolOp .Or (b :: rest) pos) (tE X.K U g)) : PE X (.BoolOp .Or (a :: b :: rest) pos) (tE X.K U (eOrV f g)) := pe_weak (pe_or ha hb) fun σ H Q ⟨A, F, r, m, d, m', G, e, k⟩ => by
  unfold eOrV at e
  cases e1 : f r m with
  | none => rw [e1] at e; cases e
  | some z =>
    obtain ⟨d1, m1⟩ := z
    rw [e1] at e
    refine ⟨A, F, r, m, d1, m1, G, e1, fun F1 H1 x s1 G1 h1 => ?_⟩
    cases h1 with
    | vb bb =>
      refine ⟨bb, rfl, ?_⟩
      cases bb with
      | false =>
        refine iteF ?_
        exact ⟨A, F1, r, m1, d, m', G1, e, fun F2 H2 v s2 G2 h2 => k F2 H2 v (s1.trans s2) G2 h2⟩
      | true =>
        refine iteT ?_
        cases e
        exact k F1 H1 _ s1 G1 (.vb true)
    | _ => cases e
theorem qe_not (ha : PE X a (tE X.K U f)) : PE X (.UnaryOp .Not a pos) (tE X.K U (eMap f notD)) := pe_weak (pe_not ha) fun σ H Q ⟨A, F, r, m, d, m', G, e, k⟩ => by
  obtain ⟨d1, e1, e2⟩ := map_some e
  refine ⟨A, F, r, m, d1, m', G, e1, fun F1 H1 x s1 G1 h1 => ?_⟩
  cases h1 with
  | vb bb => cases e2; exact ⟨bb, rfl, k F1 H1 _ s1 G1 (.vb _)⟩
  | _ => cases e2
theorem qe_if (hc : PT X c (tT X.K U p)) (ha : PE X a (tE X.K U f)) (hb : PE X b (tE X.K U g)) : PE X (.IfExp c a b pos) (tE X.K U (eIf p f g)) := pe_weak (pe_ifExp hc ha hb) fun σ H Q ⟨A, F, r, m, d, m', G, e, k⟩ => by
  unfold eIf at e
  cases e1 : p r m with
  | none => rw [e1] at e; cases e
  | some z =>
    obtain ⟨b1, m1⟩ := z
    rw [e1] at e
    refine ⟨A, F, r, m, b1, m1, G, e1, fun F1 H1 s1 G1 => ?_⟩
    cases b1 with
    | true =>
      refine iteT ?_
      exact ⟨A, F1, r, m1, d, m', G1, e, fun F2 H2 v s2 G2 h2 => k F2 H2 v (s1.trans s2) G2 h2⟩
    | false =>
      refine iteF ?_
      exact ⟨A, F1, r, m1, d, m', G1, e, fun F2 H2 v s2 G2 h2 => k F2 H2 v (s1.trans s2) G2 h2⟩
/-- -e -/
def negD : PyData → Option PyData
  | .int i => some (.int (-i))
  | _ => none
theorem qe_neg (ha : PE X a (tE X.K U f)) : PE X (.UnaryOp .USub a pos) (tE X.K U (eMap f negD)) := pe_weak (pe_un un_neg ha) fun σ H Q ⟨A, F, r, m, d, m', G, e, k⟩ => by
  obtain ⟨d1, e1, e2⟩ := map_some e
  refine ⟨A, F, r, m, d1, m', G, e1, fun F1 H1 x s1 G1 h1 => ?_⟩
  cases h1 with
  | vi i => cases e2; exact ⟨i, rfl, k F1 H1 _ s1 G1 (.vi _)⟩
  | _ => cases e2
end
end TL

end
/-! TL4 -/
section
set_option maxHeartbeats 4000000
namespace TL
open PySem L2

/-! ## in, not in -/
def flatD : PyData → Bool
  | .none => true
  | .bool _ => true
  | .int _ => true
  | .str _ => true
  | _ => false
def inB : PyData → PyData → Option Bool
  | .str x, .str y => match x.cps.toList with
    | [c] => some (decide (c ∈ y.cps.toList))
    | _ => some (!(Builtin.Str.occurrences y x 0 y.length 1).isEmpty)
  | d, .list ds => if SeqAt.shaped d = true ∧ SeqAt.shaped (.list ds) = true then some (ds.any fun z => PyData.eqv z d) else none
  | d, .tuple ds => if flatD d = true ∧ ds.all flatD = true then some (ds.any fun z => PyData.eqv z d) else none
  | _, _ => none
def inD (a b : PyData) : Option PyData := (inB a b).map .bool
def notInD (a b : PyData) : Option PyData := (inB a b).map fun c => .bool (!c)
theorem flat_of {K : PySem.W.Frag} {F : Hp} {x : V} {d : PyData} (h : Rp K F x d) (e : flatD d = true) : flatV x = true := by
  cases h <;> first | rfl | cases e
theorem flats_of {K : PySem.W.Frag} {F : Hp} : ∀ {vs : List V} {ds : List PyData}, RpAll K F vs ds → ds.all flatD = true → vs.all flatV = true
  | _, _, .nil, _ => rfl
  | _, _, .cons h t, e => by
    simp only [List.all_cons, Bool.and_eq_true] at e ⊢
    exact ⟨flat_of h e.1, flats_of t e.2⟩
theorem eq_flat {K : PySem.W.Frag} {F F' : Hp} {x y : V} {d e : PyData} (h : Rp K F x d) (h' : Rp K F' y e) (fd : flatD d = true) (fe : flatD e = true) : eqV y x = PyData.eqv e d := by
  cases h <;> cases h' <;> first | rfl | cases fd | cases fe
theorem in_flat {K : PySem.W.Frag} {F F' : Hp} {x : V} {d : PyData} (h : Rp K F x d) (fd : flatD d = true) : ∀ {vs : List V} {ds : List PyData}, RpAll K F' vs ds → ds.all flatD = true → inV x vs = ds.any fun z => PyData.eqv z d
  | _, _, .nil, _ => rfl
  | v :: vs, z :: ds, .cons h' t, e => by
    simp only [List.all_cons, Bool.and_eq_true] at e
    have r := in_flat h fd t e.2
    unfold inV at r ⊢
    rw [List.any_cons, List.any_cons, r, eq_flat h h' fd e.1]
theorem one_cps {x : Str} {c : Nat} (h : x.cps.toList = [c]) : x = ⟨#[c]⟩ := by
  obtain ⟨a⟩ := x
  have : a = #[c] := by
    apply Array.ext'
    simpa using h
  rw [this]
abbrev rInAll (K : PySem.W.Frag) (neg : Bool) : R2 := fun x y H Q =>
  (((∃ (c : Nat) (z : Str), x = .str ⟨#[c]⟩ ∧ y = .str z ∧ Q (.bl (if neg then !decide (c ∈ z.cps.toList) else decide (c ∈ z.cps.toList))) H) ∨
    (∃ i j, x = .str i ∧ y = .str j ∧ Q (.bl (if neg then !(!(Builtin.Str.occurrences j i 0 j.length 1).isEmpty) else !(Builtin.Str.occurrences j i 0 j.length 1).isEmpty)) H)) ∨
   (∃ d ds, Dp K H x d ∧ Dp K H y (.list ds) ∧ SeqAt.shaped d = true ∧ SeqAt.shaped (.list ds) = true ∧ Q (.bl (if neg then !ds.any fun z => PyData.eqv z d else ds.any fun z => PyData.eqv z d)) H)) ∨ rIn K neg x y H Q
section
variable {X : Cx} {U : Hp}
theorem or_inAll (hu : X.A.units + 65 < cLine) : OpR X (compareOp .In) (rInAll X.K false) := opr_or (opr_or (opr_or op_in_sign op_in_str) (op_inD hu)) op_in_seq
theorem or_notInAll (hu : X.A.units + 65 < cLine) : OpR X (compareOp .NotIn) (rInAll X.K true) := opr_or (opr_or (opr_or op_notIn_sign op_notin_str) (op_notInD hu)) op_notIn_seq
theorem od_inAll (neg : Bool) : OpD X U (rInAll X.K neg) (fun a b => (inB a b).map fun c => .bool (if neg then !c else c)) := by
  intro A F H σ r m x y a b d Q G ha hb e k
  simp only at e
  cases e0 : inB a b with
  | none => rw [e0] at e; cases e
  | some c0 =>
    rw [e0] at e
    cases e
    unfold inB at e0
    split at e0
    · rename_i x y
      cases ha; cases hb
      split at e0
      · rename_i c hc
        cases e0
        rw [one_cps hc]
        exact .inl (.inl (.inl ⟨c, _, rfl, rfl, k F H _ (Same.refl F) G (.vb _)⟩))
      · cases e0
        exact .inl (.inl (.inr ⟨_, _, rfl, rfl, k F H _ (Same.refl F) G (.vb _)⟩))
    · split at e0
      · rename_i hs
        cases e0
        exact .inl (.inr ⟨_, _, rp_dp G.sub _ _ (SeqAt.canLay_of_shaped hs.1) ha, rp_dp G.sub _ _ (SeqAt.canLay_of_shaped hs.2) hb, hs.1, hs.2, k F H _ (Same.refl F) G (.vb _)⟩)
      · cases e0
    · split at e0
      · rename_i hs
        cases e0
        cases hb with
        | vt sb rb =>
          refine .inr ⟨_, _, rfl, .inr (seqT_mono G.sub sb), flat_of ha hs.1, flats_of rb hs.2, ?_⟩
          rw [in_flat ha hs.1 rb hs.2]
          exact k F H _ (Same.refl F) G (.vb _)
      · cases e0
    · cases e0
theorem od_in : OpD X U (rInAll X.K false) inD := by
  intro A F H σ r m x y a b d Q G ha hb e k
  exact od_inAll (X := X) (U := U) false A F H σ r m x y a b d Q G ha hb (by unfold inD at e; simpa using e) k
theorem od_notIn : OpD X U (rInAll X.K true) notInD := by
  intro A F H σ r m x y a b d Q G ha hb e k
  exact od_inAll (X := X) (U := U) true A F H σ r m x y a b d Q G ha hb (by unfold notInD at e; simpa using e) k
variable {pos : Pos} {a b : Expr} {f g : Ev}
theorem qe_in (hu : X.A.units + 65 < cLine) (ha : PE X a (tE X.K U f)) (hb : PE X b (tE X.K U g)) (hm : behindInMarks .In b = false := by rfl) : PE X (.Compare a [.In] [b] pos) (tE X.K U (eBin inD f g)) := qe_cmp (or_inAll hu) od_in ha hb hm
theorem qe_notIn (hu : X.A.units + 65 < cLine) (ha : PE X a (tE X.K U f)) (hb : PE X b (tE X.K U g)) (hm : behindInMarks .NotIn b = false := by rfl) : PE X (.Compare a [.NotIn] [b] pos) (tE X.K U (eBin notInD f g)) := qe_cmp (or_notInAll hu) od_notIn ha hb hm
end

/-! ## items, slices -/
def ixD : PyData → PyData → Option PyData
  | .list ds, .int i => atI ds i
  | .tuple ds, .int i => atI ds i
  | .str z, .int i => if z.length ≤ sizeLine then (atI z.cps.toList i).map fun c => .str ⟨#[c]⟩ else none
  | _, _ => none
theorem atI_rpa {K : PySem.W.Frag} {F : Hp} {vs : List V} {ds : List PyData} {i : Int} {d : PyData} (h : RpAll K F vs ds) (e : atI ds i = some d) : ∃ v, atI vs i = some v ∧ Rp K F v d := by
  unfold atI at e ⊢
  rw [rpa_len h]
  cases ej : ixN ds.length i with
  | none => rw [ej] at e; cases e
  | some j =>
    rw [ej] at e
    exact rpa_get h e
section
variable {X : Cx} {U : Hp}
theorem od_ix : OpD X U (rIx X.K) ixD := by
  intro A F H σ r m x y a b d Q G ha hb e k
  unfold ixD at e
  split at e
  · cases hb
    cases ha with
    | vl sa ra =>
      obtain ⟨v, e1, h1⟩ := atI_rpa ra e
      exact .inl ⟨_, _, _, v, rfl, rfl, (sqL_mono G.sub sa), e1, k F H v (Same.refl F) G h1⟩
  · cases hb
    cases ha with
    | vt sa ra =>
      obtain ⟨v, e1, h1⟩ := atI_rpa ra e
      exact .inr (.inl ⟨_, _, _, v, rfl, rfl, seqT_mono G.sub sa, e1, k F H v (Same.refl F) G h1⟩)
  · rename_i z i
    cases ha; cases hb
    split at e
    · rename_i hz
      cases e1 : atI z.cps.toList i with
      | none => rw [e1] at e; cases e
      | some c =>
        rw [e1] at e
        cases e
        exact .inr (.inr ⟨_, _, c, rfl, rfl, hz, e1, k F H _ (Same.refl F) G (.vs _)⟩)
    · cases e
  · cases e
variable {pos : Pos} {a b : Expr} {f g : Ev}
theorem qe_ix (ha : PE X a (tE X.K U f)) (hb : PE X b (tE X.K U g)) (hs : PlainIx b := by intro _ _; rfl) : PE X (.Subscript a b pos) (tE X.K U (eBin ixD f g)) := pe_weak (pe_ix ix_seq ha hb hs) fun _ _ _ h => op2 od_ix h
end
/-- x[i], x the name of a cell -/
def eIxO (i : Nat) (g : Ev) : Ev := fun r m => match r[i]? with
  | some (.ow k) => (g r m).bind fun p => (cellAt p.2 k).bind fun c => match c, p.1 with
    | .list ds, .int j => (atI ds j).map fun d => (d, p.2)
    | _, _ => none
  | _ => none
section
variable {X : Cx} {U : Hp} {pos : Pos} {b : Expr} {g : Ev}
theorem qe_ixO (i : Nat) {x : Str} {p1 : Pos} (h : PE X (.Name x p1) (tVar i)) (hb : PE X b (tE X.K U g)) (hs : PlainIx b := by intro _ _; rfl) : PE X (.Subscript (.Name x p1) b pos) (tE X.K U (eIxO i g)) := pe_weak (pe_ix ix_seq h hb hs) fun σ H Q ⟨A, F, r, m, d, m', G, e, k⟩ => by
  unfold eIxO at e
  split at e
  · rename_i kk hk
    obtain ⟨a, ha, hv⟩ := G.ow i kk hk
    cases e1 : g r m with
    | none => rw [e1] at e; cases e
    | some z =>
      obtain ⟨d1, m1⟩ := z
      rw [e1] at e
      simp only [Option.bind_some] at e
      refine ⟨_, hv, A, F, r, m, d1, m1, G, e1, fun F1 H1 y s1 G1 h1 => ?_⟩
      cases e2 : cellAt m1 kk with
      | none => rw [e2] at e; cases e
      | some c =>
        rw [e2] at e
        simp only [Option.bind_some] at e
        obtain ⟨_, _, o, hH, hr⟩ := G1.cl kk a c ha e2
        split at e
        · obtain ⟨vs, ho, hr⟩ := hr
          subst ho
          rename_i ds j
          cases h1
          cases e3 : atI ds j with
          | none => rw [e3] at e; cases e
          | some d2 =>
            rw [e3] at e
            cases e
            obtain ⟨v, e4, h4⟩ := atI_rpa hr e3
            exact .inl ⟨a, vs, j, v, rfl, rfl, .inl (.inl hH), e4, k F1 H1 v s1 G1 h4⟩
        · cases e
  · cases e

abbrev Eo := Rs → Ms → Option (Option Int × Ms)
def tO (K : PySem.W.Frag) (U : Hp) (f : Eo) : TO := fun σ H Q => ∃ (A : List Addr) (F : Hp) (r : Rs) (m : Ms) (b : Option Int) (m' : Ms), Good K U A F H σ r m ∧ f r m = some (b, m') ∧
  ∀ (F' H' : Hp), Same F F' → Good K U A F' H' σ r m' → Q b H'
def eNo : Eo := fun _ m => some (none, m)
def intD : PyData → Option (Option Int)
  | .int i => some (some i)
  | _ => none
def ePt (f : Ev) : Eo := fun r m => (f r m).bind fun p => (intD p.1).map fun o => (o, p.2)
theorem po_weak {e : Option Expr} {t t' : TO} (h : PO X e t) (w : ∀ σ H Q, t' σ H Q → t σ H Q) : PO X e t' := ⟨fun pins s σ H Q I q => h.run pins s σ H Q I (w σ H Q q)⟩
theorem qo_none : PO X none (tO X.K U eNo) := po_weak po_none fun σ H Q ⟨A, F, r, m, b, m', G, e, k⟩ => by
  cases e
  exact k F H (Same.refl F) G
theorem qo_some {e : Expr} {f : Ev} (h : PE X e (tE X.K U f)) : PO X (some e) (tO X.K U (ePt f)) := po_weak (po_some h) fun σ H Q ⟨A, F, r, m, b, m', G, e, k⟩ => by
  unfold ePt at e
  cases e1 : f r m with
  | none => rw [e1] at e; cases e
  | some z =>
    obtain ⟨d1, m1⟩ := z
    rw [e1] at e
    simp only [Option.bind_some] at e
    refine ⟨A, F, r, m, d1, m1, G, e1, fun F1 H1 y s1 G1 h1 => ?_⟩
    cases h1 with
    | vi j => cases e; exact ⟨j, rfl, k F1 H1 s1 G1⟩
    | _ => cases e
def cutD (ds : List PyData) (lo hi : Option Int) : List PyData := (ds.drop (HT.sIx ds.length 0 lo)).take (HT.sIx ds.length ds.length hi - HT.sIx ds.length 0 lo)
def slcD : PyData → Option Int → Option Int → Option PyData
  | .list ds, lo, hi => some (.list (cutD ds lo hi))
  | .tuple ds, lo, hi => some (.tuple (cutD ds lo hi))
  | .str z, lo, hi => if z.length ≤ sizeLine then some (.str (cutS z lo hi)) else none
  | _, _, _ => none
def eSl (f : Ev) (lo hi : Eo) : Ev := fun r m => (f r m).bind fun p => (lo r p.2).bind fun q => (hi r q.2).bind fun w => (slcD p.1 q.1 w.1).map fun d => (d, w.2)
theorem rpa_cut {K : PySem.W.Frag} {F : Hp} {vs : List V} {ds : List PyData} (lo hi : Option Int) (h : RpAll K F vs ds) : RpAll K F (cutV vs lo hi) (cutD ds lo hi) := by
  unfold cutV cutD
  rw [rpa_len h]
  exact rpa_take _ (rpa_drop _ h)
theorem qe_slice {e : Expr} {f : Ev} {lo hi : Option Expr} {fl fh : Eo} {p2 : Pos} (he : PE X e (tE X.K U f)) (hl : PO X lo (tO X.K U fl)) (hh : PO X hi (tO X.K U fh)) :
    PE X (.Subscript e (.Slice lo hi none p2) pos) (tE X.K U (eSl f fl fh)) := pe_weak (pe_slice (sl_list.or (sl_tupA.or sl_str)) he hl hh) fun σ H Q ⟨A, F, r, m, d, m', G, e, k⟩ => by
  unfold eSl at e
  cases e1 : f r m with
  | none => rw [e1] at e; cases e
  | some z1 =>
    obtain ⟨d1, m1⟩ := z1
    cases e2 : fl r m1 with
    | none => simp [e1, e2] at e
    | some z2 =>
      obtain ⟨l, m2⟩ := z2
      cases e3 : fh r m2 with
      | none => simp [e1, e2, e3] at e
      | some z3 =>
        obtain ⟨u, m3⟩ := z3
        simp only [e1, e2, e3, Option.bind_some] at e
        cases e4 : slcD d1 l u with
        | none => rw [e4] at e; cases e
        | some d2 =>
          rw [e4] at e
          cases e
          refine ⟨A, F, r, m, d1, m1, G, e1, fun F1 H1 x s1 G1 h1 => ⟨A, F1, r, m1, l, m2, G1, e2, fun F2 H2 s2 G2 => ⟨A, F2, r, m2, u, m', G2, e3, fun F3 H3 s3 G3 => ?_⟩⟩⟩
          have k' := fun (F' H' : Hp) (v : V) (s : Same F3 F') => k F' H' v (((s1.trans s2).trans s3).trans s)
          have h3 := Rpm (s2.trans s3) h1
          unfold slcD at e4
          split at e4
          · cases e4
            cases h3 with
            | vl sa ra =>
              refine .inl ⟨_, _, rfl, (sqL_mono G3.sub sa), fun p np => ?_⟩
              have sF := fun (o : HO) => same_new (o := o) (G3.nope np).1
              exact k' _ _ _ (sF _) (G3.laid np) (.vl (.inl (.inl upd_same)) (Rpam (sF _) (rpa_cut l u ra)))
          · cases e4
            cases h3 with
            | vt sa ra =>
              rename_i a1 xs1
              refine .inr (.inl ⟨_, _, rfl, seqT_mono G3.sub sa, fun hw => ?_, fun hw p np => ?_⟩)
              · refine k' F3 H3 _ (Same.refl F3) G3 (.vt sa ?_)
                have q := rpa_cut l u ra
                have e5 : cutV xs1 l u = xs1 := by
                  unfold cutV
                  rw [hw.1, hw.2, Nat.sub_zero, List.drop_zero, List.take_length]
                rw [e5] at q
                exact q
              · have sF := fun (o : HO) => same_new (o := o) (G3.nope np).1
                exact k' _ _ _ (sF _) (G3.laid np) (.vt (.inl (.inl upd_same)) (Rpam (sF _) (rpa_cut l u ra)))
          · split at e4
            · rename_i hz
              cases e4
              cases h3
              exact .inr (.inr ⟨_, rfl, hz, k' F3 H3 _ (Same.refl F3) G3 (.vs _)⟩)
            · cases e4
          · cases e4
end
end TL

end
/-! TL5 -/
section
set_option maxHeartbeats 4000000
namespace TL
open PySem L2

/-! ## calls of built-ins -/
def CallD (X : Cx) (U : Hp) (rc : List V → Hp → VK → Prop) (op : List PyData → Option PyData) : Prop :=
  ∀ (A : List Addr) (F H : Hp) (σ : St) (r : Rs) (m : Ms) (vs : List V) (ds : List PyData) (d : PyData) (Q : VK), Good X.K U A F H σ r m → RpAll X.K F vs ds → op ds = some d →
    (∀ (F' H' : Hp) (v : V), Same F F' → Good X.K U A F' H' σ r m → Rp X.K F' v d → Q v H') → rc vs H Q
theorem cb2 {X : Cx} {U : Hp} {rc : List V → Hp → VK → Prop} {op : List PyData → Option PyData} {f : Eas} (ho : CallD X U rc op) {σ : St} {H : Hp} {Q : VK} (h : tE X.K U (eMap f op) σ H Q) : tCB rc (tAs X.K U f) σ H Q := by
  obtain ⟨A, F, r, m, d, m', G, e, k⟩ := h
  obtain ⟨ds, e1, e2⟩ := map_some e
  exact ⟨A, F, r, m, ds, m', G, e1, fun F1 H1 vs s1 G1 h1 => ho A F1 H1 σ r m' vs ds d Q G1 h1 e2 fun F2 H2 v s2 G2 h2 => k F2 H2 v (s1.trans s2) G2 h2⟩
section
variable {X : Cx} {U : Hp} {x : Str} {p pos : Pos} {e : Expr} {es : List Expr} {id T : String} {rc : List V → Hp → VK → Prop} {op : List PyData → Option PyData} {f : Eas}
theorem qe_callB (hc : CallR X (.builtin id) rc) (ho : CallD X U rc op) (hg : Gl X x) (hm : X.mg x = none) (hv : bootBuiltins x = some (.builtin id)) (ha : PA X (e :: es) (tAs X.K U f)) (hn : x ≠ "__name__" := by decide) (hdb : (x == ("__debug__" : Str)) = false := by decide)
    (he : starEach (e :: es) X.env = (false, eval e X.env) :: starEach es X.env := by rfl) (hpl : (backTo pos (starEach es X.env)).any (·.1) = false := by rfl) : PE X (.Call (.Name x p) (e :: es) [] pos) (tE X.K U (eMap f op)) :=
  pe_weak (pe_callB hc hg hm hv ha hn hdb he hpl) fun _ _ _ h => cb2 ho h
theorem qe_callTy (hc : CallR X (.type T) rc) (ho : CallD X U rc op) (hg : Gl X x) (hm : X.mg x = none) (hv : bootBuiltins x = some (.type T)) (ha : PA X (e :: es) (tAs X.K U f)) (hn : x ≠ "__name__" := by decide) (hdb : (x == ("__debug__" : Str)) = false := by decide)
    (he : starEach (e :: es) X.env = (false, eval e X.env) :: starEach es X.env := by rfl) (hpl : (backTo pos (starEach es X.env)).any (·.1) = false := by rfl) : PE X (.Call (.Name x p) (e :: es) [] pos) (tE X.K U (eMap f op)) :=
  pe_weak (pe_callTy hc hg hm hv ha hn hdb he hpl) fun _ _ _ h => cb2 ho h
end
def lenD : List PyData → Option PyData
  | [.list ds] => some (.int ds.length)
  | [.tuple ds] => some (.int ds.length)
  | [.str z] => if z.length ≤ sizeLine then some (.int z.length) else none
  | _ => none
def absD : List PyData → Option PyData
  | [.int i] => some (.int (if i < 0 then -i else i))
  | _ => none
def bools : List PyData → Option (List Bool)
  | [] => some []
  | .bool b :: r => (bools r).map (b :: ·)
  | _ => none
def allD : List PyData → Option PyData
  | [.list ds] => (bools ds).map fun bs => .bool (bs.all id)
  | _ => none
def anyD : List PyData → Option PyData
  | [.list ds] => (bools ds).map fun bs => .bool (bs.any id)
  | _ => none
def intD1 : List PyData → Option PyData
  | [.int i] => some (.int i)
  | [.bool k] => some (.int (if k then 1 else 0))
  | _ => none
def strD1 : List PyData → Option PyData
  | [.int i] => if i.natAbs.log2 < 1920 then some (.str (toString i)) else none
  | _ => none
def listD : List PyData → Option PyData
  | [.list ds] => some (.list ds)
  | [.tuple ds] => some (.list ds)
  | _ => none
def tupleD : List PyData → Option PyData
  | [.list ds] => some (.tuple ds)
  | [.tuple ds] => some (.tuple ds)
  | _ => none
def max2D : List PyData → Option PyData
  | [.int i, .int j] => some (.int (if j > i then j else i))
  | _ => none
def min2D : List PyData → Option PyData
  | [.int i, .int j] => some (.int (if j < i then j else i))
  | _ => none
section
variable {X : Cx} {U : Hp}
theorem rpa1 {K : PySem.W.Frag} {F : Hp} {vs : List V} {d : PyData} (h : RpAll K F vs [d]) : ∃ v, vs = [v] ∧ Rp K F v d := by
  cases h with
  | cons h1 h2 => cases h2; exact ⟨_, rfl, h1⟩
theorem rpa2 {K : PySem.W.Frag} {F : Hp} {vs : List V} {d e : PyData} (h : RpAll K F vs [d, e]) : ∃ v w, vs = [v, w] ∧ Rp K F v d ∧ Rp K F w e := by
  cases h with
  | cons h1 h2 => cases h2 with
    | cons h3 h4 => cases h4; exact ⟨_, _, rfl, h1, h3⟩
theorem cd_len : CallD X U (fun xs H Q => ∃ x n, xs = [x] ∧ LenV X.K x H n ∧ Q (.int n) H) lenD := by
  intro A F H σ r m vs ds d Q G ha e k
  unfold lenD at e
  split at e
  · cases e
    obtain ⟨v, rfl, h⟩ := rpa1 ha
    cases h with
    | vl sa ra => exact ⟨_, _, rfl, .inl ⟨_, (sqL_mono G.sub sa), (rpa_len ra).symm⟩, k F H _ (Same.refl F) G (.vi _)⟩
  · cases e
    obtain ⟨v, rfl, h⟩ := rpa1 ha
    cases h with
    | vt sa ra => exact ⟨_, _, rfl, .inr ⟨_, seqT_mono G.sub sa, (rpa_len ra).symm⟩, k F H _ (Same.refl F) G (.vi _)⟩
  · split at e
    · rename_i hz
      cases e
      obtain ⟨v, rfl, h⟩ := rpa1 ha
      cases h
      exact ⟨_, _, rfl, ⟨hz, rfl⟩, k F H _ (Same.refl F) G (.vi _)⟩
    · cases e
  · cases e
theorem cd_abs : CallD X U (fun xs H Q => ∃ i, xs = [.int i] ∧ Q (.int (if i < 0 then -i else i)) H) absD := by
  intro A F H σ r m vs ds d Q G ha e k
  unfold absD at e
  split at e
  · cases e
    obtain ⟨v, rfl, h⟩ := rpa1 ha
    cases h
    exact ⟨_, rfl, k F H _ (Same.refl F) G (.vi _)⟩
  · cases e
theorem bools_of {K : PySem.W.Frag} {F : Hp} : ∀ {vs : List V} {ds : List PyData} {bs : List Bool}, RpAll K F vs ds → bools ds = some bs → vs = bs.map V.bl
  | _, _, _, .nil, e => by cases e; rfl
  | v :: vs, d :: ds, bs, .cons h t, e => by
    cases h with
    | vb b =>
      simp only [bools] at e
      cases e1 : bools ds with
      | none => rw [e1] at e; cases e
      | some cs =>
        rw [e1] at e
        cases e
        rw [bools_of t e1, List.map_cons]
    | _ => cases e
theorem cd_all : CallD X U (rAll X.K) allD := by
  intro A F H σ r m vs ds d Q G ha e k
  unfold allD at e
  split at e
  · rename_i ds
    obtain ⟨v, rfl, h⟩ := rpa1 ha
    cases e1 : bools ds with
    | none => rw [e1] at e; cases e
    | some bs =>
      rw [e1] at e
      cases e
      cases h with
      | vl sa ra =>
        have q := bools_of ra e1
        subst q
        exact ⟨_, bs, rfl, (sqL_mono G.sub sa), k F H _ (Same.refl F) G (.vb _)⟩
  · cases e
theorem cd_any : CallD X U (rAny X.K) anyD := by
  intro A F H σ r m vs ds d Q G ha e k
  unfold anyD at e
  split at e
  · rename_i ds
    obtain ⟨v, rfl, h⟩ := rpa1 ha
    cases e1 : bools ds with
    | none => rw [e1] at e; cases e
    | some bs =>
      rw [e1] at e
      cases e
      cases h with
      | vl sa ra =>
        have q := bools_of ra e1
        subst q
        exact ⟨_, bs, rfl, (sqL_mono G.sub sa), k F H _ (Same.refl F) G (.vb _)⟩
  · cases e
theorem cd_int : CallD X U (fun xs H Q => (∃ i, xs = [.int i] ∧ Q (.int i) H) ∨ ∃ k, xs = [.bl k] ∧ Q (.int (if k then 1 else 0)) H) intD1 := by
  intro A F H σ r m vs ds d Q G ha e k
  unfold intD1 at e
  split at e
  · cases e
    obtain ⟨v, rfl, h⟩ := rpa1 ha
    cases h
    exact .inl ⟨_, rfl, k F H _ (Same.refl F) G (.vi _)⟩
  · cases e
    obtain ⟨v, rfl, h⟩ := rpa1 ha
    cases h
    exact .inr ⟨_, rfl, k F H _ (Same.refl F) G (.vi _)⟩
  · cases e
theorem cd_str : CallD X U (fun xs H Q => ∃ i, xs = [.int i] ∧ i.natAbs.log2 < 1920 ∧ Q (.str (toString i)) H) strD1 := by
  intro A F H σ r m vs ds d Q G ha e k
  unfold strD1 at e
  split at e
  · split at e
    · rename_i hz
      cases e
      obtain ⟨v, rfl, h⟩ := rpa1 ha
      cases h
      exact ⟨_, rfl, hz, k F H _ (Same.refl F) G (.vs _)⟩
    · cases e
  · cases e
theorem cd_list : CallD X U (fun xs H Q => ∃ p ys, xs = [.ref p] ∧ (SqL X.K H p ys ∨ SqT X.K H p ys) ∧ ∀ l, H l = none → Q (.ref l) (upd H l (.lst ys))) listD := by
  intro A F H σ r m vs ds d Q G ha e k
  unfold listD at e
  split at e
  · cases e
    obtain ⟨v, rfl, h⟩ := rpa1 ha
    cases h with
    | vl sa ra =>
      rename_i a1 ys
      refine ⟨_, ys, rfl, .inl ((sqL_mono G.sub sa)), fun l hl => ?_⟩
      have sF : Same F (upd F l (.lst ys)) := same_new (G.nope hl).1
      exact k _ _ _ sF (G.laid hl) (.vl (.inl (.inl upd_same)) (Rpam sF ra))
  · cases e
    obtain ⟨v, rfl, h⟩ := rpa1 ha
    cases h with
    | vt sa ra =>
      rename_i a1 ys
      refine ⟨_, ys, rfl, .inr (seqT_mono G.sub sa), fun l hl => ?_⟩
      have sF : Same F (upd F l (.lst ys)) := same_new (G.nope hl).1
      exact k _ _ _ sF (G.laid hl) (.vl (.inl (.inl upd_same)) (Rpam sF ra))
  · cases e
theorem cd_tuple : CallD X U (fun xs H Q => ∃ p ys, xs = [.ref p] ∧ ((SqL X.K H p ys ∧ ∀ l, H l = none → Q (.ref l) (upd H l (.tup ys))) ∨ (SqT X.K H p ys ∧ Q (.ref p) H))) tupleD := by
  intro A F H σ r m vs ds d Q G ha e k
  unfold tupleD at e
  split at e
  · cases e
    obtain ⟨v, rfl, h⟩ := rpa1 ha
    cases h with
    | vl sa ra =>
      rename_i a1 ys
      refine ⟨_, ys, rfl, .inl ⟨(sqL_mono G.sub sa), fun l hl => ?_⟩⟩
      have sF : Same F (upd F l (.tup ys)) := same_new (G.nope hl).1
      exact k _ _ _ sF (G.laid hl) (.vt (.inl (.inl upd_same)) (Rpam sF ra))
  · cases e
    obtain ⟨v, rfl, h⟩ := rpa1 ha
    cases h with
    | vt sa ra => exact ⟨_, _, rfl, .inr ⟨seqT_mono G.sub sa, k F H _ (Same.refl F) G (.vt sa ra)⟩⟩
  · cases e
theorem cd_max : CallD X U (fun xs H Q => ∃ i j, xs = [.int i, .int j] ∧ Q (.int (if j > i then j else i)) H) max2D := by
  intro A F H σ r m vs ds d Q G ha e k
  unfold max2D at e
  split at e
  · cases e
    obtain ⟨v, w, rfl, h, h'⟩ := rpa2 ha
    cases h; cases h'
    exact ⟨_, _, rfl, k F H _ (Same.refl F) G (.vi _)⟩
  · cases e
theorem cd_min : CallD X U (fun xs H Q => ∃ i j, xs = [.int i, .int j] ∧ Q (.int (if j < i then j else i)) H) min2D := by
  intro A F H σ r m vs ds d Q G ha e k
  unfold min2D at e
  split at e
  · cases e
    obtain ⟨v, w, rfl, h, h'⟩ := rpa2 ha
    cases h; cases h'
    exact ⟨_, _, rfl, k F H _ (Same.refl F) G (.vi _)⟩
  · cases e
end

/-! ## isinstance(x, T), T a built-in type -/
def tyD : PyData → String
  | .none => "NoneType"
  | .bool _ => "bool"
  | .int _ => "int"
  | .str _ => "str"
  | .list _ => "list"
  | .tuple _ => "tuple"
  | .dict _ => "dict"
def isiD (T : String) (d : PyData) : Option PyData := if isSetD d = true then none else (kitB (tyD d) T).map .bool
theorem ty_of {K : PySem.W.Frag} {F H : Hp} {x : V} {d : PyData} (s : Same F H) (h : Rp K F x d) (hS : ¬ isSetD d = true) : TyX K H x (.type (tyD d)) := by
  cases h with
  | vn => exact .base .non
  | vb b => exact .base (.bl b)
  | vi i => exact .base (.int i)
  | vs y => exact .base (.str y)
  | vl sa ra =>
    rcases sqL_mono s sa with (e | ⟨o, e⟩) | ⟨o, its, n, e, c, _⟩
    · exact .base (.lst e)
    · exact .base (.frz e)
    · exact .kList e c
  | vt sa ra =>
    rcases seqT_mono s sa with (e | ⟨o, e⟩) | ⟨o, its, n, e, c, _⟩
    · exact .base (.tup e)
    · exact .fTuple e
    · exact .kTuple e c
  | vd sa ra =>
    rcases rd_mono s sa with e | ⟨o, e⟩
    · exact .base (.dK e)
    · exact .fDict e
  | vx _ _ _ => exact absurd rfl hS
section
variable {X : Cx} {U : Hp} {p p2 pos : Pos} {a : Expr} {f : Ev} {x y : Str} {T : String}
theorem qe_isi (hx : bootBuiltins x = some (.builtin "isinstance")) (hg : Gl X x) (hm : X.mg x = none) (hgT : Gl X y) (hmT : X.mg y = none) (hvT : bootBuiltins y = some (.type T)) (ha : PE X a (tE X.K U f)) (hn : x ≠ "__name__" := by decide) (hdb : (x == ("__debug__" : Str)) = false := by decide)
    (hnT : y ≠ "__name__" := by decide) (hdT : (y == ("__debug__" : Str)) = false := by decide) (he : starEach (a :: [.Name y p2]) X.env = (false, eval a X.env) :: starEach [.Name y p2] X.env := by rfl) (hpl : (backTo pos (starEach [.Name y p2] X.env)).any (·.1) = false := by rfl) :
    PE X (.Call (.Name x p) [a, .Name y p2] [] pos) (tE X.K U (eMap f (isiD T))) := by
  refine pe_weak (pe_callB call_isi hg hm hx (pa_cons ha (pa_cons (pe_bltn (v := .ty T) hgT hmT hvT rfl hnT hdT) pa_nil) he) hn hdb he hpl) fun σ H Q ⟨A, F, r, m, d, m', G, e, k⟩ => ?_
  obtain ⟨d1, e1, e2⟩ := map_some e
  unfold isiD at e2
  split at e2
  · cases e2
  rename_i hS
  cases e3 : kitB (tyD d1) T with
  | none => rw [e3] at e2; cases e2
  | some b =>
    rw [e3] at e2
    cases e2
    exact ⟨A, F, r, m, d1, m', G, e1, fun F1 H1 v s1 G1 h1 => ⟨v, .ty T, .type (tyD d1), .type T, b, rfl, .ty T, ty_of G1.sub h1 hS, kit_ty e3, k F1 H1 _ s1 G1 (.vb b)⟩⟩
end

/-! ## promises of defs: pure ones, ones that change their first argument, a list -/
def spD (K : PySem.W.Frag) (n : Nat) (g : List PyData → Option PyData) : Sp := fun vs H Q _ => ∃ (F : Hp) (ds : List PyData) (d : PyData), Same F H ∧ vs.length = n ∧ RpAll K F vs ds ∧ g ds = some d ∧
  ∀ (F' H' : Hp) (v : V), Same F F' → Same F' H' → (∀ b o, H b = some o → F b = none → H' b = some o ∧ F' b = none) → Rp K F' v d → Q v H'
def spR (K : PySem.W.Frag) (n : Nat) (g : PyData → List PyData → Option (PyData × PyData)) : Sp := fun vs H Q _ => ∃ (F : Hp) (a : Addr) (u : HO) (ws : List V) (cs : PyData) (ds : List PyData) (d cs' : PyData), Same F H ∧ vs = .ref a :: ws ∧ ws.length = n ∧ F a = none ∧ H a = some u ∧
  Stored K F u cs ∧ RpAll K F ws ds ∧ g cs ds = some (d, cs') ∧
  ∀ (F' H' : Hp) (v : V) (u' : HO), Same F F' → Same F' H' → (∀ b o, H b = some o → F b = none → b ≠ a → H' b = some o ∧ F' b = none) → F' a = none → H' a = some u' → Stored K F' u' cs' → Rp K F' v d → Q v H'
section
variable {K : PySem.W.Frag} {U : Hp} {A : List Addr} {F H F' H' : Hp} {σ : St} {r : Rs} {m : Ms}
theorem Good.past (G : Good K U A F H σ r m) (s1 : Same F F') (s2 : Same F' H') (k : ∀ b o, H b = some o → F b = none → H' b = some o ∧ F' b = none) : Good K U A F' H' σ r m := by
  refine ⟨s2, fun b o e => ?_, G.len, fun i d e => ?_, G.ow, G.al, fun j a ds e1 e2 => ?_, G.nd, fun a ha => ?_⟩
  · obtain ⟨h1, h2⟩ := G.fo b o e
    exact k b o h1 h2
  · obtain ⟨v, h1, h2⟩ := G.fz i d e
    exact ⟨v, h1, Rpm s1 h2⟩
  · obtain ⟨h1, h2, vs, h3, h4⟩ := G.cl j a ds e1 e2
    obtain ⟨q1, q2⟩ := k a _ h3 h1
    exact ⟨q2, h2, vs, q1, stored_mono s1 h4⟩
  · obtain ⟨o, h1⟩ := G.he a ha
    cases q : F a with
    | none => exact ⟨o, (k a o h1 q).1⟩
    | some o' => exact ⟨o', s2 a o' (s1 a o' q)⟩
/-- the cell j was changed -/
theorem Good.pastR (G : Good K U A F H σ r m) {j : Nat} {a : Addr} {u' : HO} {cs0 cs' : PyData} (hj : A[j]? = some a) (h0 : cellAt m j = some cs0) (s1 : Same F F') (s2 : Same F' H') (k : ∀ b o, H b = some o → F b = none → b ≠ a → H' b = some o ∧ F' b = none)
    (ha : F' a = none) (hh : H' a = some u') (hr : Stored K F' u' cs') : Good K U A F' H' σ r (m.set j (some cs')) := by
  have hjm : j < m.length := cellAt_lt h0
  have hU : U a = none := (G.cl j a cs0 hj h0).2.1
  refine ⟨s2, fun b o e => ?_, G.len, fun i d e => ?_, G.ow, by rw [List.length_set]; exact G.al, fun i b ds e1 e2 => ?_, G.nd, fun b hb => ?_⟩
  · obtain ⟨h1, h2⟩ := G.fo b o e
    exact k b o h1 h2 fun z => by rw [z, hU] at e; cases e
  · obtain ⟨v, h1, h2⟩ := G.fz i d e
    exact ⟨v, h1, Rpm s1 h2⟩
  · by_cases hi : i = j
    · subst hi
      rw [hj] at e1
      cases e1
      rw [cellAt_self hjm] at e2
      cases e2
      exact ⟨ha, hU, u', hh, hr⟩
    · rw [cellAt_ne hi] at e2
      obtain ⟨h1, h2, vs, h3, h4⟩ := G.cl i b ds e1 e2
      have hb : b ≠ a := fun z => by
        subst z
        have w1 := (List.getElem?_eq_some_iff.mp e1)
        have w2 := (List.getElem?_eq_some_iff.mp hj)
        obtain ⟨l1, q1⟩ := w1
        obtain ⟨l2, q2⟩ := w2
        exact hi ((List.getElem_inj G.nd).mp (q1.trans q2.symm))
      obtain ⟨q1, q2⟩ := k b _ h3 h1 hb
      exact ⟨q2, h2, vs, q1, stored_mono s1 h4⟩
  · by_cases hba : b = a
    · exact ⟨_, by rw [hba]; exact hh⟩
    · obtain ⟨o, h1⟩ := G.he b hb
      cases q : F b with
      | none => exact ⟨o, (k b o h1 q hba).1⟩
      | some o' => exact ⟨o', s2 b o' (s1 b o' q)⟩
end
/-- with just n arguments -/
def arN {α : Type} (n : Nat) (g : List PyData → Option α) (ds : List PyData) : Option α := if ds.length = n then g ds else none
theorem arN_some {α : Type} {n : Nat} {g : List PyData → Option α} {ds : List PyData} {a : α} (e : arN n g ds = some a) : ds.length = n ∧ g ds = some a := by
  unfold arN at e
  split at e
  · rename_i h
    exact ⟨h, e⟩
  · cases e
def eCallR (n : Nat) (i : Nat) (g : PyData → List PyData → Option (PyData × PyData)) (f : Eas) : Ev := fun r m => match r[i]? with
  | some (.ow j) => (f r m).bind fun p => (cellAt p.2 j).bind fun cs => (arN n (g cs) p.1).map fun q => (q.1, p.2.set j (some q.2))
  | _ => none
section
variable {X : Cx} {U : Hp} {x : Str} {p pos : Pos} {e : Expr} {es : List Expr} {f : Eas} {k n : Nat} {fa : Addr} {fd : FuncData} {ps : List Str}
theorem qe_call {g : List PyData → Option PyData} (Fn : FnOk X.prog X.w X.K X.mg X.base CX0 k fa fd ps (spD X.K n g)) (hr : Room k X.A) (hg : Gl X x) (hm : X.mg x = some (.ref fa)) (hk : PySem.W.keepIn X.K (.ref fa) = true) (hb : Binds X.K fd ps [])
    (ha : PA X (e :: es) (tAs X.K U f)) (hdb : (x == ("__debug__" : Str)) = false := by decide)
    (he : starEach (e :: es) X.env = (false, eval e X.env) :: starEach es X.env := by rfl) (hpl : (backTo pos (starEach es X.env)).any (·.1) = false := by rfl) :
    PE X (.Call (.Name x p) (e :: es) [] pos) (tE X.K U (eMap f (arN n g))) := pe_weak (pe_call Fn hr hg hm hk hb .nil pass0 ha hdb he hpl) fun σ H Q ⟨A, F, r, m, d, m', G, e, k⟩ => by
  obtain ⟨ds, e1, e2⟩ := map_some e
  refine ⟨A, F, r, m, ds, m', G, e1, fun F1 H1 vs s1 G1 h1 => ?_⟩
  show spD X.K n g (vs ++ []) H1 Q E0
  rw [List.append_nil]
  obtain ⟨l2, e2⟩ := arN_some e2
  refine ⟨F1, ds, d, G1.sub, (rpa_len h1).trans l2, h1, e2, fun F2 H2 v s2 s3 kk h2 => ?_⟩
  exact k F2 H2 v (s1.trans s2) (G1.past s2 s3 kk) h2
theorem qe_callR {g : PyData → List PyData → Option (PyData × PyData)} (i : Nat) {y : Str} {p1 : Pos} (Fn : FnOk X.prog X.w X.K X.mg X.base CX0 k fa fd ps (spR X.K n g)) (hr : Room k X.A) (hg : Gl X x) (hm : X.mg x = some (.ref fa)) (hk : PySem.W.keepIn X.K (.ref fa) = true) (hb : Binds X.K fd ps [])
    (hv : PE X (.Name y p1) (tVar i)) (ha : PA X es (tAs X.K U f)) (hdb : (x == ("__debug__" : Str)) = false := by decide)
    (he : starEach (.Name y p1 :: es) X.env = (false, eval (.Name y p1) X.env) :: starEach es X.env := by rfl) (hpl : (backTo pos (starEach es X.env)).any (·.1) = false := by rfl) :
    PE X (.Call (.Name x p) (.Name y p1 :: es) [] pos) (tE X.K U (eCallR n i g f)) := pe_weak (pe_call Fn hr hg hm hk hb .nil pass0 (pa_cons hv ha he) hdb he hpl) fun σ H Q ⟨A, F, r, m, d, m', G, e, k⟩ => by
  unfold eCallR at e
  split at e
  · rename_i j hj
    obtain ⟨a, hA, hσ⟩ := G.ow i j hj
    cases e1 : f r m with
    | none => rw [e1] at e; cases e
    | some z =>
      obtain ⟨ds, m1⟩ := z
      rw [e1] at e
      simp only [Option.bind_some] at e
      cases e2 : cellAt m1 j with
      | none => rw [e2] at e; cases e
      | some cs =>
        rw [e2] at e
        simp only [Option.bind_some] at e
        cases e3 : arN n (g cs) ds with
        | none => rw [e3] at e; cases e
        | some q =>
          obtain ⟨d2, cs'⟩ := q
          rw [e3] at e
          cases e
          refine ⟨_, hσ, A, F, r, m, ds, m1, G, e1, fun F1 H1 vs s1 G1 h1 => ?_⟩
          show spR X.K n g ((V.ref a :: vs) ++ []) H1 Q E0
          rw [List.append_nil]
          obtain ⟨l3, e3⟩ := arN_some e3
          obtain ⟨c1, c2, us, c3, c4⟩ := G1.cl j a cs hA e2
          refine ⟨F1, a, us, vs, cs, ds, _, cs', G1.sub, rfl, (rpa_len h1).trans l3, c1, c3, c4, h1, e3, fun F2 H2 v us' s2 s3 kk f2 h2 r2 d2 => ?_⟩
          exact k F2 H2 v (s1.trans s2) (G1.pastR hA e2 s2 s3 kk f2 h2 r2) d2
  · cases e
end
end TL

end
/-! TL6 -/
section
set_option maxHeartbeats 4000000
namespace TL
open PySem L2

/-! ## statements -/
inductive Out where
  | nx (r : Rs) (m : Ms) | rt (d : PyData) (m : Ms) | rn (ds : PyData) (m : Ms) | bk (r : Rs) (m : Ms) | ct (r : Rs) (m : Ms)
abbrev Es := Rs → Ms → Option Out
/-- what a return leaves of the first n0 cells -/
structure Fin (K : PySem.W.Frag) (U : Hp) (n0 : Nat) (A : List Addr) (F H : Hp) (m : Ms) : Prop where
  sub : Same F H
  fo : ∀ b o, U b = some o → H b = some o ∧ F b = none
  cl : ∀ (k : Nat) (a : Addr) (ds : PyData), k < n0 → A[k]? = some a → cellAt m k = some ds → F a = none ∧ ∃ o, H a = some o ∧ Stored K F o ds
def Post (K : PySem.W.Frag) (U : Hp) (n0 : Nat) (A : List Addr) (F : Hp) (D : Ends) : Out → Prop
  | .nx r m => ∀ (A' : List Addr) (F' H' : Hp) (σ' : St), A <+: A' → Same F F' → Good K U A' F' H' σ' r m → D.nx σ' H'
  | .rt d m => ∀ (A' : List Addr) (F' H' : Hp) (v : V), A <+: A' → Same F F' → Fin K U n0 A' F' H' m → Rp K F' v d → D.rt v H'
  | .rn ds m => ∀ (A' : List Addr) (F' H' : Hp) (a : Addr) (u : HO), A <+: A' → Same F F' → Fin K U n0 A' F' H' m → F' a = none → U a = none → (∀ k, k < n0 → A'[k]? ≠ some a) → H' a = some u → Stored K F' u ds → D.rt (.ref a) H'
  | .bk r m => ∀ (A' : List Addr) (F' H' : Hp) (σ' : St), A <+: A' → Same F F' → Good K U A' F' H' σ' r m → D.bk σ' H'
  | .ct r m => ∀ (A' : List Addr) (F' H' : Hp) (σ' : St), A <+: A' → Same F F' → Good K U A' F' H' σ' r m → D.ct σ' H'
def tS (K : PySem.W.Frag) (U : Hp) (n0 : Nat) (f : Es) : TS := fun D σ H => ∃ (A : List Addr) (F : Hp) (r : Rs) (m : Ms) (o : Out), Good K U A F H σ r m ∧ n0 ≤ A.length ∧ f r m = some o ∧ Post K U n0 A F D o
section
variable {K : PySem.W.Frag} {U : Hp} {n0 : Nat} {A A1 : List Addr} {F F1 H : Hp} {D : Ends} {σ : St} {r : Rs} {m : Ms}
theorem Good.fin (G : Good K U A F H σ r m) (h : n0 ≤ A.length) : Fin K U n0 A F H m := ⟨G.sub, G.fo, fun k a ds _ ha hm => by
  obtain ⟨h1, _, vs, h3, h4⟩ := G.cl k a ds ha hm
  exact ⟨h1, vs, h3, h4⟩⟩
theorem Post.later (hA : A <+: A1) (hF : Same F F1) : ∀ {o : Out}, Post K U n0 A F D o → Post K U n0 A1 F1 D o
  | .nx r m, p => fun A' F' H' σ' ha hf G => p A' F' H' σ' (hA.trans ha) (hF.trans hf) G
  | .rt d m, p => fun A' F' H' v ha hf G h => p A' F' H' v (hA.trans ha) (hF.trans hf) G h
  | .rn ds m, p => fun A' F' H' a vs ha hf G h1 h2 h3 h4 h5 => p A' F' H' a vs (hA.trans ha) (hF.trans hf) G h1 h2 h3 h4 h5
  | .bk r m, p => fun A' F' H' σ' ha hf G => p A' F' H' σ' (hA.trans ha) (hF.trans hf) G
  | .ct r m, p => fun A' F' H' σ' ha hf G => p A' F' H' σ' (hA.trans ha) (hF.trans hf) G
theorem len_of (hA : A <+: A1) (h : n0 ≤ A.length) : n0 ≤ A1.length := Nat.le_trans h hA.length_le
/-- a slot gets a value -/
theorem Good.setFz (G : Good K U A F H σ r m) {i : Nat} {v : V} {d : PyData} (h : Rp K F v d) : Good K U A F H (σ.set i (some v)) (r.set i (.fz d)) m := by
  refine ⟨G.sub, G.fo, by rw [List.length_set, List.length_set]; exact G.len, fun j e he => ?_, fun j k he => ?_, G.al, G.cl, G.nd, G.he⟩
  · by_cases hj : i = j
    · subst hj
      by_cases hl : i < r.length
      · rw [List.getElem?_set_self hl] at he
        cases he
        exact ⟨v, List.getElem?_set_self (by rw [← G.len]; exact hl), h⟩
      · rw [List.getElem?_eq_none (by rw [List.length_set]; omega)] at he
        cases he
    · rw [List.getElem?_set_ne hj] at he
      rw [List.getElem?_set_ne hj]
      exact G.fz j e he
  · by_cases hj : i = j
    · subst hj
      by_cases hl : i < r.length
      · rw [List.getElem?_set_self hl] at he
        cases he
      · rw [List.getElem?_eq_none (by rw [List.length_set]; omega)] at he
        cases he
    · rw [List.getElem?_set_ne hj] at he
      rw [List.getElem?_set_ne hj]
      exact G.ow j k he
/-- a slot gets a new cell -/
theorem Good.setOw (G : Good K U A F H σ r m) {i : Nat} {a : Addr} {u : HO} {ds : PyData} (hF : F a = none) (hU : U a = none) (hA : a ∉ A) (hH : H a = some u) (h : Stored K F u ds) :
    Good K U (A ++ [a]) F H (σ.set i (some (.ref a))) (r.set i (.ow m.length)) (m ++ [some ds]) := by
  have at_ : (A ++ [a])[m.length]? = some a := by rw [← G.al]; simp
  have old : ∀ {k : Nat} {b : Addr}, (A ++ [a])[k]? = some b → k ≠ m.length → A[k]? = some b := fun {k b} e hk => by
    by_cases hl : k < A.length
    · rw [List.getElem?_append_left hl] at e
      exact e
    · rw [List.getElem?_append_right (by omega)] at e
      have z := (List.getElem?_eq_some_iff.mp e).1
      rw [List.length_singleton] at z
      have := G.al
      omega
  refine ⟨G.sub, G.fo, by rw [List.length_set, List.length_set]; exact G.len, fun j e he => ?_, fun j k he => ?_, by rw [List.length_append, List.length_append, G.al]; rfl, fun k b es e1 e2 => ?_, ?_, fun b hb => ?_⟩
  · by_cases hj : i = j
    · subst hj
      by_cases hl : i < r.length
      · rw [List.getElem?_set_self hl] at he
        cases he
      · rw [List.getElem?_eq_none (by rw [List.length_set]; omega)] at he
        cases he
    · rw [List.getElem?_set_ne hj] at he
      rw [List.getElem?_set_ne hj]
      exact G.fz j e he
  · by_cases hj : i = j
    · subst hj
      by_cases hl : i < r.length
      · rw [List.getElem?_set_self hl] at he
        cases he
        exact ⟨a, at_, List.getElem?_set_self (by rw [← G.len]; exact hl)⟩
      · rw [List.getElem?_eq_none (by rw [List.length_set]; omega)] at he
        cases he
    · rw [List.getElem?_set_ne hj] at he
      rw [List.getElem?_set_ne hj]
      obtain ⟨b, h1, h2⟩ := G.ow j k he
      exact ⟨b, by rw [List.getElem?_append_left (List.getElem?_eq_some_iff.mp h1).1]; exact h1, h2⟩
  · by_cases hk : k = m.length
    · subst hk
      rw [at_] at e1
      cases e1
      rw [cellAt_new] at e2
      cases e2
      exact ⟨hF, hU, u, hH, h⟩
    · have e1' := old e1 hk
      have hl : k < m.length := by rw [← G.al]; exact (List.getElem?_eq_some_iff.mp e1').1
      rw [cellAt_old hl] at e2
      exact G.cl k b es e1' e2
  · rw [List.nodup_append]
    exact ⟨G.nd, by simp, fun x hx y hy => by
      rw [List.mem_singleton] at hy
      subst hy
      exact fun z => hA (z ▸ hx)⟩
  · rcases List.mem_append.mp hb with q | q
    · exact G.he b q
    · rw [List.mem_singleton] at q
      exact ⟨_, by rw [q]; exact hH⟩
/-- a new list in the heap is no cell -/
theorem Good.notin (G : Good K U A F H σ r m) {p : Addr} (h : H p = none) : p ∉ A := fun hp => by
  obtain ⟨o, e⟩ := G.he p hp
  rw [h] at e
  cases e
/-- an object is laid that is ours alone -/
theorem Good.laidO (G : Good K U A F H σ r m) {p : Addr} {o : HO} (h : H p = none) : Good K U A F (upd H p o) σ r m := by
  obtain ⟨hF, hU⟩ := G.nope h
  refine ⟨fun b u e => ?_, fun b u e => ?_, G.len, G.fz, G.ow, G.al, fun k a ds e1 e2 => ?_, G.nd, fun a ha => ?_⟩
  · have hb : b ≠ p := fun z => by rw [z, hF] at e; cases e
    rw [upd_ne hb]
    exact G.sub b u e
  · have hb : b ≠ p := fun z => by rw [z, hU] at e; cases e
    rw [upd_ne hb]
    exact G.fo b u e
  · obtain ⟨h1, h2, vs, h3, h4⟩ := G.cl k a ds e1 e2
    have ha : a ≠ p := fun z => by rw [z, h] at h3; cases h3
    exact ⟨h1, h2, vs, by rw [upd_ne ha]; exact h3, h4⟩
  · obtain ⟨o', h1⟩ := G.he a ha
    exact ⟨o', by rw [upd_ne (ne_of_none h1 h)]; exact h1⟩
/-- the cell j is changed -/
theorem Good.setCell (G : Good K U A F H σ r m) {j : Nat} {a : Addr} {u' : HO} {ds0 ds' : PyData} (hj : A[j]? = some a) (h0 : cellAt m j = some ds0) (h : Stored K F u' ds') : Good K U A F (upd H a u') σ r (m.set j (some ds')) := by
  obtain ⟨hF, hU, vs, hH, _⟩ := G.cl j a ds0 hj h0
  refine G.pastR hj h0 (Same.refl F) (fun b o e => ?_) (fun b o e n hb => ?_) hF upd_same h
  · have hb : b ≠ a := fun z => by rw [z, hF] at e; cases e
    rw [upd_ne hb]
    exact G.sub b o e
  · exact ⟨by rw [upd_ne hb]; exact e, n⟩
/-- the cell k is frozen: its names hold data -/
def frzR (k : Nat) (d : PyData) (r : Rs) : Rs := r.map fun s => match s with
  | .ow j => if j = k then .fz d else .ow j
  | s => s
theorem Good.freeze (G : Good K U A F H σ r m) {k : Nat} {a : Addr} {ds : PyData} (hj : A[k]? = some a) (h0 : cellAt m k = some ds) :
    ∃ u, Same F (upd F a u) ∧ Good K U A (upd F a u) H σ (frzR k ds r) (m.set k none) ∧ Rp K (upd F a u) (.ref a) ds := by
  obtain ⟨hF, hU, vs, hH, hr⟩ := G.cl k a ds hj h0
  have s : Same F (upd F a vs) := same_new hF
  have hk := cellAt_lt h0
  have hv : Rp K (upd F a vs) (.ref a) ds := stored_rp upd_same (stored_mono s hr)
  refine ⟨vs, s, ⟨fun b o e => ?_, fun b o e => ?_, by unfold frzR; rw [List.length_map]; exact G.len, fun i d e => ?_, fun i j e => ?_, by rw [List.length_set]; exact G.al, fun j b es e1 e2 => ?_, G.nd, G.he⟩, hv⟩
  · by_cases hb : b = a
    · subst hb
      rw [upd_same] at e
      cases e
      exact hH
    · rw [upd_ne hb] at e
      exact G.sub b o e
  · have hb : b ≠ a := fun z => by rw [z, hU] at e; cases e
    rw [upd_ne hb]
    exact G.fo b o e
  · unfold frzR at e
    rw [List.getElem?_map] at e
    cases e1 : r[i]? with
    | none => rw [e1] at e; cases e
    | some sl =>
      rw [e1] at e
      cases sl with
      | un => cases e
      | fz d' =>
        cases e
        obtain ⟨v, h1, h2⟩ := G.fz i _ e1
        exact ⟨v, h1, Rpm s h2⟩
      | ow j =>
        simp only [Option.map_some, Option.some.injEq] at e
        by_cases hjk : j = k
        · rw [if_pos hjk] at e
          cases e
          obtain ⟨b, h1, h2⟩ := G.ow i j e1
          rw [hjk, hj] at h1
          cases h1
          exact ⟨_, h2, hv⟩
        · rw [if_neg hjk] at e
          cases e
  · unfold frzR at e
    rw [List.getElem?_map] at e
    cases e1 : r[i]? with
    | none => rw [e1] at e; cases e
    | some sl =>
      rw [e1] at e
      cases sl with
      | un => cases e
      | fz d' => cases e
      | ow j' =>
        simp only [Option.map_some, Option.some.injEq] at e
        by_cases hjk : j' = k
        · rw [if_pos hjk] at e
          cases e
        · rw [if_neg hjk] at e
          cases e
          exact G.ow i _ e1
  · by_cases hjk : j = k
    · subst hjk
      rw [cellAt_self hk] at e2
      cases e2
    · rw [cellAt_ne hjk] at e2
      obtain ⟨h1, h2, us, h3, h4⟩ := G.cl j b es e1 e2
      have hb : b ≠ a := fun z => by
        subst z
        obtain ⟨l1, q1⟩ := List.getElem?_eq_some_iff.mp e1
        obtain ⟨l2, q2⟩ := List.getElem?_eq_some_iff.mp hj
        exact hjk ((List.getElem_inj G.nd).mp (q1.trans q2.symm))
      exact ⟨by rw [upd_ne hb]; exact h1, h2, us, h3, stored_mono s h4⟩
end
def sNil : Es := fun r m => some (.nx r m)
def sSeq (f g : Es) : Es := fun r m => (f r m).bind fun o => match o with | .nx r1 m1 => g r1 m1 | o => some o
def sSet (i : Nat) (f : Ev) : Es := fun r m => (f r m).map fun p => .nx (r.set i (.fz p.1)) p.2
def sNew (i : Nat) (f : Eas) : Es := fun r m => (f r m).bind fun p => if p.1.length ≤ sizeLine then some (.nx (r.set i (.ow p.2.length)) (p.2 ++ [some (.list p.1)])) else none
def sRet (f : Ev) : Es := fun r m => (f r m).map fun p => .rt p.1 p.2
def sRetN : Es := fun r m => some (.rt .none m)
def sRetL (f : Eas) : Es := fun r m => (f r m).bind fun p => if p.1.length ≤ sizeLine then some (.rn (.list p.1) p.2) else none
def sIf (c : Et) (f g : Es) : Es := fun r m => (c r m).bind fun p => if p.1 = true then f r p.2 else g r p.2
def sDrop (f : Ev) : Es := fun r m => (f r m).map fun p => .nx r p.2
def sBrk : Es := fun r m => some (.bk r m)
def sCont : Es := fun r m => some (.ct r m)
def slO : Option Sl → Option Nat
  | some (.ow k) => some k
  | _ => none
def sApp (i : Nat) (f : Ev) : Es := fun r m => (slO r[i]?).bind fun k => (cellAt m k).bind fun c0 => (f r m).bind fun p => match c0 with
  | .list _ => (cellAt p.2 k).bind fun c => match c with
    | .list ds => if ds.length < sizeLine then some (.nx r (p.2.set k (some (.list (ds ++ [p.1]))))) else none
    | _ => none
  | _ => none
def sPut (i : Nat) (f g : Ev) : Es := fun r m => (slO r[i]?).bind fun k => (f r m).bind fun p => (g r p.2).bind fun q => (cellAt q.2 k).bind fun c => match c, q.1 with
  | .list ds, .int j => (ixN ds.length j).map fun n => .nx r (q.2.set k (some (.list (ds.set n p.1))))
  | _, _ => none
section
variable {X : Cx} {U : Hp} {n0 : Nat} {pos : Pos} {e b : Expr} {es : List Expr} {f g : Ev} {fs : Eas}
theorem qs_nil : PSs X [] (tS X.K U n0 sNil) := pss_weak pss_nil fun D σ H ⟨A, F, r, m, o, G, hn, e, p⟩ => by
  cases e
  exact p A F H σ (List.prefix_refl A) (Same.refl F) G
theorem qs_one {st : Stmt} {s : Es} (h : PS X st (tS X.K U n0 s)) : PSs X [st] (tS X.K U n0 s) := pss_one h
theorem qs_cons {st : Stmt} {rest : List Stmt} {s t : Es} (h1 : PS X st (tS X.K U n0 s)) (h2 : PSs X rest (tS X.K U n0 t)) : PSs X (st :: rest) (tS X.K U n0 (sSeq s t)) := pss_weak (pss_cons h1 h2) fun D σ H ⟨A, F, r, m, o, G, hn, e, p⟩ => by
  unfold sSeq at e
  cases e1 : s r m with
  | none => rw [e1] at e; cases e
  | some o1 =>
    rw [e1] at e
    refine ⟨A, F, r, m, o1, G, hn, e1, ?_⟩
    cases o1 with
    | nx r1 m1 => exact fun A' F' H' σ' ha hf G' => ⟨A', F', r1, m1, o, G', len_of ha hn, e, p.later ha hf⟩
    | rt d m1 => cases e; exact p
    | rn ds m1 => cases e; exact p
    | bk r1 m1 => cases e; exact p
    | ct r1 m1 => cases e; exact p
theorem qs_set {i : Nat} {x : Str} {p1 : Pos} (hN : X.N.Nodup) (hi : X.N[i]? = some x) (hx : Loc X.env.scope x) (he : PE X e (tE X.K U f)) (hs : swapsWith e (some (.Name x p1)) pos.line X.env = pure false := by rfl)
    (hf : X.fn x = true ∨ X.env.scope.names.lookup x = some .local := by first | exact .inl rfl | exact .inr rfl | assumption) : PS X (.Assign [.Name x p1] e pos) (tS X.K U n0 (sSet i f)) := ps_weak (ps_set hN hi hx he hs hf) fun D σ H ⟨A, F, r, m, o, G, hn, e, p⟩ => by
  unfold sSet at e
  cases e1 : f r m with
  | none => rw [e1] at e; cases e
  | some q =>
    rw [e1] at e
    cases e
    exact ⟨A, F, r, m, q.1, q.2, G, e1, fun F1 H1 v s1 G1 h1 => p A F1 H1 _ (List.prefix_refl A) s1 (G1.setFz h1)⟩
theorem qs_new {i : Nat} {x : Str} {p1 p2 : Pos} (hN : X.N.Nodup) (hi : X.N[i]? = some x) (hx : Loc X.env.scope x) (he : PA X es (tAs X.K U fs)) (hs : swapsWith (.List es p2) (some (.Name x p1)) pos.line X.env = pure false := by rfl)
    (hf : X.fn x = true ∨ X.env.scope.names.lookup x = some .local := by first | exact .inl rfl | exact .inr rfl | assumption) : PS X (.Assign [.Name x p1] (.List es p2) pos) (tS X.K U n0 (sNew i fs)) := ps_weak (ps_set hN hi hx (pe_lst he) hs hf) fun D σ H ⟨A, F, r, m, o, G, hn, e, p⟩ => by
  unfold sNew at e
  cases e1 : fs r m with
  | none => rw [e1] at e; cases e
  | some q =>
    rw [e1] at e
    simp only [Option.bind_some] at e
    split at e
    · rename_i hz
      cases e
      refine ⟨A, F, r, m, q.1, q.2, G, e1, fun F1 H1 vs s1 G1 h1 => ⟨by rw [rpa_len h1]; exact hz, fun l hl => ?_⟩⟩
      exact p (A ++ [l]) F1 _ _ (List.prefix_append A [l]) s1 ((G1.laidO hl).setOw (G1.nope hl).1 (G1.nope hl).2 (G1.notin hl) upd_same ⟨_, rfl, h1⟩)
    · cases e
theorem qs_ret (he : PE X e (tE X.K U f)) : PS X (.Return (some e) pos) (tS X.K U n0 (sRet f)) := ps_weak (ps_ret he) fun D σ H ⟨A, F, r, m, o, G, hn, e, p⟩ => by
  unfold sRet at e
  cases e1 : f r m with
  | none => rw [e1] at e; cases e
  | some q =>
    rw [e1] at e
    cases e
    exact ⟨A, F, r, m, q.1, q.2, G, e1, fun F1 H1 v s1 G1 h1 => p A F1 H1 v (List.prefix_refl A) s1 (G1.fin hn) h1⟩
theorem qs_retN : PS X (.Return none pos) (tS X.K U n0 sRetN) := ps_weak ps_retN fun D σ H ⟨A, F, r, m, o, G, hn, e, p⟩ => by
  cases e
  exact p A F H .non (List.prefix_refl A) (Same.refl F) (G.fin hn) .vn
theorem qs_retL {p2 : Pos} (he : PA X es (tAs X.K U fs)) : PS X (.Return (some (.List es p2)) pos) (tS X.K U n0 (sRetL fs)) := ps_weak (ps_ret (pe_lst he)) fun D σ H ⟨A, F, r, m, o, G, hn, e, p⟩ => by
  unfold sRetL at e
  cases e1 : fs r m with
  | none => rw [e1] at e; cases e
  | some q =>
    rw [e1] at e
    simp only [Option.bind_some] at e
    split at e
    · rename_i hz
      cases e
      refine ⟨A, F, r, m, q.1, q.2, G, e1, fun F1 H1 vs s1 G1 h1 => ⟨by rw [rpa_len h1]; exact hz, fun l hl => ?_⟩⟩
      exact p A F1 _ l _ (List.prefix_refl A) s1 ((G1.laidO hl).fin hn) (G1.nope hl).1 (G1.nope hl).2 (fun k _ e2 => G1.notin hl (List.mem_of_getElem? e2)) upd_same ⟨_, rfl, h1⟩
    · cases e
theorem qs_if {c : Expr} {p q : List Stmt} {t : Et} {s u : Es} (hc : PT X c (tT X.K U t)) (ha : PSs X p (tS X.K U n0 s)) (hb : PSs X q (tS X.K U n0 u)) : PS X (.If c p q pos) (tS X.K U n0 (sIf t s u)) := ps_weak (ps_if hc ha hb) fun D σ H ⟨A, F, r, m, o, G, hn, e, po⟩ => by
  unfold sIf at e
  cases e1 : t r m with
  | none => rw [e1] at e; cases e
  | some z =>
    obtain ⟨b1, m1⟩ := z
    rw [e1] at e
    refine ⟨A, F, r, m, b1, m1, G, e1, fun F1 H1 s1 G1 => ?_⟩
    have p1 := po.later (List.prefix_refl A) s1
    cases b1 with
    | true => exact iteT ⟨A, F1, r, m1, o, G1, hn, e, p1⟩
    | false => exact iteF ⟨A, F1, r, m1, o, G1, hn, e, p1⟩
theorem qs_expr (he : PE X e (tE X.K U f)) (hs : swapsWith e none pos.line X.env = pure false := by rfl) : PS X (.Expr e pos) (tS X.K U n0 (sDrop f)) := ps_weak (ps_expr he hs) fun D σ H ⟨A, F, r, m, o, G, hn, e, p⟩ => by
  unfold sDrop at e
  cases e1 : f r m with
  | none => rw [e1] at e; cases e
  | some q =>
    rw [e1] at e
    cases e
    exact ⟨A, F, r, m, q.1, q.2, G, e1, fun F1 H1 v s1 G1 h1 => p A F1 H1 σ (List.prefix_refl A) s1 G1⟩
theorem qs_brk : PS X (.Break pos) (tS X.K U n0 sBrk) := ps_weak ps_break fun D σ H ⟨A, F, r, m, o, G, hn, e, p⟩ => by
  cases e
  exact p A F H σ (List.prefix_refl A) (Same.refl F) G
theorem qs_cont : PS X (.Continue pos) (tS X.K U n0 sCont) := ps_weak ps_continue fun D σ H ⟨A, F, r, m, o, G, hn, e, p⟩ => by
  cases e
  exact p A F H σ (List.prefix_refl A) (Same.refl F) G
theorem slO_some {s : Option Sl} {k : Nat} (e : slO s = some k) : s = some (.ow k) := by
  unfold slO at e
  split at e
  · cases e; rfl
  · cases e
theorem qs_app {i : Nat} {x : Str} {p1 apos cpos : Pos} (hv : PE X (.Name x p1) (tVar i)) (he : PE X e (tE X.K U f)) (hbase : attributeBase (.Name x p1) "append" X.env (eval (.Name x p1) X.env) = eval (.Name x p1) X.env := by rfl)
    (hfew : ((backTo cpos (starEach [e] X.env)).all (fun x => !x.1) && (backToKw cpos (keywordEach [] X.env)).all (fun x => x.1.isSome) && decide ([e].length + ([] : List Keyword).length + (if ([] : List Keyword).isEmpty then 0 else 1) < 30)) = true := by rfl)
    (hline : (apos.endLine == cpos.line) = true := by rfl) (hse : starEach [e] X.env = (false, eval e X.env) :: starEach [] X.env := by rfl) (hplain : (backTo cpos (starEach [] X.env)).any (·.1) = false := by rfl)
    (hs : swapsWith (.Call (.Attribute (.Name x p1) "append" apos) [e] [] cpos) none pos.line X.env = pure false := by rfl) :
    PS X (.Expr (.Call (.Attribute (.Name x p1) "append" apos) [e] [] cpos) pos) (tS X.K U n0 (sApp i f)) :=
  ps_weak (ps_expr (pe_bm PySem.F.plainAttrs_list PySem.F.slot_list_append PySem.F.type_list_append mt_append hv (pa_cons he pa_nil hse) hbase hfew hline hse hplain) hs) fun D σ H ⟨A, F, r, m, o, G, hn, e, p⟩ => by
  unfold sApp at e
  cases e0 : slO r[i]? with
  | none => rw [e0] at e; cases e
  | some k =>
    rw [e0] at e
    simp only [Option.bind_some] at e
    obtain ⟨a, hA, hσ⟩ := G.ow i k (slO_some e0)
    cases e9 : cellAt m k with
    | none => rw [e9] at e; cases e
    | some ds9 =>
    rw [e9] at e
    simp only [Option.bind_some] at e
    cases e1 : f r m with
    | none => rw [e1] at e; cases e
    | some q =>
      obtain ⟨d, m1⟩ := q
      rw [e1] at e
      simp only [Option.bind_some] at e
      split at e
      · obtain ⟨_, _, o0, hH0, hs0⟩ := G.cl k a _ hA e9
        obtain ⟨vs0, ho, _⟩ := hs0
        subst ho
        refine ⟨_, hσ, .inl ⟨rfl, _, .inl (.inl hH0)⟩, A, F, r, m, d, m1, G, e1, fun F1 H1 v s1 G1 h1 => ?_⟩
        cases e2 : cellAt m1 k with
        | none => rw [e2] at e; cases e
        | some c =>
          rw [e2] at e
          simp only [Option.bind_some] at e
          split at e
          · split at e
            · rename_i hz
              cases e
              obtain ⟨c1, c2, o3, c3, vs, c5, c4⟩ := G1.cl k a _ hA e2
              subst c5
              refine ⟨a, vs, v, rfl, rfl, c3, by rw [rpa_len c4]; exact hz, ?_⟩
              exact p A F1 _ σ (List.prefix_refl A) s1 (G1.setCell hA e2 ⟨_, rfl, rpa_app c4 (.cons h1 .nil)⟩)
            · cases e
          · cases e
      · cases e
theorem qs_put {i : Nat} {x : Str} {p1 p2 : Pos} (hv : PE X (.Name x p1) (tVar i)) (he : PE X e (tE X.K U f)) (hb : PE X b (tE X.K U g)) (hg : ∀ {to ti : TE}, PE X (.Name x p1) to → PE X b ti → PG X (.Subscript (.Name x p1) b p2) (gSub to ti rSetL))
    (hs : swapsWithSole [.Subscript (.Name x p1) b p2] e pos.line X.env = pure false := by rfl) (hw : swappedStores [.Subscript (.Name x p1) b p2] e X.env = pure none := by rfl) (h1 : (assignEach [.Subscript (.Name x p1) b p2] X.env).map (·.2) = [assign (.Subscript (.Name x p1) b p2) X.env] := by rfl) :
    PS X (.Assign [.Subscript (.Name x p1) b p2] e pos) (tS X.K U n0 (sPut i f g)) := ps_weak (ps_asg he (hg hv hb) hs hw h1) fun D σ H ⟨A, F, r, m, o, G, hn, e, p⟩ => by
  unfold sPut at e
  cases e0 : slO r[i]? with
  | none => rw [e0] at e; cases e
  | some k =>
    rw [e0] at e
    simp only [Option.bind_some] at e
    obtain ⟨a, hA, hσ⟩ := G.ow i k (slO_some e0)
    cases e1 : f r m with
    | none => rw [e1] at e; cases e
    | some q =>
      obtain ⟨d, m1⟩ := q
      rw [e1] at e
      simp only [Option.bind_some] at e
      cases e2 : g r m1 with
      | none => rw [e2] at e; cases e
      | some q2 =>
        obtain ⟨d2, m2⟩ := q2
        rw [e2] at e
        simp only [Option.bind_some] at e
        cases e3 : cellAt m2 k with
        | none => rw [e3] at e; cases e
        | some c =>
          rw [e3] at e
          simp only [Option.bind_some] at e
          refine ⟨A, F, r, m, d, m1, G, e1, fun F1 H1 v s1 G1 h1 => ⟨_, hσ, A, F1, r, m1, d2, m2, G1, e2, fun F2 H2 w s2 G2 h2 => ?_⟩⟩
          split at e
          · rename_i ds j
            obtain ⟨c1, c2, o3, c3, vs, c5, c4⟩ := G2.cl k a _ hA e3
            subst c5
            cases h2
            cases e4 : ixN ds.length j with
            | none => rw [e4] at e; cases e
            | some n =>
              rw [e4] at e
              cases e
              refine ⟨a, vs, j, n, rfl, rfl, c3, by rw [rpa_len c4]; exact e4, ?_⟩
              exact p A F2 _ σ (List.prefix_refl A) (s1.trans s2) (G2.setCell hA e3 ⟨_, rfl, rpa_set (Rpm s2 h1) n c4⟩)
          · cases e
end
end TL

end
/-! TL7 -/
section
set_option maxHeartbeats 4000000
namespace TL
open PySem L2

/-! ## targets -/
abbrev Eh := PyData → Rs → Option Rs
/-- writes the slots of is, no other -/
def tG (K : PySem.W.Frag) (U : Hp) (is : List Nat) (h : Eh) : TG := fun v σ H Q => ∃ (A : List Addr) (F : Hp) (r : Rs) (m : Ms) (d : PyData) (r' : Rs), Good K U A F H σ r m ∧ Rp K F v d ∧ h d r = some r' ∧
  ∀ σ' : St, Good K U A F H σ' r' m → (∀ j, j ∉ is → σ'[j]? = σ[j]?) → σ'.length = σ.length → Q σ' H
abbrev Ehs := List PyData → Rs → Option Rs
def tGs (K : PySem.W.Frag) (U : Hp) (is : List Nat) (h : Ehs) : TGs := fun vs σ H Q => ∃ (A : List Addr) (F : Hp) (r : Rs) (m : Ms) (ds : List PyData) (r' : Rs), Good K U A F H σ r m ∧ RpAll K F vs ds ∧ h ds r = some r' ∧
  ∀ σ' : St, Good K U A F H σ' r' m → (∀ j, j ∉ is → σ'[j]? = σ[j]?) → σ'.length = σ.length → Q σ' H
def hNm (i : Nat) : Eh := fun d r => some (r.set i (.fz d))
def hNil : Ehs := fun ds r => match ds with | [] => some r | _ => none
def hCons (f : Eh) (g : Ehs) : Ehs := fun ds r => match ds with | d :: ds => (f d r).bind fun r1 => g ds r1 | [] => none
def hTup (g : Ehs) (n : Nat) : Eh := fun d r => match d with | .tuple ds => if ds.length = n then g ds r else none | _ => none
theorem pg_weak {X : Cx} {e : Expr} {t t' : TG} (h : PG X e t) (w : ∀ v σ H Q, t' v σ H Q → t v σ H Q) : PG X e t' := ⟨fun pins s σ H v u Q I r q => h.run pins s σ H v u Q I r (w v σ H Q q)⟩
theorem pgs_weak {X : Cx} {e : List Expr} {t t' : TGs} (h : PGs X e t) (w : ∀ v σ H Q, t' v σ H Q → t v σ H Q) : PGs X e t' := ⟨fun pins s σ H vs us Q I r q => h.run pins s σ H vs us Q I r (w vs σ H Q q)⟩
section
variable {X : Cx} {U : Hp} {pos : Pos}
theorem qg_name {i : Nat} {x : Str} (hN : X.N.Nodup) (hi : X.N[i]? = some x) (hx : Loc X.env.scope x) (hf : X.fn x = true ∨ X.env.scope.names.lookup x = some .local := by first | exact .inl rfl | exact .inr rfl | assumption) : PG X (.Name x pos) (tG X.K U [i] (hNm i)) :=
  pg_weak (pg_name hN hi hx hf) fun v σ H Q ⟨A, F, r, m, d, r', G, h, e, k⟩ => by
    cases e
    exact k _ (G.setFz h) (fun j hj => List.getElem?_set_ne (fun z => hj (by rw [z]; exact List.mem_singleton_self j))) List.length_set
theorem qgs_nil : PGs X [] (tGs X.K U [] hNil) := pgs_weak pgs_nil fun vs σ H Q ⟨A, F, r, m, ds, r', G, h, e, k⟩ => by
  unfold hNil at e
  split at e
  · cases e
    cases h
    exact ⟨rfl, k σ G (fun _ _ => rfl) rfl⟩
  · cases e
theorem qgs_cons {e : Expr} {es : List Expr} {is js : List Nat} {f : Eh} {g : Ehs} (h1 : PG X e (tG X.K U is f)) (h2 : PGs X es (tGs X.K U js g))
    (hs : (assignEach (e :: es) X.env).map (·.2) = assign e X.env :: (assignEach es X.env).map (·.2) := by rfl) : PGs X (e :: es) (tGs X.K U (is ++ js) (hCons f g)) := pgs_weak (pgs_cons h1 h2 hs) fun vs σ H Q ⟨A, F, r, m, ds, r', G, h, e, k⟩ => by
  unfold hCons at e
  split at e
  · rename_i d ds
    cases h with
    | cons ha hb =>
      cases e1 : f d r with
      | none => rw [e1] at e; cases e
      | some r1 =>
        rw [e1] at e
        refine ⟨_, _, rfl, A, F, r, m, d, r1, G, ha, e1, fun σ1 G1 k1 l1 => ⟨A, F, r1, m, ds, r', G1, hb, e, fun σ2 G2 k2 l2 => k σ2 G2 (fun j hj => ?_) (l2.trans l1)⟩⟩
        rw [List.mem_append, not_or] at hj
        exact (k2 j hj.2).trans (k1 j hj.1)
  · cases e
theorem qg_tup {es : List Expr} {kk : Nat} {is : List Nat} {g : Ehs} {n : Nat} (hc : X.calm = true) (h : PGs X es (tGs X.K U is g)) (hn : (assignEach es X.env).length = n := by rfl) (hst : (assignEach es X.env).findIdx? (·.1) = none := by rfl) :
    PG X (.Tuple es kk pos) (tG X.K U is (hTup g n)) := pg_weak (pg_tup hc h hn hst) fun v σ H Q ⟨A, F, r, m, d, r', G, h, e, k⟩ => by
  unfold hTup at e
  split at e
  · split at e
    · rename_i hz
      cases h with
      | vt sa ra => exact ⟨_, _, rfl, seqT_mono G.sub sa, (rpa_len ra).trans hz, A, F, r, m, _, r', G, ra, e, k⟩
    · cases e
  · cases e
def sAsg (f : Ev) (h : Eh) : Es := fun r m => (f r m).bind fun p => (h p.1 r).map fun r' => .nx r' p.2
theorem qs_asg {n0 : Nat} {tg e : Expr} {f : Ev} {is : List Nat} {h : Eh} (he : PE X e (tE X.K U f)) (hg : PG X tg (tG X.K U is h)) (hs : swapsWithSole [tg] e pos.line X.env = pure false := by rfl) (hw : swappedStores [tg] e X.env = pure none := by rfl)
    (h1 : (assignEach [tg] X.env).map (·.2) = [assign tg X.env] := by rfl) : PS X (.Assign [tg] e pos) (tS X.K U n0 (sAsg f h)) := ps_weak (ps_asg he hg hs hw h1) fun D σ H ⟨A, F, r, m, o, G, hn, e, p⟩ => by
  unfold sAsg at e
  cases e1 : f r m with
  | none => rw [e1] at e; cases e
  | some q =>
    rw [e1] at e
    simp only [Option.bind_some] at e
    cases e2 : h q.1 r with
    | none => rw [e2] at e; cases e
    | some r' =>
      rw [e2] at e
      cases e
      exact ⟨A, F, r, m, q.1, q.2, G, e1, fun F1 H1 v s1 G1 h1 => ⟨A, F1, r, q.2, q.1, r', G1, h1, e2, fun σ' G' _ _ => p A F1 H1 σ' (List.prefix_refl A) s1 G'⟩⟩
end

/-! ## what is walked -/
structure Wk (K : PySem.W.Frag) (Z : Hp) (J : It) (F : Hp) (ds : List PyData) : Prop where
  go : ∀ (U : Hp) (A : List Addr) (σ : St) (r : Rs) (m : Ms) (F1 H1 : Hp) (i : Nat) (d : PyData), Same Z U → Same F F1 → Good K U A F1 H1 σ r m → ds[i]? = some d →
    J.go i H1 ∧ ∀ x H2, J.yld i H1 x H2 → ∃ F2, Same F1 F2 ∧ Good K U A F2 H2 σ r m ∧ Rp K F2 x d
  stop : ∀ (F1 H1 : Hp), Same Z H1 → Same F F1 → Same F1 H1 → J.stop ds.length H1
def tIt (K : PySem.W.Frag) (U : Hp) (f : Eas) : TI := fun σ H R => ∃ (A : List Addr) (F : Hp) (r : Rs) (m : Ms) (ds : List PyData) (m' : Ms), Good K U A F H σ r m ∧ f r m = some (ds, m') ∧
  ∀ (F' H' : Hp) (J : It), Same F F' → Good K U A F' H' σ r m' → Wk K U J F' ds → R J H'
theorem wk_list {K : PySem.W.Frag} {Z F : Hp} {a : Addr} {xs : List V} {ds : List PyData} (hs : SqL K F a xs) (hr : RpAll K F xs ds) : Wk K Z (Itl K a) F ds where
  go := fun U A σ r m F1 H1 i d _ s1 G1 e => by
    obtain ⟨v, h1, h2⟩ := rpa_get hr e
    have hq : SqL K H1 a xs := (sqL_mono (s1.trans G1.sub) hs)
    refine ⟨⟨xs, v, hq, h1⟩, fun x H2 hy => ?_⟩
    obtain ⟨e2, hy⟩ := hy
    subst e2
    have := hy xs hq
    rw [h1] at this
    cases this
    exact ⟨F1, Same.refl F1, G1, Rpm s1 h2⟩
  stop := fun F1 H1 _ s1 s2 => ⟨xs, (sqL_mono (s1.trans s2) hs), by rw [rpa_len hr]; exact Nat.le_refl _⟩
theorem wk_tup {K : PySem.W.Frag} {Z F : Hp} {a : Addr} {xs : List V} {ds : List PyData} (hs : SqT K F a xs) (hr : RpAll K F xs ds) : Wk K Z (Itt K a) F ds where
  go := fun U A σ r m F1 H1 i d _ s1 G1 e => by
    obtain ⟨v, h1, h2⟩ := rpa_get hr e
    have hq : SqT K H1 a xs := seqT_mono (s1.trans G1.sub) hs
    refine ⟨⟨xs, v, hq, h1⟩, fun x H2 hy => ?_⟩
    obtain ⟨e2, hy⟩ := hy
    subst e2
    have := hy xs hq
    rw [h1] at this
    cases this
    exact ⟨F1, Same.refl F1, G1, Rpm s1 h2⟩
  stop := fun F1 H1 _ s1 s2 => ⟨xs, seqT_mono (s1.trans s2) hs, by rw [rpa_len hr]; exact Nat.le_refl _⟩
def signs (x : Str) : List PyData := x.cps.toList.map fun c => .str ⟨#[c]⟩
theorem wk_str {K : PySem.W.Frag} {Z F : Hp} {x : Str} : Wk K Z (Its x) F (signs x) where
  go := fun U A σ r m F1 H1 i d _ s1 G1 e => by
    unfold signs at e
    rw [List.getElem?_map] at e
    cases e1 : x.cps.toList[i]? with
    | none => rw [e1] at e; cases e
    | some c =>
      rw [e1] at e
      cases e
      have e1' : x.cps[i]? = some c := by rw [← Array.getElem?_toList]; exact e1
      have hi : i < x.cps.size := (Array.getElem?_eq_some_iff.mp e1').1
      refine ⟨hi, fun v H2 hy => ?_⟩
      obtain ⟨e2, c', e3, e4⟩ := hy
      subst e2 e4
      rw [e1'] at e3
      cases e3
      exact ⟨F1, Same.refl F1, G1, .vs _⟩
  stop := fun F1 H1 _ s1 s2 => by
    show x.cps.size ≤ (signs x).length
    unfold signs
    rw [List.length_map]
    simp
def rangeD (lo : Int) (n : Nat) : List PyData := (List.range n).map fun i => .int (lo + (i : Nat))
theorem wk_range {K : PySem.W.Frag} {Z F : Hp} {lo : Int} {n : Nat} : Wk K Z (Itr lo n) F (rangeD lo n) where
  go := fun U A σ r m F1 H1 i d _ s1 G1 e => by
    unfold rangeD at e
    rw [List.getElem?_map] at e
    by_cases hi : i < n
    · rw [List.getElem?_range hi] at e
      cases e
      refine ⟨hi, fun v H2 hy => ?_⟩
      obtain ⟨e2, e4⟩ := hy
      subst e2 e4
      exact ⟨F1, Same.refl F1, G1, .vi _⟩
    · rw [List.getElem?_eq_none (by rw [List.length_range]; omega)] at e
      cases e
  stop := fun F1 H1 _ s1 s2 => by
    show n ≤ (rangeD lo n).length
    unfold rangeD
    rw [List.length_map, List.length_range]
    exact Nat.le_refl n
def itemsD : PyData → Option (List PyData)
  | .list ds => some ds
  | .tuple ds => some ds
  | .str x => some (signs x)
  | _ => none
def eIts (f : Ev) : Eas := fun r m => (f r m).bind fun p => (itemsD p.1).map fun ds => (ds, p.2)
def eRg1 (f : Eas) : Eas := fun r m => (f r m).bind fun p => match p.1 with
  | [.int j] => if -(2 ^ 62) ≤ j ∧ j < 2 ^ 62 then some (rangeD 0 j.toNat, p.2) else none
  | _ => none
def eRg2 (f : Eas) : Eas := fun r m => (f r m).bind fun p => match p.1 with
  | [.int i, .int j] => if -(2 ^ 62) ≤ i ∧ i < 2 ^ 62 ∧ -(2 ^ 62) ≤ j ∧ j < 2 ^ 62 then some (rangeD i (j - i).toNat, p.2) else none
  | _ => none
def enumD (ds : List PyData) : List PyData := ds.zipIdx.map fun p => .tuple [.int (p.2 : Nat), p.1]
def eEnum (f : Ev) : Eas := fun r m => (f r m).bind fun p => match p.1 with
  | .list ds => some (enumD ds, p.2)
  | _ => none
section
variable {X : Cx} {U : Hp} {tg e a b : Expr} {f : Ev} {fs : Eas} {p pos tpos : Pos}
theorem qi_its (he : PE X e (tE X.K U f)) : PI X tg e (tIt X.K U (eIts f)) := by
  refine ⟨fun pins s σ H R I ⟨A, F, r, m, ds, m', G, e0, k⟩ => ?_⟩
  unfold eIts at e0
  cases e1 : f r m with
  | none => rw [e1] at e0; cases e0
  | some q =>
    obtain ⟨d, m1⟩ := q
    rw [e1] at e0
    simp only [Option.bind_some] at e0
    cases d with
    | list es =>
      cases e0
      refine (pi_list he).run pins s σ H R I ⟨A, F, r, m, .list ds, m', G, e1, fun F1 H1 v s1 G1 h1 => ?_⟩
      cases h1 with
      | vl sa ra => exact ⟨_, rfl, ⟨_, (sqL_mono G1.sub sa)⟩, k F1 H1 _ s1 G1 (wk_list sa ra)⟩
    | tuple es =>
      cases e0
      refine (pi_tup he).run pins s σ H R I ⟨A, F, r, m, .tuple ds, m', G, e1, fun F1 H1 v s1 G1 h1 => ?_⟩
      cases h1 with
      | vt sa ra => exact ⟨_, rfl, ⟨_, seqT_mono G1.sub sa⟩, k F1 H1 _ s1 G1 (wk_tup sa ra)⟩
    | str x =>
      cases e0
      refine (pi_str he).run pins s σ H R I ⟨A, F, r, m, .str x, m', G, e1, fun F1 H1 v s1 G1 h1 => ?_⟩
      cases h1
      exact ⟨_, rfl, k F1 H1 _ s1 G1 wk_str⟩
    | _ => cases e0
theorem qi_range1 (hg : Gl X "range") (hm : X.mg "range" = none) (ha : PA X [a] (tAs X.K U fs)) (hs : starEach [a] X.env = [(false, eval a X.env)] := by rfl) : PI X tg (.Call (.Name "range" p) [a] [] pos) (tIt X.K U (eRg1 fs)) := by
  refine ⟨fun pins s σ H R I ⟨A, F, r, m, ds, m', G, e0, k⟩ => ?_⟩
  unfold eRg1 at e0
  cases e1 : fs r m with
  | none => rw [e1] at e0; cases e0
  | some q =>
    obtain ⟨es, m1⟩ := q
    rw [e1] at e0
    simp only [Option.bind_some] at e0
    split at e0
    · split at e0
      · rename_i j hj
        cases e0
        refine (pi_range1 hg hm ha hs).run pins s σ H R I ⟨A, F, r, m, _, m', G, e1, fun F1 H1 vs s1 G1 h1 => ?_⟩
        obtain ⟨v, rfl, h⟩ := rpa1 h1
        cases h
        exact ⟨j, rfl, hj.1, hj.2, k F1 H1 _ s1 G1 wk_range⟩
      · cases e0
    · cases e0
theorem qi_range2 (hg : Gl X "range") (hm : X.mg "range" = none) (ha : PA X [a, b] (tAs X.K U fs)) (hs : starEach [a, b] X.env = [(false, eval a X.env), (false, eval b X.env)] := by rfl) (hs2 : starEach [b] X.env = [(false, eval b X.env)] := by rfl) :
    PI X tg (.Call (.Name "range" p) [a, b] [] pos) (tIt X.K U (eRg2 fs)) := by
  refine ⟨fun pins s σ H R I ⟨A, F, r, m, ds, m', G, e0, k⟩ => ?_⟩
  unfold eRg2 at e0
  cases e1 : fs r m with
  | none => rw [e1] at e0; cases e0
  | some q =>
    obtain ⟨es, m1⟩ := q
    rw [e1] at e0
    simp only [Option.bind_some] at e0
    split at e0
    · split at e0
      · rename_i i j hj
        cases e0
        refine (pi_range2 hg hm ha hs hs2).run pins s σ H R I ⟨A, F, r, m, _, m', G, e1, fun F1 H1 vs s1 G1 h1 => ?_⟩
        obtain ⟨v, w, rfl, h, h'⟩ := rpa2 h1
        cases h; cases h'
        exact ⟨i, j, rfl, hj, k F1 H1 _ s1 G1 wk_range⟩
      · cases e0
    · cases e0
theorem wk_enum {K : PySem.W.Frag} {Z F : Hp} {a : Addr} {xs : List V} {ds : List PyData} (hs : SqL K F a xs) (hr : RpAll K F xs ds) : Wk K Z (Ite K a) F (enumD ds) where
  go := fun U A σ r m F1 H1 i d _ s1 G1 e => by
    unfold enumD at e
    rw [List.getElem?_map, List.getElem?_zipIdx] at e
    cases e1 : ds[i]? with
    | none => rw [e1] at e; cases e
    | some d1 =>
      rw [e1] at e
      simp only [Option.map_some, Nat.zero_add, Option.some.injEq] at e
      subst e
      obtain ⟨v, h1, h2⟩ := rpa_get hr e1
      have hq : SqL K H1 a xs := (sqL_mono (s1.trans G1.sub) hs)
      refine ⟨⟨xs, v, hq, h1⟩, fun x H2 hy => ?_⟩
      obtain ⟨T, y, e2, nT, e3, hy⟩ := hy
      have := hy xs hq
      rw [h1] at this
      cases this
      subst e2 e3
      have sF : Same F1 (upd F1 T (.tup [.int (i : Nat), v])) := same_new (G1.nope nT).1
      exact ⟨_, sF, G1.laid nT, .vt (.inl (.inl upd_same)) (.cons (.vi _) (.cons (Rpm (s1.trans sF) h2) .nil))⟩
  stop := fun F1 H1 _ s1 s2 => ⟨xs, (sqL_mono (s1.trans s2) hs), by
    unfold enumD
    rw [List.length_map, List.length_zipIdx, rpa_len hr]
    exact Nat.le_refl _⟩
theorem qi_enum {elts : List Expr} {kk : Nat} (hg : Gl X "enumerate") (hm : X.mg "enumerate" = none) (ha : PE X e (tE X.K U f)) (hs : starEach [e] X.env = [(false, eval e X.env)] := by rfl) (hs' : starEach [e] X.env = (false, eval e X.env) :: starEach [] X.env := by rfl) :
    PI X (.Tuple elts kk tpos) (.Call (.Name "enumerate" p) [e] [] pos) (tIt X.K U (eEnum f)) := by
  refine ⟨fun pins s σ H R I ⟨A, F, r, m, ds, m', G, e0, k⟩ => ?_⟩
  unfold eEnum at e0
  cases e1 : f r m with
  | none => rw [e1] at e0; cases e0
  | some q =>
    obtain ⟨d, m1⟩ := q
    rw [e1] at e0
    simp only [Option.bind_some] at e0
    split at e0
    · cases e0
      refine (pi_enum hg hm (pa_cons ha pa_nil hs') hs).run pins s σ H R I ⟨A, F, r, m, _, m', G, e1, fun F1 H1 v s1 G1 h1 => ?_⟩
      cases h1 with
      | vl sa ra => exact ⟨_, _, rfl, (sqL_mono G1.sub sa), k F1 H1 _ s1 G1 (wk_enum sa ra)⟩
    · cases e0
end

/-! ## for -/
def loopS (h : Eh) (body : Es) : List PyData → Es
  | [], r, m => some (.nx r m)
  | d :: ds, r, m => (h d r).bind fun r1 => (body r1 m).bind fun o => match o with
    | .nx r2 m2 => loopS h body ds r2 m2
    | .ct r2 m2 => loopS h body ds r2 m2
    | .bk r2 m2 => some (.nx r2 m2)
    | o => some o
def sFor (fi : Eas) (h : Eh) (body : Es) : Es := fun r m => (fi r m).bind fun p => loopS h body p.1 r p.2
section
variable {X : Cx} {U : Hp} {n0 : Nat} {tg iter : Expr} {body : List Stmt} {fi : Eas} {h : Eh} {s : Es} {is : List Nat} {pos : Pos}
theorem qs_for (hp : PassesOwn (model X.prog X.w) X.A X.env X.xe) (hc : X.calm = true) (hi : PI X tg iter (tIt X.K U fi)) (hg : PG X tg (tG X.K U is h)) (hb : PSs X body (tS X.K U n0 s)) (hs : ∀ x, foldedSetIterable iter X.env x = pure x := by intro _; rfl) :
    PS X (.For tg iter body [] pos) (tS X.K U n0 (sFor fi h s)) := ps_weak (ps_for hp hc hi hg hb hs) fun D σ H ⟨A, F, r, m, o, G, hn, e, p⟩ => by
  unfold sFor at e
  cases e1 : fi r m with
  | none => rw [e1] at e; cases e
  | some q =>
    obtain ⟨ds, m1⟩ := q
    rw [e1] at e
    simp only [Option.bind_some] at e
    refine ⟨A, F, r, m, ds, m1, G, e1, fun F1 H1 J s1 G1 W1 => ?_⟩
    refine ⟨fun i mm σ2 H2 => mm = ds.length - i ∧ i ≤ ds.length ∧ ∃ (A2 : List Addr) (F2 : Hp) (r2 : Rs) (m2 : Ms), A <+: A2 ∧ Same F1 F2 ∧ Good X.K U A2 F2 H2 σ2 r2 m2 ∧ loopS h s (ds.drop i) r2 m2 = some o, ⟨ds.length, by simp, Nat.zero_le _, A, F1, r, m1, List.prefix_refl A, Same.refl F1, G1, by rw [List.drop_zero]; exact e⟩, ?_⟩
    rintro i mm σ2 H2 ⟨rfl, hi2, A2, F2, r2, m2, hA, hF, G2, e2⟩
    by_cases hlt : i < ds.length
    · rw [List.drop_eq_getElem_cons hlt] at e2
      unfold loopS at e2
      cases e3 : h ds[i] r2 with
      | none => rw [e3] at e2; cases e2
      | some r3 =>
        rw [e3] at e2
        simp only [Option.bind_some] at e2
        cases e4 : s r3 m2 with
        | none => rw [e4] at e2; cases e2
        | some o4 =>
          rw [e4] at e2
          simp only [Option.bind_some] at e2
          obtain ⟨w1, w2⟩ := W1.go U A2 σ2 r2 m2 F2 H2 i ds[i] (Same.refl U) hF G2 (List.getElem?_eq_getElem hlt)
          refine .inr ⟨w1, fun σ' H' => ∃ (A' : List Addr) (F' : Hp) (r' : Rs) (m' : Ms), A <+: A' ∧ Same F1 F' ∧ Good X.K U A' F' H' σ' r' m' ∧ loopS h s (ds.drop (i + 1)) r' m' = some o, fun σ' H' w => ⟨ds.length - (i + 1), by omega, rfl, hlt, w⟩, fun x H3 hy => ?_⟩
          obtain ⟨F3, s3, G3, h3⟩ := w2 x H3 hy
          refine ⟨A2, F3, r2, m2, ds[i], r3, G3, h3, e3, fun σ4 G4 _ _ => ⟨A2, F3, r3, m2, o4, G4, len_of hA hn, e4, ?_⟩⟩
          have hF3 : Same F1 F3 := hF.trans s3
          have past := fun {A' : List Addr} {F' : Hp} (ha : A2 <+: A') (hf : Same F3 F') => Post.later (K := X.K) (U := U) (n0 := n0) (D := D) (hA.trans ha) (s1.trans (hF3.trans hf)) p
          cases o4 with
          | nx r5 m5 => exact fun A' F' H' σ' ha hf G' => ⟨A', F', r5, m5, hA.trans ha, hF3.trans hf, G', e2⟩
          | ct r5 m5 => exact fun A' F' H' σ' ha hf G' => ⟨A', F', r5, m5, hA.trans ha, hF3.trans hf, G', e2⟩
          | bk r5 m5 =>
            cases e2
            exact fun A' F' H' σ' ha hf G' => past ha hf A' F' H' σ' (List.prefix_refl A') (Same.refl F') G'
          | rt d m5 =>
            cases e2
            exact fun A' F' H' v ha hf Fi hv => past ha hf A' F' H' v (List.prefix_refl A') (Same.refl F') Fi hv
          | rn ds5 m5 =>
            cases e2
            exact fun A' F' H' a u ha hf Fi q1 q2 q3 q4 q5 => past ha hf A' F' H' a u (List.prefix_refl A') (Same.refl F') Fi q1 q2 q3 q4 q5
    · have ei : i = ds.length := by omega
      subst ei
      rw [List.drop_length] at e2
      cases e2
      exact .inl ⟨W1.stop F2 H2 (fun b o e => (G2.fo b o e).1) hF G2.sub, p A2 F2 H2 σ2 hA (s1.trans hF) G2⟩
end
end TL

end
/-! TL8 -/
section
set_option maxHeartbeats 4000000
namespace TL
open PySem L2

/-! ## comprehensions -/
def eYes : Et := fun _ m => some (true, m)
theorem pts_weak {X : Cx} {e : List Expr} {t t' : TT} (h : PTs X e t) (w : ∀ σ H Q, t' σ H Q → t σ H Q) : PTs X e t' := ⟨fun pins s σ H Q I q => h.run pins s σ H Q I (w σ H Q q)⟩
theorem qts_nil {X : Cx} {U : Hp} : PTs X [] (tT X.K U eYes) := pts_weak pts_nil fun σ H Q ⟨A, F, r, m, b, m', G, e, k⟩ => by
  cases e
  exact k F H (Same.refl F) G
def wipeR (r : Rs) : List Nat → Rs
  | [] => r
  | v :: vs => (wipeR r vs).set v .un
def lcLoop (h : Eh) (t : Et) (f : Ev) (r : Rs) : List PyData → Ms → List PyData → Option (List PyData × Ms)
  | [], m, acc => some (acc, m)
  | d :: ds, m, acc => (h d r).bind fun r1 => (t r1 m).bind fun b => if b.1 = true then (f r1 b.2).bind fun x => if acc.length < sizeLine then lcLoop h t f r ds x.2 (acc ++ [x.1]) else none else lcLoop h t f r ds b.2 acc
def eLc (fi : Eas) (own : List Nat) (h : Eh) (t : Et) (f : Ev) : Ev := fun r m => (fi r m).bind fun p => (lcLoop h t f (wipeR r own) p.1 p.2 []).map fun q => (.list q.1, q.2)
section
variable {K : PySem.W.Frag} {U : Hp} {A : List Addr} {F H F' H' : Hp} {σ σ' : St} {r r' : Rs} {m m' : Ms}
theorem wipeR_len (r : Rs) : ∀ vs : List Nat, (wipeR r vs).length = r.length
  | [] => rfl
  | v :: vs => by unfold wipeR; rw [List.length_set, wipeR_len r vs]
theorem wipeR_out {r : Rs} {i : Nat} : ∀ {vs : List Nat}, i ∉ vs → (wipeR r vs)[i]? = r[i]?
  | [], _ => rfl
  | v :: vs, h => by
    unfold wipeR
    rw [List.mem_cons, not_or] at h
    rw [List.getElem?_set_ne (Ne.symm h.1), wipeR_out h.2]
theorem wipeR_in {r : Rs} {i : Nat} : ∀ {vs : List Nat}, i ∈ vs → (wipeR r vs)[i]? = some .un ∨ (wipeR r vs)[i]? = none
  | [], h => by cases h
  | v :: vs, h => by
    unfold wipeR
    by_cases hi : v = i
    · subst hi
      by_cases hl : v < (wipeR r vs).length
      · exact .inl (List.getElem?_set_self hl)
      · exact .inr (List.getElem?_eq_none (by rw [List.length_set]; omega))
    · rw [List.getElem?_set_ne hi]
      rcases List.mem_cons.mp h with q | q
      · exact absurd q.symm hi
      · exact wipeR_in q
theorem wipe_out {σ : St} {i : Nat} : ∀ {vs : List Nat}, i ∉ vs → (wipe σ vs)[i]? = σ[i]?
  | [], _ => rfl
  | v :: vs, h => by
    unfold wipe
    rw [List.mem_cons, not_or] at h
    rw [List.getElem?_set_ne (Ne.symm h.1), wipe_out h.2]
theorem wipe_in {σ : St} {i : Nat} : ∀ {vs : List Nat}, i ∈ vs → i < σ.length → (wipe σ vs)[i]? = some none
  | [], h, _ => by cases h
  | v :: vs, h, hl => by
    unfold wipe
    by_cases hi : v = i
    · subst hi
      exact List.getElem?_set_self (by rw [wipe_length]; exact hl)
    · rw [List.getElem?_set_ne hi]
      rcases List.mem_cons.mp h with q | q
      · exact absurd q.symm hi
      · exact wipe_in q hl
theorem wipe_eq {σ σ' : St} {vs : List Nat} (hl : σ'.length = σ.length) (h : ∀ j, j ∉ vs → σ'[j]? = σ[j]?) : wipe σ' vs = wipe σ vs := by
  apply List.ext_getElem?
  intro i
  by_cases hi : i ∈ vs
  · by_cases hn : i < σ.length
    · rw [wipe_in hi hn, wipe_in hi (by omega)]
    · rw [List.getElem?_eq_none (by rw [wipe_length]; omega), List.getElem?_eq_none (by rw [wipe_length]; omega)]
  · rw [wipe_out hi, wipe_out hi, h i hi]
theorem wipe_twice {σ : St} {vs : List Nat} : wipe (wipe σ vs) vs = wipe σ vs := wipe_eq (wipe_length σ vs) fun j hj => wipe_out hj
/-- the comprehension's own names forgotten -/
theorem Good.wiped (G : Good K U A F H σ r m) (vs : List Nat) : Good K U A F H (wipe σ vs) (wipeR r vs) m := by
  refine ⟨G.sub, G.fo, by rw [wipeR_len, wipe_length]; exact G.len, fun i d e => ?_, fun i k e => ?_, G.al, G.cl, G.nd, G.he⟩
  · by_cases hi : i ∈ vs
    · rcases wipeR_in (r := r) hi with q | q
      · rw [q] at e; cases e
      · rw [q] at e; cases e
    · rw [wipeR_out hi] at e
      rw [wipe_out hi]
      exact G.fz i d e
  · by_cases hi : i ∈ vs
    · rcases wipeR_in (r := r) hi with q | q
      · rw [q] at e; cases e
      · rw [q] at e; cases e
    · rw [wipeR_out hi] at e
      rw [wipe_out hi]
      exact G.ow i k e
/-- the elder slots over a later heap -/
theorem Good.mix {U' : Hp} (G : Good K U A F H σ r m) (G' : Good K U' A F' H' σ' r' m') (s : Same F F') (hu : ∀ b o, U b = some o → U' b = some o) : Good K U A F' H' σ r m' := by
  refine ⟨G'.sub, fun b o e => G'.fo b o (hu b o e), G.len, fun i d e => ?_, G.ow, G'.al, fun k a ds e1 e2 => ?_, G.nd, G'.he⟩
  · obtain ⟨v, h1, h2⟩ := G.fz i d e
    exact ⟨v, h1, Rpm s h2⟩
  · obtain ⟨h1, h2, vs, h3, h4⟩ := G'.cl k a ds e1 e2
    refine ⟨h1, ?_, vs, h3, h4⟩
    cases q : U a with
    | none => rfl
    | some o => rw [hu a o q] at h2; cases h2
end
/-- U with the new list -/
theorem Good.hold {K : PySem.W.Frag} {U : Hp} {A : List Addr} {F H : Hp} {σ : St} {r : Rs} {m : Ms} {D : Addr} {o : HO} (G : Good K U A F H σ r m) (hD : H D = some o) (hF : F D = none) (hA : D ∉ A) : Good K (upd U D o) A F H σ r m := by
  refine ⟨G.sub, fun b x e => ?_, G.len, G.fz, G.ow, G.al, fun k a ds e1 e2 => ?_, G.nd, G.he⟩
  · by_cases hb : b = D
    · subst hb
      rw [upd_same] at e
      cases e
      exact ⟨hD, hF⟩
    · rw [upd_ne hb] at e
      exact G.fo b x e
  · obtain ⟨h1, h2, h3⟩ := G.cl k a ds e1 e2
    have ha : a ≠ D := fun z => hA (z ▸ List.mem_of_getElem? e1)
    exact ⟨h1, by rw [upd_ne ha]; exact h2, h3⟩
def tGX (K : PySem.W.Frag) (is : List Nat) (h : Eh) : TG := fun v σ H Q => ∃ U, tG K U is h v σ H Q
def tTX (K : PySem.W.Frag) (f : Et) : TT := fun σ H Q => ∃ U, tT K U f σ H Q
def tEX (K : PySem.W.Frag) (f : Ev) : TE := fun σ H Q => ∃ U, tE K U f σ H Q
theorem pg_all {X : Cx} {tg : Expr} {is : List Nat} {h : Eh} (k : ∀ U, PG X tg (tG X.K U is h)) : PG X tg (tGX X.K is h) := ⟨fun pins s σ H v u Q I r ⟨U, q⟩ => (k U).run pins s σ H v u Q I r q⟩
theorem pts_all {X : Cx} {ifs : List Expr} {f : Et} (k : ∀ U, PTs X ifs (tT X.K U f)) : PTs X ifs (tTX X.K f) := ⟨fun pins s σ H Q I ⟨U, q⟩ => (k U).run pins s σ H Q I q⟩
theorem pe_all {X : Cx} {e : Expr} {f : Ev} (k : ∀ U, PE X e (tE X.K U f)) : PE X e (tEX X.K f) := ⟨fun pins s σ H Q I ⟨U, q⟩ => (k U).run pins s σ H Q I q⟩
section
variable {X : Cx} {U : Hp} {elt tg iter : Expr} {ifs : List Expr} {scope : Scope} {own : List (Str × Nat)} {pos : Pos} {fi : Eas} {is : List Nat} {h : Eh} {t : Et} {f : Ev}
theorem lc_inner {K : PySem.W.Frag} {U : Hp} {A : List Addr} {F1 H1 : Hp} {σ : St} {r : Rs} {m1 m9 : Ms} {ds res : List PyData} {J : It} {vsl : List Nat} {is : List Nat} {h : Eh} {t : Et} {f : Ev} {Q : VK} (his : ∀ j ∈ is, j ∈ vsl) (G1 : Good K U A F1 H1 σ r m1) (W1 : Wk K U J F1 ds)
    (e2 : lcLoop h t f (wipeR r vsl) ds m1 [] = some (res, m9))
    (k : ∀ (F' H' : Hp) (a : Addr) (u : HO), Same F1 F' → Good K U A F' H' σ r m9 → F' a = none → U a = none → a ∉ A → H' a = some u → Stored K F' u (.list res) → Q (.ref a) H') :
    ∀ D, H1 D = none → ∃ W : Nat → Nat → Hp → Prop, (∃ m, W 0 m (upd H1 D (.lst []))) ∧ ∀ i m H, W i m H →
      (J.stop i H ∧ Q (.ref D) H) ∨ (J.go i H ∧ ∃ Nx : Hp → Prop, (∀ H', Nx H' → ∃ m', m' < m ∧ W (i + 1) m' H') ∧ ∀ x H', J.yld i H x H' → (tGX K is h) x (wipe σ vsl) H' fun σ2 H2 => wipe σ2 vsl = wipe σ vsl ∧ (tTX K t) σ2 H2 fun b H3 =>
        if b = true then (tEX K f) σ2 H3 fun y H4 => ∃ acc, H4 D = some (.lst acc) ∧ acc.length < sizeLine ∧ Nx (upd H4 D (.lst (acc ++ [y]))) else Nx H3) := by
  intro D nD
  have hF1 := (G1.nope nD).1
  refine ⟨fun i mm H2 => mm = ds.length - i ∧ i ≤ ds.length ∧ ∃ (F2 : Hp) (m2 : Ms) (vs : List V) (acc : List PyData), Same F1 F2 ∧ Good K U A F2 H2 σ r m2 ∧ H2 D = some (.lst vs) ∧ F2 D = none ∧ RpAll K F2 vs acc ∧
    lcLoop h t f (wipeR r vsl) (ds.drop i) m2 acc = some (res, m9), ⟨ds.length, by simp, Nat.zero_le _, F1, m1, [], [], Same.refl F1, G1.laidO nD, upd_same, hF1, .nil, by rw [List.drop_zero]; exact e2⟩, ?_⟩
  rintro i mm H2 ⟨rfl, hi2, F2, m2, vs, acc, hF, G2, hD2, hF2, hr2, e3⟩
  have nA : D ∉ A := G1.notin nD
  have nU : U D = none := (G1.nope nD).2
  by_cases hlt : i < ds.length
  · rw [List.drop_eq_getElem_cons hlt] at e3
    unfold lcLoop at e3
    cases e4 : h ds[i] (wipeR r vsl) with
    | none => rw [e4] at e3; cases e3
    | some r3 =>
      rw [e4] at e3
      simp only [Option.bind_some] at e3
      cases e5 : t r3 m2 with
      | none => rw [e5] at e3; cases e3
      | some b5 =>
        obtain ⟨b, m5⟩ := b5
        rw [e5] at e3
        simp only [Option.bind_some] at e3
        have GW := (G2.hold hD2 hF2 nA).wiped vsl
        have sU : Same U (upd U D (.lst vs)) := same_new nU
        obtain ⟨w1, w2⟩ := W1.go _ A _ _ m2 F2 H2 i ds[i] sU hF GW (List.getElem?_eq_getElem hlt)
        have back : ∀ {F' H' : Hp} {σ' : St} {r' : Rs} {m' : Ms}, Same F2 F' → Good K (upd U D (.lst vs)) A F' H' σ' r' m' → Good K U A F' H' σ r m' := fun {F' H' σ' r' m'} s G' => G2.mix G' s sU
        refine .inr ⟨w1, fun H' => ∃ (F' : Hp) (m' : Ms) (vs' : List V) (acc' : List PyData), Same F1 F' ∧ Good K U A F' H' σ r m' ∧ H' D = some (.lst vs') ∧ F' D = none ∧ RpAll K F' vs' acc' ∧
          lcLoop h t f (wipeR r vsl) (ds.drop (i + 1)) m' acc' = some (res, m9), fun H' w => ⟨ds.length - (i + 1), by omega, rfl, hlt, w⟩, fun x H3 hy => ?_⟩
        obtain ⟨F3, s3, G3, h3⟩ := w2 x H3 hy
        refine ⟨upd U D (.lst vs), A, F3, _, m2, ds[i], r3, G3, h3, e4, fun σ4 G4 k4 l4 => ⟨?_, ?_⟩⟩
        · refine (wipe_eq l4 fun j hj => k4 j fun z => hj (his j z)).trans wipe_twice
        · refine ⟨upd U D (.lst vs), A, F3, r3, m2, b, m5, G4, e5, fun F5 H5 s5 G5 => ?_⟩
          cases b with
          | false =>
            refine iteF ?_
            have fo5 := G5.fo D _ upd_same
            exact ⟨F5, m5, vs, acc, hF.trans (s3.trans s5), back (s3.trans s5) G5, fo5.1, fo5.2, Rpam (s3.trans s5) hr2, e3⟩
          | true =>
            refine iteT ?_
            rw [if_pos rfl] at e3
            cases e6 : f r3 m5 with
            | none => rw [e6] at e3; cases e3
            | some q6 =>
              obtain ⟨d6, m6⟩ := q6
              rw [e6] at e3
              simp only [Option.bind_some] at e3
              split at e3
              · rename_i hz
                refine ⟨upd U D (.lst vs), A, F5, r3, m5, d6, m6, G5, e6, fun F6 H6 y s6 G6 h6 => ?_⟩
                have fo6 := G6.fo D _ upd_same
                have s26 : Same F2 F6 := s3.trans (s5.trans s6)
                refine ⟨vs, fo6.1, by rw [rpa_len hr2]; exact hz, F6, m6, vs ++ [y], acc ++ [d6], hF.trans s26, ?_, upd_same, fo6.2, rpa_app (Rpam s26 hr2) (.cons h6 .nil), e3⟩
                have GB := back s26 G6
                refine ⟨fun b o q => ?_, fun b o q => ?_, GB.len, GB.fz, GB.ow, GB.al, fun kk a es q1 q2 => ?_, GB.nd, fun a qa => ?_⟩
                · have hb : b ≠ D := fun z => by rw [z, fo6.2] at q; cases q
                  rw [upd_ne hb]
                  exact GB.sub b o q
                · have hb : b ≠ D := fun z => by rw [z, nU] at q; cases q
                  rw [upd_ne hb]
                  exact GB.fo b o q
                · obtain ⟨c1, c2, us, c3, c4⟩ := GB.cl kk a es q1 q2
                  have ha : a ≠ D := fun z => nA (z ▸ List.mem_of_getElem? q1)
                  exact ⟨c1, c2, us, by rw [upd_ne ha]; exact c3, c4⟩
                · obtain ⟨o', c1⟩ := GB.he a qa
                  have hne : a ≠ D := fun z => nA (z ▸ qa)
                  exact ⟨o', by rw [upd_ne hne]; exact c1⟩
              · cases e3
  · have ei : i = ds.length := by omega
    subst ei
    rw [List.drop_length] at e3
    cases e3
    exact .inl ⟨W1.stop F2 H2 (fun b o e => (G2.fo b o e).1) hF G2.sub, k F2 H2 D _ hF G2 hF2 nU nA hD2 ⟨vs, rfl, hr2⟩⟩
/-- a new object is frozen -/
theorem Good.ice {K : PySem.W.Frag} {U : Hp} {A : List Addr} {F H : Hp} {σ : St} {r : Rs} {m : Ms} {a : Addr} {u : HO} {d : PyData} (G : Good K U A F H σ r m) (hF : F a = none) (hU : U a = none) (hA : a ∉ A) (hH : H a = some u) (h : Stored K F u d) :
    Same F (upd F a u) ∧ Good K U A (upd F a u) H σ r m ∧ Rp K (upd F a u) (.ref a) d := by
  have s : Same F (upd F a u) := same_new hF
  refine ⟨s, ⟨fun b o q => ?_, fun b o q => ?_, G.len, fun j d q => ?_, G.ow, G.al, fun kk b es q1 q2 => ?_, G.nd, G.he⟩, stored_rp upd_same (stored_mono s h)⟩
  · by_cases hb : b = a
    · subst hb
      rw [upd_same] at q
      cases q
      exact hH
    · rw [upd_ne hb] at q
      exact G.sub b o q
  · have hb : b ≠ a := fun z => by rw [z, hU] at q; cases q
    rw [upd_ne hb]
    exact G.fo b o q
  · obtain ⟨v, c1, c2⟩ := G.fz j d q
    exact ⟨v, c1, Rpm s c2⟩
  · obtain ⟨c1, c2, us, c3, c4⟩ := G.cl kk b es q1 q2
    have hb : b ≠ a := fun z => hA (z ▸ List.mem_of_getElem? q1)
    exact ⟨by rw [upd_ne hb]; exact c1, c2, us, c3, stored_mono s c4⟩
/-- the reading of an expression that makes a new object, not frozen yet -/
def tN (K : PySem.W.Frag) (U : Hp) (f : Ev) : TE := fun σ H Q => ∃ (A : List Addr) (F : Hp) (r : Rs) (m : Ms) (d : PyData) (m' : Ms), Good K U A F H σ r m ∧ f r m = some (d, m') ∧
  ∀ (F' H' : Hp) (a : Addr) (u : HO), Same F F' → Good K U A F' H' σ r m' → F' a = none → U a = none → a ∉ A → H' a = some u → Stored K F' u d → Q (.ref a) H'
theorem qe_new {X : Cx} {U : Hp} {e : Expr} {f : Ev} (h : PE X e (tN X.K U f)) : PE X e (tE X.K U f) := pe_weak h fun σ H Q ⟨A, F, r, m, d, m', G, e, k⟩ =>
  ⟨A, F, r, m, d, m', G, e, fun F' H' a u s G' q1 q2 q3 q4 q5 => by
    obtain ⟨w1, w2, w3⟩ := G'.ice q1 q2 q3 q4 q5
    exact k _ H' _ (s.trans w1) w2 w3⟩
theorem lc_read (his : ∀ j ∈ is, j ∈ own.map (·.2)) {σ : St} {H : Hp} {Q : VK} (hq : tN X.K U (eLc fi (own.map (·.2)) h t f) σ H Q) :
    tLc (tIt X.K U fi) (tGX X.K is h) (tTX X.K t) (tEX X.K f) (own.map (·.2)) σ H Q := by
  obtain ⟨A, F, r, m, d, m', G, e, k⟩ := hq
  unfold eLc at e
  cases e1 : fi r m with
  | none => rw [e1] at e; cases e
  | some p =>
    obtain ⟨ds, m1⟩ := p
    rw [e1] at e
    simp only [Option.bind_some] at e
    cases e2 : lcLoop h t f (wipeR r (own.map (·.2))) ds m1 [] with
    | none => rw [e2] at e; cases e
    | some q =>
      obtain ⟨res, m9⟩ := q
      rw [e2] at e
      cases e
      exact ⟨A, F, r, m, ds, m1, G, e1, fun F1 H1 J s1 G1 W1 => lc_inner his G1 W1 e2 fun F' H' a u s G' q1 q2 q3 q4 q5 => k F' H' a u (s1.trans s) G' q1 q2 q3 q4 q5⟩
theorem qn_lc (hc : X.calm = true) (hN : X.N.Nodup) (hi : PI X tg iter (tIt X.K U fi)) (ok : BlkOk X.N X.env.scope scope own) (his : ∀ j ∈ is, j ∈ own.map (·.2))
    (hg : ∀ (U : Hp) (s : Shared) (H : Hp) (C : Addr) (cl : List (Str × Addr)) (fp : List Addr), PG (X.blk s H scope (compEnvC scope cl C X.env) fp) tg (tG X.K U is h))
    (ht : ∀ (U : Hp) (s : Shared) (H : Hp) (C : Addr) (cl : List (Str × Addr)) (fp : List Addr), PTs (X.blk s H scope (compEnvC scope cl C X.env) fp) ifs (tT X.K U t))
    (he : ∀ (U : Hp) (s : Shared) (H : Hp) (C : Addr) (cl : List (Str × Addr)) (fp : List Addr), PE (X.blk s H scope (compEnvC scope cl C X.env) fp) elt (tE X.K U f)) (hs : ∀ x, foldedSetIterable iter X.env x = pure x := by intro _; rfl) :
    PE X (.ListComp elt [⟨tg, iter, ifs, 0⟩] scope pos) (tN X.K U (eLc fi (own.map (·.2)) h t f)) :=
  pe_weak (pe_lc hc hN hi ok (fun s H C cl fp => pg_all fun U => hg U s H C cl fp) (fun s H C cl fp => pts_all fun U => ht U s H C cl fp) (fun s H C cl fp => pe_all fun U => he U s H C cl fp) hs) fun σ H Q q => lc_read his q
theorem qe_lc (hc : X.calm = true) (hN : X.N.Nodup) (hi : PI X tg iter (tIt X.K U fi)) (ok : BlkOk X.N X.env.scope scope own) (his : ∀ j ∈ is, j ∈ own.map (·.2))
    (hg : ∀ (U : Hp) (s : Shared) (H : Hp) (C : Addr) (cl : List (Str × Addr)) (fp : List Addr), PG (X.blk s H scope (compEnvC scope cl C X.env) fp) tg (tG X.K U is h))
    (ht : ∀ (U : Hp) (s : Shared) (H : Hp) (C : Addr) (cl : List (Str × Addr)) (fp : List Addr), PTs (X.blk s H scope (compEnvC scope cl C X.env) fp) ifs (tT X.K U t))
    (he : ∀ (U : Hp) (s : Shared) (H : Hp) (C : Addr) (cl : List (Str × Addr)) (fp : List Addr), PE (X.blk s H scope (compEnvC scope cl C X.env) fp) elt (tE X.K U f)) (hs : ∀ x, foldedSetIterable iter X.env x = pure x := by intro _; rfl) :
    PE X (.ListComp elt [⟨tg, iter, ifs, 0⟩] scope pos) (tE X.K U (eLc fi (own.map (·.2)) h t f)) := qe_new (qn_lc hc hN hi ok his hg ht he hs)
/-- x = e, e a new object: a new cell -/
def sSetF (i : Nat) (f : Ev) : Es := fun r m => (f r m).map fun p => .nx (r.set i (.ow p.2.length)) (p.2 ++ [some p.1])
theorem qs_setLc {n0 i : Nat} {y : Str} {py spos : Pos} (hc : X.calm = true) (hN : X.N.Nodup) (hy : X.N[i]? = some y) (hyl : X.env.scope.names.lookup y = some .local)
    (hsw : swapsWith (.ListComp elt [⟨tg, iter, ifs, 0⟩] scope pos) (some (.Name y py)) spos.line X.env = pure true) (hi : PI X tg iter (tIt X.K U fi)) (ok : BlkOk X.N X.env.scope scope own) (his : ∀ j ∈ is, j ∈ own.map (·.2))
    (hg : ∀ (U : Hp) (s : Shared) (H : Hp) (C : Addr) (cl : List (Str × Addr)) (fp : List Addr), PG (X.blk s H scope (compEnvC scope cl C X.env) fp) tg (tG X.K U is h))
    (ht : ∀ (U : Hp) (s : Shared) (H : Hp) (C : Addr) (cl : List (Str × Addr)) (fp : List Addr), PTs (X.blk s H scope (compEnvC scope cl C X.env) fp) ifs (tT X.K U t))
    (he : ∀ (U : Hp) (s : Shared) (H : Hp) (C : Addr) (cl : List (Str × Addr)) (fp : List Addr), PE (X.blk s H scope (compEnvC scope cl C X.env) fp) elt (tE X.K U f)) (hs : ∀ x, foldedSetIterable iter X.env x = pure x := by intro _; rfl) :
    PS X (.Assign [.Name y py] (.ListComp elt [⟨tg, iter, ifs, 0⟩] scope pos) spos) (tS X.K U n0 (sSet i (eLc fi (own.map (·.2)) h t f))) ∧ PS X (.Assign [.Name y py] (.ListComp elt [⟨tg, iter, ifs, 0⟩] scope pos) spos) (tS X.K U n0 (sSetF i (eLc fi (own.map (·.2)) h t f))) := by
  have base :=
    ps_setLc (g := tGX X.K is h) (tt := tTX X.K t) (te := tEX X.K f) hc hN hy hyl hsw hi ok (fun s H C cl fp => pg_all fun U => hg U s H C cl fp) (fun s H C cl fp => pts_all fun U => ht U s H C cl fp) (fun s H C cl fp => pe_all fun U => he U s H C cl fp) hs
  refine ⟨ps_weak base fun D σ H ⟨A, F, r, m, o, G, hn, e, p⟩ => ?_, ps_weak base fun D σ H ⟨A, F, r, m, o, G, hn, e, p⟩ => ?_⟩
  · unfold sSet at e
    cases e1 : eLc fi (own.map (·.2)) h t f r m with
    | none => rw [e1] at e; cases e
    | some q =>
      rw [e1] at e
      cases e
      refine lc_read his ⟨A, F, r, m, q.1, q.2, G, e1, fun F1 H1 a u s1 G1 q1 q2 q3 q4 q5 => ?_⟩
      obtain ⟨w1, w2, w3⟩ := G1.ice q1 q2 q3 q4 q5
      exact p A _ H1 _ (List.prefix_refl A) (s1.trans w1) (w2.setFz w3)
  · unfold sSetF at e
    cases e1 : eLc fi (own.map (·.2)) h t f r m with
    | none => rw [e1] at e; cases e
    | some q =>
      rw [e1] at e
      cases e
      exact lc_read his ⟨A, F, r, m, q.1, q.2, G, e1, fun F1 H1 a u s1 G1 q1 q2 q3 q4 q5 => p (A ++ [a]) F1 H1 _ (List.prefix_append A [a]) s1 (G1.setOw q1 q2 q3 q4 q5)⟩
theorem qts_one {c : Expr} {p : Et} (h : PT X c (tT X.K U p)) : PTs X [c] (tT X.K U p) := pts_one h
end

/-! ## defs -/
def slots (n : Nat) (ds : List PyData) : Rs := ds.map Sl.fz ++ List.replicate n .un
/-- what a def of nP parameters and nL further names hands back -/
def runD (nL : Nat) (s : Es) (ds : List PyData) : Option PyData := match s (slots nL ds) [] with
  | some (.rt d _) => some d
  | some (.nx _ _) => some .none
  | some (.rn es _) => some es
  | _ => none
def runR (nL : Nat) (s : Es) (cs : PyData) (ds : List PyData) : Option (PyData × PyData) := match s (.ow 0 :: slots nL ds) [some cs] with
  | some (.rt d m) => (cellAt m 0).map fun cs' => (d, cs')
  | some (.nx _ m) => (cellAt m 0).map fun cs' => (.none, cs')
  | _ => none
def runN (nL : Nat) (s : Es) (ds : List PyData) : Option PyData := match s (slots nL ds) [] with
  | some (.rn es _) => some es
  | _ => none
def spN (K : PySem.W.Frag) (n : Nat) (g : List PyData → Option PyData) : Sp := fun vs H Q _ => ∃ (F : Hp) (ds : List PyData) (es : PyData), Same F H ∧ vs.length = n ∧ RpAll K F vs ds ∧ g ds = some es ∧
  ∀ (F' H' : Hp) (a : Addr) (u : HO), Same F F' → Same F' H' → (∀ b o, H b = some o → F b = none → H' b = some o ∧ F' b = none) → F' a = none → H a = none → H' a = some u → Stored K F' u es → Q (.ref a) H'
/-- what stands and is not frozen -/
def less (H F : Hp) : Hp := fun b => match F b with
  | none => H b
  | some _ => none
theorem less_some {H F : Hp} {b : Addr} {o : HO} : less H F b = some o ↔ H b = some o ∧ F b = none := by
  unfold less
  cases e : F b with
  | none => simp
  | some x => simp
theorem good_start {K : PySem.W.Frag} {F H : Hp} {vs : List V} {ds : List PyData} {N : List Str} (hF : Same F H) (hr : RpAll K F vs ds) (hl : vs.length ≤ N.length) :
    Good K (less H F) [] F H (L2.start N vs) (slots (N.length - vs.length) ds) [] := by
  have hd := rpa_len hr
  refine ⟨hF, fun b o e => less_some.mp e, by unfold L2.start slots; simp [hd], fun i d e => ?_, fun i k e => ?_, rfl, fun k a es e => by simp at e, List.nodup_nil, fun a ha => by cases ha⟩
  · unfold slots at e
    by_cases hi : i < ds.length
    · rw [List.getElem?_append_left (by simpa using hi), List.getElem?_map] at e
      cases e1 : ds[i]? with
      | none => rw [e1] at e; cases e
      | some d1 =>
        rw [e1] at e
        cases e
        obtain ⟨v, h1, h2⟩ := rpa_get hr e1
        refine ⟨v, ?_, h2⟩
        unfold L2.start
        rw [List.getElem?_append_left (by rw [List.length_map]; omega), List.getElem?_map, h1]
        rfl
    · rw [List.getElem?_append_right (by rw [List.length_map]; omega), List.getElem?_replicate] at e
      split at e <;> cases e
  · unfold slots at e
    by_cases hi : i < ds.length
    · rw [List.getElem?_append_left (by simpa using hi), List.getElem?_map] at e
      cases e1 : ds[i]? with
      | none => rw [e1] at e; cases e
      | some d1 => rw [e1] at e; cases e
    · rw [List.getElem?_append_right (by rw [List.length_map]; omega), List.getElem?_replicate] at e
      split at e <;> cases e
/-- a list of ours is frozen -/
theorem fin_freeze {K : PySem.W.Frag} {U : Hp} {A : List Addr} {F H : Hp} {m : Ms} {a : Addr} {u : HO} {d : PyData} (h : Fin K U 0 A F H m) (hF : F a = none) (hU : U a = none) (hH : H a = some u) (hr : Stored K F u d) :
    Same F (upd F a u) ∧ Fin K U 0 A (upd F a u) H m ∧ Rp K (upd F a u) (.ref a) d := by
  have s : Same F (upd F a u) := same_new hF
  refine ⟨s, ⟨fun b o e => ?_, fun b o e => ?_, fun k b es hk => absurd hk (Nat.not_lt_zero k)⟩, stored_rp upd_same (stored_mono s hr)⟩
  · by_cases hb : b = a
    · subst hb
      rw [upd_same] at e
      cases e
      exact hH
    · rw [upd_ne hb] at e
      exact h.sub b o e
  · have hb : b ≠ a := fun z => by rw [z, hU] at e; cases e
    rw [upd_ne hb]
    exact h.fo b o e
section
variable {P : Program} {w : World} {K : PySem.W.Frag} {mg : Str → Option Value} {base : Heap} {x qual : Str} {st : Stmt} {f : Addr} {fd : FuncData} {N ps : List Str} {k : Nat} {s : Es}
theorem go_D (hpl : ps.length ≤ N.length) {vs : List V} {H : Hp} {Q : VK} {E : XK} (h : spD K ps.length (runD (N.length - ps.length) s) vs H Q E) : ∃ U, tS K U 0 s { nx := fun _ H' => Q .non H', rt := Q } (L2.start N vs) H := by
  · obtain ⟨F0, ds, d, hF, hl, hr2, e, kk⟩ := h
    refine ⟨(less H F0), ?_⟩
    have G := good_start (N := N) hF hr2 (by omega)
    rw [hl] at G
    unfold runD at e
    cases e1 : s (slots (N.length - ps.length) ds) [] with
    | none => rw [e1] at e; cases e
    | some o =>
      rw [e1] at e
      refine ⟨[], F0, _, [], o, G, Nat.zero_le _, e1, ?_⟩
      have out := fun {F' H' : Hp} {A' : List Addr} {m' : Ms} (s1 : Same F0 F') (h : Fin K (less H F0) 0 A' F' H' m') {v : V} {d' : PyData} (hv : Rp K F' v d') (hd : some d' = some d) => by
        cases hd
        exact kk F' H' v s1 h.sub (fun b o e1 e2 => h.fo b o (less_some.mpr ⟨e1, e2⟩)) hv
      cases o with
      | nx r m => exact fun A' F' H' σ' _ s1 G' => out s1 (G'.fin (Nat.zero_le _)) .vn e
      | rt d' m => exact fun A' F' H' v _ s1 Fi hv => out s1 Fi hv e
      | rn es m =>
        intro A' F' H' a vs' _ s1 Fi q1 q2 _ q4 q5
        obtain ⟨w1, w2, w3⟩ := fin_freeze Fi q1 q2 q4 q5
        exact out (s1.trans w1) w2 w3 e
      | bk r m => cases e
      | ct r m => cases e
theorem fn_D (F : Fun K x qual st f fd) (S : FnScope N ps (defScope st)) (hpl : ps.length ≤ N.length)
    (hb : ∀ (cdv : Value) (A : Around) (outer : List Env) (s0 : Shared) (H : Hp) (E : XK) (U : Hp), Room k (A.deeper (PyProof.Rows.envOfC qual (defScope st) s0.heap.objs.size f cdv)) →
      PSs (cxOf CX0 P w K mg base N qual (defScope st) f cdv A outer s0 H E).nox (defBody st) (tS K U 0 s)) : FnOk P w K mg base CX0 (k + 1) f fd ps (spD K ps.length (runD (N.length - ps.length) s)) := by
  refine F.ok S (fun vs H Q E h => ?_) (fun cdv A outer s0 H vs Q E hr h => ?_)
  · obtain ⟨_, _, _, _, hl, _⟩ := h
    exact hl
  · obtain ⟨U, q⟩ := go_D hpl h
    exact ⟨_, hb cdv A outer s0 H E U hr, q⟩
theorem go_N (hpl : ps.length ≤ N.length) {vs : List V} {H : Hp} {Q : VK} {E : XK} (h : spN K ps.length (runN (N.length - ps.length) s) vs H Q E) : ∃ U, tS K U 0 s { nx := fun _ H' => Q .non H', rt := Q } (L2.start N vs) H := by
  · obtain ⟨F0, ds, es, hF, hl, hr2, e, kk⟩ := h
    refine ⟨(less H F0), ?_⟩
    have G := good_start (N := N) hF hr2 (by omega)
    rw [hl] at G
    unfold runN at e
    cases e1 : s (slots (N.length - ps.length) ds) [] with
    | none => rw [e1] at e; cases e
    | some o =>
      rw [e1] at e
      refine ⟨[], F0, _, [], o, G, Nat.zero_le _, e1, ?_⟩
      cases o with
      | rn es' m =>
        cases e
        intro A' F' H' a vs' _ s1 Fi q1 q2 _ q4 q5
        have hn : H a = none := by
          cases q : H a with
          | none => rfl
          | some o =>
            cases q0 : F0 a with
            | none =>
              have z := less_some.mpr ⟨q, q0⟩
              rw [q2] at z
              cases z
            | some o' =>
              rw [s1 a o' q0] at q1
              cases q1
        exact kk F' H' a vs' s1 Fi.sub (fun b o e1 e2 => Fi.fo b o (less_some.mpr ⟨e1, e2⟩)) q1 hn q4 q5
      | _ => cases e
theorem fn_N (F : Fun K x qual st f fd) (S : FnScope N ps (defScope st)) (hpl : ps.length ≤ N.length)
    (hb : ∀ (cdv : Value) (A : Around) (outer : List Env) (s0 : Shared) (H : Hp) (E : XK) (U : Hp), Room k (A.deeper (PyProof.Rows.envOfC qual (defScope st) s0.heap.objs.size f cdv)) →
      PSs (cxOf CX0 P w K mg base N qual (defScope st) f cdv A outer s0 H E).nox (defBody st) (tS K U 0 s)) : FnOk P w K mg base CX0 (k + 1) f fd ps (spN K ps.length (runN (N.length - ps.length) s)) := by
  refine F.ok S (fun vs H Q E h => ?_) (fun cdv A outer s0 H vs Q E hr h => ?_)
  · obtain ⟨_, _, _, _, hl, _⟩ := h
    exact hl
  · obtain ⟨U, q⟩ := go_N hpl h
    exact ⟨_, hb cdv A outer s0 H E U hr, q⟩
theorem go_R (hpl : ps.length + 1 ≤ N.length) {vs : List V} {H : Hp} {Q : VK} {E : XK} (h : spR K ps.length (runR (N.length - (ps.length + 1)) s) vs H Q E) : ∃ U, tS K U 1 s { nx := fun _ H' => Q .non H', rt := Q } (L2.start N vs) H := by
  · obtain ⟨F0, a, us, ws, cs, ds, d, cs', hF, rfl, hl, fa, ha, hu, hw, e, kk⟩ := h
    refine ⟨(fun b => if b = a then none else less H F0 b), ?_⟩
    have hd := rpa_len hw
    have G0 := good_start (N := N.drop 1) hF hw (by rw [List.length_drop]; omega)
    rw [List.length_drop, hl, Nat.sub_sub, Nat.add_comm 1] at G0
    have est : L2.start N (.ref a :: ws) = some (.ref a) :: L2.start (N.drop 1) ws := by
      unfold L2.start
      rw [List.length_drop, List.map_cons, List.length_cons, List.cons_append, hl, Nat.sub_sub, Nat.add_comm 1]
    have G : Good K (fun b => if b = a then none else less H F0 b) [a] F0 H (L2.start N (.ref a :: ws)) (.ow 0 :: slots (N.length - (ps.length + 1)) ds) [some cs] := by
      rw [est]
      refine ⟨hF, fun b o e => ?_, by rw [List.length_cons, List.length_cons, G0.len], fun i d' e => ?_, fun i j e => ?_, rfl, fun j b es e1 e2 => ?_, by simp, fun b hb => ⟨us, by rw [List.mem_singleton.mp hb]; exact ha⟩⟩
      · by_cases hb : b = a
        · simp [hb] at e
        · simp [hb] at e
          exact less_some.mp e
      · cases i with
        | zero => simp at e
        | succ i => exact G0.fz i d' (by simpa using e)
      · cases i with
        | zero =>
          simp at e
          subst e
          exact ⟨a, rfl, rfl⟩
        | succ i =>
          obtain ⟨b, q, _⟩ := G0.ow i j (by simpa using e)
          simp at q
      · cases j with
        | zero =>
          simp at e1
          subst e1
          cases e2
          exact ⟨fa, by simp, us, ha, hu⟩
        | succ j => simp at e1
    unfold runR at e
    cases e1 : s (.ow 0 :: slots (N.length - (ps.length + 1)) ds) [some cs] with
    | none => rw [e1] at e; cases e
    | some o =>
      rw [e1] at e
      refine ⟨[a], F0, _, [some cs], o, G, Nat.le_refl _, e1, ?_⟩
      have out : ∀ {F' H' : Hp} {A' : List Addr} {m' : Ms}, [a] <+: A' → Same F0 F' → Fin K (fun b => if b = a then none else less H F0 b) 1 A' F' H' m' → ∀ {v : V} {d' : PyData}, Rp K F' v d' → ((cellAt m' 0).map fun c => (d', c)) = some (d, cs') → Q v H' := by
        intro F' H' A' m' hA s1 h v d' hv hd
        have hA0 : A'[0]? = some a := by
          obtain ⟨t, rfl⟩ := hA
          rfl
        cases q2 : cellAt m' 0 with
        | none => rw [q2] at hd; cases hd
        | some es =>
        rw [q2] at hd
        cases hd
        obtain ⟨q1, vs', q3, q4⟩ := h.cl 0 a _ (Nat.lt_succ_self 0) hA0 q2
        refine kk F' H' v vs' s1 h.sub (fun b o e1 e2 hb => h.fo b o ?_) q1 q3 q4 hv
        show (if b = a then none else less H F0 b) = some o
        rw [if_neg hb]
        exact less_some.mpr ⟨e1, e2⟩
      cases o with
      | nx r m => exact fun A' F' H' σ' hA s1 G' => out hA s1 (G'.fin hA.length_le) .vn e
      | rt d' m => exact fun A' F' H' v hA s1 Fi hv => out hA s1 Fi hv e
      | rn es m => cases e
      | bk r m => cases e
      | ct r m => cases e
theorem fn_R {p0 : Str} (F : Fun K x qual st f fd) (S : FnScope N (p0 :: ps) (defScope st)) (hpl : ps.length + 1 ≤ N.length)
    (hb : ∀ (cdv : Value) (A : Around) (outer : List Env) (s0 : Shared) (H : Hp) (E : XK) (U : Hp), Room k (A.deeper (PyProof.Rows.envOfC qual (defScope st) s0.heap.objs.size f cdv)) →
      PSs (cxOf CX0 P w K mg base N qual (defScope st) f cdv A outer s0 H E).nox (defBody st) (tS K U 1 s)) : FnOk P w K mg base CX0 (k + 1) f fd (p0 :: ps) (spR K ps.length (runR (N.length - (ps.length + 1)) s)) := by
  refine F.ok S (fun vs H Q E h => ?_) (fun cdv A outer s0 H vs Q E hr h => ?_)
  · obtain ⟨_, _, _, ws, _, _, _, _, _, rfl, hl, _⟩ := h
    exact congrArg (· + 1) hl
  · obtain ⟨U, q⟩ := go_R hpl h
    exact ⟨_, hb cdv A outer s0 H E U hr, q⟩
end
end TL

end
/-! TL9 -/
section
set_option maxHeartbeats 4000000
namespace TL
open PySem L2

/-! ## callees and constants by name -/
structure Cal (P : Program) (w : World) (K : PySem.W.Frag) (mg : Str → Option Value) (base : Heap) (x : Str) (k : Nat) (ps : List Str) (sp : Sp) : Prop where
  ex : ∃ (f : Addr) (fd : FuncData), FnOk P w K mg base CX0 k f fd ps sp ∧ mg x = some (.ref f) ∧ PySem.W.keepIn K (.ref f) = true ∧ Binds K fd ps []
structure Glo (K : PySem.W.Frag) (mg : Str → Option Value) (x : Str) (d : PyData) : Prop where
  ex : ∃ (v : V) (u : Value), mg x = some u ∧ RelV v u ∧ ∀ F, Rp K F v d
section
variable {X : Cx} {U : Hp} {x : Str} {p pos : Pos} {e : Expr} {es : List Expr} {f : Eas} {j k n : Nat} {ps : List Str}
theorem qc_call {g : List PyData → Option PyData} (C : Cal X.prog X.w X.K X.mg X.base x k ps (spD X.K n g)) (hr : Room j X.A) (hjk : k ≤ j) (ha : PA X (e :: es) (tAs X.K U f)) (hg : Gl X x := by rfl) (hdb : (x == ("__debug__" : Str)) = false := by decide)
    (he : starEach (e :: es) X.env = (false, eval e X.env) :: starEach es X.env := by rfl) (hpl : (backTo pos (starEach es X.env)).any (·.1) = false := by rfl) :
    PE X (.Call (.Name x p) (e :: es) [] pos) (tE X.K U (eMap f (arN n g))) := by
  obtain ⟨fa, fd, h1, h2, h3, h4⟩ := C.ex
  exact qe_call h1 (hr.mono hjk) hg h2 h3 h4 ha hdb he hpl
theorem qc_callR {g : PyData → List PyData → Option (PyData × PyData)} (i : Nat) {y : Str} {p1 : Pos} (C : Cal X.prog X.w X.K X.mg X.base x k ps (spR X.K n g)) (hr : Room j X.A) (hjk : k ≤ j) (hv : PE X (.Name y p1) (tVar i)) (ha : PA X es (tAs X.K U f)) (hg : Gl X x := by rfl) (hdb : (x == ("__debug__" : Str)) = false := by decide)
    (he : starEach (.Name y p1 :: es) X.env = (false, eval (.Name y p1) X.env) :: starEach es X.env := by rfl) (hpl : (backTo pos (starEach es X.env)).any (·.1) = false := by rfl) :
    PE X (.Call (.Name x p) (.Name y p1 :: es) [] pos) (tE X.K U (eCallR n i g f)) := by
  obtain ⟨fa, fd, h1, h2, h3, h4⟩ := C.ex
  exact qe_callR i h1 (hr.mono hjk) hg h2 h3 h4 hv ha hdb he hpl
theorem qc_glo {d : PyData} (G : Glo X.K X.mg x d) (hg : Gl X x := by rfl) (hdb : (x == ("__debug__" : Str)) = false := by decide) : PE X (.Name x pos) (tE X.K U (eC d)) := by
  obtain ⟨v, u, h1, h2, h3⟩ := G.ex
  exact pe_weak (pe_glob hg h1 h2 hdb) fun σ H Q ⟨A, F, r, m, d', m', G, e, k⟩ => by
    cases e
    exact k F H v (Same.refl F) G (h3 F)
/-- x = f(..), f hands back a new list of its own -/
def sSetN (n i : Nat) (f : Eas) (g : List PyData → Option PyData) : Es := fun r m => (f r m).bind fun p => (arN n g p.1).map fun cs => .nx (r.set i (.ow p.2.length)) (p.2 ++ [some cs])
theorem qc_setN {n0 i : Nat} {y : Str} {p1 spos : Pos} {g : List PyData → Option PyData} (C : Cal X.prog X.w X.K X.mg X.base x k ps (spN X.K n g)) (hr : Room j X.A) (hjk : k ≤ j) (ha : PA X (e :: es) (tAs X.K U f)) (hN : X.N.Nodup) (hi : X.N[i]? = some y) (hx : Loc X.env.scope y)
    (hf : X.fn y = true ∨ X.env.scope.names.lookup y = some .local := by first | exact .inl rfl | exact .inr rfl | assumption) (hg : Gl X x := by rfl) (hdb : (x == ("__debug__" : Str)) = false := by decide)
    (he : starEach (e :: es) X.env = (false, eval e X.env) :: starEach es X.env := by rfl) (hpl : (backTo pos (starEach es X.env)).any (·.1) = false := by rfl)
    (hs : swapsWith (.Call (.Name x p) (e :: es) [] pos) (some (.Name y p1)) spos.line X.env = pure false := by rfl) :
    PS X (.Assign [.Name y p1] (.Call (.Name x p) (e :: es) [] pos) spos) (tS X.K U n0 (sSetN n i f g)) := by
  obtain ⟨fa, fd, Fn, h2, h3, h4⟩ := C.ex
  refine ps_weak (ps_set hN hi hx (pe_call Fn (hr.mono hjk) hg h2 h3 h4 .nil pass0 ha hdb he hpl) hs hf) fun D σ H ⟨A, F, r, m, o, G, hn, e, pp⟩ => ?_
  unfold sSetN at e
  cases e1 : f r m with
  | none => rw [e1] at e; cases e
  | some q =>
    obtain ⟨ds, m1⟩ := q
    rw [e1] at e
    simp only [Option.bind_some] at e
    cases e2 : arN n g ds with
    | none => rw [e2] at e; cases e
    | some cs =>
      rw [e2] at e
      cases e
      obtain ⟨l2, e3⟩ := arN_some e2
      refine ⟨A, F, r, m, ds, m1, G, e1, fun F1 H1 vs s1 G1 h1 => ?_⟩
      show spN X.K n g (vs ++ []) H1 _ E0
      rw [List.append_nil]
      refine ⟨F1, ds, cs, G1.sub, (rpa_len h1).trans l2, h1, e3, fun F2 H2 a us s2 s3 kk f2 na h2 r2 => ?_⟩
      have nU : U a = none := by
        cases q : U a with
        | none => rfl
        | some o => rw [(G1.fo a o q).1] at na; cases na
      exact pp (A ++ [a]) F2 H2 _ (List.prefix_append A [a]) (s1.trans s2) ((G1.past s2 s3 kk).setOw f2 nU (G1.notin na) h2 r2)
/-- x = e where x is a cell's name and e a further call that leaves it: plain -/
theorem loc_of {sc : Scope} {x : Str} (h : sc.names.lookup x = some .local ∨ sc.names.lookup x = some .cell) : Loc sc x := h
end
end TL

end
/-! TL10 -/
section
set_option maxHeartbeats 4000000
namespace TL
open PySem L2

/-! ## a op b op c -/
def eChain (o1 o2 : PyData → PyData → Option PyData) (f g h : Ev) : Ev := fun r m => (f r m).bind fun p => (g r p.2).bind fun q => (o1 p.1 q.1).bind fun z => match z with
  | .bool true => (h r q.2).bind fun w => (o2 q.1 w.1).map fun d => (d, w.2)
  | .bool false => some (.bool false, q.2)
  | _ => none
section
variable {X : Cx} {U : Hp} {pos : Pos} {a b c : Expr} {f g h : Ev} {op op' : CmpOp} {r1 r2 : R2} {o1 o2 : PyData → PyData → Option PyData}
theorem chain_read (w1 : OpD X U r1 o1) (w2 : OpD X U r2 o2) {σ : St} {H : Hp} {Q : VK} (hq : tE X.K U (eChain o1 o2 f g h) σ H Q) : tChain r1 r2 (tE X.K U f) (tE X.K U g) (tE X.K U h) σ H Q := by
  obtain ⟨A, F, r, m, d, m', G, e, k⟩ := hq
  unfold eChain at e
  cases e1 : f r m with
  | none => rw [e1] at e; cases e
  | some p1 =>
    obtain ⟨d1, m1⟩ := p1
    cases e2 : g r m1 with
    | none => simp [e1, e2] at e
    | some p2 =>
      obtain ⟨d2, m2⟩ := p2
      cases e3 : o1 d1 d2 with
      | none => simp [e1, e2, e3] at e
      | some z =>
        simp only [e1, e2, e3, Option.bind_some] at e
        refine ⟨A, F, r, m, d1, m1, G, e1, fun F1 H1 x s1 G1 h1 => ⟨A, F1, r, m1, d2, m2, G1, e2, fun F2 H2 y s2 G2 h2 => ?_⟩⟩
        refine w1 A F2 H2 σ r m2 x y d1 d2 z _ G2 (Rpm s2 h1) h2 e3 fun F3 H3 v s3 G3 h3 => ?_
        cases h3 with
        | vb bb =>
          refine ⟨bb, rfl, ?_⟩
          cases bb with
          | false =>
            refine iteF ?_
            cases e
            exact k F3 H3 _ (s1.trans (s2.trans s3)) G3 (.vb false)
          | true =>
            refine iteT ?_
            simp only at e
            cases e4 : h r m2 with
            | none => rw [e4] at e; cases e
            | some p4 =>
              obtain ⟨d4, m4⟩ := p4
              rw [e4] at e
              simp only [Option.bind_some] at e
              cases e5 : o2 d2 d4 with
              | none => rw [e5] at e; cases e
              | some d5 =>
                rw [e5] at e
                cases e
                refine ⟨A, F3, r, m2, d4, m', G3, e4, fun F4 H4 u s4 G4 h4 => ?_⟩
                exact w2 A F4 H4 σ r m' y u d2 d4 d Q G4 (Rpm (s3.trans s4) h2) h4 e5 fun F5 H5 v5 s5 G5 h5 => k F5 H5 v5 (s1.trans (s2.trans (s3.trans (s4.trans s5)))) G5 h5
        | _ => cases e
theorem qe_chain (c1 : OpR X (compareOp op) r1) (w1 : OpD X U r1 o1) (c2 : OpR X (compareOp op') r2) (w2 : OpD X U r2 o2) (ha : PE X a (tE X.K U f)) (hb : PE X b (tE X.K U g)) (hc : PE X c (tE X.K U h))
    (hm : lastMarks [op, op'] [b, c] = false := by with_unfolding_all rfl) : PE X (.Compare a [op, op'] [b, c] pos) (tE X.K U (eChain o1 o2 f g h)) := pe_weak (pe_chain c1 c2 ha hb hc hm) fun _ _ _ q => chain_read w1 w2 q
theorem qt_chain (c1 : OpR X (compareOp op) r1) (w1 : OpD X U r1 o1) (c2 : OpR X (compareOp op') r2) (w2 : OpD X U r2 o2) (ha : PE X a (tE X.K U f)) (hb : PE X b (tE X.K U g)) (hc : PE X c (tE X.K U h))
    (hm : lastMarks [op, op'] [b, c] = false := by with_unfolding_all rfl) : PT X (.Compare a [op, op'] [b, c] pos) (tT X.K U (eT blD (eChain o1 o2 f g h))) := pt_weak (pt_chain c1 c2 ha hb hc hm) fun σ H Q ⟨A, F, r, m, bb, m', G, e, k⟩ => by
  obtain ⟨d, e1, e2⟩ := et_some e
  exact chain_read w1 w2 ⟨A, F, r, m, d, m', G, e1, fun F1 H1 x s1 G1 h1 => ⟨bb, bl_of h1 e2, k F1 H1 s1 G1⟩⟩
end

/-! ## x op= e -/
def sAug (i : Nat) (op : PyData → PyData → Option PyData) (f : Ev) : Es := fun r m => (slD r[i]?).bind fun d => (f r m).bind fun p => (op d p.1).map fun z => .nx (r.set i (.fz z)) p.2
theorem slD_some {s : Option Sl} {d : PyData} (e : slD s = some d) : s = some (.fz d) := by
  unfold slD at e
  split at e
  · cases e; rfl
  · cases e
section
variable {X : Cx} {U : Hp} {n0 : Nat} {pos : Pos} {e : Expr} {f : Ev} {op : Operator} {rd : R2} {od : PyData → PyData → Option PyData}
theorem qs_aug {i : Nat} {x : Str} {p1 : Pos} (hr : OpR X (inplaceOp op) rd) (ho : OpD X U rd od) (hN : X.N.Nodup) (hi : X.N[i]? = some x) (hx : Loc X.env.scope x) (he : PE X e (tE X.K U f))
    (hf : X.fn x = true ∨ X.env.scope.names.lookup x = some .local := by first | exact .inl rfl | exact .inr rfl | assumption) : PS X (.AugAssign (.Name x p1) op e pos) (tS X.K U n0 (sAug i od f)) :=
  ps_weak (ps_aug (ti := rd) hN hi hx he (fun pins s σ H x y v u Q I r1 r2 h => hr pins s σ H x y v u Q I r1 r2 h) hf) fun D σ H ⟨A, F, r, m, o, G, hn, e, p⟩ => by
  unfold sAug at e
  cases e0 : slD r[i]? with
  | none => rw [e0] at e; cases e
  | some d0 =>
    rw [e0] at e
    simp only [Option.bind_some] at e
    obtain ⟨v, hv, hd⟩ := G.fz i d0 (slD_some e0)
    cases e1 : f r m with
    | none => rw [e1] at e; cases e
    | some q =>
      obtain ⟨d1, m1⟩ := q
      rw [e1] at e
      simp only [Option.bind_some] at e
      cases e2 : od d0 d1 with
      | none => rw [e2] at e; cases e
      | some z =>
        rw [e2] at e
        cases e
        refine ⟨v, hv, A, F, r, m, d1, m1, G, e1, fun F1 H1 y s1 G1 h1 => ?_⟩
        exact ho A F1 H1 σ r m1 v y d0 d1 z _ G1 (Rpm s1 hd) h1 e2 fun F2 H2 w s2 G2 h2 => p A F2 H2 _ (List.prefix_refl A) (s1.trans s2) (G2.setFz h2)
end
def addI : PyData → PyData → Option PyData
  | .int i, .int j => some (.int (i + j))
  | .str a, .str b => if a.length + b.length ≤ sizeLine then some (.str (a ++ b)) else none
  | _, _ => none
section
variable {X : Cx} {U : Hp}
theorem od_addI : OpD X U (fun x y H Q => rI0 (fun i j => .int (i + j)) x y H Q ∨ (∃ i j, x = .str i ∧ y = .str j ∧ i.length + j.length ≤ sizeLine ∧ Q (.str (i ++ j)) H)) addI := by
  intro A F H σ r m x y a b d Q G ha hb e k
  unfold addI at e
  split at e
  · cases ha; cases hb; cases e
    exact .inl ⟨_, _, rfl, rfl, k F H _ (Same.refl F) G (.vi _)⟩
  · split at e
    · rename_i hs
      cases ha; cases hb; cases e
      exact .inr ⟨_, _, rfl, rfl, hs, k F H _ (Same.refl F) G (.vs _)⟩
    · cases e
  · cases e
theorem or_addI : OpR X (inplaceOp .Add) (fun x y H Q => rI0 (fun i j => .int (i + j)) x y H Q ∨ (∃ i j, x = .str i ∧ y = .str j ∧ i.length + j.length ≤ sizeLine ∧ Q (.str (i ++ j)) H)) := opr_or iop_add iop_add_str
end

/-! ## while, with so many turns at most -/
def whileS (c : Et) (body : Es) : Nat → Es
  | 0, _, _ => none
  | n + 1, r, m => (c r m).bind fun b => if b.1 = true then (body r b.2).bind fun o => match o with
      | .nx r2 m2 => whileS c body n r2 m2
      | .ct r2 m2 => whileS c body n r2 m2
      | .bk r2 m2 => some (.nx r2 m2)
      | o => some o
    else some (.nx r b.2)
section
variable {X : Cx} {U : Hp} {n0 : Nat} {pos : Pos} {c : Expr} {body : List Stmt} {t : Et} {s : Es}
theorem qs_while (n : Nat) (hp : PassesOwn (model X.prog X.w) X.A X.env X.xe) (hc : PT X c (tT X.K U t)) (hb : PSs X body (tS X.K U n0 s)) : PS X (.While c body [] pos) (tS X.K U n0 (whileS t s n)) := ps_weak (ps_while hp hc hb) fun D σ H ⟨A, F, r, m, o, G, hn, e, p⟩ => by
  refine ⟨fun n σ2 H2 => ∃ (A2 : List Addr) (F2 : Hp) (r2 : Rs) (m2 : Ms), A <+: A2 ∧ Same F F2 ∧ Good X.K U A2 F2 H2 σ2 r2 m2 ∧ whileS t s n r2 m2 = some o, ⟨n, A, F, r, m, List.prefix_refl A, Same.refl F, G, e⟩, ?_⟩
  rintro n σ2 H2 ⟨A2, F2, r2, m2, hA, hF, G2, e2⟩
  cases n with
  | zero => cases e2
  | succ n =>
    unfold whileS at e2
    cases e3 : t r2 m2 with
    | none => rw [e3] at e2; cases e2
    | some q =>
      obtain ⟨b, m3⟩ := q
      rw [e3] at e2
      simp only [Option.bind_some] at e2
      refine ⟨A2, F2, r2, m2, b, m3, G2, e3, fun F3 H3 s3 G3 => ?_⟩
      cases b with
      | false =>
        refine iteF ?_
        cases e2
        exact p A2 F3 H3 σ2 hA (hF.trans s3) G3
      | true =>
        refine iteT ?_
        rw [if_pos rfl] at e2
        cases e4 : s r2 m3 with
        | none => rw [e4] at e2; cases e2
        | some o4 =>
          rw [e4] at e2
          simp only [Option.bind_some] at e2
          refine ⟨fun σ' H' => ∃ (A' : List Addr) (F' : Hp) (r' : Rs) (m' : Ms), A <+: A' ∧ Same F F' ∧ Good X.K U A' F' H' σ' r' m' ∧ whileS t s n r' m' = some o, fun σ' H' w => ⟨n, Nat.lt_succ_self n, w⟩, A2, F3, r2, m3, o4, G3, len_of hA hn, e4, ?_⟩
          have hF3 : Same F F3 := hF.trans s3
          have past := fun {A' : List Addr} {F' : Hp} (ha : A2 <+: A') (hf : Same F3 F') => Post.later (K := X.K) (U := U) (n0 := n0) (D := D) (hA.trans ha) (hF3.trans hf) p
          cases o4 with
          | nx r5 m5 => exact fun A' F' H' σ' ha hf G' => ⟨A', F', r5, m5, hA.trans ha, hF3.trans hf, G', e2⟩
          | ct r5 m5 => exact fun A' F' H' σ' ha hf G' => ⟨A', F', r5, m5, hA.trans ha, hF3.trans hf, G', e2⟩
          | bk r5 m5 =>
            cases e2
            exact fun A' F' H' σ' ha hf G' => past ha hf A' F' H' σ' (List.prefix_refl A') (Same.refl F') G'
          | rt d m5 =>
            cases e2
            exact fun A' F' H' v ha hf Fi hv => past ha hf A' F' H' v (List.prefix_refl A') (Same.refl F') Fi hv
          | rn ds5 m5 =>
            cases e2
            exact fun A' F' H' a u ha hf Fi q1 q2 q3 q4 q5 => past ha hf A' F' H' a u (List.prefix_refl A') (Same.refl F') Fi q1 q2 q3 q4 q5
end

/-! ## zip of two lists, of two tuples; *e -/
def zipD : List PyData → List PyData → List PyData
  | a :: as, b :: bs => .tuple [a, b] :: zipD as bs
  | _, _ => []
theorem zipD_get : ∀ {as bs : List PyData} {i : Nat} {d : PyData}, (zipD as bs)[i]? = some d → ∃ a b, as[i]? = some a ∧ bs[i]? = some b ∧ d = .tuple [a, b]
  | [], _, i, d, e => by simp [zipD] at e
  | _ :: _, [], i, d, e => by simp [zipD] at e
  | a :: as, b :: bs, 0, d, e => by simp [zipD] at e; exact ⟨a, b, rfl, rfl, e.symm⟩
  | a :: as, b :: bs, i + 1, d, e => by
    simp only [zipD, List.getElem?_cons_succ] at e
    obtain ⟨x, y, h1, h2, h3⟩ := zipD_get e
    exact ⟨x, y, by simpa using h1, by simpa using h2, h3⟩
theorem zipD_len : ∀ (as bs : List PyData), as.length ≤ (zipD as bs).length ∨ bs.length ≤ (zipD as bs).length
  | [], _ => .inl (Nat.zero_le _)
  | _ :: _, [] => .inr (Nat.zero_le _)
  | _ :: as, _ :: bs => by
    rcases zipD_len as bs with h | h
    · exact .inl (Nat.succ_le_succ h)
    · exact .inr (Nat.succ_le_succ h)
def zip2 : List PyData → Option (List PyData)
  | [.list a, .list b] => some (zipD a b)
  | [.tuple a, .tuple b] => some (zipD a b)
  | _ => none
def eZip (f : Eas) : Eas := fun r m => (f r m).bind fun p => (zip2 p.1).map fun ds => (ds, p.2)
theorem wk_zip {K : PySem.W.Frag} {Z F : Hp} {a b : Addr} {xs ys : List V} {ds es : List PyData} (hs : SqL K F a xs) (hr : RpAll K F xs ds) (hs' : SqL K F b ys) (hr' : RpAll K F ys es) : Wk K Z (Itz K a b) F (zipD ds es) where
  go := fun U A σ r m F1 H1 i d _ s1 G1 e => by
    obtain ⟨d1, d2, g1, g2, e3⟩ := zipD_get e
    subst e3
    obtain ⟨v1, h1, h2⟩ := rpa_get hr g1
    obtain ⟨v2, h3, h4⟩ := rpa_get hr' g2
    have q1 : SqL K H1 a xs := (sqL_mono (s1.trans G1.sub) hs)
    have q2 : SqL K H1 b ys := (sqL_mono (s1.trans G1.sub) hs')
    refine ⟨⟨xs, ys, v1, v2, q1, q2, h1, h3⟩, fun x H2 hy => ?_⟩
    obtain ⟨T, y1, y2, e2, nT, e3, k1, k2⟩ := hy
    have z1 := k1 xs q1
    have z2 := k2 ys q2
    rw [h1] at z1
    rw [h3] at z2
    cases z1
    cases z2
    subst e2 e3
    have sF : Same F1 (upd F1 T (.tup [v1, v2])) := same_new (G1.nope nT).1
    exact ⟨_, sF, G1.laid nT, .vt (.inl (.inl upd_same)) (.cons (Rpm (s1.trans sF) h2) (.cons (Rpm (s1.trans sF) h4) .nil))⟩
  stop := fun F1 H1 _ s1 s2 => ⟨xs, ys, (sqL_mono (s1.trans s2) hs), (sqL_mono (s1.trans s2) hs'), by rw [rpa_len hr, rpa_len hr']; exact zipD_len ds es⟩
theorem wk_zipT {K : PySem.W.Frag} {Z F : Hp} {a b : Addr} {xs ys : List V} {ds es : List PyData} (hs : SqT K F a xs) (hr : RpAll K F xs ds) (hs' : SqT K F b ys) (hr' : RpAll K F ys es) : Wk K Z (RZ.ItzT K a b) F (zipD ds es) where
  go := fun U A σ r m F1 H1 i d _ s1 G1 e => by
    obtain ⟨d1, d2, g1, g2, e3⟩ := zipD_get e
    subst e3
    obtain ⟨v1, h1, h2⟩ := rpa_get hr g1
    obtain ⟨v2, h3, h4⟩ := rpa_get hr' g2
    have q1 : SqT K H1 a xs := seqT_mono (s1.trans G1.sub) hs
    have q2 : SqT K H1 b ys := seqT_mono (s1.trans G1.sub) hs'
    refine ⟨⟨xs, ys, v1, v2, q1, q2, h1, h3⟩, fun x H2 hy => ?_⟩
    obtain ⟨T, y1, y2, e2, nT, e3, k1, k2⟩ := hy
    have z1 := k1 xs q1
    have z2 := k2 ys q2
    rw [h1] at z1
    rw [h3] at z2
    cases z1
    cases z2
    subst e2 e3
    have sF : Same F1 (upd F1 T (.tup [v1, v2])) := same_new (G1.nope nT).1
    exact ⟨_, sF, G1.laid nT, .vt (.inl (.inl upd_same)) (.cons (Rpm (s1.trans sF) h2) (.cons (Rpm (s1.trans sF) h4) .nil))⟩
  stop := fun F1 H1 _ s1 s2 => ⟨xs, ys, seqT_mono (s1.trans s2) hs, seqT_mono (s1.trans s2) hs', by rw [rpa_len hr, rpa_len hr']; exact zipD_len ds es⟩
section
variable {X : Cx} {U : Hp} {a b : Expr} {fs : Eas} {p pos tpos : Pos}
theorem qi_zip {elts : List Expr} {kk : Nat} (hg : Gl X "zip") (hm : X.mg "zip" = none) (ha : PA X [a, b] (tAs X.K U fs)) (hs : starEach [a, b] X.env = (false, eval a X.env) :: starEach [b] X.env := by rfl) (hpl : (backTo pos (starEach [b] X.env)).any (·.1) = false := by rfl) :
    PI X (.Tuple elts kk tpos) (.Call (.Name "zip" p) [a, b] [] pos) (tIt X.K U (eZip fs)) := by
  refine ⟨fun pins s σ H R I ⟨A, F, r, m, ds, m', G, e0, k⟩ => ?_⟩
  refine (RZ.pi_zipA hg hm ha hs hpl).run pins s σ H R I ?_
  unfold eZip at e0
  cases e1 : fs r m with
  | none => rw [e1] at e0; cases e0
  | some q =>
    obtain ⟨es, m1⟩ := q
    rw [e1] at e0
    simp only [Option.bind_some] at e0
    cases e2 : zip2 es with
    | none => rw [e2] at e0; cases e0
    | some zs =>
      rw [e2] at e0
      cases e0
      refine ⟨A, F, r, m, es, m', G, e1, fun F1 H1 vs s1 G1 h1 => ?_⟩
      unfold zip2 at e2
      split at e2
      · cases e2
        obtain ⟨v, w, rfl, h, h'⟩ := rpa2 h1
        cases h with
        | vl sa ra => cases h' with
          | vl sb rb => exact ⟨_, _, _, _, rfl, .inl ⟨(sqL_mono G1.sub sa), (sqL_mono G1.sub sb), k F1 H1 _ s1 G1 (wk_zip sa ra sb rb)⟩⟩
      · cases e2
        obtain ⟨v, w, rfl, h, h'⟩ := rpa2 h1
        cases h with
        | vt sa ra => cases h' with
          | vt sb rb => exact ⟨_, _, _, _, rfl, .inr ⟨seqT_mono G1.sub sa, seqT_mono G1.sub sb, k F1 H1 _ s1 G1 (wk_zipT sa ra sb rb)⟩⟩
      · cases e2
def eStar (f : Ev) (g : Eas) : Eas := fun r m => (f r m).bind fun p => match p.1 with
  | .list ds => (g r p.2).map fun q => (ds ++ q.1, q.2)
  | .tuple ds => (g r p.2).map fun q => (ds ++ q.1, q.2)
  | _ => none
theorem qa_star {e : Expr} {es : List Expr} {f : Ev} {g : Eas} (ha : PE X e (tE X.K U f)) (hr : PA X es (tAs X.K U g)) (hs : starEach (.Starred e p :: es) X.env = (true, eval e X.env) :: starEach es X.env := by rfl) :
    PA X (.Starred e p :: es) (tAs X.K U (eStar f g)) := pa_weak (StX.pa_star ha hr hs) fun σ H Q ⟨A, F, r, m, ds, m', G, e, k⟩ => by
  unfold eStar at e
  cases e1 : f r m with
  | none => rw [e1] at e; cases e
  | some q =>
    obtain ⟨d1, m1⟩ := q
    rw [e1] at e
    simp only [Option.bind_some] at e
    split at e
    · cases e2 : g r m1 with
      | none => rw [e2] at e; cases e
      | some q2 =>
        rw [e2] at e
        cases e
        refine ⟨A, F, r, m, _, m1, G, e1, fun F1 H1 x s1 G1 h1 => ?_⟩
        cases h1 with
        | vl sa ra => exact ⟨_, _, rfl, .inr ((sqL_mono G1.sub sa)), A, F1, r, m1, q2.1, q2.2, G1, e2, fun F2 H2 vs s2 G2 h2 => k F2 H2 _ (s1.trans s2) G2 (rpa_app (Rpam s2 ra) h2)⟩
    · cases e2 : g r m1 with
      | none => rw [e2] at e; cases e
      | some q2 =>
        rw [e2] at e
        cases e
        refine ⟨A, F, r, m, _, m1, G, e1, fun F1 H1 x s1 G1 h1 => ?_⟩
        cases h1 with
        | vt sa ra => exact ⟨_, _, rfl, .inl (seqT_mono G1.sub sa), A, F1, r, m1, q2.1, q2.2, G1, e2, fun F2 H2 vs s2 G2 h2 => k F2 H2 _ (s1.trans s2) G2 (rpa_app (Rpam s2 ra) h2)⟩
    · cases e
end
theorem room65 {k : Nat} {A : Around} (r : Room k A) : A.units + 65 < cLine := by have := r.un; omega
end TL

end
/-! TL11 -/
section
set_option maxHeartbeats 4000000
namespace TL
open PySem L2

/-! ## a cell frozen ahead of a block -/
def sFrz (i : Nat) (s : Es) : Es := fun r m => (slO r[i]?).bind fun k => (cellAt m k).bind fun d => s (frzR k d r) (m.set k none)
section
variable {X : Cx} {U : Hp} {n0 : Nat}
theorem qs_frz (i : Nat) {body : List Stmt} {s : Es} (h : PSs X body (tS X.K U n0 s)) : PSs X body (tS X.K U n0 (sFrz i s)) := pss_weak h fun D σ H ⟨A, F, r, m, o, G, hn, e, p⟩ => by
  unfold sFrz at e
  cases e0 : slO r[i]? with
  | none => rw [e0] at e; cases e
  | some k =>
    rw [e0] at e
    simp only [Option.bind_some] at e
    cases e1 : cellAt m k with
    | none => rw [e1] at e; cases e
    | some d =>
      rw [e1] at e
      simp only [Option.bind_some] at e
      obtain ⟨a, hA, hσ⟩ := G.ow i k (slO_some e0)
      obtain ⟨u, s1, G1, _⟩ := G.freeze hA e1
      exact ⟨A, _, _, _, o, G1, hn, e, p.later (List.prefix_refl A) s1⟩
/-- the slot i forgotten (a name that is not read any more, or stored anew) -/
theorem qs_setF {i : Nat} {x : Str} {p1 pos : Pos} {e : Expr} {f : Ev} (hN : X.N.Nodup) (hi : X.N[i]? = some x) (hx : Loc X.env.scope x) (he : PE X e (tN X.K U f)) (hs : swapsWith e (some (.Name x p1)) pos.line X.env = pure false := by rfl)
    (hf : X.fn x = true ∨ X.env.scope.names.lookup x = some .local := by first | exact .inl rfl | exact .inr rfl | assumption) : PS X (.Assign [.Name x p1] e pos) (tS X.K U n0 (sSetF i f)) := ps_weak (ps_set hN hi hx he hs hf) fun D σ H ⟨A, F, r, m, o, G, hn, e, p⟩ => by
  unfold sSetF at e
  cases e1 : f r m with
  | none => rw [e1] at e; cases e
  | some q =>
    rw [e1] at e
    cases e
    exact ⟨A, F, r, m, q.1, q.2, G, e1, fun F1 H1 a u s1 G1 q1 q2 q3 q4 q5 => p (A ++ [a]) F1 H1 _ (List.prefix_append A [a]) s1 (G1.setOw q1 q2 q3 q4 q5)⟩
/-- return e, e a new object, as one that the caller may change -/
def sRetF (f : Ev) : Es := fun r m => (f r m).map fun p => .rn p.1 p.2
theorem qs_retF {pos : Pos} {e : Expr} {f : Ev} (he : PE X e (tN X.K U f)) : PS X (.Return (some e) pos) (tS X.K U n0 (sRetF f)) := ps_weak (ps_ret he) fun D σ H ⟨A, F, r, m, o, G, hn, e, p⟩ => by
  unfold sRetF at e
  cases e1 : f r m with
  | none => rw [e1] at e; cases e
  | some q =>
    rw [e1] at e
    cases e
    exact ⟨A, F, r, m, q.1, q.2, G, e1, fun F1 H1 a u s1 G1 q1 q2 q3 q4 q5 => p A F1 H1 a u (List.prefix_refl A) s1 (G1.fin hn) q1 q2 (fun k _ e2 => q3 (List.mem_of_getElem? e2)) q4 q5⟩
/-- return x, x a cell's name, not one of the first n0 -/
def sRetC (n0 i : Nat) : Es := fun r m => (slO r[i]?).bind fun k => if n0 ≤ k then (cellAt m k).map fun d => .rn d m else none
theorem qs_retC (i : Nat) {x : Str} {p1 pos : Pos} (hv : PE X (.Name x p1) (tVar i)) : PS X (.Return (some (.Name x p1)) pos) (tS X.K U n0 (sRetC n0 i)) := ps_weak (ps_ret hv) fun D σ H ⟨A, F, r, m, o, G, hn, e, p⟩ => by
  unfold sRetC at e
  cases e0 : slO r[i]? with
  | none => rw [e0] at e; cases e
  | some k =>
    rw [e0] at e
    simp only [Option.bind_some] at e
    split at e
    · rename_i hk
      cases e1 : cellAt m k with
      | none => rw [e1] at e; cases e
      | some d =>
        rw [e1] at e
        cases e
        obtain ⟨a, hA, hσ⟩ := G.ow i k (slO_some e0)
        obtain ⟨c1, c2, u, c3, c4⟩ := G.cl k a d hA e1
        refine ⟨_, hσ, p A F H a u (List.prefix_refl A) (Same.refl F) (G.fin hn) c1 c2 (fun j hj e2 => ?_) c3 c4⟩
        obtain ⟨l1, q1⟩ := List.getElem?_eq_some_iff.mp e2
        obtain ⟨l2, q2⟩ := List.getElem?_eq_some_iff.mp hA
        have := (List.getElem_inj G.nd).mp (q1.trans q2.symm)
        omega
    · cases e

/-! ## new objects by built-ins and operators -/
def CallN (X : Cx) (U : Hp) (rc : List V → Hp → VK → Prop) (op : List PyData → Option PyData) : Prop :=
  ∀ (A : List Addr) (F H : Hp) (σ : St) (r : Rs) (m : Ms) (vs : List V) (ds : List PyData) (d : PyData) (Q : VK), Good X.K U A F H σ r m → RpAll X.K F vs ds → op ds = some d →
    (∀ (F' H' : Hp) (a : Addr) (u : HO), Same F F' → Good X.K U A F' H' σ r m → F' a = none → U a = none → a ∉ A → H' a = some u → Stored X.K F' u d → Q (.ref a) H') → rc vs H Q
theorem cbN {rc : List V → Hp → VK → Prop} {op : List PyData → Option PyData} {f : Eas} (ho : CallN X U rc op) {σ : St} {H : Hp} {Q : VK} (h : tN X.K U (eMap f op) σ H Q) : tCB rc (tAs X.K U f) σ H Q := by
  obtain ⟨A, F, r, m, d, m', G, e, k⟩ := h
  obtain ⟨ds, e1, e2⟩ := map_some e
  exact ⟨A, F, r, m, ds, m', G, e1, fun F1 H1 vs s1 G1 h1 => ho A F1 H1 σ r m' vs ds d Q G1 h1 e2 fun F2 H2 a u s2 G2 q1 q2 q3 q4 q5 => k F2 H2 a u (s1.trans s2) G2 q1 q2 q3 q4 q5⟩
variable {x : Str} {p pos : Pos} {e : Expr} {es : List Expr} {id T : String} {rc : List V → Hp → VK → Prop} {op : List PyData → Option PyData} {f : Eas}
theorem qn_callB (hc : CallR X (.builtin id) rc) (ho : CallN X U rc op) (hg : Gl X x) (hm : X.mg x = none) (hv : bootBuiltins x = some (.builtin id)) (ha : PA X (e :: es) (tAs X.K U f)) (hn : x ≠ "__name__" := by decide) (hdb : (x == ("__debug__" : Str)) = false := by decide)
    (he : starEach (e :: es) X.env = (false, eval e X.env) :: starEach es X.env := by rfl) (hpl : (backTo pos (starEach es X.env)).any (·.1) = false := by rfl) : PE X (.Call (.Name x p) (e :: es) [] pos) (tN X.K U (eMap f op)) :=
  pe_weak (pe_callB hc hg hm hv ha hn hdb he hpl) fun _ _ _ h => cbN ho h
theorem qn_callTy (hc : CallR X (.type T) rc) (ho : CallN X U rc op) (hg : Gl X x) (hm : X.mg x = none) (hv : bootBuiltins x = some (.type T)) (ha : PA X (e :: es) (tAs X.K U f)) (hn : x ≠ "__name__" := by decide) (hdb : (x == ("__debug__" : Str)) = false := by decide)
    (he : starEach (e :: es) X.env = (false, eval e X.env) :: starEach es X.env := by rfl) (hpl : (backTo pos (starEach es X.env)).any (·.1) = false := by rfl) : PE X (.Call (.Name x p) (e :: es) [] pos) (tN X.K U (eMap f op)) :=
  pe_weak (pe_callTy hc hg hm hv ha hn hdb he hpl) fun _ _ _ h => cbN ho h
theorem cn_list : CallN X U (fun xs H Q => ∃ p ys, xs = [.ref p] ∧ (SqL X.K H p ys ∨ SqT X.K H p ys) ∧ ∀ l, H l = none → Q (.ref l) (upd H l (.lst ys))) listD := by
  intro A F H σ r m vs ds d Q G ha e k
  unfold listD at e
  split at e
  · cases e
    obtain ⟨v, rfl, h⟩ := rpa1 ha
    cases h with
    | vl sa ra => exact ⟨_, _, rfl, .inl ((sqL_mono G.sub sa)), fun l hl => k F _ l _ (Same.refl F) (G.laidO hl) (G.nope hl).1 (G.nope hl).2 (G.notin hl) upd_same ⟨_, rfl, ra⟩⟩
  · cases e
    obtain ⟨v, rfl, h⟩ := rpa1 ha
    cases h with
    | vt sa ra => exact ⟨_, _, rfl, .inr (seqT_mono G.sub sa), fun l hl => k F _ l _ (Same.refl F) (G.laidO hl) (G.nope hl).1 (G.nope hl).2 (G.notin hl) upd_same ⟨_, rfl, ra⟩⟩
  · cases e
theorem qn_lst {f : Eas} (h : PA X es (tAs X.K U f)) : PE X (.List es pos) (tN X.K U (eLst f)) := pe_weak (pe_lst h) fun σ H Q ⟨A, F, r, m, d, m', G, e, k⟩ => by
  unfold eLst at e
  cases e1 : f r m with
  | none => rw [e1] at e; cases e
  | some p =>
    obtain ⟨ds, m1⟩ := p
    simp [e1] at e
    obtain ⟨hz, z1, z2⟩ := e
    subst z1 z2
    exact ⟨A, F, r, m, ds, m1, G, e1, fun F1 H1 xs s1 G1 h1 => ⟨by rw [rpa_len h1]; exact hz, fun p np => k F1 _ p _ s1 (G1.laidO np) (G1.nope np).1 (G1.nope np).2 (G1.notin np) upd_same ⟨_, rfl, h1⟩⟩⟩
/-- f(..) of a def that hands back a new object -/
theorem qn_call {g : List PyData → Option PyData} {j k n : Nat} {ps : List Str} (C : Cal X.prog X.w X.K X.mg X.base x k ps (spN X.K n g)) (hr : Room j X.A) (hjk : k ≤ j) (ha : PA X (e :: es) (tAs X.K U f)) (hg : Gl X x := by rfl) (hdb : (x == ("__debug__" : Str)) = false := by decide)
    (he : starEach (e :: es) X.env = (false, eval e X.env) :: starEach es X.env := by rfl) (hpl : (backTo pos (starEach es X.env)).any (·.1) = false := by rfl) : PE X (.Call (.Name x p) (e :: es) [] pos) (tN X.K U (eMap f (arN n g))) := by
  obtain ⟨fa, fd, Fn, h2, h3, h4⟩ := C.ex
  refine pe_weak (pe_call Fn (hr.mono hjk) hg h2 h3 h4 .nil pass0 ha hdb he hpl) fun σ H Q ⟨A, F, r, m, d, m', G, e, kk⟩ => ?_
  obtain ⟨ds, e1, e2⟩ := map_some e
  refine ⟨A, F, r, m, ds, m', G, e1, fun F1 H1 vs s1 G1 h1 => ?_⟩
  show spN X.K n g (vs ++ []) H1 Q E0
  rw [List.append_nil]
  obtain ⟨l2, e3⟩ := arN_some e2
  refine ⟨F1, ds, d, G1.sub, (rpa_len h1).trans l2, h1, e3, fun F2 H2 a u s2 s3 k3 f2 na h2 r2 => ?_⟩
  have nU : U a = none := by
    cases q : U a with
    | none => rfl
    | some o => rw [(G1.fo a o q).1] at na; cases na
  exact kk F2 H2 a u (s1.trans s2) (G1.past s2 s3 k3) f2 nU (G1.notin na) h2 r2

/-! ## a cell looked at -/
/-- len(x), x a cell's name -/
def eLenO (i : Nat) : Ev := fun r m => (slO r[i]?).bind fun k => (cellAt m k).bind fun c => match c with | .list ds => some (.int ds.length, m) | _ => none
theorem qe_lenO (i : Nat) {y : Str} {p1 : Pos} (hv : PE X (.Name y p1) (tVar i)) (hg : Gl X x) (hx : x = "len") (hm : X.mg x = none) (hb : bootBuiltins x = some (.builtin "len")) (hn : x ≠ "__name__" := by decide) (hdb : (x == ("__debug__" : Str)) = false := by decide)
    (he : starEach [.Name y p1] X.env = (false, eval (.Name y p1) X.env) :: starEach [] X.env := by rfl) (hpl : (backTo pos (starEach [] X.env)).any (·.1) = false := by rfl) : PE X (.Call (.Name x p) [.Name y p1] [] pos) (tE X.K U (eLenO i)) :=
  pe_weak (pe_callB call_len_seq hg hm hb (pa_cons hv pa_nil he) hn hdb he hpl) fun σ H Q ⟨A, F, r, m, d, m', G, e, k⟩ => by
  unfold eLenO at e
  cases e0 : slO r[i]? with
  | none => rw [e0] at e; cases e
  | some kk =>
    rw [e0] at e
    simp only [Option.bind_some] at e
    cases e1 : cellAt m kk with
    | none => rw [e1] at e; cases e
    | some c =>
      rw [e1] at e
      simp only [Option.bind_some] at e
      split at e
      · cases e
        obtain ⟨a, hA, hσ⟩ := G.ow i kk (slO_some e0)
        obtain ⟨c1, c2, u, c3, vs, c5, c4⟩ := G.cl kk a _ hA e1
        subst c5
        refine ⟨_, hσ, a, vs, rfl, .inl (.inl (.inl c3)), ?_⟩
        rw [rpa_len c4]
        exact k F H _ (Same.refl F) G (.vi _)
      · cases e
/-- tuple(x), list(x) -/
def eSeqO (i : Nat) (mk : List PyData → PyData) : Ev := fun r m => (slO r[i]?).bind fun k => (cellAt m k).bind fun c => match c with | .list ds => some (mk ds, m) | _ => none
theorem qe_tupO (i : Nat) {y : Str} {p1 : Pos} (hv : PE X (.Name y p1) (tVar i)) (hg : Gl X x) (hm : X.mg x = none) (hb : bootBuiltins x = some (.type "tuple")) (hn : x ≠ "__name__" := by decide) (hdb : (x == ("__debug__" : Str)) = false := by decide)
    (he : starEach [.Name y p1] X.env = (false, eval (.Name y p1) X.env) :: starEach [] X.env := by rfl) (hpl : (backTo pos (starEach [] X.env)).any (·.1) = false := by rfl) : PE X (.Call (.Name x p) [.Name y p1] [] pos) (tE X.K U (eSeqO i .tuple)) :=
  pe_weak (pe_callTy call_tuple_of hg hm hb (pa_cons hv pa_nil he) hn hdb he hpl) fun σ H Q ⟨A, F, r, m, d, m', G, e, k⟩ => by
  unfold eSeqO at e
  cases e0 : slO r[i]? with
  | none => rw [e0] at e; cases e
  | some kk =>
    rw [e0] at e
    simp only [Option.bind_some] at e
    cases e1 : cellAt m kk with
    | none => rw [e1] at e; cases e
    | some c =>
      rw [e1] at e
      simp only [Option.bind_some] at e
      split at e
      · cases e
        obtain ⟨a, hA, hσ⟩ := G.ow i kk (slO_some e0)
        obtain ⟨c1, c2, u, c3, vs, c5, c4⟩ := G.cl kk a _ hA e1
        subst c5
        refine ⟨_, hσ, a, vs, rfl, .inl ⟨.inl (.inl c3), fun l hl => ?_⟩⟩
        have sF : Same F (upd F l (.tup vs)) := same_new (G.nope hl).1
        exact k _ _ _ sF (G.laid hl) (.vt (.inl (.inl upd_same)) (Rpam sF c4))
      · cases e
theorem qn_listO (i : Nat) {y : Str} {p1 : Pos} (hv : PE X (.Name y p1) (tVar i)) (hg : Gl X x) (hm : X.mg x = none) (hb : bootBuiltins x = some (.type "list")) (hn : x ≠ "__name__" := by decide) (hdb : (x == ("__debug__" : Str)) = false := by decide)
    (he : starEach [.Name y p1] X.env = (false, eval (.Name y p1) X.env) :: starEach [] X.env := by rfl) (hpl : (backTo pos (starEach [] X.env)).any (·.1) = false := by rfl) : PE X (.Call (.Name x p) [.Name y p1] [] pos) (tN X.K U (eSeqO i .list)) :=
  pe_weak (pe_callTy call_list_of hg hm hb (pa_cons hv pa_nil he) hn hdb he hpl) fun σ H Q ⟨A, F, r, m, d, m', G, e, k⟩ => by
  unfold eSeqO at e
  cases e0 : slO r[i]? with
  | none => rw [e0] at e; cases e
  | some kk =>
    rw [e0] at e
    simp only [Option.bind_some] at e
    cases e1 : cellAt m kk with
    | none => rw [e1] at e; cases e
    | some c =>
      rw [e1] at e
      simp only [Option.bind_some] at e
      split at e
      · cases e
        obtain ⟨a, hA, hσ⟩ := G.ow i kk (slO_some e0)
        obtain ⟨c1, c2, u, c3, vs, c5, c4⟩ := G.cl kk a _ hA e1
        subst c5
        exact ⟨_, hσ, a, vs, rfl, .inl (.inl (.inl c3)), fun l hl => k F _ l _ (Same.refl F) (G.laidO hl) (G.nope hl).1 (G.nope hl).2 (G.notin hl) upd_same ⟨_, rfl, c4⟩⟩
      · cases e
/-- x == e, x != e, x a cell's name -/
def eCmpO (i : Nat) (od : PyData → PyData → Option PyData) (g : Ev) : Ev := fun r m => (slO r[i]?).bind fun k => (g r m).bind fun p => (cellAt p.2 k).bind fun c => (od c p.1).map fun d => (d, p.2)
/-- e in x, e not in x -/
def eInO (i : Nat) (od : PyData → PyData → Option PyData) (g : Ev) : Ev := fun r m => (slO r[i]?).bind fun k => (g r m).bind fun p => (cellAt p.2 k).bind fun c => (od p.1 c).map fun d => (d, p.2)
theorem cell_dp {K : PySem.W.Frag} {F H : Hp} {a : Addr} {u : HO} {c : PyData} (hs : Same F H) (hH : H a = some u) (h : Stored K F u c) (hc : c.canLay0 = true) : Dp K H (.ref a) c := by
  cases c with
  | list ds =>
    obtain ⟨vs, rfl, h2⟩ := h
    exact .lst (.inl (.inl hH)) (rpa_dp hs ds _ hc h2)
  | dict ps => cases hc
  | _ => exact h.elim
theorem cmpO_read {i : Nat} {g : Ev} {neg : Bool} {σ : St} {H : Hp} {Q : VK} (hq : tE X.K U (eCmpO i (fun a b => if SeqAt.shaped a = true ∧ SeqAt.shaped b = true then some (.bool (if neg then !PyData.eqv a b else PyData.eqv a b)) else none) g) σ H Q) :
    tOp (fun x y H Q => ∃ d e, Dp X.K H x d ∧ Dp X.K H y e ∧ SeqAt.shaped d = true ∧ SeqAt.shaped e = true ∧ Q (.bl (if neg then !PyData.eqv d e else PyData.eqv d e)) H) (tVar i) (tE X.K U g) σ H Q := by
  obtain ⟨A, F, r, m, d, m', G, e, k⟩ := hq
  unfold eCmpO at e
  cases e0 : slO r[i]? with
  | none => rw [e0] at e; cases e
  | some kk =>
    rw [e0] at e
    simp only [Option.bind_some] at e
    obtain ⟨a, hA, hσ⟩ := G.ow i kk (slO_some e0)
    cases e1 : g r m with
    | none => rw [e1] at e; cases e
    | some q =>
      obtain ⟨d1, m1⟩ := q
      rw [e1] at e
      simp only [Option.bind_some] at e
      cases e2 : cellAt m1 kk with
      | none => rw [e2] at e; cases e
      | some c =>
        rw [e2] at e
        simp only [Option.bind_some] at e
        split at e
        · rename_i hs
          cases e
          refine ⟨_, hσ, A, F, r, m, d1, _, G, e1, fun F1 H1 y s1 G1 h1 => ?_⟩
          obtain ⟨c1, c2, u, c3, c4⟩ := G1.cl kk a _ hA e2
          exact ⟨c, d1, cell_dp G1.sub c3 c4 (SeqAt.canLay_of_shaped hs.1), rp_dp G1.sub _ _ (SeqAt.canLay_of_shaped hs.2) h1, hs.1, hs.2, k F1 H1 _ s1 G1 (.vb _)⟩
        · cases e
theorem qe_eqO (i : Nat) {y : Str} {p1 : Pos} {b : Expr} {g : Ev} (hu : X.A.units + 64 < cLine) (hv : PE X (.Name y p1) (tVar i)) (hb : PE X b (tE X.K U g)) (hm : behindInMarks .Eq b = false := by rfl) : PE X (.Compare (.Name y p1) [.Eq] [b] pos) (tE X.K U (eCmpO i eqD g)) :=
  pe_weak (pe_cmpR (op_eqD hu) hv hb hm) fun σ H Q h => cmpO_read (neg := false) h
theorem qe_neO (i : Nat) {y : Str} {p1 : Pos} {b : Expr} {g : Ev} (hu : X.A.units + 64 < cLine) (hv : PE X (.Name y p1) (tVar i)) (hb : PE X b (tE X.K U g)) (hm : behindInMarks .NotEq b = false := by rfl) : PE X (.Compare (.Name y p1) [.NotEq] [b] pos) (tE X.K U (eCmpO i neD g)) :=
  pe_weak (pe_cmpR (op_neD hu) hv hb hm) fun σ H Q h => cmpO_read (neg := true) h
theorem tst_read {f : Ev} {t : TE} {σ : St} {H : Hp} {Q : Bool → Hp → Prop} (w : ∀ σ H Q, tE X.K U f σ H Q → t σ H Q) (h : tT X.K U (eT blD f) σ H Q) : tTest t σ H Q := by
  obtain ⟨A, F, r, m, bb, m', G, e, k⟩ := h
  obtain ⟨d, e1, e2⟩ := et_some e
  exact w _ _ _ ⟨A, F, r, m, d, m', G, e1, fun F1 H1 x s1 G1 h1 => ⟨bb, bl_of h1 e2, k F1 H1 s1 G1⟩⟩
theorem qt_eqO (i : Nat) {y : Str} {p1 : Pos} {b : Expr} {g : Ev} (hu : X.A.units + 64 < cLine) (hv : PE X (.Name y p1) (tVar i)) (hb : PE X b (tE X.K U g)) (hm : behindInMarks .Eq b = false := by rfl) : PT X (.Compare (.Name y p1) [.Eq] [b] pos) (tT X.K U (eT blD (eCmpO i eqD g))) :=
  pt_weak (pt_cmpR (op_eqD hu) hv hb hm) fun σ H Q h => tst_read (fun σ H Q h => cmpO_read (neg := false) h) h
theorem qt_neO (i : Nat) {y : Str} {p1 : Pos} {b : Expr} {g : Ev} (hu : X.A.units + 64 < cLine) (hv : PE X (.Name y p1) (tVar i)) (hb : PE X b (tE X.K U g)) (hm : behindInMarks .NotEq b = false := by rfl) : PT X (.Compare (.Name y p1) [.NotEq] [b] pos) (tT X.K U (eT blD (eCmpO i neD g))) :=
  pt_weak (pt_cmpR (op_neD hu) hv hb hm) fun σ H Q h => tst_read (fun σ H Q h => cmpO_read (neg := true) h) h
def inL (a b : PyData) : Option PyData := match b with
  | .list ds => if SeqAt.shaped a = true ∧ SeqAt.shaped (.list ds) = true then some (.bool (ds.any fun z => PyData.eqv z a)) else none
  | _ => none
def notInL (a b : PyData) : Option PyData := match b with
  | .list ds => if SeqAt.shaped a = true ∧ SeqAt.shaped (.list ds) = true then some (.bool (!ds.any fun z => PyData.eqv z a)) else none
  | _ => none
theorem inO_read {i : Nat} {g : Ev} {neg : Bool} {σ : St} {H : Hp} {Q : VK} (hq : tE X.K U (eInO i (if neg then notInL else inL) g) σ H Q) :
    tOp (fun x y H Q => ∃ d ds, Dp X.K H x d ∧ Dp X.K H y (.list ds) ∧ SeqAt.shaped d = true ∧ SeqAt.shaped (.list ds) = true ∧ Q (.bl (if neg then !ds.any fun z => PyData.eqv z d else ds.any fun z => PyData.eqv z d)) H) (tE X.K U g) (tVar i) σ H Q := by
  obtain ⟨A, F, r, m, d, m', G, e, k⟩ := hq
  unfold eInO at e
  cases e0 : slO r[i]? with
  | none => rw [e0] at e; cases e
  | some kk =>
    rw [e0] at e
    simp only [Option.bind_some] at e
    obtain ⟨a, hA, hσ⟩ := G.ow i kk (slO_some e0)
    cases e1 : g r m with
    | none => rw [e1] at e; cases e
    | some q =>
      obtain ⟨d1, m1⟩ := q
      rw [e1] at e
      simp only [Option.bind_some] at e
      cases e2 : cellAt m1 kk with
      | none => rw [e2] at e; cases e
      | some c =>
        rw [e2] at e
        simp only [Option.bind_some] at e
        refine ⟨A, F, r, m, d1, m1, G, e1, fun F1 H1 y s1 G1 h1 => ⟨_, hσ, ?_⟩⟩
        obtain ⟨c1, c2, u, c3, c4⟩ := G1.cl kk a _ hA e2
        cases neg with
        | false =>
          simp only [Bool.false_eq_true, if_false] at e
          cases c with
          | list ds =>
            simp only [inL] at e
            split at e
            · rename_i hs
              cases e
              exact ⟨d1, ds, rp_dp G1.sub _ _ (SeqAt.canLay_of_shaped hs.1) h1, cell_dp G1.sub c3 c4 (SeqAt.canLay_of_shaped hs.2), hs.1, hs.2, k F1 H1 _ s1 G1 (.vb _)⟩
            · cases e
          | _ => cases e
        | true =>
          simp only [if_true] at e
          cases c with
          | list ds =>
            simp only [notInL] at e
            split at e
            · rename_i hs
              cases e
              exact ⟨d1, ds, rp_dp G1.sub _ _ (SeqAt.canLay_of_shaped hs.1) h1, cell_dp G1.sub c3 c4 (SeqAt.canLay_of_shaped hs.2), hs.1, hs.2, k F1 H1 _ s1 G1 (.vb _)⟩
            · cases e
          | _ => cases e
theorem qe_inO (i : Nat) {y : Str} {p1 : Pos} {b : Expr} {g : Ev} (hu : X.A.units + 65 < cLine) (hb : PE X b (tE X.K U g)) (hv : PE X (.Name y p1) (tVar i)) (hm : behindInMarks .In (.Name y p1) = false := by rfl) : PE X (.Compare b [.In] [.Name y p1] pos) (tE X.K U (eInO i inL g)) :=
  pe_weak (pe_cmpR (op_inD hu) hb hv hm) fun σ H Q h => inO_read (neg := false) h
theorem qe_notInO (i : Nat) {y : Str} {p1 : Pos} {b : Expr} {g : Ev} (hu : X.A.units + 65 < cLine) (hb : PE X b (tE X.K U g)) (hv : PE X (.Name y p1) (tVar i)) (hm : behindInMarks .NotIn (.Name y p1) = false := by rfl) : PE X (.Compare b [.NotIn] [.Name y p1] pos) (tE X.K U (eInO i notInL g)) :=
  pe_weak (pe_cmpR (op_notInD hu) hb hv hm) fun σ H Q h => inO_read (neg := true) h
theorem qt_inO (i : Nat) {y : Str} {p1 : Pos} {b : Expr} {g : Ev} (hu : X.A.units + 65 < cLine) (hb : PE X b (tE X.K U g)) (hv : PE X (.Name y p1) (tVar i)) (hm : behindInMarks .In (.Name y p1) = false := by rfl) : PT X (.Compare b [.In] [.Name y p1] pos) (tT X.K U (eT blD (eInO i inL g))) :=
  pt_weak (pt_cmpR (op_inD hu) hb hv hm) fun σ H Q h => tst_read (fun σ H Q h => inO_read (neg := false) h) h
theorem qt_notInO (i : Nat) {y : Str} {p1 : Pos} {b : Expr} {g : Ev} (hu : X.A.units + 65 < cLine) (hb : PE X b (tE X.K U g)) (hv : PE X (.Name y p1) (tVar i)) (hm : behindInMarks .NotIn (.Name y p1) = false := by rfl) : PT X (.Compare b [.NotIn] [.Name y p1] pos) (tT X.K U (eT blD (eInO i notInL g))) :=
  pt_weak (pt_cmpR (op_notInD hu) hb hv hm) fun σ H Q h => tst_read (fun σ H Q h => inO_read (neg := true) h) h
end

/-! ## a comprehension over a cell -/
theorem Good.shut {K : PySem.W.Frag} {U : Hp} {A : List Addr} {F H : Hp} {σ : St} {r : Rs} {m : Ms} (G : Good K U A F H σ r m) {k : Nat} {a : Addr} {u : HO} {c : PyData} (hj : A[k]? = some a) (h0 : cellAt m k = some c) (hH : H a = some u) :
    Good K (upd U a u) A F H σ r (m.set k none) := by
  obtain ⟨hF, hU, _⟩ := G.cl k a c hj h0
  refine ⟨G.sub, fun b x e => ?_, G.len, G.fz, G.ow, by rw [List.length_set]; exact G.al, fun j b ds e1 e2 => ?_, G.nd, G.he⟩
  · by_cases hb : b = a
    · subst hb
      rw [upd_same] at e
      cases e
      exact ⟨hH, hF⟩
    · rw [upd_ne hb] at e
      exact G.fo b x e
  · by_cases hjk : j = k
    · subst hjk
      rw [cellAt_self (cellAt_lt h0)] at e2
      cases e2
    · rw [cellAt_ne hjk] at e2
      obtain ⟨h1, h2, h3⟩ := G.cl j b ds e1 e2
      have hb : b ≠ a := fun z => by
        subst z
        obtain ⟨l1, q1⟩ := List.getElem?_eq_some_iff.mp e1
        obtain ⟨l2, q2⟩ := List.getElem?_eq_some_iff.mp hj
        exact hjk ((List.getElem_inj G.nd).mp (q1.trans q2.symm))
      exact ⟨h1, by rw [upd_ne hb]; exact h2, h3⟩
/-- and opened again -/
theorem Good.unshut {K : PySem.W.Frag} {U : Hp} {A : List Addr} {F H : Hp} {σ : St} {r : Rs} {m : Ms} {k : Nat} {a : Addr} {u : HO} {c : PyData} (G : Good K (upd U a u) A F H σ r m) (hj : A[k]? = some a) (hU : U a = none) (h : Stored K F u c) :
    Good K U A F H σ r (m.set k (some c)) := by
  have hk : k < m.length := by rw [← G.al]; exact (List.getElem?_eq_some_iff.mp hj).1
  obtain ⟨hH, hF⟩ := G.fo a u upd_same
  refine ⟨G.sub, fun b x e => G.fo b x ?_, G.len, G.fz, G.ow, by rw [List.length_set]; exact G.al, fun j b ds e1 e2 => ?_, G.nd, G.he⟩
  · have hb : b ≠ a := fun z => by rw [z, hU] at e; cases e
    rw [upd_ne hb]
    exact e
  · by_cases hjk : j = k
    · subst hjk
      rw [hj] at e1
      cases e1
      rw [cellAt_self hk] at e2
      cases e2
      exact ⟨hF, hU, u, hH, h⟩
    · rw [cellAt_ne hjk] at e2
      obtain ⟨h1, h2, h3⟩ := G.cl j b ds e1 e2
      have hb : b ≠ a := fun z => by
        rw [z, upd_same] at h2
        cases h2
      rw [upd_ne hb] at h2
      exact ⟨h1, h2, h3⟩
theorem wk_cell {K : PySem.W.Frag} {U F : Hp} {a : Addr} {xs : List V} {ds : List PyData} (hr : RpAll K F xs ds) : Wk K (upd U a (.lst xs)) (Itl K a) F ds where
  go := fun U' A σ r m F1 H1 i d sU s1 G1 e => by
    obtain ⟨v, h1, h2⟩ := rpa_get hr e
    have hq : SqL K H1 a xs := .inl (.inl (G1.fo a _ (sU a _ upd_same)).1)
    refine ⟨⟨xs, v, hq, h1⟩, fun x H2 hy => ?_⟩
    obtain ⟨e2, hy⟩ := hy
    subst e2
    have := hy xs hq
    rw [h1] at this
    cases this
    exact ⟨F1, Same.refl F1, G1, Rpm s1 h2⟩
  stop := fun F1 H1 sZ s1 s2 => ⟨xs, .inl (.inl (sZ a _ upd_same)), by rw [rpa_len hr]; exact Nat.le_refl _⟩
def eLcO (i : Nat) (own : List Nat) (h : Eh) (t : Et) (f : Ev) : Ev := fun r m => (slO r[i]?).bind fun k => (cellAt m k).bind fun c => match c with
  | .list ds => (lcLoop h t f (wipeR r own) ds (m.set k none) []).map fun q => (.list q.1, q.2.set k (some (.list ds)))
  | _ => none
section
variable {X : Cx} {U : Hp} {elt tg : Expr} {ifs : List Expr} {scope : Scope} {own : List (Str × Nat)} {pos p1 : Pos} {is : List Nat} {h : Eh} {t : Et} {f : Ev} {y : Str}
theorem lcO_read {i : Nat} (his : ∀ j ∈ is, j ∈ own.map (·.2)) {σ : St} {H : Hp} {Q : VK} (hq : tN X.K U (eLcO i (own.map (·.2)) h t f) σ H Q) :
    tLc (iList X.K (tVar i)) (tGX X.K is h) (tTX X.K t) (tEX X.K f) (own.map (·.2)) σ H Q := by
  obtain ⟨A, F, r, m, d, m', G, e, k⟩ := hq
  unfold eLcO at e
  cases e0 : slO r[i]? with
  | none => rw [e0] at e; cases e
  | some kk =>
    rw [e0] at e
    simp only [Option.bind_some] at e
    obtain ⟨a, hA, hσ⟩ := G.ow i kk (slO_some e0)
    cases e1 : cellAt m kk with
    | none => rw [e1] at e; cases e
    | some c =>
      rw [e1] at e
      simp only [Option.bind_some] at e
      split at e
      · rename_i ds
        cases e2 : lcLoop h t f (wipeR r (own.map (·.2))) ds (m.set kk none) [] with
        | none => rw [e2] at e; cases e
        | some q =>
          obtain ⟨res, m9⟩ := q
          rw [e2] at e
          cases e
          obtain ⟨c1, c2, u, c3, vs, c5, c4⟩ := G.cl kk a _ hA e1
          subst c5
          refine ⟨_, hσ, a, rfl, ⟨vs, .inl (.inl c3)⟩, ?_⟩
          refine lc_inner his (G.shut hA e1 c3) (wk_cell c4) e2 fun F' H' b w s G' q1 q2 q3 q4 q5 => ?_
          have hb : b ≠ a := fun z => by rw [z, upd_same] at q2; cases q2
          rw [upd_ne hb] at q2
          exact k F' H' b w s (G'.unshut hA c2 ⟨vs, rfl, Rpam s c4⟩) q1 q2 q3 q4 q5
      · cases e
theorem qn_lcO (i : Nat) (hv : PE X (.Name y p1) (tVar i)) (hc : X.calm = true) (hN : X.N.Nodup) (ok : BlkOk X.N X.env.scope scope own) (his : ∀ j ∈ is, j ∈ own.map (·.2))
    (hg : ∀ (U : Hp) (s : Shared) (H : Hp) (C : Addr) (cl : List (Str × Addr)) (fp : List Addr), PG (X.blk s H scope (compEnvC scope cl C X.env) fp) tg (tG X.K U is h))
    (ht : ∀ (U : Hp) (s : Shared) (H : Hp) (C : Addr) (cl : List (Str × Addr)) (fp : List Addr), PTs (X.blk s H scope (compEnvC scope cl C X.env) fp) ifs (tT X.K U t))
    (he : ∀ (U : Hp) (s : Shared) (H : Hp) (C : Addr) (cl : List (Str × Addr)) (fp : List Addr), PE (X.blk s H scope (compEnvC scope cl C X.env) fp) elt (tE X.K U f)) (hs : ∀ x, foldedSetIterable (.Name y p1) X.env x = pure x := by intro _; rfl) :
    PE X (.ListComp elt [⟨tg, .Name y p1, ifs, 0⟩] scope pos) (tN X.K U (eLcO i (own.map (·.2)) h t f)) :=
  pe_weak (pe_lc hc hN (pi_list hv) ok (fun s H C cl fp => pg_all fun U => hg U s H C cl fp) (fun s H C cl fp => pts_all fun U => ht U s H C cl fp) (fun s H C cl fp => pe_all fun U => he U s H C cl fp) hs) fun σ H Q q => lcO_read his q
theorem qs_setLcO {n0 i j : Nat} {z : Str} {py spos : Pos} (hv : PE X (.Name y p1) (tVar j)) (hc : X.calm = true) (hN : X.N.Nodup) (hy : X.N[i]? = some z) (hyl : X.env.scope.names.lookup z = some .local)
    (hsw : swapsWith (.ListComp elt [⟨tg, .Name y p1, ifs, 0⟩] scope pos) (some (.Name z py)) spos.line X.env = pure true) (ok : BlkOk X.N X.env.scope scope own) (his : ∀ j ∈ is, j ∈ own.map (·.2))
    (hg : ∀ (U : Hp) (s : Shared) (H : Hp) (C : Addr) (cl : List (Str × Addr)) (fp : List Addr), PG (X.blk s H scope (compEnvC scope cl C X.env) fp) tg (tG X.K U is h))
    (ht : ∀ (U : Hp) (s : Shared) (H : Hp) (C : Addr) (cl : List (Str × Addr)) (fp : List Addr), PTs (X.blk s H scope (compEnvC scope cl C X.env) fp) ifs (tT X.K U t))
    (he : ∀ (U : Hp) (s : Shared) (H : Hp) (C : Addr) (cl : List (Str × Addr)) (fp : List Addr), PE (X.blk s H scope (compEnvC scope cl C X.env) fp) elt (tE X.K U f)) (hs : ∀ x, foldedSetIterable (.Name y p1) X.env x = pure x := by intro _; rfl) :
    PS X (.Assign [.Name z py] (.ListComp elt [⟨tg, .Name y p1, ifs, 0⟩] scope pos) spos) (tS X.K U n0 (sSet i (eLcO j (own.map (·.2)) h t f))) ∧ PS X (.Assign [.Name z py] (.ListComp elt [⟨tg, .Name y p1, ifs, 0⟩] scope pos) spos) (tS X.K U n0 (sSetF i (eLcO j (own.map (·.2)) h t f))) := by
  have base := ps_setLc (g := tGX X.K is h) (tt := tTX X.K t) (te := tEX X.K f) hc hN hy hyl hsw (pi_list hv) ok (fun s H C cl fp => pg_all fun U => hg U s H C cl fp) (fun s H C cl fp => pts_all fun U => ht U s H C cl fp) (fun s H C cl fp => pe_all fun U => he U s H C cl fp) hs
  refine ⟨ps_weak base fun D σ H ⟨A, F, r, m, o, G, hn, e, p⟩ => ?_, ps_weak base fun D σ H ⟨A, F, r, m, o, G, hn, e, p⟩ => ?_⟩
  · unfold sSet at e
    cases e1 : eLcO j (own.map (·.2)) h t f r m with
    | none => rw [e1] at e; cases e
    | some q =>
      rw [e1] at e
      cases e
      refine lcO_read his ⟨A, F, r, m, q.1, q.2, G, e1, fun F1 H1 a u s1 G1 q1 q2 q3 q4 q5 => ?_⟩
      obtain ⟨w1, w2, w3⟩ := G1.ice q1 q2 q3 q4 q5
      exact p A _ H1 _ (List.prefix_refl A) (s1.trans w1) (w2.setFz w3)
  · unfold sSetF at e
    cases e1 : eLcO j (own.map (·.2)) h t f r m with
    | none => rw [e1] at e; cases e
    | some q =>
      rw [e1] at e
      cases e
      exact lcO_read his ⟨A, F, r, m, q.1, q.2, G, e1, fun F1 H1 a u s1 G1 q1 q2 q3 q4 q5 => p (A ++ [a]) F1 H1 _ (List.prefix_append A [a]) s1 (G1.setOw q1 q2 q3 q4 q5)⟩
/-! ## range(a, b, c) -/
def rangeC (lo c : Int) (n : Nat) : List PyData := (List.range n).map fun i => .int (lo + (i : Nat) * c)
theorem wk_rangeC {K : PySem.W.Frag} {Z F : Hp} {lo c : Int} {n : Nat} : Wk K Z (Itc lo c n) F (rangeC lo c n) where
  go := fun U A σ r m F1 H1 i d _ s1 G1 e => by
    unfold rangeC at e
    rw [List.getElem?_map] at e
    by_cases hi : i < n
    · rw [List.getElem?_range hi] at e
      cases e
      refine ⟨hi, fun v H2 hy => ?_⟩
      obtain ⟨e2, e4⟩ := hy
      subst e2 e4
      exact ⟨F1, Same.refl F1, G1, .vi _⟩
    · rw [List.getElem?_eq_none (by rw [List.length_range]; omega)] at e
      cases e
  stop := fun F1 H1 _ s1 s2 => by
    show n ≤ (rangeC lo c n).length
    unfold rangeC
    rw [List.length_map, List.length_range]
    exact Nat.le_refl n
/-- a step of -1 alone -/
def eRg3 (f : Eas) : Eas := fun r m => (f r m).bind fun p => match p.1 with
  | [.int i, .int j, .int c] => if c = -1 ∧ -(2 ^ 62) ≤ i ∧ i < 2 ^ 62 ∧ -(2 ^ 62) ≤ j ∧ j < 2 ^ 62 then some (rangeC i c (i - j).toNat, p.2) else none
  | _ => none
theorem qi_range3 {a b c : Expr} {fs : Eas} {p : Pos} (hg : Gl X "range") (hm : X.mg "range" = none) (ha : PA X [a, b, c] (tAs X.K U fs)) (hs : starEach [a, b, c] X.env = (false, eval a X.env) :: starEach [b, c] X.env := by rfl) (hpl : (backTo pos (starEach [b, c] X.env)).any (·.1) = false := by rfl) :
    PI X tg (.Call (.Name "range" p) [a, b, c] [] pos) (tIt X.K U (eRg3 fs)) := by
  refine ⟨fun pins s σ H R I ⟨A, F, r, m, ds, m', G, e0, k⟩ => ?_⟩
  unfold eRg3 at e0
  cases e1 : fs r m with
  | none => rw [e1] at e0; cases e0
  | some q =>
    obtain ⟨es, m1⟩ := q
    rw [e1] at e0
    simp only [Option.bind_some] at e0
    split at e0
    · split at e0
      · rename_i i j c hj
        cases e0
        refine (pi_range3 hg hm ha hs hpl).run pins s σ H R I ⟨A, F, r, m, _, m', G, e1, fun F1 H1 vs s1 G1 h1 => ?_⟩
        cases h1 with
        | cons g1 t1 => cases t1 with
          | cons g2 t2 => cases t2 with
            | cons g3 t3 =>
              cases t3
              cases g1
              cases g2
              cases g3
              obtain ⟨rfl, w⟩ := hj
              exact ⟨i, j, -1, (i - j).toNat, rfl, RgC.neg w.1 w.2.1 w.2.2.1 w.2.2.2, k F1 H1 _ s1 G1 wk_rangeC⟩
      · cases e0
    · cases e0
end
end TL

end
/-! TL12 -/
section
set_option maxHeartbeats 4000000
namespace TL
open PySem L2

/-! ## methods of texts -/
def eSm (op : Str → List PyData → Option PyData) (f : Ev) (g : Eas) : Ev := fun r m => (f r m).bind fun p => match p.1 with
  | .str z => (g r p.2).bind fun q => (op z q.1).map fun d => (d, q.2)
  | _ => none
def MtD (X : Cx) (U : Hp) (rd : V → List V → Hp → VK → Prop) (op : Str → List PyData → Option PyData) : Prop :=
  ∀ (A : List Addr) (F H : Hp) (σ : St) (r : Rs) (m : Ms) (z : Str) (xs : List V) (ds : List PyData) (d : PyData) (Q : VK), Good X.K U A F H σ r m → RpAll X.K F xs ds → op z ds = some d →
    (∀ (F' H' : Hp) (v : V), Same F F' → Good X.K U A F' H' σ r m → Rp X.K F' v d → Q v H') → rd (.str z) xs H Q
section
variable {X : Cx} {U : Hp} {o e : Expr} {es : List Expr} {name : Str} {apos cpos : Pos} {id : String} {rd : V → List V → Hp → VK → Prop} {op : Str → List PyData → Option PyData} {f : Ev} {g : Eas}
theorem qe_sm (slot : Slot "str" name id) (hty : typeOf (.builtin id) = pure (.type "method_descriptor")) (hm : MtR X id rd) (hd : MtD X U rd op) (ho : PE X o (tE X.K U f)) (ha : PA X (e :: es) (tAs X.K U g))
    (hbase : attributeBase o name X.env (eval o X.env) = eval o X.env := by rfl)
    (hfew : ((backTo cpos (starEach (e :: es) X.env)).all (fun x => !x.1) && (backToKw cpos (keywordEach [] X.env)).all (fun x => x.1.isSome)
      && decide ((e :: es).length + ([] : List Keyword).length + (if ([] : List Keyword).isEmpty then 0 else 1) < 30)) = true := by rfl)
    (hline : (apos.endLine == cpos.line) = true := by rfl) (hs : starEach (e :: es) X.env = (false, eval e X.env) :: starEach es X.env := by rfl) (hplain : (backTo cpos (starEach es X.env)).any (·.1) = false := by rfl) :
    PE X (.Call (.Attribute o name apos) (e :: es) [] cpos) (tE X.K U (eSm op f g)) :=
  pe_weak (pe_bm PySem.F.plainAttrs_str slot hty hm ho ha hbase hfew hline hs hplain) fun σ H Q ⟨A, F, r, m, d, m', G, e, k⟩ => by
  unfold eSm at e
  cases e1 : f r m with
  | none => rw [e1] at e; cases e
  | some p =>
    obtain ⟨d1, m1⟩ := p
    rw [e1] at e
    simp only [Option.bind_some] at e
    split at e
    · rename_i z
      cases e2 : g r m1 with
      | none => rw [e2] at e; cases e
      | some q =>
        obtain ⟨ds, m2⟩ := q
        rw [e2] at e
        simp only [Option.bind_some] at e
        cases e3 : op z ds with
        | none => rw [e3] at e; cases e
        | some d3 =>
          rw [e3] at e
          cases e
          refine ⟨A, F, r, m, _, m1, G, e1, fun F1 H1 x s1 G1 h1 => ?_⟩
          cases h1
          exact ⟨rfl, A, F1, r, m1, ds, m', G1, e2, fun F2 H2 xs s2 G2 h2 => hd A F2 H2 σ r m' z xs ds d Q G2 h2 e3 fun F3 H3 v s3 G3 h3 => k F3 H3 v ((s1.trans s2).trans s3) G3 h3⟩
    · cases e
def indexD (a : Str) : List PyData → Option PyData
  | [.str b] => (Builtin.Str.occurrences a b 0 a.length 1).head?.map fun i => .int (i : Nat)
  | _ => none
theorem md_index : MtD X U (fun x xs H Q => ∃ a b i rest, x = .str a ∧ xs = [.str b] ∧ Builtin.Str.occurrences a b 0 a.length 1 = i :: rest ∧ Q (.int (i : Nat)) H) indexD := by
  intro A F H σ r m z xs ds d Q G ha e k
  unfold indexD at e
  split at e
  · rename_i b
    obtain ⟨v, rfl, h⟩ := rpa1 ha
    cases h
    cases e1 : Builtin.Str.occurrences z b 0 z.length 1 with
    | nil => rw [e1] at e; cases e
    | cons i rest =>
      rw [e1] at e
      cases e
      exact ⟨z, b, i, rest, rfl, rfl, e1, k F H _ (Same.refl F) G (.vi _)⟩
  · cases e
theorem qe_index (ho : PE X o (tE X.K U f)) (ha : PA X [e] (tAs X.K U g)) (hbase : attributeBase o "index" X.env (eval o X.env) = eval o X.env := by rfl)
    (hfew : ((backTo cpos (starEach [e] X.env)).all (fun x => !x.1) && (backToKw cpos (keywordEach [] X.env)).all (fun x => x.1.isSome)
      && decide ([e].length + ([] : List Keyword).length + (if ([] : List Keyword).isEmpty then 0 else 1) < 30)) = true := by rfl)
    (hline : (apos.endLine == cpos.line) = true := by rfl) (hs : starEach [e] X.env = (false, eval e X.env) :: starEach [] X.env := by rfl) (hplain : (backTo cpos (starEach [] X.env)).any (·.1) = false := by rfl) :
    PE X (.Call (.Attribute o "index" apos) [e] [] cpos) (tE X.K U (eSm indexD f g)) := qe_sm PySem.F.slot_str_index PySem.F.type_str_index mt_sindex md_index ho ha hbase hfew hline hs hplain
def startsD (a : Str) : List PyData → Option PyData
  | [.str b] => some (.bool (Txt.startswith a b))
  | _ => none
theorem md_starts : MtD X U (fun x xs H Q => ∃ a b, x = .str a ∧ xs = [.str b] ∧ Q (.bl (Txt.startswith a b)) H) startsD := by
  intro A F H σ r m z xs ds d Q G ha e k
  unfold startsD at e
  split at e
  · obtain ⟨v, rfl, h⟩ := rpa1 ha
    cases h
    cases e
    exact ⟨z, _, rfl, rfl, k F H _ (Same.refl F) G (.vb _)⟩
  · cases e
theorem rpa_strs {K : PySem.W.Frag} {F : Hp} : ∀ ys : List Str, RpAll K F (ys.map V.str) (ys.map PyData.str)
  | [] => .nil
  | y :: ys => .cons (.vs y) (rpa_strs ys)
def splitD (a : Str) : List PyData → Option PyData
  | [.str b] => if (b.length == 0) = false ∧ a.length + 2 ≤ sizeLine then some (.list ((Txt.split a b).map .str)) else none
  | _ => none
theorem md_split : MtD X U (fun x xs H Q => ∃ a b, x = .str a ∧ xs = [.str b] ∧ (b.length == 0) = false ∧ a.length + 2 ≤ sizeLine ∧ rNewStrs (Txt.split a b) H Q) splitD := by
  intro A F H σ r m z xs ds d Q G ha e k
  unfold splitD at e
  split at e
  · split at e
    · rename_i hz
      obtain ⟨v, rfl, h⟩ := rpa1 ha
      cases h
      cases e
      refine ⟨z, _, rfl, rfl, hz.1, hz.2, fun p np => ?_⟩
      have sF := fun (o : HO) => same_new (o := o) (G.nope np).1
      exact k _ _ _ (sF _) (G.laid np) (.vl (.inl (.inl upd_same)) (rpa_strs _))
    · cases e
  · cases e
end

/-! ## list(text) -/
section
variable {X : Cx} {U : Hp}
theorem call_list_txt (hc : X.calm = true) : CallR X (.type "list") (fun xs H Q => ∃ z : Str, xs = [.str z] ∧ z.length ≤ sizeLine ∧ ∀ l, H l = none → Q (.ref l) (upd H l (.lst (z.cps.toList.map fun c => V.str ⟨#[c]⟩)))) := by
  intro pins s σ H xs us Q I r h
  obtain ⟨z, rfl, hz, q⟩ := h
  obtain ⟨u, rfl, t, rfl⟩ := vals1 r
  refine PySem.call_list_str (I.ok.hd hc) z t (fun h' tk acc c' hk e hi => ?_) hz
  refine ⟨.ref s.heap.objs.size, upd H s.heap.objs.size (.lst (z.cps.toList.map fun c => V.str ⟨#[c]⟩)), I.laid hk (Nat.le_refl _) ⟨by rw [List.length_map, Array.length_toList]; exact hz, acc.toList, c', ?_, by rw [Array.toArray_toList]; exact e⟩, rfl, q _ (I.hok.fresh (Nat.le_refl _))⟩
  refine vals_of_idx _ _ (by rw [List.length_map, Array.length_toList, Array.length_toList]; exact hi.1) fun j u hj => ?_
  obtain ⟨c, t', hc, rfl⟩ := hi.2 j u (by rw [← Array.getElem?_toList]; exact hj)
  exact ⟨.str ⟨#[c]⟩, by simp [hc], ⟨_, rfl⟩⟩
def listD2 : List PyData → Option PyData
  | [.str z] => if z.length ≤ sizeLine then some (.list (signs z)) else none
  | ds => listD ds
theorem rpa_signs {K : PySem.W.Frag} {F : Hp} : ∀ l : List Nat, RpAll K F (l.map fun c => V.str ⟨#[c]⟩) (l.map fun c => PyData.str ⟨#[c]⟩)
  | [] => .nil
  | _ :: l => .cons (.vs _) (rpa_signs l)
abbrev rList2 (K : PySem.W.Frag) : List V → Hp → VK → Prop := fun xs H Q => (∃ p ys, xs = [.ref p] ∧ (SqL K H p ys ∨ SqT K H p ys) ∧ ∀ l, H l = none → Q (.ref l) (upd H l (.lst ys))) ∨
    (∃ z : Str, xs = [.str z] ∧ z.length ≤ sizeLine ∧ ∀ l, H l = none → Q (.ref l) (upd H l (.lst (z.cps.toList.map fun c => V.str ⟨#[c]⟩))))
theorem call_list2 (hc : X.calm = true) : CallR X (.type "list") (rList2 X.K) := CallR.or call_list_of (call_list_txt hc)
theorem cd_list2 : CallD X U (rList2 X.K) listD2 := by
  intro A F H σ r m vs ds d Q G ha e k
  unfold listD2 at e
  split at e
  · split at e
    · rename_i hz
      cases e
      obtain ⟨v, rfl, h⟩ := rpa1 ha
      cases h
      refine .inr ⟨_, rfl, hz, fun l hl => ?_⟩
      have sF : ∀ o, Same F (upd F l o) := fun o => same_new (G.nope hl).1
      exact k _ _ _ (sF _) (G.laid hl) (.vl (.inl (.inl upd_same)) (rpa_signs _))
    · cases e
  · exact .inl (cd_list A F H σ r m vs ds d Q G ha e k)
theorem cn_list2 : CallN X U (rList2 X.K) listD2 := by
  intro A F H σ r m vs ds d Q G ha e k
  unfold listD2 at e
  split at e
  · split at e
    · rename_i hz
      cases e
      obtain ⟨v, rfl, h⟩ := rpa1 ha
      cases h
      exact .inr ⟨_, rfl, hz, fun l hl => k F _ l _ (Same.refl F) (G.laidO hl) (G.nope hl).1 (G.nope hl).2 (G.notin hl) upd_same ⟨_, rfl, rpa_signs _⟩⟩
    · cases e
  · exact .inl (cn_list A F H σ r m vs ds d Q G ha e k)
end
end TL

end
/-! TL13 -/
section
set_option maxHeartbeats 4000000
namespace TL
open PySem PySem.Spec PyProof.Rows L2

/-! ## the end of a proof -/
theorem fun_of {K : PySem.W.Frag} {x qual : Str} {st : Stmt} {kws : List (Str × V)} {f : Addr} {fd : FuncData} (F : FunD K x qual (defArgs st) (defBody st) (defScope st) [] kws f fd) : Fun K x qual st f fd := by
  obtain ⟨oc, od, dV, kV, doc, pm, an, cdv, ct, osl, rfl, lk, hcd, hD, _⟩ := F.ex
  rcases hD with ⟨_, rfl⟩ | ⟨e, _⟩
  · exact ⟨⟨oc, od, kV, doc, pm, an, cdv, ct, osl, rfl, lk, hcd⟩, F.kp⟩
  · exact absurd rfl e
theorem glo_int {K : PySem.W.Frag} {h : Heap} {mg : Str → Option Value} {x : Str} {i : Int} (X : K.In h) (G : h.Ns mainGlobals mg) (c : (He.Fa.int x i).ok K = true) : Glo K mg x (.int i) := by
  obtain ⟨t, e⟩ := He.int_ok X G c
  exact ⟨⟨.int i, _, e, ⟨t, rfl⟩, fun F => .vi i⟩⟩
theorem glo_str {K : PySem.W.Frag} {h : Heap} {mg : Str → Option Value} {x z : Str} (X : K.In h) (G : h.Ns mainGlobals mg) (c : (He.Fa.str x z).ok K = true) : Glo K mg x (.str z) := by
  obtain ⟨t, e⟩ := He.str_ok X G c
  exact ⟨⟨.str z, _, e, ⟨t, rfl⟩, fun F => .vs z⟩⟩
/-- a law of one list of ints: what is left is a statement of plain Lean -/
theorem walk_tree {l : PySem.W.OpenLaw} {n k : Nat} {q : Program} {loose : List Str} {XP : (Str → Option Value) → Heap → Prop} {YP : World → Heap → Prop} {d : DefRec} {x : Str} {g : List PyData → Option PyData}
    (hn : l.most = some n) (hn2 : n ≤ sizeLine) (hdf : d.params.defaults = []) (hr : Room k callerA)
    (F : ∀ (w : World) (mg : Str → Option Value) (fa : Addr) (h : Heap), YP w h → h.Ns mainGlobals mg → mg d.name = some (.ref fa) →
      ∃ (K : PySem.W.Frag) (fd : FuncData), K.In h ∧ (∀ (s : Shared) (u : Value), BindsTo s fd ⟨[u], []⟩ [(x, u)]) ∧
        ∀ base : Heap, K.In base → base.Ns mainGlobals mg → FnOk l.prog w K mg base CX0 k fa fd [x] (spD K 1 g))
    (hg : ∀ ns : List Int, ns.length ≤ n → (∀ z ∈ ns, Builtin.Int.intBits z ≤ 1048576) → g [.list (ns.map .int)] = some (.bool true)) :
    PySem.W.WalkO q loose XP YP l.row.toRowW d [] (fun f vs => PySem.call f vs) := by
  refine Att.attach_callB hn hdf fun w s₀ s₁ mg mb fa o pm cd doc a vs ns G Y ho hd hcd hmg hobj hints hlen hbits hgs => ?_
  obtain ⟨K, fd, KX, hb, hF⟩ := F w mg fa _ Y G.T.g hmg
  refine law_call KX G.T.g G.T.b G.T.builtins G.T.nolimit hgs hobj hints (Nat.le_trans hlen hn2) hr hF hb (fun H hO hS => ?_) fun H e s' z => z
  refine ⟨H, [.list (ns.map .int)], .bool true, Same.refl H, rfl, .cons (.vl hS (rpa_ints ns)) .nil, hg ns hlen hbits, fun F' H' v _ _ _ hv => ?_⟩
  cases hv
  rfl
end TL

end
/-! TL14 -/
section
set_option maxHeartbeats 4000000
namespace TL
open PySem L2

/-! ## the twins reckoned: W x Q, x is there and Q of it -/
inductive W {α : Type} : Option α → (α → Prop) → Prop
  | mk {a : α} {Q : α → Prop} (h : Q a) : W (some a) Q
section
variable {α β : Type} {x : Option α} {Q P : α → Prop}
theorem W.ret {a : α} (h : Q a) : W (some a) Q := .mk h
theorem W.mono (h : W x P) (k : ∀ a, P a → Q a) : W x Q := by
  cases h with
  | mk h => exact .mk (k _ h)
theorem W.bind {f : α → Option β} {R : β → Prop} (h : W x fun a => W (f a) R) : W (x.bind f) R := by
  cases h with
  | mk h => exact h
theorem W.map {f : α → β} {R : β → Prop} (h : W x fun a => R (f a)) : W (x.map f) R := by
  cases h with
  | mk h => exact .mk h
theorem W.of {a : α} (e : x = some a) (h : Q a) : W x Q := by rw [e]; exact .mk h
theorem W.eq {a : α} (h : W x fun b => b = a) : x = some a := by
  cases h with
  | mk h => exact congrArg some h
theorem W.get (h : W x Q) : ∃ a, x = some a ∧ Q a := by
  cases h with
  | mk h => exact ⟨_, rfl, h⟩
theorem W.ite {c : Prop} [Decidable c] {y : Option α} (h1 : c → W x Q) (h2 : ¬c → W y Q) : W (if c then x else y) Q := by
  by_cases hc : c
  · rw [if_pos hc]; exact h1 hc
  · rw [if_neg hc]; exact h2 hc
theorem W.guard' {c : Prop} [Decidable c] {y : Option α} (hc : c) (h : W x Q) : W (if c then x else y) Q := by rw [if_pos hc]; exact h
theorem W.guard {c : Prop} [Decidable c] (hc : c) (h : W x Q) : W (if c then x else none) Q := by rw [if_pos hc]; exact h
end
/-! ### expressions -/
section
variable {r : Rs} {m : Ms} {Q : PyData × Ms → Prop} {QL : List PyData × Ms → Prop} {QB : Bool × Ms → Prop} {QO : Option Int × Ms → Prop} {f g k : Ev} {fs gs : Eas} {c c' : Et} {op o1 o2 : PyData → PyData → Option PyData} {i n : Nat} {d : PyData}
theorem w_C (h : Q (d, m)) : W (eC d r m) Q := .mk h
theorem w_V (e : r[i]? = some (.fz d)) (h : Q (d, m)) : W (eV i r m) Q := by
  unfold eV
  rw [e]
  exact .mk h
theorem w_bin (h : W (f r m) fun p => W (g r p.2) fun q => W (op p.1 q.1) fun d => Q (d, q.2)) : W (eBin op f g r m) Q := W.bind (W.mono h fun _ h => W.bind (W.mono h fun _ h => W.map h))
theorem w_map {α : Type} {f : Rs → Ms → Option (α × Ms)} {u : α → Option PyData} (h : W (f r m) fun p => W (u p.1) fun d => Q (d, p.2)) : W (eMap f u r m) Q := W.bind (W.mono h fun _ h => W.map h)
theorem w_nil (h : QL ([], m)) : W (eNil r m) QL := .mk h
theorem w_cons (h : W (f r m) fun p => W (gs r p.2) fun q => QL (p.1 :: q.1, q.2)) : W (eCons f gs r m) QL := W.bind (W.mono h fun _ h => W.map h)
theorem w_tup (h : W (fs r m) fun p => p.1.length ≤ sizeLine ∧ Q (.tuple p.1, p.2)) : W (eTup fs r m) Q := W.bind (W.mono h fun _ h => W.guard h.1 (.mk h.2))
theorem w_lst (h : W (fs r m) fun p => p.1.length ≤ sizeLine ∧ Q (.list p.1, p.2)) : W (eLst fs r m) Q := W.bind (W.mono h fun _ h => W.guard h.1 (.mk h.2))
theorem w_T {u : PyData → Option Bool} (h : W (f r m) fun p => W (u p.1) fun b => QB (b, p.2)) : W (eT u f r m) QB := W.bind (W.mono h fun _ h => W.map h)
theorem w_not (h : W (c r m) fun p => QB (!p.1, p.2)) : W (eNot c r m) QB := W.map h
theorem w_and (h : W (c r m) fun p => (p.1 = true → W (c' r p.2) QB) ∧ (p.1 = false → QB (false, p.2))) : W (eAnd c c' r m) QB := W.bind (W.mono h fun p h => W.ite h.1 fun z => W.ret (h.2 (by simpa using z)))
theorem w_or (h : W (c r m) fun p => (p.1 = true → QB (true, p.2)) ∧ (p.1 = false → W (c' r p.2) QB)) : W (eOr c c' r m) QB := W.bind (W.mono h fun p h => W.ite (fun z => W.ret (h.1 z)) fun z => h.2 (by simpa using z))
theorem w_eIf (h : W (c r m) fun p => (p.1 = true → W (f r p.2) Q) ∧ (p.1 = false → W (g r p.2) Q)) : W (eIf c f g r m) Q := W.bind (W.mono h fun p h => W.ite h.1 fun z => h.2 (by simpa using z))
theorem w_andV (h : W (f r m) fun p => ∃ b, p.1 = .bool b ∧ (b = true → W (g r p.2) Q) ∧ (b = false → Q (.bool false, p.2))) : W (eAndV f g r m) Q := W.bind (W.mono h fun ⟨d, m1⟩ ⟨b, e, h1, h2⟩ => by
  simp only at e
  subst e
  cases b with
  | true => exact h1 rfl
  | false => exact .mk (h2 rfl))
theorem w_orV (h : W (f r m) fun p => ∃ b, p.1 = .bool b ∧ (b = true → Q (.bool true, p.2)) ∧ (b = false → W (g r p.2) Q)) : W (eOrV f g r m) Q := W.bind (W.mono h fun ⟨d, m1⟩ ⟨b, e, h1, h2⟩ => by
  simp only at e
  subst e
  cases b with
  | true => exact .mk (h1 rfl)
  | false => exact h2 rfl)
theorem w_chain (h : W (f r m) fun p => W (g r p.2) fun q => W (o1 p.1 q.1) fun z => ∃ b, z = .bool b ∧ (b = false → Q (.bool false, q.2)) ∧ (b = true → W (k r q.2) fun w => W (o2 q.1 w.1) fun d => Q (d, w.2))) : W (eChain o1 o2 f g k r m) Q :=
  W.bind (W.mono h fun _ h => W.bind (W.mono h fun _ h => W.bind (W.mono h fun z ⟨b, e, h1, h2⟩ => by
    subst e
    cases b with
    | true => exact W.bind (W.mono (h2 rfl) fun _ h => W.map h)
    | false => exact .mk (h1 rfl))))
theorem w_ixO {a : Nat} (e : r[i]? = some (.ow a)) (h : W (g r m) fun p => ∃ ds j, cellAt p.2 a = some (.list ds) ∧ p.1 = .int j ∧ W (atI ds j) fun d => Q (d, p.2)) : W (eIxO i g r m) Q := by
  unfold eIxO
  rw [e]
  refine W.bind (W.mono h fun ⟨d1, m1⟩ ⟨ds, j, e1, e2, h⟩ => ?_)
  simp only at e1 e2
  subst e2
  exact W.bind (W.of e1 (W.map h))
theorem w_callR {a n : Nat} {u : PyData → List PyData → Option (PyData × PyData)} (e : r[i]? = some (.ow a)) (h : W (fs r m) fun p => ∃ cs, cellAt p.2 a = some cs ∧ p.1.length = n ∧ W (u cs p.1) fun q => Q (q.1, p.2.set a (some q.2))) : W (eCallR n i u fs r m) Q := by
  unfold eCallR
  rw [e]
  refine W.bind (W.mono h fun p ⟨cs, e1, e2, h⟩ => W.bind (W.of e1 ?_))
  unfold arN
  rw [if_pos e2]
  exact W.map h
theorem w_sm {u : Str → List PyData → Option PyData} (h : W (f r m) fun p => ∃ z, p.1 = .str z ∧ W (gs r p.2) fun q => W (u z q.1) fun d => Q (d, q.2)) : W (eSm u f gs r m) Q := W.bind (W.mono h fun ⟨d1, m1⟩ ⟨z, e, h⟩ => by
  simp only at e
  subst e
  exact W.bind (W.mono h fun _ h => W.map h))
theorem w_no (h : QO (none, m)) : W (eNo r m) QO := .mk h
theorem w_pt (h : W (f r m) fun p => ∃ j, p.1 = .int j ∧ QO (some j, p.2)) : W (ePt f r m) QO := W.bind (W.mono h fun ⟨d, m1⟩ ⟨j, e, h⟩ => by
  simp only at e
  subst e
  exact .mk h)
theorem w_sl {lo hi : Eo} (h : W (f r m) fun p => W (lo r p.2) fun q => W (hi r q.2) fun w => W (slcD p.1 q.1 w.1) fun d => Q (d, w.2)) : W (eSl f lo hi r m) Q := W.bind (W.mono h fun _ h => W.bind (W.mono h fun _ h => W.bind (W.mono h fun _ h => W.map h)))
theorem w_its (h : W (f r m) fun p => W (itemsD p.1) fun ds => QL (ds, p.2)) : W (eIts f r m) QL := W.bind (W.mono h fun _ h => W.map h)
theorem w_rg1 (h : W (fs r m) fun p => ∃ j, p.1 = [.int j] ∧ (-(2 ^ 62) ≤ j ∧ j < 2 ^ 62) ∧ QL (rangeD 0 j.toNat, p.2)) : W (eRg1 fs r m) QL := W.bind (W.mono h fun ⟨l, m1⟩ ⟨j, e, h1, h2⟩ => by
  simp only at e
  subst e
  exact W.guard h1 (.mk h2))
theorem w_rg2 (h : W (fs r m) fun p => ∃ i j, p.1 = [.int i, .int j] ∧ (-(2 ^ 62) ≤ i ∧ i < 2 ^ 62 ∧ -(2 ^ 62) ≤ j ∧ j < 2 ^ 62) ∧ QL (rangeD i (j - i).toNat, p.2)) : W (eRg2 fs r m) QL := W.bind (W.mono h fun ⟨l, m1⟩ ⟨i, j, e, h1, h2⟩ => by
  simp only at e
  subst e
  exact W.guard h1 (.mk h2))
theorem w_enum (h : W (f r m) fun p => ∃ ds, p.1 = .list ds ∧ QL (enumD ds, p.2)) : W (eEnum f r m) QL := W.bind (W.mono h fun ⟨l, m1⟩ ⟨ds, e, h⟩ => by
  simp only at e
  subst e
  exact .mk h)
theorem w_arN {α : Type} {u : List PyData → Option α} {ds : List PyData} {R : α → Prop} (e : ds.length = n) (h : W (u ds) R) : W (arN n u ds) R := by
  unfold arN
  rw [if_pos e]
  exact h
end
/-! ### statements -/
section
variable {r : Rs} {m : Ms} {Q : Out → Prop} {f g : Ev} {fs : Eas} {c : Et} {s t : Es} {i n : Nat} {hh : Eh} {op : PyData → PyData → Option PyData}
theorem w_sNil (h : Q (.nx r m)) : W (sNil r m) Q := .mk h
/-- behind a statement -/
def Then (t : Es) (Q : Out → Prop) : Out → Prop
  | .nx r1 m1 => W (t r1 m1) Q
  | o => Q o
theorem w_seq (h : W (s r m) (Then t Q)) : W (sSeq s t r m) Q := W.bind (W.mono h fun o h => by
  cases o with
  | nx r1 m1 => exact h
  | _ => exact .mk h)
theorem w_set (h : W (f r m) fun p => Q (.nx (r.set i (.fz p.1)) p.2)) : W (sSet i f r m) Q := W.map h
theorem w_setF (h : W (f r m) fun p => Q (.nx (r.set i (.ow p.2.length)) (p.2 ++ [some p.1]))) : W (sSetF i f r m) Q := W.map h
theorem w_setN {u : List PyData → Option PyData} (h : W (fs r m) fun p => p.1.length = n ∧ W (u p.1) fun cs => Q (.nx (r.set i (.ow p.2.length)) (p.2 ++ [some cs]))) : W (sSetN n i fs u r m) Q := W.bind (W.mono h fun _ h => W.map (w_arN h.1 h.2))
theorem w_new (h : W (fs r m) fun p => p.1.length ≤ sizeLine ∧ Q (.nx (r.set i (.ow p.2.length)) (p.2 ++ [some (.list p.1)]))) : W (sNew i fs r m) Q := W.bind (W.mono h fun _ h => W.guard h.1 (.mk h.2))
theorem w_ret (h : W (f r m) fun p => Q (.rt p.1 p.2)) : W (sRet f r m) Q := W.map h
theorem w_retN (h : Q (.rt .none m)) : W (sRetN r m) Q := .mk h
theorem w_retL (h : W (fs r m) fun p => p.1.length ≤ sizeLine ∧ Q (.rn (.list p.1) p.2)) : W (sRetL fs r m) Q := W.bind (W.mono h fun _ h => W.guard h.1 (.mk h.2))
theorem w_retF (h : W (f r m) fun p => Q (.rn p.1 p.2)) : W (sRetF f r m) Q := W.map h
theorem w_if (h : W (c r m) fun p => (p.1 = true → W (s r p.2) Q) ∧ (p.1 = false → W (t r p.2) Q)) : W (sIf c s t r m) Q := W.bind (W.mono h fun p h => W.ite h.1 fun z => h.2 (by simpa using z))
theorem w_drop (h : W (f r m) fun p => Q (.nx r p.2)) : W (sDrop f r m) Q := W.map h
theorem w_brk (h : Q (.bk r m)) : W (sBrk r m) Q := .mk h
theorem w_cont (h : Q (.ct r m)) : W (sCont r m) Q := .mk h
theorem w_aug {d : PyData} (e : r[i]? = some (.fz d)) (h : W (f r m) fun p => W (op d p.1) fun z => Q (.nx (r.set i (.fz z)) p.2)) : W (sAug i op f r m) Q := by
  unfold sAug
  rw [e]
  exact W.bind (W.of rfl (W.bind (W.mono h fun _ h => W.map h)))
theorem w_put {a : Nat} (e : r[i]? = some (.ow a)) (h : W (f r m) fun p => W (g r p.2) fun q => ∃ ds j, cellAt q.2 a = some (.list ds) ∧ q.1 = .int j ∧ W (ixN ds.length j) fun n => Q (.nx r (q.2.set a (some (.list (ds.set n p.1)))))) : W (sPut i f g r m) Q := by
  unfold sPut
  rw [e]
  refine W.bind (W.of rfl (W.bind (W.mono h fun p h => W.bind (W.mono h fun ⟨d, m1⟩ ⟨ds, j, e1, e2, h⟩ => ?_))))
  simp only at e1 e2
  subst e2
  exact W.bind (W.of e1 (W.map h))
theorem w_app {a : Nat} {d0 : List PyData} (e : r[i]? = some (.ow a)) (e0 : cellAt m a = some (.list d0)) (h : W (f r m) fun p => ∃ ds, cellAt p.2 a = some (.list ds) ∧ ds.length < sizeLine ∧ Q (.nx r (p.2.set a (some (.list (ds ++ [p.1])))))) : W (sApp i f r m) Q := by
  unfold sApp
  rw [e]
  refine W.bind (W.of rfl (W.bind (W.of e0 (W.bind (W.mono h fun p ⟨ds, e1, e2, h⟩ => ?_)))))
  exact W.bind (W.of e1 (W.guard e2 (.mk h)))
theorem w_asg (h : W (f r m) fun p => W (hh p.1 r) fun r' => Q (.nx r' p.2)) : W (sAsg f hh r m) Q := W.bind (W.mono h fun _ h => W.map h)
theorem w_hNm {d : PyData} {R : Rs → Prop} (h : R (r.set i (.fz d))) : W (hNm i d r) R := .mk h
/-- behind a turn -/
def Turn (I : Rs → Ms → Prop) (Q : Out → Prop) : Out → Prop
  | .nx r2 m2 => I r2 m2
  | .ct r2 m2 => I r2 m2
  | .bk r2 m2 => Q (.nx r2 m2)
  | o => Q o
theorem turn_nx {I : Rs → Ms → Prop} : Turn I Q (.nx r m) = I r m := rfl
theorem turn_ct {I : Rs → Ms → Prop} : Turn I Q (.ct r m) = I r m := rfl
theorem turn_bk {I : Rs → Ms → Prop} : Turn I Q (.bk r m) = Q (.nx r m) := rfl
theorem turn_rt {I : Rs → Ms → Prop} {d : PyData} : Turn I Q (.rt d m) = Q (.rt d m) := rfl
theorem turn_rn {I : Rs → Ms → Prop} {d : PyData} : Turn I Q (.rn d m) = Q (.rn d m) := rfl
theorem then_nx : Then t Q (.nx r m) = W (t r m) Q := rfl
theorem then_ct : Then t Q (.ct r m) = Q (.ct r m) := rfl
theorem then_bk : Then t Q (.bk r m) = Q (.bk r m) := rfl
theorem then_rt {d : PyData} : Then t Q (.rt d m) = Q (.rt d m) := rfl
theorem then_rn {d : PyData} : Then t Q (.rn d m) = Q (.rn d m) := rfl
/-- a for that runs to its end: I i r m ahead of the i-th item; else it leaves by a return -/
theorem loop_inv {ds : List PyData} (I : Nat → Rs → Ms → Prop) (step : ∀ (i : Nat) (d : PyData) (r : Rs) (m : Ms), ds[i]? = some d → I i r m → W (hh d r) fun r1 => W (s r1 m) (Turn (I (i + 1)) Q)) (done : ∀ r m, I ds.length r m → Q (.nx r m)) : ∀ (k : Nat) (r : Rs) (m : Ms), k ≤ ds.length → I k r m → W (loopS hh s (ds.drop k) r m) Q := by
  intro k
  induction hk : ds.length - k generalizing k with
  | zero =>
    intro r m hl hI
    have : k = ds.length := by omega
    subst this
    rw [List.drop_length]
    exact .mk (done r m hI)
  | succ n ih =>
    intro r m hl hI
    have hlt : k < ds.length := by omega
    rw [List.drop_eq_getElem_cons hlt]
    unfold loopS
    refine W.bind (W.mono (step k ds[k] r m (List.getElem?_eq_getElem hlt) hI) fun r1 h => W.bind (W.mono h fun o h => ?_))
    cases o with
    | nx r2 m2 => exact ih (k + 1) (by omega) r2 m2 (by omega) h
    | ct r2 m2 => exact ih (k + 1) (by omega) r2 m2 (by omega) h
    | bk r2 m2 => exact .mk h
    | rt d m2 => exact .mk h
    | rn d m2 => exact .mk h
theorem w_for (I : List PyData → Nat → Rs → Ms → Prop) {fi : Eas} (h : W (fi r m) fun p => I p.1 0 r p.2 ∧ (∀ (i : Nat) (d : PyData) (r : Rs) (m : Ms), p.1[i]? = some d → I p.1 i r m → W (hh d r) fun r1 => W (s r1 m) (Turn (I p.1 (i + 1)) Q)) ∧ (∀ r m, I p.1 p.1.length r m → Q (.nx r m))) : W (sFor fi hh s r m) Q := W.bind (W.mono h fun p ⟨h1, h2, h3⟩ => by
  have := loop_inv (hh := hh) (s := s) (Q := Q) (ds := p.1) (I p.1) h2 h3 0 r p.2 (Nat.zero_le _) h1
  rw [List.drop_zero] at this
  exact this)
/-- a while: I n r m, at most n turns left -/
theorem w_while (I : Nat → Rs → Ms → Prop) (hI : ∀ n r m, I n r m → W (c r m) fun b => (b.1 = true → ∃ n', n = n' + 1 ∧ W (s r b.2) (Turn (I n') Q)) ∧ (b.1 = false → Q (.nx r b.2))) : ∀ (k n : Nat) (r : Rs) (m : Ms), n < k → I n r m → W (whileS c s k r m) Q := by
  intro k
  induction k with
  | zero => intro n r m h; omega
  | succ k ih =>
    intro n r m hl h
    unfold whileS
    refine W.bind (W.mono (hI n r m h) fun b ⟨h1, h2⟩ => W.ite (fun z => ?_) fun z => .mk (h2 (by simpa using z)))
    obtain ⟨n', e, h3⟩ := h1 z
    subst e
    refine W.bind (W.mono h3 fun o h => ?_)
    cases o with
    | nx r2 m2 => exact ih n' r2 m2 (by omega) h
    | ct r2 m2 => exact ih n' r2 m2 (by omega) h
    | bk r2 m2 => exact .mk h
    | rt d m2 => exact .mk h
    | rn d m2 => exact .mk h
end
/-! ### whole defs -/
section
variable {s : Es} {n : Nat} {ds : List PyData} {cs : PyData}
def PD (Q : PyData → Prop) : Out → Prop
  | .rt d _ => Q d
  | .nx _ _ => Q .none
  | .rn d _ => Q d
  | _ => False
theorem pd_rt {Q : PyData → Prop} {d : PyData} {m : Ms} : PD Q (.rt d m) = Q d := rfl
theorem pd_nx {Q : PyData → Prop} {r : Rs} {m : Ms} : PD Q (.nx r m) = Q .none := rfl
theorem pd_rn {Q : PyData → Prop} {d : PyData} {m : Ms} : PD Q (.rn d m) = Q d := rfl
theorem w_runD {Q : PyData → Prop} (h : W (s (slots n ds) []) (PD Q)) : W (runD n s ds) Q := by
  unfold runD
  cases e : s (slots n ds) [] with
  | none => rw [e] at h; cases h
  | some o =>
    rw [e] at h
    cases h with
    | mk h =>
    cases o with
    | rt d m => exact .mk h
    | nx r m => exact .mk h
    | rn d m => exact .mk h
    | bk r m => exact h.elim
    | ct r m => exact h.elim
def PN (Q : PyData → Prop) : Out → Prop
  | .rn d _ => Q d
  | _ => False
theorem pn_rn {Q : PyData → Prop} {d : PyData} {m : Ms} : PN Q (.rn d m) = Q d := rfl
theorem w_runN {Q : PyData → Prop} (h : W (s (slots n ds) []) (PN Q)) : W (runN n s ds) Q := by
  unfold runN
  cases e : s (slots n ds) [] with
  | none => rw [e] at h; cases h
  | some o =>
    rw [e] at h
    cases h with
    | mk h =>
    cases o with
    | rn d m => exact .mk h
    | rt d m => exact h.elim
    | nx r m => exact h.elim
    | bk r m => exact h.elim
    | ct r m => exact h.elim
def PR (Q : PyData × PyData → Prop) : Out → Prop
  | .rt d m => W (cellAt m 0) fun c => Q (d, c)
  | .nx _ m => W (cellAt m 0) fun c => Q (.none, c)
  | _ => False
theorem pr_rt {Q : PyData × PyData → Prop} {d : PyData} {m : Ms} : PR Q (.rt d m) = W (cellAt m 0) fun c => Q (d, c) := rfl
theorem pr_nx {Q : PyData × PyData → Prop} {r : Rs} {m : Ms} : PR Q (.nx r m) = W (cellAt m 0) fun c => Q (.none, c) := rfl
theorem cell_0 {c : PyData} {m : Ms} {Q : PyData → Prop} (h : Q c) : W (cellAt (some c :: m) 0) Q := .mk h
theorem w_runR {Q : PyData × PyData → Prop} (h : W (s (.ow 0 :: slots n ds) [some cs]) (PR Q)) : W (runR n s cs ds) Q := by
  unfold runR
  cases e : s (.ow 0 :: slots n ds) [some cs] with
  | none => rw [e] at h; cases h
  | some o =>
    rw [e] at h
    cases h with
    | mk h =>
    cases o with
    | rt d m => exact W.map h
    | nx r m => exact W.map h
    | rn d m => exact h.elim
    | bk r m => exact h.elim
    | ct r m => exact h.elim
end
/-! ### a comprehension: all items by one function, none left out -/
theorem lc_all {h : Eh} {t : Et} {f : Ev} {r : Rs} {m : Ms} {u : PyData → PyData} : ∀ (ds acc : List PyData), (∀ d ∈ ds, W (h d r) fun r1 => W (t r1 m) fun b => b = (true, m) ∧ W (f r1 m) fun x => x = (u d, m)) → acc.length + ds.length ≤ sizeLine → lcLoop h t f r ds m acc = some (acc ++ ds.map u, m)
  | [], acc, _, _ => by simp [lcLoop]
  | d :: ds, acc, k, hl => by
    apply W.eq
    unfold lcLoop
    simp only [List.length_cons] at hl
    refine W.bind (W.mono (k d (List.mem_cons_self)) fun r1 h1 => W.bind (W.mono h1 fun b ⟨e, h2⟩ => ?_))
    subst e
    rw [if_pos rfl]
    refine W.bind (W.mono h2 fun x e => ?_)
    subst e
    rw [if_pos (by omega)]
    refine W.of (lc_all ds (acc ++ [u d]) (fun z hz => k z (List.mem_cons_of_mem _ hz)) (by rw [List.length_append]; simp only [List.length_cons, List.length_nil]; omega)) ?_
    rw [List.map_cons, List.append_assoc]
    rfl
end TL

end
/-! TL15 -/
section
set_option maxHeartbeats 4000000
namespace TL
open PySem L2
section
variable {i j : Int} {a b : Str} {Q : PyData → Prop} {R : Bool → Prop} {d e : PyData} {ds es : List PyData}
theorem w_add_i (h : Q (.int (i + j))) : W (addD (.int i) (.int j)) Q := .mk h
theorem w_add_s (hz : a.length + b.length ≤ sizeLine) (h : Q (.str (a ++ b))) : W (addD (.str a) (.str b)) Q := W.guard hz (.mk h)
theorem w_add_l (hz : ds.length + es.length ≤ sizeLine) (h : Q (.list (ds ++ es))) : W (addD (.list ds) (.list es)) Q := W.guard hz (.mk h)
theorem w_add_t (hz : ds.length + es.length ≤ sizeLine) (h : Q (.tuple (ds ++ es))) : W (addD (.tuple ds) (.tuple es)) Q := W.guard hz (.mk h)
theorem w_sub_i (h : Q (.int (i - j))) : W (subD (.int i) (.int j)) Q := .mk h
theorem w_mul_i (hz : (Builtin.Int.intBits i : Int) + (Builtin.Int.intBits j : Int) ≤ 134217728) (h : Q (.int (i * j))) : W (mulD (.int i) (.int j)) Q := W.guard hz (.mk h)
theorem w_mod_i (hz : 0 < j) (h : Q (.int (i % j))) : W (modD (.int i) (.int j)) Q := W.guard hz (.mk h)
theorem w_fdiv_i (hz : 0 < j ∧ j.natAbs.log2 < 9000) (h : Q (.int (i / j))) : W (fdivD (.int i) (.int j)) Q := W.guard hz (.mk h)
theorem w_pow_i (hz : 0 ≤ j ∧ j ≤ 1000000 ∧ i.natAbs < 2 ^ 64) (h : Q (.int (i ^ j.toNat))) : W (powD (.int i) (.int j)) Q := W.guard hz (.mk h)
theorem w_lt_i (h : Q (.bool (decide (i < j)))) : W (ltD (.int i) (.int j)) Q := .mk h
theorem w_le_i (h : Q (.bool (decide (i ≤ j)))) : W (leD (.int i) (.int j)) Q := .mk h
theorem w_gt_i (h : Q (.bool (decide (j < i)))) : W (gtD (.int i) (.int j)) Q := .mk h
theorem w_ge_i (h : Q (.bool (decide (j ≤ i)))) : W (geD (.int i) (.int j)) Q := .mk h
theorem w_bl {c : Bool} (h : R c) : W (blD (.bool c)) R := .mk h
theorem w_tru_b {c : Bool} (h : R c) : W (truD (.bool c)) R := .mk h
theorem w_notD {c : Bool} (h : Q (.bool (!c))) : W (notD (.bool c)) Q := .mk h
theorem w_neg_i (h : Q (.int (-i))) : W (negD (.int i)) Q := .mk h
theorem w_eqD (h1 : SeqAt.shaped d = true) (h2 : SeqAt.shaped e = true) (h : Q (.bool (PyData.eqv d e))) : W (eqD d e) Q := W.guard ⟨h1, h2⟩ (.mk h)
theorem w_neD (h1 : SeqAt.shaped d = true) (h2 : SeqAt.shaped e = true) (h : Q (.bool (!PyData.eqv d e))) : W (neD d e) Q := W.guard ⟨h1, h2⟩ (.mk h)
theorem w_len_l (h : Q (.int ds.length)) : W (lenD [.list ds]) Q := .mk h
theorem w_len_t (h : Q (.int ds.length)) : W (lenD [.tuple ds]) Q := .mk h
theorem w_len_s (hz : a.length ≤ sizeLine) (h : Q (.int a.length)) : W (lenD [.str a]) Q := W.guard hz (.mk h)
theorem w_abs (h : Q (.int (if i < 0 then -i else i))) : W (absD [.int i]) Q := .mk h
theorem w_ix_l (h : W (atI ds i) Q) : W (ixD (.list ds) (.int i)) Q := h
theorem w_ix_t (h : W (atI ds i) Q) : W (ixD (.tuple ds) (.int i)) Q := h
theorem w_ix_s (hz : a.length ≤ sizeLine) (h : W (atI a.cps.toList i) fun c => Q (.str ⟨#[c]⟩)) : W (ixD (.str a) (.int i)) Q := W.guard hz (W.map h)
theorem w_isn (h : Q (.bool (match d with | .none => true | _ => false))) : W (isD d .none) Q := by
  unfold isD
  exact .mk h
theorem w_its_l {P : List PyData → Prop} (h : P ds) : W (itemsD (.list ds)) P := .mk h
theorem w_its_t {P : List PyData → Prop} (h : P ds) : W (itemsD (.tuple ds)) P := .mk h
theorem w_its_s {P : List PyData → Prop} (h : P (signs a)) : W (itemsD (.str a)) P := .mk h
theorem w_at {α : Type} {x : α} {l : List α} {P : α → Prop} (e : atI l i = some x) (h : P x) : W (atI l i) P := W.of e h
theorem atI_0 {α : Type} (x : α) (xs : List α) : atI (x :: xs) 0 = some x := by
  unfold atI ixN
  have h : (0 : Int) < ((x :: xs).length : Int) := by simp only [List.length_cons]; omega
  rw [if_pos (Int.le_refl 0), if_pos h]
  rfl
theorem atI_1 {α : Type} (x y : α) (xs : List α) : atI (x :: y :: xs) 1 = some y := by
  unfold atI ixN
  have h : (1 : Int) < ((x :: y :: xs).length : Int) := by simp only [List.length_cons]; omega
  rw [if_pos (by decide), if_pos h]
  rfl
theorem atI_in {α : Type} {l : List α} (h0 : 0 ≤ i) (h1 : i < l.length) : atI l i = some (l[i.toNat]'(by omega)) := by
  unfold atI ixN
  rw [if_pos h0, if_pos h1]
  exact List.getElem?_eq_getElem (by omega)
theorem ixN_0 (n : Nat) : ixN (n + 1) 0 = some 0 := by
  unfold ixN
  rw [if_pos (Int.le_refl 0), if_pos (by omega)]
  rfl
theorem ixN_1 (n : Nat) : ixN (n + 2) 1 = some 1 := by
  unfold ixN
  rw [if_pos (by decide), if_pos (by omega)]
  rfl
end
/-- bits -/
theorem bits64 {i : Int} (h0 : -18446744073709551616 < i) (h1 : i < 18446744073709551616) : Builtin.Int.intBits i ≤ 64 := PyProof.Rows.intBits_le (by omega)
theorem mul_fit {i j : Int} (h : Builtin.Int.intBits i ≤ 60000000) (h' : Builtin.Int.intBits j ≤ 60000000) : (Builtin.Int.intBits i : Int) + (Builtin.Int.intBits j : Int) ≤ 134217728 := by omega
theorem log_fit {j : Int} (h0 : 0 < j) (h1 : j < 18446744073709551616) : 0 < j ∧ j.natAbs.log2 < 9000 := by
  refine ⟨h0, ?_⟩
  have h : j.natAbs < 2 ^ 64 := by omega
  have : j.natAbs.log2 < 64 := (Nat.log2_lt (by omega)).mpr h
  omega
/-! ### the tactic -/
theorem fit2 {a b : PyData} : [a, b].length ≤ sizeLine := by simp only [List.length_cons, List.length_nil]; decide



theorem w_lc {fi : Eas} {own : List Nat} {h : Eh} {t : Et} {f : Ev} {r : Rs} {m : Ms} {Q : PyData × Ms → Prop} (k : W (fi r m) fun p => ∃ res, lcLoop h t f (wipeR r own) p.1 p.2 [] = some (res, p.2) ∧ Q (.list res, p.2)) : W (eLc fi own h t f r m) Q :=
  W.bind (W.mono k fun p ⟨res, e, h⟩ => W.map (W.of e h))
theorem lc_filter {h : Eh} {t : Et} {f : Ev} {r : Rs} {m : Ms} {c : PyData → Bool} : ∀ (ds acc : List PyData), (∀ d ∈ ds, W (h d r) fun r1 => W (t r1 m) fun b => b = (c d, m) ∧ W (f r1 m) fun x => x = (d, m)) → acc.length + ds.length ≤ sizeLine → lcLoop h t f r ds m acc = some (acc ++ ds.filter c, m)
  | [], acc, _, _ => by simp [lcLoop]
  | d :: ds, acc, k, hl => by
    apply W.eq
    unfold lcLoop
    simp only [List.length_cons] at hl
    refine W.bind (W.mono (k d (List.mem_cons_self)) fun r1 h1 => W.bind (W.mono h1 fun b ⟨e, h2⟩ => ?_))
    subst e
    by_cases hc : c d = true
    · rw [if_pos hc]
      refine W.bind (W.mono h2 fun x e => ?_)
      subst e
      rw [if_pos (by omega)]
      refine W.of (lc_filter ds (acc ++ [d]) (fun z hz => k z (List.mem_cons_of_mem _ hz)) (by rw [List.length_append]; simp only [List.length_cons, List.length_nil]; omega)) ?_
      rw [List.filter_cons_of_pos hc, List.append_assoc]
      rfl
    · rw [if_neg hc]
      refine W.of (lc_filter ds acc (fun z hz => k z (List.mem_cons_of_mem _ hz)) (by omega)) ?_
      rw [List.filter_cons_of_neg hc]
theorem bools_map {α : Type} (g : α → Bool) : ∀ l : List α, bools (l.map fun x => .bool (g x)) = some (l.map g)
  | [] => rfl
  | x :: l => by rw [List.map_cons, bools, bools_map g l]; rfl
theorem allD_map {α : Type} (g : α → Bool) (l : List α) : allD [.list (l.map fun x => .bool (g x))] = some (.bool ((l.map g).all id)) := by
  unfold allD
  simp only [bools_map, Option.map_some]
theorem anyD_map {α : Type} (g : α → Bool) (l : List α) : anyD [.list (l.map fun x => .bool (g x))] = some (.bool ((l.map g).any id)) := by
  unfold anyD
  simp only [bools_map, Option.map_some]
/-! ### shaped data -/
theorem lay_all : ∀ {ds : List PyData}, (∀ d ∈ ds, d.canLay0 = true) → PyData.canLayAll0 ds = true
  | [], _ => by simp [PyData.canLayAll0]
  | d :: ds, h => by
    have h1 := lay_all (ds := ds) fun x hx => h x (List.mem_cons_of_mem _ hx)
    have h2 := h d (List.mem_cons_self)
    simp [PyData.canLayAll0, h1, h2]
theorem depth_all {k : Nat} : ∀ {ds : List PyData}, (∀ d ∈ ds, d.depth ≤ k) → PyData.depthAll ds ≤ k
  | [], _ => by simp [PyData.depthAll]
  | d :: ds, h => by
    have h1 := depth_all (ds := ds) fun x hx => h x (List.mem_cons_of_mem _ hx)
    have h2 := h d (List.mem_cons_self)
    simp only [PyData.depthAll]
    omega
theorem shaped_of {d : PyData} (h1 : d.canLay0 = true) (h2 : d.depth ≤ 64) : SeqAt.shaped d = true := by
  show (d.canLay0 && decide (d.depth ≤ 64)) = true
  rw [h1, decide_eq_true h2]
  rfl
theorem shaped_l {ds : List PyData} {k : Nat} (h : ∀ d ∈ ds, d.canLay0 = true ∧ d.depth ≤ k) (hk : k ≤ 62) : SeqAt.shaped (.list ds) = true := by
  have h1 := depth_all fun d hd => (h d hd).2
  exact shaped_of (by simp only [PyData.canLay0]; exact lay_all fun d hd => (h d hd).1) (by simp only [PyData.depth]; omega)
theorem shaped_t {ds : List PyData} {k : Nat} (h : ∀ d ∈ ds, d.canLay0 = true ∧ d.depth ≤ k) (hk : k ≤ 62) : SeqAt.shaped (.tuple ds) = true := by
  have h1 := depth_all fun d hd => (h d hd).2
  exact shaped_of (by simp only [PyData.canLay0]; exact lay_all fun d hd => (h d hd).1) (by simp only [PyData.depth]; omega)
theorem shaped_i (i : Int) : SeqAt.shaped (.int i) = true := shaped_of (by simp [PyData.canLay0]) (by simp [PyData.depth])
theorem shaped_b (b : Bool) : SeqAt.shaped (.bool b) = true := shaped_of (by simp [PyData.canLay0]) (by simp [PyData.depth])
theorem shaped_n : SeqAt.shaped .none = true := shaped_of (by simp [PyData.canLay0]) (by simp [PyData.depth])
theorem shaped_s {x : Str} (h : (PyData.str x).canLay0 = true) : SeqAt.shaped (.str x) = true := shaped_of h (by simp [PyData.depth])
end TL

end
open PySem L2 TL
local macro_rules | `(tactic| walk_at "tl1") => `(tactic| first
  | with_reducible refine w_seq ?_ | with_reducible refine w_set ?_ | with_reducible refine w_ret ?_ | with_reducible refine w_sNil ?_ | with_reducible refine w_retL ?_ | with_reducible refine w_retN ?_ | with_reducible refine w_new ?_ | with_reducible refine w_setN ?_ | with_reducible refine w_setF ?_ | with_reducible refine w_retF ?_
  | ((with_reducible refine' w_put ?_ ?_); rotate_left; (exact rfl)) | with_reducible refine w_drop ?_ | with_reducible refine w_asg ?_ | with_reducible refine w_brk ?_ | with_reducible refine w_cont ?_ | ((with_reducible refine' w_aug ?_ ?_); rotate_left; (exact rfl))
  | with_reducible refine w_C ?_ | ((with_reducible refine' w_V ?_ ?_); rotate_left; (exact rfl)) | with_reducible refine w_bin ?_ | with_reducible refine w_map ?_ | with_reducible refine w_nil ?_ | with_reducible refine w_cons ?_ | with_reducible refine w_tup ?_ | with_reducible refine w_lst ?_ | with_reducible refine w_T ?_ | with_reducible refine w_not ?_ | with_reducible refine w_and ?_ | with_reducible refine w_or ?_
  | with_reducible refine w_eIf ?_ | with_reducible refine w_andV ?_ | with_reducible refine w_orV ?_ | with_reducible refine w_chain ?_ | ((with_reducible refine' w_ixO ?_ ?_); rotate_left; (exact rfl)) | ((with_reducible refine' w_callR ?_ ?_); rotate_left; (exact rfl)) | with_reducible refine w_sm ?_ | with_reducible refine w_no ?_ | with_reducible refine w_pt ?_ | with_reducible refine w_sl ?_ | with_reducible refine w_its ?_ | with_reducible refine w_rg1 ?_ | with_reducible refine w_rg2 ?_ | with_reducible refine w_enum ?_
  | with_reducible refine w_add_i ?_ | with_reducible refine w_sub_i ?_ | with_reducible refine w_lt_i ?_ | with_reducible refine w_le_i ?_ | with_reducible refine w_gt_i ?_ | with_reducible refine w_ge_i ?_ | with_reducible refine w_bl ?_ | with_reducible refine w_tru_b ?_ | with_reducible refine w_notD ?_ | with_reducible refine w_neg_i ?_ | with_reducible refine w_len_l ?_ | with_reducible refine w_len_t ?_ | with_reducible refine w_abs ?_
  | with_reducible refine w_ix_l ?_ | with_reducible refine w_ix_t ?_ | with_reducible refine w_its_l ?_ | with_reducible refine w_its_t ?_ | with_reducible refine w_its_s ?_ | with_reducible refine w_hNm ?_ | with_reducible refine w_isn ?_
  | with_reducible refine w_at (atI_0 _ _) ?_ | with_reducible refine w_at (atI_1 _ _ _) ?_ | with_reducible refine W.of (ixN_0 _) ?_ | with_reducible refine W.of (ixN_1 _) ?_
  | with_reducible refine cell_0 ?_ | with_reducible refine w_runD ?_ | with_reducible refine w_runR ?_ | with_reducible refine w_runN ?_ | ((with_reducible refine' w_arN ?_ ?_); (exact rfl))
  | with_reducible refine w_mod_i (by first | assumption | omega) ?_ | with_reducible refine w_fdiv_i (by first | assumption | exact ⟨by assumption, by assumption⟩ | exact log_fit (by omega) (by omega)) ?_
  | with_reducible refine w_mul_i (by first | assumption | exact mul_fit (Nat.le_trans (bits64 (by omega) (by omega)) (by decide)) (Nat.le_trans (bits64 (by omega) (by omega)) (by decide))) ?_)
local macro_rules | `(tactic| walk_at "tln") => `(tactic| simp only [slots, List.map_cons, List.map_nil, List.replicate, List.cons_append, List.nil_append, List.append_nil, List.set_cons_zero, List.set_cons_succ, List.length_cons, List.length_nil, Nat.zero_add, Nat.reduceAdd, then_nx, then_ct, then_bk, then_rt, then_rn, turn_nx, turn_ct, turn_bk, turn_rt, turn_rn, pd_rt, pd_nx, pd_rn, pn_rn, pr_rt, pr_nx])
local macro_rules | `(tactic| walk_at "tlx") => `(tactic| (refine Exists.intro _ (Exists.intro _ (And.intro (Eq.refl _) (And.intro (Eq.refl _) ?_)))))
local macro_rules | `(tactic| walk_at "tlev") => `(tactic| repeat (first | walk_at "tl1" | walk_at "tln" | (with_reducible walk_at "tlx") | dsimp only))
/-! TL16 -/
section
set_option maxHeartbeats 4000000
namespace TL
open PySem L2
/-! ## a new list by + -/
def catL : PyData → PyData → Option PyData
  | .list a, .list b => if a.length + b.length ≤ sizeLine then some (.list (a ++ b)) else none
  | _, _ => none
section
variable {X : Cx} {U : Hp} {pos : Pos} {a b : Expr} {f g : Ev}
theorem qn_cat (ha : PE X a (tE X.K U f)) (hb : PE X b (tE X.K U g)) : PE X (.BinOp a .Add b pos) (tN X.K U (eBin catL f g)) := pe_weak (pe_op op_catR ha hb) fun σ H Q ⟨A, F, r, m, d, m', G, e, k⟩ => by
  obtain ⟨d1, m1, d2, e1, e2, e3⟩ := bin_some e
  refine ⟨A, F, r, m, d1, m1, G, e1, fun F1 H1 x s1 G1 h1 => ⟨A, F1, r, m1, d2, m', G1, e2, fun F2 H2 y s2 G2 h2 => ?_⟩⟩
  unfold catL at e3
  split at e3
  · split at e3
    · rename_i hz
      cases e3
      cases h1 with
      | vl sa ra => cases h2 with
        | vl sb rb =>
          have l1 := rpa_len ra
          have l2 := rpa_len rb
          exact ⟨_, _, _, _, rfl, rfl, sqL_mono (s2.trans G2.sub) sa, sqL_mono G2.sub sb, by omega, fun p np => k F2 _ p _ (s1.trans s2) (G2.laidO np) (G2.nope np).1 (G2.nope np).2 (G2.notin np) upd_same ⟨_, rfl, rpa_app (Rpam s2 ra) rb⟩⟩
    · cases e3
  · cases e3
end
end TL

end
/-! TL17 -/
section
set_option maxHeartbeats 4000000
namespace TL
open PySem PySem.Spec PyProof.Rows L2
/-! ## promises that hold where nothing is being shown (so that repr may be asked) -/
structure FnG (P : Program) (w : World) (K : PySem.W.Frag) (mg : Str → Option Value) (base : Heap) (k : Nat) (f : Addr) (fd : FuncData) (ps : List Str) (sp : Sp) : Prop where
  len : ∀ vs H Q E, sp vs H Q E → vs.length = ps.length
  run : ∀ (A : Around) (outer : List Env) (s : Shared) (H : Hp) (args : Args) (us : List Value) (vs : List V) (Q : VK) (E : XK), Room k A → A.guards = some [] → Env0 P w K mg base A outer s H →
    BindsTo s fd args (ps.zip us) → Vals vs us → sp vs H Q E → codeAny (model P w) A (.call (.ref f) args) (CR CX0 outer P w H s Q E) s
theorem FnG.of {P : Program} {w : World} {K : PySem.W.Frag} {mg : Str → Option Value} {base : Heap} {k : Nat} {f : Addr} {fd : FuncData} {ps : List Str} {sp : Sp} (F : FnOk P w K mg base CX0 k f fd ps sp) : FnG P w K mg base k f fd ps sp :=
  ⟨F.len, fun A outer s H args us vs Q E room _ => F.run A outer s H args us vs Q E room⟩
theorem guards_deeper {A : Around} {env : Env} (g : A.guards = some []) : (A.deeper env).guards = some [] := g
/-- repr(x) of data that is no dict -/
def reprD : List PyData → Option PyData
  | [.list ds] => if (PyData.list ds).showable = true ∧ (PyData.list ds).hasDict = false ∧ SeqAt.shaped (.list ds) = true ∧ (PyData.list ds).shown.length ≤ sizeLine then some (.str (PyData.list ds).shown) else none
  | [.tuple ds] => if (PyData.tuple ds).showable = true ∧ (PyData.tuple ds).hasDict = false ∧ SeqAt.shaped (.tuple ds) = true ∧ (PyData.tuple ds).shown.length ≤ sizeLine then some (.str (PyData.tuple ds).shown) else none
  | [.int i] => if i.natAbs.log2 < 1920 then some (.str (toString i)) else none
  | _ => none
section
variable {X : Cx} {U : Hp}
abbrev rReprD (K : PySem.W.Frag) : List V → Hp → VK → Prop := fun xs H Q => (∃ i, xs = [.int i] ∧ i.natAbs.log2 < 1920 ∧ Q (.str (toString i)) H) ∨
  (∃ a d, xs = [.ref a] ∧ Dp K H (.ref a) d ∧ d.showable = true ∧ d.hasDict = false ∧ SeqAt.shaped d = true ∧ d.shown.length ≤ sizeLine ∧ Q (.str d.shown) H)
theorem call_reprD (g : X.A.guards = some []) (hu : X.A.units + 66 < cLine) : CallR X (.builtin "repr") (rReprD X.K) := by
  intro pins s σ H xs us Q I r h
  rcases h with h | ⟨a, d, rfl, hd, h1, h2, h3, h4, q⟩
  · exact SkE.call_repr_int pins s σ H xs us Q I r h
  · obtain ⟨u, rfl, rx⟩ := vals1 r
    obtain ⟨as, rd⟩ := Dp.reads I d (.ref a) u hd rx
    cases rx
    have hdep := SeqAt.depth_of_shaped h3
    exact repr_of_reads' (h₀ := s.heap) rd h1 (fun z => by rw [h2] at z; cases z) g (by omega) (fun _ _ z => z) (fun h' t tk hk => ⟨.str d.shown, H, I.kept hk, ⟨t, rfl⟩, q⟩) h4
theorem cd_repr : CallD X U (rReprD X.K) reprD := by
  intro A F H σ r m vs ds d Q G ha e k
  unfold reprD at e
  split at e
  · split at e
    · rename_i hz
      cases e
      obtain ⟨v, rfl, h⟩ := rpa1 ha
      cases h with
      | vl sa ra => exact .inr ⟨_, _, rfl, rp_dp G.sub _ _ (SeqAt.canLay_of_shaped hz.2.2.1) (.vl sa ra), hz.1, hz.2.1, hz.2.2.1, hz.2.2.2, k F H _ (Same.refl F) G (.vs _)⟩
    · cases e
  · split at e
    · rename_i hz
      cases e
      obtain ⟨v, rfl, h⟩ := rpa1 ha
      cases h with
      | vt sa ra => exact .inr ⟨_, _, rfl, rp_dp G.sub _ _ (SeqAt.canLay_of_shaped hz.2.2.1) (.vt sa ra), hz.1, hz.2.1, hz.2.2.1, hz.2.2.2, k F H _ (Same.refl F) G (.vs _)⟩
    · cases e
  · split at e
    · rename_i hz
      cases e
      obtain ⟨v, rfl, h⟩ := rpa1 ha
      cases h
      exact .inl ⟨_, rfl, hz, k F H _ (Same.refl F) G (.vs _)⟩
    · cases e
  · cases e
end
/-! ### such a promise from a body -/
section
variable {P : Program} {w : World} {K : PySem.W.Frag} {mg : Str → Option Value} {base : Heap} {x qual : Str} {st : Stmt} {f : Addr} {fd : FuncData} {N ps : List Str} {k : Nat} {sp : Sp}
theorem fn_ofG (F : Fun K x qual st f fd) (S : FnScope N ps (defScope st)) (len : ∀ vs H Q E, sp vs H Q E → vs.length = ps.length)
    (body : ∀ (cdv : Value) (A : Around) (outer : List Env) (s : Shared) (H : Hp) (vs : List V) (Q : VK) (E : XK), Room k (A.deeper (envOfC qual (defScope st) s.heap.objs.size f cdv)) → A.guards = some [] → sp vs H Q E →
      ∃ t, PSs (cxOf CX0 P w K mg base N qual (defScope st) f cdv A outer s H E) (defBody st) t ∧ t { nx := fun _ H' => Q .non H', rt := Q } (start N vs) H) : FnG P w K mg base (k + 1) f fd ps sp := by
  obtain ⟨oc, od, kV, doc, pm, an, cdv, ct, osl, rfl, stands, coded⟩ := F.ex
  refine ⟨len, fun A outer s H args us vs Q E room gd env bind rel pr => ?_⟩
  have many := len _ _ _ _ pr
  have laid : K.In s.heap := env.mod.kin.keeps fun b o z => (env.bs b o z).1
  have free : s.heap.NoLimit := env.mod.nolimit.keeps fun b o z => (env.bs b o z).1
  have kinds : ∀ y ∈ ps.zip us, (defScope st).names.lookup y.1 = some .local ∨ ((defScope st).names.lookup y.1 = some .cell ∧ ((cellsFrom (s.heap.objs.size + 1) (defScope st).names []).lookup y.1).isSome = true) := by
    rintro ⟨n, v⟩ hy
    cases S.par n (List.of_mem_zip hy).1 with
    | inl q => exact .inl q
    | inr q => exact .inr ⟨q, PySem.W.cellsFrom_some _ _ _ (.inl q)⟩
  apply codeAny_call_function room.depth (laid _ _ stands) rfl S.co S.gen rfl (PySem.W.codeRec_of laid coded)
  apply bind
  apply wpAny_newFunctionEnv_cells S.kind kinds
  rintro nv rfl s1 call
  refine ⟨free.keeps call.toInCall.keep, codeAny_func ?_⟩
  obtain ⟨t, does, meant⟩ := body cdv A outer s H vs Q E (room.deeper _) gd pr
  have start0 : Inv (cxOf CX0 P w K mg base N qual (defScope st) f cdv A outer s H E) [] (start N vs) H s1 := inv_start S room.hd env many rel call
  refine wpAny_mono (does.run [] s1 (start N vs) H _ start0 meant) (fun flow s' ended => ?_) fun e s' ended => ended
  have told : ∀ {σ' : L2.St} {H' : Hp} {v : V} {u : Value}, Inv (cxOf CX0 P w K mg base N qual (defScope st) f cdv A outer s H E) [] σ' H' s' → RelV v u → Q v H' → CE outer P w H s Q u s' :=
    fun {σ' H' v u} J rv q => ⟨v, H', J.os, J.bare, J.base, J.hok, rv, q⟩
  cases flow with
  | ret u => obtain ⟨v, σ', H', J, rv, q⟩ := ended; exact told J rv q
  | next => obtain ⟨σ', H', J, q⟩ := ended; exact told (v := V.non) (u := Value.none) J rfl q
  | brk => obtain ⟨_, _, _, q⟩ := ended; exact q.elim
  | cont => obtain ⟨_, _, _, q⟩ := ended; exact q.elim
end
/-! ### a call by such a promise -/
section
variable {X : Cx} {U : Hp} {f : Addr} {fd : FuncData} {ps : List Str} {k : Nat} {sp : Sp} {x : Str} {p pos : Pos} {e : Expr} {es : List Expr} {t : TA}
theorem pe_callG (F : FnG X.prog X.w X.K X.mg X.base k f fd ps sp) (room : Room k X.A) (gd : X.A.guards = some []) (hg : Gl X x) (hm : X.mg x = some (.ref f)) (kp : PySem.W.keepIn X.K (.ref f) = true) (hb : Binds X.K fd ps []) (ha : PA X (e :: es) t)
    (hdb : (x == ("__debug__" : Str)) = false := by decide) (he : starEach (e :: es) X.env = (false, eval e X.env) :: starEach es X.env := by rfl) (hpl : (backTo pos (starEach es X.env)).any (·.1) = false := by rfl) :
    PE X (.Call (.Name x p) (e :: es) [] pos) (tCall sp [] E0 t) := by
  refine ⟨fun pins s σ H Q I h => ?_⟩
  apply wpAny_Call_Name_kw (ld_glob I hg hm ?_ hdb)
  apply PySem.W.callWith_K (h₀ := X.base) I.ok.mod.kin kp (thn (ha.run pos pins s σ H _ I h) fun us s1 ⟨vs, H1, I1, r, q⟩ => ⟨I1.kIn, ?_⟩) he hpl
  have q' : sp vs H1 Q E0 := by
    have z : sp (vs ++ []) H1 Q E0 := q
    rw [List.append_nil] at z
    exact z
  have hl : us.length = ps.length := by
    rw [← r.length]
    exact F.len _ _ _ _ q'
  apply wpAny_call
  have both := F.run X.A X.stack s1 H1 ⟨us, []⟩ us vs Q E0 room gd I1.env0 (by have := hb s1 us I1.kIn (by rw [List.append_nil]; exact hl); rw [List.append_nil] at this; exact this) r q'
  refine codeAny_mono both fun res s' done => ?_
  cases res with
  | error err => exact pass0 pins σ H1 s1 err s' I1 done
  | ok flow =>
    cases flow with
    | ret u => exact I1.after done
    | next => exact done.elim
    | brk => exact done.elim
    | cont => exact done.elim
end
end TL

end
/-! TL18 -/
section
set_option maxHeartbeats 4000000
namespace TL
open PySem PySem.Spec PyProof.Rows L2
section
variable {P : Program} {w : World} {K : PySem.W.Frag} {mg mb : Str → Option Value} {k : Nat} {fa a : Addr} {fd : FuncData} {x : Str} {sp : Sp} {s₁ : Shared} {vs : List Value} {ns : List Int}
/-- the law called, its list told as a heap H in which nothing else is held -/
theorem law_G1 (laid : K.In s₁.heap) (names : s₁.heap.Ns mainGlobals mg) (blt : s₁.heap.Ns builtinsNs mb) (boot : ∀ x : Str, x ≠ "__name__" → mb x = bootBuiltins x) (free : s₁.heap.NoLimit) (gens : s₁.gens = #[])
    (script : s₁.heap.get? a = some { cls := .type "list", data := .seq vs.toArray }) (room : Room k callerA) (F : ∀ base : Heap, K.In base → base.Ns mainGlobals mg → FnG P w K mg base k fa fd [x] sp) (bind : ∀ (s : Shared) (u : Value), BindsTo s fd ⟨[u], []⟩ [(x, u)])
    (H : Hp) (only : Only H) (q : sp [.ref a] H (fun v _ => v = .bl true) E0) (ok : HOk P w H s₁.heap) (alone : ∀ b, H b ≠ none → b = a) (notK : H a ≠ none → K.lookup a = none) :
    codeAny (model P w) callerA (.call (.ref fa) ⟨[.ref a], []⟩) (fun r s' => r = .ok (.ret (.bool true)) ∧ OldK s₁.heap s'.heap ∧ s'.os = s₁.os ∧ AllBare s'.gens) s₁ := by
  have isA : ∀ {b : Addr} {u : HO}, H b = some u → b = a := fun {b u} z => alone b (by rw [z]; simp)
  have unheld : ∀ {b : Addr} {o : Obj} {es : Array DictEntry} {ep : Nat}, s₁.heap.get? b = some o → o.data = .dict es ep → H b = none := fun {b o es ep} z d => by
    cases hb : H b with
    | none => rfl
    | some u =>
      rw [isA hb, script] at z
      cases z
      cases (show Data.seq vs.toArray 0 = Data.dict es ep from d)
  have nsIn : ∀ {b : Addr} {m : Str → Option Value}, s₁.heap.Ns b m → (hidT s₁.heap H).Ns b m := fun {b m} ⟨o, es, ep, z, d, r⟩ => ⟨o, es, ep, hidT_get z (unheld z d), d, r⟩
  have kIn : K.In (hidT s₁.heap H) := fun b o z => hidT_get (laid b o z) (by
    cases hb : H b with
    | none => rfl
    | some u =>
      have hba := isA hb
      subst hba
      rw [notK (by rw [hb]; simp)] at z
      cases z)
  obtain ⟨mc, l1, l2⟩ := free
  have env : Env0 P w K mg (hidT s₁.heap H) callerA [] s₁ H :=
    ⟨rfl, ⟨kIn, nsIn names, ⟨mb, nsIn blt, boot⟩, mc, nsIn l1, l2⟩, fun b o z => of_hidT z, Nat.le_of_eq (hidT_size _ _), trivial, fun b hb => (by cases hb), ok, .of_eq gens⟩
  have ran := (F _ kIn (nsIn names)).run callerA [] s₁ H ⟨[.ref a], []⟩ [.ref a] [.ref a] _ E0 room rfl env (bind s₁ (.ref a)) (.cons rfl .nil) q
  refine codeAny_mono ran fun r s' done => ?_
  cases r with
  | error e => exact done.elim
  | ok flow =>
    cases flow with
    | next => exact done.elim
    | brk => exact done.elim
    | cont => exact done.elim
    | ret u =>
      obtain ⟨v, H', os, bare, un, ok', rv, hv⟩ := done
      have hv2 : v = .bl true := hv
      subst hv2
      obtain rfl : u = Value.bool true := rv
      refine ⟨rfl, OldK.of_keep fun b o z => ?_, os, bare⟩
      cases hb : H b with
      | none => exact un.keep b o z hb (fun y => by cases y) (by simp)
      | some u =>
        rcases only b with y | ⟨ob, xs, y⟩
        · rw [hb] at y; cases y
        · obtain ⟨z1, _⟩ := ok b _ y
          obtain ⟨z2, _⟩ := ok' b _ (un.frzs b ob _ y)
          rw [z] at z1
          cases z1
          exact z2
theorem law_G (laid : K.In s₁.heap) (names : s₁.heap.Ns mainGlobals mg) (blt : s₁.heap.Ns builtinsNs mb) (boot : ∀ x : Str, x ≠ "__name__" → mb x = bootBuiltins x) (free : s₁.heap.NoLimit) (gens : s₁.gens = #[])
    (script : s₁.heap.get? a = some { cls := .type "list", data := .seq vs.toArray }) (allI : IntsAre vs ns) (few : ns.length ≤ sizeLine) (room : Room k callerA) (F : ∀ base : Heap, K.In base → base.Ns mainGlobals mg → FnG P w K mg base k fa fd [x] sp)
    (bind : ∀ (s : Shared) (u : Value), BindsTo s fd ⟨[u], []⟩ [(x, u)]) (q : ∀ H : Hp, Only H → SqL K H a (ns.map V.int) → sp [.ref a] H (fun v _ => v = .bl true) E0) :
    codeAny (model P w) callerA (.call (.ref fa) ⟨[.ref a], []⟩) (fun r s' => r = .ok (.ret (.bool true)) ∧ OldK s₁.heap s'.heap ∧ s'.os = s₁.os ∧ AllBare s'.gens) s₁ := by
  have rel := vals_ints allI
  have many : vs.length ≤ sizeLine := by rw [allI.length]; exact few
  cases own : K.lookup a with
  | some o =>
    have z := laid a o own
    rw [script] at z
    cases z
    have only : Only (fun _ => none) := fun _ => .inl rfl
    exact law_G1 laid names blt boot free gens script room F bind _ only (q _ only (.inr ⟨_, vs.toArray, _, own, rfl, rfl, rfl, by rw [List.size_toArray]; exact many, by simpa using rel⟩))
      (fun b u z => nomatch (show (none : Option HO) = some u from z)) (fun b z => absurd rfl z) fun z => absurd rfl z
  | none =>
    have at_ : ∀ b, b ≠ a → upd (fun _ => none) a (.frz { cls := .type "list", data := .seq vs.toArray } (.lst (ns.map V.int))) b = none := fun b hb => upd_ne hb
    have only : Only (upd (fun _ => none) a (.frz { cls := .type "list", data := .seq vs.toArray } (.lst (ns.map V.int)))) := fun b => by
      by_cases hb : b = a
      · subst hb; exact .inr ⟨_, _, upd_same⟩
      · exact .inl (at_ b hb)
    refine law_G1 laid names blt boot free gens script room F bind _ only (q _ only (.inl (.inr ⟨_, upd_same⟩))) (fun b u z => ?_) (fun b z => ?_) fun _ => own
    · by_cases hb : b = a
      · subst hb
        rw [upd_same] at z
        cases z
        exact ⟨script, by rw [List.length_map]; exact few, vs, _, rel, script⟩
      · rw [at_ b hb] at z; cases z
    · by_cases hb : b = a
      · exact hb
      · exact absurd (at_ b hb) z
end
/-- a law of one list of ints whose def may ask repr: what is left is plain Lean -/
theorem walk_treeG {l : PySem.W.OpenLaw} {n k : Nat} {q : Program} {loose : List Str} {XP : (Str → Option Value) → Heap → Prop} {YP : World → Heap → Prop} {d : DefRec} {x : Str} {g : List PyData → Option PyData}
    (hn : l.most = some n) (hn2 : n ≤ sizeLine) (hdf : d.params.defaults = []) (hr : Room k callerA)
    (F : ∀ (w : World) (mg : Str → Option Value) (fa : Addr) (h : Heap), YP w h → h.Ns mainGlobals mg → mg d.name = some (.ref fa) →
      ∃ (K : PySem.W.Frag) (fd : FuncData), K.In h ∧ (∀ (s : Shared) (u : Value), BindsTo s fd ⟨[u], []⟩ [(x, u)]) ∧
        ∀ base : Heap, K.In base → base.Ns mainGlobals mg → FnG l.prog w K mg base k fa fd [x] (spD K 1 g))
    (hg : ∀ ns : List Int, ns.length ≤ n → (∀ z ∈ ns, Builtin.Int.intBits z ≤ 1048576) → g [.list (ns.map .int)] = some (.bool true)) :
    PySem.W.WalkO q loose XP YP l.row.toRowW d [] (fun f vs => PySem.call f vs) := by
  refine Att.attach_callB hn hdf fun w s₀ s₁ mg mb fa o pm cd doc a vs ns G Y ho hd hcd hmg hobj hints hlen hbits hgs => ?_
  obtain ⟨K, fd, KX, hb, hF⟩ := F w mg fa _ Y G.T.g hmg
  refine law_G KX G.T.g G.T.b G.T.builtins G.T.nolimit hgs hobj hints (Nat.le_trans hlen hn2) hr hF hb fun H hO hS => ?_
  refine ⟨H, [.list (ns.map .int)], .bool true, Same.refl H, rfl, .cons (.vl hS (rpa_ints ns)) .nil, hg ns hlen hbits, fun F' H' v _ _ _ hv => ?_⟩
  cases hv
  rfl
end TL

end
/-! TL19 -/
section
set_option maxHeartbeats 4000000
namespace TL
open PySem PySem.Spec PyProof.Rows L2
section
variable {P : Program} {w : World} {K : PySem.W.Frag} {mg : Str → Option Value} {base : Heap} {x qual : Str} {st : Stmt} {f : Addr} {fd : FuncData} {N ps : List Str} {k : Nat} {s : Es}
theorem fn_DG (F : Fun K x qual st f fd) (S : FnScope N ps (defScope st)) (hpl : ps.length ≤ N.length)
    (hb : ∀ (cdv : Value) (A : Around) (outer : List Env) (s0 : Shared) (H : Hp) (E : XK) (U : Hp), Room k (A.deeper (PyProof.Rows.envOfC qual (defScope st) s0.heap.objs.size f cdv)) → A.guards = some [] →
      PSs (cxOf CX0 P w K mg base N qual (defScope st) f cdv A outer s0 H E).nox (defBody st) (tS K U 0 s)) : FnG P w K mg base (k + 1) f fd ps (spD K ps.length (runD (N.length - ps.length) s)) := by
  refine fn_ofG F S (fun vs H Q E h => ?_) fun cdv A outer s0 H vs Q E hr gd h => ?_
  · obtain ⟨_, _, _, _, hl, _⟩ := h
    exact hl
  · obtain ⟨U, q⟩ := go_D hpl h
    exact ⟨_, (hb cdv A outer s0 H E U hr gd).nox, q⟩
theorem fn_NG (F : Fun K x qual st f fd) (S : FnScope N ps (defScope st)) (hpl : ps.length ≤ N.length)
    (hb : ∀ (cdv : Value) (A : Around) (outer : List Env) (s0 : Shared) (H : Hp) (E : XK) (U : Hp), Room k (A.deeper (PyProof.Rows.envOfC qual (defScope st) s0.heap.objs.size f cdv)) → A.guards = some [] →
      PSs (cxOf CX0 P w K mg base N qual (defScope st) f cdv A outer s0 H E).nox (defBody st) (tS K U 0 s)) : FnG P w K mg base (k + 1) f fd ps (spN K ps.length (runN (N.length - ps.length) s)) := by
  refine fn_ofG F S (fun vs H Q E h => ?_) fun cdv A outer s0 H vs Q E hr gd h => ?_
  · obtain ⟨_, _, _, _, hl, _⟩ := h
    exact hl
  · obtain ⟨U, q⟩ := go_N hpl h
    exact ⟨_, (hb cdv A outer s0 H E U hr gd).nox, q⟩
theorem fn_RG {p0 : Str} (F : Fun K x qual st f fd) (S : FnScope N (p0 :: ps) (defScope st)) (hpl : ps.length + 1 ≤ N.length)
    (hb : ∀ (cdv : Value) (A : Around) (outer : List Env) (s0 : Shared) (H : Hp) (E : XK) (U : Hp), Room k (A.deeper (PyProof.Rows.envOfC qual (defScope st) s0.heap.objs.size f cdv)) → A.guards = some [] →
      PSs (cxOf CX0 P w K mg base N qual (defScope st) f cdv A outer s0 H E).nox (defBody st) (tS K U 1 s)) : FnG P w K mg base (k + 1) f fd (p0 :: ps) (spR K ps.length (runR (N.length - (ps.length + 1)) s)) := by
  refine fn_ofG F S (fun vs H Q E h => ?_) fun cdv A outer s0 H vs Q E hr gd h => ?_
  · obtain ⟨_, _, _, ws, _, _, _, _, _, rfl, hl, _⟩ := h
    exact congrArg (· + 1) hl
  · obtain ⟨U, q⟩ := go_R hpl h
    exact ⟨_, (hb cdv A outer s0 H E U hr gd).nox, q⟩
end
structure CalG (P : Program) (w : World) (K : PySem.W.Frag) (mg : Str → Option Value) (base : Heap) (x : Str) (k : Nat) (ps : List Str) (sp : Sp) : Prop where
  ex : ∃ (f : Addr) (fd : FuncData), FnG P w K mg base k f fd ps sp ∧ mg x = some (.ref f) ∧ PySem.W.keepIn K (.ref f) = true ∧ Binds K fd ps []
section
variable {X : Cx} {U : Hp} {x : Str} {p pos : Pos} {e : Expr} {es : List Expr} {f : Eas} {j k n : Nat} {ps : List Str}
/-- a def called that is pure on trees -/
theorem qc_callG {g : List PyData → Option PyData} (C : CalG X.prog X.w X.K X.mg X.base x k ps (spD X.K n g)) (hr : Room j X.A) (gd : X.A.guards = some []) (hjk : k ≤ j) (ha : PA X (e :: es) (tAs X.K U f)) (hg : Gl X x := by rfl) (hdb : (x == ("__debug__" : Str)) = false := by decide)
    (he : starEach (e :: es) X.env = (false, eval e X.env) :: starEach es X.env := by rfl) (hpl : (backTo pos (starEach es X.env)).any (·.1) = false := by rfl) :
    PE X (.Call (.Name x p) (e :: es) [] pos) (tE X.K U (eMap f (arN n g))) := by
  obtain ⟨fa, fd, Fn, h2, h3, h4⟩ := C.ex
  refine pe_weak (pe_callG Fn (hr.mono hjk) gd hg h2 h3 h4 ha hdb he hpl) fun σ H Q ⟨A, F, r, m, d, m', G, e, k⟩ => ?_
  obtain ⟨ds, e1, e2⟩ := map_some e
  refine ⟨A, F, r, m, ds, m', G, e1, fun F1 H1 vs s1 G1 h1 => ?_⟩
  show spD X.K n g (vs ++ []) H1 Q E0
  rw [List.append_nil]
  obtain ⟨l2, e3⟩ := arN_some e2
  exact ⟨F1, ds, d, G1.sub, (rpa_len h1).trans l2, h1, e3, fun F2 H2 v s2 s3 kk h2 => k F2 H2 v (s1.trans s2) (G1.past s2 s3 kk) h2⟩
theorem qc_callRG {g : PyData → List PyData → Option (PyData × PyData)} (i : Nat) {y : Str} {p1 : Pos} (C : CalG X.prog X.w X.K X.mg X.base x k ps (spR X.K n g)) (hr : Room j X.A) (gd : X.A.guards = some []) (hjk : k ≤ j) (hv : PE X (.Name y p1) (tVar i)) (ha : PA X es (tAs X.K U f)) (hg : Gl X x := by rfl)
    (hdb : (x == ("__debug__" : Str)) = false := by decide) (he : starEach (.Name y p1 :: es) X.env = (false, eval (.Name y p1) X.env) :: starEach es X.env := by rfl) (hpl : (backTo pos (starEach es X.env)).any (·.1) = false := by rfl) :
    PE X (.Call (.Name x p) (.Name y p1 :: es) [] pos) (tE X.K U (eCallR n i g f)) := by
  obtain ⟨fa, fd, Fn, h2, h3, h4⟩ := C.ex
  refine pe_weak (pe_callG Fn (hr.mono hjk) gd hg h2 h3 h4 (pa_cons hv ha he) hdb he hpl) fun σ H Q ⟨A, F, r, m, d, m', G, e, k⟩ => ?_
  unfold eCallR at e
  split at e
  · rename_i j hj
    obtain ⟨a, hA, hσ⟩ := G.ow i j hj
    cases e1 : f r m with
    | none => rw [e1] at e; cases e
    | some z =>
      obtain ⟨ds, m1⟩ := z
      rw [e1] at e
      simp only [Option.bind_some] at e
      cases e2 : cellAt m1 j with
      | none => rw [e2] at e; cases e
      | some cs =>
        rw [e2] at e
        simp only [Option.bind_some] at e
        cases e3 : arN n (g cs) ds with
        | none => rw [e3] at e; cases e
        | some q =>
          obtain ⟨d2, cs'⟩ := q
          rw [e3] at e
          cases e
          refine ⟨_, hσ, A, F, r, m, ds, m1, G, e1, fun F1 H1 vs s1 G1 h1 => ?_⟩
          show spR X.K n g ((V.ref a :: vs) ++ []) H1 Q E0
          rw [List.append_nil]
          obtain ⟨l3, e3⟩ := arN_some e3
          obtain ⟨c1, c2, us, c3, c4⟩ := G1.cl j a cs hA e2
          exact ⟨F1, a, us, vs, cs, ds, _, cs', G1.sub, rfl, (rpa_len h1).trans l3, c1, c3, c4, h1, e3, fun F2 H2 v us' s2 s3 kk f2 h2 r2 d2 => k F2 H2 v (s1.trans s2) (G1.pastR hA e2 s2 s3 kk f2 h2 r2) d2⟩
  · cases e
/-- a def called that hands back a new object -/
theorem qn_callG {g : List PyData → Option PyData} (C : CalG X.prog X.w X.K X.mg X.base x k ps (spN X.K n g)) (hr : Room j X.A) (gd : X.A.guards = some []) (hjk : k ≤ j) (ha : PA X (e :: es) (tAs X.K U f)) (hg : Gl X x := by rfl) (hdb : (x == ("__debug__" : Str)) = false := by decide)
    (he : starEach (e :: es) X.env = (false, eval e X.env) :: starEach es X.env := by rfl) (hpl : (backTo pos (starEach es X.env)).any (·.1) = false := by rfl) : PE X (.Call (.Name x p) (e :: es) [] pos) (tN X.K U (eMap f (arN n g))) := by
  obtain ⟨fa, fd, Fn, h2, h3, h4⟩ := C.ex
  refine pe_weak (pe_callG Fn (hr.mono hjk) gd hg h2 h3 h4 ha hdb he hpl) fun σ H Q ⟨A, F, r, m, d, m', G, e, kk⟩ => ?_
  obtain ⟨ds, e1, e2⟩ := map_some e
  refine ⟨A, F, r, m, ds, m', G, e1, fun F1 H1 vs s1 G1 h1 => ?_⟩
  show spN X.K n g (vs ++ []) H1 Q E0
  rw [List.append_nil]
  obtain ⟨l2, e3⟩ := arN_some e2
  refine ⟨F1, ds, d, G1.sub, (rpa_len h1).trans l2, h1, e3, fun F2 H2 a u s2 s3 k3 f2 na h2 r2 => ?_⟩
  have nU : U a = none := by
    cases q : U a with
    | none => rfl
    | some o => rw [(G1.fo a o q).1] at na; cases na
  exact kk F2 H2 a u (s1.trans s2) (G1.past s2 s3 k3) f2 nU (G1.notin na) h2 r2
end
theorem room66 {k : Nat} {A : Around} (r : Room k A) : A.units + 66 < cLine := by have := r.un; omega
end TL

end
/-! TL20 -/
section
set_option maxHeartbeats 4000000
namespace TL
open PySem PySem.Spec PyProof.Rows L2
/-! ## a def that changes its first argument, handed a new list that nothing else holds -/
theorem Good.pastX {K : PySem.W.Frag} {U : Hp} {A : List Addr} {F H F' H' : Hp} {σ : L2.St} {r : Rs} {m : Ms} (G : Good K U A F H σ r m) {a : Addr} (hA : a ∉ A) (hU : U a = none) (s1 : Same F F') (s2 : Same F' H')
    (k : ∀ b o, H b = some o → F b = none → b ≠ a → H' b = some o ∧ F' b = none) : Good K U A F' H' σ r m := by
  refine ⟨s2, fun b o e => ?_, G.len, fun i d e => ?_, G.ow, G.al, fun j b ds e1 e2 => ?_, G.nd, fun b hb => ?_⟩
  · obtain ⟨h1, h2⟩ := G.fo b o e
    exact k b o h1 h2 fun z => by rw [z, hU] at e; cases e
  · obtain ⟨v, h1, h2⟩ := G.fz i d e
    exact ⟨v, h1, Rpm s1 h2⟩
  · obtain ⟨h1, h2, u, h3, h4⟩ := G.cl j b ds e1 e2
    obtain ⟨q1, q2⟩ := k b _ h3 h1 fun z => hA (z ▸ List.mem_of_getElem? e1)
    exact ⟨q2, h2, u, q1, stored_mono s1 h4⟩
  · obtain ⟨o, h1⟩ := G.he b hb
    cases q : F b with
    | none => exact ⟨o, (k b o h1 q fun z => hA (z ▸ hb)).1⟩
    | some o' => exact ⟨o', s2 b o' (s1 b o' q)⟩
/-- U without the object again -/
theorem Good.unhold {K : PySem.W.Frag} {U : Hp} {A : List Addr} {F H : Hp} {σ : L2.St} {r : Rs} {m : Ms} {a : Addr} {o : HO} (G : Good K (upd U a o) A F H σ r m) (hU : U a = none) : Good K U A F H σ r m := by
  have up : ∀ b x, U b = some x → upd U a o b = some x := fun b x e => by
    rw [upd_ne fun z => by rw [z, hU] at e; cases e]
    exact e
  refine ⟨G.sub, fun b x e => G.fo b x (up b x e), G.len, G.fz, G.ow, G.al, fun j b ds e1 e2 => ?_, G.nd, G.he⟩
  obtain ⟨h1, h2, h3⟩ := G.cl j b ds e1 e2
  refine ⟨h1, ?_, h3⟩
  cases q : U b with
  | none => rfl
  | some x => rw [up b x q] at h2; cases h2
def eCallT (n : Nat) (f0 : Ev) (g : PyData → List PyData → Option (PyData × PyData)) (f : Eas) : Ev := fun r m => (f0 r m).bind fun p => (f r p.2).bind fun q => (arN n (g p.1) q.1).map fun z => (z.1, q.2)
section
variable {X : Cx} {U : Hp} {x : Str} {p pos : Pos} {e0 : Expr} {es : List Expr} {f0 : Ev} {f : Eas} {j k n : Nat} {ps : List Str}
theorem qc_callTG {g : PyData → List PyData → Option (PyData × PyData)} (C : CalG X.prog X.w X.K X.mg X.base x k ps (spR X.K n g)) (hr : Room j X.A) (gd : X.A.guards = some []) (hjk : k ≤ j) (hv : PE X e0 (tN X.K U f0)) (ha : ∀ U, PA X es (tAs X.K U f)) (hg : Gl X x := by rfl)
    (hdb : (x == ("__debug__" : Str)) = false := by decide) (he : starEach (e0 :: es) X.env = (false, eval e0 X.env) :: starEach es X.env := by rfl) (hpl : (backTo pos (starEach es X.env)).any (·.1) = false := by rfl) :
    PE X (.Call (.Name x p) (e0 :: es) [] pos) (tE X.K U (eCallT n f0 g f)) := by
  obtain ⟨fa, fd, Fn, h2, h3, h4⟩ := C.ex
  have all : PA X es (fun σ H Q => ∃ U, tAs X.K U f σ H Q) := ⟨fun pos pins s σ H Q I ⟨U, q⟩ => (ha U).run pos pins s σ H Q I q⟩
  refine pe_weak (pe_callG Fn (hr.mono hjk) gd hg h2 h3 h4 (pa_cons hv all he) hdb he hpl) fun σ H Q ⟨A, F, r, m, d, m', G, e, k⟩ => ?_
  unfold eCallT at e
  cases e1 : f0 r m with
  | none => rw [e1] at e; cases e
  | some z1 =>
    obtain ⟨cs, m1⟩ := z1
    cases e2 : f r m1 with
    | none => simp [e1, e2] at e
    | some z2 =>
      obtain ⟨ds, m2⟩ := z2
      simp only [e1, e2, Option.bind_some] at e
      cases e3 : arN n (g cs) ds with
      | none => rw [e3] at e; cases e
      | some z3 =>
        obtain ⟨d3, cs'⟩ := z3
        rw [e3] at e
        cases e
        refine ⟨A, F, r, m, cs, m1, G, e1, fun F1 H1 a u s1 G1 q1 q2 q3 q4 q5 => ⟨upd U a u, A, F1, r, m1, ds, m', G1.hold q4 q1 q3, e2, fun F2 H2 vs s2 G2 h5 => ?_⟩⟩
        show spR X.K n g ((V.ref a :: vs) ++ []) H2 Q E0
        rw [List.append_nil]
        obtain ⟨l3, e4⟩ := arN_some e3
        obtain ⟨c1, c2⟩ := G2.fo a u upd_same
        exact ⟨F2, a, u, vs, cs, ds, _, cs', G2.sub, rfl, (rpa_len h5).trans l3, c2, c1, stored_mono s2 q5, h5, e4, fun F3 H3 v us' s3 s4 kk f3 h6 r3 d6 =>
          k F3 H3 v (s1.trans (s2.trans s3)) ((G2.unhold q2).pastX q3 q2 s3 s4 kk) d6⟩
end
end TL

end
/-! TL21 -/
section
set_option maxHeartbeats 4000000
namespace TL
open PySem L2
/-! ## the twins reckoned: cells looked at, frozen, handed on -/
section
variable {r : Rs} {m : Ms} {Q : PyData × Ms → Prop} {S : Out → Prop} {f f0 : Ev} {fs : Eas} {i n a : Nat} {ds : List PyData} {d : PyData} {s : Es}
theorem w_callT {u : PyData → List PyData → Option (PyData × PyData)} (h : W (f0 r m) fun p => W (fs r p.2) fun q => q.1.length = n ∧ W (u p.1 q.1) fun z => Q (z.1, q.2)) : W (eCallT n f0 u fs r m) Q :=
  W.bind (W.mono h fun _ h => W.bind (W.mono h fun _ h => W.map (w_arN h.1 h.2)))
theorem w_lenO (e : r[i]? = some (.ow a)) (e0 : cellAt m a = some (.list ds)) (h : Q (.int ds.length, m)) : W (eLenO i r m) Q := by
  unfold eLenO
  rw [e]
  exact W.bind (W.of rfl (W.bind (W.of e0 (.mk h))))
theorem w_seqO {mk : List PyData → PyData} (e : r[i]? = some (.ow a)) (e0 : cellAt m a = some (.list ds)) (h : Q (mk ds, m)) : W (eSeqO i mk r m) Q := by
  unfold eSeqO
  rw [e]
  exact W.bind (W.of rfl (W.bind (W.of e0 (.mk h))))
theorem w_cmpO {od : PyData → PyData → Option PyData} (e : r[i]? = some (.ow a)) (h : W (f r m) fun p => ∃ c, cellAt p.2 a = some c ∧ W (od c p.1) fun d => Q (d, p.2)) : W (eCmpO i od f r m) Q := by
  unfold eCmpO
  rw [e]
  exact W.bind (W.of rfl (W.bind (W.mono h fun p ⟨c, e1, h⟩ => W.bind (W.of e1 (W.map h)))))
theorem w_inO {od : PyData → PyData → Option PyData} (e : r[i]? = some (.ow a)) (h : W (f r m) fun p => ∃ c, cellAt p.2 a = some c ∧ W (od p.1 c) fun d => Q (d, p.2)) : W (eInO i od f r m) Q := by
  unfold eInO
  rw [e]
  exact W.bind (W.of rfl (W.bind (W.mono h fun p ⟨c, e1, h⟩ => W.bind (W.of e1 (W.map h)))))
theorem w_inL (h1 : SeqAt.shaped d = true) (h2 : SeqAt.shaped (.list ds) = true) {R : PyData → Prop} (h : R (.bool (ds.any fun z => PyData.eqv z d))) : W (inL d (.list ds)) R := W.guard ⟨h1, h2⟩ (.mk h)
theorem w_notInL (h1 : SeqAt.shaped d = true) (h2 : SeqAt.shaped (.list ds) = true) {R : PyData → Prop} (h : R (.bool (!ds.any fun z => PyData.eqv z d))) : W (notInL d (.list ds)) R := W.guard ⟨h1, h2⟩ (.mk h)
theorem w_frz (e : r[i]? = some (.ow a)) (e0 : cellAt m a = some d) (h : W (s (frzR a d r) (m.set a none)) S) : W (sFrz i s r m) S := by
  unfold sFrz
  rw [e]
  exact W.bind (W.of rfl (W.bind (W.of e0 h)))
theorem w_retC {n0 : Nat} (e : r[i]? = some (.ow a)) (ha : n0 ≤ a) (e0 : cellAt m a = some d) (h : S (.rn d m)) : W (sRetC n0 i r m) S := by
  unfold sRetC
  rw [e]
  exact W.bind (W.of rfl (W.guard ha (W.map (W.of e0 h))))
theorem w_lcO {own : List Nat} {h : Eh} {t : Et} (e : r[i]? = some (.ow a)) (e0 : cellAt m a = some (.list ds)) (k : ∃ res m', lcLoop h t f (wipeR r own) ds (m.set a none) [] = some (res, m') ∧ Q (.list res, m'.set a (some (.list ds)))) : W (eLcO i own h t f r m) Q := by
  obtain ⟨res, m', e1, h⟩ := k
  unfold eLcO
  rw [e]
  exact W.bind (W.of rfl (W.bind (W.of e0 (W.map (W.of e1 h)))))
theorem w_catL {es : List PyData} {R : PyData → Prop} (hz : ds.length + es.length ≤ sizeLine) (h : R (.list (ds ++ es))) : W (catL (.list ds) (.list es)) R := W.guard hz (.mk h)
theorem w_rg3 {QL : List PyData × Ms → Prop} (h : W (fs r m) fun p => ∃ i j, p.1 = [.int i, .int j, .int (-1)] ∧ (-(2 ^ 62) ≤ i ∧ i < 2 ^ 62 ∧ -(2 ^ 62) ≤ j ∧ j < 2 ^ 62) ∧ QL (rangeC i (-1) (i - j).toNat, p.2)) : W (eRg3 fs r m) QL := W.bind (W.mono h fun ⟨l, m1⟩ ⟨i, j, e, h1, h2⟩ => by
  simp only at e
  subst e
  exact W.guard ⟨rfl, h1⟩ (.mk h2))
theorem w_repr {R : PyData → Prop} (hd : (∃ l, d = .list l) ∨ ∃ l, d = .tuple l) (h1 : d.showable = true) (h2 : d.hasDict = false) (h3 : SeqAt.shaped d = true) (h4 : d.shown.length ≤ sizeLine) (h : R (.str d.shown)) : W (reprD [d]) R := by
  rcases hd with ⟨l, rfl⟩ | ⟨l, rfl⟩
  · exact W.guard ⟨h1, h2, h3, h4⟩ (.mk h)
  · exact W.guard ⟨h1, h2, h3, h4⟩ (.mk h)
end
end TL

end
/-! TL22 -/
section
set_option maxHeartbeats 4000000
namespace TL
open PySem PySem.Spec PyProof.Rows L2
section
variable {X : Cx} {U : Hp} {fa : Addr} {fd : FuncData} {ps ks : List Str} {k j n : Nat} {sp : Sp} {x : Str} {p pos : Pos} {e : Expr} {es : List Expr} {kws : List Keyword} {t tk : TA} {dvs : List V} {ds : List Value} {f : Eas}
/-- a call that leaves out the last parameters, which have defaults -/
theorem pe_callDG (F : FnG X.prog X.w X.K X.mg X.base k fa fd ps sp) (room : Room k X.A) (gd : X.A.guards = some []) (hg : Gl X x) (hm : X.mg x = some (.ref fa)) (kp : PySem.W.keepIn X.K (.ref fa) = true) (hb : Binds X.K fd ps ds) (hd : Vals dvs ds) (ha : PA X (e :: es) t)
    (hdb : (x == ("__debug__" : Str)) = false := by decide) (he : starEach (e :: es) X.env = (false, eval e X.env) :: starEach es X.env := by rfl) (hpl : (backTo pos (starEach es X.env)).any (·.1) = false := by rfl) :
    PE X (.Call (.Name x p) (e :: es) [] pos) (tCall sp dvs E0 t) := by
  refine ⟨fun pins s σ H Q I h => ?_⟩
  apply wpAny_Call_Name_kw (ld_glob I hg hm ?_ hdb)
  apply PySem.W.callWith_K (h₀ := X.base) I.ok.mod.kin kp (thn (ha.run pos pins s σ H _ I h) fun us s1 ⟨vs, H1, I1, r, q⟩ => ⟨I1.kIn, ?_⟩) he hpl
  have q' : sp (vs ++ dvs) H1 Q E0 := q
  have rel := r.append hd
  have hl : (us ++ ds).length = ps.length := by
    rw [← rel.length]
    exact F.len _ _ _ _ q'
  apply wpAny_call
  refine codeAny_mono (F.run X.A X.stack s1 H1 ⟨us, []⟩ (us ++ ds) (vs ++ dvs) Q E0 room gd I1.env0 (hb s1 us I1.kIn hl) rel q') fun res s' done => ?_
  cases res with
  | error err => exact pass0 pins σ H1 s1 err s' I1 done
  | ok flow =>
    cases flow with
    | ret u => exact I1.after done
    | next => exact done.elim
    | brk => exact done.elim
    | cont => exact done.elim
/-- a call with keywords -/
theorem pe_callKG {g : List Value → List Value → List Value} {gV : List V → List V → List V} (F : FnG X.prog X.w X.K X.mg X.base k fa fd ps sp) (room : Room k X.A) (gd : X.A.guards = some []) (hg : Gl X x) (hm : X.mg x = some (.ref fa)) (kp : PySem.W.keepIn X.K (.ref fa) = true)
    (hb : KBn X.K fd ps n ks g gV) (ha : PA X (e :: es) t) (hkw : PK X kws tk) (hall : (backToKw pos (keywordEach kws X.env)).all (·.1.isSome) = true := by rfl) (hks : (backToKw pos (keywordEach kws X.env)).filterMap (·.1) = ks := by rfl)
    (hdb : (x == ("__debug__" : Str)) = false := by decide) (he : starEach (e :: es) X.env = (false, eval e X.env) :: starEach es X.env := by rfl)
    (hpl : ((backTo pos (starEach (e :: es) X.env)).any (·.1) || (backToKw pos (keywordEach kws X.env)).any (·.1.isNone)) = false := by rfl) :
    PE X (.Call (.Name x p) (e :: es) kws pos) (tCallN n ks.length sp gV E0 t tk) := by
  refine ⟨fun pins s σ H Q I h => ?_⟩
  apply wpAny_Call_Name_kw (ld_glob I hg hm ?_ hdb)
  apply PySem.W.callWith_KW (h₀ := X.base) I.ok.mod.kin kp hall (thn (ha.run pos pins s σ H _ I h) fun us s1 ⟨vs, H1, I1, r, q⟩ => ?_) hpl he
  apply thn (hkw.run pos pins s1 σ H1 _ I1 q)
  rintro ws s2 ⟨zs, H2, I2, rz, l1, l2, q2⟩
  refine ⟨I2.kIn, ?_⟩
  rw [hks]
  apply wpAny_call
  refine codeAny_mono (F.run X.A X.stack s2 H2 ⟨us, ks.zip ws⟩ (g us ws) (gV vs zs) Q E0 room gd I2.env0 (hb.to s2 us ws I2.kIn (r.length.symm.trans l1) (rz.length.symm.trans l2)) (hb.rel r rz) q2) fun res s' done => ?_
  cases res with
  | error err => exact pass0 pins σ H2 s2 err s' I2 done
  | ok flow =>
    cases flow with
    | ret u => exact I2.after done
    | next => exact done.elim
    | brk => exact done.elim
    | cont => exact done.elim
end
/-- a def known with defaults: dd, as data, behind what is handed in -/
structure CalD (P : Program) (w : World) (K : PySem.W.Frag) (mg : Str → Option Value) (base : Heap) (x : Str) (k : Nat) (ps : List Str) (dd : List PyData) (sp : Sp) : Prop where
  ex : ∃ (f : Addr) (fd : FuncData) (dvs : List V) (ds : List Value), FnG P w K mg base k f fd ps sp ∧ mg x = some (.ref f) ∧ PySem.W.keepIn K (.ref f) = true ∧ Binds K fd ps ds ∧ Vals dvs ds ∧ ∀ F, RpAll K F dvs dd
section
variable {X : Cx} {U : Hp} {x : Str} {p pos : Pos} {e : Expr} {es : List Expr} {f : Eas} {j k n : Nat} {ps : List Str} {dd : List PyData}
theorem qc_callDG {g : List PyData → Option PyData} (C : CalD X.prog X.w X.K X.mg X.base x k ps dd (spD X.K n g)) (hr : Room j X.A) (gd : X.A.guards = some []) (hjk : k ≤ j) (ha : PA X (e :: es) (tAs X.K U f)) (hg : Gl X x := by rfl) (hdb : (x == ("__debug__" : Str)) = false := by decide)
    (he : starEach (e :: es) X.env = (false, eval e X.env) :: starEach es X.env := by rfl) (hpl : (backTo pos (starEach es X.env)).any (·.1) = false := by rfl) :
    PE X (.Call (.Name x p) (e :: es) [] pos) (tE X.K U (eMap f fun l => arN n g (l ++ dd))) := by
  obtain ⟨fa, fd, dvs, ds0, Fn, h2, h3, h4, h5, h6⟩ := C.ex
  refine pe_weak (pe_callDG Fn (hr.mono hjk) gd hg h2 h3 h4 h5 ha hdb he hpl) fun σ H Q ⟨A, F, r, m, d, m', G, e, k⟩ => ?_
  obtain ⟨ds, e1, e2⟩ := map_some e
  refine ⟨A, F, r, m, ds, m', G, e1, fun F1 H1 vs s1 G1 h1 => ?_⟩
  show spD X.K n g (vs ++ dvs) H1 Q E0
  obtain ⟨l2, e3⟩ := arN_some e2
  have all := rpa_app h1 (h6 F1)
  exact ⟨F1, ds ++ dd, d, G1.sub, (rpa_len all).trans l2, all, e3, fun F2 H2 v s2 s3 kk h2 => k F2 H2 v (s1.trans s2) (G1.past s2 s3 kk) h2⟩
end
/-! ### keywords -/
structure CalK (P : Program) (w : World) (K : PySem.W.Frag) (mg : Str → Option Value) (base : Heap) (x : Str) (k : Nat) (ps : List Str) (n : Nat) (ks : List Str) (sp : Sp) : Prop where
  ex : ∃ (f : Addr) (fd : FuncData) (g : List Value → List Value → List Value) (gV : List V → List V → List V), FnG P w K mg base k f fd ps sp ∧ mg x = some (.ref f) ∧ PySem.W.keepIn K (.ref f) = true ∧ KBn K fd ps n ks g gV ∧ ∀ vs zs, gV vs zs = vs ++ zs
def eKw (c n : Nat) (g : List PyData → Option PyData) (f fk : Eas) : Ev := fun r m => (f r m).bind fun p => (fk r p.2).bind fun q => if p.1.length = c then (arN n g (p.1 ++ q.1)).map fun d => (d, q.2) else none
section
variable {X : Cx} {U : Hp} {x : Str} {p pos kpos : Pos} {e : Expr} {es : List Expr} {kws : List Keyword} {nm : Option Str} {f fk : Eas} {fe : Ev} {c j k n : Nat} {ps ks : List Str}
theorem pk_weak {t t' : TA} (h : PK X kws t) (w : ∀ σ H Q, t' σ H Q → t σ H Q) : PK X kws t' := ⟨fun pos pins s σ H Q I q => h.run pos pins s σ H Q I (w σ H Q q)⟩
theorem qk_nil : PK X [] (tAs X.K U eNil) := pk_weak pk_nil fun σ H Q ⟨A, F, r, m, ds, m', G, e, k⟩ => by
  cases e
  exact k F H [] (Same.refl F) G .nil
theorem qk_cons (ha : PE X e (tE X.K U fe)) (hr : PK X kws (tAs X.K U fk)) : PK X (⟨nm, e, kpos⟩ :: kws) (tAs X.K U (eCons fe fk)) := pk_weak (pk_cons ha hr) fun σ H Q ⟨A, F, r, m, ds, m', G, e, k⟩ => by
  obtain ⟨d1, m1, es, e1, e2, e3⟩ := cons_some e
  subst e3
  exact ⟨A, F, r, m, d1, m1, G, e1, fun F1 H1 x s1 G1 h1 => ⟨A, F1, r, m1, es, m', G1, e2, fun F2 H2 xs s2 G2 h2 => k F2 H2 (x :: xs) (s1.trans s2) G2 (.cons (Rpm s2 h1) h2)⟩⟩
theorem qc_callKG {g : List PyData → Option PyData} (C : CalK X.prog X.w X.K X.mg X.base x k ps c ks (spD X.K n g)) (hr : Room j X.A) (gd : X.A.guards = some []) (hjk : k ≤ j) (ha : PA X (e :: es) (tAs X.K U f)) (hkw : PK X kws (tAs X.K U fk)) (hcn : n = c + ks.length) (hg : Gl X x := by rfl)
    (hall : (backToKw pos (keywordEach kws X.env)).all (·.1.isSome) = true := by rfl) (hks : (backToKw pos (keywordEach kws X.env)).filterMap (·.1) = ks := by rfl) (hdb : (x == ("__debug__" : Str)) = false := by decide)
    (he : starEach (e :: es) X.env = (false, eval e X.env) :: starEach es X.env := by rfl) (hpl : ((backTo pos (starEach (e :: es) X.env)).any (·.1) || (backToKw pos (keywordEach kws X.env)).any (·.1.isNone)) = false := by rfl) :
    PE X (.Call (.Name x p) (e :: es) kws pos) (tE X.K U (eKw c n g f fk)) := by
  obtain ⟨fa, fd, gg, gV, Fn, h2, h3, h4, h5⟩ := C.ex
  refine pe_weak (pe_callKG Fn (hr.mono hjk) gd hg h2 h3 h4 ha hkw hall hks hdb he hpl) fun σ H Q ⟨A, F, r, m, d, m', G, e, k⟩ => ?_
  unfold eKw at e
  cases e1 : f r m with
  | none => rw [e1] at e; cases e
  | some z1 =>
    obtain ⟨ds, m1⟩ := z1
    cases e2 : fk r m1 with
    | none => simp [e1, e2] at e
    | some z2 =>
      obtain ⟨zs, m2⟩ := z2
      simp only [e1, e2, Option.bind_some] at e
      split at e
      · rename_i hc
        cases e3 : arN n g (ds ++ zs) with
        | none => rw [e3] at e; cases e
        | some d3 =>
          rw [e3] at e
          cases e
          refine ⟨A, F, r, m, ds, m1, G, e1, fun F1 H1 vs s1 G1 h1 => ⟨A, F1, r, m1, zs, m', G1, e2, fun F2 H2 ws s2 G2 h6 => ?_⟩⟩
          obtain ⟨l2, e4⟩ := arN_some e3
          rw [List.length_append] at l2
          have all := rpa_app (Rpam s2 h1) h6
          refine ⟨(rpa_len h1).trans hc, by rw [rpa_len h6]; omega, ?_⟩
          rw [h5]
          exact ⟨F2, ds ++ zs, _, G2.sub, by rw [rpa_len all, List.length_append]; exact l2, all, e4, fun F3 H3 v s3 s4 kk h7 => k F3 H3 v (s1.trans (s2.trans s3)) (G2.past s3 s4 kk) h7⟩
      · cases e
end
end TL

end
/-! TL23 -/
section
set_option maxHeartbeats 4000000
/-! enumerate over a tuple -/
namespace PySem

abbrev enumAt (it : Addr) : Obj := { cls := .type "enumerate", data := .fields #[.none, .bool false, .ref it, rawInt 0, .none, .none] }
theorem tl_enum1 {x : Value} {ob : Obj} {St : Heap → Prop} (B : Begins x ob St) :
    Meets (Builtin.«enumerate.__new__» ⟨[.type "enumerate", x], []⟩) (fun _ R s => St s.heap ∧ R (.ok (.ret (.ref (s.heap.push ob).objs.size))) { s with heap := (s.heap.push ob).push (enumAt s.heap.objs.size) }) :=
  .of_wp fun prog w A R s h => by
    obtain ⟨hp, g, d, tk, os⟩ := s
    obtain ⟨st, h⟩ := h
    have subs := sub_enumerate
    have it1 : ∀ {A' : Around} {E : Value → Shared → Prop} {Q : Value → Shared → Prop}, Q (.ref hp.objs.size) ⟨hp.push ob, g, d, tk, os⟩ → wpAny (model prog w) A' (pyIter x) Q E ⟨hp, g, d, tk, os⟩ := fun q => B.iter prog w _ _ ⟨hp, g, d, tk, os⟩ _ st q
    wp_walk using it1
    refine wpAny_stack_any fun st => wpAny_pure ?_
    split
    · rename_i c _ _ _ _ _
      cases (c == Value.type "enumerate")
      · wp_walk using it1
        exact ⟨_, rfl, h⟩
      · wp_walk using it1
        exact ⟨_, rfl, h⟩
    · wp_walk using it1
      exact ⟨_, rfl, h⟩
theorem tl_call_enum {prog : Program} {w : World} {A : Around} {E : Value → Shared → Prop} {s : Shared} {x : Value} {ob : Obj} {St : Heap → Prop} {Q : Value → Shared → Prop} (B : Begins x ob St) (st : St s.heap)
    (k : ∀ hp, IsEnum hp (s.heap.objs.size + 1) s.heap.objs.size 0 .none → hp.get? s.heap.objs.size = some ob → (∀ b o, s.heap.get? b = some o → hp.get? b = some o) → Q (.ref (s.heap.objs.size + 1)) { s with heap := hp }) :
    wpAny (model prog w) A (call (.type "enumerate") [x]) Q E s := by
  refine callType_new F.called_enumerate (by decide) (F.typeCall_enumerate_1 _) (F.newCall_enumerate_1 _) (fun obj => F.args_object_init_2 obj _) F.entry_enumerate_new (tl_enum1 B) ⟨st, ?_⟩
  have hz : (s.heap.push ob).objs.size = s.heap.objs.size + 1 := Heap.size_push ..
  show _ ∧ _
  rw [hz]
  have he : IsEnum ((s.heap.push ob).push (enumAt s.heap.objs.size)) (s.heap.objs.size + 1) s.heap.objs.size 0 .none := by
    have := Heap.get?_push_size (s.heap.push ob) (o := enumAt s.heap.objs.size) rfl
    rw [hz] at this
    exact this
  exact ⟨⟨_, he, rfl⟩, k _ he (Heap.get?_push_of_some _ (Heap.get?_push_size _ B.free)) fun b o x => Heap.get?_push_of_some _ (Heap.get?_push_of_some _ x)⟩
end PySem
namespace TL
open PySem PySem.Spec PyProof.Rows L2
/-- the tuple at a, each item in a new pair -/
def Itf (K : PySem.W.Frag) (a : Addr) : It :=
  ⟨fun i H => ∃ (xs : List V) (x : V), SqT K H a xs ∧ xs[i]? = some x, fun i H v H' => ∃ T x, v = .ref T ∧ H T = none ∧ H' = upd H T (.tup [.int (i : Nat), x]) ∧ ∀ xs, SqT K H a xs → xs[i]? = some x, fun i H => ∃ xs : List V, SqT K H a xs ∧ xs.length ≤ i⟩
theorem draws_tup {prog : Program} {w : World} {A : Around} (hh : A.handled = none) {it t : Addr} (ne : t ≠ it) (items : Array Value) : Draws prog w A.in1 it [it, t] items.size (fun i v => items[i]? = some v) (fun i h => h.IsTupleIter it t i ∧ h.IsTuple t items) :=
  Draws.tuple (by first | exact hh | (show A.in1.handled = none; exact hh)) it t ne items
theorem turn_enumT {P : Program} {w : World} {K : PySem.W.Frag} {elts : List Expr} {kk : Nat} {tpos : Pos} (a e it : Addr) :
    L2.Turn P w K (.Tuple elts kk tpos) (Itf K a) [e, it] e (fun i h => (∃ old, IsEnum h e it ((i : Nat) : Int) old) ∧ h.IsTupleIter it a i ∧ e ≠ it ∧ a ≠ it ∧ a ≠ e) where
  mem := by simp
  obj := fun i h st b hb => by
    obtain ⟨⟨old, he⟩, ⟨o, ho, hc, hd⟩, _⟩ := st
    have e' : b = e ∨ b = it := by simpa using hb
    rcases e' with z | z
    · rw [z]; exact ⟨_, he, fun v q => nomatch q⟩
    · rw [z]; exact ⟨o, ho, fun v q => by rw [hd] at q; cases q⟩
  keep := fun i h h' st k => let ⟨⟨old, he⟩, hi, hne⟩ := st; ⟨⟨old, k e (by simp) _ he⟩, hi.at fun o q => k it (by simp) o q, hne⟩
  item := by
    intro X hP hw hK hc i pins s σ H E I hf st hg
    subst hP hw hK
    obtain ⟨⟨old, he⟩, hit, hne, hai, hae⟩ := st
    obtain ⟨xs, x, hq, hx⟩ := hg
    obtain ⟨its, rv, p, hz⟩ := I.tuple hq
    obtain ⟨u, hu, ru⟩ := rv.get hx
    have p : s.heap.IsTuple a its.toArray := p
    have hel : e < s.heap.objs.size := Heap.lt_size he
    have hil : it < s.heap.objs.size := by obtain ⟨_, q, _⟩ := hit; exact Heap.lt_size q
    have hlt : i < its.toArray.size := by
      have := (List.getElem?_eq_some_iff.mp hu).1
      simpa using this
    refine wpAny_pyNext_enum_itemD (draws_tup (I.ok.hd hc) hai its.toArray) he ⟨hit, p⟩ hlt hne (fun z => ?_) fun y h' tk hy ho hs' hT hsz hk => ?_
    · have z' : e = it ∨ e = a := by simpa using z
      rcases z' with z' | z'
      · exact hne z'
      · exact hae z'.symm
    have ey : y = u := by
      have q : its[i]? = some y := by simpa using hy
      rw [hu] at q
      exact (Option.some.inj q).symm
    subst ey
    refine ⟨_, rfl, wpAny_letOwnedTupleGo_enum (s := { s with heap := h', toks := tk + 1 }) ho fun h'' he' sb => ?_⟩
    have hT2 : h''.get? s.heap.objs.size = some { cls := .type "tuple", data := .seq #[.int i tk, y] } := (sb.2 _ (Nat.ne_of_gt hel)).trans hT
    have new : ObjOk X.prog X.w (upd H s.heap.objs.size (.tup [.int (i : Nat), x])) h'' s.heap.objs.size (.tup [.int (i : Nat), x]) :=
      ⟨by show 2 ≤ sizeLine; decide, [.int i tk, y], .cons ⟨_, rfl⟩ (.cons ru .nil), ⟨_, hT2, rfl, _, rfl⟩⟩
    have I1 : Inv X pins σ (upd H s.heap.objs.size (.tup [.int (i : Nat), x])) { s with heap := h'', toks := tk + 1 } :=
      I.turnedNew (ch := [e, it]) (fun b ob hb q => (sb.2 b (fun z => hb (by simp [z]))).trans (hk b ob (fun z => hb (by simp [z])) (fun z => hb (by simp [z])) q)) hf (Nat.le_refl _) new
    refine ⟨.ref s.heap.objs.size, _, I1, rfl, ⟨_, x, rfl, I.hok.fresh (Nat.le_refl _), rfl, fun ys hy => by rw [I.tuple_inj hy hq]; exact hx⟩, ⟨⟨y, ?_⟩, hs'.1.at fun o q => (sb.2 it (Ne.symm hne)).trans q, hne, hai, hae⟩, fun b hb => ?_⟩
    · have e1 : ((i + 1 : Nat) : Int) = (i : Int) + 1 := by omega
      rw [e1]; exact he'
    · have hb' : b < s.heap.objs.size := by
        have e' : b = e ∨ b = it := by simpa using hb
        rcases e' with z | z
        · rw [z]; exact hel
        · rw [z]; exact hil
      rw [upd_ne (Nat.ne_of_lt hb')]
      exact (hf b hb).1
  done := by
    intro X hP hw hK hc i pins s σ H E I hf st hg
    subst hP hw hK
    obtain ⟨⟨old, he⟩, hit, hne, hai, hae⟩ := st
    obtain ⟨xs, hq, hx⟩ := hg
    obtain ⟨its, rv, p, hz⟩ := I.tuple hq
    have p : s.heap.IsTuple a its.toArray := p
    obtain ⟨f0, f1, f2, f3, f4, f5⟩ := hf it (by simp)
    have hl := rv.length
    have hh : X.A.in1.handled = none := by first | exact I.ok.hd hc | (show X.A.handled = none; exact I.ok.hd hc)
    have D : Draws X.prog X.w X.A.in1 it [it, a] 0 (fun _ _ => False) (fun _ h => h.IsTupleIter it a i ∧ h.IsTuple a its.toArray) :=
      { live := fun _ _ st => let ⟨o, ho, _⟩ := st.1; ⟨o, ho⟩
        frame := fun _ _ _ st k => ⟨st.1.at fun o q => k it (by simp) o q, st.2.at fun o q => k a (by simp) o q⟩
        item := fun j s Q E hj => absurd hj (Nat.not_lt_zero j)
        done := fun s Q E st hE => wpAny_nextOf_tuple_end hh st.1 st.2 (by simp; omega) hE }
    exact wpAny_pyNext_enum_endD D he ⟨hit, p⟩ fun h' eb => ⟨rfl, I.turned (t' := s.toks) (fun b o hb q => eb b o hb q) f0 f1 f3 f4 f5⟩
  self := fun A i s Q E st h => let ⟨⟨_, he⟩, _⟩ := st; wpAny_pyIter_enum he h
def iEnumT (K : PySem.W.Frag) (ta : TA) : TI := fun σ H R => ta σ H fun vs H1 => ∃ a xs, vs = [.ref a] ∧ SqT K H1 a xs ∧ R (Itf K a) H1
theorem pi_enumT {X : Cx} {e : Expr} {ta : TA} {p pos tpos : Pos} {elts : List Expr} {kk : Nat} (hg : Gl X "enumerate") (hm : X.mg "enumerate" = none) (ha : PA X [e] ta) (hs : starEach [e] X.env = [(false, eval e X.env)] := by rfl) :
    PI X (.Tuple elts kk tpos) (.Call (.Name "enumerate" p) [e] [] pos) (iEnumT X.K ta) := by
  refine ⟨fun pins s σ H R I h => ?_⟩
  refine Call_ (ld_blt I hg hm boot_enumerate (PyProof.Rows.callWith_type1 (thn (ha.run pos pins s σ H _ I h) fun us s1 ⟨vs, H1, I1, r1, q1⟩ => ?_) hs rfl))
  obtain ⟨a, xs, ex, hq, q⟩ := q1
  subst ex
  cases r1 with
  | cons r rr =>
    cases rr
    cases r
    obtain ⟨its, rv, p', hz⟩ := I1.tuple hq
    have p' : s1.heap.IsTuple a its.toArray := p'
    have al : a < s1.heap.objs.size := by obtain ⟨o, q, _⟩ := p'; exact Heap.lt_size q
    refine tl_call_enum (begins_tuple a its.toArray) p' fun h' he hit hk => wpAny_pyIter_enum he ?_
    have I2 : Inv X pins σ H1 { s1 with heap := h' } := I1.kept (t' := s1.toks) hk
    refine ⟨s1.heap.objs.size + 1, [s1.heap.objs.size + 1, s1.heap.objs.size], _, _, H1, rfl, I2, turn_enumT a (s1.heap.objs.size + 1) s1.heap.objs.size, ⟨⟨.none, he⟩, ⟨_, hit, rfl, rfl⟩, Nat.succ_ne_self _, Nat.ne_of_lt al, Nat.ne_of_lt (Nat.lt_succ_of_lt al)⟩, fun b hb => ?_, q⟩
    have e' : b = s1.heap.objs.size + 1 ∨ b = s1.heap.objs.size := by simpa using hb
    have hle : s1.heap.objs.size ≤ b := by
      rcases e' with z | z
      · rw [z]; exact Nat.le_add_right _ _
      · rw [z]; exact Nat.le_refl _
    exact I1.fpOk hle (I1.hok.fresh hle)
theorem wk_enumT {K : PySem.W.Frag} {Z F : Hp} {a : Addr} {xs : List V} {ds : List PyData} (hs : SqT K F a xs) (hr : RpAll K F xs ds) : Wk K Z (Itf K a) F (enumD ds) where
  go := fun U A σ r m F1 H1 i d _ s1 G1 e => by
    unfold enumD at e
    rw [List.getElem?_map, List.getElem?_zipIdx] at e
    cases e1 : ds[i]? with
    | none => rw [e1] at e; cases e
    | some d1 =>
      rw [e1] at e
      simp only [Option.map_some, Nat.zero_add, Option.some.injEq] at e
      subst e
      obtain ⟨v, h1, h2⟩ := rpa_get hr e1
      have hq : SqT K H1 a xs := (seqT_mono (s1.trans G1.sub) hs)
      refine ⟨⟨xs, v, hq, h1⟩, fun x H2 hy => ?_⟩
      obtain ⟨T, y, e2, nT, e3, hy⟩ := hy
      have := hy xs hq
      rw [h1] at this
      cases this
      subst e2 e3
      have sF : Same F1 (upd F1 T (.tup [.int (i : Nat), v])) := same_new (G1.nope nT).1
      exact ⟨_, sF, G1.laid nT, .vt (.inl (.inl upd_same)) (.cons (.vi _) (.cons (Rpm (s1.trans sF) h2) .nil))⟩
  stop := fun F1 H1 _ s1 s2 => ⟨xs, (seqT_mono (s1.trans s2) hs), by
    unfold enumD
    rw [List.length_map, List.length_zipIdx, rpa_len hr]
    exact Nat.le_refl _⟩
/-- an iterator over what is frozen -/
def tIf (K : PySem.W.Frag) (U : Hp) (f : Eas) : TI := fun σ H R => ∃ (A : List Addr) (F : Hp) (r : Rs) (m : Ms) (ds : List PyData) (m' : Ms), Good K U A F H σ r m ∧ f r m = some (ds, m') ∧
  ∀ (F' H' : Hp) (J : It), Same F F' → Good K U A F' H' σ r m' → (∀ Z, Wk K Z J F' ds) → R J H'
theorem pi_weak {X : Cx} {tg e : Expr} {t t' : TI} (h : PI X tg e t) (w : ∀ σ H R, t' σ H R → t σ H R) : PI X tg e t' := ⟨fun pins s σ H R I q => h.run pins s σ H R I (w σ H R q)⟩
theorem qi_f {X : Cx} {U : Hp} {tg e : Expr} {f : Eas} (h : PI X tg e (tIf X.K U f)) : PI X tg e (tIt X.K U f) := pi_weak h fun σ H R ⟨A, F, r, m, ds, m', G, e, k⟩ => ⟨A, F, r, m, ds, m', G, e, fun F' H' J s G' W => k F' H' J s G' (W U)⟩
def enumA : PyData → Option (List PyData)
  | .list ds => some (enumD ds)
  | .tuple ds => some (enumD ds)
  | _ => none
def eEnumA (f : Ev) : Eas := fun r m => (f r m).bind fun p => (enumA p.1).map fun ds => (ds, p.2)
theorem qi_enumA {X : Cx} {U : Hp} {e : Expr} {f : Ev} {p pos tpos : Pos} {elts : List Expr} {kk : Nat} (hg : Gl X "enumerate") (hm : X.mg "enumerate" = none) (ha : PE X e (tE X.K U f)) (hs : starEach [e] X.env = [(false, eval e X.env)] := by rfl) (hs' : starEach [e] X.env = (false, eval e X.env) :: starEach [] X.env := by rfl) :
    PI X (.Tuple elts kk tpos) (.Call (.Name "enumerate" p) [e] [] pos) (tIf X.K U (eEnumA f)) := by
  refine ⟨fun pins s σ H R I ⟨A, F, r, m, ds, m', G, e0, k⟩ => ?_⟩
  unfold eEnumA at e0
  cases e1 : f r m with
  | none => rw [e1] at e0; cases e0
  | some q =>
    obtain ⟨d, m1⟩ := q
    rw [e1] at e0
    simp only [Option.bind_some] at e0
    cases d with
    | list l =>
      cases e0
      refine (pi_enum hg hm (pa_cons ha pa_nil hs') hs).run pins s σ H R I ⟨A, F, r, m, _, m', G, e1, fun F1 H1 v s1 G1 h1 => ?_⟩
      cases h1 with
      | vl sa ra => exact ⟨_, _, rfl, (sqL_mono G1.sub sa), k F1 H1 _ s1 G1 fun Z => wk_enum sa ra⟩
    | tuple l =>
      cases e0
      refine (pi_enumT hg hm (pa_cons ha pa_nil hs') hs).run pins s σ H R I ⟨A, F, r, m, _, m', G, e1, fun F1 H1 v s1 G1 h1 => ?_⟩
      cases h1 with
      | vt sa ra => exact ⟨_, _, rfl, (seqT_mono G1.sub sa), k F1 H1 _ s1 G1 fun Z => wk_enumT sa ra⟩
    | _ => cases e0
end TL

end
/-! TL24 -/
section
set_option maxHeartbeats 4000000
namespace TL
open PySem PySem.Spec PyProof.Rows L2
/-! ## comprehensions of two fors -/
def lcLoop2 (h : Eh) (t : Et) (fi : Eas) (own1 : List Nat) (h1 : Eh) (t1 : Et) (f : Ev) (r : Rs) : List PyData → Ms → List PyData → Option (List PyData × Ms)
  | [], m, acc => some (acc, m)
  | d :: ds, m, acc => (h d r).bind fun r2 => (t r2 m).bind fun b => if b.1 = true then (fi r2 b.2).bind fun p => (lcLoop h1 t1 f (wipeR r2 own1) p.1 p.2 acc).bind fun q => lcLoop2 h t fi own1 h1 t1 f r ds q.2 q.1 else lcLoop2 h t fi own1 h1 t1 f r ds b.2 acc
def eLc2 (fi : Eas) (own : List Nat) (h : Eh) (t : Et) (fi1 : Eas) (own1 : List Nat) (h1 : Eh) (t1 : Et) (f : Ev) : Ev := fun r m => (fi r m).bind fun p => (lcLoop2 h t fi1 own1 h1 t1 f (wipeR r own) p.1 p.2 []).map fun q => (.list q.1, q.2)
def tIX (K : PySem.W.Frag) (f : Eas) : TI := fun σ H R => ∃ U, tIf K U f σ H R
theorem pi_all {X : Cx} {tg e : Expr} {f : Eas} (k : ∀ U, PI X tg e (tIf X.K U f)) : PI X tg e (tIX X.K f) := ⟨fun pins s σ H R I ⟨U, q⟩ => (k U).run pins s σ H R I q⟩
/-- D, held, kept apart from the rest -/
theorem Good.grown {K : PySem.W.Frag} {U : Hp} {A : List Addr} {F H : Hp} {σ : L2.St} {r : Rs} {m : Ms} {D : Addr} {o : HO} (G : Good K U A F H σ r m) (hF : F D = none) (hU : U D = none) (hA : D ∉ A) : Good K U A F (upd H D o) σ r m := by
  refine ⟨fun b o q => ?_, fun b o q => ?_, G.len, G.fz, G.ow, G.al, fun kk a es q1 q2 => ?_, G.nd, fun a qa => ?_⟩
  · have hb : b ≠ D := fun z => by rw [z, hF] at q; cases q
    rw [upd_ne hb]
    exact G.sub b o q
  · have hb : b ≠ D := fun z => by rw [z, hU] at q; cases q
    rw [upd_ne hb]
    exact G.fo b o q
  · obtain ⟨c1, c2, us, c3, c4⟩ := G.cl kk a es q1 q2
    have ha : a ≠ D := fun z => hA (z ▸ List.mem_of_getElem? q1)
    exact ⟨c1, c2, us, by rw [upd_ne ha]; exact c3, c4⟩
  · obtain ⟨o', c1⟩ := G.he a qa
    have hne : a ≠ D := fun z => hA (z ▸ qa)
    exact ⟨o', by rw [upd_ne hne]; exact c1⟩
/-- the inner walk: D is there -/
theorem lc_part {K : PySem.W.Frag} {U : Hp} {A : List Addr} {F1 H1 : Hp} {σ : L2.St} {r : Rs} {m1 m9 : Ms} {ds acc0 res : List PyData} {vs0 : List V} {J : It} {D : Addr} {vsl : List Nat} {is : List Nat} {h : Eh} {t : Et} {f : Ev} {P : Hp → Prop} (his : ∀ j ∈ is, j ∈ vsl) (G1 : Good K U A F1 H1 σ r m1) (W1 : Wk K U J F1 ds)
    (nF : F1 D = none) (nU : U D = none) (nA : D ∉ A) (hD : H1 D = some (.lst vs0)) (hr : RpAll K F1 vs0 acc0)
    (e2 : lcLoop h t f (wipeR r vsl) ds m1 acc0 = some (res, m9))
    (k : ∀ (F' H' : Hp) (vs : List V), Same F1 F' → Good K U A F' H' σ r m9 → F' D = none → H' D = some (.lst vs) → RpAll K F' vs res → P H') :
    ∃ W : Nat → Nat → Hp → Prop, (∃ m, W 0 m H1) ∧ ∀ i m H, W i m H →
      (J.stop i H ∧ P H) ∨ (J.go i H ∧ ∃ Nx : Hp → Prop, (∀ H', Nx H' → ∃ m', m' < m ∧ W (i + 1) m' H') ∧ ∀ x H', J.yld i H x H' → (tGX K is h) x (wipe σ vsl) H' fun σ2 H2 => wipe σ2 vsl = wipe σ vsl ∧ (tTX K t) σ2 H2 fun b H3 =>
        if b = true then (tEX K f) σ2 H3 fun y H4 => ∃ acc, H4 D = some (.lst acc) ∧ acc.length < sizeLine ∧ Nx (upd H4 D (.lst (acc ++ [y]))) else Nx H3) := by
  refine ⟨fun i mm H2 => mm = ds.length - i ∧ i ≤ ds.length ∧ ∃ (F2 : Hp) (m2 : Ms) (vs : List V) (acc : List PyData), Same F1 F2 ∧ Good K U A F2 H2 σ r m2 ∧ H2 D = some (.lst vs) ∧ F2 D = none ∧ RpAll K F2 vs acc ∧
    lcLoop h t f (wipeR r vsl) (ds.drop i) m2 acc = some (res, m9), ⟨ds.length, by simp, Nat.zero_le _, F1, m1, vs0, acc0, Same.refl F1, G1, hD, nF, hr, by rw [List.drop_zero]; exact e2⟩, ?_⟩
  rintro i mm H2 ⟨rfl, hi2, F2, m2, vs, acc, hF, G2, hD2, hF2, hr2, e3⟩
  by_cases hlt : i < ds.length
  · rw [List.drop_eq_getElem_cons hlt] at e3
    unfold lcLoop at e3
    cases e4 : h ds[i] (wipeR r vsl) with
    | none => rw [e4] at e3; cases e3
    | some r3 =>
      rw [e4] at e3
      simp only [Option.bind_some] at e3
      cases e5 : t r3 m2 with
      | none => rw [e5] at e3; cases e3
      | some b5 =>
        obtain ⟨b, m5⟩ := b5
        rw [e5] at e3
        simp only [Option.bind_some] at e3
        have GW := (G2.hold hD2 hF2 nA).wiped vsl
        have sU : Same U (upd U D (.lst vs)) := same_new nU
        obtain ⟨w1, w2⟩ := W1.go _ A _ _ m2 F2 H2 i ds[i] sU hF GW (List.getElem?_eq_getElem hlt)
        have back : ∀ {F' H' : Hp} {σ' : L2.St} {r' : Rs} {m' : Ms}, Same F2 F' → Good K (upd U D (.lst vs)) A F' H' σ' r' m' → Good K U A F' H' σ r m' := fun {F' H' σ' r' m'} s G' => G2.mix G' s sU
        refine .inr ⟨w1, fun H' => ∃ (F' : Hp) (m' : Ms) (vs' : List V) (acc' : List PyData), Same F1 F' ∧ Good K U A F' H' σ r m' ∧ H' D = some (.lst vs') ∧ F' D = none ∧ RpAll K F' vs' acc' ∧
          lcLoop h t f (wipeR r vsl) (ds.drop (i + 1)) m' acc' = some (res, m9), fun H' w => ⟨ds.length - (i + 1), by omega, rfl, hlt, w⟩, fun x H3 hy => ?_⟩
        obtain ⟨F3, s3, G3, h3⟩ := w2 x H3 hy
        refine ⟨upd U D (.lst vs), A, F3, _, m2, ds[i], r3, G3, h3, e4, fun σ4 G4 k4 l4 => ⟨?_, ?_⟩⟩
        · refine (wipe_eq l4 fun j hj => k4 j fun z => hj (his j z)).trans wipe_twice
        · refine ⟨upd U D (.lst vs), A, F3, r3, m2, b, m5, G4, e5, fun F5 H5 s5 G5 => ?_⟩
          cases b with
          | false =>
            refine iteF ?_
            have fo5 := G5.fo D _ upd_same
            exact ⟨F5, m5, vs, acc, hF.trans (s3.trans s5), back (s3.trans s5) G5, fo5.1, fo5.2, Rpam (s3.trans s5) hr2, e3⟩
          | true =>
            refine iteT ?_
            rw [if_pos rfl] at e3
            cases e6 : f r3 m5 with
            | none => rw [e6] at e3; cases e3
            | some q6 =>
              obtain ⟨d6, m6⟩ := q6
              rw [e6] at e3
              simp only [Option.bind_some] at e3
              split at e3
              · rename_i hz
                refine ⟨upd U D (.lst vs), A, F5, r3, m5, d6, m6, G5, e6, fun F6 H6 y s6 G6 h6 => ?_⟩
                have fo6 := G6.fo D _ upd_same
                have s26 : Same F2 F6 := s3.trans (s5.trans s6)
                exact ⟨vs, fo6.1, by rw [rpa_len hr2]; exact hz, F6, m6, vs ++ [y], acc ++ [d6], hF.trans s26, (back s26 G6).grown fo6.2 nU nA, upd_same, fo6.2, rpa_app (Rpam s26 hr2) (.cons h6 .nil), e3⟩
              · cases e3
  · have ei : i = ds.length := by omega
    subst ei
    rw [List.drop_length] at e3
    cases e3
    exact .inl ⟨W1.stop F2 H2 (fun b o e => (G2.fo b o e).1) hF G2.sub, k F2 H2 vs hF G2 hF2 hD2 hr2⟩
section
variable {X : Cx} {U : Hp} {tg iter tg1 iter1 elt : Expr} {ifs ifs1 : List Expr} {scope : Scope} {own : List (Str × Nat)} {own1 : List Nat} {pos : Pos} {is is1 : List Nat} {fi fi1 : Eas} {h h1 : Eh} {t t1 : Et} {f : Ev}
theorem lc2_read (his : ∀ j ∈ is, j ∈ own.map (·.2)) (his1 : ∀ j ∈ is1, j ∈ own1) {σ : L2.St} {H : Hp} {Q : VK} (hq : tN X.K U (eLc2 fi (own.map (·.2)) h t fi1 own1 h1 t1 f) σ H Q) :
    tLc2 (tIt X.K U fi) (tGX X.K is h) (tTX X.K t) (tIX X.K fi1) (tGX X.K is1 h1) (tTX X.K t1) (tEX X.K f) (own.map (·.2)) own1 σ H Q := by
  obtain ⟨A, F, r, m, d, m', G, e, k⟩ := hq
  unfold eLc2 at e
  cases e1 : fi r m with
  | none => rw [e1] at e; cases e
  | some p =>
    obtain ⟨ds, m1⟩ := p
    rw [e1] at e
    simp only [Option.bind_some] at e
    cases e2 : lcLoop2 h t fi1 own1 h1 t1 f (wipeR r (own.map (·.2))) ds m1 [] with
    | none => rw [e2] at e; cases e
    | some q =>
      obtain ⟨res, m9⟩ := q
      rw [e2] at e
      cases e
      refine ⟨A, F, r, m, ds, m1, G, e1, fun F1 H1 J s1 G1 W1 => ?_⟩
      intro D nD
      have hF1 := (G1.nope nD).1
      have nA : D ∉ A := G1.notin nD
      have nU : U D = none := (G1.nope nD).2
      refine ⟨fun i mm H2 => mm = ds.length - i ∧ i ≤ ds.length ∧ ∃ (F2 : Hp) (m2 : Ms) (vs : List V) (acc : List PyData), Same F1 F2 ∧ Good X.K U A F2 H2 σ r m2 ∧ H2 D = some (.lst vs) ∧ F2 D = none ∧ RpAll X.K F2 vs acc ∧
        lcLoop2 h t fi1 own1 h1 t1 f (wipeR r (own.map (·.2))) (ds.drop i) m2 acc = some (res, m9), ⟨ds.length, by simp, Nat.zero_le _, F1, m1, [], [], Same.refl F1, G1.laidO nD, upd_same, hF1, .nil, by rw [List.drop_zero]; exact e2⟩, ?_⟩
      rintro i mm H2 ⟨rfl, hi2, F2, m2, vs, acc, hF, G2, hD2, hF2, hr2, e3⟩
      by_cases hlt : i < ds.length
      · rw [List.drop_eq_getElem_cons hlt] at e3
        unfold lcLoop2 at e3
        cases e4 : h ds[i] (wipeR r (own.map (·.2))) with
        | none => rw [e4] at e3; cases e3
        | some r3 =>
          rw [e4] at e3
          simp only [Option.bind_some] at e3
          cases e5 : t r3 m2 with
          | none => rw [e5] at e3; cases e3
          | some b5 =>
            obtain ⟨b, m5⟩ := b5
            rw [e5] at e3
            simp only [Option.bind_some] at e3
            have GW := (G2.hold hD2 hF2 nA).wiped (own.map (·.2))
            have sU : Same U (upd U D (.lst vs)) := same_new nU
            obtain ⟨w1, w2⟩ := W1.go _ A _ _ m2 F2 H2 i ds[i] sU hF GW (List.getElem?_eq_getElem hlt)
            refine .inr ⟨w1, fun H' => ∃ (F' : Hp) (m' : Ms) (vs' : List V) (acc' : List PyData), Same F1 F' ∧ Good X.K U A F' H' σ r m' ∧ H' D = some (.lst vs') ∧ F' D = none ∧ RpAll X.K F' vs' acc' ∧
              lcLoop2 h t fi1 own1 h1 t1 f (wipeR r (own.map (·.2))) (ds.drop (i + 1)) m' acc' = some (res, m9), fun H' w => ⟨ds.length - (i + 1), by omega, rfl, hlt, w⟩, fun x H3 hy => ?_⟩
            obtain ⟨F3, s3, G3, h3⟩ := w2 x H3 hy
            refine ⟨upd U D (.lst vs), A, F3, _, m2, ds[i], r3, G3, h3, e4, fun σ4 G4 k4 l4 => ⟨?_, ?_⟩⟩
            · exact (wipe_eq l4 fun j hj => k4 j fun z => hj (his j z)).trans wipe_twice
            · refine ⟨upd U D (.lst vs), A, F3, r3, m2, b, m5, G4, e5, fun F5 H5 s5 G5 => ?_⟩
              cases b with
              | false =>
                refine iteF ?_
                have fo5 := G5.fo D _ upd_same
                exact ⟨F5, m5, vs, acc, hF.trans (s3.trans s5), G2.mix G5 (s3.trans s5) sU, fo5.1, fo5.2, Rpam (s3.trans s5) hr2, e3⟩
              | true =>
                refine iteT ?_
                rw [if_pos rfl] at e3
                cases e6 : fi1 r3 m5 with
                | none => rw [e6] at e3; cases e3
                | some q6 =>
                  obtain ⟨ds6, m6⟩ := q6
                  rw [e6] at e3
                  simp only [Option.bind_some] at e3
                  cases e7 : lcLoop h1 t1 f (wipeR r3 own1) ds6 m6 acc with
                  | none => rw [e7] at e3; cases e3
                  | some q7 =>
                    obtain ⟨acc7, m7⟩ := q7
                    rw [e7] at e3
                    simp only [Option.bind_some] at e3
                    refine ⟨upd U D (.lst vs), A, F5, r3, m5, ds6, m6, G5, e6, fun F6 H6 J1 s6 G6 W6 => ?_⟩
                    have fo6 := G6.fo D _ upd_same
                    have s26 : Same F2 F6 := s3.trans (s5.trans s6)
                    refine lc_part his1 (G6.unhold nU) (W6 U) fo6.2 nU nA fo6.1 (Rpam s26 hr2) e7 fun F8 H8 vs8 s8 G8 n8 h8 r8 => ?_
                    exact ⟨F8, m7, vs8, acc7, hF.trans (s26.trans s8), G2.mix G8 (s26.trans s8) (fun b o q => q), h8, n8, r8, e3⟩
      · have ei : i = ds.length := by omega
        subst ei
        rw [List.drop_length] at e3
        cases e3
        exact .inl ⟨W1.stop F2 H2 (fun b o e => (G2.fo b o e).1) hF G2.sub, k F2 H2 D _ (s1.trans hF) G2 hF2 nU nA hD2 ⟨vs, rfl, hr2⟩⟩
theorem qn_lc2 (hc : X.calm = true) (hN : X.N.Nodup) (hi : PI X tg iter (tIt X.K U fi)) (ok : BlkOk X.N X.env.scope scope own) (hv : ∀ i ∈ own1, i ∈ own.map (·.2)) (his : ∀ j ∈ is, j ∈ own.map (·.2)) (his1 : ∀ j ∈ is1, j ∈ own1)
    (hg : ∀ (U : Hp) (s : Shared) (H : Hp) (C : Addr) (cl : List (Str × Addr)) (fp : List Addr), PG (X.blk s H scope (compEnvC scope cl C X.env) fp) tg (tG X.K U is h))
    (ht : ∀ (U : Hp) (s : Shared) (H : Hp) (C : Addr) (cl : List (Str × Addr)) (fp : List Addr), PTs (X.blk s H scope (compEnvC scope cl C X.env) fp) ifs (tT X.K U t))
    (hi1 : ∀ (U : Hp) (s : Shared) (H : Hp) (C : Addr) (cl : List (Str × Addr)) (fp : List Addr), PI (X.blk s H scope (compEnvC scope cl C X.env) fp) tg1 iter1 (tIf X.K U fi1))
    (hg1 : ∀ (U : Hp) (s : Shared) (H : Hp) (C : Addr) (cl : List (Str × Addr)) (fp : List Addr), PG (X.blk s H scope (compEnvC scope cl C X.env) fp) tg1 (tG X.K U is1 h1))
    (ht1 : ∀ (U : Hp) (s : Shared) (H : Hp) (C : Addr) (cl : List (Str × Addr)) (fp : List Addr), PTs (X.blk s H scope (compEnvC scope cl C X.env) fp) ifs1 (tT X.K U t1))
    (he : ∀ (U : Hp) (s : Shared) (H : Hp) (C : Addr) (cl : List (Str × Addr)) (fp : List Addr), PE (X.blk s H scope (compEnvC scope cl C X.env) fp) elt (tE X.K U f)) (hs : ∀ x, foldedSetIterable iter X.env x = pure x := by intro _; rfl) (hs1 : ∀ env x, foldedSetIterable iter1 env x = pure x := by intro _ _; rfl) :
    PE X (.ListComp elt [⟨tg, iter, ifs, 0⟩, ⟨tg1, iter1, ifs1, 0⟩] scope pos) (tN X.K U (eLc2 fi (own.map (·.2)) h t fi1 own1 h1 t1 f)) :=
  pe_weak (pe_lc2 hc hN hi ok hv (fun s H C cl fp => pg_all fun U => hg U s H C cl fp) (fun s H C cl fp => pts_all fun U => ht U s H C cl fp) (fun s H C cl fp => pi_all fun U => hi1 U s H C cl fp) (fun s H C cl fp => pg_all fun U => hg1 U s H C cl fp) (fun s H C cl fp => pts_all fun U => ht1 U s H C cl fp) (fun s H C cl fp => pe_all fun U => he U s H C cl fp) hs hs1) fun σ H Q q => lc2_read his his1 q
theorem qe_lc2 (hc : X.calm = true) (hN : X.N.Nodup) (hi : PI X tg iter (tIt X.K U fi)) (ok : BlkOk X.N X.env.scope scope own) (hv : ∀ i ∈ own1, i ∈ own.map (·.2)) (his : ∀ j ∈ is, j ∈ own.map (·.2)) (his1 : ∀ j ∈ is1, j ∈ own1)
    (hg : ∀ (U : Hp) (s : Shared) (H : Hp) (C : Addr) (cl : List (Str × Addr)) (fp : List Addr), PG (X.blk s H scope (compEnvC scope cl C X.env) fp) tg (tG X.K U is h))
    (ht : ∀ (U : Hp) (s : Shared) (H : Hp) (C : Addr) (cl : List (Str × Addr)) (fp : List Addr), PTs (X.blk s H scope (compEnvC scope cl C X.env) fp) ifs (tT X.K U t))
    (hi1 : ∀ (U : Hp) (s : Shared) (H : Hp) (C : Addr) (cl : List (Str × Addr)) (fp : List Addr), PI (X.blk s H scope (compEnvC scope cl C X.env) fp) tg1 iter1 (tIf X.K U fi1))
    (hg1 : ∀ (U : Hp) (s : Shared) (H : Hp) (C : Addr) (cl : List (Str × Addr)) (fp : List Addr), PG (X.blk s H scope (compEnvC scope cl C X.env) fp) tg1 (tG X.K U is1 h1))
    (ht1 : ∀ (U : Hp) (s : Shared) (H : Hp) (C : Addr) (cl : List (Str × Addr)) (fp : List Addr), PTs (X.blk s H scope (compEnvC scope cl C X.env) fp) ifs1 (tT X.K U t1))
    (he : ∀ (U : Hp) (s : Shared) (H : Hp) (C : Addr) (cl : List (Str × Addr)) (fp : List Addr), PE (X.blk s H scope (compEnvC scope cl C X.env) fp) elt (tE X.K U f)) (hs : ∀ x, foldedSetIterable iter X.env x = pure x := by intro _; rfl) (hs1 : ∀ env x, foldedSetIterable iter1 env x = pure x := by intro _ _; rfl) :
    PE X (.ListComp elt [⟨tg, iter, ifs, 0⟩, ⟨tg1, iter1, ifs1, 0⟩] scope pos) (tE X.K U (eLc2 fi (own.map (·.2)) h t fi1 own1 h1 t1 f)) := qe_new (qn_lc2 hc hN hi ok hv his his1 hg ht hi1 hg1 ht1 he hs hs1)
theorem qs_setLc2 {n0 i : Nat} {y : Str} {py spos : Pos} (hc : X.calm = true) (hN : X.N.Nodup) (hy : X.N[i]? = some y) (hyl : X.env.scope.names.lookup y = some .local)
    (hsw : swapsWith (.ListComp elt [⟨tg, iter, ifs, 0⟩, ⟨tg1, iter1, ifs1, 0⟩] scope pos) (some (.Name y py)) spos.line X.env = pure true) (hi : PI X tg iter (tIt X.K U fi)) (ok : BlkOk X.N X.env.scope scope own) (hv : ∀ i ∈ own1, i ∈ own.map (·.2)) (his : ∀ j ∈ is, j ∈ own.map (·.2)) (his1 : ∀ j ∈ is1, j ∈ own1)
    (hg : ∀ (U : Hp) (s : Shared) (H : Hp) (C : Addr) (cl : List (Str × Addr)) (fp : List Addr), PG (X.blk s H scope (compEnvC scope cl C X.env) fp) tg (tG X.K U is h))
    (ht : ∀ (U : Hp) (s : Shared) (H : Hp) (C : Addr) (cl : List (Str × Addr)) (fp : List Addr), PTs (X.blk s H scope (compEnvC scope cl C X.env) fp) ifs (tT X.K U t))
    (hi1 : ∀ (U : Hp) (s : Shared) (H : Hp) (C : Addr) (cl : List (Str × Addr)) (fp : List Addr), PI (X.blk s H scope (compEnvC scope cl C X.env) fp) tg1 iter1 (tIf X.K U fi1))
    (hg1 : ∀ (U : Hp) (s : Shared) (H : Hp) (C : Addr) (cl : List (Str × Addr)) (fp : List Addr), PG (X.blk s H scope (compEnvC scope cl C X.env) fp) tg1 (tG X.K U is1 h1))
    (ht1 : ∀ (U : Hp) (s : Shared) (H : Hp) (C : Addr) (cl : List (Str × Addr)) (fp : List Addr), PTs (X.blk s H scope (compEnvC scope cl C X.env) fp) ifs1 (tT X.K U t1))
    (he : ∀ (U : Hp) (s : Shared) (H : Hp) (C : Addr) (cl : List (Str × Addr)) (fp : List Addr), PE (X.blk s H scope (compEnvC scope cl C X.env) fp) elt (tE X.K U f)) (hs : ∀ x, foldedSetIterable iter X.env x = pure x := by intro _; rfl) (hs1 : ∀ env x, foldedSetIterable iter1 env x = pure x := by intro _ _; rfl) :
    PS X (.Assign [.Name y py] (.ListComp elt [⟨tg, iter, ifs, 0⟩, ⟨tg1, iter1, ifs1, 0⟩] scope pos) spos) (tS X.K U n0 (sSet i (eLc2 fi (own.map (·.2)) h t fi1 own1 h1 t1 f))) := by
  have base :=
    ps_setLc2 (g := tGX X.K is h) (tt := tTX X.K t) (wi1 := tIX X.K fi1) (g1 := tGX X.K is1 h1) (tt1 := tTX X.K t1) (te := tEX X.K f) hc hN hy hyl hsw hi ok hv (fun s H C cl fp => pg_all fun U => hg U s H C cl fp) (fun s H C cl fp => pts_all fun U => ht U s H C cl fp) (fun s H C cl fp => pi_all fun U => hi1 U s H C cl fp) (fun s H C cl fp => pg_all fun U => hg1 U s H C cl fp) (fun s H C cl fp => pts_all fun U => ht1 U s H C cl fp) (fun s H C cl fp => pe_all fun U => he U s H C cl fp) hs hs1
  refine ps_weak base fun D σ H ⟨A, F, r, m, o, G, hn, e, p⟩ => ?_
  unfold sSet at e
  cases e1 : eLc2 fi (own.map (·.2)) h t fi1 own1 h1 t1 f r m with
  | none => rw [e1] at e; cases e
  | some q =>
    rw [e1] at e
    cases e
    refine lc2_read his his1 ⟨A, F, r, m, q.1, q.2, G, e1, fun F1 H1 a u s1 G1 q1 q2 q3 q4 q5 => ?_⟩
    obtain ⟨w1, w2, w3⟩ := G1.ice q1 q2 q3 q4 q5
    exact p A _ H1 _ (List.prefix_refl A) (s1.trans w1) (w2.setFz w3)
end
end TL

end
/-! TL25 -/
section
set_option maxHeartbeats 4000000
namespace TL
open PySem PySem.Spec PyProof.Rows L2
/-! ## a new list times an int -/
def repD : PyData → PyData → Option PyData
  | .list ds, .int k => if -(2 ^ 63) ≤ k ∧ k < 2 ^ 63 ∧ ds.length * k.toNat ≤ sizeLine then some (.list (List.replicate k.toNat ds).flatten) else none
  | _, _ => none
theorem rpa_rep {K : PySem.W.Frag} {F : Hp} {vs : List V} {ds : List PyData} (h : RpAll K F vs ds) : ∀ n : Nat, RpAll K F (List.replicate n vs).flatten (List.replicate n ds).flatten
  | 0 => .nil
  | n + 1 => by
    rw [List.replicate_succ, List.replicate_succ, List.flatten_cons, List.flatten_cons]
    exact rpa_app h (rpa_rep h n)
section
variable {X : Cx} {U : Hp} {a b : Expr} {pos : Pos} {f g : Ev}
theorem qe_rep (ha : PE X a (tN X.K U f)) (hb : ∀ U, PE X b (tE X.K U g)) : PE X (.BinOp a .Mult b pos) (tE X.K U (eBin repD f g)) :=
  pe_weak (pe_op op_rep ha (pe_all hb)) fun σ H Q ⟨A, F, r, m, d, m', G, e, k⟩ => by
    obtain ⟨d1, m1, d2, e1, e2, e3⟩ := bin_some e
    refine ⟨A, F, r, m, d1, m1, G, e1, fun F1 H1 a u s1 G1 q1 q2 q3 q4 q5 => ⟨upd U a u, A, F1, r, m1, d2, m', G1.hold q4 q1 q3, e2, fun F2 H2 y s2 G2 h2 => ?_⟩⟩
    obtain ⟨c1, c2⟩ := G2.fo a u upd_same
    unfold repD at e3
    split at e3
    · rename_i ds0 k0
      split at e3
      · rename_i hz
        cases e3
        obtain ⟨vs, eu, hv⟩ := q5
        subst eu
        cases h2
        have l1 := rpa_len hv
        refine ⟨a, _, vs, rfl, rfl, c1, hz.1, hz.2.1, by rw [l1]; exact hz.2.2, fun p np => ?_⟩
        have G3 := G2.unhold q2
        have sF : Same F2 (upd F2 p (.lst (List.replicate k0.toNat vs).flatten)) := same_new (G3.nope np).1
        exact k _ _ _ (s1.trans (s2.trans sF)) (G3.laid np) (.vl (.inl (.inl upd_same)) (rpa_rep (Rpam (s2.trans sF) hv) _))
      · cases e3
    · cases e3
/-! ## equality, of texts without a word on their signs -/
def eqX (a b : PyData) : Option PyData := match a, b with
  | .str x, .str y => some (.bool (decide (x = y)))
  | a, b => eqD a b
def neX (a b : PyData) : Option PyData := match a, b with
  | .str x, .str y => some (.bool (!decide (x = y)))
  | a, b => neD a b
def rTx (neg : Bool) : R2 := fun x y H Q => ∃ i j : Str, x = .str i ∧ y = .str j ∧ Q (.bl (if neg then !decide (i = j) else decide (i = j))) H
theorem op_eqT : OpR X (compareOp .Eq) (rTx false) := by
  intro pins s σ H x y v u Q I rx ry ⟨i, j, e1, e2, q⟩
  subst e1 e2
  refine op_eq pins s σ H _ _ v u Q I rx ry ⟨rfl, ?_⟩
  have e : decide (V.str i = V.str j) = decide (i = j) := by
    by_cases h : i = j
    · subst h; simp
    · rw [decide_eq_false h, decide_eq_false (fun z => h (by cases z; rfl))]
  rw [e]
  exact q
theorem op_neT : OpR X (compareOp .NotEq) (rTx true) := by
  intro pins s σ H x y v u Q I rx ry ⟨i, j, e1, e2, q⟩
  subst e1 e2
  refine op_ne pins s σ H _ _ v u Q I rx ry ⟨rfl, ?_⟩
  have e : decide (V.str i = V.str j) = decide (i = j) := by
    by_cases h : i = j
    · subst h; simp
    · rw [decide_eq_false h, decide_eq_false (fun z => h (by cases z; rfl))]
  rw [e]
  exact q
def rEqX (K : PySem.W.Frag) : R2 := fun x y H Q => rEqD K x y H Q ∨ rTx false x y H Q
def rNeX (K : PySem.W.Frag) : R2 := fun x y H Q => rNeD K x y H Q ∨ rTx true x y H Q
theorem op_eqX (hu : X.A.units + 64 < cLine) : OpR X (compareOp .Eq) (rEqX X.K) := opr_or (op_eqD hu) op_eqT
theorem op_neX (hu : X.A.units + 64 < cLine) : OpR X (compareOp .NotEq) (rNeX X.K) := opr_or (op_neD hu) op_neT
theorem od_eqX : OpD X U (rEqX X.K) eqX := by
  intro A F H σ r m x y a b d Q G ha hb e k
  unfold eqX at e
  split at e
  · cases ha; cases hb; cases e
    exact .inr ⟨_, _, rfl, rfl, k F H _ (Same.refl F) G (.vb _)⟩
  · exact .inl (od_eq A F H σ r m x y a b d Q G ha hb e k)
theorem od_neX : OpD X U (rNeX X.K) neX := by
  intro A F H σ r m x y a b d Q G ha hb e k
  unfold neX at e
  split at e
  · cases ha; cases hb; cases e
    exact .inr ⟨_, _, rfl, rfl, k F H _ (Same.refl F) G (.vb _)⟩
  · exact .inl (od_ne A F H σ r m x y a b d Q G ha hb e k)
end
/-! ## a def called with all its keyword-only parameters -/
theorem kbn_all {K : PySem.W.Frag} {x qual : Str} {params : Arguments} {body : List Stmt} {scope : Scope} {kws : List (Str × V)} {f : Addr} {fd : FuncData} {ps : List Str} (F : FunD K x qual params body scope [] kws f fd) (n : Nat) (ks : List Str)
    (h : ∀ (kV doc pm : Value) (an : Option Addr) (cdv ct : Value) (us ws : List Value), us.length = n → ws.length = ks.length → bindArgs (PySem.W.fnOf x qual params body scope .none kV doc pm an cdv ct) ⟨us, ks.zip ws⟩ = pure (ps.zip (us ++ ws))) :
    KBn K fd ps n ks (fun us ws => us ++ ws) (fun vs zs => vs ++ zs) := by
  obtain ⟨oc, od, dV, kV, doc, pm, an, cdv, ct, osl, rfl, lk, hcd, hD, hK⟩ := F.ex
  rcases hD with ⟨_, rfl⟩ | ⟨e, _⟩
  · exact ⟨fun s us ws X l1 l2 => .of_eq (h kV doc pm an cdv ct us ws l1 l2), fun r1 r2 => r1.append r2⟩
  · exact absurd rfl e
end TL

end
/-! TL26 -/
section
set_option maxHeartbeats 4000000
namespace TL
open PySem L2
/-! ## texts of plain signs -/
def Lw (n : Nat) (s : Str) : Prop := s.cps.size ≤ n ∧ ∀ c ∈ s.cps.toList, c < 128
instance {n : Nat} {s : Str} : Decidable (Lw n s) := inferInstanceAs (Decidable (_ ∧ _))
theorem Lw.len {n : Nat} {s : Str} (h : Lw n s) : s.length ≤ n := h.1
theorem Lw.mono {n k : Nat} {s : Str} (h : Lw n s) (l : n ≤ k) : Lw k s := ⟨Nat.le_trans h.1 l, h.2⟩
theorem Lw.line {n : Nat} {s : Str} (h : Lw n s) (l : n ≤ 1000) : s.length ≤ sizeLine := Nat.le_trans h.1 (Nat.le_trans l (by decide))
theorem Lw.app {n k : Nat} {s t : Str} (h : Lw n s) (h' : Lw k t) : Lw (n + k) (s ++ t) := by
  have e : (s ++ t).cps = s.cps ++ t.cps := rfl
  refine ⟨?_, fun c hc => ?_⟩
  · rw [e, Array.size_append]
    have := h.1
    have := h'.1
    omega
  · rw [e, Array.toList_append] at hc
    rcases List.mem_append.mp hc with q | q
    · exact h.2 c q
    · exact h'.2 c q
theorem Lw.one {c : Nat} (h : c < 128) : Lw 1 ⟨#[c]⟩ := ⟨Nat.le_refl 1, fun d hd => by
  have : d = c := by simpa using hd
  omega⟩
theorem fold_app {α : Type} : ∀ (l : List (Array α)) (z : Array α), (l.foldl (· ++ ·) z).toList = z.toList ++ (l.map (·.toList)).flatten
  | [], z => by simp
  | x :: l, z => by
    rw [List.foldl_cons, fold_app l, Array.toList_append, List.map_cons, List.flatten_cons, List.append_assoc]
theorem Lw.mul {n : Nat} {s : Str} (h : Lw n s) (k : Int) : Lw (n * k.toNat) (Txt.mul s k) := by
  unfold Txt.mul
  split
  · exact ⟨Nat.zero_le _, fun c hc => by cases hc⟩
  · split
    · rename_i h1 h2
      refine ⟨?_, h.2⟩
      have : 1 ≤ k.toNat := by omega
      exact Nat.le_trans h.1 (by
        have := Nat.mul_le_mul_left n this
        rwa [Nat.mul_one] at this)
    · have e := fold_app (List.replicate k.toNat s.cps) #[]
      rw [List.map_replicate] at e
      refine ⟨?_, fun c hc => ?_⟩
      · show ((List.replicate k.toNat s.cps).foldl (· ++ ·) #[]).size ≤ _
        rw [← Array.length_toList, e, List.length_append, List.length_flatten, List.map_replicate, List.sum_replicate_nat, Array.length_toList]
        have := Nat.mul_le_mul_left k.toNat h.1
        rw [Nat.mul_comm n]
        simpa using this
      · have hc' : c ∈ ((List.replicate k.toNat s.cps).foldl (· ++ ·) #[]).toList := hc
        rw [e, List.mem_append] at hc'
        rcases hc' with q | q
        · cases q
        · obtain ⟨l, hl, hc2⟩ := List.mem_flatten.mp q
          rw [List.eq_of_mem_replicate hl] at hc2
          exact h.2 c hc2
theorem Lw.ok {n : Nat} {s : Str} (h : Lw n s) : (PyData.str s).canLay0 = true := by
  show s.cps.all (fun c => decide (c < 0x110000)) = true
  rw [Array.all_eq_true_iff_forall_mem]
  intro c hc
  have := h.2 c (Array.mem_toList_iff.mpr hc)
  exact decide_eq_true (by omega)
/-! ## what may be shown -/
structure Sh (w k : Nat) (d : PyData) : Prop where
  lay : d.canLay0 = true
  dep : d.depth ≤ k
  its : d.intsShort 13 = true
  shw : d.showable = true
  wgt : d.weight ≤ w
section
variable {w k n : Nat} {d : PyData} {ds : List PyData}
theorem Sh.mono {w' k' : Nat} (h : Sh w k d) (a : w ≤ w') (b : k ≤ k') : Sh w' k' d := ⟨h.lay, Nat.le_trans h.dep b, h.its, h.shw, Nat.le_trans h.wgt a⟩
theorem Sh.str {s : Str} (h : Lw n s) : Sh n 0 (.str s) := ⟨h.ok, by simp [PyData.depth], rfl, rfl, h.1⟩
theorem Sh.non : Sh 0 0 .none := ⟨rfl, by simp [PyData.depth], rfl, rfl, by simp [PyData.weight]⟩
theorem Sh.bool {b : Bool} : Sh 0 0 (.bool b) := ⟨rfl, by simp [PyData.depth], rfl, rfl, by simp [PyData.weight]⟩
theorem Sh.int {i : Int} (h0 : -1000000000000 < i) (h1 : i < 1000000000000) : Sh 41 0 (.int i) := by
  have hn : i.natAbs < 10 ^ 12 := by
    have : (10 : Nat) ^ 12 = 1000000000000 := by decide
    omega
  refine ⟨rfl, by simp [PyData.depth], ?_, ?_, ?_⟩
  · simp only [PyData.intsShort, decide_eq_true_eq]
    exact PyData.shown_int_le hn
  · simp only [PyData.showable, decide_eq_true_eq]
    by_cases hz : i.natAbs = 0
    · rw [hz]; decide
    · have : i.natAbs.log2 < 40 := (Nat.log2_lt hz).mpr (Nat.lt_trans hn (by decide))
      omega
  · simp only [PyData.weight]
    split
    · exact Nat.zero_le _
    · rename_i hz
      by_cases hz : i.natAbs = 0
      · rw [hz]; decide
      · have : i.natAbs.log2 < 40 := (Nat.log2_lt hz).mpr (Nat.lt_trans hn (by decide))
        omega
theorem its_all : ∀ {ds : List PyData}, (∀ d ∈ ds, d.intsShort 13 = true) → PyData.intsShortAll 13 ds = true
  | [], _ => rfl
  | d :: ds, h => by
    simp only [PyData.intsShortAll, Bool.and_eq_true]
    exact ⟨h d List.mem_cons_self, its_all fun x hx => h x (List.mem_cons_of_mem _ hx)⟩
theorem shw_all : ∀ {ds : List PyData}, (∀ d ∈ ds, d.showable = true) → PyData.showableAll ds = true
  | [], _ => rfl
  | d :: ds, h => by
    simp only [PyData.showableAll, Bool.and_eq_true]
    exact ⟨h d List.mem_cons_self, shw_all fun x hx => h x (List.mem_cons_of_mem _ hx)⟩
theorem wgt_all : ∀ {ds : List PyData}, (∀ d ∈ ds, d.weight ≤ w) → PyData.weightAll ds ≤ ds.length * (w + 1)
  | [], _ => by simp [PyData.weightAll]
  | d :: ds, h => by
    have h1 := h d List.mem_cons_self
    have h2 := wgt_all (ds := ds) fun x hx => h x (List.mem_cons_of_mem _ hx)
    simp only [PyData.weightAll, List.length_cons, Nat.add_mul]
    omega
theorem Sh.lst (h : ∀ d ∈ ds, Sh w k d) (hl : ds.length ≤ n) : Sh (n * (w + 1)) (k + 1) (.list ds) := by
  have a := depth_all fun d hd => (h d hd).dep
  have b := wgt_all fun d hd => (h d hd).wgt
  have c := Nat.mul_le_mul_right (w + 1) hl
  exact ⟨by simp only [PyData.canLay0]; exact lay_all fun d hd => (h d hd).lay, by simp only [PyData.depth]; omega, by simp only [PyData.intsShort]; exact its_all fun d hd => (h d hd).its, by simp only [PyData.showable]; exact shw_all fun d hd => (h d hd).shw, by simp only [PyData.weight]; omega⟩
theorem Sh.tup (h : ∀ d ∈ ds, Sh w k d) (hl : ds.length ≤ n) : Sh (n * (w + 1)) (k + 1) (.tuple ds) := by
  have a := depth_all fun d hd => (h d hd).dep
  have b := wgt_all fun d hd => (h d hd).wgt
  have c := Nat.mul_le_mul_right (w + 1) hl
  exact ⟨by simp only [PyData.canLay0]; exact lay_all fun d hd => (h d hd).lay, by simp only [PyData.depth]; omega, by simp only [PyData.intsShort]; exact its_all fun d hd => (h d hd).its, by simp only [PyData.showable]; exact shw_all fun d hd => (h d hd).shw, by simp only [PyData.weight]; omega⟩
theorem Sh.shaped (h : Sh w k d) (hk : k ≤ 62) : SeqAt.shaped d = true := shaped_of h.lay (by have := h.dep; omega)
theorem Sh.fits (h : Sh w k d) (hw : w ≤ 1000000) : d.shown.length ≤ sizeLine := by
  have e : (2 : Nat) ^ 20 = 1048576 := by decide
  have g := h.wgt
  exact PyData.shown_fits (B := 13) (by decide) (by decide) (PyData.leavesShort_of_canLay0 13 d h.lay h.its) (by omega)
theorem w_repr_sh {R : PyData → Prop} (hd : (∃ l, d = .list l) ∨ ∃ l, d = .tuple l) (h : Sh w k d) (hw : w ≤ 1000000) (hk : k ≤ 62) (q : R (.str d.shown)) : W (reprD [d]) R :=
  w_repr hd h.shw (PyData.hasDict_of_canLay d h.lay) (h.shaped hk) (h.fits hw) q
end
/-! ## the twins reckoned: more -/
section
variable {r : Rs} {m : Ms} {Q : PyData × Ms → Prop} {QL : List PyData × Ms → Prop} {QB : Bool × Ms → Prop} {S : Out → Prop} {R : PyData → Prop} {f g : Ev} {fs fi fi1 : Eas} {i n a : Nat} {ds es : List PyData} {d : PyData} {h h1 : Eh} {t t1 : Et} {own own1 : List Nat} {x y : Str} {b c : Bool} {j k : Int}
theorem cell_hd {c : PyData} : cellAt (some c :: m) 0 = some c := rfl
theorem cell_tl {o : Option PyData} : cellAt (o :: m) (a + 1) = cellAt m a := rfl
theorem w_eqX_ss (q : R (.bool (decide (x = y)))) : W (eqX (.str x) (.str y)) R := .mk q
theorem w_neX_ss (q : R (.bool (!decide (x = y)))) : W (neX (.str x) (.str y)) R := .mk q
theorem w_eqX_ii (q : R (.bool (decide (j = k)))) : W (eqX (.int j) (.int k)) R := by
  refine w_eqD (shaped_i j) (shaped_i k) ?_
  have e : PyData.eqv (.int j) (.int k) = decide (j = k) := by
    simp only [PyData.eqv]
    by_cases h : j = k
    · subst h; simp
    · rw [decide_eq_false h]; simpa using h
  rw [e]
  exact q
theorem w_eqX_bb (q : R (.bool (b == c))) : W (eqX (.bool b) (.bool c)) R := by
  refine w_eqD (shaped_b b) (shaped_b c) ?_
  simp only [PyData.eqv]
  exact q
theorem w_neX_bb (q : R (.bool (!(b == c)))) : W (neX (.bool b) (.bool c)) R := by
  refine w_neD (shaped_b b) (shaped_b c) ?_
  simp only [PyData.eqv]
  exact q
theorem w_neX_ll0 (hd : SeqAt.shaped (.list ds) = true) (q : R (.bool (!ds.isEmpty))) : W (neX (.list ds) (.list [])) R := by
  refine w_neD hd (by decide +kernel) ?_
  have e : PyData.eqv (.list ds) (.list []) = ds.isEmpty := by cases ds <;> simp [PyData.eqv, PyData.eqvAll]
  rw [e]
  exact q
theorem w_eqX_ll0 (hd : SeqAt.shaped (.list ds) = true) (q : R (.bool ds.isEmpty)) : W (eqX (.list ds) (.list [])) R := by
  refine w_eqD hd (by decide +kernel) ?_
  have e : PyData.eqv (.list ds) (.list []) = ds.isEmpty := by cases ds <;> simp [PyData.eqv, PyData.eqvAll]
  rw [e]
  exact q
theorem w_mul_s (h1 : x.length ≤ 4096) (h2 : 0 ≤ k) (h3 : k ≤ 4096) (q : R (.str (Txt.mul x k))) : W (mulD (.str x) (.int k)) R := W.guard ⟨h1, h3, by omega⟩ (.mk q)
theorem w_rep (h1 : 0 ≤ k) (h2 : k < 1000) (h3 : ds.length ≤ 1000) (q : R (.list (List.replicate k.toNat ds).flatten)) : W (repD (.list ds) (.int k)) R :=
  W.guard ⟨by omega, by omega, Nat.le_trans (Nat.mul_le_mul h3 (show k.toNat ≤ 1000 by omega)) (by decide)⟩ (.mk q)
theorem w_enumA_l {P : List PyData → Prop} (q : P (enumD ds)) : W (enumA (.list ds)) P := .mk q
theorem w_enumA_t {P : List PyData → Prop} (q : P (enumD ds)) : W (enumA (.tuple ds)) P := .mk q
theorem w_eEnumA (q : W (f r m) fun p => W (enumA p.1) fun ds => QL (ds, p.2)) : W (eEnumA f r m) QL := W.bind (W.mono q fun _ q => W.map q)
theorem w_tru_l {P : Bool → Prop} (q : P (!ds.isEmpty)) : W (truD (.list ds)) P := .mk q
theorem w_tru_t {P : Bool → Prop} (q : P (!ds.isEmpty)) : W (truD (.tuple ds)) P := .mk q
theorem w_isNot (q : R (.bool (match d with | .none => false | _ => true))) : W (isNotD d .none) R := by
  unfold isNotD
  exact .mk q
theorem w_tupleD_l (q : R (.tuple ds)) : W (tupleD [.list ds]) R := .mk q
theorem w_tupleD_t (q : R (.tuple ds)) : W (tupleD [.tuple ds]) R := .mk q
theorem w_listD_t (q : R (.list ds)) : W (listD2 [.tuple ds]) R := .mk q
theorem w_listD_l (q : R (.list ds)) : W (listD2 [.list ds]) R := .mk q
theorem w_intD_b (q : R (.int (if b then 1 else 0))) : W (intD1 [.bool b]) R := .mk q
theorem w_intD_i (q : R (.int j)) : W (intD1 [.int j]) R := .mk q
theorem w_min2 (q : R (.int (if k < j then k else j))) : W (min2D [.int j, .int k]) R := .mk q
theorem w_max2 (q : R (.int (if k > j then k else j))) : W (max2D [.int j, .int k]) R := .mk q
theorem w_slc_l {lo hi : Option Int} (q : R (.list (cutD ds lo hi))) : W (slcD (.list ds) lo hi) R := .mk q
theorem w_slc_t {lo hi : Option Int} (q : R (.tuple (cutD ds lo hi))) : W (slcD (.tuple ds) lo hi) R := .mk q
theorem w_yes (q : QB (true, m)) : W (eYes r m) QB := .mk q
theorem w_hTup {g : Ehs} {P : Rs → Prop} (hl : ds.length = n) (q : W (g ds r) P) : W (hTup g n (.tuple ds) r) P := by
  unfold hTup
  exact W.guard hl q
theorem w_hCons {f : Eh} {g : Ehs} {P : Rs → Prop} (q : W (f d r) fun r1 => W (g ds r1) P) : W (hCons f g (d :: ds) r) P := W.bind q
theorem w_hNil {P : Rs → Prop} (q : P r) : W (hNil [] r) P := .mk q
theorem w_eKw {c n : Nat} {u : List PyData → Option PyData} {fk : Eas} (q : W (fs r m) fun p => W (fk r p.2) fun z => p.1.length = c ∧ W (arN n u (p.1 ++ z.1)) fun d => Q (d, z.2)) : W (eKw c n u fs fk r m) Q :=
  W.bind (W.mono q fun p q => W.bind (W.mono q fun z ⟨e, q⟩ => W.guard e (W.map q)))
theorem take_eq {α : Type} {l : List α} {i : Nat} {x : α} (h : l[i]? = some x) : l.take (i + 1) = l.take i ++ [x] := by
  rw [List.take_add_one, h]
  rfl
/-- a comprehension by a word on what it made so far -/
theorem lc_inv (I : Nat → List PyData → Ms → Prop) {ds : List PyData} (step : ∀ (i : Nat) (d : PyData) (m : Ms) (acc : List PyData), ds[i]? = some d → I i acc m → W (h d r) fun r1 => W (t r1 m) fun b => (b.1 = true → W (f r1 b.2) fun x => acc.length < sizeLine ∧ I (i + 1) (acc ++ [x.1]) x.2) ∧ (b.1 = false → I (i + 1) acc b.2)) :
    ∀ (k : Nat) (m : Ms) (acc : List PyData), k ≤ ds.length → I k acc m → W (lcLoop h t f r (ds.drop k) m acc) fun p => I ds.length p.1 p.2 := by
  intro k
  induction hk : ds.length - k generalizing k with
  | zero =>
    intro m acc hl hI
    have : k = ds.length := by omega
    subst this
    rw [List.drop_length]
    exact .mk hI
  | succ n ih =>
    intro m acc hl hI
    have hlt : k < ds.length := by omega
    rw [List.drop_eq_getElem_cons hlt]
    unfold lcLoop
    refine W.bind (W.mono (step k ds[k] m acc (List.getElem?_eq_getElem hlt) hI) fun r1 q => W.bind (W.mono q fun b ⟨q1, q2⟩ => W.ite (fun z => ?_) fun z => ?_))
    · exact W.bind (W.mono (q1 z) fun x ⟨q3, q4⟩ => W.guard q3 (ih (k + 1) (by omega) x.2 _ (by omega) q4))
    · exact ih (k + 1) (by omega) b.2 _ (by omega) (q2 (by simpa using z))
theorem w_lcI (I : List PyData → Nat → List PyData → Ms → Prop) (q : W (fi r m) fun p => I p.1 0 [] p.2 ∧ (∀ (i : Nat) (d : PyData) (m : Ms) (acc : List PyData), p.1[i]? = some d → I p.1 i acc m → W (h d (wipeR r own)) fun r1 => W (t r1 m) fun b => (b.1 = true → W (f r1 b.2) fun x => acc.length < sizeLine ∧ I p.1 (i + 1) (acc ++ [x.1]) x.2) ∧ (b.1 = false → I p.1 (i + 1) acc b.2)) ∧ (∀ acc m, I p.1 p.1.length acc m → Q (.list acc, m))) :
    W (eLc fi own h t f r m) Q := W.bind (W.mono q fun p ⟨q1, q2, q3⟩ => by
  have := lc_inv (I p.1) q2 0 p.2 [] (Nat.zero_le _) q1
  rw [List.drop_zero] at this
  exact W.map (W.mono this fun z hz => q3 _ _ hz))
theorem w_lcOI (I : Nat → List PyData → Ms → Prop) (e : r[i]? = some (.ow a)) (e0 : cellAt m a = some (.list ds)) (q1 : I 0 [] (m.set a none))
    (q2 : ∀ (i : Nat) (d : PyData) (m : Ms) (acc : List PyData), ds[i]? = some d → I i acc m → W (h d (wipeR r own)) fun r1 => W (t r1 m) fun b => (b.1 = true → W (f r1 b.2) fun x => acc.length < sizeLine ∧ I (i + 1) (acc ++ [x.1]) x.2) ∧ (b.1 = false → I (i + 1) acc b.2))
    (q3 : ∀ acc m', I ds.length acc m' → Q (.list acc, m'.set a (some (.list ds)))) : W (eLcO i own h t f r m) Q := by
  have := lc_inv I q2 0 (m.set a none) [] (Nat.zero_le _) q1
  rw [List.drop_zero] at this
  obtain ⟨p, e1, q⟩ := this.get
  exact w_lcO e e0 ⟨p.1, p.2, e1, q3 _ _ q⟩
/-- of two fors, where the cells stay -/
theorem lc2_inv (I : Nat → List PyData → Prop) {ds : List PyData} (step : ∀ (i : Nat) (d : PyData) (acc : List PyData), ds[i]? = some d → I i acc → W (h d r) fun r2 => W (t r2 m) fun b => b = (true, m) ∧ W (fi1 r2 m) fun p => p.2 = m ∧ ∃ J : Nat → List PyData → Prop, J 0 acc ∧
      (∀ (j : Nat) (d : PyData) (acc : List PyData), p.1[j]? = some d → J j acc → W (h1 d (wipeR r2 own1)) fun r3 => W (t1 r3 m) fun b => b.2 = m ∧ (b.1 = true → W (f r3 m) fun x => x.2 = m ∧ acc.length < sizeLine ∧ J (j + 1) (acc ++ [x.1])) ∧ (b.1 = false → J (j + 1) acc)) ∧ (∀ acc, J p.1.length acc → I (i + 1) acc)) :
    ∀ (k : Nat) (acc : List PyData), k ≤ ds.length → I k acc → W (lcLoop2 h t fi1 own1 h1 t1 f r (ds.drop k) m acc) fun p => I ds.length p.1 ∧ p.2 = m := by
  intro k
  induction hk : ds.length - k generalizing k with
  | zero =>
    intro acc hl hI
    have : k = ds.length := by omega
    subst this
    rw [List.drop_length]
    exact .mk ⟨hI, rfl⟩
  | succ n ih =>
    intro acc hl hI
    have hlt : k < ds.length := by omega
    rw [List.drop_eq_getElem_cons hlt]
    unfold lcLoop2
    refine W.bind (W.mono (step k ds[k] acc (List.getElem?_eq_getElem hlt) hI) fun r2 q => W.bind (W.mono q fun b ⟨eb, q⟩ => ?_))
    subst eb
    refine W.guard' rfl (W.bind (W.mono q fun p ⟨ep, J, j0, js, jd⟩ => W.bind ?_))
    rw [ep]
    have := lc_inv (r := wipeR r2 own1) (fun j acc m' => J j acc ∧ m' = m) (h := h1) (t := t1) (f := f) (ds := p.1) (fun j d m' acc hd ⟨hj, em⟩ => by
      subst em
      exact W.mono (js j d acc hd hj) fun r3 q => W.mono q fun b ⟨e1, q1, q2⟩ => ⟨fun z => by
        rw [e1]
        exact W.mono (q1 z) fun x ⟨e2, q3, q4⟩ => ⟨q3, q4, e2⟩, fun z => ⟨q2 z, e1⟩⟩) 0 m acc (Nat.zero_le _) ⟨j0, rfl⟩
    rw [List.drop_zero] at this
    refine W.mono this fun z ⟨z1, z2⟩ => ?_
    rw [z2]
    exact ih (k + 1) (by omega) z.1 (by omega) (jd z.1 z1)
theorem w_lc2I (I : List PyData → Nat → List PyData → Prop) (q : W (fi r m) fun p => p.2 = m ∧ I p.1 0 [] ∧ (∀ (i : Nat) (d : PyData) (acc : List PyData), p.1[i]? = some d → I p.1 i acc → W (h d (wipeR r own)) fun r2 => W (t r2 m) fun b => b = (true, m) ∧ W (fi1 r2 m) fun p1 => p1.2 = m ∧ ∃ J : Nat → List PyData → Prop, J 0 acc ∧
      (∀ (j : Nat) (d : PyData) (acc : List PyData), p1.1[j]? = some d → J j acc → W (h1 d (wipeR r2 own1)) fun r3 => W (t1 r3 m) fun b => b.2 = m ∧ (b.1 = true → W (f r3 m) fun x => x.2 = m ∧ acc.length < sizeLine ∧ J (j + 1) (acc ++ [x.1])) ∧ (b.1 = false → J (j + 1) acc)) ∧ (∀ acc, J p1.1.length acc → I p.1 (i + 1) acc)) ∧ (∀ acc, I p.1 p.1.length acc → Q (.list acc, m))) :
    W (eLc2 fi own h t fi1 own1 h1 t1 f r m) Q := W.bind (W.mono q fun p ⟨e, q1, q2, q3⟩ => by
  have := lc2_inv (I p.1) q2 0 [] (Nat.zero_le _) q1
  rw [List.drop_zero] at this
  rw [e]
  exact W.map (W.mono this fun z ⟨z1, z2⟩ => by rw [z2]; exact q3 _ z1))
end
end TL

end
/-! TL27 -/
section
set_option maxHeartbeats 4000000
namespace TL
open PySem L2
theorem le_line {n : Nat} (h : n ≤ 1000) : n ≤ sizeLine := Nat.le_trans h (by decide)
theorem lt_line {n : Nat} (h : n ≤ 1000) : n < sizeLine := Nat.lt_of_le_of_lt h (by decide)
theorem atI_2 {α : Type} (x y z : α) (xs : List α) : atI (x :: y :: z :: xs) 2 = some z := by
  have := atI_in (l := x :: y :: z :: xs) (i := 2) (by decide) (by simp only [List.length_cons]; omega)
  exact this
theorem atI_3 {α : Type} (x y z u : α) (xs : List α) : atI (x :: y :: z :: u :: xs) 3 = some u := by
  have := atI_in (l := x :: y :: z :: u :: xs) (i := 3) (by decide) (by simp only [List.length_cons]; omega)
  exact this
theorem atI_4 {α : Type} (x y z u v : α) (xs : List α) : atI (x :: y :: z :: u :: v :: xs) 4 = some v := by
  have := atI_in (l := x :: y :: z :: u :: v :: xs) (i := 4) (by decide) (by simp only [List.length_cons]; omega)
  exact this
section
variable {r : Rs} {m : Ms} {Q : Out → Prop} {c c1 c2 : Et} {s t : Es} {X : Prop}
/-- an if whose test changes no cell: what it tells where it holds -/
theorem w_if1 (h1 : W (c r m) fun p => p.2 = m ∧ (p.1 = true → X)) (hs : X → W (s r m) Q) (ht : W (t r m) Q) : W (sIf c s t r m) Q := w_if (W.mono h1 fun p ⟨e, h⟩ => by
  rw [e]
  exact ⟨fun z => hs (h z), fun _ => ht⟩)
theorem w_if_and (h1 : W (c1 r m) fun p => p.2 = m) (h2 : W (c2 r m) fun p => p.2 = m ∧ (p.1 = true → X)) (hs : X → W (s r m) Q) (ht : W (t r m) Q) : W (sIf (eAnd c1 c2) s t r m) Q :=
  w_if1 (w_and (W.mono h1 fun p e => by
    rw [e]
    exact ⟨fun _ => h2, fun _ => ⟨rfl, fun z => by cases z⟩⟩)) hs ht
theorem w_or_p (h1 : W (c1 r m) fun p => p.2 = m) (h2 : W (c2 r m) fun p => p.2 = m) : W (eOr c1 c2 r m) fun p => p.2 = m := w_or (W.mono h1 fun p e => by
  rw [e]
  exact ⟨fun _ => rfl, fun _ => h2⟩)
theorem w_and_p (h1 : W (c1 r m) fun p => p.2 = m) (h2 : W (c2 r m) fun p => p.2 = m) : W (eAnd c1 c2 r m) fun p => p.2 = m := w_and (W.mono h1 fun p e => by
  rw [e]
  exact ⟨fun _ => h2, fun _ => rfl⟩)
theorem w_not_p (h1 : W (c r m) fun p => p.2 = m) : W (eNot c r m) fun p => p.2 = m := w_not h1
theorem w_test_p {A B : Ms → Prop} (h : W (c r m) fun p => p.2 = m) (ha : A m) (hb : B m) : W (c r m) fun b => (b.1 = true → A b.2) ∧ (b.1 = false → B b.2) := W.mono h fun p e => by
  rw [e]
  exact ⟨fun _ => ha, fun _ => hb⟩
end
theorem cut_to {ds : List PyData} {k : Int} (h : 0 ≤ k) : cutD ds none (some k) = ds.take k.toNat := by
  have e : HT.sIx ds.length ds.length (some k) = min k.toNat ds.length := by
    show (if k < 0 then (k + (ds.length : Int)).toNat else min k.toNat ds.length) = _
    rw [if_neg (by omega)]
  unfold cutD
  rw [e, HT.sIx_none, List.drop_zero, Nat.sub_zero]
  by_cases hl : k.toNat ≤ ds.length
  · rw [Nat.min_eq_left hl]
  · rw [Nat.min_eq_right (by omega), List.take_length, List.take_of_length_le (by omega)]
/-- one slot as a cell is frozen -/
def fz1 (k : Nat) (d : PyData) : Sl → Sl
  | .ow j => if j = k then .fz d else .ow j
  | s => s
theorem frz_nil {k : Nat} {d : PyData} : frzR k d [] = [] := rfl
theorem frz_cons {k : Nat} {d : PyData} {s : Sl} {r : Rs} : frzR k d (s :: r) = fz1 k d s :: frzR k d r := rfl
theorem fz1_fz {k : Nat} {d e : PyData} : fz1 k d (.fz e) = .fz e := rfl
theorem fz1_un {k : Nat} {d : PyData} : fz1 k d .un = .un := rfl
theorem fz1_eq {k : Nat} {d : PyData} : fz1 k d (.ow k) = .fz d := if_pos rfl
theorem fz1_ne {k j : Nat} {d : PyData} (h : j ≠ k) : fz1 k d (.ow j) = .ow j := if_neg h
theorem w_notInD {ds : List PyData} {x : Str} {R : PyData → Prop} (h1 : SeqAt.shaped (.str x) = true) (h2 : SeqAt.shaped (.list ds) = true) (h : ∀ b, R (.bool b)) : W (notInD (.str x) (.list ds)) R := by
  unfold notInD
  refine W.map ?_
  show W (if SeqAt.shaped (.str x) = true ∧ SeqAt.shaped (.list ds) = true then some (ds.any fun z => PyData.eqv z (.str x)) else none) _
  exact W.guard ⟨h1, h2⟩ (.mk (h _))
theorem enum_at {ds : List PyData} {i : Nat} {d : PyData} (h : (enumD ds)[i]? = some d) : ∃ e, ds[i]? = some e ∧ d = .tuple [.int (i : Nat), e] := by
  unfold enumD at h
  rw [List.getElem?_map, List.getElem?_zipIdx] at h
  cases e1 : ds[i]? with
  | none => rw [e1] at h; cases h
  | some d1 =>
    rw [e1] at h
    simp only [Option.map_some, Nat.zero_add, Option.some.injEq] at h
    exact ⟨d1, rfl, h.symm⟩
theorem enum_len (ds : List PyData) : (enumD ds).length = ds.length := by
  unfold enumD
  rw [List.length_map, List.length_zipIdx]

end TL

end
open PySem L2 TL
local macro_rules | `(tactic| walk_at "tl3") => `(tactic| first
  | with_reducible refine w_eqX_ss ?_ | with_reducible refine w_neX_ss ?_ | with_reducible refine w_eqX_ii ?_ | with_reducible refine w_eqX_bb ?_ | with_reducible refine w_neX_bb ?_
  | with_reducible refine w_eEnumA ?_ | with_reducible refine w_enumA_l ?_ | with_reducible refine w_enumA_t ?_ | with_reducible refine w_tru_l ?_ | with_reducible refine w_tru_t ?_ | with_reducible refine w_isNot ?_
  | with_reducible refine w_tupleD_l ?_ | with_reducible refine w_tupleD_t ?_ | with_reducible refine w_listD_t ?_ | with_reducible refine w_listD_l ?_ | with_reducible refine w_intD_b ?_ | with_reducible refine w_intD_i ?_ | with_reducible refine w_min2 ?_ | with_reducible refine w_max2 ?_
  | with_reducible refine w_slc_l ?_ | with_reducible refine w_slc_t ?_ | with_reducible refine w_yes ?_ | with_reducible refine w_hCons ?_ | with_reducible refine w_hNil ?_ | ((with_reducible refine' w_hTup ?_ ?_); (exact rfl)) | with_reducible refine w_eKw ?_ | with_reducible refine w_at (atI_2 _ _ _ _) ?_ | with_reducible refine w_at (atI_3 _ _ _ _ _) ?_ | with_reducible refine w_at (atI_4 _ _ _ _ _ _) ?_
  | with_reducible refine Exists.intro _ (And.intro cell_hd (And.intro trivial ?_)) | with_reducible refine And.intro (le_line (by decide)) ?_)
local macro_rules | `(tactic| walk_at "tlew") => `(tactic| repeat (first | walk_at "tl1" | walk_at "tl3" | walk_at "tln" | (with_reducible walk_at "tlx") | dsimp only))
/-! TL28 -/
section
set_option maxHeartbeats 4000000
namespace TL
open PySem PySem.Spec PyProof.Rows L2
/-! ## what calls nothing: two words on it go together -/
inductive Still {α : Type} : Sem α → Prop
  | pure (a : α) : Still (.pure a)
  | unsup (w : String) : Still (.unsupported w)
  | rule {t : String} {k : Unit → Sem α} (h : Still (k ())) : Still (.rule t k)
  | load {a : Addr} {p : Option Value} {k : Obj → Sem α} (h : ∀ o, Still (k o)) : Still (.load a p k)
  | upd {a : Addr} {p : Option Value} {f : Obj → Obj} {k : Unit → Sem α} (h : Still (k ())) : Still (.update a p f k)
  | fresh {k : Tok → Sem α} (h : ∀ t, Still (k t)) : Still (.fresh k)
  | ask {k : Setting → Sem α} (h : ∀ t, Still (k t)) : Still (.ask k)
theorem wp_both {α : Type} {M : Model} {Γ : PySem.Ctx} {t : Sem α} (st : Still t) : ∀ {Q Q' : α → Pos → Shared → Prop} {E E' : Value → Pos → Shared → Prop} {p : Pos} {s : Shared}, Sem.wp M Γ t Q E p s → Sem.wp M Γ t Q' E' p s → Sem.wp M Γ t (fun a p s => Q a p s ∧ Q' a p s) (fun e p s => E e p s ∧ E' e p s) p s := by
  induction st with
  | pure a => intro Q Q' E E' p s h h'; exact ⟨h, h'⟩
  | unsup w => intro Q Q' E E' p s h h'; exact h
  | rule _ ih => intro Q Q' E E' p s h h'; exact ih h h'
  | load _ ih =>
    intro Q Q' E E' p s ⟨o, h1, h2⟩ ⟨o', h1', h2'⟩
    rw [h1] at h1'
    cases h1'
    exact ⟨o, h1, ih o h2 h2'⟩
  | upd _ ih => intro Q Q' E E' p s h h'; exact ⟨h.1, ih h.2 h'.2⟩
  | fresh _ ih => intro Q Q' E E' p s h h'; exact ih _ h h'
  | ask _ ih => intro Q Q' E E' p s h h'; exact ih _ h h'
theorem both {α : Type} {M : Model} {A : Around} {t : Sem α} {Q Q' : α → Shared → Prop} {E E' : Value → Shared → Prop} {s : Shared} (st : Still t) (h : wpAny M A t Q E s) (h' : wpAny M A t Q' E' s) : wpAny M A t (fun a s => Q a s ∧ Q' a s) (fun e s => E e s ∧ E' e s) s :=
  fun Γ p hΓ => wp_both st (h Γ p hΓ) (h' Γ p hΓ)
theorem Still.bind {α β : Type} {t : Sem α} {f : α → Sem β} (h : Still t) (k : ∀ a, Still (f a)) : Still (t >>= f) := by
  show Still (Sem.bind t f)
  induction h with
  | pure a => exact k a
  | unsup w => exact .unsup w
  | rule _ ih => exact .rule ih
  | load _ ih => exact .load ih
  | upd _ ih => exact .upd ih
  | fresh _ ih => exact .fresh ih
  | ask _ ih => exact .ask ih
theorem still_nsSet (ns : Addr) (x : Str) (v : Value) : Still (nsSet ns x v) := by
  unfold nsSet
  refine Still.bind ?_ fun h => Still.bind ?_ fun key => Still.bind ?_ fun o => ?_
  · unfold strHash
    exact Still.bind (.ask fun w => .pure w) fun w => .pure _
  · unfold mkText
    exact Still.bind (.fresh fun t => .pure t) fun t => .pure _
  · exact .load fun o => .pure o
  · split
    · split
      · exact Still.bind (.unsup _) fun _ => .upd (.pure _)
      · exact .upd (.pure _)
    · exact .unsup _
theorem still_cell (a : Addr) (v : Option Value) : Still (cellSet a v) := by
  unfold cellSet
  refine Still.bind (.load fun o => .pure o) fun o => ?_
  split
  · exact .upd (.pure _)
  · exact .unsup _
/-- the name x stands for just u -/
def RawAt (X : Cx) (s : Shared) (x : Str) (u : Value) : Prop :=
  (X.env.scope.names.lookup x = some .local ∧ ∃ m, s.heap.Ns X.env.locals m ∧ m x = some u) ∨ (X.env.scope.names.lookup x = some .cell ∧ ∃ c, X.env.cells.lookup x = some c ∧ s.heap.IsCell c (some u))
section
variable {X : Cx} {pins : List (Addr × Obj)} {σ : L2.St} {H : Hp} {s : Shared}
theorem store_raw {i : Nat} {x : Str} {v : V} {u : Value} {Q : Unit → Shared → Prop} {E : Value → Shared → Prop} (I : Inv X pins σ H s) (hN : X.N.Nodup) (hi : X.N[i]? = some x) (hx : Loc X.env.scope x) (r : RelV v u)
    (h : ∀ s', Inv X pins (σ.set i (some v)) H s' → RawAt X s' x u → Q () s') (hf : X.fn x = true ∨ X.env.scope.names.lookup x = some .local := by first | exact .inl rfl | exact .inr rfl | assumption) : wpAny (model X.prog X.w) X.A (storeName X.env x u) Q E s := by
  have one : wpAny (model X.prog X.w) X.A (storeName X.env x u) (fun _ s' => Inv X pins (σ.set i (some v)) H s') E s := store_ok I hN hi hx r (fun s' I' => I') hf
  have two : wpAny (model X.prog X.w) X.A (storeName X.env x u) (fun _ s' => RawAt X s' x u) E s ∧ Still (storeName X.env x u) := by
    have hcls : (X.env.scope.kind == .class || (X.env.scope.kind == .module && X.env.locals != X.env.globals)) = false := by rw [I.ok.kind]; rfl
    rcases hx with hk | hk
    · obtain ⟨m, hn, _⟩ := I.loc
      refine ⟨wpAny_storeName_local hk hn (fun h' hn' _ => .inl ⟨hk, _, hn', by simp⟩) hcls, ?_⟩
      rw [storeName_local hk hcls]
      exact still_nsSet _ _ _
    · obtain ⟨c, hc⟩ := I.ok.has x (.inl hk)
      obtain ⟨w', z⟩ := I.cell x c hc
      refine ⟨wpAny_storeName_cell I.ok.kind hk hc z fun h' hc' _ => .inr ⟨hk, c, hc, hc'⟩, ?_⟩
      have hk' : X.env.kindOf x = some .cell := hk
      unfold storeName
      simp only [hk', I.ok.kind]
      refine Still.bind ?_ fun a => still_cell a _
      unfold PySem.cellOf
      rw [hc]
      exact .pure c
  exact wpAny_mono (both two.2 one two.1) (fun _ s' ⟨q1, q2⟩ => h s' q1 q2) fun _ _ q => q.1
theorem raw_at {x : Str} {u : Value} {pos : Pos} {Q E : Value → Shared → Prop} (I : Inv X pins σ H s) (h : RawAt X s x u) (fin : Q u s) (hd : (x == ("__debug__" : Str)) = false := by decide) : wpAny (model X.prog X.w) X.A (eval (.Name x pos) X.env) Q E s := by
  rcases h with ⟨hk, m, hn, hm⟩ | ⟨hk, c, hc, hz⟩
  · exact wpAny_Name (wpAny_loadName_local I.ok.kind hk hn hm fin) hd
  · exact wpAny_Name (wpAny_loadName_cell I.ok.kind hk hc hz fin) hd
end
end TL

end
/-! TL29 -/
section
set_option maxHeartbeats 4000000
namespace TL
open PySem PySem.Spec PyProof.Rows L2
/-! ## y = 'text'[e]; z = k.replace(y, '') -/
def replR (iy iz ik : Nat) (C : Str) (v : PyData) (r : Rs) : Option Rs := match v with
  | .int j => (atI C.cps.toList j).bind fun c => match (r.set iy (.fz (.str ⟨#[c]⟩)))[ik]? with
    | some (.fz (.str L)) => if C.length ≤ sizeLine ∧ L.length ≤ 1000000 then some ((r.set iy (.fz (.str ⟨#[c]⟩))).set iz (.fz (.str (Txt.replace L ⟨#[c]⟩ "")))) else none
    | _ => none
  | _ => none
def sRepl (iy iz ik : Nat) (C : Str) (f : Ev) : Es := fun r m => (f r m).bind fun p => (replR iy iz ik C p.1 r).map fun r' => .nx r' p.2
theorem repl_some {iy iz ik : Nat} {C : Str} {f : Ev} {r : Rs} {m : Ms} {o : Out} (e : sRepl iy iz ik C f r m = some o) :
    ∃ (j : Int) (m1 : Ms) (c : Nat) (L : Str), f r m = some (.int j, m1) ∧ atI C.cps.toList j = some c ∧ (r.set iy (.fz (.str ⟨#[c]⟩)))[ik]? = some (.fz (.str L)) ∧ C.length ≤ sizeLine ∧ L.length ≤ 1000000 ∧ o = .nx ((r.set iy (.fz (.str ⟨#[c]⟩))).set iz (.fz (.str (Txt.replace L ⟨#[c]⟩ "")))) m1 := by
  unfold sRepl at e
  cases e1 : f r m with
  | none => rw [e1] at e; cases e
  | some p =>
    obtain ⟨d, m1⟩ := p
    rw [e1] at e
    simp only [Option.bind_some] at e
    unfold replR at e
    cases d with
    | int j =>
      simp only at e
      cases e2 : atI C.cps.toList j with
      | none => rw [e2] at e; cases e
      | some c =>
        rw [e2] at e
        simp only [Option.bind_some] at e
        split at e
        · rename_i L hL
          split at e
          · rename_i hz
            cases e
            exact ⟨j, m1, c, L, rfl, e2, hL, hz.1, hz.2, rfl⟩
          · cases e
        · cases e
    | _ => cases e
theorem qs_repl {X : Cx} {U : Hp} {n0 iy iz ik j0 j1 : Nat} {y z k : Str} {C : Str} {idx : Expr} {f : Ev} {rest : List Stmt} {s2 : Es} {p1 p2 p3 p4 p5 c0 c1 apos cpos spos tpos : Pos} (hN : X.N.Nodup) (hy : X.N[iy]? = some y) (hyl : Loc X.env.scope y) (hz : X.N[iz]? = some z) (hzl : Loc X.env.scope z) (hk : X.N[ik]? = some k) (hkv : Loc X.env.scope k)
    (hidx : PE X idx (tE X.K U f)) (hrest : PSs X rest (tS X.K U n0 s2)) (hyf : X.fn y = true ∨ X.env.scope.names.lookup y = some .local) (hzf : X.fn z = true ∨ X.env.scope.names.lookup z = some .local) (hs : PlainIx idx := by intro _ _; rfl)
    (hs1 : swapsWith (.Subscript (.Constant (.str C) j0 c0) idx p2) (some (.Name y p1)) spos.line X.env = pure false := by rfl)
    (hs2 : swapsWith (.Call (.Attribute (.Name k p4) "replace" apos) [.Name y p5, .Constant (.str "") j1 c1] [] cpos) (some (.Name z p3)) tpos.line X.env = pure false := by rfl)
    (hdk : (k == ("__debug__" : Str)) = false := by decide) (hck : (k == ("__classdict__" : Str)) = false := by decide) (hdy : (y == ("__debug__" : Str)) = false := by decide)
    (hst : starEach [.Name y p5, .Constant (.str "") j1 c1] X.env = [(false, eval (.Name y p5) X.env), (false, eval (.Constant (.str "") j1 c1) X.env)] := by rfl)
    (hbase : attributeBase (.Name k p4) "replace" X.env (eval (.Name k p4) X.env) = eval (.Name k p4) X.env := by rfl) (hline : (apos.endLine == cpos.line) = true := by rfl) :
    PSs X (.Assign [.Name y p1] (.Subscript (.Constant (.str C) j0 c0) idx p2) spos :: .Assign [.Name z p3] (.Call (.Attribute (.Name k p4) "replace" apos) [.Name y p5, .Constant (.str "") j1 c1] [] cpos) tpos :: rest) (tS X.K U n0 (sSeq (sRepl iy iz ik C f) s2)) := by
  refine ⟨fun pins s σ H D I ⟨A, F, r, m, o, G, hn, e, p⟩ => ?_⟩
  unfold sSeq at e
  cases e0 : sRepl iy iz ik C f r m with
  | none => rw [e0] at e; cases e
  | some o1 =>
    rw [e0] at e
    simp only [Option.bind_some] at e
    obtain ⟨j, m1, c, L, e1, e2, e3, hC, hL, rfl⟩ := repl_some e0
    simp only at e
    refine wpAny_execs_cons (wpAny_Assign_Name (Subscript_ (Calls.Constant_str ?_)) hs1)
    have reads : tE X.K U f σ H (fun w H1 => ∃ F1, w = V.int j ∧ Same F F1 ∧ Good X.K U A F1 H1 σ r m1) := ⟨A, F, r, m, .int j, m1, G, e1, fun F1 H1 w s1 G1 h1 => by
      cases h1
      exact ⟨F1, rfl, s1, G1⟩⟩
    refine wpAny_mono (PySem.wpAny_toks (hidx.run pins _ σ H _ (I.tok (s.toks + 1)) reads)) (fun u s1 ⟨k1, w, H1, I1, rw1, F1, ew, sF, G1⟩ => ?_) fun _ _ z => z.2
    subst ew
    obtain ⟨tj, rfl⟩ := rw1
    have k1 : s.toks + 1 ≤ s1.toks := k1
    obtain ⟨q, h1, h2, h3, h4, h5⟩ := atI_get e2
    have hl : C.cps.toList.length = C.length := by simp [Str.length]
    rw [hl] at h1 h4 h5
    have line := line63
    refine tail_any (typeIs_str s1 C s.toks) slot_str_getitem.lookup (getItem_str (c := c) (by
      have q1 : decide (j < -(2 ^ 63 : Int)) = false := decide_eq_false (by omega)
      have q2 : decide (j ≥ 2 ^ 63) = false := decide_eq_false (by omega)
      rw [q1, q2, Bool.or_false]) (by rw [h1]; simpa using h2) ?_) (hs _ _)
    refine wpAny_mono (PySem.wpAny_toks (store_raw (v := V.str ⟨#[c]⟩) (Q := fun _ s' => Inv X pins (σ.set iy (some (V.str ⟨#[c]⟩))) H1 s' ∧ RawAt X s' y (.str ⟨#[c]⟩ s1.toks)) (I1.tok (s1.toks + 1)) hN hy hyl ⟨s1.toks, rfl⟩ (fun s' q1 q2 => ⟨q1, q2⟩) hyf)) (fun _ s3 ⟨k3, I3, raw⟩ => ?_) fun _ _ z => z.2
    have k3 : s1.toks + 1 ≤ s3.toks := k3
    have G3 : Good X.K U A F1 H1 (σ.set iy (some (V.str ⟨#[c]⟩))) (r.set iy (.fz (.str ⟨#[c]⟩))) m1 := G1.setFz (.vs _)
    obtain ⟨vk, hvk, rk⟩ := G3.fz ik _ e3
    cases rk
    have hkv' : Vis X.env.scope k := hkv.elim .inl (fun q => .inr (.inl q))
    refine wpAny_execs_cons (wpAny_Assign_Name (PySem.Call_method2 hbase hst hline (raw_name hk hkv' I3 hvk (fun v rv => ?_) hdk hck)) hs2)
    obtain ⟨tx, rfl⟩ := rv
    refine ⟨"str", _, PySem.F.plainAttrs_str, PySem.F.slot_str_replace, PySem.F.type_str_replace, typeIs_str _ _ _, (fun _ e => nomatch e), Calls.callWith_builtin rfl (Calls.evalArgs_plain (Calls.spliced_cons ?_))⟩
    refine raw_at I3 raw ?_ hdy
    refine Calls.spliced_cons (Calls.Constant_str (Calls.spliced_nil ?_))
    have hyz : ((⟨#[c]⟩ : Str) == ("" : Str)) = false := by
      rw [beq_eq_false_iff_ne]
      intro q
      have := congrArg Str.length q
      cases this
    have hb : L.length + (L.length + 1) * ("" : Str).length ≤ 16777216 := by
      have : ("" : Str).length = 0 := rfl
      rw [this, Nat.mul_zero]
      omega
    refine PySem.SC.replace (u := s1.toks) (v := s3.toks) (show s1.toks ≠ 0 by omega) (show s3.toks ≠ 0 by omega) (show s1.toks ≠ s3.toks by omega) hyz hb fun t' kk => ?_
    refine store_ok (v := V.str (Txt.replace L ⟨#[c]⟩ "")) (I3.tok kk) hN hz hzl ⟨t', rfl⟩ (fun s5 I5 => ?_) hzf
    exact hrest.run pins s5 _ H1 D I5 ⟨A, F1, _, m1, o, G3.setFz (.vs _), hn, e, p.later (List.prefix_refl A) sF⟩
theorem w_repl {iy iz ik : Nat} {C : Str} {f : Ev} {r : Rs} {m : Ms} {Q : Out → Prop} (h : W (f r m) fun p => W (replR iy iz ik C p.1 r) fun r' => Q (.nx r' p.2)) : W (sRepl iy iz ik C f r m) Q := W.bind (W.mono h fun _ h => W.map h)
end TL

end
/-! TL30 -/
section
set_option maxHeartbeats 4000000
namespace TL
open PySem PySem.Spec PyProof.Rows L2
/-! ## bits, ord, sum, min of a list -/
def borD : PyData → PyData → Option PyData
  | .int i, .int j => some (.int (Builtin.bitOr i j))
  | _, _ => none
def bandD : PyData → PyData → Option PyData
  | .int i, .int j => some (.int (Builtin.bitAnd i j))
  | _, _ => none
def bxorD : PyData → PyData → Option PyData
  | .int i, .int j => some (.int (Builtin.bitXor i j))
  | _, _ => none
def shlD : PyData → PyData → Option PyData
  | .int i, .int j => if 0 ≤ j ∧ j ≤ 1000000 ∧ i.natAbs < 2 ^ 64 then some (.int (i * 2 ^ j.toNat)) else none
  | _, _ => none
def shrD : PyData → PyData → Option PyData
  | .int i, .int j => if 0 ≤ j then some (.int (i / 2 ^ j.toNat)) else none
  | _, _ => none
def ordD : List PyData → Option PyData
  | [.str x] => if x.length = 1 then some (.int (x.cps.getD 0 0 : Nat)) else none
  | _ => none
def intsOf : List PyData → Option (List Int)
  | [] => some []
  | .int i :: ds => (intsOf ds).map (i :: ·)
  | _ => none
def sumD : List PyData → Option PyData
  | [.list ds] => (intsOf ds).map fun ns => .int ns.sum
  | _ => none
def minI : List Int → Option Int
  | [] => none
  | i :: is => some (is.foldl (fun a b => if b < a then b else a) i)
def minLD : List PyData → Option PyData
  | [.list ds] => (intsOf ds).bind fun ns => (minI ns).map .int
  | _ => none
theorem intsOf_rp {K : PySem.W.Frag} {F : Hp} : ∀ {vs : List V} {ds : List PyData} {ns : List Int}, RpAll K F vs ds → intsOf ds = some ns → vs = ns.map V.int
  | _, _, _, .nil, e => by cases e; rfl
  | _, d :: ds, ns, .cons h t, e => by
    cases d with
    | int i =>
      unfold intsOf at e
      cases e1 : intsOf ds with
      | none => rw [e1] at e; cases e
      | some ms =>
        rw [e1] at e
        cases e
        cases h
        rw [intsOf_rp t e1]
        rfl
    | _ => cases e
theorem ints_map : ∀ ns : List Int, intsOf (ns.map .int) = some ns
  | [] => rfl
  | n :: ns => by rw [List.map_cons, intsOf, ints_map ns]; rfl
theorem fold_min : ∀ (is : List Int) (i : Int), (is.foldl (fun a b => if b < a then b else a) i ∈ i :: is) ∧ ∀ y ∈ i :: is, is.foldl (fun a b => if b < a then b else a) i ≤ y
  | [], i => ⟨List.mem_cons_self, fun y hy => by rw [List.mem_singleton.mp hy]; exact Int.le_refl _⟩
  | j :: is, i => by
    rw [List.foldl_cons]
    obtain ⟨h1, h2⟩ := fold_min is (if j < i then j else i)
    refine ⟨?_, fun y hy => ?_⟩
    · rcases List.mem_cons.mp h1 with q | q
      · rw [q]
        split
        · exact List.mem_cons_of_mem _ List.mem_cons_self
        · exact List.mem_cons_self
      · exact List.mem_cons_of_mem _ (List.mem_cons_of_mem _ q)
    · have h3 := h2 _ List.mem_cons_self
      generalize List.foldl (fun a b => if b < a then b else a) (if j < i then j else i) is = z at h2 h3
      rcases List.mem_cons.mp hy with q | q
      · rw [q]
        split at h3 <;> omega
      · rcases List.mem_cons.mp q with q | q
        · rw [q]
          split at h3 <;> omega
        · exact h2 y (List.mem_cons_of_mem _ q)
section
variable {X : Cx} {U : Hp}
theorem od_bor : OpD X U (rI0 fun i j => .int (Builtin.bitOr i j)) borD := by
  intro A F H σ r m x y a b d Q G ha hb e k
  unfold borD at e
  split at e
  · cases ha; cases hb; cases e
    exact ⟨_, _, rfl, rfl, k F H _ (Same.refl F) G (.vi _)⟩
  · cases e
theorem od_band : OpD X U (rI0 fun i j => .int (Builtin.bitAnd i j)) bandD := by
  intro A F H σ r m x y a b d Q G ha hb e k
  unfold bandD at e
  split at e
  · cases ha; cases hb; cases e
    exact ⟨_, _, rfl, rfl, k F H _ (Same.refl F) G (.vi _)⟩
  · cases e
theorem od_bxor : OpD X U (rI0 fun i j => .int (Builtin.bitXor i j)) bxorD := by
  intro A F H σ r m x y a b d Q G ha hb e k
  unfold bxorD at e
  split at e
  · cases ha; cases hb; cases e
    exact ⟨_, _, rfl, rfl, k F H _ (Same.refl F) G (.vi _)⟩
  · cases e
theorem od_shl : OpD X U (rI CPow fun i j => .int (i * 2 ^ j.toNat)) shlD := by
  intro A F H σ r m x y a b d Q G ha hb e k
  unfold shlD at e
  split at e
  · split at e
    · rename_i hc
      cases ha; cases hb; cases e
      exact ⟨_, _, rfl, rfl, hc, k F H _ (Same.refl F) G (.vi _)⟩
    · cases e
  · cases e
theorem od_shr : OpD X U (rI (fun _ j => 0 ≤ j) fun i j => .int (i / 2 ^ j.toNat)) shrD := by
  intro A F H σ r m x y a b d Q G ha hb e k
  unfold shrD at e
  split at e
  · split at e
    · rename_i hc
      cases ha; cases hb; cases e
      exact ⟨_, _, rfl, rfl, hc, k F H _ (Same.refl F) G (.vi _)⟩
    · cases e
  · cases e
theorem qe_bor {a b : Expr} {f g : Ev} {pos : Pos} (ha : PE X a (tE X.K U f)) (hb : PE X b (tE X.K U g)) : PE X (.BinOp a .BitOr b pos) (tE X.K U (eBin borD f g)) := qe_op op_or od_bor ha hb
theorem qe_band {a b : Expr} {f g : Ev} {pos : Pos} (ha : PE X a (tE X.K U f)) (hb : PE X b (tE X.K U g)) : PE X (.BinOp a .BitAnd b pos) (tE X.K U (eBin bandD f g)) := qe_op op_and od_band ha hb
theorem qe_bxor {a b : Expr} {f g : Ev} {pos : Pos} (ha : PE X a (tE X.K U f)) (hb : PE X b (tE X.K U g)) : PE X (.BinOp a .BitXor b pos) (tE X.K U (eBin bxorD f g)) := qe_op op_xor od_bxor ha hb
theorem qe_shl {a b : Expr} {f g : Ev} {pos : Pos} (ha : PE X a (tE X.K U f)) (hb : PE X b (tE X.K U g)) : PE X (.BinOp a .LShift b pos) (tE X.K U (eBin shlD f g)) := qe_op op_shl od_shl ha hb
theorem qe_shr {a b : Expr} {f g : Ev} {pos : Pos} (ha : PE X a (tE X.K U f)) (hb : PE X b (tE X.K U g)) : PE X (.BinOp a .RShift b pos) (tE X.K U (eBin shrD f g)) := qe_op op_shr od_shr ha hb
theorem cd_ord : CallD X U (fun xs H Q => ∃ x, xs = [.str x] ∧ x.length = 1 ∧ Q (.int (x.cps.getD 0 0 : Nat)) H) ordD := by
  intro A F H σ r m vs ds d Q G ha e k
  unfold ordD at e
  split at e
  · split at e
    · rename_i hc
      cases e
      obtain ⟨v, rfl, h⟩ := rpa1 ha
      cases h
      exact ⟨_, rfl, hc, k F H _ (Same.refl F) G (.vi _)⟩
    · cases e
  · cases e
theorem cd_sum : CallD X U (rSum X.K) sumD := by
  intro A F H σ r m vs ds d Q G ha e k
  unfold sumD at e
  split at e
  · rename_i l
    cases e1 : intsOf l with
    | none => rw [e1] at e; cases e
    | some ns =>
      rw [e1] at e
      cases e
      obtain ⟨v, rfl, h⟩ := rpa1 ha
      cases h with
      | vl sa ra =>
        have q := intsOf_rp ra e1
        subst q
        exact ⟨_, ns, rfl, sqL_mono G.sub sa, k F H _ (Same.refl F) G (.vi _)⟩
  · cases e
theorem cd_minL : CallD X U (rMin X.K) minLD := by
  intro A F H σ r m vs ds d Q G ha e k
  unfold minLD at e
  split at e
  · rename_i l
    cases e1 : intsOf l with
    | none => rw [e1] at e; cases e
    | some ns =>
      rw [e1] at e
      cases ns with
      | nil => cases e
      | cons i is =>
        cases e
        obtain ⟨v, rfl, h⟩ := rpa1 ha
        cases h with
        | vl sa ra =>
          have q := intsOf_rp ra e1
          subst q
          refine ⟨_, i :: is, rfl, sqL_mono G.sub sa, Nat.succ_pos _, fun z hz hle => ?_⟩
          obtain ⟨h1, h2⟩ := fold_min is i
          have : z = is.foldl (fun a b => if b < a then b else a) i := Int.le_antisymm (hle _ h1) (h2 _ hz)
          rw [this]
          exact k F H _ (Same.refl F) G (.vi _)
  · cases e
end
/-- the scope of a comprehension that a statement stores -/
def lcSc (d : Scope) : Stmt → Scope
  | .Assign _ (.ListComp _ _ sc _) _ => sc
  | _ => d
/-! ## keywords in any order, some left out -/
theorem kbw {K : PySem.W.Frag} {x qual : Str} {params : Arguments} {body : List Stmt} {scope : Scope} {kws : List (Str × V)} {f : Addr} {fd : FuncData} {ps : List Str} (F : FunD K x qual params body scope [] kws f fd) (n : Nat) (ks : List Str) (ms : List (Str × V)) (hk : kws ≠ []) (hms : ∀ q ∈ ms, q ∈ kws)
    (g : {α : Type} → List α → List α → List α → List α) (hrel : ∀ {vs mz zs : List V} {us mv ws : List Value}, mz.length = ms.length → zs.length = ks.length → Vals vs us → Vals mz mv → Vals zs ws → Vals (g vs mz zs) (g us mv ws))
    (h : ∀ (D : Addr) (doc pm : Value) (an : Option Addr) (cdv ct : Value) (us mv ws : List Value), us.length = n → mv.length = ms.length → ws.length = ks.length → KwChain D ((ms.map (·.1)).zip mv) (bindArgs (PySem.W.fnOf x qual params body scope .none (.ref D) doc pm an cdv ct) ⟨us, ks.zip ws⟩) (ps.zip (g us mv ws))) :
    ∃ mv : List Value, Vals (ms.map (·.2)) mv ∧ (∀ (s : Shared) (us ws : List Value), K.In s.heap → us.length = n → ws.length = ks.length → BindsTo s fd ⟨us, ks.zip ws⟩ (ps.zip (g us mv ws))) := by
  obtain ⟨oc, od, dV, kV, doc, pm, an, cdv, ct, osl, rfl, lk, hcd, hD, hK⟩ := F.ex
  rcases hD with ⟨_, rfl⟩ | ⟨e, _⟩
  · rcases hK with e | ⟨D, rfl, hq⟩
    · exact absurd e hk
    · obtain ⟨mv, hl, rk, hv⟩ := kwd_vals (ms := ms) fun q hm => hq q (hms q hm)
      exact ⟨mv, rk, fun s us ws X l1 l2 => BindsTo.of_looks fun M => KwChain.looks X hv (h D doc pm an cdv ct us mv ws l1 hl l2)⟩
  · exact absurd rfl e
structure CalW (P : Program) (w : World) (K : PySem.W.Frag) (mg : Str → Option Value) (base : Heap) (x : Str) (k : Nat) (ps : List Str) (n : Nat) (ks : List Str) (ar : List PyData → List PyData) (sp : Sp) : Prop where
  ex : ∃ (f : Addr) (fd : FuncData) (g : List Value → List Value → List Value) (gV : List V → List V → List V), FnG P w K mg base k f fd ps sp ∧ mg x = some (.ref f) ∧ PySem.W.keepIn K (.ref f) = true ∧
    (∀ (s : Shared) (us ws : List Value), K.In s.heap → us.length = n → ws.length = ks.length → BindsTo s fd ⟨us, ks.zip ws⟩ (ps.zip (g us ws))) ∧ (∀ {vs : List V} {us : List Value} {zs : List V} {ws : List Value}, zs.length = ks.length → Vals vs us → Vals zs ws → Vals (gV vs zs) (g us ws)) ∧
    ∀ (F : Hp) (vs zs : List V) (ds es : List PyData), zs.length = ks.length → RpAll K F vs ds → RpAll K F zs es → RpAll K F (gV vs zs) (ds ++ ar es)
def eKwA (c k n : Nat) (ar : List PyData → List PyData) (g : List PyData → Option PyData) (f fk : Eas) : Ev := fun r m => (f r m).bind fun p => (fk r p.2).bind fun q => if p.1.length = c ∧ q.1.length = k then (arN n g (p.1 ++ ar q.1)).map fun d => (d, q.2) else none
section
variable {X : Cx} {U : Hp} {x : Str} {p pos : Pos} {e : Expr} {es : List Expr} {kws : List Keyword} {f fk : Eas} {c j k n kl : Nat} {ps ks : List Str} {ar : List PyData → List PyData}
theorem qc_callWG {g : List PyData → Option PyData} (C : CalW X.prog X.w X.K X.mg X.base x k ps c ks ar (spD X.K n g)) (hr : Room j X.A) (gd : X.A.guards = some []) (hjk : k ≤ j) (ha : PA X (e :: es) (tAs X.K U f)) (hkw : PK X kws (tAs X.K U fk)) (hg : Gl X x := by rfl)
    (hall : (backToKw pos (keywordEach kws X.env)).all (·.1.isSome) = true := by rfl) (hks : (backToKw pos (keywordEach kws X.env)).filterMap (·.1) = ks := by rfl) (hdb : (x == ("__debug__" : Str)) = false := by decide)
    (he : starEach (e :: es) X.env = (false, eval e X.env) :: starEach es X.env := by rfl) (hpl : ((backTo pos (starEach (e :: es) X.env)).any (·.1) || (backToKw pos (keywordEach kws X.env)).any (·.1.isNone)) = false := by rfl) (hkl : ks.length = kl := by rfl) :
    PE X (.Call (.Name x p) (e :: es) kws pos) (tE X.K U (eKwA c kl n ar g f fk)) := by
  subst hkl
  obtain ⟨fa, fd, gg, gV, Fn, h2, h3, hto, hrel, hrp⟩ := C.ex
  refine ⟨fun pins s σ H Q I ⟨A, F, r, m, d, m', G, e0, kk⟩ => ?_⟩
  unfold eKwA at e0
  cases e1 : f r m with
  | none => rw [e1] at e0; cases e0
  | some z1 =>
    obtain ⟨ds, m1⟩ := z1
    cases e2 : fk r m1 with
    | none => simp [e1, e2] at e0
    | some z2 =>
      obtain ⟨zs, m2⟩ := z2
      simp only [e1, e2, Option.bind_some] at e0
      split at e0
      · rename_i hc
        cases e3 : arN n g (ds ++ ar zs) with
        | none => rw [e3] at e0; cases e0
        | some d3 =>
          rw [e3] at e0
          cases e0
          obtain ⟨l2, e4⟩ := arN_some e3
          apply wpAny_Call_Name_kw (ld_glob I hg h2 ?_ hdb)
          apply PySem.W.callWith_KW (h₀ := X.base) I.ok.mod.kin h3 hall (thn (ha.run pos pins s σ H _ I ⟨A, F, r, m, ds, m1, G, e1, fun F1 H1 vs s1 G1 h1 => (show ∃ F1, Same F F1 ∧ Good X.K U A F1 H1 σ r m1 ∧ RpAll X.K F1 vs ds from ⟨F1, s1, G1, h1⟩)⟩) fun us s1 ⟨vs, H1, I1, r1, F1, sF1, G1, h1⟩ => ?_) hpl he
          apply thn (hkw.run pos pins s1 σ H1 _ I1 ⟨A, F1, r, m1, zs, m', G1, e2, fun F2 H2 ws s2 G2 h6 => (show ∃ F2, Same F1 F2 ∧ Good X.K U A F2 H2 σ r m' ∧ RpAll X.K F2 ws zs from ⟨F2, s2, G2, h6⟩)⟩)
          rintro ws s2 ⟨zv, H2, I2, rz, F2, sF2, G2, h6⟩
          refine ⟨I2.kIn, ?_⟩
          rw [hks]
          have lu : us.length = c := by rw [← r1.length, rpa_len h1]; exact hc.1
          have lz : zv.length = ks.length := (rpa_len h6).trans hc.2
          have lw : ws.length = ks.length := rz.length.symm.trans lz
          have all := hrp F2 vs zv ds zs lz (Rpam sF2 h1) h6
          have q2 : spD X.K n g (gV vs zv) H2 Q E0 := ⟨F2, ds ++ ar zs, _, G2.sub, by rw [rpa_len all]; exact l2, all, e4, fun F3 H3 v s3 s4 k4 h7 => kk F3 H3 v (sF1.trans (sF2.trans s3)) (G2.past s3 s4 k4) h7⟩
          apply wpAny_call
          refine codeAny_mono (Fn.run X.A X.stack s2 H2 ⟨us, ks.zip ws⟩ (gg us ws) (gV vs zv) Q E0 (hr.mono hjk) gd I2.env0 (hto s2 us ws I2.kIn lu lw) (hrel lz r1 rz) q2) fun res s' done => ?_
          cases res with
          | error err => exact pass0 pins σ H2 s2 err s' I2 done
          | ok flow =>
            cases flow with
            | ret u => exact I2.after done
            | next => exact done.elim
            | brk => exact done.elim
            | cont => exact done.elim
      · cases e0
end
section
variable {r : Rs} {m : Ms} {Q : PyData × Ms → Prop} {R : PyData → Prop} {fs : Eas} {i j : Int} {x : Str} {ns : List Int} {d : PyData}
theorem w_bor (q : R (.int (Builtin.bitOr i j))) : W (borD (.int i) (.int j)) R := .mk q
theorem w_band (q : R (.int (Builtin.bitAnd i j))) : W (bandD (.int i) (.int j)) R := .mk q
theorem w_bxor (q : R (.int (Builtin.bitXor i j))) : W (bxorD (.int i) (.int j)) R := .mk q
theorem w_shl (h0 : 0 ≤ j) (h1 : j ≤ 1000000) (h2 : i.natAbs < 2 ^ 64) (q : R (.int (i * 2 ^ j.toNat))) : W (shlD (.int i) (.int j)) R := W.guard ⟨h0, h1, h2⟩ (.mk q)
theorem w_shr (h0 : 0 ≤ j) (q : R (.int (i / 2 ^ j.toNat))) : W (shrD (.int i) (.int j)) R := W.guard h0 (.mk q)
theorem w_ord {c : Nat} (q : R (.int (c : Nat))) : W (ordD [.str ⟨#[c]⟩]) R := by
  unfold ordD
  exact W.guard rfl (.mk q)
theorem w_sum (q : R (.int ns.sum)) : W (sumD [.list (ns.map .int)]) R := by
  unfold sumD
  exact W.map (W.of (ints_map ns) q)
theorem w_eKwA {c k n : Nat} {ar : List PyData → List PyData} {u : List PyData → Option PyData} {fk : Eas} (q : W (fs r m) fun p => W (fk r p.2) fun z => p.1.length = c ∧ z.1.length = k ∧ W (arN n u (p.1 ++ ar z.1)) fun d => Q (d, z.2)) : W (eKwA c k n ar u fs fk r m) Q :=
  W.bind (W.mono q fun p q => W.bind (W.mono q fun z ⟨e1, e2, q⟩ => W.guard ⟨e1, e2⟩ (W.map q)))
end
end TL

end
/-! TL31 -/
section
set_option maxHeartbeats 4000000
namespace TL
open PySem L2
/-! ## texts whose signs have a property -/
def Lp (P : Nat → Prop) (n : Nat) (s : Str) : Prop := s.cps.size ≤ n ∧ ∀ c ∈ s.cps.toList, P c
section
variable {P : Nat → Prop} {n k : Nat} {s t : Str}
theorem Lp.mono (h : Lp P n s) (l : n ≤ k) : Lp P k s := ⟨Nat.le_trans h.1 l, h.2⟩
theorem Lp.app (h : Lp P n s) (h' : Lp P k t) : Lp P (n + k) (s ++ t) := by
  have e : (s ++ t).cps = s.cps ++ t.cps := rfl
  refine ⟨?_, fun c hc => ?_⟩
  · rw [e, Array.size_append]
    have := h.1
    have := h'.1
    omega
  · rw [e, Array.toList_append] at hc
    rcases List.mem_append.mp hc with q | q
    · exact h.2 c q
    · exact h'.2 c q
theorem Lp.one {c : Nat} (h : P c) : Lp P 1 ⟨#[c]⟩ := ⟨Nat.le_refl 1, fun d hd => by
  have : d = c := by simpa using hd
  rw [this]
  exact h⟩
theorem Lp.mul (h : Lp P n s) (k : Int) : Lp P (n * k.toNat) (Txt.mul s k) := by
  unfold Txt.mul
  split
  · exact ⟨Nat.zero_le _, fun c hc => by cases hc⟩
  · split
    · rename_i h1 h2
      refine ⟨?_, h.2⟩
      have : 1 ≤ k.toNat := by omega
      exact Nat.le_trans h.1 (by
        have := Nat.mul_le_mul_left n this
        rwa [Nat.mul_one] at this)
    · have e := fold_app (List.replicate k.toNat s.cps) #[]
      rw [List.map_replicate] at e
      refine ⟨?_, fun c hc => ?_⟩
      · show ((List.replicate k.toNat s.cps).foldl (· ++ ·) #[]).size ≤ _
        rw [← Array.length_toList, e, List.length_append, List.length_flatten, List.map_replicate, List.sum_replicate_nat, Array.length_toList]
        have := Nat.mul_le_mul_left k.toNat h.1
        rw [Nat.mul_comm n]
        simpa using this
      · have hc' : c ∈ ((List.replicate k.toNat s.cps).foldl (· ++ ·) #[]).toList := hc
        rw [e, List.mem_append] at hc'
        rcases hc' with q | q
        · cases q
        · obtain ⟨l, hl, hc2⟩ := List.mem_flatten.mp q
          rw [List.eq_of_mem_replicate hl] at hc2
          exact h.2 c hc2
theorem Lp.lw (h : Lp P n s) (hP : ∀ c, P c → c < 128) : Lw n s := ⟨h.1, fun c hc => hP c (h.2 c hc)⟩
end
/-- small letters -/
def isL (c : Nat) : Prop := 97 ≤ c ∧ c < 123
abbrev Lc (n : Nat) (s : Str) : Prop := Lp isL n s
theorem Lc.lw {n : Nat} {s : Str} (h : Lc n s) : Lw n s := Lp.lw h fun c hc => by have := hc.2; omega
theorem Lc.nil {n : Nat} : Lc n "" := ⟨Nat.zero_le _, fun c hc => by cases hc⟩

end TL

end
open PySem L2 TL
local macro_rules | `(tactic| walk_at "tl5") => `(tactic| first
  | with_reducible refine w_bor ?_ | with_reducible refine w_band ?_ | with_reducible refine w_ord ?_ | with_reducible refine w_eKwA ?_ | with_reducible refine w_repl ?_ | with_reducible refine And.intro trivial ?_)
local macro_rules | `(tactic| walk_at "tlex") => `(tactic| repeat (first | walk_at "tl1" | walk_at "tl3" | walk_at "tl5" | walk_at "tln" | (with_reducible walk_at "tlx") | dsimp only))
/-! TL32 -/
section
set_option maxHeartbeats 4000000
namespace TL
open PySem PySem.Spec PyProof.Rows L2 HT
/-! ## divmod -/
def divmodD : List PyData → Option PyData
  | [.int i, .int j] => if 0 < j ∧ Builtin.Int.intBits i ≤ Builtin.Int.intBits j + 4000 then some (.tuple [.int (i / j), .int (i % j)]) else none
  | _ => none
section
variable {X : Cx} {U : Hp}
theorem cd_divmod : CallD X U (fun xs H Q => ∃ i j, xs = [.int i, .int j] ∧ CDivP i j ∧ ∀ p, H p = none → Q (.ref p) (upd H p (.tup [.int (i / j), .int (i % j)]))) divmodD := by
  intro A F H σ r m vs ds d Q G ha e k
  unfold divmodD at e
  split at e
  · split at e
    · rename_i hz
      cases e
      obtain ⟨v, w, rfl, h1, h2⟩ := rpa2 ha
      cases h1
      cases h2
      refine ⟨_, _, rfl, divp_ok hz.1 hz.2, fun p np => ?_⟩
      have sF := fun (o : HO) => same_new (o := o) (G.nope np).1
      exact k _ _ _ (sF _) (G.laid np) (.vt (.inl (.inl upd_same)) (.cons (.vi _) (.cons (.vi _) .nil)))
    · cases e
  · cases e
end
/-! ## e[::-1] -/
section
variable {prog : Program} {w : World} {A : Around} {E : Value → Shared → Prop} {s : Shared}
theorem sliceApplied_rev {sl : Addr} {u : Tok} {n : Nat} {Q : Int × Int × Nat → Shared → Prop} (hs : s.heap.IsSliceOf sl .none .none (.int (-1) u))
    (h : Q ((n : Int) - 1, -1, n) s) : wpAny (model prog w) A (Builtin.Slice.sliceApplied (.ref sl) (pure (n : Int))) Q E s := by
  obtain ⟨os, hos, hcs, hds⟩ := id hs
  unfold Builtin.Slice.sliceApplied Builtin.Slice.sliceFields
  refine wpAny_bind (wpAny_bind (wpAny_field hos hds (x := .none) rfl (wpAny_bind (wpAny_field hos hds (x := .none) rfl (wpAny_bind (wpAny_field hos hds (x := .int (-1) u) rfl (wpAny_pure ?_)))))))
  refine wpAny_bind (slicePart_int ?_)
  show wpAny _ _ (if ((-1 : Int) == 0) = true then _ else _) _ _ s
  rw [if_neg (by decide)]
  refine wpAny_bind (slicePart_none (wpAny_bind (slicePart_none (wpAny_bind (wpAny_pure ?_)))))
  have e1 : Builtin.Slice.sliceAdjust none none (-1) (n : Int) = ((n : Int) - 1, -1) := by
    unfold Builtin.Slice.sliceAdjust
    simp
  show wpAny _ _ (match Builtin.Slice.sliceAdjust none none (-1) (n : Int) with | (lo, hi) => pure (lo, (-1 : Int), Builtin.Slice.slicePlaces lo hi (-1))) _ _ s
  rw [e1]
  have e2 : Builtin.Slice.slicePlaces ((n : Int) - 1) (-1) (-1) = n := by
    unfold Builtin.Slice.slicePlaces
    simp
    omega
  show wpAny _ _ (pure ((n : Int) - 1, (-1 : Int), Builtin.Slice.slicePlaces ((n : Int) - 1) (-1) (-1))) _ _ s
  rw [e2]
  exact wpAny_pure h
theorem fm_range {f : Nat → Option Value} {l : List Value} (h : ∀ m, m < l.length → f m = l[m]?) : ∀ n, n ≤ l.length → (List.range n).filterMap f = l.take n
  | 0, _ => by simp
  | n + 1, hn => by
    rw [List.range_succ, List.filterMap_append, fm_range h n (by omega), List.take_add_one]
    congr 1
    rw [List.filterMap_cons, h n (by omega)]
    cases l[n]? <;> rfl
theorem pick_rev (xs : Array Value) : ((List.range xs.size).filterMap fun (m : Nat) => xs[(((xs.size : Int) - 1) + (m : Int) * (-1)).toNat]?) = xs.toList.reverse := by
  have hl : xs.toList.reverse.length = xs.size := by rw [List.length_reverse, Array.length_toList]
  have := fm_range (f := fun (m : Nat) => xs[(((xs.size : Int) - 1) + (m : Int) * (-1)).toNat]?) (l := xs.toList.reverse) (fun m hm => by
    rw [hl] at hm
    have e1 : (((xs.size : Int) - 1) + (m : Int) * (-1)).toNat = xs.size - 1 - m := by omega
    show xs[(((xs.size : Int) - 1) + (m : Int) * (-1)).toNat]? = _
    rw [e1, List.getElem?_reverse (by rw [Array.length_toList]; exact hm), Array.length_toList, ← Array.getElem?_toList]) xs.size (Nat.le_of_eq hl.symm)
  rw [this, List.take_of_length_le (Nat.le_of_eq hl)]
theorem getItem_tuple_rev {t sl : Addr} {items : Array Value} {u : Tok} {Q : Value → Shared → Prop} (ht : IsTup s.heap t items) (hs : s.heap.IsSliceOf sl .none .none (.int (-1) u))
    (h : Q (.ref s.heap.objs.size) { s with heap := s.heap.push { cls := .type "tuple", data := .seq items.toList.reverse.toArray } })
    (hsz : items.size ≤ sizeLine) : wpAny (model prog w) A (getItem (.ref t) (.ref sl)) Q E s := by
  have htake : sizeOk (.seq items.toList.reverse.toArray) := by
    show items.toList.reverse.toArray.size ≤ sizeLine
    rw [List.size_toArray, List.length_reverse, Array.length_toList]
    exact hsz
  obtain ⟨os, hos, hcs, hds⟩ := id hs
  have hTs : s.TypeIs (.ref sl) "slice" := ⟨os, hos, hcs⟩
  unfold getItem
  try with_reducible refine wpAny_holding ?_
  first | refine wpAny_bind (wpAny_pure ?_) | skip
  refine wpAny_bind (wpAny_sequenceKey ht.typeIs (by decide) ?_)
  refine wpAny_bind (wpAny_callSpecial?_slot (name := Str.ofString "__getitem__") ht.typeIs PyProof.Rows.slot_tuple_getitem
    (wpAny_call_entry PyProof.Rows.slot_tuple_getitem ht.typeIs entry_tuple_getitem ?_ (args_tuple_getitem _ _)))
  show wpAny _ _ (Builtin.Tuple.tupleItemsOf (.ref t) >>= _) _ _ s
  refine wpAny_bind (tupleItemsOf_ ht ?_)
  refine wpAny_bind (wpAny_typeOf hTs ?_)
  rw [if_pos (by decide)]
  refine wpAny_bind (sliceApplied_rev hs ?_)
  have hno : ¬ ((((items.size : Int) - 1) == 0 && (-1 : Int) == 1 && items.size == items.size) = true) := by
    intro q
    rw [Bool.and_eq_true, Bool.and_eq_true] at q
    exact absurd q.1.2 (by decide)
  show wpAny _ _ (if (((items.size : Int) - 1) == 0 && (-1 : Int) == 1 && items.size == items.size) = true then _ else _) _ _ s
  rw [if_neg hno, pick_rev]
  first
    | exact wpAny_bind (m := Builtin.Tuple.tupleExact _) (wpAny_newObj_type (wpAny_pure ⟨_, rfl, wpAny_pure h⟩) htake)
    | exact wpAny_bind (m := Builtin.Tuple.tupleExact _) (wpAny_newObj_type (wpAny_bind (wpAny_pure (wpAny_pure ⟨_, rfl, wpAny_pure h⟩))) htake)
    | exact wpAny_bind (wpAny_bind (m := Builtin.Tuple.tupleExact _) (wpAny_newObj_type (wpAny_pure (wpAny_pure ⟨_, rfl, wpAny_pure h⟩)) htake))
    | exact wpAny_bind (wpAny_bind (m := Builtin.Tuple.tupleExact _) (wpAny_newObj_type (wpAny_pure ⟨_, rfl, wpAny_pure h⟩) htake))
end
def tRevA (K : PySem.W.Frag) (te : TE) : TE := fun σ H Q => te σ H fun x H1 => (∃ a xs, x = .ref a ∧ SqL K H1 a xs ∧ ∀ p, H1 p = none → Q (.ref p) (upd H1 p (.lst xs.reverse))) ∨
  (∃ a xs, x = .ref a ∧ SqT K H1 a xs ∧ ∀ p, H1 p = none → Q (.ref p) (upd H1 p (.tup xs.reverse)))
section
variable {X : Cx} {U : Hp}
theorem pe_revA {e : Expr} {te : TE} {k : Nat} {p1 p2 p3 pos : Pos} (he : PE X e te) : PE X (.Subscript e (.Slice none none (some (.UnaryOp .USub (.Constant (.int 1) k p1) p2)) p3) pos) (tRevA X.K te) := by
  refine ⟨fun pins s σ H Q I h => ?_⟩
  refine Subscript_ (thn (he.run pins s σ H _ I h) fun v s1 ⟨x, H1, I1, r1, q1⟩ => ?_)
  have hst : PO X (some (.UnaryOp .USub (.Constant (.int 1) k p1) p2)) (tPart (tUn (rU fun i => .int (-i)) (tC (.int 1)))) := po_some (pe_un un_neg pe_int)
  refine wpAny_Slice (thn (po_none.run pins s1 σ H1 (fun o H2 => o = none ∧ H2 = H1) I1 ⟨rfl, rfl⟩) fun vl s2 ⟨l, H2, I2, pl, el, e2⟩ => ?_)
  subst el e2
  refine thn (po_none.run pins s2 σ H2 (fun o H3 => o = none ∧ H3 = H2) I2 ⟨rfl, rfl⟩) fun vu s3 ⟨u, H3, I3, pu, eu, e3⟩ => ?_
  subst eu e3
  refine thn (hst.run pins s3 σ H3 (fun o H4 => o = some (-1) ∧ H4 = H3) I3 ⟨1, rfl, -1, rfl, rfl, rfl⟩) fun vs s4 ⟨o, H4, I4, ps, eo, e4⟩ => ?_
  subst eo e4
  have I5 : Inv X pins σ H4 { s4 with heap := s4.heap.push { cls := .type "slice", data := .fields #[vl, vu, vs] } } := I4.kept (t' := s4.toks) fun b ob q => Heap.get?_push_of_some _ q
  rcases q1 with q1 | q1
  · obtain ⟨a, xs, ex, hx, q⟩ := q1
    subst ex
    cases r1
    obtain ⟨its, r, ht, hz⟩ := I5.list hx
    have hlen := r.length
    show wpAny (model X.prog X.w) X.A (subscriptTail e (.Slice none none (some (.UnaryOp .USub (.Constant (.int 1) k p1) p2)) p3) (.ref a) (.ref s4.heap.objs.size)) (EP X pins σ Q) X.xe { s4 with heap := s4.heap.push { cls := .type "slice", data := .fields #[vl, vu, vs] } }
    refine tail_any (ops := [.ref a, .ref s4.heap.objs.size]) ht.isList.typeIs (PySem.slot_list_getitem.lookup) ?_ (by with_unfolding_all rfl)
    refine wpAny_getItem_list_slice ht.isList (Heap.IsSliceOf.new _ vl vu vs) pl pu ps (by decide) ?_ (by rw [List.size_toArray]; omega)
    rw [PySem.W.krv_pick]
    refine ⟨.ref _, _, I5.laid (t' := s4.toks) (o := .lst xs.reverse) (fun b ob q => Heap.get?_push_of_some _ q) (Nat.le_refl _) ?_, rfl, q _ (I5.hok.fresh (Nat.le_refl _))⟩
    exact ⟨by rw [List.length_reverse]; exact hz, its.reverse, 0, r.reverse, Heap.get?_push_size _ rfl⟩
  · obtain ⟨a, xs, ex, hx, q⟩ := q1
    subst ex
    cases r1
    obtain ⟨its, r, ht, hz⟩ := I5.tuple hx
    have hlen := r.length
    cases pl
    cases pu
    cases ps with
    | int _ tk =>
    show wpAny (model X.prog X.w) X.A (subscriptTail e (.Slice none none (some (.UnaryOp .USub (.Constant (.int 1) k p1) p2)) p3) (.ref a) (.ref s4.heap.objs.size)) (EP X pins σ Q) X.xe { s4 with heap := s4.heap.push { cls := .type "slice", data := .fields #[.none, .none, .int (-1) tk] } }
    refine tail_any (ops := [.ref a, .ref s4.heap.objs.size]) ht.typeIs (PyProof.Rows.slot_tuple_getitem.lookup) ?_ (by with_unfolding_all rfl)
    refine getItem_tuple_rev ht (Heap.IsSliceOf.new _ .none .none (.int (-1) tk)) ?_ (by rw [List.size_toArray]; omega)
    refine ⟨.ref _, _, I5.laid (t' := s4.toks) (o := .tup xs.reverse) (fun b ob q => Heap.get?_push_of_some _ q) (Nat.le_refl _) ?_, rfl, q _ (I5.hok.fresh (Nat.le_refl _))⟩
    exact ⟨by rw [List.length_reverse]; exact hz, its.reverse, r.reverse, IsTup.new _ _⟩
theorem rpa_rev {K : PySem.W.Frag} {F : Hp} : ∀ {vs : List V} {ds : List PyData}, RpAll K F vs ds → RpAll K F vs.reverse ds.reverse
  | _, _, .nil => .nil
  | _, _, .cons h t => by
    rw [List.reverse_cons, List.reverse_cons]
    exact rpa_app (rpa_rev t) (.cons h .nil)
def revD : PyData → Option PyData
  | .list ds => some (.list ds.reverse)
  | .tuple ds => some (.tuple ds.reverse)
  | _ => none
theorem qe_rev {e : Expr} {f : Ev} {k : Nat} {p1 p2 p3 pos : Pos} (he : PE X e (tE X.K U f)) : PE X (.Subscript e (.Slice none none (some (.UnaryOp .USub (.Constant (.int 1) k p1) p2)) p3) pos) (tE X.K U (eMap f revD)) := pe_weak (pe_revA he) fun σ H Q ⟨A, F, r, m, d, m', G, e, k⟩ => by
  obtain ⟨d1, e1, e2⟩ := map_some e
  refine ⟨A, F, r, m, d1, m', G, e1, fun F1 H1 x s1 G1 h1 => ?_⟩
  unfold revD at e2
  split at e2
  · cases e2
    cases h1 with
    | vl sa ra =>
      refine .inl ⟨_, _, rfl, sqL_mono G1.sub sa, fun p np => ?_⟩
      have sF := fun (o : HO) => same_new (o := o) (G1.nope np).1
      exact k _ _ _ (s1.trans (sF _)) (G1.laid np) (.vl (.inl (.inl upd_same)) (Rpam (sF _) (rpa_rev ra)))
  · cases e2
    cases h1 with
    | vt sa ra =>
      refine .inr ⟨_, _, rfl, seqT_mono G1.sub sa, fun p np => ?_⟩
      have sF := fun (o : HO) => same_new (o := o) (G1.nope np).1
      exact k _ _ _ (s1.trans (sF _)) (G1.laid np) (.vt (.inl (.inl upd_same)) (Rpam (sF _) (rpa_rev ra)))
  · cases e2
/-! ## sep.join(texts) -/
def strsOf : List PyData → Option (List Str)
  | [] => some []
  | .str s :: ds => (strsOf ds).map fun r => s :: r
  | _ :: _ => none
theorem strs_map : ∀ ss : List Str, strsOf (ss.map .str) = some ss
  | [] => rfl
  | s :: ss => by
    show (strsOf (ss.map .str)).map _ = _
    rw [strs_map ss]
    rfl
theorem strs_some : ∀ {ds : List PyData} {ss : List Str}, strsOf ds = some ss → ds = ss.map .str
  | [], _, e => by cases e; rfl
  | d :: ds, ss, e => by
    cases d with
    | str s =>
      have e : (strsOf ds).map (fun r => s :: r) = some ss := e
      cases e1 : strsOf ds with
      | none => rw [e1] at e; cases e
      | some r =>
        rw [e1] at e
        cases e
        rw [strs_some e1]
        rfl
    | _ => cases e
theorem rpa_strs_inv {K : PySem.W.Frag} {F : Hp} : ∀ {vs : List V} {ss : List Str}, RpAll K F vs (ss.map .str) → vs = ss.map V.str
  | _, [], h => by cases h; rfl
  | _, s :: ss, h => by
    cases h with
    | cons h1 h2 =>
      cases h1
      rw [rpa_strs_inv h2]
      rfl
def joinD (a : Str) : List PyData → Option PyData
  | [.list ds] => (strsOf ds).bind fun ys => if (ys.map (·.length)).sum + ys.length * a.length ≤ 16777216 then some (.str (Txt.join a ys)) else none
  | [.tuple ds] => (strsOf ds).bind fun ys => if (ys.map (·.length)).sum + ys.length * a.length ≤ 16777216 then some (.str (Txt.join a ys)) else none
  | _ => none
theorem md_join : MtD X U (fun x xs H Q => ∃ a p, ∃ ys : List Str, x = .str a ∧ xs = [.ref p] ∧ (SqL X.K H p (ys.map V.str) ∨ SqT X.K H p (ys.map V.str)) ∧
    (ys.map (·.length)).sum + ys.length * a.length ≤ 16777216 ∧ Q (.str (Txt.join a ys)) H) joinD := by
  intro A F H σ r m z xs ds d Q G ha e k
  unfold joinD at e
  split at e
  · rename_i ds
    obtain ⟨v, rfl, h⟩ := rpa1 ha
    cases h with
    | vl sa ra =>
      cases e1 : strsOf ds with
      | none => rw [e1] at e; cases e
      | some ys =>
        rw [e1] at e
        simp only [Option.bind_some] at e
        split at e
        · rename_i hz
          cases e
          rw [strs_some e1] at ra
          rw [rpa_strs_inv ra] at sa
          exact ⟨z, _, ys, rfl, rfl, .inl (sqL_mono G.sub sa), hz, k F H _ (Same.refl F) G (.vs _)⟩
        · cases e
  · rename_i ds
    obtain ⟨v, rfl, h⟩ := rpa1 ha
    cases h with
    | vt sa ra =>
      cases e1 : strsOf ds with
      | none => rw [e1] at e; cases e
      | some ys =>
        rw [e1] at e
        simp only [Option.bind_some] at e
        split at e
        · rename_i hz
          cases e
          rw [strs_some e1] at ra
          rw [rpa_strs_inv ra] at sa
          exact ⟨z, _, ys, rfl, rfl, .inr (seqT_mono G.sub sa), hz, k F H _ (Same.refl F) G (.vs _)⟩
        · cases e
  · cases e
end
/-! ## reckoned -/
section
variable {R : PyData → Prop} {ds : List PyData} {i j : Int}
theorem w_divmod (h0 : 0 < j) (h1 : Builtin.Int.intBits i ≤ 4000) (q : R (.tuple [.int (i / j), .int (i % j)])) : W (divmodD [.int i, .int j]) R := W.guard ⟨h0, by omega⟩ (.mk q)
theorem w_rev_l (q : R (.list ds.reverse)) : W (revD (.list ds)) R := .mk q
theorem w_rev_t (q : R (.tuple ds.reverse)) : W (revD (.tuple ds)) R := .mk q
theorem w_join {a : Str} {ys : List Str} (h : (ys.map (·.length)).sum + ys.length * a.length ≤ 16777216) (q : R (.str (Txt.join a ys))) : W (joinD a [.list (ys.map .str)]) R := by
  show W ((strsOf (ys.map .str)).bind _) R
  rw [strs_map]
  exact W.guard h (.mk q)
end
end TL

end
/-! TL33 -/
section
set_option maxHeartbeats 4000000
namespace TL
open PySem PySem.Spec PyProof.Rows L2
/-! ## repr of any data that is no dict -/
def reprX : List PyData → Option PyData
  | [.none] => some (.str (PyData.shown .none))
  | [.bool b] => some (.str (PyData.shown (.bool b)))
  | [.str x] => if (reprText x).length ≤ sizeLine then some (.str (PyData.shown (.str x))) else none
  | ds => reprD ds
section
variable {X : Cx} {U : Hp}
abbrev rReprX (K : PySem.W.Frag) : List V → Hp → VK → Prop := fun xs H Q => rReprD K xs H Q ∨ ((xs = [.non] ∧ Q (.str (PyData.shown .none)) H) ∨ ((∃ b, xs = [.bl b] ∧ Q (.str (PyData.shown (.bool b))) H) ∨ ∃ x, xs = [.str x] ∧ (reprText x).length ≤ sizeLine ∧ Q (.str (PyData.shown (.str x))) H))
theorem call_reprX (g : X.A.guards = some []) (hu : X.A.units + 66 < cLine) : CallR X (.builtin "repr") (rReprX X.K) := by
  intro pins s σ H xs us Q I r h
  rcases h with h | ⟨rfl, q⟩ | ⟨b, rfl, q⟩ | ⟨x, rfl, hz, q⟩
  · exact call_reprD g hu pins s σ H xs us Q I r h
  · obtain ⟨u, rfl, rx⟩ := vals1 r
    cases rx
    exact PySem.P.repr_of_none ⟨.str _, H, I.tok _, ⟨_, rfl⟩, q⟩
  · obtain ⟨u, rfl, rx⟩ := vals1 r
    cases rx
    refine PySem.P.repr_of_bool ⟨.str _, H, I.tok _, ⟨_, rfl⟩, ?_⟩
    cases b <;> exact q
  · obtain ⟨u, rfl, t, rfl⟩ := vals1 r
    refine PySem.P.repr_of_str ⟨.str _, H, I.tok _, ⟨_, rfl⟩, ?_⟩ hz
    have e : PyData.shown (.str x) = reprText x := by simp only [PyData.shown]
    rw [e] at q
    exact q
theorem cd_reprX : CallD X U (rReprX X.K) reprX := by
  intro A F H σ r m vs ds d Q G ha e k
  unfold reprX at e
  split at e
  · cases e
    obtain ⟨v, rfl, h⟩ := rpa1 ha
    cases h
    exact .inr (.inl ⟨rfl, k F H _ (Same.refl F) G (.vs _)⟩)
  · cases e
    obtain ⟨v, rfl, h⟩ := rpa1 ha
    cases h
    exact .inr (.inr (.inl ⟨_, rfl, k F H _ (Same.refl F) G (.vs _)⟩))
  · split at e
    · rename_i hz
      cases e
      obtain ⟨v, rfl, h⟩ := rpa1 ha
      cases h
      exact .inr (.inr (.inr ⟨_, rfl, hz, k F H _ (Same.refl F) G (.vs _)⟩))
    · cases e
  · exact .inl (cd_repr A F H σ r m vs ds d Q G ha e k)
end
/-! ## what is shown tells the data -/
/-- plain signs: no quotes, no backslash -/
def isP (c : Nat) : Prop := 32 ≤ c ∧ c < 127 ∧ c ≠ 39 ∧ c ≠ 92
instance {c : Nat} : Decidable (isP c) := inferInstanceAs (Decidable (_ ∧ _))
mutual
inductive Pl : PyData → Prop
  | non : Pl .none
  | bool (b : Bool) : Pl (.bool b)
  | int (i : Int) : Pl (.int i)
  | str {x : Str} (h : ∀ c ∈ x.cps.toList, isP c) : Pl (.str x)
  | lst {ds : List PyData} (h : PlAll ds) : Pl (.list ds)
  | tup {ds : List PyData} (h : PlAll ds) : Pl (.tuple ds)
inductive PlAll : List PyData → Prop
  | nil : PlAll []
  | cons {d : PyData} {ds : List PyData} (h : Pl d) (t : PlAll ds) : PlAll (d :: ds)
end
theorem PlAll.of : ∀ {ds : List PyData}, (∀ d ∈ ds, Pl d) → PlAll ds
  | [], _ => .nil
  | d :: ds, h => .cons (h d List.mem_cons_self) (PlAll.of fun x hx => h x (List.mem_cons_of_mem _ hx))
theorem PlAll.mem : ∀ {ds : List PyData}, PlAll ds → ∀ d ∈ ds, Pl d
  | _, .cons h t, d, hd => by
    rcases List.mem_cons.mp hd with q | q
    · rw [q]; exact h
    · exact PlAll.mem t d q
def sI (i : Int) : List Nat := (Str.ofString (toString i)).cps.toList
mutual
def sh : PyData → List Nat
  | .none => [78, 111, 110, 101]
  | .bool b => if b then [84, 114, 117, 101] else [70, 97, 108, 115, 101]
  | .int i => sI i
  | .str x => 39 :: (x.cps.toList ++ [39])
  | .list [] => [91, 93]
  | .list (d :: ds) => 91 :: (sh d ++ shR 93 ds)
  | .tuple [] => [40, 41]
  | .tuple [d] => 40 :: (sh d ++ [44, 41])
  | .tuple (d :: e :: ds) => 40 :: (sh d ++ shR 41 (e :: ds))
  | .dict _ => []
def shR (c : Nat) : List PyData → List Nat
  | [] => [c]
  | d :: ds => 44 :: 32 :: (sh d ++ shR c ds)
end
theorem app_cps (s t : Str) : (s ++ t).cps.toList = s.cps.toList ++ t.cps.toList := by
  show (s.cps ++ t.cps).toList = _
  exact Array.toList_append
theorem reprChar_plain {q c : Nat} (h : isP c) (hq : q = 39) : PySem.Builtin.Str.reprChar q c = [c] := by
  subst hq
  have : ∀ c : Nat, c < 127 → 32 ≤ c → c ≠ 39 → c ≠ 92 → PySem.Builtin.Str.reprChar 39 c = [c] := by decide +kernel
  exact this c h.2.1 h.1 h.2.2.1 h.2.2.2
theorem reprText_plain {x : Str} (h : ∀ c ∈ x.cps.toList, isP c) : (reprText x).cps.toList = 39 :: (x.cps.toList ++ [39]) := by
  have hq : reprQuote x = 39 := by
    unfold reprQuote
    have : ¬ (39 ∈ x.cps) := fun hc => absurd rfl (h 39 (Array.mem_toList_iff.mpr hc)).2.2.1
    simp [this]
  unfold reprText
  rw [hq]
  have : ∀ (l : List Nat) (acc : Array Nat), (∀ c ∈ l, isP c) → (l.foldl (fun out c => out ++ (PySem.Builtin.Str.reprChar 39 c).toArray) acc).toList = acc.toList ++ l := by
    intro l
    induction l with
    | nil => intro acc _; simp
    | cons c l ih =>
      intro acc hl
      rw [List.foldl_cons, reprChar_plain (hl c List.mem_cons_self) rfl, ih _ fun d hd => hl d (List.mem_cons_of_mem _ hd)]
      simp
  have e := this x.cps.toList #[39] h
  rw [← Array.foldl_toList]
  simp only [Array.toList_push]
  rw [e]
  simp
theorem text_from : ∀ (ts : List Str) (k : Nat) (acc : Str), 0 < k → (textFrom k acc ts).cps.toList = acc.cps.toList ++ (ts.map fun t => 44 :: 32 :: t.cps.toList).flatten
  | [], _, _, _ => by simp [textFrom]
  | t :: ts, k, acc, h => by
    unfold textFrom
    rw [text_from ts (k + 1) _ (Nat.succ_pos k), app_cps, app_cps, if_pos h]
    have e : (((", " : String) : Str)).cps.toList = [44, 32] := by decide +kernel
    rw [e]
    simp
theorem join_cps : ∀ (t : Str) (ts : List Str), (Str.join ", " (t :: ts)).cps.toList = t.cps.toList ++ (ts.map fun t => 44 :: 32 :: t.cps.toList).flatten
  | t, [] => by simp [Str.join]
  | t, u :: ts => by
    have e0 : Str.join ", " (t :: u :: ts) = t ++ ", " ++ Str.join ", " (u :: ts) := rfl
    rw [e0, app_cps, app_cps, join_cps u ts]
    have e : (((", " : String) : Str)).cps.toList = [44, 32] := by decide +kernel
    rw [e]
    simp
theorem shR_eq (c : Nat) : ∀ ds : List PyData, shR c ds = (ds.map fun d => 44 :: 32 :: sh d).flatten ++ [c]
  | [] => by simp [shR]
  | d :: ds => by
    rw [shR, shR_eq c ds]
    simp
mutual
theorem shown_sh : ∀ {d : PyData}, Pl d → d.shown.cps.toList = sh d
  | _, .non => by simp only [PyData.shown, sh]; decide +kernel
  | _, .bool b => by cases b <;> simp only [PyData.shown, sh] <;> decide +kernel
  | _, .int i => by simp only [PyData.shown, sh]; rfl
  | _, .str h => by simp only [PyData.shown, sh]; exact reprText_plain h
  | .list [], .lst _ => by simp only [PyData.shown, sh, PyData.shownAll]; decide +kernel
  | .list (d :: ds), .lst (.cons h t) => by
    have e1 := shown_sh h
    have e2 := shown_shAll t
    simp only [PyData.shown, PyData.shownAll, sh]
    unfold listText
    rw [app_cps]
    show (textFrom 1 (("[" : Str) ++ (if (0 : Nat) > 0 then ", " else "" : String) ++ d.shown) (PyData.shownAll ds)).cps.toList ++ _ = _
    rw [text_from _ 1 _ (by decide), app_cps, app_cps, e1, e2, shR_eq]
    have e3 : (((("[" : String) : Str)).cps.toList) = [91] := by decide +kernel
    have e4 : ((((if (0 : Nat) > 0 then ", " else "" : String) : Str)).cps.toList) = [] := by decide +kernel
    have e5 : (((("]" : String) : Str)).cps.toList) = [93] := by decide +kernel
    rw [e3, e4, e5]
    simp
  | .tuple [], .tup _ => by simp only [PyData.shown, sh, PyData.shownAll]; decide +kernel
  | .tuple [d], .tup (.cons h _) => by
    have e1 := shown_sh h
    simp only [PyData.shown, PyData.shownAll, sh]
    unfold tupleText
    rw [app_cps, app_cps, join_cps, e1]
    have e3 : (((("(" : String) : Str)).cps.toList) = [40] := by decide +kernel
    have e5 : ((((if ([d.shown].length == 1) = true then ",)" else ")" : String) : Str)).cps.toList) = [44, 41] := by
      have : ([d.shown].length == 1) = true := rfl
      rw [if_pos this]
      decide +kernel
    rw [e3, e5]
    simp
  | .tuple (d :: e :: ds), .tup (.cons h (.cons h' t)) => by
    have e1 := shown_sh h
    have e2 := shown_shAll (ds := e :: ds) (.cons h' t)
    simp only [PyData.shown, sh]
    have e0 : PyData.shownAll (d :: e :: ds) = d.shown :: PyData.shownAll (e :: ds) := rfl
    rw [e0]
    unfold tupleText
    rw [app_cps, app_cps, join_cps, e1, e2, shR_eq]
    have e3 : (((("(" : String) : Str)).cps.toList) = [40] := by decide +kernel
    have e5 : ((((if ((d.shown :: PyData.shownAll (e :: ds)).length == 1) = true then ",)" else ")" : String) : Str)).cps.toList) = [41] := by
      have : ((d.shown :: PyData.shownAll (e :: ds)).length == 1) = false := by simp [PyData.shownAll]
      rw [this]
      decide +kernel
    rw [e3, e5]
    simp
theorem shown_shAll : ∀ {ds : List PyData}, PlAll ds → ((PyData.shownAll ds).map fun t => 44 :: 32 :: t.cps.toList) = ds.map fun d => 44 :: 32 :: sh d
  | _, .nil => rfl
  | _, .cons h t => by
    have e1 := shown_sh h
    have e2 := shown_shAll t
    simp only [PyData.shownAll, List.map_cons, e1, e2]
end
/-! ### numbers -/
theorem nat_signs (m : Nat) : sI (m : Int) = (Nat.toDigits 10 m).map Char.toNat := PySem.W.KIN.signs_num m
theorem neg_signs (m : Nat) : sI (Int.negSucc m) = 45 :: (Nat.toDigits 10 (m + 1)).map Char.toNat := by
  unfold sI
  have e : toString (Int.negSucc m) = "-" ++ toString (m + 1) := rfl
  rw [e, Str.ofString_eq_toList]
  have e2 : (toString (m + 1)).toList = Nat.toDigits 10 (m + 1) := by
    show (Nat.repr (m + 1)).toList = _
    rw [Nat.toList_repr]
  simp only [String.toList_append, e2, List.map_append]
  rfl
def dg (c : Nat) : Bool := decide (48 ≤ c ∧ c < 58)
theorem digs_dg (m : Nat) : ∀ c ∈ (Nat.toDigits 10 m).map Char.toNat, dg c = true := by
  intro c hc
  obtain ⟨ch, hch, rfl⟩ := List.mem_map.mp hc
  have r := Nat.isDigit_of_mem_toDigits (by decide) (by decide) hch
  unfold dg
  simp only [Char.isDigit, Bool.and_eq_true, decide_eq_true_eq] at r
  have h1 : ch.toNat = ch.val.toNat := rfl
  have h2 := r.1
  have h3 := r.2
  rw [h1]
  simp only [decide_eq_true_eq]
  have a1 : (48 : UInt32).toNat ≤ ch.val.toNat := h2
  have a2 : ch.val.toNat ≤ (57 : UInt32).toNat := h3
  have b1 : (48 : UInt32).toNat = 48 := rfl
  have b2 : (57 : UInt32).toNat = 57 := rfl
  omega
theorem digs_pos (m : Nat) : ∃ c l, (Nat.toDigits 10 m).map Char.toNat = c :: l := by
  have h := tDigits_len_ge 10 m
  cases e : (Nat.toDigits 10 m) with
  | nil => rw [e] at h; exact absurd h (by decide)
  | cons a l => exact ⟨a.toNat, l.map Char.toNat, rfl⟩
theorem digs_inj {m n : Nat} (h : (Nat.toDigits 10 m).map Char.toNat = (Nat.toDigits 10 n).map Char.toNat) : m = n := by
  rw [← PySem.W.KIN.val_back m, ← PySem.W.KIN.val_back n, h]
/-- ahead of what a piece of a text may end -/
def Stp (s : List Nat) : Prop := s = [] ∨ ∃ c r, s = c :: r ∧ (c = 44 ∨ c = 93 ∨ c = 41)
theorem split_by {p : Nat → Bool} {a b s t : List Nat} (ha : ∀ c ∈ a, p c = true) (hb : ∀ c ∈ b, p c = true) (hs : ∀ c r, s = c :: r → p c = false) (ht : ∀ c r, t = c :: r → p c = false) (e : a ++ s = b ++ t) : a = b ∧ s = t := by
  induction a generalizing b with
  | nil =>
    cases b with
    | nil => exact ⟨rfl, e⟩
    | cons c b =>
      have := hs c (b ++ t) e
      rw [hb c List.mem_cons_self] at this
      cases this
  | cons c a ih =>
    cases b with
    | nil =>
      have := ht c (a ++ s) e.symm
      rw [ha c List.mem_cons_self] at this
      cases this
    | cons d b =>
      rw [List.cons_append, List.cons_append] at e
      injection e with e1 e2
      obtain ⟨h1, h2⟩ := ih (fun x hx => ha x (List.mem_cons_of_mem _ hx)) (fun x hx => hb x (List.mem_cons_of_mem _ hx)) e2
      exact ⟨by rw [e1, h1], h2⟩
theorem stp_dg {s : List Nat} (h : Stp s) : ∀ c r, s = c :: r → dg c = false := by
  intro c r e
  rcases h with q | ⟨d, l, q, h⟩
  · rw [q] at e; cases e
  · rw [q] at e
    injection e with e1 e2
    subst e1
    rcases h with q | q | q <;> rw [q] <;> rfl
theorem sI_inj {i j : Int} {s t : List Nat} (hs : Stp s) (ht : Stp t) (e : sI i ++ s = sI j ++ t) : i = j ∧ s = t := by
  have no : ∀ (m n : Nat) (s t : List Nat), (Nat.toDigits 10 m).map Char.toNat ++ s ≠ 45 :: ((Nat.toDigits 10 n).map Char.toNat ++ t) := by
    intro m n s t e
    obtain ⟨c, l, h⟩ := digs_pos m
    have hd := digs_dg m c (by rw [h]; exact List.mem_cons_self)
    rw [h, List.cons_append] at e
    injection e with e1 _
    subst e1
    cases hd
  cases i with
  | ofNat m =>
    cases j with
    | ofNat n =>
      rw [show Int.ofNat m = (m : Int) from rfl, show Int.ofNat n = (n : Int) from rfl, nat_signs, nat_signs] at e
      obtain ⟨h1, h2⟩ := split_by (digs_dg m) (digs_dg n) (stp_dg hs) (stp_dg ht) e
      exact ⟨by rw [digs_inj h1], h2⟩
    | negSucc n =>
      rw [show Int.ofNat m = (m : Int) from rfl, nat_signs, neg_signs, List.cons_append] at e
      exact absurd e (no _ _ _ _)
  | negSucc m =>
    cases j with
    | ofNat n =>
      rw [show Int.ofNat n = (n : Int) from rfl, nat_signs, neg_signs, List.cons_append] at e
      exact absurd e.symm (no _ _ _ _)
    | negSucc n =>
      rw [neg_signs, neg_signs, List.cons_append, List.cons_append] at e
      injection e with _ e
      obtain ⟨h1, h2⟩ := split_by (digs_dg _) (digs_dg _) (stp_dg hs) (stp_dg ht) e
      have := digs_inj h1
      exact ⟨by congr 1; omega, h2⟩
/-- the first sign of what is shown, by kinds -/
def kd : PyData → Nat
  | .none => 0
  | .bool _ => 1
  | .int _ => 2
  | .str _ => 3
  | .list _ => 4
  | .tuple _ => 5
  | .dict _ => 6
def kc (c : Nat) : Nat := if c = 78 then 0 else if c = 84 ∨ c = 70 then 1 else if c = 39 then 3 else if c = 91 then 4 else if c = 40 then 5 else if c = 45 ∨ (48 ≤ c ∧ c < 58) then 2 else 7
theorem sh_head {d : PyData} (h : Pl d) : ∃ c l, sh d = c :: l ∧ kc c = kd d := by
  cases h with
  | non => exact ⟨_, _, rfl, rfl⟩
  | bool b => cases b <;> exact ⟨_, _, rfl, rfl⟩
  | int i =>
    simp only [sh]
    cases i with
    | ofNat m =>
      obtain ⟨c, l, e⟩ := digs_pos m
      have hd := digs_dg m c (by rw [e]; exact List.mem_cons_self)
      refine ⟨c, l, by rw [show Int.ofNat m = (m : Int) from rfl, nat_signs, e], ?_⟩
      unfold dg at hd
      have hd := of_decide_eq_true hd
      unfold kc kd
      rw [if_neg (by omega), if_neg (by omega), if_neg (by omega), if_neg (by omega), if_neg (by omega), if_pos (by omega)]
    | negSucc m => exact ⟨45, _, by rw [neg_signs], rfl⟩
  | str h => exact ⟨_, _, by rw [sh], rfl⟩
  | lst h =>
    rename_i ds
    cases ds with
    | nil => exact ⟨_, _, by rw [sh], rfl⟩
    | cons d ds => exact ⟨_, _, by rw [sh], rfl⟩
  | tup h =>
    rename_i ds
    match ds with
    | [] => exact ⟨_, _, by rw [sh], rfl⟩
    | [d] => exact ⟨_, _, by rw [sh], rfl⟩
    | d :: e :: ds => exact ⟨_, _, by rw [sh], rfl⟩
theorem same_kd {d e : PyData} {s t : List Nat} (hd : Pl d) (he : Pl e) (q : sh d ++ s = sh e ++ t) : kd d = kd e := by
  obtain ⟨c, l, e1, e2⟩ := sh_head hd
  obtain ⟨c', l', e3, e4⟩ := sh_head he
  rw [e1, e3, List.cons_append, List.cons_append] at q
  injection q with q1 _
  rw [← e2, ← e4, q1]
theorem no_head {d : PyData} {s : List Nat} {c : Nat} {t : List Nat} (hd : Pl d) (hc : kc c = 7) : sh d ++ s ≠ c :: t := by
  obtain ⟨c', l, e1, e2⟩ := sh_head hd
  intro q
  rw [e1, List.cons_append] at q
  injection q with q1 _
  rw [q1] at e2
  rw [hc] at e2
  cases d <;> cases e2
theorem stp_c {c : Nat} {r : List Nat} (h : c = 44 ∨ c = 93 ∨ c = 41) : Stp (c :: r) := .inr ⟨c, r, rfl, h⟩
theorem stp_R {c : Nat} (h : c = 93 ∨ c = 41) (ds : List PyData) (s : List Nat) : Stp (shR c ds ++ s) := by
  cases ds with
  | nil => exact .inr ⟨c, s, by simp [shR], .inr h⟩
  | cons d ds => exact .inr ⟨44, 32 :: (sh d ++ shR c ds) ++ s, by simp [shR], .inl rfl⟩
mutual
theorem sh_inj : ∀ {d e : PyData} {s t : List Nat}, Pl d → Pl e → Stp s → Stp t → sh d ++ s = sh e ++ t → d = e ∧ s = t
  | .none, e, s, t, hd, he, hs, ht, q => by
    have k := same_kd hd he q
    cases he <;> first | (simp only [kd] at k; omega) | (exact ⟨rfl, List.append_cancel_left q⟩)
  | .bool b, e, s, t, hd, he, hs, ht, q => by
    have k := same_kd hd he q
    cases he <;> first | (simp only [kd] at k; omega) | skip
    rename_i b'
    cases b <;> cases b' <;> simp [sh] at q <;> exact ⟨rfl, q⟩
  | .int i, e, s, t, hd, he, hs, ht, q => by
    have k := same_kd hd he q
    cases he <;> first | (simp only [kd] at k; omega) | skip
    simp only [sh] at q
    obtain ⟨h1, h2⟩ := sI_inj hs ht q
    exact ⟨by rw [h1], h2⟩
  | .str x, e, s, t, hd, he, hs, ht, q => by
    have k := same_kd hd he q
    cases hd with
    | str hx =>
    cases he <;> first | (simp only [kd] at k; omega) | skip
    rename_i y hy
    simp only [sh, List.cons_append, List.append_assoc, List.nil_append] at q
    injection q with _ q
    obtain ⟨h1, h2⟩ := split_by (p := fun c => decide (c ≠ 39)) (fun c hc => decide_eq_true (hx c hc).2.2.1) (fun c hc => decide_eq_true (hy c hc).2.2.1) (fun c r e => by injection e with e1 _; subst e1; rfl) (fun c r e => by injection e with e1 _; subst e1; rfl) q
    injection h2 with _ h2
    refine ⟨?_, h2⟩
    obtain ⟨x⟩ := x
    obtain ⟨y⟩ := y
    have : x = y := Array.ext' h1
    rw [this]
  | .list ds, e, s, t, hd, he, hs, ht, q => by
    have k := same_kd hd he q
    cases hd with
    | lst hds =>
    cases he <;> first | (simp only [kd] at k; omega) | skip
    rename_i es hes
    cases ds with
    | nil =>
      cases es with
      | nil => simp [sh] at q; exact ⟨rfl, q⟩
      | cons e es =>
        cases hes with
        | cons h' t' =>
        simp only [sh, List.cons_append, List.append_assoc, List.nil_append] at q
        injection q with _ q
        exact absurd q.symm (no_head h' (by decide))
    | cons d ds =>
      cases hds with
      | cons h0 t0 =>
      cases es with
      | nil =>
        simp only [sh, List.cons_append, List.append_assoc, List.nil_append] at q
        injection q with _ q
        exact absurd q (no_head h0 (by decide))
      | cons e es =>
        cases hes with
        | cons h' t' =>
        simp only [sh, List.cons_append, List.append_assoc] at q
        injection q with _ q
        obtain ⟨h1, h2⟩ := sh_inj h0 h' (stp_R (.inl rfl) _ _) (stp_R (.inl rfl) _ _) q
        obtain ⟨h3, h4⟩ := shR_inj (c := 93) (.inl rfl) t0 t' hs ht h2
        exact ⟨by rw [h1, h3], h4⟩
  | .tuple ds, e, s, t, hd, he, hs, ht, q => by
    have k := same_kd hd he q
    cases hd with
    | tup hds =>
    cases he <;> first | (simp only [kd] at k; omega) | skip
    rename_i es hes
    match ds, es, hds, hes with
    | [], [], _, _ => simp [sh] at q; exact ⟨rfl, q⟩
    | [], [e], _, .cons h' _ =>
      simp only [sh, List.cons_append, List.append_assoc, List.nil_append] at q
      injection q with _ q
      exact absurd q.symm (no_head h' (by decide))
    | [], e :: e2 :: es, _, .cons h' _ =>
      simp only [sh, List.cons_append, List.append_assoc, List.nil_append] at q
      injection q with _ q
      exact absurd q.symm (no_head h' (by decide))
    | [d], [], .cons h0 _, _ =>
      simp only [sh, List.cons_append, List.append_assoc, List.nil_append] at q
      injection q with _ q
      exact absurd q (no_head h0 (by decide))
    | d :: d2 :: ds, [], .cons h0 _, _ =>
      simp only [sh, List.cons_append, List.append_assoc, List.nil_append] at q
      injection q with _ q
      exact absurd q (no_head h0 (by decide))
    | [d], [e], .cons h0 _, .cons h' _ =>
      simp only [sh, List.cons_append, List.append_assoc, List.nil_append] at q
      injection q with _ q
      obtain ⟨h1, h2⟩ := sh_inj h0 h' (stp_c (.inl rfl)) (stp_c (.inl rfl)) q
      injection h2 with _ h2
      injection h2 with _ h2
      exact ⟨by rw [h1], h2⟩
    | [d], e :: e2 :: es, .cons h0 _, .cons h' t' =>
      simp only [sh, List.cons_append, List.append_assoc, List.nil_append] at q
      injection q with _ q
      obtain ⟨h1, h2⟩ := sh_inj h0 h' (stp_c (.inl rfl)) (stp_R (.inr rfl) _ _) q
      simp [shR] at h2
    | d :: d2 :: ds, [e], .cons h0 t0, .cons h' _ =>
      simp only [sh, List.cons_append, List.append_assoc, List.nil_append] at q
      injection q with _ q
      obtain ⟨h1, h2⟩ := sh_inj h0 h' (stp_R (.inr rfl) _ _) (stp_c (.inl rfl)) q
      simp [shR] at h2
    | d :: d2 :: ds, e :: e2 :: es, .cons h0 t0, .cons h' t' =>
      simp only [sh, List.cons_append, List.append_assoc] at q
      injection q with _ q
      obtain ⟨h1, h2⟩ := sh_inj h0 h' (stp_R (.inr rfl) _ _) (stp_R (.inr rfl) _ _) q
      obtain ⟨h3, h4⟩ := shR_inj (c := 41) (.inr rfl) t0 t' hs ht h2
      exact ⟨by rw [h1, h3], h4⟩
  | .dict ps, e, s, t, hd, he, hs, ht, q => by cases hd
theorem shR_inj : ∀ {c : Nat} {ds es : List PyData} {s t : List Nat}, (c = 93 ∨ c = 41) → PlAll ds → PlAll es → Stp s → Stp t → shR c ds ++ s = shR c es ++ t → ds = es ∧ s = t
  | c, [], [], s, t, hc, hd, he, hs, ht, q => by simp [shR] at q; exact ⟨rfl, q⟩
  | c, [], e :: es, s, t, hc, hd, he, hs, ht, q => by
    simp only [shR, List.cons_append, List.nil_append] at q
    injection q with q1 _
    omega
  | c, d :: ds, [], s, t, hc, hd, he, hs, ht, q => by
    simp only [shR, List.cons_append, List.nil_append] at q
    injection q with q1 _
    omega
  | c, d :: ds, e :: es, s, t, hc, hd, he, hs, ht, q => by
    cases hd with
    | cons h0 t0 =>
    cases he with
    | cons h' t' =>
    simp only [shR, List.cons_append, List.append_assoc] at q
    injection q with _ q
    injection q with _ q
    obtain ⟨h1, h2⟩ := sh_inj h0 h' (stp_R hc _ _) (stp_R hc _ _) q
    obtain ⟨h3, h4⟩ := shR_inj hc t0 t' hs ht h2
    exact ⟨by rw [h1, h3], h4⟩
end
theorem shown_inj {d e : PyData} (hd : Pl d) (he : Pl e) (q : d.shown = e.shown) : d = e := by
  have e1 := shown_sh hd
  have e2 := shown_sh he
  rw [q, e2] at e1
  have : sh d ++ [] = sh e ++ [] := by rw [List.append_nil, List.append_nil, e1]
  exact (sh_inj hd he (.inl rfl) (.inl rfl) this).1
end TL

end
/-! TL34 -/
section
set_option maxHeartbeats 4000000
namespace TL
open PySem L2
/-! ## a, b = x, y: two names -/
def sPar (i j : Nat) (f : Eas) : Es := fun r m => (f r m).bind fun p => match p.1 with
  | [a, b] => some (.nx ((r.set i (.fz a)).set j (.fz b)) p.2)
  | _ => none
section
variable {X : Cx} {U : Hp} {n0 : Nat}
theorem qs_par {i j : Nat} {x y : Str} {a b : Expr} {f : Eas} {px py pt pos : Pos} {kt k2 pt2} (hc : X.calm = true) (hN : X.N.Nodup) (hi : X.N[i]? = some x) (hj : X.N[j]? = some y) (hij : i ≠ j)
    (hx : X.env.scope.names.lookup x = some .local) (hy : X.env.scope.names.lookup y = some .local) (ha : PA X [a, b] (tAs X.K U f))
    (hw : swappedStores [.Tuple [.Name x px, .Name y py] kt pt] (.Tuple [a, b] k2 pt2) X.env = pure (some [x, y]))
    (hs : swapsWithSole [.Tuple [.Name x px, .Name y py] kt pt] (.Tuple [a, b] k2 pt2) pos.line X.env = pure false := by rfl) :
    PS X (.Assign [.Tuple [.Name x px, .Name y py] kt pt] (.Tuple [a, b] k2 pt2) pos) (tS X.K U n0 (sPar i j f)) := ps_weak (ps_par hc hN hi hj hij hx hy ha hw hs) fun D σ H ⟨A, F, r, m, o, G, hn, e, p⟩ => by
  unfold sPar at e
  cases e1 : f r m with
  | none => rw [e1] at e; cases e
  | some q =>
    obtain ⟨ds, m1⟩ := q
    rw [e1] at e
    simp only [Option.bind_some] at e
    split at e
    · rename_i d1 d2
      cases e
      refine ⟨A, F, r, m, _, m1, G, e1, fun F1 H1 vs s1 G1 h1 => ?_⟩
      obtain ⟨v, w, rfl, g1, g2⟩ := rpa2 h1
      exact ⟨v, w, rfl, p A F1 H1 _ (List.prefix_refl A) s1 ((G1.setFz g1).setFz g2)⟩
    · cases e
theorem w_par {i j : Nat} {f : Eas} {r : Rs} {m : Ms} {Q : Out → Prop} (h : W (f r m) fun p => ∃ a b, p.1 = [a, b] ∧ Q (.nx ((r.set i (.fz a)).set j (.fz b)) p.2)) : W (sPar i j f r m) Q := by
  unfold sPar
  refine W.bind (W.mono h fun p ⟨a, b, e, q⟩ => ?_)
  rw [e]
  exact .mk q
end
/-! ## what is shown, of numbers to some 40 figures -/
mutual
theorem its_more : ∀ d : PyData, d.intsShort 13 = true → d.intsShort 40 = true
  | .none, _ => rfl
  | .bool _, _ => rfl
  | .str _, _ => rfl
  | .dict _, _ => rfl
  | .int i, h => by
    simp only [PyData.intsShort, decide_eq_true_eq] at h ⊢
    omega
  | .list xs, h => by
    simp only [PyData.intsShort] at h ⊢
    exact its_moreA xs h
  | .tuple xs, h => by
    simp only [PyData.intsShort] at h ⊢
    exact its_moreA xs h
theorem its_moreA : ∀ xs : List PyData, PyData.intsShortAll 13 xs = true → PyData.intsShortAll 40 xs = true
  | [], _ => rfl
  | x :: xs, h => by
    simp only [PyData.intsShortAll, Bool.and_eq_true] at h ⊢
    exact ⟨its_more x h.1, its_moreA xs h.2⟩
end
structure Sx (w k : Nat) (d : PyData) : Prop where
  lay : d.canLay0 = true
  dep : d.depth ≤ k
  its : d.intsShort 40 = true
  shw : d.showable = true
  wgt : d.weight ≤ w
section
variable {w k n : Nat} {d : PyData} {ds : List PyData}
theorem Sx.mono {w' k' : Nat} (h : Sx w k d) (a : w ≤ w') (b : k ≤ k') : Sx w' k' d := ⟨h.lay, Nat.le_trans h.dep b, h.its, h.shw, Nat.le_trans h.wgt a⟩
theorem Sx.str {s : Str} (h : Lw n s) : Sx n 0 (.str s) := ⟨h.ok, by simp [PyData.depth], rfl, rfl, h.1⟩
theorem Sx.non : Sx 0 0 .none := ⟨rfl, by simp [PyData.depth], rfl, rfl, by simp [PyData.weight]⟩
theorem Sx.bool {b : Bool} : Sx 0 0 (.bool b) := ⟨rfl, by simp [PyData.depth], rfl, rfl, by simp [PyData.weight]⟩
theorem p35 : (10 : Int) ^ 35 = 100000000000000000000000000000000000 := by decide +kernel
theorem Sx.int {i : Int} (h0 : -100000000000000000000000000000000000 < i) (h1 : i < 100000000000000000000000000000000000) : Sx 120 0 (.int i) := by
  have hn : i.natAbs < 10 ^ 35 := by
    have : (10 : Nat) ^ 35 = 100000000000000000000000000000000000 := by decide +kernel
    omega
  have hl : i.natAbs = 0 ∨ i.natAbs.log2 < 117 := by
    by_cases hz : i.natAbs = 0
    · exact .inl hz
    · exact .inr ((Nat.log2_lt hz).mpr (Nat.lt_trans hn (by decide +kernel)))
  refine ⟨rfl, by simp [PyData.depth], ?_, ?_, ?_⟩
  · simp only [PyData.intsShort, decide_eq_true_eq]
    have e := int_text_length_le10 (k := 35) (by decide) hn
    show (Str.ofString (toString i)).length ≤ 40
    rw [ofString_length]
    omega
  · simp only [PyData.showable, decide_eq_true_eq]
    rcases hl with q | q
    · rw [q]; decide
    · omega
  · simp only [PyData.weight]
    split
    · exact Nat.zero_le _
    · rcases hl with q | q
      · rw [q]; decide
      · omega
theorem itx_all : ∀ {ds : List PyData}, (∀ d ∈ ds, d.intsShort 40 = true) → PyData.intsShortAll 40 ds = true
  | [], _ => rfl
  | d :: ds, h => by
    simp only [PyData.intsShortAll, Bool.and_eq_true]
    exact ⟨h d List.mem_cons_self, itx_all fun x hx => h x (List.mem_cons_of_mem _ hx)⟩
theorem Sx.lst (h : ∀ d ∈ ds, Sx w k d) (hl : ds.length ≤ n) : Sx (n * (w + 1)) (k + 1) (.list ds) := by
  have a := depth_all fun d hd => (h d hd).dep
  have b := wgt_all fun d hd => (h d hd).wgt
  have c := Nat.mul_le_mul_right (w + 1) hl
  exact ⟨by simp only [PyData.canLay0]; exact lay_all fun d hd => (h d hd).lay, by simp only [PyData.depth]; omega, by simp only [PyData.intsShort]; exact itx_all fun d hd => (h d hd).its, by simp only [PyData.showable]; exact shw_all fun d hd => (h d hd).shw, by simp only [PyData.weight]; omega⟩
theorem Sx.tup (h : ∀ d ∈ ds, Sx w k d) (hl : ds.length ≤ n) : Sx (n * (w + 1)) (k + 1) (.tuple ds) := by
  have a := depth_all fun d hd => (h d hd).dep
  have b := wgt_all fun d hd => (h d hd).wgt
  have c := Nat.mul_le_mul_right (w + 1) hl
  exact ⟨by simp only [PyData.canLay0]; exact lay_all fun d hd => (h d hd).lay, by simp only [PyData.depth]; omega, by simp only [PyData.intsShort]; exact itx_all fun d hd => (h d hd).its, by simp only [PyData.showable]; exact shw_all fun d hd => (h d hd).shw, by simp only [PyData.weight]; omega⟩
theorem Sx.shaped (h : Sx w k d) (hk : k ≤ 62) : SeqAt.shaped d = true := shaped_of h.lay (by have := h.dep; omega)
theorem Sx.fits (h : Sx w k d) (hw : w ≤ 300000) : d.shown.length ≤ sizeLine := by
  have g := h.wgt
  have g2 := PyData.shown_le 40 (by decide) d (PyData.leavesShort_of_canLay0 40 d h.lay h.its)
  have g3 := Nat.mul_le_mul_left (40 + 2) (Nat.le_trans g hw)
  exact Nat.le_trans (Nat.le_trans g2 (show (40 + 2) * d.weight + 40 ≤ 13000000 by omega)) (by decide)
theorem Sx.of (h : Sh w k d) : Sx w k d := ⟨h.lay, h.dep, its_more d h.its, h.shw, h.wgt⟩
theorem w_reprX {R : PyData → Prop} (h : Sx w k d) (hw : w ≤ 300000) (hk : k ≤ 62) (q : R (.str d.shown)) : W (reprX [d]) R := by
  have h1 := h.fits hw
  have h2 := PyData.hasDict_of_canLay d h.lay
  have h3 := h.shaped hk
  have h4 := h.shw
  cases d with
  | none => exact .mk q
  | bool b => exact .mk q
  | int i =>
    unfold reprX reprD
    refine W.guard (by simpa [PyData.showable] using h4) (.mk ?_)
    simp only [PyData.shown] at q
    exact q
  | str x =>
    unfold reprX
    refine W.guard (by simpa only [PyData.shown] using h1) (.mk q)
  | list ds => exact W.guard ⟨h4, h2, h3, h1⟩ (.mk q)
  | tuple ds => exact W.guard ⟨h4, h2, h3, h1⟩ (.mk q)
  | dict ps => exact absurd h.lay (by simp [PyData.canLay0])
end
/-! ## isinstance -/
def isT (T : String) : PyData → Bool
  | .int _ => T == "int"
  | .bool _ => T == "int" || T == "bool"
  | .str _ => T == "str"
  | .list _ => T == "list"
  | .tuple _ => T == "tuple"
  | .dict _ => T == "dict"
  | .none => false
theorem w_isi {T : String} {d : PyData} {R : PyData → Prop} (hT : T ∈ ["int", "bool", "str", "list", "tuple", "dict"]) (hS : isSetD d = false) (q : R (.bool (isT T d))) : W (isiD T d) R := by
  refine W.of ?_ q
  unfold isiD
  rw [if_neg (by rw [hS]; exact Bool.false_ne_true)]
  simp only [List.mem_cons, List.not_mem_nil, or_false] at hT
  rcases hT with e | e | e | e | e | e <;> subst e <;> cases d <;> rfl
theorem w_isi_int {d : PyData} {R : PyData → Prop} (q : R (.bool (isT "int" d))) (hS : isSetD d = false := by first | rfl | assumption) : W (isiD "int" d) R := w_isi (by decide) hS q
theorem w_isi_bool {d : PyData} {R : PyData → Prop} (q : R (.bool (isT "bool" d))) (hS : isSetD d = false := by first | rfl | assumption) : W (isiD "bool" d) R := w_isi (by decide) hS q
theorem w_isi_str {d : PyData} {R : PyData → Prop} (q : R (.bool (isT "str" d))) (hS : isSetD d = false := by first | rfl | assumption) : W (isiD "str" d) R := w_isi (by decide) hS q
theorem w_isi_list {d : PyData} {R : PyData → Prop} (q : R (.bool (isT "list" d))) (hS : isSetD d = false := by first | rfl | assumption) : W (isiD "list" d) R := w_isi (by decide) hS q
theorem w_isi_tuple {d : PyData} {R : PyData → Prop} (q : R (.bool (isT "tuple" d))) (hS : isSetD d = false := by first | rfl | assumption) : W (isiD "tuple" d) R := w_isi (by decide) hS q
end TL

end
/-! TL35 -/
section
set_option maxHeartbeats 4000000
namespace TL
open PySem L2
/-! ## x[i], x[j] = (a, b): x a cell -/
def putC (k : Nat) (v : PyData) (q : PyData × Ms) : Option Ms := (cellAt q.2 k).bind fun c => match c, q.1 with
  | .list ds, .int j => (ixN ds.length j).map fun n => q.2.set k (some (.list (ds.set n v)))
  | _, _ => none
theorem put_some {k : Nat} {v : PyData} {q : PyData × Ms} {m' : Ms} (e : putC k v q = some m') : ∃ ds j n, cellAt q.2 k = some (.list ds) ∧ q.1 = .int j ∧ ixN ds.length j = some n ∧ m' = q.2.set k (some (.list (ds.set n v))) := by
  unfold putC at e
  cases e1 : cellAt q.2 k with
  | none => rw [e1] at e; cases e
  | some c =>
    rw [e1] at e
    simp only [Option.bind_some] at e
    split at e
    · rename_i ds j hq
      cases e2 : ixN ds.length j with
      | none => rw [e2] at e; cases e
      | some n =>
        rw [e2] at e
        cases e
        exact ⟨ds, j, n, rfl, hq, e2, rfl⟩
    · cases e
def sSwap (i : Nat) (f g1 g2 : Ev) : Es := fun r m => (slO r[i]?).bind fun k => (f r m).bind fun p => match p.1 with
  | .tuple [a, b] => (g1 r p.2).bind fun q1 => (putC k a q1).bind fun m1 => (g2 r m1).bind fun q2 => (putC k b q2).map fun m2 => .nx r m2
  | _ => none
section
variable {X : Cx} {U : Hp} {n0 : Nat}
theorem qs_swap {i : Nat} {x : Str} {e b1 b2 : Expr} {f g1 g2 : Ev} {kt : Nat} {p1 p2 p3 p4 pt pos : Pos} (hc : X.calm = true) (hv : PE X (.Name x p1) (tVar i)) (hv' : PE X (.Name x p3) (tVar i)) (he : PE X e (tE X.K U f)) (hb1 : PE X b1 (tE X.K U g1)) (hb2 : PE X b2 (tE X.K U g2))
    (hg1 : ∀ {to ti : TE}, PE X (.Name x p1) to → PE X b1 ti → PG X (.Subscript (.Name x p1) b1 p2) (gSub to ti rSetL))
    (hg2 : ∀ {to ti : TE}, PE X (.Name x p3) to → PE X b2 ti → PG X (.Subscript (.Name x p3) b2 p4) (gSub to ti rSetL))
    (hs : swapsWithSole [.Tuple [.Subscript (.Name x p1) b1 p2, .Subscript (.Name x p3) b2 p4] kt pt] e pos.line X.env = pure false := by rfl) (hw : swappedStores [.Tuple [.Subscript (.Name x p1) b1 p2, .Subscript (.Name x p3) b2 p4] kt pt] e X.env = pure none := by rfl)
    (h1 : (assignEach [.Tuple [.Subscript (.Name x p1) b1 p2, .Subscript (.Name x p3) b2 p4] kt pt] X.env).map (·.2) = [assign (.Tuple [.Subscript (.Name x p1) b1 p2, .Subscript (.Name x p3) b2 p4] kt pt) X.env] := by rfl)
    (hn : (assignEach [.Subscript (.Name x p1) b1 p2, .Subscript (.Name x p3) b2 p4] X.env).length = 2 := by rfl) (hst : (assignEach [.Subscript (.Name x p1) b1 p2, .Subscript (.Name x p3) b2 p4] X.env).findIdx? (·.1) = none := by rfl)
    (ha1 : (assignEach [.Subscript (.Name x p1) b1 p2, .Subscript (.Name x p3) b2 p4] X.env).map (·.2) = assign (.Subscript (.Name x p1) b1 p2) X.env :: (assignEach [.Subscript (.Name x p3) b2 p4] X.env).map (·.2) := by rfl)
    (ha2 : (assignEach [.Subscript (.Name x p3) b2 p4] X.env).map (·.2) = assign (.Subscript (.Name x p3) b2 p4) X.env :: (assignEach [] X.env).map (·.2) := by rfl) :
    PS X (.Assign [.Tuple [.Subscript (.Name x p1) b1 p2, .Subscript (.Name x p3) b2 p4] kt pt] e pos) (tS X.K U n0 (sSwap i f g1 g2)) :=
  ps_weak (ps_asg he (pg_tup hc (pgs_cons (hg1 hv hb1) (pgs_cons (hg2 hv' hb2) pgs_nil ha2) ha1) hn hst) hs hw h1) fun D σ H ⟨A, F, r, m, o, G, hn, e, p⟩ => by
  unfold sSwap at e
  cases e0 : slO r[i]? with
  | none => rw [e0] at e; cases e
  | some k =>
    rw [e0] at e
    simp only [Option.bind_some] at e
    obtain ⟨a, hA, hσ⟩ := G.ow i k (slO_some e0)
    cases e1 : f r m with
    | none => rw [e1] at e; cases e
    | some q =>
      obtain ⟨d, m1⟩ := q
      rw [e1] at e
      simp only [Option.bind_some] at e
      split at e
      · rename_i da db
        cases e2 : g1 r m1 with
        | none => rw [e2] at e; cases e
        | some q1 =>
          rw [e2] at e
          simp only [Option.bind_some] at e
          cases e3 : putC k da q1 with
          | none => rw [e3] at e; cases e
          | some m2 =>
            rw [e3] at e
            simp only [Option.bind_some] at e
            cases e4 : g2 r m2 with
            | none => rw [e4] at e; cases e
            | some q2 =>
              rw [e4] at e
              simp only [Option.bind_some] at e
              cases e5 : putC k db q2 with
              | none => rw [e5] at e; cases e
              | some m3 =>
                rw [e5] at e
                cases e
                obtain ⟨d1, m1'⟩ := q1
                obtain ⟨d2, m2'⟩ := q2
                obtain ⟨ds, j, n, c1, c2, c3, c4⟩ := put_some e3
                obtain ⟨ds2, j2, n2, c5, c6, c7, c8⟩ := put_some e5
                simp only at c1 c2 c3 c4 c5 c6 c7 c8
                subst c2 c4 c6 c8
                refine ⟨A, F, r, m, _, m1, G, e1, fun F1 H1 v s1 G1 h1 => ?_⟩
                cases h1 with
                | vt sa ra =>
                  obtain ⟨va, vb, rfl, ga, gb⟩ := rpa2 ra
                  refine ⟨_, _, rfl, seqT_mono G1.sub sa, rfl, va, [vb], rfl, _, hσ, A, F1, r, m1, _, m1', G1, e2, fun F2 H2 w s2 G2 h2 => ?_⟩
                  cases h2
                  obtain ⟨k1, k2, o3, k3, vs, k5, k4⟩ := G2.cl k a _ hA c1
                  subst k5
                  refine ⟨a, vs, j, n, rfl, rfl, k3, by rw [rpa_len k4]; exact c3, ?_⟩
                  have G3 := G2.setCell hA c1 (show Stored X.K F2 (.lst (vs.set n va)) (.list (ds.set n da)) from ⟨_, rfl, rpa_set (Rpm s2 ga) n k4⟩)
                  refine ⟨vb, [], rfl, _, hσ, A, F2, r, _, _, m2', G3, e4, fun F4 H4 w4 s4 G4 h4 => ?_⟩
                  cases h4
                  obtain ⟨l1, l2, o6, l3, vs2, l5, l4⟩ := G4.cl k a _ hA c5
                  subst l5
                  refine ⟨a, vs2, j2, n2, rfl, rfl, l3, by rw [rpa_len l4]; exact c7, rfl, ?_⟩
                  exact p A F4 _ σ (List.prefix_refl A) ((s1.trans s2).trans s4) (G4.setCell hA c5 ⟨_, rfl, rpa_set (Rpm (s2.trans s4) gb) n2 l4⟩)
      · cases e
end
theorem w_putC {k : Nat} {v : PyData} {ds : List PyData} {j : Int} {m : Ms} {Q : Ms → Prop} (e : cellAt m k = some (.list ds)) (h : W (ixN ds.length j) fun n => Q (m.set k (some (.list (ds.set n v))))) : W (putC k v (.int j, m)) Q := by
  unfold putC
  exact W.bind (W.of e (W.map h))
theorem w_swap {i k : Nat} {f g1 g2 : Ev} {r : Rs} {m : Ms} {Q : Out → Prop} (e : r[i]? = some (.ow k)) (h : W (f r m) fun p => ∃ a b, p.1 = .tuple [a, b] ∧ W (g1 r p.2) fun q1 => W (putC k a q1) fun m1 => W (g2 r m1) fun q2 => W (putC k b q2) fun m2 => Q (.nx r m2)) : W (sSwap i f g1 g2 r m) Q := by
  unfold sSwap
  rw [e]
  refine W.bind (W.of rfl (W.bind (W.mono h fun p ⟨a, b, e1, h⟩ => ?_)))
  rw [e1]
  exact W.bind (W.mono h fun q1 h => W.bind (W.mono h fun m1 h => W.bind (W.mono h fun q2 h => W.map h)))
end TL

end
/-! TL36 -/
section
set_option maxHeartbeats 4000000
namespace TL
open PySem PySem.Spec PyProof.Rows L2
/-! ## repr of any data, dicts among it -/
section
variable {X : Cx} {pins : List (Addr × Obj)} {σ : L2.St} {H : Hp} {s : Shared}
abbrev RK (X : Cx) (s : Shared) (n : Nat) (bs : List Addr) (u : Value) (t : Str) : Prop := ReprK X.prog X.w bs s.heap n u t
abbrev RA (X : Cx) (s : Shared) (n : Nat) (bs : List Addr) (us : List Value) (ts : List Str) : Prop := ReprAllK X.prog X.w bs s.heap n us ts
theorem join_two {n m : Nat} {bs cs : List Addr} (h : ReadAtMost s.heap n bs) (g : ReadAtMost s.heap m cs) : ReadAtMost s.heap (max n m) (bs ++ cs) :=
  ReadAtMost.append (ReadAtMost.mono h (Nat.le_max_left n m)) (ReadAtMost.mono g (Nat.le_max_right n m))
theorem RA.put {n m : Nat} {bs cs : List Addr} {u : Value} {us : List Value} {t : Str} {ts : List Str} (h : RK X s n bs u t) (g : RA X s m cs us ts) : RA X s (max n m) (bs ++ cs) (u :: us) (t :: ts) :=
  ReprAllK.cons (ReprK.level_le (ReprK.more h (fun b q => List.mem_append.mpr (.inl q))) (Nat.le_max_left n m)) (ReprAllK.more_le (fun b q => List.mem_append.mpr (.inr q)) (Nat.le_max_right n m) g)
theorem key_reads {k : Key} {u : Value} (h : keyIs k u = true) (hs : (kD k).showable = true) (hz : (kD k).shown.length ≤ sizeLine) : Reads s.heap u (kD k) [] ∧ RK X s (kD k).depth [] u (kD k).shown := by
  rcases keyIs_shape h with ⟨i, t, rfl, rfl⟩ | ⟨x, t, rfl, rfl⟩
  · refine ⟨.int i t, ?_⟩
    simp only [kD, PyData.shown]
    exact .of_is (ReprIs.int t (by simpa [kD, PyData.showable] using hs)) _ _ _
  · refine ⟨.str x t, ?_⟩
    simp only [kD, PyData.shown]
    exact .of_is (ReprIs.str x t (by simpa only [kD, PyData.shown] using hz)) _ _ _
mutual
/-- no set among it -/
def noSet : PyData → Bool
  | .none | .bool _ | .int _ | .str _ => true
  | .list ds | .tuple ds => noSetAll ds
  | .dict ps => !isSetD (.dict ps) && noSetKv ps
def noSetAll : List PyData → Bool
  | [] => true
  | d :: ds => noSet d && noSetAll ds
def noSetKv : List (PyData × PyData) → Bool
  | [] => true
  | (_, d) :: ps => noSet d && noSetKv ps
end
theorem none_at {n : Nat} : ReadAtMost s.heap n [] := fun _ q => nomatch q
mutual
theorem rp_told (I : Inv X pins σ H s) : ∀ (d : PyData) (v : V) (u : Value), Rp X.K H v d → RelV v u → noSet d = true → d.showable = true → d.shown.length ≤ sizeLine →
    ∃ as bs, Reads s.heap u d as ∧ ReadAtMost s.heap d.depth bs ∧ RK X s d.depth bs u d.shown
  | .none, _, _, h, r, _, _, _ => by
    cases h; cases r
    exact ⟨_, [], .none, none_at, by simp only [PyData.shown]; exact .of_is ReprIs.none _ _ _⟩
  | .bool b, _, _, h, r, _, _, _ => by
    cases h; cases r
    exact ⟨_, [], .bool b, none_at, by simp only [PyData.shown]; exact .of_is (ReprIs.bool b) _ _ _⟩
  | .int i, _, _, h, r, _, hs, _ => by
    cases h
    obtain ⟨t, rfl⟩ := r
    exact ⟨_, [], .int i t, none_at, by simp only [PyData.shown]; exact .of_is (ReprIs.int t (by simpa [PyData.showable] using hs)) _ _ _⟩
  | .str x, _, _, h, r, _, _, hz => by
    cases h
    obtain ⟨t, rfl⟩ := r
    exact ⟨_, [], .str x t, none_at, by simp only [PyData.shown]; exact .of_is (ReprIs.str x t (by simpa only [PyData.shown] using hz)) _ _ _⟩
  | .list ds, _, _, h, r, hn, hs, hz => by
    cases h with
    | vl sa ra =>
      cases r
      obtain ⟨its, rv, ⟨o, n, ho, hc, _, hd⟩, _⟩ := I.list sa
      have hz2 : (listText (PyData.shownAll ds)).length ≤ sizeLine := by simpa only [PyData.shown] using hz
      obtain ⟨as, bs, r1, r2, r3⟩ := rpa_told I ds _ its ra rv (by simpa only [noSet] using hn) (by simpa [PyData.showable] using hs) (fun t q => Nat.le_trans (listText_mem_le q) hz2)
      have rd : Reads s.heap (.ref _) (.list ds) _ := Reads.list ho hc hd r1
      have nb := not_mem_of_deeper rd (n := PyData.depthAll ds) (by simp only [PyData.depth]; omega) r2
      refine ⟨_, _ :: bs, rd, ReadAtMost.cons rd (n := PyData.depthAll ds) (by simp only [PyData.depth]; omega) r2, ?_⟩
      simp only [PyData.depth, PyData.shown]
      cases its with
      | nil =>
        cases r1
        simp only [PyData.shownAll, listText_nil]
        exact ReprK.listEmpty ho hc hd
      | cons y l => exact ReprK.list ho hc hd nb (by simpa using r3.length_eq) fun i z e => r3.item i z (by simpa using e)
  | .tuple ds, _, _, h, r, hn, hs, hz => by
    cases h with
    | vt sa ra =>
      cases r
      obtain ⟨its, rv, ⟨o, ho, hc, n, hd⟩, _⟩ := I.tuple sa
      have hz2 : (tupleText (PyData.shownAll ds)).length ≤ sizeLine := by simpa only [PyData.shown] using hz
      obtain ⟨as, bs, r1, r2, r3⟩ := rpa_told I ds _ its ra rv (by simpa only [noSet] using hn) (by simpa [PyData.showable] using hs) (fun t q => Nat.le_trans (tupleText_mem_le q) hz2)
      have rd : Reads s.heap (.ref _) (.tuple ds) _ := Reads.tuple ho hc hd r1
      have nb := not_mem_of_deeper rd (n := PyData.depthAll ds) (by simp only [PyData.depth]; omega) r2
      refine ⟨_, _ :: bs, rd, ReadAtMost.cons rd (n := PyData.depthAll ds) (by simp only [PyData.depth]; omega) r2, ?_⟩
      simp only [PyData.depth, PyData.shown]
      exact ReprK.tuple ho hc hd nb r3
  | .dict ps, _, _, h, r, hn, hs, hz => by
    cases h with
    | vd sa ra =>
      cases r
      obtain ⟨_, ns, vs, kv, o, es, ep, ho, ⟨hc, _, _⟩, hd, _, pr, _⟩ := dk_rd I.hok sa
      have hz2 : (dictText (PyData.shownKv ps)).length ≤ sizeLine := by simpa only [PyData.shown] using hz
      obtain ⟨as, bs, cs, r1, r2, r3, r4, r5⟩ := rpk_told I ps _ vs es.toList ra kv pr (by simp only [noSet, Bool.and_eq_true] at hn; exact hn.2) (by simpa [PyData.showable] using hs) (fun t q => Nat.le_trans (dictText_mem_le q) hz2)
      have rd : Reads s.heap (.ref _) (.dict ps) _ := Reads.dict ho hc hd r1 r2
      have nb := not_mem_of_deeper rd (n := PyData.depthKv ps) (by simp only [PyData.depth]; omega) r3
      refine ⟨_, _ :: cs, rd, ReadAtMost.cons rd (n := PyData.depthKv ps) (by simp only [PyData.depth]; omega) r3, ?_⟩
      simp only [PyData.depth, PyData.shown, PyData.shownKv_eq]
      exact ReprK.dict ho hc hd ns nb (ReprEntriesK.of_two _ _ _ r4 r5)
    | vx _ _ _ => simp [noSet, isSetD] at hn
theorem rpk_told (I : Inv X pins σ H s) : ∀ (ps : List (PyData × PyData)) (ks : List (Key × V)) (vs : List (Key × Value)) (es : List DictEntry), RpKv X.K H ks ps → KV ks vs → Pairs (mixKind X.prog X.w) es vs →
    noSetKv ps = true → PyData.showableKv ps = true → (∀ t ∈ PyData.shownKv ps, t.length ≤ sizeLine) → ∃ as bs cs, ReadsAll s.heap (es.map (·.key)) (ps.map (·.1)) as ∧ ReadsAll s.heap (es.map (·.val)) (ps.map (·.2)) bs ∧
      ReadAtMost s.heap (PyData.depthKv ps) cs ∧ RA X s (PyData.depthKv ps) cs (es.map (·.key)) (PyData.shownAll (ps.map (·.1))) ∧ RA X s (PyData.depthKv ps) cs (es.map (·.val)) (PyData.shownAll (ps.map (·.2)))
  | [], _, _, _, h, kv, pr, _, _, _ => by
    cases h; cases kv; cases pr
    exact ⟨_, _, [], .nil, .nil, none_at, .nil, .nil⟩
  | (c, d) :: ps, _, _, _, h, kv, pr, hn, hs, hz => by
    simp only [noSetKv, Bool.and_eq_true] at hn
    cases h with
    | cons h1 h2 =>
      cases kv with
      | cons k1 k2 =>
        cases pr with
        | cons p1 p2 p3 =>
          obtain ⟨k1, k3⟩ := k1
          simp only [PyData.showableKv, Bool.and_eq_true] at hs
          have z1 := hz _ (by simp only [PyData.shownKv]; exact List.mem_cons_self)
          rw [strLen_append, strLen_append] at z1
          have p4 : keyIs _ _ = true := p1
          rw [← k1] at p4
          obtain ⟨q1, q2⟩ := key_reads (X := X) (s := s) p4 hs.1.1 (by dsimp only; omega)
          rw [← p2] at k3
          obtain ⟨as, bs, q3, q4, q5⟩ := rp_told I d _ _ h1 k3 hn.1 hs.1.2 (by omega)
          obtain ⟨as2, bs2, cs, g1, g2, g3, g4, g5⟩ := rpk_told I ps _ _ _ h2 k2 p3 hn.2 hs.2 (fun t q => hz t (by simp only [PyData.shownKv]; exact List.mem_cons_of_mem _ q))
          refine ⟨_, _, bs ++ cs, ReadsAll.cons q1 g1, ReadsAll.cons q3 g2, ?_, ?_, ?_⟩
          · refine ReadAtMost.mono (join_two q4 g3) ?_
            simp only [PyData.depthKv]
            omega
          · simp only [List.map_cons, PyData.shownAll]
            exact ReprAllK.cons ((q2.more fun b q => nomatch q).level_le (by simp only [PyData.depthKv]; omega)) (g4.more_le (fun b q => List.mem_append.mpr (.inr q)) (by simp only [PyData.depthKv]; omega))
          · simp only [List.map_cons, PyData.shownAll]
            exact ReprAllK.cons ((q5.more fun b q => List.mem_append.mpr (.inl q)).level_le (by simp only [PyData.depthKv]; omega)) (g5.more_le (fun b q => List.mem_append.mpr (.inr q)) (by simp only [PyData.depthKv]; omega))
theorem rpa_told (I : Inv X pins σ H s) : ∀ (ds : List PyData) (vs : List V) (us : List Value), RpAll X.K H vs ds → Vals vs us → noSetAll ds = true → PyData.showableAll ds = true → (∀ t ∈ PyData.shownAll ds, t.length ≤ sizeLine) →
    ∃ as bs, ReadsAll s.heap us ds as ∧ ReadAtMost s.heap (PyData.depthAll ds) bs ∧ RA X s (PyData.depthAll ds) bs us (PyData.shownAll ds)
  | [], _, _, h, r, _, _, _ => by
    cases h; cases r
    exact ⟨_, [], .nil, none_at, .nil⟩
  | d :: ds, _, _, h, r, hn, hs, hz => by
    simp only [noSetAll, Bool.and_eq_true] at hn
    cases h with
    | cons h1 h2 =>
      cases r with
      | cons r1 r2 =>
        simp only [PyData.showableAll, Bool.and_eq_true] at hs
        obtain ⟨as, bs, q1, q2, q3⟩ := rp_told I d _ _ h1 r1 hn.1 hs.1 (hz _ (by simp only [PyData.shownAll]; exact List.mem_cons_self))
        obtain ⟨as2, bs2, g1, g2, g3⟩ := rpa_told I ds _ _ h2 r2 hn.2 hs.2 (fun t q => hz t (by simp only [PyData.shownAll]; exact List.mem_cons_of_mem _ q))
        refine ⟨_, bs ++ bs2, ReadsAll.cons q1 g1, ?_, ?_⟩
        · simp only [PyData.depthAll]; exact join_two q2 g2
        · simp only [PyData.depthAll, PyData.shownAll]; exact RA.put q3 g3
end
end
abbrev rReprY (K : PySem.W.Frag) : List V → Hp → VK → Prop := fun xs H Q => ∃ v d, xs = [v] ∧ Rp K H v d ∧ noSet d = true ∧ d.showable = true ∧ d.depth ≤ 62 ∧ d.shown.length ≤ sizeLine ∧ Q (.str d.shown) H
def reprY : List PyData → Option PyData
  | [d] => if noSet d = true ∧ d.showable = true ∧ d.depth ≤ 62 ∧ d.shown.length ≤ sizeLine then some (.str d.shown) else none
  | _ => none
section
variable {X : Cx} {U : Hp}
theorem call_reprY (g : X.A.guards = some []) (hu : X.A.units + 66 < cLine) : CallR X (.builtin "repr") (rReprY X.K) := by
  intro pins s σ H xs us Q I r ⟨v, d, e, h, hn, h1, h2, h3, q⟩
  subst e
  obtain ⟨u, rfl, rx⟩ := vals1 r
  cases h with
  | vn =>
    cases rx
    exact PySem.P.repr_of_none ⟨.str _, H, I.tok _, ⟨_, rfl⟩, q⟩
  | vb b =>
    cases rx
    refine PySem.P.repr_of_bool ⟨.str _, H, I.tok _, ⟨_, rfl⟩, ?_⟩
    cases b <;> exact q
  | vi i => exact SkE.call_repr_int pins s σ H _ _ Q I r ⟨i, rfl, by simpa [PyData.showable] using h1, by simpa only [PyData.shown] using q⟩
  | vs x =>
    obtain ⟨t, rfl⟩ := rx
    refine PySem.P.repr_of_str ⟨.str _, H, I.tok _, ⟨_, rfl⟩, ?_⟩ (by simpa only [PyData.shown] using h3)
    simpa only [PyData.shown] using q
  | @vl a xs ds sa ra =>
    cases rx
    obtain ⟨its, rv, ⟨o, n, ho, hc, _, hd⟩, _⟩ := I.list sa
    have hz2 : (listText (PyData.shownAll ds)).length ≤ sizeLine := by simpa only [PyData.shown] using h3
    obtain ⟨as, bs, r1, r2, r3⟩ := rpa_told I ds _ its ra rv (by simpa only [noSet] using hn) (by simpa [PyData.showable] using h1) (fun t q => Nat.le_trans (listText_mem_le q) hz2)
    have nb := not_mem_of_deeper (Reads.list ho hc hd r1) (n := PyData.depthAll ds) (by simp only [PyData.depth]; omega) r2
    simp only [PyData.depth] at h2
    refine call_repr_slot (by omega) ⟨o, ho, hc⟩ F.slot_list_repr.toG ?_
    cases its with
    | nil =>
      cases r1
      refine call_list_repr_empty ⟨o, ho, hc⟩ ho hd ⟨_, _, rfl, ⟨.str _, H, I.tok _, ⟨_, rfl⟩, ?_⟩⟩
      have e : PyData.shown (.list []) = ("[]" : Str) := by simp only [PyData.shown, PyData.shownAll, listText_nil]
      rw [e] at q
      exact q
    | cons y l =>
      refine call_list_reprK (d := PyData.depthAll ds) (as := bs) ho hc hd nb (ts := PyData.shownAll ds) (by simpa using r3.length_eq) (fun i z e => r3.item i z (by simpa using e)) (by show X.A.guards = some []; exact g) (fun b _ => Clear.nil b) (by show X.A.units + 1 + _ < cLine; omega) (fun _ _ z => z) (fun h' t tk hk => ⟨_, _, rfl, ⟨.str _, H, I.kept hk, ⟨t, rfl⟩, ?_⟩⟩) hz2
      simpa only [PyData.shown] using q
  | @vt a xs ds sa ra =>
    cases rx
    obtain ⟨its, rv, ⟨o, ho, hc, n, hd⟩, _⟩ := I.tuple sa
    have hz2 : (tupleText (PyData.shownAll ds)).length ≤ sizeLine := by simpa only [PyData.shown] using h3
    obtain ⟨as, bs, r1, r2, r3⟩ := rpa_told I ds _ its ra rv (by simpa only [noSet] using hn) (by simpa [PyData.showable] using h1) (fun t q => Nat.le_trans (tupleText_mem_le q) hz2)
    have nb := not_mem_of_deeper (Reads.tuple ho hc hd r1) (n := PyData.depthAll ds) (by simp only [PyData.depth]; omega) r2
    simp only [PyData.depth] at h2
    refine call_repr_slot (by omega) ⟨o, ho, hc⟩ F.slot_tuple_repr ?_
    refine call_tuple_reprK (d := PyData.depthAll ds) (as := bs) ho hc hd nb r3 (by show X.A.guards = some []; exact g) (fun b _ => Clear.nil b) (by show X.A.units + 1 + _ < cLine; omega) (fun _ _ z => z) (fun h' t tk hk => ⟨_, _, rfl, ⟨.str _, H, I.kept hk, ⟨t, rfl⟩, ?_⟩⟩) hz2
    simpa only [PyData.shown] using q
  | @vd a ks ps sa ra =>
    cases rx
    obtain ⟨_, ns, vs, kv, o, es, ep, ho, ⟨hc, _, _⟩, hd, _, pr, _⟩ := dk_rd I.hok sa
    have hz2 : (dictText (PyData.shownKv ps)).length ≤ sizeLine := by simpa only [PyData.shown] using h3
    obtain ⟨as, bs, cs, r1, r2, r3, r4, r5⟩ := rpk_told I ps _ vs es.toList ra kv pr (by simp only [noSet, Bool.and_eq_true] at hn; exact hn.2) (by simpa [PyData.showable] using h1) (fun t q => Nat.le_trans (dictText_mem_le q) hz2)
    have nb := not_mem_of_deeper (Reads.dict ho hc hd r1 r2) (n := PyData.depthKv ps) (by simp only [PyData.depth]; omega) r3
    simp only [PyData.depth] at h2
    refine call_repr_slot (by omega) ⟨o, ho, hc⟩ F.slot_dict_repr ?_
    refine call_dict_reprK (d := PyData.depthKv ps) (as := cs) ho hc hd ns nb (ReprEntriesK.of_two _ _ _ r4 r5) (by show X.A.guards = some []; exact g) (fun b _ => Clear.nil b) (by show X.A.units + 1 + _ < cLine; omega) (fun _ _ z => z) (fun h' t tk hk => ⟨_, _, rfl, ⟨.str _, H, I.kept hk, ⟨t, rfl⟩, ?_⟩⟩) (by rw [← PyData.shownKv_eq]; exact hz2)
    simpa only [PyData.shown, PyData.shownKv_eq] using q
  | vx _ _ _ => simp [noSet, isSetD] at hn
theorem cd_reprY : CallD X U (rReprY X.K) reprY := by
  intro A F H σ r m vs ds d Q G ha e k
  unfold reprY at e
  split at e
  · split at e
    · rename_i hz
      cases e
      obtain ⟨v, rfl, h⟩ := rpa1 ha
      exact ⟨v, _, rfl, Rpm G.sub h, hz.1, hz.2.1, hz.2.2.1, hz.2.2.2, k F H _ (Same.refl F) G (.vs _)⟩
    · cases e
  · cases e
/-! ## {} -/
def eDct : Ev := fun _ m => some (.dict [], m)
theorem qe_dct {pos : Pos} : PE X (.Dict [] [] pos) (tE X.K U eDct) := pe_weak pe_dnewK fun σ H Q ⟨A, F, r, m, d, m', G, e, k⟩ => by
  cases e
  exact fun p np => k _ _ _ (same_new (G.nope np).1) (G.laid np) (.vd (.inl upd_same) .nil)
end
theorem w_reprY {d : PyData} {R : PyData → Prop} (h0 : noSet d = true) (h1 : d.showable = true) (h2 : d.depth ≤ 62) (h3 : d.shown.length ≤ sizeLine) (q : R (.str d.shown)) : W (reprY [d]) R := W.guard ⟨h0, h1, h2, h3⟩ (.mk q)
theorem w_dct {r : Rs} {m : Ms} {Q : PyData × Ms → Prop} (h : Q (.dict [], m)) : W (eDct r m) Q := .mk h
end TL

end
/-! TL37 -/
section
set_option maxHeartbeats 4000000
namespace TL
open PySem PySem.Spec PyProof.Rows L2
/-! ## dicts whose keys are numbers and texts -/
def valP (ps : List (PyData × PyData)) (k : Key) : Option PyData := (ps.find? fun p => decide (keyD p.1 = some k)).map (·.2)
def putP (ps : List (PyData × PyData)) (k : Key) (d : PyData) : List (PyData × PyData) :=
  if (ps.any fun p => decide (keyD p.1 = some k)) = true then ps.map (fun p => if keyD p.1 = some k then (p.1, d) else p) else ps ++ [(kD k, d)]
theorem kD_eq {j k : Key} : keyD (kD j) = some k ↔ j = k := by rw [keyD_kD]; exact Option.some_inj
section
variable {K : PySem.W.Frag} {F : Hp} {k : Key} {v : V} {d : PyData}
theorem rpk_val : ∀ {ks : List (Key × V)} {ps : List (PyData × PyData)}, RpKv K F ks ps → (valV ks k = none ∧ valP ps k = none) ∨ ∃ v d, valV ks k = some v ∧ valP ps k = some d ∧ Rp K F v d
  | _, _, .nil => .inl ⟨rfl, rfl⟩
  | _, _, .cons (k := j) (v := w) (d := e) h t => by
    by_cases q : j = k
    · refine .inr ⟨w, e, valV_pos q, ?_, h⟩
      unfold valP
      rw [List.find?_cons_of_pos (by simpa using kD_eq.mpr q)]
      rfl
    · have q2 : ¬ keyD (kD j) = some k := fun z => q (kD_eq.mp z)
      rcases rpk_val t with ⟨e1, e2⟩ | ⟨v, d, e1, e2, e3⟩
      · refine .inl ⟨by rw [valV_neg q]; exact e1, ?_⟩
        unfold valP at e2 ⊢
        rw [List.find?_cons_of_neg (by simpa using q2)]
        exact e2
      · refine .inr ⟨v, d, by rw [valV_neg q]; exact e1, ?_, e3⟩
        unfold valP at e2 ⊢
        rw [List.find?_cons_of_neg (by simpa using q2)]
        exact e2
theorem rpk_isS {ks : List (Key × V)} {ps : List (PyData × PyData)} (h : RpKv K F ks ps) : (valV ks k).isSome = (valP ps k).isSome := by
  rcases rpk_val (k := k) h with ⟨e1, e2⟩ | ⟨v, d, e1, e2, _⟩ <;> rw [e1, e2] <;> rfl
theorem rpk_any : ∀ {ks : List (Key × V)} {ps : List (PyData × PyData)}, RpKv K F ks ps → (ks.any fun kv => decide (kv.1 = k)) = ps.any fun p => decide (keyD p.1 = some k)
  | _, _, .nil => rfl
  | _, _, .cons (k := j) h t => by
    rw [List.any_cons, List.any_cons, rpk_any t]
    congr 1
    exact decide_eq_decide.mpr kD_eq.symm
theorem rpk_map (hd : Rp K F v d) : ∀ {ks : List (Key × V)} {ps : List (PyData × PyData)}, RpKv K F ks ps → RpKv K F (ks.map fun kv => if kv.1 = k then (kv.1, v) else kv) (ps.map fun p => if keyD p.1 = some k then (p.1, d) else p)
  | _, _, .nil => .nil
  | _, _, .cons (k := j) h t => by
    rw [List.map_cons, List.map_cons]
    by_cases q : j = k
    · rw [if_pos q, if_pos (kD_eq.mpr q)]
      exact .cons hd (rpk_map hd t)
    · rw [if_neg q, if_neg fun z => q (kD_eq.mp z)]
      exact .cons h (rpk_map hd t)
theorem rpk_snoc (hd : Rp K F v d) : ∀ {ks : List (Key × V)} {ps : List (PyData × PyData)}, RpKv K F ks ps → RpKv K F (ks ++ [(k, v)]) (ps ++ [(kD k, d)])
  | _, _, .nil => .cons hd .nil
  | _, _, .cons h t => .cons h (rpk_snoc hd t)
theorem rpk_put {ks : List (Key × V)} {ps : List (PyData × PyData)} (h : RpKv K F ks ps) (hd : Rp K F v d) : RpKv K F (putK ks k v) (putP ps k d) := by
  unfold putK putP
  rw [rpk_any h]
  split
  · exact rpk_map hd h
  · exact rpk_snoc hd h
theorem rpk_len : ∀ {ks : List (Key × V)} {ps : List (PyData × PyData)}, RpKv K F ks ps → ks.length = ps.length
  | _, _, .nil => rfl
  | _, _, .cons _ t => congrArg (· + 1) (rpk_len t)
theorem rpk_keys : ∀ {ks : List (Key × V)} {ps : List (PyData × PyData)}, RpKv K F ks ps → ps.map (·.1) = ks.map fun p => kD p.1
  | _, _, .nil => rfl
  | _, _, .cons _ t => by rw [List.map_cons, List.map_cons, rpk_keys t]
theorem key_kV {y : V} {c : PyData} (h : Rp K F y c) (e : keyD c = some k) : y = kV k := by
  cases h <;> first | (cases e; rfl) | cases e
end
/-! ### c in d, d[c]: d a value -/
def dinD (neg : Bool) : PyData → PyData → Option PyData
  | c, .dict ps => if isSetD (.dict ps) = true then none else (keyD c).map fun k => .bool (if neg then !(valP ps k).isSome else (valP ps k).isSome)
  | _, _ => none
def dixD : PyData → PyData → Option PyData
  | .dict ps, c => if isSetD (.dict ps) = true then none else (keyD c).bind (valP ps)
  | _, _ => none
theorem din_some {neg : Bool} {c e d : PyData} (h : dinD neg c e = some d) : ∃ ps k, e = .dict ps ∧ isSetD (.dict ps) = false ∧ keyD c = some k ∧ d = .bool (if neg then !(valP ps k).isSome else (valP ps k).isSome) := by
  unfold dinD at h
  split at h
  · split at h
    · cases h
    rename_i hS
    obtain ⟨k, e1, e2⟩ := Option.map_eq_some_iff.mp h
    exact ⟨_, k, rfl, by simpa using hS, e1, e2.symm⟩
  · cases h
theorem dix_some {c e d : PyData} (h : dixD e c = some d) : ∃ ps k, e = .dict ps ∧ isSetD (.dict ps) = false ∧ keyD c = some k ∧ valP ps k = some d := by
  unfold dixD at h
  split at h
  · split at h
    · cases h
    rename_i hS
    obtain ⟨k, e1, e2⟩ := Option.bind_eq_some_iff.mp h
    exact ⟨_, k, rfl, by simpa using hS, e1, e2⟩
  · cases h
section
variable {X : Cx} {U : Hp} {pos p1 : Pos} {a b : Expr} {f g : Ev} {y : Str} {n0 : Nat}
theorem din_read {neg : Bool} {σ : L2.St} {H : Hp} {Q : VK} (h : tE X.K U (eBin (dinD neg) f g) σ H Q) : (if neg then tDNotIn else tDIn) (tE X.K U f) (tE X.K U g) σ H Q := by
  obtain ⟨A, F, r, m, d, m', G, e, k⟩ := h
  obtain ⟨d1, m1, d2, e1, e2, e3⟩ := bin_some e
  obtain ⟨ps, kk, rfl, hS, hk, rfl⟩ := din_some e3
  have core : tDIn (tE X.K U f) (tE X.K U g) σ H (fun v H' => ∃ (F' : Hp) (ks : List (Key × V)), v = .bl (valV ks kk).isSome ∧ Same F F' ∧ Good X.K U A F' H' σ r m' ∧ RpKv X.K F' ks ps) := by
    refine ⟨A, F, r, m, d1, m1, G, e1, fun F1 H1 y s1 G1 h1 => ⟨A, F1, r, m1, _, m', G1, e2, fun F2 H2 x s2 G2 h2 => ?_⟩⟩
    cases h2 with
    | vd sa ra => exact ⟨_, _, rfl, .inl ⟨_, kk, rd_mono G2.sub sa, key_kV h1 hk, rfl⟩, F2, _, rfl, s1.trans s2, G2, ra⟩
    | vx _ _ _ => cases hS
  cases neg with
  | false =>
    obtain ⟨A0, F0, r0, m0, c1, c2, c3, c4, c5⟩ := core
    refine ⟨A0, F0, r0, m0, c1, c2, c3, c4, fun F1 H1 y s1 G1 h1 => ?_⟩
    obtain ⟨A1, F2, r1, m1, b1, b2, b3, b4, b5⟩ := c5 F1 H1 y s1 G1 h1
    refine ⟨A1, F2, r1, m1, b1, b2, b3, b4, fun F3 H3 x s2 G2 h2 => ?_⟩
    obtain ⟨ad, o, ex, g, F4, ks, ev, s3, G3, rk⟩ := b5 F3 H3 x s2 G2 h2
    refine ⟨ad, o, ex, g, ?_⟩
    injection ev with ev
    rw [ev, rpk_isS rk]
    exact k F4 H3 _ s3 G3 (.vb _)
  | true =>
    obtain ⟨A0, F0, r0, m0, c1, c2, c3, c4, c5⟩ := core
    refine ⟨A0, F0, r0, m0, c1, c2, c3, c4, fun F1 H1 y s1 G1 h1 => ?_⟩
    obtain ⟨A1, F2, r1, m1, b1, b2, b3, b4, b5⟩ := c5 F1 H1 y s1 G1 h1
    refine ⟨A1, F2, r1, m1, b1, b2, b3, b4, fun F3 H3 x s2 G2 h2 => ?_⟩
    obtain ⟨ad, o, ex, g, F4, ks, ev, s3, G3, rk⟩ := b5 F3 H3 x s2 G2 h2
    refine ⟨ad, o, ex, g, ?_⟩
    injection ev with ev
    rw [ev, rpk_isS rk]
    exact k F4 H3 _ s3 G3 (.vb _)
theorem qe_dIn (hu : X.A.units + 1 < cLine) (ha : PE X a (tE X.K U f)) (hb : PE X b (tE X.K U g)) (hm : behindInMarks .In b = false := by rfl) : PE X (.Compare a [.In] [b] pos) (tE X.K U (eBin (dinD false) f g)) :=
  pe_weak (pe_cmp (pc_din hu ha hb) hm) fun σ H Q h => din_read (neg := false) h
theorem qe_dNotIn (hu : X.A.units + 1 < cLine) (ha : PE X a (tE X.K U f)) (hb : PE X b (tE X.K U g)) (hm : behindInMarks .NotIn b = false := by rfl) : PE X (.Compare a [.NotIn] [b] pos) (tE X.K U (eBin (dinD true) f g)) :=
  pe_weak (pe_cmp (pc_dnotin hu ha hb) hm) fun σ H Q h => din_read (neg := true) h
theorem qt_dIn (hu : X.A.units + 1 < cLine) (ha : PE X a (tE X.K U f)) (hb : PE X b (tE X.K U g)) (hm : behindInMarks .In b = false := by rfl) : PT X (.Compare a [.In] [b] pos) (tT X.K U (eT blD (eBin (dinD false) f g))) :=
  pt_weak (pt_cmp (pc_din hu ha hb) hm) fun σ H Q h => tst_read (fun σ H Q h => din_read (neg := false) h) h
theorem qt_dNotIn (hu : X.A.units + 1 < cLine) (ha : PE X a (tE X.K U f)) (hb : PE X b (tE X.K U g)) (hm : behindInMarks .NotIn b = false := by rfl) : PT X (.Compare a [.NotIn] [b] pos) (tT X.K U (eT blD (eBin (dinD true) f g))) :=
  pt_weak (pt_cmp (pc_dnotin hu ha hb) hm) fun σ H Q h => tst_read (fun σ H Q h => din_read (neg := true) h) h
theorem qe_dIx (hu : X.A.units + 1 < cLine) (ha : PE X a (tE X.K U f)) (hb : PE X b (tE X.K U g)) (hs : NoSl b := by intro _ _; rfl) : PE X (.Subscript a b pos) (tE X.K U (eBin dixD f g)) :=
  pe_weak (pe_dget hu ha hb hs) fun σ H Q ⟨A, F, r, m, d, m', G, e, k⟩ => by
    obtain ⟨d1, m1, d2, e1, e2, e3⟩ := bin_some e
    obtain ⟨ps, kk, rfl, hS, hk, hv⟩ := dix_some e3
    refine ⟨A, F, r, m, _, m1, G, e1, fun F1 H1 x s1 G1 h1 => ⟨A, F1, r, m1, d2, m', G1, e2, fun F2 H2 y s2 G2 h2 => ?_⟩⟩
    cases h1 with
    | vd sa ra =>
      rcases rpk_val (k := kk) ra with ⟨_, z⟩ | ⟨v, d3, z1, z2, z3⟩
      · rw [hv] at z; cases z
      · rw [hv] at z2
        cases z2
        exact ⟨_, v, rfl, .inl ⟨_, kk, rd_mono G2.sub (rd_mono s2 sa), key_kV h2 hk, z1.symm⟩, k F2 H2 v (s1.trans s2) G2 (Rpm s2 z3)⟩
    | vx _ _ _ => cases hS
/-! ### the same of a cell -/
theorem dinO_read {i : Nat} {neg : Bool} {σ : L2.St} {H : Hp} {Q : VK} (h : tE X.K U (eInO i (dinD neg) g) σ H Q) : (if neg then tDNotIn else tDIn) (tE X.K U g) (tVar i) σ H Q := by
  obtain ⟨A, F, r, m, d, m', G, e, k⟩ := h
  unfold eInO at e
  obtain ⟨kk, e0, e⟩ := Option.bind_eq_some_iff.mp e
  obtain ⟨a, hA, hσ⟩ := G.ow i kk (slO_some e0)
  obtain ⟨⟨d1, m1⟩, e1, e⟩ := Option.bind_eq_some_iff.mp e
  obtain ⟨c, e2, e⟩ := Option.bind_eq_some_iff.mp e
  obtain ⟨d0, e3, e4⟩ := Option.map_eq_some_iff.mp e
  cases e4
  obtain ⟨ps, ke, rfl, hS, hk, rfl⟩ := din_some e3
  cases neg with
  | false =>
    refine ⟨A, F, r, m, d1, _, G, e1, fun F1 H1 y s1 G1 h1 => ⟨_, hσ, ?_⟩⟩
    obtain ⟨c1, c2, u, c3, ks, c5, c4⟩ := G1.cl kk a _ hA e2
    subst c5
    refine ⟨a, _, rfl, .inl ⟨ks, ke, .inl c3, key_kV h1 hk, rfl⟩, ?_⟩
    rw [rpk_isS c4]
    exact k F1 H1 _ s1 G1 (.vb _)
  | true =>
    refine ⟨A, F, r, m, d1, _, G, e1, fun F1 H1 y s1 G1 h1 => ⟨_, hσ, ?_⟩⟩
    obtain ⟨c1, c2, u, c3, ks, c5, c4⟩ := G1.cl kk a _ hA e2
    subst c5
    refine ⟨a, _, rfl, .inl ⟨ks, ke, .inl c3, key_kV h1 hk, rfl⟩, ?_⟩
    rw [rpk_isS c4]
    exact k F1 H1 _ s1 G1 (.vb _)
theorem qe_dInO (i : Nat) (hu : X.A.units + 1 < cLine) (hb : PE X b (tE X.K U g)) (hv : PE X (.Name y p1) (tVar i)) (hm : behindInMarks .In (.Name y p1) = false := by rfl) : PE X (.Compare b [.In] [.Name y p1] pos) (tE X.K U (eInO i (dinD false) g)) :=
  pe_weak (pe_cmp (pc_din hu hb hv) hm) fun σ H Q h => dinO_read (neg := false) h
theorem qe_dNotInO (i : Nat) (hu : X.A.units + 1 < cLine) (hb : PE X b (tE X.K U g)) (hv : PE X (.Name y p1) (tVar i)) (hm : behindInMarks .NotIn (.Name y p1) = false := by rfl) : PE X (.Compare b [.NotIn] [.Name y p1] pos) (tE X.K U (eInO i (dinD true) g)) :=
  pe_weak (pe_cmp (pc_dnotin hu hb hv) hm) fun σ H Q h => dinO_read (neg := true) h
theorem qt_dInO (i : Nat) (hu : X.A.units + 1 < cLine) (hb : PE X b (tE X.K U g)) (hv : PE X (.Name y p1) (tVar i)) (hm : behindInMarks .In (.Name y p1) = false := by rfl) : PT X (.Compare b [.In] [.Name y p1] pos) (tT X.K U (eT blD (eInO i (dinD false) g))) :=
  pt_weak (pt_cmp (pc_din hu hb hv) hm) fun σ H Q h => tst_read (fun σ H Q h => dinO_read (neg := false) h) h
theorem qt_dNotInO (i : Nat) (hu : X.A.units + 1 < cLine) (hb : PE X b (tE X.K U g)) (hv : PE X (.Name y p1) (tVar i)) (hm : behindInMarks .NotIn (.Name y p1) = false := by rfl) : PT X (.Compare b [.NotIn] [.Name y p1] pos) (tT X.K U (eT blD (eInO i (dinD true) g))) :=
  pt_weak (pt_cmp (pc_dnotin hu hb hv) hm) fun σ H Q h => tst_read (fun σ H Q h => dinO_read (neg := true) h) h
def eDixO (i : Nat) (g : Ev) : Ev := fun r m => (slO r[i]?).bind fun k => (g r m).bind fun p => (cellAt p.2 k).bind fun c => (dixD c p.1).map fun d => (d, p.2)
theorem qe_dIxO (i : Nat) (hu : X.A.units + 1 < cLine) (hv : PE X (.Name y p1) (tVar i)) (hb : PE X b (tE X.K U g)) (hs : NoSl b := by intro _ _; rfl) : PE X (.Subscript (.Name y p1) b pos) (tE X.K U (eDixO i g)) :=
  pe_weak (pe_dget hu hv hb hs) fun σ H Q ⟨A, F, r, m, d, m', G, e, k⟩ => by
    unfold eDixO at e
    obtain ⟨kk, e0, e⟩ := Option.bind_eq_some_iff.mp e
    obtain ⟨a, hA, hσ⟩ := G.ow i kk (slO_some e0)
    obtain ⟨⟨d1, m1⟩, e1, e⟩ := Option.bind_eq_some_iff.mp e
    obtain ⟨c, e2, e⟩ := Option.bind_eq_some_iff.mp e
    obtain ⟨d0, e3, e4⟩ := Option.map_eq_some_iff.mp e
    cases e4
    obtain ⟨ps, ke, rfl, hS, hk, hd⟩ := dix_some e3
    refine ⟨_, hσ, A, F, r, m, d1, _, G, e1, fun F1 H1 y s1 G1 h1 => ?_⟩
    obtain ⟨c1, c2, u, c3, ks, c5, c4⟩ := G1.cl kk a _ hA e2
    subst c5
    rcases rpk_val (k := ke) c4 with ⟨_, z⟩ | ⟨v, d3, z1, z2, z3⟩
    · rw [hd] at z; cases z
    · rw [hd] at z2
      cases z2
      exact ⟨a, v, rfl, .inl ⟨ks, ke, .inl c3, key_kV h1 hk, z1.symm⟩, k F1 H1 v s1 G1 z3⟩
/-- x[c] = v: x a cell -/
def sDput (i : Nat) (f g : Ev) : Es := fun r m => (slO r[i]?).bind fun k => (f r m).bind fun p => (g r p.2).bind fun q => (cellAt q.2 k).bind fun c => match c with
  | .dict ps => (keyD q.1).bind fun ke => if ps.length < sizeLine then some (.nx r (q.2.set k (some (.dict (putP ps ke p.1))))) else none
  | _ => none
theorem qs_dput {i : Nat} {p2 : Pos} (hu : X.A.units + 1 < cLine) (hv : PE X (.Name y p1) (tVar i)) (he : PE X a (tE X.K U f)) (hb : PE X b (tE X.K U g)) (hs : swapsWith a (some (.Subscript (.Name y p1) b p2)) pos.line X.env = pure false := by rfl) :
    PS X (.Assign [.Subscript (.Name y p1) b p2] a pos) (tS X.K U n0 (sDput i f g)) := ps_weak (ps_dput hu hv hb he hs) fun D σ H ⟨A, F, r, m, o, G, hn, e, p⟩ => by
  unfold sDput at e
  obtain ⟨k, e0, e⟩ := Option.bind_eq_some_iff.mp e
  obtain ⟨ad, hA, hσ⟩ := G.ow i k (slO_some e0)
  obtain ⟨⟨d, m1⟩, e1, e⟩ := Option.bind_eq_some_iff.mp e
  obtain ⟨⟨c, m2⟩, e2, e⟩ := Option.bind_eq_some_iff.mp e
  obtain ⟨x, e3, e⟩ := Option.bind_eq_some_iff.mp e
  split at e
  · obtain ⟨ke, hk, e⟩ := Option.bind_eq_some_iff.mp e
    split at e
    · rename_i ps hz
      cases e
      refine ⟨A, F, r, m, d, m1, G, e1, fun F1 H1 v s1 G1 h1 => ⟨_, hσ, A, F1, r, m1, c, m2, G1, e2, fun F2 H2 w s2 G2 h2 => ?_⟩⟩
      obtain ⟨c1, c2, u, c3, ks, c5, c4⟩ := G2.cl k ad _ hA e3
      subst c5
      refine ⟨ad, _, rfl, .inl ⟨ks, ke, c3, key_kV h2 hk, by rw [rpk_len c4]; exact hz, rfl⟩, ?_⟩
      exact p A F2 _ σ (List.prefix_refl A) (s1.trans s2) (G2.setCell hA e3 ⟨_, rfl, rpk_put c4 (Rpm s2 h1)⟩)
    · cases e
  · cases e
/-! ### new ones -/
theorem qn_dct : PE X (.Dict [] [] pos) (tN X.K U eDct) := pe_weak pe_dnewK fun σ H Q ⟨A, F, r, m, d, m', G, e, k⟩ => by
  cases e
  exact fun p np => k F _ p _ (Same.refl F) (G.laidO np) (G.nope np).1 (G.nope np).2 (G.notin np) upd_same ⟨_, rfl, .nil⟩
end
end TL

end
/-! TL38 -/
section
set_option maxHeartbeats 4000000
namespace TL
open PySem L2
/-! ## {k: v for ..} -/
def dcLoop (h : Eh) (t : Et) (fk fv : Ev) (r : Rs) : List PyData → Ms → List (PyData × PyData) → Option (List (PyData × PyData) × Ms)
  | [], m, acc => some (acc, m)
  | d :: ds, m, acc => (h d r).bind fun r1 => (t r1 m).bind fun b => if b.1 = true then (fk r1 b.2).bind fun x => (fv r1 x.2).bind fun y => (keyD x.1).bind fun ke => if acc.length < sizeLine then dcLoop h t fk fv r ds y.2 (putP acc ke y.1) else none else dcLoop h t fk fv r ds b.2 acc
def eDc (fi : Eas) (own : List Nat) (h : Eh) (t : Et) (fk fv : Ev) : Ev := fun r m => (fi r m).bind fun p => (dcLoop h t fk fv (wipeR r own) p.1 p.2 []).map fun q => (.dict q.1, q.2)
/-- what lies at D is another -/
theorem Good.relay {K : PySem.W.Frag} {U : Hp} {A : List Addr} {F H : Hp} {σ : St} {r : Rs} {m : Ms} {D : Addr} {o : HO} (G : Good K U A F H σ r m) (hF : F D = none) (hU : U D = none) (hA : D ∉ A) : Good K U A F (upd H D o) σ r m := by
  refine ⟨fun b x q => ?_, fun b x q => ?_, G.len, G.fz, G.ow, G.al, fun kk a es q1 q2 => ?_, G.nd, fun a qa => ?_⟩
  · have hb : b ≠ D := fun z => by rw [z, hF] at q; cases q
    rw [upd_ne hb]
    exact G.sub b x q
  · have hb : b ≠ D := fun z => by rw [z, hU] at q; cases q
    rw [upd_ne hb]
    exact G.fo b x q
  · obtain ⟨c1, c2, us, c3, c4⟩ := G.cl kk a es q1 q2
    have ha : a ≠ D := fun z => hA (z ▸ List.mem_of_getElem? q1)
    exact ⟨c1, c2, us, by rw [upd_ne ha]; exact c3, c4⟩
  · obtain ⟨o', c1⟩ := G.he a qa
    have hne : a ≠ D := fun z => hA (z ▸ qa)
    exact ⟨o', by rw [upd_ne hne]; exact c1⟩
theorem dc_inner {K : PySem.W.Frag} {U : Hp} {A : List Addr} {F1 H1 : Hp} {σ : St} {r : Rs} {m1 m9 : Ms} {ds : List PyData} {res : List (PyData × PyData)} {J : It} {vsl : List Nat} {is : List Nat} {h : Eh} {t : Et} {fk fv : Ev} {Q : VK} (his : ∀ j ∈ is, j ∈ vsl)
    (G1 : Good K U A F1 H1 σ r m1) (W1 : Wk K U J F1 ds) (e2 : dcLoop h t fk fv (wipeR r vsl) ds m1 [] = some (res, m9))
    (k : ∀ (F' H' : Hp) (a : Addr) (u : HO), Same F1 F' → Good K U A F' H' σ r m9 → F' a = none → U a = none → a ∉ A → H' a = some u → Stored K F' u (.dict res) → Q (.ref a) H') :
    ∀ D, H1 D = none → ∃ W : Nat → Nat → Hp → Prop, (∃ m, W 0 m (upd H1 D (.dK []))) ∧ ∀ i m H, W i m H →
      (J.stop i H ∧ Q (.ref D) H) ∨ (J.go i H ∧ ∃ Nx : Hp → Prop, (∀ H', Nx H' → ∃ m', m' < m ∧ W (i + 1) m' H') ∧ ∀ x H', J.yld i H x H' → (tGX K is h) x (wipe σ vsl) H' fun σ2 H2 => wipe σ2 vsl = wipe σ vsl ∧ (tTX K t) σ2 H2 fun b H3 =>
        if b = true then (tEX K fk) σ2 H3 fun y H4 => (tEX K fv) σ2 H4 fun z H5 => ∃ kvs k, y = kV k ∧ H5 D = some (.dK kvs) ∧ kvs.length < sizeLine ∧ Nx (upd H5 D (.dK (putK kvs k z))) else Nx H3) := by
  intro D nD
  have nA : D ∉ A := G1.notin nD
  have nU : U D = none := (G1.nope nD).2
  refine ⟨fun i mm H2 => mm = ds.length - i ∧ i ≤ ds.length ∧ ∃ (F2 : Hp) (m2 : Ms) (ks : List (Key × V)) (acc : List (PyData × PyData)), Same F1 F2 ∧ Good K U A F2 H2 σ r m2 ∧ H2 D = some (.dK ks) ∧ F2 D = none ∧ RpKv K F2 ks acc ∧
    dcLoop h t fk fv (wipeR r vsl) (ds.drop i) m2 acc = some (res, m9), ⟨ds.length, by simp, Nat.zero_le _, F1, m1, [], [], Same.refl F1, G1.laidO nD, upd_same, (G1.nope nD).1, .nil, by rw [List.drop_zero]; exact e2⟩, ?_⟩
  rintro i mm H2 ⟨rfl, hi2, F2, m2, ks, acc, hF, G2, hD2, hF2, hr2, e3⟩
  by_cases hlt : i < ds.length
  · rw [List.drop_eq_getElem_cons hlt] at e3
    unfold dcLoop at e3
    obtain ⟨r3, e4, e3⟩ := Option.bind_eq_some_iff.mp e3
    obtain ⟨⟨b, m5⟩, e5, e3⟩ := Option.bind_eq_some_iff.mp e3
    have GW := (G2.hold hD2 hF2 nA).wiped vsl
    have sU : Same U (upd U D (.dK ks)) := same_new nU
    obtain ⟨w1, w2⟩ := W1.go _ A _ _ m2 F2 H2 i ds[i] sU hF GW (List.getElem?_eq_getElem hlt)
    have back : ∀ {F' H' : Hp} {σ' : St} {r' : Rs} {m' : Ms}, Same F2 F' → Good K (upd U D (.dK ks)) A F' H' σ' r' m' → Good K U A F' H' σ r m' := fun {F' H' σ' r' m'} s G' => G2.mix G' s sU
    refine .inr ⟨w1, fun H' => ∃ (F' : Hp) (m' : Ms) (ks' : List (Key × V)) (acc' : List (PyData × PyData)), Same F1 F' ∧ Good K U A F' H' σ r m' ∧ H' D = some (.dK ks') ∧ F' D = none ∧ RpKv K F' ks' acc' ∧
      dcLoop h t fk fv (wipeR r vsl) (ds.drop (i + 1)) m' acc' = some (res, m9), fun H' w => ⟨ds.length - (i + 1), by omega, rfl, hlt, w⟩, fun x H3 hy => ?_⟩
    obtain ⟨F3, s3, G3, h3⟩ := w2 x H3 hy
    refine ⟨upd U D (.dK ks), A, F3, _, m2, ds[i], r3, G3, h3, e4, fun σ4 G4 k4 l4 => ⟨?_, ?_⟩⟩
    · exact (wipe_eq l4 fun j hj => k4 j fun z => hj (his j z)).trans wipe_twice
    · refine ⟨upd U D (.dK ks), A, F3, r3, m2, b, m5, G4, e5, fun F5 H5 s5 G5 => ?_⟩
      cases b with
      | false =>
        refine iteF ?_
        have fo5 := G5.fo D _ upd_same
        exact ⟨F5, m5, ks, acc, hF.trans (s3.trans s5), back (s3.trans s5) G5, fo5.1, fo5.2, Rpkm (s3.trans s5) hr2, e3⟩
      | true =>
        refine iteT ?_
        rw [if_pos rfl] at e3
        obtain ⟨⟨c6, m6⟩, e6, e3⟩ := Option.bind_eq_some_iff.mp e3
        obtain ⟨⟨d7, m7⟩, e7, e3⟩ := Option.bind_eq_some_iff.mp e3
        obtain ⟨ke, e8, e3⟩ := Option.bind_eq_some_iff.mp e3
        split at e3
        · rename_i hz
          refine ⟨upd U D (.dK ks), A, F5, r3, m5, c6, m6, G5, e6, fun F6 H6 y s6 G6 h6 => ⟨upd U D (.dK ks), A, F6, r3, m6, d7, m7, G6, e7, fun F7 H7 z s7 G7 h7 => ?_⟩⟩
          have fo7 := G7.fo D _ upd_same
          have s27 : Same F2 F7 := s3.trans (s5.trans (s6.trans s7))
          exact ⟨ks, ke, key_kV h6 e8, fo7.1, by rw [rpk_len hr2]; exact hz, F7, m7, _, _, hF.trans s27, (back s27 G7).relay fo7.2 nU nA, upd_same, fo7.2, rpk_put (Rpkm s27 hr2) h7, e3⟩
        · cases e3
  · have ei : i = ds.length := by omega
    subst ei
    rw [List.drop_length] at e3
    cases e3
    exact .inl ⟨W1.stop F2 H2 (fun b o e => (G2.fo b o e).1) hF G2.sub, k F2 H2 D _ hF G2 hF2 nU nA hD2 ⟨ks, rfl, hr2⟩⟩
section
variable {X : Cx} {U : Hp} {kx vx tg iter : Expr} {ifs : List Expr} {scope : Scope} {own : List (Str × Nat)} {pos : Pos} {fi : Eas} {is : List Nat} {h : Eh} {t : Et} {fk fv : Ev}
theorem dc_read (his : ∀ j ∈ is, j ∈ own.map (·.2)) {σ : St} {H : Hp} {Q : VK} (hq : tN X.K U (eDc fi (own.map (·.2)) h t fk fv) σ H Q) :
    tDc (tIt X.K U fi) (tGX X.K is h) (tTX X.K t) (tEX X.K fk) (tEX X.K fv) (own.map (·.2)) σ H Q := by
  obtain ⟨A, F, r, m, d, m', G, e, k⟩ := hq
  unfold eDc at e
  obtain ⟨⟨ds, m1⟩, e1, e⟩ := Option.bind_eq_some_iff.mp e
  obtain ⟨⟨res, m9⟩, e2, e⟩ := Option.map_eq_some_iff.mp e
  cases e
  exact ⟨A, F, r, m, ds, m1, G, e1, fun F1 H1 J s1 G1 W1 => dc_inner his G1 W1 e2 fun F' H' a u s G' q1 q2 q3 q4 q5 => k F' H' a u (s1.trans s) G' q1 q2 q3 q4 q5⟩
theorem qn_dc (hc : X.calm = true) (hN : X.N.Nodup) (hi : PI X tg iter (tIt X.K U fi)) (ok : BlkOk X.N X.env.scope scope own) (his : ∀ j ∈ is, j ∈ own.map (·.2))
    (hg : ∀ (U : Hp) (s : Shared) (H : Hp) (C : Addr) (cl : List (Str × Addr)) (fp : List Addr), PG (X.blk s H scope (compEnvC scope cl C X.env) fp) tg (tG X.K U is h))
    (ht : ∀ (U : Hp) (s : Shared) (H : Hp) (C : Addr) (cl : List (Str × Addr)) (fp : List Addr), PTs (X.blk s H scope (compEnvC scope cl C X.env) fp) ifs (tT X.K U t))
    (hk : ∀ (U : Hp) (s : Shared) (H : Hp) (C : Addr) (cl : List (Str × Addr)) (fp : List Addr), PE (X.blk s H scope (compEnvC scope cl C X.env) fp) kx (tE X.K U fk))
    (he : ∀ (U : Hp) (s : Shared) (H : Hp) (C : Addr) (cl : List (Str × Addr)) (fp : List Addr), PE (X.blk s H scope (compEnvC scope cl C X.env) fp) vx (tE X.K U fv)) (hs : ∀ x, foldedSetIterable iter X.env x = pure x := by intro _; rfl) :
    PE X (.DictComp kx vx [⟨tg, iter, ifs, 0⟩] scope pos) (tN X.K U (eDc fi (own.map (·.2)) h t fk fv)) :=
  pe_weak (pe_dc hc hN hi ok (fun s H C cl fp => pg_all fun U => hg U s H C cl fp) (fun s H C cl fp => pts_all fun U => ht U s H C cl fp) (fun s H C cl fp => pe_all fun U => hk U s H C cl fp) (fun s H C cl fp => pe_all fun U => he U s H C cl fp) hs) fun σ H Q q => dc_read his q
end
/-! ## dict(..) of pairs, sorted(..), list(..), dict(..) of a dict -/
def pairP : PyData → Option (Key × PyData)
  | .tuple [c, d] => (keyD c).map fun k => (k, d)
  | _ => none
def mergeP (ps : List (PyData × PyData)) (more : List (Key × PyData)) : List (PyData × PyData) := more.foldl (fun acc kv => putP acc kv.1 kv.2) ps
def dictN : List PyData → Option PyData
  | [.list ds] => (ds.mapM pairP).map fun qs => .dict (mergeP [] qs)
  | _ => none
def intKey : PyData × PyData → Option Int
  | (.int i, _) => some i
  | _ => none
def sortDI : List PyData → Option PyData
  | [.dict ps] => (ps.mapM intKey).bind fun is => if is.length < 64 then some (.list ((is.mergeSort fun a b => decide (a ≤ b)).map .int)) else none
  | _ => none
def listDk : List PyData → Option PyData
  | [.dict ps] => if isSetD (.dict ps) = true then none else some (.list (ps.map (·.1)))
  | _ => none
section
variable {K : PySem.W.Frag} {F : Hp}
theorem rpk_merge : ∀ {more : List (Key × PyData)} {mv : List (Key × V)} {ks : List (Key × V)} {ps : List (PyData × PyData)}, Paired (fun p q => p.1 = q.1 ∧ Rp K F q.2 p.2) more mv → RpKv K F ks ps → RpKv K F (mergeK ks mv) (mergeP ps more)
  | [], _, _, _, q, h => by cases q; exact h
  | (k, d) :: more, _, _, _, q, h => by
    cases q with
    | @cons _ z _ _ q1 q2 =>
      obtain ⟨k2, v⟩ := z
      obtain ⟨e, q1⟩ := q1
      cases e
      show RpKv K F (mergeK (putK _ k v) _) (mergeP (putP _ k d) more)
      exact rpk_merge (more := more) q2 (rpk_put h q1)
theorem pairs_read : ∀ {ds : List PyData} {vs : List V} {qs : List (Key × PyData)}, RpAll K F vs ds → ds.mapM pairP = some qs →
    ∃ (ad : List Addr) (mv : List (Key × V)), vs = ad.map V.ref ∧ Paired (fun p kv => SqT K F p [kV kv.1, kv.2]) ad mv ∧ Paired (fun p q => p.1 = q.1 ∧ Rp K F q.2 p.2) qs mv
  | [], _, _, h, e => by
    cases h
    cases e
    exact ⟨[], [], rfl, .nil, .nil⟩
  | d :: ds, _, _, h, e => by
    cases h with
    | cons h1 h2 =>
      rw [List.mapM_cons] at e
      obtain ⟨⟨k, x⟩, e1, e⟩ := Option.bind_eq_some_iff.mp e
      obtain ⟨qs, e2, e⟩ := Option.bind_eq_some_iff.mp e
      cases e
      obtain ⟨ad, mv, a1, a2, a3⟩ := pairs_read h2 e2
      unfold pairP at e1
      split at e1
      · obtain ⟨k2, e3, e4⟩ := Option.map_eq_some_iff.mp e1
        cases e4
        cases h1 with
        | vt sa ra =>
          obtain ⟨v, w, rfl, g1, g2⟩ := rpa2 ra
          rw [key_kV g1 e3] at sa
          exact ⟨_ :: ad, (k, w) :: mv, by rw [List.map_cons, a1], .cons sa a2, .cons ⟨rfl, g2⟩ a3⟩
      · cases e1
theorem ints_read : ∀ {ps : List (PyData × PyData)} {ks : List (Key × V)} {is : List Int}, RpKv K F ks ps → (ps.mapM intKey) = some is → ks.map (·.1) = is.map Sum.inl
  | [], _, _, h, e => by
    cases h
    cases e
    rfl
  | (c, d) :: ps, _, _, h, e => by
    cases h with
    | @cons k _ _ _ _ h1 h2 =>
      rw [List.mapM_cons] at e
      obtain ⟨i, e1, e⟩ := Option.bind_eq_some_iff.mp e
      obtain ⟨is, e2, e⟩ := Option.bind_eq_some_iff.mp e
      cases e
      rw [List.map_cons, List.map_cons, ints_read h2 e2]
      cases k with
      | inl j => cases e1; rfl
      | inr x => cases e1
theorem rpa_keys : ∀ {ks : List (Key × V)} {ps : List (PyData × PyData)}, RpKv K F ks ps → RpAll K F (ks.map fun p => kV p.1) (ps.map (·.1))
  | _, _, .nil => .nil
  | _, _, .cons (k := k) h t => by
    rw [List.map_cons, List.map_cons]
    refine .cons ?_ (rpa_keys t)
    cases k with
    | inl i => exact .vi i
    | inr x => exact .vs x
end
section
variable {X : Cx} {U : Hp}
theorem sqT_all {K : PySem.W.Frag} {F H : Hp} (s : Same F H) : ∀ {ad : List Addr} {mv : List (Key × V)}, Paired (fun p kv => SqT K F p [kV kv.1, kv.2]) ad mv → Paired (fun p kv => SqT K H p [kV kv.1, kv.2]) ad mv
  | _, _, .nil => .nil
  | _, _, .cons h t => .cons (seqT_mono s h) (sqT_all s t)
abbrev rDictP (X : Cx) : List V → Hp → VK → Prop := fun xs H Q => ∃ (a : Addr) (ps : List Addr) (kvs : List (Key × V)), xs = [.ref a] ∧ SqL X.K H a (ps.map V.ref) ∧ Paired (fun p kv => SqT X.K H p [kV kv.1, kv.2]) ps kvs ∧
    ∀ p, H p = none → Q (.ref p) (upd H p (.dK (mergeK [] kvs)))
theorem cn_dict : CallN X U (rDictP X) dictN := by
  intro A F H σ r m vs ds d Q G ha e k
  unfold dictN at e
  split at e
  · obtain ⟨qs, e1, e2⟩ := Option.map_eq_some_iff.mp e
    cases e2
    obtain ⟨v, rfl, h⟩ := rpa1 ha
    cases h with
    | vl sa ra =>
      obtain ⟨ad, mv, rfl, a2, a3⟩ := pairs_read ra e1
      exact ⟨_, ad, mv, rfl, sqL_mono G.sub sa, sqT_all G.sub a2, fun p np => k F _ p _ (Same.refl F) (G.laidO np) (G.nope np).1 (G.nope np).2 (G.notin np) upd_same ⟨_, rfl, rpk_merge a3 .nil⟩⟩
  · cases e
abbrev rSortDI : List V → Hp → VK → Prop := fun xs H Q => ∃ (a : Addr) (kvs : List (Key × V)) (ks : List Int), xs = [.ref a] ∧ Rd H a (.dK kvs) ∧ kvs.map (·.1) = ks.map Sum.inl ∧ ks.length < 64 ∧
    ∀ (ys : List Int) (p : Addr), ys.Perm ks → ys.Pairwise (· ≤ ·) → H p = none → Q (.ref p) (upd H p (.lst (ys.map V.int)))
theorem sort_one {is ys : List Int} (p : ys.Perm is) (s : ys.Pairwise (· ≤ ·)) : ys = is.mergeSort fun a b => decide (a ≤ b) := by
  have h1 : (is.mergeSort fun a b => decide (a ≤ b)).Pairwise (fun a b => a ≤ b) := by
    have := List.pairwise_mergeSort (le := fun a b : Int => decide (a ≤ b)) (fun a b c h1 h2 => by simp at h1 h2 ⊢; omega) (fun a b => by simp; omega) is
    exact this.imp fun h => by simpa using h
  exact List.Perm.eq_of_pairwise (le := fun a b : Int => a ≤ b) (fun a b _ _ h1 h2 => Int.le_antisymm h1 h2) s h1 (p.trans (List.mergeSort_perm is _).symm)
theorem cn_sortDI : CallN X U rSortDI sortDI := by
  intro A F H σ r m vs ds d Q G ha e k
  unfold sortDI at e
  split at e
  · obtain ⟨is, e1, e2⟩ := Option.bind_eq_some_iff.mp e
    split at e2
    · rename_i h64
      cases e2
      obtain ⟨v, rfl, h⟩ := rpa1 ha
      cases h with
      | vd sa ra => exact ⟨_, _, is, rfl, rd_mono G.sub sa, ints_read ra e1, h64, fun ys p h1 h2 np => by
          rw [sort_one h1 h2]
          exact k F _ p _ (Same.refl F) (G.laidO np) (G.nope np).1 (G.nope np).2 (G.notin np) upd_same ⟨_, rfl, rpa_ints _⟩⟩
      | vx _ _ _ => cases e1
    · cases e2
  · cases e
abbrev rListDk : List V → Hp → VK → Prop := fun xs H Q => ∃ (a : Addr) (kvs : List (Key × V)), xs = [.ref a] ∧ Rd H a (.dK kvs) ∧ ∀ p, H p = none → Q (.ref p) (upd H p (.lst (kvs.map fun kv => kV kv.1)))
theorem cn_listDk : CallN X U rListDk listDk := by
  intro A F H σ r m vs ds d Q G ha e k
  unfold listDk at e
  split at e
  · split at e
    · cases e
    rename_i hS
    cases e
    obtain ⟨v, rfl, h⟩ := rpa1 ha
    cases h with
    | vd sa ra => exact ⟨_, _, rfl, rd_mono G.sub sa, fun p np => k F _ p _ (Same.refl F) (G.laidO np) (G.nope np).1 (G.nope np).2 (G.notin np) upd_same ⟨_, rfl, rpa_keys ra⟩⟩
    | vx _ _ _ => exact absurd rfl hS
  · cases e
end
end TL

end
/-! TL39 -/
section
set_option maxHeartbeats 4000000
namespace TL
open PySem L2
theorem room1 {k : Nat} {A : Around} (r : Room k A) : A.units + 1 < cLine := by have := r.un; omega
/-! ## sets of tuples of whole numbers -/
def intOf : PyData → Option Int
  | .int i => some i
  | _ => none
def intsT : PyData → Option (List Int)
  | .tuple es => es.mapM intOf
  | _ => none
abbrev tupI (ks : List Int) : PyData := .tuple (ks.map .int)
abbrev setT (kss : List (List Int)) : PyData := .dict [(.none, .list (kss.map tupI))]
def setOfD : List PyData → Option PyData
  | [.list ds] => if ds.length < 64 then (ds.mapM intsT).map setT else none
  | _ => none
def tinB (c e : PyData) : Option Bool := match e with
  | .dict [(.none, .list ds)] => (intsT c).bind fun ky => (ds.mapM intsT).map fun kss => decide (ky ∈ kss)
  | _ => none
def tinD (neg : Bool) (c e : PyData) : Option PyData := (tinB c e).map fun b => .bool (if neg then !b else b)
theorem mapM_ints : ∀ ks : List Int, (ks.map PyData.int).mapM intOf = some ks
  | [] => rfl
  | k :: ks => by
    rw [List.map_cons, List.mapM_cons, mapM_ints ks]
    rfl
theorem intsT_tupI (ks : List Int) : intsT (tupI ks) = some ks := mapM_ints ks
theorem mapM_tups : ∀ kss : List (List Int), (kss.map tupI).mapM intsT = some kss
  | [] => rfl
  | ks :: kss => by
    rw [List.map_cons, List.mapM_cons, mapM_tups kss, intsT_tupI]
    rfl
section
variable {K : PySem.W.Frag} {F : Hp}
theorem ints_vals : ∀ {vs : List V} {es : List PyData} {ky : List Int}, RpAll K F vs es → es.mapM intOf = some ky → vs = ky.map V.int
  | [], _, _, h, e => by
    cases h
    cases e
    rfl
  | v :: vs, _, _, h, e => by
    cases h with
    | cons h1 h2 =>
      rw [List.mapM_cons] at e
      obtain ⟨i, e1, e⟩ := Option.bind_eq_some_iff.mp e
      obtain ⟨is, e2, e⟩ := Option.bind_eq_some_iff.mp e
      cases e
      rw [List.map_cons, ints_vals h2 e2]
      unfold intOf at e1
      split at e1
      · cases e1
        cases h1
        rfl
      · cases e1
theorem tup_ints {v : V} {d : PyData} {ky : List Int} (h : Rp K F v d) (e : intsT d = some ky) : ∃ t, v = .ref t ∧ SqT K F t (ky.map V.int) := by
  unfold intsT at e
  split at e
  · cases h with
    | vt sa ra =>
      rw [ints_vals ra e] at sa
      exact ⟨_, rfl, sa⟩
  · cases e
theorem tups_read : ∀ {vs : List V} {ds : List PyData} {kss : List (List Int)}, RpAll K F vs ds → ds.mapM intsT = some kss →
    ∃ ks : List (Addr × List Int), vs = ks.map (fun p => V.ref p.1) ∧ ks.map (·.2) = kss ∧ ∀ p ∈ ks, SqT K F p.1 (p.2.map V.int)
  | [], _, _, h, e => by
    cases h
    cases e
    exact ⟨[], rfl, rfl, fun p hp => by cases hp⟩
  | v :: vs, _, _, h, e => by
    cases h with
    | cons h1 h2 =>
      rw [List.mapM_cons] at e
      obtain ⟨ky, e1, e⟩ := Option.bind_eq_some_iff.mp e
      obtain ⟨kss, e2, e⟩ := Option.bind_eq_some_iff.mp e
      cases e
      obtain ⟨t, rfl, sq⟩ := tup_ints h1 e1
      obtain ⟨ks, a1, a2, a3⟩ := tups_read h2 e2
      refine ⟨(t, ky) :: ks, by rw [List.map_cons, a1], by rw [List.map_cons, a2], fun p hp => ?_⟩
      rcases List.mem_cons.mp hp with q | q
      · rw [q]; exact sq
      · exact a3 p q
end
section
variable {X : Cx} {U : Hp}
def rSetZ (K : PySem.W.Frag) : List V → Hp → VK → Prop := fun xs H Q => ∃ (l : Addr) (ks : List (Addr × List Int)), xs = [V.ref l] ∧ SqL K H l (ks.map fun p => V.ref p.1) ∧ (∀ p ∈ ks, SqT K H p.1 (p.2.map V.int)) ∧ ks.length < 64 ∧
  ∀ (b : Addr) (L : List (Addr × List Int)), H b = none → (∀ p ∈ L, p ∈ ks) → (∀ p ∈ ks, p.2 ∈ L.map (·.2)) → Q (.ref b) (upd H b (SetHO b L))
theorem call_setZ (hc : X.calm = true) (hu : X.A.units + 64 < cLine) : CallR X (.type "set") (rSetZ X.K) := by
  intro pins s σ H xs us Q I r h
  obtain ⟨l, ks, rfl, hl, hk, hf, q⟩ := h
  rw [Vals.ref1 r]
  obtain ⟨its, rv, pl, _⟩ := I.list hl
  have fresh : H s.heap.objs.size = none := I.hok.fresh (Nat.le_refl _)
  refine call_set_tups (P := X.prog) (w := X.w) ks (I.ok.hd hc) pl.isList (by simpa using refs_of_vals rv) (fun p hp => I.isT (hk p hp)) hf (by omega) fun h' tk L es ep t R g k => ?_
  have z : SetZ h' s.heap.objs.size L := ⟨es, ep, t, R.ob, R.rows, R.tab, R.room⟩
  exact ⟨.ref s.heap.objs.size, _, I.laid (t' := tk) k (Nat.le_refl _) (setZ_new z), rfl, q _ L fresh (fun p hp => List.mem_of_mem_take (g.sub p hp)) fun p hp => g.all p (by rw [List.take_length]; exact hp)⟩
theorem cd_setZ : CallD X U (rSetZ X.K) setOfD := by
  intro A F H σ r m vs ds d Q G ha e k
  unfold setOfD at e
  split at e
  · split at e
    · rename_i hz
      obtain ⟨kss, e1, e2⟩ := Option.map_eq_some_iff.mp e
      cases e2
      obtain ⟨v, rfl, h⟩ := rpa1 ha
      cases h with
      | vl sa ra =>
        obtain ⟨ks, rfl, rfl, hk⟩ := tups_read ra e1
        refine ⟨_, ks, rfl, sqL_mono G.sub sa, fun p hp => seqT_mono G.sub (hk p hp), ?_, fun b L nb h1 h2 => ?_⟩
        · have := rpa_len ra
          rw [List.length_map] at this
          omega
        · have sF : Same F (upd F b (SetHO b L)) := same_new (G.nope nb).1
          refine k _ _ _ sF (G.laid nb) (.vx upd_same (fun p hp => seqT_mono sF (hk p (h1 p hp))) fun ky => ⟨fun hm => ?_, fun hm => ?_⟩)
          · obtain ⟨p, hp, rfl⟩ := List.mem_map.mp hm
            exact h2 p hp
          · obtain ⟨p, hp, rfl⟩ := List.mem_map.mp hm
            exact List.mem_map_of_mem (h1 p hp)
    · cases e
  · cases e
def rInZ (K : PySem.W.Frag) : R2 := fun x y H Q => ∃ (t b : Addr) (ky : List Int) (L : List (Addr × List Int)), x = .ref t ∧ y = .ref b ∧ SqT K H t (ky.map V.int) ∧ H b = some (SetHO b L) ∧ (∀ p ∈ L, SqT K H p.1 (p.2.map V.int)) ∧ Q (.bl (decide (ky ∈ L.map (·.2)))) H
theorem op_inZ (hu : X.A.units + 65 < cLine) : OpR X (compareOp .In) (rInZ X.K) := by
  intro pins s σ H x y v u Q I rx ry h
  obtain ⟨t, b, ky, L, rfl, rfl, ht, hb, hL, q⟩ := h
  cases rx
  cases ry
  exact in_setZ (P := X.prog) (w := X.w) (setZ_at I.hok hb) (fun p hp => I.isT (hL p hp)) (I.isT ht) (by omega) fun tk => ⟨.bl _, H, I.tok _, rfl, q⟩
theorem tin_some {c e : PyData} {b : Bool} (h : tinB c e = some b) : ∃ ds ky kss, e = .dict [(.none, .list ds)] ∧ intsT c = some ky ∧ ds.mapM intsT = some kss ∧ b = decide (ky ∈ kss) := by
  unfold tinB at h
  split at h
  · obtain ⟨ky, e1, e2⟩ := Option.bind_eq_some_iff.mp h
    obtain ⟨kss, e3, e4⟩ := Option.map_eq_some_iff.mp e2
    exact ⟨_, ky, kss, rfl, e1, e3, e4.symm⟩
  · cases h
theorem rp_set {K : PySem.W.Frag} {F : Hp} {v : V} {ds : List PyData} {d : PyData} (h : Rp K F v d) (e : d = .dict [(.none, .list ds)]) :
    ∃ (b : Addr) (L : List (Addr × List Int)) (kss : List (List Int)), v = .ref b ∧ ds = kss.map tupI ∧ F b = some (SetHO b L) ∧ (∀ p ∈ L, SqT K F p.1 (p.2.map V.int)) ∧ ∀ ky, ky ∈ kss ↔ ky ∈ L.map (·.2) := by
  cases h with
  | vd sa ra =>
    injection e with e
    subst e
    generalize ho : PyData.none = nn at ra
    cases ra with
    | @cons k0 _ _ _ _ _ _ => cases k0 <;> cases ho
  | vx hF hL hm =>
    injection e with e
    injection e with e _
    injection e with _ e
    injection e with e
    exact ⟨_, _, _, rfl, e.symm, hF, hL, hm⟩
  | _ => cases e
theorem od_inZ : OpD X U (rInZ X.K) (tinD false) := by
  intro A F H σ r m x y a b d Q G hx hy e k
  unfold tinD at e
  obtain ⟨b0, e0, e⟩ := Option.map_eq_some_iff.mp e
  cases e
  obtain ⟨ds, ky, kss, rfl, e1, e3, rfl⟩ := tin_some e0
  obtain ⟨ad, L, kss2, rfl, rfl, hF, hL, hm⟩ := rp_set hy rfl
  have e5 : (kss2.map tupI).mapM intsT = some kss2 := mapM_tups kss2
  have e6 : kss = kss2 := Option.some.inj (e3.symm.trans e5)
  subst e6
  obtain ⟨t, rfl, sq⟩ := tup_ints hx e1
  refine ⟨t, _, ky, L, rfl, rfl, seqT_mono G.sub sq, G.sub _ _ hF, fun p hp => seqT_mono G.sub (hL p hp), ?_⟩
  have eb : decide (ky ∈ L.map (·.2)) = decide (ky ∈ kss) := decide_eq_decide.mpr (hm ky).symm
  rw [eb]
  exact k F H _ (Same.refl F) G (.vb _)
end
/-! ## zip(a, b) of two lists, each pair to a name -/
def zipL : List PyData → Option (List PyData)
  | [.list a, .list b] => some (zipD a b)
  | _ => none
def eZipN (f : Eas) : Eas := fun r m => (f r m).bind fun p => (zipL p.1).map fun ds => (ds, p.2)
theorem qi_zipN {X : Cx} {U : Hp} {a b : Expr} {fs : Eas} {p pos py : Pos} {y : Str} (hg : Gl X "zip") (hm : X.mg "zip" = none) (ha : PA X [a, b] (tAs X.K U fs)) (hs : starEach [a, b] X.env = (false, eval a X.env) :: starEach [b] X.env := by rfl) (hpl : (backTo pos (starEach [b] X.env)).any (·.1) = false := by rfl) :
    PI X (.Name y py) (.Call (.Name "zip" p) [a, b] [] pos) (tIt X.K U (eZipN fs)) := by
  refine ⟨fun pins s σ H R I ⟨A, F, r, m, ds, m', G, e0, k⟩ => (pi_zipN hg hm ha hs hpl).run pins s σ H R I ?_⟩
  unfold eZipN at e0
  obtain ⟨⟨es, m1⟩, e1, e2⟩ := Option.bind_eq_some_iff.mp e0
  obtain ⟨zs, e3, e4⟩ := Option.map_eq_some_iff.mp e2
  cases e4
  dsimp only at e3
  refine ⟨A, F, r, m, es, _, G, e1, fun F1 H1 vs s1 G1 h1 => ?_⟩
  unfold zipL at e3
  split at e3
  · cases e3
    obtain ⟨v, w, rfl, h, h'⟩ := rpa2 h1
    cases h with
    | vl sa ra => cases h' with
      | vl sb rb => exact ⟨_, _, _, _, rfl, sqL_mono G1.sub sa, sqL_mono G1.sub sb, k F1 H1 _ s1 G1 (wk_zip sa ra sb rb)⟩
  · cases e3
theorem w_setOf {kss : List (List Int)} {R : PyData → Prop} (hl : kss.length < 64) (q : R (setT kss)) : W (setOfD [.list (kss.map tupI)]) R := by
  unfold setOfD
  refine W.guard (by rw [List.length_map]; exact hl) ?_
  rw [mapM_tups]
  exact .mk q
theorem w_tin {ky : List Int} {kss : List (List Int)} {R : PyData → Prop} (q : R (.bool (decide (ky ∈ kss)))) : W (tinD false (tupI ky) (setT kss)) R := by
  unfold tinD tinB
  rw [intsT_tupI]
  simp only [Option.bind_some, mapM_tups, Option.map_some]
  exact .mk q
/-- a step range of any small step -/
def rgN (i j c : Int) : Nat := (Builtin.Range.rangeSize i j c).toNat
instance {i j c : Int} {n : Nat} : Decidable (RgC i j c n) := by unfold RgC; infer_instance
def eRg3p (f : Eas) : Eas := fun r m => (f r m).bind fun p => match p.1 with
  | [.int i, .int j, .int c] => if RgC i j c (rgN i j c) then some (rangeC i c (rgN i j c), p.2) else none
  | _ => none
theorem qi_range3p {X : Cx} {U : Hp} {tg : Expr} {a b c : Expr} {fs : Eas} {p pos : Pos} (hg : Gl X "range") (hm : X.mg "range" = none) (ha : PA X [a, b, c] (tAs X.K U fs)) (hs : starEach [a, b, c] X.env = (false, eval a X.env) :: starEach [b, c] X.env := by rfl) (hpl : (backTo pos (starEach [b, c] X.env)).any (·.1) = false := by rfl) :
    PI X tg (.Call (.Name "range" p) [a, b, c] [] pos) (tIt X.K U (eRg3p fs)) := by
  refine ⟨fun pins s σ H R I ⟨A, F, r, m, ds, m', G, e0, k⟩ => ?_⟩
  unfold eRg3p at e0
  obtain ⟨⟨es, m1⟩, e1, e2⟩ := Option.bind_eq_some_iff.mp e0
  dsimp only at e2
  split at e2
  · split at e2
    · rename_i i j c hj
      cases e2
      refine (pi_range3 hg hm ha hs hpl).run pins s σ H R I ⟨A, F, r, m, _, m', G, e1, fun F1 H1 vs s1 G1 h1 => ?_⟩
      cases h1 with
      | cons g1 t1 => cases t1 with
        | cons g2 t2 => cases t2 with
          | cons g3 t3 =>
            cases t3
            cases g1
            cases g2
            cases g3
            exact ⟨i, j, c, _, rfl, hj, k F1 H1 _ s1 G1 wk_rangeC⟩
    · cases e2
  · cases e2
theorem w_rg3p {fs : Eas} {r : Rs} {m : Ms} {QL : List PyData × Ms → Prop} (h : W (fs r m) fun p => ∃ i j c, p.1 = [.int i, .int j, .int c] ∧ RgC i j c (rgN i j c) ∧ QL (rangeC i c (rgN i j c), p.2)) : W (eRg3p fs r m) QL := W.bind (W.mono h fun ⟨l, m1⟩ ⟨i, j, c, e, h1, h2⟩ => by
  simp only at e
  subst e
  exact W.guard h1 (.mk h2))
theorem w_mulL {ds : List PyData} {n : Int} {R : PyData → Prop} (hl : ds.length ≤ 64) (h0 : 0 ≤ n) (h1 : n ≤ 64) (q : R (.list (repL n ds))) : W (mulN (.list ds) (.int n)) R := W.guard ⟨hl, h0, h1⟩ (.mk q)
end TL

end
/-! TL40 -/
section
set_option maxHeartbeats 4000000
namespace TL
open PySem L2
section
variable {K : PySem.W.Frag} {U F H : Hp} {A B : List Addr} {σ : St} {r : Rs} {m : Ms} {p a : Addr} {u u' : HO} {k : Nat} {d : PyData}
theorem frzR_id {r : Rs} (h : ∀ (i j : Nat), r[i]? = some (.ow j) → j ≠ k) : frzR k d r = r := by
  unfold frzR
  refine List.ext_getElem? fun i => ?_
  rw [List.getElem?_map]
  cases e : r[i]? with
  | none => rfl
  | some s =>
    cases s with
    | un => rfl
    | fz d => rfl
    | ow j =>
      show some (if j = k then Sl.fz d else Sl.ow j) = some (Sl.ow j)
      rw [if_neg (h i j e)]
theorem addr_ne {A : List Addr} {j k : Nat} {a p : Addr} (nd : A.Nodup) (h1 : A[j]? = some a) (h2 : A[k]? = some p) (hjk : j ≠ k) : a ≠ p := fun z => by
  subst z
  obtain ⟨l1, q1⟩ := List.getElem?_eq_some_iff.mp h1
  obtain ⟨l2, q2⟩ := List.getElem?_eq_some_iff.mp h2
  exact hjk ((List.getElem_inj nd).mp (q1.trans q2.symm))
/-- a cell is set among what stands outside -/
theorem Good.hide (G : Good K U A F H σ r m) (hk : A[k]? = some p) (h0 : cellAt m k = some d) : U p = none ∧ ∃ u, H p = some u ∧ Stored K F u d ∧ Good K (upd U p u) A F H σ r (m.set k none) := by
  obtain ⟨hF, hU, u, hH, hs⟩ := G.cl k p d hk h0
  refine ⟨hU, u, hH, hs, G.sub, fun b o e => ?_, G.len, G.fz, G.ow, by rw [List.length_set]; exact G.al, fun j a es e1 e2 => ?_, G.nd, G.he⟩
  · by_cases hb : b = p
    · subst hb
      rw [upd_same] at e
      cases e
      exact ⟨hH, hF⟩
    · rw [upd_ne hb] at e
      exact G.fo b o e
  · by_cases hjk : j = k
    · subst hjk
      rw [cellAt_self (cellAt_lt h0)] at e2
      cases e2
    · rw [cellAt_ne hjk] at e2
      obtain ⟨h1, h2, us, h3, h4⟩ := G.cl j a es e1 e2
      exact ⟨h1, by rw [upd_ne (addr_ne G.nd e1 hk hjk)]; exact h2, us, h3, h4⟩
/-- and it comes back -/
theorem Good.bare (G : Good K (upd U p u) A F H σ r m) (hU : U p = none) (hk : A[k]? = some p) (hm : k < m.length) (h : Stored K F u d) : Good K U A F H σ r (m.set k (some d)) := by
  have hp := G.fo p u upd_same
  refine ⟨G.sub, fun b o e => ?_, G.len, G.fz, G.ow, by rw [List.length_set]; exact G.al, fun j a es e1 e2 => ?_, G.nd, G.he⟩
  · have hb : b ≠ p := fun z => by rw [z, hU] at e; cases e
    exact G.fo b o (by rw [upd_ne hb]; exact e)
  · by_cases hjk : j = k
    · subst hjk
      rw [cellAt_self hm] at e2
      cases e2
      rw [hk] at e1
      cases e1
      exact ⟨hp.2, hU, u, hp.1, h⟩
    · rw [cellAt_ne hjk] at e2
      obtain ⟨h1, h2, us, h3, h4⟩ := G.cl j a es e1 e2
      rw [upd_ne (addr_ne G.nd e1 hk hjk)] at h2
      exact ⟨h1, h2, us, h3, h4⟩
/-- what stands outside is changed -/
theorem Good.reU (G : Good K (upd U p u) A F H σ r m) : Good K (upd U p u') A F (upd H p u') σ r m := by
  have hp := G.fo p u upd_same
  refine ⟨fun b o e => ?_, fun b o e => ?_, G.len, G.fz, G.ow, G.al, fun j a es e1 e2 => ?_, G.nd, fun a ha => ?_⟩
  · have hb : b ≠ p := fun z => by rw [z, hp.2] at e; cases e
    rw [upd_ne hb]
    exact G.sub b o e
  · by_cases hb : b = p
    · subst hb
      rw [upd_same] at e
      cases e
      exact ⟨upd_same, hp.2⟩
    · rw [upd_ne hb] at e ⊢
      exact G.fo b o (by rw [upd_ne hb]; exact e)
  · obtain ⟨h1, h2, us, h3, h4⟩ := G.cl j a es e1 e2
    have hb : a ≠ p := fun z => by rw [z, upd_same] at h2; cases h2
    rw [upd_ne hb] at h2
    exact ⟨h1, by rw [upd_ne hb]; exact h2, us, by rw [upd_ne hb]; exact h3, h4⟩
  · by_cases hb : a = p
    · exact ⟨u', by rw [hb]; exact upd_same⟩
    · obtain ⟨o', h1⟩ := G.he a ha
      exact ⟨o', by rw [upd_ne hb]; exact h1⟩
theorem Good.more (G : Good K U A F H σ r m) (hF : F a = none) (hU : U a = none) (hA : a ∉ A) (hH : H a = some u) (h : Stored K F u d) : Good K U (A ++ [a]) F H σ r (m ++ [some d]) := by
  have := G.setOw (i := r.length) hF hU hA hH h
  rwa [List.set_eq_of_length_le (by rw [G.len]; exact Nat.le_refl _), List.set_eq_of_length_le (Nat.le_refl _)] at this
theorem Good.less (G : Good K U (A ++ B) F H σ r m) (h : ∀ (i k : Nat), r[i]? = some (.ow k) → k < A.length) : Good K U A F H σ r (m.take A.length) := by
  refine ⟨G.sub, G.fo, G.len, G.fz, fun i k e => ?_, ?_, fun k a es e1 e2 => ?_, (List.nodup_append.mp G.nd).1, fun a ha => G.he a (List.mem_append_left _ ha)⟩
  · obtain ⟨a, h1, h2⟩ := G.ow i k e
    exact ⟨a, by rw [List.getElem?_append_left (h i k e)] at h1; exact h1, h2⟩
  · rw [List.length_take]
    have := G.al
    rw [List.length_append] at this
    omega
  · have hl := (List.getElem?_eq_some_iff.mp e1).1
    refine G.cl k a es (by rw [List.getElem?_append_left hl]; exact e1) ?_
    unfold cellAt at e2 ⊢
    rw [List.getElem?_take_of_lt hl] at e2
    exact e2
theorem Good.freezeM : ∀ (js : List Nat) {F : Hp} {m : Ms}, Good K U A F H σ r m → (∀ j ∈ js, (cellAt m j).isSome = true) → js.Nodup → (∀ (i k : Nat), r[i]? = some (.ow k) → k ∉ js) →
    ∃ F' m', Same F F' ∧ Good K U A F' H σ r m' ∧ m'.length = m.length ∧ (∀ k, k ∉ js → cellAt m' k = cellAt m k) ∧ ∀ j ∈ js, ∀ a d, A[j]? = some a → cellAt m j = some d → Rp K F' (.ref a) d
  | [], F, m, G, _, _, _ => ⟨F, m, Same.refl F, G, rfl, fun _ _ => rfl, fun j hj => by cases hj⟩
  | j :: js, F, m, G, hs, nd, hr => by
    obtain ⟨d, hd⟩ := Option.isSome_iff_exists.mp (hs j List.mem_cons_self)
    have hl := cellAt_lt hd
    obtain ⟨a, ha⟩ : ∃ a, A[j]? = some a := ⟨A[j]'(by rw [G.al]; exact hl), List.getElem?_eq_getElem _⟩
    obtain ⟨u, s1, G1, hv⟩ := G.freeze ha hd
    rw [frzR_id fun i k e z => hr i k e (by rw [z]; exact List.mem_cons_self)] at G1
    have n1 := List.nodup_cons.mp nd
    have ne : ∀ {i : Nat}, i ∈ js → i ≠ j := fun {i} hi z => n1.1 (z ▸ hi)
    obtain ⟨F', m', s2, G2, l2, c2, v2⟩ := Good.freezeM js G1 (fun i hi => by rw [cellAt_ne (ne hi)]; exact hs i (List.mem_cons_of_mem _ hi)) n1.2 fun i k e q => hr i k e (List.mem_cons_of_mem _ q)
    refine ⟨F', m', s1.trans s2, G2, by rw [l2, List.length_set], fun k hk => ?_, fun i hi b e h1 h2 => ?_⟩
    · rw [List.mem_cons, not_or] at hk
      rw [c2 k hk.2, cellAt_ne hk.1]
    · rcases List.mem_cons.mp hi with q | q
      · subst q
        rw [ha] at h1
        rw [hd] at h2
        cases h1
        cases h2
        exact Rpm s2 hv
      · exact v2 i q b e h1 (by rw [cellAt_ne (ne q)]; exact h2)
end
end TL

end
/-! TL41 -/
section
set_option maxHeartbeats 4000000
namespace TL
open PySem L2
/-! ## a dict of lists, filled by setdefault and append -/
def addG : List (Int × List PyData) → Int → PyData → List (Int × List PyData)
  | [], x, y => [(x, [y])]
  | q :: g, x, y => if q.1 = x then (q.1, q.2 ++ [y]) :: g else q :: addG g x y
def treeG (g : List (Int × List PyData)) : PyData := .dict (g.map fun q => (.int q.1, .list q.2))
def loopG (a b : Nat) : List PyData → Rs → List (Int × List PyData) → Option (Rs × List (Int × List PyData))
  | [], r, g => some (r, g)
  | d :: ds, r, g => match d with
    | .tuple [.int x, y] => if a < r.length ∧ b < r.length ∧ g.length < 1000 ∧ (∀ q ∈ g, q.2.length < 1000) then loopG a b ds ((r.set a (.fz (.int x))).set b (.fz y)) (addG g x y) else none
    | _ => none
def sGrp (i a b : Nat) (fi : Eas) : Es := fun r m => (fi r m).bind fun p => (slO r[i]?).bind fun k => match cellAt p.2 k with
  | some (.dict []) => (loopG a b p.1 r []).map fun q => .nx q.1 (p.2.set k (some (treeG q.2)))
  | _ => none
abbrev Gs := List (Int × Addr × List PyData)
abbrev kvG (gs : Gs) : List (Key × V) := gs.map fun q => (Sum.inl q.1, V.ref q.2.1)
abbrev erG (gs : Gs) : List (Int × List PyData) := gs.map fun q => (q.1, q.2.2)
abbrev ceG (gs : Gs) : Ms := gs.map fun q => some (.list q.2.2)
abbrev adG (gs : Gs) : List Addr := gs.map fun q => q.2.1
theorem seekG (x : Int) (y : PyData) : ∀ gs : Gs, (valV (kvG gs) (Sum.inl x : Key) = none ∧ addG (erG gs) x y = erG gs ++ [(x, [y])]) ∨
    ∃ n b ds, gs[n]? = some (x, b, ds) ∧ valV (kvG gs) (Sum.inl x : Key) = some (.ref b) ∧ addG (erG gs) x y = erG (gs.set n (x, b, ds ++ [y]))
  | [] => .inl ⟨rfl, rfl⟩
  | (k, b, ds) :: gs => by
    by_cases h : k = x
    · subst h
      refine .inr ⟨0, b, ds, rfl, valV_pos rfl, ?_⟩
      show (if k = k then _ else _) = _
      rw [if_pos rfl]
      rfl
    · have e : addG (erG ((k, b, ds) :: gs)) x y = (k, ds) :: addG (erG gs) x y := by
        show (if k = x then _ else _) = _
        rw [if_neg h]
      have v : valV (kvG ((k, b, ds) :: gs)) (Sum.inl x : Key) = valV (kvG gs) (Sum.inl x : Key) := valV_neg (p := ((Sum.inl k : Key), V.ref b)) fun z => h (by injection z)
      rw [e, v]
      rcases seekG x y gs with ⟨h1, h2⟩ | ⟨n, b', ds', h1, h2, h3⟩
      · exact .inl ⟨h1, by rw [h2]; rfl⟩
      · exact .inr ⟨n + 1, b', ds', h1, h2, by rw [h3]; rfl⟩
theorem kvG_set {gs : Gs} {n : Nat} {x : Int} {b : Addr} {ds es : List PyData} (h : gs[n]? = some (x, b, ds)) : kvG (gs.set n (x, b, es)) = kvG gs := by
  unfold kvG
  rw [List.map_set]
  obtain ⟨hl, e⟩ := List.getElem?_eq_some_iff.mp h
  refine List.ext_getElem? fun j => ?_
  by_cases hj : n = j
  · subst hj
    rw [List.getElem?_set_self (by rw [List.length_map]; exact hl), List.getElem?_map, h]
    rfl
  · rw [List.getElem?_set_ne hj]
theorem adG_set {gs : Gs} {n : Nat} {x : Int} {b : Addr} {ds es : List PyData} (h : gs[n]? = some (x, b, ds)) : adG (gs.set n (x, b, es)) = adG gs := by
  unfold adG
  rw [List.map_set]
  obtain ⟨hl, e⟩ := List.getElem?_eq_some_iff.mp h
  refine List.ext_getElem? fun j => ?_
  by_cases hj : n = j
  · subst hj
    rw [List.getElem?_set_self (by rw [List.length_map]; exact hl), List.getElem?_map, h]
    rfl
  · rw [List.getElem?_set_ne hj]
theorem putK_new {kvs : List (Key × V)} {k : Key} {v : V} (h : valV kvs k = none) : putK kvs k v = kvs ++ [(k, v)] := by
  unfold putK
  rw [valV_any, h]
  rfl
theorem storedG {K : PySem.W.Frag} {F : Hp} : ∀ {gs : Gs}, (∀ q ∈ gs, Rp K F (.ref q.2.1) (.list q.2.2)) → RpKv K F (kvG gs) ((erG gs).map fun q => (.int q.1, .list q.2))
  | [], _ => .nil
  | (k, b, ds) :: gs, h => .cons (k := Sum.inl k) (h (k, b, ds) List.mem_cons_self) (storedG fun q hq => h q (List.mem_cons_of_mem _ hq))
section
variable {K : PySem.W.Frag} {U F H : Hp} {A : List Addr} {σ : St} {r : Rs} {m0 : Ms} {p : Addr} {k : Nat}
/-- behind the loop: all is frozen, the dict is a cell of data -/
theorem endG {gs : Gs} (G : Good K (upd U p (.dK (kvG gs))) (A ++ adG gs) F H σ r (m0 ++ ceG gs)) (hU : U p = none) (hk : A[k]? = some p) (hl : m0.length = A.length) (hr : ∀ (j k' : Nat), r[j]? = some (.ow k') → k' < A.length) :
    ∃ F', Same F F' ∧ Good K U A F' H σ r (m0.set k (some (treeG (erG gs)))) := by
  have at_ : ∀ {j : Nat} {q : Int × Addr × List PyData}, gs[j]? = some q → (A ++ adG gs)[A.length + j]? = some q.2.1 ∧ cellAt (m0 ++ ceG gs) (A.length + j) = some (.list q.2.2) := fun {j q} h => by
    refine ⟨?_, ?_⟩
    · rw [List.getElem?_append_right (Nat.le_add_right _ _), Nat.add_sub_cancel_left, List.getElem?_map, h]
      rfl
    · unfold cellAt
      rw [List.getElem?_append_right (by omega), hl, Nat.add_sub_cancel_left, List.getElem?_map, h]
      rfl
  obtain ⟨F', m', s, G1, l1, c1, v1⟩ := G.freezeM ((List.range gs.length).map fun j => A.length + j) (fun j hj => by
    obtain ⟨i, hi, rfl⟩ := List.mem_map.mp hj
    rw [(at_ (List.getElem?_eq_getElem (List.mem_range.mp hi))).2]
    rfl) (List.Pairwise.map _ (fun a b q z => q (by omega)) List.nodup_range) fun i k' e hk' => by
    obtain ⟨j, _, z⟩ := List.mem_map.mp hk'
    have := hr i k' e
    omega
  have G2 := G1.less hr
  have e0 : m'.take A.length = m0 := by
    refine List.ext_getElem? fun j => ?_
    by_cases hj : j < A.length
    · rw [List.getElem?_take_of_lt hj]
      have c := c1 j fun hz => by
        obtain ⟨i, _, z⟩ := List.mem_map.mp hz
        omega
      unfold cellAt at c
      rw [List.getElem?_append_left (by omega)] at c
      rw [List.length_append] at l1
      rw [List.getElem?_eq_getElem (show j < m'.length by omega), List.getElem?_eq_getElem (show j < m0.length by omega)] at c ⊢
      simpa using c
    · rw [List.getElem?_eq_none (by rw [List.length_take]; omega), List.getElem?_eq_none (by omega)]
  rw [e0] at G2
  refine ⟨F', s, G2.bare hU hk (by rw [hl]; exact (List.getElem?_eq_some_iff.mp hk).1) ⟨_, rfl, storedG fun q hq => ?_⟩⟩
  obtain ⟨j, hj⟩ := List.mem_iff_getElem?.mp hq
  have hjl := (List.getElem?_eq_some_iff.mp hj).1
  obtain ⟨t1, t2⟩ := at_ hj
  exact v1 _ (List.mem_map.mpr ⟨j, List.mem_range.mpr hjl, rfl⟩) _ _ t1 t2
end
end TL

end
/-! TL42 -/
section
set_option maxHeartbeats 4000000
namespace TL
open PySem L2
abbrev hTwo (a b : Nat) : Eh := hTup (hCons (hNm a) (hCons (hNm b) hNil)) 2
section
variable {X : Cx} {U : Hp} {n0 : Nat} {iter tg : Expr} {fi : Eas} {i a b : Nat} {x ya yb : Str} {pos pos2 p1 p2 p3 p4 ap1 ap2 cp1 cp2 : Pos}
theorem qs_grp (hp : PassesOwn (model X.prog X.w) X.A X.env X.xe) (hc : X.calm = true) (hi : PI X tg iter (tIt X.K U fi)) (hg : ∀ U, PG X tg (tG X.K U [a, b] (hTwo a b)))
    (hv : PE X (.Name x p1) (tVar i)) (ha : PE X (.Name ya p2) (tVar a)) (hb : PE X (.Name yb p4) (tVar b)) (hab : a ≠ b) (hia : i ≠ a) (hib : i ≠ b)
    (m2 : M2 X (.Name x p1) "setdefault" ap1 (.Name ya p2) (.List [] p3) cp1)
    (hbase : attributeBase (.Call (.Attribute (.Name x p1) "setdefault" ap1) [.Name ya p2, .List [] p3] [] cp1) "append" X.env (eval (.Call (.Attribute (.Name x p1) "setdefault" ap1) [.Name ya p2, .List [] p3] [] cp1) X.env) = eval (.Call (.Attribute (.Name x p1) "setdefault" ap1) [.Name ya p2, .List [] p3] [] cp1) X.env := by rfl)
    (hfew : ((backTo cp2 (starEach [.Name yb p4] X.env)).all (fun x => !x.1) && (backToKw cp2 (keywordEach [] X.env)).all (fun x => x.1.isSome) && decide ([(.Name yb p4 : Expr)].length + ([] : List Keyword).length + (if ([] : List Keyword).isEmpty then 0 else 1) < 30)) = true := by rfl)
    (hline : (ap2.endLine == cp2.line) = true := by rfl) (hse : starEach [.Name yb p4] X.env = (false, eval (.Name yb p4) X.env) :: starEach [] X.env := by rfl) (hplain : (backTo cp2 (starEach [] X.env)).any (·.1) = false := by rfl)
    (hsw : swapsWith (.Call (.Attribute (.Call (.Attribute (.Name x p1) "setdefault" ap1) [.Name ya p2, .List [] p3] [] cp1) "append" ap2) [.Name yb p4] [] cp2) none pos2.line X.env = pure false := by rfl)
    (hs : ∀ x, foldedSetIterable iter X.env x = pure x := by intro _; rfl) :
    PS X (.For tg iter [.Expr (.Call (.Attribute (.Call (.Attribute (.Name x p1) "setdefault" ap1) [.Name ya p2, .List [] p3] [] cp1) "append" ap2) [.Name yb p4] [] cp2) pos2] [] pos) (tS X.K U n0 (sGrp i a b fi)) := by
  have hg' : PG X tg (fun v σ H Q => ∃ U, tG X.K U [a, b] (hTwo a b) v σ H Q) := ⟨fun pins s σ H v u Q I r ⟨U2, q⟩ => (hg U2).run pins s σ H v u Q I r q⟩
  refine ps_weak (ps_for hp hc hi hg' (pss_one (ps_expr (pe_bm PySem.F.plainAttrs_list PySem.F.slot_list_append PySem.F.type_list_append mt_append (pe_dsetd hv ha (pe_lst pa_nil) m2) (pa_cons hb pa_nil hse) hbase hfew hline hse hplain) hsw)) hs) fun D σ H ⟨A, F, r, m, o, G, hn, e, p⟩ => ?_
  unfold sGrp at e
  obtain ⟨⟨ds, m1⟩, e1, e2⟩ := Option.bind_eq_some_iff.mp e
  obtain ⟨k, ek, e3⟩ := Option.bind_eq_some_iff.mp e2
  have ek := slO_some ek
  dsimp only at e3
  split at e3
  · rename_i hce
    obtain ⟨⟨rr, gr⟩, e4, e5⟩ := Option.map_eq_some_iff.mp e3
    cases e5
    refine ⟨A, F, r, m, ds, m1, G, e1, fun F1 H1 J s1 G1 W1 => ?_⟩
    obtain ⟨pa, hpa, _⟩ := G1.ow i k ek
    obtain ⟨hU, u0, hH0, hs0, G1'⟩ := G1.hide hpa hce
    obtain ⟨ks0, hu0, hk0⟩ := hs0
    cases hk0
    subst hu0
    have hml : (m1.set k none).length = A.length := by rw [List.length_set]; exact G1.al.symm
    have hro : ∀ (j k' : Nat), r[j]? = some (.ow k') → k' < A.length := fun j k' e => by
      obtain ⟨b', hb', _⟩ := G1.ow j k' e
      exact (List.getElem?_eq_some_iff.mp hb').1
    refine ⟨fun j mm σ2 H2 => mm = ds.length - j ∧ j ≤ ds.length ∧ ∃ (gs : Gs) (F2 : Hp) (r2 : Rs), Same F1 F2 ∧ Good X.K (upd U pa (.dK (kvG gs))) (A ++ adG gs) F2 H2 σ2 r2 (m1.set k none ++ ceG gs) ∧
      r2[i]? = some (.ow k) ∧ (∀ (j k' : Nat), r2[j]? = some (.ow k') → k' < A.length) ∧ loopG a b (ds.drop j) r2 (erG gs) = some (rr, gr), ⟨ds.length, by simp, Nat.zero_le _, [], F1, r, Same.refl F1, ?_, ek, hro, by rw [List.drop_zero]; exact e4⟩, ?_⟩
    · show Good X.K (upd U pa (.dK [])) (A ++ []) F1 H1 σ r (m1.set k none ++ [])
      rw [List.append_nil, List.append_nil]
      exact G1'
    rintro j mm σ2 H2 ⟨rfl, hj2, gs, F2, r2, hF, G2, hk2, hr2, e6⟩
    by_cases hlt : j < ds.length
    · rw [List.drop_eq_getElem_cons hlt] at e6
      unfold loopG at e6
      split at e6
      · rename_i xx yy hd
        split at e6
        · rename_i hcond
          obtain ⟨hal, hbl, hgl, hql⟩ := hcond
          have sU : Same U (upd U pa (.dK (kvG gs))) := same_new hU
          obtain ⟨w1, w2⟩ := W1.go _ _ σ2 r2 _ F2 H2 j ds[j] sU hF G2 (List.getElem?_eq_getElem hlt)
          refine .inr ⟨w1, fun σ' H' => ∃ (gs : Gs) (F2 : Hp) (r2 : Rs), Same F1 F2 ∧ Good X.K (upd U pa (.dK (kvG gs))) (A ++ adG gs) F2 H' σ' r2 (m1.set k none ++ ceG gs) ∧
            r2[i]? = some (.ow k) ∧ (∀ (j k' : Nat), r2[j]? = some (.ow k') → k' < A.length) ∧ loopG a b (ds.drop (j + 1)) r2 (erG gs) = some (rr, gr), fun σ' H' w => ⟨ds.length - (j + 1), by omega, rfl, hlt, w⟩, fun v H3 hy => ?_⟩
          obtain ⟨F3, s3, G3, h3⟩ := w2 v H3 hy
          rw [hd] at h3
          generalize hr3 : (r2.set a (.fz (.int xx))).set b (.fz yy) = r3 at e6
          refine ⟨_, _, F3, r2, _, .tuple [.int xx, yy], r3, G3, h3, ?_, fun σ4 G4 _ _ => ?_⟩
          · rw [← hr3]
            rfl
          have ra : r3[a]? = some (.fz (.int xx)) := by
            rw [← hr3, List.getElem?_set_ne (Ne.symm hab), List.getElem?_set_self hal]
          have rb : r3[b]? = some (.fz yy) := by
            rw [← hr3, List.getElem?_set_self (by rw [List.length_set]; exact hbl)]
          have ri : r3[i]? = some (.ow k) := by
            rw [← hr3, List.getElem?_set_ne (Ne.symm hib), List.getElem?_set_ne (Ne.symm hia)]
            exact hk2
          have ro : ∀ (j k' : Nat), r3[j]? = some (.ow k') → k' < A.length := fun j k' e => by
            rw [← hr3] at e
            by_cases hjb : b = j
            · subst hjb
              rw [List.getElem?_set_self (by rw [List.length_set]; exact hbl)] at e
              cases e
            · rw [List.getElem?_set_ne hjb] at e
              by_cases hja : a = j
              · subst hja
                rw [List.getElem?_set_self hal] at e
                cases e
              · rw [List.getElem?_set_ne hja] at e
                exact hr2 j k' e
          obtain ⟨pi, hpi, hσi⟩ := G4.ow i k ri
          have hpk : (A ++ adG gs)[k]? = some pa := by rw [List.getElem?_append_left (List.getElem?_eq_some_iff.mp hpa).1]; exact hpa
          rw [hpk] at hpi
          cases hpi
          obtain ⟨va, hσa, hva⟩ := G4.fz a _ ra
          cases hva
          obtain ⟨vb, hσb, hvb⟩ := G4.fz b _ rb
          have hp4 := G4.fo pa _ upd_same
          have hF3 : Same F1 F3 := hF.trans s3
          have hkl : (kvG gs).length < sizeLine := by
            have e : (kvG gs).length = (erG gs).length := by simp
            rw [e]
            exact Nat.lt_of_lt_of_le hgl (by decide)
          refine ⟨_, hσi, pa, rfl, .inl ⟨_, .inl hp4.1⟩, _, hσa, Nat.zero_le _, fun q hq => ?_⟩
          have nq := G4.nope hq
          have hqp : pa ≠ q := fun z => by rw [z, hq] at hp4; cases hp4.1
          have G5 := G4.laidO (o := .lst []) hq
          refine ⟨kvG gs, Sum.inl xx, by rw [upd_ne hqp]; exact hp4.1, rfl, hkl, fun w hw => ?_, fun hw => ?_⟩
          · rcases seekG xx yy gs with ⟨h1, _⟩ | ⟨n, bb, es, h1, h2, h4⟩
            · rw [h1] at hw; cases hw
            · rw [h2] at hw
              cases hw
              have hnl := (List.getElem?_eq_some_iff.mp h1).1
              have hA : (A ++ adG gs)[A.length + n]? = some bb := by
                rw [List.getElem?_append_right (Nat.le_add_right _ _), Nat.add_sub_cancel_left, List.getElem?_map, h1]
                rfl
              have hC : cellAt (m1.set k none ++ ceG gs) (A.length + n) = some (.list es) := by
                unfold cellAt
                rw [List.getElem?_append_right (by omega), hml, Nat.add_sub_cancel_left, List.getElem?_map, h1]
                rfl
              obtain ⟨c1, c2, o3, c3, vs, c5, c4⟩ := G5.cl _ bb _ hA hC
              subst c5
              have G6 := G5.setCell (u' := .lst (vs ++ [vb])) (ds' := .list (es ++ [yy])) hA hC ⟨_, rfl, rpa_app c4 (.cons hvb .nil)⟩
              have hel : es.length < 1000 := hql (xx, es) (List.mem_map.mpr ⟨_, List.mem_of_getElem? h1, rfl⟩)
              refine ⟨.inl ⟨rfl, _, .inl (.inl c3)⟩, _, hσb, bb, vs, vb, rfl, rfl, c3, by rw [rpa_len c4]; exact Nat.lt_of_lt_of_le hel (by decide), gs.set n (xx, bb, es ++ [yy]), F3, r3, hF3, ?_, ri, ro, by rw [← h4]; exact e6⟩
              rw [kvG_set h1, adG_set h1]
              have em : (m1.set k none ++ ceG gs).set (A.length + n) (some (PyData.list (es ++ [yy]))) = m1.set k none ++ ceG (gs.set n (xx, bb, es ++ [yy])) := by
                rw [List.set_append_right _ _ (by omega), hml, Nat.add_sub_cancel_left]
                unfold ceG
                rw [List.map_set]
              rw [em] at G6
              exact G6
          · rcases seekG xx yy gs with ⟨_, h4⟩ | ⟨n, bb, es, h1, h2, h4⟩
            · rw [putK_new hw]
              have G6 : Good X.K (upd U pa (.dK (kvG gs ++ [(Sum.inl xx, V.ref q)]))) (A ++ adG gs) F3 (upd (upd H3 q (.lst [])) pa (.dK (kvG gs ++ [(Sum.inl xx, V.ref q)]))) σ4 r3 (m1.set k none ++ ceG gs) := G5.reU
              have nU := nq.2
              rw [upd_ne (Ne.symm hqp)] at nU
              have G7 := G6.more (a := q) (u := .lst []) (d := .list []) nq.1 (by rw [upd_ne (Ne.symm hqp)]; exact nU) (G4.notin hq) (by rw [upd_ne (Ne.symm hqp)]; exact upd_same) ⟨[], rfl, .nil⟩
              have hA : (A ++ adG gs ++ [q])[(m1.set k none ++ ceG gs).length]? = some q := by
                rw [← G6.al, List.getElem?_append_right (Nat.le_refl _), Nat.sub_self]
                rfl
              have G8 := G7.setCell (u' := .lst ([] ++ [vb])) (ds' := .list [yy]) hA cellAt_new ⟨_, rfl, .cons hvb .nil⟩
              have hH : (upd (upd H3 q (.lst [])) pa (.dK (kvG gs ++ [(Sum.inl xx, V.ref q)]))) q = some (.lst []) := by
                rw [upd_ne (Ne.symm hqp)]
                exact upd_same
              refine ⟨.inl ⟨rfl, _, .inl (.inl hH)⟩, _, hσb, q, [], vb, rfl, rfl, hH, by decide, gs ++ [(xx, q, [yy])], F3, r3, hF3, ?_, ri, ro, ?_⟩
              · have em : ((m1.set k none ++ ceG gs) ++ [some (PyData.list [])]).set (m1.set k none ++ ceG gs).length (some (PyData.list [yy])) = m1.set k none ++ ceG (gs ++ [(xx, q, [yy])]) := by
                  rw [List.set_append_right _ _ (Nat.le_refl _), Nat.sub_self]
                  unfold ceG
                  rw [List.map_append, List.append_assoc]
                  rfl
                rw [em] at G8
                have ea : A ++ adG (gs ++ [(xx, q, [yy])]) = A ++ adG gs ++ [q] := by
                  unfold adG
                  rw [List.map_append, List.append_assoc]
                  rfl
                have ek : kvG (gs ++ [(xx, q, [yy])]) = kvG gs ++ [(Sum.inl xx, V.ref q)] := by
                  unfold kvG
                  rw [List.map_append]
                  rfl
                rw [ea, ek]
                exact G8
              · have eg : erG (gs ++ [(xx, q, [yy])]) = addG (erG gs) xx yy := by
                  rw [h4]
                  unfold erG
                  rw [List.map_append]
                  rfl
                rw [eg]
                exact e6
            · rw [h2] at hw; cases hw
        · cases e6
      · cases e6
    · have ei : j = ds.length := by omega
      subst ei
      rw [List.drop_length] at e6
      cases e6
      obtain ⟨F', s4, G4⟩ := endG G2 hU hpa hml hr2
      rw [List.set_set] at G4
      refine .inl ⟨W1.stop F2 H2 (fun b' o' e' => ?_) hF G2.sub, p A F' H2 σ2 (List.prefix_refl A) (s1.trans (hF.trans s4)) G4⟩
      have hb' : b' ≠ pa := fun z => by rw [z, hU] at e'; cases e'
      exact (G2.fo b' o' (by rw [upd_ne hb']; exact e')).1
  · cases e3
end
end TL

end
/-! TL43 -/
section
set_option maxHeartbeats 4000000
namespace TL
open PySem L2
/-! ## d.get(k, x), d a value -/
def dgetD : PyData → PyData → PyData → Option PyData
  | .dict ps, c, z => if isSetD (.dict ps) = true then none else (keyD c).map fun k => (valP ps k).getD z
  | _, _, _ => none
def eGet (f g h : Ev) : Ev := fun r m => (f r m).bind fun p => (g r p.2).bind fun q => (h r q.2).bind fun w => (dgetD p.1 q.1 w.1).map fun d => (d, w.2)
theorem dget_some {e c z d : PyData} (h : dgetD e c z = some d) : ∃ ps k, e = .dict ps ∧ isSetD (.dict ps) = false ∧ keyD c = some k ∧ d = (valP ps k).getD z := by
  unfold dgetD at h
  split at h
  · split at h
    · cases h
    rename_i hS
    obtain ⟨k, e1, e2⟩ := Option.map_eq_some_iff.mp h
    exact ⟨_, k, rfl, by simpa using hS, e1, e2.symm⟩
  · cases h
section
variable {X : Cx} {U : Hp} {o e f : Expr} {fo fe ff : Ev} {apos cpos : Pos}
theorem qe_get2 (hu : X.A.units + 1 < cLine) (ho : PE X o (tE X.K U fo)) (he : PE X e (tE X.K U fe)) (hf : PE X f (tE X.K U ff)) (m : M2 X o "get" apos e f cpos) :
    PE X (.Call (.Attribute o "get" apos) [e, f] [] cpos) (tE X.K U (eGet fo fe ff)) :=
  pe_weak (pe_dget2 hu ho he hf m) fun σ H Q ⟨A, F, r, m, d, m', G, e, k⟩ => by
    unfold eGet at e
    obtain ⟨⟨d1, m1⟩, e1, e'⟩ := Option.bind_eq_some_iff.mp e
    obtain ⟨⟨d2, m2⟩, e2, e'⟩ := Option.bind_eq_some_iff.mp e'
    obtain ⟨⟨d3, m3⟩, e3, e'⟩ := Option.bind_eq_some_iff.mp e'
    obtain ⟨d4, e4, e'⟩ := Option.map_eq_some_iff.mp e'
    cases e'
    dsimp only at e2 e3 e4
    obtain ⟨ps, kk, rfl, hS, hk, rfl⟩ := dget_some e4
    refine ⟨A, F, r, m, _, m1, G, e1, fun F1 H1 x s1 G1 h1 => ?_⟩
    cases h1 with
    | vd sa ra =>
      refine ⟨_, rfl, .inl ⟨_, rd_mono G1.sub sa⟩, A, F1, r, m1, d2, m2, G1, e2, fun F2 H2 y s2 G2 h2 => ⟨A, F2, r, m2, d3, _, G2, e3, fun F3 H3 z s3 G3 h3 => ?_⟩⟩
      have s23 := s2.trans s3
      refine ⟨_, .inl ⟨_, kk, rd_mono G3.sub (rd_mono s23 sa), key_kV h2 hk, rfl⟩, ?_⟩
      rcases rpk_val (k := kk) ra with ⟨z0, z1⟩ | ⟨v, d5, z1, z2, z3⟩
      · rw [z0] at *
        rw [z1] at k
        exact k F3 H3 _ (s1.trans s23) G3 h3
      · rw [z1]
        rw [z2] at k
        exact k F3 H3 v (s1.trans s23) G3 (Rpm s23 z3)
    | vx _ _ _ => cases hS
end
/-! ## sorted of a list of whole numbers -/
def sortLI : List PyData → Option PyData
  | [.list ds] => (ds.mapM intOf).map fun is => .list ((is.mergeSort fun a b => decide (a ≤ b)).map .int)
  | _ => none
theorem ints_of {K : PySem.W.Frag} {F : Hp} : ∀ {ds : List PyData} {is : List Int} {vs : List V}, ds.mapM intOf = some is → RpAll K F vs ds → vs = is.map V.int
  | [], is, vs, e, h => by
    cases e
    cases h
    rfl
  | d :: ds, is, vs, e, h => by
    rw [List.mapM_cons] at e
    obtain ⟨i, e1, e2⟩ := Option.bind_eq_some_iff.mp e
    obtain ⟨is', e3, e4⟩ := Option.bind_eq_some_iff.mp e2
    cases e4
    cases h with
    | cons g t =>
      rw [ints_of e3 t]
      cases d <;> first | cases e1 | skip
      cases g
      rfl
section
variable {X : Cx} {U : Hp}
theorem cn_sortLI : CallN X U (rSortedI X.K) sortLI := by
  intro A F H σ r m vs ds d Q G ha e k
  unfold sortLI at e
  split at e
  · obtain ⟨is, e1, e2⟩ := Option.map_eq_some_iff.mp e
    cases e2
    obtain ⟨v, rfl, h⟩ := rpa1 ha
    cases h with
    | vl sa ra =>
      have := ints_of e1 ra
      subst this
      exact ⟨_, is, rfl, sqL_mono G.sub sa, fun ys p h1 h2 np => by
        rw [sort_one h1 h2]
        exact k F _ p _ (Same.refl F) (G.laidO np) (G.nope np).1 (G.nope np).2 (G.notin np) upd_same ⟨_, rfl, rpa_ints _⟩⟩
  · cases e
end
end TL

end
/-! TL44 -/
section
set_option maxHeartbeats 4000000
namespace TL
open PySem L2
section
variable {X : Cx} {U : Hp} {kx vx tg iter : Expr} {ifs : List Expr} {scope : Scope} {own : List (Str × Nat)} {pos sp pn : Pos} {nm : Str} {i n0 : Nat}
/-- a name of the frame's own is set to a dict comprehension: the comprehension sets it before its own frame goes -/
theorem ps_dcTo {wi : TI} {g : TG} {tt : TT} {tk tv : TE} (hc : X.calm = true) (nd : X.N.Nodup) (at_ : X.N[i]? = some nm) (loc : X.env.scope.names.lookup nm = some .local)
    (sw : swapsWith (.DictComp kx vx [⟨tg, iter, ifs, 0⟩] scope pos) (some (.Name nm pn)) sp.line X.env = pure true) (hi : PI X tg iter wi) (ok : BlkOk X.N X.env.scope scope own)
    (g1 : ∀ (s : Shared) (H : Hp) (C : Addr) (cl : List (Str × Addr)) (fp : List Addr), PG (X.blk s H scope (compEnvC scope cl C X.env) fp) tg g)
    (t1 : ∀ (s : Shared) (H : Hp) (C : Addr) (cl : List (Str × Addr)) (fp : List Addr), PTs (X.blk s H scope (compEnvC scope cl C X.env) fp) ifs tt)
    (k1 : ∀ (s : Shared) (H : Hp) (C : Addr) (cl : List (Str × Addr)) (fp : List Addr), PE (X.blk s H scope (compEnvC scope cl C X.env) fp) kx tk)
    (v1 : ∀ (s : Shared) (H : Hp) (C : Addr) (cl : List (Str × Addr)) (fp : List Addr), PE (X.blk s H scope (compEnvC scope cl C X.env) fp) vx tv) (fs : ∀ x, foldedSetIterable iter X.env x = pure x) :
    PS X (.Assign [.Name nm pn] (.DictComp kx vx [⟨tg, iter, ifs, 0⟩] scope pos) sp) (tAsg (tDc wi g tt tk tv (own.map (·.2))) (gName i)) := by
  refine ⟨fun pins t σ H E inv hq => ?_⟩
  have used := exec_Assign_Name_used _ _ _ _ sw
  rw [used]
  refine wpAny_bind (wpAny_standAt ?_)
  refine wpAny_bind ?_
  show wpAny _ X.A (do let _ ← comprehension (.DictComp kx vx [⟨tg, iter, ifs, 0⟩] scope pos) scope X.env (firstIterPos [⟨tg, iter, ifs, 0⟩] pos) newDict false (eval iter X.env) (some (assign (.Name nm pn) X.env))) _ _ t
  have hq' : tDc wi g tt tk tv (own.map (·.2)) σ H (fun v H1 => gName i v σ H1 E.nx) := hq
  refine wpAny_bind (thn (dc_core (Qf := fun _ t' => SP X pins E .next t') hc nd inv hi ok g1 t1 k1 v1 fs hq' fun D C t1 m H' inv1 q ns fp => ?_) fun _ t' hz => wpAny_pure (wpAny_pure hz))
  show wpAny _ _ (assign (.Name nm pn) X.env (.ref D)) _ _ _
  refine wpAny_assign_Name (store_ok2 (v := V.ref D) inv1 nd at_ (.inl loc) rfl (fun t2 inv2 ⟨a, sb, ha⟩ => ?_) (.inr loc))
  obtain ⟨c0, c1, c2, c3, c4, c5⟩ := fp
  have ne : C ≠ a := by
    rcases ha with z | z
    · exact fun w => c1 (w.trans z)
    · exact fun w => c4 nm a z w.symm
  refine ⟨m, ns.sameBut sb ne, fun h9 sb9 => ⟨_, H', inv2.turned (t' := t2.toks) (fun b o hb w => (sb9.2 b hb).trans w) c0 c1 c3 c4 c5, q⟩⟩
theorem sw_dc {env : Env} {l : Nat} (fk : env.scope.kind = .function) (loc : env.scope.names.lookup nm = some .local) (ln : (pn.line == pos.line) = true)
    (ha : (scope.names.any fun (n, k) => n == nm && (k == .local || k == .cell)) = false) {gs : List Comprehension} : swapsWith (.DictComp kx vx gs scope pos) (some (.Name nm pn)) l env = pure true := by
  have k1 : env.kindOf nm = some .local := loc
  have k2 : env.blockKind = .function := by
    unfold Env.blockKind
    rw [fk]; rfl
  unfold swapsWith
  simp only [k2, k1, ha, Expr.pos, ln]
  rfl
theorem qs_setDc {fi : Eas} {is : List Nat} {h : Eh} {t : Et} {fk fv : Ev} (hc : X.calm = true) (nd : X.N.Nodup) (at_ : X.N[i]? = some nm) (loc : X.env.scope.names.lookup nm = some .local)
    (sw : swapsWith (.DictComp kx vx [⟨tg, iter, ifs, 0⟩] scope pos) (some (.Name nm pn)) sp.line X.env = pure true) (hi : PI X tg iter (tIt X.K U fi)) (ok : BlkOk X.N X.env.scope scope own) (his : ∀ j ∈ is, j ∈ own.map (·.2))
    (g1 : ∀ (U : Hp) (s : Shared) (H : Hp) (C : Addr) (cl : List (Str × Addr)) (fp : List Addr), PG (X.blk s H scope (compEnvC scope cl C X.env) fp) tg (tG X.K U is h))
    (t1 : ∀ (U : Hp) (s : Shared) (H : Hp) (C : Addr) (cl : List (Str × Addr)) (fp : List Addr), PTs (X.blk s H scope (compEnvC scope cl C X.env) fp) ifs (tT X.K U t))
    (k1 : ∀ (U : Hp) (s : Shared) (H : Hp) (C : Addr) (cl : List (Str × Addr)) (fp : List Addr), PE (X.blk s H scope (compEnvC scope cl C X.env) fp) kx (tE X.K U fk))
    (v1 : ∀ (U : Hp) (s : Shared) (H : Hp) (C : Addr) (cl : List (Str × Addr)) (fp : List Addr), PE (X.blk s H scope (compEnvC scope cl C X.env) fp) vx (tE X.K U fv)) (fs : ∀ x, foldedSetIterable iter X.env x = pure x := by intro _; rfl) :
    PS X (.Assign [.Name nm pn] (.DictComp kx vx [⟨tg, iter, ifs, 0⟩] scope pos) sp) (tS X.K U n0 (sSetF i (eDc fi (own.map (·.2)) h t fk fv))) := by
  refine ps_weak (ps_dcTo (g := tGX X.K is h) (tt := tTX X.K t) (tk := tEX X.K fk) (tv := tEX X.K fv) hc nd at_ loc sw hi ok (fun s H C cl fp => pg_all fun U => g1 U s H C cl fp) (fun s H C cl fp => pts_all fun U => t1 U s H C cl fp) (fun s H C cl fp => pe_all fun U => k1 U s H C cl fp) (fun s H C cl fp => pe_all fun U => v1 U s H C cl fp) fs) fun D σ H ⟨A, F, r, m, o, G, hn, e, p⟩ => ?_
  unfold sSetF at e
  obtain ⟨q, e1, e2⟩ := Option.map_eq_some_iff.mp e
  cases e2
  exact dc_read his ⟨A, F, r, m, q.1, q.2, G, e1, fun F1 H1 a u s1 G1 q1 q2 q3 q4 q5 => p (A ++ [a]) F1 H1 _ (List.prefix_append A [a]) s1 (G1.setOw q1 q2 q3 q4 q5)⟩
end
end TL

end
/-! TL45 -/
section
set_option maxHeartbeats 4000000
namespace TL
open PySem L2
/-! ## list(range(n)), x.pop(i) -/
theorem rpa_erase {K : PySem.W.Frag} {F : Hp} : ∀ {vs : List V} {ds : List PyData} (n : Nat), RpAll K F vs ds → RpAll K F (vs.eraseIdx n) (ds.eraseIdx n)
  | _, _, _, .nil => .nil
  | _, _, 0, .cons _ t => t
  | _, _, n + 1, .cons r t => .cons r (rpa_erase n t)
theorem rpa_rg {K : PySem.W.Frag} {F : Hp} (n : Int) : RpAll K F (rgV 0 n) (rangeD 0 n.toNat) := by
  have e1 : rgV 0 n = ((List.range n.toNat).map fun i => (0 : Int) + (i : Nat)).map V.int := by
    unfold rgV
    rw [List.map_map, Int.sub_zero]
    rfl
  have e2 : rangeD 0 n.toNat = ((List.range n.toNat).map fun i => (0 : Int) + (i : Nat)).map PyData.int := by
    unfold rangeD
    rw [List.map_map]
    rfl
  rw [e1, e2]
  exact rpa_ints _
def eLRg (f : Ev) : Ev := fun r m => (f r m).bind fun p => match p.1 with
  | .int n => if -1000 ≤ n ∧ n ≤ 1000 then some (.list (rangeD 0 n.toNat), p.2) else none
  | _ => none
def ePop (i : Nat) (g : Ev) : Ev := fun r m => (slO r[i]?).bind fun k => match cellAt m k with
  | some (.list _) => (g r m).bind fun q => match cellAt q.2 k, q.1 with
    | some (.list ds), .int j => if 0 ≤ j ∧ j < 2 ^ 62 then (ds[j.toNat]?).map fun d => (d, q.2.set k (some (.list (ds.eraseIdx j.toNat)))) else none
    | _, _ => none
  | _ => none
section
variable {X : Cx} {U : Hp} {a e : Expr} {f g : Ev} {p p1 pos pos2 apos cpos : Pos} {y : Str} {i : Nat}
theorem qn_lrg (hc : X.calm = true) (hgl : Gl X "list") (hml : X.mg "list" = none) (hgr : Gl X "range") (hmr : X.mg "range" = none) (ha : PE X a (tE X.K U f)) (na : starEach [a] X.env = (false, eval a X.env) :: starEach [] X.env := by rfl)
    (nb : starEach [.Call (.Name "range" p1) [a] [] pos2] X.env = (false, eval (.Call (.Name "range" p1) [a] [] pos2) X.env) :: starEach [] X.env := by rfl) :
    PE X (.Call (.Name "list" p) [.Call (.Name "range" p1) [a] [] pos2] [] pos) (tN X.K U (eLRg f)) :=
  pe_weak (pe_listRg hc hgl hml (prg_1 hgr hmr ha na) nb) fun σ H Q ⟨A, F, r, m, d, m', G, e, k⟩ => by
    unfold eLRg at e
    obtain ⟨⟨d1, m1⟩, e1, e2⟩ := Option.bind_eq_some_iff.mp e
    dsimp only at e2
    split at e2
    · split at e2
      · rename_i n hn
        cases e2
        refine ⟨A, F, r, m, _, _, G, e1, fun F1 H1 x s1 G1 h1 => ?_⟩
        cases h1
        exact ⟨n, rfl, ⟨by omega, by omega, by omega, by omega, by omega⟩, fun q hq => k F1 _ q _ s1 (G1.laidO hq) (G1.nope hq).1 (G1.nope hq).2 (G1.notin hq) upd_same ⟨_, rfl, rpa_rg n⟩⟩
      · cases e2
    · cases e2
theorem qe_pop (i : Nat) (hv : PE X (.Name y p1) (tVar i)) (he : PE X e (tE X.K U g)) (hbase : attributeBase (.Name y p1) "pop" X.env (eval (.Name y p1) X.env) = eval (.Name y p1) X.env := by rfl)
    (hfew : ((backTo cpos (starEach [e] X.env)).all (fun x => !x.1) && (backToKw cpos (keywordEach [] X.env)).all (fun x => x.1.isSome) && decide ([e].length + ([] : List Keyword).length + (if ([] : List Keyword).isEmpty then 0 else 1) < 30)) = true := by rfl)
    (hline : (apos.endLine == cpos.line) = true := by rfl) (hse : starEach [e] X.env = (false, eval e X.env) :: starEach [] X.env := by rfl) (hplain : (backTo cpos (starEach [] X.env)).any (·.1) = false := by rfl) :
    PE X (.Call (.Attribute (.Name y p1) "pop" apos) [e] [] cpos) (tE X.K U (ePop i g)) :=
  pe_weak (pe_bm PySem.F.plainAttrs_list PySem.F.slot_list_pop PySem.F.type_list_pop mt_popAt hv (pa_cons he pa_nil hse) hbase hfew hline hse hplain) fun σ H Q ⟨A, F, r, m, d, m', G, e, kk⟩ => by
    unfold ePop at e
    obtain ⟨k, e0, e1⟩ := Option.bind_eq_some_iff.mp e
    obtain ⟨a, hA, hσ⟩ := G.ow i k (slO_some e0)
    split at e1
    · rename_i ds0 hc0
      obtain ⟨⟨dj, m1⟩, e2, e3⟩ := Option.bind_eq_some_iff.mp e1
      obtain ⟨_, _, o0, hH0, hs0⟩ := G.cl k a _ hA hc0
      obtain ⟨vs0, ho, _⟩ := hs0
      subst ho
      refine ⟨_, hσ, .inl ⟨rfl, _, .inl (.inl hH0)⟩, A, F, r, m, dj, m1, G, e2, fun F1 H1 v s1 G1 h1 => ?_⟩
      dsimp only at e3
      split at e3
      · rename_i ds j hc1
        split at e3
        · rename_i hj
          obtain ⟨dd, e4, e5⟩ := Option.map_eq_some_iff.mp e3
          cases e5
          cases h1
          obtain ⟨c1, c2, o3, c3, vs, c5, c4⟩ := G1.cl k a _ hA hc1
          subst c5
          obtain ⟨w, hw, rw'⟩ := rpa_get c4 e4
          have hl := (List.getElem?_eq_some_iff.mp hw).1
          refine ⟨a, vs, j, j.toNat, w, rfl, rfl, c3, by omega, by omega, ?_, hw, ?_⟩
          · unfold seqIndex?
            rw [if_neg (show ¬ j < 0 by omega), if_pos (show (decide (0 ≤ j) && decide (j < (vs.length : Int))) = true by simp only [Bool.and_eq_true, decide_eq_true_eq]; omega)]
          · exact kk F1 _ w s1 (G1.setCell hA hc1 ⟨_, rfl, rpa_erase _ c4⟩) rw'
        · cases e3
      · cases e3
    · cases e1
end
end TL

end
/-! TS4 -/
section
set_option maxHeartbeats 4000000
namespace TL
open PySem PySem.Spec PyProof.Rows L2
/-! ## set(l), l a list of whole numbers: as a set that sorted can walk -/
abbrev bareSet (w : World) : Obj := { cls := .type "set", dict := none, data := .set #[] 0 (.fresh 0 0 (!w.params.followText "set-order")) }
section
variable {P : Program} {w : World} {A : Around} {E : Value → Shared → Prop} {s : Shared}
theorem call_setL {l : Addr} {its : Array Value} (zs : List Int) {Q : Value → Shared → Prop} (calm : A.handled = none) (at_ : s.heap.IsList l its) (nums : IntsAre its.toList zs) (few : zs.length + 1 < scanBound)
    (fin : ∀ (g : Heap) (tk c : Nat), SetR w g s.heap.objs.size (fun j => decide (j ∈ zs)) c → c ≤ zs.length → (∀ b o, s.heap.get? b = some o → g.get? b = some o) → Q (.ref s.heap.objs.size) { s with heap := g, toks := tk }) :
    wpAny (model P w) A (call (.type "set") [.ref l]) Q E s := by
  have many : its.size = zs.length := (Array.length_toList (xs := its)).symm.trans (IntsAre.length nums)
  obtain ⟨kc, kr, mro⟩ := F.called_set.mro
  have made := F.called_set.made; have sub1 := F.called_set.sub
  apply wpAny_call; apply codeAny_of_tree
  show wpAny _ _ (callAny (.type "set") ⟨[.ref l], []⟩) _ _ s
  apply wpAny_pure; refine ⟨Code.quiet_builtin _ (by decide +kernel), ?_⟩; refine codeAny_builtin F.entry_type_call ?_
  rewrite [Around.under_plain (weight_type_call_type "set" [.ref l] []) rfl]
  have n1 := F.called_set.notType; have n2 := F.called_set.canCreate; have n3 := F.typeCall_set_1 (.ref l)
  repeat (any_goals (first | wp_step | assumption))
  refine codeAny_mono (code_set_led1 (.ref l) (E := E) (Q₁ := fun ob t => ob = .ref s.heap.objs.size ∧ t = { s with heap := s.heap.push (bareSet w) }) ⟨rfl, rfl⟩) fun r t hr => ?_
  cases r with
  | error x => exact hr
  | ok fl =>
  cases fl with
  | ret ob =>
    obtain ⟨rfl, rfl⟩ := hr
    have g0 : (s.heap.push (bareSet w)).get? s.heap.objs.size = some (bareSet w) := Heap.get?_push_size _ rfl
    have ty : Shared.TypeIs { s with heap := s.heap.push (bareSet w) } (.ref s.heap.objs.size) "set" := ⟨_, g0, rfl⟩
    have i1 := F.called_set.init.lookup; have i2 := F.called_set.init.bind (.ref s.heap.objs.size)
    repeat (any_goals (first | wp_step | assumption))
    refine codeAny_mono (codeAny_call_builtin (R := wants (fun r t => r = .none ∧ ∃ g tk c, t = { s with heap := g, toks := tk } ∧ SetR w g s.heap.objs.size (fun j => decide (j ∈ zs)) c ∧ c ≤ zs.length ∧ (∀ b o, s.heap.get? b = some o → g.get? b = some o)) E) F.called_set.init.plain F.entry_set_init (check_set_init_1 ty ?_)) fun r2 t2 hr2 => ?_
    · obtain ⟨ol, ho, hc, nl, hd⟩ := at_
      obtain ⟨k1, k2, k3, k4⟩ := ol
      simp only at hc hd
      subst hc hd
      have ho' : (s.heap.push (bareSet w)).get? l = some { cls := .type "list", dict := k2, data := .seq its nl, slots := k4 } := Heap.get?_push_of_some _ ho
      have b1 := F.sub_list_set; have b2 := F.sub_list_frozenset; have b3 : (Value.type "list" == Value.type "dict") = false := by decide
      have lst : (s.heap.push (bareSet w)).IsList l its := ⟨_, ho', rfl, nl, rfl⟩
      unfold Builtin.«set.__init__» noKeywords Builtin.Frozenset.updateFrom; generalize hit : pyIter = IT
      wp_walk
      subst hit; refine wpAny_pyIter_list lst (wpAny_bind (wpAny_runValue ?_))
      have ls : l < s.heap.objs.size := Heap.lt_size ho
      have cl : A.in1.in1.in1.handled = none := by simp [calm]
      have sz : (s.heap.push (bareSet w)).objs.size = s.heap.objs.size + 1 := Heap.size_push ..
      have ne : l ≠ (s.heap.push (bareSet w)).objs.size := by rw [sz]; exact Nat.ne_of_lt (Nat.lt_succ_of_lt ls)
      have out : s.heap.objs.size ∉ [(s.heap.push (bareSet w)).objs.size, l] := by
        rw [sz]; simp only [List.mem_cons, List.not_mem_nil, or_false, not_or]; exact ⟨Nat.ne_of_lt (Nat.lt_succ_self _), Nat.ne_of_gt ls⟩
      have val : ∀ (i : Nat) (v : Value), its[i]? = some v → ∃ k t, zs[i]? = some k ∧ v = .int k t := fun i v hv => by
        have hi : i < zs.length := many ▸ (Array.getElem?_eq_some_iff.mp hv).1
        obtain ⟨t, e⟩ := IntsAre.int_at nums i v (by rw [Array.getElem?_toList]; exact hv)
        exact ⟨zs[i], t, List.getElem?_eq_getElem hi, by rw [e, List.getD_eq_getElem?_getD, List.getElem?_eq_getElem hi]; rfl⟩
      refine set_update_ints ((Walks.list cl _ l ne its).toS) s.heap.objs.size out zs many few val (its.size - 0) 0 _ (by omega) (Nat.zero_le _) ⟨⟨_, Heap.get?_push_size _ rfl, rfl, rfl⟩, lst.push _⟩ ⟨0, Nat.le_refl 0, setR_new_at (Heap.get?_push_of_some _ g0)⟩ ?_
      intro t c mv hc hS
      obtain ⟨g, g2, d2, tk, os2⟩ := t
      have q1 : g2 = s.gens := mv.gens; have q2 : d2 = s.drawn := mv.drawn; have q3 : os2 = s.os := mv.os
      subst q1 q2 q3
      show wpAny _ _ _ _ _ _
      apply wpAny_pure; show wpAny _ _ (ret Value.none) _ _ _
      rw [many] at hc
      refine wpAny_pure ⟨rfl, g, tk, c, rfl, hS, hc, fun b o e => ?_⟩
      have lb : b < s.heap.objs.size := Heap.lt_size e
      exact mv.heap b o (by simp only [List.mem_cons, List.not_mem_nil, or_false, not_or]; rw [sz]; exact ⟨Nat.ne_of_lt lb, Nat.ne_of_lt (Nat.lt_succ_of_lt lb)⟩) (Heap.get?_push_of_some _ (Heap.get?_push_of_some _ e))
    · cases r2 with
      | error x => exact hr2
      | ok fl2 =>
        cases fl2 with
        | ret x =>
          obtain ⟨rfl, g, tk, c, rfl, hS, hc, hk⟩ := hr2
          repeat (any_goals (first | wp_step | assumption))
          exact fin _ _ _ hS hc hk
        | _ => exact hr2.elim
  | _ => exact hr.elim
end
end TL

end
/-! TL46 -/
section
set_option maxHeartbeats 4000000
namespace TL
open PySem L2
/-! ## sorted(set(l)), l a list of whole numbers -/
def insU (a : Int) : List Int → List Int
  | [] => [a]
  | b :: l => if a < b then a :: b :: l else if a = b then b :: l else b :: insU a l
def riseU (zs : List Int) : List Int := zs.foldr insU []
theorem insU_mem {a k : Int} : ∀ {l : List Int}, k ∈ insU a l ↔ k = a ∨ k ∈ l
  | [] => by simp [insU]
  | b :: l => by
    unfold insU
    split
    · simp
    · split
      · rename_i h1 h2
        subst h2
        simp
      · rw [List.mem_cons, insU_mem, List.mem_cons]
        constructor
        · rintro (h | h | h) <;> simp [h]
        · rintro (h | h | h) <;> simp [h]
theorem insU_rise {a : Int} : ∀ {l : List Int}, l.Pairwise (· < ·) → (insU a l).Pairwise (· < ·)
  | [], _ => by simp [insU]
  | b :: l, h => by
    have h1 := List.pairwise_cons.mp h
    unfold insU
    split
    · rename_i hab
      exact List.pairwise_cons.mpr ⟨fun k hk => by
        rcases List.mem_cons.mp hk with q | q
        · rw [q]; exact hab
        · exact Int.lt_trans hab (h1.1 k q), h⟩
    · split
      · exact h
      · refine List.pairwise_cons.mpr ⟨fun k hk => ?_, insU_rise h1.2⟩
        rcases insU_mem.mp hk with q | q
        · omega
        · exact h1.1 k q
theorem riseU_mem {k : Int} : ∀ {zs : List Int}, k ∈ riseU zs ↔ k ∈ zs
  | [] => by simp [riseU]
  | z :: zs => by
    show k ∈ insU z (riseU zs) ↔ _
    rw [insU_mem, riseU_mem, List.mem_cons]
theorem riseU_rise : ∀ zs : List Int, (riseU zs).Pairwise (· < ·)
  | [] => List.Pairwise.nil
  | z :: zs => insU_rise (riseU_rise zs)
theorem rise_one : ∀ {as bs : List Int}, as.Pairwise (· < ·) → bs.Pairwise (· < ·) → (∀ k, k ∈ as ↔ k ∈ bs) → as = bs
  | [], [], _, _, _ => rfl
  | [], b :: bs, _, _, h => absurd ((h b).mpr List.mem_cons_self) (by simp)
  | a :: as, [], _, _, h => absurd ((h a).mp List.mem_cons_self) (by simp)
  | a :: as, b :: bs, ha, hb, h => by
    have a1 := List.pairwise_cons.mp ha
    have b1 := List.pairwise_cons.mp hb
    have e : a = b := by
      rcases List.mem_cons.mp ((h a).mp List.mem_cons_self) with q | q
      · exact q
      · rcases List.mem_cons.mp ((h b).mpr List.mem_cons_self) with z | z
        · exact z.symm
        · have := a1.1 b z
          have := b1.1 a q
          omega
    subst e
    rw [rise_one a1.2 b1.2 fun k => ?_]
    constructor
    · intro hk
      rcases List.mem_cons.mp ((h k).mp (List.mem_cons_of_mem _ hk)) with q | q
      · have := a1.1 k hk
        omega
      · exact q
    · intro hk
      rcases List.mem_cons.mp ((h k).mpr (List.mem_cons_of_mem _ hk)) with q | q
      · have := b1.1 k hk
        omega
      · exact q
def sortSet : List PyData → Option PyData
  | [.list ds] => (ds.mapM intOf).bind fun is => if is.length < 60 then some (.list ((riseU is).map .int)) else none
  | _ => none
section
variable {X : Cx} {U : Hp}
def rSetL (K : PySem.W.Frag) (w : World) : List V → Hp → VK → Prop := fun xs H Q => ∃ (l : Addr) (zs : List Int), xs = [V.ref l] ∧ SqL K H l (zs.map V.int) ∧ zs.length < 60 ∧
  ∀ (p : Addr) (c : Nat), H p = none → c < 60 → Q (.ref p) (upd H p (SetO w p (fun j => decide (j ∈ zs)) c))
theorem cr_setL (hc : X.calm = true) : CallR X (.type "set") (rSetL X.K X.w) := by
  intro pins s σ H xs us Q I r h
  obtain ⟨l, zs, rfl, hl, hz, q⟩ := h
  rw [Vals.ref1 r]
  obtain ⟨its, rv, pl, _⟩ := I.list hl
  refine call_setL (P := X.prog) (w := X.w) zs (I.ok.hd hc) pl.isList (by simpa using rv.ints) (Nat.lt_of_lt_of_le (Nat.succ_lt_succ hz) (by decide)) fun g tk c R lc k => ?_
  exact ⟨.ref s.heap.objs.size, _, I.laid (t' := tk) k (Nat.le_refl _) (setO_new R), rfl, q _ c (I.hok.fresh (Nat.le_refl _)) (by omega)⟩
theorem qn_sortSet {x y : Str} {p p1 pos pos2 : Pos} {e : Expr} {f : Eas} (hc : X.calm = true) (hgx : Gl X x) (hmx : X.mg x = none) (hvx : bootBuiltins x = some (.builtin "sorted")) (hgy : Gl X y) (hmy : X.mg y = none) (hvy : bootBuiltins y = some (.type "set")) (ha : PA X [e] (tAs X.K U f))
    (nx : x ≠ "__name__" := by decide) (dx : (x == ("__debug__" : Str)) = false := by decide) (ny : y ≠ "__name__" := by decide) (dy : (y == ("__debug__" : Str)) = false := by decide)
    (s1 : starEach [e] X.env = (false, eval e X.env) :: starEach [] X.env := by rfl) (b1 : (backTo pos2 (starEach [] X.env)).any (·.1) = false := by rfl)
    (s2 : starEach [.Call (.Name y p1) [e] [] pos2] X.env = (false, eval (.Call (.Name y p1) [e] [] pos2) X.env) :: starEach [] X.env := by rfl) (b2 : (backTo pos (starEach [] X.env)).any (·.1) = false := by rfl) :
    PE X (.Call (.Name x p) [.Call (.Name y p1) [e] [] pos2] [] pos) (tN X.K U (eMap f sortSet)) :=
  pe_weak (pe_callB (cr_sortedSet hc) hgx hmx hvx (pa_cons (pe_callTy (cr_setL hc) hgy hmy hvy ha ny dy s1 b1) pa_nil s2) nx dx s2 b2) fun σ H Q ⟨A, F, r, m, d, m', G, e, k⟩ => by
    obtain ⟨ds, e1, e2⟩ := map_some e
    unfold sortSet at e2
    split at e2
    · obtain ⟨is, e3, e4⟩ := Option.bind_eq_some_iff.mp e2
      split at e4
      · rename_i h60
        cases e4
        refine ⟨A, F, r, m, _, m', G, e1, fun F1 H1 vs t1 G1 h1 => ?_⟩
        obtain ⟨v, rfl, h⟩ := rpa1 h1
        cases h with
        | vl sa ra =>
          have := ints_of e3 ra
          subst this
          refine ⟨_, is, rfl, sqL_mono G1.sub sa, h60, fun p c np hc' => ?_⟩
          have G2 := G1.laidO (o := SetO X.w p (fun j => decide (j ∈ is)) c) np
          refine ⟨p, _, c, rfl, upd_same, by omega, fun ns q hr hm _ nq => ?_⟩
          have en : ns = riseU is := rise_one hr (riseU_rise is) fun k => by
            rw [hm k, riseU_mem]
            exact decide_eq_true_iff
          subst en
          exact k F1 _ q _ t1 (G2.laidO nq) (G2.nope nq).1 (G2.nope nq).2 (G2.notin nq) upd_same ⟨_, rfl, rpa_ints _⟩
      · cases e4
    · cases e2
end
end TL

end
/-! TL47 -/
section
set_option maxHeartbeats 4000000
namespace TL
open PySem L2
/-! ## list(d), d a cell -/
def eDkO (i : Nat) : Ev := fun r m => (slO r[i]?).bind fun k => (cellAt m k).bind fun c => match c with | .dict ps => some (.list (ps.map (·.1)), m) | _ => none
section
variable {X : Cx} {U : Hp} {x y : Str} {p p1 pos : Pos}
theorem qn_listDO (i : Nat) (hc : X.calm = true) (hv : PE X (.Name y p1) (tVar i)) (hg : Gl X x) (hm : X.mg x = none) (hb : bootBuiltins x = some (.type "list")) (hn : x ≠ "__name__" := by decide) (hdb : (x == ("__debug__" : Str)) = false := by decide)
    (he : starEach [.Name y p1] X.env = (false, eval (.Name y p1) X.env) :: starEach [] X.env := by rfl) (hpl : (backTo pos (starEach [] X.env)).any (·.1) = false := by rfl) : PE X (.Call (.Name x p) [.Name y p1] [] pos) (tN X.K U (eDkO i)) :=
  pe_weak (pe_callTy (call_listD hc) hg hm hb (pa_cons hv pa_nil he) hn hdb he hpl) fun σ H Q ⟨A, F, r, m, d, m', G, e, k⟩ => by
    unfold eDkO at e
    obtain ⟨j, e0, e1⟩ := Option.bind_eq_some_iff.mp e
    obtain ⟨c, e2, e3⟩ := Option.bind_eq_some_iff.mp e1
    obtain ⟨a, hA, hσ⟩ := G.ow i j (slO_some e0)
    split at e3
    · cases e3
      obtain ⟨c1, c2, u, c3, ks, c5, c4⟩ := G.cl j a _ hA e2
      subst c5
      exact ⟨_, hσ, a, ks, rfl, .inl c3, fun l hl => k F _ l _ (Same.refl F) (G.laidO hl) (G.nope hl).1 (G.nope hl).2 (G.notin hl) upd_same ⟨_, rfl, rpa_keys c4⟩⟩
    · cases e3
end
end TL

end
/-! TX0 -/
section
set_option maxHeartbeats 4000000
namespace TX
open PySem PySem.W PySem.Calls PyProof.Rows PySem.HandSPX
/-- the first attribute of an object of fields: a dict of its own is laid -/
theorem store_new {prog : Program} {w : World} {A : Around} {E : Value → Shared → Prop} {Q : Fin → Shared → Prop} {hp : Heap} {g : Array GenState} {d : Drawn} {t : Nat} {os : OsState} {name : Str} {tk : Tok} {v : Value} {x C : Addr} {fv : Array Value} {cd : ClassData}
    (hx : hp.get? x = some { cls := .ref C, data := .fields fv }) (hcls : PySem.W.Looks (model prog w) hp (classData C) cd) (hh : cd.hasDict = true)
    (hq : ∀ (h' : Heap) (tk' dx : Nat), (∀ (b : Addr) (o : Obj), b ≠ x → hp.get? b = some o → h'.get? b = some o) → hp.objs.size ≤ dx → dx ≠ x → h'.get? x = some { cls := .ref C, dict := some dx, data := .fields fv } →
      (h'.Ns1 dx fun y => if y = name then some v else none) → Q (.done (.ret .none)) { heap := h', gens := g, drawn := d, toks := tk', os := os }) :
    wpAny (model prog w) A (Builtin.ObjectAttr.storeInOwnDict (.ref x) (.ref C) (.str name tk) name v false) Q E { heap := hp, gens := g, drawn := d, toks := t, os := os } := by
  have hxs := Nat.ne_of_lt (PySem.Heap.lt_size hx)
  obtain ⟨nm, bs, mro, ns, qn, hd, sn, sb, ab, col, del⟩ := cd
  simp only at hh
  subst hh
  unfold Builtin.ObjectAttr.storeInOwnDict
  refine wpAny_bind ?_
  unfold ownStreamTells
  refine wpAny_pure ?_
  refine wpAny_ite_false rfl ?_
  refine wpAny_bind ?_
  unfold Builtin.ObjectAttr.ownDictForStores
  refine wpAny_bind (wpAny_loadPart_at hx ?_)
  refine wpAny_bind (PySem.W.Looks.at hcls ?_)
  refine wpAny_ite_false rfl (wpAny_ite_false rfl ?_)
  refine wpAny_bind (wpAny_alloc' ?_)
  refine wpAny_bind (wpAny_update' (Heap.get?_push_of_some _ hx) ?_)
  refine wpAny_pure ?_
  have hx1 := Heap.get?_push_of_some { cls := .type "dict", data := .dict #[] } hx
  refine store_in_new ⟨{ cls := .type "dict", data := .dict #[] }, #[], 0, (Heap.get?_update_ne (hp.push { cls := .type "dict", data := .dict #[] }) hp.objs.size x (fun o => { cls := o.cls, dict := some hp.objs.size, data := o.data, slots := o.slots }) (Ne.symm hxs)).trans (Heap.get?_push_at rfl rfl), rfl, fun e he => absurd he (by simp), fun _ => rfl⟩ fun h' tk' hn hs => ?_
  refine hq h' tk' hp.objs.size (fun b o hb ho => ?_) (Nat.le_refl _) (Ne.symm hxs) ?_ hn
  · exact (hs.2 b (Nat.ne_of_lt (Heap.lt_size ho))).trans ((Heap.get?_update_ne _ b x _ hb).trans (Heap.get?_push_of_some _ ho))
  · exact (hs.2 x hxs).trans (Heap.get?_update_self (fun o => { cls := o.cls, dict := some hp.objs.size, data := o.data, slots := o.slots }) hx1 rfl)
end TX

end
/-! TX1 -/
section
set_option maxHeartbeats 4000000
/-! An own exception over LookupError (or another built-in base) whose __init__ stores one field. -/
namespace TX
open PySem PySem.W PySem.Calls PyProof.Rows PySem.HandSPX
/-- a store to an attribute of a fresh exception: of the classes ahead of it only what is asked -/
theorem osa_any {prog : Program} {w : World} {A : Around} {R : Result → Shared → Prop} {hp : Heap} {g : Array GenState} {d : Drawn} {t : Nat} {os : OsState} {K : Frag} {name : Str} {tk : Tok} {v : Value} {x C : Addr} {fv : Array Value} {cd : ClassData}
    (X : K.In hp) (hx : hp.get? x = some { cls := .ref C, data := .fields fv }) (hcd : clsIn K C = some cd) (ne : cd.mro.isEmpty = false) (hob : cd.mro.contains (.type "object") = true)
    (hps : refuseLoop (.ref x) "__setattr__" cd.mro = pure ()) (hh : cd.hasDict = true) (ha : findIn K (.ref C) name = some none)
    (hq : ∀ (h' : Heap) (tk' dx : Nat), (∀ (b : Addr) (o : Obj), b ≠ x → hp.get? b = some o → h'.get? b = some o) → hp.objs.size ≤ dx → dx ≠ x → h'.get? x = some { cls := .ref C, dict := some dx, data := .fields fv } →
      (h'.Ns1 dx fun y => if y = name then some v else none) → R (.ok (.ret .none)) { heap := h', gens := g, drawn := d, toks := tk', os := os }) :
    codeAny (model prog w) A (.call (.builtin "object.__setattr__") { pos := [.ref x, .str name tk, v] }) R { heap := hp, gens := g, drawn := d, toks := t, os := os } := by
  have I : PySem.W.InstAt hp x { cls := .ref C, data := .fields fv } C none := ⟨hx, rfl, rfl, trivial⟩
  have SF := PySem.F.store_object
  have hxs := Nat.ne_of_lt (PySem.Heap.lt_size hx)
  have hmI : mroIn K C (.type "object") = some true := by
    show ((clsIn K C).bind fun cd => if cd.mro.isEmpty = true then none else some (cd.mro.contains (.type "object"))) = some true
    rw [hcd, Option.bind_some, if_neg (by rw [ne]; decide), hob]
  have sub : PySem.W.Looks (model prog w) hp (isInstance (.ref x) (.type "object")) true := PySem.W.Looks.andThen (PySem.W.InstAt.type I) (PySem.W.looks_mroIn X (C := C) (base := .type "object") hmI)
  have hcls := PySem.W.looks_clsIn (M := model prog w) X hcd
  have hmr : PySem.W.Looks (model prog w) hp (mroOf (.ref C)) cd.mro := PySem.W.Looks.andThen (PySem.W.looks_clsIn X hcd) PySem.W.Looks.now
  refine codeAny_call_builtin (id := "object.__setattr__") (b := Builtin.«object.__setattr__») SF.slot.plain SF.entry ?_
  have key := @PySem.W.check_slot (model prog w) A.in1 (fun e s' => R (.error e) s') ⟨hp, g, d, t, os⟩ "object.__setattr__" "object" "__setattr__" (.ref x) [.str name tk, v] []
  generalize hi : ("object.__setattr__" : String) = i at *
  refine key (Q := _) SF.kind SF.split sub (SF.args (.ref x) (.str name tk) v) ?_
  subst hi
  rw [osa_eq, refuse_eq]
  refine wpAny_bind (wpAny_bind (PySem.W.Looks.at (PySem.W.InstAt.type I) (wpAny_bind (PySem.W.Looks.at hmr ?_))))
  rw [hps]
  refine wpAny_pure (wpAny_bind (PySem.W.Looks.at (PySem.W.InstAt.type I) (wpAny_bind (PySem.W.Looks.at (PySem.W.looks_findIn X ha) (wpAny_bind (PySem.W.Looks.at PySem.W.Looks.now ?_))))))
  exact store_new hx hcls hh hq
end TX

end
/-! TX2 -/
section
set_option maxHeartbeats 4000000
namespace TX
open PySem PySem.W PySem.Calls PyProof.Rows PySem.HandSPX
/-! ### the maker's text: one row, self.name = name -/
def mkA (p q : Pos) : Arguments := { posonlyargs := [], args := [{ arg := "self", annotation := none, pos := p }, { arg := "name", annotation := none, pos := q }], vararg := none, kwonlyargs := [], kw_defaults := [], kwarg := none, defaults := [] }
def mkB (q1 q2 q3 q4 : Pos) : List Stmt := [.Assign [.Attribute (.Name "self" q1) "name" q2] (.Name "name" q3) q4]
def mkS : Scope := { kind := .function, names := [(Str.ofString "self", .local), (Str.ofString "name", .local)], isGenerator := false, isCoroutine := false, more := [] }
def tyIs : List Value → List String → Bool
  | [], [] => true
  | .type a :: r, b :: s => decide (a = b) && tyIs r s
  | _, _ => false
theorem tyIs_eq : ∀ {l : List Value} {s : List String}, tyIs l s = true → l = s.map Value.type
  | [], [], _ => rfl
  | .type a :: r, b :: s, h => by
    simp only [tyIs, Bool.and_eq_true, decide_eq_true_eq] at h
    rw [h.1, tyIs_eq h.2]
    rfl
  | [], _ :: _, h => by simp [tyIs] at h
  | .type _ :: _, [], h => by simp [tyIs] at h
/-- what the class's object must be -/
def clOk (K : Frag) (C : Addr) (tail : List String) (newId : String) : Bool := match List.lookup C K with
  | some { cls := .type "type", dict := _, data := .cls cd, slots := sl } => match cd.mro, sl.toList with
    | .ref C' :: bm, [_, _, _, _, some (.builtin n), _] => decide (C' = C) && decide (n = newId) && !cd.hasDel && cd.hasDict && tyIs bm tail
    | _, _ => false
  | _ => false
theorem clOk_cls {K : Frag} {C : Addr} {tail : List String} {newId : String} (h : clOk K C tail newId = true) :
    ∃ nm q N bs sn sub ab col dd k0 k1 k2 k3 k5, List.lookup C K = some (excClassObj nm q C N bs (tail.map Value.type) true sn sub ab col dd k0 k1 k2 k3 k5 newId) := by
  unfold clOk at h
  split at h
  · rename_i dd cd sl e
    split at h
    · rename_i C' bm k0 k1 k2 k3 n k5 e1 e2
      simp only [Bool.and_eq_true, decide_eq_true_eq, Bool.not_eq_true'] at h
      obtain ⟨⟨⟨⟨h1, h2⟩, h3⟩, h4⟩, h5⟩ := h
      obtain ⟨nm, bs, mro, ns, qn, hd, sn, sb, ab, col, del⟩ := cd
      simp only at e1 h3 h4
      have e5 := tyIs_eq h5
      subst h1 h2 h3 h4 e5 e1
      obtain ⟨sl⟩ := sl
      simp only at e2
      subst e2
      exact ⟨nm, qn, ns, bs, sn, sb, ab, col, dd, k0, k1, k2, k3, k5, e⟩
    · cases h
  · cases h
/-- what the written part says of the class and of its maker -/
structure ExT (K : Frag) (mg : Str → Option Value) (cn : Str) (tail : List String) (newId : String) (C fI : Addr) : Prop where
  gC : mg cn = some (.ref C)
  cls : clOk K C tail newId = true
  sa : findIn K (.ref C) "__setattr__" = some (some (.builtin "object.__setattr__"))
  ga : findIn K (.ref C) "__getattribute__" = some (some (.builtin "BaseException.__getattribute__"))
  gg : findIn K (.ref C) "__getattr__" = some none
  noN : findIn K (.ref C) "name" = some none
  iC : findIn K (.ref C) "__init__" = some (some (.ref fI))
  tC : typeIn K (.ref fI) = some (.type "function")
  kC : keepIn K (.ref C) = true
  exC : subIn K (.ref C) (.type "BaseException") = some true
  tyC : typeIn K (.ref C) = some (.type "type")
  hdC : hasDictIn K C = true
  te : exmOne K (.ref C) (.ref C) = some true
  fn : ∃ (q : Str) (fd : FuncData) (p1 p2 q1 q2 q3 q4 : Pos), L2.FunD K "__init__" q (mkA p1 p2) (mkB q1 q2 q3 q4) mkS [] [] fI fd
/-- what a built-in base must be good for -/
structure BaseT (B newId initId : String) (tail : List String) : Prop where
  ex : ExcBaseFacts B newId initId (tail.map Value.type)
  ps : ∀ self : Value, refuseLoop self "__setattr__" (tail.map Value.type) = pure ()
  ob : (tail.map Value.type).contains (.type "object") = true
theorem base_lookup : BaseT "LookupError" "LookupError.__new__" "LookupError.__init__" ["LookupError", "Exception", "BaseException", "object"] := ⟨PySem.F.excBase_LookupError, fun _ => rfl, by decide +kernel⟩
structure InitEnd (h h' : Heap) (x C dx t1 : Addr) (v : Value) : Prop where
  keep : ∀ b o, b ≠ x → h.get? b = some o → h'.get? b = some o
  obj : h'.get? x = some { cls := .ref C, dict := some dx, data := .fields #[.ref t1, .none, .none, .none, .bool false, .none] }
  big : h.objs.size ≤ dx
  ne : dx ≠ x
  ns : h'.Ns1 dx (fun y => if y = "name" then some v else none)
/-- an exception made -/
structure Made (h h' : Heap) (e C d : Addr) (v : Value) : Prop where
  keep : ∀ b o, h.get? b = some o → h'.get? b = some o
  new : h.objs.size ≤ e
  obj : ∃ oe vs, h'.get? e = some oe ∧ oe.cls = .ref C ∧ oe.dict = some d ∧ oe.data = .fields vs ∧ vs[1]? = some .none
  big : h.objs.size ≤ d
  ne : d ≠ e
  ns : h'.Ns1 d (fun y => if y = "name" then some v else none)
theorem name_of {M : Model} {s : Shared} {q : Str} {scope : Scope} {L a : Addr} {cd : Value} {m : Str → Option Value} {x : Str} {pos : Pos} {v : Value} {Q : Value → Shared → Prop} {A : Around} {E : Value → Shared → Prop} (hn : s.heap.Ns L m) (hv : m x = some v) (h : Q v s)
    (hk : scope.kind = .function := by rfl) (hl : (envOfC q scope L a cd).kindOf x = some .local := by rfl) (hd : (x == ("__debug__" : Str)) = false := by decide) : wpAny M A (eval (.Name x pos) (envOfC q scope L a cd)) Q E s :=
  wpAny_Name (wpAny_loadName_local hk hl hn hv h) hd
section
variable {prog : Program} {w : World} {A : Around} {R : Result → Shared → Prop} {s : Shared} {K : Frag} {mg : Str → Option Value} {cn : Str} {tail : List String} {B newId initId : String} {C fI : Addr}
theorem init_ends (T : ExT K mg cn tail newId C fI) (BT : BaseT B newId initId tail) {x t0 : Addr} {v : Value} (X : K.In s.heap) (lim : s.heap.NoLimit) (hx : s.heap.get? x = some (excO C t0)) (room : A.depth < recursionLimit)
    (fin : ∀ h' tk dx, InitEnd s.heap h' x C dx t0 v → R (.ok (.ret .none)) { s with heap := h', toks := tk }) : codeAny (model prog w) A (.call (.ref fI) ⟨[.ref x, v], []⟩) R s := by
  obtain ⟨q, fd, p1, p2, q1, q2, q3, q4, F⟩ := T.fn
  obtain ⟨oc, od, dV, kV, doc, pm, an, cdv, ct, osl, rfl, ho, hcd, hD, _⟩ := F.ex
  obtain ⟨nm, qc, N, bs, sn, sub, ab, col, dd, k0, k1, k2, k3, k5, hC⟩ := clOk_cls T.cls
  have hcl : clsIn K C = some { name := nm, bases := bs, mro := .ref C :: tail.map Value.type, ns := N, qualname := qc, hasDict := true, slotNames := sn, subclasses := sub, abstract := ab, collection := col, hasDel := false } := by unfold clsIn; rw [hC]
  have hdV : dV = .none := by
    rcases hD with ⟨_, rfl⟩ | ⟨e, _⟩
    · rfl
    · exact absurd rfl e
  subst hdV
  refine Att.call_fn (binds := [("self", .ref x), ("name", v)]) X lim ho hcd room (BindsTo.of_eq (by first | rfl | with_unfolding_all rfl)) (by first | rfl | decide | with_unfolding_all rfl) (fun s1 IC => ?_) rfl rfl rfl
  obtain ⟨h1, tk1, rfl⟩ := IC.toInCall.same
  have k : ∀ b o, s.heap.get? b = some o → h1.get? b = some o := IC.toInCall.keep
  have hn := IC.toInCall.ns
  have X1 : K.In h1 := X.keeps k
  have hx1 := k _ _ hx
  show wpAny _ _ (execs _ _) _ _ _
  refine wpAny_execs_cons (plainObj_wpAny_Assign_Attribute ?_)
  refine name_of (v := v) hn (by first | rfl | with_unfolding_all rfl | kernel_rfl) (name_of (v := .ref x) hn (by first | rfl | with_unfolding_all rfl | kernel_rfl) ?_)
  refine set_plain X1 (ox := excO C t0) (od := none) ⟨hx1, rfl, rfl, trivial⟩ T.sa ?_
  refine osa_any X1 hx1 hcl rfl ?_ ?_ rfl T.noN (fun h3 tk3 dx k3 dn dne hx3 hn3 => ?_)
  · show (Value.ref C :: tail.map Value.type).contains (.type "object") = true
    rw [List.contains_cons, BT.ob, Bool.or_true]
  · show refuseLoop _ _ (Value.ref C :: tail.map Value.type) = pure ()
    rw [refuseLoop_ref, BT.ps]
  · show wpAny _ _ (execs _ _) _ _ _
    have z : s.heap.objs.size < h1.objs.size := hn.lt
    exact wpAny_execs_nil (fin h3 tk3 dx ⟨fun b o hb e => k3 b o hb (k b o e), hx3, Nat.le_of_lt (Nat.lt_of_lt_of_le z dn), dne, hn3⟩)
end
end TX

end
/-! TX3 -/
section
set_option maxHeartbeats 4000000
namespace TX
open PySem PySem.W PySem.Calls PyProof.Rows PySem.HandSPX
section
variable {prog : Program} {w : World} {A : Around} {R : Result → Shared → Prop} {s : Shared} {K : Frag} {mg : Str → Option Value} {cn : Str} {tail : List String} {B newId initId : String} {C fI : Addr}
theorem made_ends (T : ExT K mg cn tail newId C fI) (BT : BaseT B newId initId tail) {v : Value} (X : K.In s.heap) (lim : s.heap.NoLimit) (room : A.depth + 1 < recursionLimit)
    (fin : ∀ h' tk e d, Made s.heap h' e C d v → R (.ok (.ret (.ref e))) { s with heap := h', toks := tk }) : codeAny (model prog w) A (.call (.ref C) ⟨[v], []⟩) R s := by
  obtain ⟨nm, q, N, bs, sn, sub, ab, col, dd, k0, k1, k2, k3, k5, hC⟩ := clOk_cls T.cls
  obtain ⟨hp, g, dr, tk, os⟩ := s
  have k : ∀ b o, hp.get? b = some o → ((hp.push (kdv_tup [v])).push (excO C hp.objs.size)).get? b = some o := fun b o e => Heap.get?_push_of_some _ (Heap.get?_push_of_some _ e)
  have hget : ((hp.push (kdv_tup [v])).push (excO C hp.objs.size)).get? (hp.objs.size + 1) = some (excO C hp.objs.size) := by heap_get
  refine call_own BT.ex (fun _ => rfl) (X _ _ hC) (looks_findIn X T.iC) (fun self => bind_fn X self T.tC) (by rw [sizeLine_eq]; exact (by decide : 1 ≤ 16777216)) ?_
  refine init_ends (s := ⟨(hp.push (kdv_tup [v])).push (excO C hp.objs.size), g, dr, tk, os⟩) T BT (X.keeps k) (lim.keeps k) hget ?_ fun h' tk' dx ⟨k', hx, dn, dne, hns⟩ => ?_
  · show A.depth + 1 < recursionLimit
    exact room
  · have old : ∀ b o, hp.get? b = some o → h'.get? b = some o := fun b o e => k' b o (Nat.ne_of_lt (Nat.lt_succ_of_lt (Heap.lt_size e))) (k b o e)
    have z : hp.objs.size + 1 + 1 ≤ dx := by
      first
        | (simpa only [Heap.size_push] using dn)
        | exact dn
        | (have q := dn; rw [Heap.size_push, Heap.size_push] at q; exact q)
    exact ⟨rfl, fin h' tk' (hp.objs.size + 1) dx ⟨old, Nat.le_succ _, ⟨_, _, hx, rfl, rfl, rfl, rfl⟩, Nat.le_trans (Nat.le_trans (Nat.le_succ _) (Nat.le_succ _)) z, dne, hns⟩⟩
end
end TX
namespace TX
open PySem PySem.Spec PyProof.Rows L2
theorem relO_name {v : V} {v' : Value} (r : RelV v v') (f : Str) : RelO (List.lookup f [(("name" : Str), v)]) (if f = "name" then some v' else none) := by
  by_cases hw : f = "name"
  · subst hw
    rw [if_pos rfl]
    have q : List.lookup ("name" : Str) [(("name" : Str), v)] = some v := by simp [List.lookup]
    rw [q]
    exact r
  · rw [if_neg hw]
    have qw : (f == ("name" : Str)) = false := by simpa using hw
    have q2 : List.lookup f [(("name" : Str), v)] = none := by simp [List.lookup, qw]
    rw [q2]
    trivial
/-- the field of a caught one -/
abbrev fldO (v : V) : HO := .xd [(("name" : Str), v)]
section
variable {X : Cx} {cn : Str} {tail : List String} {B newId initId : String} {C fI : Addr}
/-- C(e) -/
def tMk (C : Addr) (ta : TA) : L2.St → Hp → XK → Prop := fun σ H Q => ta σ H fun vs H1 => ∃ v, vs = [v] ∧ ∀ d, H1 d = none → Q (.ref C) (some d) (upd H1 d (fldO v))
theorem pmk_ex {a : Expr} {ta : TA} {p pos : Pos} {k : Nat} (T : ExT X.K X.mg cn tail newId C fI) (BT : BaseT B newId initId tail) (hr : Room k X.A) (ha : PA X [a] ta) (hg : Gl X cn) (hdb : (cn == ("__debug__" : Str)) = false)
    (he : starEach (a :: []) X.env = (false, eval a X.env) :: starEach [] X.env := by rfl) (hpl : (backTo pos (starEach [] X.env)).any (·.1) = false := by rfl) :
    PMk X (.Call (.Name cn p) [a] [] pos) (tMk C ta) := by
  intro pins s σ H Q I h
  refine wpAny_Call_Name_kw (ld_glob I hg T.gC ?_ hdb)
  refine PySem.W.callWith_K (h₀ := X.base) I.ok.mod.kin T.kC (thn (ha.run pos pins s σ H _ I h) fun us s1 hh => ?_) he hpl
  obtain ⟨vs, H1, I1, r1, v, ev, q1⟩ := hh
  subst ev
  refine ⟨I1.kIn, ?_⟩
  cases r1 with
  | cons rv rn =>
    rename_i v' us'
    cases rn
    show wpAny _ _ (call (.ref C) [v']) _ _ _
    have hlim := I1.nolimit
    obtain ⟨hp, g, dr, tk, os⟩ := s1
    refine wpAny_call (made_ends T BT I1.kIn hlim (by have := hr.dp; omega) fun h' tk' e d M => ?_)
    show MkP X pins σ Q (.ref e) ⟨h', g, dr, tk', os⟩
    obtain ⟨oe, fv, hoe, hc, hd, hdat, h1⟩ := M.obj
    have hns := M.ns
    obtain ⟨G', g1, g2⟩ := restrict h' fun b => decide (b ≠ e)
    have gk : ∀ b, b ≠ e → G'.get? b = h'.get? b := fun b hb => g1 b (decide_eq_true hb)
    have ge : G'.get? e = none := g2 e (by simp)
    have old : ∀ b o, hp.get? b = some o → G'.get? b = some o := fun b o q => (gk b (Nat.ne_of_lt (Nat.lt_of_lt_of_le (Heap.lt_size q) M.new))).trans (M.keep b o q)
    have ob : ObjOk X.prog X.w (upd H1 d (fldO v)) G' d (fldO v) := ⟨_, hns.at (fun o q => (gk d M.ne).trans q), fun f => relO_name rv f⟩
    have J : Inv X pins σ (upd H1 d (fldO v)) ⟨G', g, dr, tk', os⟩ := I1.laid (t' := tk') old M.big ob
    refine ⟨e, oe, fv, ⟨G', g, dr, tk', os⟩, _, .ref C, some d, rfl, J, fun b o q => ?_, ge, hoe, ⟨hc, hd⟩, hdat, h1, ?_, rfl, I1.bare, raises_own T.exC T.tyC, q1 d (I1.hok.fresh M.big)⟩
    · by_cases hb : b = e
      · have q' : G'.get? b = some o := q
        rw [hb, ge] at q'; cases q'
      · exact (gk b hb).symm.trans q
    · rw [upd_ne (Ne.symm M.ne)]
      exact I1.hok.fresh M.new
/-- raise C(e) -/
theorem ps_raiseX {a : Expr} {ta : TA} {W : WX} {p pos pos2 : Pos} {k : Nat} (hc : X.calm = true) (T : ExT X.K X.mg cn tail newId C fI) (BT : BaseT B newId initId tail) (hr : Room k X.A) (tk : Takes X W) (ha : PA X [a] ta) (hg : Gl X cn) (hdb : (cn == ("__debug__" : Str)) = false)
    (he : starEach (a :: []) X.env = (false, eval a X.env) :: starEach [] X.env := by rfl) (hpl : (backTo pos (starEach [] X.env)).any (·.1) = false := by rfl) :
    PS X (.Raise (some (.Call (.Name cn p) [a] [] pos)) none pos2) (fun _ σ H => tMk C ta σ H fun cls d H' => W cls d σ H') := ps_raise hc tk (pmk_ex T BT hr ha hg hdb he hpl)
/-- x.name, x the exception that the suite holds -/
def tFld (C : Addr) (a : Addr) (cls : Value) (d : Option Addr) (te : TE) : TE := fun σ H Q => te σ H fun x H1 => x = .ref a ∧ cls = .ref C ∧ ∃ (dd : Addr) (v : V), d = some dd ∧ H1 dd = some (fldO v) ∧ Q v H1
theorem pe_fld {a : Addr} {oe : Obj} {cls : Value} {d : Option Addr} {pn : List (Addr × Obj)} {e : Expr} {te : TE} {pos : Pos} (T : ExT X.K X.mg cn tail newId C fI) (hz : Zc cls d oe) (hf : ∃ vs, oe.data = .fields vs) (he : PE (X.suite a ((a, oe) :: pn)) e te)
    (hb : attributeBase e "name" X.env (eval e X.env) = eval e X.env := by rfl) : PE (X.suite a ((a, oe) :: pn)) (.Attribute e "name" pos) (tFld C a cls d te) := by
  refine ⟨fun pins s σ H Q I h => ?_⟩
  refine attr_of hb (thn (he.run pins s σ H _ I h) fun u s1 hh => ?_)
  obtain ⟨x, H1, I1, rx, ex, ec, dd, v, ed, ea, q⟩ := hh
  subst ex
  obtain rfl : u = Value.ref a := rx
  subst ec
  subst ed
  obtain ⟨ha, _⟩ := I1.pin (a, oe) (List.mem_append_left _ List.mem_cons_self)
  obtain ⟨vs, hd⟩ := hf
  have hx : ObjOk X.prog X.w H1 s1.heap dd (fldO v) := I1.hok dd _ ea
  obtain ⟨mA, hns, hr⟩ := hx
  obtain ⟨od, ho, hl⟩ := lookIn_ns hns
  have l : List.lookup ("name" : Str) [(("name" : Str), v)] = some v := by simp [List.lookup]
  obtain ⟨u, hu, ru⟩ := RelO.some_of (v := v) (o := mA "name") (by rw [← l]; exact hr "name")
  have J : PySem.W.InstAt s1.heap a oe C (some od) := ⟨ha, hz.1, by unfold PySem.W.notCls; rw [hd] <;> rfl, by rw [hz.2]; exact ho⟩
  exact HandSPX.exc_get I1.kIn J T.ga T.gg T.exC (PySem.W.findObj_own T.hdC T.noN rfl (by rw [hl, hu])) (handed_of ru) ⟨v, H1, I1.tok _, ru, q⟩
end
end TX

end
/-! TX4 -/
section
set_option maxHeartbeats 4000000
namespace TX
open PySem PySem.Spec PyProof.Rows L2 TL
/-! ## promises of defs that an exception may leave, guards told -/
structure FnC (CX : CXT) (P : Program) (w : World) (K : PySem.W.Frag) (mg : Str → Option Value) (base : Heap) (k : Nat) (f : Addr) (fd : FuncData) (ps : List Str) (sp : Sp) : Prop where
  len : ∀ vs H Q E, sp vs H Q E → vs.length = ps.length
  run : ∀ (A : Around) (outer : List Env) (s : Shared) (H : Hp) (args : Args) (us : List Value) (vs : List V) (Q : VK) (E : XK), Room k A → A.guards = some [] → Env0 P w K mg base A outer s H →
    BindsTo s fd args (ps.zip us) → Vals vs us → sp vs H Q E → codeAny (model P w) A (.call (.ref f) args) (CR CX outer P w H s Q E) s
section
variable {CX : CXT} {P : Program} {w : World} {K : PySem.W.Frag} {mg : Str → Option Value} {base : Heap} {x qual : Str} {st : Stmt} {f : Addr} {fd : FuncData} {N ps : List Str} {k : Nat} {sp : Sp}
theorem fn_ofC (F : Fun K x qual st f fd) (S : FnScope N ps (defScope st)) (len : ∀ vs H Q E, sp vs H Q E → vs.length = ps.length)
    (body : ∀ (cdv : Value) (A : Around) (outer : List Env) (s : Shared) (H : Hp) (vs : List V) (Q : VK) (E : XK), Room k (A.deeper (envOfC qual (defScope st) s.heap.objs.size f cdv)) → A.guards = some [] → sp vs H Q E →
      ∃ t, PSs (cxOf CX P w K mg base N qual (defScope st) f cdv A outer s H E) (defBody st) t ∧ t { nx := fun _ H' => Q .non H', rt := Q } (start N vs) H) : FnC CX P w K mg base (k + 1) f fd ps sp := by
  obtain ⟨oc, od, kV, doc, pm, an, cdv, ct, osl, rfl, stands, coded⟩ := F.ex
  refine ⟨len, fun A outer s H args us vs Q E room gd env bind rel pr => ?_⟩
  have many := len _ _ _ _ pr
  have laid : K.In s.heap := env.mod.kin.keeps fun b o z => (env.bs b o z).1
  have free : s.heap.NoLimit := env.mod.nolimit.keeps fun b o z => (env.bs b o z).1
  have kinds : ∀ y ∈ ps.zip us, (defScope st).names.lookup y.1 = some .local ∨ ((defScope st).names.lookup y.1 = some .cell ∧ ((cellsFrom (s.heap.objs.size + 1) (defScope st).names []).lookup y.1).isSome = true) := by
    rintro ⟨n, v⟩ hy
    cases S.par n (List.of_mem_zip hy).1 with
    | inl q => exact .inl q
    | inr q => exact .inr ⟨q, PySem.W.cellsFrom_some _ _ _ (.inl q)⟩
  apply codeAny_call_function room.depth (laid _ _ stands) rfl S.co S.gen rfl (PySem.W.codeRec_of laid coded)
  apply bind
  apply wpAny_newFunctionEnv_cells S.kind kinds
  rintro nv rfl s1 call
  refine ⟨free.keeps call.toInCall.keep, codeAny_func ?_⟩
  obtain ⟨t, does, meant⟩ := body cdv A outer s H vs Q E (room.deeper _) gd pr
  have start0 : Inv (cxOf CX P w K mg base N qual (defScope st) f cdv A outer s H E) [] (start N vs) H s1 := inv_start S room.hd env many rel call
  refine wpAny_mono (does.run [] s1 (start N vs) H _ start0 meant) (fun flow s' ended => ?_) fun e s' ended => ended
  have told : ∀ {σ' : L2.St} {H' : Hp} {v : V} {u : Value}, Inv (cxOf CX P w K mg base N qual (defScope st) f cdv A outer s H E) [] σ' H' s' → RelV v u → Q v H' → CE outer P w H s Q u s' :=
    fun {σ' H' v u} J rv q => ⟨v, H', J.os, J.bare, J.base, J.hok, rv, q⟩
  cases flow with
  | ret u => obtain ⟨v, σ', H', J, rv, q⟩ := ended; exact told J rv q
  | next => obtain ⟨σ', H', J, q⟩ := ended; exact told (v := V.non) (u := Value.none) J rfl q
  | brk => obtain ⟨_, _, _, q⟩ := ended; exact q.elim
  | cont => obtain ⟨_, _, _, q⟩ := ended; exact q.elim
end
/-! ### calls by such promises: as they stand, with defaults, with keywords -/
section
variable {X : Cx} {CX : CXT} {fa : Addr} {fd : FuncData} {ps ks : List Str} {k n : Nat} {sp : Sp} {E : L2.St → XK} {x : Str} {p pos : Pos} {e : Expr} {es : List Expr} {kws : List Keyword} {t tk : TA} {dvs : List V} {ds : List Value}
theorem pe_callCD (F : FnC CX X.prog X.w X.K X.mg X.base k fa fd ps sp) (room : Room k X.A) (gd : X.A.guards = some []) (hg : Gl X x) (hm : X.mg x = some (.ref fa)) (kp : PySem.W.keepIn X.K (.ref fa) = true) (hb : Binds X.K fd ps ds) (hd : Vals dvs ds) (hx : ∀ σ, PassesAt CX X σ (E σ)) (ha : PA X (e :: es) t)
    (hdb : (x == ("__debug__" : Str)) = false := by decide) (he : starEach (e :: es) X.env = (false, eval e X.env) :: starEach es X.env := by rfl) (hpl : (backTo pos (starEach es X.env)).any (·.1) = false := by rfl) :
    PE X (.Call (.Name x p) (e :: es) [] pos) (fun σ H Q => t σ H fun vs H1 => sp (vs ++ dvs) H1 Q (E σ)) := by
  refine ⟨fun pins s σ H Q I h => ?_⟩
  apply wpAny_Call_Name_kw (ld_glob I hg hm ?_ hdb)
  apply PySem.W.callWith_K (h₀ := X.base) I.ok.mod.kin kp (thn (ha.run pos pins s σ H _ I h) fun us s1 ⟨vs, H1, I1, r, q⟩ => ⟨I1.kIn, ?_⟩) he hpl
  have rel := r.append hd
  have hl : (us ++ ds).length = ps.length := by
    rw [← rel.length]
    exact F.len _ _ _ _ q
  apply wpAny_call
  refine codeAny_mono (F.run X.A X.stack s1 H1 ⟨us, []⟩ (us ++ ds) (vs ++ dvs) Q (E σ) room gd I1.env0 (hb s1 us I1.kIn hl) rel q) fun res s' done => ?_
  cases res with
  | error err => exact hx σ pins H1 s1 err s' I1 done
  | ok flow =>
    cases flow with
    | ret u => exact I1.after done
    | next => exact done.elim
    | brk => exact done.elim
    | cont => exact done.elim
theorem pe_callCK {g : List Value → List Value → List Value} {gV : List V → List V → List V} (F : FnC CX X.prog X.w X.K X.mg X.base k fa fd ps sp) (room : Room k X.A) (gd : X.A.guards = some []) (hg : Gl X x) (hm : X.mg x = some (.ref fa)) (kp : PySem.W.keepIn X.K (.ref fa) = true)
    (hb : KBn X.K fd ps n ks g gV) (hx : ∀ σ, PassesAt CX X σ (E σ)) (ha : PA X (e :: es) t) (hkw : PK X kws tk) (hall : (backToKw pos (keywordEach kws X.env)).all (·.1.isSome) = true := by rfl) (hks : (backToKw pos (keywordEach kws X.env)).filterMap (·.1) = ks := by rfl)
    (hdb : (x == ("__debug__" : Str)) = false := by decide) (he : starEach (e :: es) X.env = (false, eval e X.env) :: starEach es X.env := by rfl)
    (hpl : ((backTo pos (starEach (e :: es) X.env)).any (·.1) || (backToKw pos (keywordEach kws X.env)).any (·.1.isNone)) = false := by rfl) :
    PE X (.Call (.Name x p) (e :: es) kws pos) (fun σ H Q => t σ H fun vs H1 => tk σ H1 fun zs H2 => vs.length = n ∧ zs.length = ks.length ∧ sp (gV vs zs) H2 Q (E σ)) := by
  refine ⟨fun pins s σ H Q I h => ?_⟩
  apply wpAny_Call_Name_kw (ld_glob I hg hm ?_ hdb)
  apply PySem.W.callWith_KW (h₀ := X.base) I.ok.mod.kin kp hall (thn (ha.run pos pins s σ H _ I h) fun us s1 ⟨vs, H1, I1, r, q⟩ => ?_) hpl he
  apply thn (hkw.run pos pins s1 σ H1 _ I1 q)
  rintro ws s2 ⟨zs, H2, I2, rz, l1, l2, q2⟩
  refine ⟨I2.kIn, ?_⟩
  rw [hks]
  apply wpAny_call
  refine codeAny_mono (F.run X.A X.stack s2 H2 ⟨us, ks.zip ws⟩ (g us ws) (gV vs zs) Q (E σ) room gd I2.env0 (hb.to s2 us ws I2.kIn (r.length.symm.trans l1) (rz.length.symm.trans l2)) (hb.rel r rz) q2) fun res s' done => ?_
  cases res with
  | error err => exact hx σ pins H2 s2 err s' I2 done
  | ok flow =>
    cases flow with
    | ret u => exact I2.after done
    | next => exact done.elim
    | brk => exact done.elim
    | cont => exact done.elim
end
end TX

end
/-! TX5 -/
section
set_option maxHeartbeats 4000000
namespace TX
open PySem PySem.Spec PyProof.Rows L2 TL
section
variable {X : Cx}
theorem ps_nox {st : Stmt} {t : TS} (h : PS X.nox st t) : PS X st t := ⟨fun pins s σ H D I q => wpAny_mono (h.run pins s σ H D (I.wish _) q) (fun f s' z => by
  cases f with
  | next => obtain ⟨σ', H', J, k⟩ := z; exact ⟨σ', H', J.unwish, k⟩
  | brk => obtain ⟨σ', H', J, k⟩ := z; exact ⟨σ', H', J.unwish, k⟩
  | cont => obtain ⟨σ', H', J, k⟩ := z; exact ⟨σ', H', J.unwish, k⟩
  | ret u => obtain ⟨v, σ', H', J, k⟩ := z; exact ⟨v, σ', H', J.unwish, k⟩) fun _ _ z => z.elim⟩
end
/-! ## statements that may raise, on trees -/
inductive OutX where
  | ok (o : Out) | xc (d : PyData) (r : Rs) (m : Ms)
abbrev EsX := Rs → Ms → Option OutX
/-- what a def hands back: data, an object of its own, an exception with its field -/
inductive ROut where
  | fz (d : PyData) | nw (d : PyData) | xc (d : PyData)
abbrev ErX := Rs → Ms → Option (ROut × Ms)
section
variable (K : PySem.W.Frag) (U : Hp) (n0 : Nat) (C : Addr) (W : WX)
def PostX (A : List Addr) (F : Hp) (D : Ends) : OutX → Prop
  | .ok o => Post K U n0 A F D o
  | .xc d r m => ∀ (A' : List Addr) (F' H' : Hp) (σ' : L2.St) (dd : Addr) (v : V), A <+: A' → Same F F' → Good K U A' F' H' σ' r m → F' dd = some (fldO v) → Rp K F' v d → W (.ref C) (some dd) σ' H'
def tX (f : EsX) : TS := fun D σ H => ∃ (A : List Addr) (F : Hp) (r : Rs) (m : Ms) (o : OutX), Good K U A F H σ r m ∧ n0 ≤ A.length ∧ f r m = some o ∧ PostX K U n0 C W A F D o
/-- an expression that may raise: a call -/
def PostE (A : List Addr) (F : Hp) (σ : L2.St) (r : Rs) (m : Ms) (Q : VK) : ROut → Prop
  | .fz d => ∀ (F' H' : Hp) (v : V), Same F F' → Good K U A F' H' σ r m → Rp K F' v d → Q v H'
  | .nw es => ∀ (F' H' : Hp) (a : Addr) (u : HO), Same F F' → Good K U A F' H' σ r m → F' a = none → U a = none → a ∉ A → H' a = some u → Stored K F' u es → Q (.ref a) H'
  | .xc d => ∀ (F' H' : Hp) (dd : Addr) (v : V), Same F F' → Good K U A F' H' σ r m → F' dd = some (fldO v) → Rp K F' v d → W (.ref C) (some dd) σ H'
def tXe (f : ErX) : TE := fun σ H Q => ∃ (A : List Addr) (F : Hp) (r : Rs) (m : Ms) (o : ROut) (m' : Ms), Good K U A F H σ r m ∧ f r m = some (o, m') ∧ PostE K U C W A F σ r m' Q o
end
theorem PostX.later {K : PySem.W.Frag} {U : Hp} {n0 : Nat} {C : Addr} {W : WX} {A A1 : List Addr} {F F1 : Hp} {D : Ends} (hA : A <+: A1) (hF : Same F F1) : ∀ {o : OutX}, PostX K U n0 C W A F D o → PostX K U n0 C W A1 F1 D o
  | .ok _, p => Post.later hA hF p
  | .xc d r m, p => fun A' F' H' σ' dd v ha hf G h1 h2 => p A' F' H' σ' dd v (hA.trans ha) (hF.trans hf) G h1 h2
/-- the promise: what of it is handed back -/
def PostR (K : PySem.W.Frag) (C : Addr) (F H : Hp) (Q : VK) (E : XK) : ROut → Prop
  | .fz d => ∀ (F' H' : Hp) (v : V), Same F F' → Same F' H' → (∀ b o, H b = some o → F b = none → H' b = some o ∧ F' b = none) → Rp K F' v d → Q v H'
  | .nw es => ∀ (F' H' : Hp) (a : Addr) (u : HO), Same F F' → Same F' H' → (∀ b o, H b = some o → F b = none → H' b = some o ∧ F' b = none) → F' a = none → H a = none → H' a = some u → Stored K F' u es → Q (.ref a) H'
  | .xc d => ∀ (F' H' : Hp) (dd : Addr) (v : V), Same F F' → Same F' H' → (∀ b o, H b = some o → F b = none → H' b = some o ∧ F' b = none) → F' dd = some (fldO v) → Rp K F' v d → E (.ref C) (some dd) H'
def spX (K : PySem.W.Frag) (C : Addr) (n : Nat) (g : List PyData → Option ROut) : Sp := fun vs H Q E => ∃ (F : Hp) (ds : List PyData) (o : ROut), Same F H ∧ vs.length = n ∧ RpAll K F vs ds ∧ g ds = some o ∧ PostR K C F H Q E o
/-! ### statements -/
def xL (s : Es) : EsX := fun r m => (s r m).map .ok
def xNil : EsX := fun r m => some (.ok (.nx r m))
def xSeq (f g : EsX) : EsX := fun r m => (f r m).bind fun o => match o with | .ok (.nx r1 m1) => g r1 m1 | o => some o
def xIf (c : Et) (f g : EsX) : EsX := fun r m => (c r m).bind fun p => if p.1 = true then f r p.2 else g r p.2
def xRaise (f : Ev) : EsX := fun r m => (f r m).map fun p => .xc p.1 r p.2
def xRet (f : ErX) : EsX := fun r m => (f r m).map fun p => match p.1 with | .fz d => .ok (.rt d p.2) | .nw es => .ok (.rn es p.2) | .xc d => .xc d r p.2
def xSet (i : Nat) (f : ErX) : EsX := fun r m => (f r m).map fun p => match p.1 with | .fz d => .ok (.nx (r.set i (.fz d)) p.2) | .nw es => .ok (.nx (r.set i (.ow p.2.length)) (p.2 ++ [some es])) | .xc d => .xc d r p.2
/-- the same where no exception leaves -/
def sSetM (i : Nat) (f : ErX) : Es := fun r m => (f r m).bind fun p => match p.1 with | .fz d => some (.nx (r.set i (.fz d)) p.2) | .nw es => some (.nx (r.set i (.ow p.2.length)) (p.2 ++ [some es])) | .xc _ => none
def sRetM (f : ErX) : Es := fun r m => (f r m).bind fun p => match p.1 with | .fz d => some (.rt d p.2) | .nw es => some (.rn es p.2) | .xc _ => none
def loopX (h : Eh) (body : EsX) : List PyData → EsX
  | [], r, m => some (.ok (.nx r m))
  | d :: ds, r, m => (h d r).bind fun r1 => (body r1 m).bind fun o => match o with
    | .ok (.nx r2 m2) => loopX h body ds r2 m2
    | .ok (.ct r2 m2) => loopX h body ds r2 m2
    | .ok (.bk r2 m2) => some (.ok (.nx r2 m2))
    | o => some o
def xFor (fi : Eas) (h : Eh) (body : EsX) : EsX := fun r m => (fi r m).bind fun p => loopX h body p.1 r p.2
def eX (n : Nat) (g : List PyData → Option ROut) (f : Eas) : ErX := fun r m => (f r m).bind fun p => (arN n g p.1).map fun o => (o, p.2)
def eXD (n : Nat) (dd : List PyData) (g : List PyData → Option ROut) (f : Eas) : ErX := fun r m => (f r m).bind fun p => (arN n g (p.1 ++ dd)).map fun o => (o, p.2)
def eXK (c n : Nat) (g : List PyData → Option ROut) (f fk : Eas) : ErX := fun r m => (f r m).bind fun p => (fk r p.2).bind fun q => if p.1.length = c then (arN n g (p.1 ++ q.1)).map fun o => (o, q.2) else none
section
variable {X : Cx} {U : Hp} {n0 : Nat} {C : Addr} {W : WX} {pos : Pos} {st : Stmt} {rest : List Stmt} {s t : EsX}
theorem xs_lift {f : Es} (h : PS X st (tS X.K U n0 f)) : PS X st (tX X.K U n0 C W (xL f)) := ps_weak h fun D σ H ⟨A, F, r, m, o, G, hn, e, p⟩ => by
  obtain ⟨o1, e1, rfl⟩ := Option.map_eq_some_iff.mp e
  exact ⟨A, F, r, m, o1, G, hn, e1, p⟩
theorem xs_nil : PSs X [] (tX X.K U n0 C W xNil) := pss_weak pss_nil fun D σ H ⟨A, F, r, m, o, G, hn, e, p⟩ => by
  cases e
  exact p A F H σ (List.prefix_refl A) (Same.refl F) G
theorem xs_one (h : PS X st (tX X.K U n0 C W s)) : PSs X [st] (tX X.K U n0 C W s) := pss_one h
theorem xs_cons (h1 : PS X st (tX X.K U n0 C W s)) (h2 : PSs X rest (tX X.K U n0 C W t)) : PSs X (st :: rest) (tX X.K U n0 C W (xSeq s t)) := pss_weak (pss_cons h1 h2) fun D σ H ⟨A, F, r, m, o, G, hn, e, p⟩ => by
  unfold xSeq at e
  obtain ⟨o1, e1, e2⟩ := Option.bind_eq_some_iff.mp e
  refine ⟨A, F, r, m, o1, G, hn, e1, ?_⟩
  cases o1 with
  | xc d r1 m1 => cases e2; exact p
  | ok o1 =>
    cases o1 with
    | nx r1 m1 => exact fun A' F' H' σ' ha hf G' => ⟨A', F', r1, m1, o, G', len_of ha hn, e2, p.later ha hf⟩
    | rt d m1 => cases e2; exact p
    | rn ds m1 => cases e2; exact p
    | bk r1 m1 => cases e2; exact p
    | ct r1 m1 => cases e2; exact p
theorem xs_if {c : Expr} {p q : List Stmt} {b : Et} (hc : PT X c (tT X.K U b)) (ha : PSs X p (tX X.K U n0 C W s)) (hb : PSs X q (tX X.K U n0 C W t)) : PS X (.If c p q pos) (tX X.K U n0 C W (xIf b s t)) := ps_weak (ps_if hc ha hb) fun D σ H ⟨A, F, r, m, o, G, hn, e, po⟩ => by
  unfold xIf at e
  obtain ⟨⟨b1, m1⟩, e1, e2⟩ := Option.bind_eq_some_iff.mp e
  refine ⟨A, F, r, m, b1, m1, G, e1, fun F1 H1 s1 G1 => ?_⟩
  have p1 := po.later (List.prefix_refl A) s1
  cases b1 with
  | true => exact iteT ⟨A, F1, r, m1, o, G1, hn, e2, p1⟩
  | false => exact iteF ⟨A, F1, r, m1, o, G1, hn, e2, p1⟩
theorem xs_ret {e : Expr} {f : ErX} (he : PE X e (tXe X.K U C W f)) : PS X (.Return (some e) pos) (tX X.K U n0 C W (xRet f)) := ps_weak (ps_ret he) fun D σ H ⟨A, F, r, m, o, G, hn, e, p⟩ => by
  unfold xRet at e
  obtain ⟨⟨o1, m1⟩, e1, e2⟩ := Option.map_eq_some_iff.mp e
  refine ⟨A, F, r, m, o1, m1, G, e1, ?_⟩
  cases o1 with
  | fz d =>
    cases e2
    exact fun F1 H1 v s1 G1 h1 => p A F1 H1 v (List.prefix_refl A) s1 (G1.fin hn) h1
  | nw es =>
    cases e2
    exact fun F1 H1 a u s1 G1 h1 h2 h3 h4 h5 => p A F1 H1 a u (List.prefix_refl A) s1 (G1.fin hn) h1 h2 (fun k _ e => h3 (List.mem_of_getElem? e)) h4 h5
  | xc d =>
    cases e2
    exact fun F1 H1 dd v s1 G1 h1 h2 => p A F1 H1 σ dd v (List.prefix_refl A) s1 G1 h1 h2
theorem xs_set {i : Nat} {x : Str} {p1 : Pos} {e : Expr} {f : ErX} (hN : X.N.Nodup) (hi : X.N[i]? = some x) (hx : Loc X.env.scope x) (he : PE X e (tXe X.K U C W f)) (hs : swapsWith e (some (.Name x p1)) pos.line X.env = pure false := by rfl)
    (hf : X.fn x = true ∨ X.env.scope.names.lookup x = some .local := by first | exact .inl rfl | exact .inr rfl | assumption) : PS X (.Assign [.Name x p1] e pos) (tX X.K U n0 C W (xSet i f)) := ps_weak (ps_set hN hi hx he hs hf) fun D σ H ⟨A, F, r, m, o, G, hn, e, p⟩ => by
  unfold xSet at e
  obtain ⟨⟨o1, m1⟩, e1, e2⟩ := Option.map_eq_some_iff.mp e
  refine ⟨A, F, r, m, o1, m1, G, e1, ?_⟩
  cases o1 with
  | fz d =>
    cases e2
    exact fun F1 H1 v s1 G1 h1 => p A F1 H1 _ (List.prefix_refl A) s1 (G1.setFz h1)
  | nw es =>
    cases e2
    exact fun F1 H1 a u s1 G1 h1 h2 h3 h4 h5 => p (A ++ [a]) F1 H1 _ (List.prefix_append A [a]) s1 (G1.setOw h1 h2 h3 h4 h5)
  | xc d =>
    cases e2
    exact fun F1 H1 dd v s1 G1 h1 h2 => p A F1 H1 σ dd v (List.prefix_refl A) s1 G1 h1 h2
theorem xs_raise {a : Expr} {f : Ev} {p pos pos2 : Pos} {k : Nat} {cn : Str} {tail : List String} {B newId initId : String} {fI : Addr} (hc : X.calm = true) (T : ExT X.K X.mg cn tail newId C fI) (BT : BaseT B newId initId tail) (hr : Room k X.A) (tk : Takes X W) (ha : PE X a (tE X.K U f)) (hg : Gl X cn) (hdb : (cn == ("__debug__" : Str)) = false)
    (he : starEach (a :: []) X.env = (false, eval a X.env) :: starEach [] X.env := by rfl) (hpl : (backTo pos (starEach [] X.env)).any (·.1) = false := by rfl) :
    PS X (.Raise (some (.Call (.Name cn p) [a] [] pos)) none pos2) (tX X.K U n0 C W (xRaise f)) := ps_weak (ps_raiseX hc T BT hr tk (qa_cons ha qa_nil he) hg hdb he hpl) fun D σ H ⟨A, F, r, m, o, G, hn, e, q⟩ => by
  unfold xRaise at e
  obtain ⟨⟨d1, m1⟩, e1, rfl⟩ := Option.map_eq_some_iff.mp e
  have e3 : eCons f eNil r m = some ([d1], m1) := by
    show ((f r m).bind fun p => (eNil r p.2).map fun q => (p.1 :: q.1, q.2)) = _
    rw [e1]
    rfl
  refine ⟨A, F, r, m, [d1], m1, G, e3, fun F1 H1 vs s1 G1 h1 => ?_⟩
  obtain ⟨v, rfl, hv⟩ := rpa1 h1
  refine ⟨v, rfl, fun dd nd => ?_⟩
  have sF : Same F1 (upd F1 dd (fldO v)) := same_new (G1.nope nd).1
  exact q A _ _ σ dd v (List.prefix_refl A) (s1.trans sF) (G1.laid nd) upd_same (Rpm sF hv)
end
end TX

end
/-! TX6 -/
section
set_option maxHeartbeats 4000000
namespace TX
open PySem PySem.Spec PyProof.Rows L2 TL
section
variable {X : Cx} {U : Hp} {n0 : Nat} {C : Addr} {W : WX} {tg iter : Expr} {body : List Stmt} {fi : Eas} {h : Eh} {s : EsX} {is : List Nat} {pos : Pos}
theorem xs_for (hp : PassesOwn (model X.prog X.w) X.A X.env X.xe) (hc : X.calm = true) (hi : PI X tg iter (tIt X.K U fi)) (hg : PG X tg (tG X.K U is h)) (hb : PSs X body (tX X.K U n0 C W s)) (hs : ∀ x, foldedSetIterable iter X.env x = pure x := by intro _; rfl) :
    PS X (.For tg iter body [] pos) (tX X.K U n0 C W (xFor fi h s)) := ps_weak (ps_for hp hc hi hg hb hs) fun D σ H ⟨A, F, r, m, o, G, hn, e, p⟩ => by
  unfold xFor at e
  obtain ⟨⟨ds, m1⟩, e1, e⟩ := Option.bind_eq_some_iff.mp e
  simp only at e
  refine ⟨A, F, r, m, ds, m1, G, e1, fun F1 H1 J s1 G1 W1 => ?_⟩
  refine ⟨fun i mm σ2 H2 => mm = ds.length - i ∧ i ≤ ds.length ∧ ∃ (A2 : List Addr) (F2 : Hp) (r2 : Rs) (m2 : Ms), A <+: A2 ∧ Same F1 F2 ∧ Good X.K U A2 F2 H2 σ2 r2 m2 ∧ loopX h s (ds.drop i) r2 m2 = some o, ⟨ds.length, by simp, Nat.zero_le _, A, F1, r, m1, List.prefix_refl A, Same.refl F1, G1, by rw [List.drop_zero]; exact e⟩, ?_⟩
  rintro i mm σ2 H2 ⟨rfl, hi2, A2, F2, r2, m2, hA, hF, G2, e2⟩
  by_cases hlt : i < ds.length
  · rw [List.drop_eq_getElem_cons hlt] at e2
    unfold loopX at e2
    obtain ⟨r3, e3, e2⟩ := Option.bind_eq_some_iff.mp e2
    obtain ⟨o4, e4, e2⟩ := Option.bind_eq_some_iff.mp e2
    obtain ⟨w1, w2⟩ := W1.go U A2 σ2 r2 m2 F2 H2 i ds[i] (Same.refl U) hF G2 (List.getElem?_eq_getElem hlt)
    refine .inr ⟨w1, fun σ' H' => ∃ (A' : List Addr) (F' : Hp) (r' : Rs) (m' : Ms), A <+: A' ∧ Same F1 F' ∧ Good X.K U A' F' H' σ' r' m' ∧ loopX h s (ds.drop (i + 1)) r' m' = some o, fun σ' H' w => ⟨ds.length - (i + 1), by omega, rfl, hlt, w⟩, fun x H3 hy => ?_⟩
    obtain ⟨F3, s3, G3, h3⟩ := w2 x H3 hy
    refine ⟨A2, F3, r2, m2, ds[i], r3, G3, h3, e3, fun σ4 G4 _ _ => ⟨A2, F3, r3, m2, o4, G4, len_of hA hn, e4, ?_⟩⟩
    have hF3 : Same F1 F3 := hF.trans s3
    have past := fun {A' : List Addr} {F' : Hp} (ha : A2 <+: A') (hf : Same F3 F') => PostX.later (K := X.K) (U := U) (n0 := n0) (C := C) (W := W) (D := D) (hA.trans ha) (s1.trans (hF3.trans hf)) p
    cases o4 with
    | xc d r5 m5 =>
      cases e2
      exact fun A' F' H' σ' dd v ha hf G' q1 q2 => past ha hf A' F' H' σ' dd v (List.prefix_refl A') (Same.refl F') G' q1 q2
    | ok o4 =>
      cases o4 with
      | nx r5 m5 => exact fun A' F' H' σ' ha hf G' => ⟨A', F', r5, m5, hA.trans ha, hF3.trans hf, G', e2⟩
      | ct r5 m5 => exact fun A' F' H' σ' ha hf G' => ⟨A', F', r5, m5, hA.trans ha, hF3.trans hf, G', e2⟩
      | bk r5 m5 =>
        cases e2
        exact fun A' F' H' σ' ha hf G' => past ha hf A' F' H' σ' (List.prefix_refl A') (Same.refl F') G'
      | rt d m5 =>
        cases e2
        exact fun A' F' H' v ha hf Fi hv => past ha hf A' F' H' v (List.prefix_refl A') (Same.refl F') Fi hv
      | rn ds5 m5 =>
        cases e2
        exact fun A' F' H' a u ha hf Fi q1 q2 q3 q4 q5 => past ha hf A' F' H' a u (List.prefix_refl A') (Same.refl F') Fi q1 q2 q3 q4 q5
  · have ei : i = ds.length := by omega
    subst ei
    rw [List.drop_length] at e2
    cases e2
    exact .inl ⟨W1.stop F2 H2 (fun b o e => (G2.fo b o e).1) hF G2.sub, p A2 F2 H2 σ2 hA (s1.trans hF) G2⟩
end
/-! ### a call's reading -/
section
variable {K : PySem.W.Frag} {U : Hp} {C : Addr} {W : WX} {A : List Addr} {F F1 H : Hp} {σ : L2.St} {r : Rs} {m m' : Ms} {Q : VK}
theorem post_call {o : ROut} (G1 : Good K U A F1 H σ r m') (s1 : Same F F1) (p : PostE K U C W A F σ r m' Q o) : PostR K C F1 H Q (WE W σ) o := by
  cases o with
  | fz d => exact fun F' H' v s2 s3 kk h => p F' H' v (s1.trans s2) (G1.past s2 s3 kk) h
  | nw es =>
    intro F' H' a u s2 s3 kk h1 h2 h3 h4
    have nU : U a = none := by
      cases q : U a with
      | none => rfl
      | some o => rw [(G1.fo a o q).1] at h2; cases h2
    exact p F' H' a u (s1.trans s2) (G1.past s2 s3 kk) h1 nU (G1.notin h2) h3 h4
  | xc d => exact fun F' H' dd v s2 s3 kk h1 h2 => p F' H' dd v (s1.trans s2) (G1.past s2 s3 kk) h1 h2
end
/-- a def known by name that an exception may leave: with defaults dd behind what is handed in -/
structure CalX (CX : CXT) (P : Program) (w : World) (K : PySem.W.Frag) (mg : Str → Option Value) (base : Heap) (x : Str) (k : Nat) (ps : List Str) (dd : List PyData) (sp : Sp) : Prop where
  ex : ∃ (f : Addr) (fd : FuncData) (dvs : List V) (ds : List Value), FnC CX P w K mg base k f fd ps sp ∧ mg x = some (.ref f) ∧ PySem.W.keepIn K (.ref f) = true ∧ Binds K fd ps ds ∧ Vals dvs ds ∧ ∀ F, RpAll K F dvs dd
structure CalXK (CX : CXT) (P : Program) (w : World) (K : PySem.W.Frag) (mg : Str → Option Value) (base : Heap) (x : Str) (k : Nat) (ps : List Str) (n : Nat) (ks : List Str) (sp : Sp) : Prop where
  ex : ∃ (f : Addr) (fd : FuncData) (g : List Value → List Value → List Value) (gV : List V → List V → List V), FnC CX P w K mg base k f fd ps sp ∧ mg x = some (.ref f) ∧ PySem.W.keepIn K (.ref f) = true ∧ KBn K fd ps n ks g gV ∧ ∀ vs zs, gV vs zs = vs ++ zs
section
variable {X : Cx} {CX : CXT} {U : Hp} {C : Addr} {W : WX} {x : Str} {p pos : Pos} {e : Expr} {es : List Expr} {kws : List Keyword} {f fk : Eas} {c j k n : Nat} {ps ks : List Str} {dd : List PyData} {g : List PyData → Option ROut}
theorem xc_call (Ca : CalX CX X.prog X.w X.K X.mg X.base x k ps dd (spX X.K C n g)) (hr : Room j X.A) (gd : X.A.guards = some []) (hjk : k ≤ j) (hx : ∀ σ, PassesAt CX X σ (WE W σ)) (ha : PA X (e :: es) (tAs X.K U f)) (hg : Gl X x := by rfl) (hdb : (x == ("__debug__" : Str)) = false := by decide)
    (he : starEach (e :: es) X.env = (false, eval e X.env) :: starEach es X.env := by rfl) (hpl : (backTo pos (starEach es X.env)).any (·.1) = false := by rfl) :
    PE X (.Call (.Name x p) (e :: es) [] pos) (tXe X.K U C W (eXD n dd g f)) := by
  obtain ⟨fa, fd, dvs, ds0, Fn, h2, h3, h4, h5, h6⟩ := Ca.ex
  refine pe_weak (pe_callCD Fn (hr.mono hjk) gd hg h2 h3 h4 h5 hx ha hdb he hpl) fun σ H Q ⟨A, F, r, m, o, m', G, e, pp⟩ => ?_
  unfold eXD at e
  obtain ⟨⟨ds, m1⟩, e1, e2⟩ := Option.bind_eq_some_iff.mp e
  obtain ⟨o1, e3, e4⟩ := Option.map_eq_some_iff.mp e2
  cases e4
  obtain ⟨l2, e5⟩ := arN_some e3
  refine ⟨A, F, r, m, ds, _, G, e1, fun F1 H1 vs s1 G1 h1 => ?_⟩
  have all := rpa_app h1 (h6 F1)
  exact ⟨F1, ds ++ dd, o, G1.sub, (rpa_len all).trans l2, all, e5, post_call G1 s1 pp⟩
theorem xc_callK (Ca : CalXK CX X.prog X.w X.K X.mg X.base x k ps c ks (spX X.K C n g)) (hr : Room j X.A) (gd : X.A.guards = some []) (hjk : k ≤ j) (hx : ∀ σ, PassesAt CX X σ (WE W σ)) (ha : PA X (e :: es) (tAs X.K U f)) (hkw : PK X kws (tAs X.K U fk)) (hcn : n = c + ks.length) (hg : Gl X x := by rfl)
    (hall : (backToKw pos (keywordEach kws X.env)).all (·.1.isSome) = true := by rfl) (hks : (backToKw pos (keywordEach kws X.env)).filterMap (·.1) = ks := by rfl) (hdb : (x == ("__debug__" : Str)) = false := by decide)
    (he : starEach (e :: es) X.env = (false, eval e X.env) :: starEach es X.env := by rfl) (hpl : ((backTo pos (starEach (e :: es) X.env)).any (·.1) || (backToKw pos (keywordEach kws X.env)).any (·.1.isNone)) = false := by rfl) :
    PE X (.Call (.Name x p) (e :: es) kws pos) (tXe X.K U C W (eXK c n g f fk)) := by
  obtain ⟨fa, fd, gg, gV, Fn, h2, h3, h4, h5⟩ := Ca.ex
  refine pe_weak (pe_callCK Fn (hr.mono hjk) gd hg h2 h3 h4 hx ha hkw hall hks hdb he hpl) fun σ H Q ⟨A, F, r, m, o, m', G, e, pp⟩ => ?_
  unfold eXK at e
  obtain ⟨⟨ds, m1⟩, e1, e2⟩ := Option.bind_eq_some_iff.mp e
  obtain ⟨⟨zs, m2⟩, e3, e4⟩ := Option.bind_eq_some_iff.mp e2
  simp only at e3 e4
  split at e4
  · rename_i hc
    obtain ⟨o1, e5, e6⟩ := Option.map_eq_some_iff.mp e4
    cases e6
    refine ⟨A, F, r, m, ds, m1, G, e1, fun F1 H1 vs s1 G1 h1 => ⟨A, F1, r, m1, zs, _, G1, e3, fun F2 H2 ws s2 G2 h6 => ?_⟩⟩
    obtain ⟨l2, e7⟩ := arN_some e5
    rw [List.length_append] at l2
    have all := rpa_app (Rpam s2 h1) h6
    refine ⟨(rpa_len h1).trans hc, by rw [rpa_len h6]; omega, ?_⟩
    rw [h5]
    exact ⟨F2, ds ++ zs, o, G2.sub, by rw [rpa_len all, List.length_append]; exact l2, all, e7, post_call G2 (s1.trans s2) pp⟩
  · cases e4
end
end TX

end
/-! TX7 -/
section
set_option maxHeartbeats 4000000
namespace TX
open PySem PySem.Spec PyProof.Rows L2 TL
/-- a slot is emptied -/
theorem good_un {K : PySem.W.Frag} {U : Hp} {A : List Addr} {F H : Hp} {σ : L2.St} {r : Rs} {m : Ms} (G : Good K U A F H σ r m) (i : Nat) (o : Option V) : Good K U A F H (σ.set i o) (r.set i .un) m := by
  refine ⟨G.sub, G.fo, by rw [List.length_set, List.length_set]; exact G.len, fun j e he => ?_, fun j k he => ?_, G.al, G.cl, G.nd, G.he⟩
  · by_cases hj : i = j
    · subst hj
      by_cases hl : i < r.length
      · rw [List.getElem?_set_self hl] at he
        cases he
      · rw [List.getElem?_eq_none (by rw [List.length_set]; omega)] at he
        cases he
    · rw [List.getElem?_set_ne hj] at he
      rw [List.getElem?_set_ne hj]
      exact G.fz j e he
  · by_cases hj : i = j
    · subst hj
      by_cases hl : i < r.length
      · rw [List.getElem?_set_self hl] at he
        cases he
      · rw [List.getElem?_eq_none (by rw [List.length_set]; omega)] at he
        cases he
    · rw [List.getElem?_set_ne hj] at he
      rw [List.getElem?_set_ne hj]
      exact G.ow j k he
/-- try: body; except C as e (slot i): x (slot j) = what mk makes of e's field -/
def sTry (b : EsX) (i j : Nat) (mk : PyData → PyData) : Es := fun r m => (b r m).bind fun o => match o with
  | .ok o => some o
  | .xc d r1 m1 => if i < r1.length then some (.nx ((r1.set j (.fz (mk d))).set i .un) m1) else none
section
variable {X : Cx} {U : Hp} {n0 i j : Nat} {C : Addr} {cn en x : Str} {tail : List String} {B newId initId : String} {fI : Addr} {b : EsX} {body : List Stmt} {np p1 p2 p3 p4 p5 pos pos' : Pos} {z1 : Nat}
theorem qs_tryT (T : ExT X.K X.mg cn tail newId C fI) (hs : X.stack = X.env :: X.outer) (hf : X.env.frame = some X.env.locals) (hN : X.N.Nodup) (hi : X.N[i]? = some en) (hln : X.env.kindOf en = some .local) (hg : Gl X cn) (hdb : (cn == ("__debug__" : Str)) = false) (hij : i ≠ j) (hj : X.N[j]? = some x) (hx : Loc X.env.scope x)
    (hb : ∀ (W : WX) (pn : List (Addr × Obj)) (xe : Value → Shared → Prop), Takes (X.tr pn xe) W → PassesOwn (model X.prog X.w) X.A X.env xe → PSs (X.tr pn xe) body (tX X.K U n0 C W b))
    (hv : ∀ (a : Addr) (pn : List (Addr × Obj)), PE (X.suite a pn) (.Name en p2) (tVar i)) (hat : attributeBase (.Name en p2) "name" X.env (eval (.Name en p2) X.env) = eval (.Name en p2) X.env := by rfl)
    (hst : starEach [.Attribute (.Name en p2) "name" p3] X.env = (false, eval (.Attribute (.Name en p2) "name" p3) X.env) :: starEach [] X.env := by rfl)
    (hsw : swapsWith (.Tuple [.Attribute (.Name en p2) "name" p3] z1 p4) (some (.Name x p1)) p5.line X.env = pure false := by rfl)
    (hfn : X.fn x = true ∨ X.env.scope.names.lookup x = some .local := by first | exact .inl rfl | exact .inr rfl | assumption) :
    PS X (.Try body [.ExceptHandler (some (.Name cn np)) (some en) [.Assign [.Name x p1] (.Tuple [.Attribute (.Name en p2) "name" p3] z1 p4) p5] pos'] [] [] pos) (tS X.K U n0 (sTry b i j fun d => .tuple [d])) := by
  refine ps_weak (ps_try_as (i := i) (tb := fun W => tX X.K U n0 C W b) (ts := fun a cls d => tAsg (tTup (tCons (TX.tFld C a cls d (tVar i)) tNil)) (gName j)) (Wout := fun _ _ _ _ => False) hs hf hN hi hln ⟨hg, hdb, .inl T.gC⟩ takes0 hb
    (fun a oe cls d pn hz hfl => pss_one (ps_set (i := j) hN hj hx (pe_tup (pa_cons (TX.pe_fld T hz hfl (hv a _) hat) pa_nil hst)) hsw hfn))) fun D σ H ⟨A, F, r, m, o, G, hn, e, p⟩ => ?_
  unfold sTry at e
  obtain ⟨o1, e1, e2⟩ := Option.bind_eq_some_iff.mp e
  refine ⟨A, F, r, m, o1, G, hn, e1, ?_⟩
  cases o1 with
  | ok o1 => cases e2; exact p
  | xc d r1 m1 =>
    simp only at e2
    split at e2
    · rename_i hil
      cases e2
      intro A' F' H' σ' dd v hA hF G' hfd hrp
      refine ⟨true, T.te, fun _ a ha => ?_, fun q => nomatch q⟩
      have hil : i < σ'.length := by rw [← G'.len]; exact hil
      refine ⟨.ref a, List.getElem?_set_self hil, rfl, rfl, dd, v, rfl, G'.sub _ _ hfd, (by show 1 ≤ sizeLine; decide), fun q nq => ?_⟩
      have sF : Same F' (upd F' q (.tup [v])) := same_new (G'.nope nq).1
      have G2 := good_un ((G'.laid (o := .tup [v]) nq).setFz (i := j) (v := .ref q) (d := .tuple [d]) (.vt (.inl (.inl upd_same)) (.cons (Rpm sF hrp) .nil))) i none
      have es : (((σ'.set i (some (.ref a))).set j (some (.ref q))).set i none) = ((σ'.set j (some (.ref q))).set i none) := by
        rw [List.set_comm _ _ hij, List.set_set]
      show D.nx (((σ'.set i (some (.ref a))).set j (some (.ref q))).set i none) _
      rw [es]
      exact p A' _ _ _ hA (hF.trans sF) G2
    · cases e2
theorem qs_tryV (T : ExT X.K X.mg cn tail newId C fI) (hs : X.stack = X.env :: X.outer) (hf : X.env.frame = some X.env.locals) (hN : X.N.Nodup) (hi : X.N[i]? = some en) (hln : X.env.kindOf en = some .local) (hg : Gl X cn) (hdb : (cn == ("__debug__" : Str)) = false) (hij : i ≠ j) (hj : X.N[j]? = some x) (hx : Loc X.env.scope x)
    (hb : ∀ (W : WX) (pn : List (Addr × Obj)) (xe : Value → Shared → Prop), Takes (X.tr pn xe) W → PassesOwn (model X.prog X.w) X.A X.env xe → PSs (X.tr pn xe) body (tX X.K U n0 C W b))
    (hv : ∀ (a : Addr) (pn : List (Addr × Obj)), PE (X.suite a pn) (.Name en p2) (tVar i)) (hat : attributeBase (.Name en p2) "name" X.env (eval (.Name en p2) X.env) = eval (.Name en p2) X.env := by rfl)
    (hsw : swapsWith (.Attribute (.Name en p2) "name" p3) (some (.Name x p1)) p5.line X.env = pure false := by rfl)
    (hfn : X.fn x = true ∨ X.env.scope.names.lookup x = some .local := by first | exact .inl rfl | exact .inr rfl | assumption) :
    PS X (.Try body [.ExceptHandler (some (.Name cn np)) (some en) [.Assign [.Name x p1] (.Attribute (.Name en p2) "name" p3) p5] pos'] [] [] pos) (tS X.K U n0 (sTry b i j fun d => d)) := by
  refine ps_weak (ps_try_as (i := i) (tb := fun W => tX X.K U n0 C W b) (ts := fun a cls d => tAsg (TX.tFld C a cls d (tVar i)) (gName j)) (Wout := fun _ _ _ _ => False) hs hf hN hi hln ⟨hg, hdb, .inl T.gC⟩ takes0 hb
    (fun a oe cls d pn hz hfl => pss_one (ps_set (i := j) hN hj hx (TX.pe_fld T hz hfl (hv a _) hat) hsw hfn))) fun D σ H ⟨A, F, r, m, o, G, hn, e, p⟩ => ?_
  unfold sTry at e
  obtain ⟨o1, e1, e2⟩ := Option.bind_eq_some_iff.mp e
  refine ⟨A, F, r, m, o1, G, hn, e1, ?_⟩
  cases o1 with
  | ok o1 => cases e2; exact p
  | xc d r1 m1 =>
    simp only at e2
    split at e2
    · rename_i hil
      cases e2
      intro A' F' H' σ' dd v hA hF G' hfd hrp
      refine ⟨true, T.te, fun _ a ha => ?_, fun q => nomatch q⟩
      have hil : i < σ'.length := by rw [← G'.len]; exact hil
      refine ⟨.ref a, List.getElem?_set_self hil, rfl, rfl, dd, v, rfl, G'.sub _ _ hfd, ?_⟩
      have G2 := good_un (G'.setFz (i := j) hrp) i none
      have es : (((σ'.set i (some (.ref a))).set j (some v)).set i none) = ((σ'.set j (some v)).set i none) := by
        rw [List.set_comm _ _ hij, List.set_set]
      show D.nx (((σ'.set i (some (.ref a))).set j (some v)).set i none) _
      rw [es]
      exact p A' _ _ _ hA hF G2
    · cases e2
/-- x = f(..), f hands back data or an object of its own -/
theorem qs_setM {e : Expr} {f : ErX} (hN : X.N.Nodup) (hi : X.N[i]? = some x) (hx : Loc X.env.scope x) (he : PE X e (tXe X.K U C (fun _ _ _ _ => False) f)) (hs : swapsWith e (some (.Name x p1)) pos.line X.env = pure false := by rfl)
    (hf : X.fn x = true ∨ X.env.scope.names.lookup x = some .local := by first | exact .inl rfl | exact .inr rfl | assumption) : PS X (.Assign [.Name x p1] e pos) (tS X.K U n0 (sSetM i f)) := ps_weak (ps_set hN hi hx he hs hf) fun D σ H ⟨A, F, r, m, o, G, hn, e, p⟩ => by
  unfold sSetM at e
  obtain ⟨⟨o1, m1⟩, e1, e2⟩ := Option.bind_eq_some_iff.mp e
  refine ⟨A, F, r, m, o1, m1, G, e1, ?_⟩
  cases o1 with
  | fz d =>
    cases e2
    exact fun F1 H1 v s1 G1 h1 => p A F1 H1 _ (List.prefix_refl A) s1 (G1.setFz h1)
  | nw es =>
    cases e2
    exact fun F1 H1 a u s1 G1 h1 h2 h3 h4 h5 => p (A ++ [a]) F1 H1 _ (List.prefix_append A [a]) s1 (G1.setOw h1 h2 h3 h4 h5)
  | xc d => cases e2
/-- a value that f hands back: what is of its own is given up -/
def eFr (f : ErX) : Ev := fun r m => (f r m).bind fun p => match p.1 with | .fz d => some (d, p.2) | .nw d => some (d, p.2) | .xc _ => none
theorem qe_fr {e : Expr} {f : ErX} (he : PE X e (tXe X.K U C (fun _ _ _ _ => False) f)) : PE X e (tE X.K U (eFr f)) := pe_weak he fun σ H Q ⟨A, F, r, m, d, m', G, e, k⟩ => by
  unfold eFr at e
  obtain ⟨⟨o1, m1⟩, e1, e2⟩ := Option.bind_eq_some_iff.mp e
  refine ⟨A, F, r, m, o1, m1, G, e1, ?_⟩
  cases o1 with
  | fz d =>
    cases e2
    exact fun F1 H1 v s1 G1 h1 => k F1 H1 v s1 G1 h1
  | nw es =>
    cases e2
    intro F1 H1 a u s1 G1 h1 h2 h3 h4 h5
    have sF : Same F1 (upd F1 a u) := same_new h1
    refine k (upd F1 a u) H1 (.ref a) (s1.trans sF) ?_ (stored_rp upd_same (stored_mono sF h5))
    refine ⟨fun b o e => ?_, fun b o e => ?_, G1.len, fun i d e => ?_, G1.ow, G1.al, fun j b es e1 e2 => ?_, G1.nd, G1.he⟩
    · by_cases hb : b = a
      · subst hb
        rw [upd_same] at e
        cases e
        exact h4
      · rw [upd_ne hb] at e
        exact G1.sub b o e
    · have hb : b ≠ a := fun z => by rw [z, h2] at e; cases e
      rw [upd_ne hb]
      exact G1.fo b o e
    · obtain ⟨v, q1, q2⟩ := G1.fz i d e
      exact ⟨v, q1, Rpm sF q2⟩
    · obtain ⟨q1, q2, o, q3, q4⟩ := G1.cl j b es e1 e2
      have hb : b ≠ a := fun z => h3 (z ▸ List.mem_of_getElem? e1)
      exact ⟨by rw [upd_ne hb]; exact q1, q2, o, q3, stored_mono sF q4⟩
  | xc d => cases e2
end
end TX

end
/-! TX8 -/
section
set_option maxHeartbeats 4000000
namespace TX
open PySem PySem.Spec PyProof.Rows L2 TL
/-- what a raising def of nL further names hands back -/
def runX (nL : Nat) (s : EsX) (ds : List PyData) : Option ROut := match s (slots nL ds) [] with
  | some (.ok (.rt d _)) => some (.fz d)
  | some (.ok (.nx _ _)) => some (.fz .none)
  | some (.ok (.rn es _)) => some (.nw es)
  | some (.xc d _ _) => some (.xc d)
  | _ => none
def runM (nL : Nat) (s : Es) (ds : List PyData) : Option ROut := match s (slots nL ds) [] with
  | some (.rt d _) => some (.fz d)
  | some (.nx _ _) => some (.fz .none)
  | some (.rn es _) => some (.nw es)
  | _ => none
/-- a raising one where it raises nothing, as a def that is pure on trees -/
def plainD (g : List PyData → Option ROut) (ds : List PyData) : Option PyData := (g ds).bind fun o => match o with | .fz d => some d | .nw d => some d | .xc _ => none
section
variable {P : Program} {w : World} {K : PySem.W.Frag} {mg : Str → Option Value} {base : Heap} {x qual : Str} {st : Stmt} {f : Addr} {fd : FuncData} {N ps : List Str} {k : Nat} {C : Addr}
theorem new_none {H F0 F' : Hp} {a : Addr} (s1 : Same F0 F') (q1 : F' a = none) (q2 : less H F0 a = none) : H a = none := by
  cases q : H a with
  | none => rfl
  | some o =>
    cases q0 : F0 a with
    | none =>
      have z := less_some.mpr ⟨q, q0⟩
      rw [q2] at z
      cases z
    | some o' =>
      rw [s1 a o' q0] at q1
      cases q1
theorem go_M {s : Es} (hpl : ps.length ≤ N.length) {vs : List V} {H : Hp} {Q : VK} {E : XK} (h : spX K C ps.length (runM (N.length - ps.length) s) vs H Q E) : ∃ U, tS K U 0 s { nx := fun _ H' => Q .non H', rt := Q } (L2.start N vs) H := by
  obtain ⟨F0, ds, res, hF, hl, hr2, e, kk⟩ := h
  refine ⟨less H F0, ?_⟩
  have G := good_start (N := N) hF hr2 (by omega)
  rw [hl] at G
  unfold runM at e
  cases e1 : s (slots (N.length - ps.length) ds) [] with
  | none => rw [e1] at e; cases e
  | some o =>
    rw [e1] at e
    refine ⟨[], F0, _, [], o, G, Nat.zero_le _, e1, ?_⟩
    cases o with
    | nx r m => cases e; exact fun A' F' H' σ' _ s1 G' => kk F' H' .non s1 G'.sub (fun b o e1 e2 => G'.fo b o (less_some.mpr ⟨e1, e2⟩)) .vn
    | rt d' m => cases e; exact fun A' F' H' v _ s1 Fi hv => kk F' H' v s1 Fi.sub (fun b o e1 e2 => Fi.fo b o (less_some.mpr ⟨e1, e2⟩)) hv
    | rn es m => cases e; exact fun A' F' H' a u _ s1 Fi q1 q2 _ q4 q5 => kk F' H' a u s1 Fi.sub (fun b o e1 e2 => Fi.fo b o (less_some.mpr ⟨e1, e2⟩)) q1 (new_none s1 q1 q2) q4 q5
    | bk r m => cases e
    | ct r m => cases e
theorem go_X {s : EsX} (hpl : ps.length ≤ N.length) {vs : List V} {H : Hp} {Q : VK} {E : XK} (h : spX K C ps.length (runX (N.length - ps.length) s) vs H Q E) : ∃ U, tX K U 0 C (fun cls d _ H => E cls d H) s { nx := fun _ H' => Q .non H', rt := Q } (L2.start N vs) H := by
  obtain ⟨F0, ds, res, hF, hl, hr2, e, kk⟩ := h
  refine ⟨less H F0, ?_⟩
  have G := good_start (N := N) hF hr2 (by omega)
  rw [hl] at G
  unfold runX at e
  cases e1 : s (slots (N.length - ps.length) ds) [] with
  | none => rw [e1] at e; cases e
  | some o =>
    rw [e1] at e
    refine ⟨[], F0, _, [], o, G, Nat.zero_le _, e1, ?_⟩
    cases o with
    | xc d r m => cases e; exact fun A' F' H' σ' dd v _ s1 G' h1 h2 => kk F' H' dd v s1 G'.sub (fun b o e1 e2 => G'.fo b o (less_some.mpr ⟨e1, e2⟩)) h1 h2
    | ok o =>
      cases o with
      | nx r m => cases e; exact fun A' F' H' σ' _ s1 G' => kk F' H' .non s1 G'.sub (fun b o e1 e2 => G'.fo b o (less_some.mpr ⟨e1, e2⟩)) .vn
      | rt d' m => cases e; exact fun A' F' H' v _ s1 Fi hv => kk F' H' v s1 Fi.sub (fun b o e1 e2 => Fi.fo b o (less_some.mpr ⟨e1, e2⟩)) hv
      | rn es m => cases e; exact fun A' F' H' a u _ s1 Fi q1 q2 _ q4 q5 => kk F' H' a u s1 Fi.sub (fun b o e1 e2 => Fi.fo b o (less_some.mpr ⟨e1, e2⟩)) q1 (new_none s1 q1 q2) q4 q5
      | bk r m => cases e
      | ct r m => cases e
theorem fn_M {s : Es} (F : Fun K x qual st f fd) (S : FnScope N ps (defScope st)) (hpl : ps.length ≤ N.length)
    (hb : ∀ (cdv : Value) (A : Around) (outer : List Env) (s0 : Shared) (H : Hp) (E : XK) (U : Hp), Room k (A.deeper (PyProof.Rows.envOfC qual (defScope st) s0.heap.objs.size f cdv)) → A.guards = some [] →
      PSs (cxOf CX0 P w K mg base N qual (defScope st) f cdv A outer s0 H E).nox (defBody st) (tS K U 0 s)) : FnC CX0 P w K mg base (k + 1) f fd ps (spX K C ps.length (runM (N.length - ps.length) s)) := by
  refine fn_ofC F S (fun vs H Q E h => ?_) fun cdv A outer s0 H vs Q E hr gd h => ?_
  · obtain ⟨_, _, _, _, hl, _⟩ := h
    exact hl
  · obtain ⟨U, q⟩ := go_M hpl h
    exact ⟨_, (hb cdv A outer s0 H E U hr gd).nox, q⟩
theorem fn_X {s : EsX} (F : Fun K x qual st f fd) (S : FnScope N ps (defScope st)) (hpl : ps.length ≤ N.length)
    (hb : ∀ (cdv : Value) (A : Around) (outer : List Env) (s0 : Shared) (H : Hp) (E : XK) (U : Hp), Room k (A.deeper (PyProof.Rows.envOfC qual (defScope st) s0.heap.objs.size f cdv)) → A.guards = some [] →
      PSs (cxOf (L2.CX P w) P w K mg base N qual (defScope st) f cdv A outer s0 H E) (defBody st) (tX K U 0 C (fun cls d _ H => E cls d H) s)) : FnC (L2.CX P w) P w K mg base (k + 1) f fd ps (spX K C ps.length (runX (N.length - ps.length) s)) := by
  refine fn_ofC F S (fun vs H Q E h => ?_) fun cdv A outer s0 H vs Q E hr gd h => ?_
  · obtain ⟨_, _, _, _, hl, _⟩ := h
    exact hl
  · obtain ⟨U, q⟩ := go_X hpl h
    exact ⟨_, hb cdv A outer s0 H E U hr gd, q⟩
end
end TX

end
/-! TX9 -/
section
set_option maxHeartbeats 4000000
namespace TX
open PySem PySem.Spec PyProof.Rows L2 TL
/-! ## names that hold data or a cell, looked at -/
def slV (m : Ms) : Option Sl → Option PyData
  | some (.fz d) => some d
  | some (.ow k) => cellAt m k
  | _ => none
def eOf (i : Nat) (u : PyData → Option PyData) : Ev := fun r m => (slV m r[i]?).bind fun d => (u d).map fun z => (z, m)
theorem slV_rp {K : PySem.W.Frag} {U : Hp} {A : List Addr} {F H : Hp} {σ : L2.St} {r : Rs} {m : Ms} {i : Nat} {d : PyData} (G : Good K U A F H σ r m) (e : slV m r[i]? = some d) : ∃ v, σ[i]? = some (some v) ∧ Rp K H v d := by
  cases hs : r[i]? with
  | none => rw [hs] at e; cases e
  | some s =>
    rw [hs] at e
    cases s with
    | un => cases e
    | fz d' =>
      cases e
      obtain ⟨v, h1, h2⟩ := G.fz i d hs
      exact ⟨v, h1, Rpm G.sub h2⟩
    | ow k =>
      obtain ⟨a, h1, h2⟩ := G.ow i k hs
      obtain ⟨_, _, o, h3, h4⟩ := G.cl k a d h1 e
      exact ⟨.ref a, h2, stored_rp h3 (stored_mono G.sub h4)⟩
section
variable {X : Cx} {U : Hp} {p p1 p2 pos : Pos} {x y z : Str} {T : String}
theorem qe_reprO (i : Nat) (gd : X.A.guards = some []) (hu : X.A.units + 66 < cLine) (hv : PE X (.Name y p1) (tVar i)) (hg : Gl X x) (hm : X.mg x = none) (hb : bootBuiltins x = some (.builtin "repr")) (hn : x ≠ "__name__" := by decide) (hdb : (x == ("__debug__" : Str)) = false := by decide)
    (he : starEach (.Name y p1 :: []) X.env = (false, eval (.Name y p1) X.env) :: starEach [] X.env := by rfl) (hpl : (backTo pos (starEach [] X.env)).any (·.1) = false := by rfl) : PE X (.Call (.Name x p) [.Name y p1] [] pos) (tE X.K U (eOf i fun d => reprY [d])) :=
  pe_weak (pe_callB (call_reprY gd hu) hg hm hb (pa_cons hv pa_nil he) hn hdb he hpl) fun σ H Q ⟨A, F, r, m, d, m', G, e, k⟩ => by
    unfold eOf at e
    obtain ⟨d1, e1, e2⟩ := Option.bind_eq_some_iff.mp e
    obtain ⟨d2, e3, e4⟩ := Option.map_eq_some_iff.mp e2
    cases e4
    obtain ⟨v, h1, h2⟩ := slV_rp G e1
    have e3 : (if noSet d1 = true ∧ d1.showable = true ∧ d1.depth ≤ 62 ∧ d1.shown.length ≤ sizeLine then some (PyData.str d1.shown) else none) = some d := e3
    split at e3
    · rename_i hz
      cases e3
      exact ⟨v, h1, v, d1, rfl, h2, hz.1, hz.2.1, hz.2.2.1, hz.2.2.2, k F H _ (Same.refl F) G (.vs _)⟩
    · cases e3
theorem qe_isiO (i : Nat) (hx : bootBuiltins x = some (.builtin "isinstance")) (hg : Gl X x) (hm : X.mg x = none) (hgT : Gl X z) (hmT : X.mg z = none) (hvT : bootBuiltins z = some (.type T)) (hv : PE X (.Name y p1) (tVar i)) (hn : x ≠ "__name__" := by decide) (hdb : (x == ("__debug__" : Str)) = false := by decide)
    (hnT : z ≠ "__name__" := by decide) (hdT : (z == ("__debug__" : Str)) = false := by decide) (he : starEach (.Name y p1 :: [.Name z p2]) X.env = (false, eval (.Name y p1) X.env) :: starEach [.Name z p2] X.env := by rfl) (hpl : (backTo pos (starEach [.Name z p2] X.env)).any (·.1) = false := by rfl) :
    PE X (.Call (.Name x p) [.Name y p1, .Name z p2] [] pos) (tE X.K U (eOf i (isiD T))) := by
  refine pe_weak (pe_callB call_isi hg hm hx (pa_cons hv (pa_cons (pe_bltn (v := .ty T) hgT hmT hvT rfl hnT hdT) pa_nil) he) hn hdb he hpl) fun σ H Q ⟨A, F, r, m, d, m', G, e, k⟩ => ?_
  unfold eOf at e
  obtain ⟨d1, e1, e2⟩ := Option.bind_eq_some_iff.mp e
  obtain ⟨d2, e3, e4⟩ := Option.map_eq_some_iff.mp e2
  cases e4
  obtain ⟨v, h1, h2⟩ := slV_rp G e1
  unfold isiD at e3
  split at e3
  · cases e3
  rename_i hS
  cases e5 : kitB (tyD d1) T with
  | none => rw [e5] at e3; cases e3
  | some b =>
    rw [e5] at e3
    cases e3
    exact ⟨v, h1, v, .ty T, .type (tyD d1), .type T, b, rfl, .ty T, ty_of (Same.refl H) h2 hS, kit_ty e5, k F H _ (Same.refl F) G (.vb b)⟩
/-- return x, x a name that holds data or a cell -/
def sRetV (n0 i : Nat) : Es := fun r m => match r[i]? with
  | some (.fz d) => some (.rt d m)
  | some (.ow k) => if n0 ≤ k then (cellAt m k).map fun d => .rn d m else none
  | _ => none
theorem qs_retV {n0 : Nat} (i : Nat) (hv : PE X (.Name y p1) (tVar i)) : PS X (.Return (some (.Name y p1)) pos) (tS X.K U n0 (sRetV n0 i)) := ps_weak (ps_ret hv) fun D σ H ⟨A, F, r, m, o, G, hn, e, p⟩ => by
  unfold sRetV at e
  split at e
  · rename_i d hs
    cases e
    obtain ⟨v, h1, h2⟩ := G.fz i d hs
    exact ⟨v, h1, p A F H v (List.prefix_refl A) (Same.refl F) (G.fin hn) h2⟩
  · rename_i k hs
    split at e
    · rename_i hk
      obtain ⟨d, e1, e2⟩ := Option.map_eq_some_iff.mp e
      cases e2
      obtain ⟨a, h1, h2⟩ := G.ow i k hs
      obtain ⟨h3, h4, o, h5, h6⟩ := G.cl k a d h1 e1
      refine ⟨.ref a, h2, p A F H a o (List.prefix_refl A) (Same.refl F) (G.fin hn) h3 h4 (fun j hj q => ?_) h5 h6⟩
      obtain ⟨l1, q1⟩ := List.getElem?_eq_some_iff.mp h1
      obtain ⟨l2, q2⟩ := List.getElem?_eq_some_iff.mp q
      have := (List.getElem_inj G.nd).mp (q1.trans q2.symm)
      omega
    · cases e
  · cases e
end
end TX

end
/-! TXA -/
section
set_option maxHeartbeats 4000000
namespace TX
open PySem PySem.Spec PyProof.Rows L2 TL
/-! ## a comprehension over a dict's keys: the dict is held meanwhile -/
structure Alt (F F' : Hp) (d : Addr) (ks : List (Key × V)) : Prop where
  ne : ∀ a, a ≠ d → F a = F' a
  a1 : Rd F d (.dK ks)
  a2 : Rd F' d (.dK ks)
section
variable {K : PySem.W.Frag} {F F' : Hp} {d : Addr} {ks : List (Key × V)}
theorem Alt.symm (h : Alt F F' d ks) : Alt F' F d ks := ⟨fun a ha => (h.ne a ha).symm, h.a2, h.a1⟩
theorem alt_L (h : Alt F F' d ks) {a : Addr} {xs : List V} (s : SqL K F a xs) : SqL K F' a xs := by
  rcases s with (s | ⟨o, s⟩) | s
  · have hne : a ≠ d := fun z => by
      subst z
      rcases h.a1 with q | ⟨o, q⟩ <;> rw [s] at q <;> cases q
    exact .inl (.inl ((h.ne a hne) ▸ s))
  · have hne : a ≠ d := fun z => by
      subst z
      rcases h.a1 with q | ⟨o, q⟩ <;> rw [s] at q <;> cases q
    exact .inl (.inr ⟨o, (h.ne a hne) ▸ s⟩)
  · exact .inr s
theorem alt_T (h : Alt F F' d ks) {a : Addr} {xs : List V} (s : SqT K F a xs) : SqT K F' a xs := by
  rcases s with (s | ⟨o, s⟩) | s
  · have hne : a ≠ d := fun z => by
      subst z
      rcases h.a1 with q | ⟨o, q⟩ <;> rw [s] at q <;> cases q
    exact .inl (.inl ((h.ne a hne) ▸ s))
  · have hne : a ≠ d := fun z => by
      subst z
      rcases h.a1 with q | ⟨o, q⟩ <;> rw [s] at q <;> cases q
    exact .inl (.inr ⟨o, (h.ne a hne) ▸ s⟩)
  · exact .inr s
theorem alt_D (h : Alt F F' d ks) {a : Addr} {js : List (Key × V)} (s : Rd F a (.dK js)) : Rd F' a (.dK js) := by
  by_cases hne : a = d
  · subst hne
    have e : js = ks := by
      rcases s with s | ⟨o, s⟩ <;> rcases h.a1 with q | ⟨o', q⟩ <;> rw [s] at q <;> cases q <;> rfl
    rw [e]
    exact h.a2
  · rcases s with s | ⟨o, s⟩
    · exact .inl ((h.ne a hne) ▸ s)
    · exact .inr ⟨o, (h.ne a hne) ▸ s⟩
mutual
theorem alt_rp (h : Alt F F' d ks) : ∀ (t : PyData) (v : V), Rp K F v t → Rp K F' v t
  | .none, _, g => by cases g; exact .vn
  | .bool b, _, g => by cases g; exact .vb b
  | .int i, _, g => by cases g; exact .vi i
  | .str x, _, g => by cases g; exact .vs x
  | .list ds, _, g => by
    cases g with
    | vl hs ha => exact .vl (alt_L h hs) (alt_rpa h ds _ ha)
  | .tuple ds, _, g => by
    cases g with
    | vt hs ha => exact .vt (alt_T h hs) (alt_rpa h ds _ ha)
  | .dict ps, _, g => by
    cases g with
    | vd hs ha => exact .vd (alt_D h hs) (alt_rpk h ps _ ha)
    | @vx a L kss hs ha hk =>
      have hne : a ≠ d := fun z => by
        subst z
        rcases h.a1 with q | ⟨o, q⟩ <;> rw [hs] at q <;> cases q
      exact .vx ((h.ne a hne) ▸ hs) (fun p hp => alt_T h (ha p hp)) hk
theorem alt_rpk (h : Alt F F' d ks) : ∀ (ps : List (PyData × PyData)) (js : List (Key × V)), RpKv K F js ps → RpKv K F' js ps
  | [], _, g => by cases g; exact .nil
  | (c, t) :: ps, _, g => by
    cases g with
    | cons h1 h2 => exact .cons (alt_rp h t _ h1) (alt_rpk h ps _ h2)
theorem alt_rpa (h : Alt F F' d ks) : ∀ (ds : List PyData) (vs : List V), RpAll K F vs ds → RpAll K F' vs ds
  | [], _, g => by cases g; exact .nil
  | t :: ds, _, g => by
    cases g with
    | cons h1 h2 => exact .cons (alt_rp h t _ h1) (alt_rpa h ds _ h2)
end
theorem alt_stored (h : Alt F F' d ks) {o : HO} : ∀ {t : PyData}, Stored K F o t → Stored K F' o t
  | .list _, ⟨vs, h1, h2⟩ => ⟨vs, h1, alt_rpa h _ _ h2⟩
  | .dict _, ⟨js, h1, h2⟩ => ⟨js, h1, alt_rpk h _ _ h2⟩
/-- what a frame knows, the dict's hold changed -/
theorem alt_good {U H : Hp} {A : List Addr} {σ : L2.St} {r : Rs} {m : Ms} {u1 u2 : HO} (G : Good K U A F H σ r m) (e1 : F d = some u1) (h1 : Rd F d (.dK ks)) (h2 : u2 = .dK ks ∨ ∃ o, u2 = .frz o (.dK ks)) : Good K U A (upd F d u2) (upd H d u2) σ r m := by
  have h : Alt F (upd F d u2) d ks := ⟨fun a ha => (upd_ne ha).symm, h1, by
    rcases h2 with q | ⟨o, q⟩
    · exact .inl (by rw [upd_same, q])
    · exact .inr ⟨o, by rw [upd_same, q]⟩⟩
  refine ⟨fun b o e => ?_, fun b o e => ?_, G.len, fun i t e => ?_, G.ow, G.al, fun k a t q1 q2 => ?_, G.nd, fun a ha => ?_⟩
  · by_cases hb : b = d
    · subst hb
      rw [upd_same] at e ⊢
      exact e
    · rw [upd_ne hb] at e ⊢
      exact G.sub b o e
  · obtain ⟨q1, q2⟩ := G.fo b o e
    have hb : b ≠ d := fun z => by rw [z, e1] at q2; cases q2
    rw [upd_ne hb, upd_ne hb]
    exact ⟨q1, q2⟩
  · obtain ⟨v, q1, q2⟩ := G.fz i t e
    exact ⟨v, q1, alt_rp h _ _ q2⟩
  · obtain ⟨c1, c2, o, c3, c4⟩ := G.cl k a t q1 q2
    have hb : a ≠ d := fun z => by rw [z, e1] at c1; cases c1
    exact ⟨by rw [upd_ne hb]; exact c1, c2, o, by rw [upd_ne hb]; exact c3, alt_stored h c4⟩
  · obtain ⟨o, q⟩ := G.he a ha
    by_cases hb : a = d
    · exact ⟨u2, by rw [hb, upd_same]⟩
    · exact ⟨o, by rw [upd_ne hb]; exact q⟩
theorem wk_keys {Z : Hp} {o : Obj} {ps : List (PyData × PyData)} (hs : F d = some (.frz o (.dK ks))) (hr : RpKv K F ks ps) : Wk K Z (Itk d o ks) F (ps.map (·.1)) := by
  have hl : ∀ {ks : List (Key × V)} {ps : List (PyData × PyData)}, RpKv K F ks ps → ps.map (·.1) = ks.map fun q => kD q.1 := by
    intro ks ps h
    induction ps generalizing ks with
    | nil => cases h; rfl
    | cons p ps ih =>
      cases h with
      | cons h1 h2 => rw [List.map_cons, List.map_cons, ih h2]
  have e := hl hr
  refine ⟨fun U A σ r m F1 H1 i t _ s1 G1 q => ?_, fun F1 H1 _ s1 s2 => ⟨s2 _ _ (s1 _ _ hs), by rw [e, List.length_map]; exact Nat.le_refl _⟩⟩
  rw [e, List.getElem?_map] at q
  obtain ⟨kv, q1, q2⟩ := Option.map_eq_some_iff.mp q
  refine ⟨⟨G1.sub _ _ (s1 _ _ hs), (List.getElem?_eq_some_iff.mp q1).1⟩, fun x H2 hy => ?_⟩
  obtain ⟨rfl, k, v, q3, rfl⟩ := hy
  rw [q1] at q3
  cases q3
  refine ⟨F1, Same.refl F1, G1, ?_⟩
  rw [← q2]
  cases k with
  | inl i => exact .vi i
  | inr x => exact .vs x
end
def eKeys (i : Nat) : Eas := fun r m => match r[i]? with
  | some (.fz (.dict ps)) => if isSetD (.dict ps) = true then none else some (ps.map (·.1), m)
  | _ => none
theorem pe_or {X : Cx} {e : Expr} {t1 t2 : TE} (h1 : PE X e t1) (h2 : PE X e t2) : PE X e (fun σ H Q => t1 σ H Q ∨ t2 σ H Q) := ⟨fun pins s σ H Q I q => by
  rcases q with q | q
  · exact h1.run pins s σ H Q I q
  · exact h2.run pins s σ H Q I q⟩
section
variable {X : Cx} {U : Hp} {elt tg : Expr} {ifs : List Expr} {scope : Scope} {own : List (Str × Nat)} {pos p1 : Pos} {is : List Nat} {h : Eh} {t : Et} {f : Ev} {y : Str}
theorem qe_lcK (i : Nat) (hv : PE X (.Name y p1) (tVar i)) (hc : X.calm = true) (nd : X.N.Nodup) (ok : BlkOk X.N X.env.scope scope own) (his : ∀ j ∈ is, j ∈ own.map (·.2))
    (g1 : ∀ (U : Hp) (s : Shared) (H : Hp) (C : Addr) (cl : List (Str × Addr)) (fp : List Addr), PG (X.blk s H scope (compEnvC scope cl C X.env) fp) tg (tG X.K U is h))
    (t1 : ∀ (U : Hp) (s : Shared) (H : Hp) (C : Addr) (cl : List (Str × Addr)) (fp : List Addr), PTs (X.blk s H scope (compEnvC scope cl C X.env) fp) ifs (tT X.K U t))
    (k1 : ∀ (U : Hp) (s : Shared) (H : Hp) (C : Addr) (cl : List (Str × Addr)) (fp : List Addr), PE (X.blk s H scope (compEnvC scope cl C X.env) fp) elt (tE X.K U f)) (fs : ∀ x, foldedSetIterable (.Name y p1) X.env x = pure x := by intro _; rfl) :
    PE X (.ListComp elt [⟨tg, .Name y p1, ifs, 0⟩] scope pos) (tE X.K U (eLc (eKeys i) (own.map (·.2)) h t f)) := by
  have base := pe_lc (g := tGX X.K is h) (tt := tTX X.K t) (te := tEX X.K f) (pos := pos) hc nd (pi_keys hv) ok (fun s H C cl fp => pg_all fun U => g1 U s H C cl fp) (fun s H C cl fp => pts_all fun U => t1 U s H C cl fp) (fun s H C cl fp => pe_all fun U => k1 U s H C cl fp) fs
  refine pe_weak (pe_or (pe_lock base) base) fun σ H Q ⟨A, F, r, m, d, m', G, e, k⟩ => ?_
  unfold eLc at e
  obtain ⟨⟨ds, m1⟩, e1, e⟩ := Option.bind_eq_some_iff.mp e
  obtain ⟨⟨res, m9⟩, e2, e3⟩ := Option.map_eq_some_iff.mp e
  cases e3
  unfold eKeys at e1
  split at e1
  · rename_i ps hs
    split at e1
    · cases e1
    · rename_i hS
      cases e1
      obtain ⟨v, hσ, hr⟩ := G.fz i _ hs
      cases hr with
      | vx _ _ _ => exact absurd rfl hS
      | @vd a ks _ sa ra =>
        rcases sa with sa | ⟨o, sa⟩
        · refine .inl ⟨a, .dK ks, G.sub _ _ sa, trivial, fun od => ?_⟩
          have GL := alt_good (u2 := .frz od (.dK ks)) G sa (.inl sa) (.inr ⟨od, rfl⟩)
          have aL : Alt F (upd F a (.frz od (.dK ks))) a ks := ⟨fun b hb => (upd_ne hb).symm, .inl sa, .inr ⟨od, upd_same⟩⟩
          refine ⟨_, hσ, a, od, rfl, .inl ⟨ks, upd_same, ?_⟩⟩
          refine lc_inner (Q := fun v H' => H' a = some (.frz od (.dK ks)) ∧ Q v (upd H' a (.dK ks))) his GL (wk_keys upd_same (alt_rpk aL _ _ ra)) e2 fun F' H' b u s1 G' h1 h2 h3 h4 h5 => ?_
          have fd : F' a = some (.frz od (.dK ks)) := s1 _ _ upd_same
          refine ⟨G'.sub _ _ fd, ?_⟩
          have GU := alt_good (u2 := .dK ks) G' fd (.inr ⟨od, fd⟩) (.inl rfl)
          have aU : Alt F' (upd F' a (.dK ks)) a ks := ⟨fun b hb => (upd_ne hb).symm, .inr ⟨od, fd⟩, .inl upd_same⟩
          have hba : b ≠ a := fun z => by rw [z, fd] at h1; cases h1
          have sF : Same F (upd F' a (.dK ks)) := fun c o q => by
            by_cases hc : c = a
            · subst hc
              rw [upd_same]
              rw [sa] at q
              exact q
            · rw [upd_ne hc]
              exact s1 c o (by rw [upd_ne hc]; exact q)
          obtain ⟨w1, w2, w3⟩ := GU.ice (a := b) (u := u) (d := .list res) (by rw [upd_ne hba]; exact h1) h2 h3 (by rw [upd_ne hba]; exact h4) (alt_stored aU h5)
          exact k _ _ _ (sF.trans w1) w2 w3
        · refine .inr ⟨_, hσ, a, o, rfl, .inl ⟨ks, G.sub _ _ sa, ?_⟩⟩
          refine lc_inner (Q := Q) his G (wk_keys sa ra) e2 fun F' H' b u s1 G' h1 h2 h3 h4 h5 => ?_
          obtain ⟨w1, w2, w3⟩ := G'.ice (a := b) (u := u) (d := .list res) h1 h2 h3 h4 h5
          exact k _ _ _ (s1.trans w1) w2 w3
  · cases e1
end
end TX

end
/-! TXB -/
section
set_option maxHeartbeats 4000000
namespace TX
open PySem PySem.Spec PyProof.Rows L2 TL
/-! ## sorted of a dict whose keys are texts -/
def ltL (a b : List Nat) : Bool := PySem.Spec.ltCps a b
theorem ltL_cc (a b : Nat) (r t : List Nat) : ltL (a :: r) (b :: t) = (decide (a < b) || (a == b && ltL r t)) := rfl
theorem ltL_irr : ∀ a, ltL a a = false
  | [] => rfl
  | a :: r => by rw [ltL_cc, ltL_irr r]; simp
theorem ltL_tot : ∀ a b, ltL a b = false → ltL b a = false → a = b
  | [], [], _, _ => rfl
  | [], b :: t, h, _ => by cases h
  | a :: r, [], _, h => by cases h
  | a :: r, b :: t, h, g => by
    rw [ltL_cc] at h g
    simp only [Bool.or_eq_false_iff, decide_eq_false_iff_not, Bool.and_eq_false_iff, beq_eq_false_iff_ne] at h g
    have e : a = b := by omega
    subst e
    rw [ltL_tot r t (by rcases h.2 with q | q; exact absurd rfl q; exact q) (by rcases g.2 with q | q; exact absurd rfl q; exact q)]
theorem ltL_trans : ∀ a b c, ltL a b = true → ltL b c = true → ltL a c = true
  | [], [], [], h, _ => by cases h
  | [], x :: t, [], _, g => by
    have e : ltL (x :: t) [] = false := rfl
    rw [e] at g
    cases g
  | [], b, c :: w, h, g => rfl
  | a :: r, [], c, h, g => by cases h
  | a :: r, b :: t, [], h, g => by cases g
  | a :: r, b :: t, c :: w, h, g => by
    rw [ltL_cc] at h g ⊢
    simp only [Bool.or_eq_true, decide_eq_true_eq, Bool.and_eq_true, beq_iff_eq] at h g ⊢
    rcases h with h | ⟨h, h'⟩
    · rcases g with g | ⟨g, _⟩
      · left; omega
      · left; omega
    · rcases g with g | ⟨g, g'⟩
      · left; omega
      · right; exact ⟨by omega, ltL_trans r t w h' g'⟩
def leS (a b : Str) : Bool := !ltL b.cps.toList a.cps.toList
theorem leS_trans (a b c : Str) (h : leS a b = true) (g : leS b c = true) : leS a c = true := by
  unfold leS at *
  rw [Bool.not_eq_true'] at *
  cases e : ltL c.cps.toList a.cps.toList with
  | false => rfl
  | true =>
    -- c < a; b is not below a, c is not below b
    cases e2 : ltL a.cps.toList b.cps.toList with
    | true =>
      rw [ltL_trans _ _ _ e e2] at g
      cases g
    | false =>
      have q := ltL_tot _ _ e2 h
      rw [← q] at g
      rw [e] at g
      cases g
theorem leS_tot (a b : Str) : (leS a b || leS b a) = true := by
  unfold leS
  cases e : ltL b.cps.toList a.cps.toList with
  | false => rfl
  | true =>
    cases e2 : ltL a.cps.toList b.cps.toList with
    | false => rfl
    | true =>
      have := ltL_trans _ _ _ e e2
      rw [ltL_irr] at this
      cases this
theorem leS_anti {a b : Str} (h : leS a b = true) (g : leS b a = true) : a = b := by
  unfold leS at *
  rw [Bool.not_eq_true'] at *
  have e := ltL_tot _ _ g h
  obtain ⟨a⟩ := a
  obtain ⟨b⟩ := b
  have : a = b := Array.ext' e
  rw [this]
theorem rising_pw : ∀ (x : Str) (l : List Str), PyProof.Rows.risingS x l = true → List.Pairwise (fun a b => leS a b = true) (x :: l)
  | x, [], _ => by simp
  | x, y :: r, h => by
    rw [PyProof.Rows.risingS.eq_2, Bool.and_eq_true] at h
    have h2 := rising_pw y r h.2
    have hxy : leS x y = true := h.1
    refine List.pairwise_cons.mpr ⟨fun z hz => ?_, h2⟩
    rcases List.mem_cons.mp hz with q | q
    · rw [q]; exact hxy
    · exact leS_trans _ _ _ hxy ((List.pairwise_cons.mp h2).1 z q)
theorem sorted_pw : ∀ l : List Str, PyProof.Rows.sortedS l = true → List.Pairwise (fun a b => leS a b = true) l
  | [], _ => List.Pairwise.nil
  | x :: r, h => rising_pw x r h
def srtS (l : List Str) : List Str := l.mergeSort leS
theorem srtS_one {ys ks : List Str} (h : ys.Perm ks) (g : PyProof.Rows.sortedS ys = true) : ys = srtS ks :=
  List.Perm.eq_of_pairwise (le := fun a b => leS a b = true) (fun a b _ _ h g => leS_anti h g) (sorted_pw ys g) (List.pairwise_mergeSort leS_trans leS_tot ks) (h.trans (List.mergeSort_perm ks leS).symm)
def strKey (p : PyData × PyData) : Option Str := match p.1 with
  | .str x => some x
  | _ => none
def sortDS : List PyData → Option PyData
  | [.dict ps] => (ps.mapM strKey).bind fun ks => if ks.length < 64 then some (.list ((srtS ks).map .str)) else none
  | _ => none
section
variable {K : PySem.W.Frag} {F : Hp}
theorem strs_read : ∀ {ps : List (PyData × PyData)} {ks : List (Key × V)} {is : List Str}, RpKv K F ks ps → (ps.mapM strKey) = some is → ks.map (·.1) = is.map Sum.inr
  | [], _, _, h, e => by
    cases h
    cases e
    rfl
  | (c, d) :: ps, _, _, h, e => by
    cases h with
    | @cons k _ _ _ _ h1 h2 =>
      rw [List.mapM_cons] at e
      obtain ⟨i, e1, e⟩ := Option.bind_eq_some_iff.mp e
      obtain ⟨is, e2, e⟩ := Option.bind_eq_some_iff.mp e
      cases e
      rw [List.map_cons, List.map_cons, strs_read h2 e2]
      cases k with
      | inl j => cases e1
      | inr x => cases e1; rfl
theorem rpa_strs {K : PySem.W.Frag} {F : Hp} : ∀ xs : List Str, RpAll K F (xs.map V.str) (xs.map PyData.str)
  | [] => .nil
  | x :: xs => .cons (.vs x) (rpa_strs xs)
end
abbrev rSortDS : List V → Hp → VK → Prop := fun xs H Q => ∃ (a : Addr) (kvs : List (Key × V)) (ks : List Str), xs = [.ref a] ∧ Rd H a (.dK kvs) ∧ kvs.map (·.1) = ks.map Sum.inr ∧ ks.length < 64 ∧ ∀ (ys : List Str) (p : Addr), ys.Perm ks → PyProof.Rows.sortedS ys = true → H p = none → Q (.ref p) (upd H p (.lst (ys.map V.str)))
theorem cn_sortDS {X : Cx} {U : Hp} : CallN X U rSortDS sortDS := by
  intro A F H σ r m vs ds d Q G ha e k
  unfold sortDS at e
  split at e
  · rename_i ps
    obtain ⟨ks, e1, e2⟩ := Option.bind_eq_some_iff.mp e
    split at e2
    · rename_i h64
      cases e2
      obtain ⟨v, rfl, h⟩ := rpa1 ha
      cases h with
      | vd sa ra =>
        refine ⟨_, _, ks, rfl, rd_mono G.sub sa, strs_read ra e1, h64, fun ys p hp hs np => ?_⟩
        rw [srtS_one hp hs]
        exact k F _ p _ (Same.refl F) (G.laidO np) (G.nope np).1 (G.nope np).2 (G.notin np) upd_same ⟨_, rfl, rpa_strs _⟩
      | vx _ _ _ => cases e1
    · cases e2
  · cases e
end TX

end
/-! TXC -/
section
set_option maxHeartbeats 4000000
namespace TX
open PySem PySem.Spec PyProof.Rows L2 TL
/-! ## for over a cell that the body leaves alone -/
def xForO (i : Nat) (h : Eh) (body : EsX) : EsX := fun r m => (slO r[i]?).bind fun k => (cellAt m k).bind fun c => match c with
  | .list ds => (loopX h body ds r (m.set k none)).bind fun o => match o with
    | .ok (.nx r1 m1) => if k < m1.length then some (.ok (.nx r1 (m1.set k (some (.list ds))))) else none
    | .xc d r1 m1 => if k < m1.length then some (.xc d r1 (m1.set k (some (.list ds)))) else none
    | _ => none
  | _ => none
theorem wk_cell {K : PySem.W.Frag} {U F : Hp} {a : Addr} {xs : List V} {ds : List PyData} (hs : U a = some (.lst xs)) (hr : RpAll K F xs ds) : Wk K U (Itl K a) F ds where
  go := fun U1 A σ r m F1 H1 i d sU s1 G1 e => by
    obtain ⟨v, h1, h2⟩ := rpa_get hr e
    have hq : SqL K H1 a xs := .inl (.inl (G1.fo a _ (sU _ _ hs)).1)
    refine ⟨⟨xs, v, hq, h1⟩, fun x H2 hy => ?_⟩
    obtain ⟨e2, hy⟩ := hy
    subst e2
    have := hy xs hq
    rw [h1] at this
    cases this
    exact ⟨F1, Same.refl F1, G1, Rpm s1 h2⟩
  stop := fun F1 H1 sU s1 s2 => ⟨xs, .inl (.inl (sU _ _ hs)), by rw [rpa_len hr]; exact Nat.le_refl _⟩
section
variable {X : Cx} {U : Hp} {n0 : Nat} {C : Addr} {W : WX} {tg : Expr} {body : List Stmt} {h : Eh} {s : EsX} {is : List Nat} {pos p1 : Pos} {y : Str}
theorem pss_allX (k : ∀ U, PSs X body (tX X.K U n0 C W s)) : PSs X body (fun D σ H => ∃ U, tX X.K U n0 C W s D σ H) := ⟨fun pins s σ H D I ⟨U, q⟩ => (k U).run pins s σ H D I q⟩
theorem xs_forO (i : Nat) (hv : PE X (.Name y p1) (tVar i)) (hp : PassesOwn (model X.prog X.w) X.A X.env X.xe) (hc : X.calm = true) (hg : ∀ U, PG X tg (tG X.K U is h)) (hb : ∀ U, PSs X body (tX X.K U n0 C W s)) (hs : ∀ x, foldedSetIterable (.Name y p1) X.env x = pure x := by intro _; rfl) :
    PS X (.For tg (.Name y p1) body [] pos) (tX X.K U n0 C W (xForO i h s)) := ps_weak (ps_for hp hc (pi_list hv) (pg_all hg) (pss_allX hb) hs) fun D σ H ⟨A, F, r, m, o, G, hn, e, p⟩ => by
  unfold xForO at e
  obtain ⟨k, e0, e⟩ := Option.bind_eq_some_iff.mp e
  obtain ⟨c, ec, e⟩ := Option.bind_eq_some_iff.mp e
  split at e
  · rename_i ds
    obtain ⟨ox, e1, e⟩ := Option.bind_eq_some_iff.mp e
    have e0' : r[i]? = some (.ow k) := by
      cases hr : r[i]? with
      | none => rw [hr] at e0; cases e0
      | some sl =>
        rw [hr] at e0
        cases sl <;> first | cases e0 | skip
        rfl
    obtain ⟨a, hA, hσ⟩ := G.ow i k e0'
    obtain ⟨hU, u, hH, ⟨vs, hu, hra⟩, G1⟩ := G.hide hA ec
    subst hu
    have hUa : upd U a (.lst vs) a = some (.lst vs) := upd_same
    have W1 : Wk X.K (upd U a (.lst vs)) (Itl X.K a) F ds := wk_cell hUa hra
    refine ⟨.ref a, hσ, a, rfl, ⟨vs, .inl (.inl hH)⟩, ?_⟩
    refine ⟨fun i mm σ2 H2 => mm = ds.length - i ∧ i ≤ ds.length ∧ ∃ (A2 : List Addr) (F2 : Hp) (r2 : Rs) (m2 : Ms), A <+: A2 ∧ Same F F2 ∧ Good X.K (upd U a (.lst vs)) A2 F2 H2 σ2 r2 m2 ∧ loopX h s (ds.drop i) r2 m2 = some ox, ⟨ds.length, by simp, Nat.zero_le _, A, F, r, _, List.prefix_refl A, Same.refl F, G1, by rw [List.drop_zero]; exact e1⟩, ?_⟩
    rintro i mm σ2 H2 ⟨rfl, hi2, A2, F2, r2, m2, hA2, hF, G2, e2⟩
    have bareX : ∀ {A' : List Addr} {F' H' : Hp} {σ' : L2.St} {r' : Rs} {m' : Ms}, A <+: A' → Same F F' → Good X.K (upd U a (.lst vs)) A' F' H' σ' r' m' → k < m'.length → Good X.K U A' F' H' σ' r' (m'.set k (some (.list ds))) := fun {A' F' H' σ' r' m'} hA' hF' G' hl => by
      refine G'.bare hU ?_ hl ⟨vs, rfl, Rpam hF' hra⟩
      obtain ⟨t, rfl⟩ := hA'
      rw [List.getElem?_append_left (List.getElem?_eq_some_iff.mp hA).1]
      exact hA
    by_cases hlt : i < ds.length
    · rw [List.drop_eq_getElem_cons hlt] at e2
      unfold loopX at e2
      obtain ⟨r3, e3, e2⟩ := Option.bind_eq_some_iff.mp e2
      obtain ⟨o4, e4, e2⟩ := Option.bind_eq_some_iff.mp e2
      obtain ⟨w1, w2⟩ := W1.go _ A2 σ2 r2 m2 F2 H2 i ds[i] (Same.refl _) hF G2 (List.getElem?_eq_getElem hlt)
      refine .inr ⟨w1, fun σ' H' => ∃ (A' : List Addr) (F' : Hp) (r' : Rs) (m' : Ms), A <+: A' ∧ Same F F' ∧ Good X.K (upd U a (.lst vs)) A' F' H' σ' r' m' ∧ loopX h s (ds.drop (i + 1)) r' m' = some ox, fun σ' H' w => ⟨ds.length - (i + 1), by omega, rfl, hlt, w⟩, fun x H3 hy => ?_⟩
      obtain ⟨F3, s3, G3, h3⟩ := w2 x H3 hy
      refine ⟨_, A2, F3, r2, m2, ds[i], r3, G3, h3, e3, fun σ4 G4 _ _ => ⟨_, A2, F3, r3, m2, o4, G4, len_of hA2 hn, e4, ?_⟩⟩
      have hF3 : Same F F3 := hF.trans s3
      cases o4 with
      | xc d r5 m5 =>
        cases e2
        simp only at e
        split at e
        · rename_i hl
          cases e
          exact fun A' F' H' σ' dd v ha hf G' q1 q2 => p A' F' H' σ' dd v (hA2.trans ha) (hF3.trans hf) (bareX (hA2.trans ha) (hF3.trans hf) G' hl) q1 q2
        · cases e
      | ok o4 =>
        cases o4 with
        | nx r5 m5 => exact fun A' F' H' σ' ha hf G' => ⟨A', F', r5, m5, hA2.trans ha, hF3.trans hf, G', e2⟩
        | ct r5 m5 => exact fun A' F' H' σ' ha hf G' => ⟨A', F', r5, m5, hA2.trans ha, hF3.trans hf, G', e2⟩
        | bk r5 m5 =>
          cases e2
          simp only at e
          split at e
          · rename_i hl
            cases e
            exact fun A' F' H' σ' ha hf G' => p A' F' H' σ' (hA2.trans ha) (hF3.trans hf) (bareX (hA2.trans ha) (hF3.trans hf) G' hl)
          · cases e
        | rt d m5 =>
          cases e2
          cases e
        | rn ds5 m5 =>
          cases e2
          cases e
    · have ei : i = ds.length := by omega
      subst ei
      rw [List.drop_length] at e2
      cases e2
      simp only at e
      split at e
      · rename_i hl
        cases e
        exact .inl ⟨W1.stop F2 H2 (fun b o q => (G2.fo b o q).1) hF G2.sub, p A2 F2 H2 σ2 hA2 hF (bareX hA2 hF G2 hl)⟩
      · cases e
  · cases e
end
end TX

end
/-! TXD -/
section
set_option maxHeartbeats 4000000
namespace TX
open PySem PySem.Spec PyProof.Rows L2 TL
/-! ## the head: facts by names, and more of one's own -/
def hookX (n : Nat) (fa : List He.Fa) (fn : List He.DefD) (xs : PySem.W.Frag → Bool) : PySem.W.Hook where
  α := He.AlD × Bool
  obs := fun s => (He.obsD fa fn (He.frG s.heap.get? (He.asD s.heap.get? n)), xs (He.frG s.heap.get? (He.asD s.heap.get? n)))
  val := fun _ => (He.valD fn, true)
  says := fun _ h => ∃ K, K.In h ∧ He.SaysD fa fn K ∧ xs K = true
  of := fun _ s e => ⟨_, He.frG_in, congrArg Prod.fst e, congrArg Prod.snd e⟩
  keeps := fun _ h h' ⟨K, k1, k2, k3⟩ kk => ⟨K, k1.keeps kk, k2, k3⟩
def obsXG (n : Nat) (fa : List He.Fa) (fn : List He.DefD) (xs : PySem.W.Frag → Bool) (g : Addr → Option Obj) : He.AlD × Bool := (He.obsD fa fn (He.frG g (He.asD g n)), xs (He.frG g (He.asD g n)))
theorem obsXG_eq {n : Nat} {fa : List He.Fa} {fn : List He.DefD} {xs : PySem.W.Frag → Bool} {g : Addr → Option Obj} {s : Shared} (h : ∀ a, g a = s.heap.get? a) : obsXG n fa fn xs g = (hookX n fa fn xs).obs s := by
  have e : g = s.heap.get? := funext h
  rw [e]
  rfl
/-- what is seen of an own exception with a field name -/
def exOk (K : PySem.W.Frag) (cn : Str) (tail : List String) (newId : String) : Bool :=
  clOk K (He.ga K cn) tail newId &&
  (He.eqO (PySem.W.findIn K (.ref (He.ga K cn)) "__setattr__") (some (some (.builtin "object.__setattr__"))) &&
  (He.eqO (PySem.W.findIn K (.ref (He.ga K cn)) "__getattribute__") (some (some (.builtin "BaseException.__getattribute__"))) &&
  (He.eqO (PySem.W.findIn K (.ref (He.ga K cn)) "__getattr__") (some none) &&
  (He.eqO (PySem.W.findIn K (.ref (He.ga K cn)) "name") (some none) &&
  (He.eqO (PySem.W.findIn K (.ref (He.ga K cn)) "__init__") (some (some (.ref (He.ma K (He.ga K cn) "__init__")))) &&
  (decide (PySem.W.typeIn K (.ref (He.ma K (He.ga K cn) "__init__")) = some (.type "function")) &&
  (PySem.W.keepIn K (.ref (He.ga K cn)) &&
  (decide (PySem.W.subIn K (.ref (He.ga K cn)) (.type "BaseException") = some true) &&
  (decide (PySem.W.typeIn K (.ref (He.ga K cn)) = some (.type "type")) &&
  (PySem.W.hasDictIn K (He.ga K cn) && decide (PySem.W.exmOne K (.ref (He.ga K cn)) (.ref (He.ga K cn)) = some true)))))))))))
theorem exOk_T {K : PySem.W.Frag} {mg : Str → Option Value} {cn : Str} {tail : List String} {newId : String} (h : exOk K cn tail newId = true) (gC : mg cn = some (.ref (He.ga K cn)))
    (fn : ∃ (q : Str) (fd : FuncData) (p1 p2 q1 q2 q3 q4 : Pos), L2.FunD K "__init__" q (mkA p1 p2) (mkB q1 q2 q3 q4) mkS [] [] (He.ma K (He.ga K cn) "__init__") fd) : ExT K mg cn tail newId (He.ga K cn) (He.ma K (He.ga K cn) "__init__") := by
  unfold exOk at h
  simp only [Bool.and_eq_true, decide_eq_true_eq] at h
  obtain ⟨h1, h2, h3, h4, h5, h6, h7, h8, h9, h10, h11, h12⟩ := h
  exact ⟨gC, h1, He.eqO_ok h2, He.eqO_ok h3, He.eqO_ok h4, He.eqO_ok h5, He.eqO_ok h6, h7, h8, h9, h10, h11, h12, fn⟩
/-- where a keyword's default stands -/
def kwA (f n : Str) (K : PySem.W.Frag) : Addr := match List.lookup (He.ga K f) K with
  | some { cls := _, dict := _, data := .func fd, slots := _ } => match fd.kwdefaults with
    | .ref D => match PySem.W.nsIn K D n with
      | some (some (.ref a)) => a
      | _ => 0
    | _ => 0
  | _ => 0
/-- an empty tuple stands there -/
def noTup (K : PySem.W.Frag) (a : Addr) : Bool := match List.lookup a K with
  | some { cls := .type "tuple", dict := _, data := .seq ⟨[]⟩ _, slots := _ } => true
  | _ => false
theorem noTup_rp {K : PySem.W.Frag} {a : Addr} (h : noTup K a = true) (F : Hp) : Rp K F (.ref a) (.tuple []) := by
  unfold noTup at h
  split at h
  · rename_i dd n sl e
    exact .vt (.inr ⟨_, _, _, e, rfl, rfl, Nat.zero_le _, .nil⟩) .nil
  · cases h
def clsBody : Stmt → List Stmt
  | .ClassDef _ _ _ b _ _ _ _ _ _ _ => b
  | _ => []
end TX

end
/-! TXE -/
section
set_option maxHeartbeats 4000000
namespace TX
open PySem L2 TL
/-! ## the twins that may raise, reckoned -/
section
variable {r : Rs} {m : Ms} {Q : OutX → Prop} {s t : EsX} {f : Es} {c : Et} {e : Ev} {x : ErX} {i n : Nat} {h : Eh}
def ThenX (t : EsX) (Q : OutX → Prop) : OutX → Prop
  | .ok (.nx r1 m1) => W (t r1 m1) Q
  | o => Q o
theorem w_xSeq (h : W (s r m) (ThenX t Q)) : W (xSeq s t r m) Q := W.bind (W.mono h fun o h => by
  cases o with
  | xc d r1 m1 => exact .mk h
  | ok o =>
    cases o with
    | nx r1 m1 => exact h
    | _ => exact .mk h)
theorem w_xL (h : W (f r m) fun o => Q (.ok o)) : W (xL f r m) Q := W.map h
theorem w_xNil (h : Q (.ok (.nx r m))) : W (xNil r m) Q := .mk h
theorem w_xIf (h : W (c r m) fun p => (p.1 = true → W (s r p.2) Q) ∧ (p.1 = false → W (t r p.2) Q)) : W (xIf c s t r m) Q := W.bind (W.mono h fun p h => W.ite h.1 fun z => h.2 (by simpa using z))
theorem w_xRaise (h : W (e r m) fun p => Q (.xc p.1 r p.2)) : W (xRaise e r m) Q := W.map h
def RetX (r : Rs) (Q : OutX → Prop) : ROut × Ms → Prop
  | (.fz d, m) => Q (.ok (.rt d m))
  | (.nw d, m) => Q (.ok (.rn d m))
  | (.xc d, m) => Q (.xc d r m)
theorem w_xRet (h : W (x r m) (RetX r Q)) : W (xRet x r m) Q := W.map (W.mono h fun p h => by
  obtain ⟨o, m1⟩ := p
  cases o <;> exact h)
def SetX (i : Nat) (r : Rs) (Q : OutX → Prop) : ROut × Ms → Prop
  | (.fz d, m) => Q (.ok (.nx (r.set i (.fz d)) m))
  | (.nw d, m) => Q (.ok (.nx (r.set i (.ow m.length)) (m ++ [some d])))
  | (.xc d, m) => Q (.xc d r m)
theorem w_xSet (h : W (x r m) (SetX i r Q)) : W (xSet i x r m) Q := W.map (W.mono h fun p h => by
  obtain ⟨o, m1⟩ := p
  cases o <;> exact h)
theorem w_eXD {g : List PyData → Option ROut} {dd : List PyData} {fs : Eas} {QR : ROut × Ms → Prop} (h : W (fs r m) fun p => (p.1 ++ dd).length = n ∧ W (g (p.1 ++ dd)) fun o => QR (o, p.2)) : W (eXD n dd g fs r m) QR := W.bind (W.mono h fun _ h => W.map (w_arN h.1 h.2))
theorem w_eXK {g : List PyData → Option ROut} {c : Nat} {fs fk : Eas} {QR : ROut × Ms → Prop} (h : W (fs r m) fun p => W (fk r p.2) fun q => p.1.length = c ∧ (p.1 ++ q.1).length = n ∧ W (g (p.1 ++ q.1)) fun o => QR (o, q.2)) : W (eXK c n g fs fk r m) QR := W.bind (W.mono h fun _ h => W.bind (W.mono h fun _ h => W.guard h.1 (W.map (w_arN h.2.1 h.2.2))))
def TurnX (I : Rs → Ms → Prop) (Q : OutX → Prop) : OutX → Prop
  | .ok (.nx r m) => I r m
  | .ok (.ct r m) => I r m
  | .ok (.bk r m) => Q (.ok (.nx r m))
  | o => Q o
theorem loopX_inv {ds : List PyData} (I : Nat → Rs → Ms → Prop) (step : ∀ (i : Nat) (d : PyData) (r : Rs) (m : Ms), ds[i]? = some d → I i r m → W (h d r) fun r1 => W (s r1 m) (TurnX (I (i + 1)) Q)) (done : ∀ r m, I ds.length r m → Q (.ok (.nx r m))) : ∀ (k : Nat) (r : Rs) (m : Ms), k ≤ ds.length → I k r m → W (loopX h s (ds.drop k) r m) Q := by
  intro k
  induction hk : ds.length - k generalizing k with
  | zero =>
    intro r m hl hI
    have : k = ds.length := by omega
    subst this
    rw [List.drop_length]
    exact .mk (done r m hI)
  | succ n ih =>
    intro r m hl hI
    have hlt : k < ds.length := by omega
    rw [List.drop_eq_getElem_cons hlt]
    unfold loopX
    refine W.bind (W.mono (step k ds[k] r m (List.getElem?_eq_getElem hlt) hI) fun r1 h => W.bind (W.mono h fun o h => ?_))
    cases o with
    | xc d r2 m2 => exact .mk h
    | ok o =>
      cases o with
      | nx r2 m2 => exact ih (k + 1) (by omega) r2 m2 (by omega) h
      | ct r2 m2 => exact ih (k + 1) (by omega) r2 m2 (by omega) h
      | bk r2 m2 => exact .mk h
      | rt d m2 => exact .mk h
      | rn d m2 => exact .mk h
/-- behind a loop over a held cell -/
def BackX (k : Nat) (ds : List PyData) (Q : OutX → Prop) : OutX → Prop
  | .ok (.nx r1 m1) => k < m1.length ∧ Q (.ok (.nx r1 (m1.set k (some (.list ds)))))
  | .xc d r1 m1 => k < m1.length ∧ Q (.xc d r1 (m1.set k (some (.list ds))))
  | _ => False
theorem w_xForO {k : Nat} {ds : List PyData} (I : Nat → Rs → Ms → Prop) (hk : slO r[i]? = some k) (hc : cellAt m k = some (.list ds)) (h0 : I 0 r (m.set k none)) (step : ∀ (j : Nat) (d : PyData) (r : Rs) (m : Ms), ds[j]? = some d → I j r m → W (h d r) fun r1 => W (s r1 m) (TurnX (I (j + 1)) (BackX k ds Q)))
    (done : ∀ r m, I ds.length r m → BackX k ds Q (.ok (.nx r m))) : W (xForO i h s r m) Q := by
  unfold xForO
  rw [hk]
  show W (Option.bind (cellAt m k) _) Q
  rw [hc]
  have := loopX_inv (h := h) (s := s) (Q := BackX k ds Q) (ds := ds) I step done 0 r (m.set k none) (Nat.zero_le _) h0
  rw [List.drop_zero] at this
  rw [Option.bind_some]
  refine W.bind (W.mono this fun o h => ?_)
  cases o with
  | xc d r1 m1 => exact W.guard h.1 (.mk h.2)
  | ok o =>
    cases o with
    | nx r1 m1 => exact W.guard h.1 (.mk h.2)
    | _ => exact h.elim
def PX (Q : ROut → Prop) : OutX → Prop
  | .ok (.rt d _) => Q (.fz d)
  | .ok (.nx _ _) => Q (.fz .none)
  | .ok (.rn d _) => Q (.nw d)
  | .xc d _ _ => Q (.xc d)
  | _ => False
theorem w_runX {Q : ROut → Prop} {ds : List PyData} (h : W (s (slots n ds) []) (PX Q)) : W (runX n s ds) Q := by
  unfold runX
  cases e : s (slots n ds) [] with
  | none => rw [e] at h; cases h
  | some o =>
    rw [e] at h
    cases h with
    | mk h =>
    cases o with
    | xc d r m => exact .mk h
    | ok o =>
      cases o with
      | nx r m => exact .mk h
      | rt d m => exact .mk h
      | rn d m => exact .mk h
      | bk r m => exact h.elim
      | ct r m => exact h.elim
def PM (Q : ROut → Prop) : Out → Prop
  | .rt d _ => Q (.fz d)
  | .nx _ _ => Q (.fz .none)
  | .rn d _ => Q (.nw d)
  | _ => False
theorem w_runM {Q : ROut → Prop} {ds : List PyData} (h : W (f (slots n ds) []) (PM Q)) : W (runM n f ds) Q := by
  unfold runM
  cases e : f (slots n ds) [] with
  | none => rw [e] at h; cases h
  | some o =>
    rw [e] at h
    cases h with
    | mk h =>
    cases o with
    | nx r m => exact .mk h
    | rt d m => exact .mk h
    | rn d m => exact .mk h
    | bk r m => exact h.elim
    | ct r m => exact h.elim
/-- behind a try -/
def TryX (i j : Nat) (mk : PyData → PyData) (S : Out → Prop) : OutX → Prop
  | .ok o => S o
  | .xc d r1 m1 => i < r1.length ∧ S (.nx ((r1.set j (.fz (mk d))).set i .un) m1)
theorem w_try {j : Nat} {mk : PyData → PyData} {S : Out → Prop} (h : W (s r m) (TryX i j mk S)) : W (sTry s i j mk r m) S := W.bind (W.mono h fun o h => by
  cases o with
  | ok o => exact .mk h
  | xc d r1 m1 => exact W.guard h.1 (.mk h.2))
def SetM (i : Nat) (r : Rs) (S : Out → Prop) : ROut × Ms → Prop
  | (.fz d, m) => S (.nx (r.set i (.fz d)) m)
  | (.nw d, m) => S (.nx (r.set i (.ow m.length)) (m ++ [some d]))
  | (.xc _, _) => False
theorem w_setM {S : Out → Prop} (h : W (x r m) (SetM i r S)) : W (sSetM i x r m) S := W.bind (W.mono h fun p h => by
  obtain ⟨o, m1⟩ := p
  cases o with
  | fz d => exact .mk h
  | nw d => exact .mk h
  | xc d => exact h.elim)
def FrX (QE : PyData × Ms → Prop) : ROut × Ms → Prop
  | (.fz d, m) => QE (d, m)
  | (.nw d, m) => QE (d, m)
  | (.xc _, _) => False
theorem w_fr {QE : PyData × Ms → Prop} (h : W (x r m) (FrX QE)) : W (eFr x r m) QE := W.bind (W.mono h fun p h => by
  obtain ⟨o, m1⟩ := p
  cases o with
  | fz d => exact .mk h
  | nw d => exact .mk h
  | xc d => exact h.elim)
theorem w_eOf {u : PyData → Option PyData} {QE : PyData × Ms → Prop} {d : PyData} (e : slV m r[i]? = some d) (h : W (u d) fun z => QE (z, m)) : W (eOf i u r m) QE := by
  unfold eOf
  rw [e]
  exact W.map h
theorem w_retV {n0 : Nat} {S : Out → Prop} (h : (∃ d, r[i]? = some (.fz d) ∧ S (.rt d m)) ∨ ∃ k d, r[i]? = some (.ow k) ∧ n0 ≤ k ∧ cellAt m k = some d ∧ S (.rn d m)) : W (sRetV n0 i r m) S := by
  unfold sRetV
  rcases h with ⟨d, e, h⟩ | ⟨k, d, e, hk, hc, h⟩
  · rw [e]; exact .mk h
  · rw [e]
    exact W.guard hk (W.map (W.of hc h))
theorem w_keys {ps : List (PyData × PyData)} {QL : List PyData × Ms → Prop} (e : r[i]? = some (.fz (.dict ps))) (hS : isSetD (.dict ps) = false) (h : QL (ps.map (·.1), m)) : W (eKeys i r m) QL := by
  unfold eKeys
  rw [e]
  show W (if isSetD (.dict ps) = true then none else some (ps.map (·.1), m)) QL
  rw [if_neg (by rw [hS]; decide)]
  exact .mk h
end
end TX

end
/-! TXF -/
section
set_option maxHeartbeats 4000000
namespace TX
open PySem PySem.Spec PyProof.Rows L2 TL
/-! ## a raising call's value handed on; as a statement; x.remove(e) -/
def fzO : ROut → ROut
  | .nw d => .fz d
  | .fz d => .fz d
  | .xc d => .xc d
def eFz (f : ErX) : ErX := fun r m => (f r m).map fun p => (fzO p.1, p.2)
/-- g(f1, ..): where f1 raises, so does it -/
def eX1 (n : Nat) (g : List PyData → Option PyData) (f1 : ErX) (f : Eas) : ErX := fun r m => (f1 r m).bind fun p => match p.1 with
  | .xc d => some (.xc d, p.2)
  | .fz d => (f r p.2).bind fun q => (arN n g (d :: q.1)).map fun o => (.fz o, q.2)
  | .nw _ => none
def xDrop (f : ErX) : EsX := fun r m => (f r m).map fun p => match p.1 with | .xc d => .xc d r p.2 | _ => .ok (.nx r p.2)
section
variable {X : Cx} {U : Hp} {C : Addr} {W : WX} {e : Expr} {f : ErX}
theorem xe_fz (he : PE X e (tXe X.K U C W f)) : PE X e (tXe X.K U C W (eFz f)) := pe_weak he fun σ H Q ⟨A, F, r, m, o, m', G, e, k⟩ => by
  unfold eFz at e
  obtain ⟨⟨o1, m1⟩, e1, e2⟩ := Option.map_eq_some_iff.mp e
  refine ⟨A, F, r, m, o1, m1, G, e1, ?_⟩
  cases o1 with
  | fz d => cases e2; exact k
  | xc d => cases e2; exact k
  | nw es =>
    cases e2
    intro F1 H1 a u s1 G1 h1 h2 h3 h4 h5
    have sF : Same F1 (upd F1 a u) := same_new h1
    refine k (upd F1 a u) H1 (.ref a) (s1.trans sF) ?_ (stored_rp upd_same (stored_mono sF h5))
    refine ⟨fun b o e => ?_, fun b o e => ?_, G1.len, fun i d e => ?_, G1.ow, G1.al, fun j b es e1 e2 => ?_, G1.nd, G1.he⟩
    · by_cases hb : b = a
      · subst hb
        rw [upd_same] at e
        cases e
        exact h4
      · rw [upd_ne hb] at e
        exact G1.sub b o e
    · have hb : b ≠ a := fun z => by rw [z, h2] at e; cases e
      rw [upd_ne hb]
      exact G1.fo b o e
    · obtain ⟨v, q1, q2⟩ := G1.fz i d e
      exact ⟨v, q1, Rpm sF q2⟩
    · obtain ⟨q1, q2, o, q3, q4⟩ := G1.cl j b es e1 e2
      have hb : b ≠ a := fun z => h3 (z ▸ List.mem_of_getElem? e1)
      exact ⟨by rw [upd_ne hb]; exact q1, q2, o, q3, stored_mono sF q4⟩
theorem xs_expr {pos : Pos} {n0 : Nat} (he : PE X e (tXe X.K U C W f)) (hs : swapsWith e none pos.line X.env = pure false := by rfl) : PS X (.Expr e pos) (tX X.K U n0 C W (xDrop f)) := ps_weak (ps_expr (xe_fz he) hs) fun D σ H ⟨A, F, r, m, o, G, hn, e, p⟩ => by
  unfold xDrop at e
  obtain ⟨⟨o1, m1⟩, e1, e2⟩ := Option.map_eq_some_iff.mp e
  have ef : eFz f r m = some (fzO o1, m1) := by
    unfold eFz
    rw [e1]
    rfl
  refine ⟨A, F, r, m, _, m1, G, ef, ?_⟩
  cases o1 with
  | fz d => cases e2; exact fun F1 H1 v s1 G1 h1 => p A F1 H1 σ (List.prefix_refl A) s1 G1
  | nw d => cases e2; exact fun F1 H1 v s1 G1 h1 => p A F1 H1 σ (List.prefix_refl A) s1 G1
  | xc d => cases e2; exact fun F1 H1 dd v s1 G1 h1 h2 => p A F1 H1 σ dd v (List.prefix_refl A) s1 G1 h1 h2
theorem xc_arg {x : Str} {p pos : Pos} {es : List Expr} {fs : Eas} {j k n : Nat} {ps : List Str} {g : List PyData → Option PyData} (Ca : CalG X.prog X.w X.K X.mg X.base x k ps (spD X.K n g)) (hr : Room j X.A) (gd : X.A.guards = some []) (hjk : k ≤ j)
    (h1 : PE X e (tXe X.K U C W f)) (ha : PA X es (tAs X.K U fs)) (hg : Gl X x := by rfl) (hdb : (x == ("__debug__" : Str)) = false := by decide)
    (he : starEach (e :: es) X.env = (false, eval e X.env) :: starEach es X.env := by rfl) (hpl : (backTo pos (starEach es X.env)).any (·.1) = false := by rfl) :
    PE X (.Call (.Name x p) (e :: es) [] pos) (tXe X.K U C W (eX1 n g (eFz f) fs)) := by
  obtain ⟨fa, fd, Fn, q2, q3, q4⟩ := Ca.ex
  refine pe_weak (pe_callG Fn (hr.mono hjk) gd hg q2 q3 q4 (pa_cons (xe_fz h1) ha he) hdb he hpl) fun σ H Q ⟨A, F, r, m, o, m', G, e, pp⟩ => ?_
  unfold eX1 at e
  obtain ⟨⟨o1, m1⟩, e1, e2⟩ := Option.bind_eq_some_iff.mp e
  refine ⟨A, F, r, m, o1, m1, G, e1, ?_⟩
  cases o1 with
  | nw d => cases e2
  | xc d =>
    cases e2
    exact fun F1 H1 dd v s1 G1 k1 k2 => pp F1 H1 dd v s1 G1 k1 k2
  | fz d =>
    obtain ⟨⟨ds, m2⟩, e3, e4⟩ := Option.bind_eq_some_iff.mp e2
    obtain ⟨o2, e5, e6⟩ := Option.map_eq_some_iff.mp e4
    cases e6
    refine fun F1 H1 v s1 G1 k1 => ⟨A, F1, r, m1, ds, _, G1, e3, fun F2 H2 vs s2 G2 k2 => ?_⟩
    show spD X.K n g (v :: vs ++ []) H2 Q E0
    rw [List.append_nil]
    obtain ⟨l2, e7⟩ := arN_some e5
    have all : RpAll X.K F2 (v :: vs) (d :: ds) := .cons (Rpm s2 k1) k2
    exact ⟨F2, d :: ds, o2, G2.sub, (rpa_len all).trans l2, all, e7, fun F3 H3 u s3 s4 kk h2 => pp F3 H3 u ((s1.trans s2).trans s3) (G2.past s3 s4 kk) h2⟩
end
/-! ### x.remove(e), x the name of a cell -/
def rRemD (K : PySem.W.Frag) : V → List V → Hp → VK → Prop := fun x xs H Q => ∃ (l : Addr) (vs : List V) (y : V) (d : PyData) (ds : List PyData) (j : Nat), x = .ref l ∧ xs = [y] ∧ H l = some (.lst vs) ∧ DpAll K H vs ds ∧ Dp K H y d ∧
  PyData.plainAll ds = true ∧ d.plain = true ∧ d.depth < 60 ∧ SeqAt.dataPlace ds d = some j ∧ Q .non (upd H l (.lst (vs.eraseIdx j)))
def eRem (i : Nat) (g : Ev) : Ev := fun r m => (slO r[i]?).bind fun k => match cellAt m k with
  | some (.list _) => (g r m).bind fun q => match cellAt q.2 k with
    | some (.list ds) => if PyData.plainAll ds = true ∧ q.1.plain = true ∧ q.1.depth < 60 ∧ PyData.canLayAll0 ds = true ∧ q.1.canLay0 = true then (SeqAt.dataPlace ds q.1).map fun j => (.none, q.2.set k (some (.list (ds.eraseIdx j)))) else none
    | _ => none
  | _ => none
section
variable {X : Cx} {U : Hp} {e : Expr} {g : Ev} {p1 apos cpos : Pos} {y : Str}
theorem mt_remD (hu : X.A.units + 65 < cLine) : MtM X "list.remove" (rRemD X.K) := by
  intro pins s σ H x xs v us Q I rx rxs h
  obtain ⟨l, vs, y, d, ds, j, rfl, rfl, hH, ha, hy, c1, c2, c3, hp, q⟩ := h
  cases rx
  obtain ⟨u, rfl, ru⟩ := rxs.one
  obtain ⟨z, its, n, r, hl, e⟩ := I.lstM hH
  obtain ⟨bs, r1⟩ := Dp.reads I d y u hy ru
  obtain ⟨as, r2⟩ := Dp.readsAll I ds vs its ha r
  have hroom : X.A.units + 1 + min (PyData.depthAll ds) d.depth < cLine := by
    have := Nat.min_le_right (PyData.depthAll ds) d.depth
    omega
  refine SeqAt.remove_list_data (vs := its.toArray) (j := j) ⟨_, e, rfl, n, rfl⟩ (show ReadsAll s.heap its.toArray.toList ds as from r2) r1 c1 c2 hroom hp (by rw [List.size_toArray]; omega) ?_
  refine ⟨.non, _, I.lset (its' := its.eraseIdx j) hH e ?_ (r.eraseIdx j) ?_, rfl, q⟩
  · show its.toArray.eraseIdxIfInBounds j = (its.eraseIdx j).toArray
    rw [List.eraseIdxIfInBounds_toArray]
  · have := List.length_eraseIdx_le vs j
    omega
theorem qe_rem (i : Nat) (hu : X.A.units + 65 < cLine) (hv : PE X (.Name y p1) (tVar i)) (he : PE X e (tE X.K U g)) (hbase : attributeBase (.Name y p1) "remove" X.env (eval (.Name y p1) X.env) = eval (.Name y p1) X.env := by rfl)
    (hfew : ((backTo cpos (starEach [e] X.env)).all (fun x => !x.1) && (backToKw cpos (keywordEach [] X.env)).all (fun x => x.1.isSome) && decide ([e].length + ([] : List Keyword).length + (if ([] : List Keyword).isEmpty then 0 else 1) < 30)) = true := by rfl)
    (hline : (apos.endLine == cpos.line) = true := by rfl) (hse : starEach [e] X.env = (false, eval e X.env) :: starEach [] X.env := by rfl) (hplain : (backTo cpos (starEach [] X.env)).any (·.1) = false := by rfl) :
    PE X (.Call (.Attribute (.Name y p1) "remove" apos) [e] [] cpos) (tE X.K U (eRem i g)) :=
  pe_weak (pe_bm PySem.F.plainAttrs_list PySem.F.slot_list_remove PySem.F.type_list_remove (mt_remD hu) hv (pa_cons he pa_nil hse) hbase hfew hline hse hplain) fun σ H Q ⟨A, F, r, m, d, m', G, e, kk⟩ => by
    unfold eRem at e
    obtain ⟨k, e0, e1⟩ := Option.bind_eq_some_iff.mp e
    obtain ⟨a, hA, hσ⟩ := G.ow i k (slO_some e0)
    split at e1
    · rename_i ds0 hc0
      obtain ⟨⟨dj, m1⟩, e2, e3⟩ := Option.bind_eq_some_iff.mp e1
      obtain ⟨_, _, o0, hH0, hs0⟩ := G.cl k a _ hA hc0
      obtain ⟨vs0, ho, _⟩ := hs0
      subst ho
      refine ⟨_, hσ, .inl ⟨rfl, _, .inl (.inl hH0)⟩, A, F, r, m, dj, m1, G, e2, fun F1 H1 v s1 G1 h1 => ?_⟩
      dsimp only at e3
      split at e3
      · rename_i ds hc1
        split at e3
        · rename_i hq
          obtain ⟨q1, q2, q3, q4, q5⟩ := hq
          obtain ⟨j, e4, e5⟩ := Option.map_eq_some_iff.mp e3
          cases e5
          obtain ⟨c1, c2, o3, c3, vs, c5, c4⟩ := G1.cl k a _ hA hc1
          subst c5
          exact ⟨a, vs, v, dj, ds, j, rfl, rfl, c3, rpa_dp G1.sub ds vs q4 c4, rp_dp G1.sub dj v q5 h1, q1, q2, q3, e4, kk F1 _ .non s1 (G1.setCell hA hc1 ⟨_, rfl, rpa_erase _ c4⟩) .vn⟩
        · cases e3
      · cases e3
    · cases e1
end
end TX

end
/-! TXH -/
section
set_option maxHeartbeats 4000000
namespace TX
open PySem PySem.Spec PyProof.Rows L2 TL
/-! ## {k: v for .. in .. for .. in ..} -/
section
variable (kx vx ta ia tb ib : Expr) (fa fb : List Expr) (scope : Scope) (pos : Pos)
abbrev dc2E : Expr := .DictComp kx vx [⟨ta, ia, fa, 0⟩, ⟨tb, ib, fb, 0⟩] scope pos
theorem outer_turn (it : Value) (D : Addr) (env : Env) : compTurn (dc2E kx vx ta ia tb ib fa fb scope pos) 0 it (.ref D) env = (do
    standAt ia.pos
    match ← pyNext it with
    | none => pure (.done .next)
    | some v =>
      letOwnedTupleGo ta it v
      assign ta env v
      let mut yes := true
      for c in fa do
        if yes then yes ← isTrue c env (eval c env)
      if yes then
        let x ← eval ib env
        standAt ib.pos
        let x ← foldedSetIterable ib env x
        let _ ← runOwn (.compStart (dc2E kx vx ta ia tb ib fa fb scope pos) 1 (← holding [x] (pyIter x)) (.ref D) env) env
      again (.compLoop (dc2E kx vx ta ia tb ib fa fb scope pos) 0 it (.ref D) env)) := by rfl
theorem inner_turn (it : Value) (D : Addr) (env : Env) : compTurn (dc2E kx vx ta ia tb ib fa fb scope pos) 1 it (.ref D) env = (do
    standAt ib.pos
    match ← pyNext it with
    | none => pure (.done .next)
    | some v =>
      letOwnedTupleGo tb it v
      assign tb env v
      let mut yes := true
      for c in fb do
        if yes then yes ← isTrue c env (eval c env)
      if yes then
        (do
          let kv ← eval kx env
          let vv ← holding [kv] (eval vx env)
          standAt { kx.pos with endLine := vx.pos.endLine, endCol := vx.pos.endCol }
          holding [kv, vv] (dictSet D kv vv))
      again (.compLoop (dc2E kx vx ta ia tb ib fa fb scope pos) 1 it (.ref D) env)) := by rfl
end
/-- the tests of a clause -/
abbrev testsS (fs : List Expr) (env : Env) : Sem Bool := forIn fs true fun c r => if r = true then do let ok ← isTrue c env (eval c env); pure (ForInStep.yield ok) else pure (ForInStep.yield r)
abbrev FE : Value → Shared → Prop := fun _ _ => False
section
variable {P : Program} {w : World} {A : Around} {R : Result → Shared → Prop} {s : Shared} {kx vx ta ia tb ib : Expr} {fa fb : List Expr} {scope : Scope} {pos : Pos} {it : Value} {D : Addr} {env : Env}
theorem nofall {α : Type} {t : Sem α} {Q : α → Shared → Prop} {E : Value → Shared → Prop} (h : wpAny (model P w) A t Q FE s) : wpAny (model P w) A t Q E s := wpAny_mono h (fun _ _ q => q) fun _ _ z => z.elim
theorem outer_loop (hs : ∀ x, foldedSetIterable ib env x = pure x) (I : Nat → Shared → Prop)
    (turn : ∀ n s, I n s → wpAny (model P w) A (pyNext it) (fun r s1 => match r with
      | none => R (.ok .next) s1
      | some v => wpAny (model P w) A (letOwnedTupleGo ta it v) (fun _ s2 => wpAny (model P w) A (assign ta env v) (fun _ s3 => wpAny (model P w) A (testsS fa env) (fun yes s4 => if yes = true
          then wpAny (model P w) A (eval ib env) (fun x s5 => wpAny (model P w) A (pyIter x) (fun j s6 => codeAny (model P w) A (.compStart (dc2E kx vx ta ia tb ib fa fb scope pos) 1 j (.ref D) env) (fun r s' => match r with
            | .ok _ => ∃ m, m < n ∧ I m s'
            | .error _ => False) s6) FE s5) FE s4
          else ∃ m, m < n ∧ I m s4) FE s3) FE s2) FE s1) FE s)
    (n : Nat) (h : I n s) : codeAny (model P w) A (.compLoop (dc2E kx vx ta ia tb ib fa fb scope pos) 0 it (.ref D) env) R s := by
  refine codeAny_loop rfl I (fun n s hI => ?_) n h
  show wpAny _ A ((compTurn (dc2E kx vx ta ia tb ib fa fb scope pos) 0 it (.ref D) env).onRaise (fun x => do noteFrame x env; theTreesLotGoes x)) _ _ s
  refine wpAny_noted ?_
  rw [outer_turn]
  refine wpAny_bind (wpAny_standAt (wpAny_bind (wpAny_mono (turn n s hI) (fun r s1 h1 => ?_) fun _ _ z => z.elim)))
  cases r with
  | none => exact wpAny_pure h1
  | some v =>
    refine wpAny_bind (wpAny_mono h1 (fun _ s2 h2 => wpAny_bind (wpAny_mono h2 (fun _ s3 h3 => wpAny_bind (wpAny_mono h3 (fun yes s4 h4 => ?_) fun _ _ z => z.elim)) fun _ _ z => z.elim)) fun _ _ z => z.elim)
    cases yes with
    | false => exact wpAny_pure ⟨rfl, h4⟩
    | true =>
      refine wpAny_bind (wpAny_mono h4 (fun x s5 h5 => ?_) fun _ _ z => z.elim)
      refine wpAny_bind (wpAny_standAt (wpAny_bind (wpAny_of_eq (hs x) (wpAny_bind (wpAny_holding (wpAny_mono h5 (fun j s6 h6 => ?_) fun _ _ z => z.elim))))))
      refine wpAny_bind (wpAny_runOwn ?_)
      rw [Around.mark_none]
      refine codeAny_mono h6 fun r s' hr => ?_
      cases r with
      | error e => exact hr.elim
      | ok f =>
        first
          | exact wpAny_pure ⟨rfl, hr⟩
          | exact wpAny_bind (wpAny_pure (wpAny_pure ⟨rfl, hr⟩))
theorem inner_loop (I : Nat → Shared → Prop)
    (turn : ∀ n s, I n s → wpAny (model P w) A (pyNext it) (fun r s1 => match r with
      | none => R (.ok .next) s1
      | some v => wpAny (model P w) A (letOwnedTupleGo tb it v) (fun _ s2 => wpAny (model P w) A (assign tb env v) (fun _ s3 => wpAny (model P w) A (testsS fb env) (fun yes s4 => if yes = true
          then wpAny (model P w) A (eval kx env) (fun kv s5 => wpAny (model P w) A (eval vx env) (fun vv s6 => wpAny (model P w) A (dictSet D kv vv) (fun _ s7 => ∃ m, m < n ∧ I m s7) FE s6) FE s5) FE s4
          else ∃ m, m < n ∧ I m s4) FE s3) FE s2) FE s1) FE s)
    (n : Nat) (h : I n s) : codeAny (model P w) A (.compLoop (dc2E kx vx ta ia tb ib fa fb scope pos) 1 it (.ref D) env) R s := by
  refine codeAny_loop rfl I (fun n s hI => ?_) n h
  show wpAny _ A ((compTurn (dc2E kx vx ta ia tb ib fa fb scope pos) 1 it (.ref D) env).onRaise (fun x => do noteFrame x env; theTreesLotGoes x)) _ _ s
  refine wpAny_noted ?_
  rw [inner_turn]
  refine wpAny_bind (wpAny_standAt (wpAny_bind (wpAny_mono (turn n s hI) (fun r s1 h1 => ?_) fun _ _ z => z.elim)))
  cases r with
  | none => exact wpAny_pure h1
  | some v =>
    refine wpAny_bind (wpAny_mono h1 (fun _ s2 h2 => wpAny_bind (wpAny_mono h2 (fun _ s3 h3 => wpAny_bind (wpAny_mono h3 (fun yes s4 h4 => ?_) fun _ _ z => z.elim)) fun _ _ z => z.elim)) fun _ _ z => z.elim)
    cases yes with
    | false => exact wpAny_pure ⟨rfl, h4⟩
    | true =>
      exact wpAny_bind (wpAny_bind (wpAny_mono h4 (fun kv s5 h5 => wpAny_bind (wpAny_holding (wpAny_mono h5 (fun vv s6 h6 => wpAny_bind (wpAny_standAt (wpAny_holding (wpAny_mono h6 (fun _ s7 h7 => wpAny_pure ⟨rfl, h7⟩) fun _ _ z => z.elim)))) fun _ _ z => z.elim))) fun _ _ z => z.elim))
theorem inner_start (h0 : codeAny (model P w) A (.compLoop (dc2E kx vx ta ia tb ib fa fb scope pos) 1 it (.ref D) env) R s)
    (h : wpAny (model P w) A (pyIter it) (fun j s' => codeAny (model P w) A (.compLoop (dc2E kx vx ta ia tb ib fa fb scope pos) 1 j (.ref D) env) R s') FE s) :
    codeAny (model P w) A (.compStart (dc2E kx vx ta ia tb ib fa fb scope pos) 1 it (.ref D) env) R s := by
  refine codeAny_of_tree ?_
  show wpAny _ _ ((compStart (dc2E kx vx ta ia tb ib fa fb scope pos) 1 it (.ref D) env).onRaise (fun x => do noteFrame x env; standAt theWindowsPlace)) _ _ s
  refine wpAny_notedAt ?_
  unfold compStart
  show wpAny _ _ (ask >>= _) _ _ s
  refine wpAny_bind (wpAny_askSetting (wpAny_ite ?_))
  have both : ∀ {E : Value → Shared → Prop}, wpAny (model P w) A (pyIter it) (fun j s' => codeAny (model P w) A (.compLoop (dc2E kx vx ta ia tb ib fa fb scope pos) 1 j (.ref D) env) R s') E s := fun {E} => nofall h
  split
  · first
      | exact wpAny_bind (wpAny_pure (wpAny_pure (And.intro rfl h0)))
      | exact wpAny_pure (And.intro rfl h0)
  · first
      | exact wpAny_bind (wpAny_rule (wpAny_bind (wpAny_standAt (wpAny_bind (wpAny_mono both (fun j s' h' => wpAny_pure (And.intro rfl h')) fun _ _ x => x)))))
      | (refine wpAny_bind (wpAny_rule ?_); show wpAny _ _ (standAt ib.pos >>= _) _ _ s; exact wpAny_bind (wpAny_standAt (wpAny_bind (wpAny_mono both (fun j s' h' => wpAny_pure (And.intro rfl h')) fun _ _ x => x))))
end
end TX

end
/-! TXI -/
section
set_option maxHeartbeats 4000000
namespace TX
open PySem PySem.Spec PyProof.Rows L2 TL
/-- the second clause's loop, from the slots σ; Nx: what it reaches -/
def tDcIn (wb : TI) (gb : TG) (cb : TT) (tk tv : TE) (vb : List Nat) (D : Addr) (Nx : Hp → Prop) (σ : L2.St) (H : Hp) : Prop := wb σ H fun J H4 => ∃ V1 : Nat → Nat → Hp → Prop, (∃ m, V1 0 m H4) ∧ ∀ j k H, V1 j k H →
  (J.stop j H ∧ Nx H) ∨ (J.go j H ∧ ∃ N1 : Hp → Prop, (∀ H', N1 H' → ∃ k', k' < k ∧ V1 (j + 1) k' H') ∧ ∀ x H', J.yld j H x H' → gb x (wipe σ vb) H' fun σ3 H5 => wipe σ3 vb = wipe σ vb ∧ cb σ3 H5 fun b H6 =>
    if b = true then tk σ3 H6 fun y H7 => tv σ3 H7 fun z H8 => ∃ kvs k, y = kV k ∧ H8 D = some (.dK kvs) ∧ kvs.length < sizeLine ∧ N1 (upd H8 D (.dK (putK kvs k z))) else N1 H6)
section
variable {Y : Cx} {kx vx ta ia tb ib : Expr} {fa fb : List Expr} {scope : Scope} {pos : Pos} {wb : TI} {gb : TG} {cb : TT} {tk tv : TE} {vb : List Nat} {D : Addr} {Nx : Hp → Prop} {Fin : Shared → Prop}
theorem runF {α : Type} {t : Sem α} {Q Q' : α → Shared → Prop} {M : Model} {A : Around} {s : Shared} (hxe : ∀ e s, Y.xe e s → False) (h : wpAny M A t Q Y.xe s) (hQ : ∀ a s, Q a s → Q' a s) : wpAny M A t Q' FE s := wpAny_mono h hQ fun e s z => hxe e s z
theorem inner_ok (hc : Y.calm = true) (hxe : ∀ e s, Y.xe e s → False) (pi : PI Y tb ib wb) (pg : PG Y tb gb) (pt : PTs Y fb cb) (pk : PE Y kx tk) (pv : PE Y vx tv) {pins : List (Addr × Obj)} {σ : L2.St} {H : Hp} {s : Shared} (I : Inv Y pins σ H s)
    (h : tDcIn wb gb cb tk tv vb D Nx σ H) (fin : ∀ {s' : Shared} {H' : Hp}, Inv Y pins (wipe σ vb) H' s' → Nx H' → Fin s') :
    wpAny (model Y.prog Y.w) Y.A (eval ib Y.env) (fun x s5 => wpAny (model Y.prog Y.w) Y.A (pyIter x) (fun j s6 => codeAny (model Y.prog Y.w) Y.A (.compStart (dc2E kx vx ta ia tb ib fa fb scope pos) 1 j (.ref D) Y.env) (fun r s' => match r with
      | .ok _ => Fin s'
      | .error _ => False) s6) FE s5) FE s := by
  refine runF hxe (pi.run pins s σ H _ I h) fun xv s1 hx => runF hxe hx fun itv s2 h2 => ?_
  obtain ⟨it, fp, tn, J, H1, rfl, I1, T, st, f1, V1, ⟨m1, v1⟩, turn⟩ := h2
  have here : ∀ {H' : Hp}, (∀ b ∈ fp, H' b = none) → ∀ b ∈ fp, FpOk Y pins H' b := fun hn b hb => ⟨hn b hb, (f1 b hb).2⟩
  have loop : codeAny (model Y.prog Y.w) Y.A (.compLoop (dc2E kx vx ta ia tb ib fa fb scope pos) 1 (.ref it) (.ref D) Y.env) (fun r s' => match r with
      | .ok _ => Fin s'
      | .error _ => False) s2 := by
    refine inner_loop (fun k s' => ∃ j H', Inv Y pins (wipe σ vb) H' s' ∧ tn j s'.heap ∧ (∀ b ∈ fp, H' b = none) ∧ V1 j k H') ?_ m1 ⟨0, H1, I1.weak (wipe_length _ _) (fun j v e => (wipe_some e).1), st, fun b hb => (f1 b hb).1, v1⟩
    rintro k s3 ⟨j, H3, I3, st3, n3, v3⟩
    rcases turn j k H3 v3 with ⟨q1, q2⟩ | ⟨q1, N1, q2, q3⟩
    · refine thnF (T.done Y rfl rfl rfl hc j _ s3 (wipe σ vb) H3 FE I3 (here n3) st3 q1) fun r s4 ⟨hr, I4⟩ => ?_
      subst hr
      exact fin I4 q2
    · refine thnF (T.item Y rfl rfl rfl hc j _ s3 (wipe σ vb) H3 FE I3 (here n3) st3 q1) fun r s4 ⟨u, hr, h4⟩ => ?_
      subst hr
      refine thnF h4 fun _ s5 ⟨x, H5, I5, r5, y5, st5, n5⟩ => ?_
      refine runF hxe (pg.run _ s5 (wipe σ vb) H5 x u _ (I5.pinned (here n5) (T.obj _ _ st5)) r5 (q3 x H5 y5)) fun _ s6 ⟨σ6, H6, I6, hw6, q6⟩ => ?_
      refine runF hxe (pt.run _ s6 σ6 H6 _ I6 q6) fun b s7 ⟨H7, I7, q7⟩ => ?_
      have next : ∀ {s' : Shared} {H' : Hp}, Inv Y (pins ++ pinsAt fp s5.heap) σ6 H' s' → N1 H' → ∃ m, m < k ∧ ∃ j H', Inv Y pins (wipe σ vb) H' s' ∧ tn j s'.heap ∧ (∀ b ∈ fp, H' b = none) ∧ V1 j m H' := fun {s' H'} J' nx => by
        obtain ⟨m', hm, w'⟩ := q2 H' nx
        have stay : ∀ b ∈ fp, ∀ o, s5.heap.get? b = some o → s'.heap.get? b = some o ∧ H' b = none := fun b hb o e =>
          have z := J'.pin (b, o) (List.mem_append_right _ (List.mem_append_right _ (mem_pinsAt hb e)))
          ⟨z.1, z.2.1⟩
        refine ⟨m', hm, j + 1, H', J'.unpinned.weak (by rw [← hw6, wipe_length]) (fun i v e => by rw [← hw6] at e; exact (wipe_some e).1), T.keep _ _ _ st5 fun b hb o e => (stay b hb o e).1, fun b hb => ?_, w'⟩
        obtain ⟨o, e, _⟩ := T.obj _ _ st5 b hb
        exact (stay b hb o e).2
      cases b with
      | false =>
        rw [if_neg (by decide)] at q7 ⊢
        exact next I7 q7
      | true =>
        rw [if_pos rfl] at q7 ⊢
        refine runF hxe (pk.run _ s7 σ6 H7 _ I7 q7) fun kv s8 ⟨yk, H8, I8, r8, q8⟩ => ?_
        refine runF hxe (pv.run _ s8 σ6 H8 _ I8 q8) fun vv s9 ⟨yv, H9, I9, r9, kvs, kk, ek, hD, hz, nx⟩ => ?_
        subst ek
        exact d_dictSet I9 hD hz r8 r9 fun s10 I10 => next I10 nx
  exact inner_start loop (T.self Y.A 0 _ _ _ st loop)
end
/-- {kx: vx for ta in ia if fa for tb in ib if fb} -/
def tDc2 (wa : TI) (ga : TG) (ca : TT) (wb : TI) (gb : TG) (cb : TT) (tk tv : TE) (va vb : List Nat) : TE := fun σ H Q => wa σ H fun J H1 => ∀ D, H1 D = none → ∃ V0 : Nat → Nat → Hp → Prop, (∃ m, V0 0 m (upd H1 D (.dK []))) ∧ ∀ i m H, V0 i m H →
  (J.stop i H ∧ Q (.ref D) H) ∨ (J.go i H ∧ ∃ Nx : Hp → Prop, (∀ H', Nx H' → ∃ m', m' < m ∧ V0 (i + 1) m' H') ∧ ∀ x H', J.yld i H x H' → ga x (wipe σ va) H' fun σ2 H2 => wipe σ2 va = wipe σ va ∧ ca σ2 H2 fun b H3 =>
    if b = true then tDcIn wb gb cb tk tv vb D Nx σ2 H3 else Nx H3)
section
variable {X : Cx} {kx vx ta ia tb ib : Expr} {fa fb : List Expr} {scope : Scope} {own : List (Str × Nat)} {vb : List Nat} {pos : Pos} {wa wb : TI} {ga gb : TG} {ca cb : TT} {tk tv : TE}
theorem dc2_core {pins : List (Addr × Obj)} {s : Shared} {σ : L2.St} {H : Hp} {Q : VK} {pos' : Pos} {use : Option (Value → Sem Unit)} {Qf : Value → Shared → Prop} (I : Inv X pins σ H s) (hc : X.calm = true) (hN : X.N.Nodup) (hi : PI X ta ia wa) (ok : BlkOk X.N X.env.scope scope own) (hv : ∀ i ∈ vb, i ∈ own.map (·.2))
    (hga : ∀ (s : Shared) (H : Hp) (C : Addr) (cl : List (Str × Addr)) (fp : List Addr), PG (X.blk s H scope (compEnvC scope cl C X.env) fp) ta ga)
    (hfa : ∀ (s : Shared) (H : Hp) (C : Addr) (cl : List (Str × Addr)) (fp : List Addr), PTs (X.blk s H scope (compEnvC scope cl C X.env) fp) fa ca)
    (hib : ∀ (s : Shared) (H : Hp) (C : Addr) (cl : List (Str × Addr)) (fp : List Addr), PI (X.blk s H scope (compEnvC scope cl C X.env) fp) tb ib wb)
    (hgb : ∀ (s : Shared) (H : Hp) (C : Addr) (cl : List (Str × Addr)) (fp : List Addr), PG (X.blk s H scope (compEnvC scope cl C X.env) fp) tb gb)
    (hfb : ∀ (s : Shared) (H : Hp) (C : Addr) (cl : List (Str × Addr)) (fp : List Addr), PTs (X.blk s H scope (compEnvC scope cl C X.env) fp) fb cb)
    (hk : ∀ (s : Shared) (H : Hp) (C : Addr) (cl : List (Str × Addr)) (fp : List Addr), PE (X.blk s H scope (compEnvC scope cl C X.env) fp) kx tk)
    (hx : ∀ (s : Shared) (H : Hp) (C : Addr) (cl : List (Str × Addr)) (fp : List Addr), PE (X.blk s H scope (compEnvC scope cl C X.env) fp) vx tv)
    (hs : ∀ x, foldedSetIterable ia X.env x = pure x) (hs1 : ∀ env x, foldedSetIterable ib env x = pure x) (h : tDc2 wa ga ca wb gb cb tk tv (own.map (·.2)) vb σ H Q)
    (done : ∀ D C s' m H', Inv X pins σ H' s' → Q (.ref D) H' → s'.heap.Ns C m → FpOk X pins H' C → compPost (model X.prog X.w) X.A X.xe use Qf (.ref D) C (.ok .next) s') :
    wpAny (model X.prog X.w) X.A (comprehension (dc2E kx vx ta ia tb ib fa fb scope pos) scope X.env pos' newDict false (eval ia X.env) use) Qf X.xe s := by
  have clo : ∀ y ∈ scope.names, y.2 = .free → ∃ c, X.env.cells.lookup y.1 = some c := fun y hy e => (ok.free y hy e).elim (fun k => I.ok.has _ (.inl k)) fun k => I.ok.has _ (.inr k)
  refine wpAny_comprehension_free (use := use) rfl hs (closure_ok clo) ok.kind (fun y hy e => by rw [ok.uniq y hy, e]) (thn (hi.run pins s σ H _ I h) fun xv s1 hx1 => thn hx1 fun itv s2 h2 => ?_)
  obtain ⟨it, fp, tn, J, H2, rfl, I2, T, st2, f2, q⟩ := h2
  refine wpAny_newObj_type (newEnv_comp ?_)
  generalize hD : s2.heap.objs.size = D
  obtain ⟨V0, ⟨m0, v0⟩, turn⟩ := q D (I2.hok.fresh (Nat.le_of_eq hD))
  generalize hs3 : ({ s2 with heap := s2.heap.push { cls := .type "dict", data := .dict #[] } } : Shared) = s3
  have h3 : s3.heap = s2.heap.push { cls := .type "dict", data := .dict #[] } := by rw [← hs3]
  have I3 : Inv X pins σ (upd H2 D (.dK [])) s3 := by
    rw [← hs3]
    refine I2.laid (t' := s2.toks) (fun b o e => Heap.get?_push_of_some _ e) (Nat.le_of_eq hD) ?_
    rw [← hD]
    exact dk_empty s2.heap I2.big
  have f3 : ∀ b ∈ fp, FpOk X pins (upd H2 D (.dK [])) b ∧ b < s3.heap.objs.size := fun b hb => by
    obtain ⟨o, e, _⟩ := T.obj _ _ st2 b hb
    have hlt : b < s2.heap.objs.size := Heap.lt_size e
    refine ⟨⟨?_, (f2 b hb).2⟩, by rw [h3, Heap.size_push]; exact Nat.lt_succ_of_lt hlt⟩
    rw [upd_ne (by rw [← hD]; exact Nat.ne_of_lt hlt)]
    exact (f2 b hb).1
  have I4 := block_start I3 ok hN f3
  generalize hcl : cellsFrom (s3.heap.objs.size + 1) scope.names (cloFrom X.env.cells scope.names []) = cl at I4
  generalize hH3 : upd H2 D (.dK []) = H3 at I3 I4 v0 f3
  let Y : Cx := X.blk s3 H3 scope (compEnvC scope cl s3.heap.objs.size X.env) fp
  have I4 : Inv Y [] (wipe σ (own.map (·.2))) H3 _ := I4
  show codeAny _ _ (.compStart (dc2E kx vx ta ia tb ib fa fb scope pos) 0 (.ref it) (.ref D) Y.env) _ _
  generalize hs4 : ({ s3 with heap := pushCells (s3.heap.push { cls := .type "dict", data := .dict #[] }) scope.names } : Shared) = s4 at I4 ⊢
  have st4 : tn 0 s4.heap := T.keep _ _ _ st2 fun b _ o e => by
    rw [← hs4]
    refine pushCells_keeps _ _ _ _ (Heap.get?_push_of_some _ ?_)
    rw [h3]
    exact Heap.get?_push_of_some _ e
  have here : ∀ {σ' : L2.St} {H' : Hp} {s' : Shared}, Inv Y [] σ' H' s' → (∀ b ∈ fp, H' b = none) → ∀ b ∈ fp, FpOk Y [] H' b := fun {σ' H' s'} I' hn b hb =>
    ⟨hn b hb, (I'.ok.exf b hb).1, I'.ok.exfs b hb, .inl hb, fun x c e => (I'.ok.exf b hb).2 x c e, fun p hp => absurd (show p ∈ ([] : List (Addr × Obj)) ++ [] from hp) (by simp)⟩
  have loop : codeAny (model X.prog X.w) X.A (.compLoop (dc2E kx vx ta ia tb ib fa fb scope pos) 0 (.ref it) (.ref D) Y.env) (compPost (model X.prog X.w) X.A X.xe use Qf (.ref D) s3.heap.objs.size) s4 := by
    refine outer_loop (hs1 Y.env) (fun n s' => ∃ i H', Inv Y [] (wipe σ (own.map (·.2))) H' s' ∧ tn i s'.heap ∧ (∀ b ∈ fp, H' b = none) ∧ V0 i n H') ?_ m0 ⟨0, H3, I4, st4, fun b hb => (f3 b hb).1.1, v0⟩
    rintro n s5 ⟨i, H5, I5, st5, n5, v5⟩
    rcases turn i n H5 v5 with ⟨q1, qq⟩ | ⟨q1, Nx, q2, q3⟩
    · refine thnF (T.done Y rfl rfl rfl hc i [] s5 _ H5 FE I5 (here I5 n5) st5 q1) fun r s6 ⟨hr, I6⟩ => ?_
      subst hr
      have I7 : Inv X pins σ H5 s6 := I3.call' (ch := fp) I6.os I6.base I6.hok I6.bare fun b hb => ⟨(f3 b hb).1.2.2.2.1, (f3 b hb).1.2.1, (f3 b hb).1.2.2.2.2.1, (f3 b hb).1.2.2.2.2.2⟩
      have nC : H5 s3.heap.objs.size = none := I6.free
      obtain ⟨m, hn, _⟩ := I6.loc
      exact done D s3.heap.objs.size s6 m H5 I7 qq hn (I3.fpOk (Nat.le_refl _) nC)
    · refine thnF (T.item Y rfl rfl rfl hc i [] s5 _ H5 FE I5 (here I5 n5) st5 q1) fun r s6 ⟨u, hr, h6⟩ => ?_
      subst hr
      refine thnF h6 fun _ s7 ⟨x, H7, I7, r7, y7, st7, n7⟩ => ?_
      refine thnF ((hga s3 H3 s3.heap.objs.size cl fp).run _ s7 _ H7 x u _ (I7.pinned (here I7 n7) (T.obj _ _ st7)) r7 (q3 x H7 y7)) fun _ s8 ⟨σ8, H8, I8, hw8, q8⟩ => ?_
      refine thnF ((hfa s3 H3 s3.heap.objs.size cl fp).run _ s8 σ8 H8 _ I8 q8) fun b s9 ⟨H9, I9, q9⟩ => ?_
      have next : ∀ {σ9 : L2.St} {s' : Shared} {H' : Hp}, Inv Y ([] ++ pinsAt fp s7.heap) σ9 H' s' → (wipe σ (own.map (·.2))).length = σ9.length → (∀ (j : Nat) v, (wipe σ (own.map (·.2)))[j]? = some (some v) → σ9[j]? = some (some v)) → Nx H' →
          ∃ m, m < n ∧ ∃ i H', Inv Y [] (wipe σ (own.map (·.2))) H' s' ∧ tn i s'.heap ∧ (∀ b ∈ fp, H' b = none) ∧ V0 i m H' := fun {σ9 s' H'} J' e1 e2 nx => by
        obtain ⟨m', hm, w'⟩ := q2 H' nx
        have stay : ∀ b ∈ fp, ∀ o, s7.heap.get? b = some o → s'.heap.get? b = some o ∧ H' b = none := fun b hb o e =>
          have z := J'.pin (b, o) (List.mem_append_right _ (List.mem_append_right _ (mem_pinsAt hb e)))
          ⟨z.1, z.2.1⟩
        refine ⟨m', hm, i + 1, H', (J'.unpinned (pins := [])).weak e1 e2, T.keep _ _ _ st7 fun b hb o e => (stay b hb o e).1, fun b hb => ?_, w'⟩
        obtain ⟨o, e, _⟩ := T.obj _ _ st7 b hb
        exact (stay b hb o e).2
      have hl8 : (wipe σ (own.map (·.2))).length = σ8.length := by rw [← hw8, wipe_length]
      cases b with
      | false =>
        rw [if_neg (by decide)] at q9 ⊢
        exact next I9 hl8 (fun j v e => by rw [← hw8] at e; exact (wipe_some e).1) q9
      | true =>
        rw [if_pos rfl] at q9 ⊢
        exact inner_ok (Y := Y) hc (fun _ _ z => z) (hib s3 H3 s3.heap.objs.size cl fp) (hgb s3 H3 s3.heap.objs.size cl fp) (hfb s3 H3 s3.heap.objs.size cl fp) (hk s3 H3 s3.heap.objs.size cl fp) (hx s3 H3 s3.heap.objs.size cl fp) I9 q9
          fun {s' H'} J' nx => next J' (hl8.trans (wipe_length σ8 vb).symm) (fun j v e => by
            rw [← hw8] at e
            obtain ⟨e1, e2⟩ := wipe_some e
            rw [L2.wipe_out fun z => e2 (hv j z)]
            exact e1) nx
  exact codeAny_compStart_dict loop (T.self X.A 0 _ _ _ st4 loop)
theorem pe_dc2 (hc : X.calm = true) (hN : X.N.Nodup) (hi : PI X ta ia wa) (ok : BlkOk X.N X.env.scope scope own) (hv : ∀ i ∈ vb, i ∈ own.map (·.2))
    (hga : ∀ (s : Shared) (H : Hp) (C : Addr) (cl : List (Str × Addr)) (fp : List Addr), PG (X.blk s H scope (compEnvC scope cl C X.env) fp) ta ga)
    (hfa : ∀ (s : Shared) (H : Hp) (C : Addr) (cl : List (Str × Addr)) (fp : List Addr), PTs (X.blk s H scope (compEnvC scope cl C X.env) fp) fa ca)
    (hib : ∀ (s : Shared) (H : Hp) (C : Addr) (cl : List (Str × Addr)) (fp : List Addr), PI (X.blk s H scope (compEnvC scope cl C X.env) fp) tb ib wb)
    (hgb : ∀ (s : Shared) (H : Hp) (C : Addr) (cl : List (Str × Addr)) (fp : List Addr), PG (X.blk s H scope (compEnvC scope cl C X.env) fp) tb gb)
    (hfb : ∀ (s : Shared) (H : Hp) (C : Addr) (cl : List (Str × Addr)) (fp : List Addr), PTs (X.blk s H scope (compEnvC scope cl C X.env) fp) fb cb)
    (hk : ∀ (s : Shared) (H : Hp) (C : Addr) (cl : List (Str × Addr)) (fp : List Addr), PE (X.blk s H scope (compEnvC scope cl C X.env) fp) kx tk)
    (hx : ∀ (s : Shared) (H : Hp) (C : Addr) (cl : List (Str × Addr)) (fp : List Addr), PE (X.blk s H scope (compEnvC scope cl C X.env) fp) vx tv)
    (hs : ∀ x, foldedSetIterable ia X.env x = pure x := by intro _; rfl) (hs1 : ∀ env x, foldedSetIterable ib env x = pure x := by intro _ _; rfl) :
    PE X (dc2E kx vx ta ia tb ib fa fb scope pos) (tDc2 wa ga ca wb gb cb tk tv (own.map (·.2)) vb) := by
  refine ⟨fun pins s σ H Q I h => ?_⟩
  rw [arm_eval_DictComp]
  refine dc2_core I hc hN hi ok hv hga hfa hib hgb hfb hk hx hs hs1 h fun D C s' m H' I' q hn f => ⟨m, hn, fun h'' sb => ?_⟩
  obtain ⟨g0, g1, g2, g3, g4, g5⟩ := f
  exact ⟨.ref D, H', I'.turned (t' := s'.toks) (fun b o hb e => (sb.2 b hb).trans e) g0 g1 g3 g4 g5, rfl, q⟩
theorem ps_dc2 {i : Nat} {nm : Str} {pn sp : Pos} (hc : X.calm = true) (hN : X.N.Nodup) (at_ : X.N[i]? = some nm) (loc : X.env.scope.names.lookup nm = some .local) (sw : swapsWith (dc2E kx vx ta ia tb ib fa fb scope pos) (some (.Name nm pn)) sp.line X.env = pure true) (hi : PI X ta ia wa) (ok : BlkOk X.N X.env.scope scope own) (hv : ∀ i ∈ vb, i ∈ own.map (·.2))
    (hga : ∀ (s : Shared) (H : Hp) (C : Addr) (cl : List (Str × Addr)) (fp : List Addr), PG (X.blk s H scope (compEnvC scope cl C X.env) fp) ta ga)
    (hfa : ∀ (s : Shared) (H : Hp) (C : Addr) (cl : List (Str × Addr)) (fp : List Addr), PTs (X.blk s H scope (compEnvC scope cl C X.env) fp) fa ca)
    (hib : ∀ (s : Shared) (H : Hp) (C : Addr) (cl : List (Str × Addr)) (fp : List Addr), PI (X.blk s H scope (compEnvC scope cl C X.env) fp) tb ib wb)
    (hgb : ∀ (s : Shared) (H : Hp) (C : Addr) (cl : List (Str × Addr)) (fp : List Addr), PG (X.blk s H scope (compEnvC scope cl C X.env) fp) tb gb)
    (hfb : ∀ (s : Shared) (H : Hp) (C : Addr) (cl : List (Str × Addr)) (fp : List Addr), PTs (X.blk s H scope (compEnvC scope cl C X.env) fp) fb cb)
    (hk : ∀ (s : Shared) (H : Hp) (C : Addr) (cl : List (Str × Addr)) (fp : List Addr), PE (X.blk s H scope (compEnvC scope cl C X.env) fp) kx tk)
    (hx : ∀ (s : Shared) (H : Hp) (C : Addr) (cl : List (Str × Addr)) (fp : List Addr), PE (X.blk s H scope (compEnvC scope cl C X.env) fp) vx tv)
    (hs : ∀ x, foldedSetIterable ia X.env x = pure x) (hs1 : ∀ env x, foldedSetIterable ib env x = pure x) :
    PS X (.Assign [.Name nm pn] (dc2E kx vx ta ia tb ib fa fb scope pos) sp) (tAsg (tDc2 wa ga ca wb gb cb tk tv (own.map (·.2)) vb) (gName i)) := by
  refine ⟨fun pins t σ H E inv hq => ?_⟩
  have used := exec_Assign_Name_used _ _ _ _ sw
  rw [used]
  refine wpAny_bind (wpAny_standAt ?_)
  refine wpAny_bind ?_
  show wpAny _ X.A (do let _ ← comprehension (dc2E kx vx ta ia tb ib fa fb scope pos) scope X.env (firstIterPos [⟨ta, ia, fa, 0⟩, ⟨tb, ib, fb, 0⟩] pos) newDict false (eval ia X.env) (some (assign (.Name nm pn) X.env))) _ _ t
  have hq' : tDc2 wa ga ca wb gb cb tk tv (own.map (·.2)) vb σ H (fun v H1 => gName i v σ H1 E.nx) := hq
  refine wpAny_bind (thn (dc2_core (Qf := fun _ t' => SP X pins E .next t') inv hc hN hi ok hv hga hfa hib hgb hfb hk hx hs hs1 hq' fun D C t1 m H' inv1 q ns fp => ?_) fun _ t' hz => wpAny_pure (wpAny_pure hz))
  show wpAny _ _ (assign (.Name nm pn) X.env (.ref D)) _ _ _
  refine wpAny_assign_Name (store_ok2 (v := V.ref D) inv1 hN at_ (.inl loc) rfl (fun t2 inv2 ⟨a, sb, ha⟩ => ?_) (.inr loc))
  obtain ⟨c0, c1, c2, c3, c4, c5⟩ := fp
  have ne : C ≠ a := by
    rcases ha with z | z
    · exact fun w => c1 (w.trans z)
    · exact fun w => c4 nm a z w.symm
  refine ⟨m, ns.sameBut sb ne, fun h9 sb9 => ⟨_, H', inv2.turned (t' := t2.toks) (fun b o hb w => (sb9.2 b hb).trans w) c0 c1 c3 c4 c5, q⟩⟩
end
end TX

end
/-! TXJ -/
section
set_option maxHeartbeats 4000000
namespace TX
open PySem PySem.Spec PyProof.Rows L2 TL
def dcLoop2 (h : Eh) (t : Et) (fi : Eas) (own1 : List Nat) (h1 : Eh) (t1 : Et) (fk fv : Ev) (r : Rs) : List PyData → Ms → List (PyData × PyData) → Option (List (PyData × PyData) × Ms)
  | [], m, acc => some (acc, m)
  | d :: ds, m, acc => (h d r).bind fun r2 => (t r2 m).bind fun b => if b.1 = true then (fi r2 b.2).bind fun p => (dcLoop h1 t1 fk fv (wipeR r2 own1) p.1 p.2 acc).bind fun q => dcLoop2 h t fi own1 h1 t1 fk fv r ds q.2 q.1 else dcLoop2 h t fi own1 h1 t1 fk fv r ds b.2 acc
def eDc2 (fi : Eas) (own : List Nat) (h : Eh) (t : Et) (fi1 : Eas) (own1 : List Nat) (h1 : Eh) (t1 : Et) (fk fv : Ev) : Ev := fun r m => (fi r m).bind fun p => (dcLoop2 h t fi1 own1 h1 t1 fk fv (wipeR r own) p.1 p.2 []).map fun q => (.dict q.1, q.2)
/-- the inner walk: the dict at D is there -/
theorem dc_part {K : PySem.W.Frag} {U : Hp} {A : List Addr} {F1 H1 : Hp} {σ : L2.St} {r : Rs} {m1 m9 : Ms} {ds : List PyData} {acc0 res : List (PyData × PyData)} {ks0 : List (Key × V)} {J : It} {D : Addr} {vb : List Nat} {is : List Nat} {h : Eh} {t : Et} {fk fv : Ev} {Nx : Hp → Prop} (his : ∀ j ∈ is, j ∈ vb)
    (G1 : Good K U A F1 H1 σ r m1) (W1 : Wk K U J F1 ds) (nF : F1 D = none) (nU : U D = none) (nA : D ∉ A) (hD : H1 D = some (.dK ks0)) (hr : RpKv K F1 ks0 acc0) (e2 : dcLoop h t fk fv (wipeR r vb) ds m1 acc0 = some (res, m9))
    (k : ∀ (F' H' : Hp) (ks : List (Key × V)), Same F1 F' → Good K U A F' H' σ r m9 → F' D = none → H' D = some (.dK ks) → RpKv K F' ks res → Nx H') :
    ∃ V1 : Nat → Nat → Hp → Prop, (∃ m, V1 0 m H1) ∧ ∀ j k H, V1 j k H →
      (J.stop j H ∧ Nx H) ∨ (J.go j H ∧ ∃ N1 : Hp → Prop, (∀ H', N1 H' → ∃ k', k' < k ∧ V1 (j + 1) k' H') ∧ ∀ x H', J.yld j H x H' → (tGX K is h) x (wipe σ vb) H' fun σ3 H5 => wipe σ3 vb = wipe σ vb ∧ (tTX K t) σ3 H5 fun b H6 =>
        if b = true then (tEX K fk) σ3 H6 fun y H7 => (tEX K fv) σ3 H7 fun z H8 => ∃ kvs k, y = kV k ∧ H8 D = some (.dK kvs) ∧ kvs.length < sizeLine ∧ N1 (upd H8 D (.dK (putK kvs k z))) else N1 H6) := by
  refine ⟨fun i mm H2 => mm = ds.length - i ∧ i ≤ ds.length ∧ ∃ (F2 : Hp) (m2 : Ms) (ks : List (Key × V)) (acc : List (PyData × PyData)), Same F1 F2 ∧ Good K U A F2 H2 σ r m2 ∧ H2 D = some (.dK ks) ∧ F2 D = none ∧ RpKv K F2 ks acc ∧
    dcLoop h t fk fv (wipeR r vb) (ds.drop i) m2 acc = some (res, m9), ⟨ds.length, by simp, Nat.zero_le _, F1, m1, ks0, acc0, Same.refl F1, G1, hD, nF, hr, by rw [List.drop_zero]; exact e2⟩, ?_⟩
  rintro i mm H2 ⟨rfl, hi2, F2, m2, ks, acc, hF, G2, hD2, hF2, hr2, e3⟩
  by_cases hlt : i < ds.length
  · rw [List.drop_eq_getElem_cons hlt] at e3
    unfold dcLoop at e3
    obtain ⟨r3, e4, e3⟩ := Option.bind_eq_some_iff.mp e3
    obtain ⟨⟨b, m5⟩, e5, e3⟩ := Option.bind_eq_some_iff.mp e3
    have GW := (G2.hold hD2 hF2 nA).wiped vb
    have sU : Same U (upd U D (.dK ks)) := same_new nU
    obtain ⟨w1, w2⟩ := W1.go _ A _ _ m2 F2 H2 i ds[i] sU hF GW (List.getElem?_eq_getElem hlt)
    have back : ∀ {F' H' : Hp} {σ' : L2.St} {r' : Rs} {m' : Ms}, Same F2 F' → Good K (upd U D (.dK ks)) A F' H' σ' r' m' → Good K U A F' H' σ r m' := fun {F' H' σ' r' m'} s G' => G2.mix G' s sU
    refine .inr ⟨w1, fun H' => ∃ (F' : Hp) (m' : Ms) (ks' : List (Key × V)) (acc' : List (PyData × PyData)), Same F1 F' ∧ Good K U A F' H' σ r m' ∧ H' D = some (.dK ks') ∧ F' D = none ∧ RpKv K F' ks' acc' ∧
      dcLoop h t fk fv (wipeR r vb) (ds.drop (i + 1)) m' acc' = some (res, m9), fun H' w => ⟨ds.length - (i + 1), by omega, rfl, hlt, w⟩, fun x H3 hy => ?_⟩
    obtain ⟨F3, s3, G3, h3⟩ := w2 x H3 hy
    refine ⟨upd U D (.dK ks), A, F3, _, m2, ds[i], r3, G3, h3, e4, fun σ4 G4 k4 l4 => ⟨(wipe_eq l4 fun j hj => k4 j fun z => hj (his j z)).trans wipe_twice, ?_⟩⟩
    refine ⟨upd U D (.dK ks), A, F3, r3, m2, b, m5, G4, e5, fun F5 H5 s5 G5 => ?_⟩
    have fo5 := G5.fo D _ upd_same
    cases b with
    | false => exact iteF ⟨F5, m5, ks, acc, hF.trans (s3.trans s5), back (s3.trans s5) G5, fo5.1, fo5.2, Rpkm (s3.trans s5) hr2, e3⟩
    | true =>
      refine iteT ?_
      rw [if_pos rfl] at e3
      obtain ⟨⟨c6, m6⟩, e6, e3⟩ := Option.bind_eq_some_iff.mp e3
      obtain ⟨⟨d7, m7⟩, e7, e3⟩ := Option.bind_eq_some_iff.mp e3
      obtain ⟨ke, e8, e3⟩ := Option.bind_eq_some_iff.mp e3
      split at e3
      · rename_i hz
        refine ⟨upd U D (.dK ks), A, F5, r3, m5, c6, m6, G5, e6, fun F6 H6 y s6 G6 h6 => ⟨upd U D (.dK ks), A, F6, r3, m6, d7, m7, G6, e7, fun F7 H7 z s7 G7 h7 => ?_⟩⟩
        have fo7 := G7.fo D _ upd_same
        have s27 : Same F2 F7 := s3.trans (s5.trans (s6.trans s7))
        exact ⟨ks, ke, key_kV h6 e8, fo7.1, by rw [rpk_len hr2]; exact hz, F7, m7, _, _, hF.trans s27, (back s27 G7).relay fo7.2 nU nA, upd_same, fo7.2, rpk_put (Rpkm s27 hr2) h7, e3⟩
      · cases e3
  · have ei : i = ds.length := by omega
    subst ei
    rw [List.drop_length] at e3
    cases e3
    exact .inl ⟨W1.stop F2 H2 (fun b o e => (G2.fo b o e).1) hF G2.sub, k F2 H2 ks hF G2 hF2 hD2 hr2⟩
section
variable {X : Cx} {U : Hp} {kx vx ta ia tb ib : Expr} {fa fb : List Expr} {scope : Scope} {own : List (Str × Nat)} {own1 : List Nat} {pos : Pos} {is is1 : List Nat} {fi fi1 : Eas} {h h1 : Eh} {t t1 : Et} {fk fv : Ev}
theorem dc2_read (his : ∀ j ∈ is, j ∈ own.map (·.2)) (his1 : ∀ j ∈ is1, j ∈ own1) {σ : L2.St} {H : Hp} {Q : VK} (hq : tN X.K U (eDc2 fi (own.map (·.2)) h t fi1 own1 h1 t1 fk fv) σ H Q) :
    tDc2 (tIt X.K U fi) (tGX X.K is h) (tTX X.K t) (tIX X.K fi1) (tGX X.K is1 h1) (tTX X.K t1) (tEX X.K fk) (tEX X.K fv) (own.map (·.2)) own1 σ H Q := by
  obtain ⟨A, F, r, m, d, m', G, e, k⟩ := hq
  unfold eDc2 at e
  obtain ⟨⟨ds, m1⟩, e1, e⟩ := Option.bind_eq_some_iff.mp e
  obtain ⟨⟨res, m9⟩, e2, e⟩ := Option.map_eq_some_iff.mp e
  cases e
  refine ⟨A, F, r, m, ds, m1, G, e1, fun F1 H1 J s1 G1 W1 => ?_⟩
  intro D nD
  have nA : D ∉ A := G1.notin nD
  have nU : U D = none := (G1.nope nD).2
  refine ⟨fun i mm H2 => mm = ds.length - i ∧ i ≤ ds.length ∧ ∃ (F2 : Hp) (m2 : Ms) (ks : List (Key × V)) (acc : List (PyData × PyData)), Same F1 F2 ∧ Good X.K U A F2 H2 σ r m2 ∧ H2 D = some (.dK ks) ∧ F2 D = none ∧ RpKv X.K F2 ks acc ∧
    dcLoop2 h t fi1 own1 h1 t1 fk fv (wipeR r (own.map (·.2))) (ds.drop i) m2 acc = some (res, m9), ⟨ds.length, by simp, Nat.zero_le _, F1, m1, [], [], Same.refl F1, G1.laidO nD, upd_same, (G1.nope nD).1, .nil, by rw [List.drop_zero]; exact e2⟩, ?_⟩
  rintro i mm H2 ⟨rfl, hi2, F2, m2, ks, acc, hF, G2, hD2, hF2, hr2, e3⟩
  by_cases hlt : i < ds.length
  · rw [List.drop_eq_getElem_cons hlt] at e3
    unfold dcLoop2 at e3
    obtain ⟨r3, e4, e3⟩ := Option.bind_eq_some_iff.mp e3
    obtain ⟨⟨b, m5⟩, e5, e3⟩ := Option.bind_eq_some_iff.mp e3
    have GW := (G2.hold hD2 hF2 nA).wiped (own.map (·.2))
    have sU : Same U (upd U D (.dK ks)) := same_new nU
    obtain ⟨w1, w2⟩ := W1.go _ A _ _ m2 F2 H2 i ds[i] sU hF GW (List.getElem?_eq_getElem hlt)
    refine .inr ⟨w1, fun H' => ∃ (F' : Hp) (m' : Ms) (ks' : List (Key × V)) (acc' : List (PyData × PyData)), Same F1 F' ∧ Good X.K U A F' H' σ r m' ∧ H' D = some (.dK ks') ∧ F' D = none ∧ RpKv X.K F' ks' acc' ∧
      dcLoop2 h t fi1 own1 h1 t1 fk fv (wipeR r (own.map (·.2))) (ds.drop (i + 1)) m' acc' = some (res, m9), fun H' w => ⟨ds.length - (i + 1), by omega, rfl, hlt, w⟩, fun x H3 hy => ?_⟩
    obtain ⟨F3, s3, G3, h3⟩ := w2 x H3 hy
    refine ⟨upd U D (.dK ks), A, F3, _, m2, ds[i], r3, G3, h3, e4, fun σ4 G4 k4 l4 => ⟨(wipe_eq l4 fun j hj => k4 j fun z => hj (his j z)).trans wipe_twice, ?_⟩⟩
    refine ⟨upd U D (.dK ks), A, F3, r3, m2, b, m5, G4, e5, fun F5 H5 s5 G5 => ?_⟩
    cases b with
    | false =>
      have fo5 := G5.fo D _ upd_same
      exact iteF ⟨F5, m5, ks, acc, hF.trans (s3.trans s5), G2.mix G5 (s3.trans s5) sU, fo5.1, fo5.2, Rpkm (s3.trans s5) hr2, e3⟩
    | true =>
      refine iteT ?_
      rw [if_pos rfl] at e3
      obtain ⟨⟨ds6, m6⟩, e6, e3⟩ := Option.bind_eq_some_iff.mp e3
      obtain ⟨⟨acc7, m7⟩, e7, e3⟩ := Option.bind_eq_some_iff.mp e3
      refine ⟨upd U D (.dK ks), A, F5, r3, m5, ds6, m6, G5, e6, fun F6 H6 J1 s6 G6 W6 => ?_⟩
      have fo6 := G6.fo D _ upd_same
      have s26 : Same F2 F6 := s3.trans (s5.trans s6)
      exact dc_part his1 (G6.unhold nU) (W6 U) fo6.2 nU nA fo6.1 (Rpkm s26 hr2) e7 fun F8 H8 ks8 s8 G8 n8 h8 r8 => ⟨F8, m7, ks8, acc7, hF.trans (s26.trans s8), G2.mix G8 (s26.trans s8) (fun b o q => q), h8, n8, r8, e3⟩
  · have ei : i = ds.length := by omega
    subst ei
    rw [List.drop_length] at e3
    cases e3
    exact .inl ⟨W1.stop F2 H2 (fun b o e => (G2.fo b o e).1) hF G2.sub, k F2 H2 D _ (s1.trans hF) G2 hF2 nU nA hD2 ⟨ks, rfl, hr2⟩⟩
theorem qs_setDc2 {n0 i : Nat} {nm : Str} {pn sp : Pos} (hc : X.calm = true) (nd : X.N.Nodup) (at_ : X.N[i]? = some nm) (loc : X.env.scope.names.lookup nm = some .local) (sw : swapsWith (dc2E kx vx ta ia tb ib fa fb scope pos) (some (.Name nm pn)) sp.line X.env = pure true)
    (hi : PI X ta ia (tIt X.K U fi)) (ok : BlkOk X.N X.env.scope scope own) (hv : ∀ i ∈ own1, i ∈ own.map (·.2)) (his : ∀ j ∈ is, j ∈ own.map (·.2)) (his1 : ∀ j ∈ is1, j ∈ own1)
    (hg : ∀ (U : Hp) (s : Shared) (H : Hp) (C : Addr) (cl : List (Str × Addr)) (fp : List Addr), PG (X.blk s H scope (compEnvC scope cl C X.env) fp) ta (tG X.K U is h))
    (ht : ∀ (U : Hp) (s : Shared) (H : Hp) (C : Addr) (cl : List (Str × Addr)) (fp : List Addr), PTs (X.blk s H scope (compEnvC scope cl C X.env) fp) fa (tT X.K U t))
    (hi1 : ∀ (U : Hp) (s : Shared) (H : Hp) (C : Addr) (cl : List (Str × Addr)) (fp : List Addr), PI (X.blk s H scope (compEnvC scope cl C X.env) fp) tb ib (tIf X.K U fi1))
    (hg1 : ∀ (U : Hp) (s : Shared) (H : Hp) (C : Addr) (cl : List (Str × Addr)) (fp : List Addr), PG (X.blk s H scope (compEnvC scope cl C X.env) fp) tb (tG X.K U is1 h1))
    (ht1 : ∀ (U : Hp) (s : Shared) (H : Hp) (C : Addr) (cl : List (Str × Addr)) (fp : List Addr), PTs (X.blk s H scope (compEnvC scope cl C X.env) fp) fb (tT X.K U t1))
    (hk : ∀ (U : Hp) (s : Shared) (H : Hp) (C : Addr) (cl : List (Str × Addr)) (fp : List Addr), PE (X.blk s H scope (compEnvC scope cl C X.env) fp) kx (tE X.K U fk))
    (hx : ∀ (U : Hp) (s : Shared) (H : Hp) (C : Addr) (cl : List (Str × Addr)) (fp : List Addr), PE (X.blk s H scope (compEnvC scope cl C X.env) fp) vx (tE X.K U fv))
    (hs : ∀ x, foldedSetIterable ia X.env x = pure x := by intro _; rfl) (hs1 : ∀ env x, foldedSetIterable ib env x = pure x := by intro _ _; rfl) :
    PS X (.Assign [.Name nm pn] (dc2E kx vx ta ia tb ib fa fb scope pos) sp) (tS X.K U n0 (sSetF i (eDc2 fi (own.map (·.2)) h t fi1 own1 h1 t1 fk fv))) := by
  refine ps_weak (ps_dc2 (ga := tGX X.K is h) (ca := tTX X.K t) (wb := tIX X.K fi1) (gb := tGX X.K is1 h1) (cb := tTX X.K t1) (tk := tEX X.K fk) (tv := tEX X.K fv) hc nd at_ loc sw hi ok hv (fun s H C cl fp => pg_all fun U => hg U s H C cl fp) (fun s H C cl fp => pts_all fun U => ht U s H C cl fp)
    (fun s H C cl fp => pi_all fun U => hi1 U s H C cl fp) (fun s H C cl fp => pg_all fun U => hg1 U s H C cl fp) (fun s H C cl fp => pts_all fun U => ht1 U s H C cl fp) (fun s H C cl fp => pe_all fun U => hk U s H C cl fp) (fun s H C cl fp => pe_all fun U => hx U s H C cl fp) hs hs1) fun D σ H ⟨A, F, r, m, o, G, hn, e, p⟩ => ?_
  unfold sSetF at e
  obtain ⟨q, e1, e2⟩ := Option.map_eq_some_iff.mp e
  cases e2
  exact dc2_read his his1 ⟨A, F, r, m, q.1, q.2, G, e1, fun F1 H1 a u s1 G1 q1 q2 q3 q4 q5 => p (A ++ [a]) F1 H1 _ (List.prefix_append A [a]) s1 (G1.setOw q1 q2 q3 q4 q5)⟩
end
end TX

end
/-! TXK -/
section
set_option maxHeartbeats 4000000
namespace TX
open PySem PySem.Spec PyProof.Rows L2 TL
/-- items of a value, as the second clause's source -/
theorem qi_itsF {X : Cx} {U : Hp} {tg e : Expr} {f : Ev} (he : PE X e (tE X.K U f)) : PI X tg e (tIf X.K U (eIts f)) := by
  refine ⟨fun pins s σ H R I ⟨A, F, r, m, ds, m', G, e0, k⟩ => ?_⟩
  unfold eIts at e0
  obtain ⟨⟨d, m1⟩, e1, e2⟩ := Option.bind_eq_some_iff.mp e0
  obtain ⟨ds1, e3, e4⟩ := Option.map_eq_some_iff.mp e2
  cases e4
  cases d with
  | list es =>
    cases e3
    refine (pi_list he).run pins s σ H R I ⟨A, F, r, m, _, _, G, e1, fun F1 H1 v s1 G1 h1 => ?_⟩
    cases h1 with
    | vl sa ra => exact ⟨_, rfl, ⟨_, (sqL_mono G1.sub sa)⟩, k F1 H1 _ s1 G1 fun Z => wk_list sa ra⟩
  | tuple es =>
    cases e3
    refine (pi_tup he).run pins s σ H R I ⟨A, F, r, m, _, _, G, e1, fun F1 H1 v s1 G1 h1 => ?_⟩
    cases h1 with
    | vt sa ra => exact ⟨_, rfl, ⟨_, seqT_mono G1.sub sa⟩, k F1 H1 _ s1 G1 fun Z => wk_tup sa ra⟩
  | str x =>
    cases e3
    refine (pi_str he).run pins s σ H R I ⟨A, F, r, m, _, _, G, e1, fun F1 H1 v s1 G1 h1 => ?_⟩
    cases h1
    exact ⟨_, rfl, k F1 H1 _ s1 G1 fun Z => wk_str⟩
  | _ => cases e3
end TX

end
/-! TXL -/
section
set_option maxHeartbeats 4000000
namespace TX
open PySem PySem.Spec PyProof.Rows L2 TL
/-! ## for over a cell, whatever becomes of it -/
def loopL (h : Eh) (body : Es) (k : Nat) : Nat → Nat → Es
  | 0, _ => fun _ _ => none
  | n + 1, j => fun r m => match cellAt m k with
    | some (.list ds) => match ds[j]? with
      | some d => (h d r).bind fun r1 => (body r1 m).bind fun o => match o with
        | .nx r2 m2 => loopL h body k n (j + 1) r2 m2
        | .ct r2 m2 => loopL h body k n (j + 1) r2 m2
        | .bk r2 m2 => some (.nx r2 m2)
        | o => some o
      | none => some (.nx r m)
    | _ => none
def sForL (i : Nat) (h : Eh) (body : Es) : Es := fun r m => (slO r[i]?).bind fun k => loopL h body k 1000 0 r m
theorem pre_at {A B : List Addr} {k : Nat} {a : Addr} (h : A <+: B) (e : A[k]? = some a) : B[k]? = some a := by
  obtain ⟨t, rfl⟩ := h
  rw [List.getElem?_append_left (List.getElem?_eq_some_iff.mp e).1]
  exact e
section
variable {X : Cx} {U : Hp} {n0 : Nat} {tg : Expr} {body : List Stmt} {h : Eh} {s : Es} {is : List Nat} {pos p1 : Pos} {y : Str}
theorem qs_forL (i : Nat) (hv : PE X (.Name y p1) (tVar i)) (hp : PassesOwn (model X.prog X.w) X.A X.env X.xe) (hc : X.calm = true) (hg : PG X tg (tG X.K U is h)) (hb : PSs X body (tS X.K U n0 s)) (hs : ∀ x, foldedSetIterable (.Name y p1) X.env x = pure x := by intro _; rfl) :
    PS X (.For tg (.Name y p1) body [] pos) (tS X.K U n0 (sForL i h s)) := ps_weak (ps_for hp hc (pi_list hv) hg hb hs) fun D σ H ⟨A, F, r, m, o, G, hn, e, p⟩ => by
  unfold sForL at e
  obtain ⟨k, e0, e⟩ := Option.bind_eq_some_iff.mp e
  obtain ⟨a, hA, hσ⟩ := G.ow i k (slO_some e0)
  have lst : ∀ {A2 : List Addr} {F2 H2 : Hp} {σ2 : L2.St} {r2 : Rs} {m2 : Ms} {ds : List PyData}, A <+: A2 → Good X.K U A2 F2 H2 σ2 r2 m2 → cellAt m2 k = some (.list ds) → ∃ vs, H2 a = some (.lst vs) ∧ RpAll X.K F2 vs ds := fun hA2 G2 hc2 => by
    obtain ⟨c1, c2, u, c3, vs, c4, c5⟩ := G2.cl k a _ (pre_at hA2 hA) hc2
    subst c4
    exact ⟨vs, c3, c5⟩
  have first : ∃ vs, H a = some (.lst vs) := by
    have e' := e
    unfold loopL at e'
    split at e'
    · rename_i ds hc0
      obtain ⟨vs, h1, _⟩ := lst (List.prefix_refl A) G hc0
      exact ⟨vs, h1⟩
    · cases e'
  obtain ⟨vs0, hH0⟩ := first
  refine ⟨_, hσ, a, rfl, ⟨vs0, .inl (.inl hH0)⟩, ?_⟩
  refine ⟨fun j mm σ2 H2 => ∃ (A2 : List Addr) (F2 : Hp) (r2 : Rs) (m2 : Ms), A <+: A2 ∧ Same F F2 ∧ Good X.K U A2 F2 H2 σ2 r2 m2 ∧ loopL h s k mm j r2 m2 = some o, ⟨1000, A, F, r, m, List.prefix_refl A, Same.refl F, G, e⟩, ?_⟩
  rintro j mm σ2 H2 ⟨A2, F2, r2, m2, hA2, hF, G2, e2⟩
  cases mm with
  | zero => cases e2
  | succ mm =>
    unfold loopL at e2
    split at e2
    · rename_i ds hc2
      obtain ⟨vs, q1, q2⟩ := lst hA2 G2 hc2
      split at e2
      · rename_i d hd
        obtain ⟨v, v1, v2⟩ := rpa_get q2 hd
        obtain ⟨r3, e3, e2⟩ := Option.bind_eq_some_iff.mp e2
        obtain ⟨o4, e4, e2⟩ := Option.bind_eq_some_iff.mp e2
        refine .inr ⟨⟨vs, v, .inl (.inl q1), v1⟩, fun σ' H' => ∃ (A' : List Addr) (F' : Hp) (r' : Rs) (m' : Ms), A <+: A' ∧ Same F F' ∧ Good X.K U A' F' H' σ' r' m' ∧ loopL h s k mm (j + 1) r' m' = some o, fun σ' H' w => ⟨mm, Nat.lt_succ_self mm, w⟩, fun x H3 hy => ?_⟩
        obtain ⟨rfl, hy⟩ := hy
        have ex : x = v := by
          have := hy vs (.inl (.inl q1))
          rw [v1] at this
          exact (Option.some.inj this).symm
        subst ex
        refine ⟨A2, F2, r2, m2, d, r3, G2, v2, e3, fun σ4 G4 _ _ => ⟨A2, F2, r3, m2, o4, G4, len_of hA2 hn, e4, ?_⟩⟩
        have past := fun {A' : List Addr} {F' : Hp} (ha : A2 <+: A') (hf : Same F2 F') => Post.later (K := X.K) (U := U) (n0 := n0) (D := D) (hA2.trans ha) (hF.trans hf) p
        cases o4 with
        | nx r5 m5 => exact fun A' F' H' σ' ha hf G' => ⟨A', F', r5, m5, hA2.trans ha, hF.trans hf, G', e2⟩
        | ct r5 m5 => exact fun A' F' H' σ' ha hf G' => ⟨A', F', r5, m5, hA2.trans ha, hF.trans hf, G', e2⟩
        | bk r5 m5 =>
          cases e2
          exact fun A' F' H' σ' ha hf G' => past ha hf A' F' H' σ' (List.prefix_refl A') (Same.refl F') G'
        | rt d m5 =>
          cases e2
          exact fun A' F' H' v ha hf Fi hv => past ha hf A' F' H' v (List.prefix_refl A') (Same.refl F') Fi hv
        | rn ds5 m5 =>
          cases e2
          exact fun A' F' H' a u ha hf Fi q1 q2 q3 q4 q5 => past ha hf A' F' H' a u (List.prefix_refl A') (Same.refl F') Fi q1 q2 q3 q4 q5
      · rename_i hd
        cases e2
        refine .inl ⟨⟨vs, .inl (.inl q1), ?_⟩, p A2 F2 H2 σ2 hA2 hF G2⟩
        rw [rpa_len q2]
        exact List.getElem?_eq_none_iff.mp hd
    · cases e2
end
/-- len(d), d the name of a cell that is a dict -/
def eLenDO (i : Nat) : Ev := fun r m => (slO r[i]?).bind fun k => match cellAt m k with
  | some (.dict ps) => some (.int ps.length, m)
  | _ => none
theorem qe_lenDO {X : Cx} {U : Hp} (i : Nat) {x y : Str} {p p1 pos : Pos} (hv : PE X (.Name y p1) (tVar i)) (hg : Gl X x) (hx : x = "len") (hm : X.mg x = none) (hb : bootBuiltins x = some (.builtin "len")) (hn : x ≠ "__name__" := by decide) (hdb : (x == ("__debug__" : Str)) = false := by decide)
    (he : starEach [.Name y p1] X.env = (false, eval (.Name y p1) X.env) :: starEach [] X.env := by rfl) (hpl : (backTo pos (starEach [] X.env)).any (·.1) = false := by rfl) : PE X (.Call (.Name x p) [.Name y p1] [] pos) (tE X.K U (eLenDO i)) :=
  pe_weak (pe_callB call_lenD hg hm hb (pa_cons hv pa_nil he) hn hdb he hpl) fun σ H Q ⟨A, F, r, m, d, m', G, e, k⟩ => by
    unfold eLenDO at e
    obtain ⟨kk, e0, e1⟩ := Option.bind_eq_some_iff.mp e
    obtain ⟨a, hA, hσ⟩ := G.ow i kk (slO_some e0)
    split at e1
    · rename_i ps hc
      cases e1
      obtain ⟨c1, c2, u, c3, ks, c4, c5⟩ := G.cl kk a _ hA hc
      subst c4
      refine ⟨_, hσ, a, ks, rfl, c3, ?_⟩
      rw [rpk_len c5]
      exact k F H _ (Same.refl F) G (.vi _)
    · cases e1
theorem w_lenDO {i k : Nat} {r : Rs} {m : Ms} {ps : List (PyData × PyData)} {Q : PyData × Ms → Prop} (e : r[i]? = some (.ow k)) (e0 : cellAt m k = some (.dict ps)) (h : Q (.int ps.length, m)) : W (eLenDO i r m) Q := by
  unfold eLenDO
  rw [e]
  refine W.bind (W.of rfl ?_)
  rw [e0]
  exact .mk h
def wBody : Stmt → List Stmt
  | .While _ b _ _ => b
  | .For _ _ b _ _ => b
  | _ => []
end TX

end
/-! TXM -/
section
set_option maxHeartbeats 4000000
/-! tuple(d), d a dict: its keys -/
namespace PySem
section
variable {prog : Program} {w : World} {A : Around} {E : Value → Shared → Prop} {s : Shared} {T : String} {r d : Addr} {n : Nat} {P : Nat → Value → Prop} {OK : Heap → Prop}
theorem txm_code {R : Result → Shared → Prop} (K : PySem.W.KdlSrc prog w T r d n P OK) (hh : A.handled = none) (hok : OK s.heap) (hn : n ≤ sizeLine)
    (hR : ∀ (h' : Heap) (tk : Nat) (acc : Array Value) (c : Nat), (∀ b o, s.heap.get? b = some o → h'.get? b = some o) → h'.get? s.heap.objs.size = some { cls := .type "list", dict := none, data := .seq acc c, slots := #[] } → ItemsOf P acc n →
      R (.ok (.ret (.ref s.heap.objs.size))) { s with heap := h', toks := tk }) : codeAny (model prog w) A (.builtin "proto.collect" ⟨[.ref r], []⟩) R s := by
  refine codeAny_builtin F.entry_proto_collect ?_
  rw [Around.under_plainId F.plain_proto_collect _]
  show wpAny _ A.in1 (newList [] >>= fun l => again (.builtin "list.__iadd__" ⟨[l, .ref r], []⟩)) _ _ s
  refine wpAny_bind (wpAny_newObj_type ?_)
  refine wpAny_pure ⟨plainId_quiet F.plain_list_iadd _, codeAny_builtin F.entry_list_iadd ?_⟩
  rw [Around.under_plainId F.plain_list_iadd _]
  obtain ⟨lr, ld⟩ := K.there _ hok
  have old : ∀ b o, s.heap.get? b = some o → (s.heap.push { cls := .type "list", data := .seq ([] : List Value).toArray }).get? b = some o := fun b o e => Heap.get?_push_of_some _ e
  exact PySem.W.kdl_extend (A := A) (R := R) (s := { s with heap := s.heap.push { cls := .type "list", data := .seq ([] : List Value).toArray } }) K hh (K.keep _ _ hok fun b _ o e => old b o e) s.heap.objs.size (Nat.ne_of_gt lr) (Nat.ne_of_gt ld) (.ref s.heap.objs.size) 0 (Heap.get?_push_size _ rfl)
    (fun h' tk acc c hk hS hacc => hR h' tk acc c (fun b o e => hk b o (Nat.ne_of_lt (Heap.lt_size e)) (old b o e)) hS hacc) hn
theorem txm_collect {Q : List Value → Shared → Prop} (K : PySem.W.KdlSrc prog w T r d n P OK) (hh : A.handled = none) (hok : OK s.heap) (hn : n ≤ sizeLine)
    (hQ : ∀ (h' : Heap) (tk : Nat) (acc : Array Value), (∀ b o, s.heap.get? b = some o → h'.get? b = some o) → ItemsOf P acc n → Q acc.toList { s with heap := h', toks := tk }) : wpAny (model prog w) A (collect (.ref r)) Q E s := by
  unfold collect
  refine wpAny_bind (wpAny_runValue (txm_code K hh hok hn fun h' tk acc c hk hS hacc => ?_))
  show wpAny _ A (load s.heap.objs.size >>= _) _ _ _
  refine wpAny_bind (wpAny_load hS ?_)
  exact wpAny_pure (hQ h' tk acc hk hacc)
end
theorem txm_new {prog : Program} {w : World} {r d : Addr} {n : Nat} {P : Nat → Value → Prop} {OK : Heap → Prop} (K : PySem.W.KdlSrc prog w "dict" r d n P OK) (hn : n ≤ sizeLine) :
    MeetsIn prog w (Builtin.«tuple.__new__» ⟨[.type "tuple", .ref r], []⟩) (fun A R s => A.handled = none ∧ OK s.heap ∧ ∀ (h' : Heap) (tk : Nat) (acc : Array Value), (∀ b o, s.heap.get? b = some o → h'.get? b = some o) → ItemsOf P acc n →
      R (.ok (.ret (.ref h'.objs.size))) { s with heap := h'.push { cls := .type "tuple", data := .seq acc }, toks := tk }) :=
  .of_wp fun A R s h => by
    obtain ⟨hh, hok, h⟩ := h
    have hsub := sub_tuple_self
    have hinit := init_tuple_lookup
    have hmh := madeHere_tuple
    have hT := K.type s hok
    have hh1 : A.in1.handled = none := hh
    wp_walk using wpAny_typeOf hT, txm_collect (hn := hn) K hh1 hok
    intro h' tk acc hk hacc
    show wpAny _ _ (Builtin.Tuple.tupleExact acc.toList.toArray >>= fun v => ret v) _ _ _
    unfold Builtin.Tuple.tupleExact
    refine wpAny_bind (wpAny_newObj_type ?_ (show acc.toList.toArray.size ≤ sizeLine by simp only [Array.toArray_toList]; rw [hacc.1]; exact hn))
    refine wpAny_pure ⟨_, rfl, ?_⟩
    have e : acc.toList.toArray = acc := by simp
    rw [e]
    exact h h' tk acc hk hacc
theorem txm_call {prog : Program} {w : World} {A : Around} {E : Value → Shared → Prop} {s : Shared} {r d : Addr} {n : Nat} {P : Nat → Value → Prop} {OK : Heap → Prop} {Q : Value → Shared → Prop} (K : PySem.W.KdlSrc prog w "dict" r d n P OK) (hh : A.handled = none) (hok : OK s.heap) (hn : n ≤ sizeLine)
    (h : ∀ (h' : Heap) (tk : Nat) (acc : Array Value), (∀ b o, s.heap.get? b = some o → h'.get? b = some o) → ItemsOf P acc n → Q (.ref h'.objs.size) { s with heap := h'.push { cls := .type "tuple", data := .seq acc }, toks := tk }) :
    wpAny (model prog w) A (call (.type "tuple") [.ref r]) Q E s := by
  refine callType_newIn F.called_tuple (by decide) (F.typeCall_tuple_1 _) (F.newCall_tuple_1 _) (fun obj => F.args_object_init_2 obj _) F.entry_tuple_new
    (txm_new K hn) ⟨hh, hok, fun h' tk acc hk hacc => ⟨⟨_, Heap.get?_push_size _ rfl, rfl⟩, h h' tk acc hk hacc⟩⟩
end PySem
namespace TX
open PySem PySem.Spec PyProof.Rows L2 TL
abbrev rTupDk : List V → Hp → VK → Prop := fun xs H Q => ∃ (a : Addr) (kvs : List (Key × V)), xs = [.ref a] ∧ Rd H a (.dK kvs) ∧ ∀ p, H p = none → Q (.ref p) (upd H p (.tup (kvs.map fun kv => kV kv.1)))
def tupleDk : List PyData → Option PyData
  | [.dict ps] => if isSetD (.dict ps) = true then none else some (.tuple (ps.map (·.1)))
  | _ => none
section
variable {X : Cx} {U : Hp}
theorem call_tupleDk (hc : X.calm = true) : CallR X (.type "tuple") rTupDk := by
  intro pins s σ H xs us Q I r q
  obtain ⟨a, kvs, rfl, hd, q⟩ := q
  obtain ⟨u, rfl, rx⟩ := vals1 r
  cases rx
  obtain ⟨z, lo, vs, rel, dd⟩ := dk_rd I.hok hd
  obtain ⟨ep, hat⟩ := dd.dictAt
  have ek : (kvs.map fun kv => kV kv.1) = vs.map fun p => kV p.1 := by
    have e := congrArg (List.map kV) rel.keys
    rw [List.map_map, List.map_map] at e
    exact e
  refine txm_call (PySem.W.kdl_dict (knd := mixKind X.prog X.w) (kvs := vs) (ep := ep) lo) (I.ok.hd hc) hat (by rw [← rel.length]; exact z) fun h' tk acc hk hacc => ?_
  have hv : Vals (vs.map fun p => kV p.1) acc.toList := keys_at (by rw [Array.length_toList]; exact hacc.1) fun j v e => hacc.2 j v (by rw [← Array.getElem?_toList]; exact e)
  have I1 : Inv X pins σ H { s with heap := h', toks := tk } := I.kept (t' := tk) hk
  have I2 : Inv X pins σ (upd H h'.objs.size (.tup (kvs.map fun kv => kV kv.1))) { s with heap := h'.push { cls := .type "tuple", data := .seq acc }, toks := tk } :=
    I1.laid (t' := tk) (fun b o e => Heap.get?_push_of_some _ e) (Nat.le_refl _) (show ObjOk X.prog X.w _ _ _ (.tup (kvs.map fun kv => kV kv.1)) from ⟨by rw [List.length_map]; exact z, acc.toList, by rw [ek]; exact hv, by rw [Array.toArray_toList]; exact IsTup.new _ _⟩)
  exact ⟨.ref h'.objs.size, _, I2, rfl, q _ (I1.hok.fresh (Nat.le_refl _))⟩
theorem cd_tupleDk : CallD X U rTupDk tupleDk := by
  intro A F H σ r m vs ds d Q G ha e k
  unfold tupleDk at e
  split at e
  · split at e
    · cases e
    rename_i hS
    cases e
    obtain ⟨v, rfl, h⟩ := rpa1 ha
    cases h with
    | vd sa ra => exact ⟨_, _, rfl, rd_mono G.sub sa, fun p np => k _ _ _ (same_new (G.nope np).1) (G.laid np) (.vt (.inl (.inl upd_same)) (Rpam (same_new (G.nope np).1) (rpa_keys ra)))⟩
    | vx _ _ _ => exact absurd rfl hS
  · cases e
end
theorem w_tupDk {ps : List (PyData × PyData)} {R : PyData → Prop} (h : isSetD (.dict ps) = false) (q : R (.tuple (ps.map (·.1)))) : W (tupleDk [.dict ps]) R := by
  show W (if isSetD (.dict ps) = true then none else some (PyData.tuple (ps.map (·.1)))) R
  rw [if_neg (by rw [h]; decide)]
  exact .mk q
end TX

end
/-! TXN -/
section
set_option maxHeartbeats 4000000
namespace PySem.SeqAt

open MeetsSeq MeetsSeq2 MeetsSeq3 SeqRoads2
theorem txn_sub : isSubtype (.type "str") (.type "dict") = pure false := by rw [isSubtype_type]; kernel_rfl
theorem txn_sub' : isSubtype (.type "dict") (.type "str") = pure false := by rw [isSubtype_type]; kernel_rfl
theorem txn_dict (l : Addr) (es : Array DictEntry) (n : Nat) (dd : Option Addr) (sl : Array (Option Value)) (b : Str) (u : Tok) :
    Meets (Builtin.«dict.__eq__» ⟨[.ref l, .str b u], []⟩) (fun _ R s => s.heap.get? l = some { cls := .type "dict", dict := dd, data := .dict es n, slots := sl } ∧ R (.ok (.ret .notImplemented)) s) :=
  .of_wp fun prog w A R s h => by obtain ⟨hp, g, d, tk, os⟩ := s; obtain ⟨hl, h⟩ := h; have f1 := txn_sub; wp_walk using PySem.AutoSeq1.wpAny_loadPart' hl; exact ⟨_, rfl, h⟩
theorem txn_str (b : Str) (u : Tok) (l : Addr) (es : Array DictEntry) (n : Nat) (dd : Option Addr) (sl : Array (Option Value)) :
    Meets (Builtin.«str.__eq__» ⟨[.str b u, .ref l], []⟩) (fun _ R s => s.heap.get? l = some { cls := .type "dict", dict := dd, data := .dict es n, slots := sl } ∧ R (.ok (.ret .notImplemented)) s) :=
  .of_wp fun prog w A R s h => by obtain ⟨hp, g, d, tk, os⟩ := s; obtain ⟨hl, h⟩ := h; have f1 := txn_sub'; wp_walk using PySem.AutoSeq1.wpAny_loadPart' hl; exact ⟨_, rfl, h⟩
theorem txn_rc {A : Around} {s : Shared} {l : Addr} {es : Array DictEntry} {n : Nat} {dd : Option Addr} {sl : Array (Option Value)} (b : Str) (u : Tok) (ho : s.heap.get? l = some { cls := .type "dict", dict := dd, data := .dict es n, slots := sl }) (hu : A.units < cLine) : RcAt A s (.str b u) (.ref l) false := fun prog w E Q h =>
  rc_eq_decline_or (k := false) (typeIs_str s b u) ⟨_, ho, rfl⟩ (by decide) txn_sub' F.slot_str_eq F.slot_dict_eq_refl
    (fun _ hq => call_meets F.slot_str_eq (typeIs_str s b u) F.entry_str_eq (F.args_str_eq_2 _ _) (txn_str b u l es n dd sl) ⟨ho, hq⟩)
    (fun _ hq => call_meets F.slot_dict_eq_refl ⟨_, ho, rfl⟩ F.entry_dict_eq (F.args_dict_eq_2 _ _) (txn_dict l es n dd sl b u) ⟨ho, hq⟩)
    (fun _ hq => wpAny_of_eq (rfl : isSame (.str b u) (.ref l) = pure false) hq) (.inr hu) h
theorem txn_eq {A : Around} {s : Shared} {l : Addr} {es : Array DictEntry} {n : Nat} {dd : Option Addr} {sl : Array (Option Value)} (b : Str) (u : Tok) (ho : s.heap.get? l = some { cls := .type "dict", dict := dd, data := .dict es n, slots := sl }) (hu : A.units < cLine) : EqAt A s (.str b u) (.ref l) false := fun prog w E Q h => by
  unfold eqBool
  refine wpAny_holding ?_
  refine wpAny_ite_split (fun hab => absurd (eq_of_beq hab) nofun) (fun _ => ?_)
  exact wpAny_bind (txn_rc b u ho hu prog w E _ (wpAny_truthy_bool h))
end PySem.SeqAt
namespace TX
open PySem PySem.Spec PyProof.Rows L2 TL
/-! x in xs, x a dict, xs texts: no -/
abbrev rInDS (K : PySem.W.Frag) (neg : Bool) : R2 := fun x y H Q => ∃ (a l : Addr) (ks : List (Key × V)) (zs : List Str), x = .ref a ∧ Rd H a (.dK ks) ∧ y = .ref l ∧ SqL K H l (zs.map V.str) ∧ Q (.bl neg) H
theorem strs_vals : ∀ {zs : List Str} {us : List Value}, Vals (zs.map V.str) us → ∀ u ∈ us, ∃ b t, u = .str b t
  | [], _, .nil, u, h => by cases h
  | z :: zs, _, .cons r t, u, h => by
    rcases List.mem_cons.mp h with e | e
    · obtain ⟨k, e2⟩ := (show ∃ t, _ = Value.str z t from r)
      exact ⟨z, k, e.trans e2⟩
    · exact strs_vals t u e
section
variable {X : Cx} {U : Hp}
theorem op_notInDS (hu : X.A.units + 65 < cLine) : OpR X (compareOp .NotIn) (rInDS X.K true) := by
  intro pins s σ H x y v u Q I rx ry h
  obtain ⟨a, l, ks, zs, rfl, hd, rfl, hl, q⟩ := h
  cases rx
  cases ry
  obtain ⟨z, lo, vs, rel, ⟨⟨cls, dd, data, sl⟩, es, ep, ho, ⟨hc, h2, h3⟩, h4, _⟩⟩ := dk_rd I.hok hd
  simp only at hc h2 h3 h4
  subst hc h2 h3 h4
  obtain ⟨its, rv, pl, hz⟩ := I.list hl
  have hu' : X.A.in1.units < cLine := by
    show X.A.units + 1 < cLine
    omega
  refine SeqAt.notIn_listAt (fun _ => false) pl.isList (fun w hw => ?_) ?_
  · obtain ⟨b, t, rfl⟩ := strs_vals rv w (by simpa using hw)
    exact SeqAt.txn_eq b t ho hu'
  · have e : (its.toArray.any fun _ => false) = false := by simp
    rw [e]
    exact ⟨.bl true, H, I, rfl, q⟩
def strB : PyData → Bool
  | .str _ => true
  | _ => false
def notInX : PyData → PyData → Option PyData
  | .dict ps, .list ds => if isSetD (.dict ps) = false ∧ ds.all strB = true then some (.bool true) else none
  | a, b => notInD a b
theorem rpa_strB {K : PySem.W.Frag} {F : Hp} : ∀ {vs : List V} {ds : List PyData}, RpAll K F vs ds → ds.all strB = true → ∃ zs : List Str, vs = zs.map V.str
  | _, _, .nil, _ => ⟨[], rfl⟩
  | _, _, .cons h t, e => by
    simp only [List.all_cons, Bool.and_eq_true] at e
    obtain ⟨zs, rfl⟩ := rpa_strB t e.2
    cases h with
    | vs z => exact ⟨z :: zs, rfl⟩
    | _ => cases e.1
theorem or_notInX (hu : X.A.units + 65 < cLine) : OpR X (compareOp .NotIn) (fun x y H Q => rInAll X.K true x y H Q ∨ rInDS X.K true x y H Q) := opr_or (or_notInAll hu) (op_notInDS hu)
theorem od_notInX : OpD X U (fun x y H Q => rInAll X.K true x y H Q ∨ rInDS X.K true x y H Q) notInX := by
  intro A F H σ r m x y a b d Q G ha hb e k
  unfold notInX at e
  split at e
  · split at e
    · rename_i ps ds hq
      cases e
      obtain ⟨q1, q2⟩ := hq
      cases ha with
      | vd sa ra =>
        cases hb with
        | vl sb rb =>
          obtain ⟨zs, rfl⟩ := rpa_strB rb q2
          exact .inr ⟨_, _, _, zs, rfl, rd_mono G.sub sa, rfl, sqL_mono G.sub sb, k F H _ (Same.refl F) G (.vb true)⟩
      | vx _ _ _ => cases q1
    · cases e
  · exact .inl (od_notIn (X := X) (U := U) A F H σ r m x y a b d Q G ha hb e k)
end
theorem w_notInX {a b : PyData} {R : PyData → Prop} (h : ∀ ps, a ≠ .dict ps) (q : W (notInD a b) R) : W (notInX a b) R := by
  unfold notInX
  split
  · exact absurd rfl (h _)
  · exact q
theorem w_notInXd {ps : List (PyData × PyData)} {ds : List PyData} {R : PyData → Prop} (h1 : isSetD (.dict ps) = false) (h2 : ds.all strB = true) (q : R (.bool true)) : W (notInX (.dict ps) (.list ds)) R := by
  show W (if isSetD (.dict ps) = false ∧ ds.all strB = true then some (PyData.bool true) else none) R
  rw [if_pos ⟨h1, h2⟩]
  exact .mk q
end TX

end
/-! TXO -/
section
set_option maxHeartbeats 4000000
namespace TX
open PySem PySem.Spec PyProof.Rows L2 TL
/-! ## sorted of a list of texts; the scope of a comprehension that a test compares -/
def strO : PyData → Option Str
  | .str x => some x
  | _ => none
def sortLS : List PyData → Option PyData
  | [.list ds] => (ds.mapM strO).bind fun ks => if ks.length < 64 then some (.list ((srtS ks).map .str)) else none
  | _ => none
theorem strs_in {K : PySem.W.Frag} {F : Hp} : ∀ {vs : List V} {ds : List PyData} {ks : List Str}, RpAll K F vs ds → ds.mapM strO = some ks → vs = ks.map V.str
  | [], _, _, h, e => by
    cases h
    cases e
    rfl
  | v :: vs, _, _, h, e => by
    cases h with
    | cons h1 h2 =>
      rw [List.mapM_cons] at e
      obtain ⟨i, e1, e⟩ := Option.bind_eq_some_iff.mp e
      obtain ⟨is, e2, e⟩ := Option.bind_eq_some_iff.mp e
      cases e
      rw [List.map_cons, strs_in h2 e2]
      unfold strO at e1
      split at e1
      · cases e1
        cases h1
        rfl
      · cases e1
theorem cn_sortLS {X : Cx} {U : Hp} : CallN X U (rSortedS X.K) sortLS := by
  intro A F H σ r m vs ds d Q G ha e k
  unfold sortLS at e
  split at e
  · obtain ⟨ks, e1, e2⟩ := Option.bind_eq_some_iff.mp e
    split at e2
    · rename_i h64
      cases e2
      obtain ⟨v, rfl, h⟩ := rpa1 ha
      cases h with
      | vl sa ra =>
        have := strs_in ra e1
        subst this
        refine ⟨_, ks, rfl, sqL_mono G.sub sa, h64, fun ys p hp hs np => ?_⟩
        rw [srtS_one hp hs]
        exact k F _ p _ (Same.refl F) (G.laidO np) (G.nope np).1 (G.nope np).2 (G.notin np) upd_same ⟨_, rfl, rpa_strs _⟩
    · cases e2
  · cases e
theorem mapM_strO : ∀ xs : List Str, (xs.map PyData.str).mapM strO = some xs
  | [] => rfl
  | x :: xs => by
    rw [List.map_cons, List.mapM_cons, mapM_strO xs]
    rfl
theorem w_sortLS {xs : List Str} {R : PyData → Prop} (h : xs.length < 64) (q : R (.list ((srtS xs).map .str))) : W (sortLS [.list (xs.map .str)]) R := by
  show W (Option.bind ((xs.map PyData.str).mapM strO) _) R
  rw [mapM_strO, Option.bind_some, if_pos h]
  exact .mk q
theorem srtS_perm {xs ys : List Str} (h : xs.Perm ys) : srtS xs = srtS ys :=
  List.Perm.eq_of_pairwise (le := fun a b => leS a b = true) (fun a b _ _ h g => leS_anti h g) (List.pairwise_mergeSort leS_trans leS_tot xs) (List.pairwise_mergeSort leS_trans leS_tot ys) (((List.mergeSort_perm xs leS).trans h).trans (List.mergeSort_perm ys leS).symm)
def ifSc (d : Scope) : Stmt → Scope
  | .If (.Compare (.ListComp _ _ sc _) _ _ _) _ _ _ => sc
  | _ => d
end TX

end
/-! TXP -/
section
set_option maxHeartbeats 4000000
namespace TX
open PySem PySem.Spec PyProof.Rows L2 TL
/-! ## sorted of a dict of whole numbers, any number of them -/
abbrev rSortDL : List V → Hp → VK → Prop := fun xs H Q => ∃ (a : Addr) (kvs : List (Key × V)) (is : List Int), xs = [.ref a] ∧ Rd H a (.dK kvs) ∧ kvs.map (·.1) = is.map Sum.inl ∧ is.length ≤ 1000 ∧ ∀ (zs : List Int) (p : Addr), zs.Perm is → zs.Pairwise (· ≤ ·) → H p = none → Q (.ref p) (upd H p (.lst (zs.map V.int)))
theorem call_sortedDL {X : Cx} (calm : X.calm = true) : CallR X (.builtin "sorted") rSortDL := by
  rintro pins s σ H xs us Q I r ⟨a, kvs, is, rfl, rd, ek, le, q⟩
  obtain ⟨u, rfl, ru⟩ := vals1 r
  cases ru
  obtain ⟨z, lo, vs, rel, dd⟩ := dk_rd I.hok rd
  obtain ⟨ep, dat⟩ := dd.dictAt
  have kk : vs.map (·.1) = is.map Sum.inl := rel.keys.symm.trans ek
  have ll : vs.length = is.length := by simpa using congrArg List.length kk
  have fit : is.length ≤ sizeLine := Nat.le_trans le (by decide)
  refine Calls.call_function_entry kind_sorted plain_sorted entry_sorted (args_sorted1 _) ?_
  unfold Builtin.«sorted»
  refine wpAny_bind (wpAny_pure ?_)
  refine wpAny_bind (PySem.W.kdu_collect (A := X.A.in1) (PySem.W.kdl_dict (knd := mixKind X.prog X.w) (kvs := vs) (ep := ep) lo) (I.ok.hd calm) dat (ll ▸ fit) fun g tk acc keep ok => ?_)
  have la : acc.toList.length = is.length := by rw [Array.length_toList, ok.1, ll]
  have ia : IntsAre acc.toList is := ints_each la fun j v ev => by
    obtain ⟨k, x, h1, h2⟩ := ok.2 j v (by rw [← Array.getElem?_toList]; exact ev)
    have h3 : (vs.map (·.1))[j]? = some k := by rw [List.getElem?_map, h1]; rfl
    rw [kk, List.getElem?_map] at h3
    obtain ⟨y, h4, h5⟩ := Option.map_eq_some_iff.mp h3
    subst h5
    rcases keyIs_shape (show keyIs (Sum.inl y) v = true from h2) with ⟨i, t, c1, c2⟩ | ⟨i, t, c1, c2⟩
    · cases c1
      exact ⟨y, t, h4, c2⟩
    · cases c1
  have J : Inv X pins σ H { s with heap := g, toks := tk } := I.kept keep
  have fa : acc.toList.length ≤ sizeLine := la ▸ fit
  refine wpAny_bind (wpAny_newList ?_ fa)
  have at_ : (g.push (seqObj "list" acc.toList.toArray 0)).get? g.objs.size = some (seqObj "list" acc.toList.toArray 0) := Heap.get?_push_size _ rfl
  show wpAny _ _ _ _ _ { s with heap := g.push (seqObj "list" acc.toList.toArray 0), toks := tk }
  refine wpAny_bind (wpAny_holding (wpAny_call_entry slot_list_sort ⟨_, at_, rfl⟩ entry_list_sort (SrtO.list_sort_ord (s := { s with heap := g.push (seqObj "list" acc.toList.toArray 0), toks := tk }) SrtO.swo_int at_ fa (fun h2 => SrtO.ints_sortable ia h2) fun out h1 h2 => ⟨_, rfl, ?_⟩) (args_list_sort _)))
  obtain ⟨k1, k2, k3⟩ := SrtO.ints_out ia h1 h2
  obtain ⟨e2, h3⟩ := sortedHeap_at (vs := acc.toList) (out := out.toArray) at_
  have fo : ((out.map SrtO.iv).map V.int).length ≤ sizeLine := by rw [List.length_map, k2.length_eq]; exact fit
  refine wpAny_pure ⟨_, rfl, .ref g.objs.size, upd H g.objs.size (.lst ((out.map SrtO.iv).map V.int)), J.laid (t' := tk) (fun b u eb => ?_) (Nat.le_refl _) (show ObjOk X.prog X.w _ _ _ (.lst ((out.map SrtO.iv).map V.int)) from ⟨fo, out, e2, vals_of_ints k1, h3⟩), rfl, q _ _ k2 k3 (J.hok.fresh (Nat.le_refl _))⟩
  have lt : b < g.objs.size := Heap.lt_size eb
  rw [sortedHeap_old (Nat.ne_of_lt lt) (by rw [size_push']; exact Nat.lt_succ_of_lt lt)]
  exact Heap.get?_push_of_some _ eb
def sortDL : List PyData → Option PyData
  | [.dict ps] => (ps.mapM intKey).bind fun is => if is.length ≤ 1000 then some (.list ((is.mergeSort fun a b => decide (a ≤ b)).map .int)) else none
  | _ => none
theorem cn_sortDL {X : Cx} {U : Hp} : CallN X U rSortDL sortDL := by
  intro A F H σ r m vs ds d Q G ha e k
  unfold sortDL at e
  split at e
  · obtain ⟨is, e1, e2⟩ := Option.bind_eq_some_iff.mp e
    split at e2
    · rename_i hz
      cases e2
      obtain ⟨v, rfl, h⟩ := rpa1 ha
      cases h with
      | vd sa ra =>
        refine ⟨_, _, is, rfl, rd_mono G.sub sa, ints_read ra e1, hz, fun zs p h1 h2 np => ?_⟩
        rw [sort_one h1 h2]
        exact k F _ p _ (Same.refl F) (G.laidO np) (G.nope np).1 (G.nope np).2 (G.notin np) upd_same ⟨_, rfl, rpa_ints _⟩
      | vx _ _ _ => cases e1
    · cases e2
  · cases e
end TX

end
/-! TXQ -/
section
set_option maxHeartbeats 4000000
namespace TX
open PySem PySem.Spec PyProof.Rows L2 TL
/-! ## an expression that reads a live cell as a value and hands back none of it -/
abbrev noC (m : Ms) : Ms := m.map fun _ => (none : Option PyData)
theorem noC_at (m : Ms) (j : Nat) : cellAt (noC m) j = none := by
  unfold cellAt noC
  rw [List.getElem?_map]
  cases m[j]? <;> rfl
open Classical in
/-- all cells of the frame as what stands outside -/
noncomputable def hidU (U : Hp) (A : List Addr) (F H : Hp) : Hp := fun b => if b ∈ A ∧ F b = none ∧ U b = none then H b else U b
section
variable {K : PySem.W.Frag} {U : Hp} {A : List Addr} {F H : Hp} {σ : L2.St} {r : Rs} {m : Ms}
theorem Good.hid (G : Good K U A F H σ r m) : Good K (hidU U A F H) A F H σ r (noC m) := by
  refine ⟨G.sub, fun b o e => ?_, G.len, G.fz, G.ow, by rw [List.length_map]; exact G.al, fun k a d _ e2 => ?_, G.nd, G.he⟩
  · unfold hidU at e
    split at e
    · rename_i h
      exact ⟨e, h.2.1⟩
    · exact G.fo b o e
  · rw [noC_at] at e2
    cases e2
def eLk (i : Nat) (f : Ev) : Ev := fun r m => match r[i]? with
  | some (.fz _) => f r m
  | some (.ow k) => (cellAt m k).bind fun c => (f (frzR k c r) (noC (m.set k none))).bind fun p => if flatD p.1 = true then some (p.1, m) else none
  | _ => none
theorem flat_rp {F' : Hp} {v : V} {d : PyData} (h : Rp K F v d) (e : flatD d = true) : Rp K F' v d := by
  cases d with
  | none => cases h; exact .vn
  | bool b => cases h; exact .vb b
  | int i => cases h; exact .vi i
  | str x => cases h; exact .vs x
  | _ => cases e
theorem qe_lk {X : Cx} {e : Expr} {f : Ev} (i : Nat) (he : ∀ U, PE X e (tE X.K U f)) : PE X e (tE X.K U (eLk i f)) := pe_weak (pe_all he) fun σ H Q ⟨A, F, r, m, d, m', G, e, k⟩ => by
  unfold eLk at e
  split at e
  · exact ⟨U, A, F, r, m, d, m', G, e, k⟩
  · rename_i j hj
    obtain ⟨c, e1, e2⟩ := Option.bind_eq_some_iff.mp e
    obtain ⟨⟨d1, m1⟩, e3, e4⟩ := Option.bind_eq_some_iff.mp e2
    split at e4
    · rename_i hd
      cases e4
      obtain ⟨a, hA, _⟩ := G.ow i j hj
      obtain ⟨c1, c2, c3, c4, c5⟩ := G.cl j a c hA e1
      obtain ⟨u, s1, G1, _⟩ := G.freeze hA e1
      refine ⟨_, A, _, _, _, d1, m1, Good.hid G1, e3, fun F' H' v s2 G' h => ?_⟩
      have s12 := s1.trans s2
      refine k F H' v (Same.refl F) ⟨fun b o q => G'.sub _ _ (s12 _ _ q), fun b o q => ?_, G.len, G.fz, G.ow, G.al, fun l b ds q1 q2 => ?_, G.nd, G'.he⟩ (flat_rp h hd)
      · have hb := G.fo b o q
        have : hidU U A (upd F a u) H b = some o := by
          unfold hidU
          rw [if_neg (fun z => by rw [z.2.2] at q; cases q)]
          exact q
        exact ⟨(G'.fo b o this).1, hb.2⟩
      · obtain ⟨b1, b2, o, b3, b4⟩ := G.cl l b ds q1 q2
        refine ⟨b1, b2, o, ?_, b4⟩
        by_cases hb : b = a
        · subst hb
          have hF := G1.sub b u upd_same
          rw [b3] at hF
          cases hF
          exact G'.sub _ _ (s2 _ _ upd_same)
        · have : hidU U A (upd F a u) H b = some o := by
            unfold hidU
            rw [if_pos ⟨List.mem_of_getElem? q1, by rw [upd_ne hb]; exact b1, b2⟩]
            exact b3
          exact (G'.fo b o this).1
    · cases e4
  · cases e
def tLk (i : Nat) (f : Et) : Et := fun r m => match r[i]? with
  | some (.fz _) => f r m
  | some (.ow k) => (cellAt m k).bind fun c => (f (frzR k c r) (noC (m.set k none))).map fun p => (p.1, m)
  | _ => none
theorem pt_all {X : Cx} {e : Expr} {f : Et} (k : ∀ U, PT X e (tT X.K U f)) : PT X e (fun σ H Q => ∃ U, tT X.K U f σ H Q) := ⟨fun pins s σ H Q I ⟨U, q⟩ => (k U).run pins s σ H Q I q⟩
theorem qt_lk {X : Cx} {e : Expr} {f : Et} (i : Nat) (he : ∀ U, PT X e (tT X.K U f)) : PT X e (tT X.K U (tLk i f)) := pt_weak (pt_all he) fun σ H Q ⟨A, F, r, m, b, m', G, e, k⟩ => by
  unfold tLk at e
  split at e
  · exact ⟨U, A, F, r, m, b, m', G, e, k⟩
  · rename_i j hj
    obtain ⟨c, e1, e2⟩ := Option.bind_eq_some_iff.mp e
    obtain ⟨⟨b1, m1⟩, e3, e4⟩ := Option.map_eq_some_iff.mp e2
    cases e4
    obtain ⟨a, hA, _⟩ := G.ow i j hj
    obtain ⟨c1, c2, c3, c4, c5⟩ := G.cl j a c hA e1
    obtain ⟨u, s1, G1, _⟩ := G.freeze hA e1
    refine ⟨_, A, _, _, _, b1, m1, Good.hid G1, e3, fun F' H' s2 G' => ?_⟩
    have s12 := s1.trans s2
    refine k F H' (Same.refl F) ⟨fun b o q => G'.sub _ _ (s12 _ _ q), fun b o q => ?_, G.len, G.fz, G.ow, G.al, fun l b ds q1 q2 => ?_, G.nd, G'.he⟩
    · have hb := G.fo b o q
      have : hidU U A (upd F a u) H b = some o := by
        unfold hidU
        rw [if_neg (fun z => by rw [z.2.2] at q; cases q)]
        exact q
      exact ⟨(G'.fo b o this).1, hb.2⟩
    · obtain ⟨b1, b2, o, b3, b4⟩ := G.cl l b ds q1 q2
      refine ⟨b1, b2, o, ?_, b4⟩
      by_cases hb : b = a
      · subst hb
        have hF := G1.sub b u upd_same
        rw [b3] at hF
        cases hF
        exact G'.sub _ _ (s2 _ _ upd_same)
      · have : hidU U A (upd F a u) H b = some o := by
          unfold hidU
          rw [if_pos ⟨List.mem_of_getElem? q1, by rw [upd_ne hb]; exact b1, b2⟩]
          exact b3
        exact (G'.fo b o this).1
  · cases e
end
section
variable {r : Rs} {m : Ms} {Q : PyData × Ms → Prop} {QB : Bool × Ms → Prop} {f : Ev} {g : Et} {i k : Nat} {c d : PyData}
theorem w_tlF (e : r[i]? = some (.fz d)) (h : W (g r m) QB) : W (tLk i g r m) QB := by
  unfold tLk
  rw [e]
  exact h
theorem w_tlO (e : r[i]? = some (.ow k)) (e0 : cellAt m k = some c) (h : W (g (frzR k c r) (noC (m.set k none))) fun p => QB (p.1, m)) : W (tLk i g r m) QB := by
  unfold tLk
  rw [e]
  exact W.bind (W.of e0 (W.map h))
theorem w_lkF (e : r[i]? = some (.fz d)) (h : W (f r m) Q) : W (eLk i f r m) Q := by
  unfold eLk
  rw [e]
  exact h
theorem w_lkO (e : r[i]? = some (.ow k)) (e0 : cellAt m k = some c) (h : W (f (frzR k c r) (noC (m.set k none))) fun p => flatD p.1 = true ∧ Q (p.1, m)) : W (eLk i f r m) Q := by
  unfold eLk
  rw [e]
  exact W.bind (W.of e0 (W.bind (W.mono h fun p h => W.guard h.1 (.mk h.2))))
end
/-! ## list(range(a, b)) -/
def eLRg2 (f g : Ev) : Ev := fun r m => (f r m).bind fun p => (g r p.2).bind fun q => match p.1, q.1 with
  | .int i, .int j => if -1000 ≤ i ∧ i ≤ 1000 ∧ -1000 ≤ j ∧ j ≤ 1000 then some (.list (rangeD i (j - i).toNat), q.2) else none
  | _, _ => none
theorem rpa_rg2 {K : PySem.W.Frag} {F : Hp} (i j : Int) : RpAll K F (rgV i j) (rangeD i (j - i).toNat) := by
  have e1 : rgV i j = ((List.range (j - i).toNat).map fun k => i + (k : Nat)).map V.int := by
    unfold rgV
    rw [List.map_map]
    rfl
  have e2 : rangeD i (j - i).toNat = ((List.range (j - i).toNat).map fun k => i + (k : Nat)).map PyData.int := by
    unfold rangeD
    rw [List.map_map]
    rfl
  rw [e1, e2]
  exact rpa_ints _
section
variable {X : Cx} {U : Hp} {a b : Expr} {f g : Ev} {p p1 pos pos2 : Pos}
theorem qn_lrg2 (hc : X.calm = true) (hgl : Gl X "list") (hml : X.mg "list" = none) (hgr : Gl X "range") (hmr : X.mg "range" = none) (ha : PE X a (tE X.K U f)) (hb : PE X b (tE X.K U g)) (na : starEach [a, b] X.env = (false, eval a X.env) :: starEach [b] X.env := by rfl)
    (nb : starEach [b] X.env = (false, eval b X.env) :: starEach [] X.env := by rfl) (hp : (backTo pos2 (starEach [b] X.env)).any (·.1) = false := by rfl)
    (nc : starEach [.Call (.Name "range" p1) [a, b] [] pos2] X.env = (false, eval (.Call (.Name "range" p1) [a, b] [] pos2) X.env) :: starEach [] X.env := by rfl) :
    PE X (.Call (.Name "list" p) [.Call (.Name "range" p1) [a, b] [] pos2] [] pos) (tN X.K U (eLRg2 f g)) :=
  pe_weak (pe_listRg hc hgl hml (prg_2 hgr hmr ha hb na nb hp) nc) fun σ H Q ⟨A, F, r, m, d, m', G, e, k⟩ => by
    unfold eLRg2 at e
    obtain ⟨⟨d1, m1⟩, e1, e⟩ := Option.bind_eq_some_iff.mp e
    obtain ⟨⟨d2, m2⟩, e2, e3⟩ := Option.bind_eq_some_iff.mp e
    dsimp only at e3
    split at e3
    · split at e3
      · rename_i i j hn
        cases e3
        refine ⟨A, F, r, m, _, _, G, e1, fun F1 H1 x s1 G1 h1 => ⟨A, F1, r, m1, _, _, G1, e2, fun F2 H2 y s2 G2 h2 => ?_⟩⟩
        cases h1
        cases h2
        exact ⟨i, j, rfl, rfl, ⟨by omega, by omega, by omega, by omega, by omega⟩, fun q hq => k F2 _ q _ (s1.trans s2) (G2.laidO hq) (G2.nope hq).1 (G2.nope hq).2 (G2.notin hq) upd_same ⟨_, rfl, rpa_rg2 i j⟩⟩
      · cases e3
    · cases e3
theorem w_lrg2 {r : Rs} {m : Ms} {Q : PyData × Ms → Prop} (h : W (f r m) fun p => W (g r p.2) fun q => ∃ i j, p.1 = .int i ∧ q.1 = .int j ∧ (-1000 ≤ i ∧ i ≤ 1000 ∧ -1000 ≤ j ∧ j ≤ 1000) ∧ Q (.list (rangeD i (j - i).toNat), q.2)) : W (eLRg2 f g r m) Q := W.bind (W.mono h fun ⟨d1, m1⟩ h => W.bind (W.mono h fun ⟨d2, m2⟩ ⟨i, j, e1, e2, e3, h⟩ => by
  simp only at e1 e2
  subst e1 e2
  exact W.guard e3 (.mk h)))
end
end TX

end
/-! TXR -/
section
set_option maxHeartbeats 4000000
namespace TX
open PySem PySem.Spec PyProof.Rows L2 TL
/-! ## a list turned about as a new one; return of a new list or of something else -/
def revL : PyData → Option PyData
  | .list ds => some (.list ds.reverse)
  | _ => none
section
variable {X : Cx} {U : Hp} {n0 : Nat} {e a b c : Expr} {f g : Ev} {p : Et} {k : Nat} {p1 p2 p3 pos : Pos}
theorem qn_rev (he : PE X e (tE X.K U f)) : PE X (.Subscript e (.Slice none none (some (.UnaryOp .USub (.Constant (.int 1) k p1) p2)) p3) pos) (tN X.K U (eMap f revL)) := pe_weak (pe_revA he) fun σ H Q ⟨A, F, r, m, d, m', G, e, k⟩ => by
  obtain ⟨d1, e1, e2⟩ := map_some e
  refine ⟨A, F, r, m, d1, m', G, e1, fun F1 H1 x s1 G1 h1 => ?_⟩
  unfold revL at e2
  split at e2
  · cases e2
    cases h1 with
    | vl sa ra =>
      refine .inl ⟨_, _, rfl, sqL_mono G1.sub sa, fun q hq => ?_⟩
      exact k F1 _ q _ s1 (G1.laidO hq) (G1.nope hq).1 (G1.nope hq).2 (G1.notin hq) upd_same ⟨_, rfl, rpa_rev ra⟩
  · cases e2
theorem qs_retIf (hc : PT X c (tT X.K U p)) (ha : PE X a (tN X.K U f)) (hb : PE X b (tE X.K U g)) : PS X (.Return (some (.IfExp c a b p1)) pos) (tS X.K U n0 (sIf p (sRetF f) (sRet g))) := ps_weak (ps_ret (pe_ifExp hc ha hb)) fun D σ H ⟨A, F, r, m, o, G, hn, e, pp⟩ => by
  unfold sIf at e
  obtain ⟨⟨b1, m1⟩, e1, e⟩ := Option.bind_eq_some_iff.mp e
  refine ⟨A, F, r, m, b1, m1, G, e1, fun F1 H1 s1 G1 => ?_⟩
  dsimp only at e
  cases b1 with
  | true =>
    refine iteT ?_
    obtain ⟨⟨d, m2⟩, e2, e3⟩ := Option.map_eq_some_iff.mp (show (f r m1).map (fun p => Out.rn p.1 p.2) = some o from e)
    cases e3
    exact ⟨A, F1, r, m1, d, m2, G1, e2, fun F2 H2 x u s2 G2 q1 q2 q3 q4 q5 => pp A F2 H2 x u (List.prefix_refl A) (s1.trans s2) (G2.fin hn) q1 q2 (fun k _ e4 => q3 (List.mem_of_getElem? e4)) q4 q5⟩
  | false =>
    refine iteF ?_
    obtain ⟨⟨d, m2⟩, e2, e3⟩ := Option.map_eq_some_iff.mp (show (g r m1).map (fun p => Out.rt p.1 p.2) = some o from e)
    cases e3
    exact ⟨A, F1, r, m1, d, m2, G1, e2, fun F2 H2 v s2 G2 h2 => pp A F2 H2 v (List.prefix_refl A) (s1.trans s2) (G2.fin hn) h2⟩
end
end TX

end
/-! GK40 -/
section
set_option maxHeartbeats 8000000
namespace K40
open PySem L2 TL
def topS (i : Nat) : Stmt := PySem.Challenge.pw_latehall_k40_what_is_reached.main.body.getD i (.Pass ⟨0, 0, 0, 0⟩)
/-! ### led_from -/
abbrev s_led_from : Stmt := topS 1
theorem sc_led_from : FnScope ["starts", "leads", "ahead", "row", "at", "one", "other", "start"] ["starts", "leads"] (defScope s_led_from) := ⟨rfl, rfl, rfl, by decide +kernel, rfl, by decide +kernel, by decide +kernel⟩
def b_led_from : Es := (sSeq (sSetF 2 (eDc (eIts (eV 0)) [7] (hNm 7) eYes (eV 7) (eC .none)))
    (sSeq (sSetF 3 (eDkO 2))
    (sSeq (sSet 4 (eC (.int 0)))
    (sSeq (whileS (eT blD (eBin ltD (eV 4) (eLenO 3))) (sSeq (sSet 5 (eIxO 3 (eV 4)))
    (sSeq (sFor (eIts (eGet (eV 1) (eV 5) (eTup eNil))) (hNm 6) (sIf (eT blD (eInO 2 (dinD true) (eV 6))) (sSeq (sDput 2 (eV 5) (eV 6))
    (sApp 3 (eV 6))) sNil))
    (sAug 4 addI (eC (.int 1))))) 10000)
    (sFrz 2 (sRet (eV 2)))))))
def m_led_from : List PyData → Option PyData := runD 6 b_led_from
theorem ok_led_from {P : Program} {w : World} {K : PySem.W.Frag} {mg : Str → Option Value} {base : Heap} {f : Addr} {fd : FuncData} (F : Fun K "led_from" "led_from" s_led_from f fd) (n_len : mg "len" = none) (n_list : mg "list" = none) :
    FnG P w K mg base 1 f fd ["starts", "leads"] (spD K 2 m_led_from) :=
  fn_DG F sc_led_from (by decide) (fun cdv A outer s0 H E U hr gd =>
      show PSs _ _ (tS K U 0 b_led_from) from
      (qs_cons (qs_setDc (i := 2) (own := [("start", 7)]) rfl sc_led_from.nd rfl rfl (sw_dc rfl rfl rfl (by decide +kernel)) (qi_its (qe_var 0 (pv 0))) (blkOk_by (own := [("start", 7)]) (N := ["starts", "leads", "ahead", "row", "at", "one", "other", "start"]) (sc := defScope s_led_from) (by decide +kernel)) (by decide) (fun _ _ _ _ _ _ => (qg_name sc_led_from.nd (i := 7) rfl (by first | exact Or.inl rfl | exact Or.inr rfl))) (fun _ _ _ _ _ _ => qts_nil) (fun _ _ _ _ _ _ => (qe_var 7 (pv 7))) (fun _ _ _ _ _ _ => qe_non))
      (qs_cons (qs_setF sc_led_from.nd (i := 3) rfl (by first | exact Or.inl rfl | exact Or.inr rfl) (qn_listDO 2 rfl (pv 2) (by rfl) n_list (by decide +kernel)))
      (qs_cons (qs_set sc_led_from.nd (i := 4) rfl (by first | exact Or.inl rfl | exact Or.inr rfl) qe_int)
      (qs_cons (qs_while 10000 PySem.PassesOwn.never (qt_cmp op_lt od_lt (qe_var 4 (pv 4)) (qe_lenO 3 (pv 3) (by rfl) rfl n_len (by decide +kernel)) (by rfl)) (qs_cons (qs_set sc_led_from.nd (i := 5) rfl (by first | exact Or.inl rfl | exact Or.inr rfl) (qe_ixO 3 (pv 3) (qe_var 4 (pv 4))))
      (qs_cons (qs_for PySem.PassesOwn.never rfl (qi_its (qe_get2 (room1 hr) (qe_var 1 (pv 1)) (qe_var 5 (pv 5)) (qe_tup qa_nil) ⟨by rfl, by rfl, by rfl, by rfl⟩)) (qg_name sc_led_from.nd (i := 6) rfl (by first | exact Or.inl rfl | exact Or.inr rfl)) (qs_one (qs_if (qt_dNotInO 2 (room1 hr) (qe_var 6 (pv 6)) (pv 2)) (qs_cons (qs_dput (i := 2) (room1 hr) (pv 2) (qe_var 5 (pv 5)) (qe_var 6 (pv 6)))
      (qs_one (qs_app (i := 3) (pv 3) (qe_var 6 (pv 6))))) qs_nil)))
      (qs_one (qs_aug (i := 4) or_addI od_addI sc_led_from.nd rfl (by first | exact Or.inl rfl | exact Or.inr rfl) qe_int)))))
      (qs_frz 2 (qs_one (qs_ret (qe_var 2 (pv 2))))))))))
/-! ### way_back -/
abbrev s_way_back : Stmt := topS 2
theorem sc_way_back : FnScope ["ahead", "one", "way"] ["ahead", "one"] (defScope s_way_back) := ⟨rfl, rfl, rfl, by decide +kernel, rfl, by decide +kernel, by decide +kernel⟩
def b_way_back : Es := (sSeq (sNew 2 (eCons (eV 1) eNil))
    (sSeq (whileS (eT blD (eBin isNotD (eBin dixD (eV 0) (eIxO 2 (eMap (eC (.int 1)) negD))) (eC .none))) (sApp 2 (eBin dixD (eV 0) (eIxO 2 (eMap (eC (.int 1)) negD)))) 10000)
    (sFrz 2 (sRetF (eMap (eV 2) TX.revL)))))
def m_way_back : List PyData → Option PyData := runN 1 b_way_back
theorem ok_way_back {P : Program} {w : World} {K : PySem.W.Frag} {mg : Str → Option Value} {base : Heap} {f : Addr} {fd : FuncData} (F : Fun K "way_back" "way_back" s_way_back f fd) :
    FnG P w K mg base 1 f fd ["ahead", "one"] (spN K 2 m_way_back) :=
  fn_NG F sc_way_back (by decide) (fun cdv A outer s0 H E U hr gd =>
      show PSs _ _ (tS K U 0 b_way_back) from
      (qs_cons (qs_new sc_way_back.nd (i := 2) rfl (by first | exact Or.inl rfl | exact Or.inr rfl) (qa_cons (qe_var 1 (pv 1)) qa_nil))
      (qs_cons (qs_while 10000 PySem.PassesOwn.never (qt_cmp (opr_or op_notN op_notBl) od_isNot (qe_dIx (room1 hr) (qe_var 0 (pv 0)) (qe_ixO 2 (pv 2) (qe_neg qe_int))) qe_non (by rfl)) (qs_one (qs_app (i := 2) (pv 2) (qe_dIx (room1 hr) (qe_var 0 (pv 0)) (qe_ixO 2 (pv 2) (qe_neg qe_int))))))
      (qs_frz 2 (qs_one (qs_retF (TX.qn_rev (qe_var 2 (pv 2)))))))))
/-! ### _led -/
abbrev s__led : Stmt := topS 6
theorem sc__led : FnScope ["net", "others", "_", "roots", "leads", "one", "other"] ["net"] (defScope s__led) := ⟨rfl, rfl, rfl, by decide +kernel, rfl, by decide +kernel, by decide +kernel⟩
def b__led : Es := (sSeq (sAsg (eV 0) (hTup (hCons (hNm 2) (hCons (hNm 3) (hCons (hNm 4) hNil))) 3))
    (sSeq (sSetF 1 eDct)
    (sSeq (sGrp 1 5 6 (eIts (eV 4)))
    (sFrz 1 (sRet (eMap (eCons (eV 3) (eCons (eV 1) eNil)) (arN 2 m_led_from)))))))
def m__led : List PyData → Option PyData := runD 6 b__led
theorem ok__led {P : Program} {w : World} {K : PySem.W.Frag} {mg : Str → Option Value} {base : Heap} {f : Addr} {fd : FuncData} (F : Fun K "_led" "_led" s__led f fd) (C_led_from : CalG P w K mg base "led_from" 1 ["starts", "leads"] (spD K 2 m_led_from)) :
    FnG P w K mg base 2 f fd ["net"] (spD K 1 m__led) :=
  fn_DG F sc__led (by decide) (fun cdv A outer s0 H E U hr gd =>
      show PSs _ _ (tS K U 0 b__led) from
      (qs_cons (qs_asg (qe_var 0 (pv 0)) (qg_tup rfl (qgs_cons (qg_name sc__led.nd (i := 2) rfl (by first | exact Or.inl rfl | exact Or.inr rfl)) (qgs_cons (qg_name sc__led.nd (i := 3) rfl (by first | exact Or.inl rfl | exact Or.inr rfl)) (qgs_cons (qg_name sc__led.nd (i := 4) rfl (by first | exact Or.inl rfl | exact Or.inr rfl)) qgs_nil)))))
      (qs_cons (qs_setF sc__led.nd (i := 1) rfl (by first | exact Or.inl rfl | exact Or.inr rfl) qn_dct)
      (qs_cons (qs_grp (i := 1) (a := 5) (b := 6) PySem.PassesOwn.never rfl (qi_its (qe_var 4 (pv 4))) (fun _ => (qg_tup rfl (qgs_cons (qg_name sc__led.nd (i := 5) rfl (by first | exact Or.inl rfl | exact Or.inr rfl)) (qgs_cons (qg_name sc__led.nd (i := 6) rfl (by first | exact Or.inl rfl | exact Or.inr rfl)) qgs_nil)))) (pv 1) (pv 5) (pv 6) (by decide) (by decide) (by decide) ⟨by rfl, by rfl, by rfl, by rfl⟩)
      (qs_frz 1 (qs_one (qs_ret (qc_callG C_led_from hr gd (by decide) (qa_cons (qe_var 3 (pv 3)) (qa_cons (qe_var 1 (pv 1)) qa_nil))))))))))
/-! ### _law_feed -/
abbrev s__law_feed : Stmt := topS 8
theorem sc__law_feed : FnScope ["script", "k", "one", "digits"] ["script", "k"] (defScope s__law_feed) := ⟨rfl, rfl, rfl, by decide +kernel, rfl, by decide +kernel, by decide +kernel⟩
def b__law_feed : Es := (sSeq (sSet 2 (eBin addD (eBin mulD (eC (.int 67)) (eV 1)) (eC (.int 19))))
    (sSeq (sIf (eT blD (eBin ltD (eV 1) (eMap (eCons (eV 0) eNil) lenD))) (sSet 2 (eBin ixD (eV 0) (eV 1))) sNil)
    (sSeq (sSet 3 (eC (.int 0)))
    (sSeq (sIf (eT blD (eBin geD (eMap (eCons (eV 2) eNil) absD) (eBin powD (eC (.int 10)) (eC (.int 18))))) (sSet 3 (eBin subD (eMap (eCons (eV 2) eNil) absD) (eBin powD (eC (.int 10)) (eC (.int 18))))) sNil)
    (sRetL (eCons (eV 3) (eCons (eBin modD (eBin addD (eBin addD (eBin mulD (eV 2) (eC (.int 6364136223846793005))) (eBin mulD (eC (.int 7919)) (eV 1))) (eC (.int 1442695040888963407))) (eC (.int 2305843009213693951))) eNil)))))))
def m__law_feed : List PyData → Option PyData := runN 2 b__law_feed
theorem ok__law_feed {P : Program} {w : World} {K : PySem.W.Frag} {mg : Str → Option Value} {base : Heap} {f : Addr} {fd : FuncData} (F : Fun K "_law_feed" "_law_feed" s__law_feed f fd) (n_abs : mg "abs" = none) (n_len : mg "len" = none) :
    FnG P w K mg base 1 f fd ["script", "k"] (spN K 2 m__law_feed) :=
  fn_NG F sc__law_feed (by decide) (fun cdv A outer s0 H E U hr gd =>
      show PSs _ _ (tS K U 0 b__law_feed) from
      (qs_cons (qs_set sc__law_feed.nd (i := 2) rfl (by first | exact Or.inl rfl | exact Or.inr rfl) (qe_add (qe_mul qe_int (qe_var 1 (pv 1))) qe_int))
      (qs_cons (qs_if (qt_cmp op_lt od_lt (qe_var 1 (pv 1)) (qe_callB call_len cd_len (by rfl) n_len (by decide +kernel) (qa_cons (qe_var 0 (pv 0)) qa_nil)) (by rfl)) (qs_one (qs_set sc__law_feed.nd (i := 2) rfl (by first | exact Or.inl rfl | exact Or.inr rfl) (qe_ix (qe_var 0 (pv 0)) (qe_var 1 (pv 1))))) qs_nil)
      (qs_cons (qs_set sc__law_feed.nd (i := 3) rfl (by first | exact Or.inl rfl | exact Or.inr rfl) qe_int)
      (qs_cons (qs_if (qt_cmp op_ge od_ge (qe_callB call_abs cd_abs (by rfl) n_abs (by decide +kernel) (qa_cons (qe_var 2 (pv 2)) qa_nil)) (qe_pow qe_int qe_int) (by rfl)) (qs_one (qs_set sc__law_feed.nd (i := 3) rfl (by first | exact Or.inl rfl | exact Or.inr rfl) (qe_sub (qe_callB call_abs cd_abs (by rfl) n_abs (by decide +kernel) (qa_cons (qe_var 2 (pv 2)) qa_nil)) (qe_pow qe_int qe_int)))) qs_nil)
      (qs_one (qs_retL (qa_cons (qe_var 3 (pv 3)) (qa_cons (qe_mod (qe_add (qe_add (qe_mul (qe_var 2 (pv 2)) qe_int) (qe_mul qe_int (qe_var 1 (pv 1)))) qe_int) qe_int) qa_nil)))))))))
/-! ### _law_take -/
abbrev s__law_take : Stmt := topS 9
theorem sc__law_take : FnScope ["feed", "many", "found"] ["feed", "many"] (defScope s__law_take) := ⟨rfl, rfl, rfl, by decide +kernel, rfl, by decide +kernel, by decide +kernel⟩
def b__law_take : Es := (sSeq (sIf (eT blD (eBin gtD (eIxO 0 (eC (.int 0))) (eC (.int 0)))) (sSeq (sSet 2 (eBin modD (eIxO 0 (eC (.int 0))) (eV 1)))
    (sSeq (sPut 0 (eBin fdivD (eIxO 0 (eC (.int 0))) (eV 1)) (eC (.int 0)))
    (sRet (eV 2)))) sNil)
    (sSeq (sPut 0 (eBin modD (eBin addD (eBin mulD (eIxO 0 (eC (.int 1))) (eC (.int 48271))) (eC (.int 12345))) (eC (.int 2305843009213693951))) (eC (.int 1)))
    (sRet (eBin modD (eBin fdivD (eIxO 0 (eC (.int 1))) (eC (.int 2097152))) (eV 1)))))
def m__law_take : PyData → List PyData → Option (PyData × PyData) := runR 1 b__law_take
theorem ok__law_take {P : Program} {w : World} {K : PySem.W.Frag} {mg : Str → Option Value} {base : Heap} {f : Addr} {fd : FuncData} (F : Fun K "_law_take" "_law_take" s__law_take f fd) :
    FnG P w K mg base 1 f fd ["feed", "many"] (spR K 1 m__law_take) :=
  fn_RG F sc__law_take (by decide) (fun cdv A outer s0 H E U hr gd =>
      show PSs _ _ (tS K U 1 b__law_take) from
      (qs_cons (qs_if (qt_cmp op_gt od_gt (qe_ixO 0 (pv 0) qe_int) qe_int (by rfl)) (qs_cons (qs_set sc__law_take.nd (i := 2) rfl (by first | exact Or.inl rfl | exact Or.inr rfl) (qe_mod (qe_ixO 0 (pv 0) qe_int) (qe_var 1 (pv 1))))
      (qs_cons (qs_put (i := 0) (pv 0) (qe_fdiv (qe_ixO 0 (pv 0) qe_int) (qe_var 1 (pv 1))) qe_int (fun ho hi => pg_sub ho hi set_list))
      (qs_one (qs_ret (qe_var 2 (pv 2)))))) qs_nil)
      (qs_cons (qs_put (i := 0) (pv 0) (qe_mod (qe_add (qe_mul (qe_ixO 0 (pv 0) qe_int) qe_int) qe_int) qe_int) qe_int (fun ho hi => pg_sub ho hi set_list))
      (qs_one (qs_ret (qe_mod (qe_fdiv (qe_ixO 0 (pv 0) qe_int) qe_int) (qe_var 1 (pv 1))))))))
/-! ### _law_pick -/
abbrev s__law_pick : Stmt := topS 10
theorem sc__law_pick : FnScope ["feed", "some"] ["feed", "some"] (defScope s__law_pick) := ⟨rfl, rfl, rfl, by decide +kernel, rfl, by decide +kernel, by decide +kernel⟩
def b__law_pick : Es := (sRet (eBin ixD (eV 1) (eCallR 1 0 m__law_take (eCons (eMap (eCons (eV 1) eNil) lenD) eNil))))
def m__law_pick : PyData → List PyData → Option (PyData × PyData) := runR 0 b__law_pick
theorem ok__law_pick {P : Program} {w : World} {K : PySem.W.Frag} {mg : Str → Option Value} {base : Heap} {f : Addr} {fd : FuncData} (F : Fun K "_law_pick" "_law_pick" s__law_pick f fd) (n_len : mg "len" = none) (C__law_take : CalG P w K mg base "_law_take" 1 ["feed", "many"] (spR K 1 m__law_take)) :
    FnG P w K mg base 2 f fd ["feed", "some"] (spR K 1 m__law_pick) :=
  fn_RG F sc__law_pick (by decide) (fun cdv A outer s0 H E U hr gd =>
      show PSs _ _ (tS K U 1 b__law_pick) from
      (qs_one (qs_ret (qe_ix (qe_var 1 (pv 1)) (qc_callRG 0 C__law_take hr gd (by decide) (pv 0) (qa_cons (qe_callB call_len cd_len (by rfl) n_len (by decide +kernel) (qa_cons (qe_var 1 (pv 1)) qa_nil)) qa_nil))))))
/-! ### _law_whole -/
abbrev s__law_whole : Stmt := topS 11
theorem sc__law_whole : FnScope ["found"] ["found"] (defScope s__law_whole) := ⟨rfl, rfl, rfl, by decide +kernel, rfl, by decide +kernel, by decide +kernel⟩
def b__law_whole : Es := (sRet (eAndV (eMap (eV 0) (isiD "int")) (eMap (eMap (eV 0) (isiD "bool")) notD)))
def m__law_whole : List PyData → Option PyData := runD 0 b__law_whole
theorem ok__law_whole {P : Program} {w : World} {K : PySem.W.Frag} {mg : Str → Option Value} {base : Heap} {f : Addr} {fd : FuncData} (F : Fun K "_law_whole" "_law_whole" s__law_whole f fd) (n_bool : mg "bool" = none) (n_int : mg "int" = none) (n_isinstance : mg "isinstance" = none) :
    FnG P w K mg base 1 f fd ["found"] (spD K 1 m__law_whole) :=
  fn_DG F sc__law_whole (by decide) (fun cdv A outer s0 H E U hr gd =>
      show PSs _ _ (tS K U 0 b__law_whole) from
      (qs_one (qs_ret (qe_and (qe_isi (T := "int") (by decide +kernel) (by rfl) n_isinstance (by rfl) n_int (by decide +kernel) (qe_var 0 (pv 0))) (qe_one (qe_not (qe_isi (T := "bool") (by decide +kernel) (by rfl) n_isinstance (by rfl) n_bool (by decide +kernel) (qe_var 0 (pv 0)))))))))
/-! ### _law_net -/
abbrev s__law_net : Stmt := topS 12
theorem sc__law_net : FnScope ["feed", "most", "many", "roots", "turn", "way", "leads", "one", "other"] ["feed", "most"] (defScope s__law_net) := ⟨rfl, rfl, rfl, by decide +kernel, rfl, by decide +kernel, by decide +kernel⟩
def b__law_net : Es := (sSeq (sSet 2 (eCallR 1 0 m__law_pick (eCons (eLst (eCons (eV 1) (eCons (eBin addD (eC (.int 1)) (eCallR 1 0 m__law_take (eCons (eC (.int 6)) eNil))) (eCons (eCallR 1 0 m__law_take (eCons (eBin addD (eV 1) (eC (.int 1))) eNil)) eNil)))) eNil)))
    (sSeq (sIf (eT blD (eBin eqX (eV 2) (eC (.int 0)))) (sRet (eTup (eCons (eC (.int 0)) (eCons (eLst eNil) (eCons (eLst eNil) eNil))))) sNil)
    (sSeq (sSetF 3 eDct)
    (sSeq (sFor (eRg1 (eCons (eCallR 1 0 m__law_pick (eCons (eLst (eCons (eC (.int 0)) (eCons (eC (.int 1)) (eCons (eC (.int 1)) (eCons (eC (.int 2)) (eCons (eC (.int 4)) eNil)))))) eNil)) eNil)) (hNm 4) (sDput 3 (eC (.bool true)) (eCallR 1 0 m__law_take (eCons (eV 2) eNil))))
    (sSeq (sSet 5 (eCallR 1 0 m__law_take (eCons (eC (.int 4)) eNil)))
    (sSeq (sNew 6 eNil)
    (sSeq (sFor (eRg1 (eCons (eCallR 1 0 m__law_pick (eCons (eLst (eCons (eV 2) (eCons (eBin fdivD (eV 2) (eC (.int 2))) (eCons (eBin mulD (eC (.int 2)) (eV 2)) (eCons (eCallR 1 0 m__law_take (eCons (eC (.int 4)) eNil)) eNil))))) eNil)) eNil)) (hNm 4) (sSeq (sSet 7 (eBin ixD (eLst (eCons (eCallR 1 0 m__law_take (eCons (eV 2) eNil)) (eCons (eBin modD (eV 4) (eV 2)) (eCons (eCallR 1 0 m__law_take (eCons (eV 2) eNil)) (eCons (eCallR 1 0 m__law_take (eCons (eBin addD (eC (.int 1)) (eBin fdivD (eV 2) (eC (.int 3)))) eNil)) eNil))))) (eV 5)))
    (sSeq (sSet 8 (eBin ixD (eLst (eCons (eCallR 1 0 m__law_take (eCons (eV 2) eNil)) (eCons (eBin modD (eBin addD (eV 4) (eC (.int 1))) (eV 2)) (eCons (eMap (eCons (eBin subD (eV 2) (eC (.int 1))) (eCons (eBin addD (eV 7) (eC (.int 1))) eNil)) min2D) (eCons (eCallR 1 0 m__law_take (eCons (eV 2) eNil)) eNil))))) (eV 5)))
    (sApp 6 (eCallR 1 0 m__law_pick (eCons (eLst (eCons (eTup (eCons (eV 7) (eCons (eV 8) eNil))) (eCons (eTup (eCons (eV 7) (eCons (eV 8) eNil))) (eCons (eTup (eCons (eCallR 1 0 m__law_take (eCons (eV 2) eNil)) (eCons (eV 7) eNil))) eNil)))) eNil))))))
    (sFrz 6 (sFrz 3 (sRet (eTup (eCons (eV 2) (eCons (eMap (eCons (eV 3) eNil) TX.sortDL) (eCons (eV 6) eNil))))))))))))))
def m__law_net : PyData → List PyData → Option (PyData × PyData) := runR 7 b__law_net
theorem ok__law_net {P : Program} {w : World} {K : PySem.W.Frag} {mg : Str → Option Value} {base : Heap} {f : Addr} {fd : FuncData} (F : Fun K "_law_net" "_law_net" s__law_net f fd) (n_min : mg "min" = none) (n_range : mg "range" = none) (n_sorted : mg "sorted" = none) (C__law_pick : CalG P w K mg base "_law_pick" 2 ["feed", "some"] (spR K 1 m__law_pick)) (C__law_take : CalG P w K mg base "_law_take" 1 ["feed", "many"] (spR K 1 m__law_take)) :
    FnG P w K mg base 3 f fd ["feed", "most"] (spR K 1 m__law_net) :=
  fn_RG F sc__law_net (by decide) (fun cdv A outer s0 H E U hr gd =>
      show PSs _ _ (tS K U 1 b__law_net) from
      (qs_cons (qs_set sc__law_net.nd (i := 2) rfl (by first | exact Or.inl rfl | exact Or.inr rfl) (qc_callRG 0 C__law_pick hr gd (by decide) (pv 0) (qa_cons (qe_lst (qa_cons (qe_var 1 (pv 1)) (qa_cons (qe_add qe_int (qc_callRG 0 C__law_take hr gd (by decide) (pv 0) (qa_cons qe_int qa_nil))) (qa_cons (qc_callRG 0 C__law_take hr gd (by decide) (pv 0) (qa_cons (qe_add (qe_var 1 (pv 1)) qe_int) qa_nil)) qa_nil)))) qa_nil)))
      (qs_cons (qs_if (qt_cmp (op_eqX hr.units) od_eqX (qe_var 2 (pv 2)) qe_int (by rfl)) (qs_one (qs_ret (qe_tup (qa_cons qe_int (qa_cons (qe_lst qa_nil) (qa_cons (qe_lst qa_nil) qa_nil)))))) qs_nil)
      (qs_cons (qs_setF sc__law_net.nd (i := 3) rfl (by first | exact Or.inl rfl | exact Or.inr rfl) qn_dct)
      (qs_cons (qs_for PySem.PassesOwn.never rfl (qi_range1 (by rfl) n_range (qa_cons (qc_callRG 0 C__law_pick hr gd (by decide) (pv 0) (qa_cons (qe_lst (qa_cons qe_int (qa_cons qe_int (qa_cons qe_int (qa_cons qe_int (qa_cons qe_int qa_nil)))))) qa_nil)) qa_nil)) (qg_name sc__law_net.nd (i := 4) rfl (by first | exact Or.inl rfl | exact Or.inr rfl)) (qs_one (qs_dput (i := 3) (room1 hr) (pv 3) qe_bl (qc_callRG 0 C__law_take hr gd (by decide) (pv 0) (qa_cons (qe_var 2 (pv 2)) qa_nil)))))
      (qs_cons (qs_set sc__law_net.nd (i := 5) rfl (by first | exact Or.inl rfl | exact Or.inr rfl) (qc_callRG 0 C__law_take hr gd (by decide) (pv 0) (qa_cons qe_int qa_nil)))
      (qs_cons (qs_new sc__law_net.nd (i := 6) rfl (by first | exact Or.inl rfl | exact Or.inr rfl) qa_nil)
      (qs_cons (qs_for PySem.PassesOwn.never rfl (qi_range1 (by rfl) n_range (qa_cons (qc_callRG 0 C__law_pick hr gd (by decide) (pv 0) (qa_cons (qe_lst (qa_cons (qe_var 2 (pv 2)) (qa_cons (qe_fdiv (qe_var 2 (pv 2)) qe_int) (qa_cons (qe_mul qe_int (qe_var 2 (pv 2))) (qa_cons (qc_callRG 0 C__law_take hr gd (by decide) (pv 0) (qa_cons qe_int qa_nil)) qa_nil))))) qa_nil)) qa_nil)) (qg_name sc__law_net.nd (i := 4) rfl (by first | exact Or.inl rfl | exact Or.inr rfl)) (qs_cons (qs_set sc__law_net.nd (i := 7) rfl (by first | exact Or.inl rfl | exact Or.inr rfl) (qe_ix (qe_lst (qa_cons (qc_callRG 0 C__law_take hr gd (by decide) (pv 0) (qa_cons (qe_var 2 (pv 2)) qa_nil)) (qa_cons (qe_mod (qe_var 4 (pv 4)) (qe_var 2 (pv 2))) (qa_cons (qc_callRG 0 C__law_take hr gd (by decide) (pv 0) (qa_cons (qe_var 2 (pv 2)) qa_nil)) (qa_cons (qc_callRG 0 C__law_take hr gd (by decide) (pv 0) (qa_cons (qe_add qe_int (qe_fdiv (qe_var 2 (pv 2)) qe_int)) qa_nil)) qa_nil))))) (qe_var 5 (pv 5))))
      (qs_cons (qs_set sc__law_net.nd (i := 8) rfl (by first | exact Or.inl rfl | exact Or.inr rfl) (qe_ix (qe_lst (qa_cons (qc_callRG 0 C__law_take hr gd (by decide) (pv 0) (qa_cons (qe_var 2 (pv 2)) qa_nil)) (qa_cons (qe_mod (qe_add (qe_var 4 (pv 4)) qe_int) (qe_var 2 (pv 2))) (qa_cons (qe_callB (call_min2 rfl) cd_min (by rfl) n_min (by decide +kernel) (qa_cons (qe_sub (qe_var 2 (pv 2)) qe_int) (qa_cons (qe_add (qe_var 7 (pv 7)) qe_int) qa_nil))) (qa_cons (qc_callRG 0 C__law_take hr gd (by decide) (pv 0) (qa_cons (qe_var 2 (pv 2)) qa_nil)) qa_nil))))) (qe_var 5 (pv 5))))
      (qs_one (qs_app (i := 6) (pv 6) (qc_callRG 0 C__law_pick hr gd (by decide) (pv 0) (qa_cons (qe_lst (qa_cons (qe_tup (qa_cons (qe_var 7 (pv 7)) (qa_cons (qe_var 8 (pv 8)) qa_nil))) (qa_cons (qe_tup (qa_cons (qe_var 7 (pv 7)) (qa_cons (qe_var 8 (pv 8)) qa_nil))) (qa_cons (qe_tup (qa_cons (qc_callRG 0 C__law_take hr gd (by decide) (pv 0) (qa_cons (qe_var 2 (pv 2)) qa_nil)) (qa_cons (qe_var 7 (pv 7)) qa_nil))) qa_nil)))) qa_nil)))))))
      (qs_frz 6 (qs_frz 3 (qs_one (qs_ret (qe_tup (qa_cons (qe_var 2 (pv 2)) (qa_cons (qe_new (qn_callB (TX.call_sortedDL rfl) TX.cn_sortDL (by rfl) n_sorted (by decide +kernel) (qa_cons (qe_var 3 (pv 3)) qa_nil))) (qa_cons (qe_var 6 (pv 6)) qa_nil))))))))))))))))
/-! ### _law_rounds -/
abbrev s__law_rounds : Stmt := topS 13
theorem sc__law_rounds : FnScope ["net", "found", "turn", "many", "roots", "leads", "one", "other", "root"] ["net"] (defScope s__law_rounds) := ⟨rfl, rfl, rfl, by decide +kernel, rfl, by decide +kernel, by decide +kernel⟩
def b__law_rounds : Es := (sSeq (sAsg (eV 0) (hTup (hCons (hNm 3) (hCons (hNm 4) (hCons (hNm 5) hNil))) 3))
    (sSeq (sSetF 1 (eMap (eCons (eLc (eIts (eV 4)) [8] (hNm 8) eYes (eTup (eCons (eV 8) (eCons (eC (.int 0)) eNil)))) eNil) dictN))
    (sSeq (sFor (eRg1 (eCons (eV 3) eNil)) (hNm 2) (sFor (eIts (eV 5)) (hTup (hCons (hNm 6) (hCons (hNm 7) hNil)) 2) (sIf (eAnd (eT blD (eInO 1 (dinD false) (eV 6))) (eAnd (eT blD (eInO 1 (dinD true) (eV 7))) (eT blD (eBin eqX (eDixO 1 (eV 6)) (eV 2))))) (sDput 1 (eBin addD (eV 2) (eC (.int 1))) (eV 7)) sNil)))
    (sFrz 1 (sRet (eV 1))))))
def m__law_rounds : List PyData → Option PyData := runD 8 b__law_rounds
theorem ok__law_rounds {P : Program} {w : World} {K : PySem.W.Frag} {mg : Str → Option Value} {base : Heap} {f : Addr} {fd : FuncData} (F : Fun K "_law_rounds" "_law_rounds" s__law_rounds f fd) (n_dict : mg "dict" = none) (n_range : mg "range" = none) :
    FnG P w K mg base 1 f fd ["net"] (spD K 1 m__law_rounds) :=
  fn_DG F sc__law_rounds (by decide) (fun cdv A outer s0 H E U hr gd =>
      show PSs _ _ (tS K U 0 b__law_rounds) from
      (qs_cons (qs_asg (qe_var 0 (pv 0)) (qg_tup rfl (qgs_cons (qg_name sc__law_rounds.nd (i := 3) rfl (by first | exact Or.inl rfl | exact Or.inr rfl)) (qgs_cons (qg_name sc__law_rounds.nd (i := 4) rfl (by first | exact Or.inl rfl | exact Or.inr rfl)) (qgs_cons (qg_name sc__law_rounds.nd (i := 5) rfl (by first | exact Or.inl rfl | exact Or.inr rfl)) qgs_nil)))))
      (qs_cons (qs_setF sc__law_rounds.nd (i := 1) rfl (by first | exact Or.inl rfl | exact Or.inr rfl) (qn_callTy (call_dictP rfl) cn_dict (by rfl) n_dict (by decide +kernel) (qa_cons (qe_lc (own := [("root", 8)]) rfl sc__law_rounds.nd (qi_its (qe_var 4 (pv 4))) (blkOk_by (own := [("root", 8)]) (N := ["net", "found", "turn", "many", "roots", "leads", "one", "other", "root"]) (sc := defScope s__law_rounds) (by decide +kernel)) (by decide) (fun _ _ _ _ _ _ => (qg_name sc__law_rounds.nd (i := 8) rfl (by first | exact Or.inl rfl | exact Or.inr rfl))) (fun _ _ _ _ _ _ => qts_nil) (fun _ _ _ _ _ _ => (qe_tup (qa_cons (qe_var 8 (pv 8)) (qa_cons qe_int qa_nil))))) qa_nil)))
      (qs_cons (qs_for PySem.PassesOwn.never rfl (qi_range1 (by rfl) n_range (qa_cons (qe_var 3 (pv 3)) qa_nil)) (qg_name sc__law_rounds.nd (i := 2) rfl (by first | exact Or.inl rfl | exact Or.inr rfl)) (qs_one (qs_for PySem.PassesOwn.never rfl (qi_its (qe_var 5 (pv 5))) (qg_tup rfl (qgs_cons (qg_name sc__law_rounds.nd (i := 6) rfl (by first | exact Or.inl rfl | exact Or.inr rfl)) (qgs_cons (qg_name sc__law_rounds.nd (i := 7) rfl (by first | exact Or.inl rfl | exact Or.inr rfl)) qgs_nil))) (qs_one (qs_if (PW.pt (qw_and (qt_dInO 1 (room1 hr) (qe_var 6 (pv 6)) (pv 1)) (qw_and (qt_dNotInO 1 (room1 hr) (qe_var 7 (pv 7)) (pv 1)) (qw_and1 (qt_cmp (op_eqX hr.units) od_eqX (qe_dIxO 1 (room1 hr) (pv 1) (qe_var 6 (pv 6))) (qe_var 2 (pv 2)) (by rfl)))))) (qs_one (qs_dput (i := 1) (room1 hr) (pv 1) (qe_add (qe_var 2 (pv 2)) qe_int) (qe_var 7 (pv 7)))) qs_nil)))))
      (qs_frz 1 (qs_one (qs_ret (qe_var 1 (pv 1)))))))))
/-! ### _law_way_right -/
abbrev s__law_way_right : Stmt := topS 14
theorem sc__law_way_right : FnScope ["net", "found", "number", "way", "at", "one"] ["net", "found", "number", "way"] (defScope s__law_way_right) := ⟨rfl, rfl, rfl, by decide +kernel, rfl, by decide +kernel, by decide +kernel⟩
def b__law_way_right : Es := (sSeq (sIf (eT blD (eBin (dinD true) (eV 2) (eV 1))) (sRet (eBin isD (eV 3) (eC .none))) sNil)
    (sSeq (sIf (eOr (eNot (eT truD (eMap (eV 3) (isiD "list")))) (eOr (eT blD (eBin neX (eMap (eCons (eV 3) eNil) lenD) (eBin addD (eBin dixD (eV 1) (eV 2)) (eC (.int 1))))) (eT blD (eBin inD (eC (.bool false)) (eLc (eIts (eV 3)) [5] (hNm 5) eYes (eMap (eCons (eV 5) eNil) (arN 1 m__law_whole))))))) (sRet (eC (.bool false))) sNil)
    (sSeq (sIf (eOr (eT blD (eBin notInD (eBin ixD (eV 3) (eC (.int 0))) (eBin ixD (eV 0) (eC (.int 1))))) (eT blD (eBin neX (eBin ixD (eV 3) (eMap (eC (.int 1)) negD)) (eV 2)))) (sRet (eC (.bool false))) sNil)
    (sRet (eBin eqX (eLc (eRg1 (eCons (eBin subD (eMap (eCons (eV 3) eNil) lenD) (eC (.int 1))) eNil)) [4] (hNm 4) (eT blD (eBin notInD (eTup (eCons (eBin ixD (eV 3) (eV 4)) (eCons (eBin ixD (eV 3) (eBin addD (eV 4) (eC (.int 1)))) eNil))) (eBin ixD (eV 0) (eC (.int 2))))) (eV 4)) (eLst eNil))))))
def m__law_way_right : List PyData → Option PyData := runD 2 b__law_way_right
theorem ok__law_way_right {P : Program} {w : World} {K : PySem.W.Frag} {mg : Str → Option Value} {base : Heap} {f : Addr} {fd : FuncData} (F : Fun K "_law_way_right" "_law_way_right" s__law_way_right f fd) (n_isinstance : mg "isinstance" = none) (n_len : mg "len" = none) (n_list : mg "list" = none) (n_range : mg "range" = none) (C__law_whole : CalG P w K mg base "_law_whole" 1 ["found"] (spD K 1 m__law_whole)) :
    FnG P w K mg base 2 f fd ["net", "found", "number", "way"] (spD K 4 m__law_way_right) :=
  fn_DG F sc__law_way_right (by decide) (fun cdv A outer s0 H E U hr gd =>
      show PSs _ _ (tS K U 0 b__law_way_right) from
      (qs_cons (qs_if (qt_dNotIn (room1 hr) (qe_var 2 (pv 2)) (qe_var 1 (pv 1))) (qs_one (qs_ret (qe_cmp (opr_or op_isN op_isBl) od_is (qe_var 3 (pv 3)) qe_non (by rfl)))) qs_nil)
      (qs_cons (qs_if (PW.pt (qw_or (qt_not (qt_tru (qe_isi (T := "list") (by decide +kernel) (by rfl) n_isinstance (by rfl) n_list (by decide +kernel) (qe_var 3 (pv 3))))) (qw_or (qt_cmp (op_neX hr.units) od_neX (qe_callB call_len cd_len (by rfl) n_len (by decide +kernel) (qa_cons (qe_var 3 (pv 3)) qa_nil)) (qe_add (qe_dIx (room1 hr) (qe_var 1 (pv 1)) (qe_var 2 (pv 2))) qe_int) (by rfl)) (qw_or1 (qt_cmp (or_inAll (room65 hr)) od_in qe_bl (qe_lc (own := [("one", 5)]) rfl sc__law_way_right.nd (qi_its (qe_var 3 (pv 3))) (blkOk_by (own := [("one", 5)]) (N := ["net", "found", "number", "way", "at", "one"]) (sc := defScope s__law_way_right) (by decide +kernel)) (by decide) (fun _ _ _ _ _ _ => (qg_name sc__law_way_right.nd (i := 5) rfl (by first | exact Or.inl rfl | exact Or.inr rfl))) (fun _ _ _ _ _ _ => qts_nil) (fun _ _ _ _ _ _ => (qc_callG C__law_whole hr gd (by decide) (qa_cons (qe_var 5 (pv 5)) qa_nil)))) (by rfl)))))) (qs_one (qs_ret qe_bl)) qs_nil)
      (qs_cons (qs_if (PW.pt (qw_or (qt_cmp (or_notInAll (room65 hr)) od_notIn (qe_ix (qe_var 3 (pv 3)) qe_int) (qe_ix (qe_var 0 (pv 0)) qe_int) (by rfl)) (qw_or1 (qt_cmp (op_neX hr.units) od_neX (qe_ix (qe_var 3 (pv 3)) (qe_neg qe_int)) (qe_var 2 (pv 2)) (by rfl))))) (qs_one (qs_ret qe_bl)) qs_nil)
      (qs_one (qs_ret (qe_cmp (op_eqX hr.units) od_eqX (qe_lc (own := [("at", 4)]) rfl sc__law_way_right.nd (qi_range1 (by rfl) n_range (qa_cons (qe_sub (qe_callB call_len cd_len (by rfl) n_len (by decide +kernel) (qa_cons (qe_var 3 (pv 3)) qa_nil)) qe_int) qa_nil)) (blkOk_by (own := [("at", 4)]) (N := ["net", "found", "number", "way", "at", "one"]) (sc := defScope s__law_way_right) (by decide +kernel)) (by decide) (fun _ _ _ _ _ _ => (qg_name sc__law_way_right.nd (i := 4) rfl (by first | exact Or.inl rfl | exact Or.inr rfl))) (fun _ _ _ _ _ _ => (qts_one (qt_cmp (or_notInAll (room65 hr)) od_notIn (qe_tup (qa_cons (qe_ix (qe_var 3 (pv 3)) (qe_var 4 (pv 4))) (qa_cons (qe_ix (qe_var 3 (pv 3)) (qe_add (qe_var 4 (pv 4)) qe_int)) qa_nil))) (qe_ix (qe_var 0 (pv 0)) qe_int) (by rfl)))) (fun _ _ _ _ _ _ => (qe_var 4 (pv 4)))) (qe_lst qa_nil) (by rfl))))))))
/-! ### reached -/
abbrev s_reached : Stmt := topS 4
theorem sc_reached : FnScope ["net"] ["net"] (defScope s_reached) := ⟨rfl, rfl, rfl, by decide +kernel, rfl, by decide +kernel, by decide +kernel⟩
def b_reached : Es := (sRetF (eMap (eCons (eMap (eCons (eV 0) eNil) (arN 1 m__led)) eNil) TX.sortDL))
def m_reached : List PyData → Option TX.ROut := TX.runM 0 b_reached
theorem ok_reached {P : Program} {w : World} {K : PySem.W.Frag} {mg : Str → Option Value} {base : Heap} {f : Addr} {fd : FuncData} {aC : Addr} (F : Fun K "reached" "reached" s_reached f fd) (n_sorted : mg "sorted" = none) (C__led : CalG P w K mg base "_led" 2 ["net"] (spD K 1 m__led)) :
    TX.FnC CX0 P w K mg base 3 f fd ["net"] (TX.spX K aC 1 m_reached) :=
  TX.fn_M F sc_reached (by decide) (fun cdv A outer s0 H E U hr gd =>
      show PSs _ _ (tS K U 0 b_reached) from
      (qs_one (qs_retF (qn_callB (TX.call_sortedDL rfl) TX.cn_sortDL (by rfl) n_sorted (by decide +kernel) (qa_cons (qc_callG C__led hr gd (by decide) (qa_cons (qe_var 0 (pv 0)) qa_nil)) qa_nil)))))
/-! ### way_to -/
abbrev s_way_to : Stmt := topS 5
theorem sc_way_to : FnScope ["net", "number", "ahead"] ["net", "number"] (defScope s_way_to) := ⟨rfl, rfl, rfl, by decide +kernel, rfl, by decide +kernel, by decide +kernel⟩
def b_way_to : Es := (sSeq (sSet 2 (eMap (eCons (eV 0) eNil) (arN 1 m__led)))
    (sIf (eT blD (eBin (dinD false) (eV 1) (eV 2))) (sRetF (eMap (eCons (eV 2) (eCons (eV 1) eNil)) (arN 2 m_way_back))) (sRet (eC .none))))
def m_way_to : List PyData → Option TX.ROut := TX.runM 1 b_way_to
theorem ok_way_to {P : Program} {w : World} {K : PySem.W.Frag} {mg : Str → Option Value} {base : Heap} {f : Addr} {fd : FuncData} {aC : Addr} (F : Fun K "way_to" "way_to" s_way_to f fd) (C__led : CalG P w K mg base "_led" 2 ["net"] (spD K 1 m__led)) (C_way_back : CalG P w K mg base "way_back" 1 ["ahead", "one"] (spN K 2 m_way_back)) :
    TX.FnC CX0 P w K mg base 3 f fd ["net", "number"] (TX.spX K aC 2 m_way_to) :=
  TX.fn_M F sc_way_to (by decide) (fun cdv A outer s0 H E U hr gd =>
      show PSs _ _ (tS K U 0 b_way_to) from
      (qs_cons (qs_set sc_way_to.nd (i := 2) rfl (by first | exact Or.inl rfl | exact Or.inr rfl) (qc_callG C__led hr gd (by decide) (qa_cons (qe_var 0 (pv 0)) qa_nil)))
      (qs_one (TX.qs_retIf (qt_dIn (room1 hr) (qe_var 1 (pv 1)) (qe_var 2 (pv 2))) (qn_callG C_way_back hr gd (by decide) (qa_cons (qe_var 2 (pv 2)) (qa_cons (qe_var 1 (pv 1)) qa_nil))) qe_non))))
/-! ### _law_row_right -/
abbrev s__law_row_right : Stmt := topS 15
theorem sc__law_row_right : FnScope ["feed", "many", "root", "net", "last", "k"] ["feed"] (defScope s__law_row_right) := ⟨rfl, rfl, rfl, by decide +kernel, rfl, by decide +kernel, by decide +kernel⟩
def b__law_row_right : Es := (sSeq (sSet 1 (eBin addD (eC (.int 2)) (eCallR 1 0 m__law_take (eCons (eC (.int 260)) eNil))))
    (sSeq (sSet 2 (eCallR 1 0 m__law_take (eCons (eV 1) eNil)))
    (sSeq (sSet 3 (eTup (eCons (eV 1) (eCons (eLst (eCons (eV 2) eNil)) (eCons (eLc (eRg1 (eCons (eBin subD (eV 1) (eC (.int 1))) eNil)) [5] (hNm 5) eYes (eTup (eCons (eV 5) (eCons (eBin addD (eV 5) (eC (.int 1))) eNil)))) eNil)))))
    (sSeq (sSet 4 (eBin subD (eV 1) (eC (.int 1))))
    (sRet (eAndV (eBin eqX (TX.eFr (TX.eXD 1 [] m_reached (eCons (eV 3) eNil))) (TX.eLRg2 (eV 2) (eV 1))) (eBin eqX (TX.eFr (TX.eXD 2 [] m_way_to (eCons (eV 3) (eCons (eV 4) eNil)))) (TX.eLRg2 (eV 2) (eV 1)))))))))
def m__law_row_right : PyData → List PyData → Option (PyData × PyData) := runR 5 b__law_row_right
theorem ok__law_row_right {P : Program} {w : World} {K : PySem.W.Frag} {mg : Str → Option Value} {base : Heap} {f : Addr} {fd : FuncData} {aC : Addr} (F : Fun K "_law_row_right" "_law_row_right" s__law_row_right f fd) (n_list : mg "list" = none) (n_range : mg "range" = none) (C__law_take : CalG P w K mg base "_law_take" 1 ["feed", "many"] (spR K 1 m__law_take)) (CX_reached : TX.CalX CX0 P w K mg base "reached" 3 ["net"] [] (TX.spX K aC 1 m_reached)) (CX_way_to : TX.CalX CX0 P w K mg base "way_to" 3 ["net", "number"] [] (TX.spX K aC 2 m_way_to)) :
    FnG P w K mg base 4 f fd ["feed"] (spR K 0 m__law_row_right) :=
  fn_RG F sc__law_row_right (by decide) (fun cdv A outer s0 H E U hr gd =>
      show PSs _ _ (tS K U 1 b__law_row_right) from
      (qs_cons (qs_set sc__law_row_right.nd (i := 1) rfl (by first | exact Or.inl rfl | exact Or.inr rfl) (qe_add qe_int (qc_callRG 0 C__law_take hr gd (by decide) (pv 0) (qa_cons qe_int qa_nil))))
      (qs_cons (qs_set sc__law_row_right.nd (i := 2) rfl (by first | exact Or.inl rfl | exact Or.inr rfl) (qc_callRG 0 C__law_take hr gd (by decide) (pv 0) (qa_cons (qe_var 1 (pv 1)) qa_nil)))
      (qs_cons (qs_set sc__law_row_right.nd (i := 3) rfl (by first | exact Or.inl rfl | exact Or.inr rfl) (qe_tup (qa_cons (qe_var 1 (pv 1)) (qa_cons (qe_lst (qa_cons (qe_var 2 (pv 2)) qa_nil)) (qa_cons (qe_lc (own := [("k", 5)]) rfl sc__law_row_right.nd (qi_range1 (by rfl) n_range (qa_cons (qe_sub (qe_var 1 (pv 1)) qe_int) qa_nil)) (blkOk_by (own := [("k", 5)]) (N := ["feed", "many", "root", "net", "last", "k"]) (sc := defScope s__law_row_right) (by decide +kernel)) (by decide) (fun _ _ _ _ _ _ => (qg_name sc__law_row_right.nd (i := 5) rfl (by first | exact Or.inl rfl | exact Or.inr rfl))) (fun _ _ _ _ _ _ => qts_nil) (fun _ _ _ _ _ _ => (qe_tup (qa_cons (qe_var 5 (pv 5)) (qa_cons (qe_add (qe_var 5 (pv 5)) qe_int) qa_nil))))) qa_nil)))))
      (qs_cons (qs_set sc__law_row_right.nd (i := 4) rfl (by first | exact Or.inl rfl | exact Or.inr rfl) (qe_sub (qe_var 1 (pv 1)) qe_int))
      (qs_one (qs_ret (qe_and (qe_cmp (op_eqX hr.units) od_eqX (TX.qe_fr (TX.xc_call CX_reached hr gd (by decide) (fun _ _ _ _ _ _ _ h => h.elim) (qa_cons (qe_var 3 (pv 3)) qa_nil))) (qe_new (TX.qn_lrg2 rfl (by rfl) n_list (by rfl) n_range (qe_var 2 (pv 2)) (qe_var 1 (pv 1)))) (by rfl)) (qe_one (qe_cmp (op_eqX hr.units) od_eqX (TX.qe_fr (TX.xc_call CX_way_to hr gd (by decide) (fun _ _ _ _ _ _ _ h => h.elim) (qa_cons (qe_var 3 (pv 3)) (qa_cons (qe_var 4 (pv 4)) qa_nil)))) (qe_new (TX.qn_lrg2 rfl (by rfl) n_list (by rfl) n_range (qe_var 2 (pv 2)) (qe_var 1 (pv 1)))) (by rfl)))))))))))
/-! ### law -/
abbrev s_law : Stmt := topS 16
theorem sc_law : FnScope ["script", "k", "feed", "net", "seen", "due", "shift", "turn", "found", "turned", "number", "way"] ["script"] (defScope s_law) := ⟨rfl, rfl, rfl, by decide +kernel, rfl, by decide +kernel, by decide +kernel⟩
def b_law : Es := (sSeq (sIf (eNot (eT truD (eCallT 0 (eMap (eCons (eV 0) (eCons (eC (.int 4)) eNil)) (arN 2 m__law_feed)) m__law_row_right eNil))) (sRet (eC (.bool false))) sNil)
    (sSeq (sFor (eRg2 (eCons (eC (.int 0)) (eCons (eMap (eCons (eC (.int 1)) (eCons (eMap (eCons (eC (.int 4)) (eCons (eMap (eCons (eV 0) eNil) lenD) eNil)) min2D) eNil)) max2D) eNil))) (hNm 1) (sSeq (sSetF 2 (eMap (eCons (eV 0) (eCons (eV 1) eNil)) (arN 2 m__law_feed)))
    (sSeq (sSet 3 (eCallR 1 2 m__law_net (eCons (eBin ixD (eLst (eCons (eC (.int 90)) (eCons (eC (.int 12)) (eCons (eC (.int 8)) (eCons (eC (.int 6)) eNil))))) (eV 1)) eNil)))
    (sSeq (sSet 4 (eMap (eCons (eV 3) eNil) reprY))
    (sSeq (sSet 5 (eMap (eCons (eV 3) eNil) (arN 1 m__law_rounds)))
    (sSeq (sSet 6 (eCallR 1 2 m__law_take (eCons (eC (.int 90)) eNil)))
    (sSeq (sFor (eRg1 (eCons (eC (.int 2)) eNil)) (hNm 7) (sSeq (TX.sSetM 8 (TX.eXD 1 [] m_reached (eCons (eV 3) eNil)))
    (sSeq (sIf (TX.tLk 8 (eT blD (eBin neX (TX.eOf 8 fun d => reprY [d]) (eMap (eCons (eMap (eCons (eV 5) eNil) TX.sortDL) eNil) reprY)))) (sRet (eC (.bool false))) sNil)
    (sSeq (sApp 8 (eC (.int 7)))
    (sFor (eRg1 (eCons (eMap (eCons (eBin ixD (eV 3) (eC (.int 0))) (eCons (eC (.int 6)) eNil)) min2D) eNil)) (hNm 9) (sSeq (sSet 10 (eBin modD (eBin addD (eV 9) (eV 6)) (eBin ixD (eV 3) (eC (.int 0)))))
    (sSeq (TX.sSetM 11 (TX.eXD 2 [] m_way_to (eCons (eV 3) (eCons (eV 10) eNil))))
    (sSeq (sIf (eNot (TX.tLk 11 (eT truD (eMap (eCons (eV 3) (eCons (eV 5) (eCons (eV 10) (eCons (eV 11) eNil)))) (arN 4 m__law_way_right))))) (sRet (eC (.bool false))) sNil)
    (sIf (TX.tLk 11 (eT blD (eBin isNotD (eV 11) (eC .none)))) (sApp 11 (eV 10)) sNil)))))))))
    (sIf (eT blD (eBin neX (eMap (eCons (eV 3) eNil) reprY) (eV 4))) (sRet (eC (.bool false))) sNil))))))))
    (sRet (eC (.bool true)))))
def m_law : List PyData → Option PyData := runD 11 b_law
theorem ok_law {P : Program} {w : World} {K : PySem.W.Frag} {mg : Str → Option Value} {base : Heap} {f : Addr} {fd : FuncData} {aC : Addr} (F : Fun K "law" "law" s_law f fd) (n_len : mg "len" = none) (n_max : mg "max" = none) (n_min : mg "min" = none) (n_range : mg "range" = none) (n_repr : mg "repr" = none) (n_sorted : mg "sorted" = none) (C__law_feed : CalG P w K mg base "_law_feed" 1 ["script", "k"] (spN K 2 m__law_feed)) (C__law_net : CalG P w K mg base "_law_net" 3 ["feed", "most"] (spR K 1 m__law_net)) (C__law_rounds : CalG P w K mg base "_law_rounds" 1 ["net"] (spD K 1 m__law_rounds)) (C__law_row_right : CalG P w K mg base "_law_row_right" 4 ["feed"] (spR K 0 m__law_row_right)) (C__law_take : CalG P w K mg base "_law_take" 1 ["feed", "many"] (spR K 1 m__law_take)) (C__law_way_right : CalG P w K mg base "_law_way_right" 2 ["net", "found", "number", "way"] (spD K 4 m__law_way_right)) (CX_reached : TX.CalX CX0 P w K mg base "reached" 3 ["net"] [] (TX.spX K aC 1 m_reached)) (CX_way_to : TX.CalX CX0 P w K mg base "way_to" 3 ["net", "number"] [] (TX.spX K aC 2 m_way_to)) :
    FnG P w K mg base 5 f fd ["script"] (spD K 1 m_law) :=
  fn_DG F sc_law (by decide) (fun cdv A outer s0 H E U hr gd =>
      show PSs _ _ (tS K U 0 b_law) from
      (qs_cons (qs_if (qt_not (qt_tru (qc_callTG C__law_row_right hr gd (by decide) (qn_callG C__law_feed hr gd (by decide) (qa_cons (qe_var 0 (pv 0)) (qa_cons qe_int qa_nil))) (fun _ => qa_nil)))) (qs_one (qs_ret qe_bl)) qs_nil)
      (qs_cons (qs_for PySem.PassesOwn.never rfl (qi_range2 (by rfl) n_range (qa_cons qe_int (qa_cons (qe_callB (call_max2 rfl) cd_max (by rfl) n_max (by decide +kernel) (qa_cons qe_int (qa_cons (qe_callB (call_min2 rfl) cd_min (by rfl) n_min (by decide +kernel) (qa_cons qe_int (qa_cons (qe_callB call_len cd_len (by rfl) n_len (by decide +kernel) (qa_cons (qe_var 0 (pv 0)) qa_nil)) qa_nil))) qa_nil))) qa_nil))) (qg_name sc_law.nd (i := 1) rfl (by first | exact Or.inl rfl | exact Or.inr rfl)) (qs_cons (qs_setF sc_law.nd (i := 2) rfl (by first | exact Or.inl rfl | exact Or.inr rfl) (qn_callG C__law_feed hr gd (by decide) (qa_cons (qe_var 0 (pv 0)) (qa_cons (qe_var 1 (pv 1)) qa_nil))))
      (qs_cons (qs_set sc_law.nd (i := 3) rfl (by first | exact Or.inl rfl | exact Or.inr rfl) (qc_callRG 2 C__law_net hr gd (by decide) (pv 2) (qa_cons (qe_ix (qe_lst (qa_cons qe_int (qa_cons qe_int (qa_cons qe_int (qa_cons qe_int qa_nil))))) (qe_var 1 (pv 1))) qa_nil)))
      (qs_cons (qs_set sc_law.nd (i := 4) rfl (by first | exact Or.inl rfl | exact Or.inr rfl) (qe_callB (call_reprY gd (room66 hr)) cd_reprY (by rfl) n_repr (by decide +kernel) (qa_cons (qe_var 3 (pv 3)) qa_nil)))
      (qs_cons (qs_set sc_law.nd (i := 5) rfl (by first | exact Or.inl rfl | exact Or.inr rfl) (qc_callG C__law_rounds hr gd (by decide) (qa_cons (qe_var 3 (pv 3)) qa_nil)))
      (qs_cons (qs_set sc_law.nd (i := 6) rfl (by first | exact Or.inl rfl | exact Or.inr rfl) (qc_callRG 2 C__law_take hr gd (by decide) (pv 2) (qa_cons qe_int qa_nil)))
      (qs_cons (qs_for PySem.PassesOwn.never rfl (qi_range1 (by rfl) n_range (qa_cons qe_int qa_nil)) (qg_name sc_law.nd (i := 7) rfl (by first | exact Or.inl rfl | exact Or.inr rfl)) (qs_cons (TX.qs_setM sc_law.nd (i := 8) rfl (by first | exact Or.inl rfl | exact Or.inr rfl) (TX.xc_call CX_reached hr gd (by decide) (fun _ _ _ _ _ _ _ h => h.elim) (qa_cons (qe_var 3 (pv 3)) qa_nil)))
      (qs_cons (qs_if (TX.qt_lk 8 (fun _ => (qt_cmp (op_neX hr.units) od_neX (TX.qe_reprO 8 gd (room66 hr) (pv 8) (by rfl) n_repr (by decide +kernel)) (qe_callB (call_reprY gd (room66 hr)) cd_reprY (by rfl) n_repr (by decide +kernel) (qa_cons (qe_new (qn_callB (TX.call_sortedDL rfl) TX.cn_sortDL (by rfl) n_sorted (by decide +kernel) (qa_cons (qe_var 5 (pv 5)) qa_nil))) qa_nil)) (by rfl)))) (qs_one (qs_ret qe_bl)) qs_nil)
      (qs_cons (qs_app (i := 8) (pv 8) qe_int)
      (qs_one (qs_for PySem.PassesOwn.never rfl (qi_range1 (by rfl) n_range (qa_cons (qe_callB (call_min2 rfl) cd_min (by rfl) n_min (by decide +kernel) (qa_cons (qe_ix (qe_var 3 (pv 3)) qe_int) (qa_cons qe_int qa_nil))) qa_nil)) (qg_name sc_law.nd (i := 9) rfl (by first | exact Or.inl rfl | exact Or.inr rfl)) (qs_cons (qs_set sc_law.nd (i := 10) rfl (by first | exact Or.inl rfl | exact Or.inr rfl) (qe_mod (qe_add (qe_var 9 (pv 9)) (qe_var 6 (pv 6))) (qe_ix (qe_var 3 (pv 3)) qe_int)))
      (qs_cons (TX.qs_setM sc_law.nd (i := 11) rfl (by first | exact Or.inl rfl | exact Or.inr rfl) (TX.xc_call CX_way_to hr gd (by decide) (fun _ _ _ _ _ _ _ h => h.elim) (qa_cons (qe_var 3 (pv 3)) (qa_cons (qe_var 10 (pv 10)) qa_nil))))
      (qs_cons (qs_if (qt_not (TX.qt_lk 11 (fun _ => (qt_tru (qc_callG C__law_way_right hr gd (by decide) (qa_cons (qe_var 3 (pv 3)) (qa_cons (qe_var 5 (pv 5)) (qa_cons (qe_var 10 (pv 10)) (qa_cons (qe_var 11 (pv 11)) qa_nil))))))))) (qs_one (qs_ret qe_bl)) qs_nil)
      (qs_one (qs_if (TX.qt_lk 11 (fun _ => (qt_cmp (opr_or op_notN op_notBl) od_isNot (qe_var 11 (pv 11)) qe_non (by rfl)))) (qs_one (qs_app (i := 11) (pv 11) (qe_var 10 (pv 10)))) qs_nil)))))))))))
      (qs_one (qs_if (qt_cmp (op_neX hr.units) od_neX (qe_callB (call_reprY gd (room66 hr)) cd_reprY (by rfl) n_repr (by decide +kernel) (qa_cons (qe_var 3 (pv 3)) qa_nil)) (qe_var 4 (pv 4)) (by rfl)) (qs_one (qs_ret qe_bl)) qs_nil)))))))))
      (qs_one (qs_ret qe_bl)))))
end K40

end
/-! HK40 -/
section
set_option maxHeartbeats 0
namespace K40
open PySem PySem.Spec PyProof.Rows L2 TL
def d_led_from : He.DefD := ⟨("led_from", none), "led_from", "led_from", defArgs s_led_from, defBody s_led_from, defScope s_led_from, [], []⟩
def d_way_back : He.DefD := ⟨("way_back", none), "way_back", "way_back", defArgs s_way_back, defBody s_way_back, defScope s_way_back, [], []⟩
def d__led : He.DefD := ⟨("_led", none), "_led", "_led", defArgs s__led, defBody s__led, defScope s__led, [], []⟩
def d__law_feed : He.DefD := ⟨("_law_feed", none), "_law_feed", "_law_feed", defArgs s__law_feed, defBody s__law_feed, defScope s__law_feed, [], []⟩
def d__law_take : He.DefD := ⟨("_law_take", none), "_law_take", "_law_take", defArgs s__law_take, defBody s__law_take, defScope s__law_take, [], []⟩
def d__law_pick : He.DefD := ⟨("_law_pick", none), "_law_pick", "_law_pick", defArgs s__law_pick, defBody s__law_pick, defScope s__law_pick, [], []⟩
def d__law_whole : He.DefD := ⟨("_law_whole", none), "_law_whole", "_law_whole", defArgs s__law_whole, defBody s__law_whole, defScope s__law_whole, [], []⟩
def d__law_net : He.DefD := ⟨("_law_net", none), "_law_net", "_law_net", defArgs s__law_net, defBody s__law_net, defScope s__law_net, [], []⟩
def d__law_rounds : He.DefD := ⟨("_law_rounds", none), "_law_rounds", "_law_rounds", defArgs s__law_rounds, defBody s__law_rounds, defScope s__law_rounds, [], []⟩
def d__law_way_right : He.DefD := ⟨("_law_way_right", none), "_law_way_right", "_law_way_right", defArgs s__law_way_right, defBody s__law_way_right, defScope s__law_way_right, [], []⟩
def d_reached : He.DefD := ⟨("reached", none), "reached", "reached", defArgs s_reached, defBody s_reached, defScope s_reached, [], []⟩
def d_way_to : He.DefD := ⟨("way_to", none), "way_to", "way_to", defArgs s_way_to, defBody s_way_to, defScope s_way_to, [], []⟩
def d__law_row_right : He.DefD := ⟨("_law_row_right", none), "_law_row_right", "_law_row_right", defArgs s__law_row_right, defBody s__law_row_right, defScope s__law_row_right, [], []⟩
def d_law : He.DefD := ⟨("law", none), "law", "law", defArgs s_law, defBody s_law, defScope s_law, [], []⟩
def fns : List He.DefD := [d_led_from, d_way_back, d__led, d__law_feed, d__law_take, d__law_pick, d__law_whole, d__law_net, d__law_rounds, d__law_way_right, d_reached, d_way_to, d__law_row_right, d_law]
def fas : List He.Fa := [.glo "led_from",
  .glo "way_back",
  .glo "_led",
  .glo "_law_feed",
  .glo "_law_take",
  .glo "_law_pick",
  .glo "_law_whole",
  .glo "_law_net",
  .glo "_law_rounds",
  .glo "_law_way_right",
  .glo "reached",
  .glo "way_to",
  .glo "_law_row_right",
  .glo "law",
  .free "abs",
  .free "bool",
  .free "dict",
  .free "int",
  .free "isinstance",
  .free "len",
  .free "list",
  .free "max",
  .free "min",
  .free "range",
  .free "repr",
  .free "sorted"]
abbrev R : PySem.W.OpenRow := PySem.W.OpenLaw.row PySem.Challenge.rw_latehall_k40_what_is_reached
abbrev hk : PySem.W.Hook := He.hookD 4 fas fns
def ob (s : PySem.W.SharedT) : He.AlD := He.obsDG 4 fas fns (HandSHeadRun.getT s)
theorem ob_eq (s : PySem.W.SharedT) : ob s = hk.obs s.abs := He.obsDG_eq (HandSHeadRun.getT_eq s)
def names : List PySem.Str := ["led_from", "way_back", "reached", "way_to", "_led", "_law_feed", "_law_take", "_law_pick", "_law_whole", "_law_net", "_law_rounds", "_law_way_right", "_law_row_right"]
theorem run (w : World) : HandSHeadRun.RunEq R (PySem.W.view R.prog [16]) hk ob 3000 names w := by
  intro os
  kernel_rfl
theorem facts {P : Program} {w : World} {K : PySem.W.Frag} {h : Heap} {mg : Str → Option Value} {f : Addr} (X : K.In h) (G : h.Ns mainGlobals mg) (hfa : mg ("law" : Str) = some (.ref f)) (c : He.SaysD fas fns K) :
    ∃ fd : FuncData, (∀ (s : Shared) (v : Value), BindsTo s fd ⟨[v], []⟩ [("script", v)]) ∧ ∀ base : Heap, K.In base → base.Ns mainGlobals mg → FnG P w K mg base 5 f fd ["script"] (spD K 1 m_law) := by
  obtain ⟨fd_led_from, F_led_from⟩ := c.def_ 0 (d := d_led_from) rfl
  obtain ⟨fd_way_back, F_way_back⟩ := c.def_ 1 (d := d_way_back) rfl
  obtain ⟨fd__led, F__led⟩ := c.def_ 2 (d := d__led) rfl
  obtain ⟨fd__law_feed, F__law_feed⟩ := c.def_ 3 (d := d__law_feed) rfl
  obtain ⟨fd__law_take, F__law_take⟩ := c.def_ 4 (d := d__law_take) rfl
  obtain ⟨fd__law_pick, F__law_pick⟩ := c.def_ 5 (d := d__law_pick) rfl
  obtain ⟨fd__law_whole, F__law_whole⟩ := c.def_ 6 (d := d__law_whole) rfl
  obtain ⟨fd__law_net, F__law_net⟩ := c.def_ 7 (d := d__law_net) rfl
  obtain ⟨fd__law_rounds, F__law_rounds⟩ := c.def_ 8 (d := d__law_rounds) rfl
  obtain ⟨fd__law_way_right, F__law_way_right⟩ := c.def_ 9 (d := d__law_way_right) rfl
  obtain ⟨fd_reached, F_reached⟩ := c.def_ 10 (d := d_reached) rfl
  obtain ⟨fd_way_to, F_way_to⟩ := c.def_ 11 (d := d_way_to) rfl
  obtain ⟨fd__law_row_right, F__law_row_right⟩ := c.def_ 12 (d := d__law_row_right) rfl
  obtain ⟨fd_law, F_law⟩ := c.def_ 13 (d := d_law) rfl
  have e := hfa.symm.trans (He.glo_ok X G (c.fact 13 (f := .glo "law") rfl))
  cases e
  have b := FunD.bindsA (ps := ["script"]) F_law fun _ _ _ _ _ _ us hl => match us, hl with | [_], _ => rfl
  refine ⟨fd_law, fun s v => b s [v] rfl, fun base _ _ => ?_⟩
  have n_abs : mg ("abs" : Str) = none := He.free_ok X G (c.fact 14 (f := .free "abs") rfl)
  have n_bool : mg ("bool" : Str) = none := He.free_ok X G (c.fact 15 (f := .free "bool") rfl)
  have n_dict : mg ("dict" : Str) = none := He.free_ok X G (c.fact 16 (f := .free "dict") rfl)
  have n_int : mg ("int" : Str) = none := He.free_ok X G (c.fact 17 (f := .free "int") rfl)
  have n_isinstance : mg ("isinstance" : Str) = none := He.free_ok X G (c.fact 18 (f := .free "isinstance") rfl)
  have n_len : mg ("len" : Str) = none := He.free_ok X G (c.fact 19 (f := .free "len") rfl)
  have n_list : mg ("list" : Str) = none := He.free_ok X G (c.fact 20 (f := .free "list") rfl)
  have n_max : mg ("max" : Str) = none := He.free_ok X G (c.fact 21 (f := .free "max") rfl)
  have n_min : mg ("min" : Str) = none := He.free_ok X G (c.fact 22 (f := .free "min") rfl)
  have n_range : mg ("range" : Str) = none := He.free_ok X G (c.fact 23 (f := .free "range") rfl)
  have n_repr : mg ("repr" : Str) = none := He.free_ok X G (c.fact 24 (f := .free "repr") rfl)
  have n_sorted : mg ("sorted" : Str) = none := He.free_ok X G (c.fact 25 (f := .free "sorted") rfl)
  have C_led_from : CalG P w K mg base "led_from" 1 ["starts", "leads"] (spD K 2 m_led_from) := ⟨⟨_, fd_led_from, ok_led_from (fun_of (st := s_led_from) F_led_from) n_len n_list, He.glo_ok X G (c.fact 0 (f := .glo "led_from") rfl), F_led_from.kp, FunD.bindsN (ps := ["starts", "leads"]) F_led_from fun _ _ _ _ _ _ us hl => match us, hl with | [_, _], _ => rfl⟩⟩
  have C_way_back : CalG P w K mg base "way_back" 1 ["ahead", "one"] (spN K 2 m_way_back) := ⟨⟨_, fd_way_back, ok_way_back (fun_of (st := s_way_back) F_way_back) , He.glo_ok X G (c.fact 1 (f := .glo "way_back") rfl), F_way_back.kp, FunD.bindsN (ps := ["ahead", "one"]) F_way_back fun _ _ _ _ _ _ us hl => match us, hl with | [_, _], _ => rfl⟩⟩
  have C__led : CalG P w K mg base "_led" 2 ["net"] (spD K 1 m__led) := ⟨⟨_, fd__led, ok__led (fun_of (st := s__led) F__led) C_led_from, He.glo_ok X G (c.fact 2 (f := .glo "_led") rfl), F__led.kp, FunD.bindsN (ps := ["net"]) F__led fun _ _ _ _ _ _ us hl => match us, hl with | [_], _ => rfl⟩⟩
  have C__law_feed : CalG P w K mg base "_law_feed" 1 ["script", "k"] (spN K 2 m__law_feed) := ⟨⟨_, fd__law_feed, ok__law_feed (fun_of (st := s__law_feed) F__law_feed) n_abs n_len, He.glo_ok X G (c.fact 3 (f := .glo "_law_feed") rfl), F__law_feed.kp, FunD.bindsN (ps := ["script", "k"]) F__law_feed fun _ _ _ _ _ _ us hl => match us, hl with | [_, _], _ => rfl⟩⟩
  have C__law_take : CalG P w K mg base "_law_take" 1 ["feed", "many"] (spR K 1 m__law_take) := ⟨⟨_, fd__law_take, ok__law_take (fun_of (st := s__law_take) F__law_take) , He.glo_ok X G (c.fact 4 (f := .glo "_law_take") rfl), F__law_take.kp, FunD.bindsN (ps := ["feed", "many"]) F__law_take fun _ _ _ _ _ _ us hl => match us, hl with | [_, _], _ => rfl⟩⟩
  have C__law_pick : CalG P w K mg base "_law_pick" 2 ["feed", "some"] (spR K 1 m__law_pick) := ⟨⟨_, fd__law_pick, ok__law_pick (fun_of (st := s__law_pick) F__law_pick) n_len C__law_take, He.glo_ok X G (c.fact 5 (f := .glo "_law_pick") rfl), F__law_pick.kp, FunD.bindsN (ps := ["feed", "some"]) F__law_pick fun _ _ _ _ _ _ us hl => match us, hl with | [_, _], _ => rfl⟩⟩
  have C__law_whole : CalG P w K mg base "_law_whole" 1 ["found"] (spD K 1 m__law_whole) := ⟨⟨_, fd__law_whole, ok__law_whole (fun_of (st := s__law_whole) F__law_whole) n_bool n_int n_isinstance, He.glo_ok X G (c.fact 6 (f := .glo "_law_whole") rfl), F__law_whole.kp, FunD.bindsN (ps := ["found"]) F__law_whole fun _ _ _ _ _ _ us hl => match us, hl with | [_], _ => rfl⟩⟩
  have C__law_net : CalG P w K mg base "_law_net" 3 ["feed", "most"] (spR K 1 m__law_net) := ⟨⟨_, fd__law_net, ok__law_net (fun_of (st := s__law_net) F__law_net) n_min n_range n_sorted C__law_pick C__law_take, He.glo_ok X G (c.fact 7 (f := .glo "_law_net") rfl), F__law_net.kp, FunD.bindsN (ps := ["feed", "most"]) F__law_net fun _ _ _ _ _ _ us hl => match us, hl with | [_, _], _ => rfl⟩⟩
  have C__law_rounds : CalG P w K mg base "_law_rounds" 1 ["net"] (spD K 1 m__law_rounds) := ⟨⟨_, fd__law_rounds, ok__law_rounds (fun_of (st := s__law_rounds) F__law_rounds) n_dict n_range, He.glo_ok X G (c.fact 8 (f := .glo "_law_rounds") rfl), F__law_rounds.kp, FunD.bindsN (ps := ["net"]) F__law_rounds fun _ _ _ _ _ _ us hl => match us, hl with | [_], _ => rfl⟩⟩
  have C__law_way_right : CalG P w K mg base "_law_way_right" 2 ["net", "found", "number", "way"] (spD K 4 m__law_way_right) := ⟨⟨_, fd__law_way_right, ok__law_way_right (fun_of (st := s__law_way_right) F__law_way_right) n_isinstance n_len n_list n_range C__law_whole, He.glo_ok X G (c.fact 9 (f := .glo "_law_way_right") rfl), F__law_way_right.kp, FunD.bindsN (ps := ["net", "found", "number", "way"]) F__law_way_right fun _ _ _ _ _ _ us hl => match us, hl with | [_, _, _, _], _ => rfl⟩⟩
  have CX_reached : TX.CalX CX0 P w K mg base "reached" 3 ["net"] [] (TX.spX K 0 1 m_reached) := ⟨⟨_, fd_reached, [], [], ok_reached (fun_of (st := s_reached) F_reached) n_sorted C__led, He.glo_ok X G (c.fact 10 (f := .glo "reached") rfl), F_reached.kp, FunD.bindsN (ps := ["net"]) F_reached fun _ _ _ _ _ _ us hl => match us, hl with | [_], _ => rfl, .nil, fun F => .nil⟩⟩
  have CX_way_to : TX.CalX CX0 P w K mg base "way_to" 3 ["net", "number"] [] (TX.spX K 0 2 m_way_to) := ⟨⟨_, fd_way_to, [], [], ok_way_to (fun_of (st := s_way_to) F_way_to) C__led C_way_back, He.glo_ok X G (c.fact 11 (f := .glo "way_to") rfl), F_way_to.kp, FunD.bindsN (ps := ["net", "number"]) F_way_to fun _ _ _ _ _ _ us hl => match us, hl with | [_, _], _ => rfl, .nil, fun F => .nil⟩⟩
  have C__law_row_right : CalG P w K mg base "_law_row_right" 4 ["feed"] (spR K 0 m__law_row_right) := ⟨⟨_, fd__law_row_right, ok__law_row_right (fun_of (st := s__law_row_right) F__law_row_right) n_list n_range C__law_take CX_reached CX_way_to, He.glo_ok X G (c.fact 12 (f := .glo "_law_row_right") rfl), F__law_row_right.kp, FunD.bindsN (ps := ["feed"]) F__law_row_right fun _ _ _ _ _ _ us hl => match us, hl with | [_], _ => rfl⟩⟩
  exact ok_law (fun_of (st := s_law) F_law) n_len n_max n_min n_range n_repr n_sorted C__law_feed C__law_net C__law_rounds C__law_row_right C__law_take C__law_way_right CX_reached CX_way_to
end K40
open PySem PySem.W PySem.Calls PyProof.Rows
theorem K40.holds_of (hg : ∀ ns : List Int, ns.length ≤ 63 → (∀ z ∈ ns, Builtin.Int.intBits z ≤ 1048576) → K40.m_law [.list (ns.map .int)] = some (.bool true)) : PySem.Challenge.rw_latehall_k40_what_is_reached.Holds := by
  w_on; o_law
  refine HandSHeadRun.head_any (r := OpenLaw.row PySem.Challenge.rw_latehall_k40_what_is_reached) (q := view (OpenLaw.row PySem.Challenge.rw_latehall_k40_what_is_reached).prog [16]) (H := K40.hk) (ob := K40.ob) (M := 3000) (loose := K40.names) (d := HandSHeadRun.topDef (OpenLaw.row PySem.Challenge.rw_latehall_k40_what_is_reached).prog 16) (kwd := []) K40.ob_eq
    (by kernel_rfl) (fun s => by kernel_rfl) K40.run (by kernel_rfl) (by kernel_rfl) (by kernel_rfl) (by rfl) (by first | assumption | decide +kernel) (by decide +kernel) ⟨rfl, rfl, rfl, rfl, rfl, by decide +kernel⟩ ?hw ?hc
  case hw => w_witness2
  case hc =>
    refine TL.walk_treeG (l := PySem.Challenge.rw_latehall_k40_what_is_reached) (n := 63) (k := 5) (x := "script") rfl (by decide) (by kernel_rfl) ⟨rfl, by decide, by decide⟩ ?F hg
    intro w mg fa h Y G hmg0
    obtain ⟨K, KX, c⟩ := Y
    have hmg : mg ("law" : PySem.Str) = some (.ref fa) := by
      have e : (HandSHeadRun.topDef (OpenLaw.row PySem.Challenge.rw_latehall_k40_what_is_reached).prog 16).name = ("law" : PySem.Str) := by kernel_rfl
      rw [← e]
      exact hmg0
    obtain ⟨fd, hb, hF⟩ := K40.facts (P := (PySem.Challenge.rw_latehall_k40_what_is_reached).prog) (w := w) KX G hmg c
    exact ⟨K, fd, KX, hb, hF⟩

end
/-! P40a -/
section
set_option maxHeartbeats 400000
namespace K40
open PySem L2 TL

def takeV (f : Int × Int) (n : Int) : Int := if 0 < f.1 then f.1 % n else (f.2 * 48271 + 12345) % (2305843009213693951 : Int) / 2097152 % n
def takeF (f : Int × Int) (n : Int) : Int × Int := if 0 < f.1 then (f.1 / n, f.2) else (f.1, (f.2 * 48271 + 12345) % (2305843009213693951 : Int))
def fd (f : Int × Int) : PyData := .list [.int f.1, .int f.2]
theorem take_w {f : Int × Int} {n : Int} {Q : PyData × PyData → Prop} (h0 : 0 ≤ f.2) (h1 : f.2 < (2305843009213693951 : Int)) (hn : 0 < n) (hl : n.natAbs.log2 < 9000) (h : Q (.int (takeV f n), fd (takeF f n))) : W (m__law_take (fd f) [.int n]) Q := by
  obtain ⟨a, b⟩ := f
  simp only at h0 h1
  unfold m__law_take b__law_take fd
  unfold takeV takeF fd at h
  simp only at h
  walk_at "tlev"
  (refine w_if ?_; walk_at "tlev"; (refine And.intro (fun ha => ?_) (fun ha => ?_) <;> first | (simp only [reduceCtorEq, Bool.true_eq_false, Bool.false_eq_true, Bool.not_true, Bool.not_false] at ha; done) | (simp only [decide_eq_true_eq, decide_eq_false_iff_not, Int.not_lt, Int.not_le, Bool.not_eq_true', Bool.not_eq_false', Bool.not_eq_true, Bool.not_eq_false, Bool.not_true, Bool.not_false] at ha) | skip))
  · rw [if_pos ha, if_pos ha] at h
    walk_at "tlev"
    exact h
  · rw [if_neg (by omega), if_neg (by omega)] at h
    walk_at "tlev"
    exact h
theorem takeF_ok {f : Int × Int} {n : Int} (h0 : 0 ≤ f.2) (h1 : f.2 < (2305843009213693951 : Int)) : 0 ≤ (takeF f n).2 ∧ (takeF f n).2 < (2305843009213693951 : Int) := by
  unfold takeF
  by_cases h : 0 < f.1
  · rw [if_pos h]; exact ⟨h0, h1⟩
  · rw [if_neg h]; exact ⟨Int.emod_nonneg _ (by decide), Int.emod_lt_of_pos _ (by decide)⟩
theorem takeV_ok {f : Int × Int} {n : Int} (hn : 0 < n) : 0 ≤ takeV f n ∧ takeV f n < n := by
  unfold takeV
  by_cases h : 0 < f.1
  · rw [if_pos h]; exact ⟨Int.emod_nonneg _ (by omega), Int.emod_lt_of_pos _ hn⟩
  · rw [if_neg h]; exact ⟨Int.emod_nonneg _ (by omega), Int.emod_lt_of_pos _ hn⟩
/-- a draw: what is drawn and the feed behind it -/
theorem take_any {f : Int × Int} {n : Int} {Q : PyData × PyData → Prop} (hf : 0 ≤ f.2 ∧ f.2 < (2305843009213693951 : Int)) (hn : 0 < n) (hl : n.natAbs.log2 < 9000) (h : ∀ (v : Int) (f' : Int × Int), 0 ≤ v → v < n → 0 ≤ f'.2 ∧ f'.2 < (2305843009213693951 : Int) → Q (.int v, fd f')) : W (m__law_take (fd f) [.int n]) Q :=
  take_w hf.1 hf.2 hn hl (h _ _ (takeV_ok hn).1 (takeV_ok hn).2 (takeF_ok hf.1 hf.2))
theorem feed_any {ns : List Int} {k : Int} (hb : ∀ z ∈ ns, Builtin.Int.intBits z ≤ 1048576) (h0 : 0 ≤ k) (h1 : k < 1000000) {Q : PyData → Prop} (h : ∀ f : Int × Int, 0 ≤ f.2 ∧ f.2 < (2305843009213693951 : Int) → Q (fd f)) : W (m__law_feed [.list (ns.map .int), .int k]) Q := by
  unfold m__law_feed b__law_feed
  walk_at "tlev"
  refine W.mono (P := fun o => ∃ x : Int, Builtin.Int.intBits x ≤ 1048576 ∧ o = Out.nx [.fz (.list (ns.map .int)), .fz (.int k), .fz (.int x), .un] []) ?_ ?_
  · (refine w_if ?_; walk_at "tlev"; (refine And.intro (fun hk => ?_) (fun hk => ?_) <;> first | (simp only [reduceCtorEq, Bool.true_eq_false, Bool.false_eq_true, Bool.not_true, Bool.not_false] at hk; done) | (simp only [decide_eq_true_eq, decide_eq_false_iff_not, Int.not_lt, Int.not_le, Bool.not_eq_true', Bool.not_eq_false', Bool.not_eq_true, Bool.not_eq_false, Bool.not_true, Bool.not_false] at hk) | skip))
    · rw [List.length_map] at hk
      walk_at "tlev"
      refine w_at (atI_in h0 (by rw [List.length_map]; exact hk)) ?_
      rw [List.getElem_map]
      walk_at "tlev"
      exact ⟨_, hb _ (List.getElem_mem _), rfl⟩
    · walk_at "tlev"
      exact ⟨_, Nat.le_trans (bits64 (by omega) (by omega)) (by decide), rfl⟩
  · rintro o ⟨x, hx, rfl⟩
    walk_at "tlev"
    refine W.mono (P := fun o => ∃ y : Int, o = Out.nx [.fz (.list (ns.map .int)), .fz (.int k), .fz (.int x), .fz (.int y)] []) ?_ ?_
    · refine w_if ?_
      walk_at "tlev"
      refine w_pow_i (by decide +kernel) ?_
      walk_at "tlev"
      (refine And.intro (fun hk => ?_) (fun hk => ?_) <;> first | (simp only [reduceCtorEq, Bool.true_eq_false, Bool.false_eq_true, Bool.not_true, Bool.not_false] at hk; done) | (simp only [decide_eq_true_eq, decide_eq_false_iff_not, Int.not_lt, Int.not_le, Bool.not_eq_true', Bool.not_eq_false', Bool.not_eq_true, Bool.not_eq_false, Bool.not_true, Bool.not_false] at hk) | skip)
      · walk_at "tlev"
        refine w_pow_i (by decide +kernel) ?_
        walk_at "tlev"
        exact ⟨_, rfl⟩
      · walk_at "tlev"
        exact ⟨_, rfl⟩
    · rintro o ⟨y, rfl⟩
      walk_at "tlev"
      have hz := mul_fit (i := x) (j := 6364136223846793005) (Nat.le_trans hx (by decide)) (Nat.le_trans (bits64 (by omega) (by omega)) (by decide))
      with_reducible refine w_mul_i hz ?_
      walk_at "tlev"
      exact ⟨by decide, h (_, _) ⟨Int.emod_nonneg _ (by decide), Int.emod_lt_of_pos _ (by decide)⟩⟩
theorem pick_any {f : Int × Int} {ds : List PyData} {Q : PyData × PyData → Prop} (hf : 0 ≤ f.2 ∧ f.2 < (2305843009213693951 : Int)) (h0 : 0 < ds.length) (h1 : ds.length < 1000000) (h : ∀ (d : PyData) (f' : Int × Int), d ∈ ds → 0 ≤ f'.2 ∧ f'.2 < (2305843009213693951 : Int) → Q (d, fd f')) : W (m__law_pick (fd f) [.list ds]) Q := by
  unfold m__law_pick b__law_pick
  walk_at "tlev"
  refine ⟨_, rfl, trivial, ?_⟩
  refine take_any hf (by omega) (log_fit (by omega) (by omega)).2 fun v f' v0 v1 hf' => ?_
  walk_at "tlev"
  refine w_at (atI_in v0 v1) ?_
  walk_at "tlev"
  exact h _ f' (List.getElem_mem _) hf'
theorem whole_int {i : Int} {Q : PyData → Prop} (h : Q (.bool true)) : W (m__law_whole [.int i]) Q := by
  unfold m__law_whole b__law_whole
  walk_at "tlev"
  refine W.of (show isiD "int" (.int i) = some (.bool true) from rfl) ?_
  refine ⟨true, rfl, fun _ => ?_, fun z => (by cases z)⟩
  walk_at "tlev"
  refine W.of (show isiD "bool" (.int i) = some (.bool false) from rfl) ?_
  walk_at "tlev"
  exact h
end K40

end
/-! P40b -/
section
set_option maxHeartbeats 4000000
namespace K40
open PySem L2 TL
def FO (f : Int × Int) : Prop := 0 ≤ f.2 ∧ f.2 < (2305843009213693951 : Int)
theorem range_at {lo : Int} {n i : Nat} {d : PyData} (h : (rangeD lo n)[i]? = some d) : i < n ∧ d = .int (lo + (i : Nat)) := by
  unfold rangeD at h
  rw [List.getElem?_map] at h
  cases e : (List.range n)[i]? with
  | none => rw [e] at h; cases h
  | some j =>
    rw [e] at h
    cases h
    obtain ⟨h1, h2⟩ := List.getElem?_eq_some_iff.mp e
    rw [List.length_range] at h1
    rw [List.getElem_range] at h2
    exact ⟨h1, by rw [h2]⟩
theorem range_len (lo : Int) (n : Nat) : (rangeD lo n).length = n := by unfold rangeD; simp
theorem isE {α : Type} {l : List α} (h : (!l.isEmpty) = true) : 0 < l.length := by cases l <;> simp at h ⊢
/-! ## dicts of whole numbers -/
abbrev dI (qs : List (Int × PyData)) : List (PyData × PyData) := qs.map fun q => (.int q.1, q.2)
def putI (qs : List (Int × PyData)) (r : Int) (d : PyData) : List (Int × PyData) := if (qs.any fun q => decide (q.1 = r)) = true then qs.map (fun q => if q.1 = r then (q.1, d) else q) else qs ++ [(r, d)]
theorem keyI {i r : Int} : keyD (.int i) = some (.inl r) ↔ i = r := by
  constructor
  · intro h
    injection h with h
    injection h
  · intro h
    rw [h]; rfl
theorem putP_dI (qs : List (Int × PyData)) (r : Int) (d : PyData) : putP (dI qs) (.inl r) d = dI (putI qs r d) := by
  have ha : ((dI qs).any fun p => decide (keyD p.1 = some (.inl r))) = qs.any fun q => decide (q.1 = r) := by
    rw [List.any_map]
    congr 1
    funext q
    exact decide_eq_decide.mpr keyI
  unfold putP putI
  rw [ha]
  split
  · show List.map _ (List.map _ qs) = List.map _ (List.map _ qs)
    rw [List.map_map, List.map_map]
    refine List.map_congr_left fun q _ => ?_
    simp only [Function.comp]
    by_cases h : q.1 = r
    · rw [if_pos (keyI.mpr h), if_pos h]
    · rw [if_neg fun z => h (keyI.mp z), if_neg h]
  · show _ = List.map _ (qs ++ [(r, d)])
    rw [List.map_append]
    rfl
theorem valP_dI (qs : List (Int × PyData)) (r : Int) : (valP (dI qs) (.inl r)).isSome = decide (r ∈ qs.map (·.1)) := by
  unfold valP
  rw [Option.isSome_map]
  rw [Bool.eq_iff_iff, List.find?_isSome, decide_eq_true_iff]
  simp only [List.mem_map, decide_eq_true_eq]
  constructor
  · rintro ⟨p, ⟨q, hq, rfl⟩, h⟩
    exact ⟨q, hq, keyI.mp h⟩
  · rintro ⟨q, hq, h⟩
    exact ⟨_, ⟨q, hq, rfl⟩, keyI.mpr h⟩
theorem valP_mem {qs : List (Int × PyData)} {r : Int} (h : r ∈ qs.map (·.1)) : ∃ d, (r, d) ∈ qs ∧ valP (dI qs) (.inl r) = some d := by
  have e : (valP (dI qs) (.inl r)).isSome = true := by rw [valP_dI]; exact decide_eq_true h
  obtain ⟨d, hd⟩ := Option.isSome_iff_exists.mp e
  refine ⟨d, ?_, hd⟩
  unfold valP at hd
  obtain ⟨p, hp, rfl⟩ := Option.map_eq_some_iff.mp hd
  have h1 := List.mem_of_find?_eq_some hp
  have h2 := List.find?_some hp
  obtain ⟨q, hq, rfl⟩ := List.mem_map.mp h1
  have h3 := keyI.mp (of_decide_eq_true h2)
  rw [← h3]
  exact hq
theorem putI_keys (qs : List (Int × PyData)) (r : Int) (d : PyData) : (putI qs r d).map (·.1) = if r ∈ qs.map (·.1) then qs.map (·.1) else qs.map (·.1) ++ [r] := by
  unfold putI
  by_cases h : r ∈ qs.map (·.1)
  · obtain ⟨q, hq, e⟩ := List.mem_map.mp h
    rw [if_pos h, if_pos (List.any_eq_true.mpr ⟨q, hq, decide_eq_true e⟩), List.map_map]
    refine List.map_congr_left fun p _ => ?_
    simp only [Function.comp]
    split <;> rfl
  · rw [if_neg h, if_neg (by
      intro z
      obtain ⟨q, hq, e⟩ := List.any_eq_true.mp z
      exact h (List.mem_map.mpr ⟨q, hq, of_decide_eq_true e⟩)), List.map_append]
    rfl
theorem putI_vals {P : PyData → Prop} {qs : List (Int × PyData)} {r : Int} {d : PyData} (h : ∀ q ∈ qs, P q.2) (hd : P d) : ∀ q ∈ putI qs r d, P q.2 := by
  unfold putI
  split
  · intro q hq
    obtain ⟨p, hp, rfl⟩ := List.mem_map.mp hq
    split
    · exact hd
    · exact h p hp
  · intro q hq
    rcases List.mem_append.mp hq with z | z
    · exact h q z
    · rw [List.mem_singleton.mp z]; exact hd
/-- keys unlike, in [0, n) -/
structure Kn (n : Int) (ks : List Int) : Prop where
  nd : ks.Nodup
  lo : ∀ k ∈ ks, 0 ≤ k ∧ k < n
theorem Kn.nil {n : Int} : Kn n [] := ⟨List.nodup_nil, fun k hk => by cases hk⟩
theorem Kn.len {n : Int} {ks : List Int} (h : Kn n ks) (h0 : 0 ≤ n) : ks.length ≤ n.toNat := by
  have h1 : (ks.map Int.toNat).Nodup := by
    refine List.Pairwise.map _ (R := fun a b => a ≠ b ∧ 0 ≤ a ∧ 0 ≤ b) (fun a b q e => q.1 (by omega)) ?_
    refine h.nd.imp_of_mem fun {a b} ha hb q => ⟨q, (h.lo a ha).1, (h.lo b hb).1⟩
  have := nat_nodup_len (ks.map Int.toNat) (List.range n.toNat) h1 fun x hx => by
    obtain ⟨k, hk, rfl⟩ := List.mem_map.mp hx
    have := h.lo k hk
    exact List.mem_range.mpr (by omega)
  rw [List.length_map, List.length_range] at this
  exact this
theorem Kn.put {n : Int} {qs : List (Int × PyData)} {r : Int} {d : PyData} (h : Kn n (qs.map (·.1))) (h0 : 0 ≤ r) (h1 : r < n) : Kn n ((putI qs r d).map (·.1)) := by
  rw [putI_keys]
  split
  · exact h
  · rename_i hn
    refine ⟨List.nodup_append.mpr ⟨h.nd, by simp, fun a ha b hb => ?_⟩, fun k hk => ?_⟩
    · rw [List.mem_singleton.mp hb]
      exact fun e => hn (e ▸ ha)
    · rcases List.mem_append.mp hk with z | z
      · exact h.lo k z
      · rw [List.mem_singleton.mp z]; exact ⟨h0, h1⟩
abbrev iL (is : List Int) : PyData := .list (is.map .int)
theorem intKeys (qs : List (Int × PyData)) : (dI qs).mapM intKey = some (qs.map (·.1)) := by
  induction qs with
  | nil => rfl
  | cons q qs ih =>
    show List.mapM intKey ((PyData.int q.1, q.2) :: dI qs) = _
    rw [List.mapM_cons, ih]
    rfl
abbrev srt (is : List Int) : List Int := is.mergeSort fun a b => decide (a ≤ b)
theorem w_sortDL {qs : List (Int × PyData)} {R : PyData → Prop} (hl : qs.length ≤ 1000) (q : R (iL (srt (qs.map (·.1))))) : W (TX.sortDL [.dict (dI qs)]) R := by
  unfold TX.sortDL
  simp only [intKeys, Option.bind_some]
  exact W.guard (by rw [List.length_map]; exact hl) (.mk q)
theorem Kn.srt {n : Int} {ks : List Int} (h : Kn n ks) : Kn n (srt ks) := ⟨(List.mergeSort_perm ks _).nodup_iff.mpr h.nd, fun k hk => h.lo k ((List.mergeSort_perm ks _).mem_iff.mp hk)⟩
end K40

end
/-! P40c -/
section
set_option maxHeartbeats 4000000
namespace K40
open PySem L2 TL
abbrev pr (p : Int × Int) : PyData := .tuple [.int p.1, .int p.2]
structure Nt where
  n : Int
  rs : List Int
  ls : List (Int × Int)
abbrev Nt.d (N : Nt) : PyData := .tuple [.int N.n, iL N.rs, .list (N.ls.map pr)]
structure Nt.ok (N : Nt) : Prop where
  n1 : 0 ≤ N.n
  n2 : N.n ≤ 300
  rs : Kn N.n N.rs
  ls : ∀ p ∈ N.ls, (0 ≤ p.1 ∧ p.1 < N.n) ∧ 0 ≤ p.2 ∧ p.2 < N.n
  ll : N.ls.length ≤ 300
theorem lg {n : Int} (h0 : 0 < n) (h1 : n < 100000) : n.natAbs.log2 < 9000 := (log_fit h0 (by omega)).2
theorem noS (qs : List (Int × PyData)) : isSetD (.dict (dI qs)) = false := by cases qs <;> rfl
section
variable {r : Rs} {m : Ms} {i k : Nat} {f g : Ev} {S : Out → Prop} {Q : PyData × Ms → Prop} {neg : Bool}
theorem w_dput (e : slO r[i]? = some k) (h : W (f r m) fun p => W (g r p.2) fun q => ∃ qs x, cellAt q.2 k = some (.dict (dI qs)) ∧ q.1 = .int x ∧ qs.length < sizeLine ∧ S (.nx r (q.2.set k (some (.dict (dI (putI qs x p.1))))))) : W (sDput i f g r m) S := by
  unfold sDput
  rw [e]
  refine W.bind (W.mk (W.bind (W.mono h fun p h => W.bind (W.mono h fun q ⟨qs, x, e1, e2, e3, h⟩ => ?_))))
  rw [e1]
  simp only [Option.bind_some, e2]
  show W (Option.bind (some (Sum.inl x)) _) S
  refine W.bind (W.mk ?_)
  rw [if_pos (by rw [List.length_map]; exact e3), putP_dI]
  exact .mk h
theorem w_dInO (e : slO r[i]? = some k) (h : W (g r m) fun p => ∃ qs x, cellAt p.2 k = some (.dict (dI qs)) ∧ p.1 = .int x ∧ Q (.bool (if neg then !decide (x ∈ qs.map (·.1)) else decide (x ∈ qs.map (·.1))), p.2)) : W (eInO i (dinD neg) g r m) Q := by
  unfold eInO
  rw [e]
  refine W.bind (W.mk (W.bind (W.mono h fun p ⟨qs, x, e1, e2, q⟩ => ?_)))
  rw [e1]
  simp only [Option.bind_some, e2]
  unfold dinD
  simp only [noS, Bool.false_eq_true, if_false]
  show W (Option.map _ (Option.map _ (some (Sum.inl x)))) Q
  simp only [Option.map_some, valP_dI]
  exact .mk q
theorem w_dIxO (e : slO r[i]? = some k) (h : W (g r m) fun p => ∃ qs x, cellAt p.2 k = some (.dict (dI qs)) ∧ p.1 = .int x ∧ x ∈ qs.map (·.1) ∧ ∀ d, (x, d) ∈ qs → Q (d, p.2)) : W (eDixO i g r m) Q := by
  unfold eDixO
  rw [e]
  refine W.bind (W.mk (W.bind (W.mono h fun p ⟨qs, x, e1, e2, e3, q⟩ => ?_)))
  obtain ⟨d, hd, hv⟩ := valP_mem e3
  rw [e1]
  simp only [Option.bind_some, e2]
  unfold dixD
  simp only [noS, Bool.false_eq_true, if_false]
  show W (Option.map _ (Option.bind (some (Sum.inl x)) _)) Q
  simp only [Option.bind_some, hv, Option.map_some]
  exact .mk (q d hd)
theorem w_din {qs : List (Int × PyData)} {x : Int} {R : PyData → Prop} (q : R (.bool (if neg then !decide (x ∈ qs.map (·.1)) else decide (x ∈ qs.map (·.1))))) : W (dinD neg (.int x) (.dict (dI qs))) R := by
  unfold dinD
  simp only [noS, Bool.false_eq_true, if_false]
  show W (Option.map _ (some (Sum.inl x))) R
  simp only [Option.map_some, valP_dI]
  exact .mk q
end
theorem at_mem {α : Type} {l : List α} {j : Int} {R : α → Prop} (h0 : 0 ≤ j) (h1 : j < l.length) (h : ∀ x ∈ l, R x) : W (atI l j) R := w_at (atI_in h0 h1) (h _ (List.getElem_mem _))
theorem net_any {f : Int × Int} {most : Int} {Q : PyData × PyData → Prop} (hf : FO f) (h6 : 6 ≤ most) (h90 : most ≤ 90) (h0 : ∀ f', FO f' → Q (.tuple [.int 0, .list [], .list []], fd f')) (h : ∀ (N : Nt) f', FO f' → N.ok → N.n ≤ 90 → N.ls.length ≤ 180 → Q (N.d, fd f')) : W (m__law_net (fd f) [.int most]) Q := by
  unfold m__law_net b__law_net
  walk_at "tlew"
  refine take_any hf (by decide) (by decide +kernel) fun v1 f1 a0 a1 hf1 => ?_
  walk_at "tlew"
  refine take_any hf1 (by omega) (lg (by omega) (by omega)) fun v2 f2 b0 b1 hf2 => ?_
  walk_at "tlew"
  refine pick_any hf2 (by simp only [List.length_cons, List.length_nil]; decide) (by simp only [List.length_cons, List.length_nil]; decide) fun m f3 hm hf3 => ?_
  obtain ⟨mn, rfl, m0, m1⟩ : ∃ mn : Int, m = .int mn ∧ 0 ≤ mn ∧ mn ≤ most := by
    simp only [List.mem_cons, List.not_mem_nil, or_false] at hm
    rcases hm with q | q | q
    · exact ⟨_, q, by omega, by omega⟩
    · exact ⟨_, q, by omega, by omega⟩
    · exact ⟨_, q, by omega, by omega⟩
  walk_at "tlew"
  refine W.mono (P := fun z => 1 ≤ mn ∧ z = Out.nx [.ow 0, .fz (.int most), .fz (.int mn), .un, .un, .un, .un, .un, .un] [some (fd f3)] ∨ ∃ m', z = Out.rt (.tuple [.int 0, .list [], .list []]) m' ∧ m' = [some (fd f3)]) ?_ ?_
  · refine w_if ?_
    walk_at "tlew"
    refine ⟨fun hz => ?_, fun hz => ?_⟩
    · walk_at "tlew"
      exact .inr ⟨_, by first | rfl | trivial, by first | rfl | trivial⟩
    · have : ¬ mn = 0 := of_decide_eq_false hz
      walk_at "tlew"
      exact .inl ⟨by omega, by first | rfl | trivial⟩
  · rintro z (⟨m2, rfl⟩ | ⟨m', rfl, rfl⟩)
    · walk_at "tlew"
      refine w_dct ?_
      walk_at "tlew"
      refine w_for (fun ds i r m => ds.length ≤ 4 ∧ ∃ (f4 : Int × Int) (qs : List (Int × PyData)) (e4 : Sl), FO f4 ∧ Kn mn (qs.map (·.1)) ∧ qs.length ≤ i ∧ r = [.ow 0, .fz (.int most), .fz (.int mn), .ow 1, e4, .un, .un, .un, .un] ∧ m = [some (fd f4), some (.dict (dI qs))]) ?_
      walk_at "tlew"
      refine pick_any hf3 (by simp only [List.length_cons, List.length_nil]; decide) (by simp only [List.length_cons, List.length_nil]; decide) fun d f5 hd hf5 => ?_
      obtain ⟨j, rfl, j0, j1⟩ : ∃ j : Int, d = .int j ∧ 0 ≤ j ∧ j ≤ 4 := by
        simp only [List.mem_cons, List.not_mem_nil, or_false] at hd
        rcases hd with q | q | q | q | q <;> exact ⟨_, q, by omega, by omega⟩
      walk_at "tlew"
      refine ⟨_, rfl, by omega, ⟨by rw [range_len]; omega, f5, [], _, hf5, Kn.nil, Nat.le_refl 0, rfl, by trivial⟩, ?_, ?_⟩
      · rintro i d r m hx ⟨h4, f4, qs, e4, hf4, hk, hq, rfl, rfl⟩
        obtain ⟨hi, rfl⟩ := range_at hx
        rw [range_len] at h4
        walk_at "tlew"
        refine w_dput rfl ?_
        walk_at "tlew"
        refine take_any hf4 (by omega) (lg (by omega) (by omega)) fun v f6 v0 v1 hf6 => ?_
        walk_at "tlew"
        exact ⟨lt_line (by omega), by rw [range_len]; exact h4, f6, _, _, hf6, hk.put v0 v1, by unfold putI; split <;> simp <;> omega, rfl, by trivial⟩
      · rintro r m ⟨h4, f4, qs, e4, hf4, hk, hq, rfl, rfl⟩
        rw [range_len] at h4 hq
        walk_at "tlew"
        refine take_any hf4 (by decide) (by decide +kernel) fun way f6 w0 w1 hf6 => ?_
        walk_at "tlew"
        refine w_for (fun ds i r m => ds.length ≤ 180 ∧ ∃ (f4 : Int × Int) (ls : List (Int × Int)) (e4 e7 e8 : Sl), FO f4 ∧ (∀ p ∈ ls, (0 ≤ p.1 ∧ p.1 < mn) ∧ 0 ≤ p.2 ∧ p.2 < mn) ∧ ls.length ≤ i ∧ r = [.ow 0, .fz (.int most), .fz (.int mn), .ow 1, e4, .fz (.int way), .ow 2, e7, e8] ∧ m = [some (fd f4), some (.dict (dI qs)), some (.list (ls.map pr))]) ?_
        walk_at "tlew"
        refine take_any hf6 (by decide) (by decide +kernel) fun v3 f7 c0 c1 hf7 => ?_
        walk_at "tlew"
        refine pick_any hf7 (by simp only [List.length_cons, List.length_nil]; decide) (by simp only [List.length_cons, List.length_nil]; decide) fun d f8 hd hf8 => ?_
        obtain ⟨j2, rfl, j20, j21⟩ : ∃ j : Int, d = .int j ∧ 0 ≤ j ∧ j ≤ 180 := by
          simp only [List.mem_cons, List.not_mem_nil, or_false] at hd
          rcases hd with q | q | q | q <;> exact ⟨_, q, by omega, by omega⟩
        walk_at "tlew"
        refine ⟨_, rfl, by omega, ⟨by rw [range_len]; omega, f8, [], _, _, _, hf8, fun p hp => (by cases hp), Nat.le_refl 0, rfl, by trivial⟩, ?_, ?_⟩
        · rintro i d r m hx ⟨h24, f9, ls, e4, e7, e8, hf9, hls, hll, rfl, rfl⟩
          obtain ⟨hi, rfl⟩ := range_at hx
          rw [range_len] at h24
          have mm : ∀ z : Int, 0 ≤ z % mn ∧ z % mn < mn := fun z => ⟨Int.emod_nonneg _ (by omega), Int.emod_lt_of_pos _ (by omega)⟩
          walk_at "tlew"
          refine take_any hf9 (by omega) (lg (by omega) (by omega)) fun t1 g1 x0 x1 hg1 => ?_
          walk_at "tlew"
          refine take_any hg1 (by omega) (lg (by omega) (by omega)) fun t2 g2 y0 y1 hg2 => ?_
          walk_at "tlew"
          refine take_any hg2 (by omega) (lg (by omega) (by omega)) fun t3 g3 z0 z1 hg3 => ?_
          walk_at "tlew"
          refine at_mem w0 (by simp only [List.length_cons, List.length_nil]; omega) fun d hd1 => ?_
          obtain ⟨one, rfl, o0, o1⟩ : ∃ v : Int, d = .int v ∧ 0 ≤ v ∧ v < mn := by
            simp only [List.mem_cons, List.not_mem_nil, or_false] at hd1
            rcases hd1 with q | q | q | q
            · exact ⟨_, q, by omega, by omega⟩
            · exact ⟨_, q, mm _⟩
            · exact ⟨_, q, by omega, by omega⟩
            · exact ⟨_, q, by omega, by omega⟩
          walk_at "tlew"
          refine take_any hg3 (by omega) (lg (by omega) (by omega)) fun t4 g4 x2 x3 hg4 => ?_
          walk_at "tlew"
          refine take_any hg4 (by omega) (lg (by omega) (by omega)) fun t5 g5 y2 y3 hg5 => ?_
          walk_at "tlew"
          refine at_mem w0 (by simp only [List.length_cons, List.length_nil]; omega) fun d hd2 => ?_
          obtain ⟨other, rfl, p0, p1⟩ : ∃ v : Int, d = .int v ∧ 0 ≤ v ∧ v < mn := by
            simp only [List.mem_cons, List.not_mem_nil, or_false] at hd2
            rcases hd2 with q | q | q | q
            · exact ⟨_, q, by omega, by omega⟩
            · exact ⟨_, q, mm _⟩
            · refine ⟨_, q, ?_⟩
              split <;> omega
            · exact ⟨_, q, by omega, by omega⟩
          walk_at "tlew"
          refine w_app rfl rfl ?_
          walk_at "tlew"
          refine take_any hg5 (by omega) (lg (by omega) (by omega)) fun t6 g6 x4 x5 hg6 => ?_
          walk_at "tlew"
          refine pick_any hg6 (by simp only [List.length_cons, List.length_nil]; decide) (by simp only [List.length_cons, List.length_nil]; decide) fun d g7 hd3 hg7 => ?_
          obtain ⟨p, rfl, hp⟩ : ∃ p : Int × Int, d = pr p ∧ (0 ≤ p.1 ∧ p.1 < mn) ∧ 0 ≤ p.2 ∧ p.2 < mn := by
            simp only [List.mem_cons, List.not_mem_nil, or_false] at hd3
            rcases hd3 with q | q | q
            · exact ⟨(one, other), q, ⟨o0, o1⟩, p0, p1⟩
            · exact ⟨(one, other), q, ⟨o0, o1⟩, p0, p1⟩
            · exact ⟨(t6, one), q, ⟨x4, x5⟩, o0, o1⟩
          walk_at "tlew"
          refine ⟨_, rfl, lt_line (by rw [List.length_map]; omega), by rw [range_len]; exact h24, g7, ls ++ [p], _, _, _, hg7, fun x hx => ?_, by rw [List.length_append]; exact Nat.succ_le_succ hll, rfl, by rw [List.map_append]; rfl⟩
          rcases List.mem_append.mp hx with z | z
          · exact hls x z
          · rw [List.mem_singleton.mp z]; exact hp
        · rintro r m ⟨h24, f9, ls, e4, e7, e8, hf9, hls, hll, rfl, rfl⟩
          rw [range_len] at h24 hll
          walk_at "tlew"
          refine w_frz rfl rfl ?_
          simp only [frzR]
          refine w_frz rfl rfl ?_
          simp only [frzR]
          walk_at "tlew"
          refine w_sortDL (qs := qs) (by omega) ?_
          walk_at "tlew"
          exact h ⟨mn, srt (qs.map (·.1)), ls⟩ f9 hf9 ⟨(by show 0 ≤ mn; omega), (by show mn ≤ 300; omega), hk.srt, hls, by show ls.length ≤ 300; omega⟩ (by show mn ≤ 90; omega) (by show ls.length ≤ 180; omega)
    · walk_at "tlew"
      exact h0 f3 hf3
end K40

end
/-! P40d -/
section
set_option maxHeartbeats 4000000
namespace K40
open PySem L2 TL
def mg (acc qs : List (Int × PyData)) : List (Int × PyData) := qs.foldl (fun a q => putI a q.1 q.2) acc
theorem mg_dI : ∀ (qs acc : List (Int × PyData)), mergeP (dI acc) (qs.map fun q => (Sum.inl q.1, q.2)) = dI (mg acc qs)
  | [], acc => rfl
  | q :: qs, acc => by
    show mergeP (putP (dI acc) (.inl q.1) q.2) _ = _
    rw [putP_dI, mg_dI qs]
    rfl
theorem pairsI : ∀ qs : List (Int × PyData), (qs.map fun q => PyData.tuple [.int q.1, q.2]).mapM pairP = some (qs.map fun q => (Sum.inl q.1, q.2))
  | [] => rfl
  | q :: qs => by
    rw [List.map_cons, List.mapM_cons, pairsI qs]
    rfl
theorem w_dictN {qs : List (Int × PyData)} {R : PyData → Prop} (q : R (.dict (dI (mg [] qs)))) : W (dictN [.list (qs.map fun q => .tuple [.int q.1, q.2])]) R := by
  have e := mg_dI qs []
  show W (Option.map _ (List.mapM pairP _)) R
  rw [pairsI]
  show W (some (PyData.dict (mergeP [] _))) R
  rw [show ([] : List (PyData × PyData)) = dI [] from rfl, e]
  exact .mk q
theorem mg_kn {n : Int} : ∀ {qs acc : List (Int × PyData)}, Kn n (acc.map (·.1)) → (∀ q ∈ qs, 0 ≤ q.1 ∧ q.1 < n) → Kn n ((mg acc qs).map (·.1))
  | [], _, h, _ => h
  | q :: qs, acc, h, hq => mg_kn (qs := qs) (h.put (hq q List.mem_cons_self).1 (hq q List.mem_cons_self).2) fun x hx => hq x (List.mem_cons_of_mem _ hx)
theorem mg_vals {P : PyData → Prop} : ∀ {qs acc : List (Int × PyData)}, (∀ q ∈ acc, P q.2) → (∀ q ∈ qs, P q.2) → ∀ q ∈ mg acc qs, P q.2
  | [], _, h, _ => h
  | q :: qs, acc, h, hq => mg_vals (qs := qs) (putI_vals h (hq q List.mem_cons_self)) fun x hx => hq x (List.mem_cons_of_mem _ hx)
def isI (d : PyData) : Prop := ∃ z : Int, d = .int z
theorem int_at {is : List Int} {i : Nat} {d : PyData} (h : (is.map PyData.int)[i]? = some d) : ∃ z, is[i]? = some z ∧ d = .int z := by
  rw [List.getElem?_map] at h
  obtain ⟨z, h1, h2⟩ := Option.map_eq_some_iff.mp h
  exact ⟨z, h1, h2.symm⟩
theorem pr_at {ls : List (Int × Int)} {i : Nat} {d : PyData} (h : (ls.map pr)[i]? = some d) : ∃ z, ls[i]? = some z ∧ d = pr z := by
  rw [List.getElem?_map] at h
  obtain ⟨z, h1, h2⟩ := Option.map_eq_some_iff.mp h
  exact ⟨z, h1, h2.symm⟩
end K40

end
/-! P40g -/
section
set_option maxHeartbeats 4000000
namespace K40
open PySem L2 TL
theorem iL_shaped (zs : List Int) : SeqAt.shaped (iL zs) = true := by
  have lay : ∀ zs : List Int, PyData.canLayAll0 (zs.map PyData.int) = true := by
    intro zs
    induction zs with
    | nil => rfl
    | cons z zs ih => simpa [PyData.canLayAll0, PyData.canLay0] using ih
  have dep : ∀ zs : List Int, PyData.depthAll (zs.map PyData.int) = 0 := by
    intro zs
    induction zs with
    | nil => rfl
    | cons z zs ih => simp [PyData.depthAll, PyData.depth, ih]
  exact shaped_of (by simp only [PyData.canLay0]; exact lay zs) (by simp only [PyData.depth, dep]; omega)
theorem pr_shaped (p : Int × Int) : SeqAt.shaped (pr p) = true := shaped_of rfl (by simp [PyData.depth, PyData.depthAll])
theorem prs_shaped (ls : List (Int × Int)) : SeqAt.shaped (.list (ls.map pr)) = true := by
  have lay : ∀ zs : List (Int × Int), PyData.canLayAll0 (zs.map pr) = true := by
    intro zs
    induction zs with
    | nil => rfl
    | cons z zs ih => simpa [PyData.canLayAll0, PyData.canLay0] using ih
  have dep : ∀ zs : List (Int × Int), PyData.depthAll (zs.map pr) ≤ 1 := by
    intro zs
    induction zs with
    | nil => exact Nat.zero_le _
    | cons z zs ih =>
      rw [List.map_cons]
      simp only [PyData.depthAll, PyData.depth]
      omega
  have d := dep ls
  exact shaped_of (by simp only [PyData.canLay0]; exact lay ls) (by simp only [PyData.depth]; omega)
theorem any_int (z : Int) (zs : List Int) : ((zs.map PyData.int).any fun x => PyData.eqv x (.int z)) = decide (z ∈ zs) := by
  rw [Bool.eq_iff_iff, List.any_eq_true, decide_eq_true_iff]
  constructor
  · rintro ⟨x, hx, e⟩
    obtain ⟨y, hy, rfl⟩ := List.mem_map.mp hx
    have : y = z := by simpa [PyData.eqv] using e
    rw [← this]; exact hy
  · intro h
    exact ⟨_, List.mem_map_of_mem h, by simp [PyData.eqv]⟩
theorem any_pr (p : Int × Int) (ls : List (Int × Int)) : ((ls.map pr).any fun x => PyData.eqv x (pr p)) = decide (p ∈ ls) := by
  rw [Bool.eq_iff_iff, List.any_eq_true, decide_eq_true_iff]
  constructor
  · rintro ⟨x, hx, e⟩
    obtain ⟨y, hy, rfl⟩ := List.mem_map.mp hx
    have e2 : y.1 = p.1 ∧ y.2 = p.2 := by simpa [PyData.eqv, PyData.eqvAll] using e
    have : y = p := Prod.ext e2.1 e2.2
    rw [← this]; exact hy
  · intro h
    exact ⟨_, List.mem_map_of_mem h, by simp [PyData.eqv, PyData.eqvAll]⟩
theorem w_inI {z : Int} {zs : List Int} {R : PyData → Prop} (q : R (.bool (decide (z ∈ zs)))) : W (inD (.int z) (iL zs)) R := by
  show W (Option.map _ (if SeqAt.shaped (.int z) = true ∧ SeqAt.shaped (iL zs) = true then some _ else none)) R
  rw [if_pos ⟨shaped_i z, iL_shaped zs⟩, any_int]
  exact W.mk q
theorem w_notInI {z : Int} {zs : List Int} {R : PyData → Prop} (q : R (.bool (!decide (z ∈ zs)))) : W (notInD (.int z) (iL zs)) R := by
  show W (Option.map _ (if SeqAt.shaped (.int z) = true ∧ SeqAt.shaped (iL zs) = true then some _ else none)) R
  rw [if_pos ⟨shaped_i z, iL_shaped zs⟩, any_int]
  exact W.mk q
theorem w_notInP {p : Int × Int} {ls : List (Int × Int)} {R : PyData → Prop} (q : R (.bool (!decide (p ∈ ls)))) : W (notInD (pr p) (.list (ls.map pr))) R := by
  show W (Option.map _ (if SeqAt.shaped (pr p) = true ∧ SeqAt.shaped (.list (ls.map pr)) = true then some _ else none)) R
  rw [if_pos ⟨pr_shaped p, prs_shaped ls⟩, any_pr]
  exact W.mk q
/-- a way to a number -/
structure Way (N : Nt) (number : Int) (zs : List Int) : Prop where
  head : ∃ a, zs[0]? = some a ∧ a ∈ N.rs
  last : zs[zs.length - 1]? = some number
  step : ∀ i x y, zs[i]? = some x → zs[i + 1]? = some y → (x, y) ∈ N.ls
theorem Way.lo {N : Nt} {number : Int} {zs : List Int} (hN : N.ok) (h : Way N number zs) : ∀ z ∈ zs, 0 ≤ z ∧ z < N.n := by
  intro z hz
  obtain ⟨i, hi, e⟩ := List.getElem_of_mem hz
  obtain ⟨a, ha, har⟩ := h.head
  cases i with
  | zero =>
    have e2 : zs[0]? = some z := by rw [List.getElem?_eq_getElem hi, e]
    rw [ha] at e2
    injection e2 with e2
    rw [← e2]; exact hN.rs.lo a har
  | succ i =>
    have e2 : zs[i + 1]? = some z := by rw [List.getElem?_eq_getElem hi, e]
    have e1 : zs[i]? = some (zs[i]'(by omega)) := List.getElem?_eq_getElem (by omega)
    exact (hN.ls _ (h.step i _ z e1 e2)).2
theorem at_int {zs : List Int} {j : Int} {R : PyData → Prop} (h0 : 0 ≤ j) (h1 : j < zs.length) (h : ∀ z, zs[j.toNat]? = some z → R (.int z)) : W (atI (zs.map PyData.int) j) R := by
  refine w_at (atI_in h0 (by rw [List.length_map]; exact h1)) ?_
  rw [List.getElem_map]
  exact h _ (List.getElem?_eq_getElem (by omega))
theorem at_last {zs : List Int} {R : PyData → Prop} (h1 : 0 < zs.length) (h : ∀ z, zs[zs.length - 1]? = some z → R (.int z)) : W (atI (zs.map PyData.int) (-1)) R := by
  have e : atI (zs.map PyData.int) (-1) = some (.int (zs[zs.length - 1]'(by omega))) := by
    unfold atI ixN
    rw [List.length_map, if_neg (by decide), if_pos (by omega)]
    have e2 : ((-1 : Int) + (zs.length : Nat)).toNat = zs.length - 1 := by omega
    simp only [Option.bind_some, e2]
    rw [List.getElem?_map, List.getElem?_eq_getElem (by omega)]
    rfl
  exact w_at e (h _ (List.getElem?_eq_getElem (by omega)))
theorem bools_shaped (bs : List Bool) : SeqAt.shaped (.list (bs.map PyData.bool)) = true := by
  have lay : ∀ zs : List Bool, PyData.canLayAll0 (zs.map PyData.bool) = true := by
    intro zs
    induction zs with
    | nil => rfl
    | cons z zs ih => simpa [PyData.canLayAll0, PyData.canLay0] using ih
  have dep : ∀ zs : List Bool, PyData.depthAll (zs.map PyData.bool) = 0 := by
    intro zs
    induction zs with
    | nil => rfl
    | cons z zs ih => simp [PyData.depthAll, PyData.depth, ih]
  exact shaped_of (by simp only [PyData.canLay0]; exact lay bs) (by simp only [PyData.depth, dep]; omega)
theorem eqv_ints : ∀ xs ys : List Int, PyData.eqvAll (xs.map PyData.int) (ys.map PyData.int) = decide (xs = ys)
  | [], [] => rfl
  | [], _ :: _ => rfl
  | _ :: _, [] => rfl
  | x :: xs, y :: ys => by
    have ih := eqv_ints xs ys
    show (PyData.eqv (.int x) (.int y) && PyData.eqvAll (xs.map PyData.int) (ys.map PyData.int)) = _
    rw [ih, Bool.eq_iff_iff, Bool.and_eq_true, decide_eq_true_iff, decide_eq_true_iff]
    simp [PyData.eqv]
theorem w_neX_LL {xs ys : List Int} {R : PyData → Prop} (q : R (.bool (!decide (xs = ys)))) : W (neX (iL xs) (iL ys)) R := by
  refine w_neD (iL_shaped xs) (iL_shaped ys) ?_
  have e : PyData.eqv (iL xs) (iL ys) = decide (xs = ys) := by
    simp only [PyData.eqv]
    exact eqv_ints xs ys
  rw [e]
  exact q
theorem putI_len (qs : List (Int × PyData)) (r : Int) (d : PyData) : (putI qs r d).length ≤ qs.length + 1 := by
  unfold putI
  split
  · rw [List.length_map]; exact Nat.le_succ _
  · rw [List.length_append]; exact Nat.le_refl _
theorem iL_inj {xs ys : List Int} (h : iL xs = iL ys) : xs = ys := by
  injection h with h
  have : ∀ (xs ys : List Int), xs.map PyData.int = ys.map PyData.int → xs = ys := by
    intro xs
    induction xs with
    | nil => intro ys e; cases ys <;> first | rfl | cases e
    | cons x xs ih =>
      intro ys e
      cases ys with
      | nil => cases e
      | cons y ys =>
        rw [List.map_cons, List.map_cons] at e
        injection e with e1 e2
        injection e1 with e1
        rw [e1, ih ys e2]
  exact this xs ys h
end K40

end
/-! P40i -/
section
set_option maxHeartbeats 4000000
namespace K40
open PySem L2 TL
section
variable {fi : Eas} {own : List Nat} {h : Eh} {t : Et} {fk fv : Ev} {r : Rs} {m : Ms} {Q : PyData × Ms → Prop}
theorem dc_inv (I : Nat → List (Int × PyData) → Ms → Prop) {r : Rs} {ds : List PyData} (step : ∀ (i : Nat) (d : PyData) (m : Ms) (qs : List (Int × PyData)), ds[i]? = some d → I i qs m → W (h d r) fun r1 => W (t r1 m) fun b => b.1 = true ∧ W (fk r1 b.2) fun x => W (fv r1 x.2) fun y => ∃ z, x.1 = .int z ∧ qs.length < sizeLine ∧ I (i + 1) (putI qs z y.1) y.2) :
    ∀ (k : Nat) (m : Ms) (qs : List (Int × PyData)), k ≤ ds.length → I k qs m → W (dcLoop h t fk fv r (ds.drop k) m (dI qs)) fun p => ∃ qs, p.1 = dI qs ∧ I ds.length qs p.2 := by
  intro k
  induction hk : ds.length - k generalizing k with
  | zero =>
    intro m qs hl hI
    have : k = ds.length := by omega
    subst this
    rw [List.drop_length]
    exact .mk ⟨qs, rfl, hI⟩
  | succ n ih =>
    intro m qs hl hI
    have hlt : k < ds.length := by omega
    rw [List.drop_eq_getElem_cons hlt]
    unfold dcLoop
    refine W.bind (W.mono (step k ds[k] m qs (List.getElem?_eq_getElem hlt) hI) fun r1 q => W.bind (W.mono q fun b ⟨q1, q2⟩ => ?_))
    rw [if_pos q1]
    refine W.bind (W.mono q2 fun x q3 => W.bind (W.mono q3 fun y ⟨z, e, q4, q5⟩ => ?_))
    rw [e]
    show W (Option.bind (some (Sum.inl z)) _) _
    refine W.bind (W.mk ?_)
    rw [putP_dI]
    exact W.guard (by rw [List.length_map]; exact q4) (ih (k + 1) (by omega) y.2 _ (by omega) q5)
theorem w_dcI (I : List PyData → Nat → List (Int × PyData) → Ms → Prop) (q : W (fi r m) fun p => I p.1 0 [] p.2 ∧ (∀ (i : Nat) (d : PyData) (m : Ms) (qs : List (Int × PyData)), p.1[i]? = some d → I p.1 i qs m → W (h d (wipeR r own)) fun r1 => W (t r1 m) fun b => b.1 = true ∧ W (fk r1 b.2) fun x => W (fv r1 x.2) fun y => ∃ z, x.1 = .int z ∧ qs.length < sizeLine ∧ I p.1 (i + 1) (putI qs z y.1) y.2) ∧
    ∀ qs m, I p.1 p.1.length qs m → Q (.dict (dI qs), m)) : W (eDc fi own h t fk fv r m) Q := W.bind (W.mono q fun p ⟨q1, q2, q3⟩ => by
  have := dc_inv (I p.1) q2 0 p.2 [] (Nat.zero_le _) q1
  rw [List.drop_zero] at this
  refine W.map (W.mono this fun z ⟨qs, e, hz⟩ => ?_)
  rw [e]
  exact q3 qs _ hz)
end
theorem mg_mem {z : Int} : ∀ {qs acc : List (Int × PyData)}, z ∈ (mg acc qs).map (·.1) ↔ z ∈ acc.map (·.1) ∨ z ∈ qs.map (·.1)
  | [], acc => by simp [mg]
  | q :: qs, acc => by
    show z ∈ (mg (putI acc q.1 q.2) qs).map (·.1) ↔ _
    rw [mg_mem (qs := qs), putI_keys, List.map_cons, List.mem_cons]
    split
    · rename_i h
      constructor
      · rintro (a | a)
        · exact .inl a
        · exact .inr (.inr a)
      · rintro (a | a | a)
        · exact .inl a
        · rw [a]; exact .inl h
        · exact .inr a
    · rw [List.mem_append, List.mem_singleton, or_assoc]
theorem mg_nd : ∀ {qs acc : List (Int × PyData)}, (acc.map (·.1)).Nodup → ((mg acc qs).map (·.1)).Nodup
  | [], _, h => h
  | q :: qs, acc, h => mg_nd (qs := qs) (by
    rw [putI_keys]
    split
    · exact h
    · rename_i hn
      exact List.nodup_append.mpr ⟨h, by simp, fun a ha b hb => by rw [List.mem_singleton.mp hb]; exact fun e => hn (e ▸ ha)⟩)
theorem mg_id : ∀ {qs acc : List (Int × PyData)}, (acc.map (·.1) ++ qs.map (·.1)).Nodup → (mg acc qs).map (·.1) = acc.map (·.1) ++ qs.map (·.1)
  | [], acc, _ => by simp [mg]
  | q :: qs, acc, h => by
    show (mg (putI acc q.1 q.2) qs).map (·.1) = _
    have hn : q.1 ∉ acc.map (·.1) := fun hm => (List.nodup_append.mp h).2.2 q.1 hm q.1 (by simp) rfl
    have e : (putI acc q.1 q.2).map (·.1) = acc.map (·.1) ++ [q.1] := by rw [putI_keys, if_neg hn]
    rw [mg_id (qs := qs) (by rw [e, List.append_assoc]; exact h), e, List.append_assoc]
    rfl
abbrev tq (zs : List Int) : List (Int × PyData) := zs.map fun z => (z, .bool true)
theorem tq_keys (zs : List Int) : (tq zs).map (·.1) = zs := by
  rw [List.map_map]
  exact List.map_id zs
theorem mg_snoc (acc qs : List (Int × PyData)) (q : Int × PyData) : mg acc (qs ++ [q]) = putI (mg acc qs) q.1 q.2 := by
  unfold mg
  rw [List.foldl_append]
  rfl
theorem rise_of : ∀ {zs : List Int}, (∀ j x y, zs[j]? = some x → zs[j + 1]? = some y → x < y) → zs.Pairwise (· < ·)
  | [], _ => .nil
  | [z], _ => by simp
  | z :: y :: zs, h => by
    have ih := rise_of (zs := y :: zs) fun j a b ha hb => h (j + 1) a b (by simpa using ha) (by simpa using hb)
    have h0 := h 0 z y rfl rfl
    refine .cons (fun x hx => ?_) ih
    rcases List.mem_cons.mp hx with q | q
    · rw [q]; exact h0
    · exact Int.lt_trans h0 (List.rel_of_pairwise_cons ih q)
theorem of_rise {zs : List Int} (h : zs.Pairwise (· < ·)) {j : Nat} {x y : Int} (hx : zs[j]? = some x) (hy : zs[j + 1]? = some y) : x < y := by
  obtain ⟨l1, e1⟩ := List.getElem?_eq_some_iff.mp hx
  obtain ⟨l2, e2⟩ := List.getElem?_eq_some_iff.mp hy
  rw [← e1, ← e2]
  exact List.pairwise_iff_getElem.mp h j (j + 1) l1 l2 (Nat.lt_succ_self j)
/-- what rises is what its own keys are, put in order -/
theorem rise_iff (zs : List Int) : zs = srt ((mg [] (tq zs)).map (·.1)) ↔ zs.Pairwise (· < ·) := by
  constructor
  · intro h
    have nd : ((mg [] (tq zs)).map (·.1)).Nodup := mg_nd (by exact List.nodup_nil)
    have nz : zs.Nodup := by rw [h]; exact (List.mergeSort_perm _ _).nodup_iff.mpr nd
    have le : zs.Pairwise (· ≤ ·) := by
      rw [h]
      have := List.pairwise_mergeSort (le := fun a b : Int => decide (a ≤ b)) (fun a b c h1 h2 => by simp at h1 h2 ⊢; omega) (fun a b => by simp; omega) ((mg [] (tq zs)).map (·.1))
      exact this.imp fun h => by simpa using h
    exact (le.and nz).imp fun {a b} q => by
      obtain ⟨q1, q2⟩ := q
      have : a ≠ b := q2
      omega
  · intro h
    have nz : zs.Nodup := h.imp fun {a b} q => by omega
    have e : (mg [] (tq zs)).map (·.1) = zs := by
      have := mg_id (qs := tq zs) (acc := []) (by rw [tq_keys]; exact nz)
      rw [this, tq_keys]
      rfl
    rw [e]
    exact sort_one (List.Perm.refl zs) (h.imp fun {a b} q => by omega)
end K40

end
/-! P40l -/
section
set_option maxHeartbeats 4000000
namespace K40
open PySem L2 TL
/-! ## the leads by their starts -/
def gets (g : List (Int × List PyData)) (a : Int) : List PyData := ((g.find? fun q => decide (q.1 = a)).map (·.2)).getD []
theorem gets_add (x : Int) (y : PyData) (a : Int) : ∀ g : List (Int × List PyData), gets (addG g x y) a = if a = x then gets g a ++ [y] else gets g a
  | [] => by
    by_cases h : x = a
    · subst h
      simp [gets, addG]
    · simp [gets, addG, h, Ne.symm h]
  | (k, ds) :: g => by
    by_cases hk : k = x
    · subst hk
      by_cases h : k = a
      · subst h
        simp [gets, addG]
      · simp [gets, addG, h, Ne.symm h]
    · by_cases h : k = a
      · subst h
        simp [gets, addG, hk]
      · have e := gets_add x y a g
        unfold gets at e ⊢
        simp only [addG, if_neg hk, List.find?_cons, decide_eq_false h]
        exact e
def grp (ls : List (Int × Int)) (g : List (Int × List PyData)) : List (Int × List PyData) := ls.foldl (fun g p => addG g p.1 (.int p.2)) g
def succs (ls : List (Int × Int)) (a : Int) : List Int := (ls.filter fun p => decide (p.1 = a)).map (·.2)
theorem gets_grp (a : Int) : ∀ (ls : List (Int × Int)) (g : List (Int × List PyData)), gets (grp ls g) a = gets g a ++ (succs ls a).map .int
  | [], g => by simp [grp, succs]
  | p :: ls, g => by
    show gets (grp ls (addG g p.1 (.int p.2))) a = _
    rw [gets_grp a ls, gets_add]
    by_cases h : a = p.1
    · subst h
      simp [succs]
    · simp [succs, h, Ne.symm h]
theorem succs_mem {ls : List (Int × Int)} {a b : Int} : b ∈ succs ls a ↔ (a, b) ∈ ls := by
  unfold succs
  simp only [List.mem_map, List.mem_filter, decide_eq_true_eq]
  constructor
  · rintro ⟨⟨x, y⟩, ⟨h1, h2⟩, h3⟩
    simp only at h2 h3
    rw [← h2, ← h3]; exact h1
  · intro h
    exact ⟨(a, b), ⟨h, rfl⟩, rfl⟩
theorem addG_len (x : Int) (y : PyData) : ∀ g : List (Int × List PyData), (addG g x y).length ≤ g.length + 1 ∧ ∀ n, (∀ q ∈ g, q.2.length ≤ n) → ∀ q ∈ addG g x y, q.2.length ≤ n + 1
  | [] => ⟨by simp [addG], fun n h q hq => by simp [addG] at hq; rw [hq]; simp⟩
  | (k, ds) :: g => by
    by_cases hk : k = x
    · simp only [addG, if_pos hk]
      refine ⟨by simp, fun n h q hq => ?_⟩
      rcases List.mem_cons.mp hq with e | e
      · rw [e]
        have : ds.length ≤ n := h (k, ds) List.mem_cons_self
        simp only [List.length_append, List.length_singleton]
        omega
      · have := h q (List.mem_cons_of_mem _ e)
        omega
    · simp only [addG, if_neg hk]
      obtain ⟨h1, h2⟩ := addG_len x y g
      refine ⟨by simp only [List.length_cons]; omega, fun n h q hq => ?_⟩
      rcases List.mem_cons.mp hq with e | e
      · rw [e]
        have := h (k, ds) List.mem_cons_self
        simp only at this ⊢
        omega
      · exact h2 n (fun z hz => h z (List.mem_cons_of_mem _ hz)) q e
theorem loopG_run {a b : Nat} : ∀ (ls : List (Int × Int)) (r : Rs) (g : List (Int × List PyData)) (n : Nat), a < r.length → b < r.length → g.length ≤ n → (∀ q ∈ g, q.2.length ≤ n) → n + ls.length < 1000 →
    ∃ e e', loopG a b (ls.map pr) r g = some ((r.set a e).set b e', grp ls g)
  | [], r, g, n, ha, hb, _, _, _ => ⟨r[a], r[b], by rw [List.set_getElem_self, List.set_getElem_self]; rfl⟩
  | p :: ls, r, g, n, ha, hb, hg, hq, hn => by
    simp only [List.length_cons] at hn
    obtain ⟨l1, l2⟩ := addG_len p.1 (.int p.2) g
    obtain ⟨e, e', h⟩ := loopG_run ls ((r.set a (.fz (.int p.1))).set b (.fz (.int p.2))) (addG g p.1 (.int p.2)) (n + 1) (by simpa using ha) (by simpa using hb) (by omega) (l2 n hq) (by omega)
    refine ⟨e, e', ?_⟩
    show (if _ then loopG a b (ls.map pr) _ _ else none) = _
    rw [if_pos ⟨ha, hb, by omega, fun q hz => by have := hq q hz; omega⟩, h]
    congr 2
    by_cases hab : a = b
    · subst hab
      simp
    · rw [List.set_comm _ _ (Ne.symm hab), List.set_set, List.set_set]
theorem w_grp {i a b k : Nat} {fi : Eas} {r : Rs} {m : Ms} {S : Out → Prop} (hk : slO r[i]? = some k) (ha : a < r.length) (hb : b < r.length) (h : W (fi r m) fun p => ∃ ls : List (Int × Int), p.1 = ls.map pr ∧ ls.length ≤ 900 ∧ cellAt p.2 k = some (.dict []) ∧
    ∀ e e', S (.nx ((r.set a e).set b e') (p.2.set k (some (treeG (grp ls [])))))) : W (sGrp i a b fi r m) S := by
  unfold sGrp
  refine W.bind (W.mono h fun p ⟨ls, e1, e2, e3, q⟩ => ?_)
  rw [hk]
  show W (match cellAt p.2 k with | some (.dict []) => _ | _ => none) S
  rw [e3, e1]
  obtain ⟨e, e', h⟩ := loopG_run ls r [] 0 ha hb (Nat.le_refl 0) (fun q hq => by cases hq) (by omega)
  show W (Option.map _ (loopG a b (ls.map pr) r [])) S
  rw [h]
  exact .mk (q e e')
theorem valP_tree (g : List (Int × List PyData)) (a : Int) : valP (g.map fun q => (PyData.int q.1, PyData.list q.2)) (.inl a) = (g.find? fun q => decide (q.1 = a)).map fun q => .list q.2 := by
  induction g with
  | nil => rfl
  | cons q g ih =>
    unfold valP at ih ⊢
    by_cases h : q.1 = a
    · simp [List.find?_cons, keyI, h]
    · have : decide (keyD (PyData.int q.1) = some (Sum.inl a)) = false := decide_eq_false fun z => h (keyI.mp z)
      simp only [List.map_cons, List.find?_cons, this, decide_eq_false h]
      exact ih
theorem noSG (g : List (Int × List PyData)) : isSetD (treeG g) = false := by cases g <;> rfl
/-- what stands under a number: the numbers that it leads to -/
theorem w_leads {ls : List (Int × Int)} {a : Int} {R : PyData → Prop} (h : ∀ d, itemsD d = some ((succs ls a).map .int) → R d) : W (dgetD (treeG (grp ls [])) (.int a) (.tuple [])) R := by
  have e := gets_grp a ls []
  have e0 : gets [] a = [] := rfl
  rw [e0, List.nil_append] at e
  unfold gets at e
  show W (if isSetD (treeG (grp ls [])) = true then none else Option.map _ (some (Sum.inl a))) R
  rw [if_neg (by rw [noSG]; decide)]
  refine .mk (h _ ?_)
  show itemsD ((valP ((grp ls []).map fun q => (PyData.int q.1, PyData.list q.2)) (Sum.inl a)).getD (.tuple [])) = _
  rw [valP_tree]
  cases hf : (grp ls []).find? fun q => decide (q.1 = a) with
  | none =>
    rw [hf] at e
    rw [← e]
    rfl
  | some q =>
    rw [hf] at e
    rw [← e]
    rfl
theorem w_get2 {f g h : Ev} {r : Rs} {m : Ms} {Q : PyData × Ms → Prop} (q : W (f r m) fun p => W (g r p.2) fun u => W (h r u.2) fun w => W (dgetD p.1 u.1 w.1) fun d => Q (d, w.2)) : W (eGet f g h r m) Q := W.bind (W.mono q fun _ q => W.bind (W.mono q fun _ q => W.bind (W.mono q fun _ q => W.map q)))
end K40

end
/-! P40m -/
section
set_option maxHeartbeats 4000000
namespace K40
open PySem L2 TL
/-! ## steps from the roots -/
def Rt (N : Nt) : Nat → Int → Prop
  | 0, k => k ∈ N.rs
  | t + 1, k => ∃ p, Rt N t p ∧ (p, k) ∈ N.ls
/-- t steps, and no fewer -/
def Lv (N : Nt) (t : Nat) (k : Int) : Prop := Rt N t k ∧ ∀ s, s < t → ¬ Rt N s k
theorem Lv.one {N : Nt} {s t : Nat} {k : Int} (h : Lv N s k) (g : Lv N t k) : s = t := by
  rcases Nat.lt_trichotomy s t with q | q | q
  · exact absurd h.1 (g.2 s q)
  · exact q
  · exact absurd g.1 (h.2 t q)
theorem lv_of {N : Nt} {k : Int} : ∀ {s : Nat}, Rt N s k → ∃ t, t ≤ s ∧ Lv N t k := by
  intro s
  induction s using Nat.strongRecOn with
  | _ s ih =>
    intro h
    by_cases c : ∃ u, u < s ∧ Rt N u k
    · obtain ⟨u, hu, hr⟩ := c
      obtain ⟨t, ht, hl⟩ := ih u hu hr
      exact ⟨t, by omega, hl⟩
    · exact ⟨s, Nat.le_refl s, h, fun u hu hr => c ⟨u, hu, hr⟩⟩
theorem Lv.pred {N : Nt} {t : Nat} {k : Int} (h : Lv N (t + 1) k) : ∃ p, Lv N t p ∧ (p, k) ∈ N.ls := by
  obtain ⟨p, hp, hl⟩ := h.1
  refine ⟨p, ⟨hp, fun s hs hr => ?_⟩, hl⟩
  exact h.2 (s + 1) (by omega) ⟨p, hr, hl⟩
theorem Lv.root {N : Nt} {k : Int} (h : k ∈ N.rs) : Lv N 0 k := ⟨h, fun s hs => absurd hs (Nat.not_lt_zero s)⟩
/-- what was led to so far: each by a root, or by one that stands before it, by steps that rise -/
structure Led (N : Nt) (qs : List (Int × PyData)) : Prop where
  kn : Kn N.n (qs.map (·.1))
  st : ∀ (i : Nat) (k : Int) (v : PyData), qs[i]? = some (k, v) → ∃ t, Lv N t k ∧ ((v = .none ∧ k ∈ N.rs ∧ t = 0) ∨ ∃ (p : Int) (j : Nat) (v' : PyData) (s : Nat), v = .int p ∧ (p, k) ∈ N.ls ∧ j < i ∧ qs[j]? = some (p, v') ∧ Lv N s p ∧ t = s + 1)
  mo : ∀ (i j : Nat) (k k' : Int) (v v' : PyData) (t t' : Nat), i ≤ j → qs[i]? = some (k, v) → qs[j]? = some (k', v') → Lv N t k → Lv N t' k' → t ≤ t'
theorem Led.nil {N : Nt} : Led N [] := ⟨Kn.nil, fun i k v h => (by simp at h), fun i j k k' v v' t t' _ h => (by simp at h)⟩
theorem putI_new {qs : List (Int × PyData)} {z : Int} {d : PyData} (h : z ∉ qs.map (·.1)) : putI qs z d = qs ++ [(z, d)] := by
  unfold putI
  rw [if_neg fun e => ?_]
  obtain ⟨q, hq, e⟩ := List.any_eq_true.mp e
  exact h (List.mem_map.mpr ⟨q, hq, of_decide_eq_true e⟩)
theorem Led.app {N : Nt} {qs : List (Int × PyData)} {z : Int} {d : PyData} {t : Nat} (L : Led N qs) (hz : z ∉ qs.map (·.1)) (z0 : 0 ≤ z) (z1 : z < N.n) (hl : Lv N t z) (h : (d = .none ∧ z ∈ N.rs ∧ t = 0) ∨ ∃ (p : Int) (j : Nat) (v' : PyData) (s : Nat), d = .int p ∧ (p, z) ∈ N.ls ∧ j < qs.length ∧ qs[j]? = some (p, v') ∧ Lv N s p ∧ t = s + 1)
    (hm : ∀ (i : Nat) (k : Int) (v : PyData) (s : Nat), qs[i]? = some (k, v) → Lv N s k → s ≤ t) : Led N (qs ++ [(z, d)]) := by
  have up : ∀ {j : Nat} {x : Int × PyData}, qs[j]? = some x → (qs ++ [(z, d)])[j]? = some x := fun {j x} e => by
    rw [List.getElem?_append_left (List.getElem?_eq_some_iff.mp e).1]
    exact e
  have last : ∀ {i : Nat} {k : Int} {v : PyData}, ¬ i < qs.length → (qs ++ [(z, d)])[i]? = some (k, v) → i = qs.length ∧ k = z ∧ v = d := fun {i k v} hi e => by
    rw [List.getElem?_append_right (by omega)] at e
    have hi2 : i = qs.length := by
      have := (List.getElem?_eq_some_iff.mp e).1
      rw [List.length_singleton] at this
      omega
    subst hi2
    rw [Nat.sub_self] at e
    cases e
    exact ⟨rfl, rfl, rfl⟩
  refine ⟨by rw [← putI_new hz]; exact L.kn.put z0 z1, fun i k v e => ?_, fun i j k k' v v' s s' hij e e' g g' => ?_⟩
  · by_cases hi : i < qs.length
    · rw [List.getElem?_append_left hi] at e
      obtain ⟨s, h1, h2⟩ := L.st i k v e
      refine ⟨s, h1, ?_⟩
      rcases h2 with q | ⟨p, j, v', s', a1, a2, a3, a4, a5⟩
      · exact .inl q
      · exact .inr ⟨p, j, v', s', a1, a2, a3, up a4, a5⟩
    · obtain ⟨rfl, rfl, rfl⟩ := last hi e
      refine ⟨t, hl, ?_⟩
      rcases h with q | ⟨p, j, v', s', a1, a2, a3, a4, a5⟩
      · exact .inl q
      · exact .inr ⟨p, j, v', s', a1, a2, a3, up a4, a5⟩
  · by_cases hj : j < qs.length
    · rw [List.getElem?_append_left hj] at e'
      rw [List.getElem?_append_left (by omega)] at e
      exact L.mo i j k k' v v' s s' hij e e' g g'
    · obtain ⟨_, rfl, _⟩ := last hj e'
      have := g'.one hl
      subst this
      by_cases hi : i < qs.length
      · rw [List.getElem?_append_left hi] at e
        exact hm i k v s e g
      · obtain ⟨_, rfl, _⟩ := last hi e
        exact Nat.le_of_eq (g.one hl)
/-- a new one's steps: one more than those of the one that led to it -/
theorem new_lv {N : Nt} {qm : List (Int × PyData)} {at_ t0 : Nat} {k b : Int} {v : PyData} (L : Led N qm) (hro : ∀ r ∈ N.rs, r ∈ qm.map (·.1)) (hcl : ∀ (j : Nat) (k : Int) (v : PyData), j < at_ → qm[j]? = some (k, v) → ∀ b, (k, b) ∈ N.ls → b ∈ qm.map (·.1))
    (hat : qm[at_]? = some (k, v)) (hk : Lv N t0 k) (hkb : (k, b) ∈ N.ls) (hb : b ∉ qm.map (·.1)) : Lv N (t0 + 1) b := by
  have comp : ∀ s, s ≤ t0 → ∀ x, Lv N s x → x ∈ qm.map (·.1) := by
    intro s
    induction s with
    | zero => exact fun _ x hx => hro x hx.1
    | succ s ih =>
      intro hs x hx
      obtain ⟨p, hp, hpx⟩ := hx.pred
      have hpm := ih (by omega) p hp
      obtain ⟨y, hy, e⟩ := List.mem_map.mp hpm
      obtain ⟨j, hj⟩ := List.mem_iff_getElem?.mp hy
      obtain ⟨p', v'⟩ := y
      simp only at e
      subst e
      refine hcl j p' v' ?_ hj x hpx
      apply Classical.byContradiction
      intro hge
      have := L.mo at_ j k p' v v' t0 s (by omega) hat hj hk hp
      omega
  refine ⟨⟨k, hk.1, hkb⟩, fun s hs hr => ?_⟩
  obtain ⟨u, hu, hl⟩ := lv_of hr
  exact hb (comp u (by omega) b hl)
theorem w_dkO {i k : Nat} {r : Rs} {m : Ms} {qs : List (Int × PyData)} {Q : PyData × Ms → Prop} (hk : slO r[i]? = some k) (hc : cellAt m k = some (.dict (dI qs))) (q : Q (iL (qs.map (·.1)), m)) : W (eDkO i r m) Q := by
  unfold eDkO
  rw [hk]
  show W (Option.bind (cellAt m k) _) Q
  rw [hc]
  have e : (dI qs).map (·.1) = (qs.map (·.1)).map PyData.int := by rw [List.map_map, List.map_map]; rfl
  show W (some (PyData.list ((dI qs).map (·.1)), m)) Q
  rw [e]
  exact .mk q
theorem led_from_w {N : Nt} {Q : PyData → Prop} (hN : N.ok) (q : ∀ qs, Led N qs → (∀ r ∈ N.rs, r ∈ qs.map (·.1)) → (∀ a b, a ∈ qs.map (·.1) → (a, b) ∈ N.ls → b ∈ qs.map (·.1)) → Q (.dict (dI qs))) : W (m_led_from [iL N.rs, treeG (grp N.ls [])]) Q := by
  have n1 := hN.n1
  have n2 := hN.n2
  have hrl := hN.rs.len (by omega)
  unfold m_led_from b_led_from
  generalize hT : treeG (grp N.ls []) = T
  walk_at "tlew"
  refine w_dcI (fun ds i qs m => ds = N.rs.map .int ∧ i ≤ N.rs.length ∧ qs = (N.rs.take i).map (fun r => (r, PyData.none)) ∧ Led N qs ∧ m = []) ?_
  walk_at "tlew"
  refine ⟨⟨by trivial, Nat.zero_le _, rfl, Led.nil, by trivial⟩, ?_, ?_⟩
  · rintro i d m qs hx ⟨_, hi, hqs, hL, rfl⟩
    obtain ⟨z, hz, rfl⟩ := int_at hx
    have hlt := (List.getElem?_eq_some_iff.mp hz).1
    have hzr := List.mem_of_getElem? hz
    have hnew : z ∉ qs.map (·.1) := by
      have ek : ((N.rs.take i).map fun r => (r, PyData.none)).map (·.1) = N.rs.take i := by
        rw [List.map_map]
        exact List.map_id _
      rw [hqs, ek]
      intro hm'
      obtain ⟨j, hj⟩ := List.mem_iff_getElem?.mp hm'
      have hji : j < i := by
        have := (List.getElem?_eq_some_iff.mp hj).1
        rw [List.length_take] at this
        omega
      rw [List.getElem?_take_of_lt hji] at hj
      obtain ⟨l1, q1⟩ := List.getElem?_eq_some_iff.mp hj
      obtain ⟨l2, q2⟩ := List.getElem?_eq_some_iff.mp hz
      have := (List.getElem_inj hN.rs.nd).mp (q1.trans q2.symm)
      omega
    have hql : qs.length = i := by rw [hqs, List.length_map, List.length_take]; exact Nat.min_eq_left hi
    simp only [wipeR]
    walk_at "tlex"
    refine ⟨_, rfl, lt_line (by rw [hql]; omega), by trivial, hlt, ?_, ?_, by trivial⟩
    · rw [putI_new hnew, hqs, List.take_add_one, hz]
      simp
    · rw [putI_new hnew]
      refine hL.app hnew (hN.rs.lo z hzr).1 (hN.rs.lo z hzr).2 (Lv.root hzr) (.inl ⟨rfl, hzr, rfl⟩) fun i' k' v' s' e' g' => ?_
      have hm' := List.mem_of_getElem? e'
      rw [hqs] at hm'
      obtain ⟨y, hy, e⟩ := List.mem_map.mp hm'
      cases e
      exact Nat.le_of_eq (g'.one (Lv.root (List.mem_of_mem_take hy)))
  · rintro qs m ⟨_, hi, hqs, hL, rfl⟩
    rw [List.length_map, List.take_length] at hqs
    have hro : ∀ r ∈ N.rs, r ∈ qs.map (·.1) := fun r hr => by
      rw [hqs, List.map_map]
      exact List.mem_map.mpr ⟨r, hr, rfl⟩
    have hcap : ∀ (i : Nat) (k : Int) (v : PyData) (t : Nat) (k0 : Int) (v0 : PyData) (t0 : Nat), qs[i]? = some (k, v) → Lv N t k → qs[0]? = some (k0, v0) → Lv N t0 k0 → t ≤ t0 + 1 := fun i' k' v' t' k0 v0 t0 e' g' _ _ => by
      have hm' := List.mem_of_getElem? e'
      rw [hqs] at hm'
      obtain ⟨y, hy, e⟩ := List.mem_map.mp hm'
      cases e
      have := g'.one (Lv.root hy)
      omega
    clear hqs
    walk_at "tlew"
    refine w_dkO rfl rfl ?_
    walk_at "tlew"
    refine w_while (fun n r m => ∃ (at_ : Nat) (qs : List (Int × PyData)) (e5 e6 : Sl), n + at_ = N.n.toNat ∧ at_ ≤ qs.length ∧ Led N qs ∧ (∀ r ∈ N.rs, r ∈ qs.map (·.1)) ∧ (∀ (j : Nat) (k : Int) (v : PyData), j < at_ → qs[j]? = some (k, v) → ∀ b, (k, b) ∈ N.ls → b ∈ qs.map (·.1)) ∧ (∀ (i : Nat) (k : Int) (v : PyData) (t : Nat) (k0 : Int) (v0 : PyData) (t0 : Nat), qs[i]? = some (k, v) → Lv N t k → qs[at_]? = some (k0, v0) → Lv N t0 k0 → t ≤ t0 + 1) ∧
      r = [.fz (iL N.rs), .fz T, .ow 0, .ow 1, .fz (.int (at_ : Nat)), e5, e6, .un] ∧ m = [some (.dict (dI qs)), some (iL (qs.map (·.1)))]) ?_ 10000 N.n.toNat _ _ (by omega) ⟨0, qs, _, _, rfl, Nat.zero_le _, hL, hro, fun j k v h => absurd h (Nat.not_lt_zero _), hcap, rfl, rfl⟩
    clear hcap
    rintro n r m ⟨at_, qs, e5, e6, hn, hat, hL, hro, hcl, hcap, rfl, rfl⟩
    have hql := hL.kn.len (by omega)
    have hkl : (qs.map (·.1)).length = qs.length := List.length_map _
    walk_at "tlex"
    refine ⟨fun hz => ?_, fun hz => ?_⟩
    · have hz := of_decide_eq_true hz
      rw [List.length_map, hkl] at hz
      have hlt : at_ < qs.length := by omega
      generalize hkv : qs[at_] = kv
      obtain ⟨k, v⟩ := kv
      have hat2 : qs[at_]? = some (k, v) := by rw [List.getElem?_eq_getElem hlt, hkv]
      obtain ⟨t0, hk0, _⟩ := hL.st at_ k v hat2
      refine ⟨n - 1, by omega, ?_⟩
      walk_at "tlex"
      have ea : atI (List.map PyData.int (List.map (fun x => x.fst) qs)) (at_ : Int) = some (.int k) := by
        rw [atI_in (Int.natCast_nonneg _) (by rw [List.length_map, List.length_map]; omega)]
        simp [hkv]
      refine W.of ea ?_
      walk_at "tlex"
      refine w_for (fun ds j r m => ds = (succs N.ls k).map .int ∧ ∃ (more : List (Int × PyData)) (e6 : Sl), Led N (qs ++ more) ∧ (∀ (i : Nat) (k : Int) (v : PyData) (t : Nat), (qs ++ more)[i]? = some (k, v) → Lv N t k → t ≤ t0 + 1) ∧ (∀ (j' : Nat) (b : Int), j' < j → (succs N.ls k)[j']? = some b → b ∈ (qs ++ more).map (·.1)) ∧
        r = [.fz (iL N.rs), .fz T, .ow 0, .ow 1, .fz (.int (at_ : Nat)), .fz (.int k), e6, .un] ∧ m = [some (.dict (dI (qs ++ more))), some (iL ((qs ++ more).map (·.1)))]) ?_
      walk_at "tlex"
      refine w_get2 ?_
      walk_at "tlex"
      subst hT
      refine w_leads fun dd hdd => ?_
      generalize treeG (grp N.ls []) = T
      refine W.of hdd ?_
      refine ⟨⟨rfl, [], _, by rw [List.append_nil]; exact hL, fun i' k' v' t' e' g' => hcap i' k' v' t' k v t0 (by rw [List.append_nil] at e'; exact e') g' hat2 hk0, fun j' b h => absurd h (Nat.not_lt_zero _), rfl, by rw [List.append_nil]⟩, ?_, ?_⟩
      · rintro j d r m hx ⟨_, more, e6, hLm, hcm, hdone, rfl, rfl⟩
        obtain ⟨b, hb, rfl⟩ := int_at hx
        have hab : (k, b) ∈ N.ls := succs_mem.mp (List.mem_of_getElem? hb)
        have hb2 := (hN.ls _ hab).2
        have hql2 := hLm.kn.len (by omega)
        rw [List.length_map] at hql2
        walk_at "tlex"
        refine w_if ?_
        walk_at "tlex"
        refine w_dInO rfl ?_
        walk_at "tlex"
        have hat3 : (qs ++ more)[at_]? = some (k, v) := by rw [List.getElem?_append_left hlt]; exact hat2
        have hrom : ∀ r ∈ N.rs, r ∈ (qs ++ more).map (·.1) := fun r hr => by
          rw [List.map_append]
          exact List.mem_append_left _ (hro r hr)
        have hclm : ∀ (j : Nat) (k : Int) (v : PyData), j < at_ → (qs ++ more)[j]? = some (k, v) → ∀ b, (k, b) ∈ N.ls → b ∈ (qs ++ more).map (·.1) := fun j k v hj e b hb => by
          rw [List.getElem?_append_left (by omega)] at e
          rw [List.map_append]
          exact List.mem_append_left _ (hcl j k v hj e b hb)
        have hat4 : at_ < (qs ++ more).length := (List.getElem?_eq_some_iff.mp hat3).1
        generalize hqm : qs ++ more = qm at *
        refine ⟨fun h1 => ?_, fun h1 => ?_⟩
        · have h1 : b ∉ qm.map (·.1) := by simpa using h1
          walk_at "tlex"
          refine w_dput rfl ?_
          walk_at "tlex"
          refine ⟨lt_line (by omega), ?_⟩
          rw [putI_new h1]
          walk_at "tlex"
          refine w_app rfl rfl ?_
          walk_at "tlex"
          refine ⟨_, rfl, lt_line (by rw [List.length_map, List.length_map]; omega), by trivial, more ++ [(b, .int k)], _, ?_, ?_, ?_, rfl, ?_⟩
          · rw [← List.append_assoc, hqm]
            exact hLm.app h1 hb2.1 hb2.2 (new_lv hLm hrom hclm hat3 hk0 hab h1) (.inr ⟨k, at_, v, t0, rfl, hab, hat4, hat3, hk0, rfl⟩) hcm
          · intro i' k' v' t' e' g'
            rw [← List.append_assoc, hqm] at e'
            by_cases hi' : i' < qm.length
            · rw [List.getElem?_append_left hi'] at e'
              exact hcm i' k' v' t' e' g'
            · rw [List.getElem?_append_right (by omega)] at e'
              have hz' := List.mem_of_getElem? e'
              have hz' := List.mem_singleton.mp hz'
              cases hz'
              exact Nat.le_of_eq (g'.one (new_lv hLm hrom hclm hat3 hk0 hab h1))
          · intro j' b' hj' hb'
            rw [← List.append_assoc, hqm, List.map_append]
            by_cases hjj : j' < j
            · exact List.mem_append_left _ (hdone j' b' hjj hb')
            · have : j' = j := by omega
              subst this
              rw [hb] at hb'
              cases hb'
              exact List.mem_append_right _ (by simp)
          · rw [← List.append_assoc, hqm]
            simp [iL, dI]
        · have h1 : b ∈ qm.map (·.1) := by simpa using h1
          walk_at "tlex"
          refine ⟨more, _, by rw [hqm]; exact hLm, by rw [hqm]; exact hcm, ?_, rfl, by rw [hqm]⟩
          intro j' b' hj' hb'
          rw [hqm]
          by_cases hjj : j' < j
          · exact hdone j' b' hjj hb'
          · have : j' = j := by omega
            subst this
            rw [hb] at hb'
            cases hb'
            exact h1
      · rintro r m ⟨_, more, e6, hLm, hcm, hdone, rfl, rfl⟩
        walk_at "tlex"
        refine W.of (show addI (.int (at_ : Int)) (.int 1) = some (.int ((at_ + 1 : Nat) : Int)) from rfl) ?_
        have keyup : ∀ {z : Int}, z ∈ qs.map (·.1) → z ∈ (qs ++ more).map (·.1) := fun {z} h => by
          rw [List.map_append]
          exact List.mem_append_left _ h
        refine ⟨at_ + 1, qs ++ more, _, _, by omega, by rw [List.length_append]; omega, hLm, fun r hr => keyup (hro r hr), fun j k' v' hj hj2 b hb => ?_, fun i' k' v' t' k1 v1 t1 e' g' e1 g1 => ?_, rfl, rfl⟩
        rotate_left
        · have h1 := hcm i' k' v' t' e' g'
          have h2 := hLm.mo at_ (at_ + 1) k k1 v v1 t0 t1 (by omega) (by rw [List.getElem?_append_left hlt]; exact hat2) e1 hk0 g1
          omega
        by_cases hja : j < at_
        · rw [List.getElem?_append_left (by omega)] at hj2
          exact keyup (hcl j k' v' hja hj2 b hb)
        · have : j = at_ := by omega
          subst this
          rw [List.getElem?_append_left hlt, hat2] at hj2
          cases hj2
          obtain ⟨j', hj'⟩ := List.mem_iff_getElem?.mp (succs_mem.mpr hb)
          have := (List.getElem?_eq_some_iff.mp hj').1
          exact hdone j' b (by rw [List.length_map]; exact this) hj'
    · have hz := of_decide_eq_false hz
      rw [List.length_map, hkl] at hz
      refine w_frz rfl rfl ?_
      simp only [frzR]
      walk_at "tlex"
      refine q qs hL hro fun a b ha hab => ?_
      obtain ⟨x, hx, rfl⟩ := List.mem_map.mp ha
      obtain ⟨j, hj⟩ := List.mem_iff_getElem?.mp hx
      have := (List.getElem?_eq_some_iff.mp hj).1
      exact hcl j x.1 x.2 (by omega) hj b hab
end K40

end
/-! P40n -/
section
set_option maxHeartbeats 4000000
namespace K40
open PySem L2 TL
theorem led_w {N : Nt} {Q : PyData → Prop} (hN : N.ok) (q : ∀ qs, Led N qs → (∀ r ∈ N.rs, r ∈ qs.map (·.1)) → (∀ a b, a ∈ qs.map (·.1) → (a, b) ∈ N.ls → b ∈ qs.map (·.1)) → Q (.dict (dI qs))) : W (m__led [N.d]) Q := by
  have hll := hN.ll
  unfold m__led b__led
  walk_at "tlew"
  refine w_dct ?_
  walk_at "tlew"
  refine w_grp rfl (by simp only [List.length_cons, List.length_nil]; decide) (by simp only [List.length_cons, List.length_nil]; decide) ?_
  walk_at "tlew"
  refine ⟨N.ls, rfl, by omega, rfl, fun e e' => ?_⟩
  walk_at "tlew"
  refine w_frz rfl rfl ?_
  simp only [frzR]
  walk_at "tlew"
  exact led_from_w hN q
/-- reached from the roots -/
inductive Rch (N : Nt) : Int → Prop
  | root {r : Int} : r ∈ N.rs → Rch N r
  | step {a b : Int} : Rch N a → (a, b) ∈ N.ls → Rch N b
theorem Led.rch {N : Nt} {qs : List (Int × PyData)} (L : Led N qs) : ∀ (n i : Nat) (k : Int) (v : PyData), i < n → qs[i]? = some (k, v) → Rch N k
  | 0, i, k, v, h, _ => absurd h (Nat.not_lt_zero _)
  | n + 1, i, k, v, h, e => by
    obtain ⟨t, _, h⟩ := L.st i k v e
    rcases h with ⟨_, h1, _⟩ | ⟨p, j, v', s, _, h2, h3, h4, _⟩
    · exact .root h1
    · exact .step (Led.rch L n j p v' (by omega) h4) h2
theorem Led.iff {N : Nt} {qs : List (Int × PyData)} (L : Led N qs) (h1 : ∀ r ∈ N.rs, r ∈ qs.map (·.1)) (h2 : ∀ a b, a ∈ qs.map (·.1) → (a, b) ∈ N.ls → b ∈ qs.map (·.1)) (k : Int) : k ∈ qs.map (·.1) ↔ Rch N k := by
  constructor
  · intro h
    obtain ⟨x, hx, rfl⟩ := List.mem_map.mp h
    obtain ⟨i, hi⟩ := List.mem_iff_getElem?.mp hx
    exact L.rch (i + 1) i x.1 x.2 (Nat.lt_succ_self i) hi
  · intro h
    induction h with
    | root h => exact h1 _ h
    | step _ h3 ih => exact h2 _ _ ih h3
/-- rising, and just what is reached -/
structure Rs' (N : Nt) (is : List Int) : Prop where
  kn : Kn N.n is
  up : is.Pairwise (· < ·)
  mem : ∀ k, k ∈ is ↔ Rch N k
theorem srt_up {n : Int} {ks : List Int} (h : Kn n ks) : (srt ks).Pairwise (· < ·) := by
  have h1 : (srt ks).Pairwise (fun a b => a ≤ b) := by
    have := List.pairwise_mergeSort (le := fun a b : Int => decide (a ≤ b)) (fun a b c h1 h2 => by simp at h1 h2 ⊢; omega) (fun a b => by simp; omega) ks
    exact this.imp fun h => by simpa using h
  have h2 : (srt ks).Nodup := h.srt.nd
  exact (h1.and h2).imp fun h => by omega
theorem reached_w {N : Nt} {Q : TX.ROut → Prop} (hN : N.ok) (q : ∀ is, Rs' N is → Q (.nw (iL is))) : W (m_reached [N.d]) Q := by
  have n1 := hN.n1
  have n2 := hN.n2
  unfold m_reached b_reached
  refine TX.w_runM ?_
  walk_at "tlew"
  refine led_w hN fun qs L h1 h2 => ?_
  have hl := L.kn.len (by omega)
  rw [List.length_map] at hl
  walk_at "tlew"
  refine w_sortDL (qs := qs) (by omega) ?_
  walk_at "tlew"
  refine q _ ⟨L.kn.srt, srt_up L.kn, fun k => ?_⟩
  rw [← L.iff h1 h2 k]
  exact (List.mergeSort_perm _ _).mem_iff
/-- two rising lists of the same members are one -/
theorem rise_one {xs ys : List Int} (hx : xs.Pairwise (· < ·)) (hy : ys.Pairwise (· < ·)) (h : ∀ k, k ∈ xs ↔ k ∈ ys) : xs = ys := by
  have nx : xs.Nodup := hx.imp fun h => by omega
  have ny : ys.Nodup := hy.imp fun h => by omega
  exact List.Perm.eq_of_pairwise (le := fun a b : Int => a < b) (fun a b _ _ h1 h2 => by omega) hx hy ((List.perm_ext_iff_of_nodup nx ny).mpr h)
/-- what is reached is reached in steps -/
theorem rch_rt {N : Nt} {k : Int} : Rch N k ↔ ∃ t, Rt N t k := by
  constructor
  · intro h
    induction h with
    | root h => exact ⟨0, h⟩
    | step _ h ih =>
      obtain ⟨t, ht⟩ := ih
      exact ⟨t + 1, _, ht, h⟩
  · rintro ⟨t, h⟩
    induction t generalizing k with
    | zero => exact .root h
    | succ t ih =>
      obtain ⟨p, hp, hl⟩ := h
      exact .step (ih hp) hl
theorem Rch.lv {N : Nt} {k : Int} (h : Rch N k) : ∃ t, Lv N t k := by
  obtain ⟨t, ht⟩ := rch_rt.mp h
  obtain ⟨s, _, hs⟩ := lv_of ht
  exact ⟨s, hs⟩
theorem Lv.rch {N : Nt} {t : Nat} {k : Int} (h : Lv N t k) : Rch N k := rch_rt.mpr ⟨t, h.1⟩
theorem Rch.lo {N : Nt} (hN : N.ok) {k : Int} (h : Rch N k) : 0 ≤ k ∧ k < N.n := by
  cases h with
  | root h => exact hN.rs.lo _ h
  | step _ h => exact (hN.ls _ h).2
/-- fewer steps than numbers -/
theorem Lv.lt {N : Nt} (hN : N.ok) {t : Nat} {k : Int} (h : Lv N t k) : t < N.n.toNat := by
  have : ∀ (t : Nat) (k : Int), Lv N t k → ∃ zs, zs.length = t + 1 ∧ Kn N.n zs ∧ ∀ z ∈ zs, ∃ s, s ≤ t ∧ Lv N s z := by
    intro t
    induction t with
    | zero =>
      intro k h
      exact ⟨[k], rfl, ⟨by simp, fun z hz => by rw [List.mem_singleton.mp hz]; exact h.rch.lo hN⟩, fun z hz => by rw [List.mem_singleton.mp hz]; exact ⟨0, Nat.le_refl 0, h⟩⟩
    | succ t ih =>
      intro k h
      obtain ⟨p, hp, hl⟩ := h.pred
      obtain ⟨zs, z1, z2, z3⟩ := ih p hp
      refine ⟨k :: zs, by rw [List.length_cons, z1], ⟨List.nodup_cons.mpr ⟨fun c => ?_, z2.nd⟩, fun z hz => ?_⟩, fun z hz => ?_⟩
      · obtain ⟨s, hs, g⟩ := z3 k c
        have := g.one h
        omega
      · rcases List.mem_cons.mp hz with e | e
        · rw [e]; exact h.rch.lo hN
        · exact z2.lo z e
      · rcases List.mem_cons.mp hz with e | e
        · rw [e]; exact ⟨t + 1, Nat.le_refl _, h⟩
        · obtain ⟨s, hs, g⟩ := z3 z e
          exact ⟨s, by omega, g⟩
  obtain ⟨zs, z1, z2, _⟩ := this t k h
  have := z2.len hN.n1
  omega
theorem Rs'.one {N : Nt} {is js : List Int} (h : Rs' N is) (g : Rs' N js) : is = js := rise_one h.up g.up fun k => (h.mem k).trans (g.mem k).symm
end K40

end
/-! P40o -/
section
set_option maxHeartbeats 4000000
namespace K40
open PySem L2 TL
theorem key_one {qs : List (Int × PyData)} {n : Int} (h : Kn n (qs.map (·.1))) {i j : Nat} {k : Int} {v v' : PyData} (hi : qs[i]? = some (k, v)) (hj : qs[j]? = some (k, v')) : i = j ∧ v = v' := by
  obtain ⟨l1, q1⟩ := List.getElem?_eq_some_iff.mp hi
  obtain ⟨l2, q2⟩ := List.getElem?_eq_some_iff.mp hj
  have e : (qs.map (·.1))[i]'(by rw [List.length_map]; exact l1) = (qs.map (·.1))[j]'(by rw [List.length_map]; exact l2) := by
    rw [List.getElem_map, List.getElem_map, q1, q2]
  have := (List.getElem_inj h.nd).mp e
  subst this
  rw [hi] at hj
  cases hj
  exact ⟨rfl, rfl⟩
theorem w_dixI {n : Int} {qs : List (Int × PyData)} {i : Nat} {k : Int} {v : PyData} {R : PyData → Prop} (h : Kn n (qs.map (·.1))) (hi : qs[i]? = some (k, v)) (q : R v) : W (dixD (.dict (dI qs)) (.int k)) R := by
  have hm : k ∈ qs.map (·.1) := List.mem_map.mpr ⟨_, List.mem_of_getElem? hi, rfl⟩
  obtain ⟨d, h1, h2⟩ := valP_mem hm
  obtain ⟨j, hj⟩ := List.mem_iff_getElem?.mp h1
  obtain ⟨_, e⟩ := key_one h hi hj
  subst e
  show W (if isSetD (.dict (dI qs)) = true then none else Option.bind (some (Sum.inl k)) (valP (dI qs))) R
  rw [if_neg (by rw [noS]; decide)]
  show W (valP (dI qs) (Sum.inl k)) R
  rw [h2]
  exact .mk q
/-- the way so far, from the number backwards -/
def Back (N : Nt) : List Int → Prop
  | [] => True
  | [_] => True
  | a :: b :: zs => (b, a) ∈ N.ls ∧ Back N (b :: zs)
theorem atI_last (zs : List Int) (z : Int) : atI ((zs ++ [z]).map PyData.int) (-1) = some (.int z) := by
  unfold atI ixN
  have e : ((-1 : Int) + ((((zs ++ [z]).map PyData.int).length : Nat) : Int)).toNat = zs.length := by simp only [List.length_map, List.length_append, List.length_singleton]; omega
  rw [if_neg (by decide), if_pos (by simp only [List.length_map, List.length_append, List.length_singleton]; omega), e]
  show ((zs ++ [z]).map PyData.int)[zs.length]? = _
  rw [List.getElem?_map, List.getElem?_append_right (Nat.le_refl _), Nat.sub_self]
  rfl
theorem back_snoc {N : Nt} {z p : Int} (h : (p, z) ∈ N.ls) : ∀ {zs : List Int}, Back N (zs ++ [z]) → Back N (zs ++ [z] ++ [p])
  | [], _ => ⟨h, trivial⟩
  | [a], ⟨h1, _⟩ => ⟨h1, h, trivial⟩
  | a :: b :: zs, ⟨h1, h2⟩ => ⟨h1, back_snoc (zs := b :: zs) h h2⟩
theorem way_back_w {N : Nt} {qs : List (Int × PyData)} {k : Int} {v : PyData} {i : Nat} {Q : PyData → Prop} (hN : N.ok) (L : Led N qs) (hi : qs[i]? = some (k, v))
    (q : ∀ zs : List Int, zs.head? = some k → Back N zs → (∃ r, zs.getLast? = some r ∧ r ∈ N.rs) → zs.length ≤ qs.length → (∃ t, Lv N t k ∧ zs.length = t + 1) → Q (iL zs.reverse)) : W (m_way_back [.dict (dI qs), .int k]) Q := by
  have hn1 := hN.n1
  have hn2 := hN.n2
  have hql := L.kn.len (by omega)
  rw [List.length_map] at hql
  obtain ⟨tk, htk, _⟩ := L.st i k v hi
  unfold m_way_back b_way_back
  walk_at "tlex"
  refine w_while (fun n r m => ∃ (zs : List Int) (z : Int) (w : PyData) (x : Nat), x ≤ n ∧ qs[x]? = some (z, w) ∧ (zs ++ [z]).head? = some k ∧ Back N (zs ++ [z]) ∧ (∃ t, Lv N t z ∧ zs.length + t = tk) ∧ zs.length + x < qs.length ∧ r = [.fz (.dict (dI qs)), .fz (.int k), .ow 0] ∧ m = [some (iL (zs ++ [z]))]) ?_ 10000 i _ _ ?_ ?_
  · rintro n r m ⟨zs, z, w, x, hxn, hw, hh, hb, ⟨tz, htz, hlz⟩, hl, rfl, rfl⟩
    walk_at "tlex"
    refine W.of (atI_last zs z) ?_
    walk_at "tlex"
    refine w_dixI L.kn hw ?_
    walk_at "tlex"
    obtain ⟨tz', htz', hst⟩ := L.st x z w hw
    have := htz.one htz'
    subst this
    rcases hst with ⟨rfl, hr, rfl⟩ | ⟨p, j, v', sp, rfl, hpl, hjx, hj, hsp, rfl⟩
    · refine ⟨fun h => by simp at h, fun _ => ?_⟩
      refine w_frz rfl rfl ?_
      simp only [frzR]
      walk_at "tlex"
      refine W.mk ?_
      rw [← List.map_reverse]
      walk_at "tlex"
      exact q (zs ++ [z]) hh hb ⟨z, by simp, hr⟩ (by simp only [List.length_append, List.length_singleton]; omega) ⟨tk, htk, by simp only [List.length_append, List.length_singleton]; omega⟩
    · refine ⟨fun _ => ⟨n - 1, by omega, ?_⟩, fun h => by simp at h⟩
      refine w_app rfl rfl ?_
      walk_at "tlex"
      refine W.of (atI_last zs z) ?_
      walk_at "tlex"
      refine w_dixI L.kn hw ?_
      walk_at "tlex"
      refine ⟨_, rfl, lt_line (by simp only [List.length_map, List.length_append, List.length_singleton]; omega), zs ++ [z], p, v', j, by omega, hj, ?_, back_snoc hpl hb, ⟨sp, hsp, by simp only [List.length_append, List.length_singleton]; omega⟩, by simp only [List.length_append, List.length_singleton]; omega, by trivial, ?_⟩
      · cases zs with
        | nil => exact hh
        | cons a zs => exact hh
      · simp [iL]
  · have := (List.getElem?_eq_some_iff.mp hi).1
    omega
  · exact ⟨[], k, v, i, Nat.le_refl i, hi, rfl, trivial, ⟨tk, htk, by simp⟩, by have := (List.getElem?_eq_some_iff.mp hi).1; simpa using this, rfl, rfl⟩
end K40

end
/-! P40p -/
section
set_option maxHeartbeats 4000000
namespace K40
open PySem L2 TL
theorem back_at {N : Nt} : ∀ {zs : List Int} (i : Nat) {x y : Int}, Back N zs → zs[i]? = some x → zs[i + 1]? = some y → (y, x) ∈ N.ls
  | [], i, x, y, _, h, _ => by simp at h
  | [a], i, x, y, _, _, h => by simp at h
  | a :: b :: zs, 0, x, y, ⟨h1, _⟩, h2, h3 => by
    simp at h2 h3
    rw [← h2, ← h3]; exact h1
  | a :: b :: zs, i + 1, x, y, ⟨_, h1⟩, h2, h3 => back_at (zs := b :: zs) i h1 h2 h3
theorem back_way {N : Nt} {k r : Int} {zs : List Int} (h1 : zs.head? = some k) (h2 : Back N zs) (h3 : zs.getLast? = some r) (h4 : r ∈ N.rs) : Way N k zs.reverse := by
  have hl : 0 < zs.length := by cases zs with
    | nil => simp at h1
    | cons a zs => simp
  refine ⟨⟨r, ?_, h4⟩, ?_, fun i x y hx hy => ?_⟩
  · rw [← List.head?_eq_getElem?, List.head?_reverse]
    exact h3
  · rw [← List.getLast?_eq_getElem?, List.getLast?_reverse]
    exact h1
  · have l1 := (List.getElem?_eq_some_iff.mp hy).1
    rw [List.length_reverse] at l1
    rw [List.getElem?_reverse (by omega)] at hx hy
    refine back_at (zs.length - 1 - (i + 1)) h2 hy ?_
    rw [show zs.length - 1 - (i + 1) + 1 = zs.length - 1 - i by omega]
    exact hx
/-- a way from a root to the number -/
theorem way_to_w {N : Nt} {k : Int} {Q : TX.ROut → Prop} (hN : N.ok) (h0 : ¬ Rch N k → Q (.fz .none)) (h1 : Rch N k → ∀ zs, Way N k zs → (∃ t, Lv N t k ∧ zs.length = t + 1) → Q (.nw (iL zs))) : W (m_way_to [N.d, .int k]) Q := by
  have hn1 := hN.n1
  have hn2 := hN.n2
  unfold m_way_to b_way_to
  refine TX.w_runM ?_
  walk_at "tlew"
  refine led_w hN fun qs L g1 g2 => ?_
  have hql := L.kn.len (by omega)
  rw [List.length_map] at hql
  have hi := L.iff g1 g2 k
  walk_at "tlew"
  refine w_if ?_
  walk_at "tlew"
  refine w_din ?_
  walk_at "tlew"
  refine ⟨fun h => ?_, fun h => ?_⟩
  · have h : k ∈ qs.map (·.1) := by simpa using h
    obtain ⟨x, hx, e⟩ := List.mem_map.mp h
    obtain ⟨i, hx⟩ := List.mem_iff_getElem?.mp hx
    obtain ⟨k', v⟩ := x
    simp only at e
    subst e
    walk_at "tlew"
    refine way_back_w hN L hx fun zs a1 a2 ⟨r, a3, a4⟩ a5 a6 => ?_
    walk_at "tlew"
    exact h1 (hi.mp h) _ (back_way a1 a2 a3 a4) (by rw [List.length_reverse]; exact a6)
  · have h : k ∉ qs.map (·.1) := by simpa using h
    walk_at "tlew"
    exact h0 fun z => h (hi.mpr z)
end K40

end
/-! P40q -/
section
set_option maxHeartbeats 4000000
namespace K40
open PySem L2 TL
/-! ## _law_rounds: each with its steps -/
theorem mg_self : ∀ {qs acc : List (Int × PyData)}, (acc.map (·.1) ++ qs.map (·.1)).Nodup → mg acc qs = acc ++ qs
  | [], acc, _ => by rw [List.append_nil]; rfl
  | q :: qs, acc, h => by
    have hq : q.1 ∉ acc.map (·.1) := fun c => (List.nodup_append.mp h).2.2 q.1 c q.1 List.mem_cons_self rfl
    show mg (putI acc q.1 q.2) qs = _
    rw [putI_new hq, mg_self (by rw [List.map_append, List.append_assoc]; exact h), List.append_assoc]
    rfl
structure RI (N : Nt) (i : Nat) (qs : List (Int × PyData)) : Prop where
  kn : Kn N.n (qs.map (·.1))
  vl : ∀ k v, (k, v) ∈ qs → ∃ t : Nat, v = .int (t : Nat) ∧ Lv N t k ∧ t ≤ i
  al : ∀ k t, Lv N t k → t ≤ i → k ∈ qs.map (·.1)
structure RJ (N : Nt) (i j : Nat) (qs : List (Int × PyData)) : Prop where
  kn : Kn N.n (qs.map (·.1))
  vl : ∀ k v, (k, v) ∈ qs → ∃ t : Nat, v = .int (t : Nat) ∧ Lv N t k ∧ t ≤ i + 1
  al : ∀ k t, Lv N t k → t ≤ i → k ∈ qs.map (·.1)
  ld : ∀ p ∈ N.ls.take j, Lv N i p.1 → p.2 ∈ qs.map (·.1)
theorem RJ.go {N : Nt} {i j : Nat} {qs : List (Int × PyData)} {p : Int × Int} (h : RJ N i j qs) (hp : N.ls[j]? = some p) (k : Lv N i p.1 → p.2 ∈ qs.map (·.1)) : RJ N i (j + 1) qs := by
  refine ⟨h.kn, h.vl, h.al, fun x hx => ?_⟩
  rw [List.take_add_one, hp] at hx
  rcases List.mem_append.mp hx with q | q
  · exact h.ld x q
  · rw [List.mem_singleton.mp (show x ∈ [p] from q)]; exact k
theorem rounds_w {N : Nt} {Q : PyData → Prop} (hN : N.ok) (q : ∀ qs, Kn N.n (qs.map (·.1)) → (∀ k v, (k, v) ∈ qs → ∃ t : Nat, v = .int (t : Nat) ∧ Lv N t k) → (∀ k, k ∈ qs.map (·.1) ↔ Rch N k) → Q (.dict (dI qs))) : W (m__law_rounds [N.d]) Q := by
  have n1 := hN.n1
  have n2 := hN.n2
  unfold m__law_rounds b__law_rounds
  walk_at "tlew"
  refine w_lcI (fun ds i acc m => ds = N.rs.map .int ∧ i ≤ N.rs.length ∧ acc = ((N.rs.take i).map fun r => (r, PyData.int 0)).map (fun q : Int × PyData => .tuple [.int q.1, q.2]) ∧ m = []) ?_
  walk_at "tlew"
  refine ⟨⟨by trivial, Nat.zero_le _, rfl, by trivial⟩, ?_, ?_⟩
  · rintro i d m acc hx ⟨_, hi, rfl, rfl⟩
    obtain ⟨z, hz, rfl⟩ := int_at hx
    have hlt := (List.getElem?_eq_some_iff.mp hz).1
    have hl := hN.rs.len (by omega)
    simp only [wipeR]
    walk_at "tlew"
    refine ⟨fun _ => ?_, fun z => by cases z⟩
    walk_at "tlew"
    refine ⟨lt_line (by simp only [List.length_map, List.length_take]; omega), by trivial, hlt, ?_, by trivial⟩
    rw [List.take_add_one, hz]
    simp
  · rintro acc m ⟨_, hi, rfl, rfl⟩
    rw [List.length_map, List.take_length]
    walk_at "tlew"
    refine w_dictN ?_
    have ek : (N.rs.map fun r => (r, PyData.int 0)).map (·.1) = N.rs := by rw [List.map_map]; exact List.map_id _
    rw [mg_self (by rw [List.map_nil, List.nil_append, ek]; exact hN.rs.nd), List.nil_append]
    have h0 : RI N 0 (N.rs.map fun r => (r, PyData.int 0)) := ⟨by rw [ek]; exact hN.rs, fun k v h => by
      obtain ⟨r, hr, e⟩ := List.mem_map.mp h
      cases e
      exact ⟨0, rfl, Lv.root hr, Nat.le_refl 0⟩, fun k t h ht => by
      have e : t = 0 := by omega
      subst e
      rw [ek]
      exact h.1⟩
    generalize (N.rs.map fun r => (r, PyData.int 0)) = qs0 at h0 ⊢
    walk_at "tlew"
    refine w_for (fun ds i r m => ds = rangeD 0 N.n.toNat ∧ ∃ (qs : List (Int × PyData)) (e2 e6 e7 e8 : Sl), RI N i qs ∧ r = [.fz N.d, .ow 0, e2, .fz (.int N.n), .fz (iL N.rs), .fz (.list (N.ls.map pr)), e6, e7, e8] ∧ m = [some (.dict (dI qs))]) ?_
    walk_at "tlew"
    refine ⟨_, rfl, by omega, ⟨rfl, qs0, _, _, _, _, h0, rfl, rfl⟩, ?_, ?_⟩
    · rintro i d r m hx ⟨_, qs, e2, e6, e7, e8, hI, rfl, rfl⟩
      obtain ⟨hi, rfl⟩ := range_at hx
      walk_at "tlew"
      refine w_for (fun ds j r m => ds = N.ls.map pr ∧ ∃ (qs : List (Int × PyData)) (e6 e7 e8 : Sl), RJ N i j qs ∧ r = [.fz N.d, .ow 0, .fz (.int (0 + (i : Nat))), .fz (.int N.n), .fz (iL N.rs), .fz (.list (N.ls.map pr)), e6, e7, e8] ∧ m = [some (.dict (dI qs))]) ?_
      walk_at "tlew"
      refine ⟨⟨by trivial, qs, _, _, _, ⟨hI.kn, fun k v h => by
        obtain ⟨t, a, b, c⟩ := hI.vl k v h
        exact ⟨t, a, b, by omega⟩, hI.al, fun p hp => by cases hp⟩, rfl, by trivial⟩, ?_, ?_⟩
      · rintro j d r m hx2 ⟨_, qs, e6, e7, e8, hJ, rfl, rfl⟩
        obtain ⟨p, hp, rfl⟩ := pr_at hx2
        have hpm := List.mem_of_getElem? hp
        have hpl := hN.ls p hpm
        have hln := hJ.kn.len (by omega)
        rw [List.length_map] at hln
        refine w_hTup rfl (w_hCons (w_hNm (w_hCons (w_hNm (w_hNil ?_)))))
        walk_at "tlew"
        refine w_if ?_
        walk_at "tlew"
        refine w_dInO rfl ?_
        walk_at "tlew"
        refine ⟨fun h1 => ?_, fun h1 => ⟨fun z => (by cases z), fun _ => ?_⟩⟩
        · have h1 : p.1 ∈ qs.map (·.1) := by simpa using h1
          walk_at "tlew"
          refine w_dInO rfl ?_
          walk_at "tlew"
          refine ⟨fun h2 => ?_, fun h2 => ⟨fun z => (by cases z), fun _ => ?_⟩⟩
          · have h2 : p.2 ∉ qs.map (·.1) := by simpa using h2
            walk_at "tlew"
            refine w_dIxO rfl ?_
            walk_at "tlew"
            refine ⟨h1, fun d hd => ?_⟩
            obtain ⟨t, rfl, hlv, ht⟩ := hJ.vl _ _ hd
            walk_at "tlew"
            refine ⟨fun h3 => ?_, fun h3 => ?_⟩
            · have h3 : (t : Int) = 0 + (i : Int) := of_decide_eq_true h3
              have h3 : t = i := by omega
              subst h3
              have hnew : Lv N (t + 1) p.2 := by
                refine ⟨⟨p.1, hlv.1, hpm⟩, fun s hs hr => ?_⟩
                obtain ⟨u, hu, hl⟩ := lv_of hr
                exact h2 (hJ.al p.2 u hl (by omega))
              walk_at "tlew"
              refine w_dput rfl ?_
              walk_at "tlew"
              refine ⟨lt_line (by omega), by trivial, putI qs p.2 (.int (0 + (t : Int) + 1)), _, _, _, ?_, rfl, by trivial⟩
              refine RJ.go (p := p) ⟨hJ.kn.put hpl.2.1 hpl.2.2, fun k v h => ?_, fun k s h hs => ?_, fun x hx hl => ?_⟩ hp fun _ => ?_
              · rw [putI_new h2] at h
                rcases List.mem_append.mp h with c | c
                · exact hJ.vl k v c
                · cases List.mem_singleton.mp c
                  exact ⟨t + 1, congrArg PyData.int (by omega), hnew, Nat.le_refl _⟩
              · rw [putI_new h2, List.map_append]
                exact List.mem_append_left _ (hJ.al k s h hs)
              · rw [putI_new h2, List.map_append]
                exact List.mem_append_left _ (hJ.ld x hx hl)
              · rw [putI_new h2, List.map_append]
                exact List.mem_append_right _ (by simp)
            · have h3 : ¬ (t : Int) = 0 + (i : Int) := of_decide_eq_false h3
              walk_at "tlew"
              exact ⟨by trivial, qs, _, _, _, hJ.go hp fun g => absurd (hlv.one g) (by omega), rfl, by trivial⟩
          · have h2 : p.2 ∈ qs.map (·.1) := by simpa using h2
            walk_at "tlew"
            exact ⟨by trivial, qs, _, _, _, hJ.go hp fun _ => h2, rfl, by trivial⟩
        · have h1 : p.1 ∉ qs.map (·.1) := by simpa using h1
          walk_at "tlew"
          exact ⟨by trivial, qs, _, _, _, hJ.go hp fun g => absurd (hJ.al _ _ g (Nat.le_refl _)) h1, rfl, by trivial⟩
      · rintro r m ⟨_, qs, e6, e7, e8, hJ, rfl, rfl⟩
        rw [List.length_map] at hJ
        walk_at "tlew"
        refine ⟨by trivial, qs, _, _, _, _, ⟨hJ.kn, hJ.vl, fun k t h ht => ?_⟩, rfl, by trivial⟩
        by_cases c : t ≤ i
        · exact hJ.al k t h c
        · have e : t = i + 1 := by omega
          subst e
          obtain ⟨p, hp, hl⟩ := h.pred
          exact hJ.ld (p, k) (by rw [List.take_length]; exact hl) hp
    · rintro r m ⟨_, qs, e2, e6, e7, e8, hI, rfl, rfl⟩
      rw [range_len] at hI
      refine w_frz rfl rfl ?_
      simp only [frzR]
      walk_at "tlew"
      refine q qs hI.kn (fun k v h => ?_) fun k => ⟨fun h => ?_, fun h => ?_⟩
      · obtain ⟨t, a, b, _⟩ := hI.vl k v h
        exact ⟨t, a, b⟩
      · obtain ⟨x, hx, rfl⟩ := List.mem_map.mp h
        obtain ⟨t, _, b, _⟩ := hI.vl x.1 x.2 hx
        exact b.rch
      · obtain ⟨t, ht⟩ := h.lv
        exact hI.al k t ht (Nat.le_of_lt (ht.lt hN))
end K40

end
/-! P40r -/
section
set_option maxHeartbeats 4000000
namespace K40
open PySem L2 TL
mutual
theorem noSet_lay : ∀ d : PyData, d.canLay0 = true → noSet d = true
  | .none, _ => rfl
  | .bool _, _ => rfl
  | .int _, _ => rfl
  | .str _, _ => rfl
  | .list ds, h => by simp only [noSet]; exact noSet_layA ds (by simpa [PyData.canLay0] using h)
  | .tuple ds, h => by simp only [noSet]; exact noSet_layA ds (by simpa [PyData.canLay0] using h)
  | .dict _, h => by simp [PyData.canLay0] at h
theorem noSet_layA : ∀ ds : List PyData, PyData.canLayAll0 ds = true → noSetAll ds = true
  | [], _ => rfl
  | d :: ds, h => by
    have h' : d.canLay0 = true ∧ PyData.canLayAll0 ds = true := by simpa [PyData.canLayAll0] using h
    simp only [noSetAll, noSet_lay d h'.1, noSet_layA ds h'.2, Bool.and_self]
end
structure Ky (w k : Nat) (d : PyData) : Prop where
  ns : noSet d = true
  lv : d.leavesShort 40 = true
  dep : d.depth ≤ k
  shw : d.showable = true
  wgt : d.weight ≤ w
theorem Ky.mono {w k w' k' : Nat} {d : PyData} (h : Ky w k d) (a : w ≤ w') (b : k ≤ k') : Ky w' k' d := ⟨h.ns, h.lv, Nat.le_trans h.dep b, h.shw, Nat.le_trans h.wgt a⟩
theorem Ky.of {w k : Nat} {d : PyData} (h : Sx w k d) : Ky w k d := ⟨noSet_lay d h.lay, PyData.leavesShort_of_canLay0 40 d h.lay h.its, h.dep, h.shw, h.wgt⟩
theorem Ky.dct : Ky 0 1 (.dict []) := ⟨rfl, rfl, by decide +kernel, rfl, by decide +kernel⟩
theorem ky_ns : ∀ {ds : List PyData}, (∀ d ∈ ds, noSet d = true) → noSetAll ds = true
  | [], _ => rfl
  | d :: ds, h => by
    simp only [noSetAll, Bool.and_eq_true]
    exact ⟨h d List.mem_cons_self, ky_ns fun x hx => h x (List.mem_cons_of_mem _ hx)⟩
theorem ky_lv : ∀ {ds : List PyData}, (∀ d ∈ ds, d.leavesShort 40 = true) → PyData.leavesShortAll 40 ds = true
  | [], _ => rfl
  | d :: ds, h => by
    simp only [PyData.leavesShortAll, Bool.and_eq_true]
    exact ⟨h d List.mem_cons_self, ky_lv fun x hx => h x (List.mem_cons_of_mem _ hx)⟩
theorem Ky.lst {w k n : Nat} {ds : List PyData} (h : ∀ d ∈ ds, Ky w k d) (hl : ds.length ≤ n) : Ky (n * (w + 1)) (k + 1) (.list ds) := by
  have a := depth_all fun d hd => (h d hd).dep
  have b := wgt_all fun d hd => (h d hd).wgt
  have c := Nat.mul_le_mul_right (w + 1) hl
  exact ⟨by simp only [noSet]; exact ky_ns fun d hd => (h d hd).ns, by simp only [PyData.leavesShort]; exact ky_lv fun d hd => (h d hd).lv, by simp only [PyData.depth]; omega, by simp only [PyData.showable]; exact shw_all fun d hd => (h d hd).shw, by simp only [PyData.weight]; omega⟩
theorem Ky.tup {w k n : Nat} {ds : List PyData} (h : ∀ d ∈ ds, Ky w k d) (hl : ds.length ≤ n) : Ky (n * (w + 1)) (k + 1) (.tuple ds) := by
  have a := depth_all fun d hd => (h d hd).dep
  have b := wgt_all fun d hd => (h d hd).wgt
  have c := Nat.mul_le_mul_right (w + 1) hl
  exact ⟨by simp only [noSet]; exact ky_ns fun d hd => (h d hd).ns, by simp only [PyData.leavesShort]; exact ky_lv fun d hd => (h d hd).lv, by simp only [PyData.depth]; omega, by simp only [PyData.showable]; exact shw_all fun d hd => (h d hd).shw, by simp only [PyData.weight]; omega⟩
theorem Ky.w {w k : Nat} {d : PyData} {R : PyData → Prop} (h : Ky w k d) (hw : w ≤ 300000) (hk : k ≤ 62) (q : R (.str d.shown)) : W (reprY [d]) R := by
  have g := h.wgt
  have g2 := PyData.shown_le 40 (by decide) d h.lv
  have g3 := Nat.mul_le_mul_left (40 + 2) (Nat.le_trans g hw)
  exact w_reprY h.ns h.shw (Nat.le_trans h.dep hk) (Nat.le_trans (Nat.le_trans g2 (show (40 + 2) * d.weight + 40 ≤ 13000000 by omega)) (by decide)) q
theorem Ky.sz {w k : Nat} {d : PyData} (h : Ky w k d) (hw : w ≤ 150000) : d.shown.length ≤ 6400000 := by
  have g := h.wgt
  have g2 := PyData.shown_le 40 (by decide) d h.lv
  have g3 := Nat.mul_le_mul_left (40 + 2) (Nat.le_trans g hw)
  omega
theorem ky_i {i : Int} (h0 : -1000000 < i) (h1 : i < 1000000) : Ky 120 0 (.int i) := (Ky.of (Sx.int (by omega) (by omega))).mono (by decide) (by decide)
theorem ky_iL {xs : List Int} {n : Nat} (h : ∀ z ∈ xs, -1000000 < z ∧ z < 1000000) (hl : xs.length ≤ n) : Ky (n * 121) 1 (iL xs) := Ky.lst (w := 120) (k := 0) (fun d hd => by
  obtain ⟨y, hy, rfl⟩ := List.mem_map.mp hd
  exact ky_i (h y hy).1 (h y hy).2) (by rw [List.length_map]; exact hl)
theorem ky_net {N : Nt} (hN : N.ok) (h1 : N.n ≤ 90) (h2 : N.ls.length ≤ 180) : Ky 150000 3 N.d := by
  have n1 := hN.n1
  have hr := hN.rs.len n1
  refine (Ky.tup (w := 45000) (k := 2) (n := 3) (fun d hd => ?_) (Nat.le_refl _)).mono (by decide) (by decide)
  simp only [List.mem_cons, List.not_mem_nil, or_false] at hd
  rcases hd with e | e | e
  · rw [e]; exact (ky_i (by omega) (by omega)).mono (by decide) (by decide)
  · rw [e]; exact (ky_iL (n := 90) (fun z hz => by have := hN.rs.lo z hz; omega) (by omega)).mono (by decide) (by decide)
  · rw [e]
    refine (Ky.lst (w := 242) (k := 1) (n := 180) (fun d hd => ?_) (by rw [List.length_map]; exact h2)).mono (by decide) (by decide)
    obtain ⟨p, hp, rfl⟩ := List.mem_map.mp hd
    have hb := hN.ls p hp
    refine (Ky.tup (w := 120) (k := 0) (n := 2) (fun d hd => ?_) (Nat.le_refl _)).mono (by decide) (by decide)
    simp only [List.mem_cons, List.not_mem_nil, or_false] at hd
    rcases hd with e | e
    · rw [e]; exact ky_i (by omega) (by omega)
    · rw [e]; exact ky_i (by omega) (by omega)
theorem w_neX_ii {j k : Int} {R : PyData → Prop} (q : R (.bool (!decide (j = k)))) : W (neX (.int j) (.int k)) R := by
  refine w_neD (shaped_i j) (shaped_i k) ?_
  have e : PyData.eqv (.int j) (.int k) = decide (j = k) := by
    simp only [PyData.eqv]
    by_cases h : j = k
    · subst h; simp
    · rw [decide_eq_false h]; simpa using h
  rw [e]
  exact q
/-! ## _law_way_right -/
theorem wayright_no {N : Nt} {qs : List (Int × PyData)} {k : Int} {Q : PyData → Prop} (h : k ∉ qs.map (·.1)) (q : Q (.bool true)) : W (m__law_way_right [N.d, .dict (dI qs), .int k, .none]) Q := by
  unfold m__law_way_right b__law_way_right
  walk_at "tlex"
  refine w_if ?_
  walk_at "tlex"
  refine w_din ?_
  walk_at "tlex"
  refine ⟨fun _ => ?_, fun z => absurd (by simpa using z) h⟩
  walk_at "tlex"
  exact q
theorem no_false (zs : List Int) {R : PyData → Prop} (q : R (.bool false)) : W (inD (.bool false) (.list (zs.map fun _ => PyData.bool true))) R := by
  have e0 : (zs.map fun _ => PyData.bool true) = (zs.map fun _ => true).map PyData.bool := by rw [List.map_map]; rfl
  show W (Option.map _ (if SeqAt.shaped (.bool false) = true ∧ SeqAt.shaped (.list (zs.map fun _ => PyData.bool true)) = true then some ((zs.map fun _ => PyData.bool true).any fun z => PyData.eqv z (.bool false)) else none)) R
  rw [if_pos ⟨by decide +kernel, by rw [e0]; exact bools_shaped _⟩]
  have e : ((zs.map fun _ => PyData.bool true).any fun z => PyData.eqv z (.bool false)) = false := by
    rw [List.any_eq_false]
    intro z hz
    obtain ⟨_, _, rfl⟩ := List.mem_map.mp hz
    simp [PyData.eqv]
  rw [e]
  exact .mk q
theorem wayright_yes {N : Nt} {qs : List (Int × PyData)} {k : Int} {t : Nat} {zs : List Int} {Q : PyData → Prop} (hN : N.ok) (hk : Kn N.n (qs.map (·.1))) (hq : (k, .int (t : Nat)) ∈ qs) (hw : Way N k zs) (hl : zs.length = t + 1) (ht : t ≤ 400) (q : Q (.bool true)) : W (m__law_way_right [N.d, .dict (dI qs), .int k, iL zs]) Q := by
  obtain ⟨i, hi⟩ := List.mem_iff_getElem?.mp hq
  have hm : k ∈ qs.map (·.1) := List.mem_map.mpr ⟨_, hq, rfl⟩
  unfold m__law_way_right b__law_way_right
  walk_at "tlex"
  refine w_if ?_
  walk_at "tlex"
  refine w_din ?_
  walk_at "tlex"
  refine ⟨fun z => absurd hm (by simpa using z), fun _ => ?_⟩
  walk_at "tlex"
  refine w_if ?_
  walk_at "tlex"
  refine W.of (show isiD "list" (iL zs) = some (.bool true) from rfl) ?_
  walk_at "tlex"
  refine ⟨fun z => (by cases z), fun _ => ?_⟩
  refine w_or ?_
  walk_at "tlex"
  refine w_dixI hk hi ?_
  walk_at "tlex"
  refine w_neX_ii ?_
  walk_at "tlex"
  rw [List.length_map, hl]
  refine ⟨fun z => (by simp at z), fun _ => ?_⟩
  walk_at "tlex"
  refine w_lcI (fun ds i acc m => ds = zs.map .int ∧ i ≤ zs.length ∧ acc = (zs.take i).map (fun _ => PyData.bool true) ∧ m = []) ?_
  walk_at "tlex"
  refine ⟨⟨by trivial, Nat.zero_le _, rfl, by trivial⟩, ?_, ?_⟩
  · rintro i d m acc hx ⟨_, hi, rfl, rfl⟩
    obtain ⟨z, hz, rfl⟩ := int_at hx
    have hlt := (List.getElem?_eq_some_iff.mp hz).1
    simp only [wipeR]
    walk_at "tlex"
    refine ⟨fun _ => ?_, fun z => by cases z⟩
    walk_at "tlex"
    refine whole_int ?_
    refine ⟨lt_line (by simp only [List.length_map, List.length_take]; omega), by trivial, hlt, ?_, by trivial⟩
    rw [List.take_add_one, hz, List.map_append]
    rfl
  · rintro acc m ⟨_, hi, rfl, rfl⟩
    rw [List.length_map, List.take_length]
    refine no_false zs ?_
    walk_at "tlex"
    refine ⟨fun z => (by cases z), fun _ => ?_⟩
    walk_at "tlex"
    refine w_if ?_
    walk_at "tlex"
    obtain ⟨a, ha, har⟩ := hw.head
    refine at_int (by decide) (by omega) fun z hz => ?_
    have hz : zs[0]? = some z := hz
    rw [ha] at hz
    cases hz
    walk_at "tlex"
    refine w_notInI ?_
    walk_at "tlex"
    refine ⟨fun z => (by rw [decide_eq_true har] at z; cases z), fun _ => ?_⟩
    walk_at "tlex"
    refine at_last (by omega) fun z hz => ?_
    rw [hw.last] at hz
    cases hz
    walk_at "tlex"
    refine w_neX_ii ?_
    walk_at "tlex"
    refine ⟨fun z => (by simp at z), fun _ => ?_⟩
    walk_at "tlex"
    refine w_lcI (fun ds i acc m => ds.length = zs.length - 1 ∧ acc = [] ∧ m = []) ?_
    walk_at "tlex"
    refine ⟨_, rfl, by rw [List.length_map]; omega, ⟨by rw [range_len, List.length_map]; omega, by trivial⟩, ?_, ?_⟩
    · rintro i d m acc hx ⟨hdl, rfl, rfl⟩
      have hlt := (List.getElem?_eq_some_iff.mp hx).1
      obtain ⟨hi, rfl⟩ := range_at hx
      simp only [wipeR]
      walk_at "tlex"
      refine at_int (by omega) (by omega) fun x hx1 => ?_
      walk_at "tlex"
      refine at_int (by omega) (by omega) fun y hy1 => ?_
      have e1 : (0 + (i : Int)).toNat = i := by omega
      have e2 : (0 + (i : Int) + 1).toNat = i + 1 := by omega
      rw [e1] at hx1
      rw [e2] at hy1
      have hst := hw.step i x y hx1 hy1
      walk_at "tlex"
      refine w_notInP (p := (x, y)) ?_
      walk_at "tlex"
      refine ⟨fun z => (by rw [decide_eq_true hst] at z; cases z), fun _ => ?_⟩
      exact ⟨hdl, by trivial, by trivial⟩
    · rintro acc m ⟨_, rfl, rfl⟩
      walk_at "tlex"
      refine w_eqX_ll0 (by decide +kernel) ?_
      walk_at "tlex"
      exact q
/-! ## _law_row_right -/
abbrev rgl (root many : Int) : List Int := (List.range (many - root).toNat).map fun i => root + (i : Nat)
theorem rgl_d (root many : Int) : PyData.list (rangeD root (many - root).toNat) = iL (rgl root many) := by
  unfold rangeD rgl
  show _ = PyData.list (List.map PyData.int (List.map _ _))
  rw [List.map_map]
  rfl
theorem rgl_mem {root many k : Int} : k ∈ rgl root many ↔ root ≤ k ∧ k < many := by
  unfold rgl
  rw [List.mem_map]
  constructor
  · rintro ⟨i, hi, rfl⟩
    have := List.mem_range.mp hi
    omega
  · rintro ⟨h1, h2⟩
    exact ⟨(k - root).toNat, List.mem_range.mpr (by omega), by omega⟩
theorem rgl_up (root many : Int) : (rgl root many).Pairwise (· < ·) := by
  unfold rgl
  rw [List.pairwise_map]
  exact List.pairwise_lt_range.imp fun h => by omega
abbrev rowN (many root : Int) : Nt := ⟨many, [root], (List.range (many - 1).toNat).map fun k => ((k : Nat), (k : Nat) + 1)⟩
theorem rowN_ls {many root : Int} {p : Int × Int} : p ∈ (rowN many root).ls ↔ 0 ≤ p.1 ∧ p.1 < many - 1 ∧ p.2 = p.1 + 1 := by
  show p ∈ List.map _ _ ↔ _
  rw [List.mem_map]
  constructor
  · rintro ⟨k, hk, rfl⟩
    have := List.mem_range.mp hk
    exact ⟨by show 0 ≤ (k : Int); omega, by show (k : Int) < _; omega, rfl⟩
  · rintro ⟨h1, h2, h3⟩
    refine ⟨p.1.toNat, List.mem_range.mpr (by omega), ?_⟩
    obtain ⟨a, b⟩ := p
    simp only at h1 h2 h3 ⊢
    rw [h3]
    congr 1 <;> omega
theorem rowN_ok {many root : Int} (h1 : 2 ≤ many) (h2 : many ≤ 300) (r0 : 0 ≤ root) (r1 : root < many) : (rowN many root).ok := by
  refine ⟨by show 0 ≤ many; omega, h2, ⟨by simp, fun k hk => by rw [List.mem_singleton.mp hk]; exact ⟨r0, r1⟩⟩, fun p hp => ?_, ?_⟩
  · obtain ⟨a, b, c⟩ := rowN_ls.mp hp
    show (0 ≤ p.1 ∧ p.1 < many) ∧ 0 ≤ p.2 ∧ p.2 < many
    omega
  · show (List.map _ _).length ≤ 300
    rw [List.length_map, List.length_range]
    omega
theorem rowN_rch {many root : Int} (r0 : 0 ≤ root) (r1 : root < many) {k : Int} : Rch (rowN many root) k ↔ root ≤ k ∧ k < many := by
  constructor
  · intro h
    induction h with
    | root h => rw [List.mem_singleton.mp h]; exact ⟨Int.le_refl _, r1⟩
    | step _ h ih =>
      obtain ⟨a, b, c⟩ := rowN_ls.mp h
      simp only at a b c
      omega
  · rintro ⟨h1, h2⟩
    have : ∀ (d : Nat), root + (d : Nat) < many → Rch (rowN many root) (root + (d : Nat)) := by
      intro d
      induction d with
      | zero => exact fun _ => .root (by simp)
      | succ d ih =>
        intro h
        refine .step (ih (by omega)) (rowN_ls.mpr ⟨by show 0 ≤ root + (d : Int); omega, by show root + (d : Int) < many - 1; omega, by show root + ((d + 1 : Nat) : Int) = root + (d : Int) + 1; omega⟩)
    have := this (k - root).toNat (by omega)
    rwa [show root + ((k - root).toNat : Int) = k by omega] at this
theorem rowN_way {many root : Int} {zs : List Int} (r1 : root < many) (h : Way (rowN many root) (many - 1) zs) : zs = rgl root many := by
  obtain ⟨a, ha, har⟩ := h.head
  have har : a = root := List.mem_singleton.mp har
  subst har
  have at_ : ∀ (i : Nat) (z : Int), zs[i]? = some z → z = a + (i : Nat) := by
    intro i
    induction i with
    | zero =>
      intro z hz
      rw [ha] at hz
      cases hz
      omega
    | succ i ih =>
      intro z hz
      have hlt := (List.getElem?_eq_some_iff.mp hz).1
      obtain ⟨y, hy⟩ : ∃ y, zs[i]? = some y := ⟨_, List.getElem?_eq_getElem (by omega)⟩
      have h1 := ih y hy
      obtain ⟨_, _, h2⟩ := rowN_ls.mp (h.step i y z hy hz)
      simp only at h2
      omega
  have h0 := (List.getElem?_eq_some_iff.mp ha).1
  have hl := at_ _ _ h.last
  have hlen : zs.length = (many - a).toNat := by omega
  refine List.ext_getElem? fun i => ?_
  unfold rgl
  rw [List.getElem?_map]
  by_cases hi : i < zs.length
  · obtain ⟨z, hz⟩ : ∃ z, zs[i]? = some z := ⟨_, List.getElem?_eq_getElem hi⟩
    rw [hz, at_ i z hz, List.getElem?_range (by omega)]
    rfl
  · rw [List.getElem?_eq_none (by omega), List.getElem?_eq_none (by rw [List.length_range]; omega)]
    rfl
theorem w_eqX_LL {xs ys : List Int} {R : PyData → Prop} (q : R (.bool (decide (xs = ys)))) : W (eqX (iL xs) (iL ys)) R := by
  refine w_eqD (iL_shaped xs) (iL_shaped ys) ?_
  have e : PyData.eqv (iL xs) (iL ys) = decide (xs = ys) := by
    simp only [PyData.eqv]
    exact eqv_ints xs ys
  rw [e]
  exact q
theorem row_any {f : Int × Int} {Q : PyData × PyData → Prop} (hf : FO f) (q : ∀ f', FO f' → Q (.bool true, fd f')) : W (m__law_row_right (fd f) []) Q := by
  unfold m__law_row_right b__law_row_right
  walk_at "tlex"
  refine take_any hf (by decide) (by decide +kernel) fun v f1 a0 a1 hf1 => ?_
  walk_at "tlex"
  generalize hmn : 2 + v = many
  refine take_any hf1 (by omega) (lg (by omega) (by omega)) fun root f2 b0 b1 hf2 => ?_
  walk_at "tlex"
  refine w_lcI (fun ds i acc m => ds = rangeD 0 (many - 1).toNat ∧ i ≤ (many - 1).toNat ∧ acc = ((List.range i).map fun k => (((k : Nat) : Int), ((k : Nat) : Int) + 1)).map pr ∧ m = [some (fd f2)]) ?_
  walk_at "tlex"
  refine ⟨_, rfl, by omega, ⟨by trivial, Nat.zero_le _, rfl, by trivial⟩, ?_, ?_⟩
  · rintro i d m acc hx ⟨_, hi, rfl, rfl⟩
    obtain ⟨hi2, rfl⟩ := range_at hx
    simp only [wipeR]
    walk_at "tlex"
    refine ⟨fun _ => ?_, fun z => by cases z⟩
    walk_at "tlex"
    refine ⟨lt_line (by simp only [List.length_map, List.length_range]; omega), by trivial, hi2, ?_, by trivial⟩
    rw [List.range_succ, List.map_append, List.map_append, Int.zero_add]
    rfl
  · rintro acc m ⟨_, hi, rfl, rfl⟩
    rw [range_len]
    have hN := rowN_ok (many := many) (root := root) (by omega) (by omega) b0 b1
    have hR := fun k => rowN_rch (many := many) b0 b1 (k := k)
    have hd : PyData.tuple [.int many, .list [.int root], .list (((List.range (many - 1).toNat).map fun k => (((k : Nat) : Int), ((k : Nat) : Int) + 1)).map pr)] = (rowN many root).d := rfl
    walk_at "tlex"
    rw [hd]
    refine TX.w_fr (TX.w_eXD ?_)
    walk_at "tlex"
    refine reached_w hN fun is hI => ?_
    show W _ _
    have his : is = rgl root many := rise_one hI.up (rgl_up root many) fun k => by rw [hI.mem k, hR k, rgl_mem]
    walk_at "tlex"
    refine TX.w_lrg2 ?_
    walk_at "tlex"
    refine ⟨⟨by omega, by omega, by omega, by omega⟩, ?_⟩
    rw [rgl_d]
    refine w_eqX_LL ?_
    rw [his]
    refine ⟨_, rfl, fun _ => ?_, fun z => (by simp at z)⟩
    walk_at "tlex"
    refine TX.w_fr (TX.w_eXD ?_)
    walk_at "tlex"
    refine way_to_w hN (fun h => absurd ((hR _).mpr ⟨by omega, by omega⟩) h) fun _ zs hw _ => ?_
    show W _ _
    have hzs := rowN_way b1 hw
    walk_at "tlex"
    refine TX.w_lrg2 ?_
    walk_at "tlex"
    refine ⟨⟨by omega, by omega, by omega, by omega⟩, ?_⟩
    rw [rgl_d]
    refine w_eqX_LL ?_
    rw [hzs, decide_eq_true rfl]
    walk_at "tlex"
    exact q f2 hf2
end K40

end
/-! P40s -/
section
set_option maxHeartbeats 4000000
namespace K40
open PySem L2 TL
theorem rg_ok (l : Nat) : ∃ j : Int, (if (if (l : Int) < 4 then (l : Int) else 4) > 1 then (if (l : Int) < 4 then (l : Int) else 4) else 1) = j ∧ 1 ≤ j ∧ j ≤ 4 := by
  refine ⟨_, rfl, ?_⟩
  by_cases h : (l : Int) < 4
  · rw [if_pos h]
    by_cases g : (l : Int) > 1
    · rw [if_pos g]; omega
    · rw [if_neg g]; omega
  · rw [if_neg h, if_pos (by decide)]; omega
theorem N0_ok : Nt.ok ⟨0, [], []⟩ := ⟨by decide, by decide, ⟨List.nodup_nil, fun k hk => (by cases hk)⟩, fun p hp => (by cases hp), by decide⟩
theorem law_true {ns : List Int} (hb : ∀ z ∈ ns, Builtin.Int.intBits z ≤ 1048576) : m_law [.list (ns.map .int)] = some (.bool true) := by
  apply W.eq
  unfold m_law b_law
  refine w_runD ?_
  walk_at "tln"
  refine w_seq ?_
  refine w_if ?_
  walk_at "tlex"
  refine w_callT ?_
  walk_at "tlex"
  refine feed_any hb (by decide) (by decide) fun f0 hf0 => ?_
  walk_at "tlex"
  refine row_any hf0 fun _ _ => ?_
  walk_at "tlex"
  refine ⟨fun z => (by cases z), fun _ => ?_⟩
  walk_at "tlex"
  generalize hS : PyData.list (ns.map .int) = S
  refine w_for (fun ds i r m => (∀ d ∈ ds, ∃ k : Int, d = .int k ∧ 0 ≤ k ∧ k < 4) ∧ ∃ (e1 e2 e3 e4 e5 e6 e7 e8 e9 e10 e11 : Sl), r = [.fz S, e1, e2, e3, e4, e5, e6, e7, e8, e9, e10, e11]) ?_
  subst hS
  walk_at "tlex"
  obtain ⟨j, ej, j0, j1⟩ := rg_ok (ns.map PyData.int).length
  refine ⟨_, _, rfl, ?_⟩
  simp only [ej]
  refine ⟨by omega, ⟨fun d hd => ?_, _, _, _, _, _, _, _, _, _, _, _, rfl⟩, ?_, ?_⟩
  · obtain ⟨i, hi⟩ := List.mem_iff_getElem?.mp hd
    obtain ⟨hi, rfl⟩ := range_at hi
    exact ⟨_, rfl, by omega, by omega⟩
  · rintro i d r m hx ⟨hk, e1, e2, e3, e4, e5, e6, e7, e8, e9, e10, e11, rfl⟩
    obtain ⟨k, rfl, k0, k1⟩ := hk d (List.mem_of_getElem? hx)
    walk_at "tlex"
    refine feed_any hb k0 (by omega) fun f1 hf1 => ?_
    walk_at "tlex"
    have c0 : cellAt (m ++ [some (fd f1)]) m.length = some (fd f1) := cellAt_new
    generalize m ++ [some (fd f1)] = m1 at c0 ⊢
    generalize List.length m = a at c0 ⊢
    generalize hS : PyData.list (ns.map .int) = S
    refine at_mem k0 (by simp only [List.length_cons, List.length_nil]; omega) fun dm hdm => ?_
    obtain ⟨most, rfl, h6, h90⟩ : ∃ v : Int, dm = .int v ∧ 6 ≤ v ∧ v ≤ 90 := by
      simp only [List.mem_cons, List.not_mem_nil, or_false] at hdm
      rcases hdm with q | q | q | q <;> exact ⟨_, q, by omega, by omega⟩
    walk_at "tlex"
    refine ⟨_, c0, by trivial, ?_⟩
    refine W.mono (P := fun p => ∃ f' N, FO f' ∧ N.ok ∧ N.n ≤ 90 ∧ N.ls.length ≤ 180 ∧ p = (N.d, fd f')) (net_any hf1 h6 h90 (fun f' h => ⟨f', ⟨0, [], []⟩, h, N0_ok, by decide, by decide, rfl⟩) fun N f' h hN hn hl => ⟨f', N, h, hN, hn, hl, rfl⟩) ?_
    rintro ⟨nd, fx⟩ ⟨f2, N, hf2, hN, hn90, hl180, e⟩
    injection e with ea eb
    subst ea eb
    have c2 : cellAt (m1.set a (some (fd f2))) a = some (fd f2) := cellAt_self (cellAt_lt c0)
    generalize m1.set a (some (fd f2)) = m2 at c2 ⊢
    have hKn := ky_net hN hn90 hl180
    have rN : reprY [N.d] = some (.str N.d.shown) := W.eq (hKn.w (by decide) (by decide) rfl)
    have n1 := hN.n1
    walk_at "tlex"
    refine W.of rN ?_
    walk_at "tlex"
    refine rounds_w hN fun qs hq1 hq2 hq3 => ?_
    have hql := hq1.len n1
    rw [List.length_map] at hql
    walk_at "tlex"
    refine ⟨_, c2, by trivial, ?_⟩
    refine take_any hf2 (by decide) (by decide +kernel) fun shift f3 s0 s1 hf3 => ?_
    have c3 : cellAt (m2.set a (some (fd f3))) a = some (fd f3) := cellAt_self (cellAt_lt c2)
    generalize m2.set a (some (fd f3)) = m3 at c3 ⊢
    walk_at "tlex"
    refine w_for (fun ds i r m => ∃ (e7 e8 e9 e10 e11 : Sl), r = [.fz S, .fz (.int k), .ow a, .fz N.d, .fz (.str N.d.shown), .fz (.dict (dI qs)), .fz (.int shift), e7, e8, e9, e10, e11]) ?_
    walk_at "tlex"
    refine ⟨_, rfl, by decide, ⟨_, _, _, _, _, rfl⟩, ?_, ?_⟩
    · rintro i2 d r m hx2 ⟨e7, e8, e9, e10, e11, rfl⟩
      walk_at "tlex"
      refine TX.w_setM (TX.w_eXD ?_)
      walk_at "tlex"
      refine reached_w hN fun is hI => ?_
      have his : is = srt (qs.map (·.1)) := rise_one hI.up (srt_up hq1) fun z => by rw [hI.mem z, ← hq3 z]; exact (List.mergeSort_perm _ _).mem_iff.symm
      have hil := hI.kn.len n1
      have rI : reprY [iL is] = some (.str (iL is).shown) := W.eq (Ky.w (ky_iL (n := 90) (fun z hz => by have := hI.kn.lo z hz; omega) (by omega)) (by decide) (by decide) rfl)
      show W _ _
      have cN : cellAt (m ++ [some (iL is)]) m.length = some (iL is) := cellAt_new
      generalize m ++ [some (iL is)] = m4 at cN ⊢
      generalize List.length m = kf at cN ⊢
      walk_at "tlex"
      refine w_if ?_
      walk_at "tlex"
      refine TX.w_tlO rfl cN ?_
      simp only [frz_cons, frz_nil, fz1_fz, fz1_eq]
      walk_at "tlex"
      refine TX.w_eOf rfl ?_
      refine W.of rI ?_
      walk_at "tlex"
      refine w_sortDL (by omega) ?_
      walk_at "tlex"
      rw [← his]
      refine W.of rI ?_
      walk_at "tlex"
      refine ⟨fun z => (by simp at z), fun _ => ?_⟩
      walk_at "tlex"
      refine w_app rfl cN ?_
      walk_at "tlex"
      refine ⟨_, cN, lt_line (by rw [List.length_map]; omega), ?_⟩
      refine w_for (fun ds i r m => (∀ d ∈ ds, ∃ z : Int, d = .int z ∧ 0 ≤ z ∧ 0 < N.n) ∧ ∃ (e9 e10 e11 : Sl), r = [.fz S, .fz (.int k), .ow a, .fz N.d, .fz (.str N.d.shown), .fz (.dict (dI qs)), .fz (.int shift), .fz d, .ow kf, e9, e10, e11]) ?_
      walk_at "tlex"
      refine ⟨_, rfl, ?_⟩
      have hmin : (if (6 : Int) < N.n then (6 : Int) else N.n) ≤ 6 ∧ (0 < (if (6 : Int) < N.n then (6 : Int) else N.n) → 0 < N.n) ∧ 0 ≤ (if (6 : Int) < N.n then (6 : Int) else N.n) := by
        split <;> refine ⟨by omega, by omega, by omega⟩
      generalize (if (6 : Int) < N.n then (6 : Int) else N.n) = mi at hmin ⊢
      refine ⟨by omega, ⟨fun d hd => ?_, _, _, _, rfl⟩, ?_, ?_⟩
      · obtain ⟨i, hi⟩ := List.mem_iff_getElem?.mp hd
        obtain ⟨hi, rfl⟩ := range_at hi
        exact ⟨_, rfl, by omega, by omega⟩
      · rintro i3 d3 r m5 hx3 ⟨hds, e9, e10, e11, rfl⟩
        obtain ⟨z, rfl, z0, n0⟩ := hds d3 (List.mem_of_getElem? hx3)
        walk_at "tlex"
        generalize (z + shift) % N.n = num
        refine TX.w_setM (TX.w_eXD ?_)
        walk_at "tlex"
        refine way_to_w hN (fun hn => ?_) fun hr zs hw ht => ?_
        · have hnk : num ∉ qs.map (·.1) := fun c => hn ((hq3 num).mp c)
          show W _ _
          walk_at "tlex"
          refine w_if ?_
          walk_at "tlex"
          refine TX.w_tlF rfl ?_
          walk_at "tlex"
          refine wayright_no hnk ?_
          walk_at "tlex"
          refine ⟨fun z => (by cases z), fun _ => ?_⟩
          walk_at "tlex"
          refine w_if ?_
          walk_at "tlex"
          refine TX.w_tlF rfl ?_
          walk_at "tlex"
          refine ⟨fun z => (by cases z), fun _ => ?_⟩
          walk_at "tlex"
          exact ⟨hds, _, _, _, rfl⟩
        · obtain ⟨t, hlv, htl⟩ := ht
          have hkm := (hq3 num).mpr hr
          obtain ⟨y, hy, ey⟩ := List.mem_map.mp hkm
          obtain ⟨y1, y2⟩ := y
          simp only at ey
          subst ey
          obtain ⟨t2, rfl, hl2⟩ := hq2 _ _ hy
          have := hlv.one hl2
          subst this
          have htn := hlv.lt hN
          show W _ _
          have cW : cellAt (m5 ++ [some (iL zs)]) m5.length = some (iL zs) := cellAt_new
          generalize m5 ++ [some (iL zs)] = m6 at cW ⊢
          generalize List.length m5 = kw at cW ⊢
          walk_at "tlex"
          refine w_if ?_
          walk_at "tlex"
          refine TX.w_tlO rfl cW ?_
          simp only [frz_cons, frz_nil, fz1_fz, fz1_eq]
          walk_at "tlex"
          refine wayright_yes hN hq1 hy hw htl (by omega) ?_
          walk_at "tlex"
          refine ⟨fun z => (by cases z), fun _ => ?_⟩
          walk_at "tlex"
          refine w_if ?_
          walk_at "tlex"
          refine TX.w_tlO rfl cW ?_
          simp only [frz_cons, frz_nil, fz1_fz, fz1_eq]
          walk_at "tlex"
          refine ⟨fun _ => ?_, fun z => (by cases z)⟩
          walk_at "tlex"
          refine w_app rfl cW ?_
          walk_at "tlex"
          refine ⟨_, cW, lt_line (by rw [List.length_map]; omega), ?_⟩
          exact ⟨hds, _, _, _, rfl⟩
      · rintro r m5 ⟨_, e9, e10, e11, rfl⟩
        walk_at "tlex"
        exact ⟨_, _, _, _, _, rfl⟩
    · rintro r m ⟨e7, e8, e9, e10, e11, rfl⟩
      walk_at "tlex"
      refine w_if ?_
      walk_at "tlex"
      refine W.of rN ?_
      walk_at "tlex"
      refine ⟨fun z => (by simp at z), fun _ => ?_⟩
      walk_at "tlex"
      exact ⟨hk, _, _, _, _, _, _, _, _, _, _, _, rfl⟩
  · rintro r m ⟨_, e1, e2, e3, e4, e5, e6, e7, e8, e9, e10, e11, rfl⟩
    walk_at "tlex"
end K40

end
set_option maxHeartbeats 0
open PySem PySem.W PyProof.Rows
theorem PySem.Challenge.cw_latehall_k40_what_is_reached_holds : PySem.Challenge.rw_latehall_k40_what_is_reached.Holds := by
  exact K40.holds_of fun ns _ h2 => K40.law_true h2
