import PyProof.Rows.All
import Wide.All
import OpenK.AllK
import Wide.FinOn
import HandS.ForMost
import HandS.Evl
import PyProof.EnumMake
import PyProof.Draws
import PyProof.ReprRoads
import PyProof.TupleIter
import HandS.IsInst
import HandS.Dict
import HandS.TupAny
import HandS.TupMul
import KE.KRevSl
import HandS.Iter
import HandS.SortRule
import HandS.SortInts
import HandS.NamedTupSort
import HandS.TupSets
import HandS.Conv
import KE.KDictDisplayH
import HandS.Rev
import HandS.Walk
import HandS.Deep
import HandS.SetFor
import HandS.RevTup
import PyProof.NeData
import HandS.TupLe
import HandS.Style
import HandS.Zip
import KE.GoesMore
import KE.GoesEnum
import HandS.Call
import HandS.SortKw
import HandS.DictComp
import HandS.More
import KE.DataMinMax
import KE.KDictList
import PyProof.SumWalkG
import PyProof.EqKinds
import PyProof.P3Eq
import PyProof.FactsAll.dict_1
import PySem.Challenge.RW_firstfuse_k19_what_is_a_tale
set_option Elab.async false
set_option linter.all false
set_option maxRecDepth 100000
namespace FF
open PySem PySem.Spec PyProof.Rows L2
open AutoSeq1 (wpAny_loadPart')

/-! ### enumerate over a tuple -/
section
variable {P : Program} {w : World} {A : Around} {E : Value → Shared → Prop} {s : Shared}
theorem nextTupItem {j t : Addr} {i : Nat} {vs : Array Value} {x : Value} {Q : Value → Shared → Prop} (hj : s.heap.IsTupleIter j t i) (ht : s.heap.IsTuple t vs) (hx : vs[i]? = some x)
    (k : ∀ h', h'.IsTupleIter j t (i + 1) → Heap.SameBut j s.heap h' → Q x { s with heap := h' }) : wpAny (model P w) A (Builtin.SmallTypes.nextOf (.ref j)) Q E s := by
  obtain ⟨oj, gj, cj, dj⟩ := id hj
  obtain ⟨ot, gt, _, nt, dt⟩ := ht
  unfold Builtin.SmallTypes.nextOf
  refine wpAny_bind (wpAny_callSpecial?_slot (name := Str.ofString "__next__") hj.typeIs F.slot_tuple_iterator_next
    (wpAny_call_entry F.slot_tuple_iterator_next hj.typeIs F.entry_tuple_iterator_next ?_ (F.args_tuple_iterator_next_1 _)))
  show wpAny _ _ (field (.ref j) 0 >>= _) _ _ s
  refine wpAny_bind (wpAny_field gj dj (x := .ref t) rfl ?_)
  show wpAny _ _ (if (Value.ref t == Value.none) = true then _ else _) _ _ s
  rw [if_neg (by exact Bool.false_ne_true)]
  show wpAny _ _ (field (.ref j) 1 >>= _) _ _ s
  refine wpAny_bind (wpAny_field gj dj (x := .int i 0) rfl ?_)
  show wpAny _ _ (seqItems? (.ref t) >>= _) _ _ s
  refine wpAny_bind (wpAny_seqItems gt dt ?_)
  simp only [Int.toNat_natCast, hx]
  refine wpAny_bind (wpAny_setField gj dj (by simp) (wpAny_pure ⟨x, rfl, wpAny_pure (k _ ?_ (Heap.SameBut.update ..))⟩))
  exact ⟨_, Heap.get?_update_self _ gj (Obj.isFreed_of_fields (Obj.data_mapFields dj _)), (Obj.cls_mapFields ..).trans cj, by
    rw [Obj.data_mapFields dj]; simp [rawInt]⟩
theorem nextTupEnd {j t : Addr} {i : Nat} {vs : Array Value} {Q : Value → Shared → Prop} (hnd : A.handled = none) (hj : s.heap.IsTupleIter j t i) (ht : s.heap.IsTuple t vs) (hx : vs[i]? = none)
    (k : ∀ h' e, Heap.ExtBut j s.heap h' → (∃ o, h'.get? e = some o ∧ o.cls = .type "StopIteration") → E (.ref e) { s with heap := h' }) : wpAny (model P w) A (Builtin.SmallTypes.nextOf (.ref j)) Q E s := by
  obtain ⟨oj, gj, cj, dj⟩ := id hj
  obtain ⟨ot, gt, _, nt, dt⟩ := ht
  unfold Builtin.SmallTypes.nextOf
  refine wpAny_bind (wpAny_callSpecial?_slot (name := Str.ofString "__next__") hj.typeIs F.slot_tuple_iterator_next
    (wpAny_call_entry F.slot_tuple_iterator_next hj.typeIs F.entry_tuple_iterator_next ?_ (F.args_tuple_iterator_next_1 _)))
  show wpAny _ _ (field (.ref j) 0 >>= _) _ _ s
  refine wpAny_bind (wpAny_field gj dj (x := .ref t) rfl ?_)
  show wpAny _ _ (if (Value.ref t == Value.none) = true then _ else _) _ _ s
  rw [if_neg (by exact Bool.false_ne_true)]
  show wpAny _ _ (field (.ref j) 1 >>= _) _ _ s
  refine wpAny_bind (wpAny_field gj dj (x := .int i 0) rfl ?_)
  show wpAny _ _ (seqItems? (.ref t) >>= _) _ _ s
  refine wpAny_bind (wpAny_seqItems gt dt ?_)
  simp only [Int.toNat_natCast, hx]
  refine wpAny_bind (wpAny_rule (wpAny_bind (wpAny_setField gj dj (by simp) ?_)))
  show wpAny _ _ (newExc (.type "StopIteration") [] >>= _) _ _ _
  refine wpAny_bind (?_ : wpAny _ _ (newExc _ _) _ _ _)
  simp only [newExc, newTuple]
  refine wpAny_bind (wpAny_newObj_type ?_ (by (size_fits)))
  refine wpAny_bind (m := firstArgMember _ _) (wpAny_of_eq (a := Value.none) (by first | rfl | (simp only [firstArgMember] <;> rfl)) ?_)
  refine wpAny_newObj_type (?_ : _) (by (size_fits))
  simp only [raiseNew]
  refine wpAny_bind (wpAny_handled (?_ : _))
  first | rw [show A.in1.handled = none from hnd] | rw [hnd]
  refine wpAny_bind (wpAny_pure (wpAny_throw (?_ : _)))
  exact k _ _ (((Heap.SameBut.update ..).extBut.push _).push _) ⟨_, Heap.get?_push_size _ rfl, rfl⟩
end
theorem drawsTuple {P : Program} {w : World} {A : Around} (hnd : A.handled = none) (j t : Addr) (ne : t ≠ j) (vs : Array Value) :
    Draws P w A j [j, t] vs.size (fun i v => vs[i]? = some v) (fun i h => h.IsTupleIter j t i ∧ h.IsTuple t vs) where
  live := fun _ _ q => let ⟨o, g, _⟩ := q.1; ⟨o, g⟩
  frame := fun _ _ _ q f => by
    obtain ⟨⟨o, g, r⟩, ⟨o', g', r'⟩⟩ := q
    exact ⟨⟨o, f j (by simp) o g, r⟩, ⟨o', f t (by simp) o' g', r'⟩⟩
  item := fun i s Q E hi q k => by
    refine nextTupItem q.1 q.2 (x := vs[i]) (by simp [hi]) fun h' q' sb => ?_
    exact k _ h' s.toks (by simp [hi]) ⟨q', q.2.extBut sb.extBut ne⟩ sb
  done := fun s Q E q k => nextTupEnd hnd q.1 q.2 (by simp) k

theorem meetsEnumT (l : Addr) (vs : Array Value) (ob : Obj) (n : Nat) (hc : ob.cls = .type "tuple") (hd : ob.data = .seq vs n) :
    Meets (Builtin.«enumerate.__new__» ⟨[.type "enumerate", .ref l], []⟩) (fun _ R s => s.heap.get? l = some ob ∧
      R (.ok (.ret (.ref (s.heap.push { cls := .type "tuple_iterator", data := .fields #[.ref l, .int 0 0] }).objs.size)))
        { s with heap := (s.heap.push { cls := .type "tuple_iterator", data := .fields #[.ref l, .int 0 0] }).push { cls := .type "enumerate", data := .fields #[.none, .bool false, .ref s.heap.objs.size, rawInt 0, .none, .none] } }) :=
  .of_wp fun prog w A R s h => by
    obtain ⟨cc, dct, dd, sl⟩ := ob
    replace hc : cc = .type "tuple" := hc
    replace hd : dd = .seq vs n := hd
    subst hc hd
    obtain ⟨hp, g, d, tk, os⟩ := s
    obtain ⟨hl, h⟩ := h
    have sub := sub_enumerate
    have isT : Heap.IsTuple (Shared.heap ⟨hp, g, d, tk, os⟩) l vs := ⟨_, hl, rfl, n, rfl⟩
    wp_walk using wpAny_loadPart' hl
    refine wpAny_stack_any fun st => wpAny_pure (?_ : _)
    split
    · rename_i c _ _ _ _ _
      cases (c == Value.type "enumerate")
      · wp_walk using wpAny_loadPart' hl, wpAny_pyIter_tuple isT
        exact ⟨_, rfl, h⟩
      · wp_walk using wpAny_loadPart' hl, wpAny_pyIter_tuple isT
        exact ⟨_, rfl, h⟩
    · wp_walk using wpAny_loadPart' hl, wpAny_pyIter_tuple isT
      exact ⟨_, rfl, h⟩
section
variable {P : Program} {w : World} {A : Around} {E : Value → Shared → Prop} {s : Shared}
theorem callEnumT {l : Addr} {vs : Array Value} {Q : Value → Shared → Prop} (isT : s.heap.IsTuple l vs)
    (k : ∀ h', IsEnum h' (s.heap.objs.size + 1) s.heap.objs.size 0 .none → h'.IsTupleIter s.heap.objs.size l 0 →
      (∀ b o, s.heap.get? b = some o → h'.get? b = some o) → Q (.ref (s.heap.objs.size + 1)) { s with heap := h' }) :
    wpAny (model P w) A (call (.type "enumerate") [.ref l]) Q E s := by
  obtain ⟨ob, hl, hc, n, hd⟩ := isT
  refine callType_new F.called_enumerate (by decide) (F.typeCall_enumerate_1 _) (F.newCall_enumerate_1 _) (fun x => F.args_object_init_2 x _) F.entry_enumerate_new
    (meetsEnumT l vs ob n hc hd) ⟨hl, ?_⟩
  have hz : (s.heap.push { cls := .type "tuple_iterator", data := .fields #[.ref l, .int 0 0] }).objs.size = s.heap.objs.size + 1 := Heap.size_push ..
  show _ ∧ _
  rw [hz]
  have he : IsEnum ((s.heap.push { cls := .type "tuple_iterator", data := .fields #[.ref l, .int 0 0] }).push
      { cls := .type "enumerate", data := .fields #[.none, .bool false, .ref s.heap.objs.size, rawInt 0, .none, .none] }) (s.heap.objs.size + 1) s.heap.objs.size 0 .none := by
    have q := Heap.get?_push_size (s.heap.push { cls := .type "tuple_iterator", data := .fields #[.ref l, .int 0 0] })
      (o := { cls := .type "enumerate", data := .fields #[.none, .bool false, .ref s.heap.objs.size, rawInt 0, .none, .none] }) rfl
    rw [hz] at q
    exact q
  exact ⟨⟨_, he, rfl⟩, k _ he ⟨_, Heap.get?_push_of_some _ (Heap.get?_push_size _ rfl), rfl, rfl⟩ fun b o q => Heap.get?_push_of_some _ (Heap.get?_push_of_some _ q)⟩
end
/-- the tuple at a, each item in a new pair behind its number -/
def ItE (K : PySem.W.Frag) (a : Addr) : It where
  go := fun i H => ∃ (xs : List V) (x : V), SqT K H a xs ∧ xs[i]? = some x
  yld := fun i H v H' => ∃ T x, v = .ref T ∧ H T = none ∧ H' = upd H T (.tup [.int (i : Nat), x]) ∧ ∀ xs, SqT K H a xs → xs[i]? = some x
  stop := fun i H => ∃ xs : List V, SqT K H a xs ∧ xs.length ≤ i
theorem turnEnumT {P : Program} {w : World} {K : PySem.W.Frag} {elts : List Expr} {kk : Nat} {tp : Pos} (a e j : Addr) :
    Turn P w K (.Tuple elts kk tp) (ItE K a) [e, j] e (fun i h => (∃ old, IsEnum h e j ((i : Nat) : Int) old) ∧ h.IsTupleIter j a i ∧ e ≠ j ∧ a ≠ j ∧ a ≠ e) where
  mem := by simp
  obj := fun i h q b hb => by
    obtain ⟨⟨old, he⟩, ⟨o, ho, hc, hd⟩, _⟩ := q
    have eb : b = e ∨ b = j := by simpa using hb
    rcases eb with z | z
    · rw [z]; exact ⟨_, he, fun v y => nomatch y⟩
    · rw [z]; exact ⟨o, ho, fun v y => by rw [hd] at y; cases y⟩
  keep := fun i h h' q f => by
    obtain ⟨⟨old, he⟩, ⟨o, ho, r⟩, n⟩ := q
    exact ⟨⟨old, f e (by simp) _ he⟩, ⟨o, f j (by simp) _ ho, r⟩, n⟩
  item := by
    intro X hP hw hK hc i pins s σ H E I hf q hg
    subst hP hw hK
    obtain ⟨⟨old, he⟩, hj, n1, n2, n3⟩ := q
    obtain ⟨xs, x, hs, hx⟩ := hg
    obtain ⟨its, rv, p, hz⟩ := I.tuple hs
    obtain ⟨u, hu, ru⟩ := rv.get hx
    have hil : i < its.toArray.size := by
      have := (List.getElem?_eq_some_iff.mp hu).1
      simpa using this
    have D := drawsTuple (P := X.prog) (w := X.w) (A := X.A.in1) (I.ok.hd hc) j a n2 its.toArray
    have nfp : e ∉ [j, a] := by
      simp only [List.mem_cons, List.not_mem_nil, or_false, not_or]
      exact ⟨n1, fun z => n3 z.symm⟩
    refine wpAny_pyNext_enum_itemD D he ⟨hj, p⟩ hil n1 nfp fun y h' tk hy ho hst hT hsz hk => ?_
    have ey : y = u := by
      have z : its[i]? = some y := by simpa using hy
      exact Option.some.inj (z.symm.trans hu)
    subst ey
    refine ⟨_, rfl, wpAny_letOwnedTupleGo_enum (s := { s with heap := h', toks := tk + 1 }) ho fun h'' he' sb => ?_⟩
    have hel : e < s.heap.objs.size := Heap.lt_size he
    have hjl : j < s.heap.objs.size := by obtain ⟨_, z, _⟩ := hj; exact Heap.lt_size z
    have hT2 : h''.get? s.heap.objs.size = some { cls := .type "tuple", data := .seq #[.int i tk, y] } := (sb.2 _ (Nat.ne_of_gt hel)).trans hT
    have new : ObjOk X.prog X.w (upd H s.heap.objs.size (.tup [.int (i : Nat), x])) h'' s.heap.objs.size (.tup [.int (i : Nat), x]) :=
      ⟨by show 2 ≤ sizeLine; decide, [.int i tk, y], .cons ⟨_, rfl⟩ (.cons ru .nil), ⟨_, hT2, rfl, _, rfl⟩⟩
    have I1 : Inv X pins σ (upd H s.heap.objs.size (.tup [.int (i : Nat), x])) { s with heap := h'', toks := tk + 1 } :=
      I.turnedNew (ch := [e, j]) (fun b ob hb z => (sb.2 b (fun y => hb (by simp [y]))).trans (hk b ob (fun y => hb (by simp [y])) (fun y => hb (by simp [y])) z)) hf (Nat.le_refl _) new
    obtain ⟨oj, gj, rj⟩ := hst.1
    refine ⟨.ref s.heap.objs.size, _, I1, rfl, ⟨_, x, rfl, I.hok.fresh (Nat.le_refl _), rfl, fun ys hy => by rw [I.tuple_inj hy hs]; exact hx⟩, ⟨⟨y, ?_⟩, ⟨oj, (sb.2 j (Ne.symm n1)).trans gj, rj⟩, n1, n2, n3⟩, fun b hb => ?_⟩
    · have e1 : ((i + 1 : Nat) : Int) = (i : Int) + 1 := by omega
      rw [e1]
      exact he'
    · have hb' : b < s.heap.objs.size := by
        have eb : b = e ∨ b = j := by simpa using hb
        rcases eb with z | z
        · rw [z]; exact hel
        · rw [z]; exact hjl
      rw [upd_ne (Nat.ne_of_lt hb')]
      exact (hf b hb).1
  done := by
    intro X hP hw hK hc i pins s σ H E I hf q hg
    subst hP hw hK
    obtain ⟨⟨old, he⟩, hj, n1, n2, n3⟩ := q
    obtain ⟨xs, hs, hx⟩ := hg
    obtain ⟨its, rv, p, hz⟩ := I.tuple hs
    obtain ⟨f0, f1, f2, f3, f4, f5⟩ := hf j (by simp)
    have hl := rv.length
    have hT : s.TypeIs (.ref e) "enumerate" := ⟨_, he, rfl⟩
    unfold pyNext
    refine wpAny_bind (wpAny_attempt (wpAny_callSpecial?_slot (name := Str.ofString "__next__") hT F.slot_enumerate_next
      (wpAny_call_entry F.slot_enumerate_next hT F.entry_enumerate_next (?_ : _) (F.args_enumerate_next_1 _))))
    show wpAny _ _ (field (.ref e) 2 >>= _) _ _ _
    refine wpAny_bind (wpAny_field he rfl (x := .ref j) rfl (?_ : _))
    refine wpAny_bind (nextTupEnd (I.ok.hd hc) hj p (by simp; omega) fun h' x eb hx' => ?_)
    obtain ⟨o, ho, hoc⟩ := hx'
    refine wpAny_bind (wpAny_isInstance (T := "StopIteration") (b := true) ⟨o, ho, hoc⟩ isSubtype_stop (?_ : _))
    exact wpAny_pure ⟨rfl, I.turned (t' := s.toks) (fun b o hb q => eb b o hb q) f0 f1 f3 f4 f5⟩
  self := fun A i s Q E q h => let ⟨⟨_, he⟩, _⟩ := q; wpAny_pyIter_enum he h
def iEnT (K : PySem.W.Frag) (ta : TA) : TI := fun σ H R => ta σ H fun vs H1 => ∃ a xs, vs = [.ref a] ∧ SqT K H1 a xs ∧ R (ItE K a) H1
theorem pi_enT {X : Cx} {e : Expr} {ta : TA} {p pos tp : Pos} {elts : List Expr} {kk : Nat} (hg : Gl X "enumerate") (hm : X.mg "enumerate" = none) (ha : PA X [e] ta) (hs : starEach [e] X.env = [(false, eval e X.env)] := by rfl) :
    PI X (.Tuple elts kk tp) (.Call (.Name "enumerate" p) [e] [] pos) (iEnT X.K ta) := by
  refine ⟨fun pins s σ H R I h => Call_ (ld_blt I hg hm boot_enumerate (PyProof.Rows.callWith_type1 (thn (ha.run pos pins s σ H _ I h) fun us s1 ⟨vs, H1, I1, r1, q1⟩ => ?_) hs rfl))⟩
  obtain ⟨a, xs, ex, hq, q⟩ := q1
  subst ex
  cases r1 with
  | cons r rr =>
    cases rr
    cases r
    obtain ⟨its, rv, tp', hz⟩ := I1.tuple hq
    have hal : a < s1.heap.objs.size := by obtain ⟨_, z, _⟩ := tp'; exact Heap.lt_size z
    refine callEnumT (show s1.heap.IsTuple a its.toArray from tp') fun h' he hit hk => wpAny_pyIter_enum he (?_ : _)
    have I2 : Inv X pins σ H1 { s1 with heap := h' } := I1.kept (t' := s1.toks) hk
    refine ⟨s1.heap.objs.size + 1, [s1.heap.objs.size + 1, s1.heap.objs.size], _, _, H1, rfl, I2, turnEnumT a (s1.heap.objs.size + 1) s1.heap.objs.size, ⟨⟨.none, he⟩, hit, Nat.succ_ne_self _, Nat.ne_of_lt hal, Nat.ne_of_lt (Nat.lt_succ_of_lt hal)⟩, fun b hb => ?_, q⟩
    have eb : b = s1.heap.objs.size + 1 ∨ b = s1.heap.objs.size := by simpa using hb
    have hle : s1.heap.objs.size ≤ b := by
      rcases eb with z | z
      · rw [z]; exact Nat.le_succ _
      · rw [z]; exact Nat.le_refl _
    exact I1.fpOk hle (I1.hok.fresh hle)
end FF
namespace FF
open PySem PySem.Spec PyProof.Rows L2

/-! ### what can be shown by repr -/
structure Sw (W k : Nat) (d : PyData) : Prop where
  sh : d.showable = true
  lf : d.leavesShort 13 = true
  wt : d.weight ≤ W
  dp : d.depth ≤ k
  nd : d.hasDict = false
structure SwA (W k : Nat) (ds : List PyData) : Prop where
  sh : PyData.showableAll ds = true
  lf : PyData.leavesShortAll 13 ds = true
  wt : PyData.weightAll ds ≤ W
  dp : PyData.depthAll ds ≤ k
  nd : PyData.hasDictAll ds = false
theorem Sw.mono {W k W' k' : Nat} {d : PyData} (h : Sw W k d) (h1 : W ≤ W') (h2 : k ≤ k') : Sw W' k' d := ⟨h.sh, h.lf, Nat.le_trans h.wt h1, Nat.le_trans h.dp h2, h.nd⟩
theorem SwA.nil {k : Nat} : SwA 0 k [] := ⟨rfl, rfl, Nat.le_refl _, Nat.zero_le _, rfl⟩
theorem SwA.cons {W V k : Nat} {d : PyData} {ds : List PyData} (h : Sw W k d) (t : SwA V k ds) : SwA (W + 1 + V) k (d :: ds) := by
  refine ⟨?_, ?_, ?_, ?_, ?_⟩
  · simp only [PyData.showableAll, h.sh, t.sh, Bool.and_self]
  · simp only [PyData.leavesShortAll, h.lf, t.lf, Bool.and_self]
  · have a := h.wt
    have b := t.wt
    simp only [PyData.weightAll]
    omega
  · simp only [PyData.depthAll]
    exact Nat.max_le.mpr ⟨h.dp, t.dp⟩
  · simp only [PyData.hasDictAll, h.nd, t.nd, Bool.or_self]
theorem SwA.all {W k : Nat} : ∀ {ds : List PyData}, (∀ d ∈ ds, Sw W k d) → SwA ((W + 1) * ds.length) k ds
  | [], _ => by simpa using (SwA.nil (k := k))
  | d :: ds, h => by
    have t := SwA.cons (h d (List.mem_cons_self ..)) (SwA.all (ds := ds) fun x hx => h x (List.mem_cons_of_mem _ hx))
    have e : W + 1 + (W + 1) * ds.length = (W + 1) * (d :: ds).length := by
      rw [List.length_cons, Nat.mul_add, Nat.mul_one, Nat.add_comm]
    rw [e] at t
    exact t
theorem Sw.tup {W k : Nat} {ds : List PyData} (h : SwA W k ds) : Sw W (k + 1) (.tuple ds) := by
  refine ⟨?_, ?_, ?_, ?_, ?_⟩
  · simp only [PyData.showable, h.sh]
  · simp only [PyData.leavesShort, h.lf]
  · simp only [PyData.weight]; exact h.wt
  · simp only [PyData.depth]; have := h.dp; omega
  · simp only [PyData.hasDict, h.nd]
theorem Sw.lst {W k : Nat} {ds : List PyData} (h : SwA W k ds) : Sw W (k + 1) (.list ds) := by
  refine ⟨?_, ?_, ?_, ?_, ?_⟩
  · simp only [PyData.showable, h.sh]
  · simp only [PyData.leavesShort, h.lf]
  · simp only [PyData.weight]; exact h.wt
  · simp only [PyData.depth]; have := h.dp; omega
  · simp only [PyData.hasDict, h.nd]
theorem log2_lt_of {n k : Nat} (hk : 0 < k) (h : n < 2 ^ k) : n.log2 < k := by
  by_cases e : n = 0
  · subst e
    simpa using hk
  · exact (Nat.log2_lt e).mpr h
theorem Sw.int {k : Nat} {i : Int} (h : i.natAbs < 2 ^ 30) : Sw 30 k (.int i) := by
  have hl : i.natAbs.log2 < 30 := log2_lt_of (by decide) h
  refine ⟨?_, ?_, ?_, Nat.zero_le _, rfl⟩
  · simp only [PyData.showable, decide_eq_true_eq]
    omega
  · simp only [PyData.leavesShort, decide_eq_true_eq]
    show (Str.ofString (toString i)).length ≤ 13
    rw [PySem.ofString_length]
    have h2 : i.natAbs < 10 ^ 12 := Nat.lt_trans h (by decide)
    exact int_text_length_le10 (k := 12) (by decide) h2
  · simp only [PyData.weight]
    split
    · exact Nat.zero_le _
    · omega
theorem Sw.fits {W k : Nat} {d : PyData} (h : Sw W k d) (hW : W ≤ 1000000) : d.shown.length ≤ sizeLine := by
  refine PyData.shown_fits (B := 13) (by decide) (by decide) h.lf (Nat.le_trans h.wt (Nat.le_trans hW ?_))
  decide

/-- repr of a list or a tuple, read as data -/
def rRepr (K : PySem.W.Frag) : List V → Hp → VK → Prop := fun xs H Q => ∃ a d, xs = [.ref a] ∧ Dp K H (.ref a) d ∧ Sw 1000000 60 d ∧ Q (.str d.shown) H
theorem callRepr {X : Cx} (hg : X.A.guards = some []) (hu : X.A.units + 64 < cLine) : CallR X (.builtin "repr") (rRepr X.K) := by
  intro pins s σ H xs us Q I r h
  obtain ⟨a, d, rfl, hd, hs, q⟩ := h
  cases r with
  | cons r1 r2 =>
    cases r2
    cases r1
    obtain ⟨as, rd⟩ := Dp.reads I d (.ref a) _ hd rfl
    have hdp := hs.dp
    refine repr_of_reads' rd hs.sh (fun z => by rw [hs.nd] at z; cases z) hg (by omega) (fun _ _ e => e) (fun h' u tk hk => ?_) (hs.fits (Nat.le_refl _))
    exact ⟨.str d.shown, H, I.kept hk, ⟨_, rfl⟩, q⟩

/-! ### the law's own call: nothing runs around it -/
/-- the body of the law, the script's list at hand; no repr is running around it -/
def BodyOk (P : Program) (w : World) (K : PySem.W.Frag) (mg : Str → Option Value) (base : Heap) (k : Nat) (N : List Str) (st : Stmt) (f : Addr) : Prop :=
  ∀ (cdv : Value) (A : Around) (outer : List Env) (s : Shared) (H : Hp) (a : Addr) (ns : List Int), A.guards = some [] → Room k (A.deeper (envOfC "law" (defScope st) s.heap.objs.size f cdv)) →
    SqL K H a (ns.map V.int) → ns.length ≤ 63 → ∃ t, PSs (cxOf CX0 P w K mg base N "law" (defScope st) f cdv A outer s H E0).nox (defBody st) t ∧ t { nx := fun _ _ => False, rt := fun v _ => v = .bl true } (start N [.ref a]) H
theorem lawRuns {P : Program} {w : World} {K : PySem.W.Frag} {mg : Str → Option Value} {base : Heap} {k : Nat} {N : List Str} {x : Str} {st : Stmt} {f a : Addr} {fd : FuncData} {s : Shared} {H : Hp} {ns : List Int}
    (F : Fun K "law" "law" st f fd) (S : FnScope N [x] (defScope st)) (hb : BodyOk P w K mg base k N st f) (bind : ∀ (s : Shared) (u : Value), BindsTo s fd ⟨[u], []⟩ [(x, u)]) (hr : Room (k + 1) callerA)
    (e0 : Env0 P w K mg base callerA [] s H) (hS : SqL K H a (ns.map V.int)) (hl : ns.length ≤ 63) :
    codeAny (model P w) callerA (.call (.ref f) ⟨[.ref a], []⟩) (CR CX0 [] P w H s (fun v _ => v = .bl true) E0) s := by
  obtain ⟨oc, od, kV, doc, pm, an, cdv, ct, osl, rfl, lk, hcd⟩ := F.ex
  have hK : K.In s.heap := e0.mod.kin.keeps fun b o z => (e0.bs b o z).1
  have nolim : s.heap.NoLimit := e0.mod.nolimit.keeps fun b o z => (e0.bs b o z).1
  have r : Vals [V.ref a] [Value.ref a] := .cons rfl .nil
  have kinds : ∀ y ∈ [x].zip [Value.ref a], (defScope st).names.lookup y.1 = some .local ∨ ((defScope st).names.lookup y.1 = some .cell ∧ ((cellsFrom (s.heap.objs.size + 1) (defScope st).names []).lookup y.1).isSome = true) := by
    rintro ⟨n, v⟩ hy
    rcases S.par n (List.of_mem_zip hy).1 with z | z
    · exact Or.inl z
    · exact Or.inr ⟨z, PySem.W.cellsFrom_some _ _ _ (Or.inl z)⟩
  refine codeAny_call_function hr.depth (hK _ _ lk) rfl S.co S.gen rfl (PySem.W.codeRec_of hK hcd) (bind s (.ref a) _ _ _ _ ?_)
  refine wpAny_newFunctionEnv_cells S.kind kinds fun env he s1 ic => ?_
  subst he
  refine ⟨nolim.keeps ic.toInCall.keep, codeAny_func (?_ : _)⟩
  obtain ⟨t, ht, hq⟩ := hb cdv callerA [] s H a ns rfl (hr.deeper _) hS hl
  have I := inv_start (CX := CX0) (E := E0) (cd := cdv) S hr.hd e0 rfl r ic
  refine wpAny_mono (ht.nox.run [] s1 _ H _ I hq) (fun fl s' hs => ?_) fun _ _ z => z
  cases fl with
  | ret u =>
    obtain ⟨v, σ', H', J, rv, q⟩ := hs
    exact ⟨v, H', J.os, J.bare, J.base, J.hok, rv, q⟩
  | next => obtain ⟨_, _, _, z⟩ := hs; exact False.elim z
  | brk => obtain ⟨_, _, _, z⟩ := hs; exact False.elim z
  | cont => obtain ⟨_, _, _, z⟩ := hs; exact False.elim z

/-- from an abstract heap that tracks at most the script -/
theorem lawCore {P : Program} {w : World} {K : PySem.W.Frag} {mg mb : Str → Option Value} {k : Nat} {N : List Str} {x : Str} {st : Stmt} {f a : Addr} {fd : FuncData} {s₁ : Shared} {vs : List Value} {ns : List Int} {H : Hp}
    (KX : K.In s₁.heap) (hns : s₁.heap.Ns mainGlobals mg) (hbn : s₁.heap.Ns builtinsNs mb) (hbb : ∀ x : Str, x ≠ "__name__" → mb x = bootBuiltins x) (hlim : s₁.heap.NoLimit) (hg : s₁.gens = #[])
    (ha : s₁.heap.get? a = some { cls := .type "list", data := .seq vs.toArray }) (hl : ns.length ≤ 63) (hr : Room (k + 1) callerA)
    (F : Fun K "law" "law" st f fd) (S : FnScope N [x] (defScope st)) (hb : ∀ base : Heap, K.In base → base.Ns mainGlobals mg → BodyOk P w K mg base k N st f) (bind : ∀ (s : Shared) (u : Value), BindsTo s fd ⟨[u], []⟩ [(x, u)])
    (hO : ∀ b, H b = none ∨ ∃ o xs, H b = some (.frz o (.lst xs))) (hS : SqL K H a (ns.map V.int)) (hok : HOk P w H s₁.heap) (hA : ∀ b, H b ≠ none → b = a) (hK : H a ≠ none → K.lookup a = none) :
    codeAny (model P w) callerA (.call (.ref f) ⟨[.ref a], []⟩) (fun r s' => r = .ok (.ret (.bool true)) ∧ OldK s₁.heap s'.heap ∧ s'.os = s₁.os ∧ AllBare s'.gens) s₁ := by
  have put : ∀ {b : Addr} {o : Obj}, s₁.heap.get? b = some o → H b = none → (hidT s₁.heap H).get? b = some o := fun e n => hidT_get e n
  have free : ∀ {b : Addr}, b ≠ a → H b = none := fun {b} n => by
    cases q : H b with
    | none => rfl
    | some u => exact absurd (hA b (by rw [q]; exact fun z => nomatch z)) n
  have nsk : ∀ {b : Addr} {m : Str → Option Value}, s₁.heap.Ns b m → (hidT s₁.heap H).Ns b m := by
    rintro b m ⟨o, es, ep, e, d, r⟩
    refine ⟨o, es, ep, put e (free fun z => ?_), d, r⟩
    subst z
    rw [ha] at e
    cases e
    have d' : Data.seq vs.toArray _ = Data.dict es ep := d
    cases d'
  have kb : K.In (hidT s₁.heap H) := fun b o e => put (KX b o e) (by
    cases q : H b with
    | none => rfl
    | some u =>
      have nn : H b ≠ none := by rw [q]; exact fun z => nomatch z
      have eb : b = a := hA b nn
      rw [eb] at nn e
      rw [hK nn] at e
      cases e)
  have md : Mod K mg (hidT s₁.heap H) := ⟨kb, nsk hns, ⟨mb, nsk hbn, hbb⟩, let ⟨mc, h1, h2⟩ := hlim; ⟨mc, nsk h1, h2⟩⟩
  have e0 : Env0 P w K mg (hidT s₁.heap H) callerA [] s₁ H :=
    { frames := rfl, mod := md, bs := fun b o e => of_hidT e, bsz := Nat.le_of_eq (hidT_size _ _), funs := trivial, frf := fun b z => absurd (show b ∈ ([] : List Addr) from z) (by simp), hok := hok, bare := .of_eq hg }
  refine codeAny_mono (lawRuns F S (hb _ kb (nsk hns)) bind hr e0 hS hl) fun r s' h => ?_
  cases r with
  | error e => exact False.elim h
  | ok fl =>
    cases fl with
    | next => exact False.elim h
    | brk => exact False.elim h
    | cont => exact False.elim h
    | ret u =>
      obtain ⟨v, H', hos, bare, un, hok', r', q⟩ := h
      have q' : v = .bl true := q
      subst q'
      obtain rfl : u = Value.bool true := r'
      refine ⟨rfl, OldK.of_keep fun b o e => ?_, hos, bare⟩
      rcases hO b with z | ⟨ob, xs, z⟩
      · exact un.keep b o e z (fun y => absurd (show b ∈ ([] : List Addr) from y) (by simp)) (by simp)
      · obtain ⟨e1, _⟩ := hok b _ z
        obtain ⟨e2, _⟩ := hok' b _ (un.frzs b ob _ z)
        rw [e] at e1
        cases e1
        exact e2
theorem lawWalk {l : PySem.W.OpenLaw} {k : Nat} {q : Program} {loose : List Str} {XP : (Str → Option Value) → Heap → Prop} {YP : World → Heap → Prop} {d : DefRec} {K : Params → PySem.W.Frag} {N : List Str} {x : Str} {st : Stmt}
    (hn : l.most = some 63) (hdf : d.params.defaults = []) (hr : Room (k + 1) callerA) (S : FnScope N [x] (defScope st))
    (hY : ∀ (w : World) (h : Heap), YP w h → (K w.params).In h)
    (F : ∀ (w : World) (mg : Str → Option Value) (fa : Addr) (h : Heap), (K w.params).In h → h.Ns mainGlobals mg → mg d.name = some (.ref fa) →
      ∃ fd : FuncData, Fun (K w.params) "law" "law" st fa fd ∧ (∀ (s : Shared) (u : Value), BindsTo s fd ⟨[u], []⟩ [(x, u)]) ∧
        ∀ base : Heap, (K w.params).In base → base.Ns mainGlobals mg → BodyOk l.prog w (K w.params) mg base k N st fa) :
    PySem.W.WalkO q loose XP YP l.row.toRowW d [] (fun f vs => PySem.call f vs) := by
  refine Att.attach_call hn hdf fun w s₀ s₁ mg mb fa o pm cd doc a vs ns G Y ho hd hcd hmg hobj hints hlen hg => ?_
  have KX := hY w _ Y
  obtain ⟨fd, hF, hb, hbody⟩ := F w mg fa _ KX G.T.g hmg
  have rv := vals_ints hints
  have hlv := hints.length
  have sz : ns.length ≤ sizeLine := Nat.le_trans hlen (by decide)
  have go := fun (H : Hp) => lawCore (H := H) KX G.T.g G.T.b G.T.builtins G.T.nolimit hg hobj hlen hr hF S hbody hb
  cases hk : (K w.params).lookup a with
  | some oa =>
    have e := KX a oa hk
    rw [hobj] at e
    cases e
    refine go (fun _ => none) (fun _ => Or.inl rfl) (Or.inr ⟨_, vs.toArray, _, hk, rfl, rfl, rfl, ?_, by simpa using rv⟩) (fun b u z => ?_) (fun b z => absurd rfl z) fun z => absurd rfl z
    · rw [List.size_toArray, hlv]; exact sz
    · have z' : (none : Option HO) = some u := z
      cases z'
  | none =>
    let ob : Obj := { cls := .type "list", data := .seq vs.toArray }
    refine go (fun b => if b = a then some (.frz ob (.lst (ns.map V.int))) else none) (fun b => ?_) (Or.inl (Or.inr ⟨ob, if_pos rfl⟩)) (fun b u z => ?_) (fun b z => ?_) fun _ => hk
    · by_cases hba : b = a
      · exact Or.inr ⟨_, _, if_pos hba⟩
      · exact Or.inl (if_neg hba)
    · by_cases hba : b = a
      · have z' := (if_pos hba).symm.trans z
        cases z'
        subst hba
        exact ⟨hobj, by rw [List.length_map]; exact sz, vs, _, rv, hobj⟩
      · have z' := (if_neg hba).symm.trans z
        cases z'
    · by_cases hba : b = a
      · exact hba
      · exact absurd (if_neg hba) z
end FF
namespace FF
open PySem PySem.Spec PyProof.Rows L2 Evl

/-! ### values of all kinds, read as data -/
def keyD : Key → PyData
  | .inl i => .int i
  | .inr x => .str x
mutual
inductive Dq (K : PySem.W.Frag) (H : Hp) : V → PyData → Prop
  | non : Dq K H .non .none
  | bl (b : Bool) : Dq K H (.bl b) (.bool b)
  | int (i : Int) : Dq K H (.int i) (.int i)
  | str (x : Str) : Dq K H (.str x) (.str x)
  | lst {a : Addr} {xs : List V} {ds : List PyData} : H a = some (.lst xs) → a ≠ sysModules → DqA K H xs ds → Dq K H (.ref a) (.list ds)
  | tup {a : Addr} {xs : List V} {ds : List PyData} : SqT K H a xs → DqA K H xs ds → Dq K H (.ref a) (.tuple ds)
  | dct {a : Addr} {o : Obj} {kvs : List (Key × V)} {ds : List (PyData × PyData)} : H a = some (.frz o (.dK kvs)) → DqK K H kvs ds → Dq K H (.ref a) (.dict ds)
inductive DqA (K : PySem.W.Frag) (H : Hp) : List V → List PyData → Prop
  | nil : DqA K H [] []
  | cons {v : V} {vs : List V} {d : PyData} {ds : List PyData} : Dq K H v d → DqA K H vs ds → DqA K H (v :: vs) (d :: ds)
inductive DqK (K : PySem.W.Frag) (H : Hp) : List (Key × V) → List (PyData × PyData) → Prop
  | nil : DqK K H [] []
  | cons {k : Key} {v : V} {r : List (Key × V)} {d : PyData} {ds : List (PyData × PyData)} : Dq K H v d → DqK K H r ds → DqK K H ((k, v) :: r) ((keyD k, d) :: ds)
end
section
variable {K : PySem.W.Frag} {H H' : Hp}
mutual
theorem Dq.ex (e : Ex H H') : ∀ (d : PyData) (v : V), Dq K H v d → Dq K H' v d
  | .none, _, h => by cases h; exact .non
  | .bool b, _, h => by cases h; exact .bl b
  | .int i, _, h => by cases h; exact .int i
  | .str x, _, h => by cases h; exact .str x
  | .list ds, _, h => by
    cases h with
    | lst a n b => exact .lst (e _ _ a) n (DqA.ex e ds _ b)
  | .tuple ds, _, h => by
    cases h with
    | tup a b => exact .tup (ex_t e a) (DqA.ex e ds _ b)
  | .dict ds, _, h => by
    cases h with
    | dct a b => exact .dct (e _ _ a) (DqK.ex e ds _ b)
theorem DqA.ex (e : Ex H H') : ∀ (ds : List PyData) (vs : List V), DqA K H vs ds → DqA K H' vs ds
  | [], _, h => by cases h; exact .nil
  | d :: ds, _, h => by
    cases h with
    | cons a b => exact .cons (Dq.ex e d _ a) (DqA.ex e ds _ b)
theorem DqK.ex (e : Ex H H') : ∀ (ds : List (PyData × PyData)) (vs : List (Key × V)), DqK K H vs ds → DqK K H' vs ds
  | [], _, h => by cases h; exact .nil
  | (_, d) :: ds, _, h => by
    cases h with
    | cons a b => exact .cons (Dq.ex e d _ a) (DqK.ex e ds _ b)
end
theorem DqA.len : ∀ {ds : List PyData} {vs : List V}, DqA K H vs ds → vs.length = ds.length
  | [], _, h => by cases h; rfl
  | d :: ds, _, h => by
    cases h with
    | cons a b => rw [List.length_cons, List.length_cons, DqA.len b]
theorem DqA.app : ∀ {ds es : List PyData} {vs ws : List V}, DqA K H vs ds → DqA K H ws es → DqA K H (vs ++ ws) (ds ++ es)
  | [], _, _, _, h, g => by cases h; exact g
  | d :: ds, _, _, _, h, g => by
    cases h with
    | cons a b => exact .cons a (DqA.app b g)
theorem DqA.take : ∀ (n : Nat) {ds : List PyData} {vs : List V}, DqA K H vs ds → DqA K H (vs.take n) (ds.take n)
  | 0, _, _, _ => .nil
  | n + 1, [], _, h => by cases h; exact .nil
  | n + 1, d :: ds, _, h => by
    cases h with
    | cons a b => exact .cons a (DqA.take n b)
theorem DqA.drop : ∀ (n : Nat) {ds : List PyData} {vs : List V}, DqA K H vs ds → DqA K H (vs.drop n) (ds.drop n)
  | 0, _, _, h => h
  | n + 1, [], _, h => by cases h; exact .nil
  | n + 1, d :: ds, _, h => by
    cases h with
    | cons a b => exact DqA.drop n b
theorem DqA.rev : ∀ {ds : List PyData} {vs : List V}, DqA K H vs ds → DqA K H vs.reverse ds.reverse
  | [], _, h => by cases h; exact .nil
  | d :: ds, _, h => by
    cases h with
    | cons a b =>
      rw [List.reverse_cons, List.reverse_cons]
      exact (DqA.rev b).app (.cons a .nil)
theorem DqA.get : ∀ {ds : List PyData} {vs : List V} (i : Nat) {v : V}, DqA K H vs ds → vs[i]? = some v → ∃ d, ds[i]? = some d ∧ Dq K H v d
  | [], _, i, v, h, e => by cases h; simp at e
  | d :: ds, _, 0, v, h, e => by
    cases h with
    | cons a b =>
      have ev := Option.some.inj (show some _ = some v from e)
      subst ev
      exact ⟨d, rfl, a⟩
  | d :: ds, _, i + 1, v, h, e => by
    cases h with
    | cons a b =>
      obtain ⟨d', h1, h2⟩ := DqA.get i b (by simpa using e)
      exact ⟨d', by simpa using h1, h2⟩
theorem DqA.getD : ∀ {ds : List PyData} {vs : List V} (i : Nat) {d : PyData}, DqA K H vs ds → ds[i]? = some d → ∃ v, vs[i]? = some v ∧ Dq K H v d := fun {ds vs} i {d} h e => by
  have hi : i < vs.length := by rw [h.len]; exact (List.getElem?_eq_some_iff.mp e).1
  obtain ⟨d', h1, h2⟩ := h.get i (List.getElem?_eq_getElem hi)
  have : d' = d := Option.some.inj (h1.symm.trans e)
  subst this
  exact ⟨_, List.getElem?_eq_getElem hi, h2⟩
end
section
variable {X : Cx} {pins : List (Addr × Obj)} {σ : L2.St} {H : Hp} {s : Shared}
theorem pairs_read {P : Program} {w : World} : ∀ {es : List DictEntry} {ws : List (Key × Value)}, Pairs (mixKind P w) es ws → Paired (fun (e : DictEntry) (q : Key × Value) => keyIs q.1 e.key = true ∧ e.val = q.2) es ws
  | _, _, .nil => .nil
  | _, _, .cons a b c => .cons ⟨a, b⟩ (pairs_read c)
mutual
theorem Dq.reads (I : Inv X pins σ H s) : ∀ (d : PyData) (v : V) (u : Value), Dq X.K H v d → RelV v u → ∃ as, Reads s.heap u d as ∧ sysModules ∉ as
  | .none, _, _, h, r => by
    cases h; cases r
    exact ⟨_, Reads.none, List.not_mem_nil⟩
  | .bool b, _, _, h, r => by
    cases h; cases r
    exact ⟨_, Reads.bool b, List.not_mem_nil⟩
  | .int i, _, _, h, r => by
    cases h
    obtain ⟨t, rfl⟩ := r
    exact ⟨_, Reads.int i t, List.not_mem_nil⟩
  | .str x, _, _, h, r => by
    cases h
    obtain ⟨t, rfl⟩ := r
    exact ⟨_, Reads.str x t, List.not_mem_nil⟩
  | .list ds, _, _, h, r => by
    cases h with
    | lst hs ne ha =>
      cases r
      obtain ⟨its, rv, ⟨o, n, ho, hc, _, hd⟩, _⟩ := I.list (SqL.of hs)
      obtain ⟨as, hr, hn⟩ := DqA.reads I ds _ its ha rv
      exact ⟨_, Reads.list ho hc hd hr, fun z => (List.mem_cons.mp z).elim (fun q => ne q.symm) hn⟩
  | .tuple ds, _, _, h, r => by
    cases h with
    | tup hs ha =>
      cases r
      obtain ⟨its, rv, ⟨o, ho, hc, n, hd⟩, _⟩ := I.tuple hs
      obtain ⟨as, hr, hn⟩ := DqA.reads I ds _ its ha rv
      exact ⟨_, Reads.tuple ho hc hd hr, hn⟩
  | .dict ds, _, _, h, r => by
    cases h with
    | @dct a o kvs _ hs ha =>
      cases r
      obtain ⟨hz, hsys, ws, kv, o, es, ep, ho, hx, hd, _, hp, _⟩ := dk_rd I.hok (.inr ⟨_, hs⟩)
      obtain ⟨as, bs, h1, h2, h3, h4⟩ := DqK.reads I ds kvs ws es.toList ha kv (pairs_read hp)
      refine ⟨_, Reads.dict ho hx.1 hd h1 h2, fun z => ?_⟩
      rcases List.mem_append.mp z with z | z
      · rcases List.mem_cons.mp z with z | z
        · rw [z] at hsys
          simp at hsys
        · exact h3 z
      · exact h4 z
theorem DqA.reads (I : Inv X pins σ H s) : ∀ (ds : List PyData) (vs : List V) (us : List Value), DqA X.K H vs ds → Vals vs us → ∃ as, ReadsAll s.heap us ds as ∧ sysModules ∉ as
  | [], _, _, h, r => by
    cases h; cases r
    exact ⟨_, ReadsAll.nil, List.not_mem_nil⟩
  | d :: ds, _, _, h, r => by
    cases h with
    | cons h1 h2 =>
      cases r with
      | cons r1 r2 =>
        obtain ⟨as, q1, n1⟩ := Dq.reads I d _ _ h1 r1
        obtain ⟨bs, q2, n2⟩ := DqA.reads I ds _ _ h2 r2
        exact ⟨_, ReadsAll.cons q1 q2, fun z => (List.mem_append.mp z).elim n1 n2⟩
theorem DqK.reads (I : Inv X pins σ H s) : ∀ (ds : List (PyData × PyData)) (kvs : List (Key × V)) (ws : List (Key × Value)) (es : List DictEntry), DqK X.K H kvs ds → KV kvs ws → Paired (fun (e : DictEntry) (q : Key × Value) => keyIs q.1 e.key = true ∧ e.val = q.2) es ws →
    ∃ as bs, ReadsAll s.heap (es.map (·.key)) (ds.map (·.1)) as ∧ ReadsAll s.heap (es.map (·.val)) (ds.map (·.2)) bs ∧ sysModules ∉ as ∧ sysModules ∉ bs
  | [], _, _, _, h, r, p => by
    cases h; cases r; cases p
    exact ⟨_, _, ReadsAll.nil, ReadsAll.nil, List.not_mem_nil, List.not_mem_nil⟩
  | (_, d) :: ds, _, _, _, h, r, p => by
    cases h with
    | @cons k v kr _ _ h1 h2 =>
      cases r with
      | @cons _ q _ qr r1 r2 =>
        cases p with
        | @cons e _ er _ p1 p2 =>
          obtain ⟨k1, w1⟩ := q
          obtain ⟨e1, e2⟩ := r1
          obtain ⟨p3, p4⟩ := p1
          replace e1 : k = k1 := e1
          replace e2 : RelV v w1 := e2
          replace p3 : keyIs k1 e.key = true := p3
          replace p4 : e.val = w1 := p4
          subst e1 p4
          obtain ⟨bs, q2, n2⟩ := Dq.reads I d _ _ h1 e2
          obtain ⟨as', bs', q3, q4, n3, n4⟩ := DqK.reads I ds _ _ _ h2 r2 p2
          have q1 : Reads s.heap e.key (keyD k) [] := by
            rcases keyIs_shape p3 with ⟨i, t, rfl, ek⟩ | ⟨x, t, rfl, ek⟩
            · rw [ek]; exact Reads.int i t
            · rw [ek]; exact Reads.str x t
          refine ⟨[] ++ as', bs ++ bs', ?_, ?_, n3, fun z => (List.mem_append.mp z).elim n2 n4⟩
          · rw [List.map_cons, List.map_cons]
            exact ReadsAll.cons q1 q3
          · rw [List.map_cons, List.map_cons]
            exact ReadsAll.cons q2 q4
end
end

/-! ### what can be shown by repr -/
structure Sv (W k : Nat) (d : PyData) : Prop where
  sh : d.showable = true
  lf : d.leavesShort 40 = true
  wt : d.weight ≤ W
  dp : d.depth ≤ k
structure SvA (W k : Nat) (ds : List PyData) : Prop where
  sh : PyData.showableAll ds = true
  lf : PyData.leavesShortAll 40 ds = true
  wt : PyData.weightAll ds ≤ W
  dp : PyData.depthAll ds ≤ k
theorem Sv.mono {W k W' k' : Nat} {d : PyData} (h : Sv W k d) (h1 : W ≤ W') (h2 : k ≤ k') : Sv W' k' d := ⟨h.sh, h.lf, Nat.le_trans h.wt h1, Nat.le_trans h.dp h2⟩
theorem SvA.mono {W k W' k' : Nat} {d : List PyData} (h : SvA W k d) (h1 : W ≤ W') (h2 : k ≤ k') : SvA W' k' d := ⟨h.sh, h.lf, Nat.le_trans h.wt h1, Nat.le_trans h.dp h2⟩
theorem SvA.nil {k : Nat} : SvA 0 k [] := ⟨rfl, rfl, Nat.le_refl _, Nat.zero_le _⟩
theorem SvA.cons {W V k j : Nat} {d : PyData} {ds : List PyData} (h : Sv W k d) (t : SvA V j ds) : SvA (W + 1 + V) (max k j) (d :: ds) := by
  refine ⟨?_, ?_, ?_, ?_⟩
  · simp only [PyData.showableAll, h.sh, t.sh, Bool.and_self]
  · simp only [PyData.leavesShortAll, h.lf, t.lf, Bool.and_self]
  · have a := h.wt
    have b := t.wt
    simp only [PyData.weightAll]
    omega
  · simp only [PyData.depthAll]
    have a := h.dp
    have b := t.dp
    omega
theorem SvA.app {W V k j : Nat} : ∀ {ds es : List PyData}, SvA W k ds → SvA V j es → SvA (W + V) (max k j) (ds ++ es)
  | [], es, a, b => b.mono (Nat.le_add_left _ _) (Nat.le_max_right _ _)
  | d :: ds, es, a, b => by
    have h1 := a.sh
    have h2 := a.lf
    have h3 := a.wt
    have h4 := a.dp
    simp only [PyData.showableAll, Bool.and_eq_true] at h1
    simp only [PyData.leavesShortAll, Bool.and_eq_true] at h2
    simp only [PyData.weightAll] at h3
    simp only [PyData.depthAll] at h4
    have t : SvA (W - d.weight - 1) k ds := ⟨h1.2, h2.2, by omega, by omega⟩
    have r := SvA.cons (W := d.weight) (k := k) ⟨h1.1, h2.1, Nat.le_refl _, by omega⟩ (t.app b)
    exact r.mono (by omega) (by omega)
theorem SvA.sub {W k : Nat} : ∀ {ds : List PyData}, SvA W k ds → (∀ d ∈ ds, Sv W k d)
  | [], _, d, hd => nomatch hd
  | x :: ds, a, d, hd => by
    have h1 := a.sh
    have h2 := a.lf
    have h3 := a.wt
    have h4 := a.dp
    simp only [PyData.showableAll, Bool.and_eq_true] at h1
    simp only [PyData.leavesShortAll, Bool.and_eq_true] at h2
    simp only [PyData.weightAll] at h3
    simp only [PyData.depthAll] at h4
    rcases List.mem_cons.mp hd with e | e
    · subst e
      exact ⟨h1.1, h2.1, by omega, by omega⟩
    · exact SvA.sub (ds := ds) ⟨h1.2, h2.2, by omega, by omega⟩ d e
theorem SvA.all {W k : Nat} : ∀ {ds : List PyData}, (∀ d ∈ ds, Sv W k d) → SvA ((W + 1) * ds.length) k ds
  | [], _ => by simpa using (SvA.nil (k := k))
  | d :: ds, h => by
    have t := SvA.cons (h d (List.mem_cons_self ..)) (SvA.all (ds := ds) fun x hx => h x (List.mem_cons_of_mem _ hx))
    have e : W + 1 + (W + 1) * ds.length = (W + 1) * (d :: ds).length := by
      rw [List.length_cons, Nat.mul_add, Nat.mul_one, Nat.add_comm]
    rw [e] at t
    exact t.mono (Nat.le_refl _) (by omega)
theorem SvA.drop {W k : Nat} : ∀ (n : Nat) {ds : List PyData}, SvA W k ds → SvA W k (ds.drop n)
  | 0, _, a => a
  | n + 1, [], a => a
  | n + 1, d :: ds, a => by
    have h1 := a.sh
    have h2 := a.lf
    have h3 := a.wt
    have h4 := a.dp
    simp only [PyData.showableAll, Bool.and_eq_true] at h1
    simp only [PyData.leavesShortAll, Bool.and_eq_true] at h2
    simp only [PyData.weightAll] at h3
    simp only [PyData.depthAll] at h4
    exact SvA.drop n (ds := ds) ⟨h1.2, h2.2, by omega, by omega⟩
theorem SvA.take {W k : Nat} : ∀ (n : Nat) {ds : List PyData}, SvA W k ds → SvA W k (ds.take n)
  | 0, _, a => SvA.nil.mono (Nat.zero_le _) (Nat.le_refl _)
  | n + 1, [], a => a
  | n + 1, d :: ds, a => by
    have h1 := a.sh
    have h2 := a.lf
    have h3 := a.wt
    have h4 := a.dp
    simp only [PyData.showableAll, Bool.and_eq_true] at h1
    simp only [PyData.leavesShortAll, Bool.and_eq_true] at h2
    simp only [PyData.weightAll] at h3
    simp only [PyData.depthAll] at h4
    have t : SvA (W - d.weight - 1) k (ds.take n) := SvA.take n (ds := ds) ⟨h1.2, h2.2, by omega, by omega⟩
    rw [List.take_succ_cons]
    exact (SvA.cons (W := d.weight) (k := k) ⟨h1.1, h2.1, Nat.le_refl _, by omega⟩ t).mono (by omega) (by omega)
theorem SvA.rev {W k : Nat} : ∀ {ds : List PyData}, SvA W k ds → SvA W k ds.reverse
  | [], a => a
  | d :: ds, a => by
    have h1 := a.sh
    have h2 := a.lf
    have h3 := a.wt
    have h4 := a.dp
    simp only [PyData.showableAll, Bool.and_eq_true] at h1
    simp only [PyData.leavesShortAll, Bool.and_eq_true] at h2
    simp only [PyData.weightAll] at h3
    simp only [PyData.depthAll] at h4
    have t : SvA (W - d.weight - 1) k ds.reverse := SvA.rev (ds := ds) ⟨h1.2, h2.2, by omega, by omega⟩
    rw [List.reverse_cons]
    exact (t.app (SvA.cons (W := d.weight) (k := k) ⟨h1.1, h2.1, Nat.le_refl _, by omega⟩ (SvA.nil (k := k)))).mono (by omega) (by omega)
theorem SvA.rep {W k : Nat} {ds : List PyData} (h : SvA W k ds) : ∀ n : Nat, SvA (n * W) k (List.replicate n ds).flatten
  | 0 => by simpa using (SvA.nil (k := k))
  | n + 1 => by
    rw [List.replicate_succ, List.flatten_cons]
    exact (h.app (SvA.rep h n)).mono (by rw [Nat.add_mul]; omega) (by omega)
theorem Sv.tup {W k : Nat} {ds : List PyData} (h : SvA W k ds) : Sv W (k + 1) (.tuple ds) := by
  refine ⟨?_, ?_, ?_, ?_⟩
  · simp only [PyData.showable, h.sh]
  · simp only [PyData.leavesShort, h.lf]
  · simp only [PyData.weight]; exact h.wt
  · simp only [PyData.depth]; have := h.dp; omega
theorem Sv.lst {W k : Nat} {ds : List PyData} (h : SvA W k ds) : Sv W (k + 1) (.list ds) := by
  refine ⟨?_, ?_, ?_, ?_⟩
  · simp only [PyData.showable, h.sh]
  · simp only [PyData.leavesShort, h.lf]
  · simp only [PyData.weight]; exact h.wt
  · simp only [PyData.depth]; have := h.dp; omega
theorem Sv.items {W k : Nat} {ds : List PyData} (h : Sv W k (.tuple ds)) : SvA W k ds := by
  refine ⟨?_, ?_, ?_, ?_⟩
  · have := h.sh; simpa only [PyData.showable] using this
  · have := h.lf; simpa only [PyData.leavesShort] using this
  · have := h.wt; simpa only [PyData.weight] using this
  · have := h.dp
    simp only [PyData.depth] at this
    omega
theorem Sv.int {k : Nat} {i : Int} (h : i.natAbs < 2 ^ 110) : Sv 110 k (.int i) := by
  have hl : i.natAbs.log2 < 110 := log2_lt_of (by decide) h
  refine ⟨?_, ?_, ?_, Nat.zero_le _⟩
  · simp only [PyData.showable, decide_eq_true_eq]
    omega
  · simp only [PyData.leavesShort, decide_eq_true_eq]
    show (Str.ofString (toString i)).length ≤ 40
    rw [PySem.ofString_length]
    have h2 : i.natAbs < 10 ^ 39 := Nat.lt_trans h (by decide)
    exact int_text_length_le10 (k := 39) (by decide) h2
  · simp only [PyData.weight]
    split
    · exact Nat.zero_le _
    · omega
theorem Sv.non {k : Nat} : Sv 0 k .none := ⟨rfl, rfl, Nat.le_refl _, Nat.zero_le _⟩
theorem Sv.bl {k : Nat} {b : Bool} : Sv 0 k (.bool b) := ⟨rfl, rfl, Nat.le_refl _, Nat.zero_le _⟩
theorem Sv.str {k : Nat} {x : Str} (h : (x.cps.toList.all fun c => decide (c < 1000)) = true) (hl : x.length ≤ 40) : Sv 40 k (.str x) := by
  refine ⟨rfl, ?_, hl, Nat.zero_le _⟩
  simp only [PyData.leavesShort, List.all_eq_true, decide_eq_true_eq]
  intro c hc
  have := List.all_eq_true.mp h c hc
  simp at this
  have e : (16 : Nat) ^ 8 = 4294967296 := by decide
  omega
theorem Sv.fits {W k : Nat} {d : PyData} (h : Sv W k d) (hW : W ≤ 300000) : d.shown.length ≤ sizeLine := by
  have a := PyData.shown_le 40 (by decide) d h.lf
  have b := h.wt
  have c : (40 + 2) * d.weight ≤ 42 * 300000 := Nat.mul_le_mul (by decide) (by omega)
  have e : sizeLine = 16777216 := by decide
  omega

/-- repr of any such value -/
def rReprV (K : PySem.W.Frag) : List V → Hp → VK → Prop := fun xs H Q => ∃ x d, xs = [x] ∧ Dq K H x d ∧ Sv 300000 60 d ∧ Q (.str d.shown) H
theorem callReprV {X : Cx} (hg : X.A.guards = some []) (hu : X.A.units + 64 < cLine) : CallR X (.builtin "repr") (rReprV X.K) := by
  intro pins s σ H xs us Q I r h
  obtain ⟨x, d, rfl, hd, hs, q⟩ := h
  have ft := hs.fits (Nat.le_refl _)
  cases r with
  | cons r1 r2 =>
    cases r2
    cases x with
    | non =>
      cases hd
      cases (show _ = Value.none from r1)
      exact PySem.P.repr_of_none ⟨.str _, H, I.tok _, ⟨_, rfl⟩, q⟩
    | bl b =>
      cases hd
      cases (show _ = Value.bool b from r1)
      exact PySem.P.repr_of_bool ⟨.str _, H, I.tok _, ⟨_, rfl⟩, q⟩
    | int i =>
      cases hd
      obtain ⟨t, rfl⟩ := r1
      have := hs.sh
      simp only [PyData.showable, decide_eq_true_eq] at this
      exact PySem.P.repr_of_int this ⟨.str _, H, I.tok _, ⟨_, rfl⟩, q⟩
    | str z =>
      cases hd
      obtain ⟨t, rfl⟩ := r1
      exact PySem.P.repr_of_str ⟨.str _, H, I.tok _, ⟨_, rfl⟩, q⟩ ft
    | ref a =>
      obtain ⟨as, rd, nsys⟩ := Dq.reads I d (.ref a) _ hd r1
      cases (show _ = Value.ref a from r1)
      have hdp := hs.dp
      refine repr_of_reads' rd hs.sh (fun _ => nsys) hg (by omega) (fun _ _ e => e) (fun h' u tk hk => ?_) ft
      exact ⟨.str d.shown, H, I.kept hk, ⟨_, rfl⟩, q⟩
    | byt _ => cases hd
    | flt _ => cases hd
    | ty _ => cases hd

/-! ### isinstance on such values -/
def tyD : PyData → String
  | .none => "NoneType"
  | .bool _ => "bool"
  | .int _ => "int"
  | .str _ => "str"
  | .list _ => "list"
  | .tuple _ => "tuple"
  | .dict _ => "dict"
theorem dqTy {K : PySem.W.Frag} {H : Hp} {v : V} {d : PyData} (h : Dq K H v d) : TyX K H v (.type (tyD d)) := by
  cases h with
  | non => exact .base .non
  | bl b => exact .base (.bl b)
  | int i => exact .base (.int i)
  | str x => exact .base (.str x)
  | lst a _ _ => exact .base (.lst a)
  | tup a _ =>
    rcases a with (a | ⟨o, a⟩) | ⟨o, its, n, hk, hc, _⟩
    · exact .base (.tup a)
    · exact .fTuple a
    · exact .kTuple hk hc
  | dct a _ => exact .fDict a
def isTupD : PyData → Bool
  | .tuple _ => true
  | _ => false
def isIntT : PyData → Bool
  | .int _ => true
  | .bool _ => true
  | _ => false
def isBoolD : PyData → Bool
  | .bool _ => true
  | _ => false
theorem kitTup : ∀ d : PyData, kitB (tyD d) "tuple" = some (isTupD d)
  | .none => (by decide +kernel : kitB "NoneType" "tuple" = some false)
  | .bool _ => (by decide +kernel : kitB "bool" "tuple" = some false)
  | .int _ => (by decide +kernel : kitB "int" "tuple" = some false)
  | .str _ => (by decide +kernel : kitB "str" "tuple" = some false)
  | .list _ => (by decide +kernel : kitB "list" "tuple" = some false)
  | .tuple _ => (by decide +kernel : kitB "tuple" "tuple" = some true)
  | .dict _ => (by decide +kernel : kitB "dict" "tuple" = some false)
theorem kitInt : ∀ d : PyData, kitB (tyD d) "int" = some (isIntT d)
  | .none => (by decide +kernel : kitB "NoneType" "int" = some false)
  | .bool _ => (by decide +kernel : kitB "bool" "int" = some true)
  | .int _ => (by decide +kernel : kitB "int" "int" = some true)
  | .str _ => (by decide +kernel : kitB "str" "int" = some false)
  | .list _ => (by decide +kernel : kitB "list" "int" = some false)
  | .tuple _ => (by decide +kernel : kitB "tuple" "int" = some false)
  | .dict _ => (by decide +kernel : kitB "dict" "int" = some false)
theorem kitBool : ∀ d : PyData, kitB (tyD d) "bool" = some (isBoolD d)
  | .none => (by decide +kernel : kitB "NoneType" "bool" = some false)
  | .bool _ => (by decide +kernel : kitB "bool" "bool" = some true)
  | .int _ => (by decide +kernel : kitB "int" "bool" = some false)
  | .str _ => (by decide +kernel : kitB "str" "bool" = some false)
  | .list _ => (by decide +kernel : kitB "list" "bool" = some false)
  | .tuple _ => (by decide +kernel : kitB "tuple" "bool" = some false)
  | .dict _ => (by decide +kernel : kitB "dict" "bool" = some false)
/-- isinstance(x, tuple) .. -/
theorem isiV {K : PySem.W.Frag} {H : Hp} {v : V} {d : PyData} {T : String} {b : Bool} {Q : VK} (h : Dq K H v d) (k : kitB (tyD d) T = some b) (q : Q (.bl b) H) : rIsi K [v, .ty T] H Q :=
  ⟨v, .ty T, _, _, b, rfl, .ty T, dqTy h, kit_ty k, q⟩
end FF
namespace FF
open PySem PySem.Spec PyProof.Rows L2 Evl
/-! ### a thing that is not written any more -/
def tFrzE (t : TE) : TE := fun σ H Q => t σ H fun v H1 => ∃ d u, v = .ref d ∧ H1 d = some u ∧ Mut (some u) ∧ ∀ od, Q v (upd H1 d (.frz od u))
def tFrzS (t : TS) : TS := fun D σ H => ∃ d u, H d = some u ∧ Mut (some u) ∧ ∀ od, t D σ (upd H d (.frz od u))
section
variable {X : Cx}
theorem pe_frz {e : Expr} {t : TE} (h : PE X e t) : PE X e (tFrzE t) := by
  refine ⟨fun pins s σ H Q I hw => ?_⟩
  refine thn (h.run pins s σ H _ I hw) fun v s1 ⟨x, H1, I1, r, d, u, ev, hd, mu, q⟩ => ?_
  obtain ⟨od, I2⟩ := I1.lock hd mu
  exact ⟨x, _, I2, r, q od⟩
theorem ps_frz {st : Stmt} {t : TS} (h : PS X st t) : PS X st (tFrzS t) := by
  refine ⟨fun pins s σ H D I hw => ?_⟩
  obtain ⟨d, u, hd, mu, hw⟩ := hw
  obtain ⟨od, I1⟩ := I.lock hd mu
  exact h.run pins s σ _ _ I1 (hw od)
end
end FF
namespace FF
open PySem PySem.Spec PyProof.Rows L2 Evl
/-! ### the law's own call, the table of modules known -/
/-- the table of modules stands where it stands: no new thing is laid there -/
def Sys (H : Hp) : Prop := ∃ o, H sysModules = some (.frz o (.own 0))
theorem Sys.ex {H H' : Hp} (s : Sys H) (e : Ex H H') : Sys H' := let ⟨o, h⟩ := s; ⟨o, e _ _ h⟩
theorem Sys.ne {H : Hp} {p : Addr} (s : Sys H) (n : H p = none) : p ≠ sysModules := let ⟨_, h⟩ := s; (ne_of_none h n).symm
def BodyS (P : Program) (w : World) (K : PySem.W.Frag) (mg : Str → Option Value) (base : Heap) (k : Nat) (N : List Str) (st : Stmt) (f : Addr) : Prop :=
  ∀ (cdv : Value) (A : Around) (outer : List Env) (s : Shared) (H : Hp) (a : Addr) (ns : List Int), A.guards = some [] → Room k (A.deeper (envOfC "law" (defScope st) s.heap.objs.size f cdv)) →
    Sys H → SqL K H a (ns.map V.int) → ns.length ≤ 63 → ∃ t, PSs (cxOf CX0 P w K mg base N "law" (defScope st) f cdv A outer s H E0).nox (defBody st) t ∧ t { nx := fun _ _ => False, rt := fun v _ => v = .bl true } (start N [.ref a]) H
theorem runsS {P : Program} {w : World} {K : PySem.W.Frag} {mg : Str → Option Value} {base : Heap} {k : Nat} {N : List Str} {x : Str} {st : Stmt} {f a : Addr} {fd : FuncData} {s : Shared} {H : Hp} {ns : List Int}
    (F : Fun K "law" "law" st f fd) (S : FnScope N [x] (defScope st)) (hb : BodyS P w K mg base k N st f) (bind : ∀ (s : Shared) (u : Value), BindsTo s fd ⟨[u], []⟩ [(x, u)]) (hr : Room (k + 1) callerA)
    (e0 : Env0 P w K mg base callerA [] s H) (hy : Sys H) (hS : SqL K H a (ns.map V.int)) (hl : ns.length ≤ 63) :
    codeAny (model P w) callerA (.call (.ref f) ⟨[.ref a], []⟩) (CR CX0 [] P w H s (fun v _ => v = .bl true) E0) s := by
  obtain ⟨oc, od, kV, doc, pm, an, cdv, ct, osl, rfl, lk, hcd⟩ := F.ex
  have hK : K.In s.heap := e0.mod.kin.keeps fun b o z => (e0.bs b o z).1
  have nolim : s.heap.NoLimit := e0.mod.nolimit.keeps fun b o z => (e0.bs b o z).1
  have r : Vals [V.ref a] [Value.ref a] := .cons rfl .nil
  have kinds : ∀ y ∈ [x].zip [Value.ref a], (defScope st).names.lookup y.1 = some .local ∨ ((defScope st).names.lookup y.1 = some .cell ∧ ((cellsFrom (s.heap.objs.size + 1) (defScope st).names []).lookup y.1).isSome = true) := by
    rintro ⟨n, v⟩ hy
    rcases S.par n (List.of_mem_zip hy).1 with z | z
    · exact Or.inl z
    · exact Or.inr ⟨z, PySem.W.cellsFrom_some _ _ _ (Or.inl z)⟩
  refine codeAny_call_function hr.depth (hK _ _ lk) rfl S.co S.gen rfl (PySem.W.codeRec_of hK hcd) (bind s (.ref a) _ _ _ _ ?_)
  refine wpAny_newFunctionEnv_cells S.kind kinds fun env he s1 ic => ?_
  subst he
  refine ⟨nolim.keeps ic.toInCall.keep, codeAny_func (?_ : _)⟩
  obtain ⟨t, ht, hq⟩ := hb cdv callerA [] s H a ns rfl (hr.deeper _) hy hS hl
  have I := inv_start (CX := CX0) (E := E0) (cd := cdv) S hr.hd e0 rfl r ic
  refine wpAny_mono (ht.nox.run [] s1 _ H _ I hq) (fun fl s' hs => ?_) fun _ _ z => z
  cases fl with
  | ret u =>
    obtain ⟨v, σ', H', J, rv, q⟩ := hs
    exact ⟨v, H', J.os, J.bare, J.base, J.hok, rv, q⟩
  | next => obtain ⟨_, _, _, z⟩ := hs; exact False.elim z
  | brk => obtain ⟨_, _, _, z⟩ := hs; exact False.elim z
  | cont => obtain ⟨_, _, _, z⟩ := hs; exact False.elim z
theorem coreS {P : Program} {w : World} {K : PySem.W.Frag} {mg mb : Str → Option Value} {k : Nat} {N : List Str} {x : Str} {st : Stmt} {f a : Addr} {fd : FuncData} {s₁ : Shared} {vs : List Value} {ns : List Int} {H : Hp}
    (KX : K.In s₁.heap) (hns : s₁.heap.Ns mainGlobals mg) (hbn : s₁.heap.Ns builtinsNs mb) (hbb : ∀ x : Str, x ≠ "__name__" → mb x = bootBuiltins x) (hlim : s₁.heap.NoLimit) (hg : s₁.gens = #[])
    (ha : s₁.heap.get? a = some { cls := .type "list", data := .seq vs.toArray }) (hl : ns.length ≤ 63) (hr : Room (k + 1) callerA)
    (F : Fun K "law" "law" st f fd) (S : FnScope N [x] (defScope st)) (hb : ∀ base : Heap, K.In base → base.Ns mainGlobals mg → BodyS P w K mg base k N st f) (bind : ∀ (s : Shared) (u : Value), BindsTo s fd ⟨[u], []⟩ [(x, u)])
    (hO : ∀ b, H b = none ∨ ∃ o u, H b = some (.frz o u)) (hy : Sys H) (hS : SqL K H a (ns.map V.int)) (hok : HOk P w H s₁.heap) (hA : ∀ b, H b ≠ none → b = a ∨ b = sysModules) (hK : ∀ b, H b ≠ none → K.lookup b = none) :
    codeAny (model P w) callerA (.call (.ref f) ⟨[.ref a], []⟩) (fun r s' => r = .ok (.ret (.bool true)) ∧ OldK s₁.heap s'.heap ∧ s'.os = s₁.os ∧ AllBare s'.gens) s₁ := by
  have put : ∀ {b : Addr} {o : Obj}, s₁.heap.get? b = some o → H b = none → (hidT s₁.heap H).get? b = some o := fun e n => hidT_get e n
  have free : ∀ {b : Addr}, b ≠ a → b ≠ sysModules → H b = none := fun {b} n n2 => by
    cases q : H b with
    | none => rfl
    | some u => exact ((hA b (by rw [q]; exact fun z => nomatch z)).elim (fun z => absurd z n) fun z => absurd z n2)
  have nsk : ∀ {b : Addr} {m : Str → Option Value}, b ≠ sysModules → s₁.heap.Ns b m → (hidT s₁.heap H).Ns b m := by
    rintro b m n2 ⟨o, es, ep, e, d, r⟩
    refine ⟨o, es, ep, put e (free (fun z => ?_) n2), d, r⟩
    subst z
    rw [ha] at e
    cases e
    have d' : Data.seq vs.toArray _ = Data.dict es ep := d
    cases d'
  have kb : K.In (hidT s₁.heap H) := fun b o e => put (KX b o e) (by
    cases q : H b with
    | none => rfl
    | some u =>
      have nn : H b ≠ none := by rw [q]; exact fun z => nomatch z
      rw [hK b nn] at e
      cases e)
  have md : Mod K mg (hidT s₁.heap H) := ⟨kb, nsk (by decide) hns, ⟨mb, nsk (by decide) hbn, hbb⟩, let ⟨mc, h1, h2⟩ := hlim; ⟨mc, nsk (by decide) h1, h2⟩⟩
  have e0 : Env0 P w K mg (hidT s₁.heap H) callerA [] s₁ H :=
    { frames := rfl, mod := md, bs := fun b o e => of_hidT e, bsz := Nat.le_of_eq (hidT_size _ _), funs := trivial, frf := fun b z => absurd (show b ∈ ([] : List Addr) from z) (by simp), hok := hok, bare := .of_eq hg }
  refine codeAny_mono (runsS F S (hb _ kb (nsk (by decide) hns)) bind hr e0 hy hS hl) fun r s' h => ?_
  cases r with
  | error e => exact False.elim h
  | ok fl =>
    cases fl with
    | next => exact False.elim h
    | brk => exact False.elim h
    | cont => exact False.elim h
    | ret u =>
      obtain ⟨v, H', hos, bare, un, hok', r', q⟩ := h
      have q' : v = .bl true := q
      subst q'
      obtain rfl : u = Value.bool true := r'
      refine ⟨rfl, OldK.of_keep fun b o e => ?_, hos, bare⟩
      rcases hO b with z | ⟨ob, u, z⟩
      · exact un.keep b o e z (fun y => absurd (show b ∈ ([] : List Addr) from y) (by simp)) (by simp)
      · obtain ⟨e1, _⟩ := hok b _ z
        obtain ⟨e2, _⟩ := hok' b _ (un.frzs b ob _ z)
        rw [e] at e1
        cases e1
        exact e2
theorem walkS {l : PySem.W.OpenLaw} {k : Nat} {q : Program} {loose : List Str} {XP : (Str → Option Value) → Heap → Prop} {YP : World → Heap → Prop} {d : DefRec} {K : Params → PySem.W.Frag} {N : List Str} {x : Str} {st : Stmt}
    (hn : l.most = some 63) (hdf : d.params.defaults = []) (hr : Room (k + 1) callerA) (S : FnScope N [x] (defScope st)) (hq : importsNone q = true)
    (hY : ∀ (w : World) (h : Heap), YP w h → (K w.params).In h)
    (F : ∀ (w : World) (mg : Str → Option Value) (fa : Addr) (h : Heap), (K w.params).In h → h.Ns mainGlobals mg → mg d.name = some (.ref fa) →
      ∃ fd : FuncData, (K w.params).lookup sysModules = none ∧ Fun (K w.params) "law" "law" st fa fd ∧ (∀ (s : Shared) (u : Value), BindsTo s fd ⟨[u], []⟩ [(x, u)]) ∧
        ∀ base : Heap, (K w.params).In base → base.Ns mainGlobals mg → BodyS l.prog w (K w.params) mg base k N st fa) :
    PySem.W.WalkO q loose XP YP l.row.toRowW d [] (fun f vs => PySem.call f vs) := by
  refine Att.attach_call hn hdf fun w s₀ s₁ mg mb fa o pm cd doc a vs ns G Y ho hd hcd hmg hobj hints hlen hg => ?_
  have KX := hY w _ Y
  obtain ⟨fd, hk1, hF, hb, hbody⟩ := F w mg fa _ KX G.T.g hmg
  obtain ⟨mm, ⟨om, es, ep, hm1, hm2, _⟩, _⟩ := (G.T.seer hq).mods
  have na : a ≠ sysModules := fun z => by
    subst z
    rw [hobj] at hm1
    cases hm1
    have d' : Data.seq vs.toArray _ = Data.dict es ep := hm2
    cases d'
  have rv := vals_ints hints
  have hlv := hints.length
  have sz : ns.length ≤ sizeLine := Nat.le_trans hlen (by decide)
  have go := fun (H : Hp) => coreS (H := H) KX G.T.g G.T.b G.T.builtins G.T.nolimit hg hobj hlen hr hF S hbody hb
  cases hk : (K w.params).lookup a with
  | some oa =>
    have e := KX a oa hk
    rw [hobj] at e
    cases e
    refine go (fun b => if b = sysModules then some (.frz om (.own 0)) else none) (fun b => ?_) ⟨om, if_pos rfl⟩ (Or.inr ⟨_, vs.toArray, _, hk, rfl, rfl, rfl, ?_, by simpa using rv⟩) (fun b u z => ?_) (fun b z => ?_) fun b z => ?_
    · by_cases hs : b = sysModules
      · exact Or.inr ⟨_, _, if_pos hs⟩
      · exact Or.inl (if_neg hs)
    · rw [List.size_toArray, hlv]; exact sz
    · by_cases hs : b = sysModules
      · have z' := (if_pos hs).symm.trans z
        cases z'
        subst hs
        exact ⟨hm1, _, hm1⟩
      · have z' := (if_neg hs).symm.trans z
        cases z'
    · by_cases hs : b = sysModules
      · exact Or.inr hs
      · exact absurd (if_neg hs) z
    · by_cases hs : b = sysModules
      · rw [hs]; exact hk1
      · exact absurd (if_neg hs) z
  | none =>
    let ob : Obj := { cls := .type "list", data := .seq vs.toArray }
    have hA : ∀ b, (if b = a then some (HO.frz ob (.lst (ns.map V.int))) else if b = sysModules then some (.frz om (.own 0)) else none) ≠ none → b = a ∨ b = sysModules := fun b z => by
      by_cases hba : b = a
      · exact Or.inl hba
      · by_cases hs : b = sysModules
        · exact Or.inr hs
        · rw [if_neg hba, if_neg hs] at z
          exact absurd rfl z
    refine go (fun b => if b = a then some (.frz ob (.lst (ns.map V.int))) else if b = sysModules then some (.frz om (.own 0)) else none) (fun b => ?_) ⟨om, (if_neg na.symm).trans (if_pos rfl)⟩ (Or.inl (Or.inr ⟨ob, if_pos rfl⟩)) (fun b u z => ?_) hA (fun b z => ?_)
    · by_cases hba : b = a
      · exact Or.inr ⟨_, _, if_pos hba⟩
      · by_cases hs : b = sysModules
        · exact Or.inr ⟨_, _, (if_neg hba).trans (if_pos hs)⟩
        · exact Or.inl ((if_neg hba).trans (if_neg hs))
    · by_cases hba : b = a
      · have z' := (if_pos hba).symm.trans z
        cases z'
        subst hba
        exact ⟨hobj, by rw [List.length_map]; exact sz, vs, _, rv, hobj⟩
      · by_cases hs : b = sysModules
        · have z' := ((if_neg hba).trans (if_pos hs)).symm.trans z
          cases z'
          subst hs
          exact ⟨hm1, _, hm1⟩
        · have z' := ((if_neg hba).trans (if_neg hs)).symm.trans z
          cases z'
    · rcases hA b z with e | e
      · rw [e]; exact hk
      · rw [e]; exact hk1
end FF
namespace FF
open PySem PySem.Spec PyProof.Rows L2 Evl
open HT (slicePart_)
/-! ### t[::-1] of a tuple -/
section
variable {P : Program} {w : World} {A : Around} {E : Value → Shared → Prop} {s : Shared}
theorem pickRev (xs : Array Value) : ((List.range xs.size).filterMap fun (k : Nat) => xs[(((xs.size : Int) - 1) + (k : Int) * (-1)).toNat]?).toArray = xs.toList.reverse.toArray := by
  have e : (fun (k : Nat) => xs[(((xs.size : Int) - 1) + (k : Int) * (-1)).toNat]?) = (fun x => xs[x]?) ∘ fun k => xs.size - 1 - k := by
    funext k
    have : (((xs.size : Int) - 1) + (k : Int) * (-1)).toNat = xs.size - 1 - k := by omega
    show xs[_]? = xs[_]?
    rw [this]
  rw [e, ← List.filterMap_map, PySem.W.krv_range, List.filterMap_reverse, PySem.W.krv_all]
theorem getRevT {t sl : Addr} {xs : Array Value} {vs : Value} {Q : Value → Shared → Prop} (ht : IsTup s.heap t xs) (hs : s.heap.IsSliceOf sl .none .none vs) (pl : IsPart vs (some (-1)))
    (h : Q (.ref s.heap.objs.size) { s with heap := s.heap.push { cls := .type "tuple", data := .seq xs.toList.reverse.toArray } }) (hsz : xs.size ≤ sizeLine) : wpAny (model P w) A (getItem (.ref t) (.ref sl)) Q E s := by
  have fit : sizeOk (.seq xs.toList.reverse.toArray) := by
    show xs.toList.reverse.toArray.size ≤ sizeLine
    rw [List.size_toArray, List.length_reverse, Array.length_toList]
    exact hsz
  obtain ⟨ob, go, hcs, dd⟩ := id hs
  have isS : s.TypeIs (.ref sl) "slice" := ⟨ob, go, hcs⟩
  unfold getItem
  try with_reducible refine wpAny_holding (?_ : _)
  first | refine wpAny_bind (wpAny_pure (?_ : _)) | skip
  refine wpAny_bind (wpAny_sequenceKey ht.typeIs (by decide) (?_ : _))
  refine wpAny_bind (wpAny_callSpecial?_slot (name := Str.ofString "__getitem__") ht.typeIs PyProof.Rows.slot_tuple_getitem
    (wpAny_call_entry PyProof.Rows.slot_tuple_getitem ht.typeIs entry_tuple_getitem (?_ : _) (args_tuple_getitem _ _)))
  show wpAny _ _ (Builtin.Tuple.tupleItemsOf (.ref t) >>= _) _ _ s
  refine wpAny_bind (tupleItemsOf_ ht (?_ : _))
  refine wpAny_bind (wpAny_typeOf isS (?_ : _))
  rw [if_pos (show (Value.type "slice" == Value.type "slice") = true by decide)]
  refine wpAny_bind (?_ : wpAny _ _ (Builtin.Slice.sliceApplied _ _) _ _ _)
  unfold Builtin.Slice.sliceApplied Builtin.Slice.sliceFields
  refine wpAny_bind (wpAny_bind (wpAny_field go dd (x := .none) rfl (wpAny_bind (wpAny_field go dd (x := .none) rfl (wpAny_bind (wpAny_field go dd (x := vs) rfl (wpAny_pure (?_ : _))))))))
  refine wpAny_bind (slicePart_ pl (?_ : _))
  show wpAny _ _ (if ((-1 : Int) == 0) = true then _ else _) _ _ s
  rw [if_neg (show ¬ ((-1 : Int) == 0) = true by decide)]
  refine wpAny_bind (slicePart_none (wpAny_bind (slicePart_none (wpAny_bind (wpAny_pure (?_ : _))))))
  have ep : Builtin.Slice.slicePlaces ((xs.size : Int) - 1) (-1) (-1) = xs.size := by
    unfold Builtin.Slice.slicePlaces
    rw [if_neg (show ¬ (-1 : Int) > 0 by decide)]
    by_cases c : (xs.size : Int) - 1 > -1
    · rw [if_pos c, show (- -1 : Int) = 1 by decide, Int.ediv_one]
      omega
    · rw [if_neg c]
      omega
  show wpAny _ _ (pure ((xs.size : Int) - 1, (-1 : Int), Builtin.Slice.slicePlaces ((xs.size : Int) - 1) (-1) (-1))) _ _ s
  rw [ep]
  refine wpAny_pure (?_ : _)
  show wpAny _ _ (if (((xs.size : Int) - 1) == 0 && (-1 : Int) == 1 && xs.size == xs.size) = true then _ else _) _ _ s
  have no : ¬ ((((xs.size : Int) - 1) == 0 && (-1 : Int) == 1 && xs.size == xs.size) = true) := by
    rw [show ((-1 : Int) == 1) = false by decide, Bool.and_false, Bool.false_and]
    exact Bool.false_ne_true
  rw [if_neg no, pickRev]
  first
    | exact wpAny_bind (m := Builtin.Tuple.tupleExact _) (wpAny_newObj_type (wpAny_pure ⟨_, rfl, wpAny_pure h⟩) fit)
    | exact wpAny_bind (m := Builtin.Tuple.tupleExact _) (wpAny_newObj_type (wpAny_bind (wpAny_pure (wpAny_pure ⟨_, rfl, wpAny_pure h⟩))) fit)
    | exact wpAny_bind (wpAny_bind (m := Builtin.Tuple.tupleExact _) (wpAny_newObj_type (wpAny_pure (wpAny_pure ⟨_, rfl, wpAny_pure h⟩)) fit))
    | exact wpAny_bind (wpAny_bind (m := Builtin.Tuple.tupleExact _) (wpAny_newObj_type (wpAny_pure ⟨_, rfl, wpAny_pure h⟩) fit))
end
def tRevT (K : PySem.W.Frag) (te : TE) : TE := fun σ H Q => te σ H fun x H1 => ∃ a xs, x = .ref a ∧ SqT K H1 a xs ∧ ∀ p, H1 p = none → Q (.ref p) (upd H1 p (.tup xs.reverse))
theorem pe_revT {X : Cx} {e : Expr} {te : TE} {k : Nat} {p1 p2 p3 pos : Pos} (he : PE X e te) : PE X (.Subscript e (.Slice none none (some (.UnaryOp .USub (.Constant (.int 1) k p1) p2)) p3) pos) (tRevT X.K te) := by
  refine ⟨fun pins s σ H Q I h => Subscript_ (thn (he.run pins s σ H _ I h) fun v s1 ⟨x, H1, I1, r1, q1⟩ => ?_)⟩
  obtain ⟨a, xs, ex, hx, q⟩ := q1
  subst ex
  cases r1
  have st : PO X (some (.UnaryOp .USub (.Constant (.int 1) k p1) p2)) (tPart (tUn (rU fun i => .int (-i)) (tC (.int 1)))) := po_some (pe_un un_neg pe_int)
  refine wpAny_Slice (thn (po_none.run pins s1 σ H1 (fun o J => o = none ∧ J = H1) I1 ⟨rfl, rfl⟩) fun vl s2 ⟨l, J2, I2, pl, el, e2⟩ => ?_)
  subst el e2
  refine thn (po_none.run pins s2 σ J2 (fun o J => o = none ∧ J = J2) I2 ⟨rfl, rfl⟩) fun vu s3 ⟨u, J3, I3, pu, eu, e3⟩ => ?_
  subst eu e3
  refine thn (st.run pins s3 σ J3 (fun o J => o = some (-1) ∧ J = J3) I3 ⟨1, rfl, -1, rfl, rfl, rfl⟩) fun vs s4 ⟨o, J4, I4, ps, eo, e4⟩ => ?_
  subst eo e4
  have I5 : Inv X pins σ J4 { s4 with heap := s4.heap.push { cls := .type "slice", data := .fields #[vl, vu, vs] } } := I4.kept (t' := s4.toks) fun b ob z => Heap.get?_push_of_some _ z
  obtain ⟨its, r, ht, hz⟩ := I5.tuple hx
  have hlen := r.length
  cases pl
  cases pu
  show wpAny (model X.prog X.w) X.A (subscriptTail e (.Slice none none (some (.UnaryOp .USub (.Constant (.int 1) k p1) p2)) p3) (.ref a) (.ref s4.heap.objs.size)) (EP X pins σ Q) X.xe { s4 with heap := s4.heap.push { cls := .type "slice", data := .fields #[.none, .none, vs] } }
  refine tail_any (ops := [.ref a, .ref s4.heap.objs.size]) ht.typeIs (PyProof.Rows.slot_tuple_getitem.lookup) (?_ : _) (by with_unfolding_all rfl)
  refine getRevT ht (Heap.IsSliceOf.new _ .none .none vs) ps (?_ : _) (by rw [List.size_toArray]; omega)
  refine ⟨.ref _, _, I5.laid (t' := s4.toks) (o := .tup xs.reverse) (fun b ob z => Heap.get?_push_of_some _ z) (Nat.le_refl _) (?_ : _), rfl, q _ (I5.hok.fresh (Nat.le_refl _))⟩
  exact ⟨by rw [List.length_reverse]; exact hz, its.reverse, r.reverse, ⟨_, Heap.get?_push_size _ rfl, rfl, _, rfl⟩⟩
end FF
set_option maxHeartbeats 4000000
namespace FF
open PySem PySem.Spec PyProof.Rows L2 Evl PySem.W
/-! ### sorted of tuples of whole numbers of any lengths, the first one empty -/
/-- v is a tuple that holds these numbers -/
def IsTI (h : Heap) (v : Value) (ns : List Int) : Prop := ∃ (a : Addr) (dd : Option Addr) (items : Array Value) (n : Nat) (sl : Array (Option Value)), v = .ref a ∧ h.get? a = some { cls := .type "tuple", dict := dd, data := .seq items n, slots := sl } ∧ IntsAre items.toList ns
theorem IsTI.keeps {h h' : Heap} {v : Value} {ns : List Int} (x : IsTI h v ns) (k : ∀ b o, v = .ref b → h.get? b = some o → h'.get? b = some o) : IsTI h' v ns := by
  obtain ⟨a, dd, items, n, sl, e, g, i⟩ := x
  exact ⟨a, dd, items, n, sl, e, k _ _ e g, i⟩
section
variable {prog : Program} {w : World} {A : Around} {E : Value → Shared → Prop} {s : Shared}
theorem callTI {a b : Addr} {dd dd2 : Option Addr} {items items2 : Array Value} {n n2 : Nat} {sl sl2 : Array (Option Value)} {ns ms : List Int} {Q : Value → Shared → Prop} (ga : s.heap.get? a = some { cls := .type "tuple", dict := dd, data := .seq items n, slots := sl }) (gb : s.heap.get? b = some { cls := .type "tuple", dict := dd2, data := .seq items2 n2, slots := sl2 })
    (ia : IntsAre items.toList ns) (ib : IntsAre items2.toList ms) (iu : ∀ M : Model, Looks M s.heap (isInstance (.ref b) (.type "tuple")) true) (h : Q (.bool (HT.lexLt ns ms)) s) : wpAny (model prog w) A (call (.builtin "tuple.__lt__") [.ref a, .ref b]) Q E s := by
  have ta : s.TypeIs (.ref a) "tuple" := ⟨_, ga, rfl⟩
  have q0 := NtL.nt_lt_ints a b (.type "tuple") (.type "tuple") items items2 n n2 dd dd2 sl sl2 ns ms ia ib prog w A (wants Q E) s ⟨ga, gb, iu, h⟩
  refine wpAny_call (codeAny_call_builtin PySem.F.slot_tuple_lt.plain PySem.F.entry_tuple_lt (PySem.F.slot_tuple_lt.check _ _ _ _ _ _ _ _ ta (PySem.F.args_tuple_lt_2 _ _) (wpAny_mono q0 (fun fin s' q => ?_) fun _ _ z => z)))
  cases fin with
  | done f => exact q
  | again c => exact q
theorem ltTI {v u : Value} {ns ms : List Int} {Q : Bool → Shared → Prop} (hu : A.units < cLine) (hv : IsTI s.heap v ns) (hw : IsTI s.heap u ms) (h : Q (HT.lexLt ns ms) s) : wpAny (model prog w) A (keyLt' oneType' v u) Q E s := by
  obtain ⟨a, dd, items, n, sl, rfl, ga, ia⟩ := hv
  obtain ⟨b, dd2, items2, n2, sl2, rfl, gb, ib⟩ := hw
  have ta : s.TypeIs (.ref a) "tuple" := ⟨_, ga, rfl⟩
  have tb : ∀ M : Model, Looks M s.heap (typeOf (.ref b)) (.type "tuple") := fun M => (Looks.ld gb).andThen .now
  have iu : ∀ M : Model, Looks M s.heap (isInstance (.ref b) (.type "tuple")) true := fun M => (tb M).andThen (by rw [show isSubtype (.type "tuple") (.type "tuple") = pure true by rw [isSubtype_type]; kernel_rfl]; exact .now)
  rw [keyLt'_oneType, oneLt'_eq]
  simp only [if_true]
  refine wpAny_bind (wpAny_cRoomFor hu (?_ : _))
  refine wpAny_bind (wpAny_callSpecialIfBound?_slot ta PySem.F.slot_tuple_lt (?_ : _))
  exact callTI ga gb ia ib iu (wpAny_truthy_bool h)
theorem tiCmp {vs : List Value} {k : Value → List Int} (hu : A.units < cLine) (hv : ∀ v ∈ vs, IsTI s.heap v (k v)) : SrtO.Cmp prog w A s oneType' (fun p => p.1 ∈ vs) (SrtO.lt2 fun v u => HT.lexLt (k v) (k u)) := fun p q hp hq =>
  ltTI (Q := fun r s' => s' = s ∧ r = HT.lexLt (k p.1) (k q.1)) (E := fun _ _ => False) hu (hv p.1 hp) (hv q.1 hq) ⟨rfl, rfl⟩
/-- the firsts of some tuples -/
theorem firstsTI {M : Model} : ∀ (vs : List Value) {Q : List (Option Value) → Shared → Prop}, (∀ v ∈ vs, ∃ ns, IsTI s.heap v ns) → (∀ fs : List (Option Value), fs.length = vs.length → (∀ v, vs.head? = some v → IsTI s.heap v [] → fs.head? = some none) → Q fs s) → wpAny M A (vs.mapM firstOfTuple') Q E s
  | [], Q, _, h => by
    rw [List.mapM_nil]
    exact wpAny_pure (h [] rfl fun v e => nomatch e)
  | v :: vs, Q, hv, h => by
    obtain ⟨ns, a, dd, items, n, sl, rfl, ga, ia⟩ := hv v (List.mem_cons_self ..)
    rw [List.mapM_cons]
    refine wpAny_bind ?_
    rw [kas_first_eq]
    refine wpAny_bind (Looks.here (show Looks M s.heap (typeOf (.ref a)) (.type "tuple") from (Looks.ld ga).andThen .now) ?_)
    rw [if_neg (by first | decide | simp)]
    refine wpAny_bind (PyProof.Rows.listItems_at ga rfl (wpAny_pure ?_))
    refine wpAny_bind (firstsTI vs (Q := fun bs s' => wpAny M A (pure (items[0]? :: bs)) Q E s') (fun u hu => hv u (List.mem_cons_of_mem _ hu)) fun fs hl _ => wpAny_pure (h (items[0]? :: fs) (by rw [List.length_cons, List.length_cons, hl]) fun v' e' hi => ?_))
    cases e'
    obtain ⟨a', dd', items', n', sl', e, ga', ia'⟩ := hi
    cases e
    rw [ga] at ga'
    cases ga'
    have : items.toList = [] := by cases hz : items.toList with
      | nil => rfl
      | cons x xs => rw [hz] at ia'; cases ia'
    have e0 : items = #[] := by rw [← Array.toArray_toList (xs := items), this]
    subst e0
    rfl
theorem sortTI {a : Addr} {v0 : Value} {vs : List Value} {k : Value → List Int} (h2 : 1 ≤ vs.length) (hu : A.units < cLine) (h0 : k v0 = []) (hv : ∀ v ∈ v0 :: vs, IsTI s.heap v (k v)) (ha : ∀ v ∈ v0 :: vs, v ≠ .ref a) :
    SrtO.SortableO prog w A s a (v0 :: vs) fun v u => HT.lexLt (k v) (k u) := by
  intro h' keep
  have hv' : ∀ v ∈ v0 :: vs, IsTI h' v (k v) := fun v hm => (hv v hm).keeps fun b o e g => keep b o (fun z => ha v hm (by rw [e, z])) g
  refine ⟨oneType', fun Q E hq => ?_, tiCmp (s := { s with heap := h' }) hu hv'⟩
  rw [keyKind'_eq, List.mapM_toArray, map_eq_pure_bind]
  refine wpAny_bind (wpAny_bind (firstsTI (s := { s with heap := h' }) _ (fun v hm => ⟨_, hv' v hm⟩) fun fs hl hf => wpAny_pure ?_))
  have f0 := hf v0 rfl (by have := hv' v0 (List.mem_cons_self ..); rw [h0] at this; exact this)
  obtain ⟨gs, rfl⟩ : ∃ gs, fs = none :: gs := by
    cases fs with
    | nil => cases f0
    | cons x gs => cases f0; exact ⟨gs, rfl⟩
  rw [if_neg (by simp), if_neg (by simp)]
  rw [oneTypeOnly'_eq, List.mapM_toArray, map_eq_pure_bind]
  refine wpAny_bind (wpAny_bind (wpAny_bind (kas_mapM (r := Value.type "tuple") (v0 :: vs) (fun v hm Q' q' => ?_) (wpAny_pure (?_ : _)))))
  · obtain ⟨a', dd, items, n, sl, rfl, ga, _⟩ := hv' v hm
    exact Looks.here (show Looks (model prog w) h' (typeOf (.ref a')) (.type "tuple") from (Looks.ld ga).andThen .now) q'
  · have e0 : ((v0 :: vs).map fun _ => Value.type "tuple").toArray[0]? = some (.type "tuple") := by rw [List.getElem?_toArray]; rfl
    have eA : (((v0 :: vs).map fun _ => Value.type "tuple").toArray.all fun x => x == Value.type "tuple") = true := by
      rw [List.all_toArray, List.all_map, List.all_eq_true]
      exact fun _ _ => by rfl
    rw [e0]
    simp only [eA, if_true]
    exact wpAny_pure (wpAny_pure hq)
end
end FF
set_option maxHeartbeats 4000000
namespace FF
open PySem PySem.Spec PyProof.Rows L2 Evl
/-! ### a dict whose keys are tuples of whole numbers, whose values are True -/
def DcOk (P : Program) (w : World) (d : Addr) (L : List (Addr × List Int)) (h : Heap) : Prop := L.length ≤ sizeLine ∧ (d == sysModules) = false ∧
  ∃ o es ep, h.get? d = some o ∧ o.ExactDict ∧ o.data = .dict es ep ∧ es.toList = (L.map fun p => (p.2, p.1, Value.bool true)).map (entryOfKey (tupleKind (intKind P w))) ∧ (L.map (·.2)).Nodup
def DcO (P : Program) (w : World) (d : Addr) (L : List (Addr × List Int)) : HO := .ext (DcOk P w d L)
theorem dcO_new {P : Program} {w : World} {H : Hp} {h : Heap} {d : Addr} {L : List (Addr × List Int)} (x : DcOk P w d L h) : ObjOk P w H h d (DcO P w d L) := by
  obtain ⟨o, es, ep, ho, _⟩ := x.2.2
  refine ⟨x, ⟨o, ho⟩, fun h1 h2 y k => ?_⟩
  obtain ⟨y1, y2, o', es', ep', ho', r⟩ := y
  exact ⟨y1, y2, o', es', ep', k o' ho', r⟩
theorem xs_keys (L : List (Addr × List Int)) : ((L.map fun p => (p.2, p.1, Value.bool true)).map (·.1)) = L.map (·.2) := by rw [List.map_map]; rfl
theorem DcOk.full {P : Program} {w : World} {d : Addr} {L : List (Addr × List Int)} {h : Heap} (x : DcOk P w d L h) (hk : ∀ p ∈ L, IsT P w h p.2 p.1) : h.DictOfH (tupleKind (intKind P w)) d (L.map fun p => (p.2, p.1, Value.bool true)) := by
  obtain ⟨_, _, o, es, ep, h1, h2, h3, h4, h5⟩ := x
  refine ⟨o, es, ep, h1, h2, h3, h4, fun q hq => ?_, by rw [xs_keys]; exact h5⟩
  obtain ⟨p, hp, rfl⟩ := List.mem_map.mp hq
  exact hk p hp
theorem atKey_set (L : List (Addr × List Int)) (k : List Int) : (atKey (L.map fun p => (p.2, p.1, Value.bool true)) k).isSome = decide (k ∈ L.map (·.2)) := by
  unfold atKey
  rw [Option.isSome_map]
  by_cases c : k ∈ L.map (·.2)
  · rw [decide_eq_true c, List.find?_isSome]
    obtain ⟨p, hp, e⟩ := List.mem_map.mp c
    exact ⟨_, List.mem_map.mpr ⟨p, hp, rfl⟩, decide_eq_true e⟩
  · rw [decide_eq_false c]
    have n : ((L.map fun p => (p.2, p.1, Value.bool true)).find? fun x => decide (x.1 = k)) = none := List.find?_eq_none.mpr fun q hq => by
      obtain ⟨p, hp, rfl⟩ := List.mem_map.mp hq
      intro z
      exact c (List.mem_map.mpr ⟨p, hp, of_decide_eq_true z⟩)
    rw [n]
    rfl
/-- k in d -/
def rInDc (K : PySem.W.Frag) (P : Program) (w : World) (neg : Bool) : R2 := fun x y H Q => ∃ (b d : Addr) (k : List Int) (L : List (Addr × List Int)), x = .ref b ∧ y = .ref d ∧ SqT K H b (k.map V.int) ∧ H d = some (DcO P w d L) ∧ (∀ p ∈ L, SqT K H p.1 (p.2.map V.int)) ∧ Q (.bl (if neg then !decide (k ∈ L.map (·.2)) else decide (k ∈ L.map (·.2)))) H
section
variable {X : Cx}
theorem op_inDc (hu : X.A.units + 1 < cLine) : OpR X (compareOp .In) (rInDc X.K X.prog X.w false) := by
  intro pins s σ H x y v u Q I rx ry h
  obtain ⟨b, d, k, L, rfl, rfl, hb, hd, hk, q⟩ := h
  cases rx
  cases ry
  have dc : DcOk X.prog X.w d L s.heap := (I.hok d _ hd).1
  refine wpAny_in_heap (tupleKind_room_in1 hu) (Inv.isT I hb) dc.2.1 (dc.full fun p hp => Inv.isT I (hk p hp)) ?_
  rw [atKey_set]
  exact ⟨.bl _, H, I.tok _, rfl, q⟩
theorem op_notInDc (hu : X.A.units + 1 < cLine) : OpR X (compareOp .NotIn) (rInDc X.K X.prog X.w true) := by
  intro pins s σ H x y v u Q I rx ry h
  obtain ⟨b, d, k, L, rfl, rfl, hb, hd, hk, q⟩ := h
  cases rx
  cases ry
  have dc : DcOk X.prog X.w d L s.heap := (I.hok d _ hd).1
  refine wpAny_notIn_heap (tupleKind_room_in1 hu) (Inv.isT I hb) dc.2.1 (dc.full fun p hp => Inv.isT I (hk p hp)) ?_
  rw [atKey_set]
  exact ⟨.bl _, H, I.tok _, rfl, q⟩
/-- d[k] = True, k not yet there -/
theorem setDc {pins : List (Addr × Obj)} {σ : L2.St} {H : Hp} {s : Shared} {A : Around} {E : Value → Shared → Prop} {b d : Addr} {k : List Int} {L : List (Addr × List Int)} {Q : Unit → Shared → Prop} (hu : A.units + 1 < cLine) (I : Inv X pins σ H s) (hb : SqT X.K H b (k.map V.int)) (hd : H d = some (DcO X.prog X.w d L)) (hk : ∀ p ∈ L, SqT X.K H p.1 (p.2.map V.int))
    (hl : L.length < sizeLine) (hn : k ∉ L.map (·.2)) (h : ∀ s', Inv X pins σ (upd H d (DcO X.prog X.w d (L ++ [(b, k)]))) s' → Q () s') : wpAny (model X.prog X.w) A (setItem (.ref d) (.ref b) (.bool true)) Q E s := by
  have dc : DcOk X.prog X.w d L s.heap := (I.hok d _ hd).1
  refine wpAny_setItem_heap (hsz := by rw [List.length_map]; omega) (tupleKind_room_in1 hu) (Inv.isT I hb) (dc.full fun p hp => Inv.isT I (hk p hp)) fun h' dd hs => h _ ?_
  have no : atKey (L.map fun p => (p.2, p.1, Value.bool true)) k = none := by
    have := atKey_set L k
    rw [decide_eq_false hn] at this
    exact Option.isNone_iff_eq_none.mp (by cases z : atKey (L.map fun p => (p.2, p.1, Value.bool true)) k with
      | none => rfl
      | some _ => rw [z] at this; cases this)
  rw [storedH_new no] at dd
  obtain ⟨o, es, ep, h1, h2, h3, h4, _, h5⟩ := dd
  refine d_write I (by rw [hd]; exact True.intro) hs ⟨o, h1⟩ (dcO_new ⟨by rw [List.length_append]; simp; omega, dc.2.1, o, es, ep, h1, h2, h3, ?_, ?_⟩)
  · rw [h4]
    simp only [List.map_append, List.map_cons, List.map_nil]
  · simp only [List.map_append, List.map_cons, List.map_nil] at h5 ⊢
    rw [xs_keys] at h5
    exact h5
end
section
variable {prog : Program} {w : World} {A : Around} {E : Value → Shared → Prop} {s : Shared}
/-- a dict's keys, collected -/
theorem collectRaw {d : Addr} {o : Obj} {es : Array DictEntry} {ep : Nat} {Q : List Value → Shared → Prop} (hh : A.handled = none) (lo : (d == sysModules) = false) (hx : o.ExactDict) (hd : o.data = .dict es ep) (ho : s.heap.get? d = some o) (hn : es.size ≤ sizeLine)
    (hQ : ∀ (h' : Heap) (tk : Nat) (acc : Array Value), (∀ b u, s.heap.get? b = some u → h'.get? b = some u) → ItemsOf (fun i v => ∃ en : DictEntry, es[i]? = some en ∧ v = en.key) acc es.size → Q acc.toList { s with heap := h', toks := tk }) : wpAny (model prog w) A (collect (.ref d)) Q E s := by
  have nd : s.heap.objs.size ≠ d := Nat.ne_of_gt (Heap.lt_size ho)
  have g0 : (s.heap.push { cls := .type "list", data := .seq ([] : List Value).toArray }).get? s.heap.objs.size = some { cls := .type "list", data := .seq ([] : List Value).toArray } := Heap.get?_push_size _ rfl
  unfold collect
  refine wpAny_bind (wpAny_runValue (codeAny_builtin F.entry_proto_collect (?_ : _)))
  rw [Around.under_plainId F.plain_proto_collect _]
  show wpAny _ A.in1 (newList [] >>= fun l => again (.builtin "list.__iadd__" ⟨[l, .ref d], []⟩)) _ _ s
  refine wpAny_bind (wpAny_newObj_type (wpAny_pure ⟨plainId_quiet F.plain_list_iadd _, codeAny_builtin F.entry_list_iadd (?_ : _)⟩))
  rw [Around.under_plainId F.plain_list_iadd _]
  show wpAny _ A.in1 (Builtin.List.listExtendWith (.ref s.heap.objs.size) (.ref d) (.ref s.heap.objs.size)) _ _ { s with heap := s.heap.push { cls := .type "list", data := .seq ([] : List Value).toArray } }
  refine wpAny_mono (PySem.W.kdl_extend (R := wants (fun v s' => wpAny (model prog w) A (match v with | .ref a => (load a >>= fun o => match o.data with | .seq xs _ => pure xs.toList | _ => unsupported "internal:collect") | _ => unsupported "internal:collect") Q E s') E) (s := { s with heap := s.heap.push { cls := .type "list", data := .seq ([] : List Value).toArray } }) (kdl_raw lo hx hd) hh (Heap.get?_push_of_some _ ho) s.heap.objs.size nd nd _ 0 g0 (fun h' tk acc c hk hS hacc => ?_) hn) (fun fin s' q => ?_) fun e s' q => q
  · show wpAny _ A (load s.heap.objs.size >>= _) _ _ _
    refine wpAny_bind (wpAny_load (s := { s with heap := h', toks := tk }) hS (wpAny_pure ?_))
    exact hQ h' tk acc (fun b u e => hk b u (Nat.ne_of_lt (Heap.lt_size e)) (Heap.get?_push_of_some _ e)) hacc
  · cases fin with
    | done f => exact q
    | again c => exact q
end
theorem ti_inj {h : Heap} {v : Value} {ns ms : List Int} (x : IsTI h v ns) (y : IsTI h v ms) : ns = ms := by
  obtain ⟨a, dd, items, n, sl, rfl, g, i⟩ := x
  obtain ⟨b, dd', items', n', sl', e, g', j⟩ := y
  cases e
  rw [g] at g'
  cases g'
  have un : ∀ {vs : List Value} {ns ms : List Int}, IntsAre vs ns → IntsAre vs ms → ns = ms := fun {vs} => by
    induction vs with
    | nil => intro ns ms p q; cases p; cases q; rfl
    | cons v vs ih =>
      intro ns ms p q
      cases p with
      | cons a t p =>
        cases q with
        | cons a' t' q => rw [ih p q]
  exact un i j
def keyL (L : List (Addr × List Int)) : Value → List Int
  | .ref a => ((L.find? fun p => decide (p.1 = a)).map (·.2)).getD []
  | _ => []
theorem keyL_of {h : Heap} {L : List (Addr × List Int)} (hk : ∀ p ∈ L, IsTI h (.ref p.1) p.2) {p : Addr × List Int} (hp : p ∈ L) : keyL L (.ref p.1) = p.2 := by
  show ((L.find? fun q => decide (q.1 = p.1)).map (·.2)).getD [] = p.2
  cases c : L.find? fun q => decide (q.1 = p.1) with
  | none =>
    have := List.find?_eq_none.mp c p hp
    simp at this
  | some q =>
    have e : q.1 = p.1 := by
      have := List.find?_some c
      simpa using this
    have m := List.mem_of_find?_eq_some c
    have k := hk q m
    rw [e] at k
    exact ti_inj k (hk p hp)
def adrV : Value → Addr
  | .ref a => a
  | _ => 0
/-- sorted(d), the first key () -/
def rSortedDc (K : PySem.W.Frag) (P : Program) (w : World) : List V → Hp → VK → Prop := fun vs H Q => ∃ (d b0 : Addr) (L : List (Addr × List Int)), vs = [.ref d] ∧ H d = some (DcO P w d ((b0, []) :: L)) ∧ (∀ p ∈ (b0, []) :: L, SqT K H p.1 (p.2.map V.int)) ∧
  ∀ (L2 : List (Addr × List Int)) (p : Addr), L2.Perm ((b0, []) :: L) → L2.Pairwise (fun q r => HT.lexLt r.2 q.2 = false) → H p = none → Q (.ref p) (upd H p (.lst (L2.map fun q => V.ref q.1)))
theorem cr_sortedDc {X : Cx} (hc : X.calm = true) (hu : X.A.units + 64 < cLine) : CallR X (.builtin "sorted") (rSortedDc X.K X.prog X.w) := by
  intro pins s σ H vs us Q I r h
  obtain ⟨d, b0, L0, rfl, hd, hk, q⟩ := h
  generalize hL : (b0, ([] : List Int)) :: L0 = L at hd hk q
  rw [Vals.ref1 r]
  obtain ⟨hz, lo, o, es, ep, ho, hx, hdt, he, hnd⟩ : DcOk X.prog X.w d L s.heap := (I.hok d _ hd).1
  have kt : ∀ p ∈ L, IsTI s.heap (.ref p.1) p.2 := fun p hp => by
    obtain ⟨its, rv, ⟨o', ho', hc', n, hd'⟩, _⟩ := I.tuple (hk p hp)
    obtain ⟨oc, od, oda, osl⟩ := o'
    cases hc'
    cases hd'
    exact ⟨p.1, od, its.toArray, n, osl, rfl, ho', by simpa using rv.ints⟩
  have sz : es.size = L.length := by
    have := size_of_entries he
    rw [List.length_map] at this
    exact this
  refine Calls.call_function_entry kind_sorted plain_sorted entry_sorted (args_sorted1 _) ?_
  unfold Builtin.«sorted»
  refine wpAny_bind (m := checkCount "sorted" 1 1 _) (wpAny_pure ?_)
  refine wpAny_bind (collectRaw (I.ok.hd hc) lo hx hdt ho (by omega) fun h' tk acc keep it => ?_)
  have ea : acc.toList = L.map fun p => Value.ref p.1 := by
    have hl : acc.toList.length = L.length := by rw [Array.length_toList, it.1]; exact sz
    apply List.ext_getElem?
    intro j
    rw [List.getElem?_map]
    cases hj : acc.toList[j]? with
    | none =>
      have := List.getElem?_eq_none_iff.mp hj
      rw [List.getElem?_eq_none (by omega)]
      rfl
    | some v =>
      obtain ⟨en, hen, hv⟩ := it.2 j v (by rw [← Array.getElem?_toList]; exact hj)
      have qe := entry_at he j
      rw [hen, List.getElem?_map] at qe
      cases hb : L[j]? with
      | none => rw [hb] at qe; cases qe
      | some p =>
        rw [hb] at qe
        have e2 := Option.some.inj qe
        rw [hv, e2]
        rfl
  rw [ea]
  have hz2 : (L.map fun p => Value.ref p.1).length ≤ sizeLine := by rw [List.length_map]; exact hz
  refine wpAny_bind (wpAny_newList ?_ hz2)
  have hoL : (h'.push (seqObj "list" (L.map fun p => Value.ref p.1).toArray 0)).get? h'.objs.size = some (seqObj "list" (L.map fun p => Value.ref p.1).toArray 0) := Heap.get?_push_size _ rfl
  have ktL : ∀ v ∈ L.map (fun p => Value.ref p.1), IsTI (h'.push (seqObj "list" (L.map fun p => Value.ref p.1).toArray 0)) v (keyL L v) := fun v hv => by
    obtain ⟨p, hp, rfl⟩ := List.mem_map.mp hv
    rw [keyL_of kt hp]
    exact (kt p hp).keeps fun b o' _ e => Heap.get?_push_of_some _ (keep b o' e)
  have nD : ∀ p ∈ L, p.1 < h'.objs.size := fun p hp => by
    obtain ⟨a, dd, items, n, sl, e, g, _⟩ := kt p hp
    cases e
    exact Heap.lt_size (keep _ _ g)
  refine wpAny_bind (wpAny_holding (wpAny_call_entry (s := { s with heap := h'.push (seqObj "list" (L.map fun p => Value.ref p.1).toArray 0), toks := tk }) slot_list_sort ⟨_, hoL, rfl⟩ entry_list_sort (list_sort_ord' (k := keyL L) hoL hz2 (fun h2 => ?_) fun out hs hb => ⟨_, rfl, ?_⟩) (args_list_sort _)))
  · subst hL
    rw [List.map_cons] at ktL ⊢
    exact sortTI (by rw [List.map_cons, List.length_cons] at h2; omega) (by show X.A.units + 1 + 1 < cLine; omega) (by have := keyL_of kt (List.mem_cons_self ..); exact this) ktL fun v hv e => by
      rw [← List.map_cons (f := fun p : Addr × List Int => Value.ref p.1) (a := (b0, []))] at hv
      obtain ⟨p, hp, rfl⟩ := List.mem_map.mp hv
      have lt := nD p hp
      have e2 : p.1 = h'.objs.size := Value.ref.inj e
      exact absurd e2 (Nat.ne_of_lt lt)
  · refine wpAny_pure ⟨_, rfl, ?_⟩
    have I2 : Inv X pins σ H { s with heap := h', toks := tk } := I.kept (t' := tk) keep
    obtain ⟨n, hat⟩ := sortedHeap_at (out := out.toArray) hoL
    have keepF : ∀ b u, h'.get? b = some u → (sortedHeap (h'.push (seqObj "list" (L.map fun p => Value.ref p.1).toArray 0)) h'.objs.size (L.map fun p => Value.ref p.1) out.toArray).get? b = some u := fun b u e => by
      have lt := Heap.lt_size e
      rw [sortedHeap_old (Nat.ne_of_lt lt) (by rw [size_push']; exact Nat.lt_succ_of_lt lt)]
      exact Heap.get?_push_of_some _ e
    have gL : (L.map fun p => Value.ref p.1).map (fun v => (adrV v, keyL L v)) = L := by
      rw [List.map_map]
      refine (List.map_congr_left fun p hp => ?_).trans (List.map_id L)
      show (p.1, keyL L (.ref p.1)) = p
      rw [keyL_of kt hp]
    have pm : (out.map fun v => (adrV v, keyL L v)).Perm L := by
      have := hb.perm.map fun v => (adrV v, keyL L v)
      rw [gL] at this
      exact this
    have h3 : ∀ u ∈ out, ∃ a, u = Value.ref a := fun u hu => by
      obtain ⟨p, _, e⟩ := List.mem_map.mp (hb.perm.mem_iff.mp hu)
      exact ⟨_, e.symm⟩
    have eb : (out.map fun v => (adrV v, keyL L v)).map (fun q => V.ref q.1) = out.map backV := by
      rw [List.map_map]
      refine List.map_congr_left fun u hu => ?_
      obtain ⟨a, rfl⟩ := h3 u hu
      rfl
    refine ⟨.ref _, upd H h'.objs.size (.lst ((out.map fun v => (adrV v, keyL L v)).map fun q => V.ref q.1)), I2.laid (t' := tk) keepF (Nat.le_refl _) ⟨?_, out, n, ?_, hat⟩, rfl, q _ _ pm ?_ (I2.hok.fresh (Nat.le_refl _))⟩
    · rw [List.length_map, pm.length_eq]; exact hz
    · rw [eb]; exact vals_back h3
    · rw [List.pairwise_map]; exact hs
where list_sort_ord' {prog : Program} {w : World} {A : Around} {E : Value → Shared → Prop} {s : Shared} {a : Addr} {vs : List Value} {n : Nat} {k : Value → List Int} {R : PySem.Fin → Shared → Prop} (ho : s.heap.get? a = some (seqObj "list" vs.toArray n)) (hz : vs.length ≤ sizeLine)
    (hS : 2 ≤ vs.length → SrtO.SortableO prog w A s a vs (fun v u => HT.lexLt (k v) (k u))) (h : ∀ out : List Value, SrtO.Srtd (fun v u => HT.lexLt (k v) (k u)) out → SrtO.Stb (fun v u => HT.lexLt (k v) (k u)) out vs → R (.done (.ret .none)) { s with heap := sortedHeap s.heap a vs out.toArray }) :
    wpAny (model prog w) A (Builtin.«list.sort» ⟨[.ref a], []⟩) R E s := SrtO.list_sort_ord (NtL.swo_lexL k) ho hz hS h
end FF
set_option maxHeartbeats 4000000
namespace FF
open PySem PySem.Spec PyProof.Rows L2 Evl
/-! ### {} and {(): True} as dicts with tuple keys -/
def tDNewDc (P : Program) (w : World) : TE := fun _ H Q => ∀ p, H p = none → Q (.ref p) (upd H p (DcO P w p []))
theorem pe_dnewDc {X : Cx} {pos : Pos} : PE X (.Dict [] [] pos) (tDNewDc X.prog X.w) := by
  refine ⟨fun pins s σ H Q I h => wpAny_Dict_empty ⟨.ref s.heap.objs.size, _, I.laid (a := s.heap.objs.size) (o := DcO X.prog X.w s.heap.objs.size []) (t' := s.toks) (fun _ _ q => Heap.get?_push_of_some _ q) (Nat.le_refl _) (dcO_new ?_), rfl, h _ (I.hok.fresh (Nat.le_refl _))⟩⟩
  exact ⟨Nat.zero_le _, beq_eq_false_iff_ne.mpr (Ne.symm (Nat.ne_of_lt I.big)), _, #[], 0, Heap.get?_push_size _ rfl, ⟨rfl, rfl, rfl⟩, rfl, rfl, List.nodup_nil⟩
def tDict0 (P : Program) (w : World) : TE := fun _ H Q => ∀ p b, H p = none → H b = none → p ≠ b → Q (.ref p) (upd (upd H b (.tup [])) p (DcO P w p [(b, [])]))
theorem pe_dict0 {X : Cx} {pos p1 p2 : Pos} {k1 k2 : Nat} (hu : X.A.units < cLine) : PE X (.Dict [some (.Tuple [] k1 p1)] [.Constant (.bool true) k2 p2] pos) (tDict0 X.prog X.w) := by
  refine ⟨fun pins s σ H Q I h => ?_⟩
  have sh : (evalEachOpt [some (.Tuple [] k1 p1)] X.env).zip ((evalEach [.Constant (.bool true) k2 p2] X.env).map fun v => do let x ← v; standAt pos; pure x) = [((eval (.Tuple [] k1 p1) X.env), (do let x ← eval (.Constant (.bool true) k2 p2) X.env; standAt pos; pure x : Sem Value))].map fun p => (some p.1, p.2) := by rfl
  rw [arm_eval_Dict, sh, dictDisplay_pairs _ (by simp) (by simp)]
  refine wpAny_bind (wpAny_standAt (wpAny_bind (wpAny_subDictH (knd := tupleKind (intKind X.prog X.w)) hu (by simp) ?_)))
  refine evalPairs_cons (wpAny_Tuple_spliced (wpAny_of_eq (a := []) (by rfl) ⟨Nat.zero_le _, ?_⟩))
  refine wpAny_bind (wpAny_of_eq (a := Value.bool true) (by rfl) (wpAny_bind (wpAny_standAt (wpAny_pure (evalPairs_nil ?_)))))
  have hD : (s.heap.push { cls := .type "dict", data := .dict #[] }).get? s.heap.objs.size = some { cls := .type "dict", data := .dict #[] } := Heap.get?_push_size _ rfl
  have hB : ((s.heap.push { cls := .type "dict", data := .dict #[] }).push { cls := .type "tuple", data := .seq ([] : List Value).toArray }).get? (s.heap.push { cls := .type "dict", data := .dict #[] }).objs.size = some { cls := .type "tuple", data := .seq ([] : List Value).toArray } := Heap.get?_push_size _ rfl
  have isK : (tupleKind (intKind X.prog X.w)).is ((s.heap.push { cls := .type "dict", data := .dict #[] }).push { cls := .type "tuple", data := .seq ([] : List Value).toArray }) [] (s.heap.push { cls := .type "dict", data := .dict #[] }).objs.size := ⟨_, #[], 0, hB, rfl, rfl, .nil⟩
  refine ⟨[([], _, Value.bool true)], ⟨rfl, rfl, isK, trivial⟩, ⟨_, #[], 0, Heap.get?_push_of_some _ hD, ⟨rfl, rfl, rfl⟩, rfl, rfl, fun x hx => (nomatch hx), List.nodup_nil⟩, fun h' tk dd sb => wpAny_pure ?_⟩
  have I1 := I.laid (a := s.heap.objs.size) (o := DcO X.prog X.w s.heap.objs.size []) (t' := s.toks) (fun _ _ q => Heap.get?_push_of_some { cls := .type "dict", data := .dict #[] } q) (Nat.le_refl _) (dcO_new ⟨Nat.zero_le _, beq_eq_false_iff_ne.mpr (Ne.symm (Nat.ne_of_lt I.big)), _, #[], 0, hD, ⟨rfl, rfl, rfl⟩, rfl, rfl, List.nodup_nil⟩)
  have I2 := I1.laid (a := (s.heap.push { cls := .type "dict", data := .dict #[] }).objs.size) (o := .tup []) (t' := s.toks) (fun _ _ q => Heap.get?_push_of_some { cls := .type "tuple", data := .seq ([] : List Value).toArray } q) (Nat.le_refl _) ⟨Nat.zero_le _, [], .nil, ⟨_, hB, rfl, _, rfl⟩⟩
  have ne : s.heap.objs.size ≠ (s.heap.push { cls := .type "dict", data := .dict #[] }).objs.size := Nat.ne_of_lt (Heap.lt_size hD)
  obtain ⟨o, es, ep, k1, k2, k3, k4, _, k5⟩ := dd
  have J := d_write (t' := tk) (ob := DcO X.prog X.w s.heap.objs.size [((s.heap.push { cls := .type "dict", data := .dict #[] }).objs.size, [])]) I2 (by rw [upd_ne ne, upd_same]; exact True.intro) sb ⟨o, k1⟩ (dcO_new ⟨by show 1 ≤ sizeLine; decide, beq_eq_false_iff_ne.mpr (Ne.symm (Nat.ne_of_lt I.big)), o, es, ep, k1, k2, k3, k4, k5⟩)
  have eq : ∀ x y z : HO, upd (upd (upd H s.heap.objs.size x) (s.heap.push { cls := .type "dict", data := .dict #[] }).objs.size y) s.heap.objs.size z = upd (upd H (s.heap.push { cls := .type "dict", data := .dict #[] }).objs.size y) s.heap.objs.size z := fun x y z => by
    funext c
    by_cases e1 : c = s.heap.objs.size
    · subst e1; rw [upd_same, upd_same]
    · rw [upd_ne e1, upd_ne e1]
      by_cases e2 : c = (s.heap.push { cls := .type "dict", data := .dict #[] }).objs.size
      · rw [e2, upd_same, upd_same]
      · rw [upd_ne e2, upd_ne e2, upd_ne e1]
  rw [eq] at J
  have fb := I.hok.fresh (a := (s.heap.push { cls := .type "dict", data := .dict #[] }).objs.size) (Nat.le_of_lt (Heap.lt_size hD))
  exact ⟨.ref s.heap.objs.size, _, J, rfl, h _ _ (I.hok.fresh (Nat.le_refl _)) fb ne⟩
end FF
set_option maxHeartbeats 4000000
namespace FF
open PySem PySem.Spec PyProof.Rows L2 Evl RT
/-! ### tuple(reversed(t)), t a tuple -/
theorem noLenRt : typeLookup (.type "reversed") "__len__" = pure none := (typeLookup_type ..).trans (by rw [builtinLookup_eq_fast]; kernel_rfl)
theorem slotHintRt : Slot "reversed" "__length_hint__" "reversed.__length_hint__" := Slot.of (n := "__length_hint__") (owner := "reversed") (by rw [typeLookup_type, builtinLookup_eq_fast]; kernel_rfl) (by decide +kernel) (by decide +kernel) (by decide +kernel) (by first | exact .inl (by decide +kernel) | exact .inr (by decide +kernel)) (by rw [isSubtype_type]; kernel_rfl)
theorem entryHintRt : entryFor table "reversed.__length_hint__" = some Builtin.«reversed.__length_hint__» := by exact entryFor_of_tree (by kernel_rfl)
theorem argsHintRt (a : Value) : argsOk "reversed.__length_hint__" ⟨[a], []⟩ := by unfold argsOk; rw [signature?_of (n := ['_', '_', 't', 'n', 'i', 'h', '_', 'h', 't', 'g', 'n', 'e', 'l', '_', '_']) (o := ['d', 'e', 's', 'r', 'e', 'v', 'e', 'r']) (id := "reversed.__length_hint__") (by kernel_rfl) owner_rt]; kernel_rfl
section
variable {prog : Program} {w : World} {A : Around} {E : Value → Shared → Prop} {s : Shared}
theorem hintRt {it t : Addr} {items : Array Value} {Q : Bool → Shared → Prop} (hit : IsRt s.heap it t ((items.size : Int) - 1)) (ht : IsTup s.heap t items) (hn : items.size ≤ sizeLine) (h : ∀ b tk, Q b { s with toks := tk }) :
    wpAny (model prog w) A (Builtin.List.listLengthHint (.ref it)) Q E s := by
  have hT := hit.typeIs
  unfold Builtin.List.listLengthHint
  refine wpAny_bind (wpAny_specialOf hT noLenRt (?_ : _))
  show wpAny _ A (specialOf (Value.ref it) (Str.ofString "__length_hint__") >>= _) _ _ _
  refine wpAny_bind (wpAny_specialOf hT slotHintRt.lookup (?_ : _))
  generalize hid : ("reversed.__length_hint__" : String) = id0
  wp_delta
  rw [show splitId id0 = some ("reversed", "__length_hint__") by subst hid; decide +kernel]
  subst hid
  refine wpAny_bind (wpAny_isInstance (b := true) hT (by rw [isSubtype_type]; kernel_rfl) (?_ : _))
  rw [if_neg (show ¬ (!true) = true by decide)]
  try dsimp only
  rw [if_neg (by decide +kernel)]
  refine wpAny_bind (wpAny_rule (?_ : _))
  refine wpAny_bind (wpAny_of_eq (slotHintRt.bind _) (?_ : _))
  try dsimp only
  obtain ⟨o, ho, hc, hd⟩ := id hit
  have h63 := line63
  refine wpAny_bind (wpAny_attempt (wpAny_call_entry slotHintRt hT entryHintRt (?_ : _) (argsHintRt _)))
  unfold Builtin.«reversed.__length_hint__»
  refine wpAny_bind (wpAny_of_eq (a := Value.ref it) rfl (?_ : _))
  refine wpAny_bind (wpAny_field ho hd (x := .ref t) rfl (?_ : _))
  rw [if_neg (show ¬ (Value.ref t == Value.none) = true from fun z => nomatch z)]
  refine wpAny_bind (len_tuple ht (by omega) (?_ : _))
  refine wpAny_bind (wpAny_of_eq (a := some ((items.size : Nat) : Int)) rfl (?_ : _))
  try dsimp only
  refine wpAny_bind (wpAny_field (s := { s with toks := s.toks + 1 + 1 }) ho hd (x := rawInt ((items.size : Int) - 1)) rfl (?_ : _))
  show wpAny _ _ (if ((items.size : Nat) : Int) < (items.size : Int) - 1 + 1 then _ else retInt ((items.size : Int) - 1 + 1)) _ _ _
  rw [if_neg (by omega)]
  unfold retInt
  refine wpAny_bind (wpAny_mkInt (wpAny_pure ⟨_, rfl, (?_ : _)⟩))
  try dsimp only
  refine wpAny_bind (wpAny_of_eq (a := some ((items.size : Int) - 1 + 1)) rfl (?_ : _))
  try dsimp only
  have e1 : (items.size : Int) - 1 + 1 = (items.size : Nat) := by omega
  rw [e1]
  have f1 : Builtin.List.listFitsIndex ((items.size : Nat) : Int) = true := by
    unfold Builtin.List.listFitsIndex
    rw [Bool.and_eq_true, decide_eq_true_eq, decide_eq_true_eq]
    omega
  have f2 : Builtin.List.listTooLong ((items.size : Nat) : Int).toNat = false := by
    unfold Builtin.List.listTooLong
    exact decide_eq_false (by omega)
  rw [f1, f2, if_neg (show ¬ (!true) = true by decide), if_neg (by omega), if_neg Bool.false_ne_true]
  exact wpAny_pure (h _ _)
/-- what is told one after another -/
theorem walksRt (hh : A.handled = none) (I l : Addr) (hne : l ≠ I) (items : Array Value) (hsz : items.size ≤ sizeLine) :
    Walks prog w A I [I, l] [I] items.size (fun i v => items[items.size - 1 - i]? = some v) (fun i h => i ≤ items.size ∧ IsRt h I l ((items.size : Int) - 1 - (i : Int)) ∧ IsTup h l items) where
  sub := fun b hb => List.mem_cons.mpr (.inl (List.mem_singleton.mp hb))
  frame := fun _ h h' x hk => by
    obtain ⟨x1, x2, ol, x3, x4⟩ := x
    exact ⟨x1, x2.at fun o e => hk I (by simp) o e, ol, hk l (by simp) _ x3, x4⟩
  item := fun i s Q E hi x hQ => by
    obtain ⟨x1, hit, ht⟩ := x
    have e : (items.size : Int) - 1 - (i : Int) = ((items.size - 1 - i : Nat) : Int) := by omega
    rw [e] at hit
    obtain ⟨v, hv⟩ : ∃ v, items[items.size - 1 - i]? = some v := ⟨_, Array.getElem?_eq_getElem (by omega)⟩
    refine next_rt_item hit ht hv hsz fun h' hit' sb => ?_
    have e2 : ((items.size - 1 - i : Nat) : Int) - 1 = (items.size : Int) - 1 - ((i + 1 : Nat) : Int) := by omega
    rw [e2] at hit'
    obtain ⟨ol, o1, o2⟩ := ht
    exact hQ v h' (s.toks + 1) hv ⟨hi, hit', ol, (sb.2 l hne).trans o1, o2⟩ fun b o hb eo => (sb.2 b fun z => hb (by simp [z])).trans eo
  done := fun s Q E x hQ => by
    obtain ⟨x1, hit, ht⟩ := x
    have e : (items.size : Int) - 1 - (items.size : Int) = -1 := by omega
    rw [e] at hit
    exact next_rt_end hh hit fun h' eb => hQ h' s.toks fun b o hb eo => eb b o (fun z => hb (by simp [z])) eo
  self := fun _ _ _ _ x hQ => iter_rt x.2.1 hQ
theorem collectRt {it l : Addr} {items : Array Value} {Q : List Value → Shared → Prop} (hh : A.handled = none) (hit : IsRt s.heap it l ((items.size : Int) - 1)) (ht : IsTup s.heap l items) (hne : l ≠ it) (hn : items.size ≤ sizeLine)
    (hQ : ∀ (h' : Heap) (tk : Nat) (acc : Array Value), (∀ b o, b ≠ it → s.heap.get? b = some o → h'.get? b = some o) → ItemsOf (fun i v => items[items.size - 1 - i]? = some v) acc items.size → Q acc.toList { s with heap := h', toks := tk }) : wpAny (model prog w) A (collect (.ref it)) Q E s := by
  have W := (walksRt (prog := prog) (w := w) (A := A.in1) hh it l hne items hn).toS
  obtain ⟨oi, hoi, _⟩ := id hit
  obtain ⟨ol, hol, hol2⟩ := id ht
  have n1 : s.heap.objs.size ≠ it := Nat.ne_of_gt (Heap.lt_size hoi)
  have n2 : s.heap.objs.size ≠ l := Nat.ne_of_gt (Heap.lt_size hol)
  have nf : s.heap.objs.size ∉ [it, l] := fun z => by
    rcases List.mem_cons.mp z with z | z
    · exact n1 z
    · exact n2 (List.mem_singleton.mp z)
  unfold collect
  refine wpAny_bind (wpAny_runValue (codeAny_builtin F.entry_proto_collect (?_ : _)))
  rw [Around.under_plainId F.plain_proto_collect _]
  show wpAny _ A.in1 (newList [] >>= fun l' => again (.builtin "list.__iadd__" ⟨[l', .ref it], []⟩)) _ _ s
  refine wpAny_bind (wpAny_newObj_type (wpAny_pure ⟨plainId_quiet F.plain_list_iadd _, codeAny_builtin F.entry_list_iadd (?_ : _)⟩))
  rw [Around.under_plainId F.plain_list_iadd _]
  have g0 : (s.heap.push (seqObj "list" #[] 0)).get? s.heap.objs.size = some (seqObj "list" #[] 0) := Heap.get?_push_size _ rfl
  have hit1 : IsRt (s.heap.push (seqObj "list" #[] 0)) it l ((items.size : Int) - 1) := hit.at fun o e => Heap.get?_push_of_some _ e
  have ht1 : IsTup (s.heap.push (seqObj "list" #[] 0)) l items := ⟨ol, Heap.get?_push_of_some _ hol, hol2⟩
  have hT : ({ s with heap := s.heap.push (seqObj "list" #[] 0) } : Shared).TypeIs (.ref it) "reversed" := IsRt.typeIs (s := { s with heap := s.heap.push (seqObj "list" #[] 0) }) hit1
  have no : Builtin.List.listSameRef (.ref s.heap.objs.size) (.ref it) = false := by simp [Builtin.List.listSameRef, n1]
  show wpAny _ A.in1 (Builtin.List.listExtendWith (.ref s.heap.objs.size) (.ref it) (.ref s.heap.objs.size)) _ _ { s with heap := s.heap.push (seqObj "list" #[] 0) }
  unfold Builtin.List.listExtendWith
  refine wpAny_bind (wpAny_typeOf hT (?_ : _))
  rw [if_neg (by rw [no]; decide)]
  refine wpAny_bind (iter_rt (s := { s with heap := s.heap.push (seqObj "list" #[] 0) }) hit1 (?_ : _))
  refine wpAny_bind (wpAny_holding (hintRt (s := { s with heap := s.heap.push (seqObj "list" #[] 0) }) hit1 ht1 hn fun b tk => (?_ : _)))
  have fin : ∀ (R : Except Value Flow → Shared → Prop) (h1 : Heap) (c : Nat), h1.get? s.heap.objs.size = some (seqObj "list" #[] c) → (∀ b o, s.heap.get? b = some o → h1.get? b = some o) →
      (∀ s', wpAny (model prog w) A (load s.heap.objs.size >>= fun o => match o.data with
        | .seq xs _ => pure xs.toList
        | _ => unsupported "internal:collect") Q E s' → R (.ok (.ret (.ref s.heap.objs.size))) s') →
      codeAny (model prog w) A (.builtin "list.extend.loop" ⟨[.ref s.heap.objs.size, .ref it, .ref s.heap.objs.size], []⟩) R { s with heap := h1, toks := tk } := fun R h1 c g k hR => by
    have e0 : ((items.size : Nat) : Int) - 1 - ((0 : Nat) : Int) = (items.size : Int) - 1 := by omega
    refine codeAny_extend_loopS W hn _ nf _ items.size 0 _ _ c (Nat.sub_zero _) (Nat.zero_le _) ⟨Nat.zero_le _, by rw [e0]; exact hit.at fun o e => k it o e, ol, k l ol hol, hol2⟩ g (ItemsOf.nil _) fun s' acc c' hm g' ha => hR s' (wpAny_bind (wpAny_load g' (wpAny_pure ?_)))
    rw [Moved.eq_with hm]
    refine hQ s'.heap s'.toks acc (fun b o hb e => hm.heap b o (fun z => ?_) (k b o e)) ha
    rcases List.mem_cons.mp z with z | z
    · exact absurd (Heap.lt_size e) (by rw [z]; exact Nat.lt_irrefl _)
    · exact hb (List.mem_singleton.mp z)
  cases b with
  | false =>
    rw [if_neg (by decide)]
    exact wpAny_pure ⟨plainId_quiet F.plain_extend_loop _, fin _ _ 0 g0 (fun b o e => Heap.get?_push_of_some _ e) fun s' h => h⟩
  | true =>
    rw [if_pos (by decide)]
    refine wpAny_bind (wpAny_rule (?_ : _))
    unfold Builtin.List.listTouch
    have g1 := get?_update_seq g0 (·.push Value.none)
    have g2 := get?_update_seq g1 (·.pop)
    refine wpAny_bind (wpAny_bind (listUpdate_at (s := { s with heap := s.heap.push (seqObj "list" #[] 0), toks := tk }) g0 rfl (listUpdate_at (s := { s with heap := (s.heap.push (seqObj "list" #[] 0)).update s.heap.objs.size (Obj.mapSeq (·.push Value.none)), toks := tk }) g1 rfl (?_ : _))))
    refine wpAny_pure ⟨plainId_quiet F.plain_extend_loop _, fin _ _ _ g2 (fun b o e => ?_) fun s' h => h⟩
    have hb : b ≠ s.heap.objs.size := Nat.ne_of_lt (Heap.lt_size e)
    rw [Heap.get?_update_ne _ _ _ _ hb, Heap.get?_update_ne _ _ _ _ hb]
    exact Heap.get?_push_of_some _ e
theorem tupleRt {it l : Addr} {items : Array Value} {Q : Value → Shared → Prop} (hh : A.handled = none) (hit : IsRt s.heap it l ((items.size : Int) - 1)) (ht : IsTup s.heap l items) (hne : l ≠ it) (hn : items.size ≤ sizeLine)
    (hQ : ∀ (h' : Heap) (tk : Nat) (acc : Array Value), (∀ b o, b ≠ it → s.heap.get? b = some o → h'.get? b = some o) → ItemsOf (fun i v => items[items.size - 1 - i]? = some v) acc items.size →
      Q (.ref h'.objs.size) { s with heap := h'.push { cls := .type "tuple", data := .seq acc }, toks := tk }) : wpAny (model prog w) A (call (.type "tuple") [.ref it]) Q E s := by
  have one : codeAny (model prog w) A.in1 (.call (.builtin "tuple.__new__") ⟨[.type "tuple", .ref it], []⟩) (wants (fun obj s₁ => s₁.TypeIs obj "tuple" ∧ Q obj s₁) E) s := by
    refine codeAny_of_tree (?_ : _)
    show wpAny _ A.in1.in1 (do checkBuiltinCall "tuple.__new__" ⟨[.type "tuple", .ref it], []⟩; again (.builtin "tuple.__new__" ⟨[.type "tuple", .ref it], []⟩)) _ _ s
    refine wpAny_bind (wpAny_of_eq (F.newCall_tuple_1 _) (wpAny_pure ⟨plainId_quiet F.plain_tuple_new _, codeAny_builtin F.entry_tuple_new (?_ : _)⟩))
    rw [Around.under_plainId F.plain_tuple_new _]
    have hsub := sub_tuple_self
    have hinit := init_tuple_lookup
    have hmh := madeHere_tuple
    have isR : s.TypeIs (.ref it) "reversed" := hit.typeIs
    have hh1 : A.in1.in1.handled = none := hh
    wp_walk using wpAny_typeOf isR, collectRt (A := A.in1.in1) hh1 hit ht hne hn
    intro h' tk acc hk hacc
    show wpAny _ _ (Builtin.Tuple.tupleExact acc.toList.toArray >>= fun v => ret v) _ _ _
    unfold Builtin.Tuple.tupleExact
    rw [Array.toArray_toList]
    refine wpAny_bind (wpAny_newObj_type (wpAny_pure (?_ : _)) (by show acc.size ≤ sizeLine; rw [hacc.1]; exact hn))
    exact ⟨⟨_, Heap.get?_push_size _ rfl, rfl⟩, hQ h' tk acc hk hacc⟩
  exact callType_codes (Q₁ := fun obj s₁ => s₁.TypeIs obj "tuple" ∧ Q obj s₁) F.called_tuple (F.typeCall_tuple_1 _) F.entry_object_init one fun obj s₁ h₁ => ⟨h₁.1, F.args_object_init_2 obj _, object_init_meets F.called_tuple.init.lookup F.called_tuple.made (by decide) prog w A.in1 _ s₁ ⟨h₁.1, rfl, h₁.2⟩⟩
end
/-- tuple(reversed(t)) of a tuple -/
def tTupRevT (K : PySem.W.Frag) (te : TE) : TE := fun σ H Q => te σ H fun v H1 => ∃ (a : Addr) (xs : List V), v = .ref a ∧ SqT K H1 a xs ∧ ∀ q, H1 q = none → Q (.ref q) (upd H1 q (.tup xs.reverse))
theorem pe_tupRevT {X : Cx} {e : Expr} {te : TE} {p p2 pos pos2 : Pos} (hg : Gl X "tuple") (hm : X.mg "tuple" = none) (hg2 : Gl X "reversed") (hm2 : X.mg "reversed" = none) (he : PE X e te) (hc : X.calm = true := by rfl)
    (hs : starEach [e] X.env = (false, eval e X.env) :: starEach [] X.env := by rfl)
    (hs2 : starEach [.Call (.Name "reversed" p2) [e] [] pos2] X.env = (false, eval (.Call (.Name "reversed" p2) [e] [] pos2) X.env) :: starEach [] X.env := by rfl) :
    PE X (.Call (.Name "tuple" p) [.Call (.Name "reversed" p2) [e] [] pos2] [] pos) (tTupRevT X.K te) := by
  refine ⟨fun pins s σ H Q I h => Call_ (ld_blt I hg hm boot_tuple (PyProof.Rows.callWith_type1 (PyProof.Rows.args_cons (Call_ (ld_blt I hg2 hm2 PyProof.Rows.boot_reversed (PyProof.Rows.callWith_type1 (PyProof.Rows.args_cons (thn (he.run pins s σ H _ I h) fun u s1 ⟨v, H1, I1, r1, q1⟩ => PyProof.Rows.args_nil ?_) hs) hs rfl))) hs2) hs2 rfl))⟩
  obtain ⟨a, xs, ev, hq, q⟩ := q1
  subst ev
  cases r1
  obtain ⟨its, rv, pt, hz⟩ := I1.tuple hq
  have hl := rv.length
  have hn63 := line63
  have hz' : its.toArray.size ≤ sizeLine := by rw [List.size_toArray, ← hl]; exact hz
  refine call_reversed_tup pt (fun A E Q k => len_tuple pt (by omega) k) (PyProof.Rows.args_nil ?_)
  have I2 : Inv X pins σ H1 { s1 with heap := s1.heap.push (rtObj a ((its.toArray.size : Int) - 1)), toks := s1.toks + 1 + 1 } := I1.kept (t' := s1.toks + 1 + 1) fun b o e => Heap.get?_push_of_some _ e
  obtain ⟨f0, f1, f2, f3, f4, f5⟩ := I1.fpOk (H' := H1) (b := s1.heap.objs.size) (Nat.le_refl _) (I1.hok.fresh (Nat.le_refl _))
  obtain ⟨ol, hol, hol2⟩ := id pt
  have hne : a ≠ s1.heap.objs.size := Nat.ne_of_lt (Heap.lt_size hol)
  refine tupleRt (s := { s1 with heap := s1.heap.push (rtObj a ((its.toArray.size : Int) - 1)), toks := s1.toks + 1 + 1 }) (I1.ok.hd hc) ⟨_, Heap.get?_push_size _ rfl, rfl, rfl⟩ ⟨ol, Heap.get?_push_of_some _ hol, hol2⟩ hne hz' fun h' tk acc hk hi => ?_
  have I3 : Inv X pins σ H1 { s1 with heap := h', toks := tk } := I2.turned (t' := tk) (fun b o hb e => hk b o hb e) f0 f1 f3 f4 f5
  refine ⟨.ref h'.objs.size, upd H1 h'.objs.size (.tup xs.reverse), I3.laid (t' := tk) (fun c o e => Heap.get?_push_of_some _ e) (Nat.le_refl _) (show ObjOk X.prog X.w _ _ _ (.tup xs.reverse) from ⟨by rw [List.length_reverse]; exact hz, acc.toList, vals_rev rv hi, ?_⟩), rfl, q _ (I3.hok.fresh (Nat.le_refl _))⟩
  rw [Array.toArray_toList]
  exact ⟨_, Heap.get?_push_size _ rfl, rfl, _, rfl⟩
end FF
namespace FF
open PySem PySem.Spec PyProof.Rows L2 Evl
/-! ### the deck: a list of the great cells' list, all cells' list, a count -/
structure Deck (D A B : Addr) (H : Hp) : Prop where
  it : ∃ (gs cs : List Int) (n : Int), H D = some (.lst [.ref A, .ref B, .int n]) ∧ H A = some (.lst (gs.map V.int)) ∧ H B = some (.lst (cs.map V.int)) ∧ cs ≠ [] ∧ gs.length ≤ 63
  da : D ≠ A
  db : D ≠ B
  ab : A ≠ B
/-- the heap without what a draw changes -/
def hid (D A : Addr) (H : Hp) : Hp := fun b => if b = D ∨ b = A then none else H b
theorem hid_of {D A b : Addr} {H : Hp} {o : HO} (h : H b = some o) (n1 : b ≠ D) (n2 : b ≠ A) : hid D A H b = some o := by
  unfold hid
  rw [if_neg (fun z => z.elim n1 n2)]
  exact h
theorem of_hid {D A b : Addr} {H : Hp} {o : HO} (h : hid D A H b = some o) : H b = some o ∧ b ≠ D ∧ b ≠ A := by
  unfold hid at h
  by_cases c : b = D ∨ b = A
  · rw [if_pos c] at h; cases h
  · rw [if_neg c] at h
    exact ⟨h, fun z => c (.inl z), fun z => c (.inr z)⟩
/-- all but the deck stands as it was -/
def Kp (D A : Addr) (H H' : Hp) : Prop := ∀ b o, H b = some o → b ≠ D → b ≠ A → H' b = some o
theorem Kp.refl {D A : Addr} {H : Hp} : Kp D A H H := fun _ _ h _ _ => h
theorem Kp.trans {D A : Addr} {H H1 H2 : Hp} (a : Kp D A H H1) (b : Kp D A H1 H2) : Kp D A H H2 := fun x o h n1 n2 => b x o (a x o h n1 n2) n1 n2
theorem Kp.of {D A : Addr} {H H1 : Hp} (a : Evl.Ex H H1) : Kp D A H H1 := fun x o h _ _ => a x o h
theorem Deck.ex {D A B : Addr} {H H1 : Hp} (d : Deck D A B H) (e : Evl.Ex H H1) : Deck D A B H1 := by
  obtain ⟨⟨gs, cs, n, h1, h2, h3, h4, h5⟩, a, b, c⟩ := d
  exact ⟨⟨gs, cs, n, e _ _ h1, e _ _ h2, e _ _ h3, h4, h5⟩, a, b, c⟩
theorem Deck.new {D A B p : Addr} {H : Hp} {o : HO} (d : Deck D A B H) (h : H p = none) : Deck D A B (upd H p o) := d.ex (Evl.Ex.new h)
theorem Deck.ne {D A B p : Addr} {H : Hp} (d : Deck D A B H) (h : H p = none) : p ≠ D ∧ p ≠ A ∧ p ≠ B := by
  obtain ⟨⟨gs, cs, n, h1, h2, h3, h4, h5⟩, a, b, c⟩ := d
  exact ⟨(ne_of_none h1 h).symm, (ne_of_none h2 h).symm, (ne_of_none h3 h).symm⟩
theorem Kp.new {D A p : Addr} {H : Hp} {o : HO} (h : H p = none) : Kp D A H (upd H p o) := Kp.of (Evl.Ex.new h)

theorem dpInts {K : PySem.W.Frag} {H : Hp} : ∀ ns : List Int, DpAll K H (ns.map V.int) (ns.map PyData.int)
  | [] => .nil
  | n :: r => .cons (.int n) (dpInts r)
theorem layInts : ∀ ns : List Int, PyData.canLayAll0 (ns.map PyData.int) = true
  | [] => rfl
  | n :: r => by
    rw [List.map_cons]
    simp only [PyData.canLayAll0, PyData.canLay0, layInts r, Bool.and_self]
theorem depInts : ∀ ns : List Int, PyData.depthAll (ns.map PyData.int) = 0
  | [] => rfl
  | n :: r => by
    rw [List.map_cons]
    simp only [PyData.depthAll, PyData.depth, depInts r, Nat.max_self]
theorem shapedInts (ns : List Int) : SeqAt.shaped (.list (ns.map PyData.int)) = true := by
  unfold SeqAt.shaped
  simp only [PyData.canLay0, layInts, PyData.depth, depInts]
  decide
theorem seqIx0 {n : Nat} (h : 0 < n) : seqIndex? 0 n = some 0 := by
  unfold seqIndex?
  simp [h]
theorem ixN0 {n : Nat} (h : 0 < n) : ixN n 0 = some 0 := Evl.ixN_nat h
/-! ### the mathematics of ways -/
/-- the row of numbers from a on, each time the one above; at most n of them -/
def wayI (ab : List Int) : Nat → Int → List Int
  | 0, _ => []
  | n + 1, a => if a < 0 then [] else a :: wayI ab n (ab.getD a.toNat (-1))
/-- a tree: each stands behind the one above it -/
def WF (ab : List Int) : Prop := ∀ (i : Nat) (x : Int), ab[i]? = some x → -1 ≤ x ∧ x < (i : Int)
theorem WF.at {ab : List Int} (h : WF ab) (a : Int) (h0 : 0 ≤ a) : -1 ≤ ab.getD a.toNat (-1) ∧ ab.getD a.toNat (-1) < a := by
  rw [List.getD_eq_getElem?_getD]
  cases e : ab[a.toNat]? with
  | none => exact ⟨by simp, by simp; omega⟩
  | some x =>
    have q := h _ _ e
    have e2 : (a.toNat : Int) = a := by omega
    rw [e2] at q
    exact q
theorem wayI_neg {ab : List Int} {n : Nat} {a : Int} (h : a < 0) : wayI ab n a = [] := by
  cases n with
  | zero => rfl
  | succ n => unfold wayI; rw [if_pos h]
theorem wayI_stable {ab : List Int} (h : WF ab) : ∀ (n m : Nat) (a : Int), a < n → a < m → wayI ab n a = wayI ab m a
  | 0, m, a, h1, _ => by rw [wayI_neg (by omega), wayI_neg (by omega)]
  | n + 1, 0, a, _, h2 => by rw [wayI_neg (by omega), wayI_neg (by omega)]
  | n + 1, m + 1, a, h1, h2 => by
    unfold wayI
    by_cases hn : a < 0
    · rw [if_pos hn, if_pos hn]
    · rw [if_neg hn, if_neg hn]
      have q := h.at a (by omega)
      rw [wayI_stable h n m _ (by omega) (by omega)]
/-- one more turn -/
theorem wayI_more {ab : List Int} : ∀ (n : Nat) (a : Int), 0 ≤ a → ∃ z, (wayI ab (n + 1) a).getLast? = some z ∧ 0 ≤ z ∧
    wayI ab (n + 2) a = if 0 ≤ ab.getD z.toNat (-1) then wayI ab (n + 1) a ++ [ab.getD z.toNat (-1)] else wayI ab (n + 1) a
  | 0, a, h => by
    have e1 : wayI ab 1 a = [a] := by unfold wayI; rw [if_neg (by omega)]; rfl
    refine ⟨a, by rw [e1]; rfl, h, ?_⟩
    rw [e1]
    show wayI ab (1 + 1) a = _
    unfold wayI
    rw [if_neg (by omega)]
    by_cases c : 0 ≤ ab.getD a.toNat (-1)
    · rw [if_pos c]
      show a :: wayI ab (0 + 1) _ = _
      unfold wayI
      rw [if_neg (by omega)]
      rfl
    · rw [if_neg c, wayI_neg (by omega)]
  | n + 1, a, h => by
    have e1 : ∀ m, wayI ab (m + 1) a = a :: wayI ab m (ab.getD a.toNat (-1)) := fun m => by
      rw [wayI, if_neg (by omega)]
    by_cases c : 0 ≤ ab.getD a.toNat (-1)
    · obtain ⟨z, h1, h2, h3⟩ := wayI_more n (ab.getD a.toNat (-1)) c
      refine ⟨z, ?_, h2, ?_⟩
      · rw [e1 (n + 1), List.getLast?_cons, h1]
        rfl
      · rw [e1 (n + 2), h3, e1 (n + 1)]
        by_cases d : 0 ≤ ab.getD z.toNat (-1)
        · rw [if_pos d, if_pos d, List.cons_append]
        · rw [if_neg d, if_neg d]
    · refine ⟨a, ?_, h, ?_⟩
      · rw [e1 (n + 1), wayI_neg (by omega)]
        rfl
      · rw [e1 (n + 2), e1 (n + 1), wayI_neg (by omega), wayI_neg (by omega), if_neg c]
theorem wayI_mem {ab : List Int} (h : WF ab) : ∀ (n : Nat) (a x : Int), x ∈ wayI ab n a → 0 ≤ x ∧ x ≤ a
  | 0, _, _, hx => by simp [wayI] at hx
  | n + 1, a, x, hx => by
    unfold wayI at hx
    by_cases c : a < 0
    · rw [if_pos c] at hx; cases hx
    · rw [if_neg c] at hx
      have q := h.at a (by omega)
      rcases List.mem_cons.mp hx with e | e
      · subst e; omega
      · have r := wayI_mem h n _ x e
        omega
theorem wayI_len {ab : List Int} : ∀ (n : Nat) (a : Int), (wayI ab n a).length ≤ n
  | 0, _ => Nat.le_refl _
  | n + 1, a => by
    unfold wayI
    split
    · exact Nat.zero_le _
    · have := wayI_len (ab := ab) n (ab.getD a.toNat (-1))
      rw [List.length_cons]
      omega
/-- the whole way -/
def way (ab : List Int) (a : Int) : List Int := wayI ab (ab.length + 1) a
theorem way_step {ab : List Int} (h : WF ab) {a : Int} (h0 : 0 ≤ a) (h1 : a < ab.length) : way ab a = a :: way ab (ab.getD a.toNat (-1)) := by
  have q := h.at a h0
  unfold way
  rw [wayI, if_neg (by omega), wayI_stable h ab.length (ab.length + 1) _ (by omega) (by omega)]
theorem way_neg {ab : List Int} {a : Int} (h : a < 0) : way ab a = [] := wayI_neg h

/-! ### pairs in a row of the heap -/
/-- a pair of whole numbers stands at v -/
def PairAt (K : PySem.W.Frag) (H : Hp) (v : V) (p : Int × Int) : Prop := ∃ a, v = .ref a ∧ SqT K H a [.int p.1, .int p.2]
def PsAt (K : PySem.W.Frag) (H : Hp) (vs : List V) (ps : List (Int × Int)) : Prop := vs.length = ps.length ∧ ∀ (i : Nat) (v : V) (p : Int × Int), vs[i]? = some v → ps[i]? = some p → PairAt K H v p
theorem PsAt.ex {K : PySem.W.Frag} {H H' : Hp} {vs : List V} {ps : List (Int × Int)} (h : PsAt K H vs ps) (e : Ex H H') : PsAt K H' vs ps :=
  ⟨h.1, fun i v p h1 h2 => let ⟨a, e1, e2⟩ := h.2 i v p h1 h2; ⟨a, e1, ex_t e e2⟩⟩
theorem PsAt.get {K : PySem.W.Frag} {H : Hp} {vs : List V} {ps : List (Int × Int)} (h : PsAt K H vs ps) {i : Nat} {p : Int × Int} (hp : ps[i]? = some p) : ∃ a, vs[i]? = some (.ref a) ∧ SqT K H a [.int p.1, .int p.2] := by
  have hi : i < vs.length := by rw [h.1]; exact (List.getElem?_eq_some_iff.mp hp).1
  obtain ⟨a, e1, e2⟩ := h.2 i vs[i] p (List.getElem?_eq_getElem hi) hp
  exact ⟨a, by rw [List.getElem?_eq_getElem hi, e1], e2⟩
theorem PsAt.nil {K : PySem.W.Frag} {H : Hp} : PsAt K H [] [] := ⟨rfl, fun i v p h _ => by simp at h⟩
theorem PsAt.snoc {K : PySem.W.Frag} {H : Hp} {vs : List V} {ps : List (Int × Int)} (h : PsAt K H vs ps) {a : Addr} {p : Int × Int} (ha : SqT K H a [.int p.1, .int p.2]) : PsAt K H (vs ++ [.ref a]) (ps ++ [p]) := by
  refine ⟨by rw [List.length_append, List.length_append, h.1]; rfl, fun i v q h1 h2 => ?_⟩
  by_cases hi : i < vs.length
  · rw [List.getElem?_append_left hi] at h1
    rw [List.getElem?_append_left (by rw [← h.1]; exact hi)] at h2
    exact h.2 i v q h1 h2
  · have hi2 : i = vs.length := by
      have := (List.getElem?_eq_some_iff.mp h1).1
      rw [List.length_append] at this
      simp at this
      omega
    subst hi2
    rw [List.getElem?_append_right (Nat.le_refl _), Nat.sub_self] at h1
    rw [h.1, List.getElem?_append_right (Nat.le_refl _), Nat.sub_self] at h2
    simp at h1 h2
    subst h1 h2
    exact ⟨a, rfl, ha⟩
/-- as data -/
theorem PsAt.data {K : PySem.W.Frag} {H : Hp} : ∀ {vs : List V} {ps : List (Int × Int)}, PsAt K H vs ps → DpAll K H vs (ps.map fun p => .tuple [.int p.1, .int p.2])
  | [], [], _ => .nil
  | [], _ :: _, h => by have := h.1; simp at this
  | _ :: _, [], h => by have := h.1; simp at this
  | v :: vs, p :: ps, h => by
    obtain ⟨a, e1, e2⟩ := h.2 0 v p rfl rfl
    subst e1
    refine .cons (.tup e2 (.cons (.int _) (.cons (.int _) .nil))) (PsAt.data ⟨?_, fun i w q h1 h2 => h.2 (i + 1) w q (by simpa using h1) (by simpa using h2)⟩)
    have := h.1
    simpa using this

def absI (i : Int) : Int := if i < 0 then -i else i
theorem none_ex {H H' : Hp} {p : Addr} (e : Ex H H') (n : H' p = none) : H p = none := by
  cases c : H p with
  | none => rfl
  | some o => rw [e _ _ c] at n; cases n
theorem cut63 (ns : List Int) (h : ns.length ≤ 63) : cutV (ns.map V.int) none (some 63) = ns.map V.int := by
  unfold cutV
  rw [show HT.sIx (ns.map V.int).length (ns.map V.int).length (some 63) = min 63 (ns.map V.int).length from HT.sIx_nat _ _ 63, HT.sIx_none, List.drop_zero, List.length_map, Nat.min_eq_right h, Nat.sub_zero]
  exact List.take_of_length_le (by rw [List.length_map]; exact Nat.le_refl _)
theorem walkEnT {K : PySem.W.Frag} {a : Addr} {xs : List V} : Walk (ItE K a) xs.length (fun H => SqT K H a xs) (YPair (fun i => some (.int (i : Nat))) (fun i => xs[i]?)) := by
  refine ⟨fun i _ hi q => ⟨xs, xs[i], q, List.getElem?_eq_getElem hi⟩, fun _ q => ⟨xs, q, Nat.le_refl _⟩, fun i H v H' _ q y => ?_⟩
  obtain ⟨T, x, h1, h2, h3, h4⟩ := y
  exact ⟨T, .int (i : Nat), x, h1, h2, h3, rfl, h4 xs q⟩
theorem inV_int (x : Int) : ∀ l : List Int, inV (.int x) (l.map V.int) = decide (x ∈ l)
  | [] => by simp [inV]
  | y :: l => by
    have ih := inV_int x l
    unfold inV at ih ⊢
    rw [List.map_cons, List.any_cons, ih]
    show ((y == x) || decide (x ∈ l)) = decide (x ∈ y :: l)
    by_cases c : y = x
    · subst c
      rw [beq_self_eq_true, Bool.true_or, decide_eq_true (List.mem_cons_self ..)]
    · rw [beq_eq_false_iff_ne.mpr c, Bool.false_or]
      by_cases d : x ∈ l
      · rw [decide_eq_true d, decide_eq_true (List.mem_cons_of_mem _ d)]
      · rw [decide_eq_false d, decide_eq_false fun z => (List.mem_cons.mp z).elim (fun q => c q.symm) d]
theorem flat_ints : ∀ l : List Int, (l.map V.int).all flatV = true
  | [] => rfl
  | _ :: l => by rw [List.map_cons, List.all_cons, flat_ints l]; rfl

/-! ### a row of pairs, as a list or a tuple -/
def RowAt (K : PySem.W.Frag) (H : Hp) (T : Addr) (ps : List (Int × Int)) : Prop := ∃ vs, (SqL K H T vs ∨ SqT K H T vs) ∧ PsAt K H vs ps
theorem RowAt.ex {K : PySem.W.Frag} {H H' : Hp} {T : Addr} {ps : List (Int × Int)} (h : RowAt K H T ps) (e : Ex H H') : RowAt K H' T ps := by
  obtain ⟨vs, h1, h2⟩ := h
  refine ⟨vs, ?_, h2.ex e⟩
  rcases h1 with h1 | h1
  · exact .inl (ex_l e h1)
  · exact .inr (ex_t e h1)
theorem WF.get {ps : List (Int × Int)} {i : Nat} {p : Int × Int} (h : WF (ps.map (·.1))) (hp : ps[i]? = some p) : -1 ≤ p.1 ∧ p.1 < (i : Int) := h i p.1 (by rw [List.getElem?_map, hp]; rfl)
theorem getD_fst {ps : List (Int × Int)} {i : Nat} {p : Int × Int} (hp : ps[i]? = some p) : (ps.map (·.1)).getD i (-1) = p.1 := by
  rw [List.getD_eq_getElem?_getD, List.getElem?_map, hp]
  rfl

/-! ### boards -/
def BoardAt (K : PySem.W.Frag) (H : Hp) (bd : Addr) (fs ls : List (Int × Int)) : Prop := ∃ F L vf vl, SqT K H bd [.ref F, .ref L] ∧ SqT K H F vf ∧ PsAt K H vf fs ∧ SqT K H L vl ∧ PsAt K H vl ls
theorem BoardAt.ex {K : PySem.W.Frag} {H H' : Hp} {bd : Addr} {fs ls : List (Int × Int)} (h : BoardAt K H bd fs ls) (e : Ex H H') : BoardAt K H' bd fs ls := by
  obtain ⟨F, L, vf, vl, h1, h2, h3, h4, h5⟩ := h
  exact ⟨F, L, vf, vl, ex_t e h1, ex_t e h2, h3.ex e, ex_t e h4, h5.ex e⟩
def RetU (xs : List V) (H : Hp) (Q : VK) : Prop := ∀ p H2, H p = none → Ex H H2 → H2 p = some (.tup xs) → Q (.ref p) H2
/-! ### the heap beside the deck -/
section
variable {D A B p : Addr} {H H1 H2 G : Hp} {o : HO}
theorem Kp.hid (k : Kp D A H H1) : Ex (hid D A H) (hid D A H1) := fun b o h => by
  obtain ⟨h1, n1, n2⟩ := of_hid h
  exact hid_of (k b o h1 n1 n2) n1 n2
theorem kp_of_hid (e : Ex (hid D A H) (hid D A H1)) : Kp D A H H1 := fun b o h n1 n2 => (of_hid (e b o (hid_of h n1 n2))).1
theorem ex_hid : Ex (hid D A H) H := fun _ _ h => (of_hid h).1
theorem hidEx (e : Ex H H1) : Ex (hid D A H) (hid D A H1) := (Kp.of e).hid
theorem Deck.hidNew (dk : Deck D A B H) (n : H p = none) : Ex (hid D A H) (hid D A (upd H p o)) ∧ hid D A (upd H p o) p = some o :=
  ⟨hidEx (Ex.new n), hid_of upd_same (dk.ne n).1 (dk.ne n).2.1⟩
theorem hid_none (n : H p = none) : hid D A H p = none := by
  unfold FF.hid
  split
  · rfl
  · exact n
theorem hid_upd (n1 : p ≠ D) (n2 : p ≠ A) : hid D A (upd H p o) = upd (hid D A H) p o := by
  funext b
  unfold FF.hid upd
  by_cases c : b = p
  · subst c
    rw [if_neg (fun z => z.elim n1 n2), if_pos rfl, if_pos rfl]
  · rw [if_neg c, if_neg c]
/-- a list that the deck has no part in is written -/
theorem Deck.put (dk : Deck D A B H) (hB : ∃ vs, H p = some (.lst vs)) (n1 : p ≠ D) (n2 : p ≠ A) (n3 : p ≠ B) : Deck D A B (upd H p o) := by
  obtain ⟨⟨gs, cs, n, h1, h2, h3, h4, h5⟩, a, b, c⟩ := dk
  exact ⟨⟨gs, cs, n, by rw [upd_ne n1.symm]; exact h1, by rw [upd_ne n2.symm]; exact h2, by rw [upd_ne n3.symm]; exact h3, h4, h5⟩, a, b, c⟩
end
/-- a list of pairs' addresses is written: the pairs stand -/
theorem psList {K : PySem.W.Frag} {H : Hp} {p : Addr} {vs ws us : List V} {ps : List (Int × Int)} (g : H p = some (.lst us)) (h : PsAt K H ws ps) : PsAt K (upd H p (.lst vs)) ws ps := by
  refine ⟨h.1, fun i v q h1 h2 => ?_⟩
  obtain ⟨a, e1, e2⟩ := h.2 i v q h1 h2
  refine ⟨a, e1, ?_⟩
  rcases e2 with (e2 | ⟨o, e2⟩) | e2
  · exact .inl (.inl (by rw [upd_ne (ne_of e2 g (fun z => nomatch z))]; exact e2))
  · by_cases c : a = p
    · subst c
      rw [g] at e2
      cases e2
    · exact .inl (.inr ⟨o, by rw [upd_ne c]; exact e2⟩)
  · exact .inr e2
/-- the numbers of a board -/
structure WB (fs ls : List (Int × Int)) : Prop where
  wf : WF (fs.map (·.1))
  one : 1 ≤ fs.length
  few : fs.length ≤ 20
  lamps : ls.length ≤ 30
  marks : ∀ p ∈ fs, 0 ≤ p.2 ∧ p.2 ≤ 3000
  hung : ∀ p ∈ ls, 0 ≤ p.1 ∧ p.1 < fs.length ∧ 1 ≤ p.2 ∧ p.2 ≤ 110
  root : ∀ (i : Nat) (x : Int), (fs.map (·.1))[i]? = some x → 1 ≤ i → 0 ≤ x
end FF
namespace FF
open PySem PySem.Spec PyProof.Rows L2 Evl
/-! ### states: what is told (G), what stands (H) -/
abbrev Zk := Option (Addr × Addr × Addr)
def mz : Zk → List Addr
  | none => []
  | some (D, A, _) => [D, A]
def Dz (Z : Zk) (G H : Hp) : Prop := match Z with
  | none => True
  | some (D, A, B) => Deck D A B H ∧ G D = none ∧ G A = none
def Kz (Z : Zk) (H H' : Hp) : Prop := ∀ b o, H b = some o → b ∉ mz Z → H' b = some o
def isTupH : HO → Bool
  | .tup _ => true
  | .frz _ (.tup _) => true
  | _ => false
structure Bs (Z : Zk) (G H : Hp) : Prop where
  ex : Ex G H
  sys : Sys G
  dk : Dz Z G H
structure Stp (Z : Zk) (G H G' H' : Hp) : Prop where
  g : Ex G G'
  s : Ex G' H'
  k : Kz Z H H'
  n : ∀ b u, G b = none → H b = some u → isTupH u = false → G' b = none
  d : Dz Z G' H'
section
variable {Z : Zk} {G H G' H' G1 H1 G2 H2 : Hp} {p : Addr} {o : HO}
theorem Bs.go (b : Bs Z G H) (s : Stp Z G H G' H') : Bs Z G' H' := ⟨s.s, b.sys.ex s.g, s.d⟩
theorem Stp.refl (b : Bs Z G H) : Stp Z G H G H := ⟨Ex.refl _, b.ex, fun _ _ h _ => h, fun _ _ h _ _ => h, b.dk⟩
theorem Stp.trans (a : Stp Z G H G1 H1) (b : Stp Z G1 H1 G2 H2) : Stp Z G H G2 H2 := by
  refine ⟨a.g.trans b.g, b.s, fun x o h n => b.k x o (a.k x o h n) n, fun x u h1 h2 h3 => ?_, b.d⟩
  have n1 := a.n x u h1 h2 h3
  by_cases c : x ∈ mz Z
  · match Z, c, a with
    | some (D, A, B), c, a =>
      obtain ⟨⟨gs, cs, n, g1, g2, g3, _⟩, _⟩ := a.d.1
      have c' : x = D ∨ x = A := by simpa [mz] using c
      rcases c' with e | e
      · exact b.n x _ n1 (by rw [e]; exact g1) rfl
      · exact b.n x _ n1 (by rw [e]; exact g2) rfl
  · exact b.n x u n1 (a.k x u h2 c) h3
theorem Kz.of (e : Ex H H') : Kz Z H H' := fun b o h _ => e b o h
theorem Dz.ne (d : Dz Z G H) (n : H p = none) : p ∉ mz Z := by
  match Z, d with
  | none, _ => simp [mz]
  | some (D, A, B), d =>
    obtain ⟨n1, n2, _⟩ := d.1.ne n
    simp [mz, n1, n2]
theorem Dz.new (d : Dz Z G H) (n : H p = none) : Dz Z G (upd H p o) := by
  match Z, d with
  | none, _ => trivial
  | some (D, A, B), d => exact ⟨d.1.new n, d.2⟩
theorem Dz.newG (d : Dz Z G H) (n : H p = none) : Dz Z (upd G p o) (upd H p o) := by
  match Z, d with
  | none, _ => trivial
  | some (D, A, B), d =>
    obtain ⟨n1, n2, _⟩ := d.1.ne n
    exact ⟨d.1.new n, by rw [upd_ne n1.symm]; exact d.2.1, by rw [upd_ne n2.symm]; exact d.2.2⟩
theorem exUpd (e : Ex G H) (n : H p = none) : Ex (upd G p o) (upd H p o) := fun b u h => by
  by_cases c : b = p
  · subst c
    rw [upd_same] at h
    rw [← h, upd_same]
  · rw [upd_ne c] at h
    rw [upd_ne c]
    exact e b u h
theorem none_of (e : Ex G H) (n : H p = none) : G p = none := none_ex e n
/-- a new thing that is told -/
theorem Stp.new (b : Bs Z G H) (n : H p = none) : Stp Z G H (upd G p o) (upd H p o) :=
  ⟨Ex.new (none_of b.ex n), exUpd b.ex n, Kz.of (Ex.new n), fun x u h1 h2 _ => by rw [upd_ne (ne_of_none h2 n)]; exact h1, b.dk.newG n⟩
/-- a new thing that is not told -/
theorem Stp.hide (b : Bs Z G H) (n : H p = none) : Stp Z G H G (upd H p o) :=
  ⟨Ex.refl _, b.ex.trans (Ex.new n), Kz.of (Ex.new n), fun _ _ h _ _ => h, b.dk.new n⟩
/-- a new thing, not told so far, is told -/
theorem Stp.tell (s : Stp Z G H G' H') (n : H p = none) (g : H' p = some o) (n' : G' p = none) (hz : p ∉ mz Z) : Stp Z G H (upd G' p o) H' := by
  refine ⟨s.g.trans (Ex.new n'), fun b u h => ?_, s.k, fun x u h1 h2 h3 => ?_, ?_⟩
  · by_cases c : b = p
    · subst c
      rw [upd_same] at h
      rw [← h]
      exact g
    · rw [upd_ne c] at h
      exact s.s b u h
  · rw [upd_ne (ne_of_none h2 n)]
    exact s.n x u h1 h2 h3
  · have d := s.d
    match Z, d, hz with
    | none, _, _ => trivial
    | some (D, A, B), d, hz =>
      have q : p ≠ D ∧ p ≠ A := by simpa [mz] using hz
      exact ⟨d.1, by rw [upd_ne q.1.symm]; exact d.2.1, by rw [upd_ne q.2.symm]; exact d.2.2⟩
/-- a step of a def that has no deck -/
theorem Stp.lift (b : Bs Z G H) (s : Stp none G H G' H') : Stp Z G H G' H' := by
  have k : Ex H H' := fun b o h => s.k b o h (by simp [mz])
  refine ⟨s.g, s.s, Kz.of k, s.n, ?_⟩
  have d := b.dk
  match Z, d with
  | none, _ => trivial
  | some (D, A, B), d =>
    obtain ⟨⟨gs, cs, n, g1, g2, g3, _⟩, _⟩ := id d.1
    exact ⟨d.1.ex k, s.n D _ d.2.1 g1 rfl, s.n A _ d.2.2 g2 rfl⟩
theorem Bs.lift (b : Bs Z G H) : Bs none G H := ⟨b.ex, b.sys, trivial⟩
end
/-! ### slots -/
inductive Ent where
  | un
  | dat (d : PyData)
  | deck
  | dc (P : Program) (w : World) (ks : List (List Int))
def EntOk (K : PySem.W.Frag) (Z : Zk) (G : Hp) (x : Option V) : Ent → Prop
  | .un => True
  | .dat d => ∃ v, x = some v ∧ Dq K G v d
  | .deck => ∃ D A B, Z = some (D, A, B) ∧ x = some (.ref D)
  | .dc P w ks => ∃ d L, x = some (.ref d) ∧ G d = some (DcO P w d L) ∧ L.map (·.2) = ks ∧ ∀ p ∈ L, SqT K G p.1 (p.2.map V.int)
def Sl (K : PySem.W.Frag) (Z : Zk) (G : Hp) (σ : L2.St) (η : List Ent) : Prop := ∀ (i : Nat) (e : Ent), η[i]? = some e → ∃ x, σ[i]? = some x ∧ EntOk K Z G x e
section
variable {K : PySem.W.Frag} {Z : Zk} {G G' H H' : Hp} {σ : L2.St} {η : List Ent}
theorem EntOk.ex {x : Option V} (e : Ex G G') : ∀ {n : Ent}, EntOk K Z G x n → EntOk K Z G' x n
  | .un, _ => trivial
  | .dat d, ⟨v, h1, h2⟩ => ⟨v, h1, Dq.ex e _ _ h2⟩
  | .deck, h => h
  | .dc P w ks, ⟨d, L, h1, h2, h3, h4⟩ => ⟨d, L, h1, e _ _ h2, h3, fun p hp => ex_t e (h4 p hp)⟩
theorem Sl.ex (h : Sl K Z G σ η) (e : Ex G G') : Sl K Z G' σ η := fun i n hn => let ⟨x, h1, h2⟩ := h i n hn; ⟨x, h1, h2.ex e⟩
theorem Sl.set (h : Sl K Z G σ η) (i : Nat) {v : V} {d : PyData} (hd : Dq K G v d) : Sl K Z G (σ.set i (some v)) (η.set i (.dat d)) := fun j n hn => by
  by_cases c : i = j
  · subst c
    have hl : i < η.length := by
      have := (List.getElem?_eq_some_iff.mp hn).1
      rw [List.length_set] at this
      exact this
    rw [List.getElem?_set_self hl] at hn
    cases hn
    obtain ⟨x, h1, _⟩ := h i _ (List.getElem?_eq_getElem hl)
    have hs : i < σ.length := (List.getElem?_eq_some_iff.mp h1).1
    exact ⟨some v, List.getElem?_set_self hs, v, rfl, hd⟩
  · rw [List.getElem?_set_ne c] at hn
    obtain ⟨x, h1, h2⟩ := h j n hn
    exact ⟨x, by rw [List.getElem?_set_ne c]; exact h1, h2⟩
/-- the slots of a block's own names forgotten -/
def wipeE (η : List Ent) : List Nat → List Ent
  | [] => η
  | v :: vs => (wipeE η vs).set v .un
theorem Sl.unset (h : Sl K Z G σ η) (i : Nat) (x : Option V) : Sl K Z G (σ.set i x) (η.set i .un) := fun j n hn => by
  by_cases c : i = j
  · subst c
    have hl : i < η.length := by
      have := (List.getElem?_eq_some_iff.mp hn).1
      rw [List.length_set] at this
      exact this
    rw [List.getElem?_set_self hl] at hn
    cases hn
    obtain ⟨y, h1, _⟩ := h i _ (List.getElem?_eq_getElem hl)
    have hs : i < σ.length := (List.getElem?_eq_some_iff.mp h1).1
    exact ⟨x, List.getElem?_set_self hs, trivial⟩
  · rw [List.getElem?_set_ne c] at hn
    obtain ⟨y, h1, h2⟩ := h j n hn
    exact ⟨y, by rw [List.getElem?_set_ne c]; exact h1, h2⟩
theorem Sl.wipe (h : Sl K Z G σ η) : ∀ vs : List Nat, Sl K Z G (L2.wipe σ vs) (wipeE η vs)
  | [] => h
  | v :: vs => (Sl.wipe h vs).unset v none
end
/-! ### expressions, read by data -/
section
variable (K : PySem.W.Frag) (Z : Zk)
def SE (te : TE) (η : List Ent) (R : PyData → Prop) : Prop := ∀ (σ : L2.St) (G H : Hp), Bs Z G H → Sl K Z G σ η → ∀ Q : VK, (∀ v d G' H', R d → Stp Z G H G' H' → Dq K G' v d → Q v H') → te σ H Q
abbrev SQ (te : TE) (η : List Ent) (d : PyData) : Prop := SE K Z te η (fun x => x = d)
def SA (ta : TA) (η : List Ent) (R : List PyData → Prop) : Prop := ∀ (σ : L2.St) (G H : Hp), Bs Z G H → Sl K Z G σ η → ∀ Q : List V → Hp → Prop, (∀ vs ds G' H', R ds → Stp Z G H G' H' → DqA K G' vs ds → Q vs H') → ta σ H Q
abbrev SAQ (ta : TA) (η : List Ent) (ds : List PyData) : Prop := SA K Z ta η (fun x => x = ds)
def ST (tt : TT) (η : List Ent) (R : Bool → Prop) : Prop := ∀ (σ : L2.St) (G H : Hp), Bs Z G H → Sl K Z G σ η → ∀ Q : Bool → Hp → Prop, (∀ b G' H', R b → Stp Z G H G' H' → Q b H') → tt σ H Q
abbrev STQ (tt : TT) (η : List Ent) (b : Bool) : Prop := ST K Z tt η (fun x => x = b)
/-- a new list, that may still grow -/
def SO (te : TE) (η : List Ent) (R : List PyData → Prop) : Prop := ∀ (σ : L2.St) (G H : Hp), Bs Z G H → Sl K Z G σ η → ∀ Q : VK, (∀ p vs ds G' H', R ds → Stp Z G H G' H' → H p = none → G' p = none → H' p = some (.lst vs) → DqA K G' vs ds → Q (.ref p) H') → te σ H Q
abbrev SOQ (te : TE) (η : List Ent) (ds : List PyData) : Prop := SO K Z te η (fun x => x = ds)
def SP' (to : TO) (η : List Ent) (o : Option Int) : Prop := ∀ (σ : L2.St) (G H : Hp), Bs Z G H → Sl K Z G σ η → ∀ Q : Option Int → Hp → Prop, (∀ G' H', Stp Z G H G' H' → Q o H') → to σ H Q
end
section
variable {K : PySem.W.Frag} {Z : Zk} {η : List Ent} {te ta tb : TE} {R R' : PyData → Prop}
theorem SE.mono (h : SE K Z te η R) (hr : ∀ d, R d → R' d) : SE K Z te η R' := fun σ G H b s Q q => h σ G H b s Q fun v d G' H' r => q v d G' H' (hr d r)
theorem SE.to (h : SE K Z te η R) (hr : ∀ d, R d → R' d) : SE K Z te η R' := h.mono hr
theorem SO.mono {R R' : List PyData → Prop} (h : SO K Z te η R) (hr : ∀ d, R d → R' d) : SO K Z te η R' := fun σ G H b s Q q => h σ G H b s Q fun p vs ds G' H' r => q p vs ds G' H' (hr ds r)
theorem ST.mono {tt : TT} {R R' : Bool → Prop} (h : ST K Z tt η R) (hr : ∀ d, R d → R' d) : ST K Z tt η R' := fun σ G H b s Q q => h σ G H b s Q fun c G' H' r => q c G' H' (hr c r)
/-- a new list is told -/
theorem SO.e {R : List PyData → Prop} (h : SO K Z te η R) : SE K Z te η (fun d => ∃ ds, R ds ∧ d = .list ds) := fun σ G H b s Q q => h σ G H b s Q fun p vs ds G' H' r st n n' g ha => by
  have bs := b.go st
  have ns : p ≠ sysModules := fun z => by
    subst z
    obtain ⟨o, e⟩ := bs.sys
    rw [n'] at e
    cases e
  have st' := st.tell n g n' (b.dk.ne n)
  exact q _ _ _ _ ⟨ds, r, rfl⟩ st' (.lst upd_same ns (DqA.ex (Ex.new n') _ _ ha))
theorem SO.q {ds : List PyData} (h : SOQ K Z te η ds) : SQ K Z te η (.list ds) := h.e.mono fun d ⟨es, e1, e2⟩ => by rw [e2, e1]
theorem SE.ex1 {d : PyData} (h : SQ K Z te η d) (r : R d) : SE K Z te η R := h.mono fun x e => by rw [e]; exact r

theorem se_eq {d d' : PyData} (h : SQ K Z te η d) (e : d = d') : SQ K Z te η d' := e ▸ h
theorem st_eq {tt : TT} {b b' : Bool} (h : STQ K Z tt η b) (e : b = b') : STQ K Z tt η b' := e ▸ h
theorem se_var {i : Nat} {d : PyData} (h : η[i]? = some (.dat d) := by rfl) : SQ K Z (tVar i) η d := fun σ G H b s Q q => by
  obtain ⟨x, h1, v, rfl, hd⟩ := s i _ h
  exact ⟨v, h1, q v d G H rfl (.refl b) hd⟩
theorem se_c {v : V} {d : PyData} (hd : ∀ G, Dq K G v d) : SQ K Z (tC v) η d := fun σ G H b s Q q => q v d G H rfl (.refl b) (hd G)
theorem se_int {i : Int} : SQ K Z (tC (.int i)) η (.int i) := se_c fun _ => .int i
theorem se_bl {i : Bool} : SQ K Z (tC (.bl i)) η (.bool i) := se_c fun _ => .bl i
theorem se_non : SQ K Z (tC .non) η .none := se_c fun _ => .non
theorem se_str {z : Str} : SQ K Z (tC (.str z)) η (.str z) := se_c fun _ => .str z
/-- two in a row -/
theorem se_op {r : R2} {d1 d2 : PyData} (h1 : SQ K Z ta η d1) (h2 : SQ K Z tb η d2)
    (k : ∀ v1 v2 G H, Bs Z G H → Dq K G v1 d1 → Dq K G v2 d2 → ∀ Q : VK, (∀ v d G' H', R d → Stp Z G H G' H' → Dq K G' v d → Q v H') → r v1 v2 H Q) : SE K Z (tOp r ta tb) η R := fun σ G H b s Q q =>
  h1 σ G H b s _ fun v1 d G1 H1 e1 s1 hd1 => h2 σ G1 H1 (b.go s1) (s.ex s1.g) _ fun v2 d' G2 H2 e2 s2 hd2 => by
    subst e1 e2
    exact k v1 v2 G2 H2 ((b.go s1).go s2) (Dq.ex s2.g _ _ hd1) hd2 Q fun v d G' H' r s3 => q v d G' H' r ((s1.trans s2).trans s3)
theorem se_opR {r : R2} {R1 R2 : PyData → Prop} (h1 : SE K Z ta η R1) (h2 : SE K Z tb η R2)
    (k : ∀ v1 v2 d1 d2 G H, R1 d1 → R2 d2 → Bs Z G H → Dq K G v1 d1 → Dq K G v2 d2 → ∀ Q : VK, (∀ v d G' H', R d → Stp Z G H G' H' → Dq K G' v d → Q v H') → r v1 v2 H Q) : SE K Z (tOp r ta tb) η R := fun σ G H b s Q q =>
  h1 σ G H b s _ fun v1 d1 G1 H1 e1 s1 hd1 => h2 σ G1 H1 (b.go s1) (s.ex s1.g) _ fun v2 d2 G2 H2 e2 s2 hd2 =>
    k v1 v2 d1 d2 G2 H2 e1 e2 ((b.go s1).go s2) (Dq.ex s2.g _ _ hd1) hd2 Q fun v d G' H' r s3 => q v d G' H' r ((s1.trans s2).trans s3)
theorem se_un {r : V → Hp → VK → Prop} {d1 : PyData} (h1 : SQ K Z ta η d1)
    (k : ∀ v1 G H, Bs Z G H → Dq K G v1 d1 → ∀ Q : VK, (∀ v d G' H', R d → Stp Z G H G' H' → Dq K G' v d → Q v H') → r v1 H Q) : SE K Z (tUn r ta) η R := fun σ G H b s Q q =>
  h1 σ G H b s _ fun v1 d G1 H1 e1 s1 hd1 => by
    subst e1
    exact k v1 G1 H1 (b.go s1) hd1 Q fun v d G' H' r s3 => q v d G' H' r (s1.trans s3)
theorem dq_int {H : Hp} {v : V} {i : Int} (h : Dq K H v (.int i)) : v = .int i := by cases h; rfl
theorem dq_bl {H : Hp} {v : V} {i : Bool} (h : Dq K H v (.bool i)) : v = .bl i := by cases h; rfl
theorem dq_str {H : Hp} {v : V} {i : Str} (h : Dq K H v (.str i)) : v = .str i := by cases h; rfl
theorem dq_non {H : Hp} {v : V} (h : Dq K H v .none) : v = .non := by cases h; rfl
theorem dq_tup {H : Hp} {v : V} {ds : List PyData} (h : Dq K H v (.tuple ds)) : ∃ a xs, v = .ref a ∧ SqT K H a xs ∧ DqA K H xs ds := by
  cases h with
  | tup a b => exact ⟨_, _, rfl, a, b⟩
theorem dq_lst {H : Hp} {v : V} {ds : List PyData} (h : Dq K H v (.list ds)) : ∃ a xs, v = .ref a ∧ SqL K H a xs ∧ DqA K H xs ds := by
  cases h with
  | lst a n b => exact ⟨_, _, rfl, SqL.of a, b⟩
theorem dq_lstH {H : Hp} {v : V} {ds : List PyData} (h : Dq K H v (.list ds)) : ∃ a xs, v = .ref a ∧ H a = some (.lst xs) ∧ DqA K H xs ds := by
  cases h with
  | lst a n b => exact ⟨_, _, rfl, a, b⟩
theorem dq_dct {H : Hp} {v : V} {ds : List (PyData × PyData)} (h : Dq K H v (.dict ds)) : ∃ a o kvs, v = .ref a ∧ H a = some (.frz o (.dK kvs)) ∧ DqK K H kvs ds := by
  cases h with
  | dct a b => exact ⟨_, _, _, rfl, a, b⟩
theorem se_rI0 {f : Int → Int → Int} {i j : Int} (h1 : SQ K Z ta η (.int i)) (h2 : SQ K Z tb η (.int j)) : SQ K Z (tOp (rI0 fun i j => .int (f i j)) ta tb) η (.int (f i j)) :=
  se_op h1 h2 fun v1 v2 G H b d1 d2 Q q => ⟨i, j, dq_int d1, dq_int d2, q _ _ G H rfl (.refl b) (.int _)⟩
theorem se_rI0b {f : Int → Int → Bool} {i j : Int} (h1 : SQ K Z ta η (.int i)) (h2 : SQ K Z tb η (.int j)) : SQ K Z (tOp (rI0 fun i j => .bl (f i j)) ta tb) η (.bool (f i j)) :=
  se_op h1 h2 fun v1 v2 G H b d1 d2 Q q => ⟨i, j, dq_int d1, dq_int d2, q _ _ G H rfl (.refl b) (.bl _)⟩
theorem se_rI {C : Int → Int → Prop} {f : Int → Int → Int} {i j : Int} (h1 : SQ K Z ta η (.int i)) (h2 : SQ K Z tb η (.int j)) (hc : C i j) : SQ K Z (tOp (rI C fun i j => .int (f i j)) ta tb) η (.int (f i j)) :=
  se_op h1 h2 fun v1 v2 G H b d1 d2 Q q => ⟨i, j, dq_int d1, dq_int d2, hc, q _ _ G H rfl (.refl b) (.int _)⟩
theorem se_neg {i : Int} (h1 : SQ K Z ta η (.int i)) : SQ K Z (tUn (rU fun i => .int (-i)) ta) η (.int (-i)) :=
  se_un h1 fun v1 G H b d1 Q q => ⟨i, dq_int d1, q _ _ G H rfl (.refl b) (.int _)⟩
/-- items -/
theorem sa_nil : SAQ K Z tNil η [] := fun σ G H b s Q q => q [] [] G H rfl (.refl b) .nil
theorem sa_cons {tr : TA} {d : PyData} {ds : List PyData} (h1 : SQ K Z te η d) (h2 : SAQ K Z tr η ds) : SAQ K Z (tCons te tr) η (d :: ds) := fun σ G H b s Q q =>
  h1 σ G H b s _ fun v1 d1 G1 H1 e1 s1 hd1 => h2 σ G1 H1 (b.go s1) (s.ex s1.g) _ fun vs es G2 H2 e2 s2 ha => by
    subst e1 e2
    exact q _ _ _ _ rfl (s1.trans s2) (.cons (Dq.ex s2.g _ _ hd1) ha)
theorem sa_consR {tr : TA} {R1 : PyData → Prop} {R2 : List PyData → Prop} (h1 : SE K Z te η R1) (h2 : SA K Z tr η R2) : SA K Z (tCons te tr) η (fun x => ∃ d ds, R1 d ∧ R2 ds ∧ x = d :: ds) := fun σ G H b s Q q =>
  h1 σ G H b s _ fun v1 d1 G1 H1 e1 s1 hd1 => h2 σ G1 H1 (b.go s1) (s.ex s1.g) _ fun vs es G2 H2 e2 s2 ha =>
    q _ _ _ _ ⟨d1, es, e1, e2, rfl⟩ (s1.trans s2) (.cons (Dq.ex s2.g _ _ hd1) ha)
theorem lenOk {n : Nat} (h : n ≤ 100000) : n ≤ sizeLine := Nat.le_trans h (by decide)
theorem se_tupR {tr : TA} {R1 : List PyData → Prop} (h1 : SA K Z tr η R1) (hl : ∀ ds, R1 ds → ds.length ≤ 100000) : SE K Z (tTup tr) η (fun x => ∃ ds, R1 ds ∧ x = .tuple ds) := fun σ G H b s Q q =>
  h1 σ G H b s _ fun vs ds G1 H1 r s1 ha => ⟨by rw [ha.len]; exact lenOk (hl _ r), fun p np => by
    exact q _ _ _ _ ⟨ds, r, rfl⟩ (s1.trans (.new (b.go s1) np)) (.tup (SqT.of upd_same) (DqA.ex (Ex.new (none_of s1.s np)) _ _ ha))⟩
theorem se_tup {tr : TA} {ds : List PyData} (h1 : SAQ K Z tr η ds) (hl : ds.length ≤ 100000 := by exact Nat.le_of_ble_eq_true rfl) : SQ K Z (tTup tr) η (.tuple ds) := (se_tupR h1 fun es e => by rw [e]; exact hl).mono fun d ⟨es, e1, e2⟩ => by rw [e2, e1]
theorem so_lstR {tr : TA} {R1 : List PyData → Prop} (h1 : SA K Z tr η R1) (hl : ∀ ds, R1 ds → ds.length ≤ 100000) : SO K Z (tLst tr) η R1 := fun σ G H b s Q q =>
  h1 σ G H b s _ fun vs ds G1 H1 r s1 ha => ⟨by rw [ha.len]; exact lenOk (hl _ r), fun p np => by
    have np0 : H p = none := by
      by_cases c : p ∈ mz Z
      · exact absurd c (s1.d.ne np)
      · cases e : H p with
        | none => rfl
        | some o => rw [s1.k p o e c] at np; cases np
    exact q p vs ds G1 _ r (s1.trans (.hide (b.go s1) np)) np0 (none_of s1.s np) upd_same ha⟩
theorem so_lst {tr : TA} {ds : List PyData} (h1 : SAQ K Z tr η ds) (hl : ds.length ≤ 100000 := by exact Nat.le_of_ble_eq_true rfl) : SOQ K Z (tLst tr) η ds := so_lstR h1 fun es e => by rw [e]; exact hl
end
end FF
namespace FF
open PySem PySem.Spec PyProof.Rows L2 Evl
section
variable {K : PySem.W.Frag} {H : Hp}
mutual
theorem dq_dp0 : ∀ (d : PyData) (v : V), d.canLay0 = true → Dq K H v d → Dp K H v d
  | .none, _, _, h => by cases h; exact .non
  | .bool b, _, _, h => by cases h; exact .bl b
  | .int i, _, _, h => by cases h; exact .int i
  | .str x, _, _, h => by cases h; exact .str x
  | .list xs, _, o, h => by
    simp only [PyData.canLay0] at o
    cases h with
    | lst a _ b => exact .lst (SqL.of a) (dqa_dpa0 xs _ o b)
  | .tuple xs, _, o, h => by
    simp only [PyData.canLay0] at o
    cases h with
    | tup a b => exact .tup a (dqa_dpa0 xs _ o b)
  | .dict _, _, o, _ => by simp only [PyData.canLay0] at o; cases o
theorem dqa_dpa0 : ∀ (ds : List PyData) (vs : List V), PyData.canLayAll0 ds = true → DqA K H vs ds → DpAll K H vs ds
  | [], _, _, h => by cases h; exact .nil
  | d :: ds, _, o, h => by
    simp only [PyData.canLayAll0, Bool.and_eq_true] at o
    cases h with
    | cons a b => exact .cons (dq_dp0 d _ o.1 a) (dqa_dpa0 ds _ o.2 b)
end
theorem dqa_ints : ∀ {ns : List Int} {vs : List V}, DqA K H vs (ns.map PyData.int) → vs = ns.map V.int
  | [], _, h => by cases h; rfl
  | n :: ns, _, h => by
    cases h with
    | cons a b => rw [dq_int a, dqa_ints b]; rfl
theorem ints_dqa : ∀ {ns : List Int}, DqA K H (ns.map V.int) (ns.map PyData.int)
  | [] => .nil
  | n :: ns => .cons (.int n) ints_dqa
theorem dqa_atI {vs : List V} {ds : List PyData} {j : Int} {d : PyData} (h : DqA K H vs ds) (e : atI ds j = some d) : ∃ v, atI vs j = some v ∧ Dq K H v d := by
  unfold atI at e ⊢
  rw [h.len]
  cases c : ixN ds.length j with
  | none => rw [c] at e; cases e
  | some k =>
    rw [c] at e
    obtain ⟨v, h1, h2⟩ := h.getD k e
    exact ⟨v, h1, h2⟩
end
section
variable {K : PySem.W.Frag} {Z : Zk} {η : List Ent} {te ta tb : TE} {R R' : PyData → Prop}
theorem se_ixT {ds : List PyData} {j : Int} {d : PyData} (h1 : SQ K Z ta η (.tuple ds)) (h2 : SQ K Z tb η (.int j)) (h : atI ds j = some d) : SQ K Z (tOp (rIxT K) ta tb) η d :=
  se_op h1 h2 fun v1 v2 G H b d1 d2 Q q => by
    obtain ⟨a, xs, rfl, ht, ha⟩ := dq_tup d1
    obtain ⟨v, hv, hd⟩ := dqa_atI ha h
    exact ⟨a, xs, j, v, rfl, dq_int d2, ex_t b.ex ht, hv, q v d G H rfl (.refl b) hd⟩
theorem se_ixL {ds : List PyData} {j : Int} {d : PyData} (h1 : SQ K Z ta η (.list ds)) (h2 : SQ K Z tb η (.int j)) (h : atI ds j = some d) : SQ K Z (tOp (rIxL K) ta tb) η d :=
  se_op h1 h2 fun v1 v2 G H b d1 d2 Q q => by
    obtain ⟨a, xs, rfl, ht, ha⟩ := dq_lst d1
    obtain ⟨v, hv, hd⟩ := dqa_atI ha h
    exact ⟨a, xs, j, v, rfl, dq_int d2, ex_l b.ex ht, hv, q v d G H rfl (.refl b) hd⟩
abbrev rLenC (K : PySem.W.Frag) : List V → Hp → VK → Prop := fun xs H Q => ∃ p ys, xs = [.ref p] ∧ (SqL K H p ys ∨ SqT K H p ys) ∧ Q (.int ys.length) H
abbrev rListC (K : PySem.W.Frag) : List V → Hp → VK → Prop := fun xs H Q => ∃ p ys, xs = [.ref p] ∧ (SqL K H p ys ∨ SqT K H p ys) ∧ ∀ l, H l = none → Q (.ref l) (upd H l (.lst ys))
abbrev rTupleC (K : PySem.W.Frag) : List V → Hp → VK → Prop := fun xs H Q => ∃ p ys, xs = [.ref p] ∧ ((SqL K H p ys ∧ ∀ l, H l = none → Q (.ref l) (upd H l (.tup ys))) ∨ (SqT K H p ys ∧ Q (.ref p) H))
/-- one argument -/
theorem se_cb {r : List V → Hp → VK → Prop} {d1 : PyData} (h1 : SQ K Z ta η d1)
    (k : ∀ v1 G H, Bs Z G H → Dq K G v1 d1 → ∀ Q : VK, (∀ v d G' H', R d → Stp Z G H G' H' → Dq K G' v d → Q v H') → r [v1] H Q) : SE K Z (tCB r (tCons ta tNil)) η R := fun σ G H b s Q q =>
  h1 σ G H b s _ fun v1 d G1 H1 e1 s1 hd1 => by
    subst e1
    exact k v1 G1 H1 (b.go s1) hd1 Q fun v d G' H' r s3 => q v d G' H' r (s1.trans s3)
theorem se_cbR {r : List V → Hp → VK → Prop} {R1 : PyData → Prop} (h1 : SE K Z ta η R1)
    (k : ∀ v1 d1 G H, R1 d1 → Bs Z G H → Dq K G v1 d1 → ∀ Q : VK, (∀ v d G' H', R d → Stp Z G H G' H' → Dq K G' v d → Q v H') → r [v1] H Q) : SE K Z (tCB r (tCons ta tNil)) η R := fun σ G H b s Q q =>
  h1 σ G H b s _ fun v1 d G1 H1 e1 s1 hd1 => k v1 d G1 H1 e1 (b.go s1) hd1 Q fun v d G' H' r s3 => q v d G' H' r (s1.trans s3)
theorem so_cb {r : List V → Hp → VK → Prop} {d1 : PyData} {Rs : List PyData → Prop} (h1 : SQ K Z ta η d1)
    (k : ∀ v1 G H, Bs Z G H → Dq K G v1 d1 → ∀ Q : VK, (∀ p vs ds H', Rs ds → H p = none → Ex H H' → Dz Z G H' → H' p = some (.lst vs) → DqA K G vs ds → Q (.ref p) H') → r [v1] H Q) : SO K Z (tCB r (tCons ta tNil)) η Rs := fun σ G H b s Q q =>
  h1 σ G H b s _ fun v1 d G1 H1 e1 s1 hd1 => by
    subst e1
    have b1 := b.go s1
    refine k v1 G1 H1 b1 hd1 Q fun p vs ds H' r np e dz g ha => ?_
    have np0 : H p = none := by
      by_cases c : p ∈ mz Z
      · exact absurd c (s1.d.ne np)
      · cases e : H p with
        | none => rfl
        | some o => rw [s1.k p o e c] at np; cases np
    exact q p vs ds G1 H' r (s1.trans ⟨Ex.refl _, b1.ex.trans e, Kz.of e, fun _ _ h _ _ => h, dz⟩) np0 (none_of s1.s np) g ha
theorem se_lenL {ds : List PyData} (h1 : SQ K Z ta η (.list ds)) : SQ K Z (tCB (rLenC K) (tCons ta tNil)) η (.int (ds.length : Nat)) :=
  se_cb h1 fun v1 G H b d1 Q q => by
    obtain ⟨a, xs, rfl, ht, ha⟩ := dq_lst d1
    refine ⟨a, xs, rfl, .inl (ex_l b.ex ht), ?_⟩
    rw [ha.len]
    exact q _ _ G H rfl (.refl b) (.int _)
theorem se_lenT {ds : List PyData} (h1 : SQ K Z ta η (.tuple ds)) : SQ K Z (tCB (rLenC K) (tCons ta tNil)) η (.int (ds.length : Nat)) :=
  se_cb h1 fun v1 G H b d1 Q q => by
    obtain ⟨a, xs, rfl, ht, ha⟩ := dq_tup d1
    refine ⟨a, xs, rfl, .inr (ex_t b.ex ht), ?_⟩
    rw [ha.len]
    exact q _ _ G H rfl (.refl b) (.int _)
/-- tuple(list) -/
theorem se_tupleL {ds : List PyData} (h1 : SQ K Z ta η (.list ds)) : SQ K Z (tCB (rTupleC K) (tCons ta tNil)) η (.tuple ds) :=
  se_cb h1 fun v1 G H b d1 Q q => by
    obtain ⟨a, xs, rfl, ht, ha⟩ := dq_lst d1
    exact ⟨a, xs, rfl, .inl ⟨ex_l b.ex ht, fun l nl => q _ _ _ _ rfl (.new b nl) (.tup (SqT.of upd_same) (DqA.ex (Ex.new (none_of b.ex nl)) _ _ ha))⟩⟩
theorem se_tupleLR {R1 : List PyData → Prop} (h1 : SE K Z ta η (fun d => ∃ ds, R1 ds ∧ d = .list ds)) : SE K Z (tCB (rTupleC K) (tCons ta tNil)) η (fun d => ∃ ds, R1 ds ∧ d = .tuple ds) :=
  se_cbR h1 fun v1 d1 G H r b d1 Q q => by
    obtain ⟨ds, r1, rfl⟩ := r
    obtain ⟨a, xs, rfl, ht, ha⟩ := dq_lst d1
    exact ⟨a, xs, rfl, .inl ⟨ex_l b.ex ht, fun l nl => q _ _ _ _ ⟨ds, r1, rfl⟩ (.new b nl) (.tup (SqT.of upd_same) (DqA.ex (Ex.new (none_of b.ex nl)) _ _ ha))⟩⟩
theorem se_tupleT {ds : List PyData} (h1 : SQ K Z ta η (.tuple ds)) : SQ K Z (tCB (rTupleC K) (tCons ta tNil)) η (.tuple ds) :=
  se_cb h1 fun v1 G H b d1 Q q => by
    obtain ⟨a, xs, rfl, ht, ha⟩ := dq_tup d1
    exact ⟨a, xs, rfl, .inr ⟨ex_t b.ex ht, q _ _ _ _ rfl (.refl b) d1⟩⟩
theorem so_listT {ds : List PyData} (h1 : SQ K Z ta η (.tuple ds)) : SOQ K Z (tCB (rListC K) (tCons ta tNil)) η ds :=
  so_cb h1 fun v1 G H b d1 Q q => by
    obtain ⟨a, xs, rfl, ht, ha⟩ := dq_tup d1
    exact ⟨a, xs, rfl, .inr (ex_t b.ex ht), fun l nl => q l xs ds _ rfl nl (Ex.new nl) (b.dk.new nl) upd_same ha⟩
theorem so_listL {ds : List PyData} (h1 : SQ K Z ta η (.list ds)) : SOQ K Z (tCB (rListC K) (tCons ta tNil)) η ds :=
  so_cb h1 fun v1 G H b d1 Q q => by
    obtain ⟨a, xs, rfl, ht, ha⟩ := dq_lst d1
    exact ⟨a, xs, rfl, .inl (ex_l b.ex ht), fun l nl => q l xs ds _ rfl nl (Ex.new nl) (b.dk.new nl) upd_same ha⟩
theorem se_sum {ns : List Int} (h1 : SQ K Z ta η (.list (ns.map .int))) : SQ K Z (tCB (rSum K) (tCons ta tNil)) η (.int ns.sum) :=
  se_cb h1 fun v1 G H b d1 Q q => by
    obtain ⟨a, xs, rfl, ht, ha⟩ := dq_lst d1
    have e := dqa_ints ha
    subst e
    exact ⟨a, ns, rfl, ex_l b.ex ht, q _ _ _ _ rfl (.refl b) (.int _)⟩
/-- x in a list or tuple of whole numbers -/
theorem se_inT {ns : List Int} {i : Int} (h1 : SQ K Z ta η (.int i)) (h2 : SQ K Z tb η (.tuple (ns.map .int))) : SQ K Z (tOp (rIn K false) ta tb) η (.bool (decide (i ∈ ns))) :=
  se_op h1 h2 fun v1 v2 G H b d1 d2 Q q => by
    obtain ⟨a, xs, rfl, ht, ha⟩ := dq_tup d2
    have e := dqa_ints ha
    subst e
    rw [dq_int d1]
    refine ⟨a, _, rfl, .inr (ex_t b.ex ht), rfl, flat_ints _, ?_⟩
    show Q (.bl (inV (.int i) (ns.map V.int))) H
    rw [inV_int]
    exact q _ _ _ _ rfl (.refl b) (.bl _)
theorem se_inL {ns : List Int} {i : Int} (h1 : SQ K Z ta η (.int i)) (h2 : SQ K Z tb η (.list (ns.map .int))) : SQ K Z (tOp (rIn K false) ta tb) η (.bool (decide (i ∈ ns))) :=
  se_op h1 h2 fun v1 v2 G H b d1 d2 Q q => by
    obtain ⟨a, xs, rfl, ht, ha⟩ := dq_lst d2
    have e := dqa_ints ha
    subst e
    rw [dq_int d1]
    refine ⟨a, _, rfl, .inl (ex_l b.ex ht), rfl, flat_ints _, ?_⟩
    show Q (.bl (inV (.int i) (ns.map V.int))) H
    rw [inV_int]
    exact q _ _ _ _ rfl (.refl b) (.bl _)
theorem se_notinT {ns : List Int} {i : Int} (h1 : SQ K Z ta η (.int i)) (h2 : SQ K Z tb η (.tuple (ns.map .int))) : SQ K Z (tOp (rIn K true) ta tb) η (.bool (!decide (i ∈ ns))) :=
  se_op h1 h2 fun v1 v2 G H b d1 d2 Q q => by
    obtain ⟨a, xs, rfl, ht, ha⟩ := dq_tup d2
    have e := dqa_ints ha
    subst e
    rw [dq_int d1]
    refine ⟨a, _, rfl, .inr (ex_t b.ex ht), rfl, flat_ints _, ?_⟩
    show Q (.bl (!inV (.int i) (ns.map V.int))) H
    rw [inV_int]
    exact q _ _ _ _ rfl (.refl b) (.bl _)
theorem se_notinL {ns : List Int} {i : Int} (h1 : SQ K Z ta η (.int i)) (h2 : SQ K Z tb η (.list (ns.map .int))) : SQ K Z (tOp (rIn K true) ta tb) η (.bool (!decide (i ∈ ns))) :=
  se_op h1 h2 fun v1 v2 G H b d1 d2 Q q => by
    obtain ⟨a, xs, rfl, ht, ha⟩ := dq_lst d2
    have e := dqa_ints ha
    subst e
    rw [dq_int d1]
    refine ⟨a, _, rfl, .inl (ex_l b.ex ht), rfl, flat_ints _, ?_⟩
    show Q (.bl (!inV (.int i) (ns.map V.int))) H
    rw [inV_int]
    exact q _ _ _ _ rfl (.refl b) (.bl _)
/-- == -/
theorem se_eqI {i j : Int} (h1 : SQ K Z ta η (.int i)) (h2 : SQ K Z tb η (.int j)) : SQ K Z (tOp rEq ta tb) η (.bool (decide (i = j))) :=
  se_op h1 h2 fun v1 v2 G H b d1 d2 Q q => by
    rw [dq_int d1, dq_int d2]
    refine ⟨rfl, ?_⟩
    have e : decide (V.int i = V.int j) = decide (i = j) := by
      by_cases c : i = j
      · subst c; rw [decide_eq_true rfl, decide_eq_true rfl]
      · rw [decide_eq_false c, decide_eq_false fun z => c (V.int.inj z)]
    rw [e]
    exact q _ _ _ _ rfl (.refl b) (.bl _)
theorem se_neI {i j : Int} (h1 : SQ K Z ta η (.int i)) (h2 : SQ K Z tb η (.int j)) : SQ K Z (tOp rNe ta tb) η (.bool (!decide (i = j))) :=
  se_op h1 h2 fun v1 v2 G H b d1 d2 Q q => by
    rw [dq_int d1, dq_int d2]
    refine ⟨rfl, ?_⟩
    have e : decide (V.int i = V.int j) = decide (i = j) := by
      by_cases c : i = j
      · subst c; rw [decide_eq_true rfl, decide_eq_true rfl]
      · rw [decide_eq_false c, decide_eq_false fun z => c (V.int.inj z)]
    rw [e]
    exact q _ _ _ _ rfl (.refl b) (.bl _)
theorem se_neS {i j : Str} (h1 : SQ K Z ta η (.str i)) (h2 : SQ K Z tb η (.str j)) : SQ K Z (tOp rNe ta tb) η (.bool (!decide (i = j))) :=
  se_op h1 h2 fun v1 v2 G H b d1 d2 Q q => by
    rw [dq_str d1, dq_str d2]
    refine ⟨rfl, ?_⟩
    have e : decide (V.str i = V.str j) = decide (i = j) := by
      by_cases c : i = j
      · subst c; rw [decide_eq_true rfl, decide_eq_true rfl]
      · rw [decide_eq_false c, decide_eq_false fun z => c (V.str.inj z)]
    rw [e]
    exact q _ _ _ _ rfl (.refl b) (.bl _)
theorem se_eqS {i j : Str} (h1 : SQ K Z ta η (.str i)) (h2 : SQ K Z tb η (.str j)) : SQ K Z (tOp rEq ta tb) η (.bool (decide (i = j))) :=
  se_op h1 h2 fun v1 v2 G H b d1 d2 Q q => by
    rw [dq_str d1, dq_str d2]
    refine ⟨rfl, ?_⟩
    have e : decide (V.str i = V.str j) = decide (i = j) := by
      by_cases c : i = j
      · subst c; rw [decide_eq_true rfl, decide_eq_true rfl]
      · rw [decide_eq_false c, decide_eq_false fun z => c (V.str.inj z)]
    rw [e]
    exact q _ _ _ _ rfl (.refl b) (.bl _)
theorem se_eqD {x y : PyData} (h1 : SQ K Z ta η x) (h2 : SQ K Z tb η y) (hx : SeqAt.shaped x = true) (hy : SeqAt.shaped y = true) : SQ K Z (tOp (rEqD K) ta tb) η (.bool (PyData.eqv x y)) :=
  se_op h1 h2 fun v1 v2 G H b d1 d2 Q q => ⟨x, y, dq_dp0 _ _ (SeqAt.canLay_of_shaped hx) (Dq.ex b.ex _ _ d1), dq_dp0 _ _ (SeqAt.canLay_of_shaped hy) (Dq.ex b.ex _ _ d2), hx, hy, q _ _ _ _ rfl (.refl b) (.bl _)⟩
theorem se_neD {x y : PyData} (h1 : SQ K Z ta η x) (h2 : SQ K Z tb η y) (hx : SeqAt.shaped x = true) (hy : SeqAt.shaped y = true) : SQ K Z (tOp (rNeD K) ta tb) η (.bool (!PyData.eqv x y)) :=
  se_op h1 h2 fun v1 v2 G H b d1 d2 Q q => ⟨x, y, dq_dp0 _ _ (SeqAt.canLay_of_shaped hx) (Dq.ex b.ex _ _ d1), dq_dp0 _ _ (SeqAt.canLay_of_shaped hy) (Dq.ex b.ex _ _ d2), hx, hy, q _ _ _ _ rfl (.refl b) (.bl _)⟩
theorem se_repr {x : PyData} (h1 : SQ K Z ta η x) (hs : Sv 300000 60 x) : SQ K Z (tCB (rReprV K) (tCons ta tNil)) η (.str x.shown) :=
  se_cb h1 fun v1 G H b d1 Q q => ⟨v1, x, rfl, Dq.ex b.ex _ _ d1, hs, q _ _ _ _ rfl (.refl b) (.str _)⟩
/-- tests -/
theorem st_b {c : Bool} (h : SQ K Z te η (.bool c)) : STQ K Z (tB te) η c := fun σ G H b s Q q =>
  h σ G H b s _ fun v1 d G1 H1 e1 s1 hd1 => by
    subst e1
    exact ⟨c, dq_bl hd1, q c G1 H1 rfl s1⟩
theorem st_t {c : Bool} (h : SQ K Z te η (.bool c)) : STQ K Z (tTest te) η c := fun σ G H b s Q q =>
  h σ G H b s _ fun v1 d G1 H1 e1 s1 hd1 => by
    subst e1
    exact ⟨c, dq_bl hd1, q c G1 H1 rfl s1⟩
theorem st_tR {Rb : Bool → Prop} (h : SE K Z te η (fun d => ∃ c, Rb c ∧ d = .bool c)) : ST K Z (tTest te) η Rb := fun σ G H b s Q q =>
  h σ G H b s _ fun v1 d G1 H1 e1 s1 hd1 => by
    obtain ⟨c, r, rfl⟩ := e1
    exact ⟨c, dq_bl hd1, q c G1 H1 r s1⟩
theorem st_yes : STQ K Z tYes η true := fun σ G H b s Q q => q true G H rfl (.refl b)
theorem st_and {t u : TT} {c d : Bool} (h1 : STQ K Z t η c) (h2 : c = true → STQ K Z u η d) : STQ K Z (tAnd t u) η (c && d) := fun σ G H b s Q q =>
  h1 σ G H b s _ fun x G1 H1 e1 s1 => by
    subst e1
    cases x with
    | false => exact iteF (q _ G1 H1 rfl s1)
    | true => exact iteT (h2 rfl σ G1 H1 (b.go s1) (s.ex s1.g) Q fun y G2 H2 e2 s2 => q y G2 H2 e2 (s1.trans s2))
theorem st_or {t u : TT} {c d : Bool} (h1 : STQ K Z t η c) (h2 : c = false → STQ K Z u η d) : STQ K Z (tOr t u) η (c || d) := fun σ G H b s Q q =>
  h1 σ G H b s _ fun x G1 H1 e1 s1 => by
    subst e1
    cases x with
    | true => exact iteT (q _ G1 H1 rfl s1)
    | false => exact iteF (h2 rfl σ G1 H1 (b.go s1) (s.ex s1.g) Q fun y G2 H2 e2 s2 => q y G2 H2 e2 (s1.trans s2))
theorem st_not {t : TT} {c : Bool} (h1 : STQ K Z t η c) : STQ K Z (tNot t) η (!c) := fun σ G H b s Q q =>
  h1 σ G H b s _ fun x G1 H1 e1 s1 => by
    subst e1
    exact q _ G1 H1 rfl s1
theorem se_andV {c : Bool} {d : Bool} (h1 : SQ K Z ta η (.bool c)) (h2 : c = true → SQ K Z tb η (.bool d)) : SQ K Z (tAndV ta tb) η (.bool (c && d)) := fun σ G H b s Q q =>
  h1 σ G H b s _ fun v x G1 H1 e1 s1 hd => by
    subst e1
    refine ⟨c, dq_bl hd, ?_⟩
    cases c with
    | false => exact iteF (q _ _ G1 H1 rfl s1 (.bl _))
    | true => exact iteT (h2 rfl σ G1 H1 (b.go s1) (s.ex s1.g) Q fun v y G2 H2 e2 s2 => q v y G2 H2 e2 (s1.trans s2))
theorem se_orV {c : Bool} {d : Bool} (h1 : SQ K Z ta η (.bool c)) (h2 : c = false → SQ K Z tb η (.bool d)) : SQ K Z (tOrV ta tb) η (.bool (c || d)) := fun σ G H b s Q q =>
  h1 σ G H b s _ fun v x G1 H1 e1 s1 hd => by
    subst e1
    refine ⟨c, dq_bl hd, ?_⟩
    cases c with
    | true => exact iteT (q _ _ G1 H1 rfl s1 (.bl _))
    | false => exact iteF (h2 rfl σ G1 H1 (b.go s1) (s.ex s1.g) Q fun v y G2 H2 e2 s2 => q v y G2 H2 e2 (s1.trans s2))
theorem se_notV {c : Bool} (h1 : SQ K Z ta η (.bool c)) : SQ K Z (tNotV ta) η (.bool (!c)) := fun σ G H b s Q q =>
  h1 σ G H b s _ fun v x G1 H1 e1 s1 hd => by
    subst e1
    exact ⟨c, dq_bl hd, q _ _ G1 H1 rfl s1 (.bl _)⟩
theorem se_if {tt : TT} {c : Bool} {d : PyData} (h : STQ K Z tt η c) (h1 : c = true → SQ K Z ta η d) (h2 : c = false → SQ K Z tb η d) : SQ K Z (tIf tt ta tb) η d := fun σ G H b s Q q =>
  h σ G H b s _ fun x G1 H1 e1 s1 => by
    subst e1
    cases x with
    | true => exact iteT (h1 rfl σ G1 H1 (b.go s1) (s.ex s1.g) Q fun v y G2 H2 e2 s2 => q v y G2 H2 e2 (s1.trans s2))
    | false => exact iteF (h2 rfl σ G1 H1 (b.go s1) (s.ex s1.g) Q fun v y G2 H2 e2 s2 => q v y G2 H2 e2 (s1.trans s2))
end
/-! ### calls -/
def SpD (K : PySem.W.Frag) (pre : List PyData → (PyData → Prop) → Prop) : Sp := fun vs H Q _ => ∃ G ds R, Bs none G H ∧ DqA K G vs ds ∧ pre ds R ∧ ∀ v d G' H', R d → Stp none G H G' H' → Dq K G' v d → Q v H'
def SpO (K : PySem.W.Frag) (pre : List PyData → (List PyData → Prop) → Prop) : Sp := fun vs H Q _ => ∃ G ds R, Bs none G H ∧ DqA K G vs ds ∧ pre ds R ∧ ∀ p us es G' H', R es → Stp none G H G' H' → H p = none → G' p = none → H' p = some (.lst us) → DqA K G' us es → Q (.ref p) H'
section
variable {K : PySem.W.Frag} {Z : Zk} {η : List Ent} {R : PyData → Prop}
theorem se_callR {pre : List PyData → (PyData → Prop) → Prop} {E : XK} {t : TA} {R1 : List PyData → Prop} (h1 : SA K Z t η R1) (hp : ∀ ds, R1 ds → pre ds R) : SE K Z (tCall (SpD K pre) [] E t) η R := fun σ G H b s Q q =>
  h1 σ G H b s _ fun vs ds G1 H1 r s1 ha => by
    have b1 := b.go s1
    rw [List.append_nil]
    exact ⟨G1, ds, R, b1.lift, ha, hp ds r, fun v d G' H' r' s2 hd => q v d G' H' r' (s1.trans (s2.lift b1)) hd⟩
theorem se_call {pre : List PyData → (PyData → Prop) → Prop} {E : XK} {t : TA} {ds : List PyData} (h1 : SAQ K Z t η ds) (hp : pre ds R) : SE K Z (tCall (SpD K pre) [] E t) η R := se_callR h1 fun es e => by rw [e]; exact hp
theorem so_call {pre : List PyData → (List PyData → Prop) → Prop} {E : XK} {t : TA} {ds : List PyData} {Rs : List PyData → Prop} (h1 : SAQ K Z t η ds) (hp : pre ds Rs) : SO K Z (tCall (SpO K pre) [] E t) η Rs := fun σ G H b s Q q =>
  h1 σ G H b s _ fun vs ds G1 H1 r s1 ha => by
    subst r
    have b1 := b.go s1
    rw [List.append_nil]
    refine ⟨G1, _, Rs, b1.lift, ha, hp, fun p us es G' H' r' s2 n1 n2 g hd => ?_⟩
    have np0 : H p = none := by
      by_cases c : p ∈ mz Z
      · exact absurd c (s1.d.ne n1)
      · cases e : H p with
        | none => rfl
        | some o => rw [s1.k p o e c] at n1; cases n1
    exact q p us es G' H' r' (s1.trans (s2.lift b1)) np0 n2 g hd
theorem FnOk.told {P : Program} {w : World} {mg : Str → Option Value} {base : Heap} {CX : CXT} {k : Nat} {f : Addr} {fd : FuncData} {ps : List Str} {pre : List PyData → (List PyData → Prop) → Prop} (F : FnOk P w K mg base CX k f fd ps (SpO K pre)) :
    FnOk P w K mg base CX k f fd ps (SpD K fun ds R => pre ds fun es => R (.list es)) := F.imp fun vs H Q E h => by
  obtain ⟨G, ds, R, b, ha, hp, q⟩ := h
  refine ⟨G, ds, _, b, ha, hp, fun p us es G' H' r s n1 n2 g hd => ?_⟩
  have ns : p ≠ sysModules := fun z => by
    subst z
    obtain ⟨o, e⟩ := (b.go s).sys
    rw [n2] at e
    cases e
  exact q _ _ _ _ r (s.tell n1 g n2 (by simp [mz])) (.lst upd_same ns (DqA.ex (Ex.new n2) _ _ hd))
end
/-! ### what is walked -/
def Feed (K : PySem.W.Frag) (Z : Zk) (J : It) (ds : List PyData) (G : Hp) : Prop := ∀ (i : Nat) (G1 H1 : Hp), Ex G G1 → Bs Z G1 H1 →
  (i = ds.length → J.stop i H1) ∧ ∀ d, ds[i]? = some d → J.go i H1 ∧ ∀ v H2, J.yld i H1 v H2 → ∃ G2, Stp Z G1 H1 G2 H2 ∧ Dq K G2 v d
def SI (K : PySem.W.Frag) (Z : Zk) (wi : TI) (η : List Ent) (R : List PyData → Prop) : Prop := ∀ (σ : L2.St) (G H : Hp), Bs Z G H → Sl K Z G σ η → ∀ Q : It → Hp → Prop, (∀ J ds G' H', R ds → Stp Z G H G' H' → Feed K Z J ds G' → Q J H') → wi σ H Q
abbrev SIQ (K : PySem.W.Frag) (Z : Zk) (wi : TI) (η : List Ent) (ds : List PyData) : Prop := SI K Z wi η (fun x => x = ds)
section
variable {K : PySem.W.Frag} {Z : Zk} {η : List Ent} {te : TE} {ta : TA}
theorem feed_of {J : It} {n : Nat} {Gp : Hp → Prop} {Y : Nat → Hp → V → Hp → Prop} {ds : List PyData} {G : Hp} (w : Walk J n Gp Y) (hn : ds.length = n) (hg : ∀ G1 H1, Ex G G1 → Bs Z G1 H1 → Gp H1)
    (hy : ∀ i d G1 H1 v H2, Ex G G1 → Bs Z G1 H1 → ds[i]? = some d → Y i H1 v H2 → ∃ G2, Stp Z G1 H1 G2 H2 ∧ Dq K G2 v d) : Feed K Z J ds G := fun i G1 H1 e b => by
  refine ⟨fun z => ?_, fun d hd => ?_⟩
  · rw [z, hn]
    exact w.stops H1 (hg G1 H1 e b)
  · have hi : i < n := by rw [← hn]; exact (List.getElem?_eq_some_iff.mp hd).1
    exact ⟨w.goes i H1 hi (hg G1 H1 e b), fun v H2 y => hy i d G1 H1 v H2 e b hd (w.yields i H1 v H2 hi (hg G1 H1 e b) y)⟩
theorem feed_at {J : It} {Gp : Hp → Prop} {xs : List V} {ds : List PyData} {G : Hp} (w : Walk J xs.length Gp (YAt xs)) (ha : DqA K G xs ds) (hg : ∀ G1 H1, Ex G G1 → Bs Z G1 H1 → Gp H1) : Feed K Z J ds G :=
  feed_of w ha.len.symm hg fun i d G1 H1 v H2 e b hd y => by
    obtain ⟨rfl, hv⟩ := y
    obtain ⟨v', h1, h2⟩ := ha.getD i hd
    have ev : v' = v := Option.some.inj (h1.symm.trans hv)
    subst ev
    exact ⟨G1, .refl b, Dq.ex e _ _ h2⟩
theorem si_list {R : List PyData → Prop} (h : SE K Z te η (fun d => ∃ ds, R ds ∧ d = .list ds)) : SI K Z (iList K te) η R := fun σ G H b s Q q =>
  h σ G H b s _ fun v d G1 H1 r s1 hd => by
    obtain ⟨ds, r, rfl⟩ := r
    obtain ⟨a, xs, rfl, ht, ha⟩ := dq_lst hd
    exact ⟨a, rfl, ⟨xs, ex_l s1.s ht⟩, q _ ds G1 H1 r s1 (feed_at walk_list ha fun G1 H1 e b => ex_l (e.trans b.ex) ht)⟩
theorem si_listQ {ds : List PyData} (h : SQ K Z te η (.list ds)) : SIQ K Z (iList K te) η ds := si_list (h.mono fun d e => ⟨ds, rfl, e⟩)
theorem si_tupQ {ds : List PyData} (h : SQ K Z te η (.tuple ds)) : SIQ K Z (iTup K te) η ds := fun σ G H b s Q q =>
  h σ G H b s _ fun v d G1 H1 r s1 hd => by
    subst r
    obtain ⟨a, xs, rfl, ht, ha⟩ := dq_tup hd
    exact ⟨a, rfl, ⟨xs, ex_t s1.s ht⟩, q _ ds G1 H1 rfl s1 (feed_at walk_tup ha fun G1 H1 e b => ex_t (e.trans b.ex) ht)⟩
theorem si_eq {wi : TI} {ds ds' : List PyData} (h : SIQ K Z wi η ds) (e : ds = ds') : SIQ K Z wi η ds' := e ▸ h
/-- lo, lo + c, .. -/
def rngD (lo c : Int) (n : Nat) : List PyData := (List.range n).map fun (i : Nat) => .int (lo + (i : Nat) * c)
theorem feed_rng {lo : Int} {n : Nat} {G : Hp} : Feed K Z (Itr lo n) (rngD lo 1 n) G :=
  feed_of walk_range (by unfold rngD; rw [List.length_map, List.length_range]) (fun _ _ _ _ => trivial) fun i d G1 H1 v H2 e b hd y => by
    obtain ⟨rfl, rfl⟩ := y
    unfold rngD at hd
    rw [List.getElem?_map] at hd
    have hi : i < n := by
      cases c : (List.range n)[i]? with
      | none => rw [c] at hd; cases hd
      | some z =>
        have := (List.getElem?_eq_some_iff.mp c).1
        rw [List.length_range] at this
        exact this
    rw [List.getElem?_range hi] at hd
    simp at hd
    subst hd
    exact ⟨G1, .refl b, .int _⟩
theorem feed_rngC {lo c : Int} {n : Nat} {G : Hp} : Feed K Z (Itc lo c n) (rngD lo c n) G :=
  feed_of walk_rangeC (by unfold rngD; rw [List.length_map, List.length_range]) (fun _ _ _ _ => trivial) fun i d G1 H1 v H2 e b hd y => by
    obtain ⟨rfl, rfl⟩ := y
    unfold rngD at hd
    rw [List.getElem?_map] at hd
    have hi : i < n := by
      cases c : (List.range n)[i]? with
      | none => rw [c] at hd; cases hd
      | some z =>
        have := (List.getElem?_eq_some_iff.mp c).1
        rw [List.length_range] at this
        exact this
    rw [List.getElem?_range hi] at hd
    simp at hd
    subst hd
    exact ⟨G1, .refl b, .int _⟩
theorem dqa1 {G : Hp} {vs : List V} {d : PyData} (h : DqA K G vs [d]) : ∃ v, vs = [v] ∧ Dq K G v d := by
  cases h with
  | cons a b => cases b; exact ⟨_, rfl, a⟩
theorem dqa2 {G : Hp} {vs : List V} {d e : PyData} (h : DqA K G vs [d, e]) : ∃ v u, vs = [v, u] ∧ Dq K G v d ∧ Dq K G u e := by
  cases h with
  | cons a b =>
    obtain ⟨u, rfl, h⟩ := dqa1 b
    exact ⟨_, u, rfl, a, h⟩
theorem dqa3 {G : Hp} {vs : List V} {d e f : PyData} (h : DqA K G vs [d, e, f]) : ∃ v u w, vs = [v, u, w] ∧ Dq K G v d ∧ Dq K G u e ∧ Dq K G w f := by
  cases h with
  | cons a b =>
    obtain ⟨u, w, rfl, h⟩ := dqa2 b
    exact ⟨_, u, w, rfl, a, h⟩
theorem si_rng1R {R1 : Int → Prop} (h : SA K Z ta η (fun x => ∃ j, R1 j ∧ x = [.int j])) (hb : ∀ j, R1 j → -(2 ^ 62) ≤ j ∧ j < 2 ^ 62) : SI K Z (iRng1 ta) η (fun ds => ∃ j, R1 j ∧ ds = rngD 0 1 j.toNat) := fun σ G H b s Q q =>
  h σ G H b s _ fun vs ds G1 H1 r s1 ha => by
    obtain ⟨j, r, rfl⟩ := r
    obtain ⟨v, rfl, hd⟩ := dqa1 ha
    have hj := hb j r
    exact ⟨j, by rw [dq_int hd], hj.1, hj.2, q _ _ G1 H1 ⟨j, r, rfl⟩ s1 feed_rng⟩
theorem si_rng1 {n : Nat} (h : SQ K Z te η (.int (n : Nat))) (hb : n ≤ 1000000) : SIQ K Z (iRng1 (tCons te tNil)) η (rngD 0 1 n) := fun σ G H b s Q q =>
  sa_cons h sa_nil σ G H b s _ fun vs ds G1 H1 r s1 ha => by
    subst r
    obtain ⟨v, rfl, hd⟩ := dqa1 ha
    refine ⟨n, by rw [dq_int hd], by omega, by omega, ?_⟩
    rw [Int.toNat_natCast]
    exact q _ _ G1 H1 rfl s1 feed_rng
theorem si_rng2 {i j : Int} (h : SAQ K Z ta η [.int i, .int j]) (hi : -1000000 ≤ i ∧ i ≤ 1000000) (hj : -1000000 ≤ j ∧ j ≤ 1000000) : SIQ K Z (iRng2 ta) η (rngD i 1 (j - i).toNat) := fun σ G H b s Q q =>
  h σ G H b s _ fun vs ds G1 H1 r s1 ha => by
    subst r
    obtain ⟨v, u, rfl, hd, he⟩ := dqa2 ha
    exact ⟨i, j, by rw [dq_int hd, dq_int he], ⟨by omega, by omega, by omega, by omega⟩, q _ _ G1 H1 rfl s1 feed_rng⟩
theorem si_rng3 {i j c : Int} {n : Nat} (h : SAQ K Z ta η [.int i, .int j, .int c]) (hr : RgC i j c n) : SIQ K Z (iRng3 ta) η (rngD i c n) := fun σ G H b s Q q =>
  h σ G H b s _ fun vs ds G1 H1 r s1 ha => by
    subst r
    obtain ⟨v, u, w, rfl, hd, he, hf⟩ := dqa3 ha
    exact ⟨i, j, c, n, by rw [dq_int hd, dq_int he, dq_int hf], hr, q _ _ G1 H1 rfl s1 feed_rngC⟩
/-- each item in a new pair behind its number -/
def enumD : Nat → List PyData → List PyData
  | _, [] => []
  | i, d :: ds => .tuple [.int (i : Nat), d] :: enumD (i + 1) ds
theorem enumD_len : ∀ (ds : List PyData) (i : Nat), (enumD i ds).length = ds.length
  | [], _ => rfl
  | d :: ds, i => by unfold enumD; rw [List.length_cons, List.length_cons, enumD_len ds]
theorem enumD_get : ∀ (ds : List PyData) (i j : Nat), (enumD i ds)[j]? = ds[j]?.map fun d => .tuple [.int ((i + j : Nat)), d]
  | [], _, _ => by unfold enumD; simp
  | d :: ds, i, 0 => by unfold enumD; simp
  | d :: ds, i, j + 1 => by
    unfold enumD
    rw [List.getElem?_cons_succ, List.getElem?_cons_succ, enumD_get ds (i + 1) j]
    have e : i + 1 + j = i + (j + 1) := by omega
    rw [e]
theorem feed_enum {J : It} {Gp : Hp → Prop} {xs : List V} {ds : List PyData} {G : Hp} (w : Walk J xs.length Gp (YPair (fun i => some (.int (i : Nat))) (fun i => xs[i]?))) (ha : DqA K G xs ds) (hg : ∀ G1 H1, Ex G G1 → Bs Z G1 H1 → Gp H1) : Feed K Z J (enumD 0 ds) G :=
  feed_of w (by rw [enumD_len, ha.len]) hg fun i d G1 H1 v H2 e b hd y => by
    obtain ⟨T, x, y, rfl, nT, rfl, ex, ey⟩ := y
    cases ex
    rw [enumD_get] at hd
    cases c : ds[i]? with
    | none => rw [c] at hd; cases hd
    | some d' =>
      rw [c] at hd
      simp at hd
      subst hd
      obtain ⟨v', h1, h2⟩ := ha.getD i c
      have ev : v' = y := Option.some.inj (h1.symm.trans ey)
      subst ev
      exact ⟨_, .new b nT, .tup (SqT.of upd_same) (.cons (.int _) (.cons (Dq.ex (e.trans (Ex.new (none_of b.ex nT))) _ _ h2) .nil))⟩
theorem si_enT {ds : List PyData} (h : SAQ K Z ta η [.tuple ds]) : SIQ K Z (iEnT K ta) η (enumD 0 ds) := fun σ G H b s Q q =>
  h σ G H b s _ fun vs es G1 H1 r s1 ha => by
    subst r
    obtain ⟨v, rfl, hd⟩ := dqa1 ha
    obtain ⟨a, xs, rfl, ht, hx⟩ := dq_tup hd
    exact ⟨a, xs, rfl, ex_t s1.s ht, q _ _ G1 H1 rfl s1 (feed_enum walkEnT hx fun G1 H1 e b => ex_t (e.trans b.ex) ht)⟩
theorem si_enL {ds : List PyData} (h : SAQ K Z ta η [.list ds]) : SIQ K Z (iEnum K ta) η (enumD 0 ds) := fun σ G H b s Q q =>
  h σ G H b s _ fun vs es G1 H1 r s1 ha => by
    subst r
    obtain ⟨v, rfl, hd⟩ := dqa1 ha
    obtain ⟨a, xs, rfl, ht, hx⟩ := dq_lst hd
    exact ⟨a, xs, rfl, ex_l s1.s ht, q _ _ G1 H1 rfl s1 (feed_enum walk_enum hx fun G1 H1 e b => ex_l (e.trans b.ex) ht)⟩
end
/-! ### targets -/
def setA : L2.St → List Nat → List V → L2.St
  | σ, i :: is, u :: us => setA (σ.set i (some u)) is us
  | σ, _, _ => σ
def setE : List Ent → List Nat → List PyData → List Ent
  | η, i :: is, d :: ds => setE (η.set i (.dat d)) is ds
  | η, _, _ => η
/-- a target: the slots, and what comes of the data -/
def SG (K : PySem.W.Frag) (g : TG) (is : List Nat) (un : PyData → List PyData → Prop) : Prop := ∀ (v : V) (d : PyData) (σ : L2.St) (G H : Hp) (ds : List PyData), Ex G H → Dq K G v d → un d ds → ∀ Q : L2.St → Hp → Prop,
  (∀ us, DqA K G us ds → us.length = is.length → Q (setA σ is us) H) → g v σ H Q
section
variable {K : PySem.W.Frag} {Z : Zk} {G H : Hp}
def un1 (d : PyData) (ds : List PyData) : Prop := ds = [d]
def unT (n : Nat) (d : PyData) (ds : List PyData) : Prop := d = .tuple ds ∧ ds.length = n
/-- i, (a, b) -/
def unN (d : PyData) (ds : List PyData) : Prop := ∃ x ys, ds = x :: ys ∧ ys.length = 2 ∧ d = .tuple [x, .tuple ys]
theorem len2 {α : Type} {xs : List α} (h : xs.length = 2) : ∃ x y, xs = [x, y] := by
  rcases xs with _ | ⟨x, _ | ⟨y, _ | ⟨z, r⟩⟩⟩
  · cases h
  · cases h
  · exact ⟨x, y, rfl⟩
  · simp at h
theorem len3 {α : Type} {xs : List α} (h : xs.length = 3) : ∃ x y z, xs = [x, y, z] := by
  rcases xs with _ | ⟨x, _ | ⟨y, _ | ⟨z, _ | ⟨w, r⟩⟩⟩⟩
  · cases h
  · cases h
  · cases h
  · exact ⟨x, y, z, rfl⟩
  · simp at h
theorem sg_name {i : Nat} : SG K (gName i) [i] un1 := fun v d σ G H ds e hd hu Q q => by
  cases hu
  exact q [v] (.cons hd .nil) rfl
theorem sg_pair {i j : Nat} : SG K (gTup K 2 (gCons (gName i) (gCons (gName j) gNil))) [i, j] (unT 2) := fun v d σ G H ds e hd hu Q q => by
  obtain ⟨rfl, hl⟩ := hu
  obtain ⟨a, xs, rfl, ht, ha⟩ := dq_tup hd
  obtain ⟨x, y, rfl⟩ := len2 (ha.len.trans hl)
  exact ⟨a, _, rfl, ex_t e ht, rfl, x, _, rfl, y, _, rfl, rfl, q [x, y] ha rfl⟩
theorem sg_triple {i j l : Nat} : SG K (gTup K 3 (gCons (gName i) (gCons (gName j) (gCons (gName l) gNil)))) [i, j, l] (unT 3) := fun v d σ G H ds e hd hu Q q => by
  obtain ⟨rfl, hl⟩ := hu
  obtain ⟨a, xs, rfl, ht, ha⟩ := dq_tup hd
  obtain ⟨x, y, z, rfl⟩ := len3 (ha.len.trans hl)
  exact ⟨a, _, rfl, ex_t e ht, rfl, x, _, rfl, y, _, rfl, z, _, rfl, rfl, q [x, y, z] ha rfl⟩
theorem sg_nest {i j l : Nat} : SG K (gTup K 2 (gCons (gName i) (gCons (gTup K 2 (gCons (gName j) (gCons (gName l) gNil))) gNil))) [i, j, l] unN := fun v d σ G H ds e hd hu Q q => by
  obtain ⟨x, ys, rfl, hl, rfl⟩ := hu
  obtain ⟨a, xs, rfl, ht, ha⟩ := dq_tup hd
  obtain ⟨v1, v2, rfl, h1, h2⟩ := dqa2 ha
  obtain ⟨b, zs, rfl, hu, hb⟩ := dq_tup h2
  obtain ⟨z1, z2, rfl⟩ := len2 (hb.len.trans hl)
  exact ⟨a, _, rfl, ex_t e ht, rfl, v1, _, rfl, _, _, rfl, ⟨b, _, rfl, ex_t e hu, rfl, z1, _, rfl, z2, _, rfl, rfl, rfl, q [v1, z1, z2] (.cons h1 hb) rfl⟩⟩
theorem Sl.setA : ∀ {is : List Nat} {us : List V} {ds : List PyData} {σ : L2.St} {η : List Ent}, Sl K Z G σ η → DqA K G us ds → Sl K Z G (FF.setA σ is us) (setE η is ds)
  | [], _, _, _, _, h, _ => by
    unfold FF.setA setE
    exact h
  | i :: is, [], _, _, _, h, ha => by
    cases ha
    exact h
  | i :: is, u :: us, _, σ, η, h, ha => by
    cases ha with
    | cons a b => exact Sl.setA (is := is) (h.set i a) b
theorem setA_len : ∀ (is : List Nat) (us : List V) (σ : L2.St), (setA σ is us).length = σ.length
  | [], _, _ => by unfold setA; rfl
  | i :: is, [], _ => by unfold setA; rfl
  | i :: is, u :: us, σ => by
    unfold setA
    rw [setA_len is us, List.length_set]
theorem wipe_get (σ : L2.St) (j : Nat) : ∀ vs : List Nat, (wipe σ vs)[j]? = if j ∈ vs then (if j < σ.length then some none else none) else σ[j]?
  | [] => by simp [wipe]
  | v :: vs => by
    unfold wipe
    by_cases c : v = j
    · subst c
      rw [if_pos (List.mem_cons_self ..)]
      by_cases d : v < σ.length
      · rw [if_pos d, List.getElem?_set_self (by rw [wipe_length]; exact d)]
      · rw [if_neg d, List.getElem?_eq_none]
        rw [List.length_set, wipe_length]
        omega
    · rw [List.getElem?_set_ne c, wipe_get σ j vs]
      by_cases d : j ∈ vs
      · rw [if_pos d, if_pos (List.mem_cons_of_mem _ d)]
      · rw [if_neg d, if_neg fun z => (List.mem_cons.mp z).elim (fun q => c q.symm) d]
theorem wipe_setA {vs : List Nat} : ∀ (is : List Nat) (us : List V) (σ : L2.St), (∀ i ∈ is, i ∈ vs) → wipe (setA σ is us) vs = wipe σ vs
  | [], _, _, _ => by unfold setA; rfl
  | i :: is, [], _, _ => by unfold setA; rfl
  | i :: is, u :: us, σ, h => by
    unfold setA
    rw [wipe_setA is us _ fun x hx => h x (List.mem_cons_of_mem _ hx)]
    refine List.ext_getElem? fun j => ?_
    rw [wipe_get, wipe_get, List.length_set]
    by_cases c : j ∈ vs
    · rw [if_pos c, if_pos c]
    · have ne : i ≠ j := fun z => c (z ▸ h i (List.mem_cons_self ..))
      rw [if_neg c, if_neg c, List.getElem?_set_ne ne]
theorem wipe_wipe (σ : L2.St) (vs : List Nat) : wipe (wipe σ vs) vs = wipe σ vs := by
  refine List.ext_getElem? fun j => ?_
  rw [wipe_get, wipe_get, wipe_length]
  by_cases c : j ∈ vs
  · rw [if_pos c, if_pos c]
  · rw [if_neg c, if_neg c]
end
/-! ### comprehensions -/
section
variable {K : PySem.W.Frag} {Z : Zk} {η : List Ent}
theorem Stp.mut {G H G' H' : Hp} {p : Addr} {xs : List V} {o : HO} (b : Bs Z G H) (s : Stp Z G H G' H') (n : H p = none) (n' : G' p = none) (g : H' p = some (.lst xs)) : Stp Z G H G' (upd H' p o) := by
  refine ⟨s.g, fun x u h => ?_, fun x u h c => ?_, s.n, ?_⟩
  · rw [upd_ne (ne_of_none h n')]
    exact s.s x u h
  · rw [upd_ne (ne_of_none h n)]
    exact s.k x u h c
  · have d := s.d
    have d0 := b.dk
    match Z, d, d0 with
    | none, _, _ => trivial
    | some (D, A, B), d, d0 =>
      obtain ⟨n1, n2, n3⟩ := d0.1.ne n
      exact ⟨d.1.put ⟨xs, g⟩ n1 n2 n3, d.2⟩
theorem so_lc {wi : TI} {g : TG} {tt : TT} {te : TE} {vs is : List Nat} {un : PyData → List PyData → Prop} {R0 : List PyData → Prop} (P : List PyData → Nat → List PyData → Prop) (hi : SI K Z wi η R0) (hg : SG K g is un) (his : ∀ i ∈ is, i ∈ vs)
    (h0 : ∀ ds, R0 ds → P ds 0 [])
    (hs : ∀ ds i d acc, R0 ds → ds[i]? = some d → P ds i acc → ∃ xs, un d xs ∧ xs.length = is.length ∧ ∃ Rb, ST K Z tt (setE (wipeE η vs) is xs) Rb ∧ (Rb false → P ds (i + 1) acc) ∧ (Rb true → acc.length < 100000 ∧ ∃ Re, SE K Z te (setE (wipeE η vs) is xs) Re ∧ ∀ e, Re e → P ds (i + 1) (acc ++ [e]))) :
    SO K Z (tLc wi g tt te vs) η (fun acc => ∃ ds, R0 ds ∧ P ds ds.length acc) := fun σ G H b s Q q =>
  hi σ G H b s _ fun J ds G0 H0 r s0 fd D nD => by
    have b0 := b.go s0
    have nD0 : H D = none := by
      by_cases c : D ∈ mz Z
      · exact absurd c (s0.d.ne nD)
      · cases e : H D with
        | none => rfl
        | some o => rw [s0.k D o e c] at nD; cases nD
    refine ⟨fun i m H' => m = ds.length - i ∧ i ≤ ds.length ∧ ∃ G' us acc, Stp Z G0 H0 G' H' ∧ G' D = none ∧ H' D = some (.lst us) ∧ DqA K G' us acc ∧ P ds i acc, ⟨ds.length, by simp, Nat.zero_le _, G0, [], [], .hide b0 nD, none_of b0.ex nD, upd_same, .nil, h0 ds r⟩, ?_⟩
    rintro i m H1 ⟨rfl, hile, G1, us, acc, s1, n1, g1, ha, p⟩
    have b1 := b0.go s1
    obtain ⟨hstop, hgo⟩ := fd i G1 H1 s1.g b1
    by_cases hlt : i < ds.length
    · obtain ⟨hgo1, hy⟩ := hgo _ (List.getElem?_eq_getElem hlt)
      refine .inr ⟨hgo1, fun H' => ∃ G' us acc, Stp Z G0 H0 G' H' ∧ G' D = none ∧ H' D = some (.lst us) ∧ DqA K G' us acc ∧ P ds (i + 1) acc, fun H' p' => ⟨ds.length - (i + 1), by omega, rfl, hlt, p'⟩, fun x H2 y => ?_⟩
      obtain ⟨G2, s2, hd⟩ := hy x H2 y
      have b2 := b1.go s2
      obtain ⟨xs, hu, hxl, Rb, ht, hf, htr⟩ := hs ds i _ acc r (List.getElem?_eq_getElem hlt) p
      refine hg x _ (wipe σ vs) G2 H2 xs b2.ex hd hu _ fun ws hw hwl => ⟨by rw [wipe_setA _ _ _ his, wipe_wipe], ?_⟩
      have sl : Sl K Z G2 (setA (wipe σ vs) is ws) (setE (wipeE η vs) is xs) := (((s.ex ((s0.g.trans s1.g).trans s2.g)).wipe vs).setA hw)
      have s02 := s1.trans s2
      refine ht _ G2 H2 b2 sl _ fun c G3 H3 rc s3 => ?_
      have s03 := s02.trans s3
      have b3 := b2.go s3
      have keep : ∀ {G' H' : Hp}, Stp Z G1 H1 G' H' → G' D = none ∧ H' D = some (.lst us) := fun st => ⟨st.n D _ n1 g1 rfl, st.k D _ g1 (b0.dk.ne nD)⟩
      cases c with
      | false =>
        refine iteF ?_
        obtain ⟨k1, k2⟩ := keep (s2.trans s3)
        exact ⟨G3, us, acc, s03, k1, k2, DqA.ex (s2.trans s3).g _ _ ha, hf rc⟩
      | true =>
        refine iteT ?_
        obtain ⟨hl, Re, he, hp⟩ := htr rc
        refine he _ G3 H3 b3 (sl.ex s3.g) _ fun y e G4 H4 re s4 hy4 => ?_
        have s14 := (s2.trans s3).trans s4
        have s04 := s03.trans s4
        obtain ⟨k1, k2⟩ := keep s14
        refine ⟨us, k2, by rw [ha.len]; exact sz_lt hl, G4, us ++ [y], acc ++ [e], ?_, k1, upd_same, (DqA.ex s14.g _ _ ha).app (.cons hy4 .nil), hp e re⟩
        exact s04.mut b0 nD k1 k2
    · have e : i = ds.length := by omega
      subst e
      exact .inl ⟨hstop rfl, q D us acc G1 H1 ⟨ds, r, p⟩ (s0.trans s1) nD0 n1 g1 ha⟩
/-- with no chance: the items told by x, the test by t, the elements by f -/
theorem so_lcM {α : Type} {wi : TI} {g : TG} {tt : TT} {te : TE} {vs is : List Nat} {un : PyData → List PyData → Prop} (xs : List α) (en : α → PyData) (sp : α → List PyData) (t : α → Bool) (f : α → PyData) (hi : SIQ K Z wi η (xs.map en)) (hg : SG K g is un) (his : ∀ i ∈ is, i ∈ vs)
    (hn : xs.length ≤ 100000) (hu : ∀ x ∈ xs, un (en x) (sp x) ∧ (sp x).length = is.length) (ht : ∀ x ∈ xs, STQ K Z tt (setE (wipeE η vs) is (sp x)) (t x)) (he : ∀ x ∈ xs, t x = true → SQ K Z te (setE (wipeE η vs) is (sp x)) (f x)) :
    SOQ K Z (tLc wi g tt te vs) η ((xs.filter t).map f) := by
  refine (so_lc (fun ds i acc => acc = ((xs.take i).filter t).map f) hi hg his (fun ds _ => rfl) fun ds i d acc hds hd hacc => ?_).mono fun acc h => ?_
  · subst hds hacc
    rw [List.getElem?_map] at hd
    cases c : xs[i]? with
    | none => rw [c] at hd; cases hd
    | some x =>
      rw [c] at hd
      simp at hd
      subst hd
      have hx := List.mem_of_getElem? c
      have hi : i < xs.length := (List.getElem?_eq_some_iff.mp c).1
      have tk : xs.take (i + 1) = xs.take i ++ [x] := by rw [List.take_add_one, c]; rfl
      refine ⟨sp x, (hu x hx).1, (hu x hx).2, _, ht x hx, fun e => ?_, fun e => ⟨?_, _, he x hx e.symm, fun y ey => ?_⟩⟩
      · rw [tk, List.filter_append, List.map_append, List.filter_cons, if_neg (by rw [← e]; decide)]
        simp
      · have h1 := List.length_filter_le t (xs.take i)
        rw [List.length_take] at h1
        rw [List.length_map]
        omega
      · rw [tk, List.filter_append, List.map_append, List.filter_cons, if_pos e.symm, ey]
        rfl
  · obtain ⟨ds, rfl, rfl⟩ := h
    rw [List.length_map, List.take_of_length_le (Nat.le_refl _)]
end
end FF
namespace FF
open PySem PySem.Spec PyProof.Rows L2 Evl
/-! ### statements: what each slot holds -/
inductive Cell where
  | e (n : Ent)
  | lst (ds : List PyData)
  | dc (P : Program) (w : World) (ks : List (List Int))
  | dm (ds : List (PyData × PyData))
def isOwn : Cell → Bool
  | .lst _ => true
  | .dc _ _ _ => true
  | .dm _ => true
  | _ => false
def hideC : Cell → Ent
  | .e n => n
  | .lst _ => .un
  | .dc _ _ _ => .un
  | .dm _ => .un
def viewC : Cell → Ent
  | .e n => n
  | .lst ds => .dat (.list ds)
  | .dc P w ks => .dc P w ks
  | .dm _ => .un
abbrev hideE (ρ : List Cell) : List Ent := ρ.map hideC
abbrev viewE (ρ : List Cell) : List Ent := ρ.map viewC
def CellOk (K : PySem.W.Frag) (Z : Zk) (H0 G H : Hp) (x : Option V) : Cell → Prop
  | .e n => EntOk K Z G x n
  | .lst ds => ∃ p us, x = some (.ref p) ∧ H p = some (.lst us) ∧ H0 p = none ∧ G p = none ∧ DqA K G us ds
  | .dc P w ks => ∃ p L, x = some (.ref p) ∧ H p = some (DcO P w p L) ∧ H0 p = none ∧ G p = none ∧ L.map (·.2) = ks ∧ ∀ q ∈ L, SqT K G q.1 (q.2.map V.int)
  | .dm ds => ∃ p kvs, x = some (.ref p) ∧ H p = some (.dK kvs) ∧ H0 p = none ∧ G p = none ∧ DqK K G kvs ds
structure Rel (K : PySem.W.Frag) (Z : Zk) (G0 H0 : Hp) (σ : L2.St) (ρ : List Cell) (G H : Hp) : Prop where
  st : Stp Z G0 H0 G H
  slots : ∀ (i : Nat) (c : Cell), ρ[i]? = some c → ∃ x, σ[i]? = some x ∧ CellOk K Z H0 G H x c
  ne : ∀ (i j : Nat) (c d : Cell) (p : Addr), i ≠ j → ρ[i]? = some c → ρ[j]? = some d → isOwn c = true → isOwn d = true → σ[i]? = some (some (.ref p)) → σ[j]? = some (some (.ref p)) → False
/-- values that need no heap -/
def atomD : PyData → Bool
  | .none => true
  | .bool _ => true
  | .int _ => true
  | .str _ => true
  | _ => false
section
variable {K : PySem.W.Frag} {Z : Zk} {G0 H0 G H G' H' : Hp} {σ : L2.St} {ρ : List Cell}
theorem dq_atom {d : PyData} {v : V} (h : Dq K G v d) (a : atomD d = true) (G' : Hp) : Dq K G' v d := by
  cases h with
  | non => exact .non
  | bl b => exact .bl b
  | int i => exact .int i
  | str x => exact .str x
  | lst _ _ _ => cases a
  | tup _ _ => cases a
  | dct _ _ => cases a
theorem CellOk.step {x : Option V} (b0 : Bs Z G0 H0) (s : Stp Z G H G' H') : ∀ {c : Cell}, CellOk K Z H0 G H x c → CellOk K Z H0 G' H' x c
  | .e n, h => EntOk.ex s.g h
  | .lst ds, h => by
    obtain ⟨p, us, e, g, n0, n, ha⟩ := h
    exact ⟨p, us, e, s.k p _ g (b0.dk.ne n0), n0, s.n p _ n g rfl, DqA.ex s.g _ _ ha⟩
  | .dc P w ks, h => by
    obtain ⟨p, L, e, g, n0, n, ek, ha⟩ := h
    exact ⟨p, L, e, s.k p _ g (b0.dk.ne n0), n0, s.n p _ n g rfl, ek, fun q hq => ex_t s.g (ha q hq)⟩
  | .dm ds, h => by
    obtain ⟨p, L, e, g, n0, n, ha⟩ := h
    exact ⟨p, L, e, s.k p _ g (b0.dk.ne n0), n0, s.n p _ n g rfl, DqK.ex s.g _ _ ha⟩
theorem Rel.bs (r : Rel K Z G0 H0 σ ρ G H) (b0 : Bs Z G0 H0) : Bs Z G H := b0.go r.st
theorem Rel.step (r : Rel K Z G0 H0 σ ρ G H) (b0 : Bs Z G0 H0) (s : Stp Z G H G' H') : Rel K Z G0 H0 σ ρ G' H' :=
  ⟨r.st.trans s, fun i c h => let ⟨x, h1, h2⟩ := r.slots i c h; ⟨x, h1, h2.step b0 s⟩, r.ne⟩
theorem Rel.sl (r : Rel K Z G0 H0 σ ρ G H) : Sl K Z G σ (hideE ρ) := fun i n hn => by
  rw [List.getElem?_map] at hn
  cases c : ρ[i]? with
  | none => rw [c] at hn; cases hn
  | some u =>
    rw [c] at hn
    have e : hideC u = n := Option.some.inj hn
    subst e
    obtain ⟨x, h1, h2⟩ := r.slots i u c
    refine ⟨x, h1, ?_⟩
    cases u with
    | e n => exact h2
    | lst ds => trivial
    | dc P w ks => trivial
    | dm ds => trivial
theorem get_set_self {α : Type} {l : List α} {i : Nat} {a c : α} (h : (l.set i a)[i]? = some c) : c = a ∧ i < l.length := by
  have hl : i < l.length := by
    have := (List.getElem?_eq_some_iff.mp h).1
    rw [List.length_set] at this
    exact this
  rw [List.getElem?_set_self hl] at h
  exact ⟨(Option.some.inj h).symm, hl⟩
theorem Rel.slot (r : Rel K Z G0 H0 σ ρ G H) {i : Nat} (h : i < ρ.length) : i < σ.length := by
  obtain ⟨x, h1, _⟩ := r.slots i _ (List.getElem?_eq_getElem h)
  exact (List.getElem?_eq_some_iff.mp h1).1
theorem Rel.set (r : Rel K Z G0 H0 σ ρ G H) (i : Nat) {v : V} {d : PyData} (hd : Dq K G v d) : Rel K Z G0 H0 (σ.set i (some v)) (ρ.set i (.e (.dat d))) G H := by
  refine ⟨r.st, fun j c h => ?_, fun j l c d' p n h1 h2 o1 o2 s1 s2 => ?_⟩
  · by_cases e : i = j
    · subst e
      obtain ⟨rfl, hl⟩ := get_set_self h
      exact ⟨some v, List.getElem?_set_self (r.slot hl), v, rfl, hd⟩
    · rw [List.getElem?_set_ne e] at h
      obtain ⟨x, h1, h2⟩ := r.slots j c h
      exact ⟨x, by rw [List.getElem?_set_ne e]; exact h1, h2⟩
  · have ne : ∀ {j : Nat} {c : Cell}, (ρ.set i (.e (.dat d)))[j]? = some c → isOwn c = true → i ≠ j := fun {j c} h o z => by
      subst z
      obtain ⟨rfl, _⟩ := get_set_self h
      cases o
    have e1 := ne h1 o1
    have e2 := ne h2 o2
    rw [List.getElem?_set_ne e1] at h1 s1
    rw [List.getElem?_set_ne e2] at h2 s2
    exact r.ne j l c d' p n h1 h2 o1 o2 s1 s2
/-- a slot gets a new list of its own -/
theorem Rel.setL (r : Rel K Z G0 H0 σ ρ G H) (i : Nat) {p : Addr} {us : List V} {ds : List PyData} (g : H p = some (.lst us)) (n0 : H0 p = none) (n : G p = none) (ha : DqA K G us ds)
    (fr : ∀ (j : Nat) (c : Cell), ρ[j]? = some c → isOwn c = true → σ[j]? ≠ some (some (.ref p))) : Rel K Z G0 H0 (σ.set i (some (.ref p))) (ρ.set i (.lst ds)) G H := by
  refine ⟨r.st, fun j c h => ?_, fun j l c d' q n h1 h2 o1 o2 s1 s2 => ?_⟩
  · by_cases e : i = j
    · subst e
      obtain ⟨rfl, hl⟩ := get_set_self h
      exact ⟨_, List.getElem?_set_self (r.slot hl), p, us, rfl, g, n0, n, ha⟩
    · rw [List.getElem?_set_ne e] at h
      obtain ⟨x, h1, h2⟩ := r.slots j c h
      exact ⟨x, by rw [List.getElem?_set_ne e]; exact h1, h2⟩
  · by_cases e1 : i = j
    · subst e1
      rw [List.getElem?_set_ne n] at h2 s2
      obtain ⟨_, hl⟩ := get_set_self h1
      rw [List.getElem?_set_self (r.slot hl)] at s1
      cases s1
      exact fr l d' h2 o2 s2
    · rw [List.getElem?_set_ne e1] at h1 s1
      by_cases e2 : i = l
      · subst e2
        obtain ⟨_, hl⟩ := get_set_self h2
        rw [List.getElem?_set_self (r.slot hl)] at s2
        cases s2
        exact fr j c h1 o1 s1
      · rw [List.getElem?_set_ne e2] at h2 s2
        exact r.ne j l c d' q n h1 h2 o1 o2 s1 s2
theorem Rel.lst (r : Rel K Z G0 H0 σ ρ G H) {i : Nat} {ds : List PyData} (h : ρ[i]? = some (.lst ds)) : ∃ p us, σ[i]? = some (some (.ref p)) ∧ H p = some (.lst us) ∧ H0 p = none ∧ G p = none ∧ DqA K G us ds := by
  obtain ⟨x, h1, p, us, rfl, q⟩ := r.slots i _ h
  exact ⟨p, us, h1, q⟩
theorem Rel.own (r : Rel K Z G0 H0 σ ρ G H) {i : Nat} {c : Cell} (h : ρ[i]? = some c) (o : isOwn c = true) : ∃ p u, σ[i]? = some (some (.ref p)) ∧ H p = some u ∧ H0 p = none ∧ G p = none := by
  obtain ⟨x, h1, h2⟩ := r.slots i c h
  cases c with
  | e n => cases o
  | lst ds =>
    obtain ⟨p, us, rfl, q1, q2, q3, _⟩ := h2
    exact ⟨p, _, h1, q1, q2, q3⟩
  | dc P w ks =>
    obtain ⟨p, L, rfl, q1, q2, q3, _⟩ := h2
    exact ⟨p, _, h1, q1, q2, q3⟩
  | dm ds =>
    obtain ⟨p, L, rfl, q1, q2, q3, _⟩ := h2
    exact ⟨p, _, h1, q1, q2, q3⟩
/-- an own list changes -/
theorem Rel.put (r : Rel K Z G0 H0 σ ρ G H) (b0 : Bs Z G0 H0) {i : Nat} {ds es : List PyData} (h : ρ[i]? = some (.lst ds)) {p : Addr} {us : List V} (hs : σ[i]? = some (some (.ref p))) (ha : DqA K G us es) : Rel K Z G0 H0 σ (ρ.set i (.lst es)) G (upd H p (.lst us)) := by
  obtain ⟨p', us', h1, g, n0, n, _⟩ := r.lst h
  rw [h1] at hs
  cases hs
  refine ⟨r.st.mut b0 n0 n g, fun j c hc => ?_, fun j l c d' q nn hc1 hc2 o1 o2 s1 s2 => ?_⟩
  · by_cases e : i = j
    · subst e
      obtain ⟨rfl, hl⟩ := get_set_self hc
      exact ⟨_, h1, p, us, rfl, upd_same, n0, n, ha⟩
    · rw [List.getElem?_set_ne e] at hc
      obtain ⟨x, h3, h4⟩ := r.slots j c hc
      refine ⟨x, h3, ?_⟩
      cases c with
      | e m => exact h4
      | lst fs =>
        obtain ⟨q, vs, rfl, q1, q2, q3, q4⟩ := h4
        refine ⟨q, vs, rfl, ?_, q2, q3, q4⟩
        rw [upd_ne (fun z => ?_)]
        · exact q1
        · subst z
          exact r.ne i j _ _ q e h hc rfl rfl h1 h3
      | dc P w ks =>
        obtain ⟨q, L, rfl, q1, q2, q3, q4⟩ := h4
        refine ⟨q, L, rfl, ?_, q2, q3, q4⟩
        rw [upd_ne (fun z => ?_)]
        · exact q1
        · subst z
          exact r.ne i j _ _ q e h hc rfl rfl h1 h3
      | dm fs =>
        obtain ⟨q, L, rfl, q1, q2, q3, q4⟩ := h4
        refine ⟨q, L, rfl, ?_, q2, q3, q4⟩
        rw [upd_ne (fun z => ?_)]
        · exact q1
        · subst z
          exact r.ne i j _ _ q e h hc rfl rfl h1 h3
  · have back : ∀ {j : Nat} {c : Cell}, (ρ.set i (.lst es))[j]? = some c → isOwn c = true → ∃ c', ρ[j]? = some c' ∧ isOwn c' = true := fun {j c} hh oo => by
      by_cases e : i = j
      · subst e
        exact ⟨_, h, rfl⟩
      · rw [List.getElem?_set_ne e] at hh
        exact ⟨c, hh, oo⟩
    obtain ⟨c1, k1, k2⟩ := back hc1 o1
    obtain ⟨c2, k3, k4⟩ := back hc2 o2
    exact r.ne j l c1 c2 q nn k1 k3 k2 k4 s1 s2
/-- an own list is told from now on -/
theorem Rel.tell (r : Rel K Z G0 H0 σ ρ G H) (b0 : Bs Z G0 H0) {i : Nat} {ds : List PyData} (h : ρ[i]? = some (.lst ds)) : ∃ G', Ex G G' ∧ Rel K Z G0 H0 σ (ρ.set i (.e (.dat (.list ds)))) G' H := by
  obtain ⟨p, us, h1, g, n0, n, ha⟩ := r.lst h
  have ns : p ≠ sysModules := fun z => by
    subst z
    obtain ⟨o, e⟩ := (r.bs b0).sys
    rw [n] at e
    cases e
  have e : Ex G (upd G p (.lst us)) := Ex.new n
  refine ⟨upd G p (.lst us), e, r.st.tell n0 g n (b0.dk.ne n0), fun j c hc => ?_, fun j l c d' q nn hc1 hc2 o1 o2 s1 s2 => ?_⟩
  · by_cases ei : i = j
    · subst ei
      obtain ⟨rfl, hl⟩ := get_set_self hc
      exact ⟨_, h1, _, rfl, .lst upd_same ns (DqA.ex e _ _ ha)⟩
    · rw [List.getElem?_set_ne ei] at hc
      obtain ⟨x, h3, h4⟩ := r.slots j c hc
      refine ⟨x, h3, ?_⟩
      cases c with
      | e m => exact EntOk.ex e h4
      | lst fs =>
        obtain ⟨q, vs, rfl, q1, q2, q3, q4⟩ := h4
        refine ⟨q, vs, rfl, q1, q2, ?_, DqA.ex e _ _ q4⟩
        rw [upd_ne (fun z => ?_)]
        · exact q3
        · subst z
          exact r.ne i j _ _ q ei h hc rfl rfl h1 h3
      | dc P w ks =>
        obtain ⟨q, L, rfl, q1, q2, q3, q4, q5⟩ := h4
        refine ⟨q, L, rfl, q1, q2, ?_, q4, fun x hx => ex_t e (q5 x hx)⟩
        rw [upd_ne (fun z => ?_)]
        · exact q3
        · subst z
          exact r.ne i j _ _ q ei h hc rfl rfl h1 h3
      | dm fs =>
        obtain ⟨q, L, rfl, q1, q2, q3, q4⟩ := h4
        refine ⟨q, L, rfl, q1, q2, ?_, DqK.ex e _ _ q4⟩
        rw [upd_ne (fun z => ?_)]
        · exact q3
        · subst z
          exact r.ne i j _ _ q ei h hc rfl rfl h1 h3
  · have back : ∀ {j : Nat} {c : Cell}, (ρ.set i (.e (.dat (.list ds))))[j]? = some c → isOwn c = true → ρ[j]? = some c := fun {j c} hh oo => by
      by_cases e : i = j
      · subst e
        obtain ⟨rfl, _⟩ := get_set_self hh
        cases oo
      · rw [List.getElem?_set_ne e] at hh
        exact hh
    exact r.ne j l c d' q nn (back hc1 o1) (back hc2 o2) o1 o2 s1 s2
/-- all own lists seen as they stand -/
theorem Rel.view (r : Rel K Z G0 H0 σ ρ G H) (b0 : Bs Z G0 H0) : ∃ W, Ex G W ∧ Stp Z G0 H0 W H ∧ Sl K Z W σ (viewE ρ) ∧ ∀ W' H', Stp Z W H W' H' → Stp Z G H G H' := by
  have b := r.bs b0
  let own : Addr → Prop := fun a => ∃ (i : Nat) (c : Cell), ρ[i]? = some c ∧ isOwn c = true ∧ σ[i]? = some (some (.ref a))
  have dec : ∀ a, Decidable (own a) := fun a => Classical.propDecidable _
  have of : ∀ a, own a → ∃ us, H a = some us ∧ H0 a = none ∧ G a = none := fun a ⟨i, ds, h1, ho, h2⟩ => by
    obtain ⟨p, us, h3, h4, h5, h6⟩ := r.own h1 ho
    rw [h2] at h3
    cases h3
    exact ⟨us, h4, h5, h6⟩
  let W : Hp := fun a => if own a then H a else G a
  have wy : ∀ a, own a → W a = H a := fun a o => if_pos o
  have wn : ∀ a, ¬ own a → W a = G a := fun a o => if_neg o
  have eW : Ex G W := fun a o h => by
    rw [wn a fun z => ?_]
    · exact h
    · obtain ⟨_, _, _, n⟩ := of a z
      rw [n] at h
      cases h
  have eH : Ex W H := fun a o h => by
    by_cases c : own a
    · rw [wy a c] at h; exact h
    · rw [wn a c] at h; exact b.ex a o h
  have dz : ∀ G1 H1 : Hp, Dz Z G1 H1 → Dz Z G H1 := fun G1 H1 d => by
    have d2 := b.dk
    match Z, d, d2 with
    | none, _, _ => trivial
    | some (D, A, B), d, d2 => exact ⟨d.1, d2.2⟩
  have dW : Dz Z W H := by
    have d2 := b.dk
    have d3 := b0.dk
    match Z, d2, d3 with
    | none, _, _ => trivial
    | some (D, A, B), d2, d3 =>
      refine ⟨d2.1, ?_, ?_⟩
      · rw [wn D fun z => ?_]
        · exact d2.2.1
        · obtain ⟨_, _, n0, _⟩ := of D z
          exact (d3.1.ne n0).1 rfl
      · rw [wn A fun z => ?_]
        · exact d2.2.2
        · obtain ⟨_, _, n0, _⟩ := of A z
          exact (d3.1.ne n0).2.1 rfl
  refine ⟨W, eW, ⟨r.st.g.trans eW, eH, r.st.k, fun a u h1 h2 h3 => ?_, dW⟩, fun i n hn => ?_, fun W' H' s => ⟨Ex.refl _, (eW.trans s.g).trans s.s, s.k, fun _ _ h _ _ => h, dz _ _ s.d⟩⟩
  · rw [wn a fun z => ?_]
    · exact r.st.n a u h1 h2 h3
    · obtain ⟨_, _, n0, _⟩ := of a z
      rw [n0] at h2
      cases h2
  · rw [List.getElem?_map] at hn
    cases c : ρ[i]? with
    | none => rw [c] at hn; cases hn
    | some u =>
      rw [c] at hn
      have e : viewC u = n := Option.some.inj hn
      subst e
      obtain ⟨x, h1, h2⟩ := r.slots i u c
      refine ⟨x, h1, ?_⟩
      cases u with
      | e n => exact EntOk.ex eW h2
      | lst ds =>
        obtain ⟨p, us, rfl, q1, q2, q3, q4⟩ := h2
        have ns : p ≠ sysModules := fun z => by
          subst z
          obtain ⟨o, e⟩ := b.sys
          rw [q3] at e
          cases e
        exact ⟨_, rfl, .lst ((wy p ⟨i, _, c, rfl, h1⟩).trans q1) ns (DqA.ex eW _ _ q4)⟩
      | dc P w ks =>
        obtain ⟨p, L, rfl, q1, q2, q3, q4, q5⟩ := h2
        exact ⟨p, L, rfl, (wy p ⟨i, _, c, rfl, h1⟩).trans q1, q4, fun x hx => ex_t eW (q5 x hx)⟩
      | dm ds => trivial
end
/-- what is wanted at a def's ways out -/
structure Eo where
  rt : PyData → Prop
  ro : List PyData → Prop := fun _ => False
  bk : List Cell → Prop := fun _ => False
  ct : List Cell → Prop := fun _ => False
structure EndsOk (K : PySem.W.Frag) (Z : Zk) (G0 H0 Gb : Hp) (D : Ends) (E : Eo) : Prop where
  rt : ∀ v d G H, E.rt d → Stp Z G0 H0 G H → Dq K G v d → D.rt v H
  ro : ∀ p us ds G H, E.ro ds → Stp Z G0 H0 G H → H0 p = none → G p = none → H p = some (.lst us) → DqA K G us ds → D.rt (.ref p) H
  bk : ∀ σ ρ G H, E.bk ρ → Ex Gb G → Rel K Z G0 H0 σ ρ G H → D.bk σ H
  ct : ∀ σ ρ G H, E.ct ρ → Ex Gb G → Rel K Z G0 H0 σ ρ G H → D.ct σ H
def SS (K : PySem.W.Frag) (Z : Zk) (t : TS) (ρ : List Cell) (N : List Cell → Prop) (E : Eo) : Prop := ∀ (G0 H0 Gb : Hp), Bs Z G0 H0 → ∀ D : Ends, EndsOk K Z G0 H0 Gb D E → (∀ σ ρ' G H, N ρ' → Ex Gb G → Rel K Z G0 H0 σ ρ' G H → D.nx σ H) →
  ∀ σ G H, Ex Gb G → Rel K Z G0 H0 σ ρ G H → t D σ H
section
variable {K : PySem.W.Frag} {Z : Zk} {ρ : List Cell} {N N' : List Cell → Prop} {E : Eo} {t u : TS} {te : TE}
theorem SS.mono (h : SS K Z t ρ N E) (hn : ∀ ρ', N ρ' → N' ρ') : SS K Z t ρ N' E := fun G0 H0 Gb b0 D e nx σ G H eb r => h G0 H0 Gb b0 D e (fun σ ρ' G H n eb r => nx σ ρ' G H (hn ρ' n) eb r) σ G H eb r
theorem ss_seq (h : SS K Z t ρ (fun ρ' => SS K Z u ρ' N E) E) : SS K Z (tSeq t u) ρ N E := fun G0 H0 Gb b0 D e nx σ G H eb r =>
  h G0 H0 Gb b0 { D with nx := u D } ⟨e.rt, e.ro, e.bk, e.ct⟩ (fun σ ρ' G H n eb r => n G0 H0 Gb b0 D e nx σ G H eb r) σ G H eb r
theorem ss_next (h : N ρ) : SS K Z tNext ρ N E := fun G0 H0 Gb b0 D e nx σ G H eb r => nx σ ρ G H h eb r
theorem ss_set {i : Nat} {R : PyData → Prop} (h : SE K Z te (hideE ρ) R) (k : ∀ d, R d → N (ρ.set i (.e (.dat d)))) : SS K Z (tAsg te (gName i)) ρ N E := fun G0 H0 Gb b0 D e nx σ G H eb r =>
  h σ G H (r.bs b0) r.sl _ fun v d G' H' rd s hd => nx _ _ G' H' (k d rd) (eb.trans s.g) ((r.step b0 s).set i hd)
theorem ss_setQ {i : Nat} {d : PyData} (h : SQ K Z te (hideE ρ) d) (k : N (ρ.set i (.e (.dat d)))) : SS K Z (tAsg te (gName i)) ρ N E := ss_set h fun x e => by rw [e]; exact k
/-- own lists may be looked at -/
theorem ss_setV {i : Nat} {R : PyData → Prop} (h : SE K Z te (viewE ρ) R) (ha : ∀ d, R d → atomD d = true) (k : ∀ d, R d → N (ρ.set i (.e (.dat d)))) : SS K Z (tAsg te (gName i)) ρ N E := fun G0 H0 Gb b0 D e nx σ G H eb r => by
  obtain ⟨W, eW, sW, sl, back⟩ := r.view b0
  exact h σ W H (b0.go sW) sl _ fun v d G' H' rd s hd => nx _ _ G H' (k d rd) eb ((r.step b0 (back _ _ s)).set i (dq_atom hd (ha d rd) G))
theorem ss_setL {i : Nat} {R : List PyData → Prop} (h : SO K Z te (hideE ρ) R) (k : ∀ ds, R ds → N (ρ.set i (.lst ds))) : SS K Z (tAsg te (gName i)) ρ N E := fun G0 H0 Gb b0 D e nx σ G H eb r =>
  h σ G H (r.bs b0) r.sl _ fun p vs ds G' H' rd s np n' g ha => by
    have n0 : H0 p = none := by
      by_cases c : p ∈ mz Z
      · exact absurd c ((r.bs b0).dk.ne np)
      · cases e : H0 p with
        | none => rfl
        | some o => rw [r.st.k p o e c] at np; cases np
    refine nx _ _ G' H' (k ds rd) (eb.trans s.g) ((r.step b0 s).setL i g n0 n' ha fun j c hc o hs => ?_)
    obtain ⟨q, us, h1, h2, _⟩ := r.own hc o
    rw [h1] at hs
    cases hs
    rw [np] at h2
    cases h2
theorem ss_setLQ {i : Nat} {ds : List PyData} (h : SOQ K Z te (hideE ρ) ds) (k : N (ρ.set i (.lst ds))) : SS K Z (tAsg te (gName i)) ρ N E := ss_setL h fun x e => by rw [e]; exact k
theorem ss_ret {R : PyData → Prop} (h : SE K Z te (viewE ρ) R) (k : ∀ d, R d → E.rt d) : SS K Z (tRet te) ρ N E := fun G0 H0 Gb b0 D e nx σ G H eb r => by
  obtain ⟨W, eW, sW, sl, back⟩ := r.view b0
  exact h σ W H (b0.go sW) sl _ fun v d G' H' rd s hd => e.rt v d G' H' (k d rd) (sW.trans s) hd
theorem ss_retQ {d : PyData} (h : SQ K Z te (viewE ρ) d) (k : E.rt d) : SS K Z (tRet te) ρ N E := ss_ret h fun x e => by rw [e]; exact k
theorem ss_retO {i : Nat} {ds : List PyData} (h : ρ[i]? = some (.lst ds)) (k : E.ro ds) : SS K Z (tRet (tVar i)) ρ N E := fun G0 H0 Gb b0 D e nx σ G H eb r => by
  obtain ⟨p, us, h1, g, n0, n, ha⟩ := r.lst h
  exact ⟨.ref p, h1, e.ro p us ds G H k r.st n0 n g ha⟩
theorem ss_retOe {R : List PyData → Prop} (h : SO K Z te (viewE ρ) R) (k : ∀ ds, R ds → E.ro ds) : SS K Z (tRet te) ρ N E := fun G0 H0 Gb b0 D e nx σ G H eb r => by
  obtain ⟨W, eW, sW, sl, back⟩ := r.view b0
  refine h σ W H (b0.go sW) sl _ fun p vs ds G' H' rd s np n' g ha => e.ro p vs ds G' H' (k ds rd) (sW.trans s) ?_ n' g ha
  by_cases c : p ∈ mz Z
  · exact absurd c ((b0.go sW).dk.ne np)
  · cases e : H0 p with
    | none => rfl
    | some o => rw [sW.k p o e c] at np; cases np
theorem ss_if {tt : TT} {Rb : Bool → Prop} (h : ST K Z tt (viewE ρ) Rb) (h1 : Rb true → SS K Z t ρ N E) (h2 : Rb false → SS K Z u ρ N E) : SS K Z (tIfS tt t u) ρ N E := fun G0 H0 Gb b0 D e nx σ G H eb r => by
  obtain ⟨W, eW, sW, sl, back⟩ := r.view b0
  refine h σ W H (b0.go sW) sl _ fun b G' H' rb s => ?_
  cases b with
  | true => exact iteT (h1 rb G0 H0 Gb b0 D e nx σ G H' eb (r.step b0 (back _ _ s)))
  | false => exact iteF (h2 rb G0 H0 Gb b0 D e nx σ G H' eb (r.step b0 (back _ _ s)))
theorem ss_ifQ {tt : TT} {b : Bool} (h : STQ K Z tt (viewE ρ) b) (h1 : b = true → SS K Z t ρ N E) (h2 : b = false → SS K Z u ρ N E) : SS K Z (tIfS tt t u) ρ N E := ss_if h (fun e => h1 e.symm) fun e => h2 e.symm
theorem ss_drop {R : PyData → Prop} (h : SE K Z te (viewE ρ) R) (k : N ρ) : SS K Z (tDrop te) ρ N E := fun G0 H0 Gb b0 D e nx σ G H eb r => by
  obtain ⟨W, eW, sW, sl, back⟩ := r.view b0
  exact h σ W H (b0.go sW) sl _ fun v d G' H' rd s hd => nx _ _ G H' k eb (r.step b0 (back _ _ s))
theorem ss_tell (i : Nat) {ds : List PyData} (h : ρ[i]? = some (.lst ds)) (k : SS K Z t (ρ.set i (.e (.dat (.list ds)))) N E) : SS K Z t ρ N E := fun G0 H0 Gb b0 D e nx σ G H eb r => by
  obtain ⟨G', eG, r'⟩ := r.tell b0 h
  exact k G0 H0 Gb b0 D e nx σ G' H (eb.trans eG) r'
/-- x.append(e) -/
theorem ss_app {i : Nat} {ds : List PyData} {R : PyData → Prop} (hi : ρ[i]? = some (.lst ds)) (h : SE K Z te (hideE ρ) R) (hl : ds.length < 100000) (k : ∀ d, R d → N (ρ.set i (.lst (ds ++ [d])))) : SS K Z (tDrop (tBM K "list" rAppend (tVar i) (tCons te tNil))) ρ N E := fun G0 H0 Gb b0 D e nx σ G H eb r => by
  obtain ⟨p, us, h1, g, n0, n, ha⟩ := r.lst hi
  refine ⟨.ref p, h1, .inl ⟨rfl, us, SqL.of g⟩, h σ G H (r.bs b0) r.sl _ fun v d G' H' rd s hd => ?_⟩
  have r' := r.step b0 s
  obtain ⟨p', us', h1', g', _, _, ha'⟩ := r'.lst hi
  rw [h1] at h1'
  cases h1'
  have eu : us' = us := by
    have := s.k p _ g (b0.dk.ne n0)
    rw [g'] at this
    cases this
    rfl
  subst eu
  exact ⟨p, us', v, rfl, rfl, g', by rw [ha'.len]; exact sz_lt hl, nx _ _ G' _ (k d rd) (eb.trans s.g) (r'.put b0 hi h1 (ha'.app (.cons hd .nil)))⟩
theorem ss_appV {i : Nat} {ds : List PyData} {R : PyData → Prop} (hi : ρ[i]? = some (.lst ds)) (h : SE K Z te (viewE ρ) R) (hat : ∀ d, R d → atomD d = true) (hl : ds.length < 100000) (k : ∀ d, R d → N (ρ.set i (.lst (ds ++ [d])))) : SS K Z (tDrop (tBM K "list" rAppend (tVar i) (tCons te tNil))) ρ N E := fun G0 H0 Gb b0 D e nx σ G H eb r => by
  obtain ⟨p, us, h1, g, n0, n, ha⟩ := r.lst hi
  obtain ⟨W, eW, sW, sl, back⟩ := r.view b0
  refine ⟨.ref p, h1, .inl ⟨rfl, us, SqL.of g⟩, h σ W H (b0.go sW) sl _ fun v d G' H' rd s hd => ?_⟩
  have r' := r.step b0 (back _ _ s)
  obtain ⟨p', us', h1', g', _, _, ha'⟩ := r'.lst hi
  rw [h1] at h1'
  cases h1'
  have eu : us' = us := by
    have := s.k p _ g (b0.dk.ne n0)
    rw [g'] at this
    cases this
    rfl
  subst eu
  exact ⟨p, us', v, rfl, rfl, g', by rw [ha'.len]; exact sz_lt hl, nx _ _ G _ (k d rd) eb (r'.put b0 hi h1 (ha'.app (.cons (dq_atom hd (hat d rd) G) .nil)))⟩
theorem dqa_set {H : Hp} : ∀ {vs : List V} {ds : List PyData} (j : Nat) {v : V} {d : PyData}, DqA K H vs ds → Dq K H v d → DqA K H (vs.set j v) (ds.set j d)
  | [], _, _, _, _, h, _ => by cases h; exact .nil
  | v :: vs, _, 0, _, _, h, hd => by
    cases h with
    | cons a b => exact .cons hd b
  | v :: vs, _, j + 1, _, _, h, hd => by
    cases h with
    | cons a b => exact .cons a (dqa_set j b hd)
/-- x[i] = e; own lists may be looked at, what is put is told apart from them -/
theorem ss_put {i : Nat} {ds : List PyData} {R : PyData → Prop} {ti : TE} {kk : Int} {j : Nat} (hi : ρ[i]? = some (.lst ds)) (h : SE K Z te (hideE ρ) R) (hix : SQ K Z ti (viewE ρ) (.int kk)) (hj : ixN ds.length kk = some j) (k : ∀ d, R d → N (ρ.set i (.lst (ds.set j d)))) :
    SS K Z (tAsg te (gSub (tVar i) ti rSetL)) ρ N E := fun G0 H0 Gb b0 D e nx σ G H eb r =>
  h σ G H (r.bs b0) r.sl _ fun v d G1 H1 rd s1 hd => by
    have r1 := r.step b0 s1
    obtain ⟨W, eW, sW, sl, back⟩ := r1.view b0
    obtain ⟨p, us, h1, g, n0, n, ha⟩ := r1.lst hi
    refine ⟨.ref p, h1, hix σ W H1 (b0.go sW) sl _ fun v2 d2 G2 H2 e2 s2 hd2 => ?_⟩
    subst e2
    have g2 := s2.k p _ g (b0.dk.ne n0)
    exact ⟨p, us, kk, j, rfl, dq_int hd2, g2, by rw [ha.len]; exact hj, nx _ _ G1 _ (k d rd) (eb.trans s1.g) ((r1.step b0 (back _ _ s2)).put b0 hi h1 (dqa_set j ha hd))⟩
theorem ss_putV {i : Nat} {ds : List PyData} {R : PyData → Prop} {ti : TE} {kk : Int} {j : Nat} (hi : ρ[i]? = some (.lst ds)) (h : SE K Z te (viewE ρ) R) (hat : ∀ d, R d → atomD d = true) (hix : SQ K Z ti (viewE ρ) (.int kk)) (hj : ixN ds.length kk = some j) (k : ∀ d, R d → N (ρ.set i (.lst (ds.set j d)))) :
    SS K Z (tAsg te (gSub (tVar i) ti rSetL)) ρ N E := fun G0 H0 Gb b0 D e nx σ G H eb r => by
  obtain ⟨W0, eW0, sW0, sl0, back0⟩ := r.view b0
  refine h σ W0 H (b0.go sW0) sl0 _ fun v d G1 H1 rd s1 hd => ?_
  have r1 := r.step b0 (back0 _ _ s1)
  obtain ⟨W, eW, sW, sl, back⟩ := r1.view b0
  obtain ⟨p, us, h1, g, n0, n, ha⟩ := r1.lst hi
  refine ⟨.ref p, h1, hix σ W H1 (b0.go sW) sl _ fun v2 d2 G2 H2 e2 s2 hd2 => ?_⟩
  subst e2
  have g2 := s2.k p _ g (b0.dk.ne n0)
  exact ⟨p, us, kk, j, rfl, dq_int hd2, g2, by rw [ha.len]; exact hj, nx _ _ G _ (k d rd) eb ((r1.step b0 (back _ _ s2)).put b0 hi h1 (dqa_set j ha (dq_atom hd (hat d rd) G)))⟩
/-- x[i] += e, whole numbers -/
theorem ss_aug {i : Nat} {ds : List PyData} {ti : TE} {f : Int → Int → Int} {kk a b : Int} {j : Nat} (hi : ρ[i]? = some (.lst ds)) (hix : SQ K Z ti (viewE ρ) (.int kk)) (hj : ixN ds.length kk = some j) (hv : ds[j]? = some (.int a)) (h : SQ K Z te (viewE ρ) (.int b)) (k : N (ρ.set i (.lst (ds.set j (.int (f a b)))))) :
    SS K Z (tAugS (tVar i) ti te (rIxL K) (ipI f) rSetL) ρ N E := fun G0 H0 Gb b0 D e nx σ G H eb r => by
  obtain ⟨W, eW, sW, sl, back⟩ := r.view b0
  obtain ⟨p, us, h1, g, n0, n, ha⟩ := r.lst hi
  refine ⟨.ref p, h1, hix σ W H (b0.go sW) sl _ fun v2 d2 G2 H2 e2 s2 hd2 => ?_⟩
  subst e2
  have b2 := (b0.go sW).go s2
  have g2 := s2.k p _ g (b0.dk.ne n0)
  obtain ⟨v, hv1, hv2⟩ := ha.getD j hv
  have ev := dq_int hv2
  subst ev
  have hat : atI us kk = some (.int a) := by
    unfold atI
    rw [ha.len, hj]
    exact hv1
  refine ⟨p, us, kk, .int a, rfl, dq_int hd2, SqL.of g2, hat, h σ G2 H2 b2 (sl.ex s2.g) _ fun v3 d3 G3 H3 e3 s3 hd3 => ?_⟩
  subst e3
  have g3 := s3.k p _ g2 (b0.dk.ne n0)
  have r3 := r.step b0 (back _ _ (s2.trans s3))
  exact ⟨a, b, rfl, dq_int hd3, p, us, kk, j, rfl, dq_int hd2, g3, by rw [ha.len]; exact hj, nx _ _ G _ k eb (r3.put b0 hi h1 (dqa_set j ha (.int _)))⟩
/-- targets -/
def setC : List Cell → List Nat → List PyData → List Cell
  | ρ, i :: is, d :: ds => setC (ρ.set i (.e (.dat d))) is ds
  | ρ, _, _ => ρ
theorem Rel.setA {G0 H0 G H : Hp} : ∀ {is : List Nat} {us : List V} {ds : List PyData} {σ : L2.St} {ρ : List Cell}, Rel K Z G0 H0 σ ρ G H → DqA K G us ds → Rel K Z G0 H0 (FF.setA σ is us) (setC ρ is ds) G H
  | [], _, _, _, _, h, _ => by
    unfold FF.setA setC
    exact h
  | i :: is, [], _, _, _, h, ha => by
    cases ha
    exact h
  | i :: is, u :: us, _, σ, ρ, h, ha => by
    cases ha with
    | cons a b => exact Rel.setA (is := is) (h.set i a) b
theorem ss_unp {g : TG} {is : List Nat} {un : PyData → List PyData → Prop} {R : PyData → Prop} (hg : SG K g is un) (h : SE K Z te (hideE ρ) R) (k : ∀ d, R d → ∃ xs, un d xs ∧ N (setC ρ is xs)) : SS K Z (tAsg te g) ρ N E := fun G0 H0 Gb b0 D e nx σ G H eb r =>
  h σ G H (r.bs b0) r.sl _ fun v d G' H' rd s hd => by
    obtain ⟨xs, hu, hn⟩ := k d rd
    exact hg v d σ G' H' xs s.s hd hu _ fun us ha hl => nx _ _ G' H' hn (eb.trans s.g) ((r.step b0 s).setA ha)
/-- a, b = x, y -/
theorem ss_par {i j : Nat} {ta : TA} {R : List PyData → Prop} (h : SA K Z ta (hideE ρ) R) (k : ∀ ds, R ds → ∃ d1 d2, ds = [d1, d2] ∧ N ((ρ.set i (.e (.dat d1))).set j (.e (.dat d2)))) : SS K Z (tPar i j ta) ρ N E := fun G0 H0 Gb b0 D e nx σ G H eb r =>
  h σ G H (r.bs b0) r.sl _ fun vs ds G' H' rd s hd => by
    obtain ⟨d1, d2, rfl, hn⟩ := k ds rd
    obtain ⟨v, u, rfl, h1, h2⟩ := dqa2 hd
    exact ⟨v, u, rfl, nx _ _ G' H' hn (eb.trans s.g) (((r.step b0 s).set i h1).set j h2)⟩
theorem ss_for {wi : TI} {g : TG} {tb : TS} {is : List Nat} {un : PyData → List PyData → Prop} {R0 : List PyData → Prop} (I : List PyData → Nat → List Cell → Prop) (hi : SI K Z wi (hideE ρ) R0) (hg : SG K g is un) (h0 : ∀ ds, R0 ds → I ds 0 ρ)
    (hs : ∀ ds i d ρ', R0 ds → ds[i]? = some d → I ds i ρ' → ∃ xs, un d xs ∧ SS K Z tb (setC ρ' is xs) (I ds (i + 1)) { E with bk := N, ct := I ds (i + 1) }) (hn : ∀ ds ρ', R0 ds → I ds ds.length ρ' → N ρ') : SS K Z (tFor wi g tb) ρ N E := fun G0 H0 Gb b0 D e nx σ G H eb r =>
  hi σ G H (r.bs b0) r.sl _ fun J ds G1 H1 r0 s1 fd => by
    have r1 := r.step b0 s1
    refine ⟨fun i m σ' H' => m = ds.length - i ∧ i ≤ ds.length ∧ ∃ ρ' G', I ds i ρ' ∧ Ex G1 G' ∧ Rel K Z G0 H0 σ' ρ' G' H', ⟨ds.length, by simp, Nat.zero_le _, ρ, G1, h0 ds r0, Ex.refl _, r1⟩, ?_⟩
    rintro i m σ2 H2 ⟨rfl, hile, ρ2, G2, i2, e2, r2⟩
    have b2 := r2.bs b0
    obtain ⟨hstop, hgo⟩ := fd i G2 H2 e2 b2
    by_cases hlt : i < ds.length
    · obtain ⟨hgo1, hy⟩ := hgo _ (List.getElem?_eq_getElem hlt)
      refine .inr ⟨hgo1, fun σ' H' => ∃ ρ' G', I ds (i + 1) ρ' ∧ Ex G1 G' ∧ Rel K Z G0 H0 σ' ρ' G' H', fun σ' H' p' => ⟨ds.length - (i + 1), by omega, rfl, hlt, p'⟩, fun x H3 y => ?_⟩
      obtain ⟨G3, s3, hd⟩ := hy x H3 y
      obtain ⟨xs, hu, hb⟩ := hs ds i _ ρ2 r0 (List.getElem?_eq_getElem hlt) i2
      have r3 := r2.step b0 s3
      have b3 := r3.bs b0
      refine hg x _ σ2 G3 H3 xs b3.ex hd hu _ fun us ha hl => ?_
      have r4 := r3.setA (is := is) ha
      have e13 := e2.trans s3.g
      refine hb G0 H0 G1 b0 { D with nx := fun σ' H' => ∃ ρ' G', I ds (i + 1) ρ' ∧ Ex G1 G' ∧ Rel K Z G0 H0 σ' ρ' G' H', ct := fun σ' H' => ∃ ρ' G', I ds (i + 1) ρ' ∧ Ex G1 G' ∧ Rel K Z G0 H0 σ' ρ' G' H', bk := D.nx } ⟨e.rt, e.ro, fun σ ρ' G H n e' r' => nx σ ρ' G H n ((eb.trans s1.g).trans e') r', fun σ ρ' G H n e' r' => ⟨ρ', G, n, e', r'⟩⟩ (fun σ ρ' G H n e' r' => ⟨ρ', G, n, e', r'⟩) _ G3 H3 e13 r4
    · have ei : i = ds.length := by omega
      subst ei
      exact .inl ⟨hstop rfl, nx _ _ G2 H2 (hn ds ρ2 r0 i2) ((eb.trans s1.g).trans e2) r2⟩
theorem ss_while {tc : TT} {tb : TS} (I : List Cell → Prop) (μ : List Cell → Nat) (h0 : I ρ) (hs : ∀ ρ', I ρ' → ∃ Rb : Bool → Prop, ST K Z tc (viewE ρ') Rb ∧ (Rb true → SS K Z tb ρ' (fun ρ2 => I ρ2 ∧ μ ρ2 < μ ρ') { E with bk := N, ct := fun ρ2 => I ρ2 ∧ μ ρ2 < μ ρ' }) ∧ (Rb false → N ρ')) :
    SS K Z (tWhile tc tb) ρ N E := fun G0 H0 Gb b0 D e nx σ G H eb r => by
  refine ⟨fun m σ' H' => ∃ ρ' G', m = μ ρ' ∧ I ρ' ∧ Ex Gb G' ∧ Rel K Z G0 H0 σ' ρ' G' H', ⟨_, ρ, G, rfl, h0, eb, r⟩, ?_⟩
  rintro m σ1 H1 ⟨ρ1, G1, rfl, i1, e1, r1⟩
  obtain ⟨Rb, ht, hy, hn⟩ := hs ρ1 i1
  obtain ⟨W, eW, sW, sl, back⟩ := r1.view b0
  refine ht σ1 W H1 (b0.go sW) sl _ fun b G2 H2 rb s => ?_
  have r2 := r1.step b0 (back _ _ s)
  cases b with
  | false => exact iteF (nx _ _ G1 H2 (hn rb) e1 r2)
  | true =>
    refine iteT ⟨fun σ' H' => ∃ ρ' G', (I ρ' ∧ μ ρ' < μ ρ1) ∧ Ex Gb G' ∧ Rel K Z G0 H0 σ' ρ' G' H', fun σ' H' ⟨ρ', G', h1, h2, h3⟩ => ⟨μ ρ', h1.2, ρ', G', rfl, h1.1, h2, h3⟩, ?_⟩
    exact hy rb G0 H0 Gb b0 { D with nx := fun σ' H' => ∃ ρ' G', (I ρ' ∧ μ ρ' < μ ρ1) ∧ Ex Gb G' ∧ Rel K Z G0 H0 σ' ρ' G' H', ct := fun σ' H' => ∃ ρ' G', (I ρ' ∧ μ ρ' < μ ρ1) ∧ Ex Gb G' ∧ Rel K Z G0 H0 σ' ρ' G' H', bk := D.nx } ⟨e.rt, e.ro, fun σ ρ' G H n e' r' => nx σ ρ' G H n e' r', fun σ ρ' G H n e' r' => ⟨ρ', G, n, e', r'⟩⟩ (fun σ ρ' G H n e' r' => ⟨ρ', G, n, e', r'⟩) _ G1 H2 e1 r2
end
end FF
namespace FF
open PySem PySem.Spec PyProof.Rows L2 Evl
/-! ### defs -/
def startC (n : Nat) (ds : List PyData) : List Cell := ds.map (fun d => .e (.dat d)) ++ List.replicate (n - ds.length) (.e .un)
section
variable {K : PySem.W.Frag} {Z : Zk} {G H : Hp}
theorem rel_start {N : List Str} {vs : List V} {ds : List PyData} (b : Bs Z G H) (ha : DqA K G vs ds) : Rel K Z G H (start N vs) (startC N.length ds) G H := by
  have hl := ha.len
  have own : ∀ {i : Nat} {c : Cell}, (startC N.length ds)[i]? = some c → isOwn c = true → False := fun {i c} h o => by
    unfold startC at h
    have hm := List.mem_of_getElem? h
    rcases List.mem_append.mp hm with z | z
    · obtain ⟨d, _, rfl⟩ := List.mem_map.mp z
      cases o
    · have := List.eq_of_mem_replicate z
      subst this
      cases o
  refine ⟨.refl b, fun i c h => ?_, fun i j c d p n h1 h2 o1 o2 s1 s2 => own h1 o1⟩
  unfold startC at h
  unfold L2.start
  by_cases c1 : i < ds.length
  · rw [List.getElem?_append_left (by rw [List.length_map]; exact c1), List.getElem?_map, List.getElem?_eq_getElem c1] at h
    have e : c = .e (.dat ds[i]) := (Option.some.inj h).symm
    subst e
    obtain ⟨v, h1, h2⟩ := ha.getD i (List.getElem?_eq_getElem c1)
    exact ⟨some v, by rw [List.getElem?_append_left (by rw [List.length_map]; omega), List.getElem?_map, h1]; rfl, v, rfl, h2⟩
  · rw [List.getElem?_append_right (by rw [List.length_map]; omega), List.length_map] at h
    have hm := List.eq_of_mem_replicate (List.mem_of_getElem? h)
    subst hm
    have hk := (List.getElem?_eq_some_iff.mp h).1
    rw [List.length_replicate] at hk
    refine ⟨none, ?_, trivial⟩
    rw [List.getElem?_append_right (by rw [List.length_map]; omega), List.length_map, List.getElem?_replicate, if_pos (by omega)]
end
section
variable {P : Program} {w : World} {K : PySem.W.Frag} {mg : Str → Option Value} {base : Heap}
theorem ok_D {x qual : Str} {st : Stmt} {f : Addr} {fd : FuncData} {N ps : List Str} {k : Nat} {pre : List PyData → (PyData → Prop) → Prop} (F : Fun K x qual st f fd) (S : FnScope N ps (defScope st)) (hl : ∀ ds R, pre ds R → ds.length = ps.length)
    (hb : ∀ (cdv : Value) (A : Around) (outer : List Env) (s : Shared) (H : Hp) (E : XK), Room k (A.deeper (envOfC qual (defScope st) s.heap.objs.size f cdv)) →
      ∃ t, PSs (cxOf CX0 P w K mg base N qual (defScope st) f cdv A outer s H E).nox (defBody st) t ∧ ∀ ds R, pre ds R → SS K none t (startC N.length ds) (fun _ => R .none) { rt := R }) : FnOk P w K mg base CX0 (k + 1) f fd ps (SpD K pre) := by
  refine F.ok S (fun vs H Q E h => ?_) (fun cdv A outer s H vs Q E hr h => ?_)
  · obtain ⟨G, ds, R, b, ha, hp, _⟩ := h
    rw [ha.len, hl ds R hp]
  · obtain ⟨G, ds, R, b, ha, hp, q⟩ := h
    obtain ⟨t, ht, hs⟩ := hb cdv A outer s H E hr
    refine ⟨t, ht, hs ds R hp G H G b _ ⟨fun v d G' H' r s' hd => q v d G' H' r s' hd, fun _ _ _ _ _ r => r.elim, fun _ _ _ _ r => r.elim, fun _ _ _ _ r => r.elim⟩ (fun σ ρ' G' H' n e r => q .non .none G' H' n r.st .non) _ G H (Ex.refl _) (rel_start b ha)⟩
theorem ok_O {x qual : Str} {st : Stmt} {f : Addr} {fd : FuncData} {N ps : List Str} {k : Nat} {pre : List PyData → (List PyData → Prop) → Prop} (F : Fun K x qual st f fd) (S : FnScope N ps (defScope st)) (hl : ∀ ds R, pre ds R → ds.length = ps.length)
    (hb : ∀ (cdv : Value) (A : Around) (outer : List Env) (s : Shared) (H : Hp) (E : XK), Room k (A.deeper (envOfC qual (defScope st) s.heap.objs.size f cdv)) →
      ∃ t, PSs (cxOf CX0 P w K mg base N qual (defScope st) f cdv A outer s H E).nox (defBody st) t ∧ ∀ ds R, pre ds R → SS K none t (startC N.length ds) (fun _ => False) { rt := fun _ => False, ro := R }) : FnOk P w K mg base CX0 (k + 1) f fd ps (SpO K pre) := by
  refine F.ok S (fun vs H Q E h => ?_) (fun cdv A outer s H vs Q E hr h => ?_)
  · obtain ⟨G, ds, R, b, ha, hp, _⟩ := h
    rw [ha.len, hl ds R hp]
  · obtain ⟨G, ds, R, b, ha, hp, q⟩ := h
    obtain ⟨t, ht, hs⟩ := hb cdv A outer s H E hr
    refine ⟨t, ht, hs ds R hp G H G b _ ⟨fun _ _ _ _ r => r.elim, fun p us es G' H' r s' n0 n g ha => q p us es G' H' r s' n0 n g ha, fun _ _ _ _ r => r.elim, fun _ _ _ _ r => r.elim⟩ (fun σ ρ' G' H' n e r => n.elim) _ G H (Ex.refl _) (rel_start b ha)⟩
/-- the deck ahead of all -/
def SpZ (K : PySem.W.Frag) (pre : List PyData → (PyData → Prop) → Prop) : Sp := fun vs H Q _ => ∃ D A B G us ds R, vs = .ref D :: us ∧ Bs (some (D, A, B)) G H ∧ DqA K G us ds ∧ pre ds R ∧ ∀ v d G' H', R d → Stp (some (D, A, B)) G H G' H' → Dq K G' v d → Q v H'
def startZ (n : Nat) (ds : List PyData) : List Cell := .e .deck :: startC n ds
theorem rel_startZ {N : List Str} {n0 : Str} {vs : List V} {ds : List PyData} {G H : Hp} {D A B : Addr} (b : Bs (some (D, A, B)) G H) (ha : DqA K G vs ds) : Rel K (some (D, A, B)) G H (start (n0 :: N) (.ref D :: vs)) (startZ N.length ds) G H := by
  have r := rel_start (N := N) b ha
  have e : start (n0 :: N) (.ref D :: vs) = some (.ref D) :: start N vs := by
    unfold L2.start
    rw [List.length_cons, List.length_cons, Nat.add_sub_add_right]
    rfl
  rw [e]
  refine ⟨r.st, fun i c h => ?_, fun i j c d p n h1 h2 o1 o2 s1 s2 => ?_⟩
  · match i, h with
    | 0, h => cases h; exact ⟨_, rfl, D, A, B, rfl, rfl⟩
    | i + 1, h => exact r.slots i c h
  · match i, j, h1, h2 with
    | 0, _, h1, _ => cases h1; cases o1
    | _ + 1, 0, _, h2 => cases h2; cases o2
    | i + 1, j + 1, h1, h2 => exact r.ne i j c d p (fun z => n (by rw [z])) h1 h2 o1 o2 s1 s2
theorem ok_Z {x qual : Str} {st : Stmt} {f : Addr} {fd : FuncData} {n0 p0 : Str} {N ps : List Str} {k : Nat} {pre : List PyData → (PyData → Prop) → Prop} (F : Fun K x qual st f fd) (S : FnScope (n0 :: N) (p0 :: ps) (defScope st)) (hl : ∀ ds R, pre ds R → ds.length = ps.length)
    (hb : ∀ (cdv : Value) (A : Around) (outer : List Env) (s : Shared) (H : Hp) (E : XK), Room k (A.deeper (envOfC qual (defScope st) s.heap.objs.size f cdv)) →
      ∃ t, PSs (cxOf CX0 P w K mg base (n0 :: N) qual (defScope st) f cdv A outer s H E).nox (defBody st) t ∧ ∀ Z ds R, pre ds R → SS K Z t (startZ N.length ds) (fun _ => R .none) { rt := R }) : FnOk P w K mg base CX0 (k + 1) f fd (p0 :: ps) (SpZ K pre) := by
  refine F.ok S (fun vs H Q E h => ?_) (fun cdv A outer s H vs Q E hr h => ?_)
  · obtain ⟨D, A, B, G, us, ds, R, rfl, b, ha, hp, _⟩ := h
    rw [List.length_cons, List.length_cons, ha.len, hl ds R hp]
  · obtain ⟨D, A', B, G, us, ds, R, rfl, b, ha, hp, q⟩ := h
    obtain ⟨t, ht, hs⟩ := hb cdv A outer s H E hr
    refine ⟨t, ht, hs _ ds R hp G H G b _ ⟨fun v d G' H' r s' hd => q v d G' H' r s' hd, fun _ _ _ _ _ r => r.elim, fun _ _ _ _ r => r.elim, fun _ _ _ _ r => r.elim⟩ (fun σ ρ' G' H' n e r => q .non .none G' H' n r.st .non) _ G H (Ex.refl _) (rel_startZ b ha)⟩
end
section
variable {K : PySem.W.Frag} {Z : Zk} {η : List Ent} {R : PyData → Prop} {te : TE}
theorem se_callZR {pre : List PyData → (PyData → Prop) → Prop} {E : XK} {t : TA} {i : Nat} {R1 : List PyData → Prop} (hi : η[i]? = some .deck) (h1 : SA K Z t η R1) (hp : ∀ ds, R1 ds → pre ds R) : SE K Z (tCall (SpZ K pre) [] E (tCons (tVar i) t)) η R := fun σ G H b s Q q => by
  obtain ⟨x, hx, D, A, B, rfl, rfl⟩ := s i _ hi
  refine ⟨.ref D, hx, h1 σ G H b s _ fun vs ds G1 H1 r s1 ha => ?_⟩
  show SpZ K pre ((.ref D :: vs) ++ []) H1 Q E
  rw [List.append_nil]
  exact ⟨D, A, B, G1, vs, ds, R, rfl, b.go s1, ha, hp ds r, fun v d G' H' r' s2 hd => q v d G' H' r' (s1.trans s2) hd⟩
theorem se_callZ {pre : List PyData → (PyData → Prop) → Prop} {E : XK} {t : TA} {i : Nat} {ds : List PyData} (hi : η[i]? = some .deck) (h1 : SAQ K Z t η ds) (hp : pre ds R) : SE K Z (tCall (SpZ K pre) [] E (tCons (tVar i) t)) η R := se_callZR hi h1 fun es e => by rw [e]; exact hp
end
/-! ### draws, picks, boards -/
def spDraw : Sp := fun vs H Q _ => ∃ (D A B : Addr) (b : Int), vs = [.ref D, .int b] ∧ 1 ≤ b ∧ b < 1000000 ∧ Deck D A B H ∧
  ∀ r H', 0 ≤ r → r < b → Deck D A B H' → Kp D A H H' → Q (.int r) H'
def spPick (K : PySem.W.Frag) : Sp := fun vs H Q _ => ∃ (D A B I : Addr) (xs : List V), vs = [.ref D, .ref I] ∧ Deck D A B H ∧ (∀ H', Kp D A H H' → SqL K H' I xs) ∧ xs ≠ [] ∧ xs.length < 100000 ∧
  ∀ v H', v ∈ xs → Deck D A B H' → Kp D A H H' → Q v H'
def spDeck (K : PySem.W.Frag) : Sp := fun vs H Q _ => ∃ (a : Addr) (ns : List Int), vs = [.ref a] ∧ SqL K H a (ns.map V.int) ∧ ns.length ≤ 63 ∧ ∀ D A B H', Deck D A B H' → Ex H H' → H D = none → H A = none → Q (.ref D) H'
def spWay (K : PySem.W.Frag) : Sp := fun vs H Q _ => ∃ (T : Addr) (ps : List (Int × Int)) (a : Int), vs = [.ref T, .int a] ∧ RowAt K H T ps ∧ WF (ps.map (·.1)) ∧ 0 ≤ a ∧ a < ps.length ∧ ps.length ≤ 100 ∧
  RetL ((way (ps.map (·.1)) a).map V.int) H Q
def spBoard (K : PySem.W.Frag) : Sp := fun vs H Q _ => ∃ (D A B : Addr) (a b : Int), vs = [.ref D, .int a, .int b] ∧ Deck D A B H ∧ 1 ≤ a ∧ a ≤ 20 ∧ 0 ≤ b ∧ b ≤ 30 ∧
  ∀ bd fs ls H', WB fs ls → (fs.length : Int) ≤ a → (ls.length : Int) ≤ b → BoardAt K (hid D A H') bd fs ls → Deck D A B H' → Kp D A H H' → Q (.ref bd) H'
def preDraw : List PyData → (PyData → Prop) → Prop := fun ds R => ∃ b : Int, ds = [.int b] ∧ 1 ≤ b ∧ b < 1000000 ∧ ∀ r : Int, 0 ≤ r → r < b → R (.int r)
def prePick : List PyData → (PyData → Prop) → Prop := fun ds R => ∃ xs, ds = [.list xs] ∧ xs ≠ [] ∧ xs.length < 100000 ∧ ∀ d, d ∈ xs → R d
def pairD (p : Int × Int) : PyData := .tuple [.int p.1, .int p.2]
def boardD (fs ls : List (Int × Int)) : PyData := .tuple [.tuple (fs.map pairD), .tuple (ls.map pairD)]
def preBoard : List PyData → (PyData → Prop) → Prop := fun ds R => ∃ a b : Int, ds = [.int a, .int b] ∧ 1 ≤ a ∧ a ≤ 20 ∧ 0 ≤ b ∧ b ≤ 30 ∧ ∀ fs ls, WB fs ls → (fs.length : Int) ≤ a → (ls.length : Int) ≤ b → R (boardD fs ls)
section
variable {K : PySem.W.Frag} {D A B : Addr} {G H H' : Hp}
theorem stpKp (b : Bs (some (D, A, B)) G H) (dk : Deck D A B H') (kp : Kp D A H H') : Stp (some (D, A, B)) G H G H' := by
  refine ⟨Ex.refl _, fun x o h => ?_, fun x o h n => ?_, fun _ _ h _ _ => h, dk, b.dk.2⟩
  · refine kp x o (b.ex x o h) (fun z => ?_) fun z => ?_
    · rw [z, b.dk.2.1] at h; cases h
    · rw [z, b.dk.2.2] at h; cases h
  · have q : x ≠ D ∧ x ≠ A := by simpa [mz] using n
    exact kp x o h q.1 q.2
theorem PsAt.dqa {K : PySem.W.Frag} {H : Hp} : ∀ {vs : List V} {ps : List (Int × Int)}, PsAt K H vs ps → DqA K H vs (ps.map pairD)
  | [], [], _ => .nil
  | [], _ :: _, h => by have := h.1; simp at this
  | _ :: _, [], h => by have := h.1; simp at this
  | v :: vs, p :: ps, h => by
    obtain ⟨a, e1, e2⟩ := h.2 0 v p rfl rfl
    subst e1
    refine .cons (.tup e2 (.cons (.int _) (.cons (.int _) .nil))) (PsAt.dqa ⟨?_, fun i w q h1 h2 => h.2 (i + 1) w q (by simpa using h1) (by simpa using h2)⟩)
    have := h.1
    simpa using this
/-- all tuples that stand are told -/
def tupG (G H : Hp) : Hp := fun b => match H b with
  | some o => if isTupH o = true then some o else G b
  | none => G b
theorem tupG_t {b : Addr} {o : HO} (h : H b = some o) (t : isTupH o = true) : tupG G H b = some o := by
  unfold tupG
  rw [h]
  exact if_pos t
theorem tupG_n {b : Addr} (h : ∀ o, H b = some o → isTupH o = false) : tupG G H b = G b := by
  unfold tupG
  cases c : H b with
  | none => rfl
  | some o =>
    show (if isTupH o = true then some o else G b) = G b
    rw [if_neg (by rw [h o c]; decide)]
theorem tupG_some {b : Addr} {o : HO} (h : tupG G H b = some o) (e : Ex G H) : H b = some o := by
  unfold tupG at h
  cases c : H b with
  | none =>
    rw [c] at h
    have := e b o h
    rw [c] at this
    cases this
  | some u =>
    rw [c] at h
    by_cases t : isTupH u = true
    · rw [← h]; exact (if_pos t).symm
    · have h' : G b = some o := (if_neg t).symm.trans h
      rw [← c]
      exact e b o h'
theorem ex_tupG (e : Ex G H) : Ex G (tupG G H) := fun b o h => by
  have q := e b o h
  unfold tupG
  rw [q]
  by_cases t : isTupH o = true
  · exact if_pos t
  · exact (if_neg t).trans h
theorem stpTup (b : Bs (some (D, A, B)) G H) (dk : Deck D A B H') (kp : Kp D A H H') : Stp (some (D, A, B)) G H (tupG G H') H' := by
  have s := stpKp b dk kp
  obtain ⟨⟨gs, cs, n, g1, g2, g3, _⟩, _⟩ := id dk
  have nt : ∀ {x : Addr} {u : HO}, H' x = some u → isTupH u = false → ∀ o, H' x = some o → isTupH o = false := fun h t o h' => by rw [h] at h'; cases h'; exact t
  refine ⟨ex_tupG s.s, fun x o h => tupG_some h s.s, s.k, fun x u h1 h2 h3 => ?_, dk, ?_, ?_⟩
  · rw [tupG_n fun o h => ?_]
    · exact h1
    · by_cases c : x = D
      · subst c
        exact nt g1 rfl o h
      · by_cases c2 : x = A
        · subst c2
          exact nt g2 rfl o h
        · exact nt (kp x u h2 c c2) h3 o h
  · rw [tupG_n (nt g1 rfl)]; exact b.dk.2.1
  · rw [tupG_n (nt g2 rfl)]; exact b.dk.2.2
theorem sqT_tupG {a : Addr} {xs : List V} (h : SqT K H a xs) : SqT K (tupG G H) a xs := by
  rcases h with (h | ⟨o, h⟩) | h
  · exact .inl (.inl (tupG_t h rfl))
  · exact .inl (.inr ⟨o, tupG_t h rfl⟩)
  · exact .inr h
theorem psAt_tupG {vs : List V} {ps : List (Int × Int)} (h : PsAt K H vs ps) : PsAt K (tupG G H) vs ps := ⟨h.1, fun i v p h1 h2 => let ⟨a, e1, e2⟩ := h.2 i v p h1 h2; ⟨a, e1, sqT_tupG e2⟩⟩
theorem dq_board {bd : Addr} {fs ls : List (Int × Int)} (h : BoardAt K H bd fs ls) : Dq K (tupG G H) (.ref bd) (boardD fs ls) := by
  obtain ⟨F, L, vf, vl, h1, h2, h3, h4, h5⟩ := h
  exact .tup (sqT_tupG h1) (.cons (.tup (sqT_tupG h2) (psAt_tupG h3).dqa) (.cons (.tup (sqT_tupG h4) (psAt_tupG h5).dqa) .nil))
section
variable {P : Program} {w : World} {mg : Str → Option Value} {base : Heap} {CX : CXT} {k : Nat} {f : Addr} {fd : FuncData} {ps : List Str}
theorem drawZ (F : FnOk P w K mg base CX k f fd ps spDraw) : FnOk P w K mg base CX k f fd ps (SpZ K preDraw) := F.imp fun vs H Q E h => by
  obtain ⟨D, A, B, G, us, ds, R, rfl, b, ha, ⟨n, rfl, n1, n2, hr⟩, q⟩ := h
  obtain ⟨v, rfl, hd⟩ := dqa1 ha
  exact ⟨D, A, B, n, by rw [dq_int hd], n1, n2, b.dk.1, fun r H' r0 r1 dk kp => q _ _ _ _ (hr r r0 r1) (stpKp b dk kp) (.int r)⟩
theorem pickZ (F : FnOk P w K mg base CX k f fd ps (spPick K)) : FnOk P w K mg base CX k f fd ps (SpZ K prePick) := F.imp fun vs H Q E h => by
  obtain ⟨D, A, B, G, us, ds, R, rfl, b, ha, ⟨es, rfl, n1, n2, hr⟩, q⟩ := h
  obtain ⟨v, rfl, hd⟩ := dqa1 ha
  obtain ⟨a, xs, rfl, hx, hxs⟩ := dq_lst hd
  have hl := hxs.len
  refine ⟨D, A, B, a, xs, rfl, b.dk.1, fun H' kp => ex_l (fun x o h => kp x o (b.ex x o h) (fun z => ?_) fun z => ?_) hx, fun z => n1 ?_, by omega, fun v H' hv dk kp => ?_⟩
  · rw [z, b.dk.2.1] at h; cases h
  · rw [z, b.dk.2.2] at h; cases h
  · rw [z] at hl
    exact List.eq_nil_of_length_eq_zero hl.symm
  · obtain ⟨i, hi⟩ := List.getElem?_of_mem hv
    obtain ⟨d, h1, h2⟩ := hxs.get i hi
    exact q _ _ _ _ (hr d (List.mem_of_getElem? h1)) (stpKp b dk kp) h2
theorem boardZ (F : FnOk P w K mg base CX k f fd ps (spBoard K)) : FnOk P w K mg base CX k f fd ps (SpZ K preBoard) := F.imp fun vs H Q E h => by
  obtain ⟨D, A, B, G, us, ds, R, rfl, b, ha, ⟨m, n, rfl, m1, m2, n1, n2, hr⟩, q⟩ := h
  obtain ⟨v, u, rfl, hd, he⟩ := dqa2 ha
  exact ⟨D, A, B, m, n, by rw [dq_int hd, dq_int he], b.dk.1, m1, m2, n1, n2, fun bd fs ls H' wb q1 q2 hB dk kp => q _ _ _ _ (hr fs ls wb q1 q2) (stpTup b dk kp) (dq_board (hB.ex ex_hid))⟩
end
end
/-! ### the law -/
theorem law_start {K : PySem.W.Frag} {N : List Str} {a : Addr} {ns : List Int} {H : Hp} {E1 : XK} {u : TS} (hy : Sys H) (hS : SqL K H a (ns.map V.int)) (hl : ns.length ≤ 63) (hN : 2 ≤ N.length)
    (h : ∀ Z, SS K Z u (.e .un :: .e .deck :: List.replicate (N.length - 2) (.e .un)) (fun _ => False) { rt := fun d => d = .bool true }) :
    tSeq (tAsg (tCall (spDeck K) [] E1 (tCons (tVar 0) tNil)) (gName 1)) u { nx := fun _ _ => False, rt := fun v _ => v = .bl true } (start N [.ref a]) H := by
  refine ⟨.ref a, rfl, a, ns, rfl, hS, hl, fun D A B H' dk e nD nA => ?_⟩
  obtain ⟨o, ho⟩ := hy
  have hD : D ≠ sysModules := fun z => by rw [z, ho] at nD; cases nD
  have hA : A ≠ sysModules := fun z => by rw [z, ho] at nA; cases nA
  let G : Hp := fun b => if b = sysModules then some (.frz o (.own 0)) else none
  have b : Bs (some (D, A, B)) G H' := by
    refine ⟨fun x u h => ?_, ⟨o, if_pos rfl⟩, dk, if_neg hD, if_neg hA⟩
    by_cases c : x = sysModules
    · subst c
      have h' := (if_pos rfl).symm.trans h
      rw [← h']
      exact e _ _ ho
    · have h' := (if_neg c).symm.trans h
      cases h'
  obtain ⟨m, hm⟩ : ∃ m, N.length = m + 2 := ⟨N.length - 2, by omega⟩
  have es : (start N [.ref a]).set 1 (some (.ref D)) = some (.ref a) :: some (.ref D) :: List.replicate m none := by
    unfold L2.start
    rw [hm]
    show (some (V.ref a) :: List.replicate (m + 1) none).set 1 (some (.ref D)) = _
    rw [List.replicate_succ]
    rfl
  have em : N.length - 2 = m := by omega
  show u _ ((start N [.ref a]).set 1 (some (.ref D))) H'
  rw [es]
  have h := h (some (D, A, B))
  rw [em] at h
  have own : ∀ {i : Nat} {c : Cell}, (Cell.e .un :: .e .deck :: List.replicate m (.e .un))[i]? = some c → isOwn c = true → False := fun {i c} h o => by
    have hm := List.mem_of_getElem? h
    rcases List.mem_cons.mp hm with z | z
    · subst z; cases o
    · rcases List.mem_cons.mp z with z | z
      · subst z; cases o
      · have := List.eq_of_mem_replicate z
        subst this
        cases o
  refine h G H' G b _ ⟨fun v d G' H2 r s hd => ?_, fun _ _ _ _ _ r => r.elim, fun _ _ _ _ r => r.elim, fun _ _ _ _ r => r.elim⟩ (fun _ _ _ _ n => n.elim) _ G H' (Ex.refl _) ⟨.refl b, fun i c hc => ?_, fun i j c d p n h1 h2 o1 o2 s1 s2 => own h1 o1⟩
  · have r' : d = .bool true := r
    subst r'
    exact dq_bl hd
  · match i, hc with
    | 0, hc => cases hc; exact ⟨_, rfl, trivial⟩
    | 1, hc => cases hc; exact ⟨_, rfl, D, A, B, rfl, rfl⟩
    | i + 2, hc =>
      have hc' : (List.replicate m (Cell.e .un))[i]? = some c := hc
      have hk := (List.getElem?_eq_some_iff.mp hc').1
      rw [List.length_replicate] at hk
      have := List.eq_of_mem_replicate (List.mem_of_getElem? hc')
      subst this
      refine ⟨none, ?_, trivial⟩
      show (List.replicate m (none : Option V))[i]? = some none
      rw [List.getElem?_replicate, if_pos hk]
end FF
namespace FF
open PySem PySem.Spec PyProof.Rows L2 Evl
/-! ### a def that may be called -/
structure Cal (P : Program) (w : World) (K : PySem.W.Frag) (mg : Str → Option Value) (base : Heap) (k : Nat) (x : Str) (ps : List Str) (sp : Sp) : Prop where
  ex : ∃ f fd, FnOk P w K mg base CX0 k f fd ps sp ∧ Binds K fd ps [] ∧ mg x = some (.ref f) ∧ PySem.W.keepIn K (.ref f) = true
theorem Cal.mono {P : Program} {w : World} {K : PySem.W.Frag} {mg : Str → Option Value} {base : Heap} {j k : Nat} {x : Str} {ps : List Str} {sp : Sp} (c : Cal P w K mg base j x ps sp) (h : j ≤ k) : Cal P w K mg base k x ps sp :=
  let ⟨f, fd, F, r⟩ := c.ex; ⟨f, fd, F.mono h, r⟩
theorem Cal.imp {P : Program} {w : World} {K : PySem.W.Frag} {mg : Str → Option Value} {base : Heap} {k : Nat} {x : Str} {ps : List Str} {sp sp' : Sp} (c : Cal P w K mg base k x ps sp) (h : ∀ {f fd}, FnOk P w K mg base CX0 k f fd ps sp → FnOk P w K mg base CX0 k f fd ps sp') : Cal P w K mg base k x ps sp' :=
  let ⟨f, fd, F, r⟩ := c.ex; ⟨f, fd, h F, r⟩
theorem pe_cal {X : Cx} {x : Str} {p pos : Pos} {e : Expr} {es : List Expr} {k : Nat} {ps : List Str} {sp : Sp} {t : TA} (c : Cal X.prog X.w X.K X.mg X.base k x ps sp) (hr : Room k X.A) (hg : Gl X x) (ha : PA X (e :: es) t)
    (hdb : (x == ("__debug__" : Str)) = false := by decide) (he : starEach (e :: es) X.env = (false, eval e X.env) :: starEach es X.env := by rfl) (hpl : (backTo pos (starEach es X.env)).any (·.1) = false := by rfl) :
    PE X (.Call (.Name x p) (e :: es) [] pos) (tCall sp [] E0 t) := by
  obtain ⟨f, fd, F, hb, hm, hk⟩ := c.ex
  exact pe_call F hr hg hm hk hb .nil pass0 ha hdb he hpl
/-- a list's item, to be changed in place -/
theorem pget_list {X : Cx} : PGet X (rIxL X.K) := by
  intro pins s σ H o i ov iv Q I ro ri h
  obtain ⟨p, xs, k, z, rfl, rfl, hq, he, q⟩ := h
  cases ro
  obtain ⟨t, rfl⟩ := ri
  obtain ⟨its, r, pl, hz⟩ := I.list hq
  obtain ⟨j, h1, h2, h3, h4, h5⟩ := atI_get he
  obtain ⟨w, ew, rw'⟩ := r.get h2
  have hl := r.length
  have hn := line63
  have fin : EP X pins σ Q w s := ⟨z, H, I, rw', q⟩
  by_cases h0 : 0 ≤ k
  · have hj : k.toNat = j := by
      rw [seqIndex_of h0 h5] at h1
      exact Option.some.inj h1
    exact wpAny_getItem_list pl.isList h0 (by omega) (by rw [hj]; simpa using ew) fin
  · have hj : (k + (its.toArray.size : Int)).toNat = j := by
      rw [seqIndex_neg (by omega) h4] at h1
      rw [List.size_toArray, ← hl]
      exact Option.some.inj h1
    exact wpAny_getItem_list_neg pl.isList (by omega) (by rw [List.size_toArray]; omega) (by omega) (by rw [hj]; simpa using ew) fin
/-! ### further rules -/
def intsD (l : List Int) : List PyData := l.map PyData.int
abbrev intsT (l : List Int) : PyData := .tuple (l.map PyData.int)
abbrev intsL (l : List Int) : PyData := .list (l.map PyData.int)
def rngI (n : Nat) : List Int := (List.range n).map fun (i : Nat) => (i : Int)
theorem rngD_I {n : Nat} : rngD 0 1 n = (rngI n).map PyData.int := by
  unfold rngD rngI
  rw [List.map_map]
  refine List.map_congr_left fun i _ => ?_
  show PyData.int (0 + (i : Int) * 1) = PyData.int (i : Int)
  rw [Int.zero_add, Int.mul_one]
theorem rngI_len {n : Nat} : (rngI n).length = n := by unfold rngI; rw [List.length_map, List.length_range]
theorem rngI_mem {n : Nat} {x : Int} : x ∈ rngI n ↔ 0 ≤ x ∧ x < n := by
  unfold rngI
  rw [List.mem_map]
  constructor
  · rintro ⟨k, hk, rfl⟩
    have := List.mem_range.mp hk
    omega
  · rintro ⟨h1, h2⟩
    exact ⟨x.toNat, List.mem_range.mpr (by omega), by omega⟩
theorem rngI_get {n i : Nat} (h : i < n) : (rngI n)[i]? = some (i : Int) := by
  unfold rngI
  rw [List.getElem?_map, List.getElem?_range h]
  rfl
section
variable {K : PySem.W.Frag} {Z : Zk} {η : List Ent} {te ta tb : TE} {R R' : PyData → Prop}
theorem dqa_rep {H : Hp} {vs : List V} {ds : List PyData} (h : DqA K H vs ds) : ∀ n : Nat, DqA K H (List.replicate n vs).flatten (List.replicate n ds).flatten
  | 0 => .nil
  | n + 1 => by
    rw [List.replicate_succ, List.flatten_cons, List.replicate_succ, List.flatten_cons]
    exact h.app (dqa_rep h n)
def isNonD : PyData → Bool
  | .none => true
  | _ => false
theorem dq_isNon {H : Hp} {v : V} {d : PyData} (h : Dq K H v d) : decide (v = V.non) = isNonD d := by cases h <;> rfl
/-- [..] * n -/
theorem so_rep {ds : List PyData} {n : Nat} (h1 : SOQ K Z ta η ds) (h2 : SQ K Z tb η (.int (n : Nat))) (hn : ds.length * n ≤ 100000) (hn2 : n ≤ 100000) : SOQ K Z (tOp rRep ta tb) η (List.replicate n ds).flatten := fun σ G H b s Q q =>
  h1 σ G H b s _ fun p vs es G1 H1 r s1 np n' g ha => h2 σ G1 H1 (b.go s1) (s.ex s1.g) _ fun v d G2 H2 e2 s2 hd => by
    subst r e2
    have b2 := (b.go s1).go s2
    have g2 := s2.k p _ g (b.dk.ne np)
    refine ⟨p, (n : Int), vs, rfl, dq_int hd, g2, by omega, by omega, ?_, fun l nl => ?_⟩
    · rw [ha.len, Int.toNat_natCast]
      exact lenOk hn
    · rw [Int.toNat_natCast]
      have n0 : H l = none := by
        by_cases c : l ∈ mz Z
        · exact absurd c (b2.dk.ne nl)
        · cases e : H l with
          | none => rfl
          | some o => rw [(s1.trans s2).k l o e c] at nl; cases nl
      refine q l _ _ G2 _ rfl ((s1.trans s2).trans (.hide b2 nl)) n0 (none_of b2.ex nl) upd_same ?_
      exact dqa_rep (DqA.ex s2.g _ _ ha) n
theorem flat1 {α : Type} (x : α) : ∀ n : Nat, (List.replicate n [x]).flatten = List.replicate n x
  | 0 => rfl
  | n + 1 => by rw [List.replicate_succ, List.flatten_cons, flat1 x n]; rfl
/-- list(range(n)) -/
theorem so_listRg {n : Nat} (h : SQ K Z ta η (.int (n : Nat))) (hn : n ≤ 100000) : SOQ K Z (tLstRg (tRg1 ta)) η ((rngI n).map .int) := fun σ G H b s Q q =>
  h σ G H b s _ fun v d G1 H1 e1 s1 hd => by
    subst e1
    have b1 := b.go s1
    refine ⟨(n : Int), dq_int hd, RgOk.of_le (by decide) (by omega) (by decide) (by omega), fun l nl => ?_⟩
    have n0 : H l = none := by
      by_cases c : l ∈ mz Z
      · exact absurd c (b1.dk.ne nl)
      · cases e : H l with
        | none => rfl
        | some o => rw [s1.k l o e c] at nl; cases nl
    refine q l _ _ G1 _ rfl (s1.trans (.hide b1 nl)) n0 (none_of b1.ex nl) upd_same ?_
    have e : rgV 0 (n : Int) = (rngI n).map V.int := by
      unfold rgV rngI
      rw [List.map_map]
      have en : ((n : Int) - 0).toNat = n := by omega
      rw [en]
      refine List.map_congr_left fun i _ => ?_
      show V.int (0 + (i : Int)) = V.int (i : Int)
      rw [Int.zero_add]
    rw [e]
    exact ints_dqa
/-- l + m: two lists, a new one -/
theorem so_cat {ds es : List PyData} (h1 : SQ K Z ta η (.list ds)) (h2 : SQ K Z tb η (.list es)) (hl : ds.length + es.length ≤ 100000) : SOQ K Z (tOp rCat ta tb) η (ds ++ es) := fun σ G H b s Q q =>
  h1 σ G H b s _ fun v1 d1 G1 H1 e1 s1 hd1 => h2 σ G1 H1 (b.go s1) (s.ex s1.g) _ fun v2 d2 G2 H2 e2 s2 hd2 => by
    subst e1 e2
    have b2 := (b.go s1).go s2
    obtain ⟨a, xs, rfl, ga, hxs⟩ := dq_lstH (Dq.ex s2.g _ _ hd1)
    obtain ⟨c, ys, rfl, gc, hys⟩ := dq_lstH hd2
    refine ⟨a, c, xs, ys, rfl, rfl, b2.ex _ _ ga, b2.ex _ _ gc, ?_, fun l nl => ?_⟩
    · rw [hxs.len, hys.len]
      exact lenOk hl
    · have n0 : H l = none := by
        by_cases c : l ∈ mz Z
        · exact absurd c (b2.dk.ne nl)
        · cases e : H l with
          | none => rfl
          | some o => rw [(s1.trans s2).k l o e c] at nl; cases nl
      exact q l _ _ G2 _ rfl ((s1.trans s2).trans (.hide b2 nl)) n0 (none_of b2.ex nl) upd_same (hxs.app hys)
/-- t + u: two tuples -/
theorem se_catA {ds es : List PyData} (h1 : SQ K Z ta η (.tuple ds)) (h2 : SQ K Z tb η (.tuple es)) (hl : ds.length + es.length ≤ 100000) : SQ K Z (tOp (rCatA K) ta tb) η (.tuple (ds ++ es)) :=
  se_op h1 h2 fun v1 v2 G H b d1 d2 Q q => by
    have d1' := d1
    have d2' := d2
    obtain ⟨a, xs, rfl, ta', hxs⟩ := dq_tup d1
    obtain ⟨c, ys, rfl, tc', hys⟩ := dq_tup d2
    refine ⟨a, c, xs, ys, rfl, rfl, ex_t b.ex ta', ex_t b.ex tc', by rw [hxs.len, hys.len]; exact lenOk hl, fun z => ?_, fun z1 z2 => ?_, fun z1 z2 l nl => ?_⟩
    · subst z
      have dz : ds = [] := List.eq_nil_of_length_eq_zero hxs.len.symm
      subst dz
      exact q _ _ G H rfl (.refl b) d2'
    · subst z2
      have dz : es = [] := List.eq_nil_of_length_eq_zero hys.len.symm
      subst dz
      rw [List.append_nil] at q
      exact q _ _ G H rfl (.refl b) d1'
    · exact q _ _ _ _ rfl (.new b nl) (.tup (SqT.of upd_same) (DqA.ex (Ex.new (none_of b.ex nl)) _ _ (hxs.app hys)))
theorem se_max2 {i j : Int} (h : SAQ K Z (tCons ta (tCons tb tNil)) η [.int i, .int j]) : SQ K Z (tCB (fun xs H Q => ∃ i j, xs = [.int i, .int j] ∧ Q (.int (if j > i then j else i)) H) (tCons ta (tCons tb tNil))) η (.int (if j > i then j else i)) := fun σ G H b s Q q =>
  h σ G H b s _ fun vs ds G1 H1 r s1 ha => by
    subst r
    obtain ⟨v, u, rfl, hd, he⟩ := dqa2 ha
    exact ⟨i, j, by rw [dq_int hd, dq_int he], q _ _ G1 H1 rfl s1 (.int _)⟩
theorem se_isNon {d : PyData} (h : SQ K Z ta η d) (h2 : SQ K Z tb η .none) : SQ K Z (tOp (fun x y H Q => y = .non ∧ Q (.bl (decide (x = .non))) H) ta tb) η (.bool (isNonD d)) :=
  se_op h h2 fun v1 v2 G H b d1 d2 Q q => ⟨dq_non d2, by
    rw [dq_isNon d1]
    exact q _ _ G H rfl (.refl b) (.bl _)⟩
theorem se_notNon {d : PyData} (h : SQ K Z ta η d) (h2 : SQ K Z tb η .none) : SQ K Z (tOp (fun x y H Q => y = .non ∧ Q (.bl (!decide (x = .non))) H) ta tb) η (.bool (!isNonD d)) :=
  se_op h h2 fun v1 v2 G H b d1 d2 Q q => ⟨dq_non d2, by
    rw [dq_isNon d1]
    exact q _ _ G H rfl (.refl b) (.bl _)⟩
theorem dqa_bools {H : Hp} : ∀ {bs : List Bool} {vs : List V}, DqA K H vs (bs.map PyData.bool) → vs = bs.map V.bl
  | [], _, h => by cases h; rfl
  | n :: ns, _, h => by
    cases h with
    | cons a b => rw [dq_bl a, dqa_bools b]; rfl
theorem se_all {bs : List Bool} (h1 : SQ K Z ta η (.list (bs.map .bool))) : SQ K Z (tCB (rAll K) (tCons ta tNil)) η (.bool (bs.all id)) :=
  se_cb h1 fun v1 G H b d1 Q q => by
    obtain ⟨a, xs, rfl, ht, ha⟩ := dq_lst d1
    have e := dqa_bools ha
    subst e
    exact ⟨a, bs, rfl, ex_l b.ex ht, q _ _ _ _ rfl (.refl b) (.bl _)⟩
theorem se_any {bs : List Bool} (h1 : SQ K Z ta η (.list (bs.map .bool))) : SQ K Z (tCB (rAny K) (tCons ta tNil)) η (.bool (bs.any id)) :=
  se_cb h1 fun v1 G H b d1 Q q => by
    obtain ⟨a, xs, rfl, ht, ha⟩ := dq_lst d1
    have e := dqa_bools ha
    subst e
    exact ⟨a, bs, rfl, ex_l b.ex ht, q _ _ _ _ rfl (.refl b) (.bl _)⟩
end
end FF
namespace FF
open PySem PySem.Spec PyProof.Rows L2 Evl
/-! ### the mathematics of light and loads -/
theorem atI_m {α β : Type} {xs : List α} {f : α → β} {x : Int} {p : α} (h0 : 0 ≤ x) (h : xs[x.toNat]? = some p) : atI (xs.map f) x = some (f p) := by
  obtain ⟨k, rfl⟩ : ∃ k : Nat, x = (k : Int) := ⟨x.toNat, by omega⟩
  rw [Int.toNat_natCast] at h
  exact atI_nat (by rw [List.getElem?_map, h]; rfl)
theorem get_of {α : Type} {xs : List α} {x : Int} (h0 : 0 ≤ x) (h1 : x < xs.length) : ∃ p, xs[x.toNat]? = some p := ⟨xs[x.toNat]'(by omega), List.getElem?_eq_getElem (by omega)⟩
theorem getD_of {α : Type} {xs : List α} {x : Int} {p d : α} (h : xs[x.toNat]? = some p) : xs.getD x.toNat d = p := by rw [List.getD_eq_getElem?_getD, h]; rfl
def sumBy (w : List (Int × Int)) (P : Int → Bool) : Int := ((w.filter fun x => P x.1).map (·.2)).sum
theorem sumBy_nil {P : Int → Bool} : sumBy [] P = 0 := rfl
theorem sumBy_cons {w : List (Int × Int)} {x : Int × Int} {P : Int → Bool} : sumBy (x :: w) P = (if P x.1 = true then x.2 else 0) + sumBy w P := by
  unfold sumBy
  rw [List.filter_cons]
  by_cases c : P x.1 = true
  · rw [if_pos c, if_pos c, List.map_cons, List.sum_cons]
  · rw [if_neg c, if_neg c, Int.zero_add]
theorem sumBy_app {P : Int → Bool} : ∀ {w v : List (Int × Int)}, sumBy (w ++ v) P = sumBy w P + sumBy v P
  | [], v => by rw [List.nil_append, sumBy_nil, Int.zero_add]
  | x :: w, v => by rw [List.cons_append, sumBy_cons, sumBy_cons, sumBy_app (w := w), Int.add_assoc]
theorem sumBy_congr {P Q : Int → Bool} : ∀ {w : List (Int × Int)}, (∀ x ∈ w, P x.1 = Q x.1) → sumBy w P = sumBy w Q
  | [], _ => rfl
  | x :: w, h => by rw [sumBy_cons, sumBy_cons, h x (List.mem_cons_self ..), sumBy_congr fun y hy => h y (List.mem_cons_of_mem _ hy)]
theorem sumBy_or {P Q R : Int → Bool} : ∀ {w : List (Int × Int)}, (∀ x ∈ w, P x.1 = (Q x.1 || R x.1) ∧ ¬ (Q x.1 = true ∧ R x.1 = true)) → sumBy w P = sumBy w Q + sumBy w R
  | [], _ => rfl
  | x :: w, h => by
    have ih := sumBy_or (P := P) (Q := Q) (R := R) (w := w) fun y hy => h y (List.mem_cons_of_mem _ hy)
    obtain ⟨h1, h2⟩ := h x (List.mem_cons_self ..)
    rw [sumBy_cons, sumBy_cons, sumBy_cons, h1, ih]
    cases q : Q x.1 <;> cases r : R x.1
    · simp
    · simp only [Bool.false_or, if_true, Bool.false_eq_true, if_false]; omega
    · simp only [Bool.or_false, if_true, Bool.false_eq_true, if_false]; omega
    · exact absurd ⟨q, r⟩ h2
theorem sumBy_zero {P : Int → Bool} {w : List (Int × Int)} (h : ∀ x ∈ w, P x.1 = false) : sumBy w P = 0 := by
  unfold sumBy
  rw [List.filter_eq_nil_iff.mpr fun x hx => by rw [h x hx]; decide]
  rfl
theorem sumBy_nonneg {P : Int → Bool} : ∀ {w : List (Int × Int)}, (∀ x ∈ w, 0 ≤ x.2) → 0 ≤ sumBy w P
  | [], _ => Int.le_refl _
  | x :: w, h => by
    have ih := sumBy_nonneg (P := P) (w := w) fun y hy => h y (List.mem_cons_of_mem _ hy)
    have := h x (List.mem_cons_self ..)
    rw [sumBy_cons]
    split <;> omega
theorem sumBy_le {P : Int → Bool} {B : Int} (hB : 0 ≤ B) : ∀ {w : List (Int × Int)}, (∀ x ∈ w, x.2 ≤ B) → sumBy w P ≤ B * w.length
  | [], _ => by simp [sumBy_nil]
  | x :: w, h => by
    have ih := sumBy_le (P := P) hB (w := w) fun y hy => h y (List.mem_cons_of_mem _ hy)
    have := h x (List.mem_cons_self ..)
    rw [sumBy_cons, List.length_cons]
    have e : B * ((w.length + 1 : Nat) : Int) = B * (w.length : Int) + B := by rw [Int.natCast_add, Int.mul_add]; omega
    rw [e]
    split <;> omega
/-- the lamps' fuses and draws -/
def lampAt (ls : List (Int × Int)) (l : Int) : Int × Int := ls.getD l.toNat (0, 0)
def drawsOf (ls : List (Int × Int)) (on : List Int) : List (Int × Int) := on.map (lampAt ls)
def deadF (ab bl : List Int) (f : Int) : Bool := (way ab f).any fun x => decide (x ∈ bl)
def litD (ab : List Int) (ls : List (Int × Int)) (on bl : List Int) : List Int := on.filter fun l => !deadF ab bl (lampAt ls l).1
def loadD (ab : List Int) (ls : List (Int × Int)) (lit : List Int) (f : Int) : Int := sumBy (drawsOf ls lit) fun h => decide (f ∈ way ab h)
def loadsD (n : Nat) (ab : List Int) (ls : List (Int × Int)) (lit : List Int) : List Int := (rngI n).map (loadD ab ls lit)
/-- which numbers a board may have, for the program's functions -/
structure WG (fs ls : List (Int × Int)) : Prop where
  wf : WF (fs.map (·.1))
  one : 1 ≤ fs.length
  few : fs.length ≤ 1000
  lamps : ls.length ≤ 1000
  marks : ∀ p ∈ fs, 0 ≤ p.2 ∧ p.2 ≤ 1000000
  hung : ∀ p ∈ ls, 0 ≤ p.1 ∧ p.1 < fs.length ∧ 0 ≤ p.2 ∧ p.2 ≤ 1000000
  root : ∀ (i : Nat) (x : Int), (fs.map (·.1))[i]? = some x → 1 ≤ i → 0 ≤ x
theorem WB.g {fs ls : List (Int × Int)} (h : WB fs ls) : WG fs ls := by
  refine ⟨h.wf, h.one, ?_, ?_, fun p hp => ?_, fun p hp => ?_, h.root⟩
  · have := h.few; omega
  · have := h.lamps; omega
  · have := h.marks p hp; omega
  · have := h.hung p hp; omega
/-- lamps of the board -/
def OnOk (ls : List (Int × Int)) (on : List Int) : Prop := on.length ≤ 1000 ∧ ∀ l ∈ on, 0 ≤ l ∧ l < ls.length
theorem WF.abv {fs : List (Int × Int)} (h : WF (fs.map (·.1))) {i : Nat} {p : Int × Int} (hp : fs[i]? = some p) : -1 ≤ p.1 ∧ p.1 < (i : Int) ∧ (fs.map (·.1)).getD i (-1) = p.1 := ⟨(h.get hp).1, (h.get hp).2, getD_fst hp⟩
theorem way_up {fs : List (Int × Int)} (h : WF (fs.map (·.1))) {i : Nat} {p : Int × Int} (hp : fs[i]? = some p) : way (fs.map (·.1)) (i : Int) = (i : Int) :: way (fs.map (·.1)) p.1 := by
  have hi : i < fs.length := (List.getElem?_eq_some_iff.mp hp).1
  have q := way_step h (a := (i : Int)) (by omega) (by rw [List.length_map]; omega)
  rw [Int.toNat_natCast, getD_fst hp] at q
  exact q
theorem way_bound {ab : List Int} (h : WF ab) {a x : Int} (hx : x ∈ way ab a) : 0 ≤ x ∧ x ≤ a := wayI_mem h _ _ _ hx
theorem way_nodup {ab : List Int} (h : WF ab) : ∀ (n : Nat) (a : Int), a < (n : Int) → a < ab.length → (way ab a).Nodup
  | 0, a, h1, _ => by rw [way_neg (by omega)]; exact List.nodup_nil
  | n + 1, a, h1, h2 => by
    by_cases c : a < 0
    · rw [way_neg c]; exact List.nodup_nil
    · have q := h.at a (by omega)
      rw [way_step h (by omega) h2]
      refine List.nodup_cons.mpr ⟨fun z => ?_, way_nodup h n _ (by omega) (by omega)⟩
      have := way_bound h z
      omega
theorem deadF_up {fs : List (Int × Int)} {bl : List Int} (h : WF (fs.map (·.1))) {i : Nat} {p : Int × Int} (hp : fs[i]? = some p) :
    deadF (fs.map (·.1)) bl (i : Int) = (decide ((i : Int) ∈ bl) || (decide (0 ≤ p.1) && deadF (fs.map (·.1)) bl p.1)) := by
  unfold deadF
  rw [way_up h hp, List.any_cons]
  by_cases c : 0 ≤ p.1
  · rw [decide_eq_true c, Bool.true_and]
  · rw [decide_eq_false c, Bool.false_and, way_neg (by omega)]
    rfl
theorem at_dead {ab bl : List Int} {n : Nat} {x : Int} (h0 : 0 ≤ x) (h1 : x < n) : atI ((List.range n).map fun (j : Nat) => PyData.bool (deadF ab bl j)) x = some (.bool (deadF ab bl x)) := by
  refine (atI_m (f := fun (j : Nat) => PyData.bool (deadF ab bl j)) h0 (List.getElem?_range (i := x.toNat) (by omega))).trans ?_
  have e : ((x.toNat : Nat) : Int) = x := by omega
  show some (PyData.bool (deadF ab bl ((x.toNat : Nat) : Int))) = _
  rw [e]
/-- a row by its places -/
theorem set_map {n : Nat} {g : Int → Int} {x v : Int} (h0 : 0 ≤ x) (h1 : x < n) : ((rngI n).map g).set x.toNat v = (rngI n).map fun f => if f = x then v else g f := by
  refine List.ext_getElem? fun j => ?_
  by_cases c : j < n
  · by_cases d : x.toNat = j
    · subst d
      rw [List.getElem?_set_self (by rw [List.length_map, rngI_len]; exact c), List.getElem?_map, rngI_get c]
      have e : ((x.toNat : Nat) : Int) = x := by omega
      simp [e]
    · rw [List.getElem?_set_ne d, List.getElem?_map, List.getElem?_map, rngI_get c]
      have e : ¬ ((j : Nat) : Int) = x := by omega
      simp [e]
  · rw [List.getElem?_eq_none, List.getElem?_eq_none]
    · rw [List.length_map, rngI_len]; omega
    · rw [List.length_set, List.length_map, rngI_len]; omega
theorem setD_map {n : Nat} {g : Int → Int} {x v : Int} (h0 : 0 ≤ x) (h1 : x < n) : (((rngI n).map g).map PyData.int).set x.toNat (.int v) = ((rngI n).map fun f => if f = x then v else g f).map PyData.int := by
  rw [← set_map h0 h1, List.map_set]
theorem getD_map {n : Nat} {g : Int → Int} {x : Int} (h0 : 0 ≤ x) (h1 : x < n) : (((rngI n).map g).map PyData.int)[x.toNat]? = some (.int (g x)) := by
  rw [List.getElem?_map, List.getElem?_map, rngI_get (by omega)]
  have e : ((x.toNat : Nat) : Int) = x := by omega
  simp [e]
theorem ixN_of {n : Nat} {x : Int} (h0 : 0 ≤ x) (h1 : x < n) : ixN n x = some x.toNat := by
  obtain ⟨k, rfl⟩ : ∃ k : Nat, x = (k : Int) := ⟨x.toNat, by omega⟩
  rw [Int.toNat_natCast]
  exact ixN_nat (by omega)
theorem lenD_map {n : Nat} {g : Int → Int} : (((rngI n).map g).map PyData.int).length = n := by rw [List.length_map, List.length_map, rngI_len]
theorem atI_map {n : Nat} {g : Int → Int} {x : Int} (h0 : 0 ≤ x) (h1 : x < n) : atI (((rngI n).map g).map PyData.int) x = some (.int (g x)) := by
  unfold atI
  rw [lenD_map, ixN_of h0 h1]
  exact getD_map h0 h1
theorem zeros {n : Nat} : (List.replicate n [PyData.int 0]).flatten = ((rngI n).map fun _ => (0 : Int)).map PyData.int := by
  rw [flat1]
  refine List.ext_getElem? fun j => ?_
  by_cases c : j < n
  · rw [List.getElem?_replicate, if_pos c, List.getElem?_map, List.getElem?_map, rngI_get c]; rfl
  · rw [List.getElem?_eq_none, List.getElem?_eq_none]
    · rw [lenD_map]; omega
    · rw [List.length_replicate]; omega
theorem map_ext {n : Nat} {g g' : Int → Int} (h : ∀ x : Int, 0 ≤ x → x < n → g x = g' x) : (rngI n).map g = (rngI n).map g' := List.map_congr_left fun x hx => by
  have := rngI_mem.mp hx
  exact h x this.1 this.2
/-! ### sums handed on upwards -/
/-- the way from a on, up to the first that is at most k -/
def cutI (ab : List Int) (k : Int) : Nat → Int → List Int
  | 0, _ => []
  | n + 1, a => if a < 0 then [] else if a ≤ k then [a] else a :: cutI ab k n (ab.getD a.toNat (-1))
theorem cutI_stable {ab : List Int} {k : Int} (h : WF ab) : ∀ (n m : Nat) (a : Int), a < n → a < m → cutI ab k n a = cutI ab k m a
  | 0, 0, a, _, _ => rfl
  | 0, m + 1, a, h1, _ => by unfold cutI; rw [if_pos (by omega)]
  | n + 1, 0, a, _, h2 => by unfold cutI; rw [if_pos (by omega)]
  | n + 1, m + 1, a, h1, h2 => by
    unfold cutI
    by_cases hn : a < 0
    · rw [if_pos hn, if_pos hn]
    · rw [if_neg hn, if_neg hn]
      by_cases hk : a ≤ k
      · rw [if_pos hk, if_pos hk]
      · have q := h.at a (by omega)
        rw [if_neg hk, if_neg hk, cutI_stable h n m _ (by omega) (by omega)]
def cut (ab : List Int) (k a : Int) : List Int := cutI ab k (ab.length + 1) a
theorem cut_neg {ab : List Int} {k a : Int} (h : a < 0) : cut ab k a = [] := by unfold cut cutI; rw [if_pos h]
theorem cut_le {ab : List Int} {k a : Int} (h0 : 0 ≤ a) (h : a ≤ k) : cut ab k a = [a] := by unfold cut cutI; rw [if_neg (by omega), if_pos h]
theorem cut_gt {ab : List Int} {k a : Int} (w : WF ab) (h0 : 0 ≤ a) (h : k < a) (h1 : a < ab.length) : cut ab k a = a :: cut ab k (ab.getD a.toNat (-1)) := by
  have q := w.at a h0
  unfold cut
  rw [cutI, if_neg (by omega), if_neg (by omega), cutI_stable w ab.length (ab.length + 1) _ (by omega) (by omega)]
theorem cut_mem {ab : List Int} {k : Int} (w : WF ab) : ∀ (n : Nat) (a x : Int), a < (n : Int) → a < ab.length → x ∈ cut ab k a → 0 ≤ x ∧ x ≤ a
  | 0, a, x, h1, _, hx => by rw [cut_neg (by omega)] at hx; cases hx
  | n + 1, a, x, h1, h2, hx => by
    by_cases c : a < 0
    · rw [cut_neg c] at hx; cases hx
    · by_cases d : a ≤ k
      · rw [cut_le (by omega) d] at hx
        have := List.mem_singleton.mp hx
        omega
      · have q := w.at a (by omega)
        rw [cut_gt w (by omega) (by omega) h2] at hx
        rcases List.mem_cons.mp hx with e | e
        · omega
        · have := cut_mem w n _ x (by omega) (by omega) e
          omega
/-- one fuse more hands on -/
theorem cut_step {ab : List Int} {k : Int} (w : WF ab) (hk : 1 ≤ k) (hk2 : k < ab.length) : ∀ (n : Nat) (a x : Int), a < (n : Int) → a < ab.length →
    (x ∈ cut ab (k - 1) a ↔ x ∈ cut ab k a ∨ (x = ab.getD k.toNat (-1) ∧ 0 ≤ x ∧ k ∈ cut ab k a)) ∧ ¬ (x ∈ cut ab k a ∧ (x = ab.getD k.toNat (-1) ∧ k ∈ cut ab k a))
  | 0, a, x, h1, _ => by rw [cut_neg (by omega), cut_neg (by omega)]; simp
  | n + 1, a, x, h1, h2 => by
    have qk := w.at k (by omega)
    by_cases c : a < 0
    · rw [cut_neg c, cut_neg c]; simp
    · by_cases d : a < k
      · rw [cut_le (by omega) (by omega), cut_le (by omega) (by omega)]
        simp only [List.mem_singleton]
        omega
      · by_cases e : a = k
        · subst e
          rw [cut_le (k := a) (by omega) (by omega), cut_gt w (by omega) (by omega) h2]
          generalize ab.getD a.toNat (-1) = z at qk ⊢
          by_cases f : z < 0
          · rw [cut_neg f]
            simp only [List.mem_singleton, List.mem_cons, List.not_mem_nil, or_false, and_true]
            omega
          · rw [cut_le (by omega) (by omega)]
            simp only [List.mem_singleton, List.mem_cons, List.not_mem_nil, or_false, and_true]
            omega
        · have q := w.at a (by omega)
          obtain ⟨i1, i2⟩ := cut_step w hk hk2 n (ab.getD a.toNat (-1)) x (by omega) (by omega)
          rw [cut_gt w (by omega) (by omega) h2, cut_gt (k := k) w (by omega) (by omega) h2]
          simp only [List.mem_cons]
          have ka : k ≠ a := fun z => e z.symm
          constructor
          · rw [i1]
            constructor
            · rintro (z | z | ⟨z1, z2, z3⟩)
              · exact .inl (.inl z)
              · exact .inl (.inr z)
              · exact .inr ⟨z1, z2, .inr z3⟩
            · rintro ((z | z) | ⟨z1, z2, z3⟩)
              · exact .inl z
              · exact .inr (.inl z)
              · rcases z3 with z3 | z3
                · exact absurd z3 ka
                · exact .inr (.inr ⟨z1, z2, z3⟩)
          · rintro ⟨z1, z2, z3⟩
            rcases z3 with z3 | z3
            · exact ka z3
            · rcases z1 with z1 | z1
              · omega
              · exact i2 ⟨z1, z2, z3⟩
theorem cut_zero {ab : List Int} (w : WF ab) : ∀ (n : Nat) (a : Int), a < (n : Int) → a < ab.length → cut ab 0 a = way ab a
  | 0, a, h1, _ => by rw [cut_neg (by omega), way_neg (by omega)]
  | n + 1, a, h1, h2 => by
    by_cases c : a < 0
    · rw [cut_neg c, way_neg c]
    · have q := w.at a (by omega)
      rw [way_step w (by omega) h2]
      by_cases d : a ≤ 0
      · rw [cut_le (by omega) d, way_neg (by omega)]
      · rw [cut_gt w (by omega) (by omega) h2, cut_zero w n _ (by omega) (by omega)]
/-- the sums when all above k have handed on -/
def handed (ab : List Int) (w : List (Int × Int)) (k f : Int) : Int := sumBy w fun h => decide (f ∈ cut ab k h)
theorem handed_step {ab : List Int} {w : List (Int × Int)} {k : Int} (wf : WF ab) (hk : 1 ≤ k) (hk2 : k < ab.length) (hw : ∀ x ∈ w, x.1 < ab.length) (f : Int) (hf : 0 ≤ f) :
    handed ab w (k - 1) f = if f = ab.getD k.toNat (-1) then handed ab w k f + handed ab w k k else handed ab w k f := by
  unfold handed
  by_cases c : f = ab.getD k.toNat (-1)
  · rw [if_pos c]
    refine sumBy_or fun x hx => ?_
    obtain ⟨h1, h2⟩ := cut_step wf hk hk2 (x.1.toNat + 1) x.1 f (by omega) (hw x hx)
    constructor
    · rw [Bool.eq_iff_iff, Bool.or_eq_true, decide_eq_true_eq, decide_eq_true_eq, decide_eq_true_eq, h1]
      constructor
      · rintro (z | ⟨_, _, z⟩)
        · exact .inl z
        · exact .inr z
      · rintro (z | z)
        · exact .inl z
        · exact .inr ⟨c, hf, z⟩
    · rw [decide_eq_true_eq, decide_eq_true_eq]
      rintro ⟨z1, z2⟩
      exact h2 ⟨z1, c, z2⟩
  · rw [if_neg c]
    refine sumBy_congr fun x hx => ?_
    obtain ⟨h1, h2⟩ := cut_step wf hk hk2 (x.1.toNat + 1) x.1 f (by omega) (hw x hx)
    rw [Bool.eq_iff_iff, decide_eq_true_eq, decide_eq_true_eq, h1]
    constructor
    · rintro (z | ⟨z, _⟩)
      · exact z
      · exact absurd z c
    · exact .inl
theorem handed_top {ab : List Int} {w : List (Int × Int)} {k : Int} (hk : (ab.length : Int) ≤ k + 1) (hw : ∀ x ∈ w, 0 ≤ x.1 ∧ x.1 < ab.length) (f : Int) : handed ab w k f = sumBy w fun h => decide (h = f) := by
  refine sumBy_congr fun x hx => ?_
  have := hw x hx
  rw [cut_le this.1 (by omega), Bool.eq_iff_iff, decide_eq_true_eq, decide_eq_true_eq, List.mem_singleton]
  exact eq_comm
theorem handed_zero {ab : List Int} {w : List (Int × Int)} (wf : WF ab) (hw : ∀ x ∈ w, x.1 < ab.length) (f : Int) : handed ab w 0 f = sumBy w fun h => decide (f ∈ way ab h) := by
  refine sumBy_congr fun x hx => ?_
  rw [cut_zero wf (x.1.toNat + 1) _ (by omega) (hw x hx)]
theorem lampAt_of {ls : List (Int × Int)} {l : Int} {p : Int × Int} (h : ls[l.toNat]? = some p) : lampAt ls l = p := getD_of h
theorem hung_of {fs ls : List (Int × Int)} (g : WG fs ls) {on : List Int} (ho : OnOk ls on) : ∀ x ∈ drawsOf ls on, 0 ≤ x.1 ∧ x.1 < fs.length ∧ 0 ≤ x.2 ∧ x.2 ≤ 1000000 := fun x hx => by
  obtain ⟨l, hl, rfl⟩ := List.mem_map.mp hx
  obtain ⟨p, hp⟩ := get_of (ho.2 l hl).1 (ho.2 l hl).2
  rw [lampAt_of hp]
  exact g.hung p (List.mem_of_getElem? hp)
theorem litD_ok {ab : List Int} {ls : List (Int × Int)} {on bl : List Int} (ho : OnOk ls on) : OnOk ls (litD ab ls on bl) := by
  refine ⟨Nat.le_trans (List.length_filter_le _ _) ho.1, fun l hl => ho.2 l (List.mem_filter.mp hl).1⟩
end FF
namespace FF
open PySem PySem.Spec PyProof.Rows L2 Evl
theorem Sv.int12 {k : Nat} {i : Int} (h : i.natAbs < 2 ^ 12) : Sv 12 k (.int i) := by
  have a := Sv.int (k := k) (i := i) (Nat.lt_trans h (by decide))
  refine ⟨a.sh, a.lf, ?_, Nat.zero_le _⟩
  have hl : i.natAbs.log2 < 12 := log2_lt_of (by decide) h
  simp only [PyData.weight]
  split
  · exact Nat.zero_le _
  · omega
theorem svPairs {l : List (Int × Int)} (h : ∀ p ∈ l, p.1.natAbs < 2 ^ 12 ∧ p.2.natAbs < 2 ^ 12) : SvA (27 * l.length) 1 (l.map pairD) := by
  have a : ∀ d ∈ l.map pairD, Sv 26 1 d := fun d hd => by
    obtain ⟨p, hp, rfl⟩ := List.mem_map.mp hd
    obtain ⟨h1, h2⟩ := h p hp
    exact Sv.tup (SvA.cons (Sv.int12 (k := 0) h1) (SvA.cons (Sv.int12 (k := 0) h2) (SvA.nil (k := 0))))
  have q := SvA.all a
  rw [List.length_map] at q
  exact q
theorem WF.get' {ab : List Int} (h : WF ab) {l : List (Int × Int)} (e : ab = l.map (·.1)) {p : Int × Int} (hp : p ∈ l) : -1 ≤ p.1 ∧ p.1 < l.length := by
  obtain ⟨i, hi⟩ := List.getElem?_of_mem hp
  have q := h i p.1 (by rw [e, List.getElem?_map, hi]; rfl)
  have il : i < l.length := (List.getElem?_eq_some_iff.mp hi).1
  omega
theorem WB.svF {fs ls : List (Int × Int)} (h : WB fs ls) : SvA 540 1 (fs.map pairD) := by
  have few := h.few
  refine (svPairs fun p hp => ?_).mono (by omega) (Nat.le_refl _)
  have q := h.wf.get' rfl hp
  have r := h.marks p hp
  omega
theorem WB.svL {fs ls : List (Int × Int)} (h : WB fs ls) : SvA 810 1 (ls.map pairD) := by
  have few := h.few
  have lam := h.lamps
  refine (svPairs fun p hp => ?_).mono (by omega) (Nat.le_refl _)
  have r := h.hung p hp
  omega

theorem svInts {l : List Int} {k : Nat} (h : ∀ x ∈ l, x.natAbs < 2 ^ 100) (hl : l.length ≤ 1000) : SvA 111000 k (l.map .int) := by
  have a : ∀ d ∈ l.map PyData.int, Sv 110 k d := fun d hd => by
    obtain ⟨x, hx, rfl⟩ := List.mem_map.mp hd
    exact Sv.int (Nat.lt_trans (h x hx) (by decide))
  have q := SvA.all a
  rw [List.length_map] at q
  exact q.mono (by omega) (Nat.le_refl _)
theorem svSmall {l : List Int} {k : Nat} (h : ∀ x ∈ l, x.natAbs < 2 ^ 12) (hl : l.length ≤ 100) : SvA 1300 k (l.map .int) := by
  have a : ∀ d ∈ l.map PyData.int, Sv 12 k d := fun d hd => by
    obtain ⟨x, hx, rfl⟩ := List.mem_map.mp hd
    exact Sv.int12 (h x hx)
  have q := SvA.all a
  rw [List.length_map] at q
  exact q.mono (by omega) (Nat.le_refl _)
theorem WB.sv {fs ls : List (Int × Int)} (h : WB fs ls) : Sv 1352 3 (boardD fs ls) :=
  Sv.tup ((SvA.cons (Sv.tup h.svF) (SvA.cons (Sv.tup h.svL) (SvA.nil (k := 0)))).mono (by decide) (by decide))
theorem shaped_ints (l : List Int) : SeqAt.shaped (intsL l) = true := shapedInts l
theorem eqvNilL (ds : List PyData) : PyData.eqv (.list ds) (.list []) = ds.isEmpty := by cases ds <;> rfl
theorem eqvNilT (ds : List PyData) : PyData.eqv (.tuple ds) (.tuple []) = ds.isEmpty := by cases ds <;> rfl
theorem eqv_ints : ∀ l : List Int, PyData.eqv (intsL l) (intsL l) = true := fun l => by
  have h : ∀ l : List Int, PyData.eqvAll (l.map .int) (l.map .int) = true := fun l => by
    induction l with
    | nil => rfl
    | cons x l ih => rw [List.map_cons]; simp only [PyData.eqvAll, ih, Bool.and_true]; simp [PyData.eqv]
  exact h l
end FF
namespace FF
open PySem PySem.Spec PyProof.Rows L2 Evl
/-! ### strained fuses -/
def markAt (fs : List (Int × Int)) (x : Int) : Int := (fs.getD x.toNat (0, 0)).2
def strD (fs ls : List (Int × Int)) (on bl : List Int) : List Int := (rngI fs.length).filter fun x => decide (markAt fs x < loadD (fs.map (·.1)) ls (litD (fs.map (·.1)) ls on bl) x)
theorem shapedT_ints (l : List Int) : SeqAt.shaped (intsT l) = true := by
  have h := shapedInts l
  unfold SeqAt.shaped at h ⊢
  exact h
theorem enumD_map (g : Int → Int) (m : Nat) : enumD 0 (((rngI m).map g).map PyData.int) = (rngI m).map fun x => .tuple [.int x, .int (g x)] := by
  refine List.ext_getElem? fun j => ?_
  rw [enumD_get]
  by_cases c : j < m
  · rw [List.getElem?_map, List.getElem?_map, List.getElem?_map, rngI_get c]
    show some _ = some _
    rw [Nat.zero_add]
  · rw [List.getElem?_eq_none (by rw [lenD_map]; omega), List.getElem?_eq_none (by rw [List.length_map, rngI_len]; omega)]
    rfl
theorem strD_mem {fs ls : List (Int × Int)} {on bl : List Int} {x : Int} (h : x ∈ strD fs ls on bl) : 0 ≤ x ∧ x < fs.length := rngI_mem.mp (List.mem_filter.mp h).1
theorem strD_len (fs ls : List (Int × Int)) (on bl : List Int) : (strD fs ls on bl).length ≤ fs.length := by
  have := List.length_filter_le (fun x => decide (markAt fs x < loadD (fs.map (·.1)) ls (litD (fs.map (·.1)) ls on bl) x)) (rngI fs.length)
  rw [rngI_len] at this
  exact this
end FF
set_option maxHeartbeats 4000000
namespace FF
open PySem PySem.Spec PyProof.Rows L2 Evl
/-! ### what the laws do often -/
theorem rngI_sub {n : Nat} {ys : List Int} (h : ys.Sublist (rngI n)) : ys.length ≤ n ∧ ∀ x ∈ ys, 0 ≤ x ∧ x < n := by
  refine ⟨?_, fun x hx => rngI_mem.mp (h.subset hx)⟩
  have := h.length_le
  rw [rngI_len] at this
  exact this
theorem on_of {ls : List (Int × Int)} {ys : List Int} (hl : ls.length ≤ 100) (h : ys.Sublist (rngI ls.length)) : OnOk ls ys := by
  obtain ⟨h1, h2⟩ := rngI_sub h
  exact ⟨by omega, h2⟩
/-- fuses that are told: few, small -/
def BlOk (bl : List Int) : Prop := bl.length ≤ 100 ∧ ∀ x ∈ bl, 0 ≤ x ∧ x < 100
theorem sv_state {fs ls : List (Int × Int)} {on bl : List Int} (wb : WB fs ls) (ho : OnOk ls on) (hn : on.length ≤ 30) (hb : BlOk bl) : Sv 300000 60 (.tuple [boardD fs ls, intsT on, intsT bl]) := by
  have lam := wb.lamps
  have s2 : SvA 1300 0 (on.map .int) := svSmall (fun x hx => by have := ho.2 x hx; omega) (by omega)
  have s3 : SvA 1300 0 (bl.map .int) := svSmall (fun x hx => by have := hb.2 x hx; omega) hb.1
  exact (Sv.tup (SvA.cons wb.sv (SvA.cons (Sv.tup s2) (SvA.cons (Sv.tup s3) (SvA.nil (k := 0)))))).mono (by decide) (by decide)
theorem loads_small {fs ls : List (Int × Int)} {li : List Int} (g : WG fs ls) (ho : OnOk ls li) : ∀ x ∈ loadsD fs.length (fs.map (·.1)) ls li, 0 ≤ x ∧ x ≤ 1000000000 := fun x hx => by
  obtain ⟨f, _, rfl⟩ := List.mem_map.mp hx
  have hw := hung_of g ho
  refine ⟨sumBy_nonneg fun y hy => (hw y hy).2.2.1, ?_⟩
  have h := sumBy_le (P := fun h => decide (f ∈ way (fs.map (·.1)) h)) (B := 1000000) (by decide) (w := drawsOf ls li) fun y hy => (hw y hy).2.2.2
  have hl : (drawsOf ls li).length ≤ 1000 := by unfold drawsOf; rw [List.length_map]; exact ho.1
  unfold loadD
  omega
theorem svSet {l : List Int} {k : Nat} (h : ∀ x ∈ l, 0 ≤ x ∧ x < 100) (hl : l.length ≤ 100) : Sv 1300 (k + 1) (intsT l) := Sv.tup (svSmall (fun x hx => by have := h x hx; omega) hl)
def preLot : List PyData → (PyData → Prop) → Prop := fun ds R => ∃ xs, ds = [intsL xs] ∧ xs.length ≤ 1000 ∧ ∀ ys : List Int, ys.Sublist xs → R (intsT ys)
section
variable {K : PySem.W.Frag} {Z : Zk} {η : List Ent} {i j : Nat}
/-- a board, its bounds picked -/
theorem se_brdP {a b c x y : Int} (hi : η[i]? = some .deck) (ha : 1 ≤ a ∧ a ≤ 20 := by decide) (hb : 1 ≤ b ∧ b ≤ 20 := by decide) (hc : 1 ≤ c ∧ c ≤ 20 := by decide) (hx : 0 ≤ x ∧ x ≤ 30 := by decide) (hy : 0 ≤ y ∧ y ≤ 30 := by decide) :
    SE K Z (tCall (SpZ K preBoard) [] E0 (tCons (tVar i) (tCons (tCall (SpZ K prePick) [] E0 (tCons (tVar i) (tCons (tLst (tCons (tC (.int a)) (tCons (tC (.int b)) (tCons (tC (.int c)) tNil)))) tNil)))
      (tCons (tCall (SpZ K prePick) [] E0 (tCons (tVar i) (tCons (tLst (tCons (tC (.int x)) (tCons (tC (.int y)) tNil))) tNil))) tNil)))) η (fun d => ∃ fs ls, WB fs ls ∧ d = boardD fs ls) := by
  refine se_callZR (R := fun d => ∃ fs ls, WB fs ls ∧ d = boardD fs ls) hi (sa_consR (R1 := fun d => ∃ x : Int, d = .int x ∧ 1 ≤ x ∧ x ≤ 20) (se_callZ hi (sa_cons (so_lst (sa_cons se_int (sa_cons se_int (sa_cons se_int sa_nil)))).q sa_nil) ⟨_, rfl, by simp, (by show 3 < 100000; decide), fun d hd => ?_⟩)
      (sa_consR (R1 := fun d => ∃ x : Int, d = .int x ∧ 0 ≤ x ∧ x ≤ 30) (se_callZ hi (sa_cons (so_lst (sa_cons se_int (sa_cons se_int sa_nil))).q sa_nil) ⟨_, rfl, by simp, (by show 2 < 100000; decide), fun d hd => ?_⟩) sa_nil)) ?_
  · simp at hd
    rcases hd with z | z | z
    · exact ⟨_, z, ha⟩
    · exact ⟨_, z, hb⟩
    · exact ⟨_, z, hc⟩
  · simp at hd
    rcases hd with z | z
    · exact ⟨_, z, hx⟩
    · exact ⟨_, z, hy⟩
  · rintro ds ⟨d1, r1, ⟨x, rfl, x0, x1⟩, ⟨d2, r2, ⟨y, rfl, z0, z1⟩, rfl, rfl⟩, rfl⟩
    exact ⟨x, y, rfl, x0, x1, z0, z1, fun fs ls wb _ _ => ⟨fs, ls, wb, rfl⟩⟩
/-- a board, its bounds written -/
theorem se_brdI {a b : Int} (hi : η[i]? = some .deck) (ha : 1 ≤ a ∧ a ≤ 20 := by decide) (hb : 0 ≤ b ∧ b ≤ 30 := by decide) :
    SE K Z (tCall (SpZ K preBoard) [] E0 (tCons (tVar i) (tCons (tC (.int a)) (tCons (tC (.int b)) tNil)))) η (fun d => ∃ fs ls, WB fs ls ∧ (fs.length : Int) ≤ a ∧ (ls.length : Int) ≤ b ∧ d = boardD fs ls) :=
  se_callZ hi (sa_cons se_int (sa_cons se_int sa_nil)) ⟨a, b, rfl, ha.1, ha.2, hb.1, hb.2, fun fs ls wb h1 h2 => ⟨fs, ls, wb, h1, h2, rfl⟩⟩
/-- a lot of a board's lamps -/
theorem se_onLot {fs ls : List (Int × Int)} (hi : η[i]? = some .deck) (hj : η[j]? = some (.dat (boardD fs ls))) (hl : ls.length ≤ 30) :
    SE K Z (tCall (SpZ K preLot) [] E0 (tCons (tVar i) (tCons (tLstRg (tRg1 (tCB (rLenC K) (tCons (tOp (rIxT K) (tVar j) (tC (.int 1))) tNil)))) tNil))) η (fun d => ∃ on : List Int, d = intsT on ∧ on.Sublist (rngI ls.length) ∧ OnOk ls on ∧ on.length ≤ 30) := by
  refine se_callZ hi (sa_cons (so_listRg (se_lenT (se_ixT (se_var hj) se_int (atI_nat (j := 1) rfl))) ?_).q sa_nil) ⟨_, rfl, ?_, fun ys hs => ?_⟩
  · rw [List.length_map]; omega
  · rw [rngI_len, List.length_map]; omega
  · rw [List.length_map] at hs
    have q := on_of (by omega) hs
    have q2 := (rngI_sub hs).1
    exact ⟨ys, rfl, hs, q, by omega⟩
/-- the three sets of blown fuses: none, a lot, one -/
theorem si_three {fs ls : List (Int × Int)} (hi : η[i]? = some .deck) (hj : η[j]? = some (.dat (boardD fs ls))) (h1 : 1 ≤ fs.length) (hl : fs.length ≤ 100) :
    SI K Z (iList K (tLst (tCons (tTup tNil) (tCons (tCall (SpZ K preLot) [] E0 (tCons (tVar i) (tCons (tLstRg (tRg1 (tCB (rLenC K) (tCons (tOp (rIxT K) (tVar j) (tC (.int 0))) tNil)))) tNil)))
      (tCons (tTup (tCons (tCall (SpZ K preDraw) [] E0 (tCons (tVar i) (tCons (tCB (rLenC K) (tCons (tOp (rIxT K) (tVar j) (tC (.int 0))) tNil)) tNil))) tNil)) tNil))))) η (fun ds => ∀ d ∈ ds, ∃ bl, d = intsT bl ∧ BlOk bl) := by
  refine si_list (R := fun ds => ∀ d ∈ ds, ∃ bl, d = intsT bl ∧ BlOk bl) (SE.mono (SO.e (so_lstR (sa_consR (R1 := fun d => ∃ bl, d = intsT bl ∧ BlOk bl) (SE.ex1 (se_tup sa_nil) ⟨[], rfl, by decide, fun x hx => nomatch hx⟩)
        (sa_consR (R1 := fun d => ∃ bl, d = intsT bl ∧ BlOk bl) (se_callZ hi (sa_cons (so_listRg (se_lenT (se_ixT (se_var hj) se_int (atI_nat (j := 0) rfl))) ?_).q sa_nil) ⟨_, rfl, ?_, fun ys hs => ⟨ys, rfl, ?_, ?_⟩⟩)
        (sa_consR (R1 := fun d => ∃ bl, d = intsT bl ∧ BlOk bl) (SE.mono (se_tupR (sa_consR (R1 := fun d => ∃ r : Int, d = .int r ∧ 0 ≤ r ∧ r < 100) (se_callZ hi (sa_cons (se_lenT (se_ixT (se_var hj) se_int (atI_nat (j := 0) rfl))) sa_nil) ⟨_, rfl, ?_, ?_, fun r r0 r1 => ⟨r, rfl, r0, ?_⟩⟩) sa_nil) ?_) ?_) sa_nil))) ?_)) ?_)
  · rw [List.length_map]; omega
  · rw [rngI_len, List.length_map]; omega
  · have := (rngI_sub hs).1; rw [List.length_map] at this; omega
  · intro x hx; have := (rngI_sub hs).2 x hx; rw [List.length_map] at this; omega
  · rw [List.length_map]; omega
  · rw [List.length_map]; omega
  · rw [List.length_map] at r1; omega
  · rintro ds ⟨d1, r1, _, rfl, rfl⟩; exact Nat.le_of_ble_eq_true rfl
  · rintro x ⟨ds, ⟨d1, r1, ⟨r, rfl, r0, r2⟩, rfl, rfl⟩, rfl⟩
    exact ⟨[r], rfl, by show 1 ≤ 100; decide, fun x hx => by rw [List.mem_singleton.mp hx]; exact ⟨r0, r2⟩⟩
  · rintro ds ⟨d1, r1, _, ⟨d2, r2, _, ⟨d3, r3, _, rfl, rfl⟩, rfl⟩, rfl⟩
    exact Nat.le_of_ble_eq_true rfl
  · rintro x ⟨ds, ⟨d1, r1, k1, ⟨d2, r2, k2, ⟨d3, r3, k3, rfl, rfl⟩, rfl⟩, rfl⟩, rfl⟩
    refine ⟨_, fun d hd => ?_, rfl⟩
    simp at hd
    rcases hd with z | z | z <;> (subst z; assumption)
end
end FF
namespace FF
open PySem PySem.Spec PyProof.Rows L2 Evl
theorem wgB : WG [(-1, 6), (0, 4), (0, 5)] [(1, 3), (1, 2), (2, 4), (0, 1)] := by
  refine ⟨fun i x hx => ?_, by decide, by decide, by decide, fun p hp => ?_, fun p hp => ?_, fun i x hx h1 => ?_⟩
  · match i, hx with
    | 0, hx => cases hx; decide
    | 1, hx => cases hx; decide
    | 2, hx => cases hx; decide
    | i + 3, hx => simp at hx
  · simp at hp
    rcases hp with z | z | z <;> (subst z; decide)
  · simp at hp
    rcases hp with z | z | z | z <;> (subst z; decide)
  · match i, hx, h1 with
    | 0, _, h1 => omega
    | 1, hx, _ => cases hx; decide
    | 2, hx, _ => cases hx; decide
    | i + 3, hx, _ => simp at hx
end FF
set_option maxHeartbeats 4000000
namespace FF
open PySem PySem.Spec PyProof.Rows L2 Evl
/-! ### sorted of a tuple of whole numbers -/
section
variable {prog : Program} {w : World} {A : Around} {E : Value → Shared → Prop} {s : Shared}
theorem collectTup {l : Addr} {vs : List Value} {Q : List Value → Shared → Prop} (hl : s.heap.IsTuple l vs.toArray)
    (h : Q vs { s with heap := (s.heap.push (seqObj "list" #[] 0)).update s.heap.objs.size (Obj.mapSeq (· ++ vs.toArray)) }) (hsz : vs.length ≤ sizeLine) :
    wpAny (model prog w) A (collect (.ref l)) Q E s := by
  obtain ⟨o, ho, hc, n, hd⟩ := id hl
  unfold collect
  refine wpAny_bind (wpAny_runValue (codeAny_builtin entry_proto_collect' ?_))
  show wpAny _ _ (do again (.builtin "list.__iadd__" ⟨[← newList [], .ref l], []⟩)) _ _ s
  refine wpAny_bind (wpAny_newList (wpAny_pure ⟨Code.quiet_builtin _ (by decide +kernel), codeAny_builtin entry_list_iadd' ?_⟩))
  show wpAny _ _ (Builtin.List.listExtendWith (.ref s.heap.objs.size) (.ref l) (.ref s.heap.objs.size)) _ _ { s with heap := s.heap.push (seqObj "list" #[] 0) }
  unfold Builtin.List.listExtendWith
  have ho' : (s.heap.push (seqObj "list" #[] 0)).get? l = some o := Heap.get?_push_of_some _ ho
  refine wpAny_bind (wpAny_typeOf (T := "tuple") ⟨o, ho', hc⟩ ?_)
  have ht : (Value.type "tuple" == Value.type "tuple") = true := by rfl
  rw [if_pos (by rw [ht]; simp)]
  refine wpAny_bind (listItems_at ho' hd ?_)
  refine wpAny_bind (listItems_at (xs := #[]) (n := 0) (Heap.get?_push_size _ rfl) rfl ?_)
  rw [if_neg (by simp)]
  refine wpAny_bind (listUpdate_at (xs := #[]) (n := 0) (Heap.get?_push_size _ rfl) rfl ?_ (Nat.zero_le _) (by show (#[] ++ vs.toArray).size ≤ sizeLine + 1; simp only [Array.size_append, List.size_toArray, List.length_nil]; omega))
  refine wpAny_pure ?_
  show wpAny (model prog w) A (do
      let o ← load s.heap.objs.size
      match o.data with
      | .seq xs _ => pure xs.toList
      | _ => unsupported "internal:collect") Q E { s with heap := (s.heap.push (seqObj "list" #[] 0)).update s.heap.objs.size (Obj.mapSeq (· ++ vs.toArray)) }
  refine wpAny_bind (wpAny_load (get?_update_seq (Heap.get?_push_size _ rfl) _) ?_)
  show wpAny _ _ (pure ((#[] : Array Value) ++ vs.toArray).toList) Q E _
  rw [show ((#[] : Array Value) ++ vs.toArray).toList = vs by simp]
  exact wpAny_pure h
open SrtO in
theorem sortedTup {l : Addr} {vs : List Value} {ltv : Value → Value → Bool} {Q : Value → Shared → Prop} (O : Swo ltv) (hl : s.heap.IsTuple l vs.toArray) (hz : vs.length ≤ sizeLine)
    (hS : 2 ≤ vs.length → ∀ (h₁ : Heap) (a : Addr), h₁.get? a = some (seqObj "list" vs.toArray 0) → (∀ b o, s.heap.get? b = some o → b ≠ a ∧ h₁.get? b = some o) → SortableO prog w A.in1.in1 { s with heap := h₁ } a vs ltv)
    (h : ∀ out : List Value, Srtd ltv out → Stb ltv out vs → Q (.ref (s.heap.objs.size + 1)) { s with heap := sortedAll s.heap vs out.toArray }) :
    wpAny (model prog w) A (call (.builtin "sorted") [.ref l]) Q E s := by
  refine Calls.call_function_entry kind_sorted plain_sorted entry_sorted (args_sorted1 _) ?_
  unfold Builtin.«sorted»
  refine wpAny_bind (m := checkCount "sorted" 1 1 _) (wpAny_pure ?_)
  refine wpAny_bind (collectTup hl ?_ hz)
  refine wpAny_bind (wpAny_newList ?_ hz)
  have hsz : ((s.heap.push (seqObj "list" #[] 0)).update s.heap.objs.size (Obj.mapSeq (· ++ vs.toArray))).objs.size = s.heap.objs.size + 1 := by
    rw [Heap.size_update, size_push']
  have hoL : (((s.heap.push (seqObj "list" #[] 0)).update s.heap.objs.size (Obj.mapSeq (· ++ vs.toArray))).push (seqObj "list" vs.toArray 0)).get? (s.heap.objs.size + 1) = some (seqObj "list" vs.toArray 0) := by
    rw [← hsz]; exact Heap.get?_push_size _ rfl
  have keep : ∀ b o, s.heap.get? b = some o → b ≠ s.heap.objs.size + 1 ∧ (((s.heap.push (seqObj "list" #[] 0)).update s.heap.objs.size (Obj.mapSeq (· ++ vs.toArray))).push (seqObj "list" vs.toArray 0)).get? b = some o := fun b o q => by
    have hlt : b < s.heap.objs.size := Heap.lt_size q
    refine ⟨Nat.ne_of_lt (Nat.lt_succ_of_lt hlt), Heap.get?_push_of_some _ ?_⟩
    rw [Heap.get?_update_ne _ _ _ _ (Nat.ne_of_lt hlt)]
    exact Heap.get?_push_of_some _ q
  show wpAny _ _ _ _ _ { s with heap := ((s.heap.push (seqObj "list" #[] 0)).update s.heap.objs.size (Obj.mapSeq (· ++ vs.toArray))).push (seqObj "list" vs.toArray 0) }
  rw [hsz]
  refine wpAny_bind (wpAny_holding (wpAny_call_entry slot_list_sort ⟨_, hoL, rfl⟩ entry_list_sort (list_sort_ord O hoL hz (fun h2 => hS h2 _ _ hoL keep) fun out hs hb => ⟨_, rfl, ?_⟩) (args_list_sort _)))
  exact wpAny_pure ⟨_, rfl, h out hs hb⟩
end
/-- sorted(xs), whole numbers, a list or a tuple -/
def rSortedA (K : PySem.W.Frag) : List V → Hp → VK → Prop := fun vs H Q => ∃ (a : Addr) (ns : List Int), vs = [V.ref a] ∧ (SqL K H a (ns.map V.int) ∨ SqT K H a (ns.map V.int)) ∧
  ∀ (ns' : List Int) (p : Addr), ns'.Perm ns → ns'.Pairwise (· ≤ ·) → H p = none → Q (.ref p) (upd H p (.lst (ns'.map V.int)))
theorem cr_sortedA {X : Cx} : CallR X (.builtin "sorted") (rSortedA X.K) := by
  intro pins s σ H vs us Q I r h
  obtain ⟨a, ns, rfl, hs, q⟩ := h
  rcases hs with hs | hs
  · exact cr_sortedI pins s σ H _ us Q I r ⟨a, ns, rfl, hs, q⟩
  · obtain ⟨its, rv, hl, hz⟩ := I.tuple hs
    rw [Vals.ref1 r]
    have hi := rv.ints
    refine sortedTup SrtO.swo_int hl (by rw [← rv.length]; exact hz) (fun h2 h₁ a' _ _ => SrtO.ints_sortable hi h2) fun out h1 h2 => ?_
    obtain ⟨k1, k2, k3⟩ := SrtO.ints_out hi h1 h2
    obtain ⟨ep, he'⟩ := PyProof.Rows.sortedAll_at s.heap its out.toArray
    have hlen : ((out.map SrtO.iv).map V.int).length ≤ sizeLine := by
      rw [List.length_map, k2.length_eq]
      rw [List.length_map] at hz
      exact hz
    exact ⟨.ref _, upd H (s.heap.objs.size + 1) (.lst ((out.map SrtO.iv).map V.int)), I.laid (t' := s.toks) (fun _ _ => PyProof.Rows.sortedAll_old) (Nat.le_succ _) ⟨hlen, out, ep, vals_of_ints k1, he'⟩, rfl, q _ _ k2 k3 (I.hok.fresh (Nat.le_succ _))⟩
/-! ### how many unlike whole numbers a tuple has -/
theorem nodup_erase {l : List Int} {x : Int} (h : l.Nodup) : (l.erase x).Nodup := h.sublist List.erase_sublist
/-- a row without twice, all of whose items stand in another one -/
theorem nodup_sub : ∀ {l m : List Int}, l.Nodup → (∀ x ∈ l, x ∈ m) → l.length ≤ m.length
  | [], _, _, _ => Nat.zero_le _
  | x :: l, m, h, hs => by
    obtain ⟨h1, h2⟩ := List.nodup_cons.mp h
    have hm := hs x (List.mem_cons_self ..)
    have ih := nodup_sub (m := m.erase x) h2 fun y hy => by
      have ne : y ≠ x := fun z => h1 (z ▸ hy)
      exact (List.mem_erase_of_ne ne).mpr (hs y (List.mem_cons_of_mem _ hy))
    rw [List.length_erase_of_mem hm] at ih
    have : 0 < m.length := List.length_pos_of_mem hm
    rw [List.length_cons]
    omega
theorem len_nodup {l m : List Int} (hl : l.Nodup) (h : ∀ x, x ∈ l ↔ x ∈ m) : l.length = m.length ↔ m.Nodup := by
  constructor
  · intro e
    -- if not, an item could be left out
    induction m generalizing l with
    | nil => exact List.nodup_nil
    | cons x m ih =>
      refine List.nodup_cons.mpr ⟨fun hx => ?_, ?_⟩
      · have := nodup_sub hl (m := m) fun y hy => by
          rcases List.mem_cons.mp ((h y).mp hy) with z | z
          · rw [z]; exact hx
          · exact z
        rw [e, List.length_cons] at this
        omega
      · have hx : x ∈ l := (h x).mpr (List.mem_cons_self ..)
        by_cases c : x ∈ m
        · have := nodup_sub hl (m := m) fun y hy => by
            rcases List.mem_cons.mp ((h y).mp hy) with z | z
            · rw [z]; exact c
            · exact z
          rw [e, List.length_cons] at this
          omega
        · refine ih (l := l.erase x) (nodup_erase hl) (fun y => ?_) ?_
          · constructor
            · intro hy
              have ne : y ≠ x := fun z => by
                subst z
                exact (List.Nodup.not_mem_erase hl) hy
              rcases List.mem_cons.mp ((h y).mp (List.mem_of_mem_erase hy)) with z | z
              · exact absurd z ne
              · exact z
            · intro hy
              have ne : y ≠ x := fun z => c (z ▸ hy)
              exact (List.mem_erase_of_ne ne).mpr ((h y).mpr (List.mem_cons_of_mem _ hy))
          · rw [List.length_erase_of_mem hx, e, List.length_cons]
            omega
  · intro hm
    exact Nat.le_antisymm (nodup_sub hl fun x hx => (h x).mp hx) (nodup_sub hm fun x hx => (h x).mpr hx)
def tLenSetT (K : PySem.W.Frag) (ta : TE) : TE := fun σ H Q => ta σ H fun x H1 => ∃ (l : Addr) (ns : List Int), x = .ref l ∧ SqT K H1 l (ns.map V.int) ∧ ns.length ≤ 4000 ∧ ∀ n : Nat, (n = ns.length ↔ ns.Nodup) → Q (.int (n : Nat)) H1
theorem pe_lenSetT {X : Cx} {a : Expr} {ta : TE} {p p2 q pos : Pos} (hg : Gl X "len") (hm : X.mg "len" = none) (hg2 : Gl X "set") (hm2 : X.mg "set" = none) (ha : PE X a ta) (hc : X.calm = true := by rfl)
    (na : starEach [a] X.env = (false, eval a X.env) :: starEach [] X.env := by rfl) : PE X (.Call (.Name "len" p) [.Call (.Name "set" p2) [a] [] q] [] pos) (tLenSetT X.K ta) := by
  refine ⟨fun pins s σ H Q I h => ?_⟩
  refine Call_ (ld_blt I hg hm boot_len ?_)
  refine PyProof.Rows.callWith_builtin1 (PyProof.Rows.args_cons ?_ rfl) rfl rfl
  refine Call_ (ld_blt I hg2 hm2 boot_set ?_)
  refine PyProof.Rows.callWith_type1 (PyProof.Rows.args_cons (thn (ha.run pins s σ H _ I h) fun v s1 ⟨x, H1, I1, r1, q1⟩ => PyProof.Rows.args_nil ?_) na) na rfl
  obtain ⟨l, ns, rfl, hq, hl, q1⟩ := q1
  cases r1
  obtain ⟨its, r, pl, hz⟩ := I1.tuple hq
  refine call_set_tupI ns (I1.ok.hd hc) pl (by simpa using r.ints) (by unfold scanBound; omega) fun h' tk c hS hcl hk => ?_
  refine PyProof.Rows.args_nil ?_
  obtain ⟨o, es, ep, t, ho, hex, hd, _, hnd, hmem, _, hf, hn, _⟩ := hS
  have I2 : Inv X pins σ H1 { s1 with heap := h', toks := tk } := I1.kept fun b o e => hk b o e
  have hlen : (es.toList.map keyOf).length = c := by rw [List.length_map, Array.length_toList, hn]
  have hnn : c = ns.length ↔ ns.Nodup := by
    rw [← hlen]
    refine len_nodup hnd fun x => ?_
    rw [← hmem x, decide_eq_true_eq]
  exact call_len_set ho hex hd hf (by rw [hn]; omega) ⟨.int c, H1, I2.tok _, ⟨_, by rw [hn]⟩, q1 c hnn⟩
/-! ### rules -/
section
variable {K : PySem.W.Frag} {Z : Zk} {η : List Ent} {te ta tb : TE} {R R' : PyData → Prop}
/-- ascending, the same items -/
def insI (x : Int) : List Int → List Int
  | [] => [x]
  | y :: l => if x ≤ y then x :: y :: l else y :: insI x l
def sortI : List Int → List Int
  | [] => []
  | x :: l => insI x (sortI l)
theorem insI_perm (x : Int) : ∀ l : List Int, (insI x l).Perm (x :: l)
  | [] => List.Perm.refl _
  | y :: l => by
    unfold insI
    split
    · exact List.Perm.refl _
    · exact ((insI_perm x l).cons y).trans (List.Perm.swap x y l)
theorem insI_mem {x y : Int} {l : List Int} : y ∈ insI x l ↔ y = x ∨ y ∈ l := by rw [(insI_perm x l).mem_iff, List.mem_cons]
theorem insI_sorted (x : Int) : ∀ {l : List Int}, l.Pairwise (· ≤ ·) → (insI x l).Pairwise (· ≤ ·)
  | [], _ => List.pairwise_singleton _ _
  | y :: l, h => by
    obtain ⟨h1, h2⟩ := List.pairwise_cons.mp h
    unfold insI
    split
    · next c => exact List.pairwise_cons.mpr ⟨fun z hz => by
        rcases List.mem_cons.mp hz with e | e
        · omega
        · have := h1 z e; omega, h⟩
    · next c => exact List.pairwise_cons.mpr ⟨fun z hz => by
        rcases insI_mem.mp hz with e | e
        · omega
        · exact h1 z e, insI_sorted x h2⟩
theorem sortI_perm : ∀ l : List Int, (sortI l).Perm l
  | [] => List.Perm.refl _
  | x :: l => (insI_perm x (sortI l)).trans ((sortI_perm l).cons x)
theorem sortI_sorted : ∀ l : List Int, (sortI l).Pairwise (· ≤ ·)
  | [] => List.Pairwise.nil
  | x :: l => insI_sorted x (sortI_sorted l)
theorem sorted_unique : ∀ {l m : List Int}, l.Perm m → l.Pairwise (· ≤ ·) → m.Pairwise (· ≤ ·) → l = m
  | [], m, p, _, _ => (List.Perm.nil_eq p)
  | x :: l, [], p, _, _ => by have := p.length_eq; simp at this
  | x :: l, y :: m, p, h1, h2 => by
    obtain ⟨a1, a2⟩ := List.pairwise_cons.mp h1
    obtain ⟨b1, b2⟩ := List.pairwise_cons.mp h2
    have e : x = y := by
      have hx : x ∈ y :: m := p.subset (List.mem_cons_self ..)
      have hy : y ∈ x :: l := p.symm.subset (List.mem_cons_self ..)
      rcases List.mem_cons.mp hx with z | z
      · exact z
      · rcases List.mem_cons.mp hy with u | u
        · exact u.symm
        · have := a1 y u
          have := b1 x z
          omega
    subst e
    rw [sorted_unique (List.Perm.cons_inv p) a2 b2]
theorem sortI_of {l : List Int} (h : l.Pairwise (· ≤ ·)) : sortI l = l := sorted_unique (sortI_perm l) (sortI_sorted l) h
theorem freshBack {G H G1 H1 : Hp} {l : Addr} (b : Bs Z G H) (s : Stp Z G H G1 H1) (n : H1 l = none) : H l = none := by
  by_cases c : l ∈ mz Z
  · exact absurd c (s.d.ne n)
  · cases e : H l with
    | none => rfl
    | some o => rw [s.k l o e c] at n; cases n
theorem so_sortedL {ns : List Int} (h1 : SQ K Z ta η (intsL ns)) : SOQ K Z (tCB (rSortedA K) (tCons ta tNil)) η ((sortI ns).map .int) :=
  so_cb h1 fun v1 G H b d1 Q q => by
    obtain ⟨a, xs, rfl, ht, ha⟩ := dq_lst d1
    have e := dqa_ints ha
    subst e
    refine ⟨a, ns, rfl, .inl (ex_l b.ex ht), fun ns' p k1 k2 np => ?_⟩
    have e : ns' = sortI ns := sorted_unique (k1.trans (sortI_perm ns).symm) k2 (sortI_sorted ns)
    subst e
    exact q p _ _ _ rfl np (Ex.new np) (b.dk.new np) upd_same ints_dqa
theorem so_sortedT {ns : List Int} (h1 : SQ K Z ta η (intsT ns)) : SOQ K Z (tCB (rSortedA K) (tCons ta tNil)) η ((sortI ns).map .int) :=
  so_cb h1 fun v1 G H b d1 Q q => by
    obtain ⟨a, xs, rfl, ht, ha⟩ := dq_tup d1
    have e := dqa_ints ha
    subst e
    refine ⟨a, ns, rfl, .inr (ex_t b.ex ht), fun ns' p k1 k2 np => ?_⟩
    have e : ns' = sortI ns := sorted_unique (k1.trans (sortI_perm ns).symm) k2 (sortI_sorted ns)
    subst e
    exact q p _ _ _ rfl np (Ex.new np) (b.dk.new np) upd_same ints_dqa
theorem se_lenSet {ns : List Int} (h1 : SQ K Z ta η (intsT ns)) (hl : ns.length ≤ 4000) : SE K Z (tLenSetT K ta) η (fun d => ∃ n : Nat, d = .int (n : Nat) ∧ (n = ns.length ↔ ns.Nodup)) := fun σ G H b s Q q =>
  h1 σ G H b s _ fun v1 d G1 H1 e1 s1 hd1 => by
    subst e1
    obtain ⟨a, xs, rfl, ht, ha⟩ := dq_tup hd1
    have e := dqa_ints ha
    subst e
    exact ⟨a, ns, rfl, ex_t s1.s ht, hl, fun n hn => q _ _ _ _ ⟨n, rfl, hn⟩ s1 (.int _)⟩
/-- isinstance(x, T) -/
theorem se_isi {d : PyData} {T : String} {c : Bool} (h1 : SQ K Z ta η d) (k : kitB (tyD d) T = some c) : SQ K Z (tCB (rIsi K) (tCons ta (tCons (tC (.ty T)) tNil))) η (.bool c) := fun σ G H b s Q q =>
  h1 σ G H b s _ fun v1 d1 G1 H1 e1 s1 hd1 => by
    subst e1
    exact isiV (Dq.ex s1.s _ _ hd1) k (q _ _ _ _ rfl s1 (.bl _))
theorem se_chainI {p p' : Int → Int → Bool} {tc : TE} {i j l : Int} (h1 : SQ K Z ta η (.int i)) (h2 : SQ K Z tb η (.int j)) (h3 : p i j = true → SQ K Z tc η (.int l)) :
    SQ K Z (tChain (rI0 fun i j => .bl (p i j)) (rI0 fun i j => .bl (p' i j)) ta tb tc) η (.bool (p i j && p' j l)) := fun σ G H b s Q q =>
  h1 σ G H b s _ fun v1 d1 G1 H1 e1 s1 hd1 => h2 σ G1 H1 (b.go s1) (s.ex s1.g) _ fun v2 d2 G2 H2 e2 s2 hd2 => by
    subst e1 e2
    have s12 := s1.trans s2
    refine ⟨i, j, dq_int hd1, dq_int hd2, p i j, rfl, ?_⟩
    cases c : p i j with
    | false => exact iteF (q _ _ G2 H2 (by rw [c]; rfl) s12 (.bl _))
    | true =>
      refine iteT (h3 c σ G2 H2 (b.go s12) (s.ex s12.g) _ fun v3 d3 G3 H3 e3 s3 hd3 => ?_)
      subst e3
      exact ⟨j, l, dq_int hd2, dq_int hd3, q _ _ G3 H3 (by rw [c]; rfl) (s12.trans s3) (.bl _)⟩
/-- parts of slices -/
theorem sp_none : SP' K Z tNoPart η none := fun σ G H b s Q q => q G H (.refl b)
theorem sp_some {i : Int} (h : SQ K Z te η (.int i)) : SP' K Z (tPart te) η (some i) := fun σ G H b s Q q =>
  h σ G H b s _ fun v d G1 H1 e s1 hd => by
    subst e
    exact ⟨i, dq_int hd, q G1 H1 s1⟩
def cutD (ds : List PyData) (lo hi : Option Int) : List PyData := (ds.drop (HT.sIx ds.length 0 lo)).take (HT.sIx ds.length ds.length hi - HT.sIx ds.length 0 lo)
/-- t[lo:hi] -/
theorem se_slT {ds : List PyData} {tl th : TO} {lo hi : Option Int} (h1 : SQ K Z ta η (.tuple ds)) (h2 : SP' K Z tl η lo) (h3 : SP' K Z th η hi) : SQ K Z (tSl (rSlA K) ta tl th) η (.tuple (cutD ds lo hi)) := fun σ G H b s Q q =>
  h1 σ G H b s _ fun v1 d1 G1 H1 e1 s1 hd1 => h2 σ G1 H1 (b.go s1) (s.ex s1.g) _ fun G2 H2 s2 => h3 σ G2 H2 ((b.go s1).go s2) ((s.ex s1.g).ex s2.g) _ fun G3 H3 s3 => by
    subst e1
    have b3 := ((b.go s1).go s2).go s3
    have hd3 := Dq.ex (s2.g.trans s3.g) _ _ hd1
    have st := (s1.trans s2).trans s3
    obtain ⟨a, xs, rfl, ht, ha⟩ := dq_tup hd3
    refine ⟨a, xs, rfl, ex_t b3.ex ht, fun w => ?_, fun w p np => ?_⟩
    · have e : cutD ds lo hi = ds := by
        unfold cutD
        rw [← ha.len, w.1, w.2, Nat.sub_zero, List.drop_zero, ha.len, List.take_length]
      rw [e] at q
      exact q _ _ G3 H3 rfl st hd3
    · refine q _ _ _ _ rfl (st.trans (.new b3 np)) (.tup (SqT.of upd_same) ?_)
      have e : cutD ds lo hi = (ds.drop (HT.sIx xs.length 0 lo)).take (HT.sIx xs.length xs.length hi - HT.sIx xs.length 0 lo) := by unfold cutD; rw [ha.len]
      rw [e]
      unfold cutV
      exact DqA.ex (Ex.new (none_of b3.ex np)) _ _ ((ha.drop _).take _)
theorem se_revT {ds : List PyData} (h1 : SQ K Z ta η (.tuple ds)) : SQ K Z (tRevT K ta) η (.tuple ds.reverse) := fun σ G H b s Q q =>
  h1 σ G H b s _ fun v1 d1 G1 H1 e1 s1 hd1 => by
    subst e1
    obtain ⟨a, xs, rfl, ht, ha⟩ := dq_tup hd1
    exact ⟨a, xs, rfl, ex_t s1.s ht, fun p np => q _ _ _ _ rfl (s1.trans (.new (b.go s1) np)) (.tup (SqT.of upd_same) (DqA.ex (Ex.new (none_of s1.s np)) _ _ ha.rev))⟩
theorem cutD_to (l : List Int) (i : Nat) : cutD (l.map PyData.int) none (some (i : Int)) = (l.take i).map PyData.int := by
  unfold cutD
  rw [HT.sIx_none, HT.sIx_nat, List.drop_zero, Nat.sub_zero, ← List.map_take, List.length_map]
  by_cases c : i ≤ l.length
  · rw [Nat.min_eq_left c]
  · rw [Nat.min_eq_right (by omega), List.take_of_length_le (Nat.le_refl _), List.take_of_length_le (by omega)]
end
end FF
set_option maxHeartbeats 4000000
namespace FF
open PySem PySem.Spec PyProof.Rows L2 Evl
/-! ### sorted(set(t)), t a tuple of small whole numbers -/
theorem nodup_len60 {l : List Int} (h : l.Nodup) (hb : ∀ x ∈ l, 0 ≤ x ∧ x < 60) : l.length ≤ 60 := by
  have := nodup_sub h (m := rngI 60) fun x hx => rngI_mem.mpr (hb x hx)
  rw [rngI_len] at this
  exact this
def tSortSetT (K : PySem.W.Frag) (ta : TE) : TE := fun σ H Q => ta σ H fun x H1 => ∃ (l : Addr) (ns : List Int), x = .ref l ∧ SqT K H1 l (ns.map V.int) ∧ ns.length ≤ 4000 ∧ (∀ k ∈ ns, 0 ≤ k ∧ k < 60) ∧
  ∀ (ms : List Int) (p : Addr), ms.Pairwise (· < ·) → (∀ k, k ∈ ms ↔ k ∈ ns) → H1 p = none → Q (.ref p) (upd H1 p (.lst (ms.map V.int)))
theorem pe_sortSetT {X : Cx} {a : Expr} {ta : TE} {p p2 q pos : Pos} (hg : Gl X "sorted") (hm : X.mg "sorted" = none) (hg2 : Gl X "set") (hm2 : X.mg "set" = none) (ha : PE X a ta) (hc : X.calm = true := by rfl)
    (na : starEach [a] X.env = (false, eval a X.env) :: starEach [] X.env := by rfl) (na2 : starEach [.Call (.Name "set" p2) [a] [] q] X.env = (false, eval (.Call (.Name "set" p2) [a] [] q) X.env) :: starEach [] X.env := by rfl) : PE X (.Call (.Name "sorted" p) [.Call (.Name "set" p2) [a] [] q] [] pos) (tSortSetT X.K ta) := by
  refine ⟨fun pins s σ H Q I h => ?_⟩
  refine Call_ (ld_blt I hg hm PyProof.Rows.boot_sorted ?_)
  refine PyProof.Rows.callWith_builtin1 (PyProof.Rows.args_cons ?_ na2) na2 rfl
  refine Call_ (ld_blt I hg2 hm2 boot_set ?_)
  refine PyProof.Rows.callWith_type1 (PyProof.Rows.args_cons (thn (ha.run pins s σ H _ I h) fun v s1 ⟨x, H1, I1, r1, q1⟩ => PyProof.Rows.args_nil ?_) na) na rfl
  obtain ⟨l, ns, rfl, hq, hl, few, q1⟩ := q1
  cases r1
  obtain ⟨its, r, pl, hz⟩ := I1.tuple hq
  refine call_set_tupI ns (I1.ok.hd hc) pl (by simpa using r.ints) (by unfold scanBound; omega) fun h' tk c hS hcl hk => ?_
  refine PyProof.Rows.args_nil ?_
  have I2 : Inv X pins σ H1 { s1 with heap := h', toks := tk } := I1.kept fun b o e => hk b o e
  have c64 : c < 64 := by
    obtain ⟨o, es, ep, t, ho, hex, hd, _, hnd, hmem, _, hf, hn, _⟩ := id hS
    have hlen : (es.toList.map keyOf).length = c := by rw [List.length_map, Array.length_toList, hn]
    have := nodup_len60 hnd fun x hx => few x (of_decide_eq_true ((hmem x).mpr hx))
    omega
  refine sorted_set (s := { s1 with heap := h', toks := tk }) hS (I1.ok.hd hc) c64 fun s' pp out cc ms kp hgn hos hpp hat hia hpw hmem hlen => ?_
  have hn : H1 pp = none := I2.hok.fresh hpp
  have hsz : (ms.map V.int).length ≤ sizeLine := by rw [List.length_map, hlen, sizeLine_eq]; omega
  have J : Inv X pins σ (upd H1 pp (.lst (ms.map V.int))) { s1 with heap := s'.heap, gens := s'.gens, drawn := s'.drawn, toks := s'.toks } :=
    Inv.call (s := { s1 with heap := h', toks := tk }) (ch := []) I2 (Un.laid kp hpp hn) (I2.hok.laid kp hpp ⟨hsz, out.toList, cc, vals_of_ints hia, by rw [Array.toArray_toList]; exact hat⟩) (by rw [hgn]; exact I2.bare) (fun _ z => nomatch z)
  have e : s' = { s1 with heap := s'.heap, gens := s'.gens, drawn := s'.drawn, toks := s'.toks } := by
    cases s'
    cases s1
    cases hos
    rfl
  rw [e]
  exact ⟨.ref pp, _, J, rfl, q1 ms pp hpw (fun k => (hmem k).trans decide_eq_true_iff) hn⟩
end FF
namespace FF
open PySem PySem.Spec PyProof.Rows L2 Evl
/-! ### values of any kind: which are whole numbers, rows, sets -/
def intIn (lo hi : Int) : PyData → Bool
  | .int i => decide (lo ≤ i) && decide (i ≤ hi)
  | _ => false
def rowIn (lo hi : Int) : PyData → Bool
  | .tuple xs => decide (lo ≤ (xs.length : Int)) && decide ((xs.length : Int) ≤ hi)
  | _ => false
def toInts : List PyData → Option (List Int)
  | [] => some []
  | .int i :: r => (toInts r).map (i :: ·)
  | _ :: _ => none
theorem toInts_map : ∀ l : List Int, toInts (l.map .int) = some l
  | [] => rfl
  | x :: l => by rw [List.map_cons]; unfold toInts; rw [toInts_map l]; rfl
theorem toInts_some : ∀ {xs : List PyData} {l : List Int}, toInts xs = some l → xs = l.map .int
  | [], l, h => by cases h; rfl
  | .int i :: r, l, h => by
    unfold toInts at h
    cases c : toInts r with
    | none => rw [c] at h; cases h
    | some m => rw [c] at h; cases h; rw [List.map_cons, ← toInts_some c]
  | .none :: _, _, h => by cases h
  | .bool _ :: _, _, h => by cases h
  | .str _ :: _, _, h => by cases h
  | .list _ :: _, _, h => by cases h
  | .tuple _ :: _, _, h => by cases h
  | .dict _ :: _, _, h => by cases h
/-- the whole numbers of a tuple of them -/
def rowOf : PyData → Option (List Int)
  | .tuple xs => toInts xs
  | _ => none
theorem rowOf_some {d : PyData} {l : List Int} (h : rowOf d = some l) : d = intsT l := by
  cases d with
  | tuple xs => exact congrArg PyData.tuple (toInts_some h)
  | _ => cases h
theorem rowOf_ints (l : List Int) : rowOf (intsT l) = some l := toInts_map l
def unlikeB (n : Nat) (d : PyData) : Bool := match rowOf d with
  | some l => decide (l.length ≤ n) && (l.all fun x => decide (0 ≤ x) && decide (x ≤ (n : Int) - 1)) && decide l.Nodup
  | none => false
def ascB (n : Nat) (d : PyData) : Bool := unlikeB n d && match rowOf d with
  | some l => decide (l = sortI l)
  | none => false
theorem ints_of : ∀ {xs : List PyData} {lo hi : Int}, xs.all (intIn lo hi) = true → ∃ l : List Int, xs = l.map .int ∧ ∀ x ∈ l, lo ≤ x ∧ x ≤ hi
  | [], _, _, _ => ⟨[], rfl, fun x hx => nomatch hx⟩
  | x :: xs, lo, hi, h => by
    rw [List.all_cons, Bool.and_eq_true] at h
    obtain ⟨l, rfl, hl⟩ := ints_of h.2
    cases x with
    | int i =>
      have h1 := h.1
      unfold intIn at h1
      rw [Bool.and_eq_true, decide_eq_true_eq, decide_eq_true_eq] at h1
      refine ⟨i :: l, rfl, fun x hx => ?_⟩
      rcases List.mem_cons.mp hx with z | z
      · rw [z]; exact h1
      · exact hl x z
    | _ => cases h.1
theorem all_ints {l : List Int} {lo hi : Int} : (l.map PyData.int).all (intIn lo hi) = l.all fun x => decide (lo ≤ x) && decide (x ≤ hi) := by
  rw [List.all_map]; rfl
theorem rowIn_tup {n : Nat} {d : PyData} (h : rowIn 0 n d = true) : ∃ xs, d = .tuple xs ∧ xs.length ≤ n := by
  cases d with
  | tuple xs =>
    unfold rowIn at h
    rw [Bool.and_eq_true, decide_eq_true_eq, decide_eq_true_eq] at h
    exact ⟨xs, rfl, by omega⟩
  | _ => cases h
theorem unlike_row {n : Nat} {d : PyData} (h : rowIn 0 n d = false) : unlikeB n d = false := by
  unfold unlikeB
  cases c : rowOf d with
  | none => rfl
  | some l =>
    have e := rowOf_some c
    subst e
    replace h : (decide ((0 : Int) ≤ ((l.map PyData.int).length : Int)) && decide (((l.map PyData.int).length : Int) ≤ (n : Int))) = false := h
    rw [List.length_map] at h
    have : ¬ l.length ≤ n := fun z => by
      rw [decide_eq_true (show (0 : Int) ≤ (l.length : Int) by omega), decide_eq_true (show (l.length : Int) ≤ (n : Int) by omega)] at h
      cases h
    show (decide (l.length ≤ n) && _ && _) = false
    rw [decide_eq_false this]
    rfl
theorem unlike_ints {n : Nat} {l : List Int} (hl : l.length ≤ n) (h : ∀ x ∈ l, 0 ≤ x ∧ x ≤ (n : Int) - 1) : unlikeB n (intsT l) = decide l.Nodup := by
  unfold unlikeB
  rw [rowOf_ints]
  have e : (l.all fun x => decide (0 ≤ x) && decide (x ≤ (n : Int) - 1)) = true := List.all_eq_true.mpr fun x hx => by
    have := h x hx
    rw [decide_eq_true this.1, decide_eq_true this.2]
    rfl
  show (decide (l.length ≤ n) && _ && _) = _
  rw [decide_eq_true hl, e]
  rfl
theorem unlike_no {n : Nat} {xs : List PyData} (h : xs.all (intIn 0 ((n : Int) - 1)) = false) : unlikeB n (.tuple xs) = false := by
  unfold unlikeB
  cases c : rowOf (.tuple xs) with
  | none => rfl
  | some l =>
    have e := rowOf_some c
    have e2 : xs = l.map .int := PyData.tuple.inj e
    subst e2
    rw [all_ints] at h
    show (decide (l.length ≤ n) && (l.all fun x => decide (0 ≤ x) && decide (x ≤ (n : Int) - 1)) && _) = false
    rw [h, Bool.and_false]
    rfl
theorem unlike_yes {n : Nat} {d : PyData} (h : unlikeB n d = true) : ∃ l, d = intsT l ∧ l.length ≤ n ∧ (∀ x ∈ l, 0 ≤ x ∧ x < n) ∧ l.Nodup := by
  unfold unlikeB at h
  cases c : rowOf d with
  | none => rw [c] at h; cases h
  | some l =>
    rw [c] at h
    have h' : (decide (l.length ≤ n) && (l.all fun x => decide (0 ≤ x) && decide (x ≤ (n : Int) - 1)) && decide l.Nodup) = true := h
    rw [Bool.and_eq_true, Bool.and_eq_true, decide_eq_true_eq, decide_eq_true_eq, List.all_eq_true] at h'
    refine ⟨l, rowOf_some c, h'.1.1, fun x hx => ?_, h'.2⟩
    have q := h'.1.2 x hx
    rw [Bool.and_eq_true, decide_eq_true_eq, decide_eq_true_eq] at q
    omega
theorem eqv_intsL : ∀ l m : List Int, PyData.eqv (intsL l) (intsL m) = decide (l = m) := fun l m => by
  have h : ∀ l m : List Int, PyData.eqvAll (l.map .int) (m.map .int) = decide (l = m) := fun l => by
    induction l with
    | nil => intro m; cases m <;> rfl
    | cons x l ih =>
      intro m
      cases m with
      | nil => rfl
      | cons y m =>
        rw [List.map_cons, List.map_cons]
        simp only [PyData.eqvAll, ih]
        by_cases c : x = y
        · subst c
          simp [PyData.eqv]
        · simp [PyData.eqv, c]
  exact h l m
theorem asc_ints {n : Nat} {l : List Int} (h : unlikeB n (intsT l) = true) : ascB n (intsT l) = decide (l = sortI l) := by
  unfold ascB
  rw [h, rowOf_ints]
  rfl
end FF
namespace FF
open PySem PySem.Spec PyProof.Rows L2 Evl
/-! ### the mathematics of blowing -/
theorem lit_way {ab : List Int} {ls : List (Int × Int)} {on bl : List Int} {l f : Int} (h : l ∈ litD ab ls on bl) (hf : f ∈ way ab (lampAt ls l).1) : f ∉ bl := fun z => by
  have := (List.mem_filter.mp h).2
  have d : deadF ab bl (lampAt ls l).1 = true := by
    unfold deadF
    exact List.any_eq_true.mpr ⟨f, hf, decide_eq_true z⟩
  rw [d] at this
  cases this
/-- a blown fuse has no load -/
theorem load_blown {ab : List Int} {ls : List (Int × Int)} {on bl : List Int} {f : Int} (h : f ∈ bl) : loadD ab ls (litD ab ls on bl) f = 0 := by
  unfold loadD
  refine sumBy_zero fun x hx => ?_
  obtain ⟨l, hl, rfl⟩ := List.mem_map.mp hx
  exact decide_eq_false fun z => lit_way hl z h
theorem mark_nonneg {fs ls : List (Int × Int)} (g : WG fs ls) {f : Int} (h0 : 0 ≤ f) (h1 : f < fs.length) : 0 ≤ markAt fs f := by
  obtain ⟨p, hp⟩ := get_of h0 h1
  unfold markAt
  rw [getD_of hp]
  exact (g.marks p (List.mem_of_getElem? hp)).1
theorem str_not_blown {fs ls : List (Int × Int)} (g : WG fs ls) {on bl : List Int} {f : Int} (h : f ∈ strD fs ls on bl) : f ∉ bl := fun z => by
  have hb := strD_mem h
  have := of_decide_eq_true (List.mem_filter.mp h).2
  rw [load_blown z] at this
  have := mark_nonneg g hb.1 hb.2
  omega
/-- each is strained when those ahead of it are blown -/
def ordB (fs ls : List (Int × Int)) (on l : List Int) : Bool := (List.range l.length).all fun i => match l[i]? with
  | some x => decide (x ∈ strD fs ls on (l.take i))
  | none => true
theorem ordB_at {fs ls : List (Int × Int)} {on l : List Int} (h : ordB fs ls on l = true) {i : Nat} {x : Int} (hx : l[i]? = some x) : x ∈ strD fs ls on (l.take i) := by
  have hi := (List.getElem?_eq_some_iff.mp hx).1
  have q := List.all_eq_true.mp h i (List.mem_range.mpr hi)
  rw [hx] at q
  exact of_decide_eq_true q
theorem ordB_of {fs ls : List (Int × Int)} {on l : List Int} (h : ∀ (i : Nat) (x : Int), l[i]? = some x → x ∈ strD fs ls on (l.take i)) : ordB fs ls on l = true := List.all_eq_true.mpr fun i hi => by
  rw [List.getElem?_eq_getElem (List.mem_range.mp hi)]
  exact decide_eq_true (h i _ (List.getElem?_eq_getElem (List.mem_range.mp hi)))
theorem nodup_take {l : List Int} (h : ∀ (i : Nat) (x : Int), l[i]? = some x → x ∉ l.take i) : l.Nodup := by
  rw [List.nodup_iff_pairwise_ne, List.pairwise_iff_getElem]
  intro i j hi hj hij e
  refine h j l[j] (List.getElem?_eq_getElem hj) ?_
  rw [List.mem_take_iff_getElem]
  exact ⟨i, by omega, e⟩
theorem ord_nodup {fs ls : List (Int × Int)} (g : WG fs ls) {on l : List Int} (h : ordB fs ls on l = true) : l.Nodup := nodup_take fun i x hx => str_not_blown g (ordB_at h hx)
theorem nodup_len {l : List Int} {n : Nat} (h : l.Nodup) (hb : ∀ x ∈ l, 0 ≤ x ∧ x < n) : l.length ≤ n := by
  have := nodup_sub h (m := rngI n) fun x hx => rngI_mem.mpr (hb x hx)
  rw [rngI_len] at this
  exact this
/-- what is_order tells -/
def isOrdD (fs ls : List (Int × Int)) (on : List Int) (d : PyData) : Bool := unlikeB fs.length d && match rowOf d with
  | some l => ordB fs ls on l
  | none => false
theorem isOrd_no {fs ls : List (Int × Int)} {on : List Int} {d : PyData} (h : unlikeB fs.length d = false) : isOrdD fs ls on d = false := by unfold isOrdD; rw [h]; rfl
theorem isOrd_yes {fs ls : List (Int × Int)} {on l : List Int} (h : unlikeB fs.length (intsT l) = true) : isOrdD fs ls on (intsT l) = ordB fs ls on l := by
  unfold isOrdD
  rw [h, rowOf_ints]
  rfl
/-- a row of fuses: to be unlike is part of being an order -/
theorem isOrd_law {fs ls : List (Int × Int)} (g : WG fs ls) {on l : List Int} (hb : ∀ x ∈ l, 0 ≤ x ∧ x ≤ (fs.length : Int) - 1) : isOrdD fs ls on (intsT l) = ordB fs ls on l := by
  cases c : ordB fs ls on l with
  | true =>
    have nd := ord_nodup g c
    have hl := nodup_len (n := fs.length) nd fun x hx => by have := hb x hx; omega
    rw [isOrd_yes (by rw [unlike_ints hl hb]; exact decide_eq_true nd), c]
  | false =>
    cases u : unlikeB fs.length (intsT l) with
    | true => rw [isOrd_yes u, c]
    | false => exact isOrd_no u
theorem isOrd_other {fs ls : List (Int × Int)} {on : List Int} {d : PyData} (h : ∀ l, d = intsT l → ¬ ∀ x ∈ l, 0 ≤ x ∧ x ≤ (fs.length : Int) - 1) : isOrdD fs ls on d = false := by
  cases u : unlikeB fs.length d with
  | false => exact isOrd_no u
  | true =>
    obtain ⟨l, rfl, _, hb, _⟩ := unlike_yes u
    exact absurd (fun x hx => by have := hb x hx; omega) (h l rfl)
end FF
set_option maxHeartbeats 4000000
namespace FF
open PySem PySem.Spec PyProof.Rows L2 Evl
/-! ### further rules: a list == [], two new lists at once, pop -/
def rEqNilL (K : PySem.W.Frag) : R2 := fun x y H Q => ∃ a b xs, x = .ref a ∧ y = .ref b ∧ SqL K H a xs ∧ SqL K H b [] ∧ Q (.bl xs.isEmpty) H
theorem op_eqNilL {X : Cx} (hu : X.A.units < cLine) : OpR X (compareOp .Eq) (rEqNilL X.K) := by
  intro pins s σ H x y v u Q I rx ry h
  obtain ⟨a, b, xs, rfl, rfl, ha, hb, q⟩ := h
  cases rx
  cases ry
  obtain ⟨its, r, pl, hz⟩ := I.list ha
  obtain ⟨its2, r2, pl2, _⟩ := I.list hb
  cases r2
  have fin : EP X pins σ Q (.bool xs.isEmpty) s := ⟨.bl xs.isEmpty, H, I, rfl, q⟩
  cases xs with
  | nil =>
    cases r
    exact SeqAt.RcAt.lists (e := fun _ => true) pl.isList pl2.isList rfl hu (fun j h1 h2 => by simp at h1) X.prog X.w X.xe _ fin
  | cons x xs =>
    refine SeqAt.RcAt.lists_lengths pl.isList pl2.isList ?_ hu X.prog X.w X.xe _ fin
    have := r.length
    rw [List.length_cons] at this
    simp
    intro z
    rw [z] at this
    simp at this
section
variable {K : PySem.W.Frag} {Z : Zk} {η : List Ent} {te ta tb : TE} {R R' : PyData → Prop}
theorem se_eqNil {ds : List PyData} (h1 : SQ K Z ta η (.list ds)) (h2 : SQ K Z tb η (.list [])) : SQ K Z (tOp (rEqNilL K) ta tb) η (.bool ds.isEmpty) :=
  se_op h1 h2 fun v1 v2 G H b d1 d2 Q q => by
    obtain ⟨a, xs, rfl, ht, ha⟩ := dq_lst d1
    obtain ⟨c, ys, rfl, hc, hb⟩ := dq_lst d2
    cases hb
    have e : xs.isEmpty = ds.isEmpty := by
      have := ha.len
      cases xs <;> cases ds <;> simp at this ⊢
    refine ⟨a, c, xs, rfl, rfl, ex_l b.ex ht, ex_l b.ex hc, ?_⟩
    rw [e]
    exact q _ _ _ _ rfl (.refl b) (.bl _)
/-- l + m, m by chance -/
theorem so_catR {ds : List PyData} {R2 : List PyData → Prop} (h1 : SQ K Z ta η (.list ds)) (h2 : SE K Z tb η (fun d => ∃ es, R2 es ∧ d = .list es)) (hl : ∀ es, R2 es → ds.length + es.length ≤ 100000) : SO K Z (tOp rCat ta tb) η (fun x => ∃ es, R2 es ∧ x = ds ++ es) := fun σ G H b s Q q =>
  h1 σ G H b s _ fun v1 d1 G1 H1 e1 s1 hd1 => h2 σ G1 H1 (b.go s1) (s.ex s1.g) _ fun v2 d2 G2 H2 e2 s2 hd2 => by
    obtain ⟨es, r2, rfl⟩ := e2
    subst e1
    have b2 := (b.go s1).go s2
    obtain ⟨a, xs, rfl, ga, hxs⟩ := dq_lstH (Dq.ex s2.g _ _ hd1)
    obtain ⟨c, ys, rfl, gc, hys⟩ := dq_lstH hd2
    refine ⟨a, c, xs, ys, rfl, rfl, b2.ex _ _ ga, b2.ex _ _ gc, ?_, fun l nl => ?_⟩
    · rw [hxs.len, hys.len]
      exact lenOk (hl es r2)
    · exact q l _ _ G2 _ ⟨es, r2, rfl⟩ ((s1.trans s2).trans (.hide b2 nl)) (freshBack b (s1.trans s2) nl) (none_of b2.ex nl) upd_same (hxs.app hys)
end
section
variable {K : PySem.W.Frag} {Z : Zk} {ρ : List Cell} {N : List Cell → Prop} {E : Eo} {te : TE}
/-- a, b = [..], [..] -/
theorem ss_parL {i j : Nat} {ta tb : TE} {R1 R2 : List PyData → Prop} (hij : i ≠ j) (h1 : SO K Z ta (hideE ρ) R1) (h2 : SO K Z tb (hideE ρ) R2) (k : ∀ ds es, R1 ds → R2 es → N ((ρ.set i (.lst ds)).set j (.lst es))) : SS K Z (tPar i j (tCons ta (tCons tb tNil))) ρ N E := fun G0 H0 Gb b0 D e nx σ G H eb r =>
  h1 σ G H (r.bs b0) r.sl _ fun p us ds G1 H1 r1 s1 np1 n1 g1 ha1 => by
    have rel1 := r.step b0 s1
    refine h2 σ G1 H1 (rel1.bs b0) rel1.sl _ fun q vs es G2 H2 r2 s2 np2 n2 g2 ha2 => ?_
    have rel2 := rel1.step b0 s2
    have bs := r.bs b0
    have back : ∀ {a : Addr} {Ga Ha : Hp}, Stp Z G0 H0 Ga Ha → Ha a = none → H0 a = none := fun st n => freshBack b0 st n
    have p0 : H0 p = none := back r.st np1
    have q0 : H0 q = none := back rel1.st np2
    have pm : p ∉ mz Z := bs.dk.ne np1
    have g1' : H2 p = some (.lst us) := s2.k p _ g1 pm
    have n1' : G2 p = none := s2.n p _ n1 g1 rfl
    have qp : q ≠ p := fun z => by rw [z, g1] at np2; cases np2
    have own : ∀ (a : Addr) (j : Nat) (c : Cell), H a = none → ρ[j]? = some c → isOwn c = true → σ[j]? ≠ some (some (.ref a)) := fun a j c na hc o hs => by
      obtain ⟨a', _, k1, k2, _⟩ := r.own hc o
      rw [k1] at hs
      cases hs
      rw [na] at k2
      cases k2
    have relA := rel2.setL i g1' p0 n1' (DqA.ex s2.g _ _ ha1) fun j c hc o => own p j c np1 hc o
    have nqH : H q = none := freshBack bs s1 np2
    refine ⟨.ref p, .ref q, rfl, nx _ _ G2 H2 (k ds es r1 r2) ((eb.trans s1.g).trans s2.g) (relA.setL j g2 q0 n2 ha2 fun l c hc o hs => ?_)⟩
    by_cases c1 : i = l
    · subst c1
      obtain ⟨_, hl⟩ := get_set_self hc
      rw [List.getElem?_set_self (rel2.slot hl)] at hs
      cases hs
      exact qp rfl
    · rw [List.getElem?_set_ne c1] at hc hs
      exact own q l c nqH hc o hs
/-- x.append(y.pop(e)) -/
theorem ss_appPop {i j : Nat} {ds es : List PyData} {R : PyData → Prop} (hi : ρ[i]? = some (.lst ds)) (hj : ρ[j]? = some (.lst es)) (hij : i ≠ j) (h : SE K Z te (viewE ρ) R) (hl : ds.length < 100000) (hes : es.length ≤ 100000)
    (k : ∀ d, R d → ∃ (n : Nat) (x : PyData), d = .int (n : Nat) ∧ es[n]? = some x ∧ N ((ρ.set j (.lst (es.eraseIdx n))).set i (.lst (ds ++ [x])))) :
    SS K Z (tDrop (tBM K "list" rAppend (tVar i) (tCons (tBM K "list" rPopAt (tVar j) (tCons te tNil)) tNil))) ρ N E := fun G0 H0 Gb b0 D e nx σ G H eb r => by
  obtain ⟨p, us, h1, g, n0, n, ha⟩ := r.lst hi
  obtain ⟨q, ws, k1, g2, m0, m, hb⟩ := r.lst hj
  obtain ⟨W, eW, sW, sl, back⟩ := r.view b0
  refine ⟨.ref p, h1, .inl ⟨rfl, us, SqL.of g⟩, .ref q, k1, .inl ⟨rfl, ws, SqL.of g2⟩, h σ W H (b0.go sW) sl _ fun v d G' H' rd s hd => ?_⟩
  obtain ⟨nn, x, rfl, hx, hN⟩ := k d rd
  have r' := r.step b0 (back _ _ s)
  have gq : H' q = some (.lst ws) := s.k q _ g2 (b0.dk.ne m0)
  have gp : H' p = some (.lst us) := s.k p _ g (b0.dk.ne n0)
  obtain ⟨y, hy1, hy2⟩ := hb.getD nn hx
  have hlt : nn < ws.length := (List.getElem?_eq_some_iff.mp hy1).1
  have hwl := hb.len
  have sI : seqIndex? (nn : Int) ws.length = some nn := (ixN_seq (ixN_nat hlt)).1
  refine ⟨q, ws, (nn : Int), nn, y, rfl, by rw [dq_int hd], gq, by omega, by omega, sI, hy1, ?_⟩
  have pq : p ≠ q := fun z => by
    subst z
    exact r.ne i j _ _ p hij hi hj rfl rfl h1 k1
  have er : DqA K G (ws.eraseIdx nn) (es.eraseIdx nn) := by
    rw [List.eraseIdx_eq_take_drop_succ, List.eraseIdx_eq_take_drop_succ]
    exact (hb.take nn).app (hb.drop (nn + 1))
  have r2 := r'.put b0 hj k1 er
  have hi2 : (ρ.set j (.lst (es.eraseIdx nn)))[i]? = some (.lst ds) := by rw [List.getElem?_set_ne hij.symm]; exact hi
  refine ⟨p, us, y, rfl, rfl, by rw [upd_ne pq]; exact gp, by rw [ha.len]; exact sz_lt hl, nx _ _ G _ hN eb (r2.put b0 hi2 h1 (ha.app (.cons hy2 .nil)))⟩
end
section
variable {K : PySem.W.Frag} {Z : Zk} {η : List Ent}
theorem se_dnew : SQ K Z (tFrzE tDNewK) η (.dict []) := fun σ G H b s Q q p np => ⟨p, _, rfl, upd_same, trivial, fun od => by
  rw [upd_upd]
  exact q _ _ _ _ rfl (.new b np) (.dct upd_same .nil)⟩
theorem ss_mid {ρ : List Cell} {N Mid : List Cell → Prop} {E : Eo} {t u : TS} (h : SS K Z t ρ Mid E) (k : ∀ ρ', Mid ρ' → SS K Z u ρ' N E) : SS K Z (tSeq t u) ρ N E := ss_seq (h.mono k)
end
theorem cutD_len (ds : List PyData) (lo hi : Option Int) : (cutD ds lo hi).length ≤ ds.length := by
  unfold cutD
  rw [List.length_take, List.length_drop]
  omega
theorem SA.mono {K : PySem.W.Frag} {Z : Zk} {η : List Ent} {ta : TA} {R R' : List PyData → Prop} (h : SA K Z ta η R) (hr : ∀ d, R d → R' d) : SA K Z ta η R' := fun σ G H b s Q q => h σ G H b s Q fun vs ds G' H' r => q vs ds G' H' (hr ds r)
/-- two tuples put together, by values -/
theorem catA2 {K : PySem.W.Frag} {Z : Zk} {G H : Hp} {v u : V} {ds es : List PyData} {Q : VK} (b : Bs Z G H) (d1 : Dq K G v (.tuple ds)) (d2 : Dq K G u (.tuple es)) (hl : ds.length + es.length ≤ 100000)
    (q : ∀ w G' H', Stp Z G H G' H' → Dq K G' w (.tuple (ds ++ es)) → Q w H') : rCatA K v u H Q := by
  have d1' := d1
  have d2' := d2
  obtain ⟨a, xs, rfl, ta', hxs⟩ := dq_tup d1
  obtain ⟨c, ys, rfl, tc', hys⟩ := dq_tup d2
  refine ⟨a, c, xs, ys, rfl, rfl, ex_t b.ex ta', ex_t b.ex tc', by rw [hxs.len, hys.len]; exact lenOk hl, fun z => ?_, fun z1 z2 => ?_, fun z1 z2 l nl => ?_⟩
  · subst z
    have dz : ds = [] := List.eq_nil_of_length_eq_zero hxs.len.symm
    subst dz
    exact q _ G H (.refl b) d2'
  · subst z2
    have dz : es = [] := List.eq_nil_of_length_eq_zero hys.len.symm
    subst dz
    rw [List.append_nil] at q
    exact q _ G H (.refl b) d1'
  · exact q _ _ _ (.new b nl) (.tup (SqT.of upd_same) (DqA.ex (Ex.new (none_of b.ex nl)) _ _ (hxs.app hys)))
theorem se_catAR {K : PySem.W.Frag} {Z : Zk} {η : List Ent} {ta tb : TE} {ds : List PyData} {R2 : List PyData → Prop} {R : PyData → Prop} (h1 : SQ K Z ta η (.tuple ds)) (h2 : SE K Z tb η (fun d => ∃ es, R2 es ∧ d = .tuple es)) (hl : ∀ es, R2 es → ds.length + es.length ≤ 100000) (hR : ∀ es, R2 es → R (.tuple (ds ++ es))) :
    SE K Z (tOp (rCatA K) ta tb) η R := fun σ G H b s Q q =>
  h1 σ G H b s _ fun v1 d1 G1 H1 e1 s1 hd1 => h2 σ G1 H1 (b.go s1) (s.ex s1.g) _ fun v2 d2 G2 H2 e2 s2 hd2 => by
    obtain ⟨es, r2, rfl⟩ := e2
    subst e1
    exact catA2 ((b.go s1).go s2) (Dq.ex s2.g _ _ hd1) hd2 (hl es r2) fun w G' H' s3 hd3 => q w _ G' H' (hR es r2) ((s1.trans s2).trans s3) hd3
/-! ### values of any kind -/
theorem len_weight : ∀ ds : List PyData, ds.length ≤ PyData.weightAll ds
  | [] => Nat.le_refl _
  | d :: ds => by
    have := len_weight ds
    simp only [PyData.weightAll, List.length_cons]
    omega
theorem tup_len {W k : Nat} {ds : List PyData} (h : Sv W k (.tuple ds)) : ds.length ≤ W := Nat.le_trans (len_weight ds) h.items.wt
def svB (W k : Nat) (d : PyData) : Bool := d.showable && d.leavesShort 40 && decide (d.weight ≤ W) && decide (d.depth ≤ k)
theorem sv_of {W k : Nat} {d : PyData} (h : svB W k d = true) : Sv W k d := by
  unfold svB at h
  rw [Bool.and_eq_true, Bool.and_eq_true, Bool.and_eq_true, decide_eq_true_eq, decide_eq_true_eq] at h
  exact ⟨h.1.1.1, h.1.1.2, h.1.2, h.2⟩
/-- whole numbers and tuples of such alone -/
def preOdd : List PyData → (PyData → Prop) → Prop := fun ds R => ds = [] ∧ ∀ d, Sv 3000 6 d → R d
def bentW (m W : Nat) : Nat := 2 * m * W + 40000 + m
/-- a tuple of at most so many items, or no tuple -/
def TL (n : Nat) (d : PyData) : Prop := ∀ xs, d = .tuple xs → xs.length ≤ n
structure BV (m W : Nat) (d : PyData) : Prop where
  sv : Sv (bentW m W) (11 + m) d
  tl : TL (3001 + 2 * W) d
theorem TL.tup {n : Nat} {xs : List PyData} (h : xs.length ≤ n) : TL n (.tuple xs) := fun ys e => by cases e; exact h
def preBent (m : Nat) : List PyData → (PyData → Prop) → Prop := fun ds R => ∃ (d : PyData) (j : Int) (W : Nat), ds = [d, .int j] ∧ d.canLay0 = true ∧ Sv W 10 d ∧ W ≤ 3000 ∧ 0 ≤ j ∧ j < m ∧ ∀ d', BV m W d' → R d'
theorem lay_items {ds : List PyData} (h : PyData.canLayAll0 ds = true) : ∀ d ∈ ds, d.canLay0 = true := fun d hd => by
  induction ds with
  | nil => cases hd
  | cons x xs ih =>
    simp only [PyData.canLayAll0, Bool.and_eq_true] at h
    rcases List.mem_cons.mp hd with z | z
    · rw [z]; exact h.1
    · exact ih h.2 z
theorem sv_cut {W k : Nat} {ds : List PyData} (h : SvA W k ds) (lo hi : Option Int) : SvA W k (cutD ds lo hi) := (h.drop _).take _
theorem isTup_cases (d : PyData) : (∃ xs, d = .tuple xs) ∨ isTupD d = false := by
  cases d with
  | tuple xs => exact .inl ⟨xs, rfl⟩
  | _ => exact .inr rfl
end FF
set_option maxHeartbeats 4000000
namespace FF
open PySem PySem.Spec PyProof.Rows L2 Evl
/-! ### lists of which each item is of a kind -/
def AllP (P : PyData → Prop) (n : Nat) (ds : List PyData) : Prop := ds.length ≤ n ∧ ∀ d ∈ ds, P d
section
variable {K : PySem.W.Frag} {Z : Zk} {η : List Ent} {te ta tb : TE} {P : PyData → Prop} {n m : Nat}
theorem sa_nilP : SA K Z tNil η (AllP P 0) := SA.mono sa_nil fun ds e => by subst e; exact ⟨Nat.le_refl _, fun d hd => nomatch hd⟩
theorem sa_consP {tr : TA} (h1 : SE K Z te η P) (h2 : SA K Z tr η (AllP P n)) : SA K Z (tCons te tr) η (AllP P (n + 1)) := SA.mono (sa_consR h1 h2) fun ds ⟨d, es, hd, he, e⟩ => by
  subst e
  refine ⟨by rw [List.length_cons]; exact Nat.succ_le_succ he.1, fun x hx => ?_⟩
  rcases List.mem_cons.mp hx with z | z
  · rw [z]; exact hd
  · exact he.2 x z
theorem so_lstP {tr : TA} (h1 : SA K Z tr η (AllP P n)) (hn : n ≤ 100000 := by decide) : SO K Z (tLst tr) η (AllP P n) := so_lstR h1 fun ds h => Nat.le_trans h.1 hn
theorem so_catP (h1 : SE K Z ta η (fun d => ∃ ds, AllP P n ds ∧ d = .list ds)) (h2 : SE K Z tb η (fun d => ∃ es, AllP P m es ∧ d = .list es)) (hl : n + m ≤ 100000 := by decide) : SO K Z (tOp rCat ta tb) η (AllP P (n + m)) := fun σ G H b s Q q =>
  h1 σ G H b s _ fun v1 d1 G1 H1 e1 s1 hd1 => h2 σ G1 H1 (b.go s1) (s.ex s1.g) _ fun v2 d2 G2 H2 e2 s2 hd2 => by
    obtain ⟨ds, r1, rfl⟩ := e1
    obtain ⟨es, r2, rfl⟩ := e2
    have b2 := (b.go s1).go s2
    obtain ⟨a, xs, rfl, ga, hxs⟩ := dq_lstH (Dq.ex s2.g _ _ hd1)
    obtain ⟨c, ys, rfl, gc, hys⟩ := dq_lstH hd2
    refine ⟨a, c, xs, ys, rfl, rfl, b2.ex _ _ ga, b2.ex _ _ gc, ?_, fun l nl => ?_⟩
    · rw [hxs.len, hys.len]
      exact lenOk (by have := r1.1; have := r2.1; omega)
    · refine q l _ _ G2 _ ⟨?_, fun d hd => ?_⟩ ((s1.trans s2).trans (.hide b2 nl)) (freshBack b (s1.trans s2) nl) (none_of b2.ex nl) upd_same (hxs.app hys)
      · rw [List.length_append]; have := r1.1; have := r2.1; omega
      · rcases List.mem_append.mp hd with z | z
        · exact r1.2 d z
        · exact r2.2 d z
/-- a comprehension without a test, over a row of items of a kind -/
theorem so_lcP {wi : TI} {g : TG} {te : TE} {vs is : List Nat} {un : PyData → List PyData → Prop} {Pi : PyData → Prop} (hi : SI K Z wi η (AllP Pi n)) (hg : SG K g is un) (his : ∀ i ∈ is, i ∈ vs) (hn : n ≤ 100000)
    (hs : ∀ d, Pi d → ∃ xs, un d xs ∧ xs.length = is.length ∧ SE K Z te (setE (wipeE η vs) is xs) P) : SO K Z (tLc wi g tYes te vs) η (AllP P n) := by
  refine (so_lc (fun ds i acc => acc.length = i ∧ ∀ d ∈ acc, P d) hi hg his (fun ds _ => ⟨rfl, fun d hd => nomatch hd⟩) fun ds i d acc hds hd hacc => ?_).mono fun acc ⟨ds, hds, hl, ha⟩ => ⟨by rw [hl]; exact hds.1, ha⟩
  obtain ⟨xs, hu, hxl, he⟩ := hs d (hds.2 d (List.mem_of_getElem? hd))
  have hi : i < ds.length := (List.getElem?_eq_some_iff.mp hd).1
  refine ⟨xs, hu, hxl, (fun c => c = true), SQ_yes, (fun e => nomatch e), fun _ => ⟨by have := hds.1; omega, P, he, fun e re => ⟨by rw [List.length_append, hacc.1]; rfl, fun x hx => ?_⟩⟩⟩
  rcases List.mem_append.mp hx with z | z
  · exact hacc.2 x z
  · rw [List.mem_singleton.mp z]; exact re
where SQ_yes {η : List Ent} : ST K Z tYes η (fun c => c = true) := st_yes
/-- l[lo:hi] of a list -/
theorem so_slL {ds : List PyData} {tl th : TO} {lo hi : Option Int} (h1 : SQ K Z ta η (.list ds)) (h2 : SP' K Z tl η lo) (h3 : SP' K Z th η hi) : SOQ K Z (tSl (rSlL K) ta tl th) η (cutD ds lo hi) := fun σ G H b s Q q =>
  h1 σ G H b s _ fun v1 d1 G1 H1 e1 s1 hd1 => h2 σ G1 H1 (b.go s1) (s.ex s1.g) _ fun G2 H2 s2 => h3 σ G2 H2 ((b.go s1).go s2) ((s.ex s1.g).ex s2.g) _ fun G3 H3 s3 => by
    subst e1
    have b3 := ((b.go s1).go s2).go s3
    have hd3 := Dq.ex (s2.g.trans s3.g) _ _ hd1
    have st := (s1.trans s2).trans s3
    obtain ⟨a, xs, rfl, ht, ha⟩ := dq_lst hd3
    refine ⟨a, xs, rfl, ex_l b3.ex ht, fun p np => ?_⟩
    refine q p _ _ G3 _ rfl (st.trans (.hide b3 np)) (freshBack b st np) (none_of b3.ex np) upd_same ?_
    have e : cutD ds lo hi = (ds.drop (HT.sIx xs.length 0 lo)).take (HT.sIx xs.length xs.length hi - HT.sIx xs.length 0 lo) := by unfold cutD; rw [ha.len]
    rw [e]
    unfold cutV
    exact (ha.drop _).take _
/-- a board, its bounds picked out of two -/
theorem se_brdP2 {i : Nat} {a b x y : Int} (hi : η[i]? = some .deck) (ha : 1 ≤ a ∧ a ≤ 20 := by decide) (hb : 1 ≤ b ∧ b ≤ 20 := by decide) (hx : 0 ≤ x ∧ x ≤ 30 := by decide) (hy : 0 ≤ y ∧ y ≤ 30 := by decide) :
    SE K Z (tCall (SpZ K preBoard) [] E0 (tCons (tVar i) (tCons (tCall (SpZ K prePick) [] E0 (tCons (tVar i) (tCons (tLst (tCons (tC (.int a)) (tCons (tC (.int b)) tNil))) tNil)))
      (tCons (tCall (SpZ K prePick) [] E0 (tCons (tVar i) (tCons (tLst (tCons (tC (.int x)) (tCons (tC (.int y)) tNil))) tNil))) tNil)))) η (fun d => ∃ fs ls, WB fs ls ∧ d = boardD fs ls) := by
  refine se_callZR (R := fun d => ∃ fs ls, WB fs ls ∧ d = boardD fs ls) hi (sa_consR (R1 := fun d => ∃ x : Int, d = .int x ∧ 1 ≤ x ∧ x ≤ 20) (se_callZ hi (sa_cons (so_lst (sa_cons se_int (sa_cons se_int sa_nil))).q sa_nil) ⟨_, rfl, by simp, (by show 2 < 100000; decide), fun d hd => ?_⟩)
      (sa_consR (R1 := fun d => ∃ x : Int, d = .int x ∧ 0 ≤ x ∧ x ≤ 30) (se_callZ hi (sa_cons (so_lst (sa_cons se_int (sa_cons se_int sa_nil))).q sa_nil) ⟨_, rfl, by simp, (by show 2 < 100000; decide), fun d hd => ?_⟩) sa_nil)) ?_
  · simp at hd
    rcases hd with z | z
    · exact ⟨_, z, ha⟩
    · exact ⟨_, z, hb⟩
  · simp at hd
    rcases hd with z | z
    · exact ⟨_, z, hx⟩
    · exact ⟨_, z, hy⟩
  · rintro ds ⟨d1, r1, ⟨x, rfl, x0, x1⟩, ⟨d2, r2, ⟨y, rfl, z0, z1⟩, rfl, rfl⟩, rfl⟩
    exact ⟨x, y, rfl, x0, x1, z0, z1, fun fs ls wb _ _ => ⟨fs, ls, wb, rfl⟩⟩
/-- range(n), all boards' lamps, as told lists -/
theorem so_allLamps {fs ls : List (Int × Int)} {j : Nat} (hj : η[j]? = some (.dat (boardD fs ls))) (hl : ls.length ≤ 100) : SOQ K Z (tLstRg (tRg1 (tCB (rLenC K) (tCons (tOp (rIxT K) (tVar j) (tC (.int 1))) tNil)))) η ((rngI ls.length).map .int) := by
  have h := so_listRg (K := K) (Z := Z) (se_lenT (se_ixT (se_var hj) (se_int (i := 1)) (atI_nat (j := 1) rfl))) (by rw [List.length_map]; omega)
  rw [List.length_map] at h
  exact h
theorem so_allFuses {fs ls : List (Int × Int)} {j : Nat} (hj : η[j]? = some (.dat (boardD fs ls))) (hl : fs.length ≤ 100) : SOQ K Z (tLstRg (tRg1 (tCB (rLenC K) (tCons (tOp (rIxT K) (tVar j) (tC (.int 0))) tNil)))) η ((rngI fs.length).map .int) := by
  have h := so_listRg (K := K) (Z := Z) (se_lenT (se_ixT (se_var hj) (se_int (i := 0)) (atI_nat (j := 0) rfl))) (by rw [List.length_map]; omega)
  rw [List.length_map] at h
  exact h
end
theorem rngD_len (lo c : Int) (n : Nat) : (rngD lo c n).length = n := by unfold rngD; rw [List.length_map, List.length_range]
theorem cutD_sub (ds : List PyData) (lo hi : Option Int) : (cutD ds lo hi).Sublist ds := (List.take_sublist _ _).trans (List.drop_sublist _ _)
end FF
namespace FF
open PySem PySem.Spec PyProof.Rows L2 Evl
/-- len, of a fragment's own -/
def rLenK (K : PySem.W.Frag) : List V → Hp → VK → Prop := fun xs H Q => ∃ p ys, xs = [.ref p] ∧ (SqL K H p ys ∨ SqT K H p ys) ∧ Q (.int ys.length) H
theorem call_lenE {X : Cx} {K : PySem.W.Frag} (h : X.K = K) : CallR X (.builtin "len") (rLenK K) := by subst h; exact call_len_seq
theorem op_catE {X : Cx} {K : PySem.W.Frag} (h : X.K = K) : OpR X (binaryOp .Add) (rCatA K) := by subst h; exact op_catA
section
variable {K : PySem.W.Frag} {Z : Zk} {η : List Ent} {ta : TE}
theorem se_lenLK {ds : List PyData} (h1 : SQ K Z ta η (.list ds)) : SQ K Z (tCB (rLenK K) (tCons ta tNil)) η (.int (ds.length : Nat)) := se_lenL h1
theorem se_lenTK {ds : List PyData} (h1 : SQ K Z ta η (.tuple ds)) : SQ K Z (tCB (rLenK K) (tCons ta tNil)) η (.int (ds.length : Nat)) := se_lenT h1
end
end FF
set_option maxHeartbeats 4000000
namespace FF
open PySem PySem.Spec PyProof.Rows L2 Evl
/-! ### own dicts with tuple keys; a list's last item taken -/
/-- d[k] = True -/
def rSetDc (K : PySem.W.Frag) (P : Program) (w : World) : TSet := fun o i v H Q => ∃ (d b : Addr) (k : List Int) (L : List (Addr × List Int)), o = .ref d ∧ i = .ref b ∧ v = .bl true ∧ SqT K H b (k.map V.int) ∧ H d = some (DcO P w d L) ∧ (∀ p ∈ L, SqT K H p.1 (p.2.map V.int)) ∧ L.length < sizeLine ∧ k ∉ L.map (·.2) ∧ Q (upd H d (DcO P w d (L ++ [(b, k)])))
theorem set_dc {X : Cx} (hu : X.A.units + 1 < cLine) : PSet X (rSetDc X.K X.prog X.w) := by
  intro pins s σ H o i v ov iv u Q I ro ri rv h
  obtain ⟨d, b, k, L, rfl, rfl, rfl, hb, hd, hk, hl, hn, q⟩ := h
  cases ro
  cases ri
  cases rv
  exact setDc hu I hb hd hk hl hn fun s' I' => ⟨_, I', q⟩
section
variable {K : PySem.W.Frag} {Z : Zk} {G0 H0 G H G' H' : Hp} {σ : L2.St} {ρ : List Cell} {P : Program} {w : World}
theorem Deck.putX {D A B p : Addr} {o : HO} (dk : Deck D A B H) (n1 : p ≠ D) (n2 : p ≠ A) (n3 : p ≠ B) : Deck D A B (upd H p o) := by
  obtain ⟨⟨gs, cs, n, h1, h2, h3, h4, h5⟩, a, b, c⟩ := dk
  exact ⟨⟨gs, cs, n, by rw [upd_ne n1.symm]; exact h1, by rw [upd_ne n2.symm]; exact h2, by rw [upd_ne n3.symm]; exact h3, h4, h5⟩, a, b, c⟩
theorem Stp.mutX {p : Addr} {o : HO} (b : Bs Z G H) (s : Stp Z G H G' H') (n : H p = none) (n' : G' p = none) : Stp Z G H G' (upd H' p o) := by
  refine ⟨s.g, fun x u h => ?_, fun x u h c => ?_, s.n, ?_⟩
  · rw [upd_ne (ne_of_none h n')]
    exact s.s x u h
  · rw [upd_ne (ne_of_none h n)]
    exact s.k x u h c
  · have d := s.d
    have d0 := b.dk
    match Z, d, d0 with
    | none, _, _ => trivial
    | some (D, A, B), d, d0 =>
      obtain ⟨n1, n2, n3⟩ := d0.1.ne n
      exact ⟨Deck.putX d.1 n1 n2 n3, d.2⟩
theorem Rel.dcs (r : Rel K Z G0 H0 σ ρ G H) {i : Nat} {ks : List (List Int)} (h : ρ[i]? = some (.dc P w ks)) : ∃ p L, σ[i]? = some (some (.ref p)) ∧ H p = some (DcO P w p L) ∧ H0 p = none ∧ G p = none ∧ L.map (·.2) = ks ∧ ∀ q ∈ L, SqT K G q.1 (q.2.map V.int) := by
  obtain ⟨x, h1, p, L, rfl, q⟩ := r.slots i _ h
  exact ⟨p, L, h1, q⟩
/-- the thing of an own slot changes -/
theorem Rel.putX (r : Rel K Z G0 H0 σ ρ G H) (b0 : Bs Z G0 H0) {i : Nat} {c c' : Cell} (h : ρ[i]? = some c) (o : isOwn c = true) (o' : isOwn c' = true) {p : Addr} {u : HO} (hs : σ[i]? = some (some (.ref p))) (n0 : H0 p = none) (n : G p = none) (hc : CellOk K Z H0 G (upd H p u) (some (.ref p)) c') :
    Rel K Z G0 H0 σ (ρ.set i c') G (upd H p u) := by
  refine ⟨Stp.mutX b0 r.st n0 n, fun j e he => ?_, fun j l d d' q nn hc1 hc2 o1 o2 s1 s2 => ?_⟩
  · by_cases ij : i = j
    · subst ij
      obtain ⟨rfl, hl⟩ := get_set_self he
      exact ⟨_, hs, hc⟩
    · rw [List.getElem?_set_ne ij] at he
      obtain ⟨x, h3, h4⟩ := r.slots j e he
      refine ⟨x, h3, ?_⟩
      cases e with
      | e m => exact h4
      | lst fs =>
        obtain ⟨q, vs, rfl, q1, q2⟩ := h4
        refine ⟨q, vs, rfl, ?_, q2⟩
        rw [upd_ne (fun z => ?_)]
        · exact q1
        · subst z
          exact r.ne i j _ _ q ij h he o rfl hs h3
      | dc P w ks =>
        obtain ⟨q, L, rfl, q1, q2⟩ := h4
        refine ⟨q, L, rfl, ?_, q2⟩
        rw [upd_ne (fun z => ?_)]
        · exact q1
        · subst z
          exact r.ne i j _ _ q ij h he o rfl hs h3
      | dm fs =>
        obtain ⟨q, L, rfl, q1, q2⟩ := h4
        refine ⟨q, L, rfl, ?_, q2⟩
        rw [upd_ne (fun z => ?_)]
        · exact q1
        · subst z
          exact r.ne i j _ _ q ij h he o rfl hs h3
  · have back : ∀ {j : Nat} {d : Cell}, (ρ.set i c')[j]? = some d → isOwn d = true → ∃ d', ρ[j]? = some d' ∧ isOwn d' = true := fun {j d} hh oo => by
      by_cases e : i = j
      · subst e
        exact ⟨_, h, o⟩
      · rw [List.getElem?_set_ne e] at hh
        exact ⟨d, hh, oo⟩
    obtain ⟨c1, k1, k2⟩ := back hc1 o1
    obtain ⟨c2, k3, k4⟩ := back hc2 o2
    exact r.ne j l c1 c2 q nn k1 k3 k2 k4 s1 s2
end
section
variable {K : PySem.W.Frag} {Z : Zk} {ρ : List Cell} {N : List Cell → Prop} {E : Eo} {te ti : TE} {P : Program} {w : World}
theorem dq_key {H : Hp} {v : V} {k : List Int} (h : Dq K H v (intsT k)) : ∃ b, v = .ref b ∧ SqT K H b (k.map V.int) := by
  obtain ⟨a, xs, rfl, ht, ha⟩ := dq_tup h
  rw [dqa_ints ha] at ht
  exact ⟨a, rfl, ht⟩
/-- d[k] = True, d an own dict, k not yet there -/
theorem ss_putDc {i : Nat} {ks : List (List Int)} {k : List Int} (hi : ρ[i]? = some (.dc P w ks)) (hix : SQ K Z ti (hideE ρ) (intsT k)) (hn : k ∉ ks) (hl : ks.length < 100000) (kk : N (ρ.set i (.dc P w (ks ++ [k])))) :
    SS K Z (tAsg (tC (.bl true)) (gSub (tVar i) ti (rSetDc K P w))) ρ N E := fun G0 H0 Gb b0 D e nx σ G H eb r => by
  obtain ⟨p, L, h1, g, n0, n, ek, ha⟩ := r.dcs hi
  refine ⟨.ref p, h1, hix σ G H (r.bs b0) r.sl _ fun v2 d2 G2 H2 e2 s2 hd2 => ?_⟩
  subst e2
  have r2 := r.step b0 s2
  obtain ⟨p', L', h1', g', _, n', ek', ha'⟩ := r2.dcs hi
  rw [h1] at h1'
  cases h1'
  obtain ⟨b, rfl, hb⟩ := dq_key hd2
  have bs := r2.bs b0
  have lL : L'.length = ks.length := by rw [← ek', List.length_map]
  refine ⟨p, b, k, L', rfl, rfl, rfl, ex_t bs.ex hb, g', fun q hq => ex_t bs.ex (ha' q hq), by rw [lL]; exact sz_lt hl, by rw [ek']; exact hn, nx _ _ G2 _ kk (eb.trans s2.g) (r2.putX b0 hi rfl rfl h1 n0 n' ⟨p, L' ++ [(b, k)], rfl, upd_same, n0, n', ?_, fun q hq => ?_⟩)⟩
  · rw [List.map_append, ek']; rfl
  · rcases List.mem_append.mp hq with z | z
    · exact ha' q z
    · rw [List.mem_singleton.mp z]; exact hb
/-- x = y.pop() -/
theorem ss_popSet {i j : Nat} {ds : List PyData} {x : PyData} (hj : ρ[j]? = some (.lst (ds ++ [x]))) (kk : N ((ρ.set j (.lst ds)).set i (.e (.dat x)))) : SS K Z (tAsg (tBM0 K "list" rPop (tVar j)) (gName i)) ρ N E := fun G0 H0 Gb b0 D e nx σ G H eb r => by
  obtain ⟨p, us, h1, g, n0, n, ha⟩ := r.lst hj
  have hl := ha.len
  rw [List.length_append, List.length_singleton] at hl
  obtain ⟨v, hv1, hv2⟩ := ha.getD ds.length (d := x) (by rw [List.getElem?_append_right (Nat.le_refl _), Nat.sub_self]; rfl)
  refine ⟨.ref p, h1, .inl ⟨rfl, us, SqL.of g⟩, p, us, v, rfl, rfl, g, by rw [hl, Nat.add_sub_cancel]; exact hv1, nx _ _ G _ kk eb (((r.put b0 hj h1 ?_).set i hv2))⟩
  have t := ha.take ds.length
  rw [List.take_append_of_le_length (Nat.le_refl _), List.take_length] at t
  rw [List.dropLast_eq_take, hl, Nat.add_sub_cancel]
  exact t
end
section
variable {K : PySem.W.Frag} {Z : Zk} {η : List Ent} {ta : TE} {P : Program} {w : World}
/-- k in d, k not in d -/
theorem se_inDc {i : Nat} {ks : List (List Int)} {k : List Int} {neg : Bool} (h1 : SQ K Z ta η (intsT k)) (hi : η[i]? = some (.dc P w ks)) : SQ K Z (tOp (rInDc K P w neg) ta (tVar i)) η (.bool (if neg then !decide (k ∈ ks) else decide (k ∈ ks))) := fun σ G H b s Q q =>
  h1 σ G H b s _ fun v1 d G1 H1 e1 s1 hd1 => by
    subst e1
    obtain ⟨x, hx, d, L, rfl, hd, ek, ha⟩ := (s.ex s1.g) i _ hi
    obtain ⟨kb, rfl, hb⟩ := dq_key hd1
    have b1 := b.go s1
    subst ek
    exact ⟨.ref d, hx, kb, d, k, L, rfl, rfl, ex_t b1.ex hb, b1.ex _ _ hd, fun p hp => ex_t b1.ex (ha p hp), q _ _ _ _ rfl s1 (.bl _)⟩
/-- sorted(d), () being the first key -/
theorem so_sortedDc {i : Nat} {ks : List (List Int)} (hi : η[i]? = some (.dc P w ([] :: ks))) : SO K Z (tCB (rSortedDc K P w) (tCons (tVar i) tNil)) η (fun ds => ∃ ls : List (List Int), ls.Perm ([] :: ks) ∧ ls.Pairwise (fun q r => HT.lexLt r q = false) ∧ ds = ls.map intsT) := fun σ G H b s Q q => by
  obtain ⟨x, hx, d, L, rfl, hd, ek, ha⟩ := s i _ hi
  match L, ek with
  | (b0, k0) :: L, ek =>
    obtain ⟨e0, e1⟩ := List.cons.inj ek
    replace e0 : k0 = [] := e0
    subst e0
    subst e1
    refine ⟨.ref d, hx, d, b0, L, rfl, b.ex _ _ hd, fun p hp => ex_t b.ex (ha p hp), fun L2 p pm pw np => ?_⟩
    refine q p (L2.map fun q => V.ref q.1) (L2.map fun q => intsT q.2) G (upd H p (.lst (L2.map fun q => V.ref q.1))) ⟨L2.map (·.2), ?_, ?_, ?_⟩ (.hide b np) np (none_of b.ex np) upd_same ?_
    · have := pm.map fun q : Addr × List Int => q.2
      exact this
    · rw [List.pairwise_map]; exact pw
    · rw [List.map_map]; rfl
    · have all : ∀ M : List (Addr × List Int), (∀ q ∈ M, SqT K G q.1 (q.2.map V.int)) → DqA K G (M.map fun q => V.ref q.1) (M.map fun q => intsT q.2) := fun M => by
        induction M with
        | nil => intro _; exact .nil
        | cons q M ih => intro h; exact .cons (.tup (h q (List.mem_cons_self ..)) ints_dqa) (ih fun x hx => h x (List.mem_cons_of_mem _ hx))
      exact all L2 fun q hq => ha q (pm.mem_iff.mp hq)
end
end FF
set_option maxHeartbeats 4000000
namespace FF
open PySem PySem.Spec PyProof.Rows L2 Evl
/-! ### new own dicts with tuple keys -/
section
variable {K : PySem.W.Frag} {Z : Zk} {G0 H0 G H : Hp} {σ : L2.St} {ρ : List Cell} {P : Program} {w : World}
theorem Rel.setX (r : Rel K Z G0 H0 σ ρ G H) (i : Nat) {p : Addr} {c : Cell} (hc : CellOk K Z H0 G H (some (.ref p)) c) (fr : ∀ (j : Nat) (c : Cell), ρ[j]? = some c → isOwn c = true → σ[j]? ≠ some (some (.ref p))) :
    Rel K Z G0 H0 (σ.set i (some (.ref p))) (ρ.set i c) G H := by
  refine ⟨r.st, fun j d h => ?_, fun j l d d' q n h1 h2 o1 o2 s1 s2 => ?_⟩
  · by_cases e : i = j
    · subst e
      obtain ⟨rfl, hl⟩ := get_set_self h
      exact ⟨_, List.getElem?_set_self (r.slot hl), hc⟩
    · rw [List.getElem?_set_ne e] at h
      obtain ⟨x, h1, h2⟩ := r.slots j d h
      exact ⟨x, by rw [List.getElem?_set_ne e]; exact h1, h2⟩
  · by_cases e1 : i = j
    · subst e1
      rw [List.getElem?_set_ne n] at h2 s2
      obtain ⟨_, hl⟩ := get_set_self h1
      rw [List.getElem?_set_self (r.slot hl)] at s1
      cases s1
      exact fr l d' h2 o2 s2
    · rw [List.getElem?_set_ne e1] at h1 s1
      by_cases e2 : i = l
      · subst e2
        obtain ⟨_, hl⟩ := get_set_self h2
        rw [List.getElem?_set_self (r.slot hl)] at s2
        cases s2
        exact fr j d h1 o1 s1
      · rw [List.getElem?_set_ne e2] at h2 s2
        exact r.ne j l d d' q n h1 h2 o1 o2 s1 s2
theorem Rel.fresh (r : Rel K Z G0 H0 σ ρ G H) {p : Addr} (n : H p = none) : ∀ (j : Nat) (c : Cell), ρ[j]? = some c → isOwn c = true → σ[j]? ≠ some (some (.ref p)) := fun j c hc o hs => by
  obtain ⟨q, u, h1, h2, _⟩ := r.own hc o
  rw [h1] at hs
  cases hs
  rw [n] at h2
  cases h2
end
section
variable {K : PySem.W.Frag} {Z : Zk} {ρ : List Cell} {N : List Cell → Prop} {E : Eo} {tb : TE} {P : Program} {w : World}
/-- a, b = {(): True}, [..] -/
theorem ss_parDL {i j : Nat} {R2 : List PyData → Prop} (hij : i ≠ j) (h2 : SO K Z tb (hideE ρ) R2) (k : ∀ es, R2 es → N ((ρ.set i (.dc P w [[]])).set j (.lst es))) : SS K Z (tPar i j (tCons (tDict0 P w) (tCons tb tNil))) ρ N E := fun G0 H0 Gb b0 D e nx σ G H eb r => by
  intro p b np nb pb
  have bs := r.bs b0
  have ng : G b = none := none_of bs.ex nb
  have np1 : upd H b (.tup []) p = none := by rw [upd_ne pb]; exact np
  have s1 : Stp Z G H (upd G b (.tup [])) (upd (upd H b (.tup [])) p (DcO P w p [(b, [])])) := (Stp.new (o := .tup []) bs nb).trans (.hide (bs.go (Stp.new (o := .tup []) bs nb)) np1)
  have rel1 := r.step b0 s1
  have p0 : H0 p = none := freshBack b0 r.st np
  have gp : upd G b (.tup []) p = none := by rw [upd_ne pb]; exact none_of bs.ex np
  have c1 : CellOk K Z H0 (upd G b (.tup [])) (upd (upd H b (.tup [])) p (DcO P w p [(b, [])])) (some (.ref p)) (.dc P w [[]]) := ⟨p, [(b, [])], rfl, upd_same, p0, gp, rfl, fun q hq => by
    rw [List.mem_singleton.mp hq]
    exact SqT.of upd_same⟩
  refine h2 σ _ _ (rel1.bs b0) rel1.sl _ fun q vs es G2 H2 r2 s2 np2 n2 g2 ha2 => ?_
  have rel2 := rel1.step b0 s2
  have q0 : H0 q = none := freshBack b0 rel1.st np2
  have qp : q ≠ p := fun z => by
    rw [z, upd_same] at np2
    cases np2
  have relA := rel2.setX i (c1.step b0 s2) fun j c hc o hs => r.fresh np j c hc o hs
  refine ⟨.ref p, .ref q, rfl, nx _ _ G2 H2 (k es r2) ((eb.trans s1.g).trans s2.g) (relA.setL j g2 q0 n2 ha2 fun l c hc o hs => ?_)⟩
  by_cases c1 : i = l
  · subst c1
    obtain ⟨_, hl⟩ := get_set_self hc
    rw [List.getElem?_set_self (rel2.slot hl)] at hs
    cases hs
    exact qp rfl
  · rw [List.getElem?_set_ne c1] at hc hs
    exact rel1.fresh np2 l c hc o hs
/-- a, b = {}, v -/
theorem ss_parDV {i j : Nat} {R2 : PyData → Prop} (hij : i ≠ j) (h2 : SE K Z tb (hideE ρ) R2) (k : ∀ d, R2 d → N ((ρ.set i (.dc P w [])).set j (.e (.dat d)))) : SS K Z (tPar i j (tCons (tDNewDc P w) (tCons tb tNil))) ρ N E := fun G0 H0 Gb b0 D e nx σ G H eb r => by
  intro p np
  have bs := r.bs b0
  have s1 : Stp Z G H G (upd H p (DcO P w p [])) := .hide bs np
  have rel1 := r.step b0 s1
  have p0 : H0 p = none := freshBack b0 r.st np
  have c1 : CellOk K Z H0 G (upd H p (DcO P w p [])) (some (.ref p)) (.dc P w []) := ⟨p, [], rfl, upd_same, p0, none_of bs.ex np, rfl, fun q hq => nomatch hq⟩
  refine h2 σ _ _ (rel1.bs b0) rel1.sl _ fun v d G2 H2 r2 s2 hd2 => ?_
  have rel2 := rel1.step b0 s2
  have relA := rel2.setX i (c1.step b0 s2) fun j c hc o hs => r.fresh np j c hc o hs
  exact ⟨.ref p, v, rfl, nx _ _ G2 H2 (k d r2) ((eb.trans s1.g).trans s2.g) (relA.set j hd2)⟩
end
theorem op_inDcU {X : Cx} (hu : X.A.units + 64 < cLine) : OpR X (compareOp .In) (rInDc X.K X.prog X.w false) := op_inDc (by omega)
theorem op_notInDcU {X : Cx} (hu : X.A.units + 64 < cLine) : OpR X (compareOp .NotIn) (rInDc X.K X.prog X.w true) := op_notInDc (by omega)
theorem set_dcU {X : Cx} (hu : X.A.units + 64 < cLine) : PSet X (rSetDc X.K X.prog X.w) := set_dc (by omega)
theorem layLT : ∀ ls : List (List Int), PyData.canLayAll0 (ls.map intsT) = true
  | [] => rfl
  | l :: ls => by
    rw [List.map_cons]
    simp only [PyData.canLayAll0, Bool.and_eq_true]
    exact ⟨SeqAt.canLay_of_shaped (shapedT_ints l), layLT ls⟩
theorem depLT : ∀ ls : List (List Int), PyData.depthAll (ls.map intsT) ≤ 3
  | [] => Nat.zero_le _
  | l :: ls => by
    have ih := depLT ls
    rw [List.map_cons]
    simp only [PyData.depthAll, intsT, PyData.depth, depInts]
    have : PyData.depthAll (List.map intsT ls) ≤ 3 := ih
    unfold intsT at this
    omega
theorem shapedLT (ls : List (List Int)) : SeqAt.shaped (.list (ls.map intsT)) = true := by
  unfold SeqAt.shaped
  rw [Bool.and_eq_true]
  refine ⟨layLT ls, decide_eq_true ?_⟩
  have := depLT ls
  simp only [PyData.depth]
  omega
end FF
set_option maxHeartbeats 4000000
namespace FF
open PySem PySem.Spec PyProof.Rows L2 Evl
/-! ### a list of anything != [] -/
def rNeNilL (K : PySem.W.Frag) : R2 := fun x y H Q => ∃ a b xs, x = .ref a ∧ y = .ref b ∧ SqL K H a xs ∧ SqL K H b [] ∧ Q (.bl (!xs.isEmpty)) H
theorem op_neNilL {X : Cx} (hu : X.A.units < cLine) : OpR X (compareOp .NotEq) (rNeNilL X.K) := by
  intro pins s σ H x y v u Q I rx ry h
  obtain ⟨a, b, xs, rfl, rfl, ha, hb, q⟩ := h
  cases rx
  cases ry
  obtain ⟨its, r, pl, hz⟩ := I.list ha
  obtain ⟨its2, r2, pl2, _⟩ := I.list hb
  cases r2
  have fin : EP X pins σ Q (.bool (!xs.isEmpty)) s := ⟨.bl (!xs.isEmpty), H, I, rfl, q⟩
  cases xs with
  | nil =>
    cases r
    exact SeqAt.RcNeAt.lists (e := fun _ => true) pl.isList pl2.isList rfl hu (fun j h1 h2 => by simp at h1) X.prog X.w X.xe _ fin
  | cons x xs =>
    refine SeqAt.RcNeAt.lists_lengths pl.isList pl2.isList ?_ hu X.prog X.w X.xe _ fin
    have := r.length
    rw [List.length_cons] at this
    simp
    intro z
    rw [z] at this
    simp at this
section
variable {K : PySem.W.Frag} {Z : Zk} {η : List Ent} {ta tb : TE}
theorem se_neNil {ds : List PyData} (h1 : SQ K Z ta η (.list ds)) (h2 : SQ K Z tb η (.list [])) : SQ K Z (tOp (rNeNilL K) ta tb) η (.bool (!ds.isEmpty)) :=
  se_op h1 h2 fun v1 v2 G H b d1 d2 Q q => by
    obtain ⟨a, xs, rfl, ht, ha⟩ := dq_lst d1
    obtain ⟨c, ys, rfl, hc, hb⟩ := dq_lst d2
    cases hb
    have e : xs.isEmpty = ds.isEmpty := by
      have := ha.len
      cases xs <;> cases ds <;> simp at this ⊢
    refine ⟨a, c, xs, rfl, rfl, ex_l b.ex ht, ex_l b.ex hc, ?_⟩
    rw [e]
    exact q _ _ _ _ rfl (.refl b) (.bl _)
/-- sorted(set(t)) -/
theorem so_sortSet {ns : List Int} (h1 : SQ K Z ta η (intsT ns)) (hl : ns.length ≤ 4000) (few : ∀ k ∈ ns, 0 ≤ k ∧ k < 60) : SO K Z (tSortSetT K ta) η (fun ds => ∃ ms : List Int, ms.Pairwise (· < ·) ∧ (∀ k, k ∈ ms ↔ k ∈ ns) ∧ ds = ms.map .int) := fun σ G H b s Q q =>
  h1 σ G H b s _ fun v1 d G1 H1 e1 s1 hd1 => by
    subst e1
    obtain ⟨a, xs, rfl, ht, ha⟩ := dq_tup hd1
    have e := dqa_ints ha
    subst e
    have b1 := b.go s1
    exact ⟨a, ns, rfl, ex_t b1.ex ht, hl, few, fun ms p pw hm np => q p _ _ G1 _ ⟨ms, pw, hm, rfl⟩ (s1.trans (.hide b1 np)) (freshBack b s1 np) (none_of b1.ex np) upd_same ints_dqa⟩
end
end FF
set_option maxHeartbeats 4000000
namespace FF
open PySem PySem.Spec PyProof.Rows L2 Evl
/-! ### sorted of a list of pairs of whole numbers -/
theorem pair_inj {h : Heap} {v : Value} {i j i' j' : Int} (a : Srt.IsPair h v i j) (b : Srt.IsPair h v i' j') : (i, j) = (i', j') := by
  obtain ⟨a1, o, t, u, n, rfl, h1, _, h2⟩ := a
  obtain ⟨b1, o', t', u', n', e, k1, _, k2⟩ := b
  cases e
  rw [h1] at k1
  cases k1
  rw [h2] at k2
  injection k2 with k2 _
  have k3 := congrArg Array.toList k2
  simp at k3
  rw [k3.1.1, k3.2.1]
noncomputable def keyOfV (h : Heap) (v : Value) : Int × Int := by
  classical
  exact if e : ∃ p : Int × Int, Srt.IsPair h v p.1 p.2 then e.choose else (0, 0)
theorem keyOfV_ok {h : Heap} {v : Value} {i j : Int} (a : Srt.IsPair h v i j) : keyOfV h v = (i, j) := by
  classical
  have e : ∃ p : Int × Int, Srt.IsPair h v p.1 p.2 := ⟨(i, j), a⟩
  have k : keyOfV h v = e.choose := dif_pos e
  rw [k]
  exact (pair_inj a e.choose_spec).symm
def lexLe (p q : Int × Int) : Prop := p.1 < q.1 ∨ (p.1 = q.1 ∧ p.2 ≤ q.2)
def toV : V → Value
  | .ref a => .ref a
  | _ => .none
theorem toV_back {v : Value} (h : ∃ a, v = .ref a) : toV (backV v) = v := by obtain ⟨a, rfl⟩ := h; rfl
/-- sorted(xs), pairs of whole numbers -/
def rSortedPD (K : PySem.W.Frag) : List V → Hp → VK → Prop := fun vs H Q => ∃ (a : Addr) (xs : List V) (ps : List (Int × Int)), vs = [V.ref a] ∧ SqL K H a xs ∧ PsAt K H xs ps ∧
  ∀ (ys : List V) (ps' : List (Int × Int)) (p : Addr), ps'.Perm ps → ps'.Pairwise lexLe → (∀ G : Hp, PsAt K G xs ps → PsAt K G ys ps') → H p = none → Q (.ref p) (upd H p (.lst ys))
theorem cr_sortedPD {X : Cx} : CallR X (.builtin "sorted") (rSortedPD X.K) := by
  intro pins s σ H vs us Q I r h
  obtain ⟨a, xs, ps, rfl, hs, hp, q⟩ := h
  obtain ⟨its, rv, hl, hz⟩ := I.list hs
  rw [Vals.ref1 r]
  have key : ∀ x ∈ xs, ∃ p : Int × Int, PairAt X.K H x p ∧ Srt.IsPair s.heap (toV x) p.1 p.2 := fun x hx => by
    obtain ⟨i, hi⟩ := List.getElem?_of_mem hx
    have il : i < ps.length := by rw [← hp.1]; exact (List.getElem?_eq_some_iff.mp hi).1
    have pa := hp.2 i x _ hi (List.getElem?_eq_getElem il)
    refine ⟨ps[i], pa, ?_⟩
    obtain ⟨t, rfl, ht⟩ := pa
    obtain ⟨its2, r2, ⟨o, ho, hc, n, hd⟩, _⟩ := I.tuple ht
    obtain ⟨u1, u2, rfl, ri, rj⟩ := vals2 r2
    obtain ⟨t1, rfl⟩ := ri
    obtain ⟨t2, rfl⟩ := rj
    exact ⟨t, o, t1, t2, n, rfl, ho, hc, hd⟩
  obtain ⟨e1, e2⟩ := refs_back rv fun x hx => by
    obtain ⟨p, ⟨t, e, _⟩, _⟩ := key x hx
    exact ⟨t, e⟩
  have keyV : ∀ v ∈ its, Srt.IsPair s.heap v (keyOfV s.heap v).1 (keyOfV s.heap v).2 := fun v hv => by
    obtain ⟨p, _, hpv⟩ := key (backV v) (by rw [e1]; exact List.mem_map.mpr ⟨v, hv, rfl⟩)
    rw [toV_back (e2 v hv)] at hpv
    rw [keyOfV_ok hpv]
    exact hpv
  let kk : V → Int × Int := fun x => keyOfV s.heap (toV x)
  have eps : xs.map kk = ps := by
    refine List.ext_getElem? fun i => ?_
    rw [List.getElem?_map]
    by_cases c : i < xs.length
    · have il : i < ps.length := by rw [← hp.1]; exact c
      rw [List.getElem?_eq_getElem c, List.getElem?_eq_getElem il]
      have pa := hp.2 i _ _ (List.getElem?_eq_getElem c) (List.getElem?_eq_getElem il)
      obtain ⟨t, e, ht⟩ := pa
      obtain ⟨its2, r2, ⟨o, ho, hc, n, hd⟩, _⟩ := I.tuple ht
      obtain ⟨u1, u2, rfl, ri, rj⟩ := vals2 r2
      obtain ⟨t1, rfl⟩ := ri
      obtain ⟨t2, rfl⟩ := rj
      show some (keyOfV s.heap (toV xs[i])) = some ps[i]
      rw [e]
      show some (keyOfV s.heap (Value.ref t)) = some ps[i]
      rw [keyOfV_ok (i := ps[i].1) (j := ps[i].2) ⟨t, o, t1, t2, n, rfl, ho, hc, hd⟩]
    · rw [List.getElem?_eq_none (by omega), List.getElem?_eq_none (by rw [← hp.1]; omega)]
      rfl
  refine SrtO.sorted_pairsO (k := keyOfV s.heap) hl.isList (by rw [← rv.length]; exact hz) keyV fun h' d out h1 h2 kp hd hn => ?_
  have h3 : ∀ u ∈ out, ∃ a, u = Value.ref a := fun u hu => e2 u (h2.perm.mem_iff.mp hu)
  obtain ⟨n, hn⟩ := hn
  have pm : (out.map backV).Perm xs := by rw [e1]; exact h2.perm.map _
  have hkk : (out.map backV).map kk = out.map (keyOfV s.heap) := by
    rw [List.map_map]
    refine List.map_congr_left fun u hu => ?_
    show keyOfV s.heap (toV (backV u)) = _
    rw [toV_back (h3 u hu)]
  refine ⟨.ref d, upd H d (.lst (out.map backV)), I.laid (t' := s.toks) kp hd ⟨?_, out, n, vals_back h3, hn⟩, rfl, q (out.map backV) ((out.map backV).map kk) d ?_ ?_ (fun G hG => ⟨(List.length_map ..).symm, fun i v p hv hpp => ?_⟩) (I.hok.fresh hd)⟩
  · rw [pm.length_eq]; exact hz
  · rw [← eps]; exact pm.map _
  · rw [hkk, List.pairwise_map]
    refine h1.imp fun {a b} hab => ?_
    have z := SrtO.lexB_no.mp hab
    unfold lexLe
    omega
  · rw [List.getElem?_map, hv] at hpp
    have e : kk v = p := Option.some.inj hpp
    obtain ⟨j, hj⟩ := List.getElem?_of_mem (pm.mem_iff.mp (List.mem_of_getElem? hv))
    refine hG.2 j v p hj ?_
    rw [← eps, List.getElem?_map, hj]
    exact congrArg some e
theorem dqa_psW {K : PySem.W.Frag} {H : Hp} {vs : List V} {ps : List (Int × Int)} (h : DqA K H vs (ps.map pairD)) : PsAt K H vs ps := by
  refine ⟨by have := h.len; rwa [List.length_map] at this, fun i v p hv hp => ?_⟩
  obtain ⟨v', h1, h2⟩ := h.getD i (d := pairD p) (by rw [List.getElem?_map, hp]; rfl)
  rw [hv] at h1
  cases h1
  obtain ⟨a, xs, rfl, ht, ha⟩ := dq_tup h2
  obtain ⟨v1, v2, rfl, k1, k2⟩ := dqa2 ha
  rw [dq_int k1, dq_int k2] at ht
  exact ⟨a, rfl, ht⟩
section
variable {K : PySem.W.Frag} {Z : Zk} {η : List Ent} {ta : TE}
theorem so_sortedPL {ps : List (Int × Int)} (h1 : SQ K Z ta η (.list (ps.map pairD))) : SO K Z (tCB (rSortedPD K) (tCons ta tNil)) η (fun ds => ∃ ps' : List (Int × Int), ps'.Perm ps ∧ ps'.Pairwise lexLe ∧ ds = ps'.map pairD) :=
  so_cb h1 fun v1 G H b d1 Q q => by
    obtain ⟨a, xs, rfl, ht, ha⟩ := dq_lst d1
    refine ⟨a, xs, ps, rfl, ex_l b.ex ht, dqa_psW (DqA.ex b.ex _ _ ha), fun ys ps' p k1 k2 k3 np => ?_⟩
    have hG : PsAt K G ys ps' := k3 G (dqa_psW ha)
    exact q p ys _ _ ⟨ps', k1, k2, rfl⟩ np (Ex.new np) (b.dk.new np) upd_same hG.dqa
/-- tuple(reversed(t)) -/
theorem se_tupRevT {ds : List PyData} (h1 : SQ K Z ta η (.tuple ds)) : SQ K Z (tTupRevT K ta) η (.tuple ds.reverse) := fun σ G H b s Q q =>
  h1 σ G H b s _ fun v1 d1 G1 H1 e1 s1 hd1 => by
    subst e1
    obtain ⟨a, xs, rfl, ht, ha⟩ := dq_tup hd1
    exact ⟨a, xs, rfl, ex_t s1.s ht, fun p np => q _ _ _ _ rfl (s1.trans (.new (b.go s1) np)) (.tup (SqT.of upd_same) (DqA.ex (Ex.new (none_of s1.s np)) _ _ ha.rev))⟩
theorem se_neB {tb : TE} {i j : Bool} (h1 : SQ K Z ta η (.bool i)) (h2 : SQ K Z tb η (.bool j)) : SQ K Z (tOp rNe ta tb) η (.bool (!decide (i = j))) :=
  se_op h1 h2 fun v1 v2 G H b d1 d2 Q q => by
    rw [dq_bl d1, dq_bl d2]
    refine ⟨rfl, ?_⟩
    have e : decide (V.bl i = V.bl j) = decide (i = j) := by cases i <;> cases j <;> rfl
    rw [e]
    exact q _ _ _ _ rfl (.refl b) (.bl _)
theorem se_notBl {tb : TE} {i j : Bool} (h1 : SQ K Z ta η (.bool i)) (h2 : SQ K Z tb η (.bool j)) : SQ K Z (tOp (fun x y H Q => ∃ a b, x = .bl a ∧ y = .bl b ∧ Q (.bl (!decide (a = b))) H) ta tb) η (.bool (!decide (i = j))) :=
  se_op h1 h2 fun v1 v2 G H b d1 d2 Q q => ⟨i, j, dq_bl d1, dq_bl d2, q _ _ _ _ rfl (.refl b) (.bl _)⟩
end
section
variable {K : PySem.W.Frag} {Z : Zk} {ρ : List Cell} {N : List Cell → Prop} {E : Eo}
/-- a, b, c = x, y, z -/
theorem ss_par3 {i j l : Nat} {ta : TA} {R : List PyData → Prop} (h : SA K Z ta (hideE ρ) R) (k : ∀ ds, R ds → ∃ d1 d2 d3, ds = [d1, d2, d3] ∧ N (((ρ.set i (.e (.dat d1))).set j (.e (.dat d2))).set l (.e (.dat d3)))) : SS K Z (tPar3 i j l ta) ρ N E := fun G0 H0 Gb b0 D e nx σ G H eb r =>
  h σ G H (r.bs b0) r.sl _ fun vs ds G' H' rd s hd => by
    obtain ⟨d1, d2, d3, rfl, hn⟩ := k ds rd
    obtain ⟨v, u, w, rfl, h1, h2, h3⟩ := dqa3 hd
    exact ⟨v, u, w, rfl, nx _ _ G' H' hn (eb.trans s.g) ((((r.step b0 s).set i h1).set j h2).set l h3)⟩
end
end FF
namespace FF
open PySem PySem.Spec PyProof.Rows L2 Evl
/-! ### the mathematics of bars and orders -/
section
variable {ab : List Int}
/-- induction along a way -/
theorem way_ind (wf : WF ab) {P : Int → Prop} (hneg : ∀ a : Int, a < 0 → P a) (hs : ∀ a : Int, 0 ≤ a → a < (ab.length : Int) → P (ab.getD a.toNat (-1)) → P a) : ∀ (n : Nat) (a : Int), a < (n : Int) → a < ab.length → P a
  | 0, a, h1, _ => hneg a (by omega)
  | n + 1, a, h1, h2 => by
    by_cases c : a < 0
    · exact hneg a c
    · have q := wf.at a (by omega)
      exact hs a (by omega) h2 (way_ind wf hneg hs n _ (by omega) (by omega))
theorem way_self (wf : WF ab) {a : Int} (h0 : 0 ≤ a) (h1 : a < ab.length) : a ∈ way ab a := by rw [way_step wf h0 h1]; exact List.mem_cons_self ..
theorem way_chain (wf : WF ab) {h : Int} (hl : h < ab.length) {x f : Int} (hx : x ∈ way ab h) (hf : f ∈ way ab h) : x ∈ way ab f ∨ f ∈ way ab x := by
  refine way_ind wf (P := fun h => x ∈ way ab h → f ∈ way ab h → x ∈ way ab f ∨ f ∈ way ab x) (fun a ha hx _ => ?_) (fun a h0 h1 ih hx hf => ?_) (h.toNat + 1) h (by omega) hl hx hf
  · rw [way_neg ha] at hx; cases hx
  · have hx' := hx
    have hf' := hf
    rw [way_step wf h0 h1] at hx hf
    rcases List.mem_cons.mp hx with z | z
    · subst z; exact .inr hf'
    · rcases List.mem_cons.mp hf with u | u
      · subst u; exact .inl hx'
      · exact ih z u
theorem way_len (wf : WF ab) {h : Int} (hl : h < ab.length) {f : Int} (hf : f ∈ way ab h) (ne : f ≠ h) : (way ab f).length < (way ab h).length := by
  refine way_ind wf (P := fun h => f ∈ way ab h → f ≠ h → (way ab f).length < (way ab h).length) (fun a ha hx _ => ?_) (fun a h0 h1 ih hx ne => ?_) (h.toNat + 1) h (by omega) hl hf ne
  · rw [way_neg ha] at hx; cases hx
  · rw [way_step wf h0 h1] at hx ⊢
    rcases List.mem_cons.mp hx with z | z
    · exact absurd z ne
    · by_cases c : f = ab.getD a.toNat (-1)
      · rw [← c, List.length_cons]; omega
      · have := ih z c
        rw [List.length_cons]; omega
theorem way_anti (wf : WF ab) {x f : Int} (h1 : x ∈ way ab f) (h2 : f ∈ way ab x) : x = f := by
  have a := way_bound wf h1
  have b := way_bound wf h2
  omega
end
/-- the load of a fuse tells of what is blown behind it alone, if nothing on its way is blown -/
theorem load_local {fs ls : List (Int × Int)} (g : WG fs ls) {on A B : List Int} (ho : OnOk ls on) {f : Int} (hA : ∀ x ∈ way (fs.map (·.1)) f, x ∉ A) (hB : ∀ x ∈ way (fs.map (·.1)) f, x ∉ B) (h : ∀ x, x ≠ f → f ∈ way (fs.map (·.1)) x → (x ∈ A ↔ x ∈ B)) :
    loadD (fs.map (·.1)) ls (litD (fs.map (·.1)) ls on A) f = loadD (fs.map (·.1)) ls (litD (fs.map (·.1)) ls on B) f := by
  have key : ∀ on : List Int, OnOk ls on → loadD (fs.map (·.1)) ls (litD (fs.map (·.1)) ls on A) f = loadD (fs.map (·.1)) ls (litD (fs.map (·.1)) ls on B) f := fun on => by
    induction on with
    | nil => intro _; rfl
    | cons l on ih =>
      intro ho
      have ih := ih ⟨by have := ho.1; rw [List.length_cons] at this; omega, fun x hx => ho.2 x (List.mem_cons_of_mem _ hx)⟩
      have hl := ho.2 l (List.mem_cons_self ..)
      obtain ⟨p, hp⟩ := get_of (xs := ls) hl.1 hl.2
      have hung := g.hung p (List.mem_of_getElem? hp)
      have ep := lampAt_of hp
      have cons : ∀ C : List Int, loadD (fs.map (·.1)) ls (litD (fs.map (·.1)) ls (l :: on) C) f = (if (!deadF (fs.map (·.1)) C p.1) = true ∧ f ∈ way (fs.map (·.1)) p.1 then p.2 else 0) + loadD (fs.map (·.1)) ls (litD (fs.map (·.1)) ls on C) f := fun C => by
        unfold litD
        rw [List.filter_cons, ep]
        by_cases c : (!deadF (fs.map (·.1)) C p.1) = true
        · rw [if_pos c]
          unfold loadD drawsOf
          rw [List.map_cons, sumBy_cons, ep]
          by_cases d : f ∈ way (fs.map (·.1)) p.1
          · rw [if_pos (decide_eq_true d), if_pos ⟨c, d⟩]
          · rw [if_neg (by simpa using d), if_neg fun z => d z.2]
        · rw [if_neg c, if_neg fun z => c z.1, Int.zero_add]
      rw [cons A, cons B, ih]
      have e : ((!deadF (fs.map (·.1)) A p.1) = true ∧ f ∈ way (fs.map (·.1)) p.1) ↔ ((!deadF (fs.map (·.1)) B p.1) = true ∧ f ∈ way (fs.map (·.1)) p.1) := by
        refine and_congr_left fun hf => ?_
        have one : ∀ {C D : List Int}, (∀ x ∈ way (fs.map (·.1)) f, x ∉ C) → (∀ x, x ≠ f → f ∈ way (fs.map (·.1)) x → (x ∈ C → x ∈ D)) → deadF (fs.map (·.1)) C p.1 = true → deadF (fs.map (·.1)) D p.1 = true := fun hC hCD hd => by
          obtain ⟨x, hx, hc⟩ := List.any_eq_true.mp hd
          have hc := of_decide_eq_true hc
          refine List.any_eq_true.mpr ⟨x, hx, decide_eq_true ?_⟩
          rcases way_chain g.wf (by rw [List.length_map]; exact hung.2.1) hx hf with z | z
          · exact absurd hc (hC x z)
          · refine hCD x (fun u => ?_) z hc
            subst u
            exact hC x z hc
        have i1 := one hA fun x h1 h2 => (h x h1 h2).mp
        have i2 := one hB fun x h1 h2 => (h x h1 h2).mpr
        cases c1 : deadF (fs.map (·.1)) A p.1 <;> cases c2 : deadF (fs.map (·.1)) B p.1
        · exact Iff.rfl
        · rw [i2 c2] at c1; cases c1
        · rw [i1 c1] at c2; cases c2
        · exact Iff.rfl
      by_cases c : (!deadF (fs.map (·.1)) A p.1) = true ∧ f ∈ way (fs.map (·.1)) p.1
      · rw [if_pos c, if_pos (e.mp c)]
      · rw [if_neg c, if_neg fun z => c (e.mpr z)]
  exact key on ho
/-- those of a set that are behind a fuse -/
def behD (fs : List (Int × Int)) (B : List Int) (f : Int) : List Int := B.filter fun x => decide (x ≠ f) && decide (f ∈ way (fs.map (·.1)) x)
theorem behD_mem {fs : List (Int × Int)} {B : List Int} {f x : Int} : x ∈ behD fs B f ↔ x ∈ B ∧ x ≠ f ∧ f ∈ way (fs.map (·.1)) x := by
  unfold behD
  rw [List.mem_filter, Bool.and_eq_true, decide_eq_true_eq, decide_eq_true_eq]
/-- whether a fuse is strained with just those of a set blown that are behind it -/
def overB (fs ls : List (Int × Int)) (on B : List Int) (f : Int) : Bool := decide (markAt fs f < loadD (fs.map (·.1)) ls (litD (fs.map (·.1)) ls on (behD fs B f)) f)
def barD (fs ls : List (Int × Int)) (on B : List Int) : Option Int := B.find? fun f => !overB fs ls on B f
theorem bar_none {fs ls : List (Int × Int)} {on B : List Int} : barD fs ls on B = none ↔ ∀ f ∈ B, overB fs ls on B f = true := by
  unfold barD
  rw [List.find?_eq_none]
  constructor <;> intro h f hf <;> have := h f hf <;> simpa using this
theorem bar_some {fs ls : List (Int × Int)} {on B : List Int} {f : Int} (h : barD fs ls on B = some f) : f ∈ B ∧ overB fs ls on B f = false := by
  unfold barD at h
  exact ⟨List.mem_of_find?_eq_some h, by simpa using List.find?_some h⟩
theorem strD_iff {fs ls : List (Int × Int)} {on bl : List Int} {f : Int} : f ∈ strD fs ls on bl ↔ (0 ≤ f ∧ f < fs.length) ∧ markAt fs f < loadD (fs.map (·.1)) ls (litD (fs.map (·.1)) ls on bl) f := by
  unfold strD
  rw [List.mem_filter, decide_eq_true_eq, rngI_mem]
theorem over_str {fs ls : List (Int × Int)} {on B : List Int} {f : Int} (h : 0 ≤ f ∧ f < fs.length) : decide (f ∈ strD fs ls on (behD fs B f)) = overB fs ls on B f := by
  unfold overB
  refine decide_eq_decide.mpr ?_
  rw [strD_iff]
  exact ⟨fun z => z.2, fun z => ⟨h, z⟩⟩
/-- a row of a set without a bar in which all that are behind a fuse stand ahead of it, and none on its way, is an order -/
theorem ord_of_bar {fs ls : List (Int × Int)} (g : WG fs ls) {on B row : List Int} (ho : OnOk ls on) (hb : ∀ x ∈ B, 0 ≤ x ∧ x < fs.length) (hn : barD fs ls on B = none) (hm : ∀ x, x ∈ row ↔ x ∈ B)
    (hr : ∀ (i : Nat) (f : Int), row[i]? = some f → (∀ x ∈ row.take i, x ∉ way (fs.map (·.1)) f) ∧ ∀ x ∈ B, x ≠ f → f ∈ way (fs.map (·.1)) x → x ∈ row.take i) : ordB fs ls on row = true := ordB_of fun i f hf => by
  obtain ⟨h1, h2⟩ := hr i f hf
  have fB := (hm f).mp (List.mem_of_getElem? hf)
  rw [strD_iff]
  refine ⟨hb f fB, ?_⟩
  have q := of_decide_eq_true (bar_none.mp hn f fB)
  rw [load_local g ho (A := row.take i) (B := behD fs B f) (fun x hx z => h1 x z hx) (fun x hx z => ?_) fun x ne hw => ?_]
  · exact q
  · obtain ⟨_, ne, hw⟩ := behD_mem.mp z
    exact ne (way_anti g.wf hx hw)
  · rw [behD_mem]
    exact ⟨fun z => ⟨(hm x).mp (List.mem_of_mem_take z), ne, hw⟩, fun z => h2 x z.1 ne hw⟩
/-- what stands ahead in a row that is ordered -/
theorem take_iff {α : Type} {R : α → α → Prop} {row : List α} (hp : row.Pairwise R) {i : Nat} {f : α} (hf : row[i]? = some f) : (∀ x ∈ row.take i, R x f) ∧ ∀ x ∈ row, x ∈ row.take i ∨ x = f ∨ R f x := by
  have hi := (List.getElem?_eq_some_iff.mp hf).1
  have e : row = row.take i ++ f :: row.drop (i + 1) := by
    have h2 : row.drop i = f :: row.drop (i + 1) := by
      rw [List.drop_eq_getElem_cons hi]
      rw [List.getElem?_eq_getElem hi] at hf
      rw [Option.some.inj hf]
    rw [← h2, List.take_append_drop]
  have hp' := hp
  rw [e] at hp'
  obtain ⟨_, h2, h3⟩ := List.pairwise_append.mp hp'
  refine ⟨fun x hx => h3 x hx f (List.mem_cons_self ..), fun x hx => ?_⟩
  rw [e] at hx
  rcases List.mem_append.mp hx with z | z
  · exact .inl z
  · rcases List.mem_cons.mp z with u | u
    · exact .inr (.inl u)
    · exact .inr (.inr ((List.pairwise_cons.mp h2).1 x u))
theorem ord_rev {fs ls : List (Int × Int)} (g : WG fs ls) {on B : List Int} (ho : OnOk ls on) (hb : ∀ x ∈ B, 0 ≤ x ∧ x < fs.length) (hs : B.Pairwise (· < ·)) (hn : barD fs ls on B = none) : ordB fs ls on B.reverse = true := by
  refine ord_of_bar g ho hb hn (fun x => List.mem_reverse) fun i f hf => ?_
  have hp : B.reverse.Pairwise fun x y => y < x := List.pairwise_reverse.mpr hs
  obtain ⟨h1, h2⟩ := take_iff hp hf
  refine ⟨fun x hx z => ?_, fun x hx ne hw => ?_⟩
  · have a := h1 x hx
    have b := way_bound g.wf z
    omega
  · rcases h2 x (List.mem_reverse.mpr hx) with z | z | z
    · exact z
    · exact absurd z ne
    · have b := way_bound g.wf hw
      omega
def lexLe' (p q : Int × Int) : Prop := p.1 < q.1 ∨ (p.1 = q.1 ∧ p.2 ≤ q.2)
def depK (fs : List (Int × Int)) (f : Int) : Int × Int := (0 - ((way (fs.map (·.1)) f).length : Int), f)
theorem ord_deep {fs ls : List (Int × Int)} (g : WG fs ls) {on B : List Int} (ho : OnOk ls on) (hb : ∀ x ∈ B, 0 ≤ x ∧ x < fs.length) (hd : B.Nodup) (hn : barD fs ls on B = none) {ps : List (Int × Int)} (h1 : ps.Perm (B.map (depK fs))) (h2 : ps.Pairwise lexLe') : ordB fs ls on (ps.map (·.2)) = true := by
  have e : ps = (ps.map (·.2)).map (depK fs) := by
    rw [List.map_map]
    refine List.ext_getElem? fun i => ?_
    rw [List.getElem?_map]
    cases c : ps[i]? with
    | none => rfl
    | some p =>
      obtain ⟨x, _, rfl⟩ := List.mem_map.mp (h1.mem_iff.mp (List.mem_of_getElem? c))
      rfl
  have pm : (ps.map (·.2)).Perm B := by
    have q := h1.map (fun p : Int × Int => p.2)
    rw [List.map_map] at q
    have i : ((fun p : Int × Int => p.2) ∘ depK fs) = id := rfl
    rw [i, List.map_id] at q
    exact q
  have nd : (ps.map (·.2)).Nodup := pm.nodup_iff.mpr hd
  have pw : (ps.map (·.2)).Pairwise fun x y => lexLe' (depK fs x) (depK fs y) := by
    rw [e, List.pairwise_map] at h2
    exact h2
  refine ord_of_bar g ho hb hn (fun x => pm.mem_iff) fun i f hf => ?_
  obtain ⟨k1, k2⟩ := take_iff pw hf
  have fB := pm.mem_iff.mp (List.mem_of_getElem? hf)
  have hfl := hb f fB
  refine ⟨fun x hx z => ?_, fun x hx ne hw => ?_⟩
  · have a := k1 x hx
    by_cases c : x = f
    · subst c
      -- x stands ahead of itself
      have := List.nodup_iff_pairwise_ne.mp nd
      exact (take_iff this hf).1 x hx rfl
    · have l := way_len g.wf (by rw [List.length_map]; exact hfl.2) z c
      unfold lexLe' depK at a
      omega
  · have hxl := hb x hx
    rcases k2 x (pm.mem_iff.mpr hx) with z | z | z
    · exact z
    · exact absurd z ne
    · have l := way_len g.wf (by rw [List.length_map]; exact hxl.2) hw (fun u => ne u.symm)
      unfold lexLe' depK at z
      omega
/-- the fuses behind one -/
def behindD (fs : List (Int × Int)) (f : Int) : List Int := (rngI fs.length).filter fun x => decide (x ≠ f) && decide (f ∈ way (fs.map (·.1)) x)
theorem behindD_mem {fs : List (Int × Int)} {f x : Int} : x ∈ behindD fs f ↔ (0 ≤ x ∧ x < fs.length) ∧ x ≠ f ∧ f ∈ way (fs.map (·.1)) x := by
  unfold behindD
  rw [List.mem_filter, Bool.and_eq_true, decide_eq_true_eq, decide_eq_true_eq, rngI_mem]
theorem beh_in {fs : List (Int × Int)} {B : List Int} {f : Int} (hb : ∀ x ∈ B, 0 ≤ x ∧ x < fs.length) : (B.filter fun x => decide (x ∈ behindD fs f)) = behD fs B f := by
  unfold behD
  refine List.filter_congr fun x hx => ?_
  have h := hb x hx
  rw [← Bool.decide_and]
  refine decide_eq_decide.mpr ?_
  rw [behindD_mem]
  exact ⟨fun z => z.2, fun z => ⟨h, z⟩⟩
def behTo (fs : List (Int × Int)) (f : Int) (i : Nat) : List Int := (rngI i).filter fun x => decide (x ≠ f) && decide (f ∈ way (fs.map (·.1)) x)
theorem rngI_succ (i : Nat) : rngI (i + 1) = rngI i ++ [(i : Int)] := by
  unfold rngI
  rw [List.range_succ, List.map_append]
  rfl
theorem behTo_step {fs : List (Int × Int)} (wf : WF (fs.map (·.1))) {f : Int} (h0 : 0 ≤ f) {i : Nat} {p : Int × Int} (hp : fs[i]? = some p) :
    behTo fs f (i + 1) = if (decide (p.1 = f) || decide (p.1 ∈ behTo fs f i)) = true then behTo fs f i ++ [(i : Int)] else behTo fs f i := by
  have hw := way_up wf hp
  have hb := wf.get hp
  have hm : p.1 ∈ behTo fs f i ↔ (0 ≤ p.1 ∧ p.1 < i) ∧ p.1 ≠ f ∧ f ∈ way (fs.map (·.1)) p.1 := by
    unfold behTo
    rw [List.mem_filter, Bool.and_eq_true, decide_eq_true_eq, decide_eq_true_eq, rngI_mem]
  have hi : i < fs.length := (List.getElem?_eq_some_iff.mp hp).1
  have key : (decide (p.1 = f) || decide (p.1 ∈ behTo fs f i)) = (decide ((i : Int) ≠ f) && decide (f ∈ way (fs.map (·.1)) (i : Int))) := by
    rw [← Bool.decide_or, ← Bool.decide_and]
    refine decide_eq_decide.mpr ?_
    rw [hm, hw, List.mem_cons]
    constructor
    · rintro (z | ⟨⟨z0, z1⟩, z2, z3⟩)
      · refine ⟨by omega, .inr ?_⟩
        rw [z]
        exact way_self wf h0 (by rw [List.length_map]; omega)
      · have := way_bound wf z3
        exact ⟨by omega, .inr z3⟩
    · rintro ⟨z1, z2 | z2⟩
      · exact absurd z2.symm z1
      · by_cases c : p.1 = f
        · exact .inl c
        · have := way_bound wf z2
          exact .inr ⟨⟨by omega, by omega⟩, c, z2⟩
  rw [key]
  unfold behTo
  rw [rngI_succ, List.filter_append, List.filter_cons, List.filter_nil]
  split
  · rfl
  · rw [List.append_nil]
end FF
namespace FF
open PySem PySem.Spec PyProof.Rows L2 Evl
/-! ### the mathematics of the sets that come -/
theorem way_trans {ab : List Int} (wf : WF ab) {h : Int} (hl : h < ab.length) {x f : Int} (hf : f ∈ way ab h) (hx : x ∈ way ab f) : x ∈ way ab h := by
  refine way_ind wf (P := fun h => f ∈ way ab h → x ∈ way ab h) (fun a ha hf => ?_) (fun a h0 h1 ih hf => ?_) (h.toNat + 1) h (by omega) hl hf
  · rw [way_neg ha] at hf; cases hf
  · have hf' := hf
    rw [way_step wf h0 h1] at hf ⊢
    rcases List.mem_cons.mp hf with z | z
    · subst z
      rw [way_step wf h0 h1] at hx
      exact hx
    · exact List.mem_cons_of_mem _ (ih z)
/-- a fuse with a blown one on its way has no load -/
theorem load_dead {fs ls : List (Int × Int)} (g : WG fs ls) {on B : List Int} (ho : OnOk ls on) {f x : Int} (hx : x ∈ way (fs.map (·.1)) f) (hB : x ∈ B) : loadD (fs.map (·.1)) ls (litD (fs.map (·.1)) ls on B) f = 0 := by
  unfold loadD
  refine sumBy_zero fun y hy => ?_
  obtain ⟨l, hl, rfl⟩ := List.mem_map.mp hy
  have hon := (List.mem_filter.mp hl).1
  have hr := ho.2 l hon
  obtain ⟨p, hp⟩ := get_of (xs := ls) hr.1 hr.2
  have hung := g.hung p (List.mem_of_getElem? hp)
  refine decide_eq_false fun z => ?_
  rw [lampAt_of hp] at z
  have := lit_way hl (f := x) (by rw [lampAt_of hp]; exact way_trans g.wf (by rw [List.length_map]; exact hung.2.1) z hx)
  exact this hB
theorem str_way {fs ls : List (Int × Int)} (g : WG fs ls) {on B : List Int} (ho : OnOk ls on) {f : Int} (h : f ∈ strD fs ls on B) : ∀ x ∈ way (fs.map (·.1)) f, x ∉ B := fun x hx hB => by
  obtain ⟨hr, hm⟩ := strD_iff.mp h
  rw [load_dead g ho hx hB] at hm
  have := mark_nonneg g hr.1 hr.2
  omega
/-- what is lit, loaded, strained tells of what is blown by its items alone -/
theorem deadF_congr {ab A B : List Int} (h : ∀ x, x ∈ A ↔ x ∈ B) (f : Int) : deadF ab A f = deadF ab B f := by
  unfold deadF
  refine congrArg (fun p => (way ab f).any p) (funext fun x => decide_eq_decide.mpr (h x))
theorem litD_congr {ab : List Int} {ls : List (Int × Int)} {on A B : List Int} (h : ∀ x, x ∈ A ↔ x ∈ B) : litD ab ls on A = litD ab ls on B := by
  unfold litD
  refine List.filter_congr fun l _ => ?_
  rw [deadF_congr h]
theorem strD_congr {fs ls : List (Int × Int)} {on A B : List Int} (h : ∀ x, x ∈ A ↔ x ∈ B) : strD fs ls on A = strD fs ls on B := by
  unfold strD
  rw [litD_congr h]
/-- a set that can come -/
structure Come (fs ls : List (Int × Int)) (on B : List Int) : Prop where
  asc : B.Pairwise (· < ·)
  inn : ∀ x ∈ B, 0 ≤ x ∧ x < fs.length
  bar : barD fs ls on B = none
theorem come_nil (fs ls : List (Int × Int)) (on : List Int) : Come fs ls on [] := ⟨List.Pairwise.nil, fun x hx => (nomatch hx), rfl⟩
def addB (B : List Int) (f : Int) : List Int := sortI (B ++ [f])
theorem addB_mem {B : List Int} {f x : Int} : x ∈ addB B f ↔ x ∈ B ∨ x = f := by
  unfold addB
  rw [(sortI_perm _).mem_iff, List.mem_append, List.mem_singleton]
theorem come_step {fs ls : List (Int × Int)} (g : WG fs ls) {on B : List Int} (ho : OnOk ls on) (c : Come fs ls on B) {f : Int} (h : f ∈ strD fs ls on B) : Come fs ls on (addB B f) := by
  have nf := str_not_blown g h
  obtain ⟨hr, hm⟩ := strD_iff.mp h
  have nw := str_way g ho h
  have nd : (addB B f).Nodup := by
    unfold addB
    refine (sortI_perm _).nodup_iff.mpr (List.nodup_append.mpr ⟨List.nodup_iff_pairwise_ne.mpr (c.asc.imp fun h => by omega), by simp, fun x hx y hy e => ?_⟩)
    rw [List.mem_singleton.mp hy] at e
    subst e
    exact nf hx
  refine ⟨?_, fun x hx => ?_, bar_none.mpr fun x hx => ?_⟩
  · have s : (addB B f).Pairwise (· ≤ ·) := sortI_sorted _
    exact (s.and (List.nodup_iff_pairwise_ne.mp nd)).imp fun h => by omega
  · rcases addB_mem.mp hx with z | z
    · exact c.inn x z
    · rw [z]; exact hr
  · -- the fuses behind x that are blown
    have key : ∀ y, (y ∈ behD fs (addB B f) x ↔ y ∈ behD fs B x) := fun y => by
      rw [behD_mem, behD_mem, addB_mem]
      constructor
      · rintro ⟨z | z, n, w⟩
        · exact ⟨z, n, w⟩
        · subst z
          rcases addB_mem.mp hx with u | u
          · exact absurd u (nw x w)
          · exact absurd u.symm n
      · rintro ⟨z, n, w⟩
        exact ⟨.inl z, n, w⟩
    unfold overB
    rw [litD_congr key]
    rcases addB_mem.mp hx with z | z
    · exact bar_none.mp c.bar x z
    · subst z
      refine decide_eq_true ?_
      rw [← load_local g ho (A := B) nw (fun y hy z => ?_) fun y n w => ?_]
      · exact hm
      · obtain ⟨_, n, w⟩ := behD_mem.mp z
        exact n (way_anti g.wf hy w)
      · rw [behD_mem]
        exact ⟨fun z => ⟨z, n, w⟩, fun z => z.1⟩
/-- a family that has the empty set and with each set those with one strained fuse more has all sets that come -/
theorem come_all {fs ls : List (Int × Int)} (g : WG fs ls) {on : List Int} (ho : OnOk ls on) {Kn : List Int → Prop} (h0 : Kn []) (hs : ∀ B f, Kn B → Come fs ls on B → f ∈ strD fs ls on B → Kn (addB B f)) {B : List Int} (c : Come fs ls on B) : Kn B := by
  have od := ord_rev g ho c.inn c.asc c.bar
  have all : ∀ i, i ≤ B.reverse.length → Kn (sortI (B.reverse.take i)) ∧ Come fs ls on (sortI (B.reverse.take i)) := fun i => by
    induction i with
    | zero => intro _; exact ⟨h0, come_nil _ _ _⟩
    | succ i ih =>
      intro hi
      obtain ⟨k, cm⟩ := ih (by omega)
      obtain ⟨f, hf⟩ : ∃ f, B.reverse[i]? = some f := ⟨_, List.getElem?_eq_getElem (by omega)⟩
      have st := ordB_at od hf
      rw [strD_congr (B := sortI (B.reverse.take i)) fun x => ((sortI_perm _).mem_iff).symm] at st
      have e : sortI (B.reverse.take (i + 1)) = addB (sortI (B.reverse.take i)) f := by
        unfold addB
        refine sorted_unique ?_ (sortI_sorted _) (sortI_sorted _)
        rw [List.take_add_one, hf]
        refine (sortI_perm _).trans (List.Perm.trans ?_ (sortI_perm _).symm)
        exact (sortI_perm _).symm.append_right _
      rw [e]
      exact ⟨hs _ _ k cm st, come_step g ho cm st⟩
  have last := (all _ (Nat.le_refl _)).1
  rw [List.take_length] at last
  have e : sortI B.reverse = B := sorted_unique ((sortI_perm _).trans (List.reverse_perm B)) (sortI_sorted _) (c.asc.imp fun h => by omega)
  rw [e] at last
  exact last
/-- can_come, by its sets -/
theorem come_iff {fs ls : List (Int × Int)} {on B : List Int} : Come fs ls on B ↔ (ascB fs.length (intsT B) = true ∧ barD fs ls on B = none) := by
  constructor
  · intro c
    have nd : B.Nodup := List.nodup_iff_pairwise_ne.mpr (c.asc.imp fun h => by omega)
    have hl := nodup_len nd c.inn
    have u := unlike_ints (n := fs.length) hl fun x hx => by have := c.inn x hx; omega
    rw [decide_eq_true nd] at u
    refine ⟨?_, c.bar⟩
    rw [asc_ints u]
    exact decide_eq_true (sortI_of (c.asc.imp fun h => by omega)).symm
  · rintro ⟨a, b⟩
    have a' := a
    unfold ascB at a'
    rw [Bool.and_eq_true] at a'
    obtain ⟨l, e, _, hb, nd⟩ := unlike_yes a'.1
    have e : B = l := by
      have : B.map PyData.int = l.map PyData.int := PyData.tuple.inj e
      have inj : ∀ {a b : List Int}, a.map PyData.int = b.map PyData.int → a = b := fun {a} => by
        induction a with
        | nil => intro b h; cases b with
          | nil => rfl
          | cons y b => cases h
        | cons x a ih =>
          intro b h
          cases b with
          | nil => cases h
          | cons y b =>
            obtain ⟨h1, h2⟩ := List.cons.inj h
            injection h1 with h1
            rw [h1, ih h2]
      exact inj this
    subst e
    rw [asc_ints a'.1] at a
    have s := of_decide_eq_true a
    refine ⟨?_, hb, b⟩
    have q : B.Pairwise (· ≤ ·) := by rw [s]; exact sortI_sorted _
    exact (q.and (List.nodup_iff_pairwise_ne.mp nd)).imp fun h => by omega
end FF
namespace FF
open PySem PySem.Spec PyProof.Rows L2 Evl
/-! ### all ascending rows of numbers below n, as the law's own lots are put together -/
def pw : Nat → List (List Int)
  | 0 => [[]]
  | n + 1 => pw n ++ (pw n).map (· ++ [(n : Int)])
theorem pw_len : ∀ n, (pw n).length = 2 ^ n
  | 0 => rfl
  | n + 1 => by
    unfold pw
    rw [List.length_append, List.length_map, pw_len n, Nat.pow_succ]
    omega
theorem pw_asc : ∀ {n : Nat} {B : List Int}, B ∈ pw n → B.Pairwise (· < ·) ∧ (∀ x ∈ B, 0 ≤ x ∧ x < n) ∧ B.length ≤ n
  | 0, B, h => by
    have e : B = [] := by simpa [pw] using h
    subst e
    exact ⟨List.Pairwise.nil, fun x hx => (nomatch hx), Nat.le_refl _⟩
  | n + 1, B, h => by
    unfold pw at h
    rcases List.mem_append.mp h with z | z
    · obtain ⟨h1, h2, h3⟩ := pw_asc z
      exact ⟨h1, fun x hx => by have := h2 x hx; omega, by omega⟩
    · obtain ⟨C, hC, rfl⟩ := List.mem_map.mp z
      obtain ⟨h1, h2, h3⟩ := pw_asc hC
      refine ⟨List.pairwise_append.mpr ⟨h1, List.pairwise_singleton _ _, fun x hx y hy => ?_⟩, fun x hx => ?_, ?_⟩
      · rw [List.mem_singleton.mp hy]; have := h2 x hx; omega
      · rcases List.mem_append.mp hx with u | u
        · have := h2 x u; omega
        · rw [List.mem_singleton.mp u]; omega
      · rw [List.length_append, List.length_singleton]; omega
theorem pw_mem : ∀ {n : Nat} {B : List Int}, B.Pairwise (· < ·) → (∀ x ∈ B, 0 ≤ x ∧ x < n) → B ∈ pw n
  | 0, B, _, h2 => by
    cases B with
    | nil => simp [pw]
    | cons x B => have := h2 x (List.mem_cons_self ..); omega
  | n + 1, B, h1, h2 => by
    unfold pw
    by_cases c : (n : Int) ∈ B
    · -- the greatest stands last
      refine List.mem_append.mpr (.inr (List.mem_map.mpr ?_))
      rcases List.eq_nil_or_concat B with e | ⟨C, y, e⟩
      · subst e; cases c
      · rw [List.concat_eq_append] at e
        subst e
        obtain ⟨a1, _, a3⟩ := List.pairwise_append.mp h1
        have hy := h2 y (List.mem_append_right _ (List.mem_singleton.mpr rfl))
        have ey : y = (n : Int) := by
          rcases List.mem_append.mp c with u | u
          · have := a3 _ u y (List.mem_singleton.mpr rfl); omega
          · exact (List.mem_singleton.mp u).symm
        subst ey
        refine ⟨C, pw_mem a1 fun x hx => ?_, rfl⟩
        have l := a3 x hx _ (List.mem_singleton.mpr rfl)
        have := h2 x (List.mem_append_left _ hx)
        omega
    · refine List.mem_append.mpr (.inl (pw_mem h1 fun x hx => ?_))
      have := h2 x hx
      have ne : x ≠ (n : Int) := fun z => c (z ▸ hx)
      omega
/-- a row of rows without twice, all of which stand in another one, is no longer -/
theorem nodup_subL {α : Type} [DecidableEq α] : ∀ {l m : List α}, l.Nodup → (∀ x ∈ l, x ∈ m) → l.length ≤ m.length
  | [], m, _, _ => Nat.zero_le _
  | x :: l, m, h, hs => by
    obtain ⟨h1, h2⟩ := List.nodup_cons.mp h
    have hm := hs x (List.mem_cons_self ..)
    have ih := nodup_subL (m := m.erase x) h2 fun y hy => by
      have ne : y ≠ x := fun z => h1 (z ▸ hy)
      exact (List.mem_erase_of_ne ne).mpr (hs y (List.mem_cons_of_mem _ hy))
    rw [List.length_erase_of_mem hm] at ih
    have : 0 < m.length := List.length_pos_of_mem hm
    rw [List.length_cons]
    omega
/-- how many sets can come at most -/
theorem come_len {fs ls : List (Int × Int)} {on : List Int} {ks : List (List Int)} (nd : ks.Nodup) (h : ∀ B ∈ ks, Come fs ls on B) : ks.length ≤ 2 ^ fs.length := by
  have := nodup_subL (m := pw fs.length) nd fun B hB => pw_mem (h B hB).asc (h B hB).inn
  rw [pw_len] at this
  exact this
/-- what the law's own search holds: all known come, all that follow from those not waiting are known -/
structure Seek (fs ls : List (Int × Int)) (on : List Int) (ks wl : List (List Int)) : Prop where
  nd : ks.Nodup
  come : ∀ B ∈ ks, Come fs ls on B
  nil : [] ∈ ks
  wait : ∀ B ∈ wl, B ∈ ks
  done : ∀ B ∈ ks, B ∉ wl → ∀ f ∈ strD fs ls on B, addB B f ∈ ks
theorem seek_0 (fs ls : List (Int × Int)) (on : List Int) : Seek fs ls on [[]] [[]] := by
  refine ⟨List.nodup_cons.mpr ⟨fun z => (nomatch z), List.nodup_nil⟩, fun B hB => ?_, List.mem_singleton.mpr rfl, fun B hB => hB, fun B hB hn => absurd hB hn⟩
  rw [List.mem_singleton.mp hB]
  exact come_nil _ _ _
theorem seek_end {fs ls : List (Int × Int)} (g : WG fs ls) {on : List Int} (ho : OnOk ls on) {ks : List (List Int)} (s : Seek fs ls on ks []) : ∀ B, B ∈ ks ↔ Come fs ls on B := fun B =>
  ⟨s.come B, fun c => come_all (Kn := fun B => B ∈ ks) g ho s.nil (fun B f hk _ hf => s.done B hk (fun z => nomatch z) f hf) c⟩
/-- while those behind the fuses of a set B that was taken out are put in -/
structure SeekB (fs ls : List (Int × Int)) (on B : List Int) (i : Nat) (ks wl : List (List Int)) : Prop where
  nd : ks.Nodup
  come : ∀ C ∈ ks, Come fs ls on C
  nil : [] ∈ ks
  wait : ∀ C ∈ wl, C ∈ ks
  mine : B ∈ ks
  done : ∀ C ∈ ks, C ∉ wl → C ≠ B → ∀ f ∈ strD fs ls on C, addB C f ∈ ks
  part : ∀ f ∈ (strD fs ls on B).take i, addB B f ∈ ks
theorem Seek.pop {fs ls : List (Int × Int)} {on : List Int} {ks wl : List (List Int)} {B : List Int} (s : Seek fs ls on ks (wl ++ [B])) : SeekB fs ls on B 0 ks wl :=
  ⟨s.nd, s.come, s.nil, fun C hC => s.wait C (List.mem_append_left _ hC), s.wait B (List.mem_append_right _ (List.mem_singleton.mpr rfl)), fun C hC hn ne => s.done C hC fun z => by
    rcases List.mem_append.mp z with u | u
    · exact hn u
    · exact ne (List.mem_singleton.mp u), fun f hf => by rw [List.take_zero] at hf; cases hf⟩
theorem SeekB.old {fs ls : List (Int × Int)} {on B : List Int} {i : Nat} {ks wl : List (List Int)} (s : SeekB fs ls on B i ks wl) {f : Int} (hf : (strD fs ls on B)[i]? = some f) (h : addB B f ∈ ks) : SeekB fs ls on B (i + 1) ks wl :=
  ⟨s.nd, s.come, s.nil, s.wait, s.mine, s.done, fun x hx => by
    rw [List.take_add_one, hf] at hx
    rcases List.mem_append.mp hx with u | u
    · exact s.part x u
    · have e : x = f := by simpa using u
      subst e
      exact h⟩
theorem SeekB.new {fs ls : List (Int × Int)} (g : WG fs ls) {on B : List Int} (ho : OnOk ls on) {i : Nat} {ks wl : List (List Int)} (s : SeekB fs ls on B i ks wl) {f : Int} (hf : (strD fs ls on B)[i]? = some f) (h : addB B f ∉ ks) : SeekB fs ls on B (i + 1) (ks ++ [addB B f]) (wl ++ [addB B f]) := by
  have cm := come_step g ho (s.come B s.mine) (List.mem_of_getElem? hf)
  refine ⟨List.nodup_append.mpr ⟨s.nd, List.nodup_cons.mpr ⟨fun z => (nomatch z), List.nodup_nil⟩, fun x hx y hy e => ?_⟩, fun C hC => ?_, List.mem_append_left _ s.nil, fun C hC => ?_, List.mem_append_left _ s.mine, fun C hC hn ne x hx => ?_, fun x hx => ?_⟩
  · rw [List.mem_singleton.mp hy] at e
    subst e
    exact h hx
  · rcases List.mem_append.mp hC with u | u
    · exact s.come C u
    · rw [List.mem_singleton.mp u]; exact cm
  · rcases List.mem_append.mp hC with u | u
    · exact List.mem_append_left _ (s.wait C u)
    · exact List.mem_append_right _ u
  · rcases List.mem_append.mp hC with u | u
    · exact List.mem_append_left _ (s.done C u (fun z => hn (List.mem_append_left _ z)) ne x hx)
    · exact absurd (List.mem_append_right _ u) hn
  · rw [List.take_add_one, hf] at hx
    rcases List.mem_append.mp hx with u | u
    · exact List.mem_append_left _ (s.part x u)
    · have e : x = f := by simpa using u
      subst e
      exact List.mem_append_right _ (List.mem_singleton.mpr rfl)
theorem SeekB.fin {fs ls : List (Int × Int)} {on B : List Int} {ks wl : List (List Int)} (s : SeekB fs ls on B (strD fs ls on B).length ks wl) : Seek fs ls on ks wl :=
  ⟨s.nd, s.come, s.nil, s.wait, fun C hC hn f hf => by
    by_cases e : C = B
    · subst e
      refine s.part f ?_
      rw [List.take_length]
      exact hf
    · exact s.done C hC hn e f hf⟩
end FF
set_option maxHeartbeats 4000000
namespace FF
open PySem PySem.Spec PyProof.Rows L2 Evl
/-! ### reading a def as a predicate over plain Lean data: what is told, by cells -/
mutual
def noL : PyData → Bool
  | .list _ => false
  | .dict _ => false
  | .tuple ds => noLs ds
  | _ => true
def noLs : List PyData → Bool
  | [] => true
  | d :: ds => noL d && noLs ds
end
/-- what stood untold ahead, but for tuples, is not told -/
noncomputable def cutH (G H W : Hp) : Hp := fun a => if G a = none ∧ (∃ u, H a = some u ∧ isTupH u = false) then none else W a
section
variable {K : PySem.W.Frag} {Z : Zk} {G0 H0 G H W W' H' : Hp} {σ : L2.St} {ρ : List Cell}
theorem cutH_ex (e : Ex G W) : Ex G (cutH G H W) := fun a o h => by
  unfold cutH
  rw [if_neg (fun z => by rw [z.1] at h; cases h)]
  exact e a o h
theorem cutH_tup (b : Bs Z G H) (s : Stp Z G H G W') (e : Ex W W') {a : Addr} {o : HO} (t : isTupH o = true) (h : W a = some o) : cutH G H W a = some o := by
  unfold cutH
  rw [if_neg]
  · exact h
  · rintro ⟨_, u, hu, hf⟩
    have hw := e a o h
    by_cases c : a ∈ mz Z
    · have d := s.d
      match Z, c, d with
      | some (D, A, B), c, d =>
        obtain ⟨⟨gs, cs, n, g1, g2, g3, _⟩, _⟩ := d.1
        have c' : a = D ∨ a = A := by simpa [mz] using c
        rcases c' with z | z
        · rw [z, g1] at hw; cases hw; cases t
        · rw [z, g2] at hw; cases hw; cases t
    · have := s.k a u hu c
      rw [this] at hw
      cases hw
      rw [t] at hf
      cases hf
theorem cutH_sqT (b : Bs Z G H) (s : Stp Z G H G W') (e : Ex W W') {a : Addr} {xs : List V} (h : SqT K W a xs) : SqT K (cutH G H W) a xs := by
  rcases h with (h | ⟨o, h⟩) | h
  · exact .inl (.inl (cutH_tup b s e rfl h))
  · exact .inl (.inr ⟨o, cutH_tup b s e rfl h⟩)
  · exact .inr h
mutual
theorem cutH_dq (b : Bs Z G H) (s : Stp Z G H G W') (e : Ex W W') : ∀ (d : PyData) (v : V), noL d = true → Dq K W v d → Dq K (cutH G H W) v d
  | .none, _, _, h => by cases h; exact .non
  | .bool x, _, _, h => by cases h; exact .bl x
  | .int i, _, _, h => by cases h; exact .int i
  | .str x, _, _, h => by cases h; exact .str x
  | .list _, _, n, _ => by unfold noL at n; cases n
  | .dict _, _, n, _ => by unfold noL at n; cases n
  | .tuple ds, _, n, h => by
    unfold noL at n
    cases h with
    | tup x y => exact .tup (cutH_sqT b s e x) (cutH_dqs b s e ds _ n y)
theorem cutH_dqs (b : Bs Z G H) (s : Stp Z G H G W') (e : Ex W W') : ∀ (ds : List PyData) (vs : List V), noLs ds = true → DqA K W vs ds → DqA K (cutH G H W) vs ds
  | [], _, _, h => by cases h; exact .nil
  | d :: ds, _, n, h => by
    unfold noLs at n
    rw [Bool.and_eq_true] at n
    cases h with
    | cons x y => exact .cons (cutH_dq b s e d _ n.1 x) (cutH_dqs b s e ds _ n.2 y)
end
/-- from a step over all that is seen to one over what is told -/
theorem unview (b : Bs Z G H) (back : Stp Z G H G H') (eW : Ex G W) (s : Stp Z W H W' H') {v : V} {d : PyData} (n : noL d = true) (hd : Dq K W' v d) : Stp Z G H (cutH G H W') H' ∧ Dq K (cutH G H W') v d := by
  refine ⟨⟨cutH_ex (eW.trans s.g), fun a o h => ?_, back.k, fun a u h1 h2 h3 => ?_, ?_⟩, cutH_dq b back s.s d v n hd⟩
  · unfold cutH at h
    by_cases c : G a = none ∧ ∃ u, H a = some u ∧ isTupH u = false
    · rw [if_pos c] at h; cases h
    · rw [if_neg c] at h; exact s.s a o h
  · unfold cutH
    rw [if_pos ⟨h1, u, h2, h3⟩]
  · have d := back.d
    have d0 := b.dk
    match Z, d, d0 with
    | none, _, _ => trivial
    | some (D, A, B), d, d0 =>
      obtain ⟨⟨gs, cs, n, g1, g2, g3, _⟩, _⟩ := d0.1
      refine ⟨d.1, ?_, ?_⟩
      · unfold cutH; rw [if_pos ⟨d0.2.1, _, g1, rfl⟩]
      · unfold cutH; rw [if_pos ⟨d0.2.2, _, g2, rfl⟩]
end
section
variable (K : PySem.W.Frag) (Z : Zk)
def SC (te : TE) (ρ : List Cell) (R : PyData → Prop) : Prop := ∀ (G0 H0 : Hp), Bs Z G0 H0 → ∀ (σ : L2.St) (G H : Hp), Rel K Z G0 H0 σ ρ G H → ∀ Q : VK, (∀ v d G' H', R d → Stp Z G H G' H' → Dq K G' v d → Q v H') → te σ H Q
def SCO (te : TE) (ρ : List Cell) (R : List PyData → Prop) : Prop := ∀ (G0 H0 : Hp), Bs Z G0 H0 → ∀ (σ : L2.St) (G H : Hp), Rel K Z G0 H0 σ ρ G H → ∀ Q : VK, (∀ p vs ds G' H', R ds → Stp Z G H G' H' → H p = none → G' p = none → H' p = some (.lst vs) → DqA K G' vs ds → Q (.ref p) H') → te σ H Q
def SCT (tt : TT) (ρ : List Cell) (R : Bool → Prop) : Prop := ∀ (G0 H0 : Hp), Bs Z G0 H0 → ∀ (σ : L2.St) (G H : Hp), Rel K Z G0 H0 σ ρ G H → ∀ Q : Bool → Hp → Prop, (∀ b G' H', R b → Stp Z G H G' H' → Q b H') → tt σ H Q
def SCI (wi : TI) (ρ : List Cell) (R : List PyData → Prop) : Prop := ∀ (G0 H0 : Hp), Bs Z G0 H0 → ∀ (σ : L2.St) (G H : Hp), Rel K Z G0 H0 σ ρ G H → ∀ Q : It → Hp → Prop, (∀ J ds G' H', R ds → Stp Z G H G' H' → Feed K Z J ds G' → Q J H') → wi σ H Q
def SCA (ta : TA) (ρ : List Cell) (R : List PyData → Prop) : Prop := ∀ (G0 H0 : Hp), Bs Z G0 H0 → ∀ (σ : L2.St) (G H : Hp), Rel K Z G0 H0 σ ρ G H → ∀ Q : List V → Hp → Prop, (∀ vs ds G' H', R ds → Stp Z G H G' H' → DqA K G' vs ds → Q vs H') → ta σ H Q
def SCP (to : TO) (ρ : List Cell) (R : Option Int → Prop) : Prop := ∀ (G0 H0 : Hp), Bs Z G0 H0 → ∀ (σ : L2.St) (G H : Hp), Rel K Z G0 H0 σ ρ G H → ∀ Q : Option Int → Hp → Prop, (∀ o G' H', R o → Stp Z G H G' H' → Q o H') → to σ H Q
end
section
variable {K : PySem.W.Frag} {Z : Zk} {ρ : List Cell} {te ta tb tc : TE} {R R1 : PyData → Prop}
theorem SC.hide (h : SE K Z te (hideE ρ) R) : SC K Z te ρ R := fun G0 H0 b0 σ G H r Q q => h σ G H (r.bs b0) r.sl Q q
theorem SC.view (h : SE K Z te (viewE ρ) R) (n : ∀ d, R d → noL d = true) : SC K Z te ρ R := fun G0 H0 b0 σ G H r Q q => by
  obtain ⟨W, eW, sW, sl, back⟩ := r.view b0
  refine h σ W H (b0.go sW) sl Q fun v d W' H' rd s hd => ?_
  obtain ⟨s', hd'⟩ := unview (r.bs b0) (back _ _ s) eW s (n d rd) hd
  exact q v d _ H' rd s' hd'
theorem SCO.hide {R : List PyData → Prop} (h : SO K Z te (hideE ρ) R) : SCO K Z te ρ R := fun G0 H0 b0 σ G H r Q q => h σ G H (r.bs b0) r.sl Q q
theorem SCT.hide {tt : TT} {R : Bool → Prop} (h : ST K Z tt (hideE ρ) R) : SCT K Z tt ρ R := fun G0 H0 b0 σ G H r Q q => h σ G H (r.bs b0) r.sl Q q
theorem SCT.view {tt : TT} {R : Bool → Prop} (h : ST K Z tt (viewE ρ) R) : SCT K Z tt ρ R := fun G0 H0 b0 σ G H r Q q => by
  obtain ⟨W, eW, sW, sl, back⟩ := r.view b0
  exact h σ W H (b0.go sW) sl Q fun c W' H' rc s => q c G H' rc (back _ _ s)
theorem SCI.hide {wi : TI} {R : List PyData → Prop} (h : SI K Z wi (hideE ρ) R) : SCI K Z wi ρ R := fun G0 H0 b0 σ G H r Q q => h σ G H (r.bs b0) r.sl Q q
theorem SC.mono {R' : PyData → Prop} (h : SC K Z te ρ R) (hr : ∀ d, R d → R' d) : SC K Z te ρ R' := fun G0 H0 b0 σ G H r Q q => h G0 H0 b0 σ G H r Q fun v d G' H' rd => q v d G' H' (hr d rd)
theorem SCO.mono {R R' : List PyData → Prop} (h : SCO K Z te ρ R) (hr : ∀ d, R d → R' d) : SCO K Z te ρ R' := fun G0 H0 b0 σ G H r Q q => h G0 H0 b0 σ G H r Q fun p vs ds G' H' rd => q p vs ds G' H' (hr ds rd)
theorem SCO.e {R : List PyData → Prop} (h : SCO K Z te ρ R) : SC K Z te ρ (fun d => ∃ ds, R ds ∧ d = .list ds) := fun G0 H0 b0 σ G H r Q q => h G0 H0 b0 σ G H r Q fun p vs ds G' H' rd st n n' g ha => by
  have b := r.bs b0
  have bs := b.go st
  have ns : p ≠ sysModules := fun z => by
    subst z
    obtain ⟨o, e⟩ := bs.sys
    rw [n'] at e
    cases e
  exact q _ _ _ _ ⟨ds, rd, rfl⟩ (st.tell n g n' (b.dk.ne n)) (.lst upd_same ns (DqA.ex (Ex.new n') _ _ ha))
/-- values in slots of their own -/
theorem sl1 {G : Hp} {v : V} {d : PyData} (h : Dq K G v d) : Sl K Z G [some v] [.dat d] := fun i n hn => by
  match i, hn with
  | 0, hn => cases hn; exact ⟨_, rfl, v, rfl, h⟩
  | i + 1, hn => simp at hn
theorem sl2 {G : Hp} {v u : V} {d e : PyData} (h : Dq K G v d) (h2 : Dq K G u e) : Sl K Z G [some v, some u] [.dat d, .dat e] := fun i n hn => by
  match i, hn with
  | 0, hn => cases hn; exact ⟨_, rfl, v, rfl, h⟩
  | 1, hn => cases hn; exact ⟨_, rfl, u, rfl, h2⟩
  | i + 2, hn => simp at hn
theorem sl3 {G : Hp} {v u w : V} {d e f : PyData} (h : Dq K G v d) (h2 : Dq K G u e) (h3 : Dq K G w f) : Sl K Z G [some v, some u, some w] [.dat d, .dat e, .dat f] := fun i n hn => by
  match i, hn with
  | 0, hn => cases hn; exact ⟨_, rfl, v, rfl, h⟩
  | 1, hn => cases hn; exact ⟨_, rfl, u, rfl, h2⟩
  | 2, hn => cases hn; exact ⟨_, rfl, w, rfl, h3⟩
  | i + 3, hn => simp at hn
theorem sc_1 {T : TE → TE} {κ : V → Hp → VK → Prop} (hT : ∀ ta σ H Q, T ta σ H Q = ta σ H fun v H1 => κ v H1 Q) (h1 : SC K Z ta ρ R1) (k : ∀ d, R1 d → SE K Z (T (tVar 0)) [.dat d] R) : SC K Z (T ta) ρ R := fun G0 H0 b0 σ G H r Q q => by
  rw [hT]
  refine h1 G0 H0 b0 σ G H r _ fun v d G1 H1 r1 s1 hd => ?_
  have x := k d r1 [some v] G1 H1 ((r.bs b0).go s1) (sl1 hd) Q fun u e G' H' re s2 he => q u e G' H' re (s1.trans s2) he
  rw [hT] at x
  obtain ⟨w, hw, x⟩ := x
  cases hw
  exact x
theorem sco_1 {T : TE → TE} {κ : V → Hp → VK → Prop} {R : List PyData → Prop} (hT : ∀ ta σ H Q, T ta σ H Q = ta σ H fun v H1 => κ v H1 Q) (h1 : SC K Z ta ρ R1) (k : ∀ d, R1 d → SO K Z (T (tVar 0)) [.dat d] R) : SCO K Z (T ta) ρ R := fun G0 H0 b0 σ G H r Q q => by
  rw [hT]
  refine h1 G0 H0 b0 σ G H r _ fun v d G1 H1 r1 s1 hd => ?_
  have x := k d r1 [some v] G1 H1 ((r.bs b0).go s1) (sl1 hd) Q fun p vs ds G' H' re s2 np np' g ha => q p vs ds G' H' re (s1.trans s2) (freshBack (r.bs b0) s1 np) np' g ha
  rw [hT] at x
  obtain ⟨w, hw, x⟩ := x
  cases hw
  exact x
theorem sct_1 {T : TE → TT} {κ : V → Hp → (Bool → Hp → Prop) → Prop} {R : Bool → Prop} (hT : ∀ ta σ H Q, T ta σ H Q = ta σ H fun v H1 => κ v H1 Q) (h1 : SC K Z ta ρ R1) (k : ∀ d, R1 d → ST K Z (T (tVar 0)) [.dat d] R) : SCT K Z (T ta) ρ R := fun G0 H0 b0 σ G H r Q q => by
  rw [hT]
  refine h1 G0 H0 b0 σ G H r _ fun v d G1 H1 r1 s1 hd => ?_
  have x := k d r1 [some v] G1 H1 ((r.bs b0).go s1) (sl1 hd) Q fun c G' H' re s2 => q c G' H' re (s1.trans s2)
  rw [hT] at x
  obtain ⟨w, hw, x⟩ := x
  cases hw
  exact x
theorem sci_1 {T : TE → TI} {κ : V → Hp → (It → Hp → Prop) → Prop} {R : List PyData → Prop} (hT : ∀ ta σ H Q, T ta σ H Q = ta σ H fun v H1 => κ v H1 Q) (h1 : SC K Z ta ρ R1) (k : ∀ d, R1 d → SI K Z (T (tVar 0)) [.dat d] R) : SCI K Z (T ta) ρ R := fun G0 H0 b0 σ G H r Q q => by
  rw [hT]
  refine h1 G0 H0 b0 σ G H r _ fun v d G1 H1 r1 s1 hd => ?_
  have x := k d r1 [some v] G1 H1 ((r.bs b0).go s1) (sl1 hd) Q fun J ds G' H' re s2 fd => q J ds G' H' re (s1.trans s2) fd
  rw [hT] at x
  obtain ⟨w, hw, x⟩ := x
  cases hw
  exact x
theorem sc_2 {T : TE → TE → TE} {κ : V → V → Hp → VK → Prop} {R2 : PyData → PyData → Prop} (hT : ∀ ta tb σ H Q, T ta tb σ H Q = ta σ H fun v H1 => tb σ H1 fun u H2 => κ v u H2 Q) (h1 : SC K Z ta ρ R1) (h2 : ∀ d, R1 d → SC K Z tb ρ (R2 d)) (k : ∀ d e, R1 d → R2 d e → SE K Z (T (tVar 0) (tVar 1)) [.dat d, .dat e] R) : SC K Z (T ta tb) ρ R := fun G0 H0 b0 σ G H r Q q => by
  rw [hT]
  refine h1 G0 H0 b0 σ G H r _ fun v d G1 H1 r1 s1 hd => ?_
  refine h2 d r1 G0 H0 b0 σ G1 H1 (r.step b0 s1) _ fun u e G2 H2 r2 s2 he => ?_
  have x := k d e r1 r2 [some v, some u] G2 H2 (((r.bs b0).go s1).go s2) (sl2 (Dq.ex s2.g _ _ hd) he) Q fun u e G' H' re s3 he => q u e G' H' re ((s1.trans s2).trans s3) he
  rw [hT] at x
  obtain ⟨w, hw, w2, hw2, x⟩ := x
  cases hw
  cases hw2
  exact x
theorem sco_2 {T : TE → TE → TE} {κ : V → V → Hp → VK → Prop} {R2 : PyData → PyData → Prop} {R : List PyData → Prop} (hT : ∀ ta tb σ H Q, T ta tb σ H Q = ta σ H fun v H1 => tb σ H1 fun u H2 => κ v u H2 Q) (h1 : SC K Z ta ρ R1) (h2 : ∀ d, R1 d → SC K Z tb ρ (R2 d)) (k : ∀ d e, R1 d → R2 d e → SO K Z (T (tVar 0) (tVar 1)) [.dat d, .dat e] R) : SCO K Z (T ta tb) ρ R := fun G0 H0 b0 σ G H r Q q => by
  rw [hT]
  refine h1 G0 H0 b0 σ G H r _ fun v d G1 H1 r1 s1 hd => ?_
  refine h2 d r1 G0 H0 b0 σ G1 H1 (r.step b0 s1) _ fun u e G2 H2 r2 s2 he => ?_
  have x := k d e r1 r2 [some v, some u] G2 H2 (((r.bs b0).go s1).go s2) (sl2 (Dq.ex s2.g _ _ hd) he) Q fun p vs ds G' H' re s3 np np' g ha => q p vs ds G' H' re ((s1.trans s2).trans s3) (freshBack (r.bs b0) (s1.trans s2) np) np' g ha
  rw [hT] at x
  obtain ⟨w, hw, w2, hw2, x⟩ := x
  cases hw
  cases hw2
  exact x
theorem sci_2 {T : TE → TE → TI} {κ : V → V → Hp → (It → Hp → Prop) → Prop} {R2 : PyData → PyData → Prop} {R : List PyData → Prop} (hT : ∀ ta tb σ H Q, T ta tb σ H Q = ta σ H fun v H1 => tb σ H1 fun u H2 => κ v u H2 Q) (h1 : SC K Z ta ρ R1) (h2 : ∀ d, R1 d → SC K Z tb ρ (R2 d)) (k : ∀ d e, R1 d → R2 d e → SI K Z (T (tVar 0) (tVar 1)) [.dat d, .dat e] R) : SCI K Z (T ta tb) ρ R := fun G0 H0 b0 σ G H r Q q => by
  rw [hT]
  refine h1 G0 H0 b0 σ G H r _ fun v d G1 H1 r1 s1 hd => ?_
  refine h2 d r1 G0 H0 b0 σ G1 H1 (r.step b0 s1) _ fun u e G2 H2 r2 s2 he => ?_
  have x := k d e r1 r2 [some v, some u] G2 H2 (((r.bs b0).go s1).go s2) (sl2 (Dq.ex s2.g _ _ hd) he) Q fun J ds G' H' re s3 fd => q J ds G' H' re ((s1.trans s2).trans s3) fd
  rw [hT] at x
  obtain ⟨w, hw, w2, hw2, x⟩ := x
  cases hw
  cases hw2
  exact x
/-- tests -/
theorem sct_and {t u : TT} {Ra Rb : Bool → Prop} (h1 : SCT K Z t ρ Ra) (h2 : Ra true → SCT K Z u ρ Rb) (h3 : Ra false → Rb false) : SCT K Z (tAnd t u) ρ Rb := fun G0 H0 b0 σ G H r Q q =>
  h1 G0 H0 b0 σ G H r _ fun c G1 H1 rc s1 => by
    cases c with
    | true => exact iteT (h2 rc G0 H0 b0 σ G1 H1 (r.step b0 s1) Q fun y G2 H2 e2 s2 => q y G2 H2 e2 (s1.trans s2))
    | false => exact iteF (q _ G1 H1 (h3 rc) s1)
theorem sct_or {t u : TT} {Ra Rb : Bool → Prop} (h1 : SCT K Z t ρ Ra) (h2 : Ra false → SCT K Z u ρ Rb) (h3 : Ra true → Rb true) : SCT K Z (tOr t u) ρ Rb := fun G0 H0 b0 σ G H r Q q =>
  h1 G0 H0 b0 σ G H r _ fun c G1 H1 rc s1 => by
    cases c with
    | false => exact iteF (h2 rc G0 H0 b0 σ G1 H1 (r.step b0 s1) Q fun y G2 H2 e2 s2 => q y G2 H2 e2 (s1.trans s2))
    | true => exact iteT (q _ G1 H1 (h3 rc) s1)
theorem sct_not {t : TT} {Ra : Bool → Prop} (h1 : SCT K Z t ρ fun c => Ra (!c)) : SCT K Z (tNot t) ρ Ra := fun G0 H0 b0 σ G H r Q q =>
  h1 G0 H0 b0 σ G H r _ fun c G1 H1 rc s1 => q _ G1 H1 rc s1
theorem sc_andV {Ra : Bool → Prop} (h1 : SC K Z ta ρ fun d => ∃ c, d = .bool c ∧ Ra c) (h2 : Ra true → SC K Z tb ρ R) (h3 : Ra false → R (.bool false)) : SC K Z (tAndV ta tb) ρ R := fun G0 H0 b0 σ G H r Q q =>
  h1 G0 H0 b0 σ G H r _ fun v d G1 H1 e1 s1 hd => by
    obtain ⟨c, rfl, rc⟩ := e1
    refine ⟨c, dq_bl hd, ?_⟩
    cases c with
    | true => exact iteT (h2 rc G0 H0 b0 σ G1 H1 (r.step b0 s1) Q fun v y G2 H2 e2 s2 => q v y G2 H2 e2 (s1.trans s2))
    | false => exact iteF (q _ _ G1 H1 (h3 rc) s1 (.bl _))
theorem sc_orV {Ra : Bool → Prop} (h1 : SC K Z ta ρ fun d => ∃ c, d = .bool c ∧ Ra c) (h2 : Ra false → SC K Z tb ρ R) (h3 : Ra true → R (.bool true)) : SC K Z (tOrV ta tb) ρ R := fun G0 H0 b0 σ G H r Q q =>
  h1 G0 H0 b0 σ G H r _ fun v d G1 H1 e1 s1 hd => by
    obtain ⟨c, rfl, rc⟩ := e1
    refine ⟨c, dq_bl hd, ?_⟩
    cases c with
    | false => exact iteF (h2 rc G0 H0 b0 σ G1 H1 (r.step b0 s1) Q fun v y G2 H2 e2 s2 => q v y G2 H2 e2 (s1.trans s2))
    | true => exact iteT (q _ _ G1 H1 (h3 rc) s1 (.bl _))
theorem sc_if {t : TT} {Ra : Bool → Prop} (h : SCT K Z t ρ Ra) (h1 : Ra true → SC K Z ta ρ R) (h2 : Ra false → SC K Z tb ρ R) : SC K Z (tIf t ta tb) ρ R := fun G0 H0 b0 σ G H r Q q =>
  h G0 H0 b0 σ G H r _ fun c G1 H1 rc s1 => by
    cases c with
    | true => exact iteT (h1 rc G0 H0 b0 σ G1 H1 (r.step b0 s1) Q fun v y G2 H2 e2 s2 => q v y G2 H2 e2 (s1.trans s2))
    | false => exact iteF (h2 rc G0 H0 b0 σ G1 H1 (r.step b0 s1) Q fun v y G2 H2 e2 s2 => q v y G2 H2 e2 (s1.trans s2))
theorem sc_chain {r1 r2 : R2} {Ra : PyData → Prop} {Rm : PyData → PyData → Bool → Prop}
    (h1 : SC K Z ta ρ Ra) (h2 : ∀ d, Ra d → SC K Z tb ρ (fun e => ∃ c, Rm d e c ∧ ∀ v u G H, Bs Z G H → Dq K G v d → Dq K G u e → ∀ Q : VK, Q (.bl c) H → r1 v u H Q))
    (h3 : ∀ d e, Rm d e true → SC K Z tc ρ (fun f => ∃ c, R (.bool c) ∧ ∀ v u G H, Bs Z G H → Dq K G v e → Dq K G u f → ∀ Q : VK, Q (.bl c) H → r2 v u H Q))
    (h4 : ∀ d e, Rm d e false → R (.bool false)) : SC K Z (tChain r1 r2 ta tb tc) ρ R := fun G0 H0 b0 σ G H r Q q =>
  h1 G0 H0 b0 σ G H r _ fun v1 d1 G1 H1 e1 s1 hd1 => h2 d1 e1 G0 H0 b0 σ G1 H1 (r.step b0 s1) _ fun v2 d2 G2 H2 e2 s2 hd2 => by
    obtain ⟨c, rm, hr⟩ := e2
    have s12 := s1.trans s2
    have b2 := (r.bs b0).go s12
    refine hr v1 v2 G2 H2 b2 (Dq.ex s2.g _ _ hd1) hd2 _ ⟨c, rfl, ?_⟩
    cases c with
    | false => exact iteF (q _ _ G2 H2 (h4 d1 d2 rm) s12 (.bl _))
    | true =>
      refine iteT (h3 d1 d2 rm G0 H0 b0 σ G2 H2 (r.step b0 s12) _ fun v3 d3 G3 H3 e3 s3 hd3 => ?_)
      obtain ⟨c3, rc, hr3⟩ := e3
      exact hr3 v2 v3 G3 H3 (b2.go s3) (Dq.ex s3.g _ _ hd2) hd3 Q (q _ _ G3 H3 rc (s12.trans s3) (.bl _))
/-- items -/
theorem sca_nil {R : List PyData → Prop} (h : R []) : SCA K Z tNil ρ R := fun G0 H0 b0 σ G H r Q q => q [] [] G H h (.refl (r.bs b0)) .nil
theorem sca_cons {tr : TA} {R : List PyData → Prop} {R2 : PyData → List PyData → Prop} (h1 : SC K Z te ρ R1) (h2 : ∀ d, R1 d → SCA K Z tr ρ (R2 d)) (h3 : ∀ d ds, R1 d → R2 d ds → R (d :: ds)) : SCA K Z (tCons te tr) ρ R := fun G0 H0 b0 σ G H r Q q =>
  h1 G0 H0 b0 σ G H r _ fun v1 d1 G1 H1 e1 s1 hd1 => h2 d1 e1 G0 H0 b0 σ G1 H1 (r.step b0 s1) _ fun vs es G2 H2 e2 s2 ha =>
    q _ _ _ _ (h3 d1 es e1 e2) (s1.trans s2) (.cons (Dq.ex s2.g _ _ hd1) ha)
theorem sc_tup {tr : TA} {Ra : List PyData → Prop} (h1 : SCA K Z tr ρ Ra) (hl : ∀ ds, Ra ds → ds.length ≤ 100000 ∧ R (.tuple ds)) : SC K Z (tTup tr) ρ R := fun G0 H0 b0 σ G H r Q q =>
  h1 G0 H0 b0 σ G H r _ fun vs ds G1 H1 ra s1 ha => ⟨by rw [ha.len]; exact lenOk (hl _ ra).1, fun p np =>
    q _ _ _ _ (hl _ ra).2 (s1.trans (.new ((r.bs b0).go s1) np)) (.tup (SqT.of upd_same) (DqA.ex (Ex.new (none_of s1.s np)) _ _ ha))⟩
theorem sco_lst {tr : TA} {Ra R : List PyData → Prop} (h1 : SCA K Z tr ρ Ra) (hl : ∀ ds, Ra ds → ds.length ≤ 100000 ∧ R ds) : SCO K Z (tLst tr) ρ R := fun G0 H0 b0 σ G H r Q q =>
  h1 G0 H0 b0 σ G H r _ fun vs ds G1 H1 ra s1 ha => ⟨by rw [ha.len]; exact lenOk (hl _ ra).1, fun p np => by
    have b1 := (r.bs b0).go s1
    exact q p vs ds G1 _ (hl _ ra).2 (s1.trans (.hide b1 np)) (freshBack (r.bs b0) s1 np) (none_of s1.s np) upd_same ha⟩
/-- calls -/
theorem sc_call {pre : List PyData → (PyData → Prop) → Prop} {E : XK} {t : TA} {Ra : List PyData → Prop} (h1 : SCA K Z t ρ Ra) (hp : ∀ ds, Ra ds → pre ds R) : SC K Z (tCall (SpD K pre) [] E t) ρ R := fun G0 H0 b0 σ G H r Q q =>
  h1 G0 H0 b0 σ G H r _ fun vs ds G1 H1 ra s1 ha => by
    have b1 := (r.bs b0).go s1
    rw [List.append_nil]
    exact ⟨G1, ds, R, b1.lift, ha, hp ds ra, fun v d G' H' r' s2 hd => q v d G' H' r' (s1.trans (s2.lift b1)) hd⟩
theorem sco_call {pre : List PyData → (List PyData → Prop) → Prop} {E : XK} {t : TA} {Ra Rs : List PyData → Prop} (h1 : SCA K Z t ρ Ra) (hp : ∀ ds, Ra ds → pre ds Rs) : SCO K Z (tCall (SpO K pre) [] E t) ρ Rs := fun G0 H0 b0 σ G H r Q q =>
  h1 G0 H0 b0 σ G H r _ fun vs ds G1 H1 ra s1 ha => by
    have b1 := (r.bs b0).go s1
    rw [List.append_nil]
    exact ⟨G1, ds, Rs, b1.lift, ha, hp ds ra, fun p us es G' H' r' s2 n1 n2 g hd => q p us es G' H' r' (s1.trans (s2.lift b1)) (freshBack (r.bs b0) s1 n1) n2 g hd⟩
theorem sc_callZ {pre : List PyData → (PyData → Prop) → Prop} {E : XK} {t : TA} {i : Nat} {Ra : List PyData → Prop} (hi : ρ[i]? = some (.e .deck)) (h1 : SCA K Z t ρ Ra) (hp : ∀ ds, Ra ds → pre ds R) : SC K Z (tCall (SpZ K pre) [] E (tCons (tVar i) t)) ρ R := fun G0 H0 b0 σ G H r Q q => by
  obtain ⟨x, hx, D, A, B, rfl, rfl⟩ := r.slots i _ hi
  refine ⟨.ref D, hx, h1 G0 H0 b0 σ G H r _ fun vs ds G1 H1 ra s1 ha => ?_⟩
  show SpZ K pre ((.ref D :: vs) ++ []) H1 Q E
  rw [List.append_nil]
  exact ⟨D, A, B, G1, vs, ds, R, rfl, (r.bs b0).go s1, ha, hp ds ra, fun v d G' H' r' s2 hd => q v d G' H' r' (s1.trans s2) hd⟩
/-- an own list's item -/
theorem sc_ixOwn {i : Nat} {ds : List PyData} (hi : ρ[i]? = some (.lst ds)) (h2 : SC K Z tb ρ (fun d => ∃ j x, d = .int j ∧ atI ds j = some x ∧ R x)) : SC K Z (tOp (rIxL K) (tVar i) tb) ρ R := fun G0 H0 b0 σ G H r Q q => by
  obtain ⟨p, us, h1, g, n0, n, ha⟩ := r.lst hi
  refine ⟨.ref p, h1, h2 G0 H0 b0 σ G H r _ fun v d G1 H1 rd s1 hd => ?_⟩
  obtain ⟨j, x, rfl, hx, rx⟩ := rd
  obtain ⟨v', hv, hdv⟩ := dqa_atI (DqA.ex s1.g _ _ ha) hx
  exact ⟨p, us, j, v', rfl, dq_int hd, SqL.of (s1.k p _ g (b0.dk.ne n0)), hv, q _ _ G1 H1 rx s1 hdv⟩
theorem scp_none {R : Option Int → Prop} (h : R none) : SCP K Z tNoPart ρ R := fun G0 H0 b0 σ G H r Q q => q none G H h (.refl (r.bs b0))
theorem scp_some {R : Option Int → Prop} (h : SC K Z te ρ fun d => ∃ i, d = .int i ∧ R (some i)) : SCP K Z (tPart te) ρ R := fun G0 H0 b0 σ G H r Q q =>
  h G0 H0 b0 σ G H r _ fun v d G1 H1 e s1 hd => by
    obtain ⟨i, rfl, ri⟩ := e
    exact ⟨i, dq_int hd, q _ G1 H1 ri s1⟩
theorem sc_sl {rr : V → Option Int → Option Int → Hp → VK → Prop} {tl th : TO} {Rl : PyData → Option Int → Prop} {Rh : PyData → Option Int → Option Int → Prop} (h1 : SC K Z ta ρ R1) (h2 : ∀ d, R1 d → SCP K Z tl ρ (Rl d)) (h3 : ∀ d lo, Rl d lo → SCP K Z th ρ (Rh d lo))
    (k : ∀ d lo hi, Rh d lo hi → SE K Z (tSl rr (tVar 0) (fun _ H Q => Q lo H) (fun _ H Q => Q hi H)) [.dat d] R) : SC K Z (tSl rr ta tl th) ρ R := fun G0 H0 b0 σ G H r Q q =>
  h1 G0 H0 b0 σ G H r _ fun v d G1 H1 r1 s1 hd => h2 d r1 G0 H0 b0 σ G1 H1 (r.step b0 s1) _ fun lo G2 H2 r2 s2 => h3 d lo r2 G0 H0 b0 σ G2 H2 (r.step b0 (s1.trans s2)) _ fun hi G3 H3 r3 s3 => by
    have s13 := (s1.trans s2).trans s3
    have x := k d lo hi r3 [some v] G3 H3 ((r.bs b0).go s13) (sl1 (Dq.ex (s2.g.trans s3.g) _ _ hd)) Q fun u e G' H' re s4 he => q u e G' H' re (s13.trans s4) he
    obtain ⟨w, hw, x⟩ := x
    cases hw
    exact x
theorem sco_sl {rr : V → Option Int → Option Int → Hp → VK → Prop} {tl th : TO} {R : List PyData → Prop} {Rl : PyData → Option Int → Prop} {Rh : PyData → Option Int → Option Int → Prop} (h1 : SC K Z ta ρ R1) (h2 : ∀ d, R1 d → SCP K Z tl ρ (Rl d)) (h3 : ∀ d lo, Rl d lo → SCP K Z th ρ (Rh d lo))
    (k : ∀ d lo hi, Rh d lo hi → SO K Z (tSl rr (tVar 0) (fun _ H Q => Q lo H) (fun _ H Q => Q hi H)) [.dat d] R) : SCO K Z (tSl rr ta tl th) ρ R := fun G0 H0 b0 σ G H r Q q =>
  h1 G0 H0 b0 σ G H r _ fun v d G1 H1 r1 s1 hd => h2 d r1 G0 H0 b0 σ G1 H1 (r.step b0 s1) _ fun lo G2 H2 r2 s2 => h3 d lo r2 G0 H0 b0 σ G2 H2 (r.step b0 (s1.trans s2)) _ fun hi G3 H3 r3 s3 => by
    have s13 := (s1.trans s2).trans s3
    have x := k d lo hi r3 [some v] G3 H3 ((r.bs b0).go s13) (sl1 (Dq.ex (s2.g.trans s3.g) _ _ hd)) Q fun p vs ds G' H' re s4 np np' g ha => q p vs ds G' H' re (s13.trans s4) (freshBack (r.bs b0) s13 np) np' g ha
    obtain ⟨w, hw, x⟩ := x
    cases hw
    exact x
end
end FF
set_option maxHeartbeats 4000000
namespace FF
open PySem PySem.Spec PyProof.Rows L2 Evl
/-! ### cells forgotten; comprehensions; statements by cells -/
def wipeC (ρ : List Cell) : List Nat → List Cell
  | [] => ρ
  | v :: vs => (wipeC ρ vs).set v (.e .un)
section
variable {K : PySem.W.Frag} {Z : Zk} {G0 H0 G H G' H' : Hp} {σ : L2.St} {ρ ρ' : List Cell}
theorem Rel.unset (r : Rel K Z G0 H0 σ ρ G H) (i : Nat) (x : Option V) : Rel K Z G0 H0 (σ.set i x) (ρ.set i (.e .un)) G H := by
  refine ⟨r.st, fun j c h => ?_, fun j l c d' p n h1 h2 o1 o2 s1 s2 => ?_⟩
  · by_cases e : i = j
    · subst e
      obtain ⟨rfl, hl⟩ := get_set_self h
      exact ⟨x, List.getElem?_set_self (r.slot hl), trivial⟩
    · rw [List.getElem?_set_ne e] at h
      obtain ⟨y, h1, h2⟩ := r.slots j c h
      exact ⟨y, by rw [List.getElem?_set_ne e]; exact h1, h2⟩
  · have ne : ∀ {j : Nat} {c : Cell}, (ρ.set i (.e .un))[j]? = some c → isOwn c = true → i ≠ j := fun {j c} h o z => by
      subst z
      obtain ⟨rfl, _⟩ := get_set_self h
      cases o
    have e1 := ne h1 o1
    have e2 := ne h2 o2
    rw [List.getElem?_set_ne e1] at h1 s1
    rw [List.getElem?_set_ne e2] at h2 s2
    exact r.ne j l c d' p n h1 h2 o1 o2 s1 s2
theorem Rel.wipe (r : Rel K Z G0 H0 σ ρ G H) : ∀ vs : List Nat, Rel K Z G0 H0 (L2.wipe σ vs) (wipeC ρ vs) G H
  | [] => r
  | v :: vs => (Rel.wipe r vs).unset v none
/-- one cell tells no more than the other one -/
def Fg1 (c d : Cell) : Prop := d = c ∨ d = .e .un
def Fg : List Cell → List Cell → Prop
  | [], [] => True
  | c :: r, d :: t => Fg1 c d ∧ Fg r t
  | _, _ => False
theorem Fg.get : ∀ {ρ ρ' : List Cell}, Fg ρ ρ' → ∀ (i : Nat) (d : Cell), ρ'[i]? = some d → ∃ c, ρ[i]? = some c ∧ Fg1 c d
  | [], [], _, i, d, h => by simp at h
  | c :: r, d :: t, f, 0, e, h => by
    have e' : d = e := Option.some.inj h
    subst e'
    exact ⟨c, rfl, f.1⟩
  | c :: r, d :: t, f, i + 1, e, h => Fg.get f.2 i e h
  | [], _ :: _, f, _, _, _ => f.elim
  | _ :: _, [], f, _, _, h => by simp at h
theorem Fg.refl : ∀ {ρ : List Cell}, Fg ρ ρ
  | [] => trivial
  | _ :: _ => ⟨.inl rfl, Fg.refl⟩
theorem Fg.trans : ∀ {ρ ρ' ρ2 : List Cell}, Fg ρ ρ' → Fg ρ' ρ2 → Fg ρ ρ2
  | [], [], [], _, _ => trivial
  | c :: r, d :: t, e :: u, a, b => ⟨by
    rcases b.1 with z | z
    · rw [z]; exact a.1
    · exact .inr z, Fg.trans a.2 b.2⟩
  | [], _ :: _, _, a, _ => a.elim
  | _ :: _, [], _, a, _ => a.elim
  | [], [], _ :: _, _, b => b.elim
  | _ :: _, _ :: _, [], _, b => b.elim
theorem Fg.set : ∀ {ρ ρ' : List Cell} (i : Nat) (c : Cell), Fg ρ ρ' → Fg (ρ.set i c) (ρ'.set i c)
  | [], [], _, _, _ => trivial
  | _ :: _, _ :: _, 0, c, a => ⟨.inl rfl, a.2⟩
  | _ :: _, _ :: _, i + 1, c, a => ⟨a.1, Fg.set i c a.2⟩
  | [], _ :: _, _, _, a => a.elim
  | _ :: _, [], _, _, a => a.elim
theorem Fg.setC : ∀ {is : List Nat} {ds : List PyData} {ρ ρ' : List Cell}, Fg ρ ρ' → Fg (FF.setC ρ is ds) (FF.setC ρ' is ds)
  | [], _, _, _, h => by unfold FF.setC; exact h
  | _ :: _, [], _, _, h => by unfold FF.setC; exact h
  | i :: is, d :: ds, _, _, h => Fg.setC (is := is) (ds := ds) (h.set i _)
theorem Rel.fg (r : Rel K Z G0 H0 σ ρ G H) (f : Fg ρ ρ') : Rel K Z G0 H0 σ ρ' G H := by
  refine ⟨r.st, fun i d h => ?_, fun i j c d p n h1 h2 o1 o2 s1 s2 => ?_⟩
  · obtain ⟨c, hc, fc⟩ := f.get i d h
    obtain ⟨x, h1, h2⟩ := r.slots i c hc
    refine ⟨x, h1, ?_⟩
    rcases fc with z | z
    · rw [z]; exact h2
    · rw [z]; trivial
  · obtain ⟨c', hc, fc⟩ := f.get i c h1
    obtain ⟨d', hd, fd⟩ := f.get j d h2
    rcases fc with z | z
    · rcases fd with u | u
      · subst z u
        exact r.ne i j _ _ p n hc hd o1 o2 s1 s2
      · rw [u] at o2; cases o2
    · rw [z] at o1; cases o1
end
section
variable {K : PySem.W.Frag} {Z : Zk} {ρ ρ' : List Cell} {te : TE}
theorem SC.fg {R : PyData → Prop} (h : SC K Z te ρ' R) (f : Fg ρ ρ') : SC K Z te ρ R := fun G0 H0 b0 σ G H r Q q => h G0 H0 b0 σ G H (r.fg f) Q q
theorem sco_lc {wi : TI} {g : TG} {tt : TT} {te : TE} {vs is : List Nat} {un : PyData → List PyData → Prop} {R0 : List PyData → Prop} (P : List PyData → Nat → List PyData → Prop) (hi : SCI K Z wi ρ R0) (hg : SG K g is un) (his : ∀ i ∈ is, i ∈ vs)
    (h0 : ∀ ds, R0 ds → P ds 0 [])
    (hs : ∀ ds i d acc, R0 ds → ds[i]? = some d → P ds i acc → ∃ xs, un d xs ∧ xs.length = is.length ∧ ∃ Rb, SCT K Z tt (setC (wipeC ρ vs) is xs) Rb ∧ (Rb false → P ds (i + 1) acc) ∧ (Rb true → acc.length < 100000 ∧ ∃ Re, SC K Z te (setC (wipeC ρ vs) is xs) Re ∧ ∀ e, Re e → P ds (i + 1) (acc ++ [e]))) :
    SCO K Z (tLc wi g tt te vs) ρ (fun acc => ∃ ds, R0 ds ∧ P ds ds.length acc) := fun Ga Ha ba σ G H rel Q q =>
  hi Ga Ha ba σ G H rel _ fun J ds G0 H0 r s0 fd D nD => by
    have b := rel.bs ba
    have b0 := b.go s0
    have nD0 : H D = none := freshBack b s0 nD
    have rel0 := rel.step ba s0
    refine ⟨fun i m H' => m = ds.length - i ∧ i ≤ ds.length ∧ ∃ G' us acc, Stp Z G0 H0 G' H' ∧ G' D = none ∧ H' D = some (.lst us) ∧ DqA K G' us acc ∧ P ds i acc, ⟨ds.length, by simp, Nat.zero_le _, G0, [], [], .hide b0 nD, none_of b0.ex nD, upd_same, .nil, h0 ds r⟩, ?_⟩
    rintro i m H1 ⟨rfl, hile, G1, us, acc, s1, n1, g1, ha, p⟩
    have b1 := b0.go s1
    obtain ⟨hstop, hgo⟩ := fd i G1 H1 s1.g b1
    by_cases hlt : i < ds.length
    · obtain ⟨hgo1, hy⟩ := hgo _ (List.getElem?_eq_getElem hlt)
      refine .inr ⟨hgo1, fun H' => ∃ G' us acc, Stp Z G0 H0 G' H' ∧ G' D = none ∧ H' D = some (.lst us) ∧ DqA K G' us acc ∧ P ds (i + 1) acc, fun H' p' => ⟨ds.length - (i + 1), by omega, rfl, hlt, p'⟩, fun x H2 y => ?_⟩
      obtain ⟨G2, s2, hd⟩ := hy x H2 y
      have b2 := b1.go s2
      obtain ⟨xs, hu, hxl, Rb, ht, hf, htr⟩ := hs ds i _ acc r (List.getElem?_eq_getElem hlt) p
      refine hg x _ (wipe σ vs) G2 H2 xs b2.ex hd hu _ fun ws hw hwl => ⟨by rw [wipe_setA _ _ _ his, wipe_wipe], ?_⟩
      have s02 := s1.trans s2
      have sl : Rel K Z Ga Ha (setA (wipe σ vs) is ws) (setC (wipeC ρ vs) is xs) G2 H2 := ((rel0.step ba s02).wipe vs).setA hw
      refine ht Ga Ha ba _ G2 H2 sl _ fun c G3 H3 rc s3 => ?_
      have s03 := s02.trans s3
      have b3 := b2.go s3
      have keep : ∀ {G' H' : Hp}, Stp Z G1 H1 G' H' → G' D = none ∧ H' D = some (.lst us) := fun st => ⟨st.n D _ n1 g1 rfl, st.k D _ g1 (b0.dk.ne nD)⟩
      cases c with
      | false =>
        refine iteF ?_
        obtain ⟨k1, k2⟩ := keep (s2.trans s3)
        exact ⟨G3, us, acc, s03, k1, k2, DqA.ex (s2.trans s3).g _ _ ha, hf rc⟩
      | true =>
        refine iteT ?_
        obtain ⟨hl, Re, he, hp⟩ := htr rc
        refine he Ga Ha ba _ G3 H3 (sl.step ba s3) _ fun y e G4 H4 re s4 hy4 => ?_
        have s14 := (s2.trans s3).trans s4
        have s04 := s03.trans s4
        obtain ⟨k1, k2⟩ := keep s14
        refine ⟨us, k2, by rw [ha.len]; exact sz_lt hl, G4, us ++ [y], acc ++ [e], ?_, k1, upd_same, (DqA.ex s14.g _ _ ha).app (.cons hy4 .nil), hp e re⟩
        exact s04.mut b0 nD k1 k2
    · have e : i = ds.length := by omega
      subst e
      exact .inl ⟨hstop rfl, q D us acc G1 H1 ⟨ds, r, p⟩ (s0.trans s1) nD0 n1 g1 ha⟩
end
/-! ### statements -/
section
variable {K : PySem.W.Frag} {Z : Zk} {ρ : List Cell} {N N' : List Cell → Prop} {E : Eo} {t u : TS} {te : TE}
theorem ss_fg {ρ' : List Cell} (h : SS K Z t ρ' N E) (f : Fg ρ ρ') : SS K Z t ρ N E := fun G0 H0 Gb b0 D e nx σ G H eb r => h G0 H0 Gb b0 D e nx σ G H eb (r.fg f)
theorem sx_set {i : Nat} {R : PyData → Prop} (h : SC K Z te ρ R) (k : ∀ d, R d → N (ρ.set i (.e (.dat d)))) : SS K Z (tAsg te (gName i)) ρ N E := fun G0 H0 Gb b0 D e nx σ G H eb r =>
  h G0 H0 b0 σ G H r _ fun v d G' H' rd s hd => nx _ _ G' H' (k d rd) (eb.trans s.g) ((r.step b0 s).set i hd)
theorem sx_setL {i : Nat} {R : List PyData → Prop} (h : SCO K Z te ρ R) (k : ∀ ds, R ds → N (ρ.set i (.lst ds))) : SS K Z (tAsg te (gName i)) ρ N E := fun G0 H0 Gb b0 D e nx σ G H eb r =>
  h G0 H0 b0 σ G H r _ fun p vs ds G' H' rd s np n' g ha => nx _ _ G' H' (k ds rd) (eb.trans s.g) ((r.step b0 s).setL i g (freshBack b0 r.st np) n' ha (fun j c hc o => r.fresh np j c hc o))
theorem sx_ret {R : PyData → Prop} (h : SC K Z te ρ R) (k : ∀ d, R d → E.rt d) : SS K Z (tRet te) ρ N E := fun G0 H0 Gb b0 D e nx σ G H eb r =>
  h G0 H0 b0 σ G H r _ fun v d G' H' rd s hd => e.rt v d G' H' (k d rd) (r.st.trans s) hd
theorem sx_retO {R : List PyData → Prop} (h : SCO K Z te ρ R) (k : ∀ ds, R ds → E.ro ds) : SS K Z (tRet te) ρ N E := fun G0 H0 Gb b0 D e nx σ G H eb r =>
  h G0 H0 b0 σ G H r _ fun p vs ds G' H' rd s np n' g ha => e.ro p vs ds G' H' (k ds rd) (r.st.trans s) (freshBack b0 r.st np) n' g ha
theorem sx_if {tt : TT} {Rb : Bool → Prop} (h : SCT K Z tt ρ Rb) (h1 : Rb true → SS K Z t ρ N E) (h2 : Rb false → SS K Z u ρ N E) : SS K Z (tIfS tt t u) ρ N E := fun G0 H0 Gb b0 D e nx σ G H eb r => by
  refine h G0 H0 b0 σ G H r _ fun b G' H' rb s => ?_
  cases b with
  | true => exact iteT (h1 rb G0 H0 Gb b0 D e nx σ G' H' (eb.trans s.g) (r.step b0 s))
  | false => exact iteF (h2 rb G0 H0 Gb b0 D e nx σ G' H' (eb.trans s.g) (r.step b0 s))
theorem sx_drop {R : PyData → Prop} (h : SC K Z te ρ R) (k : ∀ d, R d → N ρ) : SS K Z (tDrop te) ρ N E := fun G0 H0 Gb b0 D e nx σ G H eb r =>
  h G0 H0 b0 σ G H r _ fun v d G' H' rd s hd => nx _ _ G' H' (k d rd) (eb.trans s.g) (r.step b0 s)
theorem sx_app {i : Nat} {ds : List PyData} {R : PyData → Prop} (hi : ρ[i]? = some (.lst ds)) (h : SC K Z te ρ R) (k : ∀ d, R d → ds.length < 100000 ∧ N (ρ.set i (.lst (ds ++ [d])))) : SS K Z (tDrop (tBM K "list" rAppend (tVar i) (tCons te tNil))) ρ N E := fun G0 H0 Gb b0 D e nx σ G H eb r => by
  obtain ⟨p, us, h1, g, n0, n, ha⟩ := r.lst hi
  refine ⟨.ref p, h1, .inl ⟨rfl, us, SqL.of g⟩, h G0 H0 b0 σ G H r _ fun v d G' H' rd s hd => ?_⟩
  have r' := r.step b0 s
  obtain ⟨p', us', h1', g', _, _, ha'⟩ := r'.lst hi
  rw [h1] at h1'
  cases h1'
  have eu : us' = us := by
    have := s.k p _ g (b0.dk.ne n0)
    rw [g'] at this
    cases this
    rfl
  subst eu
  exact ⟨p, us', v, rfl, rfl, g', by rw [ha'.len]; exact sz_lt (k d rd).1, nx _ _ G' _ (k d rd).2 (eb.trans s.g) (r'.put b0 hi h1 (ha'.app (.cons hd .nil)))⟩
/-- x[i] = e -/
theorem sx_put {i : Nat} {ds : List PyData} {R : PyData → Prop} {ti : TE} {Ri : PyData → PyData → Prop} (hi : ρ[i]? = some (.lst ds)) (h : SC K Z te ρ R) (hix : ∀ d, R d → SC K Z ti ρ (Ri d)) (k : ∀ d e, R d → Ri d e → ∃ kk j, e = .int kk ∧ ixN ds.length kk = some j ∧ N (ρ.set i (.lst (ds.set j d)))) :
    SS K Z (tAsg te (gSub (tVar i) ti rSetL)) ρ N E := fun G0 H0 Gb b0 D e nx σ G H eb r =>
  h G0 H0 b0 σ G H r _ fun v d G1 H1 rd s1 hd => by
    have r1 := r.step b0 s1
    obtain ⟨p, us, h1, g, n0, n, ha⟩ := r1.lst hi
    refine ⟨.ref p, h1, hix d rd G0 H0 b0 σ G1 H1 r1 _ fun v2 d2 G2 H2 e2 s2 hd2 => ?_⟩
    obtain ⟨kk, j, rfl, hj, hN⟩ := k d d2 rd e2
    have g2 := s2.k p _ g (b0.dk.ne n0)
    exact ⟨p, us, kk, j, rfl, dq_int hd2, g2, by rw [ha.len]; exact hj, nx _ _ G2 _ hN ((eb.trans s1.g).trans s2.g) ((r1.step b0 s2).put b0 hi h1 (dqa_set j (DqA.ex s2.g _ _ ha) (Dq.ex s2.g _ _ hd)))⟩
/-- x[i] += e, whole numbers -/
theorem sx_aug {i : Nat} {ds : List PyData} {ti : TE} {f : Int → Int → Int} {Ri : PyData → Prop} {R : Int → Nat → Int → PyData → Prop} (hi : ρ[i]? = some (.lst ds)) (hix : SC K Z ti ρ Ri) (h1 : ∀ e, Ri e → ∃ kk j a, e = .int kk ∧ ixN ds.length kk = some j ∧ ds[j]? = some (.int a) ∧ SC K Z te ρ (R kk j a))
    (k : ∀ kk j a e, R kk j a e → ∃ b, e = .int b ∧ N (ρ.set i (.lst (ds.set j (.int (f a b)))))) :
    SS K Z (tAugS (tVar i) ti te (rIxL K) (ipI f) rSetL) ρ N E := fun G0 H0 Gb b0 D e nx σ G H eb r => by
  obtain ⟨p, us, hs, g, n0, n, ha⟩ := r.lst hi
  refine ⟨.ref p, hs, hix G0 H0 b0 σ G H r _ fun v2 d2 G2 H2 e2 s2 hd2 => ?_⟩
  obtain ⟨kk, j, a, rfl, hj, hv, hte⟩ := h1 d2 e2
  have g2 := s2.k p _ g (b0.dk.ne n0)
  obtain ⟨v, hv1, hv2⟩ := ha.getD j hv
  have ev := dq_int hv2
  subst ev
  have hat : atI us kk = some (.int a) := by
    unfold atI
    rw [ha.len, hj]
    exact hv1
  refine ⟨p, us, kk, .int a, rfl, dq_int hd2, SqL.of g2, hat, hte G0 H0 b0 σ G2 H2 (r.step b0 s2) _ fun v3 d3 G3 H3 e3 s3 hd3 => ?_⟩
  obtain ⟨b, rfl, hN⟩ := k kk j a d3 e3
  have g3 := s3.k p _ g2 (b0.dk.ne n0)
  have r3 := r.step b0 (s2.trans s3)
  exact ⟨a, b, rfl, dq_int hd3, p, us, kk, j, rfl, dq_int hd2, g3, by rw [ha.len]; exact hj, nx _ _ G3 _ hN ((eb.trans s2.g).trans s3.g) (r3.put b0 hi hs (dqa_set j (DqA.ex (s2.trans s3).g _ _ ha) (.int _)))⟩
/-- x += e, x no own list -/
theorem sx_augN {i : Nat} {a : Int} {f : Int → Int → Int} {R : PyData → Prop} (hi : ρ[i]? = some (.e (.dat (.int a)))) (h : SC K Z te ρ R) (k : ∀ d, R d → ∃ b, d = .int b ∧ N (ρ.set i (.e (.dat (.int (f a b)))))) : SS K Z (tAug i te (ipI f)) ρ N E := fun G0 H0 Gb b0 D e nx σ G H eb r => by
  obtain ⟨x, h1, v, rfl, hv⟩ := r.slots i _ hi
  refine ⟨v, h1, h G0 H0 b0 σ G H r _ fun v2 d G' H' rd s hd => ?_⟩
  obtain ⟨b, rfl, hN⟩ := k d rd
  exact ⟨a, b, dq_int hv, dq_int hd, nx _ _ G' H' hN (eb.trans s.g) ((r.step b0 s).set i (.int _))⟩
theorem sx_unp {g : TG} {is : List Nat} {un : PyData → List PyData → Prop} {R : PyData → Prop} (hg : SG K g is un) (h : SC K Z te ρ R) (k : ∀ d, R d → ∃ xs, un d xs ∧ N (setC ρ is xs)) : SS K Z (tAsg te g) ρ N E := fun G0 H0 Gb b0 D e nx σ G H eb r =>
  h G0 H0 b0 σ G H r _ fun v d G' H' rd s hd => by
    obtain ⟨xs, hu, hn⟩ := k d rd
    exact hg v d σ G' H' xs s.s hd hu _ fun us ha hl => nx _ _ G' H' hn (eb.trans s.g) ((r.step b0 s).setA ha)
theorem sx_par {i j : Nat} {ta : TA} {R : List PyData → Prop} (h : SCA K Z ta ρ R) (k : ∀ ds, R ds → ∃ d1 d2, ds = [d1, d2] ∧ N ((ρ.set i (.e (.dat d1))).set j (.e (.dat d2)))) : SS K Z (tPar i j ta) ρ N E := fun G0 H0 Gb b0 D e nx σ G H eb r =>
  h G0 H0 b0 σ G H r _ fun vs ds G' H' rd s hd => by
    obtain ⟨d1, d2, rfl, hn⟩ := k ds rd
    obtain ⟨v, u, rfl, h1, h2⟩ := dqa2 hd
    exact ⟨v, u, rfl, nx _ _ G' H' hn (eb.trans s.g) (((r.step b0 s).set i h1).set j h2)⟩
theorem sx_par3 {i j l : Nat} {ta : TA} {R : List PyData → Prop} (h : SCA K Z ta ρ R) (k : ∀ ds, R ds → ∃ d1 d2 d3, ds = [d1, d2, d3] ∧ N (((ρ.set i (.e (.dat d1))).set j (.e (.dat d2))).set l (.e (.dat d3)))) : SS K Z (tPar3 i j l ta) ρ N E := fun G0 H0 Gb b0 D e nx σ G H eb r =>
  h G0 H0 b0 σ G H r _ fun vs ds G' H' rd s hd => by
    obtain ⟨d1, d2, d3, rfl, hn⟩ := k ds rd
    obtain ⟨v, u, w, rfl, h1, h2, h3⟩ := dqa3 hd
    exact ⟨v, u, w, rfl, nx _ _ G' H' hn (eb.trans s.g) ((((r.step b0 s).set i h1).set j h2).set l h3)⟩
/-- a, b = [..], v and v, [..] -/
theorem sx_parLV {i j : Nat} {ta tb : TE} {R1 : List PyData → Prop} {R2 : List PyData → PyData → Prop} (hij : i ≠ j) (h1 : SCO K Z ta ρ R1) (h2 : ∀ ds, R1 ds → SC K Z tb ρ (R2 ds)) (k : ∀ ds d, R1 ds → R2 ds d → N ((ρ.set i (.lst ds)).set j (.e (.dat d)))) : SS K Z (tPar i j (tCons ta (tCons tb tNil))) ρ N E := fun G0 H0 Gb b0 D e nx σ G H eb r =>
  h1 G0 H0 b0 σ G H r _ fun p us ds G1 H1 r1 s1 np1 n1 g1 ha1 => by
    have rel1 := r.step b0 s1
    refine h2 ds r1 G0 H0 b0 σ G1 H1 rel1 _ fun v d G2 H2 r2 s2 hd => ?_
    have rel2 := rel1.step b0 s2
    have relA := rel2.setL i (s2.k p _ g1 ((r.bs b0).dk.ne np1)) (freshBack b0 r.st np1) (s2.n p _ n1 g1 rfl) (DqA.ex s2.g _ _ ha1) fun j c hc o => r.fresh np1 j c hc o
    exact ⟨.ref p, v, rfl, nx _ _ G2 H2 (k ds d r1 r2) ((eb.trans s1.g).trans s2.g) (relA.set j hd)⟩
theorem sx_parVL {i j : Nat} {ta tb : TE} {R1 : PyData → Prop} {R2 : PyData → List PyData → Prop} (hij : i ≠ j) (h1 : SC K Z ta ρ R1) (h2 : ∀ d, R1 d → SCO K Z tb ρ (R2 d)) (k : ∀ d es, R1 d → R2 d es → N ((ρ.set i (.e (.dat d))).set j (.lst es))) : SS K Z (tPar i j (tCons ta (tCons tb tNil))) ρ N E := fun G0 H0 Gb b0 D e nx σ G H eb r =>
  h1 G0 H0 b0 σ G H r _ fun v d G1 H1 r1 s1 hd => by
    have rel1 := r.step b0 s1
    refine h2 d r1 G0 H0 b0 σ G1 H1 rel1 _ fun q vs es G2 H2 r2 s2 np2 n2 g2 ha2 => ?_
    have rel2 := rel1.step b0 s2
    have relA := rel2.set i (Dq.ex s2.g _ _ hd)
    refine ⟨v, .ref q, rfl, nx _ _ G2 H2 (k d es r1 r2) ((eb.trans s1.g).trans s2.g) (relA.setL j g2 (freshBack b0 rel1.st np2) n2 ha2 fun l c hc o hs => ?_)⟩
    by_cases c1 : i = l
    · subst c1
      obtain ⟨rfl, hl⟩ := get_set_self hc
      cases o
    · rw [List.getElem?_set_ne c1] at hc hs
      exact rel1.fresh np2 l c hc o hs
theorem sx_parLL {i j : Nat} {ta tb : TE} {R1 : List PyData → Prop} {R2 : List PyData → List PyData → Prop} (hij : i ≠ j) (h1 : SCO K Z ta ρ R1) (h2 : ∀ ds, R1 ds → SCO K Z tb ρ (R2 ds)) (k : ∀ ds es, R1 ds → R2 ds es → N ((ρ.set i (.lst ds)).set j (.lst es))) : SS K Z (tPar i j (tCons ta (tCons tb tNil))) ρ N E := fun G0 H0 Gb b0 D e nx σ G H eb r =>
  h1 G0 H0 b0 σ G H r _ fun p us ds G1 H1 r1 s1 np1 n1 g1 ha1 => by
    have rel1 := r.step b0 s1
    refine h2 ds r1 G0 H0 b0 σ G1 H1 rel1 _ fun q vs es G2 H2 r2 s2 np2 n2 g2 ha2 => ?_
    have rel2 := rel1.step b0 s2
    have relA := rel2.setL i (s2.k p _ g1 ((r.bs b0).dk.ne np1)) (freshBack b0 r.st np1) (s2.n p _ n1 g1 rfl) (DqA.ex s2.g _ _ ha1) fun j c hc o => r.fresh np1 j c hc o
    refine ⟨.ref p, .ref q, rfl, nx _ _ G2 H2 (k ds es r1 r2) ((eb.trans s1.g).trans s2.g) (relA.setL j g2 (freshBack b0 rel1.st np2) n2 ha2 fun l c hc o hs => ?_)⟩
    by_cases c1 : i = l
    · subst c1
      obtain ⟨_, hl⟩ := get_set_self hc
      rw [List.getElem?_set_self (rel2.slot hl)] at hs
      cases hs
      rw [g1] at np2
      cases np2
    · rw [List.getElem?_set_ne c1] at hc hs
      exact rel1.fresh np2 l c hc o hs
theorem sx_for {wi : TI} {g : TG} {tb : TS} {is : List Nat} {un : PyData → List PyData → Prop} {R0 : List PyData → Prop} (I : List PyData → Nat → List Cell → Prop) (hi : SCI K Z wi ρ R0) (hg : SG K g is un) (h0 : ∀ ds, R0 ds → I ds 0 ρ)
    (hs : ∀ ds i d ρ', R0 ds → ds[i]? = some d → I ds i ρ' → ∃ xs, un d xs ∧ SS K Z tb (setC ρ' is xs) (I ds (i + 1)) { E with bk := N, ct := I ds (i + 1) }) (hn : ∀ ds ρ', R0 ds → I ds ds.length ρ' → N ρ') : SS K Z (tFor wi g tb) ρ N E := fun G0 H0 Gb b0 D e nx σ G H eb r =>
  hi G0 H0 b0 σ G H r _ fun J ds G1 H1 r0 s1 fd => by
    have r1 := r.step b0 s1
    refine ⟨fun i m σ' H' => m = ds.length - i ∧ i ≤ ds.length ∧ ∃ ρ' G', I ds i ρ' ∧ Ex G1 G' ∧ Rel K Z G0 H0 σ' ρ' G' H', ⟨ds.length, by simp, Nat.zero_le _, ρ, G1, h0 ds r0, Ex.refl _, r1⟩, ?_⟩
    rintro i m σ2 H2 ⟨rfl, hile, ρ2, G2, i2, e2, r2⟩
    have b2 := r2.bs b0
    obtain ⟨hstop, hgo⟩ := fd i G2 H2 e2 b2
    by_cases hlt : i < ds.length
    · obtain ⟨hgo1, hy⟩ := hgo _ (List.getElem?_eq_getElem hlt)
      refine .inr ⟨hgo1, fun σ' H' => ∃ ρ' G', I ds (i + 1) ρ' ∧ Ex G1 G' ∧ Rel K Z G0 H0 σ' ρ' G' H', fun σ' H' p' => ⟨ds.length - (i + 1), by omega, rfl, hlt, p'⟩, fun x H3 y => ?_⟩
      obtain ⟨G3, s3, hd⟩ := hy x H3 y
      obtain ⟨xs, hu, hb⟩ := hs ds i _ ρ2 r0 (List.getElem?_eq_getElem hlt) i2
      have r3 := r2.step b0 s3
      have b3 := r3.bs b0
      refine hg x _ σ2 G3 H3 xs b3.ex hd hu _ fun us ha hl => ?_
      have r4 := r3.setA (is := is) ha
      have e13 := e2.trans s3.g
      refine hb G0 H0 G1 b0 { D with nx := fun σ' H' => ∃ ρ' G', I ds (i + 1) ρ' ∧ Ex G1 G' ∧ Rel K Z G0 H0 σ' ρ' G' H', ct := fun σ' H' => ∃ ρ' G', I ds (i + 1) ρ' ∧ Ex G1 G' ∧ Rel K Z G0 H0 σ' ρ' G' H', bk := D.nx } ⟨e.rt, e.ro, fun σ ρ' G H n e' r' => nx σ ρ' G H n ((eb.trans s1.g).trans e') r', fun σ ρ' G H n e' r' => ⟨ρ', G, n, e', r'⟩⟩ (fun σ ρ' G H n e' r' => ⟨ρ', G, n, e', r'⟩) _ G3 H3 e13 r4
    · have ei : i = ds.length := by omega
      subst ei
      exact .inl ⟨hstop rfl, nx _ _ G2 H2 (hn ds ρ2 r0 i2) ((eb.trans s1.g).trans e2) r2⟩
theorem sx_while {tc : TT} {tb : TS} (I : Nat → List Cell → Prop) (h0 : ∃ n, I n ρ) (hs : ∀ n ρ', I n ρ' → ∃ Rb : Bool → Prop, SCT K Z tc ρ' Rb ∧ (Rb true → SS K Z tb ρ' (fun ρ2 => ∃ m, m < n ∧ I m ρ2) { E with bk := N, ct := fun ρ2 => ∃ m, m < n ∧ I m ρ2 }) ∧ (Rb false → N ρ')) :
    SS K Z (tWhile tc tb) ρ N E := fun G0 H0 Gb b0 D e nx σ G H eb r => by
  obtain ⟨n0, i0⟩ := h0
  refine ⟨fun m σ' H' => ∃ ρ' G', I m ρ' ∧ Ex Gb G' ∧ Rel K Z G0 H0 σ' ρ' G' H', ⟨n0, ρ, G, i0, eb, r⟩, ?_⟩
  rintro m σ1 H1 ⟨ρ1, G1, i1, e1, r1⟩
  obtain ⟨Rb, ht, hy, hn⟩ := hs m ρ1 i1
  refine ht G0 H0 b0 σ1 G1 H1 r1 _ fun b G2 H2 rb s => ?_
  have r2 := r1.step b0 s
  cases b with
  | false => exact iteF (nx _ _ G2 H2 (hn rb) (e1.trans s.g) r2)
  | true =>
    refine iteT ⟨fun σ' H' => ∃ ρ' G', (∃ k, k < m ∧ I k ρ') ∧ Ex Gb G' ∧ Rel K Z G0 H0 σ' ρ' G' H', fun σ' H' ⟨ρ', G', ⟨k, h1, h4⟩, h2, h3⟩ => ⟨k, h1, ρ', G', h4, h2, h3⟩, ?_⟩
    exact hy rb G0 H0 Gb b0 { D with nx := fun σ' H' => ∃ ρ' G', (∃ k, k < m ∧ I k ρ') ∧ Ex Gb G' ∧ Rel K Z G0 H0 σ' ρ' G' H', ct := fun σ' H' => ∃ ρ' G', (∃ k, k < m ∧ I k ρ') ∧ Ex Gb G' ∧ Rel K Z G0 H0 σ' ρ' G' H', bk := D.nx } ⟨e.rt, e.ro, fun σ ρ' G H n e' r' => nx σ ρ' G H n e' r', fun σ ρ' G H n e' r' => ⟨ρ', G, n, e', r'⟩⟩ (fun σ ρ' G H n e' r' => ⟨ρ', G, n, e', r'⟩) _ G2 H2 (e1.trans s.g) r2
end
end FF
set_option maxHeartbeats 4000000
namespace FF
open PySem PySem.Spec PyProof.Rows L2 Evl
/-! ### plain Lean data, told as Python's -/
abbrev eI : Int → PyData := .int
abbrev eB : Bool → PyData := .bool
abbrev eS : Str → PyData := .str
def eN : Unit → PyData := fun _ => .none
def eT {α : Type} (e : α → PyData) : List α → PyData := fun l => .tuple (l.map e)
def eL {α : Type} (e : α → PyData) : List α → PyData := fun l => .list (l.map e)
def eP {α β : Type} (a : α → PyData) (b : β → PyData) : α × β → PyData := fun p => .tuple [a p.1, b p.2]
def eP3 {α β γ : Type} (a : α → PyData) (b : β → PyData) (c : γ → PyData) : α × β × γ → PyData := fun p => .tuple [a p.1, b p.2.1, c p.2.2]
def eP4 {α β γ δ : Type} (a : α → PyData) (b : β → PyData) (c : γ → PyData) (d : δ → PyData) : α × β × γ × δ → PyData := fun p => .tuple [a p.1, b p.2.1, c p.2.2.1, d p.2.2.2]
def eP5 {α β γ δ ε : Type} (a : α → PyData) (b : β → PyData) (c : γ → PyData) (d : δ → PyData) (e : ε → PyData) : α × β × γ × δ × ε → PyData := fun p => .tuple [a p.1, b p.2.1, c p.2.2.1, d p.2.2.2.1, e p.2.2.2.2]
def eO {α : Type} (e : α → PyData) : Option α → PyData
  | none => .none
  | some a => e a
abbrev eD : PyData → PyData := fun d => d
abbrev Bd := List (Int × Int) × List (Int × Int)
abbrev eBd : Bd → PyData := eP (eT (eP eI eI)) (eT (eP eI eI))
theorem eBd_eq (fs ls : List (Int × Int)) : eBd (fs, ls) = boardD fs ls := rfl
/-- no lists or dicts in what is told -/
def NoL {α : Type} (e : α → PyData) : Prop := ∀ a, noL (e a) = true
theorem nl_I : NoL eI := fun _ => by show noL (.int _) = true; unfold noL; rfl
theorem nl_B : NoL eB := fun _ => by show noL (.bool _) = true; unfold noL; rfl
theorem nl_S : NoL eS := fun _ => by show noL (.str _) = true; unfold noL; rfl
theorem nl_N : NoL eN := fun _ => by unfold eN noL; rfl
theorem noLs_map {α : Type} {e : α → PyData} (h : NoL e) : ∀ l : List α, noLs (l.map e) = true
  | [] => by rw [List.map_nil]; unfold noLs; rfl
  | x :: l => by rw [List.map_cons]; unfold noLs; rw [h x, noLs_map h l]; rfl
theorem nl_T {α : Type} {e : α → PyData} (h : NoL e) : NoL (eT e) := fun l => by unfold eT noL; exact noLs_map h l
theorem nl_P {α β : Type} {a : α → PyData} {b : β → PyData} (h1 : NoL a) (h2 : NoL b) : NoL (eP a b) := fun p => by
  unfold eP noL; simp only [noLs, h1 p.1, h2 p.2, Bool.and_self]
theorem nl_P3 {α β γ : Type} {a : α → PyData} {b : β → PyData} {c : γ → PyData} (h1 : NoL a) (h2 : NoL b) (h3 : NoL c) : NoL (eP3 a b c) := fun p => by
  unfold eP3 noL; simp only [noLs, h1 p.1, h2 p.2.1, h3 p.2.2, Bool.and_self]
theorem nl_O {α : Type} {e : α → PyData} (h : NoL e) : NoL (eO e) := fun o => by
  cases o with
  | none => show noL .none = true; unfold noL; rfl
  | some a => exact h a
/-! ### what steps ask -/
def cnd (c : Bool) (A B : Prop) : Prop := (c = true → A) ∧ (c = false → B)
theorem cnd_t {A B : Prop} : cnd true A B ↔ A := ⟨fun h => h.1 rfl, fun h => ⟨fun _ => h, (fun z => nomatch z)⟩⟩
theorem cnd_f {A B : Prop} : cnd false A B ↔ B := ⟨fun h => h.2 rfl, fun h => ⟨(fun z => nomatch z), fun _ => h⟩⟩
/-- a step, a choice, loops -/
def st {α : Type} (m : (α → Prop) → Prop) (A : α → Prop) : Prop := m A
def ifS (m : (Bool → Prop) → Prop) (A B : Prop) : Prop := m fun c => cnd c A B
def joinS {σ : Type} (J : σ → Prop) (b : (σ → Prop) → Prop) : Prop := b J
def idx {α : Type} (l : List α) (i : Int) (R : α → Prop) : Prop := ∃ a, atI l i = some a ∧ R a
def few {α : Type} (l : List α) (R : List α → Prop) : Prop := l.length ≤ 100000 ∧ R l
def eqD (x y : PyData) (R : Bool → Prop) : Prop := SeqAt.shaped x = true ∧ SeqAt.shaped y = true ∧ R (PyData.eqv x y)
def reprD (x : PyData) (R : Str → Prop) : Prop := Sv 300000 60 x ∧ R x.shown
def lcC {α β : Type} : List α → List β → (α → (Bool → Prop) → Prop) → (α → (β → Prop) → Prop) → (List β → Prop) → Prop
  | [], acc, _, _, R => R acc
  | x :: l, acc, t, f, R => t x fun c => cnd c (acc.length < 100000 ∧ f x fun y => lcC l (acc ++ [y]) t f R) (lcC l acc t f R)
def forC {α σ : Type} : List α → σ → (α → σ → (σ → Prop) → (σ → Prop) → Prop) → (σ → Prop) → Prop
  | [], s, _, k => k s
  | x :: l, s, f, k => f x s (fun s' => forC l s' f k) k
def whileN {σ : Type} : Nat → σ → (σ → (Bool → Prop) → Prop) → (σ → (σ → Prop) → (σ → Prop) → Prop) → (σ → Prop) → Prop
  | 0, _, _, _, _ => False
  | n + 1, s, c, f, k => c s fun b => cnd b (f s (fun s' => whileN n s' c f k) k) (k s)
def whileC {σ : Type} (s : σ) (c : σ → (Bool → Prop) → Prop) (f : σ → (σ → Prop) → (σ → Prop) → Prop) (k : σ → Prop) : Prop := ∃ n, whileN n s c f k
def forS {α σ : Type} (m : (List α → Prop) → Prop) (s : σ) (f : α → σ → (σ → Prop) → (σ → Prop) → Prop) (k : σ → Prop) : Prop := m fun l => forC l s f k
def getO {α : Type} (o : Option α) (R : α → Prop) : Prop := ∃ a, o = some a ∧ R a
def asE {α : Type} (e : α → PyData) (d : PyData) (R : α → Prop) : Prop := ∃ a, d = e a ∧ R a
theorem atI_mapG {α β : Type} (e : α → β) (l : List α) (i : Int) : atI (l.map e) i = (atI l i).map e := by
  unfold atI
  rw [List.length_map]
  cases ixN l.length i with
  | none => rfl
  | some k => show (l.map e)[k]? = (l[k]?).map e; rw [List.getElem?_map]
def cutL {α : Type} (l : List α) (lo hi : Option Int) : List α := (l.drop (HT.sIx l.length 0 lo)).take (HT.sIx l.length l.length hi - HT.sIx l.length 0 lo)
theorem cutD_map {α : Type} (e : α → PyData) (l : List α) (lo hi : Option Int) : cutD (l.map e) lo hi = (cutL l lo hi).map e := by
  unfold cutD cutL
  rw [List.length_map, List.map_take, List.map_drop]
def enumZ {α : Type} : Nat → List α → List (Int × α)
  | _, [] => []
  | i, x :: l => ((i : Nat), x) :: enumZ (i + 1) l
theorem enumZ_map {α : Type} (e : α → PyData) : ∀ (i : Nat) (l : List α), enumD i (l.map e) = (enumZ i l).map (eP eI e)
  | _, [] => rfl
  | i, x :: l => by
    rw [List.map_cons]
    unfold enumD enumZ
    rw [List.map_cons, enumZ_map e (i + 1) l]
    rfl
def rgZ (lo c : Int) (n : Nat) : List Int := (List.range n).map fun (i : Nat) => lo + (i : Nat) * c
theorem rgZ_map (lo c : Int) (n : Nat) : rngD lo c n = (rgZ lo c n).map eI := by
  unfold rngD rgZ
  rw [List.map_map]
  rfl
/-- range(n), range(a, b), range(a, b, -1) -/
def rg1 (n : Int) (R : List Int → Prop) : Prop := (-(2 ^ 62) ≤ n ∧ n < 2 ^ 62) ∧ R (rgZ 0 1 n.toNat)
def rg2 (a b : Int) (R : List Int → Prop) : Prop := (-1000000 ≤ a ∧ a ≤ 1000000) ∧ (-1000000 ≤ b ∧ b ≤ 1000000) ∧ R (rgZ a 1 (b - a).toNat)
def rg3 (a b c : Int) (R : List Int → Prop) : Prop := ∃ n, RgC a b c n ∧ R (rgZ a c n)
/-- arguments -/
def encN : Unit → List PyData := fun _ => []
def encC {α T : Type} (e : α → PyData) (r : T → List PyData) : α × T → List PyData := fun p => e p.1 :: r p.2
/-- promises -/
def preT {T γ : Type} (enc : T → List PyData) (e : γ → PyData) (f : T → (γ → Prop) → Prop) : List PyData → (PyData → Prop) → Prop := fun ds R => ∃ (t : T) (R' : γ → Prop), ds = enc t ∧ f t R' ∧ ∀ c, R' c → R (e c)
def preO {T γ : Type} (enc : T → List PyData) (e : γ → PyData) (f : T → (List γ → Prop) → Prop) : List PyData → (List PyData → Prop) → Prop := fun ds R => ∃ (t : T) (R' : List γ → Prop), ds = enc t ∧ f t R' ∧ ∀ c, R' c → R (c.map e)
/-! ### reading -/
section
variable (K : PySem.W.Frag) (Z : Zk)
def Ref {α : Type} (e : α → PyData) (te : TE) (ρ : List Cell) (m : (α → Prop) → Prop) : Prop := ∀ R : α → Prop, m R → SC K Z te ρ (fun d => ∃ a, d = e a ∧ R a)
def RefO {α : Type} (e : α → PyData) (te : TE) (ρ : List Cell) (m : (List α → Prop) → Prop) : Prop := ∀ R : List α → Prop, m R → SCO K Z te ρ (fun ds => ∃ l, ds = l.map e ∧ R l)
def RefB (tt : TT) (ρ : List Cell) (m : (Bool → Prop) → Prop) : Prop := ∀ R : Bool → Prop, m R → SCT K Z tt ρ R
def RefI {α : Type} (e : α → PyData) (wi : TI) (ρ : List Cell) (m : (List α → Prop) → Prop) : Prop := ∀ R : List α → Prop, m R → SCI K Z wi ρ (fun ds => ∃ l, ds = l.map e ∧ R l)
def RefA {T : Type} (enc : T → List PyData) (ta : TA) (ρ : List Cell) (m : (T → Prop) → Prop) : Prop := ∀ R : T → Prop, m R → SCA K Z ta ρ (fun ds => ∃ t, ds = enc t ∧ R t)
def RefP (to : TO) (ρ : List Cell) (m : (Option Int → Prop) → Prop) : Prop := ∀ R : Option Int → Prop, m R → SCP K Z to ρ R
end
section
variable {K : PySem.W.Frag} {Z : Zk} {ρ : List Cell} {te ta tb tc : TE} {α β γ δ : Type} {e : γ → PyData} {e1 : α → PyData} {e2 : β → PyData}
theorem rf_var {i : Nat} (e : α → PyData) (a : α) (h : ρ[i]? = some (.e (.dat (e a))) := by rfl) : Ref K Z e (tVar i) ρ (fun R => R a) := fun R hR => SC.hide fun σ G H b s Q q => by
  obtain ⟨x, h1, v, rfl, hd⟩ := s i (.dat (e a)) (by rw [List.getElem?_map, h]; rfl)
  exact ⟨v, h1, q v _ G H ⟨a, rfl, hR⟩ (.refl b) hd⟩
theorem rf_se {m : (γ → Prop) → Prop} (h : ∀ R, m R → SE K Z te (hideE ρ) (fun d => ∃ a, d = e a ∧ R a)) : Ref K Z e te ρ m := fun R hR => SC.hide (h R hR)
theorem rf_view {m : (γ → Prop) → Prop} (n : NoL e) (h : ∀ R, m R → SE K Z te (viewE ρ) (fun d => ∃ a, d = e a ∧ R a)) : Ref K Z e te ρ m := fun R hR => SC.view (h R hR) fun d ⟨a, h1, _⟩ => by rw [h1]; exact n a
theorem rf_int {i : Int} : Ref K Z eI (tC (.int i)) ρ (fun R => R i) := rf_se fun R h => se_int.mono fun d e => ⟨_, e, h⟩
theorem rf_bl {i : Bool} : Ref K Z eB (tC (.bl i)) ρ (fun R => R i) := rf_se fun R h => se_bl.mono fun d e => ⟨_, e, h⟩
theorem rf_str {i : Str} : Ref K Z eS (tC (.str i)) ρ (fun R => R i) := rf_se fun R h => se_str.mono fun d e => ⟨_, e, h⟩
theorem rf_non : Ref K Z eN (tC .non) ρ (fun R => R ()) := rf_se fun R h => se_non.mono fun d e => ⟨(), e, h⟩
/-- a value in another dress -/
theorem rf_to {m : (α → Prop) → Prop} (g : α → γ) (hg : ∀ a, e (g a) = e1 a) (h : Ref K Z e1 te ρ m) : Ref K Z e te ρ (fun R => m fun a => R (g a)) := fun R hR => (h _ hR).mono fun d ⟨a, h1, h2⟩ => ⟨g a, by rw [h1, hg], h2⟩
theorem rf_any {m : (α → Prop) → Prop} (h : Ref K Z e1 te ρ m) : Ref K Z eD te ρ (fun R => m fun a => R (e1 a)) := rf_to e1 (fun _ => rfl) h
theorem rf_told {m : (List γ → Prop) → Prop} (h : RefO K Z e te ρ m) : Ref K Z (eL e) te ρ m := fun R hR => (h R hR).e.mono fun d ⟨ds, ⟨l, h1, h2⟩, h3⟩ => ⟨l, by rw [h3, h1]; rfl, h2⟩
theorem rf_1 {T : TE → TE} {κ : V → Hp → VK → Prop} {m1 : (α → Prop) → Prop} (f : α → (γ → Prop) → Prop) (hT : ∀ ta σ H Q, T ta σ H Q = ta σ H fun v H1 => κ v H1 Q) (h1 : Ref K Z e1 ta ρ m1) (k : ∀ a R, f a R → SE K Z (T (tVar 0)) [.dat (e1 a)] (fun d => ∃ c, d = e c ∧ R c)) : Ref K Z e (T ta) ρ (fun R => m1 fun a => f a R) := fun R hR =>
  sc_1 hT (h1 _ hR) fun d ⟨a, h2, h3⟩ => by rw [h2]; exact k a R h3
theorem rfo_1 {T : TE → TE} {κ : V → Hp → VK → Prop} {m1 : (α → Prop) → Prop} (f : α → (List γ → Prop) → Prop) (hT : ∀ ta σ H Q, T ta σ H Q = ta σ H fun v H1 => κ v H1 Q) (h1 : Ref K Z e1 ta ρ m1) (k : ∀ a R, f a R → SO K Z (T (tVar 0)) [.dat (e1 a)] (fun ds => ∃ l, ds = l.map e ∧ R l)) : RefO K Z e (T ta) ρ (fun R => m1 fun a => f a R) := fun R hR =>
  sco_1 hT (h1 _ hR) fun d ⟨a, h2, h3⟩ => by rw [h2]; exact k a R h3
theorem rft_1 {T : TE → TT} {κ : V → Hp → (Bool → Hp → Prop) → Prop} {m1 : (α → Prop) → Prop} (f : α → (Bool → Prop) → Prop) (hT : ∀ ta σ H Q, T ta σ H Q = ta σ H fun v H1 => κ v H1 Q) (h1 : Ref K Z e1 ta ρ m1) (k : ∀ a R, f a R → ST K Z (T (tVar 0)) [.dat (e1 a)] R) : RefB K Z (T ta) ρ (fun R => m1 fun a => f a R) := fun R hR =>
  sct_1 hT (h1 _ hR) fun d ⟨a, h2, h3⟩ => by rw [h2]; exact k a R h3
theorem rfi_1 {T : TE → TI} {κ : V → Hp → (It → Hp → Prop) → Prop} {m1 : (α → Prop) → Prop} (f : α → (List γ → Prop) → Prop) (hT : ∀ ta σ H Q, T ta σ H Q = ta σ H fun v H1 => κ v H1 Q) (h1 : Ref K Z e1 ta ρ m1) (k : ∀ a R, f a R → SI K Z (T (tVar 0)) [.dat (e1 a)] (fun ds => ∃ l, ds = l.map e ∧ R l)) : RefI K Z e (T ta) ρ (fun R => m1 fun a => f a R) := fun R hR =>
  sci_1 hT (h1 _ hR) fun d ⟨a, h2, h3⟩ => by rw [h2]; exact k a R h3
theorem rf_2 {T : TE → TE → TE} {κ : V → V → Hp → VK → Prop} {m1 : (α → Prop) → Prop} {m2 : (β → Prop) → Prop} (f : α → β → (γ → Prop) → Prop) (hT : ∀ ta tb σ H Q, T ta tb σ H Q = ta σ H fun v H1 => tb σ H1 fun u H2 => κ v u H2 Q) (h1 : Ref K Z e1 ta ρ m1) (h2 : Ref K Z e2 tb ρ m2) (k : ∀ a b R, f a b R → SE K Z (T (tVar 0) (tVar 1)) [.dat (e1 a), .dat (e2 b)] (fun d => ∃ c, d = e c ∧ R c)) :
    Ref K Z e (T ta tb) ρ (fun R => m1 fun a => m2 fun b => f a b R) := fun R hR =>
  sc_2 (R2 := fun d x => ∃ a b, d = e1 a ∧ x = e2 b ∧ f a b R) hT (h1 _ hR) (fun d ⟨a, h3, h4⟩ => (h2 _ h4).mono fun x ⟨b, h5, h6⟩ => ⟨a, b, h3, h5, h6⟩) fun d x _ ⟨a, b, h3, h5, h6⟩ => by rw [h3, h5]; exact k a b R h6
theorem rfo_2 {T : TE → TE → TE} {κ : V → V → Hp → VK → Prop} {m1 : (α → Prop) → Prop} {m2 : (β → Prop) → Prop} (f : α → β → (List γ → Prop) → Prop) (hT : ∀ ta tb σ H Q, T ta tb σ H Q = ta σ H fun v H1 => tb σ H1 fun u H2 => κ v u H2 Q) (h1 : Ref K Z e1 ta ρ m1) (h2 : Ref K Z e2 tb ρ m2) (k : ∀ a b R, f a b R → SO K Z (T (tVar 0) (tVar 1)) [.dat (e1 a), .dat (e2 b)] (fun ds => ∃ l, ds = l.map e ∧ R l)) :
    RefO K Z e (T ta tb) ρ (fun R => m1 fun a => m2 fun b => f a b R) := fun R hR =>
  sco_2 (R2 := fun d x => ∃ a b, d = e1 a ∧ x = e2 b ∧ f a b R) hT (h1 _ hR) (fun d ⟨a, h3, h4⟩ => (h2 _ h4).mono fun x ⟨b, h5, h6⟩ => ⟨a, b, h3, h5, h6⟩) fun d x _ ⟨a, b, h3, h5, h6⟩ => by rw [h3, h5]; exact k a b R h6
theorem rfi_2 {T : TE → TE → TI} {κ : V → V → Hp → (It → Hp → Prop) → Prop} {m1 : (α → Prop) → Prop} {m2 : (β → Prop) → Prop} (f : α → β → (List γ → Prop) → Prop) (hT : ∀ ta tb σ H Q, T ta tb σ H Q = ta σ H fun v H1 => tb σ H1 fun u H2 => κ v u H2 Q) (h1 : Ref K Z e1 ta ρ m1) (h2 : Ref K Z e2 tb ρ m2) (k : ∀ a b R, f a b R → SI K Z (T (tVar 0) (tVar 1)) [.dat (e1 a), .dat (e2 b)] (fun ds => ∃ l, ds = l.map e ∧ R l)) :
    RefI K Z e (T ta tb) ρ (fun R => m1 fun a => m2 fun b => f a b R) := fun R hR =>
  sci_2 (R2 := fun d x => ∃ a b, d = e1 a ∧ x = e2 b ∧ f a b R) hT (h1 _ hR) (fun d ⟨a, h3, h4⟩ => (h2 _ h4).mono fun x ⟨b, h5, h6⟩ => ⟨a, b, h3, h5, h6⟩) fun d x _ ⟨a, b, h3, h5, h6⟩ => by rw [h3, h5]; exact k a b R h6
theorem v0 {η : List Ent} {d : PyData} : SQ K Z (tVar 0) (.dat d :: η) d := se_var rfl
theorem v1 {η : List Ent} {c : Ent} {d : PyData} : SQ K Z (tVar 1) (c :: .dat d :: η) d := se_var rfl
theorem dn {te : TE} {η : List Ent} {R : γ → Prop} {c : γ} (h : SQ K Z te η (e c)) (r : R c) : SE K Z te η (fun d => ∃ c, d = e c ∧ R c) := h.mono fun d h => ⟨c, h, r⟩
theorem dnO {te : TE} {η : List Ent} {R : List γ → Prop} {l : List γ} (h : SOQ K Z te η (l.map e)) (r : R l) : SO K Z te η (fun ds => ∃ l, ds = l.map e ∧ R l) := h.mono fun d h => ⟨l, h, r⟩
/-! numbers -/
variable {m1 : (Int → Prop) → Prop} {m2 : (Int → Prop) → Prop}
theorem rf_i2 {f : Int → Int → Int} (h1 : Ref K Z eI ta ρ m1) (h2 : Ref K Z eI tb ρ m2) : Ref K Z eI (tOp (rI0 fun i j => .int (f i j)) ta tb) ρ (fun R => m1 fun a => m2 fun b => R (f a b)) :=
  rf_2 (fun a b R => R (f a b)) (fun _ _ _ _ _ => rfl) h1 h2 fun a b R h => dn (se_rI0 v0 v1) h
theorem rf_ic {C : Int → Int → Prop} {f : Int → Int → Int} (h1 : Ref K Z eI ta ρ m1) (h2 : Ref K Z eI tb ρ m2) : Ref K Z eI (tOp (rI C fun i j => .int (f i j)) ta tb) ρ (fun R => m1 fun a => m2 fun b => C a b ∧ R (f a b)) :=
  rf_2 (fun a b R => C a b ∧ R (f a b)) (fun _ _ _ _ _ => rfl) h1 h2 fun a b R h => dn (se_rI v0 v1 h.1) h.2
theorem rf_ib {f : Int → Int → Bool} (h1 : Ref K Z eI ta ρ m1) (h2 : Ref K Z eI tb ρ m2) : Ref K Z eB (tOp (rI0 fun i j => .bl (f i j)) ta tb) ρ (fun R => m1 fun a => m2 fun b => R (f a b)) :=
  rf_2 (fun a b R => R (f a b)) (fun _ _ _ _ _ => rfl) h1 h2 fun a b R h => dn (se_rI0b v0 v1) h
theorem rf_neg (h1 : Ref K Z eI ta ρ m1) : Ref K Z eI (tUn (rU fun i => .int (-i)) ta) ρ (fun R => m1 fun a => R (-a)) :=
  rf_1 (fun a R => R (-a)) (fun _ _ _ _ => rfl) h1 fun a R h => dn (se_neg v0) h
theorem rf_eqI (h1 : Ref K Z eI ta ρ m1) (h2 : Ref K Z eI tb ρ m2) : Ref K Z eB (tOp rEq ta tb) ρ (fun R => m1 fun a => m2 fun b => R (decide (a = b))) :=
  rf_2 (fun a b R => R (decide (a = b))) (fun _ _ _ _ _ => rfl) h1 h2 fun a b R h => dn (se_eqI v0 v1) h
theorem rf_neI (h1 : Ref K Z eI ta ρ m1) (h2 : Ref K Z eI tb ρ m2) : Ref K Z eB (tOp rNe ta tb) ρ (fun R => m1 fun a => m2 fun b => R (!decide (a = b))) :=
  rf_2 (fun a b R => R (!decide (a = b))) (fun _ _ _ _ _ => rfl) h1 h2 fun a b R h => dn (se_neI v0 v1) h
theorem rf_eqS {m1 m2 : (Str → Prop) → Prop} (h1 : Ref K Z eS ta ρ m1) (h2 : Ref K Z eS tb ρ m2) : Ref K Z eB (tOp rEq ta tb) ρ (fun R => m1 fun a => m2 fun b => R (decide (a = b))) :=
  rf_2 (fun a b R => R (decide (a = b))) (fun _ _ _ _ _ => rfl) h1 h2 fun a b R h => dn (se_eqS v0 v1) h
theorem rf_neS {m1 m2 : (Str → Prop) → Prop} (h1 : Ref K Z eS ta ρ m1) (h2 : Ref K Z eS tb ρ m2) : Ref K Z eB (tOp rNe ta tb) ρ (fun R => m1 fun a => m2 fun b => R (!decide (a = b))) :=
  rf_2 (fun a b R => R (!decide (a = b))) (fun _ _ _ _ _ => rfl) h1 h2 fun a b R h => dn (se_neS v0 v1) h
theorem rf_neBl {m1 m2 : (Bool → Prop) → Prop} (h1 : Ref K Z eB ta ρ m1) (h2 : Ref K Z eB tb ρ m2) : Ref K Z eB (tOp rNe ta tb) ρ (fun R => m1 fun a => m2 fun b => R (!decide (a = b))) :=
  rf_2 (fun a b R => R (!decide (a = b))) (fun _ _ _ _ _ => rfl) h1 h2 fun a b R h => dn (se_neB v0 v1) h
theorem rf_isntBl {m1 m2 : (Bool → Prop) → Prop} (h1 : Ref K Z eB ta ρ m1) (h2 : Ref K Z eB tb ρ m2) : Ref K Z eB (tOp (fun x y H Q => ∃ a b, x = .bl a ∧ y = .bl b ∧ Q (.bl (!decide (a = b))) H) ta tb) ρ (fun R => m1 fun a => m2 fun b => R (!decide (a = b))) :=
  rf_2 (fun a b R => R (!decide (a = b))) (fun _ _ _ _ _ => rfl) h1 h2 fun a b R h => dn (se_notBl v0 v1) h
theorem rf_eqD {m1 : (α → Prop) → Prop} {m2 : (β → Prop) → Prop} (h1 : Ref K Z e1 ta ρ m1) (h2 : Ref K Z e2 tb ρ m2) : Ref K Z eB (tOp (rEqD K) ta tb) ρ (fun R => m1 fun a => m2 fun b => eqD (e1 a) (e2 b) R) :=
  rf_2 (fun a b R => eqD (e1 a) (e2 b) R) (fun _ _ _ _ _ => rfl) h1 h2 fun a b R h => dn (se_eqD v0 v1 h.1 h.2.1) h.2.2
theorem rf_neD {m1 : (α → Prop) → Prop} {m2 : (β → Prop) → Prop} (h1 : Ref K Z e1 ta ρ m1) (h2 : Ref K Z e2 tb ρ m2) : Ref K Z eB (tOp (rNeD K) ta tb) ρ (fun R => m1 fun a => m2 fun b => eqD (e1 a) (e2 b) fun c => R (!c)) :=
  rf_2 (fun a b R => eqD (e1 a) (e2 b) fun c => R (!c)) (fun _ _ _ _ _ => rfl) h1 h2 fun a b R h => dn (se_neD v0 v1 h.1 h.2.1) h.2.2
theorem rf_eqNil {m1 : (List α → Prop) → Prop} (h1 : Ref K Z (eL e1) ta ρ m1) : Ref K Z eB (tOp (rEqNilL K) ta (tLst tNil)) ρ (fun R => m1 fun l => R l.isEmpty) :=
  rf_1 (T := fun ta => tOp (rEqNilL K) ta (tLst tNil)) (fun l R => R l.isEmpty) (fun _ _ _ _ => rfl) h1 fun l R h => dn (c := l.isEmpty) (se_eq (se_eqNil v0 (so_lst sa_nil).q) (by cases l <;> rfl)) h
theorem rf_neNil {m1 : (List α → Prop) → Prop} (h1 : Ref K Z (eL e1) ta ρ m1) : Ref K Z eB (tOp (rNeNilL K) ta (tLst tNil)) ρ (fun R => m1 fun l => R (!l.isEmpty)) :=
  rf_1 (T := fun ta => tOp (rNeNilL K) ta (tLst tNil)) (fun l R => R (!l.isEmpty)) (fun _ _ _ _ => rfl) h1 fun l R h => dn (c := !l.isEmpty) (se_eq (se_neNil v0 (so_lst sa_nil).q) (by cases l <;> rfl)) h
theorem rf_isN {m1 : (α → Prop) → Prop} (h1 : Ref K Z e1 ta ρ m1) : Ref K Z eB (tOp (fun x y H Q => y = .non ∧ Q (.bl (decide (x = .non))) H) ta (tC .non)) ρ (fun R => m1 fun a => R (isNonD (e1 a))) :=
  rf_1 (T := fun ta => tOp (fun x y H Q => y = .non ∧ Q (.bl (decide (x = .non))) H) ta (tC .non)) (fun a R => R (isNonD (e1 a))) (fun _ _ _ _ => rfl) h1 fun a R h => dn (se_isNon v0 se_non) h
theorem rf_notN {m1 : (α → Prop) → Prop} (h1 : Ref K Z e1 ta ρ m1) : Ref K Z eB (tOp (fun x y H Q => y = .non ∧ Q (.bl (!decide (x = .non))) H) ta (tC .non)) ρ (fun R => m1 fun a => R (!isNonD (e1 a))) :=
  rf_1 (T := fun ta => tOp (fun x y H Q => y = .non ∧ Q (.bl (!decide (x = .non))) H) ta (tC .non)) (fun a R => R (!isNonD (e1 a))) (fun _ _ _ _ => rfl) h1 fun a R h => dn (se_notNon v0 se_non) h
/-! tuples and lists -/
theorem rf_ixT {m1 : (List γ → Prop) → Prop} (h1 : Ref K Z (eT e) ta ρ m1) (h2 : Ref K Z eI tb ρ m2) : Ref K Z e (tOp (rIxT K) ta tb) ρ (fun R => m1 fun l => m2 fun i => idx l i R) :=
  rf_2 (fun l i R => idx l i R) (fun _ _ _ _ _ => rfl) h1 h2 fun l i R ⟨a, h1, h2⟩ => dn (se_ixT v0 v1 (by rw [atI_mapG, h1]; rfl)) h2
theorem rf_ixL {m1 : (List γ → Prop) → Prop} (h1 : Ref K Z (eL e) ta ρ m1) (h2 : Ref K Z eI tb ρ m2) : Ref K Z e (tOp (rIxL K) ta tb) ρ (fun R => m1 fun l => m2 fun i => idx l i R) :=
  rf_2 (fun l i R => idx l i R) (fun _ _ _ _ _ => rfl) h1 h2 fun l i R ⟨a, h1, h2⟩ => dn (se_ixL v0 v1 (by rw [atI_mapG, h1]; rfl)) h2
theorem rf_ixOwn {i : Nat} (e : γ → PyData) (l : List γ) (h2 : Ref K Z eI tb ρ m2) (hi : ρ[i]? = some (.lst (l.map e)) := by rfl) : Ref K Z e (tOp (rIxL K) (tVar i) tb) ρ (fun R => m2 fun i => idx l i R) := fun R hR =>
  sc_ixOwn hi ((h2 _ hR).mono fun d ⟨j, h1, a, h2, h3⟩ => ⟨j, e a, h1, by rw [atI_mapG, h2]; rfl, a, rfl, h3⟩)
theorem rf_p0 {m1 : (α × β → Prop) → Prop} (h1 : Ref K Z (eP e1 e2) ta ρ m1) : Ref K Z e1 (tOp (rIxT K) ta (tC (.int 0))) ρ (fun R => m1 fun p => R p.1) :=
  rf_1 (T := fun ta => tOp (rIxT K) ta (tC (.int 0))) (fun p R => R p.1) (fun _ _ _ _ => rfl) h1 fun p R h => dn (se_ixT v0 se_int (atI_nat (j := 0) rfl)) h
theorem rf_p1 {m1 : (α × β → Prop) → Prop} (h1 : Ref K Z (eP e1 e2) ta ρ m1) : Ref K Z e2 (tOp (rIxT K) ta (tC (.int 1))) ρ (fun R => m1 fun p => R p.2) :=
  rf_1 (T := fun ta => tOp (rIxT K) ta (tC (.int 1))) (fun p R => R p.2) (fun _ _ _ _ => rfl) h1 fun p R h => dn (se_ixT v0 se_int (atI_nat (j := 1) rfl)) h
theorem rf_lenT {m1 : (List α → Prop) → Prop} (h1 : Ref K Z (eT e1) ta ρ m1) : Ref K Z eI (tCB (rLenC K) (tCons ta tNil)) ρ (fun R => m1 fun l => R (l.length : Nat)) :=
  rf_1 (T := fun ta => tCB (rLenC K) (tCons ta tNil)) (fun l (R : Int → Prop) => R (l.length : Nat)) (fun _ _ _ _ => rfl) h1 fun l R h => dn (c := ((l.length : Nat) : Int)) (se_eq (se_lenT v0) (by rw [List.length_map])) h
theorem rf_lenL {m1 : (List α → Prop) → Prop} (h1 : Ref K Z (eL e1) ta ρ m1) : Ref K Z eI (tCB (rLenC K) (tCons ta tNil)) ρ (fun R => m1 fun l => R (l.length : Nat)) :=
  rf_1 (T := fun ta => tCB (rLenC K) (tCons ta tNil)) (fun l (R : Int → Prop) => R (l.length : Nat)) (fun _ _ _ _ => rfl) h1 fun l R h => dn (c := ((l.length : Nat) : Int)) (se_eq (se_lenL v0) (by rw [List.length_map])) h
theorem rf_lenP {m1 : (α × β → Prop) → Prop} (h1 : Ref K Z (eP e1 e2) ta ρ m1) : Ref K Z eI (tCB (rLenC K) (tCons ta tNil)) ρ (fun R => m1 fun l => R 2) :=
  rf_1 (T := fun ta => tCB (rLenC K) (tCons ta tNil)) (fun l R => R 2) (fun _ _ _ _ => rfl) h1 fun l R h => dn (c := (2 : Int)) (se_eq (se_lenT v0) rfl) h
theorem rf_lenOwn {i : Nat} (e : γ → PyData) (l : List γ) (hi : ρ[i]? = some (.lst (l.map e)) := by rfl) : Ref K Z eI (tCB (rLenC K) (tCons (tVar i) tNil)) ρ (fun R => R (l.length : Nat)) :=
  rf_view nl_I fun R h => dn (c := ((l.length : Nat) : Int)) (se_eq (se_lenL (se_var (d := .list (l.map e)) (by rw [List.getElem?_map, hi]; rfl))) (by rw [List.length_map])) h
theorem rf_tupL {m1 : (List γ → Prop) → Prop} (h1 : Ref K Z (eL e) ta ρ m1) : Ref K Z (eT e) (tCB (rTupleC K) (tCons ta tNil)) ρ m1 :=
  rf_1 (T := fun ta => tCB (rTupleC K) (tCons ta tNil)) (fun l R => R l) (fun _ _ _ _ => rfl) h1 fun l R h => dn (c := l) (se_tupleL v0) h
theorem rf_tupT {m1 : (List γ → Prop) → Prop} (h1 : Ref K Z (eT e) ta ρ m1) : Ref K Z (eT e) (tCB (rTupleC K) (tCons ta tNil)) ρ m1 :=
  rf_1 (T := fun ta => tCB (rTupleC K) (tCons ta tNil)) (fun l R => R l) (fun _ _ _ _ => rfl) h1 fun l R h => dn (c := l) (se_tupleT v0) h
theorem rf_tupOwn {i : Nat} (e : γ → PyData) (n : NoL e) (l : List γ) (hi : ρ[i]? = some (.lst (l.map e)) := by rfl) : Ref K Z (eT e) (tCB (rTupleC K) (tCons (tVar i) tNil)) ρ (fun R => R l) :=
  rf_view (nl_T n) fun R h => dn (c := l) (se_tupleL (se_var (d := .list (l.map e)) (by rw [List.getElem?_map, hi]; rfl))) h
theorem rfo_listT {m1 : (List γ → Prop) → Prop} (h1 : Ref K Z (eT e) ta ρ m1) : RefO K Z e (tCB (rListC K) (tCons ta tNil)) ρ m1 :=
  rfo_1 (T := fun ta => tCB (rListC K) (tCons ta tNil)) (fun l R => R l) (fun _ _ _ _ => rfl) h1 fun l R h => dnO (so_listT v0) h
theorem rfo_listL {m1 : (List γ → Prop) → Prop} (h1 : Ref K Z (eL e) ta ρ m1) : RefO K Z e (tCB (rListC K) (tCons ta tNil)) ρ m1 :=
  rfo_1 (T := fun ta => tCB (rListC K) (tCons ta tNil)) (fun l R => R l) (fun _ _ _ _ => rfl) h1 fun l R h => dnO (so_listL v0) h
theorem rf_sum {m1 : (List Int → Prop) → Prop} (h1 : Ref K Z (eL eI) ta ρ m1) : Ref K Z eI (tCB (rSum K) (tCons ta tNil)) ρ (fun R => m1 fun l => R l.sum) :=
  rf_1 (T := fun ta => tCB (rSum K) (tCons ta tNil)) (fun l R => R l.sum) (fun _ _ _ _ => rfl) h1 fun l R h => dn (se_sum v0) h
theorem rf_all {m1 : (List Bool → Prop) → Prop} (h1 : Ref K Z (eL eB) ta ρ m1) : Ref K Z eB (tCB (rAll K) (tCons ta tNil)) ρ (fun R => m1 fun l => R (l.all id)) :=
  rf_1 (T := fun ta => tCB (rAll K) (tCons ta tNil)) (fun l R => R (l.all id)) (fun _ _ _ _ => rfl) h1 fun l R h => dn (se_all v0) h
theorem rf_anyB {m1 : (List Bool → Prop) → Prop} (h1 : Ref K Z (eL eB) ta ρ m1) : Ref K Z eB (tCB (rAny K) (tCons ta tNil)) ρ (fun R => m1 fun l => R (l.any id)) :=
  rf_1 (T := fun ta => tCB (rAny K) (tCons ta tNil)) (fun l R => R (l.any id)) (fun _ _ _ _ => rfl) h1 fun l R h => dn (se_any v0) h
theorem rf_inT {m1 : (Int → Prop) → Prop} {m2 : (List Int → Prop) → Prop} (h1 : Ref K Z eI ta ρ m1) (h2 : Ref K Z (eT eI) tb ρ m2) : Ref K Z eB (tOp (rIn K false) ta tb) ρ (fun R => m1 fun a => m2 fun l => R (decide (a ∈ l))) :=
  rf_2 (fun a l R => R (decide (a ∈ l))) (fun _ _ _ _ _ => rfl) h1 h2 fun a b R h => dn (se_inT v0 v1) h
theorem rf_inL {m1 : (Int → Prop) → Prop} {m2 : (List Int → Prop) → Prop} (h1 : Ref K Z eI ta ρ m1) (h2 : Ref K Z (eL eI) tb ρ m2) : Ref K Z eB (tOp (rIn K false) ta tb) ρ (fun R => m1 fun a => m2 fun l => R (decide (a ∈ l))) :=
  rf_2 (fun a l R => R (decide (a ∈ l))) (fun _ _ _ _ _ => rfl) h1 h2 fun a b R h => dn (se_inL v0 v1) h
theorem rf_notinT {m1 : (Int → Prop) → Prop} {m2 : (List Int → Prop) → Prop} (h1 : Ref K Z eI ta ρ m1) (h2 : Ref K Z (eT eI) tb ρ m2) : Ref K Z eB (tOp (rIn K true) ta tb) ρ (fun R => m1 fun a => m2 fun l => R (!decide (a ∈ l))) :=
  rf_2 (fun a l R => R (!decide (a ∈ l))) (fun _ _ _ _ _ => rfl) h1 h2 fun a b R h => dn (se_notinT v0 v1) h
theorem rf_notinL {m1 : (Int → Prop) → Prop} {m2 : (List Int → Prop) → Prop} (h1 : Ref K Z eI ta ρ m1) (h2 : Ref K Z (eL eI) tb ρ m2) : Ref K Z eB (tOp (rIn K true) ta tb) ρ (fun R => m1 fun a => m2 fun l => R (!decide (a ∈ l))) :=
  rf_2 (fun a l R => R (!decide (a ∈ l))) (fun _ _ _ _ _ => rfl) h1 h2 fun a b R h => dn (se_notinL v0 v1) h
theorem rf_inOwn {i : Nat} {m1 : (Int → Prop) → Prop} (l : List Int) (h1 : ∀ R, m1 R → SE K Z ta (viewE ρ) (fun d => ∃ a, d = eI a ∧ R a)) (hi : ρ[i]? = some (.lst (l.map eI)) := by rfl) : Ref K Z eB (tOp (rIn K false) ta (tVar i)) ρ (fun R => m1 fun a => R (decide (a ∈ l))) :=
  rf_view nl_B fun R h => by
    refine se_opR (h1 _ h) (se_var (d := .list (l.map eI)) (by rw [List.getElem?_map, hi]; rfl)) ?_
    rintro v1 v2 d1 d2 G H ⟨a, rfl, ha⟩ rfl b k1 k2 Q q
    obtain ⟨p, xs, rfl, ht, hx⟩ := dq_lst k2
    have e := dqa_ints hx
    subst e
    rw [dq_int k1]
    refine ⟨p, _, rfl, .inl (ex_l b.ex ht), rfl, flat_ints _, ?_⟩
    show Q (.bl (inV (.int a) (l.map V.int))) H
    rw [inV_int]
    exact q _ _ _ _ ⟨_, rfl, ha⟩ (.refl b) (.bl _)
theorem rfo_cat {m1 m2 : (List γ → Prop) → Prop} (h1 : Ref K Z (eL e) ta ρ m1) (h2 : Ref K Z (eL e) tb ρ m2) : RefO K Z e (tOp rCat ta tb) ρ (fun R => m1 fun l => m2 fun m => few (l ++ m) R) :=
  rfo_2 (fun l m R => few (l ++ m) R) (fun _ _ _ _ _ => rfl) h1 h2 fun l m R h => (so_cat v0 v1 (by have := h.1; rw [List.length_append] at this; rw [List.length_map, List.length_map]; exact this)).mono fun ds e => ⟨l ++ m, by rw [e, List.map_append], h.2⟩
theorem rf_catT {m1 m2 : (List γ → Prop) → Prop} (h1 : Ref K Z (eT e) ta ρ m1) (h2 : Ref K Z (eT e) tb ρ m2) : Ref K Z (eT e) (tOp (rCatA K) ta tb) ρ (fun R => m1 fun l => m2 fun m => few (l ++ m) R) :=
  rf_2 (fun l m R => few (l ++ m) R) (fun _ _ _ _ _ => rfl) h1 h2 fun l m R h => dn (c := l ++ m) (se_eq (se_catA v0 v1 (by have := h.1; rw [List.length_append] at this; rw [List.length_map, List.length_map]; exact this)) (by unfold eT; rw [List.map_append])) h.2
theorem rfo_rep {m1 : (List γ → Prop) → Prop} (h1 : RefO K Z e ta ρ m1) (h2 : Ref K Z eI tb ρ m2) : RefO K Z e (tOp rRep ta tb) ρ (fun R => m1 fun l => m2 fun n => ∃ k : Nat, n = k ∧ l.length * k ≤ 100000 ∧ k ≤ 100000 ∧ R (List.replicate k l).flatten) := fun R hR G0 H0 b0 σ G H r Q q =>
  h1 _ hR G0 H0 b0 σ G H r _ fun p vs ds G1 H1 r1 s1 np n' g ha => by
    obtain ⟨l, rfl, h4⟩ := r1
    refine h2 _ h4 G0 H0 b0 σ G1 H1 (r.step b0 s1) _ fun v d G2 H2 r2 s2 hd => ?_
    obtain ⟨_, rfl, k, rfl, h5, h6, h7⟩ := r2
    have b := r.bs b0
    have b2 := (b.go s1).go s2
    have g2 := s2.k p _ g (b.dk.ne np)
    refine ⟨p, (k : Int), vs, rfl, dq_int hd, g2, by omega, by omega, ?_, fun l' nl => ?_⟩
    · rw [ha.len, Int.toNat_natCast, List.length_map]
      exact lenOk h5
    · rw [Int.toNat_natCast]
      refine q l' _ _ G2 _ ⟨_, ?_, h7⟩ ((s1.trans s2).trans (.hide b2 nl)) (freshBack b (s1.trans s2) nl) (none_of b2.ex nl) upd_same (dqa_rep (DqA.ex s2.g _ _ ha) k)
      rw [List.map_flatten, List.map_replicate]
theorem rfo_sortL {m1 : (List Int → Prop) → Prop} (h1 : Ref K Z (eL eI) ta ρ m1) : RefO K Z eI (tCB (rSortedA K) (tCons ta tNil)) ρ (fun R => m1 fun l => R (sortI l)) :=
  rfo_1 (T := fun ta => tCB (rSortedA K) (tCons ta tNil)) (fun l R => R (sortI l)) (fun _ _ _ _ => rfl) h1 fun l R h => dnO (so_sortedL v0) h
theorem rfo_sortT {m1 : (List Int → Prop) → Prop} (h1 : Ref K Z (eT eI) ta ρ m1) : RefO K Z eI (tCB (rSortedA K) (tCons ta tNil)) ρ (fun R => m1 fun l => R (sortI l)) :=
  rfo_1 (T := fun ta => tCB (rSortedA K) (tCons ta tNil)) (fun l R => R (sortI l)) (fun _ _ _ _ => rfl) h1 fun l R h => dnO (so_sortedT v0) h
theorem rf_repr {m1 : (α → Prop) → Prop} (h1 : Ref K Z e1 ta ρ m1) : Ref K Z eS (tCB (rReprV K) (tCons ta tNil)) ρ (fun R => m1 fun a => reprD (e1 a) R) :=
  rf_1 (T := fun ta => tCB (rReprV K) (tCons ta tNil)) (fun a R => reprD (e1 a) R) (fun _ _ _ _ => rfl) h1 fun a R h => dn (se_repr v0 h.1) h.2
theorem rf_isTup {m1 : (α → Prop) → Prop} (h1 : Ref K Z e1 ta ρ m1) : Ref K Z eB (tCB (rIsi K) (tCons ta (tCons (tC (.ty "tuple")) tNil))) ρ (fun R => m1 fun a => R (isTupD (e1 a))) :=
  rf_1 (T := fun ta => tCB (rIsi K) (tCons ta (tCons (tC (.ty "tuple")) tNil))) (fun a R => R (isTupD (e1 a))) (fun _ _ _ _ => rfl) h1 fun a R h => dn (se_isi v0 (kitTup _)) h
theorem rf_isInt {m1 : (α → Prop) → Prop} (h1 : Ref K Z e1 ta ρ m1) : Ref K Z eB (tCB (rIsi K) (tCons ta (tCons (tC (.ty "int")) tNil))) ρ (fun R => m1 fun a => R (isIntT (e1 a))) :=
  rf_1 (T := fun ta => tCB (rIsi K) (tCons ta (tCons (tC (.ty "int")) tNil))) (fun a R => R (isIntT (e1 a))) (fun _ _ _ _ => rfl) h1 fun a R h => dn (se_isi v0 (kitInt _)) h
theorem rf_isBool {m1 : (α → Prop) → Prop} (h1 : Ref K Z e1 ta ρ m1) : Ref K Z eB (tCB (rIsi K) (tCons ta (tCons (tC (.ty "bool")) tNil))) ρ (fun R => m1 fun a => R (isBoolD (e1 a))) :=
  rf_1 (T := fun ta => tCB (rIsi K) (tCons ta (tCons (tC (.ty "bool")) tNil))) (fun a R => R (isBoolD (e1 a))) (fun _ _ _ _ => rfl) h1 fun a R h => dn (se_isi v0 (kitBool _)) h
theorem rf_revT {m1 : (List γ → Prop) → Prop} (h1 : Ref K Z (eT e) ta ρ m1) : Ref K Z (eT e) (tRevT K ta) ρ (fun R => m1 fun l => R l.reverse) :=
  rf_1 (T := fun ta => tRevT K ta) (fun l R => R l.reverse) (fun _ _ _ _ => rfl) h1 fun l R h => dn (c := l.reverse) (se_eq (se_revT v0) (by unfold eT; rw [List.map_reverse])) h
theorem rf_tupRevT {m1 : (List γ → Prop) → Prop} (h1 : Ref K Z (eT e) ta ρ m1) : Ref K Z (eT e) (tTupRevT K ta) ρ (fun R => m1 fun l => R l.reverse) :=
  rf_1 (T := fun ta => tTupRevT K ta) (fun l R => R l.reverse) (fun _ _ _ _ => rfl) h1 fun l R h => dn (c := l.reverse) (se_eq (se_tupRevT v0) (by unfold eT; rw [List.map_reverse])) h
theorem rfo_listRg (h1 : Ref K Z eI ta ρ m1) : RefO K Z eI (tLstRg (tRg1 ta)) ρ (fun R => m1 fun n => ∃ k : Nat, n = k ∧ k ≤ 100000 ∧ R (rngI k)) :=
  rfo_1 (T := fun ta => tLstRg (tRg1 ta)) (fun (n : Int) R => ∃ k : Nat, n = k ∧ k ≤ 100000 ∧ R (rngI k)) (fun _ _ _ _ => rfl) h1 fun n R ⟨k, hk, h2, h3⟩ => dnO (so_listRg (se_eq v0 (by rw [hk])) h2) h3
/-! slices -/
theorem rp_none : RefP K Z tNoPart ρ (fun R => R none) := fun R h => scp_none h
theorem rp_some (h : Ref K Z eI te ρ m1) : RefP K Z (tPart te) ρ (fun R => m1 fun i => R (some i)) := fun R hR => scp_some ((h _ hR).mono fun d ⟨i, h1, h2⟩ => ⟨i, h1, h2⟩)
theorem spC {η : List Ent} {o : Option Int} : SP' K Z (fun _ H Q => Q o H) η o := fun σ G H b s Q q => q G H (.refl b)
theorem SCA.mono {ta : TA} {R R' : List PyData → Prop} (h : SCA K Z ta ρ R) (hr : ∀ d, R d → R' d) : SCA K Z ta ρ R' := fun G0 H0 b0 σ G H r Q q => h G0 H0 b0 σ G H r Q fun vs ds G' H' rd => q vs ds G' H' (hr ds rd)
theorem SI.mono {wi : TI} {η : List Ent} {R R' : List PyData → Prop} (h : SI K Z wi η R) (hr : ∀ d, R d → R' d) : SI K Z wi η R' := fun σ G H b s Q q => h σ G H b s Q fun J ds G' H' r => q J ds G' H' (hr ds r)
theorem SCP.mono {to : TO} {R R' : Option Int → Prop} (h : SCP K Z to ρ R) (hr : ∀ o, R o → R' o) : SCP K Z to ρ R' := fun G0 H0 b0 σ G H r Q q => h G0 H0 b0 σ G H r Q fun o G' H' ro => q o G' H' (hr o ro)
theorem rf_slT {tl th : TO} {m1 : (List γ → Prop) → Prop} {ml mh : (Option Int → Prop) → Prop} (h1 : Ref K Z (eT e) ta ρ m1) (h2 : RefP K Z tl ρ ml) (h3 : RefP K Z th ρ mh) : Ref K Z (eT e) (tSl (rSlA K) ta tl th) ρ (fun R => m1 fun l => ml fun lo => mh fun hi => R (cutL l lo hi)) := fun R hR =>
  sc_sl (Rl := fun d lo => ∃ l, d = eT e l ∧ mh fun hi => R (cutL l lo hi)) (Rh := fun d lo hi => ∃ l, d = eT e l ∧ R (cutL l lo hi)) (h1 _ hR) (fun d ⟨l, hd, h4⟩ => (h2 _ h4).mono fun lo h5 => ⟨l, hd, h5⟩) (fun d lo ⟨l, hd, h4⟩ => (h3 _ h4).mono fun hi h5 => ⟨l, hd, h5⟩) fun d lo hi ⟨l, hd, h5⟩ => by
    rw [hd]
    exact dn (c := cutL l lo hi) (se_eq (se_slT v0 spC spC) (by unfold eT; rw [cutD_map])) h5
theorem rfo_slL {tl th : TO} {m1 : (List γ → Prop) → Prop} {ml mh : (Option Int → Prop) → Prop} (h1 : Ref K Z (eL e) ta ρ m1) (h2 : RefP K Z tl ρ ml) (h3 : RefP K Z th ρ mh) : RefO K Z e (tSl (rSlL K) ta tl th) ρ (fun R => m1 fun l => ml fun lo => mh fun hi => R (cutL l lo hi)) := fun R hR =>
  sco_sl (Rl := fun d lo => ∃ l, d = eL e l ∧ mh fun hi => R (cutL l lo hi)) (Rh := fun d lo hi => ∃ l, d = eL e l ∧ R (cutL l lo hi)) (h1 _ hR) (fun d ⟨l, hd, h4⟩ => (h2 _ h4).mono fun lo h5 => ⟨l, hd, h5⟩) (fun d lo ⟨l, hd, h4⟩ => (h3 _ h4).mono fun hi h5 => ⟨l, hd, h5⟩) fun d lo hi ⟨l, hd, h5⟩ => by
    rw [hd]
    exact (so_slL v0 spC spC).mono fun ds e => ⟨cutL l lo hi, by rw [e, cutD_map], h5⟩
/-! tests, choices -/
theorem rb_t {m : (Bool → Prop) → Prop} (h : Ref K Z eB te ρ m) : RefB K Z (tTest te) ρ m := fun R hR G0 H0 b0 σ G H r Q q => h R hR G0 H0 b0 σ G H r _ fun v d G1 H1 ⟨c, h1, h2⟩ s1 hd => by
  subst h1
  exact ⟨c, dq_bl hd, q c G1 H1 h2 s1⟩
theorem rb_b {m : (Bool → Prop) → Prop} (h : Ref K Z eB te ρ m) : RefB K Z (tB te) ρ m := fun R hR G0 H0 b0 σ G H r Q q => h R hR G0 H0 b0 σ G H r _ fun v d G1 H1 ⟨c, h1, h2⟩ s1 hd => by
  subst h1
  exact ⟨c, dq_bl hd, q c G1 H1 h2 s1⟩
theorem rb_yes : RefB K Z tYes ρ (fun R => R true) := fun R h => SCT.hide (st_yes.mono fun c e => by rw [e]; exact h)
theorem rb_not {t : TT} {m : (Bool → Prop) → Prop} (h : RefB K Z t ρ m) : RefB K Z (tNot t) ρ (fun R => m fun c => R (!c)) := fun R hR => sct_not (h _ hR)
theorem rb_and {t u : TT} {m n : (Bool → Prop) → Prop} (h : RefB K Z t ρ m) (h2 : RefB K Z u ρ n) : RefB K Z (tAnd t u) ρ (fun R => m fun c => cnd c (n R) (R false)) := fun R hR => sct_and (h _ hR) (fun z => h2 R (z.1 rfl)) fun z => z.2 rfl
theorem rb_or {t u : TT} {m n : (Bool → Prop) → Prop} (h : RefB K Z t ρ m) (h2 : RefB K Z u ρ n) : RefB K Z (tOr t u) ρ (fun R => m fun c => cnd c (R true) (n R)) := fun R hR => sct_or (h _ hR) (fun z => h2 R (z.2 rfl)) fun z => z.1 rfl
theorem rf_and {m n : (Bool → Prop) → Prop} (h : Ref K Z eB ta ρ m) (h2 : Ref K Z eB tb ρ n) : Ref K Z eB (tAndV ta tb) ρ (fun R => m fun c => cnd c (n R) (R false)) := fun R hR =>
  sc_andV (Ra := fun c => cnd c (n R) (R false)) (h _ hR) (fun z => h2 R (z.1 rfl)) fun z => ⟨false, rfl, z.2 rfl⟩
theorem rf_or {m n : (Bool → Prop) → Prop} (h : Ref K Z eB ta ρ m) (h2 : Ref K Z eB tb ρ n) : Ref K Z eB (tOrV ta tb) ρ (fun R => m fun c => cnd c (R true) (n R)) := fun R hR =>
  sc_orV (Ra := fun c => cnd c (R true) (n R)) (h _ hR) (fun z => h2 R (z.2 rfl)) fun z => ⟨true, rfl, z.1 rfl⟩
theorem rf_not {m : (Bool → Prop) → Prop} (h : Ref K Z eB ta ρ m) : Ref K Z eB (tNotV ta) ρ (fun R => m fun c => R (!c)) :=
  rf_1 (T := tNotV) (fun (c : Bool) (R : Bool → Prop) => R (!c)) (fun _ _ _ _ => rfl) h fun a R h => dn (se_notV v0) h
theorem rf_if {t : TT} {m : (Bool → Prop) → Prop} {n1 n2 : (γ → Prop) → Prop} (h : RefB K Z t ρ m) (h1 : Ref K Z e ta ρ n1) (h2 : Ref K Z e tb ρ n2) : Ref K Z e (tIf t ta tb) ρ (fun R => m fun c => cnd c (n1 R) (n2 R)) := fun R hR =>
  sc_if (Ra := fun c => cnd c (n1 R) (n2 R)) (h _ hR) (fun z => h1 R (z.1 rfl)) fun z => h2 R (z.2 rfl)
theorem rf_chainI {p p' : Int → Int → Bool} {m3 : (Int → Prop) → Prop} (h1 : Ref K Z eI ta ρ m1) (h2 : Ref K Z eI tb ρ m2) (h3 : Ref K Z eI tc ρ m3) :
    Ref K Z eB (tChain (rI0 fun i j => .bl (p i j)) (rI0 fun i j => .bl (p' i j)) ta tb tc) ρ (fun R => m1 fun a => m2 fun b => cnd (p a b) (m3 fun c => R (p' b c)) (R false)) := fun R hR =>
  sc_chain (Rm := fun d x c => ∃ a b, d = eI a ∧ x = eI b ∧ c = p a b ∧ cnd c (m3 fun c => R (p' b c)) (R false)) (h1 _ hR)
    (fun d ⟨a, hd, h4⟩ => (h2 _ h4).mono fun x ⟨b, hx, h5⟩ => ⟨p a b, ⟨a, b, hd, hx, rfl, h5⟩, fun v u G H _ k1 k2 Q q => ⟨a, b, dq_int (hd ▸ k1), dq_int (hx ▸ k2), q⟩⟩)
    (fun d x ⟨a, b, hd, hx, hc, h5⟩ => (h3 _ (h5.1 rfl)).mono fun f ⟨c, hf, h6⟩ => ⟨p' b c, ⟨_, rfl, h6⟩, fun v u G H _ k1 k2 Q q => ⟨b, c, dq_int (hx ▸ k1), dq_int (hf ▸ k2), q⟩⟩)
    fun d x ⟨a, b, hd, hx, hc, h5⟩ => ⟨false, rfl, h5.2 rfl⟩
/-- with a value of any kind in the middle -/
theorem rf_chainD {p p' : Int → Int → Bool} {mb : (PyData → Prop) → Prop} {m3 : (Int → Prop) → Prop} (h1 : Ref K Z eI ta ρ m1) (h2 : Ref K Z eD tb ρ mb) (h3 : Ref K Z eI tc ρ m3) :
    Ref K Z eB (tChain (rI0 fun i j => .bl (p i j)) (rI0 fun i j => .bl (p' i j)) ta tb tc) ρ (fun R => m1 fun a => mb fun d => ∃ b, d = .int b ∧ cnd (p a b) (m3 fun c => R (p' b c)) (R false)) := fun R hR =>
  sc_chain (Rm := fun d x c => ∃ a b, d = eI a ∧ x = .int b ∧ c = p a b ∧ cnd c (m3 fun c => R (p' b c)) (R false)) (h1 _ hR)
    (fun d ⟨a, hd, h4⟩ => (h2 _ h4).mono fun x ⟨y, hx, b, hb, h5⟩ => ⟨p a b, ⟨a, b, hd, hx.trans hb, rfl, h5⟩, fun v u G H _ k1 k2 Q q => ⟨a, b, dq_int (hd ▸ k1), dq_int ((hx.trans hb) ▸ k2), q⟩⟩)
    (fun d x ⟨a, b, hd, hx, hc, h5⟩ => (h3 _ (h5.1 rfl)).mono fun f ⟨c, hf, h6⟩ => ⟨p' b c, ⟨_, rfl, h6⟩, fun v u G H _ k1 k2 Q q => ⟨b, c, dq_int (hx ▸ k1), dq_int (hf ▸ k2), q⟩⟩)
    fun d x ⟨a, b, hd, hx, hc, h5⟩ => ⟨false, rfl, h5.2 rfl⟩
/-! items, tuples, lists written; calls -/
theorem ra_nil : RefA K Z encN tNil ρ (fun R => R ()) := fun R h => sca_nil ⟨(), rfl, h⟩
theorem ra_cons {T : Type} {enc : T → List PyData} {tr : TA} {m1 : (α → Prop) → Prop} {mr : (T → Prop) → Prop} (h1 : Ref K Z e1 te ρ m1) (h2 : RefA K Z enc tr ρ mr) : RefA K Z (encC e1 enc) (tCons te tr) ρ (fun R => m1 fun a => mr fun t => R (a, t)) := fun R hR =>
  sca_cons (R2 := fun d ds => ∃ a t, d = e1 a ∧ ds = enc t ∧ R (a, t)) (h1 _ hR) (fun d ⟨a, h3, h4⟩ => (h2 _ h4).mono fun ds ⟨t, h5, h6⟩ => ⟨a, t, h3, h5, h6⟩) fun d ds _ ⟨a, t, h3, h5, h6⟩ => ⟨(a, t), by rw [h3, h5]; rfl, h6⟩
theorem rf_tup {T : Type} {enc : T → List PyData} {m : (T → Prop) → Prop} {ta : TA} (g : T → γ) (h : RefA K Z enc ta ρ m) (hg : ∀ t, e (g t) = .tuple (enc t) := by exact fun _ => rfl) (hl : ∀ t, (enc t).length ≤ 100000 := by exact fun _ => Nat.le_of_ble_eq_true rfl) : Ref K Z e (tTup ta) ρ (fun R => m fun t => R (g t)) := fun R hR =>
  sc_tup (h _ hR) fun ds ⟨t, h1, h2⟩ => by rw [h1]; exact ⟨hl t, g t, (hg t).symm, h2⟩
theorem rfo_lst {T : Type} {enc : T → List PyData} {m : (T → Prop) → Prop} {ta : TA} (g : T → List γ) (h : RefA K Z enc ta ρ m) (hg : ∀ t, (g t).map e = enc t := by exact fun _ => rfl) (hl : ∀ t, (enc t).length ≤ 100000 := by exact fun _ => Nat.le_of_ble_eq_true rfl) : RefO K Z e (tLst ta) ρ (fun R => m fun t => R (g t)) := fun R hR =>
  sco_lst (h _ hR) fun ds ⟨t, h1, h2⟩ => by rw [h1]; exact ⟨hl t, g t, (hg t).symm, h2⟩
theorem rf_call {T : Type} {enc : T → List PyData} {m : (T → Prop) → Prop} {ta : TA} {E : XK} {f : T → (γ → Prop) → Prop} (h : RefA K Z enc ta ρ m) : Ref K Z e (tCall (SpD K (preT enc e f)) [] E ta) ρ (fun R => m fun t => f t R) := fun R hR =>
  sc_call (h _ hR) fun ds ⟨t, h1, h2⟩ => ⟨t, R, h1, h2, fun c hc => ⟨c, rfl, hc⟩⟩
theorem rfo_call {T : Type} {enc : T → List PyData} {m : (T → Prop) → Prop} {ta : TA} {E : XK} {f : T → (List γ → Prop) → Prop} (h : RefA K Z enc ta ρ m) : RefO K Z e (tCall (SpO K (preO enc e f)) [] E ta) ρ (fun R => m fun t => f t R) := fun R hR =>
  sco_call (h _ hR) fun ds ⟨t, h1, h2⟩ => ⟨t, R, h1, h2, fun c hc => ⟨c, rfl, hc⟩⟩
theorem rf_callZ {T : Type} {enc : T → List PyData} {m : (T → Prop) → Prop} {ta : TA} {E : XK} {i : Nat} {f : T → (γ → Prop) → Prop} (h : RefA K Z enc ta ρ m) (hi : ρ[i]? = some (.e .deck) := by rfl) : Ref K Z e (tCall (SpZ K (preT enc e f)) [] E (tCons (tVar i) ta)) ρ (fun R => m fun t => f t R) := fun R hR =>
  sc_callZ hi (h _ hR) fun ds ⟨t, h1, h2⟩ => ⟨t, R, h1, h2, fun c hc => ⟨c, rfl, hc⟩⟩
/-- a value that is there; a value of any kind that is one of these -/
theorem rf_get {m : (Option γ → Prop) → Prop} (hn : ∀ a, isNonD (e a) = false) (h : Ref K Z (eO e) te ρ m) : Ref K Z e te ρ (fun R => m fun o => getO o R) := fun R hR => (h _ hR).mono fun d ⟨o, h1, a, h2, h3⟩ => ⟨a, by rw [h1, h2]; rfl, h3⟩
theorem rf_as {m : (PyData → Prop) → Prop} (h : Ref K Z eD te ρ m) : Ref K Z e te ρ (fun R => m fun d => asE e d R) := fun R hR => (h _ hR).mono fun d ⟨x, h1, a, h2, h3⟩ => ⟨a, h1.trans h2, h3⟩
theorem rf_some {m : (γ → Prop) → Prop} (h : Ref K Z e te ρ m) : Ref K Z (eO e) te ρ (fun R => m fun a => R (some a)) := rf_to (e := eO e) some (fun _ => rfl) h
theorem rf_nonO : Ref K Z (eO e) (tC .non) ρ (fun R => R none) := rf_to (e := eO e) (e1 := eN) (fun _ => none) (fun _ => rfl) rf_non
theorem rf_lenTK {m1 : (List α → Prop) → Prop} (h1 : Ref K Z (eT e1) ta ρ m1) : Ref K Z eI (tCB (rLenK K) (tCons ta tNil)) ρ (fun R => m1 fun l => R (l.length : Nat)) := rf_lenT h1
theorem rf_lenLK {m1 : (List α → Prop) → Prop} (h1 : Ref K Z (eL e1) ta ρ m1) : Ref K Z eI (tCB (rLenK K) (tCons ta tNil)) ρ (fun R => m1 fun l => R (l.length : Nat)) := rf_lenL h1
/-! comprehensions -/
theorem rfo_lc {wi : TI} {g : TG} {tt : TT} {vs is : List Nat} {un : PyData → List PyData → Prop} {ml : (List α → Prop) → Prop} {mt : α → (Bool → Prop) → Prop} {mf : α → (γ → Prop) → Prop} (sp : α → List PyData) (hi : RefI K Z e1 wi ρ ml) (hg : SG K g is un) (his : ∀ i ∈ is, i ∈ vs)
    (hs : ∀ a, un (e1 a) (sp a) ∧ (sp a).length = is.length) (ht : ∀ a, RefB K Z tt (setC (wipeC ρ vs) is (sp a)) (mt a)) (he : ∀ a, Ref K Z e te (setC (wipeC ρ vs) is (sp a)) (mf a)) :
    RefO K Z e (tLc wi g tt te vs) ρ (fun R => ml fun l => lcC l [] mt mf R) := fun R hR =>
  (sco_lc (fun ds i acc => ∃ (l : List α) (ac : List γ), ds = l.map e1 ∧ acc = ac.map e ∧ lcC (l.drop i) ac mt mf R) (hi _ hR) hg his (fun ds ⟨l, h1, h2⟩ => ⟨l, [], h1, rfl, h2⟩) fun ds i d acc _ hd ⟨l, ac, h1, h2, h3⟩ => by
    subst h1 h2
    rw [List.getElem?_map] at hd
    cases c : l[i]? with
    | none => rw [c] at hd; cases hd
    | some a =>
      rw [c] at hd
      have ed : d = e1 a := (Option.some.inj hd).symm
      subst ed
      have hi : i < l.length := (List.getElem?_eq_some_iff.mp c).1
      have dr : l.drop i = a :: l.drop (i + 1) := by
        rw [List.drop_eq_getElem_cons hi]
        congr 1
        exact Option.some.inj ((List.getElem?_eq_getElem hi).symm.trans c)
      rw [dr] at h3
      unfold lcC at h3
      refine ⟨sp a, (hs a).1, (hs a).2, _, ht a _ h3, fun z => ⟨l, ac, rfl, rfl, z.2 rfl⟩, fun z => ?_⟩
      obtain ⟨z1, z2⟩ := z.1 rfl
      exact ⟨by rw [List.length_map]; exact z1, _, he a _ z2, fun x ⟨y, hy, h4⟩ => ⟨l, ac ++ [y], rfl, by rw [List.map_append, hy]; rfl, h4⟩⟩).mono fun acc ⟨ds, _, l, ac, h1, h2, h3⟩ => by
    refine ⟨ac, h2, ?_⟩
    rw [h1, List.length_map, List.drop_length] at h3
    exact h3
/-! what is walked -/
theorem ri_list {m1 : (List γ → Prop) → Prop} (h1 : Ref K Z (eL e) ta ρ m1) : RefI K Z e (iList K ta) ρ m1 :=
  rfi_1 (T := fun ta => iList K ta) (fun l R => R l) (fun _ _ _ _ => rfl) h1 fun l R h => SI.mono (si_listQ v0) fun ds e => ⟨l, e, h⟩
theorem ri_tup {m1 : (List γ → Prop) → Prop} (h1 : Ref K Z (eT e) ta ρ m1) : RefI K Z e (iTup K ta) ρ m1 :=
  rfi_1 (T := fun ta => iTup K ta) (fun l R => R l) (fun _ _ _ _ => rfl) h1 fun l R h => SI.mono (si_tupQ v0) fun ds e => ⟨l, e, h⟩
theorem ri_enT {m1 : (List γ → Prop) → Prop} (h1 : Ref K Z (eT e) ta ρ m1) : RefI K Z (eP eI e) (iEnT K (tCons ta tNil)) ρ (fun R => m1 fun l => R (enumZ 0 l)) :=
  rfi_1 (T := fun ta => iEnT K (tCons ta tNil)) (fun l R => R (enumZ 0 l)) (fun _ _ _ _ => rfl) h1 fun l R h => SI.mono (si_enT (sa_cons v0 sa_nil)) fun ds e => ⟨_, by rw [e, enumZ_map], h⟩
theorem ri_enL {m1 : (List γ → Prop) → Prop} (h1 : Ref K Z (eL e) ta ρ m1) : RefI K Z (eP eI e) (iEnum K (tCons ta tNil)) ρ (fun R => m1 fun l => R (enumZ 0 l)) :=
  rfi_1 (T := fun ta => iEnum K (tCons ta tNil)) (fun l R => R (enumZ 0 l)) (fun _ _ _ _ => rfl) h1 fun l R h => SI.mono (si_enL (sa_cons v0 sa_nil)) fun ds e => ⟨_, by rw [e, enumZ_map], h⟩
theorem ri_rg1 (h1 : Ref K Z eI ta ρ m1) : RefI K Z eI (iRng1 (tCons ta tNil)) ρ (fun R => m1 fun n => rg1 n R) :=
  rfi_1 (T := fun ta => iRng1 (tCons ta tNil)) (fun n R => rg1 n R) (fun _ _ _ _ => rfl) h1 fun n R h => SI.mono (si_rng1R (R1 := fun j => j = n) (SA.mono (sa_cons v0 sa_nil) fun ds e => ⟨n, rfl, e⟩) fun j e => by subst e; exact h.1) fun ds ⟨j, e, h2⟩ => by subst e; exact ⟨_, by rw [h2, rgZ_map], h.2⟩
theorem ri_rg2 (h1 : Ref K Z eI ta ρ m1) (h2 : Ref K Z eI tb ρ m2) : RefI K Z eI (iRng2 (tCons ta (tCons tb tNil))) ρ (fun R => m1 fun a => m2 fun b => rg2 a b R) :=
  rfi_2 (T := fun ta tb => iRng2 (tCons ta (tCons tb tNil))) (fun a b R => rg2 a b R) (fun _ _ _ _ _ => rfl) h1 h2 fun a b R h => SI.mono (si_rng2 (sa_cons v0 (sa_cons v1 sa_nil)) h.1 h.2.1) fun ds e => ⟨_, by rw [e, rgZ_map], h.2.2⟩
end
/-! ### statements -/
section
variable {K : PySem.W.Frag} {Z : Zk} {ρ : List Cell} {N : List Cell → Prop} {E : Eo} {t u : TS} {te ti : TE} {α β γ : Type} {e : γ → PyData}
theorem rs_set {i : Nat} {m : (γ → Prop) → Prop} {A : γ → Prop} (h : Ref K Z e te ρ m) (hm : st m A) (k : ∀ a, A a → N (ρ.set i (.e (.dat (e a))))) : SS K Z (tAsg te (gName i)) ρ N E := sx_set (h _ hm) fun d ⟨a, h1, h2⟩ => by rw [h1]; exact k a h2
theorem rs_setO {i : Nat} {m : (List γ → Prop) → Prop} {A : List γ → Prop} (h : RefO K Z e te ρ m) (hm : st m A) (k : ∀ l, A l → N (ρ.set i (.lst (l.map e)))) : SS K Z (tAsg te (gName i)) ρ N E := sx_setL (h _ hm) fun d ⟨a, h1, h2⟩ => by rw [h1]; exact k a h2
theorem rs_ret {m : (γ → Prop) → Prop} {A : γ → Prop} (h : Ref K Z e te ρ m) (hm : st m A) (k : ∀ a, A a → E.rt (e a)) : SS K Z (tRet te) ρ N E := sx_ret (h _ hm) fun d ⟨a, h1, h2⟩ => by rw [h1]; exact k a h2
theorem rs_retOwn {i : Nat} (l : List γ) {A : List γ → Prop} (hi : ρ[i]? = some (.lst (l.map e))) (hm : A l) (k : ∀ l, A l → E.rt (eL e l)) : SS K Z (tRet (tVar i)) ρ N E :=
  ss_retQ (d := eL e l) (se_var (by rw [List.getElem?_map, hi]; rfl)) (k l hm)
theorem rs_retO {m : (List γ → Prop) → Prop} {A : List γ → Prop} (h : RefO K Z e te ρ m) (hm : st m A) (k : ∀ l, A l → E.ro (l.map e)) : SS K Z (tRet te) ρ N E := sx_retO (h _ hm) fun d ⟨a, h1, h2⟩ => by rw [h1]; exact k a h2
theorem rs_retOO {i : Nat} (l : List γ) {A : List γ → Prop} (hi : ρ[i]? = some (.lst (l.map e))) (hm : A l) (k : ∀ l, A l → E.ro (l.map e)) : SS K Z (tRet (tVar i)) ρ N E := ss_retO hi (k l hm)
theorem rs_if {tt : TT} {m : (Bool → Prop) → Prop} {A B : Prop} (h : RefB K Z tt ρ m) (hm : ifS m A B) (h1 : A → SS K Z t ρ N E) (h2 : B → SS K Z u ρ N E) : SS K Z (tIfS tt t u) ρ N E := sx_if (h _ hm) (fun z => h1 (z.1 rfl)) fun z => h2 (z.2 rfl)
theorem rs_drop {m : (γ → Prop) → Prop} {A : γ → Prop} (h : Ref K Z e te ρ m) (hm : st m A) (k : ∀ a, A a → N ρ) : SS K Z (tDrop te) ρ N E := sx_drop (h _ hm) fun d ⟨a, _, h2⟩ => k a h2
theorem rs_app {i : Nat} (l : List γ) {m : (γ → Prop) → Prop} {A : γ → Prop} (h : Ref K Z e te ρ m) (hm : st m fun a => l.length < 100000 ∧ A a) (k : ∀ a, A a → N (ρ.set i (.lst ((l ++ [a]).map e)))) (hi : ρ[i]? = some (.lst (l.map e)) := by rfl) : SS K Z (tDrop (tBM K "list" rAppend (tVar i) (tCons te tNil))) ρ N E :=
  sx_app hi (h _ hm) fun d ⟨a, h1, h2, h3⟩ => ⟨by rw [List.length_map]; exact h2, by rw [h1]; have := k a h3; rw [List.map_append] at this; exact this⟩
/-- x[i] = e -/
def putI {γ : Type} (l : List γ) (i : Int) (a : γ) (R : List γ → Prop) : Prop := ∃ j, ixN l.length i = some j ∧ R (l.set j a)
theorem map_setE {α : Type} (e : γ → α) : ∀ (l : List γ) (j : Nat) (a : γ), (l.set j a).map e = (l.map e).set j (e a)
  | [], _, _ => rfl
  | x :: l, 0, a => rfl
  | x :: l, j + 1, a => by
    show e x :: (l.set j a).map e = e x :: (l.map e).set j (e a)
    rw [map_setE e l j a]
theorem rs_put {i : Nat} (l : List γ) {m : (γ → Prop) → Prop} {mi : (Int → Prop) → Prop} {A : List γ → Prop} (h : Ref K Z e te ρ m) (hx : Ref K Z eI ti ρ mi) (hm : st m fun a => st mi fun x => putI l x a A) (k : ∀ l, A l → N (ρ.set i (.lst (l.map e)))) (hi : ρ[i]? = some (.lst (l.map e)) := by rfl) : SS K Z (tAsg te (gSub (tVar i) ti rSetL)) ρ N E :=
  sx_put (Ri := fun d x => ∃ a y, d = e a ∧ x = eI y ∧ putI l y a A) hi (h _ hm) (fun d ⟨a, h1, h2⟩ => (hx _ h2).mono fun x ⟨y, h3, h4⟩ => ⟨a, y, h1, h3, h4⟩) fun d x _ ⟨a, y, h1, h3, j, h4, h5⟩ => ⟨y, j, h3, by rw [List.length_map]; exact h4, by have := k _ h5; rw [map_setE] at this; rw [h1]; exact this⟩
def augI (l : List Int) (mi m : (Int → Prop) → Prop) (f : Int → Int → Int) (A : List Int → Prop) : Prop := mi fun x => ∃ j a, ixN l.length x = some j ∧ l[j]? = some a ∧ m fun b => A (l.set j (f a b))
theorem rs_augAt {i : Nat} (l : List Int) {f : Int → Int → Int} {m mi : (Int → Prop) → Prop} {A : List Int → Prop} (h : Ref K Z eI te ρ m) (hx : Ref K Z eI ti ρ mi) (hm : augI l mi m f A) (k : ∀ l, A l → N (ρ.set i (.lst (l.map eI)))) (hi : ρ[i]? = some (.lst (l.map eI)) := by rfl) : SS K Z (tAugS (tVar i) ti te (rIxL K) (ipI f) rSetL) ρ N E :=
  sx_aug (R := fun kk j a x => ∃ b, x = eI b ∧ A (l.set j (f a b))) hi (hx _ hm) (fun x ⟨y, h1, j, a, h2, h3, h4⟩ => ⟨y, j, a, h1, by rw [List.length_map]; exact h2, by rw [List.getElem?_map, h3]; rfl, h _ h4⟩) fun kk j a x ⟨b, h1, h2⟩ => ⟨b, h1, by have := k _ h2; rw [map_setE] at this; exact this⟩
theorem rs_aug {i : Nat} (a : Int) {f : Int → Int → Int} {m : (Int → Prop) → Prop} {A : Int → Prop} (h : Ref K Z eI te ρ m) (hm : st m fun b => A (f a b)) (k : ∀ x, A x → N (ρ.set i (.e (.dat (eI x))))) (hi : ρ[i]? = some (.e (.dat (eI a))) := by rfl) : SS K Z (tAug i te (ipI f)) ρ N E :=
  sx_augN hi (h _ hm) fun d ⟨b, h1, h2⟩ => ⟨b, h1, k _ h2⟩
theorem rs_unp {g : TG} {is : List Nat} {un : PyData → List PyData → Prop} (sp : γ → List PyData) {m : (γ → Prop) → Prop} {A : γ → Prop} (hg : SG K g is un) (hs : ∀ a, un (e a) (sp a)) (h : Ref K Z e te ρ m) (hm : st m A) (k : ∀ a, A a → N (setC ρ is (sp a))) : SS K Z (tAsg te g) ρ N E :=
  sx_unp hg (h _ hm) fun d ⟨a, h1, h2⟩ => ⟨sp a, by rw [h1]; exact hs a, k a h2⟩
theorem rs_par {i j : Nat} {ta tb : TE} {e1 : α → PyData} {e2 : β → PyData} {m1 : (α → Prop) → Prop} {m2 : (β → Prop) → Prop} {A : α → β → Prop} (h1 : Ref K Z e1 ta ρ m1) (h2 : Ref K Z e2 tb ρ m2) (hm : st m1 fun a => st m2 fun b => A a b) (k : ∀ a b, A a b → N ((ρ.set i (.e (.dat (e1 a)))).set j (.e (.dat (e2 b))))) : SS K Z (tPar i j (tCons ta (tCons tb tNil))) ρ N E :=
  sx_par (ra_cons h1 (ra_cons h2 ra_nil) (fun p => A p.1 p.2.1) hm) fun ds ⟨p, h3, h4⟩ => ⟨e1 p.1, e2 p.2.1, h3, k _ _ h4⟩
theorem rs_par3 {i j l : Nat} {ta tb tc : TE} {δ : Type} {e1 : α → PyData} {e2 : β → PyData} {e3 : δ → PyData} {m1 : (α → Prop) → Prop} {m2 : (β → Prop) → Prop} {m3 : (δ → Prop) → Prop} {A : α → β → δ → Prop} (h1 : Ref K Z e1 ta ρ m1) (h2 : Ref K Z e2 tb ρ m2) (h3 : Ref K Z e3 tc ρ m3) (hm : st m1 fun a => st m2 fun b => st m3 fun c => A a b c) (k : ∀ a b c, A a b c → N (((ρ.set i (.e (.dat (e1 a)))).set j (.e (.dat (e2 b)))).set l (.e (.dat (e3 c))))) : SS K Z (tPar3 i j l (tCons ta (tCons tb (tCons tc tNil)))) ρ N E :=
  sx_par3 (ra_cons h1 (ra_cons h2 (ra_cons h3 ra_nil)) (fun p => A p.1 p.2.1 p.2.2.1) hm) fun ds ⟨p, h3, h4⟩ => ⟨e1 p.1, e2 p.2.1, e3 p.2.2.1, h3, k _ _ _ h4⟩
theorem rs_parLV {i j : Nat} {ta tb : TE} {e1 : α → PyData} {e2 : β → PyData} {m1 : (List α → Prop) → Prop} {m2 : (β → Prop) → Prop} {A : List α → β → Prop} (hij : i ≠ j) (h1 : RefO K Z e1 ta ρ m1) (h2 : Ref K Z e2 tb ρ m2) (hm : st m1 fun a => st m2 fun b => A a b) (k : ∀ a b, A a b → N ((ρ.set i (.lst (a.map e1))).set j (.e (.dat (e2 b))))) : SS K Z (tPar i j (tCons ta (tCons tb tNil))) ρ N E :=
  sx_parLV (R2 := fun ds d => ∃ a b, ds = a.map e1 ∧ d = e2 b ∧ A a b) hij (h1 _ hm) (fun ds ⟨a, h3, h4⟩ => (h2 _ h4).mono fun d ⟨b, h5, h6⟩ => ⟨a, b, h3, h5, h6⟩) fun ds d _ ⟨a, b, h3, h5, h6⟩ => by rw [h3, h5]; exact k a b h6
theorem rs_parVL {i j : Nat} {ta tb : TE} {e1 : α → PyData} {e2 : β → PyData} {m1 : (α → Prop) → Prop} {m2 : (List β → Prop) → Prop} {A : α → List β → Prop} (hij : i ≠ j) (h1 : Ref K Z e1 ta ρ m1) (h2 : RefO K Z e2 tb ρ m2) (hm : st m1 fun a => st m2 fun b => A a b) (k : ∀ a b, A a b → N ((ρ.set i (.e (.dat (e1 a)))).set j (.lst (b.map e2)))) : SS K Z (tPar i j (tCons ta (tCons tb tNil))) ρ N E :=
  sx_parVL (R2 := fun d ds => ∃ a b, d = e1 a ∧ ds = b.map e2 ∧ A a b) hij (h1 _ hm) (fun ds ⟨a, h3, h4⟩ => (h2 _ h4).mono fun d ⟨b, h5, h6⟩ => ⟨a, b, h3, h5, h6⟩) fun ds d _ ⟨a, b, h3, h5, h6⟩ => by rw [h3, h5]; exact k a b h6
theorem rs_parLL {i j : Nat} {ta tb : TE} {e1 : α → PyData} {e2 : β → PyData} {m1 : (List α → Prop) → Prop} {m2 : (List β → Prop) → Prop} {A : List α → List β → Prop} (hij : i ≠ j) (h1 : RefO K Z e1 ta ρ m1) (h2 : RefO K Z e2 tb ρ m2) (hm : st m1 fun a => st m2 fun b => A a b) (k : ∀ a b, A a b → N ((ρ.set i (.lst (a.map e1))).set j (.lst (b.map e2)))) : SS K Z (tPar i j (tCons ta (tCons tb tNil))) ρ N E :=
  sx_parLL (R2 := fun d ds => ∃ a b, d = a.map e1 ∧ ds = b.map e2 ∧ A a b) hij (h1 _ hm) (fun ds ⟨a, h3, h4⟩ => (h2 _ h4).mono fun d ⟨b, h5, h6⟩ => ⟨a, b, h3, h5, h6⟩) fun ds d _ ⟨a, b, h3, h5, h6⟩ => by rw [h3, h5]; exact k a b h6
theorem rs_join {σ : Type} {C : σ → List Cell} {J : σ → Prop} {b : (σ → Prop) → Prop} {t2 : TS} (hm : joinS J b) (hj : ∀ s, J s → SS K Z u (C s) N E) (hb : b J → (∀ s, J s → SS K Z u (C s) N E) → SS K Z t2 ρ (fun ρ' => SS K Z u ρ' N E) E) : SS K Z (tSeq t2 u) ρ N E := ss_seq (hb hm hj)
/-- what follows stands by no more than such cells -/
def Clo (N : List Cell → Prop) : Prop := ∀ ρ ρ', Fg ρ ρ' → N ρ' → N ρ
theorem clo_seq : Clo (fun ρ' => SS K Z u ρ' N E) := fun ρ ρ' f h => ss_fg h f
theorem clo_ex {σ : Type} {C : σ → List Cell} {A : σ → Prop} : Clo (fun ρ' => ∃ s, Fg ρ' (C s) ∧ A s) := fun ρ ρ' f ⟨s, h1, h2⟩ => ⟨s, f.trans h1, h2⟩
theorem clo_w {σ : Type} {C : σ → List Cell} {A : Nat → σ → Prop} {n : Nat} : Clo (fun ρ' => ∃ m, m < n ∧ ∃ s, Fg ρ' (C s) ∧ A m s) := fun ρ ρ' f ⟨m, h0, s, h1, h2⟩ => ⟨m, h0, s, f.trans h1, h2⟩
theorem clo_top {A : Prop} : Clo (fun _ => A) := fun _ _ _ h => h
theorem rs_for {σ : Type} {ea : α → PyData} {wi : TI} {g : TG} {tb : TS} {is : List Nat} {un : PyData → List PyData → Prop} {ml : (List α → Prop) → Prop} {body : α → σ → (σ → Prop) → (σ → Prop) → Prop} {after : σ → Prop} (C : σ → List Cell) (sp : α → List PyData) (s0 : σ) (hi : RefI K Z ea wi ρ ml) (hg : SG K g is un) (hs : ∀ a, un (ea a) (sp a)) (h0 : Fg ρ (C s0))
    (hm : forS ml s0 body after) (hb : ∀ a s nx, body a s nx after → SS K Z tb (setC (C s) is (sp a)) (fun ρ' => ∃ s', Fg ρ' (C s') ∧ nx s') { E with bk := N, ct := fun ρ' => ∃ s', Fg ρ' (C s') ∧ nx s' })
    (hN : ∀ s, after s → N (C s)) (hc : Clo N) : SS K Z (tFor wi g tb) ρ N E :=
  sx_for (fun ds i ρ' => ∃ l s, ds = l.map ea ∧ Fg ρ' (C s) ∧ forC (l.drop i) s body after) (hi _ hm) hg (fun ds ⟨l, h1, h2⟩ => ⟨l, s0, h1, h0, h2⟩)
    (fun ds i d ρ' _ hd ⟨l, s, h1, h2, h3⟩ => by
      subst h1
      rw [List.getElem?_map] at hd
      cases c : l[i]? with
      | none => rw [c] at hd; cases hd
      | some a =>
        rw [c] at hd
        have ed : d = ea a := (Option.some.inj hd).symm
        subst ed
        have hi : i < l.length := (List.getElem?_eq_some_iff.mp c).1
        have dr : l.drop i = a :: l.drop (i + 1) := by
          rw [List.drop_eq_getElem_cons hi]
          congr 1
          exact Option.some.inj ((List.getElem?_eq_getElem hi).symm.trans c)
        rw [dr] at h3
        unfold forC at h3
        have x := hb a s _ h3
        refine ⟨sp a, hs a, ss_fg ?_ (h2.setC (is := is) (ds := sp a))⟩
        intro G0 H0 Gb b0 D ee nx σ' G H eb r
        exact x G0 H0 Gb b0 D ⟨ee.rt, ee.ro, ee.bk, fun σ ρ' G H ⟨s', k1, k2⟩ => ee.ct σ ρ' G H ⟨l, s', rfl, k1, k2⟩⟩ (fun σ ρ' G H ⟨s', k1, k2⟩ => nx σ ρ' G H ⟨l, s', rfl, k1, k2⟩) σ' G H eb r)
    fun ds ρ' _ ⟨l, s, h1, h2, h3⟩ => by
      rw [h1, List.length_map, List.drop_length] at h3
      exact hc _ _ h2 (hN s h3)
theorem rs_while {σ : Type} {tc : TT} {tb : TS} {cm : σ → (Bool → Prop) → Prop} {body : σ → (σ → Prop) → (σ → Prop) → Prop} {after : σ → Prop} (C : σ → List Cell) (s0 : σ) (h0 : Fg ρ (C s0)) (hm : whileC s0 cm body after) (ht : ∀ s, RefB K Z tc (C s) (cm s))
    (hb : ∀ s nx, body s nx after → SS K Z tb (C s) (fun ρ' => ∃ s', Fg ρ' (C s') ∧ nx s') { E with bk := N, ct := fun ρ' => ∃ s', Fg ρ' (C s') ∧ nx s' })
    (hN : ∀ s, after s → N (C s)) (hc : Clo N) : SS K Z (tWhile tc tb) ρ N E := by
  obtain ⟨n, hn⟩ := hm
  refine sx_while (fun n ρ' => ∃ s, Fg ρ' (C s) ∧ whileN n s cm body after) ⟨n, s0, h0, hn⟩ fun n ρ' ⟨s, h1, h2⟩ => ?_
  cases n with
  | zero => exact h2.elim
  | succ n =>
    unfold whileN at h2
    refine ⟨_, fun G0 H0 b0 σ' G H r Q q => ht s _ h2 G0 H0 b0 σ' G H (r.fg h1) Q q, fun z => ?_, fun z => hc _ _ h1 (hN s (z.2 rfl))⟩
    have x := hb s _ (z.1 rfl)
    refine ss_fg ?_ h1
    intro G0 H0 Gb b0 D ee nx σ' G H eb r
    exact x G0 H0 Gb b0 D ⟨ee.rt, ee.ro, ee.bk, fun σ ρ' G H ⟨s', k1, k2⟩ => ee.ct σ ρ' G H ⟨n, Nat.lt_succ_self _, s', k1, k2⟩⟩ (fun σ ρ' G H ⟨s', k1, k2⟩ => nx σ ρ' G H ⟨n, Nat.lt_succ_self _, s', k1, k2⟩) σ' G H eb r
theorem rs_break (h : E.bk ρ) : SS K Z tBreak ρ N E := fun G0 H0 Gb b0 D e nx σ G H eb r => e.bk σ ρ G H h eb r
theorem rs_tell (i : Nat) (e : γ → PyData) (l : List γ) (k : SS K Z t (ρ.set i (.e (.dat (eL e l)))) N E) (h : ρ[i]? = some (.lst (l.map e)) := by rfl) : SS K Z t ρ N E := ss_tell i h k
end
/-! ### defs -/
section
variable {P : Program} {w : World} {K : PySem.W.Frag} {mg : Str → Option Value} {base : Heap} {x qual : Str} {st : Stmt} {f : Addr} {fd : FuncData} {k : Nat} {T γ : Type} {enc : T → List PyData} {e : γ → PyData}
theorem ok_T {N ps : List Str} {fn : T → (γ → Prop) → Prop} (F : Fun K x qual st f fd) (S : FnScope N ps (defScope st)) (hl : ∀ t, (enc t).length = ps.length)
    (hb : ∀ (cdv : Value) (A : Around) (outer : List Env) (s : Shared) (H : Hp) (E : XK), Room k (A.deeper (envOfC qual (defScope st) s.heap.objs.size f cdv)) →
      ∃ t, PSs (cxOf CX0 P w K mg base N qual (defScope st) f cdv A outer s H E).nox (defBody st) t ∧ ∀ (a : T) (R : γ → Prop) (R0 : PyData → Prop), fn a R → (∀ c, R c → R0 (e c)) → SS K none t (startC N.length (enc a)) (fun _ => False) { rt := R0 }) : FnOk P w K mg base CX0 (k + 1) f fd ps (SpD K (preT enc e fn)) :=
  ok_D F S (fun ds R ⟨t, R', h1, _⟩ => by rw [h1]; exact hl t) fun cdv A outer s H E hr => by
    obtain ⟨t, h1, h2⟩ := hb cdv A outer s H E hr
    exact ⟨t, h1, fun ds R ⟨a, R', h3, h4, h5⟩ => by
      subst h3
      exact (h2 a R' R h4 h5).mono fun _ z => z.elim⟩
theorem ok_TO {N ps : List Str} {fn : T → (List γ → Prop) → Prop} (F : Fun K x qual st f fd) (S : FnScope N ps (defScope st)) (hl : ∀ t, (enc t).length = ps.length)
    (hb : ∀ (cdv : Value) (A : Around) (outer : List Env) (s : Shared) (H : Hp) (E : XK), Room k (A.deeper (envOfC qual (defScope st) s.heap.objs.size f cdv)) →
      ∃ t, PSs (cxOf CX0 P w K mg base N qual (defScope st) f cdv A outer s H E).nox (defBody st) t ∧ ∀ (a : T) (R : List γ → Prop) (R0 : List PyData → Prop), fn a R → (∀ c, R c → R0 (c.map e)) → SS K none t (startC N.length (enc a)) (fun _ => False) { rt := fun _ => False, ro := R0 }) : FnOk P w K mg base CX0 (k + 1) f fd ps (SpO K (preO enc e fn)) :=
  ok_O F S (fun ds R ⟨t, R', h1, _⟩ => by rw [h1]; exact hl t) fun cdv A outer s H E hr => by
    obtain ⟨t, h1, h2⟩ := hb cdv A outer s H E hr
    exact ⟨t, h1, fun ds R ⟨a, R', h3, h4, h5⟩ => by
      subst h3
      exact h2 a R' R h4 h5⟩
theorem ok_TZ {n0 p0 : Str} {N ps : List Str} {fn : T → (γ → Prop) → Prop} (F : Fun K x qual st f fd) (S : FnScope (n0 :: N) (p0 :: ps) (defScope st)) (hl : ∀ t, (enc t).length = ps.length)
    (hb : ∀ (cdv : Value) (A : Around) (outer : List Env) (s : Shared) (H : Hp) (E : XK), Room k (A.deeper (envOfC qual (defScope st) s.heap.objs.size f cdv)) →
      ∃ t, PSs (cxOf CX0 P w K mg base (n0 :: N) qual (defScope st) f cdv A outer s H E).nox (defBody st) t ∧ ∀ Z (a : T) (R : γ → Prop) (R0 : PyData → Prop), fn a R → (∀ c, R c → R0 (e c)) → SS K Z t (startZ N.length (enc a)) (fun _ => False) { rt := R0 }) : FnOk P w K mg base CX0 (k + 1) f fd (p0 :: ps) (SpZ K (preT enc e fn)) :=
  ok_Z F S (fun ds R ⟨t, R', h1, _⟩ => by rw [h1]; exact hl t) fun cdv A outer s H E hr => by
    obtain ⟨t, h1, h2⟩ := hb cdv A outer s H E hr
    exact ⟨t, h1, fun Z ds R ⟨a, R', h3, h4, h5⟩ => by
      subst h3
      exact (h2 Z a R' R h4 h5).mono fun _ z => z.elim⟩
/-- a promise told in another way -/
theorem imp_D {CX : CXT} {ps : List Str} {pre pre' : List PyData → (PyData → Prop) → Prop} (F : FnOk P w K mg base CX k f fd ps (SpD K pre)) (h : ∀ ds R, pre' ds R → pre ds R) : FnOk P w K mg base CX k f fd ps (SpD K pre') := F.imp fun vs H Q E ⟨G, ds, R, b, ha, hp, q⟩ => ⟨G, ds, R, b, ha, h ds R hp, q⟩
theorem imp_O {CX : CXT} {ps : List Str} {pre pre' : List PyData → (List PyData → Prop) → Prop} (F : FnOk P w K mg base CX k f fd ps (SpO K pre)) (h : ∀ ds R, pre' ds R → pre ds R) : FnOk P w K mg base CX k f fd ps (SpO K pre') := F.imp fun vs H Q E ⟨G, ds, R, b, ha, hp, q⟩ => ⟨G, ds, R, b, ha, h ds R hp, q⟩
theorem imp_Z {CX : CXT} {ps : List Str} {pre pre' : List PyData → (PyData → Prop) → Prop} (F : FnOk P w K mg base CX k f fd ps (SpZ K pre)) (h : ∀ ds R, pre' ds R → pre ds R) : FnOk P w K mg base CX k f fd ps (SpZ K pre') := F.imp fun vs H Q E ⟨D, A, B, G, us, ds, R, e, b, ha, hp, q⟩ => ⟨D, A, B, G, us, ds, R, e, b, ha, h ds R hp, q⟩
end
end FF
set_option maxHeartbeats 4000000
namespace FF
open PySem PySem.Spec PyProof.Rows L2 Evl
/-! ### more rules -/
theorem room65 {k : Nat} {A : Around} (r : Room k A) : A.units + 65 < cLine := by have := r.un; omega
def inD (x : PyData) (ds : List PyData) (R : Bool → Prop) : Prop := SeqAt.shaped x = true ∧ SeqAt.shaped (.list ds) = true ∧ R (ds.any fun z => PyData.eqv z x)
def mulC (x y : Int) : Prop := CMul x y
def maxC (l : List Int) (R : Int → Prop) : Prop := l ≠ [] ∧ ∀ m, m ∈ l → (∀ y ∈ l, y ≤ m) → R m
def minC (l : List Int) (R : Int → Prop) : Prop := l ≠ [] ∧ ∀ m, m ∈ l → (∀ y ∈ l, m ≤ y) → R m
def putK (ks : List (List Int)) (k : List Int) (R : List (List Int) → Prop) : Prop := k ∉ ks ∧ ks.length < 100000 ∧ R (ks ++ [k])
def sortK (ks : List (List Int)) (R : List (List Int) → Prop) : Prop := (∃ r, ks = [] :: r) ∧ ∀ ls : List (List Int), ls.Perm ks → ls.Pairwise (fun q r => HT.lexLt r q = false) → R ls
def sortSetC (l : List Int) (R : List Int → Prop) : Prop := l.length ≤ 4000 ∧ (∀ k ∈ l, 0 ≤ k ∧ k < 60) ∧ ∀ ms : List Int, ms.Pairwise (· < ·) → (∀ k, k ∈ ms ↔ k ∈ l) → R ms
def sortPC (l : List (Int × Int)) (R : List (Int × Int) → Prop) : Prop := ∀ ps : List (Int × Int), ps.Perm l → ps.Pairwise lexLe → R ps
def isStrD : PyData → Bool
  | .str _ => true
  | _ => false
theorem kitStr : ∀ d : PyData, kitB (tyD d) "str" = some (isStrD d)
  | .none => (by decide +kernel : kitB "NoneType" "str" = some false)
  | .bool _ => (by decide +kernel : kitB "bool" "str" = some false)
  | .int _ => (by decide +kernel : kitB "int" "str" = some false)
  | .str _ => (by decide +kernel : kitB "str" "str" = some true)
  | .list _ => (by decide +kernel : kitB "list" "str" = some false)
  | .tuple _ => (by decide +kernel : kitB "tuple" "str" = some false)
  | .dict _ => (by decide +kernel : kitB "dict" "str" = some false)
theorem inV_str (x : Str) : ∀ l : List Str, inV (.str x) (l.map V.str) = decide (x ∈ l)
  | [] => by simp [inV]
  | y :: l => by
    have ih := inV_str x l
    unfold inV at ih ⊢
    rw [List.map_cons, List.any_cons, ih]
    show ((y == x) || decide (x ∈ l)) = decide (x ∈ y :: l)
    by_cases c : y = x
    · subst c
      rw [beq_self_eq_true, Bool.true_or, decide_eq_true (List.mem_cons_self ..)]
    · rw [beq_eq_false_iff_ne.mpr c, Bool.false_or]
      by_cases d : x ∈ l
      · rw [decide_eq_true d, decide_eq_true (List.mem_cons_of_mem _ d)]
      · rw [decide_eq_false d, decide_eq_false fun z => (List.mem_cons.mp z).elim (fun q => c q.symm) d]
theorem flat_strs : ∀ l : List Str, (l.map V.str).all flatV = true
  | [] => rfl
  | _ :: l => by rw [List.map_cons, List.all_cons, flat_strs l]; rfl
theorem dqa_strs {K : PySem.W.Frag} {H : Hp} : ∀ {ns : List Str} {vs : List V}, DqA K H vs (ns.map PyData.str) → vs = ns.map V.str
  | [], _, h => by cases h; rfl
  | n :: ns, _, h => by
    cases h with
    | cons a b => rw [dq_str a, dqa_strs b]; rfl
theorem inV_bl (x : Bool) : ∀ l : List Bool, inV (.bl x) (l.map V.bl) = decide (x ∈ l)
  | [] => by simp [inV]
  | y :: l => by
    have ih := inV_bl x l
    unfold inV at ih ⊢
    rw [List.map_cons, List.any_cons, ih]
    show ((y == x) || decide (x ∈ l)) = decide (x ∈ y :: l)
    by_cases c : y = x
    · subst c
      rw [beq_self_eq_true, Bool.true_or, decide_eq_true (List.mem_cons_self ..)]
    · rw [beq_eq_false_iff_ne.mpr c, Bool.false_or]
      by_cases d : x ∈ l
      · rw [decide_eq_true d, decide_eq_true (List.mem_cons_of_mem _ d)]
      · rw [decide_eq_false d, decide_eq_false fun z => (List.mem_cons.mp z).elim (fun q => c q.symm) d]
theorem flat_bls : ∀ l : List Bool, (l.map V.bl).all flatV = true
  | [] => rfl
  | _ :: l => by rw [List.map_cons, List.all_cons, flat_bls l]; rfl
section
variable {K : PySem.W.Frag} {Z : Zk} {ρ : List Cell} {te ta tb tc : TE} {α β γ δ : Type} {e : γ → PyData} {e1 : α → PyData} {e2 : β → PyData} {P : Program} {w : World} {η : List Ent}
theorem se_inSS {neg : Bool} {ns : List Str} {i : Str} {tup : Bool} (h1 : SQ K Z ta η (.str i)) (h2 : SQ K Z tb η (if tup then .tuple (ns.map .str) else .list (ns.map .str))) : SQ K Z (tOp (rIn K neg) ta tb) η (.bool (if neg then !decide (i ∈ ns) else decide (i ∈ ns))) :=
  se_op h1 h2 fun v1 v2 G H b d1 d2 Q q => by
    have hx : ∃ p, v2 = .ref p ∧ (SqL K H p (ns.map V.str) ∨ SqT K H p (ns.map V.str)) := by
      cases tup with
      | true =>
        obtain ⟨a, xs, rfl, ht, ha⟩ := dq_tup d2
        have e := dqa_strs ha
        subst e
        exact ⟨a, rfl, .inr (ex_t b.ex ht)⟩
      | false =>
        obtain ⟨a, xs, rfl, ht, ha⟩ := dq_lst d2
        have e := dqa_strs ha
        subst e
        exact ⟨a, rfl, .inl (ex_l b.ex ht)⟩
    obtain ⟨p, rfl, hp⟩ := hx
    rw [dq_str d1]
    refine ⟨p, _, rfl, hp, rfl, flat_strs _, ?_⟩
    have e : (if neg then !inV (.str i) (ns.map V.str) else inV (.str i) (ns.map V.str)) = if neg then !decide (i ∈ ns) else decide (i ∈ ns) := by rw [inV_str]
    rw [e]
    exact q _ _ _ _ rfl (.refl b) (.bl _)
theorem rf_inTS {m1 : (Str → Prop) → Prop} {m2 : (List Str → Prop) → Prop} (h1 : Ref K Z eS ta ρ m1) (h2 : Ref K Z (eT eS) tb ρ m2) : Ref K Z eB (tOp (rIn K false) ta tb) ρ (fun R => m1 fun a => m2 fun l => R (decide (a ∈ l))) :=
  rf_2 (fun a l R => R (decide (a ∈ l))) (fun _ _ _ _ _ => rfl) h1 h2 fun a b R h => dn (se_inSS (neg := false) (tup := true) v0 v1) h
theorem rf_inLS {m1 : (Str → Prop) → Prop} {m2 : (List Str → Prop) → Prop} (h1 : Ref K Z eS ta ρ m1) (h2 : Ref K Z (eL eS) tb ρ m2) : Ref K Z eB (tOp (rIn K false) ta tb) ρ (fun R => m1 fun a => m2 fun l => R (decide (a ∈ l))) :=
  rf_2 (fun a l R => R (decide (a ∈ l))) (fun _ _ _ _ _ => rfl) h1 h2 fun a b R h => dn (se_inSS (neg := false) (tup := false) v0 v1) h
theorem rf_notinTS {m1 : (Str → Prop) → Prop} {m2 : (List Str → Prop) → Prop} (h1 : Ref K Z eS ta ρ m1) (h2 : Ref K Z (eT eS) tb ρ m2) : Ref K Z eB (tOp (rIn K true) ta tb) ρ (fun R => m1 fun a => m2 fun l => R (!decide (a ∈ l))) :=
  rf_2 (fun a l R => R (!decide (a ∈ l))) (fun _ _ _ _ _ => rfl) h1 h2 fun a b R h => dn (se_inSS (neg := true) (tup := true) v0 v1) h
theorem rf_notinLS {m1 : (Str → Prop) → Prop} {m2 : (List Str → Prop) → Prop} (h1 : Ref K Z eS ta ρ m1) (h2 : Ref K Z (eL eS) tb ρ m2) : Ref K Z eB (tOp (rIn K true) ta tb) ρ (fun R => m1 fun a => m2 fun l => R (!decide (a ∈ l))) :=
  rf_2 (fun a l R => R (!decide (a ∈ l))) (fun _ _ _ _ _ => rfl) h1 h2 fun a b R h => dn (se_inSS (neg := true) (tup := false) v0 v1) h
theorem se_inBL {neg : Bool} {ns : List Bool} {i : Bool} (h1 : SQ K Z ta η (.bool i)) (h2 : SQ K Z tb η (.list (ns.map .bool))) : SQ K Z (tOp (rIn K neg) ta tb) η (.bool (if neg then !decide (i ∈ ns) else decide (i ∈ ns))) :=
  se_op h1 h2 fun v1 v2 G H b d1 d2 Q q => by
    obtain ⟨a, xs, rfl, ht, ha⟩ := dq_lst d2
    have e := dqa_bools ha
    subst e
    rw [dq_bl d1]
    refine ⟨a, _, rfl, .inl (ex_l b.ex ht), rfl, flat_bls _, ?_⟩
    have e : (if neg then !inV (.bl i) (ns.map V.bl) else inV (.bl i) (ns.map V.bl)) = if neg then !decide (i ∈ ns) else decide (i ∈ ns) := by rw [inV_bl]
    rw [e]
    exact q _ _ _ _ rfl (.refl b) (.bl _)
theorem rf_inLB {m1 : (Bool → Prop) → Prop} {m2 : (List Bool → Prop) → Prop} (h1 : Ref K Z eB ta ρ m1) (h2 : Ref K Z (eL eB) tb ρ m2) : Ref K Z eB (tOp (rIn K false) ta tb) ρ (fun R => m1 fun a => m2 fun l => R (decide (a ∈ l))) :=
  rf_2 (fun a l R => R (decide (a ∈ l))) (fun _ _ _ _ _ => rfl) h1 h2 fun a b R h => dn (se_inBL (neg := false) v0 v1) h
theorem rf_notinLB {m1 : (Bool → Prop) → Prop} {m2 : (List Bool → Prop) → Prop} (h1 : Ref K Z eB ta ρ m1) (h2 : Ref K Z (eL eB) tb ρ m2) : Ref K Z eB (tOp (rIn K true) ta tb) ρ (fun R => m1 fun a => m2 fun l => R (!decide (a ∈ l))) :=
  rf_2 (fun a l R => R (!decide (a ∈ l))) (fun _ _ _ _ _ => rfl) h1 h2 fun a b R h => dn (se_inBL (neg := true) v0 v1) h
/-- nested data in a list -/
theorem rf_inDL {m1 : (α → Prop) → Prop} {m2 : (List β → Prop) → Prop} (h1 : Ref K Z e1 ta ρ m1) (h2 : Ref K Z (eL e2) tb ρ m2) : Ref K Z eB (tOp (rInD K) ta tb) ρ (fun R => m1 fun a => m2 fun l => inD (e1 a) (l.map e2) R) :=
  rf_2 (fun a l R => inD (e1 a) (l.map e2) R) (fun _ _ _ _ _ => rfl) h1 h2 fun a l R h => dn (c := (l.map e2).any fun z => PyData.eqv z (e1 a)) (se_op v0 v1 fun v1 v2 G H b d1 d2 Q q =>
    ⟨e1 a, l.map e2, dq_dp0 _ _ (SeqAt.canLay_of_shaped h.1) (Dq.ex b.ex _ _ d1), dq_dp0 _ _ (SeqAt.canLay_of_shaped h.2.1) (Dq.ex b.ex _ _ d2), h.1, h.2.1, q _ _ _ _ rfl (.refl b) (.bl _)⟩) h.2.2
theorem rf_notinDL {m1 : (α → Prop) → Prop} {m2 : (List β → Prop) → Prop} (h1 : Ref K Z e1 ta ρ m1) (h2 : Ref K Z (eL e2) tb ρ m2) : Ref K Z eB (tOp (rNotInD K) ta tb) ρ (fun R => m1 fun a => m2 fun l => inD (e1 a) (l.map e2) fun c => R (!c)) :=
  rf_2 (fun a l R => inD (e1 a) (l.map e2) fun c => R (!c)) (fun _ _ _ _ _ => rfl) h1 h2 fun a l R h => dn (c := !(l.map e2).any fun z => PyData.eqv z (e1 a)) (se_op v0 v1 fun v1 v2 G H b d1 d2 Q q =>
    ⟨e1 a, l.map e2, dq_dp0 _ _ (SeqAt.canLay_of_shaped h.1) (Dq.ex b.ex _ _ d1), dq_dp0 _ _ (SeqAt.canLay_of_shaped h.2.1) (Dq.ex b.ex _ _ d2), h.1, h.2.1, q _ _ _ _ rfl (.refl b) (.bl _)⟩) h.2.2
theorem rf_isStr {m1 : (α → Prop) → Prop} (h1 : Ref K Z e1 ta ρ m1) : Ref K Z eB (tCB (rIsi K) (tCons ta (tCons (tC (.ty "str")) tNil))) ρ (fun R => m1 fun a => R (isStrD (e1 a))) :=
  rf_1 (T := fun ta => tCB (rIsi K) (tCons ta (tCons (tC (.ty "str")) tNil))) (fun a R => R (isStrD (e1 a))) (fun _ _ _ _ => rfl) h1 fun a R h => dn (se_isi v0 (kitStr _)) h
theorem rf_eqBl {m1 m2 : (Bool → Prop) → Prop} (h1 : Ref K Z eB ta ρ m1) (h2 : Ref K Z eB tb ρ m2) : Ref K Z eB (tOp rEq ta tb) ρ (fun R => m1 fun a => m2 fun b => R (decide (a = b))) :=
  rf_2 (fun a b R => R (decide (a = b))) (fun _ _ _ _ _ => rfl) h1 h2 fun i j R h => dn (c := decide (i = j)) (se_op v0 v1 fun v1 v2 G H b d1 d2 Q q => by
    rw [dq_bl d1, dq_bl d2]
    refine ⟨rfl, ?_⟩
    have e : decide (V.bl i = V.bl j) = decide (i = j) := by cases i <;> cases j <;> rfl
    rw [e]
    exact q _ _ _ _ rfl (.refl b) (.bl _)) h
theorem rf_mul {m1 m2 : (Int → Prop) → Prop} (h1 : Ref K Z eI ta ρ m1) (h2 : Ref K Z eI tb ρ m2) : Ref K Z eI (tOp (rI CMul fun i j => .int (i * j)) ta tb) ρ (fun R => m1 fun a => m2 fun b => mulC a b ∧ R (a * b)) := rf_ic h1 h2
theorem rf_maxL {m1 : (List Int → Prop) → Prop} (h1 : Ref K Z (eL eI) ta ρ m1) : Ref K Z eI (tCB (rMax K) (tCons ta tNil)) ρ (fun R => m1 fun l => maxC l R) :=
  rf_1 (T := fun ta => tCB (rMax K) (tCons ta tNil)) (fun l R => maxC l R) (fun _ _ _ _ => rfl) h1 fun l R h => se_cb v0 fun v1 G H b d1 Q q => by
    obtain ⟨a, xs, rfl, ht, ha⟩ := dq_lst d1
    have e := dqa_ints ha
    subst e
    exact ⟨a, l, rfl, ex_l b.ex ht, List.length_pos_iff.mpr h.1, fun m hm hy => q _ _ _ _ ⟨m, rfl, h.2 m hm hy⟩ (.refl b) (.int _)⟩
theorem rf_minL {m1 : (List Int → Prop) → Prop} (h1 : Ref K Z (eL eI) ta ρ m1) : Ref K Z eI (tCB (rMin K) (tCons ta tNil)) ρ (fun R => m1 fun l => minC l R) :=
  rf_1 (T := fun ta => tCB (rMin K) (tCons ta tNil)) (fun l R => minC l R) (fun _ _ _ _ => rfl) h1 fun l R h => se_cb v0 fun v1 G H b d1 Q q => by
    obtain ⟨a, xs, rfl, ht, ha⟩ := dq_lst d1
    have e := dqa_ints ha
    subst e
    exact ⟨a, l, rfl, ex_l b.ex ht, List.length_pos_iff.mpr h.1, fun m hm hy => q _ _ _ _ ⟨m, rfl, h.2 m hm hy⟩ (.refl b) (.int _)⟩
theorem rf_eqNilOwn {i : Nat} (e : γ → PyData) (l : List γ) (hi : ρ[i]? = some (.lst (l.map e)) := by rfl) : Ref K Z eB (tOp (rEqNilL K) (tVar i) (tLst tNil)) ρ (fun R => R l.isEmpty) :=
  rf_view nl_B fun R h => dn (c := l.isEmpty) (se_eq (se_eqNil (se_var (d := .list (l.map e)) (by rw [List.getElem?_map, hi]; rfl)) (so_lst sa_nil).q) (by cases l <;> rfl)) h
theorem rf_neNilOwn {i : Nat} (e : γ → PyData) (l : List γ) (hi : ρ[i]? = some (.lst (l.map e)) := by rfl) : Ref K Z eB (tOp (rNeNilL K) (tVar i) (tLst tNil)) ρ (fun R => R (!l.isEmpty)) :=
  rf_view nl_B fun R h => dn (c := !l.isEmpty) (se_eq (se_neNil (se_var (d := .list (l.map e)) (by rw [List.getElem?_map, hi]; rfl)) (so_lst sa_nil).q) (by cases l <;> rfl)) h
theorem sc_inOwn {i : Nat} {neg : Bool} {l : List Int} {m : (Int → Prop) → Prop} {R : Bool → Prop} (h1 : Ref K Z eI ta ρ m) (hi : ρ[i]? = some (.lst (l.map eI))) (hR : m fun a => R (if neg then !decide (a ∈ l) else decide (a ∈ l))) : SC K Z (tOp (rIn K neg) ta (tVar i)) ρ (fun d => ∃ c, d = eB c ∧ R c) := fun G0 H0 b0 σ G H r Q q =>
  h1 _ hR G0 H0 b0 σ G H r _ fun v d G1 H1 ⟨a, hd, ha⟩ s1 hv => by
    subst hd
    obtain ⟨p, us, h2, g, n0, n, hx⟩ := (r.step b0 s1).lst hi
    have e := dqa_ints hx
    subst e
    rw [dq_int hv]
    refine ⟨.ref p, h2, p, _, rfl, .inl (SqL.of g), rfl, flat_ints _, ?_⟩
    have e : (if neg then !inV (.int a) (l.map V.int) else inV (.int a) (l.map V.int)) = if neg then !decide (a ∈ l) else decide (a ∈ l) := by rw [inV_int]
    rw [e]
    exact q _ _ G1 H1 ⟨_, rfl, ha⟩ s1 (.bl _)
theorem rf_inOwnI {i : Nat} (l : List Int) {m : (Int → Prop) → Prop} (h1 : Ref K Z eI ta ρ m) (hi : ρ[i]? = some (.lst (l.map eI)) := by rfl) : Ref K Z eB (tOp (rIn K false) ta (tVar i)) ρ (fun R => m fun a => R (decide (a ∈ l))) := fun R hR => sc_inOwn h1 hi hR
theorem rf_notinOwnI {i : Nat} (l : List Int) {m : (Int → Prop) → Prop} (h1 : Ref K Z eI ta ρ m) (hi : ρ[i]? = some (.lst (l.map eI)) := by rfl) : Ref K Z eB (tOp (rIn K true) ta (tVar i)) ρ (fun R => m fun a => R (!decide (a ∈ l))) := fun R hR => sc_inOwn (neg := true) h1 hi hR
/-! own dicts with tuple keys -/
theorem sc_inDc {i : Nat} {neg : Bool} {ks : List (List Int)} {m : (List Int → Prop) → Prop} {R : Bool → Prop} (h1 : Ref K Z (eT eI) ta ρ m) (hi : ρ[i]? = some (.dc P w ks)) (hR : m fun k => R (if neg then !decide (k ∈ ks) else decide (k ∈ ks))) : SC K Z (tOp (rInDc K P w neg) ta (tVar i)) ρ (fun d => ∃ c, d = eB c ∧ R c) := fun G0 H0 b0 σ G H r Q q =>
  h1 _ hR G0 H0 b0 σ G H r _ fun v d G1 H1 ⟨k, hd, hk⟩ s1 hv => by
    subst hd
    have r1 := r.step b0 s1
    obtain ⟨p, L, h2, g, n0, n, ek, ha⟩ := r1.dcs hi
    obtain ⟨kb, rfl, hb⟩ := dq_key hv
    have bs := r1.bs b0
    subst ek
    exact ⟨.ref p, h2, kb, p, k, L, rfl, rfl, ex_t bs.ex hb, g, fun q hq => ex_t bs.ex (ha q hq), q _ _ G1 H1 ⟨_, rfl, hk⟩ s1 (.bl _)⟩
theorem rf_inDc {i : Nat} (ks : List (List Int)) {m : (List Int → Prop) → Prop} (h1 : Ref K Z (eT eI) ta ρ m) (hi : ρ[i]? = some (.dc P w ks) := by rfl) : Ref K Z eB (tOp (rInDc K P w false) ta (tVar i)) ρ (fun R => m fun k => R (decide (k ∈ ks))) := fun R hR => sc_inDc h1 hi hR
theorem rf_notinDc {i : Nat} (ks : List (List Int)) {m : (List Int → Prop) → Prop} (h1 : Ref K Z (eT eI) ta ρ m) (hi : ρ[i]? = some (.dc P w ks) := by rfl) : Ref K Z eB (tOp (rInDc K P w true) ta (tVar i)) ρ (fun R => m fun k => R (!decide (k ∈ ks))) := fun R hR => sc_inDc (neg := true) h1 hi hR
theorem rfo_sortDc {i : Nat} (ks : List (List Int)) (hi : ρ[i]? = some (.dc P w ks) := by rfl) : RefO K Z (eT eI) (tCB (rSortedDc K P w) (tCons (tVar i) tNil)) ρ (fun R => sortK ks R) := fun R ⟨⟨r, hr⟩, hR⟩ G0 H0 b0 σ G H rel Q q => by
  subst hr
  obtain ⟨p0, L, h2, g, n0, n, ek, ha⟩ := rel.dcs hi
  have bs := rel.bs b0
  match L, ek with
  | (b1, k0) :: L, ek =>
    obtain ⟨e0, e1⟩ := List.cons.inj ek
    replace e0 : k0 = [] := e0
    subst e0
    subst e1
    refine ⟨.ref p0, h2, p0, b1, L, rfl, g, fun p hp => ex_t bs.ex (ha p hp), fun L2 p pm pw np => ?_⟩
    refine q p (L2.map fun q => V.ref q.1) (L2.map fun q => intsT q.2) G (upd H p (.lst (L2.map fun q => V.ref q.1))) ⟨L2.map (·.2), ?_, hR _ ?_ ?_⟩ (.hide bs np) np (none_of bs.ex np) upd_same ?_
    · rw [List.map_map]; rfl
    · have := pm.map fun q : Addr × List Int => q.2
      exact this
    · rw [List.pairwise_map]; exact pw
    · have all : ∀ M : List (Addr × List Int), (∀ q ∈ M, SqT K G q.1 (q.2.map V.int)) → DqA K G (M.map fun q => V.ref q.1) (M.map fun q => intsT q.2) := fun M => by
        induction M with
        | nil => intro _; exact .nil
        | cons q M ih => intro h; exact .cons (.tup (h q (List.mem_cons_self ..)) ints_dqa) (ih fun x hx => h x (List.mem_cons_of_mem _ hx))
      exact all L2 fun q hq => ha q (pm.mem_iff.mp hq)
theorem rfo_sortSet {m : (List Int → Prop) → Prop} (h : Ref K Z (eT eI) ta ρ m) : RefO K Z eI (tSortSetT K ta) ρ (fun R => m fun l => sortSetC l R) :=
  rfo_1 (T := fun ta => tSortSetT K ta) (fun l R => sortSetC l R) (fun _ _ _ _ => rfl) h fun l R hc => (so_sortSet v0 hc.1 hc.2.1).mono fun ds ⟨ms, h1, h2, h3⟩ => ⟨ms, h3, hc.2.2 ms h1 h2⟩
theorem rfo_sortP {m : (List (Int × Int) → Prop) → Prop} (h : Ref K Z (eL (eP eI eI)) ta ρ m) : RefO K Z (eP eI eI) (tCB (rSortedPD K) (tCons ta tNil)) ρ (fun R => m fun l => sortPC l R) :=
  rfo_1 (T := fun ta => tCB (rSortedPD K) (tCons ta tNil)) (fun l R => sortPC l R) (fun _ _ _ _ => rfl) h fun l R hc => (so_sortedPL v0).mono fun ds ⟨ms, h1, h2, h3⟩ => ⟨ms, h3, hc ms h1 h2⟩
end
section
variable {K : PySem.W.Frag} {Z : Zk} {ρ : List Cell} {N : List Cell → Prop} {E : Eo} {t u : TS} {te ti tb : TE} {α β γ : Type} {e : γ → PyData} {P : Program} {w : World}
theorem rs_putDc {i : Nat} (ks : List (List Int)) {m : (List Int → Prop) → Prop} {A : List (List Int) → Prop} (h : Ref K Z (eT eI) ti ρ m) (hm : st (fun R => m fun k => putK ks k R) A) (k : ∀ l, A l → N (ρ.set i (.dc P w l))) (hi : ρ[i]? = some (.dc P w ks) := by rfl) : SS K Z (tAsg (tC (.bl true)) (gSub (tVar i) ti (rSetDc K P w))) ρ N E := fun G0 H0 Gb b0 D ee nx σ G H eb r => by
  obtain ⟨p, L, h1, g, n0, n, ek, ha⟩ := r.dcs hi
  refine ⟨.ref p, h1, h _ hm G0 H0 b0 σ G H r _ fun v2 d2 G2 H2 ⟨kk, e2, hn, hl, hA⟩ s2 hd2 => ?_⟩
  subst e2
  have r2 := r.step b0 s2
  obtain ⟨p', L', h1', g', _, n', ek', ha'⟩ := r2.dcs hi
  rw [h1] at h1'
  cases h1'
  obtain ⟨b, rfl, hb⟩ := dq_key hd2
  have bs := r2.bs b0
  have lL : L'.length = ks.length := by rw [← ek', List.length_map]
  refine ⟨p, b, kk, L', rfl, rfl, rfl, ex_t bs.ex hb, g', fun q hq => ex_t bs.ex (ha' q hq), by rw [lL]; exact sz_lt hl, by rw [ek']; exact hn, nx _ _ G2 _ (k _ hA) (eb.trans s2.g) (r2.putX b0 hi rfl rfl h1 n0 n' ⟨p, L' ++ [(b, kk)], rfl, upd_same, n0, n', ?_, fun q hq => ?_⟩)⟩
  · rw [List.map_append, ek']; rfl
  · rcases List.mem_append.mp hq with z | z
    · exact ha' q z
    · rw [List.mem_singleton.mp z]; exact hb
/-- a, b = {(): True}, [..] -/
theorem rs_parD0L {i j : Nat} {m : (List γ → Prop) → Prop} {A : List γ → Prop} (hij : i ≠ j) (h2 : RefO K Z e tb ρ m) (hm : st m A) (k : ∀ l, A l → N ((ρ.set i (.dc P w [[]])).set j (.lst (l.map e)))) : SS K Z (tPar i j (tCons (tDict0 P w) (tCons tb tNil))) ρ N E := fun G0 H0 Gb b0 D ee nx σ G H eb r => by
  intro p b np nb pb
  have bs := r.bs b0
  have ng : G b = none := none_of bs.ex nb
  have np1 : upd H b (.tup []) p = none := by rw [upd_ne pb]; exact np
  have s1 : Stp Z G H (upd G b (.tup [])) (upd (upd H b (.tup [])) p (DcO P w p [(b, [])])) := (Stp.new (o := .tup []) bs nb).trans (.hide (bs.go (Stp.new (o := .tup []) bs nb)) np1)
  have rel1 := r.step b0 s1
  have p0 : H0 p = none := freshBack b0 r.st np
  have gp : upd G b (.tup []) p = none := by rw [upd_ne pb]; exact none_of bs.ex np
  have c1 : CellOk K Z H0 (upd G b (.tup [])) (upd (upd H b (.tup [])) p (DcO P w p [(b, [])])) (some (.ref p)) (.dc P w [[]]) := ⟨p, [(b, [])], rfl, upd_same, p0, gp, rfl, fun q hq => by
    rw [List.mem_singleton.mp hq]
    exact SqT.of upd_same⟩
  refine h2 _ hm G0 H0 b0 σ _ _ rel1 _ fun q vs es G2 H2 ⟨l, hl, hA⟩ s2 np2 n2 g2 ha2 => ?_
  subst hl
  have rel2 := rel1.step b0 s2
  have q0 : H0 q = none := freshBack b0 rel1.st np2
  have qp : q ≠ p := fun z => by
    rw [z, upd_same] at np2
    cases np2
  have relA := rel2.setX i (c1.step b0 s2) fun j c hc o hs => r.fresh np j c hc o hs
  refine ⟨.ref p, .ref q, rfl, nx _ _ G2 H2 (k l hA) ((eb.trans s1.g).trans s2.g) (relA.setL j g2 q0 n2 ha2 fun l c hc o hs => ?_)⟩
  by_cases c1 : i = l
  · subst c1
    obtain ⟨_, hl⟩ := get_set_self hc
    rw [List.getElem?_set_self (rel2.slot hl)] at hs
    cases hs
    exact qp rfl
  · rw [List.getElem?_set_ne c1] at hc hs
    exact rel1.fresh np2 l c hc o hs
/-- a, b = {}, v -/
theorem rs_parDNV {i j : Nat} {m : (γ → Prop) → Prop} {A : γ → Prop} (hij : i ≠ j) (h2 : Ref K Z e tb ρ m) (hm : st m A) (k : ∀ a, A a → N ((ρ.set i (.dc P w [])).set j (.e (.dat (e a))))) : SS K Z (tPar i j (tCons (tDNewDc P w) (tCons tb tNil))) ρ N E := fun G0 H0 Gb b0 D ee nx σ G H eb r => by
  intro p np
  have bs := r.bs b0
  have s1 : Stp Z G H G (upd H p (DcO P w p [])) := .hide bs np
  have rel1 := r.step b0 s1
  have p0 : H0 p = none := freshBack b0 r.st np
  have c1 : CellOk K Z H0 G (upd H p (DcO P w p [])) (some (.ref p)) (.dc P w []) := ⟨p, [], rfl, upd_same, p0, none_of bs.ex np, rfl, fun q hq => nomatch hq⟩
  refine h2 _ hm G0 H0 b0 σ _ _ rel1 _ fun v d G2 H2 ⟨a, ha, hA⟩ s2 hd2 => ?_
  subst ha
  have rel2 := rel1.step b0 s2
  have relA := rel2.setX i (c1.step b0 s2) fun j c hc o hs => r.fresh np j c hc o hs
  exact ⟨.ref p, v, rfl, nx _ _ G2 H2 (k a hA) ((eb.trans s1.g).trans s2.g) (relA.set j hd2)⟩
/-- the same where one of both is a cell -/
theorem rs_tupDNV {i j : Nat} {m : (γ → Prop) → Prop} {A : γ → Prop} (hij : i ≠ j) (h2 : Ref K Z e tb ρ m) (hm : st m A) (k : ∀ a, A a → N ((ρ.set i (.dc P w [])).set j (.e (.dat (e a))))) : SS K Z (tAsg (tTup (tCons (tDNewDc P w) (tCons tb tNil))) (gTup K 2 (gCons (gName i) (gCons (gName j) gNil)))) ρ N E := fun G0 H0 Gb b0 D ee nx σ G H eb r => by
  intro p np
  have bs := r.bs b0
  have s1 : Stp Z G H G (upd H p (DcO P w p [])) := .hide bs np
  have rel1 := r.step b0 s1
  have p0 : H0 p = none := freshBack b0 r.st np
  have c1 : CellOk K Z H0 G (upd H p (DcO P w p [])) (some (.ref p)) (.dc P w []) := ⟨p, [], rfl, upd_same, p0, none_of bs.ex np, rfl, fun q hq => nomatch hq⟩
  refine h2 _ hm G0 H0 b0 σ _ _ rel1 _ fun v d G2 H2 ⟨a, ha, hA⟩ s2 hd2 => ?_
  subst ha
  have b2 := (rel1.step b0 s2).bs b0
  refine ⟨Nat.le_of_ble_eq_true rfl, fun t nt => ?_⟩
  have s3 : Stp Z G2 H2 G2 (upd H2 t (.tup [.ref p, v])) := .hide b2 nt
  have rel3 := (rel1.step b0 s2).step b0 s3
  have relA := rel3.setX i (c1.step b0 (s2.trans s3)) fun j c hc o hs => r.fresh np j c hc o hs
  exact ⟨t, _, rfl, SqT.of upd_same, rfl, .ref p, _, rfl, v, _, rfl, rfl, nx _ _ G2 _ (k a hA) ((eb.trans s1.g).trans s2.g) (relA.set j hd2)⟩
end
end FF
set_option maxHeartbeats 4000000
namespace FF
open PySem PySem.Spec PyProof.Rows L2 Evl
/-! ### picks of any kind of items; the law's begin with a list beside the deck -/
def f_pick {α : Type} (l : List α) (R : α → Prop) : Prop := l ≠ [] ∧ l.length < 100000 ∧ ∀ a ∈ l, R a
theorem cv_pick {α : Type} (e : α → PyData) {P : Program} {w : World} {K : PySem.W.Frag} {mg : Str → Option Value} {base : Heap} {k : Nat} {x : Str} {ps : List Str} (c : Cal P w K mg base k x ps (SpZ K prePick)) : Cal P w K mg base k x ps (SpZ K (preT (encC (eL e) encN) e fun t => f_pick t.1)) :=
  c.imp fun F => imp_Z F fun ds R ⟨t, R', h1, h2, h3⟩ => by
    subst h1
    obtain ⟨l, _⟩ := t
    refine ⟨l.map e, rfl, fun z => h2.1 (List.map_eq_nil_iff.mp z), by rw [List.length_map]; exact h2.2.1, fun d hd => ?_⟩
    obtain ⟨a, ha, rfl⟩ := List.mem_map.mp hd
    exact h3 a (h2.2.2 a ha)
theorem law_start2 {K : PySem.W.Frag} {N : List Str} {a : Addr} {ns : List Int} {H : Hp} {E1 : XK} {u : TS} (hy : Sys H) (hS : SqL K H a (ns.map V.int)) (hl : ns.length ≤ 63) (hN : 3 ≤ N.length)
    (h : ∀ Z, SS K Z u (.e .un :: .e .deck :: .lst [] :: List.replicate (N.length - 3) (.e .un)) (fun _ => False) { rt := fun d => d = .bool true }) :
    tSeq (tPar 1 2 (tCons (tCall (spDeck K) [] E1 (tCons (tVar 0) tNil)) (tCons (tLst tNil) tNil))) u { nx := fun _ _ => False, rt := fun v _ => v = .bl true } (start N [.ref a]) H := by
  refine ⟨.ref a, rfl, a, ns, rfl, hS, hl, fun D A B H' dk e nD nA => ?_⟩
  refine ⟨Nat.zero_le _, fun p np => ?_⟩
  obtain ⟨o, ho⟩ := hy
  have hD : D ≠ sysModules := fun z => by rw [z, ho] at nD; cases nD
  have hA : A ≠ sysModules := fun z => by rw [z, ho] at nA; cases nA
  let G : Hp := fun b => if b = sysModules then some (.frz o (.own 0)) else none
  have b : Bs (some (D, A, B)) G H' := by
    refine ⟨fun x u h => ?_, ⟨o, if_pos rfl⟩, dk, if_neg hD, if_neg hA⟩
    by_cases c : x = sysModules
    · subst c
      have h' := (if_pos rfl).symm.trans h
      rw [← h']
      exact e _ _ ho
    · have h' := (if_neg c).symm.trans h
      cases h'
  obtain ⟨m, hm⟩ : ∃ m, N.length = m + 3 := ⟨N.length - 3, by omega⟩
  have es : ((start N [.ref a]).set 1 (some (.ref D))).set 2 (some (.ref p)) = some (.ref a) :: some (.ref D) :: some (.ref p) :: List.replicate m none := by
    unfold L2.start
    rw [hm]
    show ((some (V.ref a) :: List.replicate (m + 2) none).set 1 (some (.ref D))).set 2 (some (.ref p)) = _
    rw [List.replicate_succ, List.replicate_succ]
    rfl
  have em : N.length - 3 = m := by omega
  refine ⟨.ref D, .ref p, rfl, ?_⟩
  show u _ (((start N [.ref a]).set 1 (some (.ref D))).set 2 (some (.ref p))) _
  rw [es]
  have h := h (some (D, A, B))
  rw [em] at h
  have st : Stp (some (D, A, B)) G H' G (upd H' p (.lst [])) := .hide b np
  have cell : ∀ (i : Nat) (c : Cell), (Cell.e .un :: .e .deck :: .lst [] :: List.replicate m (.e .un))[i]? = some c → isOwn c = true → i = 2 := fun i c hc o => by
    match i, hc with
    | 0, hc => cases hc; cases o
    | 1, hc => cases hc; cases o
    | 2, hc => rfl
    | i + 3, hc =>
      have hc' : (List.replicate m (Cell.e .un))[i]? = some c := hc
      have := List.eq_of_mem_replicate (List.mem_of_getElem? hc')
      subst this
      cases o
  refine h G H' G b _ ⟨fun v d G' H2 r s hd => ?_, fun _ _ _ _ _ r => r.elim, fun _ _ _ _ r => r.elim, fun _ _ _ _ r => r.elim⟩ (fun _ _ _ _ n => n.elim) _ G _ (Ex.refl _) ⟨st, fun i c hc => ?_, fun i j c d p n h1 h2 o1 o2 s1 s2 => n ((cell i c h1 o1).trans (cell j d h2 o2).symm)⟩
  · have r' : d = .bool true := r
    subst r'
    exact dq_bl hd
  · match i, hc with
    | 0, hc => cases hc; exact ⟨_, rfl, trivial⟩
    | 1, hc => cases hc; exact ⟨_, rfl, D, A, B, rfl, rfl⟩
    | 2, hc => cases hc; exact ⟨_, rfl, p, [], rfl, upd_same, np, none_of b.ex np, .nil⟩
    | i + 3, hc =>
      have hc' : (List.replicate m (Cell.e .un))[i]? = some c := hc
      have hk := (List.getElem?_eq_some_iff.mp hc').1
      rw [List.length_replicate] at hk
      have := List.eq_of_mem_replicate (List.mem_of_getElem? hc')
      subst this
      refine ⟨none, ?_, trivial⟩
      show (List.replicate m (none : Option V))[i]? = some none
      rw [List.getElem?_replicate, if_pos hk]
theorem law_start3 {K : PySem.W.Frag} {N : List Str} {a : Addr} {ns : List Int} {H : Hp} {E1 : XK} {u : TS} (hy : Sys H) (hS : SqL K H a (ns.map V.int)) (hl : ns.length ≤ 63) (hN : 3 ≤ N.length)
    (h : ∀ Z, SS K Z u (.e .un :: .e .deck :: .lst [] :: List.replicate (N.length - 3) (.e .un)) (fun _ => False) { rt := fun d => d = .bool true }) :
    tSeq (tAsg (tTup (tCons (tCall (spDeck K) [] E1 (tCons (tVar 0) tNil)) (tCons (tLst tNil) tNil))) (gTup K 2 (gCons (gName 1) (gCons (gName 2) gNil)))) u { nx := fun _ _ => False, rt := fun v _ => v = .bl true } (start N [.ref a]) H := by
  refine ⟨.ref a, rfl, a, ns, rfl, hS, hl, fun D A B H' dk e nD nA => ?_⟩
  refine ⟨Nat.zero_le _, fun p np => ?_⟩
  obtain ⟨o, ho⟩ := hy
  have hD : D ≠ sysModules := fun z => by rw [z, ho] at nD; cases nD
  have hA : A ≠ sysModules := fun z => by rw [z, ho] at nA; cases nA
  let G : Hp := fun b => if b = sysModules then some (.frz o (.own 0)) else none
  have b : Bs (some (D, A, B)) G H' := by
    refine ⟨fun x u h => ?_, ⟨o, if_pos rfl⟩, dk, if_neg hD, if_neg hA⟩
    by_cases c : x = sysModules
    · subst c
      have h' := (if_pos rfl).symm.trans h
      rw [← h']
      exact e _ _ ho
    · have h' := (if_neg c).symm.trans h
      cases h'
  obtain ⟨m, hm⟩ : ∃ m, N.length = m + 3 := ⟨N.length - 3, by omega⟩
  have es : ((start N [.ref a]).set 1 (some (.ref D))).set 2 (some (.ref p)) = some (.ref a) :: some (.ref D) :: some (.ref p) :: List.replicate m none := by
    unfold L2.start
    rw [hm]
    show ((some (V.ref a) :: List.replicate (m + 2) none).set 1 (some (.ref D))).set 2 (some (.ref p)) = _
    rw [List.replicate_succ, List.replicate_succ]
    rfl
  have em : N.length - 3 = m := by omega
  have st1 : Stp (some (D, A, B)) G H' G (upd H' p (.lst [])) := .hide b np
  refine ⟨Nat.le_of_ble_eq_true rfl, fun t nt => ?_⟩
  have st2 : Stp (some (D, A, B)) G (upd H' p (.lst [])) G (upd (upd H' p (.lst [])) t (.tup [.ref D, .ref p])) := .hide (b.go st1) nt
  have ntp : p ≠ t := fun z => by rw [← z, upd_same] at nt; cases nt
  refine ⟨t, _, rfl, SqT.of upd_same, rfl, .ref D, _, rfl, .ref p, _, rfl, rfl, ?_⟩
  show u _ (((start N [.ref a]).set 1 (some (.ref D))).set 2 (some (.ref p))) _
  rw [es]
  have h := h (some (D, A, B))
  rw [em] at h
  have st := st1.trans st2
  have cell : ∀ (i : Nat) (c : Cell), (Cell.e .un :: .e .deck :: .lst [] :: List.replicate m (.e .un))[i]? = some c → isOwn c = true → i = 2 := fun i c hc o => by
    match i, hc with
    | 0, hc => cases hc; cases o
    | 1, hc => cases hc; cases o
    | 2, hc => rfl
    | i + 3, hc =>
      have hc' : (List.replicate m (Cell.e .un))[i]? = some c := hc
      have := List.eq_of_mem_replicate (List.mem_of_getElem? hc')
      subst this
      cases o
  refine h G H' G b _ ⟨fun v d G' H2 r s hd => ?_, fun _ _ _ _ _ r => r.elim, fun _ _ _ _ r => r.elim, fun _ _ _ _ r => r.elim⟩ (fun _ _ _ _ n => n.elim) _ G _ (Ex.refl _) ⟨st, fun i c hc => ?_, fun i j c d p n h1 h2 o1 o2 s1 s2 => n ((cell i c h1 o1).trans (cell j d h2 o2).symm)⟩
  · have r' : d = .bool true := r
    subst r'
    exact dq_bl hd
  · match i, hc with
    | 0, hc => cases hc; exact ⟨_, rfl, trivial⟩
    | 1, hc => cases hc; exact ⟨_, rfl, D, A, B, rfl, rfl⟩
    | 2, hc => cases hc; exact ⟨_, rfl, p, [], rfl, (upd_ne ntp).trans upd_same, np, none_of b.ex np, .nil⟩
    | i + 3, hc =>
      have hc' : (List.replicate m (Cell.e .un))[i]? = some c := hc
      have hk := (List.getElem?_eq_some_iff.mp hc').1
      rw [List.length_replicate] at hk
      have := List.eq_of_mem_replicate (List.mem_of_getElem? hc')
      subst this
      refine ⟨none, ?_, trivial⟩
      show (List.replicate m (none : Option V))[i]? = some none
      rw [List.getElem?_replicate, if_pos hk]
end FF
set_option maxHeartbeats 4000000
namespace FF
open PySem PySem.Spec PyProof.Rows L2 Evl
/-! ### a comprehension within another one -/
theorem lookup_re {env : Env} : ∀ {names : List (Str × NameKind)} {x : Str} {k : NameKind}, k = .cell ∨ k = .free → names.lookup x = some k →
    (names.map fun (n, k) => if (k == NameKind.free && env.scope.kind == .function && env.kindOf n == some .cell) then (n, NameKind.cell) else (n, k)).lookup x = some .cell ∨
    (names.map fun (n, k) => if (k == NameKind.free && env.scope.kind == .function && env.kindOf n == some .cell) then (n, NameKind.cell) else (n, k)).lookup x = some .free
  | [], _, _, _, h => by simp at h
  | (n, k) :: r, x, k', hk, h => by
    have ih := @lookup_re env r x k' hk
    show List.lookup x ((if (k == NameKind.free && env.scope.kind == .function && env.kindOf n == some .cell) = true then (n, NameKind.cell) else (n, k)) :: _) = _ ∨ List.lookup x ((if (k == NameKind.free && env.scope.kind == .function && env.kindOf n == some .cell) = true then (n, NameKind.cell) else (n, k)) :: _) = _
    cases hx : x == n with
    | true =>
      simp only [List.lookup_cons, hx] at h
      cases h
      by_cases hc : (k == NameKind.free && env.scope.kind == .function && env.kindOf n == some .cell) = true
      · rw [if_pos hc]; simp [List.lookup_cons, hx]
      · rw [if_neg hc]; simp only [List.lookup_cons, hx]
        rcases hk with e | e
        · exact .inl (by rw [e])
        · exact .inr (by rw [e])
    | false =>
      simp only [List.lookup_cons, hx] at h
      by_cases hc : (k == NameKind.free && env.scope.kind == .function && env.kindOf n == some .cell) = true
      · rw [if_pos hc]; simp only [List.lookup_cons, hx]; exact ih h
      · rw [if_neg hc]; simp only [List.lookup_cons, hx]; exact ih h
theorem blkOk_re {N : List Str} {sc scope : Scope} {env : Env} {own : List (Str × Nat)} (h : blkC N sc scope own = true) : BlkOk N (relabel sc env) scope own := by
  have b := blkOk_by h
  refine ⟨b.kind, b.uniq, b.ix, fun y hy e => ?_, b.own⟩
  rcases b.free y hy e with z | z
  · exact lookup_re (.inl rfl) z
  · exact lookup_re (.inr rfl) z
/-! ### comprehensions of two sources -/
def lc2C {α β γ : Type} : List α → List γ → (α → (Bool → Prop) → Prop) → (α → (List β → Prop) → Prop) → (α → β → (Bool → Prop) → Prop) → (α → β → (γ → Prop) → Prop) → (List γ → Prop) → Prop
  | [], acc, _, _, _, _, R => R acc
  | a :: l, acc, t, mi, t1, f, R => t a fun c => cnd c (mi a fun bs => lcC bs acc (t1 a) (f a) fun acc' => lc2C l acc' t mi t1 f R) (lc2C l acc t mi t1 f R)
section
variable {K : PySem.W.Frag} {Z : Zk} {ρ : List Cell} {te : TE} {α β γ : Type} {e : γ → PyData} {e1 : α → PyData} {e2 : β → PyData}
theorem drop_cons {α : Type} {l : List α} {i : Nat} {a : α} (h : l[i]? = some a) : l.drop i = a :: l.drop (i + 1) := by
  have hi : i < l.length := (List.getElem?_eq_some_iff.mp h).1
  rw [List.drop_eq_getElem_cons hi]
  congr 1
  exact Option.some.inj ((List.getElem?_eq_getElem hi).symm.trans h)
theorem rfo_lc2 {wi wi1 : TI} {g g1 : TG} {tt tt1 : TT} {vs vs1 is is1 : List Nat} {un un1 : PyData → List PyData → Prop} {ml : (List α → Prop) → Prop} {mt : α → (Bool → Prop) → Prop} {mi : α → (List β → Prop) → Prop} {mt1 : α → β → (Bool → Prop) → Prop} {mf : α → β → (γ → Prop) → Prop} (sp : α → List PyData) (sp1 : β → List PyData)
    (hi : RefI K Z e1 wi ρ ml) (hg : SG K g is un) (his : ∀ i ∈ is, i ∈ vs) (hs : ∀ a, un (e1 a) (sp a) ∧ (sp a).length = is.length) (ht : ∀ a, RefB K Z tt (setC (wipeC ρ vs) is (sp a)) (mt a))
    (hi1 : ∀ a, RefI K Z e2 wi1 (setC (wipeC ρ vs) is (sp a)) (mi a)) (hg1 : SG K g1 is1 un1) (his1 : ∀ i ∈ is1, i ∈ vs1) (hs1 : ∀ b, un1 (e2 b) (sp1 b) ∧ (sp1 b).length = is1.length)
    (ht1 : ∀ a b, RefB K Z tt1 (setC (wipeC (setC (wipeC ρ vs) is (sp a)) vs1) is1 (sp1 b)) (mt1 a b)) (he : ∀ a b, Ref K Z e te (setC (wipeC (setC (wipeC ρ vs) is (sp a)) vs1) is1 (sp1 b)) (mf a b)) :
    RefO K Z e (tLc2 wi g tt wi1 g1 tt1 te vs vs1) ρ (fun R => ml fun l => lc2C l [] mt mi mt1 mf R) := fun R hR Ga Ha ba σ G H rel Q q =>
  hi _ hR Ga Ha ba σ G H rel _ fun J ds G0 H0 ⟨l, hds, h0⟩ s0 fd D nD => by
    subst hds
    have b := rel.bs ba
    have b0 := b.go s0
    have nD0 : H D = none := freshBack b s0 nD
    have rel0 := rel.step ba s0
    have ll : (l.map e1).length = l.length := List.length_map ..
    refine ⟨fun i m H' => m = l.length - i ∧ i ≤ l.length ∧ ∃ G' us ac, Stp Z G0 H0 G' H' ∧ G' D = none ∧ H' D = some (.lst us) ∧ DqA K G' us (ac.map e) ∧ lc2C (l.drop i) ac mt mi mt1 mf R, ⟨l.length, by simp, Nat.zero_le _, G0, [], [], .hide b0 nD, none_of b0.ex nD, upd_same, .nil, h0⟩, ?_⟩
    rintro i m H1 ⟨rfl, hile, G1, us, ac, s1, n1, g1, ha, p⟩
    have b1 := b0.go s1
    obtain ⟨hstop, hgo⟩ := fd i G1 H1 s1.g b1
    by_cases hlt : i < l.length
    · have hla : l[i]? = some l[i] := List.getElem?_eq_getElem hlt
      generalize l[i] = a at hla
      obtain ⟨hgo1, hy⟩ := hgo (e1 a) (by rw [List.getElem?_map, hla]; rfl)
      rw [drop_cons hla] at p
      unfold lc2C at p
      refine .inr ⟨hgo1, fun H' => ∃ G' us ac, Stp Z G0 H0 G' H' ∧ G' D = none ∧ H' D = some (.lst us) ∧ DqA K G' us (ac.map e) ∧ lc2C (l.drop (i + 1)) ac mt mi mt1 mf R, fun H' p' => ⟨l.length - (i + 1), by omega, rfl, hlt, p'⟩, fun x H2 y => ?_⟩
      obtain ⟨G2, s2, hd⟩ := hy x H2 y
      have b2 := b1.go s2
      refine hg x _ (wipe σ vs) G2 H2 (sp a) b2.ex hd (hs a).1 _ fun ws hw hwl => ⟨by rw [wipe_setA _ _ _ his, wipe_wipe], ?_⟩
      have s02 := s1.trans s2
      have sl : Rel K Z Ga Ha (setA (wipe σ vs) is ws) (setC (wipeC ρ vs) is (sp a)) G2 H2 := ((rel0.step ba s02).wipe vs).setA hw
      refine ht a _ p Ga Ha ba _ G2 H2 sl _ fun c G3 H3 rc s3 => ?_
      have s03 := s02.trans s3
      have b3 := b2.go s3
      have keep : ∀ {G' H' : Hp}, Stp Z G1 H1 G' H' → G' D = none ∧ H' D = some (.lst us) := fun st => ⟨st.n D _ n1 g1 rfl, st.k D _ g1 (b0.dk.ne nD)⟩
      cases c with
      | false =>
        refine iteF ?_
        obtain ⟨k1, k2⟩ := keep (s2.trans s3)
        exact ⟨G3, us, ac, s03, k1, k2, DqA.ex (s2.trans s3).g _ _ ha, rc.2 rfl⟩
      | true =>
        refine iteT ?_
        have sl3 := sl.step ba s3
        refine hi1 a _ (rc.1 rfl) Ga Ha ba _ G3 H3 sl3 _ fun J1 ds1 G4 H4 ⟨bs, hbs, hb0⟩ s4 fd1 => ?_
        subst hbs
        have s24 := (s2.trans s3).trans s4
        have s04 := s03.trans s4
        obtain ⟨k1, k2⟩ := keep s24
        have e24 : Ex G2 G4 := s3.g.trans s4.g
        refine ⟨fun j k H' => k = bs.length - j ∧ j ≤ bs.length ∧ ∃ G' us ac, Stp Z G0 H0 G' H' ∧ Ex G4 G' ∧ G' D = none ∧ H' D = some (.lst us) ∧ DqA K G' us (ac.map e) ∧ lcC (bs.drop j) ac (mt1 a) (mf a) (fun acc' => lc2C (l.drop (i + 1)) acc' mt mi mt1 mf R), ⟨bs.length, by simp, Nat.zero_le _, G4, us, ac, s04, Ex.refl _, k1, k2, DqA.ex s24.g _ _ ha, hb0⟩, ?_⟩
        rintro j k H5 ⟨rfl, hjle, G5, us5, ac5, s5, e5, n5, g5, ha5, p5⟩
        have b5 := b0.go s5
        obtain ⟨hstop1, hgoo⟩ := fd1 j G5 H5 e5 b5
        by_cases hlt1 : j < bs.length
        · have hbj : bs[j]? = some bs[j] := List.getElem?_eq_getElem hlt1
          generalize bs[j] = bb at hbj
          obtain ⟨hgo2, hy2⟩ := hgoo (e2 bb) (by rw [List.getElem?_map, hbj]; rfl)
          rw [drop_cons hbj] at p5
          unfold lcC at p5
          refine .inr ⟨hgo2, fun H' => ∃ G' us ac, Stp Z G0 H0 G' H' ∧ Ex G4 G' ∧ G' D = none ∧ H' D = some (.lst us) ∧ DqA K G' us (ac.map e) ∧ lcC (bs.drop (j + 1)) ac (mt1 a) (mf a) (fun acc' => lc2C (l.drop (i + 1)) acc' mt mi mt1 mf R), fun H' p' => ⟨bs.length - (j + 1), by omega, rfl, hlt1, p'⟩, fun x1 H6 y1 => ?_⟩
          obtain ⟨G6, s6, hd6⟩ := hy2 x1 H6 y1
          have b6 := b5.go s6
          refine hg1 x1 _ (wipe (setA (wipe σ vs) is ws) vs1) G6 H6 (sp1 bb) b6.ex hd6 (hs1 bb).1 _ fun ws1 hw1 hwl1 => ⟨by rw [wipe_setA _ _ _ his1, wipe_wipe], ?_⟩
          have s06 := s5.trans s6
          have sl6 := ((((rel0.step ba s06).wipe vs).setA (is := is) (DqA.ex ((e24.trans e5).trans s6.g) _ _ hw)).wipe vs1).setA (is := is1) hw1
          refine ht1 a bb _ p5 Ga Ha ba _ G6 H6 sl6 _ fun c G7 H7 rc7 s7 => ?_
          have s07 := s06.trans s7
          have keep5 : ∀ {G' H' : Hp}, Stp Z G5 H5 G' H' → G' D = none ∧ H' D = some (.lst us5) := fun st => ⟨st.n D _ n5 g5 rfl, st.k D _ g5 (b0.dk.ne nD)⟩
          cases c with
          | false =>
            refine iteF ?_
            obtain ⟨k1, k2⟩ := keep5 (s6.trans s7)
            exact ⟨G7, us5, ac5, s07, (e5.trans s6.g).trans s7.g, k1, k2, DqA.ex (s6.trans s7).g _ _ ha5, rc7.2 rfl⟩
          | true =>
            refine iteT ?_
            obtain ⟨hl7, hf7⟩ := rc7.1 rfl
            refine he a bb _ hf7 Ga Ha ba _ G7 H7 (sl6.step ba s7) _ fun y8 d8 G8 H8 ⟨yy, hyy, h8⟩ s8 hy8 => ?_
            subst hyy
            have s58 := (s6.trans s7).trans s8
            obtain ⟨k1, k2⟩ := keep5 s58
            refine ⟨us5, k2, by rw [ha5.len, List.length_map]; exact sz_lt hl7, G8, us5 ++ [y8], ac5 ++ [yy], (s07.trans s8).mut b0 nD k1 k2, e5.trans s58.g, k1, upd_same, ?_, h8⟩
            have := (DqA.ex s58.g _ _ ha5).app (.cons hy8 .nil)
            rw [List.map_append]
            exact this
        · have ej : j = bs.length := by omega
          subst ej
          rw [List.drop_length] at p5
          exact .inl ⟨hstop1 (by rw [List.length_map]), G5, us5, ac5, s5, n5, g5, ha5, p5⟩
    · have ei : i = l.length := by omega
      subst ei
      rw [List.drop_length] at p
      refine .inl ⟨hstop (by rw [ll]), q D us (ac.map e) G1 H1 ⟨ac, rfl, p⟩ (s0.trans s1) nD0 n1 g1 ha⟩
end
end FF
namespace FF
open PySem PySem.Spec PyProof.Rows L2 Evl
/-! ### built-ins within comprehensions: the fragment from outside -/
section
variable {X : Cx} {K : PySem.W.Frag}
theorem cr_anyE (h : X.K = K) (hc : X.calm = true) : CallR X (.builtin "any") (rAny K) := by subst h; exact cr_any hc
theorem cr_allE (h : X.K = K) (hc : X.calm = true) : CallR X (.builtin "all") (rAll K) := by subst h; exact cr_all hc
theorem cr_sumE (h : X.K = K) (hc : X.calm = true) : CallR X (.builtin "sum") (rSum K) := by subst h; exact cr_sum hc
theorem cr_maxE (h : X.K = K) (hc : X.calm = true) : CallR X (.builtin "max") (rMax K) := by subst h; exact cr_max hc
theorem cr_minE (h : X.K = K) (hc : X.calm = true) : CallR X (.builtin "min") (rMin K) := by subst h; exact cr_min hc
theorem callReprVE (h : X.K = K) (hg : X.A.guards = some []) (hu : X.A.units + 64 < cLine) : CallR X (.builtin "repr") (rReprV K) := by subst h; exact callReprV hg hu
theorem cr_sortedAE (h : X.K = K) : CallR X (.builtin "sorted") (rSortedA K) := by subst h; exact cr_sortedA
def rTupleK (K : PySem.W.Frag) : List V → Hp → VK → Prop := rTupleC K
def rListK (K : PySem.W.Frag) : List V → Hp → VK → Prop := rListC K
theorem call_tupleE (h : X.K = K) : CallR X (.type "tuple") (rTupleK K) := by subst h; exact call_tuple_of
theorem call_listE (h : X.K = K) : CallR X (.type "list") (rListK K) := by subst h; exact call_list_of
end
section
variable {K : PySem.W.Frag} {Z : Zk} {ρ : List Cell} {ta : TE} {γ : Type} {e : γ → PyData} {m1 : (List γ → Prop) → Prop}
theorem rf_tupLK (h1 : Ref K Z (eL e) ta ρ m1) : Ref K Z (eT e) (tCB (rTupleK K) (tCons ta tNil)) ρ m1 := rf_tupL h1
theorem rf_tupTK (h1 : Ref K Z (eT e) ta ρ m1) : Ref K Z (eT e) (tCB (rTupleK K) (tCons ta tNil)) ρ m1 := rf_tupT h1
theorem rfo_listTK (h1 : Ref K Z (eT e) ta ρ m1) : RefO K Z e (tCB (rListK K) (tCons ta tNil)) ρ m1 := rfo_listT h1
theorem rfo_listLK (h1 : Ref K Z (eL e) ta ρ m1) : RefO K Z e (tCB (rListK K) (tCons ta tNil)) ρ m1 := rfo_listL h1
end
end FF
namespace FF
open PySem PySem.Spec PyProof.Rows L2 Evl
section
variable {X : Cx} {K : PySem.W.Frag} {tg : Expr}
theorem ix_tupE (h : X.K = K) : IxR X (rIxT K) := by subst h; exact ix_tup
theorem ix_listE (h : X.K = K) : IxR X (rIxL K) := by subst h; exact ix_list
theorem sl_tupAE (h : X.K = K) : SlR X (rSlA K) := by subst h; exact sl_tupA
theorem sl_listE (h : X.K = K) : SlR X (rSlL K) := by subst h; exact sl_list
theorem op_in_seqE (h : X.K = K) : OpR X (compareOp .In) (rIn K false) := by subst h; exact op_in_seq
theorem op_notIn_seqE (h : X.K = K) : OpR X (compareOp .NotIn) (rIn K true) := by subst h; exact op_notIn_seq
theorem op_eqDE (h : X.K = K) (hu : X.A.units + 64 < cLine) : OpR X (compareOp .Eq) (rEqD K) := by subst h; exact op_eqD hu
theorem op_neDE (h : X.K = K) (hu : X.A.units + 64 < cLine) : OpR X (compareOp .NotEq) (rNeD K) := by subst h; exact op_neD hu
theorem op_eqNilLE (h : X.K = K) (hu : X.A.units < cLine) : OpR X (compareOp .Eq) (rEqNilL K) := by subst h; exact op_eqNilL hu
theorem op_neNilLE (h : X.K = K) (hu : X.A.units < cLine) : OpR X (compareOp .NotEq) (rNeNilL K) := by subst h; exact op_neNilL hu
theorem op_inDE (h : X.K = K) (hu : X.A.units + 65 < cLine) : OpR X (compareOp .In) (rInD K) := by subst h; exact op_inD hu
theorem op_notinDE (h : X.K = K) (hu : X.A.units + 65 < cLine) : OpR X (compareOp .NotIn) (rNotInD K) := by subst h; exact op_notInD hu
theorem op_notinD {X : Cx} (hu : X.A.units + 65 < cLine) : OpR X (compareOp .NotIn) (rNotInD X.K) := op_notInD hu
theorem call_isiE (h : X.K = K) : CallR X (.builtin "isinstance") (rIsi K) := by subst h; exact call_isi
theorem pi_listE (h : X.K = K) {l : Expr} {tl : TE} (hl : PE X l tl) : PI X tg l (iList K tl) := by subst h; exact pi_list hl
theorem pi_tupE (h : X.K = K) {l : Expr} {tl : TE} (hl : PE X l tl) : PI X tg l (iTup K tl) := by subst h; exact pi_tup hl
theorem pi_enTE (h : X.K = K) {e : Expr} {ta : TA} {p pos tp : Pos} {elts : List Expr} {kk : Nat} (hg : Gl X "enumerate") (hm : X.mg "enumerate" = none) (ha : PA X [e] ta) (hs : starEach [e] X.env = [(false, eval e X.env)] := by rfl) :
    PI X (.Tuple elts kk tp) (.Call (.Name "enumerate" p) [e] [] pos) (iEnT K ta) := by subst h; exact pi_enT hg hm ha hs
theorem pi_enumE (h : X.K = K) {e : Expr} {ta : TA} {p pos tp : Pos} {elts : List Expr} {kk : Nat} (hg : Gl X "enumerate") (hm : X.mg "enumerate" = none) (ha : PA X [e] ta) (hs : starEach [e] X.env = [(false, eval e X.env)] := by rfl) :
    PI X (.Tuple elts kk tp) (.Call (.Name "enumerate" p) [e] [] pos) (iEnum K ta) := by subst h; exact pi_enum hg hm ha hs
theorem pe_revTE (h : X.K = K) {e : Expr} {te : TE} {k : Nat} {p1 p2 p3 pos : Pos} (he : PE X e te) : PE X (.Subscript e (.Slice none none (some (.UnaryOp .USub (.Constant (.int 1) k p1) p2)) p3) pos) (tRevT K te) := by subst h; exact pe_revT he
end
theorem ints_from {l : List Int} : ∀ {ys : List PyData}, (∀ y ∈ ys, y ∈ l.map PyData.int) → ∃ zs : List Int, ys = zs.map .int ∧ ∀ z ∈ zs, z ∈ l
  | [], _ => ⟨[], rfl, fun _ h => nomatch h⟩
  | y :: ys, h => by
    obtain ⟨zs, rfl, hz⟩ := ints_from fun x hx => h x (List.mem_cons_of_mem _ hx)
    obtain ⟨z, hz2, rfl⟩ := List.mem_map.mp (h y (List.mem_cons_self ..))
    exact ⟨z :: zs, rfl, fun a ha => by
      rcases List.mem_cons.mp ha with e | e
      · rw [e]; exact hz2
      · exact hz a e⟩
end FF
set_option maxHeartbeats 4000000
/-! zip of a tuple or a list and a tuple or a list -/
namespace FF
open PySem PySem.Spec PyProof.Rows L2 Evl
def SqK (b : Bool) (K : PySem.W.Frag) (H : Hp) (a : Addr) (xs : List V) : Prop := match b with
  | true => SqT K H a xs
  | false => SqL K H a xs
def ItK (b : Bool) (h : Heap) (it l : Addr) (i : Nat) : Prop := match b with
  | true => h.IsTupleIter it l i
  | false => h.IsListIter it l i
def SeqK (b : Bool) (h : Heap) (l : Addr) (items : Array Value) : Prop := match b with
  | true => h.IsTuple l items
  | false => h.IsList l items
theorem ItK.at' {b : Bool} {h h' : Heap} {a t i} (x : ItK b h a t i) (e : ∀ o, h.get? a = some o → h'.get? a = some o) : ItK b h' a t i := match b, x with
  | true, x => Heap.IsTupleIter.at x e
  | false, x => Heap.IsListIter.at x e
theorem ItK.obj {b : Bool} {h : Heap} {a t i} (x : ItK b h a t i) : ∃ o, h.get? a = some o ∧ ∀ v, o.data ≠ .cell v := match b, x with
  | true, ⟨o, e, _, d⟩ => ⟨o, e, fun v q => by rw [d] at q; cases q⟩
  | false, ⟨o, e, _, d⟩ => ⟨o, e, fun v q => by rw [d] at q; cases q⟩
theorem SeqK.lt {b : Bool} {h : Heap} {a : Addr} {xs} (x : SeqK b h a xs) : a < h.objs.size := match b, x with
  | true, ⟨o, e, _⟩ => Heap.lt_size e
  | false, ⟨o, e, _⟩ => Heap.lt_size e
theorem drawsK {prog : Program} {w : World} {A : Around} (hh : A.handled = none) (b : Bool) (it l : Addr) (hne : l ≠ it) (items : Array Value) :
    Draws prog w A it [it, l] items.size (fun i v => items[i]? = some v) (fun i h => ItK b h it l i ∧ SeqK b h l items) := match b with
  | true => Draws.tuple hh it l hne items
  | false => Draws.list hh it l hne items
def objK (b : Bool) (l : Addr) : Obj := match b with
  | true => { cls := .type "tuple_iterator", data := .fields #[.ref l, .int 0 0] }
  | false => { cls := .type "list_iterator", data := .fields #[.ref l, .int 0 0] }
theorem beginsK (b : Bool) (l : Addr) (items : Array Value) : Begins (.ref l) (objK b l) (fun h => SeqK b h l items) := match b with
  | true => begins_tuple l items
  | false => begins_list l items
theorem itK_0 {b : Bool} {h : Heap} {it l : Addr} (e : h.get? it = some (objK b l)) : ItK b h it l 0 := match b, e with
  | true, e => ⟨_, e, rfl, rfl⟩
  | false, e => ⟨_, e, rfl, rfl⟩
section
variable {X : Cx} {pins : List (Addr × Obj)} {σ : L2.St} {H : Hp} {s : Shared} {a : Addr} {xs ys : List V}
theorem seqK_of (I : Inv X pins σ H s) {b : Bool} (h : SqK b X.K H a xs) : ∃ its : List Value, Vals xs its ∧ SeqK b s.heap a its.toArray := match b, h with
  | true, h => let ⟨its, r, p, _⟩ := I.tuple h; ⟨its, r, p⟩
  | false, h => let ⟨its, r, p, _⟩ := I.list h; ⟨its, r, p.isList⟩
theorem seqK_inj (I : Inv X pins σ H s) {b : Bool} (h : SqK b X.K H a xs) (h' : SqK b X.K H a ys) : xs = ys := match b, h, h' with
  | true, h, h' => I.tuple_inj h h'
  | false, h, h' => I.list_inj h h'
end
def ItzK (K : PySem.W.Frag) (b1 b2 : Bool) (a b : Addr) : It :=
  ⟨fun i H => ∃ (xs ys : List V) (x y : V), SqK b1 K H a xs ∧ SqK b2 K H b ys ∧ xs[i]? = some x ∧ ys[i]? = some y,
    fun i H v H' => ∃ T x y, v = .ref T ∧ H T = none ∧ H' = upd H T (.tup [x, y]) ∧ (∀ xs, SqK b1 K H a xs → xs[i]? = some x) ∧ ∀ ys, SqK b2 K H b ys → ys[i]? = some y,
    fun i H => ∃ xs ys : List V, SqK b1 K H a xs ∧ SqK b2 K H b ys ∧ i = min xs.length ys.length⟩
theorem turn_zipK {P : Program} {w : World} {K : PySem.W.Frag} {elts : List Expr} {kk : Nat} {tpos : Pos} {b1 b2 : Bool} {a b z TI TO i1 i2 : Addr} (S : ZipSep2 z TI TO i1 i2 [i1, a] [i2, b]) (ha : a ≠ i1) (hb : b ≠ i2) :
    Turn P w K (.Tuple elts kk tpos) (ItzK K b1 b2 a b) [z, TI, TO, i1, i2] z (fun i h => IsZip h z TI TO .none ∧ IsTupOf2 h TI (.ref i1) (.ref i2) ∧ (∃ x y, IsTupOf2 h TO x y) ∧ ItK b1 h i1 a i ∧ ItK b2 h i2 b i) where
  mem := by simp
  obj := fun i h st c hc => by
    obtain ⟨hz, hTI, ⟨x, y, hTO⟩, h1, h2⟩ := st
    have e' : c = z ∨ c = TI ∨ c = TO ∨ c = i1 ∨ c = i2 := by simpa using hc
    rcases e' with q | q | q | q | q
    · rw [q]; exact ⟨_, hz, fun v q => nomatch q⟩
    · rw [q]; exact ⟨_, hTI, fun v q => nomatch q⟩
    · rw [q]; exact ⟨_, hTO, fun v q => nomatch q⟩
    · rw [q]; exact h1.obj
    · rw [q]; exact h2.obj
  keep := fun i h h' st k => by
    obtain ⟨hz, hTI, ⟨x, y, hTO⟩, h1, h2⟩ := st
    exact ⟨k z (by simp) _ hz, k TI (by simp) _ hTI, ⟨x, y, k TO (by simp) _ hTO⟩, h1.at' fun o q => k i1 (by simp) o q, h2.at' fun o q => k i2 (by simp) o q⟩
  item := by
    intro X hP hw hK hc i pins s σ H E I hf st hg
    subst hP hw hK
    obtain ⟨hz, hTI, ⟨x0, y0, hTO⟩, h1, h2⟩ := st
    obtain ⟨xs, ys, x, y, hqx, hqy, hx, hy⟩ := hg
    obtain ⟨its, rv, p⟩ := seqK_of I hqx
    obtain ⟨its2, rv2, p2⟩ := seqK_of I hqy
    obtain ⟨u, hu, ru⟩ := rv.get hx
    obtain ⟨u2, hu2, ru2⟩ := rv2.get hy
    have hzl : z < s.heap.objs.size := Heap.lt_size hz
    have l1 : i < its.toArray.size := by rw [List.size_toArray]; exact (List.getElem?_eq_some_iff.mp hu).1
    have l2 : i < its2.toArray.size := by rw [List.size_toArray]; exact (List.getElem?_eq_some_iff.mp hu2).1
    have D1 := drawsK (prog := X.prog) (w := X.w) (A := X.A.in1) (show X.A.in1.handled = none from I.ok.hd hc) b1 i1 a ha its.toArray
    have D2 := drawsK (prog := X.prog) (w := X.w) (A := X.A.in1) (show X.A.in1.handled = none from I.ok.hd hc) b2 i2 b hb its2.toArray
    refine wpAny_pyNext_zipD2_item (i := i) S D1 D2 hz hTI hTO ⟨h1, p⟩ ⟨h2, p2⟩ l1 l2 fun w1 w2 h' tk e1 e2 z' TO' h1' h2' hT hsz hk => ?_
    have e1' : u = w1 := by
      have : its[i]? = some w1 := by simpa using e1
      exact Option.some.inj (hu.symm.trans this)
    have e2' : u2 = w2 := by
      have : its2[i]? = some w2 := by simpa using e2
      exact Option.some.inj (hu2.symm.trans this)
    subst e1' e2'
    refine ⟨_, rfl, wpAny_letOwnedTupleGo_zip (s := { s with heap := h', toks := tk }) z' fun h'' z'' sb => ?_⟩
    have hT2 : h''.get? s.heap.objs.size = some { cls := .type "tuple", data := .seq #[u, u2] } := (sb.2 _ (Nat.ne_of_gt hzl)).trans hT
    have new : ObjOk X.prog X.w (upd H s.heap.objs.size (.tup [x, y])) h'' s.heap.objs.size (.tup [x, y]) :=
      ⟨by show 2 ≤ sizeLine; decide, [u, u2], .cons ru (.cons ru2 .nil), ⟨_, hT2, rfl, _, rfl⟩⟩
    have I1 : Inv X pins σ (upd H s.heap.objs.size (.tup [x, y])) { s with heap := h'', toks := tk } :=
      I.turnedNew (t' := tk) (ch := [z, TI, TO, i1, i2]) (fun c o hb q => (sb.2 c (fun q' => hb (by simp [q']))).trans (hk c o (fun q' => hb (by simp [q'])) (fun q' => hb (by simp [q'])) (fun q' => hb (by simp [q'])) (fun q' => hb (by simp [q'])) q)) hf (Nat.le_refl _) new
    refine ⟨.ref s.heap.objs.size, _, I1, rfl, ⟨_, x, y, rfl, I.hok.fresh (Nat.le_refl _), rfl, fun l hl => by rw [seqK_inj I hl hqx]; exact hx, fun l hl => by rw [seqK_inj I hl hqy]; exact hy⟩, ⟨z'', ?_, ⟨u, u2, ?_⟩, ?_, ?_⟩, fun c hcm => ?_⟩
    · exact (sb.2 _ S.TIz).trans (hk _ _ S.TIz S.TITO S.TIi1 S.TIi2 hTI)
    · exact (sb.2 _ S.TOz).trans TO'
    · exact h1'.1.at' fun o q => (sb.2 _ S.zi1.symm).trans q
    · exact h2'.1.at' fun o q => (sb.2 _ S.zi2.symm).trans q
    · have hlt : c < s.heap.objs.size := by
        have e' : c = z ∨ c = TI ∨ c = TO ∨ c = i1 ∨ c = i2 := by simpa using hcm
        rcases e' with q | q | q | q | q
        · rw [q]; exact hzl
        · rw [q]; exact Heap.lt_size hTI
        · rw [q]; exact Heap.lt_size hTO
        · rw [q]; obtain ⟨_, e1, _⟩ := h1.obj; exact Heap.lt_size e1
        · rw [q]; obtain ⟨_, e2, _⟩ := h2.obj; exact Heap.lt_size e2
      rw [upd_ne (Nat.ne_of_lt hlt)]
      exact (hf c hcm).1
  done := by
    intro X hP hw hK hc i pins s σ H E I hf st hg
    subst hP hw hK
    obtain ⟨hz, hTI, ⟨x0, y0, hTO⟩, h1, h2⟩ := st
    obtain ⟨xs, ys, hqx, hqy, hend⟩ := hg
    obtain ⟨its, rv, p⟩ := seqK_of I hqx
    obtain ⟨its2, rv2, p2⟩ := seqK_of I hqy
    have l1 := rv.length
    have l2 := rv2.length
    have D1 := drawsK (prog := X.prog) (w := X.w) (A := X.A.in1) (show X.A.in1.handled = none from I.ok.hd hc) b1 i1 a ha its.toArray
    have D2 := drawsK (prog := X.prog) (w := X.w) (A := X.A.in1) (show X.A.in1.handled = none from I.ok.hd hc) b2 i2 b hb its2.toArray
    refine wpAny_pyNext_zipD2_end (i := i) S D1 D2 hz hTI hTO ⟨h1, p⟩ ⟨h2, p2⟩ (by rw [List.size_toArray]; omega) (by rw [List.size_toArray]; omega) (by rw [List.size_toArray, List.size_toArray]; omega) fun h' tk hk => ⟨rfl, I.turnedL (t' := tk) (ch := [z, TI, TO, i1, i2]) (fun c o hb q =>
      hk c o (fun q' => hb (by simp [q'])) (fun q' => hb (by simp [q'])) (fun q' => hb (by simp [q'])) (fun q' => hb (by simp [q'])) q) hf⟩
  self := fun A i s Q E st h => wpAny_pyIter_zip st.1 h
def iZipK (K : PySem.W.Frag) (b1 b2 : Bool) (ta : TA) : TI := fun σ H R => ta σ H fun vs H1 => ∃ a b xs ys, vs = [.ref a, .ref b] ∧ SqK b1 K H1 a xs ∧ SqK b2 K H1 b ys ∧ R (ItzK K b1 b2 a b) H1
theorem pi_zipK {X : Cx} (b1 b2 : Bool) {e e2 : Expr} {ta : TA} {p pos tpos : Pos} {elts : List Expr} {kk : Nat} (hg : Gl X "zip") (hm : X.mg "zip" = none) (ha : PA X [e, e2] ta)
    (hs : starEach [e, e2] X.env = (false, eval e X.env) :: starEach [e2] X.env := by rfl) (hpl : (backTo pos (starEach [e2] X.env)).any (·.1) = false := by rfl) :
    PI X (.Tuple elts kk tpos) (.Call (.Name "zip" p) [e, e2] [] pos) (iZipK X.K b1 b2 ta) := by
  refine ⟨fun pins s σ H R I h => ?_⟩
  refine Call_ (ld_blt I hg hm PyProof.Rows.boot_zip (PyProof.Rows.callWith_type1 (thn (ha.run pos pins s σ H _ I h) fun us s1 ⟨vs, H1, I1, r1, q1⟩ => ?_) hs hpl))
  obtain ⟨a, b, xs, ys, ex, hqx, hqy, q⟩ := q1
  subst ex
  cases r1 with
  | cons r rr =>
    cases rr with
    | cons r' rr =>
      cases rr
      cases r
      cases r'
      have fresh5 : ∀ c, c ∈ [s1.heap.objs.size + 4, s1.heap.objs.size + 2, s1.heap.objs.size + 3, s1.heap.objs.size, s1.heap.objs.size + 1] → FpOk X pins H1 c := fun c hcm => by
        have e' : c = s1.heap.objs.size + 4 ∨ c = s1.heap.objs.size + 2 ∨ c = s1.heap.objs.size + 3 ∨ c = s1.heap.objs.size ∨ c = s1.heap.objs.size + 1 := by simpa using hcm
        have hle : s1.heap.objs.size ≤ c := by
          rcases e' with z | z | z | z | z
          · rw [z]; exact Nat.le_add_right _ _
          · rw [z]; exact Nat.le_add_right _ _
          · rw [z]; exact Nat.le_add_right _ _
          · rw [z]; exact Nat.le_refl _
          · rw [z]; exact Nat.le_add_right _ _
        exact I1.fpOk hle (I1.hok.fresh hle)
      obtain ⟨its, rv, p1⟩ := seqK_of I1 hqx
      obtain ⟨its2, rv2, p2⟩ := seqK_of I1 hqy
      have la := p1.lt
      have lb := p2.lt
      refine zip_begins2 (beginsK b1 a its.toArray) (beginsK b2 b its2.toArray) p1 p2 fun h' hz hTI hTO h1 h2 hsz hk => wpAny_pyIter_zip hz ?_
      have I2 : Inv X pins σ H1 { s1 with heap := h' } := I1.kept (t' := s1.toks) hk
      exact ⟨s1.heap.objs.size + 4, [s1.heap.objs.size + 4, s1.heap.objs.size + 2, s1.heap.objs.size + 3, s1.heap.objs.size, s1.heap.objs.size + 1], _, _, H1, rfl, I2, turn_zipK (zip_sep2 (fun c hc => by rw [List.mem_singleton.mp hc]; exact la) (fun c hc => by rw [List.mem_singleton.mp hc]; exact lb)) (Nat.ne_of_lt la) (Nat.ne_of_lt (Nat.lt_succ_of_lt lb)), ⟨hz, hTI, ⟨_, _, hTO⟩, itK_0 h1, itK_0 h2⟩, fresh5, q⟩
/-! ### as data -/
section
variable {K : PySem.W.Frag} {Z : Zk} {η : List Ent} {ta : TA} {te tb : TE} {ρ : List Cell} {α β : Type} {e1 : α → PyData} {e2 : β → PyData}
def encK {α : Type} (b : Bool) (e : α → PyData) (l : List α) : PyData := match b with
  | true => eT e l
  | false => eL e l
theorem dq_K {b : Bool} {G : Hp} {v : V} {l : List α} (h : Dq K G v (encK b e1 l)) : ∃ a xs, v = .ref a ∧ (∀ G' , Ex G G' → SqK b K G' a xs) ∧ DqA K G xs (l.map e1) := match b, h with
  | true, h => let ⟨a, xs, e, ht, ha⟩ := dq_tup h; ⟨a, xs, e, fun G' x => ex_t x ht, ha⟩
  | false, h => let ⟨a, xs, e, ht, ha⟩ := dq_lst h; ⟨a, xs, e, fun G' x => ex_l x ht, ha⟩
theorem walk_zipK {b1 b2 : Bool} {a b : Addr} {xs ys : List V} : Walk (ItzK K b1 b2 a b) (min xs.length ys.length) (fun H => SqK b1 K H a xs ∧ SqK b2 K H b ys) (YPair (fun i => xs[i]?) (fun i => ys[i]?)) := by
  refine ⟨fun i _ hi q => ?_, fun _ q => ⟨xs, ys, q.1, q.2, rfl⟩, fun i H v H' _ q y => ?_⟩
  · have h1 : i < xs.length := by omega
    have h2 : i < ys.length := by omega
    exact ⟨xs, ys, xs[i], ys[i], q.1, q.2, by simp [h1], by simp [h2]⟩
  · obtain ⟨T, x, z, h1, h2, h3, h4, h5⟩ := y
    exact ⟨T, x, z, h1, h2, h3, h4 xs q.1, h5 ys q.2⟩
theorem feed_zip {J : It} {Gp : Hp → Prop} {xs ys : List V} {l : List α} {m : List β} {G : Hp} (w : Walk J (min xs.length ys.length) Gp (YPair (fun i => xs[i]?) (fun i => ys[i]?))) (ha : DqA K G xs (l.map e1)) (hb : DqA K G ys (m.map e2)) (hg : ∀ G1 H1, Ex G G1 → Bs Z G1 H1 → Gp H1) : Feed K Z J ((l.zip m).map (eP e1 e2)) G := by
  have la := ha.len
  have lb := hb.len
  rw [List.length_map] at la lb
  refine feed_of w (by rw [List.length_map, List.length_zip, la, lb]) hg fun i d G1 H1 v H2 e b hd y => ?_
  obtain ⟨T, x, y, rfl, nT, rfl, ex, ey⟩ := y
  rw [List.getElem?_map] at hd
  obtain ⟨p, hp, rfl⟩ := Option.map_eq_some_iff.mp hd
  obtain ⟨h1, h2⟩ := List.getElem?_zip_eq_some.mp hp
  obtain ⟨v1, k1, k2⟩ := ha.getD i (show (l.map e1)[i]? = some (e1 p.1) by rw [List.getElem?_map, h1]; rfl)
  obtain ⟨v2, k3, k4⟩ := hb.getD i (show (m.map e2)[i]? = some (e2 p.2) by rw [List.getElem?_map, h2]; rfl)
  have ev : v1 = x := Option.some.inj (k1.symm.trans ex)
  have ev2 : v2 = y := Option.some.inj (k3.symm.trans ey)
  subst ev ev2
  have x2 := fun (o : HO) => e.trans (Ex.new (o := o) (none_of b.ex nT))
  exact ⟨_, .new b nT, .tup (SqT.of upd_same) (.cons (Dq.ex (x2 _) _ _ k2) (.cons (Dq.ex (x2 _) _ _ k4) .nil))⟩
theorem si_zipK {b1 b2 : Bool} {l : List α} {m : List β} (h : SAQ K Z ta η [encK b1 e1 l, encK b2 e2 m]) : SIQ K Z (iZipK K b1 b2 ta) η ((l.zip m).map (eP e1 e2)) := fun σ G H b s Q q =>
  h σ G H b s _ fun vs es G1 H1 r s1 ha => by
    subst r
    cases ha with
    | cons hd1 ha =>
      cases ha with
      | cons hd2 ha =>
        cases ha
        obtain ⟨a, xs, rfl, ht, hx⟩ := dq_K hd1
        obtain ⟨c, ys, rfl, ht2, hy⟩ := dq_K hd2
        exact ⟨a, c, xs, ys, rfl, ht _ s1.s, ht2 _ s1.s, q _ _ G1 H1 rfl s1 (feed_zip walk_zipK hx hy fun G1 H1 e b => ⟨ht _ (e.trans b.ex), ht2 _ (e.trans b.ex)⟩)⟩
theorem ri_zipK (b1 b2 : Bool) {m1 : (List α → Prop) → Prop} {m2 : (List β → Prop) → Prop} (h1 : Ref K Z (encK b1 e1) te ρ m1) (h2 : Ref K Z (encK b2 e2) tb ρ m2) : RefI K Z (eP e1 e2) (iZipK K b1 b2 (tCons te (tCons tb tNil))) ρ (fun R => m1 fun x => m2 fun y => R (x.zip y)) :=
  rfi_2 (T := fun ta tb => iZipK K b1 b2 (tCons ta (tCons tb tNil))) (fun x y R => R (x.zip y)) (fun _ _ _ _ _ => rfl) h1 h2 fun x y R h => SI.mono (si_zipK (sa_cons v0 (sa_cons v1 sa_nil))) fun ds e => ⟨_, e, h⟩
theorem ri_zipTT {m1 : (List α → Prop) → Prop} {m2 : (List β → Prop) → Prop} (h1 : Ref K Z (eT e1) te ρ m1) (h2 : Ref K Z (eT e2) tb ρ m2) : RefI K Z (eP e1 e2) (iZipK K true true (tCons te (tCons tb tNil))) ρ (fun R => m1 fun x => m2 fun y => R (x.zip y)) := ri_zipK true true h1 h2
theorem ri_zipTL {m1 : (List α → Prop) → Prop} {m2 : (List β → Prop) → Prop} (h1 : Ref K Z (eT e1) te ρ m1) (h2 : Ref K Z (eL e2) tb ρ m2) : RefI K Z (eP e1 e2) (iZipK K true false (tCons te (tCons tb tNil))) ρ (fun R => m1 fun x => m2 fun y => R (x.zip y)) := ri_zipK true false h1 h2
theorem ri_zipLT {m1 : (List α → Prop) → Prop} {m2 : (List β → Prop) → Prop} (h1 : Ref K Z (eL e1) te ρ m1) (h2 : Ref K Z (eT e2) tb ρ m2) : RefI K Z (eP e1 e2) (iZipK K false true (tCons te (tCons tb tNil))) ρ (fun R => m1 fun x => m2 fun y => R (x.zip y)) := ri_zipK false true h1 h2
theorem ri_zipLL {m1 : (List α → Prop) → Prop} {m2 : (List β → Prop) → Prop} (h1 : Ref K Z (eL e1) te ρ m1) (h2 : Ref K Z (eL e2) tb ρ m2) : RefI K Z (eP e1 e2) (iZipK K false false (tCons te (tCons tb tNil))) ρ (fun R => m1 fun x => m2 fun y => R (x.zip y)) := ri_zipK false false h1 h2
end
section
variable {X : Cx} {K : PySem.W.Frag}
theorem pi_zipKE (b1 b2 : Bool) (h : X.K = K) {e e2 : Expr} {ta : TA} {p pos tpos : Pos} {elts : List Expr} {kk : Nat} (hg : Gl X "zip") (hm : X.mg "zip" = none) (ha : PA X [e, e2] ta)
    (hs : starEach [e, e2] X.env = (false, eval e X.env) :: starEach [e2] X.env := by rfl) (hpl : (backTo pos (starEach [e2] X.env)).any (·.1) = false := by rfl) :
    PI X (.Tuple elts kk tpos) (.Call (.Name "zip" p) [e, e2] [] pos) (iZipK K b1 b2 ta) := by subst h; exact pi_zipK b1 b2 hg hm ha hs hpl
end
end FF
set_option maxHeartbeats 4000000
/-! tuples of four and five as targets; xs[::-1] of a list -/
namespace FF
open PySem PySem.Spec PyProof.Rows L2 Evl RZ
section
variable {K : PySem.W.Frag} {Z : Zk} {η : List Ent} {ta te : TE} {ρ : List Cell} {γ : Type} {e : γ → PyData}
theorem len4 {α : Type} {xs : List α} (h : xs.length = 4) : ∃ x y z u, xs = [x, y, z, u] := by
  rcases xs with _ | ⟨x, xs⟩
  · cases h
  obtain ⟨y, z, u, rfl⟩ := len3 (xs := xs) (by simpa using h)
  exact ⟨x, y, z, u, rfl⟩
theorem len5 {α : Type} {xs : List α} (h : xs.length = 5) : ∃ x y z u v, xs = [x, y, z, u, v] := by
  rcases xs with _ | ⟨x, xs⟩
  · cases h
  obtain ⟨y, z, u, v, rfl⟩ := len4 (xs := xs) (by simpa using h)
  exact ⟨x, y, z, u, v, rfl⟩
theorem sg_four {i j l m : Nat} : SG K (gTup K 4 (gCons (gName i) (gCons (gName j) (gCons (gName l) (gCons (gName m) gNil))))) [i, j, l, m] (unT 4) := fun v d σ G H ds e hd hu Q q => by
  obtain ⟨rfl, hl⟩ := hu
  obtain ⟨a, xs, rfl, ht, ha⟩ := dq_tup hd
  obtain ⟨x, y, z, u, rfl⟩ := len4 (ha.len.trans hl)
  exact ⟨a, _, rfl, ex_t e ht, rfl, x, _, rfl, y, _, rfl, z, _, rfl, u, _, rfl, rfl, q [x, y, z, u] ha rfl⟩
theorem sg_five {i j l m n : Nat} : SG K (gTup K 5 (gCons (gName i) (gCons (gName j) (gCons (gName l) (gCons (gName m) (gCons (gName n) gNil)))))) [i, j, l, m, n] (unT 5) := fun v d σ G H ds e hd hu Q q => by
  obtain ⟨rfl, hl⟩ := hu
  obtain ⟨a, xs, rfl, ht, ha⟩ := dq_tup hd
  obtain ⟨x, y, z, u, w, rfl⟩ := len5 (ha.len.trans hl)
  exact ⟨a, _, rfl, ex_t e ht, rfl, x, _, rfl, y, _, rfl, z, _, rfl, u, _, rfl, w, _, rfl, rfl, q [x, y, z, u, w] ha rfl⟩
theorem so_revL {ds : List PyData} (h1 : SQ K Z ta η (.list ds)) : SOQ K Z (tRevL K ta) η ds.reverse := fun σ G H b s Q q =>
  h1 σ G H b s _ fun v1 d1 G1 H1 e1 s1 hd1 => by
    subst e1
    obtain ⟨a, xs, rfl, ht, ha⟩ := dq_lst hd1
    refine ⟨a, xs, rfl, ex_l s1.s ht, fun p np => ?_⟩
    exact q p _ _ G1 _ rfl (s1.trans (.hide (b.go s1) np)) (freshBack b s1 np) (none_of s1.s np) upd_same ha.rev
theorem rfo_revL {m1 : (List γ → Prop) → Prop} (h1 : Ref K Z (eL e) ta ρ m1) : RefO K Z e (tRevL K ta) ρ (fun R => m1 fun l => R l.reverse) :=
  rfo_1 (T := fun ta => tRevL K ta) (fun l R => R l.reverse) (fun _ _ _ _ => rfl) h1 fun l R h => dnO (l := l.reverse) (by rw [List.map_reverse]; exact so_revL v0) h
end
theorem pe_revLE {X : Cx} {K : PySem.W.Frag} (h : X.K = K) {e : Expr} {te : TE} {k : Nat} {p1 p2 p3 pos : Pos} (he : PE X e te) : PE X (.Subscript e (.Slice none none (some (.UnaryOp .USub (.Constant (.int 1) k p1) p2)) p3) pos) (tRevL K te) := by subst h; exact pe_revL he
end FF
set_option maxHeartbeats 4000000
/-! max(a, b) of two ints -/
namespace FF
open PySem PySem.Spec PyProof.Rows L2 Evl
def rMax2 : List V → Hp → VK → Prop := fun xs H Q => ∃ i j, xs = [.int i, .int j] ∧ Q (.int (if j > i then j else i)) H
theorem cr_max2 {X : Cx} (hc : X.calm = true) : CallR X (.builtin "max") rMax2 := call_max2 hc
section
variable {K : PySem.W.Frag} {Z : Zk} {ta tb : TE} {ρ : List Cell} {m1 m2 : (Int → Prop) → Prop}
theorem rf_max2 (h1 : Ref K Z eI ta ρ m1) (h2 : Ref K Z eI tb ρ m2) : Ref K Z eI (tCB rMax2 (tCons ta (tCons tb tNil))) ρ (fun R => m1 fun a => m2 fun b => R (if b > a then b else a)) :=
  rf_2 (T := fun ta tb => tCB rMax2 (tCons ta (tCons tb tNil))) (fun a b R => R (if b > a then b else a)) (fun _ _ _ _ _ => rfl) h1 h2 fun a b R h => fun σ G H bs s Q q => sa_cons v0 (sa_cons v1 sa_nil) σ G H bs s _ fun vs ds G1 H1 e s1 ha => by
    subst e
    obtain ⟨v, u, rfl, hv, hu⟩ := dqa2 ha
    cases hv
    cases hu
    exact ⟨a, b, rfl, q _ _ G1 H1 ⟨_, rfl, h⟩ s1 (.int _)⟩
end
end FF
set_option maxHeartbeats 4000000
/-! sorted(pairs, reverse=True) -/
namespace FF
open PySem PySem.Spec PyProof.Rows L2 Evl
def rSortedPR (K : PySem.W.Frag) : List V → List V → Hp → VK → Prop := fun vs zs H Q => ∃ (a : Addr) (xs : List V) (ps : List (Int × Int)), vs = [V.ref a] ∧ zs = [.bl true] ∧ SqL K H a xs ∧ PsAt K H xs ps ∧
  ∀ (ys : List V) (ps' : List (Int × Int)) (p : Addr), ps'.Perm ps → ps'.Pairwise (fun p q => lexLe q p) → (∀ G : Hp, PsAt K G xs ps → PsAt K G ys ps') → H p = none → Q (.ref p) (upd H p (.lst ys))
theorem cr_sortedPR {X : Cx} : CallRK X (.builtin "sorted") [Str.ofString "reverse"] (rSortedPR X.K) := by
  intro pins s σ H vs zs us ws Q I r rz h
  obtain ⟨a, xs, ps, rfl, rfl, hs, hp, q⟩ := h
  obtain ⟨w1, rfl, ew1⟩ := vals1 rz
  obtain rfl : w1 = Value.bool true := ew1
  obtain ⟨its, rv, hl, hz⟩ := I.list hs
  rw [Vals.ref1 r]
  have key : ∀ x ∈ xs, ∃ p : Int × Int, PairAt X.K H x p ∧ Srt.IsPair s.heap (toV x) p.1 p.2 := fun x hx => by
    obtain ⟨i, hi⟩ := List.getElem?_of_mem hx
    have il : i < ps.length := by rw [← hp.1]; exact (List.getElem?_eq_some_iff.mp hi).1
    have pa := hp.2 i x _ hi (List.getElem?_eq_getElem il)
    refine ⟨ps[i], pa, ?_⟩
    obtain ⟨t, rfl, ht⟩ := pa
    obtain ⟨its2, r2, ⟨o, ho, hc, n, hd⟩, _⟩ := I.tuple ht
    obtain ⟨u1, u2, rfl, ri, rj⟩ := vals2 r2
    obtain ⟨t1, rfl⟩ := ri
    obtain ⟨t2, rfl⟩ := rj
    exact ⟨t, o, t1, t2, n, rfl, ho, hc, hd⟩
  obtain ⟨e1, e2⟩ := refs_back rv fun x hx => by
    obtain ⟨p, ⟨t, e, _⟩, _⟩ := key x hx
    exact ⟨t, e⟩
  have keyV : ∀ v ∈ its, Srt.IsPair s.heap v (keyOfV s.heap v).1 (keyOfV s.heap v).2 := fun v hv => by
    obtain ⟨p, _, hpv⟩ := key (backV v) (by rw [e1]; exact List.mem_map.mpr ⟨v, hv, rfl⟩)
    rw [toV_back (e2 v hv)] at hpv
    rw [keyOfV_ok hpv]
    exact hpv
  let kk : V → Int × Int := fun x => keyOfV s.heap (toV x)
  have eps : xs.map kk = ps := by
    refine List.ext_getElem? fun i => ?_
    rw [List.getElem?_map]
    by_cases c : i < xs.length
    · have il : i < ps.length := by rw [← hp.1]; exact c
      rw [List.getElem?_eq_getElem c, List.getElem?_eq_getElem il]
      have pa := hp.2 i _ _ (List.getElem?_eq_getElem c) (List.getElem?_eq_getElem il)
      obtain ⟨t, e, ht⟩ := pa
      obtain ⟨its2, r2, ⟨o, ho, hc, n, hd⟩, _⟩ := I.tuple ht
      obtain ⟨u1, u2, rfl, ri, rj⟩ := vals2 r2
      obtain ⟨t1, rfl⟩ := ri
      obtain ⟨t2, rfl⟩ := rj
      show some (keyOfV s.heap (toV xs[i])) = some ps[i]
      rw [e]
      show some (keyOfV s.heap (Value.ref t)) = some ps[i]
      rw [keyOfV_ok (i := ps[i].1) (j := ps[i].2) ⟨t, o, t1, t2, n, rfl, ho, hc, hd⟩]
    · rw [List.getElem?_eq_none (by omega), List.getElem?_eq_none (by rw [← hp.1]; omega)]
      rfl
  refine SrtR.sorted_ordK (b := true) (fun _ => rfl) (PyProof.Rows.args_sorted_rev _ _) (fun _ => PyProof.Rows.args_list_sort_rev _ _) (SrtO.swo_lex (keyOfV s.heap)) hl.isList (by rw [← rv.length]; exact hz) (fun h2 h₁ a' ha' kk' => ?_) fun out h1 h2 => ?_
  · refine SrtO.pairs_sortableO (s := { s with heap := h₁ }) (by omega) (fun v hm => (keyV v hm).keeps fun b o e _ => (kk' b o e).2) fun o e => ?_
    have e' : some o = some (seqObj "list" its.toArray 0) := e.symm.trans ha'
    cases e'
    intro c
    exact absurd (Value.type.inj c) (by decide)
  have h2p : out.Perm its := h2.perm.trans (List.reverse_perm _)
  have h3 : ∀ u ∈ out.reverse, ∃ a, u = Value.ref a := fun u hu => e2 u (h2p.mem_iff.mp (List.mem_reverse.mp hu))
  obtain ⟨n, hn⟩ := PyProof.Rows.sortedAll_at s.heap its (if true = true then out.toArray.reverse else out.toArray)
  have er : (if true = true then out.toArray.reverse else out.toArray) = out.reverse.toArray := by rw [if_pos rfl]; simp
  rw [er] at hn ⊢
  have pm : (out.reverse.map backV).Perm xs := by rw [e1]; exact ((List.reverse_perm _).trans h2p).map _
  have hkk : (out.reverse.map backV).map kk = out.reverse.map (keyOfV s.heap) := by
    rw [List.map_map]
    refine List.map_congr_left fun u hu => ?_
    show keyOfV s.heap (toV (backV u)) = _
    rw [toV_back (h3 u hu)]
  refine ⟨.ref (s.heap.objs.size + 1), upd H (s.heap.objs.size + 1) (.lst (out.reverse.map backV)), I.laid (t' := s.toks) (fun _ _ => PyProof.Rows.sortedAll_old) (Nat.le_succ _) ⟨?_, out.reverse, n, vals_back h3, hn⟩, rfl, q (out.reverse.map backV) ((out.reverse.map backV).map kk) _ ?_ ?_ (fun G hG => ⟨(List.length_map ..).symm, fun i v p hv hpp => ?_⟩) (I.hok.fresh (Nat.le_succ _))⟩
  · rw [pm.length_eq]; exact hz
  · rw [← eps]; exact pm.map _
  · rw [hkk, List.map_reverse, List.pairwise_reverse, List.pairwise_map]
    refine h1.imp fun {a b} hab => ?_
    have z := SrtO.lexB_no.mp hab
    unfold lexLe
    omega
  · rw [List.getElem?_map, hv] at hpp
    have e : kk v = p := Option.some.inj hpp
    obtain ⟨j, hj⟩ := List.getElem?_of_mem (pm.mem_iff.mp (List.mem_of_getElem? hv))
    refine hG.2 j v p hj ?_
    rw [← eps, List.getElem?_map, hj]
    exact congrArg some e
section
variable {K : PySem.W.Frag} {Z : Zk} {η : List Ent} {ta : TE} {ρ : List Cell}
def sortPRC (l : List (Int × Int)) (R : List (Int × Int) → Prop) : Prop := ∀ ps : List (Int × Int), ps.Perm l → ps.Pairwise (fun p q => lexLe q p) → R ps
theorem so_sortedPR {ps : List (Int × Int)} (h1 : SQ K Z ta η (.list (ps.map pairD))) : SO K Z (tCKw (rSortedPR K) (tCons ta tNil) (tCons (tC (.bl true)) tNil)) η (fun ds => ∃ ps' : List (Int × Int), ps'.Perm ps ∧ ps'.Pairwise (fun p q => lexLe q p) ∧ ds = ps'.map pairD) := by
  show SO K Z (tCB (fun vs H Q => rSortedPR K vs [.bl true] H Q) (tCons ta tNil)) η _
  exact so_cb h1 fun v1 G H b d1 Q q => by
    obtain ⟨a, xs, rfl, ht, ha⟩ := dq_lst d1
    refine ⟨a, xs, ps, rfl, rfl, ex_l b.ex ht, dqa_psW (DqA.ex b.ex _ _ ha), fun ys ps' p k1 k2 k3 np => ?_⟩
    have hG : PsAt K G ys ps' := k3 G (dqa_psW ha)
    exact q p ys _ _ ⟨ps', k1, k2, rfl⟩ np (Ex.new np) (b.dk.new np) upd_same hG.dqa
theorem rfo_sortPR {m : (List (Int × Int) → Prop) → Prop} (h : Ref K Z (eL (eP eI eI)) ta ρ m) : RefO K Z (eP eI eI) (tCKw (rSortedPR K) (tCons ta tNil) (tCons (tC (.bl true)) tNil)) ρ (fun R => m fun l => sortPRC l R) :=
  rfo_1 (T := fun ta => tCKw (rSortedPR K) (tCons ta tNil) (tCons (tC (.bl true)) tNil)) (fun l R => sortPRC l R) (fun _ _ _ _ => rfl) h fun l R hc => (so_sortedPR v0).mono fun ds ⟨ms, h1, h2, h3⟩ => ⟨ms, h3, hc ms h1 h2⟩
end
end FF
set_option maxHeartbeats 4000000
namespace FF
open PySem PySem.Spec PyProof.Rows L2 Evl
/-! ### dicts with int keys, as plain Lean data -/
abbrev kI : Int → Key := Sum.inl
def dM {β : Type} (e : β → PyData) (l : List (Int × β)) : List (PyData × PyData) := l.map fun p => (PyData.int p.1, e p.2)
def eM {β : Type} (e : β → PyData) : List (Int × β) → PyData := fun l => .dict (dM e l)
def getM {β : Type} : List (Int × β) → Int → Option β
  | [], _ => none
  | p :: r, k => if p.1 = k then some p.2 else getM r k
def putM {β : Type} : List (Int × β) → Int → β → List (Int × β)
  | [], k, v => [(k, v)]
  | p :: r, k, v => if p.1 = k then (p.1, v) :: r.map (fun q => if q.1 = k then (q.1, v) else q) else p :: putM r k v
def atM {β : Type} (l : List (Int × β)) (k : Int) (R : β → Prop) : Prop := ∃ b, getM l k = some b ∧ R b
theorem keyD_inl {k : Key} {i : Int} (h : keyD k = .int i) : k = .inl i := by
  cases k with
  | inl j => cases h; rfl
  | inr x => cases h
section
variable {K : PySem.W.Frag} {H : Hp} {β : Type} {e : β → PyData}
theorem dqk_inv {kvs : List (Key × V)} {x y : PyData} {ds : List (PyData × PyData)} (h : DqK K H kvs ((x, y) :: ds)) : ∃ k v r, kvs = (k, v) :: r ∧ x = keyD k ∧ Dq K H v y ∧ DqK K H r ds := by
  cases h with
  | cons a b => exact ⟨_, _, _, rfl, rfl, a, b⟩
theorem dqk_cons {kvs : List (Key × V)} {p : Int × β} {l : List (Int × β)} (h : DqK K H kvs (dM e (p :: l))) : ∃ v r, kvs = (kI p.1, v) :: r ∧ Dq K H v (e p.2) ∧ DqK K H r (dM e l) := by
  obtain ⟨k, v, r, rfl, h1, h2, h3⟩ := dqk_inv h
  have hk := keyD_inl h1.symm
  subst hk
  exact ⟨v, r, rfl, h2, h3⟩
theorem dqk_mk {v : V} {i : Int} {b : β} {kvs : List (Key × V)} {l : List (Int × β)} (h : Dq K H v (e b)) (r : DqK K H kvs (dM e l)) : DqK K H ((kI i, v) :: kvs) (dM e ((i, b) :: l)) := .cons (k := .inl i) h r
theorem dqk_len : ∀ {l : List (Int × β)} {kvs : List (Key × V)}, DqK K H kvs (dM e l) → kvs.length = l.length
  | [], _, h => by cases h; rfl
  | p :: l, _, h => by
    obtain ⟨v, r, rfl, _, h2⟩ := dqk_cons h
    rw [List.length_cons, List.length_cons, dqk_len h2]
theorem dqk_keys : ∀ {l : List (Int × β)} {kvs : List (Key × V)}, DqK K H kvs (dM e l) → kvs.map (·.1) = (l.map (·.1)).map Sum.inl
  | [], _, h => by cases h; rfl
  | p :: l, _, h => by
    obtain ⟨v, r, rfl, _, h2⟩ := dqk_cons h
    rw [List.map_cons, List.map_cons, List.map_cons, dqk_keys h2]
theorem dqk_at : ∀ {l : List (Int × β)} {kvs : List (Key × V)} (i : Nat) {p : Int × β}, DqK K H kvs (dM e l) → l[i]? = some p → ∃ v, kvs[i]? = some (kI p.1, v) ∧ Dq K H v (e p.2)
  | [], _, i, p, h, hi => by simp at hi
  | q :: l, _, 0, p, h, hi => by
    obtain ⟨v, r, rfl, h1, h2⟩ := dqk_cons h
    have : q = p := Option.some.inj hi
    subst this
    exact ⟨v, rfl, h1⟩
  | q :: l, _, i + 1, p, h, hi => by
    obtain ⟨v, r, rfl, h1, h2⟩ := dqk_cons h
    exact dqk_at i h2 hi
theorem dqk_get (k : Int) : ∀ {l : List (Int × β)} {kvs : List (Key × V)}, DqK K H kvs (dM e l) → (∃ b v, getM l k = some b ∧ valV kvs (kI k) = some v ∧ Dq K H v (e b)) ∨ (getM l k = none ∧ valV kvs (kI k) = none)
  | [], _, h => by cases h; exact .inr ⟨rfl, rfl⟩
  | p :: l, _, h => by
    obtain ⟨v, r, rfl, h1, h2⟩ := dqk_cons h
    by_cases c : p.1 = k
    · refine .inl ⟨p.2, v, ?_, ?_, h1⟩
      · unfold getM; rw [if_pos c]
      · exact valV_pos (p := (kI p.1, v)) (by show kI p.1 = kI k; rw [c])
    · have e1 : getM (p :: l) k = getM l k := by show (if _ then _ else _) = _; rw [if_neg c]
      have e2 : valV ((kI p.1, v) :: r) (kI k) = valV r (kI k) := valV_neg (p := (kI p.1, v)) fun z => c (Sum.inl.inj z)
      rw [e1, e2]
      exact dqk_get k h2
theorem dqk_repl (k : Int) {w : V} {b : β} (hw : Dq K H w (e b)) : ∀ {l : List (Int × β)} {kvs : List (Key × V)}, DqK K H kvs (dM e l) → DqK K H (kvs.map fun kv => if kv.1 = kI k then (kv.1, w) else kv) (dM e (l.map fun q => if q.1 = k then (q.1, b) else q))
  | [], _, h => by cases h; exact .nil
  | p :: l, _, h => by
    obtain ⟨v, r, rfl, h1, h2⟩ := dqk_cons h
    have ih := dqk_repl k hw h2
    rw [List.map_cons, List.map_cons]
    by_cases c : p.1 = k
    · have c' : kI p.1 = kI k := by rw [c]
      rw [if_pos c, if_pos (show (kI p.1, v).1 = kI k from c')]
      exact dqk_mk hw ih
    · have c' : ¬ kI p.1 = kI k := fun z => c (Sum.inl.inj z)
      rw [if_neg c, if_neg (show ¬ (kI p.1, v).1 = kI k from c')]
      exact dqk_mk h1 ih
theorem putM_eq (k : Int) (b : β) : ∀ l : List (Int × β), putM l k b = if (l.any fun p => decide (p.1 = k)) = true then l.map (fun q => if q.1 = k then (q.1, b) else q) else l ++ [(k, b)]
  | [] => rfl
  | p :: l => by
    unfold putM
    rw [List.any_cons]
    by_cases c : p.1 = k
    · rw [if_pos c, decide_eq_true c, Bool.true_or, if_pos rfl, List.map_cons, if_pos c]
    · rw [if_neg c, decide_eq_false c, Bool.false_or, putM_eq k b l]
      by_cases d : (l.any fun p => decide (p.1 = k)) = true
      · rw [if_pos d, if_pos d, List.map_cons, if_neg c]
      · rw [if_neg d, if_neg d]; rfl
theorem dqk_any (k : Int) : ∀ {l : List (Int × β)} {kvs : List (Key × V)}, DqK K H kvs (dM e l) → (kvs.any fun kv => decide (kv.1 = kI k)) = l.any fun p => decide (p.1 = k)
  | [], _, h => by cases h; rfl
  | p :: l, _, h => by
    obtain ⟨v, r, rfl, h1, h2⟩ := dqk_cons h
    rw [List.any_cons, List.any_cons, dqk_any k h2]
    congr 1
    by_cases c : p.1 = k
    · rw [decide_eq_true c, decide_eq_true (show (kI p.1, v).1 = kI k by show kI p.1 = kI k; rw [c])]
    · rw [decide_eq_false c, decide_eq_false fun z => c (Sum.inl.inj z)]
theorem dqk_app {x : V} {k : Int} {b : β} (hx : Dq K H x (e b)) : ∀ {l : List (Int × β)} {kvs : List (Key × V)}, DqK K H kvs (dM e l) → DqK K H (kvs ++ [(kI k, x)]) (dM e (l ++ [(k, b)]))
  | [], _, h => by cases h; exact dqk_mk hx .nil
  | p :: l, _, h => by
    obtain ⟨v, r, rfl, h1, h2⟩ := dqk_cons h
    exact dqk_mk h1 (dqk_app hx h2)
theorem dqk_put {w : V} {k : Int} {b : β} (hw : Dq K H w (e b)) {l : List (Int × β)} {kvs : List (Key × V)} (h : DqK K H kvs (dM e l)) : DqK K H (L2.putK kvs (kI k) w) (dM e (putM l k b)) := by
  rw [putM_eq]
  unfold L2.putK
  rw [dqk_any k h]
  by_cases c : (l.any fun p => decide (p.1 = k)) = true
  · rw [if_pos c, if_pos c]; exact dqk_repl k hw h
  · rw [if_neg c, if_neg c]; exact dqk_app hw h
theorem dM_map_fst (l : List (Int × β)) : (l.map fun p => PyData.int p.1) = (l.map (·.1)).map eI := by rw [List.map_map]; rfl
end
/-! ### told dicts: what is read -/
def rInM (neg : Bool) : R2 := fun y x H Q => ∃ a o, x = .ref a ∧ DGet H a y o ∧ Q (.bl (if neg then !o.isSome else o.isSome)) H
theorem op_inM {X : Cx} (hu : X.A.units + 64 < cLine) : OpR X (compareOp .In) (rInM false) := by
  intro pins s σ H y x v u Q I ry rx h
  obtain ⟨a, o, rfl, g, q⟩ := h
  obtain rfl : u = Value.ref a := rx
  exact d_in (by omega) I g ry fun s3 I3 => ⟨.bl o.isSome, H, I3, rfl, q⟩
theorem op_notInM {X : Cx} (hu : X.A.units + 64 < cLine) : OpR X (compareOp .NotIn) (rInM true) := by
  intro pins s σ H y x v u Q I ry rx h
  obtain ⟨a, o, rfl, g, q⟩ := h
  obtain rfl : u = Value.ref a := rx
  exact d_notIn (by omega) I g ry fun s3 I3 => ⟨.bl (!o.isSome), H, I3, rfl, q⟩
theorem pe_dgetU {X : Cx} {o i : Expr} {pos : Pos} {td ty : TE} (hu : X.A.units + 64 < cLine) (ho : PE X o td) (hi : PE X i ty) (hs : NoSl i) : PE X (.Subscript o i pos) (tDGet td ty) := pe_dget (by omega) ho hi hs
theorem pe_dget2U {X : Cx} {o e f : Expr} {apos cpos : Pos} {td ty tx : TE} (hu : X.A.units + 64 < cLine) (ho : PE X o td) (he : PE X e ty) (hf : PE X f tx) (m : M2 X o "get" apos e f cpos) : PE X (.Call (.Attribute o "get" apos) [e, f] [] cpos) (tDGet2 td ty tx) := pe_dget2 (by omega) ho he hf m
section
variable {K : PySem.W.Frag} {Z : Zk} {ρ : List Cell} {te ta tb tc : TE} {α β γ : Type} {e : β → PyData}
theorem dq_M {H : Hp} {v : V} {l : List (Int × β)} (h : Dq K H v (eM e l)) : ∃ a o kvs, v = .ref a ∧ H a = some (.frz o (.dK kvs)) ∧ DqK K H kvs (dM e l) := dq_dct h
theorem rf_dget {m1 : (List (Int × β) → Prop) → Prop} {m2 : (Int → Prop) → Prop} (h1 : Ref K Z (eM e) ta ρ m1) (h2 : Ref K Z eI tb ρ m2) : Ref K Z e (tDGet ta tb) ρ (fun R => m1 fun l => m2 fun k => atM l k R) :=
  rf_2 (T := tDGet) (fun l k R => atM l k R) (fun _ _ _ _ _ => rfl) h1 h2 fun l k R ⟨b, hb, r⟩ => by
    refine SE.mono (R := fun d => d = e b) (fun σ G H b0 s Q q => ?_) fun d hd => ⟨b, hd, r⟩
    have x0 : SQ K Z (tVar 0) [Ent.dat (eM e l), .dat (eI k)] (eM e l) := v0
    have x1 : SQ K Z (tVar 1) [Ent.dat (eM e l), .dat (eI k)] (eI k) := v1
    refine x0 σ G H b0 s _ fun w1 d1 G1 H1 e1 s1 hd1 => x1 σ G1 H1 (b0.go s1) (s.ex s1.g) _ fun v2 d2 G2 H2 e2 s2 hd2 => ?_
    subst e1 e2
    have bs := (b0.go s1).go s2
    obtain ⟨a, o, kvs, rfl, ha, hk⟩ := dq_M hd1
    have ha2 := s2.g _ _ ha
    rcases dqk_get k hk with ⟨b', v, g1, g2, g3⟩ | ⟨g1, _⟩
    · rw [hb] at g1
      cases g1
      rw [dq_int hd2]
      exact ⟨a, v, rfl, .inl ⟨kvs, kI k, .inr ⟨o, bs.ex _ _ ha2⟩, rfl, g2.symm⟩, q v _ G2 H2 rfl (s1.trans s2) (Dq.ex s2.g _ _ g3)⟩
    · rw [hb] at g1; cases g1
theorem rf_inMg {neg : Bool} {m1 : (Int → Prop) → Prop} {m2 : (List (Int × β) → Prop) → Prop} (h1 : Ref K Z eI ta ρ m1) (h2 : Ref K Z (eM e) tb ρ m2) : Ref K Z eB (tOp (rInM neg) ta tb) ρ (fun R => m1 fun k => m2 fun l => R (if neg then !(getM l k).isSome else (getM l k).isSome)) :=
  rf_2 (T := fun ta tb => tOp (rInM neg) ta tb) (fun k l R => R (if neg then !(getM l k).isSome else (getM l k).isSome)) (fun _ _ _ _ _ => rfl) h1 h2 fun k l R h => dn (e := eB) (c := if neg then !(getM l k).isSome else (getM l k).isSome) (se_op v0 v1 fun v1 v2 G H b d1 d2 Q q => by
    obtain ⟨a, o, kvs, rfl, ha, hk⟩ := dq_M d2
    rw [dq_int d1]
    refine ⟨a, valV kvs (kI k), rfl, .inl ⟨kvs, kI k, .inr ⟨o, b.ex _ _ ha⟩, rfl, rfl⟩, ?_⟩
    have es : (valV kvs (kI k)).isSome = (getM l k).isSome := by
      rcases dqk_get k hk with ⟨b', v, g1, g2, g3⟩ | ⟨g1, g2⟩
      · rw [g1, g2]; rfl
      · rw [g1, g2]; rfl
    rw [es]
    exact q _ _ _ _ rfl (.refl b) (.bl _)) h
theorem rf_inM {m1 : (Int → Prop) → Prop} {m2 : (List (Int × β) → Prop) → Prop} (h1 : Ref K Z eI ta ρ m1) (h2 : Ref K Z (eM e) tb ρ m2) : Ref K Z eB (tOp (rInM false) ta tb) ρ (fun R => m1 fun k => m2 fun l => R ((getM l k).isSome)) := rf_inMg h1 h2
theorem rf_notinM {m1 : (Int → Prop) → Prop} {m2 : (List (Int × β) → Prop) → Prop} (h1 : Ref K Z eI ta ρ m1) (h2 : Ref K Z (eM e) tb ρ m2) : Ref K Z eB (tOp (rInM true) ta tb) ρ (fun R => m1 fun k => m2 fun l => R (!(getM l k).isSome)) := rf_inMg (neg := true) h1 h2
/-- d.get(k, x) -/
theorem rf_dget2 {m1 : (List (Int × β) → Prop) → Prop} {m2 : (Int → Prop) → Prop} {m3 : (β → Prop) → Prop} (h1 : Ref K Z (eM e) ta ρ m1) (h2 : Ref K Z eI tb ρ m2) (h3 : Ref K Z e tc ρ m3) : Ref K Z e (tDGet2 ta tb tc) ρ (fun R => m1 fun l => m2 fun k => m3 fun x => R ((getM l k).getD x)) := fun R hR G0 H0 b0 σ G H r Q q =>
  h1 _ hR G0 H0 b0 σ G H r _ fun v d G1 H1 ⟨l, hd, r1⟩ s1 hv => by
    subst hd
    obtain ⟨a, o, kvs, rfl, ha, hk⟩ := dq_M hv
    have rel1 := r.step b0 s1
    refine ⟨a, rfl, .inl ⟨kvs, .inr ⟨o, (rel1.bs b0).ex _ _ ha⟩⟩, h2 _ r1 G0 H0 b0 σ G1 H1 rel1 _ fun v2 d2 G2 H2 ⟨k, hd2, r2⟩ s2 hv2 => ?_⟩
    subst hd2
    have rel2 := rel1.step b0 s2
    refine h3 _ r2 G0 H0 b0 σ G2 H2 rel2 _ fun v3 d3 G3 H3 ⟨x, hd3, r3⟩ s3 hv3 => ?_
    subst hd3
    have rel3 := rel2.step b0 s3
    rw [dq_int hv2]
    have ha3 := s3.g _ _ (s2.g _ _ ha)
    refine ⟨valV kvs (kI k), .inl ⟨kvs, kI k, .inr ⟨o, (rel3.bs b0).ex _ _ ha3⟩, rfl, rfl⟩, ?_⟩
    rcases dqk_get k hk with ⟨b', v, g1, g2, g3⟩ | ⟨g1, g2⟩
    · rw [g2]
      rw [g1] at r3
      exact q _ _ G3 H3 ⟨_, rfl, r3⟩ ((s1.trans s2).trans s3) (Dq.ex (s2.trans s3).g _ _ g3)
    · rw [g2]
      rw [g1] at r3
      exact q _ _ G3 H3 ⟨_, rfl, r3⟩ ((s1.trans s2).trans s3) hv3
/-! what is walked -/
theorem ri_keys {m1 : (List (Int × β) → Prop) → Prop} (h1 : Ref K Z (eM e) ta ρ m1) : RefI K Z eI (iKeys ta) ρ (fun R => m1 fun l => R (l.map (·.1))) := fun R hR G0 H0 b0 σ G H r Q q =>
  h1 _ hR G0 H0 b0 σ G H r _ fun v d G1 H1 ⟨l, hd, r1⟩ s1 hv => by
    subst hd
    obtain ⟨a, o, kvs, rfl, ha, hk⟩ := dq_M hv
    refine ⟨a, o, rfl, .inl ⟨kvs, (r.step b0 s1 |>.bs b0).ex _ _ ha, q _ _ G1 H1 ⟨_, rfl, r1⟩ s1 ?_⟩⟩
    refine feed_of walk_keys (by rw [List.length_map, List.length_map, dqk_len hk]) (fun G2 H2 e2 b2 => b2.ex _ _ (e2 _ _ ha)) fun i d G2 H2 v H3 e2 b2 hd y => ?_
    obtain ⟨rfl, k, w, hkw, rfl⟩ := y
    rw [List.getElem?_map, List.getElem?_map] at hd
    cases c : l[i]? with
    | none => rw [c] at hd; cases hd
    | some p =>
      rw [c] at hd
      have ed : d = eI p.1 := (Option.some.inj hd).symm
      subst ed
      obtain ⟨v, hv2, _⟩ := dqk_at i hk c
      rw [hv2] at hkw
      cases hkw
      exact ⟨G2, .refl b2, .int _⟩
theorem ri_vals {m1 : (List (Int × β) → Prop) → Prop} (h1 : Ref K Z (eM e) ta ρ m1) : RefI K Z e (iVals ta) ρ (fun R => m1 fun l => R (l.map (·.2))) := fun R hR G0 H0 b0 σ G H r Q q =>
  h1 _ hR G0 H0 b0 σ G H r _ fun v d G1 H1 ⟨l, hd, r1⟩ s1 hv => by
    subst hd
    obtain ⟨a, o, kvs, rfl, ha, hk⟩ := dq_M hv
    refine ⟨a, o, kvs, rfl, (r.step b0 s1 |>.bs b0).ex _ _ ha, q _ _ G1 H1 ⟨_, rfl, r1⟩ s1 ?_⟩
    refine feed_of walk_values (by rw [List.length_map, List.length_map, dqk_len hk]) (fun G2 H2 e2 b2 => b2.ex _ _ (e2 _ _ ha)) fun i d G2 H2 v H3 e2 b2 hd y => ?_
    obtain ⟨rfl, k, hkw⟩ := y
    rw [List.getElem?_map, List.getElem?_map] at hd
    cases c : l[i]? with
    | none => rw [c] at hd; cases hd
    | some p =>
      rw [c] at hd
      have ed : d = e p.2 := (Option.some.inj hd).symm
      subst ed
      obtain ⟨v, hv2, hv3⟩ := dqk_at i hk c
      rw [hv2] at hkw
      cases hkw
      exact ⟨G2, .refl b2, Dq.ex e2 _ _ hv3⟩
theorem ri_items {m1 : (List (Int × β) → Prop) → Prop} (h1 : Ref K Z (eM e) ta ρ m1) : RefI K Z (eP eI e) (iItems ta) ρ m1 := fun R hR G0 H0 b0 σ G H r Q q =>
  h1 _ hR G0 H0 b0 σ G H r _ fun v d G1 H1 ⟨l, hd, r1⟩ s1 hv => by
    subst hd
    obtain ⟨a, o, kvs, rfl, ha, hk⟩ := dq_M hv
    refine ⟨a, o, kvs, rfl, (r.step b0 s1 |>.bs b0).ex _ _ ha, q _ _ G1 H1 ⟨l, rfl, r1⟩ s1 ?_⟩
    refine feed_of walk_items (by rw [List.length_map, dqk_len hk]) (fun G2 H2 e2 b2 => b2.ex _ _ (e2 _ _ ha)) fun i d G2 H2 v H3 e2 b2 hd y => ?_
    rw [List.getElem?_map] at hd
    cases c : l[i]? with
    | none => rw [c] at hd; cases hd
    | some p =>
      rw [c] at hd
      have ed : d = eP eI e p := (Option.some.inj hd).symm
      subst ed
      obtain ⟨v', hv2, hv3⟩ := dqk_at i hk c
      obtain ⟨T, x, y', rfl, nT, rfl, hx, hy⟩ := y
      simp only [hv2, Option.map_some, Option.some.injEq] at hx hy
      subst hx hy
      refine ⟨_, .new b2 nT, ?_⟩
      exact .tup (SqT.of upd_same) (.cons (.int _) (.cons (Dq.ex (e2.trans (Ex.new (none_of b2.ex nT))) _ _ hv3) .nil))
end
end FF
set_option maxHeartbeats 4000000
namespace FF
open PySem PySem.Spec PyProof.Rows L2 Evl
/-! ### own dicts with int keys -/
noncomputable def cutP (p : Addr) (W : Hp) : Hp := fun a => if a = p then none else W a
section
variable {W : Hp} {p : Addr}
theorem cutP_same : cutP p W p = none := if_pos rfl
theorem cutP_ne {a : Addr} (h : a ≠ p) : cutP p W a = W a := if_neg h
end
section
variable {K : PySem.W.Frag} {Z : Zk} {G0 H0 G H G' H' : Hp} {σ : L2.St} {ρ : List Cell} {p : Addr} {u : HO}
theorem cutP_tup {W : Hp} (hp : W p = some u) (hu : isTupH u = false) {a : Addr} {o : HO} (t : isTupH o = true) (h : W a = some o) : cutP p W a = some o := by
  rw [cutP_ne]
  · exact h
  · intro z
    rw [z, hp] at h
    cases h
    rw [hu] at t
    cases t
theorem cutP_sqT {W : Hp} (hp : W p = some u) (hu : isTupH u = false) {a : Addr} {xs : List V} (h : SqT K W a xs) : SqT K (cutP p W) a xs := by
  rcases h with (h | ⟨o, h⟩) | h
  · exact .inl (.inl (cutP_tup hp hu rfl h))
  · exact .inl (.inr ⟨o, cutP_tup hp hu rfl h⟩)
  · exact .inr h
mutual
theorem cutP_dq {W : Hp} (hp : W p = some u) (hu : isTupH u = false) : ∀ (d : PyData) (v : V), noL d = true → Dq K W v d → Dq K (cutP p W) v d
  | .none, _, _, h => by cases h; exact .non
  | .bool x, _, _, h => by cases h; exact .bl x
  | .int i, _, _, h => by cases h; exact .int i
  | .str x, _, _, h => by cases h; exact .str x
  | .list _, _, n, _ => by unfold noL at n; cases n
  | .dict _, _, n, _ => by unfold noL at n; cases n
  | .tuple ds, _, n, h => by
    unfold noL at n
    cases h with
    | tup x y => exact .tup (cutP_sqT hp hu x) (cutP_dqs hp hu ds _ n y)
theorem cutP_dqs {W : Hp} (hp : W p = some u) (hu : isTupH u = false) : ∀ (ds : List PyData) (vs : List V), noLs ds = true → DqA K W vs ds → DqA K (cutP p W) vs ds
  | [], _, _, h => by cases h; exact .nil
  | d :: ds, _, n, h => by
    unfold noLs at n
    rw [Bool.and_eq_true] at n
    cases h with
    | cons x y => exact .cons (cutP_dq hp hu d _ n.1 x) (cutP_dqs hp hu ds _ n.2 y)
end
/-- a new thing is told, and not written any more -/
theorem Stp.tellX {o : HO} (b : Bs Z G H) (s : Stp Z G H G' H') (n : H p = none) (n' : G' p = none) : Stp Z G H (upd G' p o) (upd H' p o) :=
  (Stp.mutX (o := o) b s n n').tell n upd_same n' (b.dk.ne n)
theorem Rel.dms (r : Rel K Z G0 H0 σ ρ G H) {i : Nat} {ds : List (PyData × PyData)} (h : ρ[i]? = some (.dm ds)) : ∃ p kvs, σ[i]? = some (some (.ref p)) ∧ H p = some (.dK kvs) ∧ H0 p = none ∧ G p = none ∧ DqK K G kvs ds := by
  obtain ⟨x, h1, p, L, rfl, q⟩ := r.slots i _ h
  exact ⟨p, L, h1, q⟩
/-- an own dict is told from now on, and not written any more -/
theorem Rel.frz (r : Rel K Z G0 H0 σ ρ G H) (b0 : Bs Z G0 H0) {i : Nat} {ds : List (PyData × PyData)} (h : ρ[i]? = some (.dm ds)) : ∃ p kvs, σ[i]? = some (some (.ref p)) ∧ H p = some (.dK kvs) ∧ H0 p = none ∧ G p = none ∧
    ∀ od, Rel K Z G0 H0 σ (ρ.set i (.e (.dat (.dict ds)))) (upd G p (.frz od (.dK kvs))) (upd H p (.frz od (.dK kvs))) := by
  obtain ⟨p, kvs, h1, g, n0, n, ha⟩ := r.dms h
  refine ⟨p, kvs, h1, g, n0, n, fun od => ?_⟩
  have e : Ex G (upd G p (.frz od (.dK kvs))) := Ex.new n
  refine ⟨Stp.tellX b0 r.st n0 n, fun j c hc => ?_, fun j l c d' q nn hc1 hc2 o1 o2 s1 s2 => ?_⟩
  · by_cases ei : i = j
    · subst ei
      obtain ⟨rfl, hl⟩ := get_set_self hc
      exact ⟨_, h1, _, rfl, .dct upd_same (DqK.ex e _ _ ha)⟩
    · rw [List.getElem?_set_ne ei] at hc
      obtain ⟨x, h3, h4⟩ := r.slots j c hc
      refine ⟨x, h3, ?_⟩
      have ne : ∀ q : Addr, isOwn c = true → x = some (.ref q) → q ≠ p := fun q o hx z => by
        subst z
        rw [hx] at h3
        exact r.ne i j _ _ q ei h hc rfl o h1 h3
      cases c with
      | e m => exact EntOk.ex e h4
      | lst fs =>
        obtain ⟨q, vs, rfl, q1, q2, q3, q4⟩ := h4
        have z := ne q rfl rfl
        exact ⟨q, vs, rfl, by rw [upd_ne z]; exact q1, q2, by rw [upd_ne z]; exact q3, DqA.ex e _ _ q4⟩
      | dc P w ks =>
        obtain ⟨q, L, rfl, q1, q2, q3, q4, q5⟩ := h4
        have z := ne q rfl rfl
        exact ⟨q, L, rfl, by rw [upd_ne z]; exact q1, q2, by rw [upd_ne z]; exact q3, q4, fun x hx => ex_t e (q5 x hx)⟩
      | dm fs =>
        obtain ⟨q, L, rfl, q1, q2, q3, q4⟩ := h4
        have z := ne q rfl rfl
        exact ⟨q, L, rfl, by rw [upd_ne z]; exact q1, q2, by rw [upd_ne z]; exact q3, DqK.ex e _ _ q4⟩
  · have back : ∀ {j : Nat} {c : Cell}, (ρ.set i (.e (.dat (.dict ds))))[j]? = some c → isOwn c = true → ρ[j]? = some c := fun {j c} hh oo => by
      by_cases e : i = j
      · subst e
        obtain ⟨rfl, _⟩ := get_set_self hh
        cases oo
      · rw [List.getElem?_set_ne e] at hh
        exact hh
    exact r.ne j l c d' q nn (back hc1 o1) (back hc2 o2) o1 o2 s1 s2
/-- back from a lock -/
theorem unlockS (b0 : Bs Z G0 H0) {kvs : List (Key × V)} {od : Obj} (b : Bs Z G H) (n0 : H0 p = none) (k0 : ∀ D A B, Z = some (D, A, B) → Deck D A B H0) (hp : H p = some (.dK kvs)) (gp : G p = none) (s : Stp Z (upd G p (.frz od (.dK kvs))) (upd H p (.frz od (.dK kvs))) G' H') :
    G' p = some (.frz od (.dK kvs)) ∧ H' p = some (.frz od (.dK kvs)) ∧ Stp Z G H (cutP p G') (upd H' p (.dK kvs)) := by
  have g1 : G' p = some (.frz od (.dK kvs)) := s.g _ _ upd_same
  refine ⟨g1, s.s _ _ g1, fun a o h => ?_, fun a o h => ?_, fun a o h c => ?_, fun a u h1 h2 h3 => ?_, ?_⟩
  · have z : a ≠ p := fun z => by rw [z, gp] at h; cases h
    rw [cutP_ne z]
    exact s.g _ _ (by rw [upd_ne z]; exact h)
  · by_cases z : a = p
    · rw [z, cutP_same] at h; cases h
    · rw [cutP_ne z] at h
      rw [upd_ne z]
      exact s.s _ _ h
  · by_cases z : a = p
    · rw [z, hp] at h
      rw [z, upd_same]
      exact h
    · rw [upd_ne z]
      exact s.k a o (by rw [upd_ne z]; exact h) c
  · by_cases z : a = p
    · rw [z, cutP_same]
    · rw [cutP_ne z]
      exact s.n a u (by rw [upd_ne z]; exact h1) (by rw [upd_ne z]; exact h2) h3
  · have d := s.d
    match Z, d, k0 with
    | none, _, _ => trivial
    | some (D, A, B), d, k0 =>
      obtain ⟨n1, n2, n3⟩ := (k0 D A B rfl).ne n0
      refine ⟨Deck.putX d.1 n1 n2 n3, ?_, ?_⟩
      · rw [cutP_ne n1.symm]; exact d.2.1
      · rw [cutP_ne n2.symm]; exact d.2.2
theorem Dz.deck0 (b0 : Bs Z G0 H0) : ∀ D A B, Z = some (D, A, B) → Deck D A B H0 := fun D A B e => by
  subst e
  exact b0.dk.1
end
section
variable {K : PySem.W.Frag} {Z : Zk} {ρ : List Cell} {te ta tb tc : TE} {α β γ : Type} {e : β → PyData} {e1 : α → PyData} {e2 : γ → PyData}
/-- an own dict is read in an expression -/
theorem rf_lock {i : Nat} (e : β → PyData) (l : List (Int × β)) {m : (γ → Prop) → Prop} (n : NoL e2) (h : Ref K Z e2 te (ρ.set i (.e (.dat (eM e l)))) m) (hi : ρ[i]? = some (.dm (dM e l)) := by rfl) : Ref K Z e2 (tLockE te) ρ m := fun R hR G0 H0 b0 σ G H r Q q => by
  obtain ⟨p, kvs, h1, hp, n0, gp, hr⟩ := r.frz b0 hi
  refine ⟨p, .dK kvs, hp, trivial, fun od => ?_⟩
  refine h R hR G0 H0 b0 σ _ _ (hr od) _ fun v d G' H' ⟨a, hd, ra⟩ s hv => ?_
  obtain ⟨k1, k2, k3⟩ := unlockS b0 (r.bs b0) n0 (Dz.deck0 b0) hp gp s
  exact ⟨k2, q v d _ _ ⟨a, hd, ra⟩ k3 (cutP_dq k1 rfl d v (by rw [hd]; exact n a) hv)⟩
theorem rfo_lock {i : Nat} (e : β → PyData) (l : List (Int × β)) {m : (List γ → Prop) → Prop} (n : NoL e2) (h : RefO K Z e2 te (ρ.set i (.e (.dat (eM e l)))) m) (hi : ρ[i]? = some (.dm (dM e l)) := by rfl) : RefO K Z e2 (tLockE te) ρ m := fun R hR G0 H0 b0 σ G H r Q q => by
  obtain ⟨p, kvs, h1, hp, n0, gp, hr⟩ := r.frz b0 hi
  refine ⟨p, .dK kvs, hp, trivial, fun od => ?_⟩
  refine h R hR G0 H0 b0 σ _ _ (hr od) _ fun x vs ds G' H' ⟨a, hd, ra⟩ s nx nx' gx hv => ?_
  obtain ⟨k1, k2, k3⟩ := unlockS b0 (r.bs b0) n0 (Dz.deck0 b0) hp gp s
  have xp : x ≠ p := fun z => by rw [z, upd_same] at nx; cases nx
  rw [upd_ne xp] at nx
  exact ⟨k2, q x vs ds _ _ ⟨a, hd, ra⟩ k3 nx (by rw [cutP_ne xp]; exact nx') (by rw [upd_ne xp]; exact gx) (cutP_dqs k1 rfl ds vs (by rw [hd]; exact noLs_map n a) hv)⟩
/-! new dicts -/
def SCD (K : PySem.W.Frag) (Z : Zk) (te : TE) (ρ : List Cell) (R : List (PyData × PyData) → Prop) : Prop := ∀ (G0 H0 : Hp), Bs Z G0 H0 → ∀ (σ : L2.St) (G H : Hp), Rel K Z G0 H0 σ ρ G H → ∀ Q : VK, (∀ p kvs ds G' H', R ds → Stp Z G H G' H' → H p = none → G' p = none → H' p = some (.dK kvs) → DqK K G' kvs ds → Q (.ref p) H') → te σ H Q
def RefD (K : PySem.W.Frag) (Z : Zk) (e : β → PyData) (te : TE) (ρ : List Cell) (m : (List (Int × β) → Prop) → Prop) : Prop := ∀ R : List (Int × β) → Prop, m R → SCD K Z te ρ (fun ds => ∃ l, ds = dM e l ∧ R l)
theorem rfd_told {m : (List (Int × β) → Prop) → Prop} (h : RefD K Z e te ρ m) : Ref K Z (eM e) (tFrzE te) ρ m := fun R hR G0 H0 b0 σ G H r Q q =>
  h R hR G0 H0 b0 σ G H r _ fun p kvs ds G' H' ⟨l, hd, rl⟩ s np np' gp hk => ⟨p, _, rfl, gp, trivial, fun od => by
    refine q _ (eM e l) (upd G' p (.frz od (.dK kvs))) _ ⟨l, rfl, rl⟩ (Stp.tellX (r.bs b0) s np np') ?_
    rw [hd] at hk
    exact .dct upd_same (DqK.ex (Ex.new np') _ _ hk)⟩
theorem rfd_new (e : β → PyData) : RefD K Z e tDNewK ρ (fun R => R []) := fun R hR G0 H0 b0 σ G H r Q q p np =>
  q p [] [] G _ ⟨[], rfl, hR⟩ (.hide (r.bs b0) np) np (none_of (r.bs b0).ex np) upd_same .nil
theorem rfd_disp1 {mk : (Int → Prop) → Prop} {mv : (β → Prop) → Prop} (h1 : Ref K Z eI ta ρ mk) (h2 : Ref K Z e tb ρ mv) : RefD K Z e (tDisp [(ta, tb)]) ρ (fun R => mk fun k => mv fun v => R [(k, v)]) := fun R hR G0 H0 b0 σ G H r Q q p np => by
  have bs := r.bs b0
  have s0 : Stp Z G H G (upd H p (.dK [])) := .hide bs np
  refine h1 _ hR G0 H0 b0 σ G _ (r.step b0 s0) _ fun v1 d1 G1 H1 ⟨k, hd1, r1⟩ s1 hv1 => h2 _ r1 G0 H0 b0 σ G1 H1 ((r.step b0 s0).step b0 s1) _ fun v2 d2 G2 H2 ⟨b, hd2, r2⟩ s2 hv2 => ?_
  subst hd1 hd2
  rw [dq_int hv1]
  have s12 := s1.trans s2
  have n2 : G2 p = none := s12.n p _ (none_of bs.ex np) upd_same rfl
  have h2p : H2 p = some (.dK []) := s12.k p _ upd_same (bs.dk.ne np)
  refine ⟨h2p, [(kI k, v2)], rfl, Nat.le_of_ble_eq_true rfl, ?_⟩
  exact q p _ _ G2 _ ⟨[(k, b)], rfl, r2⟩ (Stp.mutX bs (s0.trans s12) np n2) np n2 upd_same (dqk_mk hv2 .nil)
theorem rfd_disp2 {ta2 tb2 : TE} {mk mk2 : (Int → Prop) → Prop} {mv mv2 : (β → Prop) → Prop} (h1 : Ref K Z eI ta ρ mk) (h2 : Ref K Z e tb ρ mv) (h3 : Ref K Z eI ta2 ρ mk2) (h4 : Ref K Z e tb2 ρ mv2) :
    RefD K Z e (tDisp [(ta, tb), (ta2, tb2)]) ρ (fun R => mk fun k => mv fun v => mk2 fun k2 => mv2 fun v2 => R (putM [(k, v)] k2 v2)) := fun R hR G0 H0 b0 σ G H r Q q p np => by
  have bs := r.bs b0
  have s0 : Stp Z G H G (upd H p (.dK [])) := .hide bs np
  have rel0 := r.step b0 s0
  refine h1 _ hR G0 H0 b0 σ G _ rel0 _ fun v1 d1 G1 H1 ⟨k, hd1, r1⟩ s1 hv1 => h2 _ r1 G0 H0 b0 σ G1 H1 (rel0.step b0 s1) _ fun v2 d2 G2 H2 ⟨b, hd2, r2⟩ s2 hv2 => ?_
  refine h3 _ r2 G0 H0 b0 σ G2 H2 ((rel0.step b0 s1).step b0 s2) _ fun v3 d3 G3 H3 ⟨k', hd3, r3⟩ s3 hv3 => h4 _ r3 G0 H0 b0 σ G3 H3 (((rel0.step b0 s1).step b0 s2).step b0 s3) _ fun v4 d4 G4 H4 ⟨b', hd4, r4⟩ s4 hv4 => ?_
  subst hd1 hd2 hd3 hd4
  rw [dq_int hv1, dq_int hv3]
  have s12 := (s1.trans s2).trans (s3.trans s4)
  have n2 : G4 p = none := s12.n p _ (none_of bs.ex np) upd_same rfl
  have h2p : H4 p = some (.dK []) := s12.k p _ upd_same (bs.dk.ne np)
  refine ⟨h2p, [(kI k, v2), (kI k', v4)], rfl, Nat.le_of_ble_eq_true rfl, ?_⟩
  exact q p _ _ G4 _ ⟨putM [(k, b)] k' b', rfl, r4⟩ (Stp.mutX bs (s0.trans s12) np n2) np n2 upd_same (dqk_put hv4 (dqk_mk (Dq.ex (s3.trans s4).g _ _ hv2) .nil))
end
/-! ### statements -/
def rSetM : TSet := fun o i v H Q => ∃ (a : Addr) (kvs : List (Key × V)) (k : Int), o = .ref a ∧ i = .int k ∧ H a = some (.dK kvs) ∧ kvs.length < sizeLine ∧ Q (upd H a (.dK (L2.putK kvs (kI k) v)))
theorem set_dM {X : Cx} (hu : X.A.units + 64 < cLine) : PSet X rSetM := by
  intro pins s σ H o i v ov iv u Q I ro ri rv h
  obtain ⟨a, kvs, k, rfl, rfl, hd, hl, q⟩ := h
  obtain rfl : ov = Value.ref a := ro
  exact d_setItem (by omega) I (DPut.k (k := kI k) hd hl) ri rv fun s4 I4 => ⟨_, I4, q⟩
section
variable {K : PySem.W.Frag} {Z : Zk} {ρ : List Cell} {N : List Cell → Prop} {E : Eo} {t u : TS} {te ti : TE} {α β γ : Type} {e : β → PyData}
theorem rs_setD {i : Nat} {m : (List (Int × β) → Prop) → Prop} {A : List (Int × β) → Prop} (h : RefD K Z e te ρ m) (hm : st m A) (k : ∀ l, A l → N (ρ.set i (.dm (dM e l)))) : SS K Z (tAsg te (gName i)) ρ N E := fun G0 H0 Gb b0 D E nx σ G H eb r =>
  h _ hm G0 H0 b0 σ G H r _ fun p kvs ds G' H' ⟨l, hd, rl⟩ s np np' gp hk => by
    have r' := r.step b0 s
    rw [hd] at hk
    exact nx _ _ G' H' (k l rl) (eb.trans s.g) (r'.setX i ⟨p, kvs, rfl, gp, freshBack b0 r.st np, np', hk⟩ fun j c hc o => r.fresh np j c hc o)
theorem rs_tellD {i : Nat} (e : β → PyData) (l : List (Int × β)) (k : SS K Z t (ρ.set i (.e (.dat (eM e l)))) N E) (hi : ρ[i]? = some (.dm (dM e l)) := by rfl) : SS K Z (tFrzS t) ρ N E := fun G0 H0 Gb b0 D E' nx σ G H eb r => by
  obtain ⟨p, kvs, h1, hp, n0, gp, hr⟩ := r.frz b0 hi
  exact ⟨p, .dK kvs, hp, trivial, fun od => k G0 H0 Gb b0 D E' nx σ _ _ (eb.trans (Ex.new gp)) (hr od)⟩
/-- d[k] = v, d an own dict -/
theorem rs_putD {i : Nat} (l : List (Int × β)) {m : (β → Prop) → Prop} {mk : (Int → Prop) → Prop} {A : List (Int × β) → Prop} (h1 : Ref K Z e te ρ m) (h2 : Ref K Z eI ti ρ mk) (hm : st m fun v => st mk fun k => l.length < 100000 ∧ A (putM l k v)) (k : ∀ l, A l → N (ρ.set i (.dm (dM e l)))) (hi : ρ[i]? = some (.dm (dM e l)) := by rfl) :
    SS K Z (tAsg te (gSub (tVar i) ti rSetM)) ρ N E := fun G0 H0 Gb b0 D E' nx σ G H eb r =>
  h1 _ hm G0 H0 b0 σ G H r _ fun v d G1 H1 ⟨b, hd, r1⟩ s1 hv => by
    subst hd
    have rel1 := r.step b0 s1
    obtain ⟨p, kvs, hs, _⟩ := r.dms hi
    refine ⟨.ref p, hs, h2 _ r1 G0 H0 b0 σ G1 H1 rel1 _ fun v2 d2 G2 H2 ⟨kk, hd2, hl, r2⟩ s2 hv2 => ?_⟩
    subst hd2
    have rel2 := rel1.step b0 s2
    obtain ⟨p', kvs', hs', hp, n0, n, hk⟩ := rel2.dms hi
    rw [hs] at hs'
    cases hs'
    exact ⟨p, kvs', kk, rfl, dq_int hv2, hp, by rw [dqk_len hk]; exact sz_lt hl, nx _ _ G2 _ (k _ r2) ((eb.trans s1.g).trans s2.g) (rel2.putX b0 hi rfl rfl hs n0 n ⟨p, _, rfl, upd_same, n0, n, dqk_put (Dq.ex s2.g _ _ hv) hk⟩)⟩
end
end FF
set_option maxHeartbeats 4000000
namespace FF
open PySem PySem.Spec PyProof.Rows L2 Evl
/-! ### built-in calls over a dict with int keys -/
section
variable {X : Cx} {pins : List (Addr × Obj)} {σ : L2.St} {H : Hp} {s : Shared}
theorem keysAt {P : Program} {w : World} {kvs : List (Key × V)} {vs : List (Key × Value)} {is : List Int} (rel : KV kvs vs) (hv : kvs.map (·.1) = is.map Sum.inl) : vs.length = is.length ∧ ∀ (i : Nat) (v : Value), (∃ k x, vs[i]? = some (k, x) ∧ (mixKind P w).is k v = true) → ∃ t, v = Value.int (is.getD i 0) t := by
  have hkeys : vs.map (·.1) = is.map Sum.inl := (KV.keys rel).symm.trans hv
  refine ⟨?_, fun i v ⟨k, x, hk, hkey⟩ => ?_⟩
  · have e1 := congrArg List.length hkeys
    rw [List.length_map, List.length_map] at e1
    exact e1
  · have e1 : (vs.map (·.1))[i]? = some k := by rw [List.getElem?_map, hk] <;> rfl
    rw [hkeys, List.getElem?_map] at e1
    obtain ⟨j, hj, e2⟩ := Option.map_eq_some_iff.mp e1
    subst e2
    have hi : Value.isInt j v = true := hkey
    obtain ⟨t, e3⟩ := Value.isInt_shape (k := j) (v := v) hi
    refine ⟨t, ?_⟩
    rw [e3, List.getD_eq_getElem?_getD, hj] <;> rfl
def rBestD (mx : Bool) : List V → Hp → VK → Prop := fun vs H Q => ∃ (a : Addr) (kvs : List (Key × V)) (is : List Int), vs = [V.ref a] ∧ Rd H a (.dK kvs) ∧ kvs.map (·.1) = is.map Sum.inl ∧ is ≠ [] ∧ ∀ m, m ∈ is → (∀ j ∈ is, if mx then j ≤ m else m ≤ j) → Q (.int m) H
theorem cr_maxD (hc : X.calm = true) : CallR X (.builtin "max") (rBestD true) := by
  intro pins s σ H vs us Q I r h
  obtain ⟨a, kvs, is, rfl, ha, hv, hne, q⟩ := h
  rw [Vals.ref1 r]
  obtain ⟨_, hsys, vs, rel, dof⟩ := dk_rd I.hok ha
  obtain ⟨ep, dat⟩ := dof.dictAt
  obtain ⟨ob, es, ho, hex, hdat, hko, hpr, hnd⟩ := id dat
  have hlt : a < s.heap.objs.size := Heap.lt_size ho
  obtain ⟨hlv, hval⟩ := keysAt (P := X.prog) (w := X.w) rel hv
  have hlen : 0 < vs.length := by
    rw [hlv]
    exact List.length_pos_iff.mpr hne
  refine call_max_walk (wpAny_pyIter_dict (knd := mixKind X.prog X.w) hsys dat ?_)
  refine ⟨_, _, _, _, _, _, _, rfl, Walks.dictKeys (knd := mixKind X.prog X.w) (A := X.A.in1) (I.ok.hd hc) s.heap.objs.size a (Nat.ne_of_lt hlt) vs ep,
    ⟨⟨_, Heap.get?_push_size _ rfl, rfl, rfl⟩, dat.keep fun b u e => Heap.get?_push_of_some _ e⟩, fun b hb => ?_, hlen, CmpOf.ints_gt (fun i => is.getD i 0) hval, fun v h' tk hP hk => ?_⟩
  · show b < (s.heap.push _).objs.size
    rw [Heap.size_push]
    rcases List.mem_cons.mp hb with e | hb
    · rw [e]
      exact Nat.lt_succ_self _
    · rw [List.mem_singleton.mp hb]
      exact Nat.lt_succ_of_lt hlt
  · obtain ⟨t, rfl⟩ := hval _ v hP
    obtain ⟨b1, b2⟩ := argBest_gt (fun i => is.getD i 0) (vs.length - 1)
    refine ⟨.int _, H, I.kept (t' := tk) fun b u e => hk b u (fun hmem => ?_) (Heap.get?_push_of_some _ e), ⟨t, rfl⟩, q _ ?_ fun j hj => ?_⟩
    · have e1 : b = s.heap.objs.size := List.mem_singleton.mp hmem
      have e2 := Heap.lt_size e
      rw [e1] at e2
      exact absurd e2 (Nat.lt_irrefl _)
    · have hb : argBest (fun i j => decide (is.getD i 0 > is.getD j 0)) (vs.length - 1) < is.length := by omega
      rw [List.getD_eq_getElem?_getD, List.getElem?_eq_getElem hb]
      exact List.getElem_mem hb
    · obtain ⟨i, hi, e⟩ := List.mem_iff_getElem.mp hj
      have e2 : is.getD i 0 = j := by rw [List.getD_eq_getElem?_getD, List.getElem?_eq_getElem hi, ← e] <;> rfl
      show j ≤ _
      rw [← e2]
      exact b2 i (by omega)
theorem cr_minD (hc : X.calm = true) : CallR X (.builtin "min") (rBestD false) := by
  intro pins s σ H vs us Q I r h
  obtain ⟨a, kvs, is, rfl, ha, hv, hne, q⟩ := h
  rw [Vals.ref1 r]
  obtain ⟨_, hsys, vs, rel, dof⟩ := dk_rd I.hok ha
  obtain ⟨ep, dat⟩ := dof.dictAt
  obtain ⟨ob, es, ho, hex, hdat, hko, hpr, hnd⟩ := id dat
  have hlt : a < s.heap.objs.size := Heap.lt_size ho
  obtain ⟨hlv, hval⟩ := keysAt (P := X.prog) (w := X.w) rel hv
  have hlen : 0 < vs.length := by
    rw [hlv]
    exact List.length_pos_iff.mpr hne
  refine call_min_walk (wpAny_pyIter_dict (knd := mixKind X.prog X.w) hsys dat ?_)
  refine ⟨_, _, _, _, _, _, _, rfl, Walks.dictKeys (knd := mixKind X.prog X.w) (A := X.A.in1) (I.ok.hd hc) s.heap.objs.size a (Nat.ne_of_lt hlt) vs ep,
    ⟨⟨_, Heap.get?_push_size _ rfl, rfl, rfl⟩, dat.keep fun b u e => Heap.get?_push_of_some _ e⟩, fun b hb => ?_, hlen, CmpOf.ints_lt (fun i => is.getD i 0) hval, fun v h' tk hP hk => ?_⟩
  · show b < (s.heap.push _).objs.size
    rw [Heap.size_push]
    rcases List.mem_cons.mp hb with e | hb
    · rw [e]
      exact Nat.lt_succ_self _
    · rw [List.mem_singleton.mp hb]
      exact Nat.lt_succ_of_lt hlt
  · obtain ⟨t, rfl⟩ := hval _ v hP
    obtain ⟨b1, b2⟩ := argBest_lt (fun i => is.getD i 0) (vs.length - 1)
    refine ⟨.int _, H, I.kept (t' := tk) fun b u e => hk b u (fun hmem => ?_) (Heap.get?_push_of_some _ e), ⟨t, rfl⟩, q _ ?_ fun j hj => ?_⟩
    · have e1 : b = s.heap.objs.size := List.mem_singleton.mp hmem
      have e2 := Heap.lt_size e
      rw [e1] at e2
      exact absurd e2 (Nat.lt_irrefl _)
    · have hb : argBest (fun i j => decide (is.getD i 0 < is.getD j 0)) (vs.length - 1) < is.length := by omega
      rw [List.getD_eq_getElem?_getD, List.getElem?_eq_getElem hb]
      exact List.getElem_mem hb
    · obtain ⟨i, hi, e⟩ := List.mem_iff_getElem.mp hj
      have e2 : is.getD i 0 = j := by rw [List.getD_eq_getElem?_getD, List.getElem?_eq_getElem hi, ← e] <;> rfl
      show _ ≤ j
      rw [← e2]
      exact b2 i (by omega)
def rLenD : List V → Hp → VK → Prop := fun vs H Q => ∃ (a : Addr) (kvs : List (Key × V)), vs = [V.ref a] ∧ Rd H a (.dK kvs) ∧ Q (.int kvs.length) H
theorem cr_lenD : CallR X (.builtin "len") rLenD := by
  intro pins s σ H vs us Q I r h
  obtain ⟨a, kvs, rfl, ha, q⟩ := h
  rw [Vals.ref1 r]
  exact d_len I ha fun t s' I' => ⟨.int kvs.length, H, I', ⟨t, rfl⟩, q⟩
theorem preSumD (is : List Int) : ∀ n, n ≤ is.length → preSum (fun i => is.getD i 0) n = (is.take n).sum
  | 0, _ => by simp [preSum]
  | n + 1, h => by
    have ih := preSumD is n (by omega)
    unfold preSum
    rw [ih]
    have hn : n < is.length := by omega
    rw [List.take_succ_eq_append_getElem hn, List.sum_append, List.sum_singleton]
    congr 1
    rw [List.getD_eq_getElem?_getD, List.getElem?_eq_getElem hn] <;> rfl
/-- sum(d.values()) -/
def tSumVals (td : TE) : TE := fun σ H Q => td σ H fun x H1 => ∃ (a : Addr) (kvs : List (Key × V)) (is : List Int), x = V.ref a ∧ Rd H1 a (.dK kvs) ∧ kvs.map (·.2) = is.map V.int ∧ Q (.int is.sum) H1
variable {o : Expr} {p pos apos mpos : Pos} {td : TE}
theorem pe_sumVals (hc : X.calm = true) (hg : Gl X "sum") (hm : X.mg "sum" = none) (hd : PE X o td) (hbase : attributeBase o "values" X.env (eval o X.env) = eval o X.env := by rfl) (hline : (apos.endLine == mpos.line) = true := by rfl)
    (hse : starEach [Expr.Call (.Attribute o "values" apos) [] [] mpos] X.env = [(false, eval (Expr.Call (.Attribute o "values" apos) [] [] mpos) X.env)] := by rfl) :
    PE X (.Call (.Name "sum" p) [.Call (.Attribute o "values" apos) [] [] mpos] [] pos) (tSumVals td) := by
  refine ⟨fun pins s σ H Q I h => ?_⟩
  refine wpAny_Call_Name_kw (ld_blt I hg hm (u := .builtin "sum") (by first | rfl | decide +kernel) ?_ (by first | decide +kernel | decide) (by first | decide +kernel | decide))
  rw [hse]
  refine PySem.callWith_builtin1 (wpAny_Call_method0_late hbase hline (thn (hd.run pins s σ H _ I h) fun v s1 ⟨x, H1, I1, r1, a, kvs, is, ex, ha, hv, q⟩ => ?_))
  subst ex
  obtain rfl : v = Value.ref a := r1
  obtain ⟨_, hsys, vs, rel, dof⟩ := dk_rd I1.hok ha
  obtain ⟨ep, dat⟩ := dof.dictAt
  have dat' := dat
  obtain ⟨ob, es, ho, ex, hdat, hko, hpr, hnd⟩ := dat'
  refine ⟨"dict", "dict.values", F.plainAttrs_dict, F.slot_dict_values, F.type_dict_values, ⟨ob, ho, ex.1⟩, fun b e => ?_, Calls.callWith_builtin rfl (PySem.evalArgs_none ?_)⟩
  · cases e
    exact ⟨ob, ho, ex.2.1⟩
  refine call_meetsIn F.slot_dict_values ⟨ob, ho, ex.1⟩ F.entry_dict_values (F.args_dict_values_1 _) (meets_dict_values (mixKind X.prog X.w) a hsys) ⟨⟨vs, dof⟩, ?_⟩
  have k1 : ∀ b u, s1.heap.get? b = some u → (s1.heap.push { cls := .type "dict_values", data := .fields #[.ref a] }).get? b = some u := fun b u e => Heap.get?_push_of_some _ e
  have dat1 : (s1.heap.push { cls := .type "dict_values", data := .fields #[.ref a] }).DictAt (mixKind X.prog X.w) a vs ep := dat.keep k1
  have hlv : vs.length = is.length := by
    have e1 := congrArg List.length hv
    rw [List.length_map, List.length_map] at e1
    rw [← e1]
    exact (KV.length rel).symm
  have hval : ∀ (i : Nat) (v : Value), (∃ k, vs[i]? = some (k, v)) → ∃ t, v = Value.int (is.getD i 0) t := fun i v ⟨k, hk⟩ => by
    obtain ⟨x, h1, h2⟩ := KV.at' rel hk
    have e1 : (kvs.map (·.2))[i]? = some x := by rw [List.getElem?_map, h1] <;> rfl
    rw [hv, List.getElem?_map] at e1
    obtain ⟨j, hj, e2⟩ := Option.map_eq_some_iff.mp e1
    subst e2
    obtain ⟨t, e3⟩ := h2
    refine ⟨t, ?_⟩
    rw [e3, List.getD_eq_getElem?_getD, hj] <;> rfl
  refine call_sum_walkG (wpAny_pyIter_values (v := s1.heap.objs.size) (d := a) ⟨_, Heap.get?_push_size _ rfl, rfl, rfl⟩ dat1 ?_)
  have hlt : a < s1.heap.objs.size := Heap.lt_size ho
  have hsz : (s1.heap.push { cls := .type "dict_values", data := .fields #[.ref a] }).objs.size = s1.heap.objs.size + 1 := Heap.size_push _ _
  refine ⟨_, _, _, _, _, _, _, rfl, Walks.dictValues (knd := mixKind X.prog X.w) (A := X.A.in1) (I.ok.hd hc) (s1.heap.push { cls := .type "dict_values", data := .fields #[.ref a] }).objs.size a (by rw [hsz]; exact Nat.ne_of_lt (Nat.lt_succ_of_lt hlt)) vs ep,
    ⟨⟨_, Heap.get?_push_size _ rfl, rfl, rfl⟩, dat1.keep fun b u e => Heap.get?_push_of_some _ e⟩, fun b hb => ?_, hval, fun h' tk t' hk => ?_⟩
  · show b < ((s1.heap.push _).push _).objs.size
    rw [Heap.size_push, Heap.size_push]
    rw [hsz] at hb
    rcases List.mem_cons.mp hb with e | hb
    · rw [e]
      exact Nat.lt_succ_self _
    · have e : b = a := List.mem_singleton.mp hb
      rw [e]
      exact Nat.lt_succ_of_lt (Nat.lt_succ_of_lt hlt)
  · refine ⟨.int _, H1, I1.kept (t' := tk) fun b u e => hk b u (fun hmem => ?_) (Heap.get?_push_of_some _ (k1 b u e)), ⟨_, rfl⟩, ?_⟩
    · have e1 : b = (s1.heap.push { cls := .type "dict_values", data := .fields #[.ref a] }).objs.size := List.mem_singleton.mp hmem
      have e2 := Heap.lt_size e
      rw [hsz] at e1
      rw [e1] at e2
      exact absurd e2 (Nat.not_lt.mpr (Nat.le_succ _))
    · rw [preSumD is _ (by omega), hlv, List.take_length]
      exact q
end
/-! tuple(d) -/
section
variable {prog : Program} {w : World} {A : Around} {E : Value → Shared → Prop} {s : Shared} {d : Addr} {n : Nat} {T : String} {Pv : Nat → Value → Prop} {OK : Heap → Prop}
theorem collectSrc {Q : List Value → Shared → Prop} (K : PySem.W.KdlSrc prog w T d d n Pv OK) (hh : A.handled = none) (hok : OK s.heap) (hn : n ≤ sizeLine)
    (hQ : ∀ (h' : Heap) (tk : Nat) (acc : Array Value), (∀ b u, s.heap.get? b = some u → h'.get? b = some u) → ItemsOf Pv acc n → Q acc.toList { s with heap := h', toks := tk }) : wpAny (model prog w) A (collect (.ref d)) Q E s := by
  have nd : s.heap.objs.size ≠ d := Nat.ne_of_gt (K.there _ hok).1
  have g0 : (s.heap.push { cls := .type "list", data := .seq ([] : List Value).toArray }).get? s.heap.objs.size = some { cls := .type "list", data := .seq ([] : List Value).toArray } := Heap.get?_push_size _ rfl
  unfold collect
  refine wpAny_bind (wpAny_runValue (codeAny_builtin F.entry_proto_collect (?_ : _)))
  rw [Around.under_plainId F.plain_proto_collect _]
  show wpAny _ A.in1 (newList [] >>= fun l => again (.builtin "list.__iadd__" ⟨[l, .ref d], []⟩)) _ _ s
  refine wpAny_bind (wpAny_newObj_type (wpAny_pure ⟨plainId_quiet F.plain_list_iadd _, codeAny_builtin F.entry_list_iadd (?_ : _)⟩))
  rw [Around.under_plainId F.plain_list_iadd _]
  show wpAny _ A.in1 (Builtin.List.listExtendWith (.ref s.heap.objs.size) (.ref d) (.ref s.heap.objs.size)) _ _ { s with heap := s.heap.push { cls := .type "list", data := .seq ([] : List Value).toArray } }
  refine wpAny_mono (PySem.W.kdl_extend (R := wants (fun v s' => wpAny (model prog w) A (match v with | .ref a => (load a >>= fun o => match o.data with | .seq xs _ => pure xs.toList | _ => unsupported "internal:collect") | _ => unsupported "internal:collect") Q E s') E) (s := { s with heap := s.heap.push { cls := .type "list", data := .seq ([] : List Value).toArray } }) K hh (K.keep _ _ hok fun b _ o e => Heap.get?_push_of_some _ e) s.heap.objs.size nd nd _ 0 g0 (fun h' tk acc c hk hS hacc => ?_) hn) (fun fin s' q => ?_) fun e s' q => q
  · show wpAny _ A (load s.heap.objs.size >>= _) _ _ _
    refine wpAny_bind (wpAny_load (s := { s with heap := h', toks := tk }) hS (wpAny_pure ?_))
    exact hQ h' tk acc (fun b u e => hk b u (Nat.ne_of_lt (Heap.lt_size e)) (Heap.get?_push_of_some _ e)) hacc
  · cases fin with
    | done f => exact q
    | again c => exact q
theorem code_tuple_new_dict {Q₁ : Value → Shared → Prop} (K : PySem.W.KdlSrc prog w "dict" d d n Pv OK) (hh : A.handled = none) (hok : OK s.heap) (hn : n ≤ sizeLine)
    (h : ∀ (h' : Heap) (tk : Nat) (acc : Array Value), (∀ b o, s.heap.get? b = some o → h'.get? b = some o) → ItemsOf Pv acc n →
      Q₁ (.ref h'.objs.size) { s with heap := h'.push { cls := .type "tuple", data := .seq acc }, toks := tk }) :
    codeAny (model prog w) A (.call (.builtin "tuple.__new__") ⟨[.type "tuple", .ref d], []⟩) (wants Q₁ E) s := by
  refine codeAny_of_tree ?_
  show wpAny _ A.in1 (do checkBuiltinCall "tuple.__new__" ⟨[.type "tuple", .ref d], []⟩; again (.builtin "tuple.__new__" ⟨[.type "tuple", .ref d], []⟩)) _ _ s
  refine wpAny_bind (wpAny_of_eq (F.newCall_tuple_1 _) (wpAny_pure ⟨plainId_quiet F.plain_tuple_new _, codeAny_builtin F.entry_tuple_new ?_⟩))
  rw [Around.under_plainId F.plain_tuple_new _]
  have hsub := sub_tuple_self
  have hinit := init_tuple_lookup
  have hmh := madeHere_tuple
  have hTI : s.TypeIs (.ref d) "dict" := K.type s hok
  have hh1 : A.in1.handled = none := hh
  wp_walk using wpAny_typeOf hTI, collectSrc (A := A.in1) K hh1 hok hn
  intro h' tk acc hk hacc
  show wpAny _ _ (Builtin.Tuple.tupleExact acc.toList.toArray >>= fun v => ret v) _ _ _
  unfold Builtin.Tuple.tupleExact
  refine wpAny_bind (wpAny_newObj_type ?_ (by show acc.toList.toArray.size ≤ sizeLine; simp only [Array.toArray_toList]; rw [hacc.1]; exact hn))
  refine wpAny_pure ?_
  have e : acc.toList.toArray = acc := by simp
  rw [e]
  exact h h' tk acc hk hacc
theorem call_tuple_dict {Q : Value → Shared → Prop} (K : PySem.W.KdlSrc prog w "dict" d d n Pv OK) (hh : A.handled = none) (hok : OK s.heap) (hn : n ≤ sizeLine)
    (hQ : ∀ (h' : Heap) (tk : Nat) (acc : Array Value), (∀ b o, s.heap.get? b = some o → h'.get? b = some o) → ItemsOf Pv acc n →
      Q (.ref h'.objs.size) { s with heap := h'.push { cls := .type "tuple", data := .seq acc }, toks := tk }) :
    wpAny (model prog w) A (call (.type "tuple") [.ref d]) Q E s := by
  refine callType_codes (Q₁ := fun obj s₁ => s₁.TypeIs obj "tuple" ∧ Q obj s₁) F.called_tuple (F.typeCall_tuple_1 _) F.entry_object_init
    (code_tuple_new_dict (A := A.in1) K hh hok hn fun h' tk acc hk hacc => ⟨⟨_, Heap.get?_push_size _ rfl, rfl⟩, hQ h' tk acc hk hacc⟩) fun obj s₁ h₁ => ?_
  exact ⟨h₁.1, F.args_object_init_2 obj _, object_init_meets F.called_tuple.init.lookup F.called_tuple.made (by decide) prog w A.in1 _ s₁ ⟨h₁.1, rfl, h₁.2⟩⟩
end
def rTupD : List V → Hp → VK → Prop := fun xs H Q => ∃ p kvs, xs = [.ref p] ∧ Rd H p (.dK kvs) ∧ ∀ q, H q = none → Q (.ref q) (upd H q (.tup (kvs.map fun kv => kV kv.1)))
theorem call_tupleD {X : Cx} (hc : X.calm = true) : CallR X (.type "tuple") rTupD := by
  intro pins s σ H xs us Q I r h
  obtain ⟨p, kvs, e, hk, q⟩ := h
  subst e
  obtain ⟨u, eu, rx⟩ := vals1 r
  subst eu
  obtain rfl : u = Value.ref p := rx
  obtain ⟨z, lo, vs, rk, hd⟩ := dk_rd I.hok hk
  obtain ⟨ep, hat⟩ := hd.dictAt
  have hl : kvs.length = vs.length := Paired.length rk
  refine call_tuple_dict (PySem.W.kdl_dict (knd := mixKind X.prog X.w) (kvs := vs) (ep := ep) lo) (I.ok.hd hc) hat (by rw [← hl]; exact z) fun h' tk acc' hkeep hacc => ?_
  have I1 : Inv X pins σ H { s with heap := h', toks := tk } := I.kept (t' := tk) hkeep
  refine ⟨.ref h'.objs.size, upd H h'.objs.size (.tup (kvs.map fun kv => kV kv.1)), I1.laid (t' := tk) (fun b o e => Heap.get?_push_of_some _ e) (Nat.le_refl _) (show ObjOk X.prog X.w _ _ _ (.tup (kvs.map fun kv => kV kv.1)) from ⟨?_, acc'.toList, ?_, ?_⟩), rfl, q _ (I1.hok.fresh (Nat.le_refl _))⟩
  · rw [List.length_map]; exact z
  · have el : acc'.toList.length = acc'.size := by simp
    refine vals_of_at (by rw [List.length_map, el, hacc.1, hl]) fun j x w h1 h2 => ?_
    obtain ⟨k, y, hky, hi⟩ := hacc.2 j w (by rw [← Array.getElem?_toList]; exact h2)
    have e1 : (kvs.map (·.1))[j]? = some k := by
      rw [KV.keys rk, List.getElem?_map, hky] <;> rfl
    have e2 : (kvs.map fun kv => kV kv.1)[j]? = some (kV k) := by
      have e3 : (kvs.map fun kv => kV kv.1) = (kvs.map (·.1)).map kV := by rw [List.map_map] <;> rfl
      rw [e3, List.getElem?_map, e1] <;> rfl
    rw [e2] at h1
    cases h1
    exact keyIs_rel hi
  · rw [Array.toArray_toList]; exact IsTup.new _ _
/-! max(xs, default=0) -/
def rMaxDef (K : PySem.W.Frag) : List V → List V → Hp → VK → Prop := fun vs zs H Q => ∃ (a : Addr) (ns : List Int) (d : Int), vs = [V.ref a] ∧ zs = [.int d] ∧ SqL K H a (ns.map V.int) ∧ (ns = [] → Q (.int d) H) ∧ ∀ m, m ∈ ns → (∀ y, y ∈ ns → y ≤ m) → Q (.int m) H
theorem cr_maxDef {X : Cx} (hc : X.calm = true) : CallRK X (.builtin "max") [Str.ofString "default"] (rMaxDef X.K) := by
  intro pins s σ H vs zs us ws Q I r rz h
  obtain ⟨a, ns, d, rfl, rfl, hs, q0, q⟩ := h
  obtain ⟨w1, rfl, td, rfl⟩ := vals1 rz
  obtain ⟨its, rv, hl, hz⟩ := I.list hs
  rw [Vals.ref1 r]
  have hi := rv.ints
  have hlen : its.length = ns.length := by rw [← rv.length, List.length_map]
  have hval : ∀ (i : Nat) (v : Value), its.toArray[i]? = some v → ∃ t, v = Value.int (ns.getD i 0) t := fun i v hv => by
    rw [List.getElem?_toArray] at hv
    have hin : i < ns.length := by rw [← hlen]; exact (List.getElem?_eq_some_iff.mp hv).1
    obtain ⟨u, hu, ru⟩ := rv.get (show (ns.map V.int)[i]? = some (.int ns[i]) by rw [List.getElem?_map, List.getElem?_eq_getElem hin]; rfl)
    rw [hv] at hu
    cases hu
    obtain ⟨t, rfl⟩ := ru
    refine ⟨t, ?_⟩
    rw [List.getD_eq_getElem?_getD, List.getElem?_eq_getElem hin] <;> rfl
  have hlt : a < s.heap.objs.size := let ⟨o, n, ho, _⟩ := hl; Heap.lt_size ho
  refine call_max_walkD (A := X.A) (wpAny_pyIter_list hl.isList ?_)
  have W := Walks.list (prog := X.prog) (w := X.w) (A := X.A.in1) (I.ok.hd hc) s.heap.objs.size a (Nat.ne_of_lt hlt) its.toArray
  refine ⟨_, _, _, _, _, _, _, s.heap, fun i j => decide (ns.getD i 0 > ns.getD j 0), rfl, W.toS, ⟨⟨_, Heap.get?_push_size _ rfl, rfl, rfl⟩, hl.isList.at fun o e => Heap.get?_push_of_some _ e⟩, fun b hb => ?_, fun b o e hm => ?_, fun b o e => Heap.get?_push_of_some _ e, fun hn s' hm => ?_, fun hn => ⟨fun i j vi vj s2 Q2 E2 _ h1 h2 hq => CmpOf.ints_gt (prog := X.prog) (w := X.w) (A := X.A.in1) (P := fun i v => its.toArray[i]? = some v) (fun i => ns.getD i 0) hval i j vi vj s2 Q2 E2 h1 h2 hq, fun v s' hP hm => ?_⟩⟩
  · show b < (s.heap.push _).objs.size
    rw [Heap.size_push]
    rcases List.mem_cons.mp hb with e | hb
    · rw [e]
      exact Nat.lt_succ_self _
    · rw [List.mem_singleton.mp hb]
      exact Nat.lt_succ_of_lt hlt
  · have e1 : b = s.heap.objs.size := List.mem_singleton.mp hm
    have e2 := Heap.lt_size e
    rw [e1] at e2
    exact absurd e2 (Nat.lt_irrefl _)
  · rw [Moved.eq_with hm]
    refine ⟨.int d, H, I.kept (t' := s'.toks) fun b u e => hm.heap b u (fun hmem => ?_) (Heap.get?_push_of_some _ e), ⟨td, rfl⟩, q0 ?_⟩
    · have e1 : b = s.heap.objs.size := List.mem_singleton.mp hmem
      have e2 := Heap.lt_size e
      rw [e1] at e2
      exact absurd e2 (Nat.lt_irrefl _)
    · rw [List.size_toArray, hlen] at hn
      exact List.eq_nil_of_length_eq_zero hn
  · rw [List.size_toArray] at hn hP
    obtain ⟨t, rfl⟩ := hval _ v hP
    obtain ⟨b1, b2⟩ := argBest_gt (fun i => ns.getD i 0) (its.length - 1)
    rw [Moved.eq_with hm]
    refine ⟨.int _, H, I.kept (t' := s'.toks) fun b u e => hm.heap b u (fun hmem => ?_) (Heap.get?_push_of_some _ e), ⟨t, rfl⟩, q _ ?_ fun j hj => ?_⟩
    · have e1 : b = s.heap.objs.size := List.mem_singleton.mp hmem
      have e2 := Heap.lt_size e
      rw [e1] at e2
      exact absurd e2 (Nat.lt_irrefl _)
    · have hb : argBest (fun i j => decide (ns.getD i 0 > ns.getD j 0)) (its.length - 1) < ns.length := by omega
      rw [List.getD_eq_getElem?_getD, List.getElem?_eq_getElem hb]
      exact List.getElem_mem hb
    · obtain ⟨i, hi, e⟩ := List.mem_iff_getElem.mp hj
      have e2 : ns.getD i 0 = j := by rw [List.getD_eq_getElem?_getD, List.getElem?_eq_getElem hi, ← e] <;> rfl
      rw [← e2]
      exact b2 i (by omega)
end FF
set_option maxHeartbeats 4000000
namespace FF
open PySem PySem.Spec PyProof.Rows L2 Evl
/-! ### calls over told dicts; dict comprehensions -/
def dcC {α β : Type} : List α → List (Int × β) → (α → (Bool → Prop) → Prop) → (α → (Int → Prop) → Prop) → (α → (β → Prop) → Prop) → (List (Int × β) → Prop) → Prop
  | [], acc, _, _, _, R => R acc
  | x :: l, acc, t, fk, fv, R => t x fun c => cnd c (fk x fun k => fv x fun v => acc.length < 100000 ∧ dcC l (putM acc k v) t fk fv R) (dcC l acc t fk fv R)
def sortDC (ks : List Int) (R : List Int → Prop) : Prop := ks.length < 64 ∧ ∀ l : List Int, l.Perm ks → l.Pairwise (· ≤ ·) → R l
def maxDC (ks : List Int) (R : Int → Prop) : Prop := ks ≠ [] ∧ ∀ m, m ∈ ks → (∀ j ∈ ks, j ≤ m) → R m
def minDC (ks : List Int) (R : Int → Prop) : Prop := ks ≠ [] ∧ ∀ m, m ∈ ks → (∀ j ∈ ks, m ≤ j) → R m
def maxOrC (ns : List Int) (d : Int) (R : Int → Prop) : Prop := (ns = [] → R d) ∧ ∀ m, m ∈ ns → (∀ y ∈ ns, y ≤ m) → R m
theorem dqk_vals {K : PySem.W.Frag} {H : Hp} : ∀ {l : List (Int × Int)} {kvs : List (Key × V)}, DqK K H kvs (dM eI l) → kvs.map (·.2) = (l.map (·.2)).map V.int
  | [], _, h => by cases h; rfl
  | p :: l, _, h => by
    obtain ⟨v, r, rfl, h1, h2⟩ := dqk_cons h
    rw [List.map_cons, List.map_cons, List.map_cons, dqk_vals h2, dq_int h1]
section
variable {K : PySem.W.Frag} {Z : Zk} {ρ : List Cell} {te ta tb tc : TE} {α β γ : Type} {e : β → PyData} {e1 : α → PyData}
theorem rf_maxD {m1 : (List (Int × β) → Prop) → Prop} (h1 : Ref K Z (eM e) ta ρ m1) : Ref K Z eI (tCB (rBestD true) (tCons ta tNil)) ρ (fun R => m1 fun l => maxDC (l.map (·.1)) R) :=
  rf_1 (T := fun ta => tCB (rBestD true) (tCons ta tNil)) (fun l R => maxDC (l.map (·.1)) R) (fun _ _ _ _ => rfl) h1 fun l R h => se_cb v0 fun v1 G H b d1 Q q => by
    obtain ⟨a, o, kvs, rfl, ha, hk⟩ := dq_M d1
    exact ⟨a, kvs, l.map (·.1), rfl, .inr ⟨o, b.ex _ _ ha⟩, dqk_keys hk, h.1, fun m hm hj => q _ _ _ _ ⟨m, rfl, h.2 m hm hj⟩ (.refl b) (.int _)⟩
theorem rf_minD {m1 : (List (Int × β) → Prop) → Prop} (h1 : Ref K Z (eM e) ta ρ m1) : Ref K Z eI (tCB (rBestD false) (tCons ta tNil)) ρ (fun R => m1 fun l => minDC (l.map (·.1)) R) :=
  rf_1 (T := fun ta => tCB (rBestD false) (tCons ta tNil)) (fun l R => minDC (l.map (·.1)) R) (fun _ _ _ _ => rfl) h1 fun l R h => se_cb v0 fun v1 G H b d1 Q q => by
    obtain ⟨a, o, kvs, rfl, ha, hk⟩ := dq_M d1
    exact ⟨a, kvs, l.map (·.1), rfl, .inr ⟨o, b.ex _ _ ha⟩, dqk_keys hk, h.1, fun m hm hj => q _ _ _ _ ⟨m, rfl, h.2 m hm hj⟩ (.refl b) (.int _)⟩
theorem rf_lenD {m1 : (List (Int × β) → Prop) → Prop} (h1 : Ref K Z (eM e) ta ρ m1) : Ref K Z eI (tCB rLenD (tCons ta tNil)) ρ (fun R => m1 fun l => R (l.length : Int)) :=
  rf_1 (T := fun ta => tCB rLenD (tCons ta tNil)) (fun l R => R (l.length : Int)) (fun _ _ _ _ => rfl) h1 fun l R h => se_cb v0 fun v1 G H b d1 Q q => by
    obtain ⟨a, o, kvs, rfl, ha, hk⟩ := dq_M d1
    exact ⟨a, kvs, rfl, .inr ⟨o, b.ex _ _ ha⟩, by rw [dqk_len hk]; exact q _ _ _ _ ⟨_, rfl, h⟩ (.refl b) (.int _)⟩
theorem rf_tupD {m1 : (List (Int × β) → Prop) → Prop} (h1 : Ref K Z (eM e) ta ρ m1) : Ref K Z (eT eI) (tCB rTupD (tCons ta tNil)) ρ (fun R => m1 fun l => R (l.map (·.1))) :=
  rf_1 (T := fun ta => tCB rTupD (tCons ta tNil)) (fun l R => R (l.map (·.1))) (fun _ _ _ _ => rfl) h1 fun l R h => se_cb v0 fun v1 G H b d1 Q q => by
    obtain ⟨a, o, kvs, rfl, ha, hk⟩ := dq_M d1
    refine ⟨a, kvs, rfl, .inr ⟨o, b.ex _ _ ha⟩, fun p np => q _ (eT eI (l.map (·.1))) (upd G p (.tup (kvs.map fun kv => kV kv.1))) _ ⟨_, rfl, h⟩ (.new b np) (.tup (SqT.of upd_same) ?_)⟩
    have e3 : (kvs.map fun kv => kV kv.1) = (l.map (·.1)).map V.int := by
      have := congrArg (List.map kV) (dqk_keys hk)
      rw [List.map_map, List.map_map] at this
      exact this
    rw [e3]
    exact ints_dqa
theorem rfo_listD {m1 : (List (Int × β) → Prop) → Prop} (h1 : Ref K Z (eM e) ta ρ m1) : RefO K Z eI (tCB (fun xs H Q => ∃ (a : Addr) (kvs : List (Key × V)), xs = [.ref a] ∧ Rd H a (.dK kvs) ∧ ∀ p, H p = none → Q (.ref p) (upd H p (.lst (kvs.map fun kv => kV kv.1)))) (tCons ta tNil)) ρ (fun R => m1 fun l => R (l.map (·.1))) := fun R hR G0 H0 b0 σ G H r Q q =>
  h1 _ hR G0 H0 b0 σ G H r _ fun v d G1 H1 ⟨l, hd, r1⟩ s1 hv => by
    subst hd
    obtain ⟨a, o, kvs, rfl, ha, hk⟩ := dq_M hv
    have rel1 := r.step b0 s1
    have bs := rel1.bs b0
    refine ⟨a, kvs, rfl, .inr ⟨o, bs.ex _ _ ha⟩, fun p np => q p _ ((l.map (·.1)).map eI) G1 _ ⟨_, rfl, r1⟩ (s1.trans (.hide bs np)) (freshBack (r.bs b0) s1 np) (none_of bs.ex np) upd_same ?_⟩
    have e3 : (kvs.map fun kv => kV kv.1) = (l.map (·.1)).map V.int := by
      have := congrArg (List.map kV) (dqk_keys hk)
      rw [List.map_map, List.map_map] at this
      exact this
    rw [e3]
    exact ints_dqa
theorem rfo_sortD {m1 : (List (Int × β) → Prop) → Prop} (h1 : Ref K Z (eM e) ta ρ m1) : RefO K Z eI (tCB (fun xs H Q => ∃ (a : Addr) (kvs : List (Key × V)) (ks : List Int), xs = [.ref a] ∧ Rd H a (.dK kvs) ∧ kvs.map (·.1) = ks.map Sum.inl ∧ ks.length < 64 ∧ ∀ (ys : List Int) (p : Addr), ys.Perm ks → ys.Pairwise (· ≤ ·) → H p = none → Q (.ref p) (upd H p (.lst (ys.map V.int)))) (tCons ta tNil)) ρ (fun R => m1 fun l => sortDC (l.map (·.1)) R) := fun R hR G0 H0 b0 σ G H r Q q =>
  h1 _ hR G0 H0 b0 σ G H r _ fun v d G1 H1 ⟨l, hd, r1, r2⟩ s1 hv => by
    subst hd
    obtain ⟨a, o, kvs, rfl, ha, hk⟩ := dq_M hv
    have bs := (r.step b0 s1).bs b0
    exact ⟨a, kvs, _, rfl, .inr ⟨o, bs.ex _ _ ha⟩, dqk_keys hk, r1, fun ys p pm pw np => q p _ (ys.map eI) G1 _ ⟨ys, rfl, r2 ys pm pw⟩ (s1.trans (.hide bs np)) (freshBack (r.bs b0) s1 np) (none_of bs.ex np) upd_same ints_dqa⟩
theorem rf_sumVals {m1 : (List (Int × Int) → Prop) → Prop} (h1 : Ref K Z (eM eI) ta ρ m1) : Ref K Z eI (tSumVals ta) ρ (fun R => m1 fun l => R (l.map (·.2)).sum) := fun R hR G0 H0 b0 σ G H r Q q =>
  h1 _ hR G0 H0 b0 σ G H r _ fun v d G1 H1 ⟨l, hd, r1⟩ s1 hv => by
    subst hd
    obtain ⟨a, o, kvs, rfl, ha, hk⟩ := dq_M hv
    have bs := (r.step b0 s1).bs b0
    exact ⟨a, kvs, _, rfl, .inr ⟨o, bs.ex _ _ ha⟩, dqk_vals hk, q _ _ G1 H1 ⟨_, rfl, r1⟩ s1 (.int _)⟩
/-- max(xs, default=d) -/
theorem rf_maxDef {m1 : (List Int → Prop) → Prop} {d : Int} (h1 : Ref K Z (eL eI) ta ρ m1) : Ref K Z eI (tCKw (rMaxDef K) (tCons ta tNil) (tCons (tC (.int d)) tNil)) ρ (fun R => m1 fun l => maxOrC l d R) := fun R hR G0 H0 b0 σ G H r Q q =>
  h1 _ hR G0 H0 b0 σ G H r _ fun v dd G1 H1 ⟨l, hd, r1, r2⟩ s1 hv => by
    subst hd
    obtain ⟨a, xs, rfl, ht, ha⟩ := dq_lst hv
    have ei := dqa_ints ha
    subst ei
    have bs := (r.step b0 s1).bs b0
    exact ⟨a, l, d, rfl, rfl, ex_l bs.ex ht, fun z => q _ _ G1 H1 ⟨_, rfl, r1 z⟩ s1 (.int _), fun m hm hy => q _ _ G1 H1 ⟨_, rfl, r2 m hm hy⟩ s1 (.int _)⟩
/-- {k: v for .. in .. if ..} -/
theorem rfd_dc {wi : TI} {g : TG} {tt : TT} {tk tv : TE} {vs is : List Nat} {un : PyData → List PyData → Prop} {ml : (List α → Prop) → Prop} {mt : α → (Bool → Prop) → Prop} {mk : α → (Int → Prop) → Prop} {mv : α → (β → Prop) → Prop} (sp : α → List PyData) (hi : RefI K Z e1 wi ρ ml) (hg : SG K g is un) (his : ∀ i ∈ is, i ∈ vs)
    (hs : ∀ a, un (e1 a) (sp a) ∧ (sp a).length = is.length) (ht : ∀ a, RefB K Z tt (setC (wipeC ρ vs) is (sp a)) (mt a)) (hk : ∀ a, Ref K Z eI tk (setC (wipeC ρ vs) is (sp a)) (mk a)) (hv : ∀ a, Ref K Z e tv (setC (wipeC ρ vs) is (sp a)) (mv a)) :
    RefD K Z e (tDc wi g tt tk tv vs) ρ (fun R => ml fun l => dcC l [] mt mk mv R) := fun R hR Ga Ha ba σ G H rel Q q =>
  hi _ hR Ga Ha ba σ G H rel _ fun J ds G0 H0 ⟨l, hds, h0⟩ s0 fd D nD => by
    subst hds
    have b := rel.bs ba
    have b0 := b.go s0
    have nD0 : H D = none := freshBack b s0 nD
    have rel0 := rel.step ba s0
    have ll : (l.map e1).length = l.length := List.length_map ..
    refine ⟨fun i m H' => m = l.length - i ∧ i ≤ l.length ∧ ∃ G' us ac, Stp Z G0 H0 G' H' ∧ G' D = none ∧ H' D = some (.dK us) ∧ DqK K G' us (dM e ac) ∧ dcC (l.drop i) ac mt mk mv R, ⟨l.length, by simp, Nat.zero_le _, G0, [], [], .hide b0 nD, none_of b0.ex nD, upd_same, .nil, h0⟩, ?_⟩
    rintro i m H1 ⟨rfl, hile, G1, us, ac, s1, n1, g1, ha, hp⟩
    have b1 := b0.go s1
    obtain ⟨hstop, hgo⟩ := fd i G1 H1 s1.g b1
    by_cases hlt : i < l.length
    · have c : l[i]? = some l[i] := List.getElem?_eq_getElem hlt
      have dr := drop_cons c
      rw [dr] at hp
      obtain ⟨hgo1, hy⟩ := hgo (e1 l[i]) (by rw [List.getElem?_map, c]; rfl)
      refine .inr ⟨hgo1, fun H' => ∃ G' us ac, Stp Z G0 H0 G' H' ∧ G' D = none ∧ H' D = some (.dK us) ∧ DqK K G' us (dM e ac) ∧ dcC (l.drop (i + 1)) ac mt mk mv R, fun H' p' => ⟨l.length - (i + 1), by omega, rfl, hlt, p'⟩, fun x H2 y => ?_⟩
      obtain ⟨G2, s2, hd⟩ := hy x H2 y
      have b2 := b1.go s2
      refine hg x _ (wipe σ vs) G2 H2 _ b2.ex hd (hs _).1 _ fun ws hw hwl => ⟨by rw [wipe_setA _ _ _ his, wipe_wipe], ?_⟩
      have s02 := s1.trans s2
      have sl : Rel K Z Ga Ha (setA (wipe σ vs) is ws) (setC (wipeC ρ vs) is (sp l[i])) G2 H2 := ((rel0.step ba s02).wipe vs).setA hw
      refine ht l[i] _ hp Ga Ha ba _ G2 H2 sl _ fun cc G3 H3 rc s3 => ?_
      have s03 := s02.trans s3
      have keep : ∀ {G' H' : Hp}, Stp Z G1 H1 G' H' → G' D = none ∧ H' D = some (.dK us) := fun st => ⟨st.n D _ n1 g1 rfl, st.k D _ g1 (b0.dk.ne nD)⟩
      cases cc with
      | false =>
        refine iteF ?_
        obtain ⟨k1, k2⟩ := keep (s2.trans s3)
        exact ⟨G3, us, ac, s03, k1, k2, DqK.ex (s2.trans s3).g _ _ ha, rc.2 rfl⟩
      | true =>
        refine iteT ?_
        refine hk l[i] _ (rc.1 rfl) Ga Ha ba _ G3 H3 (sl.step ba s3) _ fun y dk G4 H4 ⟨kk, hkk, rk⟩ s4 hy4 => ?_
        subst hkk
        refine hv l[i] _ rk Ga Ha ba _ G4 H4 ((sl.step ba s3).step ba s4) _ fun z dv G5 H5 ⟨vv, hvv, hl, rv⟩ s5 hz5 => ?_
        subst hvv
        have s15 := ((s2.trans s3).trans s4).trans s5
        obtain ⟨k1, k2⟩ := keep s15
        refine ⟨us, kI kk, dq_int hy4, k2, by rw [dqk_len ha]; exact sz_lt hl, G5, _, putM ac kk vv, ?_, k1, upd_same, dqk_put hz5 (DqK.ex s15.g _ _ ha), rv⟩
        exact Stp.mutX b0 (s1.trans s15) nD k1
    · have ei : i = l.length := by omega
      subst ei
      rw [List.drop_length] at hp
      exact .inl ⟨hstop ll.symm, q D us (dM e ac) G1 H1 ⟨ac, rfl, hp⟩ (s0.trans s1) nD0 n1 g1 ha⟩
end
end FF
set_option maxHeartbeats 4000000
namespace FF
open PySem PySem.Spec PyProof.Rows L2 Evl PySem.SeqAt
/-! ### values of all kinds against strings -/
theorem dictEqStr (l : Addr) (b : Str) (u : Tok) (o : Obj) (hc : o.cls = .type "dict") :
    Meets (Builtin.«dict.__eq__» ⟨[.ref l, .str b u], []⟩) (fun _ R s => s.heap.get? l = some o ∧ R (.ok (.ret .notImplemented)) s) :=
  .of_wp fun prog w A R s h => by
    obtain ⟨cls, dd, data, sl⟩ := o
    simp only at hc
    subst hc
    obtain ⟨hp, g, d, tk, os⟩ := s; obtain ⟨hl, h⟩ := h
    have f1 := F.sub_str_dict
    wp_walk
    exact ⟨_, rfl, h⟩
theorem strEqDict (b : Str) (u : Tok) (l : Addr) (o : Obj) (hc : o.cls = .type "dict") {es : Array DictEntry} {ep : Nat} (hdt : o.data = .dict es ep) :
    Meets (Builtin.«str.__eq__» ⟨[.str b u, .ref l], []⟩) (fun _ R s => s.heap.get? l = some o ∧ R (.ok (.ret .notImplemented)) s) :=
  .of_wp fun prog w A R s h => by
    obtain ⟨cls, dd, data, sl⟩ := o
    simp only at hc hdt
    subst hc hdt
    obtain ⟨hp, g, d, tk, os⟩ := s; obtain ⟨hl, h⟩ := h
    wp_walk using wpAny_load hl
    exact ⟨_, rfl, h⟩
section
variable {A : Around} {s : Shared}
theorem rc_dict_str {l : Addr} {o : Obj} (b : Str) (u : Tok) (ho : s.heap.get? l = some o) (hc : o.cls = .type "dict") {es : Array DictEntry} {ep : Nat} (hdt : o.data = .dict es ep) (hu : A.units < cLine) : RcAt A s (.ref l) (.str b u) false := fun prog w E Q h =>
  rc_eq_decline_or (k := false) ⟨_, ho, hc⟩ (typeIs_str s b u) (by decide) F.sub_str_dict F.slot_dict_eq F.slot_str_eq_refl
    (fun _ hq => call_meets F.slot_dict_eq ⟨_, ho, hc⟩ F.entry_dict_eq (F.args_dict_eq_2 _ _) (dictEqStr l b u o hc) ⟨ho, hq⟩)
    (fun _ hq => call_meets F.slot_str_eq_refl (typeIs_str s b u) F.entry_str_eq (F.args_str_eq_2 _ _) (strEqDict b u l o hc hdt) ⟨ho, hq⟩)
    (fun _ hq => wpAny_of_eq (rfl : isSame (.ref l) (.str b u) = pure false) hq) (.inr hu) h
theorem rc_str_dict {l : Addr} {o : Obj} (b : Str) (u : Tok) (ho : s.heap.get? l = some o) (hc : o.cls = .type "dict") {es : Array DictEntry} {ep : Nat} (hdt : o.data = .dict es ep) (hu : A.units < cLine) : RcAt A s (.str b u) (.ref l) false := fun prog w E Q h =>
  rc_eq_decline_or (k := false) (typeIs_str s b u) ⟨_, ho, hc⟩ (by decide) F.sub_dict_str F.slot_str_eq F.slot_dict_eq_refl
    (fun _ hq => call_meets F.slot_str_eq (typeIs_str s b u) F.entry_str_eq (F.args_str_eq_2 _ _) (strEqDict b u l o hc hdt) ⟨ho, hq⟩)
    (fun _ hq => call_meets F.slot_dict_eq_refl ⟨_, ho, hc⟩ F.entry_dict_eq (F.args_dict_eq_2 _ _) (dictEqStr l b u o hc) ⟨ho, hq⟩)
    (fun _ hq => wpAny_of_eq (rfl : isSame (.str b u) (.ref l) = pure false) hq) (.inr hu) h
theorem eq_dict_str {l : Addr} {o : Obj} (b : Str) (u : Tok) (ho : s.heap.get? l = some o) (hc : o.cls = .type "dict") {es : Array DictEntry} {ep : Nat} (hdt : o.data = .dict es ep) (hu : A.units < cLine) : EqAt A s (.ref l) (.str b u) false := fun prog w E Q h => by
  unfold eqBool
  refine wpAny_holding ?_
  refine wpAny_ite_split (fun hab => absurd (eq_of_beq hab) nofun) (fun _ => ?_)
  exact wpAny_bind (rc_dict_str b u ho hc hdt hu prog w E _ (wpAny_truthy_bool h))
theorem eq_str_dict {l : Addr} {o : Obj} (b : Str) (u : Tok) (ho : s.heap.get? l = some o) (hc : o.cls = .type "dict") {es : Array DictEntry} {ep : Nat} (hdt : o.data = .dict es ep) (hu : A.units < cLine) : EqAt A s (.str b u) (.ref l) false := fun prog w E Q h => by
  unfold eqBool
  refine wpAny_holding ?_
  refine wpAny_ite_split (fun hab => absurd (eq_of_beq hab) nofun) (fun _ => ?_)
  exact wpAny_bind (rc_str_dict b u ho hc hdt hu prog w E _ (wpAny_truthy_bool h))
def isS (d : PyData) (x : Str) : Bool := match d with
  | .str y => decide (y = x)
  | _ => false
theorem beqS (x y : Str) : (x == y) = decide (x = y) := by
  by_cases c : x = y
  · rw [decide_eq_true c, c, beq_self_eq_true]
  · rw [decide_eq_false c]; exact beq_eq_false_iff_ne.mpr c
theorem eqAt_str : ∀ (d : PyData) (v : Value) (as : List Addr) (x : Str) (u : Tok), Reads s.heap v d as → A.units < cLine → EqAt A s v (.str x u) (isS d x)
  | .none, _, _, x, u, h, hu => by cases h; exact EqAt.none_str x u
  | .bool b, _, _, x, u, h, hu => by cases h; exact EqAt.bool_str b x u
  | .int i, _, _, x, u, h, hu => by
    cases h with
    | int _ t => exact EqAt.int_str i t x u
  | .str y, _, _, x, u, h, hu => by
    cases h with
    | str _ t =>
      have e := EqAt.str_str (A := A) (s := s) y t x u
      rw [beqS] at e
      exact e
  | .list ds, _, _, x, u, h, hu => by
    cases h with
    | list k1 k2 k3 k4 => exact EqAt.list_str x u ⟨_, k1, k2, _, k3⟩ hu
  | .tuple ds, _, _, x, u, h, hu => by
    cases h with
    | tuple k1 k2 k3 k4 => exact EqAt.tuple_str x u ⟨_, k1, k2, _, k3⟩ hu
  | .dict ds, _, _, x, u, h, hu => by
    cases h with
    | dict k1 k2 k3 k4 k5 => exact eq_dict_str x u k1 k2 k3 hu
theorem strAt_eq : ∀ (d : PyData) (v : Value) (as : List Addr) (x : Str) (u : Tok), Reads s.heap v d as → A.units < cLine → EqAt A s (.str x u) v (isS d x)
  | .none, _, _, x, u, h, hu => by cases h; exact EqAt.str_none x u
  | .bool b, _, _, x, u, h, hu => by cases h; exact EqAt.str_bool x u b
  | .int i, _, _, x, u, h, hu => by
    cases h with
    | int _ t => exact EqAt.str_int x u i t
  | .str y, _, _, x, u, h, hu => by
    cases h with
    | str _ t =>
      have e := EqAt.str_str (A := A) (s := s) x u y t
      rw [beqS] at e
      have e2 : isS (.str y) x = decide (x = y) := by
        show decide (y = x) = decide (x = y)
        by_cases c : x = y
        · rw [decide_eq_true c, decide_eq_true c.symm]
        · rw [decide_eq_false c, decide_eq_false fun z => c z.symm]
      rw [e2]
      exact e
  | .list ds, _, _, x, u, h, hu => by
    cases h with
    | list k1 k2 k3 k4 => exact EqAt.str_list x u ⟨_, k1, k2, _, k3⟩ hu
  | .tuple ds, _, _, x, u, h, hu => by
    cases h with
    | tuple k1 k2 k3 k4 => exact EqAt.str_tuple x u ⟨_, k1, k2, _, k3⟩ hu
  | .dict ds, _, _, x, u, h, hu => by
    cases h with
    | dict k1 k2 k3 k4 k5 => exact eq_str_dict x u k1 k2 k3 hu
end
/-! == of a value and a string; in of a value and strings; == of a tuple and strings -/
theorem rcAt_str {A : Around} {s : Shared} : ∀ (d : PyData) (v : Value) (as : List Addr) (x : Str) (u : Tok), Reads s.heap v d as → A.units < cLine → RcAt A s v (.str x u) (isS d x)
  | .none, _, _, x, u, h, hu => by cases h; exact RcAt.none_str x u
  | .bool b, _, _, x, u, h, hu => by cases h; exact RcAt.bool_str b x u
  | .int i, _, _, x, u, h, hu => by
    cases h with
    | int _ t => exact RcAt.int_str i t x u
  | .str y, _, _, x, u, h, hu => by
    cases h with
    | str _ t =>
      have e := RcAt.str_str (A := A) (s := s) y t x u
      rw [beqS] at e
      exact e
  | .list ds, _, _, x, u, h, hu => by
    cases h with
    | list k1 k2 k3 k4 => exact RcAt.list_str x u ⟨_, k1, k2, _, k3⟩ hu
  | .tuple ds, _, _, x, u, h, hu => by
    cases h with
    | tuple k1 k2 k3 k4 => exact RcAt.tuple_str x u ⟨_, k1, k2, _, k3⟩ hu
  | .dict ds, _, _, x, u, h, hu => by
    cases h with
    | dict k1 k2 k3 k4 k5 => exact rc_dict_str x u k1 k2 k3 hu
def rEqS (K : PySem.W.Frag) : R2 := fun x y H Q => ∃ d z, Dq K H x d ∧ y = .str z ∧ Q (.bl (isS d z)) H
theorem op_eqS {X : Cx} (hu : X.A.units + 64 < cLine) : OpR X (compareOp .Eq) (rEqS X.K) := by
  intro pins s σ H x y v u Q I rx ry h
  obtain ⟨d, z, hd, rfl, q⟩ := h
  obtain ⟨t, rfl⟩ := ry
  obtain ⟨as, r, _⟩ := Dq.reads I d x v hd rx
  exact rcAt_str d v as z t r (by omega) X.prog X.w X.xe _ ⟨.bl _, H, I, rfl, q⟩
def rInS (K : PySem.W.Frag) : R2 := fun x y H Q => ∃ (d : PyData) (a : Addr) (ns : List Str), Dq K H x d ∧ y = .ref a ∧ (SqL K H a (ns.map V.str) ∨ SqT K H a (ns.map V.str)) ∧ Q (.bl (ns.any (isS d))) H
theorem strs_of {ns : List Str} {its : List Value} (r : Vals (ns.map V.str) its) (f : Str → Bool) (e : Value → Bool) (he : ∀ x t, e (.str x t) = f x) : its.toArray.any e = ns.any f := by
  rw [← Array.any_toList]
  show its.any e = ns.any f
  induction ns generalizing its with
  | nil => cases r; rfl
  | cons n ns ih =>
    rw [List.map_cons] at r
    cases r with
    | cons a b =>
      obtain ⟨t, rfl⟩ := a
      rw [List.any_cons, List.any_cons, ih b, he]
theorem strs_mem {ns : List Str} {its : List Value} (r : Vals (ns.map V.str) its) : ∀ y ∈ its, ∃ x t, y = .str x t := by
  induction ns generalizing its with
  | nil => cases r; intro y hy; cases hy
  | cons n ns ih =>
    rw [List.map_cons] at r
    cases r with
    | cons a b =>
      obtain ⟨t, rfl⟩ := a
      intro y hy
      rcases List.mem_cons.mp hy with e | hy
      · exact ⟨n, t, e⟩
      · exact ih b y hy
def hitS (d : PyData) : Value → Bool
  | .str x _ => isS d x
  | _ => false
theorem op_inS {X : Cx} (hu : X.A.units + 64 < cLine) : OpR X (compareOp .In) (rInS X.K) := by
  intro pins s σ H x y v u Q I rx ry h
  obtain ⟨d, a, ns, hd, rfl, hs, q⟩ := h
  obtain rfl : u = Value.ref a := ry
  obtain ⟨as, r, _⟩ := Dq.reads I d x v hd rx
  rcases hs with hs | hs
  · obtain ⟨its, rv, pl, hz⟩ := I.list hs
    refine in_listAt (hitS d) pl.isList (fun y hy => ?_) ?_
    · obtain ⟨z, t, rfl⟩ := strs_mem rv y (by simpa using hy)
      exact strAt_eq (A := X.A.in1) d v as z t r (by show X.A.units + 1 < cLine; omega)
    · rw [strs_of rv (isS d) (hitS d) fun x t => rfl]
      exact ⟨.bl _, H, I, rfl, q⟩
  · obtain ⟨its, rv, pl, hz⟩ := I.tuple hs
    refine in_tupleAt (hitS d) pl (fun y hy => ?_) ?_
    · obtain ⟨z, t, rfl⟩ := strs_mem rv y (by simpa using hy)
      exact strAt_eq (A := X.A.in1) d v as z t r (by show X.A.units + 1 < cLine; omega)
    · rw [strs_of rv (isS d) (hitS d) fun x t => rfl]
      exact ⟨.bl _, H, I, rfl, q⟩
def eqSs : List PyData → List Str → Bool
  | [], [] => true
  | d :: ds, x :: xs => isS d x && eqSs ds xs
  | _, _ => false
def rEqSs (K : PySem.W.Frag) : R2 := fun x y H Q => ∃ (a : Addr) (xs : List V) (ds : List PyData) (b : Addr) (ns : List Str), x = .ref a ∧ SqT K H a xs ∧ DqA K H xs ds ∧ y = .ref b ∧ SqT K H b (ns.map V.str) ∧ Q (.bl (eqSs ds ns)) H
theorem eqSs_range : ∀ (ds : List PyData) (ns : List Str) (e : Nat → Bool), (∀ j d n, ds[j]? = some d → ns[j]? = some n → e j = isS d n) → ((List.range (min ds.length ns.length)).all e && ds.length == ns.length) = eqSs ds ns
  | [], [], e, _ => by simp [eqSs]
  | [], _ :: _, e, _ => by simp [eqSs]
  | _ :: _, [], e, _ => by simp [eqSs]
  | d :: ds, n :: ns, e, h => by
    have ih := eqSs_range ds ns (fun j => e (j + 1)) fun j d' n' h1 h2 => h (j + 1) d' n' (by simpa using h1) (by simpa using h2)
    unfold eqSs
    rw [← ih, ← h 0 d n rfl rfl, List.length_cons, List.length_cons, Nat.add_min_add_right, List.range_succ_eq_map, List.all_cons, List.all_map]
    have e2 : (ds.length + 1 == ns.length + 1) = (ds.length == ns.length) := by
      by_cases c : ds.length = ns.length
      · rw [c]; simp
      · rw [beq_eq_false_iff_ne.mpr c, beq_eq_false_iff_ne.mpr (by omega)]
    rw [e2, Bool.and_assoc]
    rfl
theorem op_eqSs {X : Cx} (hu : X.A.units + 64 < cLine) : OpR X (compareOp .Eq) (rEqSs X.K) := by
  intro pins s σ H x y v u Q I rx ry h
  obtain ⟨a, xs, ds, b, ns, rfl, hx, hd, rfl, hy, q⟩ := h
  obtain rfl : v = Value.ref a := rx
  obtain rfl : u = Value.ref b := ry
  obtain ⟨its, rv, pl, hz⟩ := I.tuple hx
  obtain ⟨its2, rv2, pl2, hz2⟩ := I.tuple hy
  have l1 : its.length = ds.length := by rw [← rv.length, hd.len]
  have l2 : its2.length = ns.length := by rw [← rv2.length, List.length_map]
  have at_ : ∀ (j : Nat) (h1 : j < ds.length) (h2 : j < ns.length) (h1' : j < its.length) (h2' : j < its2.length), EqAt X.A.in1 s its[j] its2[j] (isS ds[j] ns[j]) := fun j h1 h2 h1' h2' => by
    obtain ⟨w, hw1, hw2⟩ := hd.getD j (List.getElem?_eq_getElem h1)
    obtain ⟨uu, hu1, hu2⟩ := rv.get hw1
    rw [List.getElem?_eq_getElem h1'] at hu1
    obtain ⟨u3, h31, h32⟩ := rv2.get (show (ns.map V.str)[j]? = some (.str ns[j]) by rw [List.getElem?_map, List.getElem?_eq_getElem h2]; rfl)
    rw [List.getElem?_eq_getElem h2'] at h31
    obtain ⟨t, ht⟩ := h32
    have e1 : its[j] = uu := Option.some.inj hu1
    have e2 : its2[j] = .str ns[j] t := (Option.some.inj h31).trans ht
    rw [e1, e2]
    obtain ⟨as, r, _⟩ := Dq.reads I _ w uu hw2 hu2
    exact eqAt_str (A := X.A.in1) _ uu as _ t r (by show X.A.units + 1 < cLine; omega)
  refine eq_tupleAt (e := fun j => match ds[j]?, ns[j]? with | some d, some n => isS d n | _, _ => false) pl pl2 (by omega) (fun j h1 h2 => ?_) ?_
  · rw [List.size_toArray] at h1 h2
    have h1d : j < ds.length := by omega
    have h2n : j < ns.length := by omega
    have := at_ j h1d h2n h1 h2
    simp only [List.getElem?_eq_getElem h1d, List.getElem?_eq_getElem h2n]
    simpa using this
  · rw [List.size_toArray, List.size_toArray, l1, l2, eqSs_range ds ns _ fun j d n h1 h2 => by rw [h1, h2]]
    exact ⟨.bl _, H, I, rfl, q⟩
theorem op_eqSE {X : Cx} {K : PySem.W.Frag} (h : X.K = K) (hu : X.A.units + 64 < cLine) : OpR X (compareOp .Eq) (rEqS K) := by subst h; exact op_eqS hu
theorem op_inSE {X : Cx} {K : PySem.W.Frag} (h : X.K = K) (hu : X.A.units + 64 < cLine) : OpR X (compareOp .In) (rInS K) := by subst h; exact op_inS hu
theorem op_eqSsE {X : Cx} {K : PySem.W.Frag} (h : X.K = K) (hu : X.A.units + 64 < cLine) : OpR X (compareOp .Eq) (rEqSs K) := by subst h; exact op_eqSs hu
section
variable {K : PySem.W.Frag} {Z : Zk} {ρ : List Cell} {te ta tb tc : TE} {α β γ : Type} {e : γ → PyData} {e1 : α → PyData}
theorem rf_eqDS {m1 : (α → Prop) → Prop} {m2 : (Str → Prop) → Prop} (h1 : Ref K Z e1 ta ρ m1) (h2 : Ref K Z eS tb ρ m2) : Ref K Z eB (tOp (rEqS K) ta tb) ρ (fun R => m1 fun a => m2 fun b => R (isS (e1 a) b)) :=
  rf_2 (T := fun ta tb => tOp (rEqS K) ta tb) (fun a b R => R (isS (e1 a) b)) (fun _ _ _ _ _ => rfl) h1 h2 fun a b R h => dn (e := eB) (c := isS (e1 a) b) (se_op v0 v1 fun w1 w2 G H bs d1 d2 Q q => by
    rw [dq_str d2]
    exact ⟨_, _, Dq.ex bs.ex _ _ d1, rfl, q _ _ _ _ rfl (.refl bs) (.bl _)⟩) h
theorem rf_inSg {tup : Bool} {m1 : (α → Prop) → Prop} {m2 : (List Str → Prop) → Prop} (h1 : Ref K Z e1 ta ρ m1) (h2 : Ref K Z (fun l => if tup then eT eS l else eL eS l) tb ρ m2) : Ref K Z eB (tOp (rInS K) ta tb) ρ (fun R => m1 fun a => m2 fun l => R (l.any (isS (e1 a)))) :=
  rf_2 (T := fun ta tb => tOp (rInS K) ta tb) (fun a l R => R (l.any (isS (e1 a)))) (fun _ _ _ _ _ => rfl) h1 h2 fun a l R h => dn (e := eB) (c := l.any (isS (e1 a))) (se_op v0 v1 fun w1 w2 G H bs d1 d2 Q q => by
    have d1' := Dq.ex bs.ex _ _ d1
    cases tup with
    | true =>
      obtain ⟨a', xs, rfl, ht, ha⟩ := dq_tup (show Dq K G w2 (.tuple (l.map .str)) from d2)
      have e := dqa_strs ha
      subst e
      exact ⟨_, a', l, d1', rfl, .inr (ex_t bs.ex ht), q _ _ _ _ rfl (.refl bs) (.bl _)⟩
    | false =>
      obtain ⟨a', xs, rfl, ht, ha⟩ := dq_lst (show Dq K G w2 (.list (l.map .str)) from d2)
      have e := dqa_strs ha
      subst e
      exact ⟨_, a', l, d1', rfl, .inl (ex_l bs.ex ht), q _ _ _ _ rfl (.refl bs) (.bl _)⟩) h
theorem rf_inST {m1 : (α → Prop) → Prop} {m2 : (List Str → Prop) → Prop} (h1 : Ref K Z e1 ta ρ m1) (h2 : Ref K Z (eT eS) tb ρ m2) : Ref K Z eB (tOp (rInS K) ta tb) ρ (fun R => m1 fun a => m2 fun l => R (l.any (isS (e1 a)))) := rf_inSg (tup := true) h1 h2
theorem rf_inSL {m1 : (α → Prop) → Prop} {m2 : (List Str → Prop) → Prop} (h1 : Ref K Z e1 ta ρ m1) (h2 : Ref K Z (eL eS) tb ρ m2) : Ref K Z eB (tOp (rInS K) ta tb) ρ (fun R => m1 fun a => m2 fun l => R (l.any (isS (e1 a)))) := rf_inSg (tup := false) h1 h2
theorem rf_eqSs {m1 : (List α → Prop) → Prop} {m2 : (List Str → Prop) → Prop} (h1 : Ref K Z (eT e1) ta ρ m1) (h2 : Ref K Z (eT eS) tb ρ m2) : Ref K Z eB (tOp (rEqSs K) ta tb) ρ (fun R => m1 fun a => m2 fun b => R (eqSs (a.map e1) b)) :=
  rf_2 (T := fun ta tb => tOp (rEqSs K) ta tb) (fun a b R => R (eqSs (a.map e1) b)) (fun _ _ _ _ _ => rfl) h1 h2 fun a b R h => dn (e := eB) (c := eqSs (a.map e1) b) (se_op v0 v1 fun w1 w2 G H bs d1 d2 Q q => by
    obtain ⟨a', xs, rfl, ht, ha⟩ := dq_tup d1
    obtain ⟨b', ys, rfl, hty, hb⟩ := dq_tup d2
    have e := dqa_strs hb
    subst e
    exact ⟨a', xs, _, b', b, rfl, ex_t bs.ex ht, DqA.ex bs.ex _ _ ha, rfl, ex_t bs.ex hty, q _ _ _ _ rfl (.refl bs) (.bl _)⟩) h
end
end FF
set_option maxHeartbeats 4000000
namespace FF
open PySem PySem.Spec PyProof.Rows L2 Evl PySem.SeqAt
open AutoSeq1 (wpAny_loadPart')
/-! ### tuple * int, any small number -/
theorem tupMulSame (l : Addr) (items : Array Value) (n : Nat) (dd : Option Addr) (sl : Array (Option Value)) (x : Int) (u : Tok) (c0 : (decide (x < -(2 ^ 63)) || decide (x ≥ 2 ^ 63)) = false) (c1 : (items.isEmpty || x == 1) = true) :
    Meets (Builtin.«tuple.__mul__» ⟨[.ref l, .int x u], []⟩) (fun _ R s => s.heap.get? l = some { cls := .type "tuple", dict := dd, data := .seq items n, slots := sl } ∧ R (.ok (.ret (Value.ref l))) s) :=
  .of_wp fun prog w A R s h => by
    obtain ⟨hp, g, d, tk, os⟩ := s
    obtain ⟨hl, h⟩ := h
    have f1 := AutoSeq1.idx_int
    wp_walk using wpAny_loadPart' hl
    repeat (first
      | (refine wpAny_ite_false (decide_eq_false (by rw [c0]; exact Bool.false_ne_true)) ?_; wp_walk using wpAny_loadPart' hl)
      | (refine wpAny_ite_true (decide_eq_true c1) ?_; wp_walk using wpAny_loadPart' hl))
    exact ⟨_, rfl, h⟩
theorem tupMulZero (l : Addr) (items : Array Value) (n : Nat) (dd : Option Addr) (sl : Array (Option Value)) (x : Int) (u : Tok) (c0 : (decide (x < -(2 ^ 63)) || decide (x ≥ 2 ^ 63)) = false) (c1 : (items.isEmpty || x == 1) = false) (c2 : (decide (x ≤ 0) || items.isEmpty) = true) :
    Meets (Builtin.«tuple.__mul__» ⟨[.ref l, .int x u], []⟩) (fun _ R s => s.heap.get? l = some { cls := .type "tuple", dict := dd, data := .seq items n, slots := sl } ∧ R (.ok (.ret (Value.ref s.heap.objs.size))) { s with heap := s.heap.push { cls := Value.type "tuple", data := Data.seq #[] }, toks := s.toks }) :=
  .of_wp fun prog w A R s h => by
    obtain ⟨hp, g, d, tk, os⟩ := s
    obtain ⟨hl, h⟩ := h
    have f1 := AutoSeq1.idx_int
    wp_walk using wpAny_loadPart' hl
    repeat (first
      | (refine wpAny_ite_false (decide_eq_false (by rw [c0]; exact Bool.false_ne_true)) ?_; wp_walk using wpAny_loadPart' hl)
      | (refine wpAny_ite_false (decide_eq_false (by rw [c1]; exact Bool.false_ne_true)) ?_; wp_walk using wpAny_loadPart' hl)
      | (refine wpAny_ite_true (decide_eq_true c2) ?_; wp_walk using wpAny_loadPart' hl))
    exact ⟨_, rfl, h⟩
def rRepTA (K : PySem.W.Frag) : R2 := fun x y H Q => ∃ l k xs, x = .ref l ∧ y = .int k ∧ SqT K H l xs ∧ -1000 ≤ k ∧ k ≤ 1000 ∧ xs.length ≤ 1000 ∧ (xs = [] ∨ k = 1 → Q (.ref l) H) ∧ (xs ≠ [] → k ≠ 1 → ∀ p, H p = none → Q (.ref p) (upd H p (.tup (List.replicate k.toNat xs).flatten)))
theorem op_repTA {X : Cx} : OpR X (binaryOp .Mult) (rRepTA X.K) := by
  intro pins s σ H x y v u Q I rx ry h
  obtain ⟨l, k, xs, rfl, rfl, hT, h1, h2, hz, q1, q2⟩ := h
  by_cases c : xs ≠ [] ∧ 2 ≤ k
  · exact op_repT pins s σ H (.ref l) (.int k) v u Q I rx ry ⟨l, k, xs, rfl, rfl, hT, c.1, c.2, h2, hz, q2 c.1 (by omega)⟩
  · cases rx
    obtain ⟨t, rfl⟩ := ry
    obtain ⟨its, r, ⟨⟨cls, dd, data, sl⟩, ho, hc, n, hd⟩, hs⟩ := I.tuple hT
    simp only at hc hd
    subst hc hd
    have hle : its.length = xs.length := r.length.symm
    have hem : its.toArray.isEmpty = xs.isEmpty := by
      cases its with
      | nil =>
        have : xs = [] := List.eq_nil_of_length_eq_zero hle.symm
        rw [this]
        rfl
      | cons a b =>
        cases xs with
        | nil => simp at hle
        | cons c d => rfl
    have c0 : (decide (k < -(2 ^ 63)) || decide (k ≥ 2 ^ 63)) = false := by
      rw [decide_eq_false (by omega), decide_eq_false (by omega)] <;> rfl
    by_cases c1 : xs = [] ∨ k = 1
    · refine wpAny_binaryOp_repeat_ref (T := "tuple") (U := "int") (by decide) ⟨_, ho, rfl⟩ (fun s' => typeIs_int s' k t) noFill_tuple_mul F.fills_int_mul F.slot_int_rmul repeat_tuple F.slot_int_index.lookup
        (call_meets F.slot_int_rmul (typeIs_int s k t) F.entry_int_rmul (F.args_int_rmul_2 _ _) (int_rmul_tuple k t l its.toArray n dd sl)
          ⟨ho, rfl, ⟨_, ho, rfl⟩, call_meets F.slot_tuple_mul ⟨_, ho, rfl⟩ F.entry_tuple_mul (F.args_tuple_mul_2 _ _) (tupMulSame l its.toArray n dd sl k t c0 ?_) ⟨ho, ?_⟩⟩)
      · rw [hem]
        rcases c1 with e | e
        · rw [e]; rfl
        · rw [e]; simp
      · exact ⟨.ref l, H, I, rfl, q1 c1⟩
    · have hne : xs ≠ [] := fun e => c1 (.inl e)
      have hk1 : k ≠ 1 := fun e => c1 (.inr e)
      have hk : k ≤ 0 := by
        by_cases z : 2 ≤ k
        · exact absurd ⟨hne, z⟩ c
        · omega
      have hxe : xs.isEmpty = false := by
        cases xs with
        | nil => exact absurd rfl hne
        | cons a b => rfl
      refine wpAny_binaryOp_repeat_ref (T := "tuple") (U := "int") (by decide) ⟨_, ho, rfl⟩ (fun s' => typeIs_int s' k t) noFill_tuple_mul F.fills_int_mul F.slot_int_rmul repeat_tuple F.slot_int_index.lookup
        (call_meets F.slot_int_rmul (typeIs_int s k t) F.entry_int_rmul (F.args_int_rmul_2 _ _) (int_rmul_tuple k t l its.toArray n dd sl)
          ⟨ho, rfl, ⟨_, ho, rfl⟩, call_meets F.slot_tuple_mul ⟨_, ho, rfl⟩ F.entry_tuple_mul (F.args_tuple_mul_2 _ _) (tupMulZero l its.toArray n dd sl k t c0 ?_ ?_) ⟨ho, ?_⟩⟩)
      · rw [hem, hxe, Bool.false_or]
        exact beq_eq_false_iff_ne.mpr hk1
      · rw [decide_eq_true hk, Bool.true_or]
      · have q3 := q2 hne hk1
        have e0 : k.toNat = 0 := by omega
        rw [e0] at q3
        exact ⟨.ref s.heap.objs.size, _, I.laid (t' := s.toks) (o := .tup []) (fun b ob q => Heap.get?_push_of_some _ q) (Nat.le_refl _) ⟨Nat.zero_le _, [], .nil, IsTup.new _ _⟩, rfl, q3 _ (I.hok.fresh (Nat.le_refl _))⟩
theorem op_repTAE {X : Cx} {K : PySem.W.Frag} (h : X.K = K) : OpR X (binaryOp .Mult) (rRepTA K) := by subst h; exact op_repTA
def repC {γ : Type} (l : List γ) (k : Int) (R : List γ → Prop) : Prop := -1000 ≤ k ∧ k ≤ 1000 ∧ l.length ≤ 1000 ∧ R (List.replicate k.toNat l).flatten
theorem dqa_repT {K : PySem.W.Frag} {H : Hp} {vs : List V} {ds : List PyData} (h : DqA K H vs ds) : ∀ n : Nat, DqA K H (List.replicate n vs).flatten (List.replicate n ds).flatten
  | 0 => .nil
  | n + 1 => by
    rw [List.replicate_succ, List.replicate_succ, List.flatten_cons, List.flatten_cons]
    exact h.app (dqa_repT h n)
theorem map_rep {α β : Type} (f : α → β) (l : List α) : ∀ n : Nat, ((List.replicate n l).flatten).map f = (List.replicate n (l.map f)).flatten
  | 0 => rfl
  | n + 1 => by rw [List.replicate_succ, List.replicate_succ, List.flatten_cons, List.flatten_cons, List.map_append, map_rep f l n]
section
variable {K : PySem.W.Frag} {Z : Zk} {ρ : List Cell} {te ta tb tc : TE} {γ : Type} {e : γ → PyData}
theorem rf_repT {m1 : (List γ → Prop) → Prop} {m2 : (Int → Prop) → Prop} (h1 : Ref K Z (eT e) ta ρ m1) (h2 : Ref K Z eI tb ρ m2) : Ref K Z (eT e) (tOp (rRepTA K) ta tb) ρ (fun R => m1 fun l => m2 fun k => repC l k R) :=
  rf_2 (T := fun ta tb => tOp (rRepTA K) ta tb) (fun l k R => repC l k R) (fun _ _ _ _ _ => rfl) h1 h2 fun l k R h => dn (c := (List.replicate k.toNat l).flatten) (se_op v0 v1 fun w1 w2 G H bs d1 d2 Q q => by
    obtain ⟨a, xs, rfl, ht, ha⟩ := dq_tup d1
    rw [dq_int d2]
    have hl : xs.length = l.length := by rw [ha.len, List.length_map]
    refine ⟨a, k, xs, rfl, rfl, ex_t bs.ex ht, h.1, h.2.1, by rw [hl]; exact h.2.2.1, fun z => ?_, fun n1 n2 p np => ?_⟩
    · refine q _ _ G H rfl (.refl bs) ?_
      have e2 : eT e (List.replicate k.toNat l).flatten = .tuple (l.map e) := by
        show PyData.tuple _ = _
        rw [map_rep]
        congr 1
        rcases z with z | z
        · have : l = [] := List.eq_nil_of_length_eq_zero (by rw [← hl, z]; rfl)
          rw [this]
          simp
        · rw [z]
          show (List.replicate 1 _).flatten = _
          rw [List.replicate_one, List.flatten_cons, List.flatten_nil, List.append_nil]
      rw [e2]
      exact .tup ht ha
    · refine q _ _ (upd G p (.tup (List.replicate k.toNat xs).flatten)) _ rfl (.new bs np) ?_
      show Dq K _ _ (.tuple (((List.replicate k.toNat l).flatten).map e))
      rw [map_rep]
      exact .tup (SqT.of upd_same) (DqA.ex (Ex.new (none_of bs.ex np)) _ _ (dqa_repT ha _))) h.2.2.2
end
end FF
set_option maxHeartbeats 4000000
namespace FF
open PySem PySem.Spec PyProof.Rows L2 Evl
/-! ### two names at once, the second one an own dict -/
section
variable {K : PySem.W.Frag} {Z : Zk} {ρ : List Cell} {N : List Cell → Prop} {E : Eo} {ta tb : TE} {α β γ : Type} {e1 : α → PyData} {e : β → PyData}
theorem rf_dnew0 : Ref K Z eD (tFrzE tDNewK) ρ (fun R => R (.dict [])) := rf_se fun R h => se_dnew.mono fun d e => ⟨_, e, h⟩
theorem set_ne {ρ : List Cell} {i j : Nat} (h : i ≠ j) {c d : Cell} (hc : (ρ.set i c)[j]? = some d) : ρ[j]? = some d := by rw [List.getElem?_set_ne h] at hc; exact hc
/-- from a told value and a new dict -/
theorem relVD {G0 H0 G H G1 H1 G2 H2 : Hp} {σ : L2.St} {i j : Nat} {v : V} {d : PyData} {p : Addr} {kvs : List (Key × V)} {l : List (Int × β)} (b0 : Bs Z G0 H0) (r : Rel K Z G0 H0 σ ρ G H) (rel1 : Rel K Z G0 H0 σ ρ G1 H1) (hd : Dq K G1 v d) (s2 : Stp Z G1 H1 G2 H2) (np : H1 p = none) (np' : G2 p = none) (gp : H2 p = some (.dK kvs)) (hk : DqK K G2 kvs (dM e l)) :
    Rel K Z G0 H0 ((σ.set i (some v)).set j (some (.ref p))) ((ρ.set i (.e (.dat d))).set j (.dm (dM e l))) G2 H2 := by
  refine ((rel1.step b0 s2).set i (Dq.ex s2.g _ _ hd)).setX j ⟨p, kvs, rfl, gp, freshBack b0 rel1.st np, np', hk⟩ fun q c hc o hs => ?_
  by_cases c1 : i = q
  · subst c1
    obtain ⟨rfl, hl⟩ := get_set_self hc
    cases o
  · rw [List.getElem?_set_ne c1] at hc hs
    exact rel1.fresh np q c hc o hs
theorem rs_parVD {i j : Nat} {m1 : (α → Prop) → Prop} {m2 : (List (Int × β) → Prop) → Prop} {A : α → List (Int × β) → Prop} (hij : i ≠ j) (h1 : Ref K Z e1 ta ρ m1) (h2 : RefD K Z e tb ρ m2) (hm : st m1 fun a => st m2 fun l => A a l) (k : ∀ a l, A a l → N ((ρ.set i (.e (.dat (e1 a)))).set j (.dm (dM e l)))) : SS K Z (tPar i j (tCons ta (tCons tb tNil))) ρ N E := fun G0 H0 Gb b0 D ee nx σ G H eb r =>
  h1 _ hm G0 H0 b0 σ G H r _ fun v d G1 H1 ⟨a, hd, r1⟩ s1 hv => by
    subst hd
    have rel1 := r.step b0 s1
    refine h2 _ r1 G0 H0 b0 σ G1 H1 rel1 _ fun p kvs ds G2 H2 ⟨l, hl, r2⟩ s2 np np' gp hk => ?_
    subst hl
    exact ⟨v, .ref p, rfl, nx _ _ G2 H2 (k a l r2) ((eb.trans s1.g).trans s2.g) (relVD b0 r rel1 hv s2 np np' gp hk)⟩
theorem rs_tupVD {i j : Nat} {m1 : (α → Prop) → Prop} {m2 : (List (Int × β) → Prop) → Prop} {A : α → List (Int × β) → Prop} (hij : i ≠ j) (h1 : Ref K Z e1 ta ρ m1) (h2 : RefD K Z e tb ρ m2) (hm : st m1 fun a => st m2 fun l => A a l) (k : ∀ a l, A a l → N ((ρ.set i (.e (.dat (e1 a)))).set j (.dm (dM e l)))) : SS K Z (tAsg (tTup (tCons ta (tCons tb tNil))) (gTup K 2 (gCons (gName i) (gCons (gName j) gNil)))) ρ N E := fun G0 H0 Gb b0 D ee nx σ G H eb r =>
  h1 _ hm G0 H0 b0 σ G H r _ fun v d G1 H1 ⟨a, hd, r1⟩ s1 hv => by
    subst hd
    have rel1 := r.step b0 s1
    refine h2 _ r1 G0 H0 b0 σ G1 H1 rel1 _ fun p kvs ds G2 H2 ⟨l, hl, r2⟩ s2 np np' gp hk => ?_
    subst hl
    have b2 := (rel1.step b0 s2).bs b0
    refine ⟨Nat.le_of_ble_eq_true rfl, fun t nt => ?_⟩
    have s3 : Stp Z G2 H2 G2 (upd H2 t (.tup [v, .ref p])) := .hide b2 nt
    have tp : p ≠ t := fun z => by rw [z, nt] at gp; cases gp
    exact ⟨t, _, rfl, SqT.of upd_same, rfl, v, _, rfl, .ref p, _, rfl, rfl, nx _ _ G2 _ (k a l r2) ((eb.trans s1.g).trans s2.g) (relVD b0 r rel1 hv (s2.trans s3) np np' (by rw [upd_ne tp]; exact gp) hk)⟩
theorem rs_parLD {i j : Nat} {m1 : (List α → Prop) → Prop} {m2 : (List (Int × β) → Prop) → Prop} {A : List α → List (Int × β) → Prop} (hij : i ≠ j) (h1 : RefO K Z e1 ta ρ m1) (h2 : RefD K Z e tb ρ m2) (hm : st m1 fun a => st m2 fun l => A a l) (k : ∀ a l, A a l → N ((ρ.set i (.lst (a.map e1))).set j (.dm (dM e l)))) : SS K Z (tPar i j (tCons ta (tCons tb tNil))) ρ N E := fun G0 H0 Gb b0 D ee nx σ G H eb r =>
  h1 _ hm G0 H0 b0 σ G H r _ fun q us ds1 G1 H1 ⟨a, hd, r1⟩ s1 nq nq' gq hq => by
    subst hd
    have rel1 := r.step b0 s1
    refine h2 _ r1 G0 H0 b0 σ G1 H1 rel1 _ fun p kvs ds G2 H2 ⟨l, hl, r2⟩ s2 np np' gp hk => ?_
    subst hl
    have rel2 := rel1.step b0 s2
    have relA := rel2.setL i (s2.k q _ gq ((r.bs b0).dk.ne nq)) (freshBack b0 r.st nq) (s2.n q _ nq' gq rfl) (DqA.ex s2.g _ _ hq) fun j c hc o => r.fresh nq j c hc o
    refine ⟨.ref q, .ref p, rfl, nx _ _ G2 H2 (k a l r2) ((eb.trans s1.g).trans s2.g) (relA.setX j ⟨p, kvs, rfl, gp, freshBack b0 rel1.st np, np', hk⟩ fun l c hc o hs => ?_)⟩
    by_cases c1 : i = l
    · subst c1
      obtain ⟨_, hl⟩ := get_set_self hc
      rw [List.getElem?_set_self (rel2.slot hl)] at hs
      cases hs
      rw [gq] at np
      cases np
    · rw [List.getElem?_set_ne c1] at hc hs
      exact rel1.fresh np l c hc o hs
end
end FF
set_option maxHeartbeats 4000000
namespace FF
open PySem PySem.Spec PyProof.Rows L2 Evl
/-! ### reversed(..) walked -/
section
variable {K : PySem.W.Frag} {Z : Zk} {ρ : List Cell} {ta : TE} {γ : Type} {e : γ → PyData}
theorem rev_at {xs : List V} {ds : List PyData} {K : PySem.W.Frag} {H : Hp} (ha : DqA K H xs ds) {i : Nat} {d : PyData} (hd : ds.reverse[i]? = some d) : ∃ v, xs[xs.length - 1 - i]? = some v ∧ Dq K H v d := by
  have hi := (List.getElem?_eq_some_iff.mp hd).1
  rw [List.length_reverse] at hi
  rw [List.getElem?_reverse hi] at hd
  rw [ha.len]
  exact ha.getD _ hd
theorem ri_revT {m1 : (List γ → Prop) → Prop} (h1 : Ref K Z (eT e) ta ρ m1) : RefI K Z e (RT.iRevA K ta) ρ (fun R => m1 fun l => R l.reverse) := fun R hR G0 H0 b0 σ G H r Q q =>
  h1 _ hR G0 H0 b0 σ G H r _ fun v d G1 H1 ⟨l, hd, r1⟩ s1 hv => by
    subst hd
    obtain ⟨a, xs, rfl, ht, ha⟩ := dq_tup hv
    have bs := (r.step b0 s1).bs b0
    refine ⟨a, xs, rfl, .inr ⟨ex_t bs.ex ht, q _ _ G1 H1 ⟨l.reverse, rfl, r1⟩ s1 fun i G2 H2 e2 b2 => ?_⟩⟩
    have hl : (l.reverse.map e).length = xs.length := by rw [List.length_map, List.length_reverse, ha.len, List.length_map]
    have ht2 := ex_t b2.ex (ex_t e2 ht)
    refine ⟨fun z => by rw [z, hl]; exact Nat.le_refl _, fun d hd => ?_⟩
    rw [List.map_reverse] at hd
    obtain ⟨w, hw1, hw2⟩ := rev_at ha hd
    have hi := (List.getElem?_eq_some_iff.mp hd).1
    rw [List.length_reverse, List.length_map] at hi
    refine ⟨⟨by rw [ha.len, List.length_map]; exact hi, xs, w, ht2, hw1⟩, fun u H3 y => ?_⟩
    obtain ⟨rfl, y⟩ := y
    have := y xs ht2
    rw [hw1] at this
    cases this
    exact ⟨G2, .refl b2, Dq.ex e2 _ _ hw2⟩
theorem ri_revL {m1 : (List γ → Prop) → Prop} (h1 : Ref K Z (eL e) ta ρ m1) : RefI K Z e (RT.iRevA K ta) ρ (fun R => m1 fun l => R l.reverse) := fun R hR G0 H0 b0 σ G H r Q q =>
  h1 _ hR G0 H0 b0 σ G H r _ fun v d G1 H1 ⟨l, hd, r1⟩ s1 hv => by
    subst hd
    obtain ⟨a, xs, rfl, ht, ha⟩ := dq_lst hv
    have bs := (r.step b0 s1).bs b0
    refine ⟨a, xs, rfl, .inl ⟨ex_l bs.ex ht, q _ _ G1 H1 ⟨l.reverse, rfl, r1⟩ s1 fun i G2 H2 e2 b2 => ?_⟩⟩
    have hl : (l.reverse.map e).length = xs.length := by rw [List.length_map, List.length_reverse, ha.len, List.length_map]
    have ht2 := ex_l b2.ex (ex_l e2 ht)
    refine ⟨fun z => by rw [z, hl]; exact Nat.le_refl _, fun d hd => ?_⟩
    rw [List.map_reverse] at hd
    obtain ⟨w, hw1, hw2⟩ := rev_at ha hd
    have hi := (List.getElem?_eq_some_iff.mp hd).1
    rw [List.length_reverse, List.length_map] at hi
    refine ⟨⟨by rw [ha.len, List.length_map]; exact hi, xs, w, ht2, hw1⟩, fun u H3 y => ?_⟩
    obtain ⟨rfl, y⟩ := y
    have := y xs ht2
    rw [hw1] at this
    cases this
    exact ⟨G2, .refl b2, Dq.ex e2 _ _ hw2⟩
end
end FF
set_option maxHeartbeats 4000000
/-! zip of three, each a tuple or a list -/
namespace FF
open PySem PySem.Spec PyProof.Rows L2 Evl
def ItzK3 (K : PySem.W.Frag) (b1 b2 b3 : Bool) (a b d : Addr) : It :=
  ⟨fun i H => ∃ (xs ys zs : List V) (x y z : V), SqK b1 K H a xs ∧ SqK b2 K H b ys ∧ SqK b3 K H d zs ∧ xs[i]? = some x ∧ ys[i]? = some y ∧ zs[i]? = some z,
    fun i H v H' => ∃ T x y z, v = .ref T ∧ H T = none ∧ H' = upd H T (.tup [x, y, z]) ∧ (∀ xs, SqK b1 K H a xs → xs[i]? = some x) ∧ (∀ ys, SqK b2 K H b ys → ys[i]? = some y) ∧ ∀ zs, SqK b3 K H d zs → zs[i]? = some z,
    fun i H => ∃ xs ys zs : List V, SqK b1 K H a xs ∧ SqK b2 K H b ys ∧ SqK b3 K H d zs ∧ i = min xs.length (min ys.length zs.length)⟩
theorem turn_zipK3 {P : Program} {w : World} {K : PySem.W.Frag} {elts : List Expr} {kk : Nat} {tpos : Pos} {b1 b2 b3 : Bool} {a b d z TI TO i1 i2 i3 : Addr} (S : ZipSep3 z TI TO i1 i2 i3 [i1, a] [i2, b] [i3, d]) (ha : a ≠ i1) (hb : b ≠ i2) (hd : d ≠ i3) :
    Turn P w K (.Tuple elts kk tpos) (ItzK3 K b1 b2 b3 a b d) [z, TI, TO, i1, i2, i3] z (fun i h => IsZip h z TI TO .none ∧ IsTupOf3 h TI (.ref i1) (.ref i2) (.ref i3) ∧ (∃ x y q, IsTupOf3 h TO x y q) ∧ ItK b1 h i1 a i ∧ ItK b2 h i2 b i ∧ ItK b3 h i3 d i) where
  mem := by simp
  obj := fun i h st c hc => by
    obtain ⟨hz, hTI, ⟨x, y, w, hTO⟩, h1, h2, h3⟩ := st
    have e' : c = z ∨ c = TI ∨ c = TO ∨ c = i1 ∨ c = i2 ∨ c = i3 := by simpa using hc
    rcases e' with q | q | q | q | q | q
    · rw [q]; exact ⟨_, hz, fun v q => nomatch q⟩
    · rw [q]; exact ⟨_, hTI, fun v q => nomatch q⟩
    · rw [q]; exact ⟨_, hTO, fun v q => nomatch q⟩
    · rw [q]; exact h1.obj
    · rw [q]; exact h2.obj
    · rw [q]; exact h3.obj
  keep := fun i h h' st k => by
    obtain ⟨hz, hTI, ⟨x, y, w, hTO⟩, h1, h2, h3⟩ := st
    exact ⟨k z (by simp) _ hz, k TI (by simp) _ hTI, ⟨x, y, w, k TO (by simp) _ hTO⟩, h1.at' fun o q => k i1 (by simp) o q, h2.at' fun o q => k i2 (by simp) o q, h3.at' fun o q => k i3 (by simp) o q⟩
  item := by
    intro X hP hw hK hc i pins s σ H E I hf st hg
    subst hP hw hK
    obtain ⟨hz, hTI, ⟨x0, y0, z0, hTO⟩, h1, h2, h3⟩ := st
    obtain ⟨xs, ys, zs, x, y, q, hqx, hqy, hqz, hx, hy, hq⟩ := hg
    obtain ⟨its, rv, p⟩ := seqK_of I hqx
    obtain ⟨its2, rv2, p2⟩ := seqK_of I hqy
    obtain ⟨its3, rv3, p3⟩ := seqK_of I hqz
    obtain ⟨u, hu, ru⟩ := rv.get hx
    obtain ⟨u2, hu2, ru2⟩ := rv2.get hy
    obtain ⟨u3, hu3, ru3⟩ := rv3.get hq
    have hzl : z < s.heap.objs.size := Heap.lt_size hz
    have l1 : i < its.toArray.size := by rw [List.size_toArray]; exact (List.getElem?_eq_some_iff.mp hu).1
    have l2 : i < its2.toArray.size := by rw [List.size_toArray]; exact (List.getElem?_eq_some_iff.mp hu2).1
    have l3 : i < its3.toArray.size := by rw [List.size_toArray]; exact (List.getElem?_eq_some_iff.mp hu3).1
    have D1 := drawsK (prog := X.prog) (w := X.w) (A := X.A.in1) (show X.A.in1.handled = none from I.ok.hd hc) b1 i1 a ha its.toArray
    have D2 := drawsK (prog := X.prog) (w := X.w) (A := X.A.in1) (show X.A.in1.handled = none from I.ok.hd hc) b2 i2 b hb its2.toArray
    have D3 := drawsK (prog := X.prog) (w := X.w) (A := X.A.in1) (show X.A.in1.handled = none from I.ok.hd hc) b3 i3 d hd its3.toArray
    refine wpAny_pyNext_zipD3_item (i := i) S D1 D2 D3 hz hTI hTO ⟨h1, p⟩ ⟨h2, p2⟩ ⟨h3, p3⟩ l1 l2 l3 fun w1 w2 w3 h' tk e1 e2 e3 z' TO' h1' h2' h3' hT hsz hk => ?_
    have e1' : u = w1 := by
      have : its[i]? = some w1 := by simpa using e1
      exact Option.some.inj (hu.symm.trans this)
    have e2' : u2 = w2 := by
      have : its2[i]? = some w2 := by simpa using e2
      exact Option.some.inj (hu2.symm.trans this)
    have e3' : u3 = w3 := by
      have : its3[i]? = some w3 := by simpa using e3
      exact Option.some.inj (hu3.symm.trans this)
    subst e1' e2' e3'
    refine ⟨_, rfl, wpAny_letOwnedTupleGo_zip (s := { s with heap := h', toks := tk }) z' fun h'' z'' sb => ?_⟩
    have hT2 : h''.get? s.heap.objs.size = some { cls := .type "tuple", data := .seq #[u, u2, u3] } := (sb.2 _ (Nat.ne_of_gt hzl)).trans hT
    have new : ObjOk X.prog X.w (upd H s.heap.objs.size (.tup [x, y, q])) h'' s.heap.objs.size (.tup [x, y, q]) :=
      ⟨by show 3 ≤ sizeLine; decide, [u, u2, u3], .cons ru (.cons ru2 (.cons ru3 .nil)), ⟨_, hT2, rfl, _, rfl⟩⟩
    have I1 : Inv X pins σ (upd H s.heap.objs.size (.tup [x, y, q])) { s with heap := h'', toks := tk } :=
      I.turnedNew (t' := tk) (ch := [z, TI, TO, i1, i2, i3]) (fun c o hb q => (sb.2 c (fun q' => hb (by simp [q']))).trans (hk c o (fun q' => hb (by simp [q'])) (fun q' => hb (by simp [q'])) (fun q' => hb (by simp [q'])) (fun q' => hb (by simp [q'])) (fun q' => hb (by simp [q'])) q)) hf (Nat.le_refl _) new
    refine ⟨.ref s.heap.objs.size, _, I1, rfl, ⟨_, x, y, q, rfl, I.hok.fresh (Nat.le_refl _), rfl, fun l hl => by rw [seqK_inj I hl hqx]; exact hx, fun l hl => by rw [seqK_inj I hl hqy]; exact hy, fun l hl => by rw [seqK_inj I hl hqz]; exact hq⟩, ⟨z'', ?_, ⟨u, u2, u3, ?_⟩, ?_, ?_, ?_⟩, fun c hcm => ?_⟩
    · exact (sb.2 _ S.TIz).trans (hk _ _ S.TIz S.TITO S.TIi1 S.TIi2 S.TIi3 hTI)
    · exact (sb.2 _ S.TOz).trans TO'
    · exact h1'.1.at' fun o q => (sb.2 _ S.zi1.symm).trans q
    · exact h2'.1.at' fun o q => (sb.2 _ S.zi2.symm).trans q
    · exact h3'.1.at' fun o q => (sb.2 _ S.zi3.symm).trans q
    · have hlt : c < s.heap.objs.size := by
        have e' : c = z ∨ c = TI ∨ c = TO ∨ c = i1 ∨ c = i2 ∨ c = i3 := by simpa using hcm
        rcases e' with q | q | q | q | q | q
        · rw [q]; exact hzl
        · rw [q]; exact Heap.lt_size hTI
        · rw [q]; exact Heap.lt_size hTO
        · rw [q]; obtain ⟨_, e1, _⟩ := h1.obj; exact Heap.lt_size e1
        · rw [q]; obtain ⟨_, e2, _⟩ := h2.obj; exact Heap.lt_size e2
        · rw [q]; obtain ⟨_, e3, _⟩ := h3.obj; exact Heap.lt_size e3
      rw [upd_ne (Nat.ne_of_lt hlt)]
      exact (hf c hcm).1
  done := by
    intro X hP hw hK hc i pins s σ H E I hf st hg
    subst hP hw hK
    obtain ⟨hz, hTI, ⟨x0, y0, z0, hTO⟩, h1, h2, h3⟩ := st
    obtain ⟨xs, ys, zs, hqx, hqy, hqz, hend⟩ := hg
    obtain ⟨its, rv, p⟩ := seqK_of I hqx
    obtain ⟨its2, rv2, p2⟩ := seqK_of I hqy
    obtain ⟨its3, rv3, p3⟩ := seqK_of I hqz
    have l1 := rv.length
    have l2 := rv2.length
    have l3 := rv3.length
    have D1 := drawsK (prog := X.prog) (w := X.w) (A := X.A.in1) (show X.A.in1.handled = none from I.ok.hd hc) b1 i1 a ha its.toArray
    have D2 := drawsK (prog := X.prog) (w := X.w) (A := X.A.in1) (show X.A.in1.handled = none from I.ok.hd hc) b2 i2 b hb its2.toArray
    have D3 := drawsK (prog := X.prog) (w := X.w) (A := X.A.in1) (show X.A.in1.handled = none from I.ok.hd hc) b3 i3 d hd its3.toArray
    refine wpAny_pyNext_zipD3_end (i := i) S D1 D2 D3 hz hTI hTO ⟨h1, p⟩ ⟨h2, p2⟩ ⟨h3, p3⟩ (by rw [List.size_toArray]; omega) (by rw [List.size_toArray]; omega) (by rw [List.size_toArray]; omega) (by rw [List.size_toArray, List.size_toArray, List.size_toArray]; omega) fun h' tk hk => ⟨rfl, I.turnedL (t' := tk) (ch := [z, TI, TO, i1, i2, i3]) (fun c o hb q =>
      hk c o (fun q' => hb (by simp [q'])) (fun q' => hb (by simp [q'])) (fun q' => hb (by simp [q'])) (fun q' => hb (by simp [q'])) (fun q' => hb (by simp [q'])) q) hf⟩
  self := fun A i s Q E st h => wpAny_pyIter_zip st.1 h
def iZipK3 (K : PySem.W.Frag) (b1 b2 b3 : Bool) (ta : TA) : TI := fun σ H R => ta σ H fun vs H1 => ∃ a b d xs ys zs, vs = [.ref a, .ref b, .ref d] ∧ SqK b1 K H1 a xs ∧ SqK b2 K H1 b ys ∧ SqK b3 K H1 d zs ∧ R (ItzK3 K b1 b2 b3 a b d) H1
theorem pi_zipK3 {X : Cx} (b1 b2 b3 : Bool) {e e2 e3 : Expr} {ta : TA} {p pos tpos : Pos} {elts : List Expr} {kk : Nat} (hg : Gl X "zip") (hm : X.mg "zip" = none) (ha : PA X [e, e2, e3] ta)
    (hs : starEach [e, e2, e3] X.env = (false, eval e X.env) :: starEach [e2, e3] X.env := by rfl) (hpl : (backTo pos (starEach [e2, e3] X.env)).any (·.1) = false := by rfl) :
    PI X (.Tuple elts kk tpos) (.Call (.Name "zip" p) [e, e2, e3] [] pos) (iZipK3 X.K b1 b2 b3 ta) := by
  refine ⟨fun pins s σ H R I h => ?_⟩
  refine Call_ (ld_blt I hg hm PyProof.Rows.boot_zip (PyProof.Rows.callWith_type1 (thn (ha.run pos pins s σ H _ I h) fun us s1 ⟨vs, H1, I1, r1, q1⟩ => ?_) hs hpl))
  obtain ⟨a, b, d, xs, ys, zs, ex, hqx, hqy, hqz, q⟩ := q1
  subst ex
  cases r1 with
  | cons r rr =>
    cases rr with
    | cons r' rr =>
      cases rr with
      | cons r'' rr =>
        cases rr
        cases r
        cases r'
        cases r''
        have fresh6 : ∀ c, c ∈ [s1.heap.objs.size + 5, s1.heap.objs.size + 3, s1.heap.objs.size + 4, s1.heap.objs.size, s1.heap.objs.size + 1, s1.heap.objs.size + 2] → FpOk X pins H1 c := fun c hcm => by
          have e' : c = s1.heap.objs.size + 5 ∨ c = s1.heap.objs.size + 3 ∨ c = s1.heap.objs.size + 4 ∨ c = s1.heap.objs.size ∨ c = s1.heap.objs.size + 1 ∨ c = s1.heap.objs.size + 2 := by simpa using hcm
          have hle : s1.heap.objs.size ≤ c := by
            rcases e' with z | z | z | z | z | z
            · rw [z]; exact Nat.le_add_right _ _
            · rw [z]; exact Nat.le_add_right _ _
            · rw [z]; exact Nat.le_add_right _ _
            · rw [z]; exact Nat.le_refl _
            · rw [z]; exact Nat.le_add_right _ _
            · rw [z]; exact Nat.le_add_right _ _
          exact I1.fpOk hle (I1.hok.fresh hle)
        obtain ⟨its, rv, p1⟩ := seqK_of I1 hqx
        obtain ⟨its2, rv2, p2⟩ := seqK_of I1 hqy
        obtain ⟨its3, rv3, p3⟩ := seqK_of I1 hqz
        have la := p1.lt
        have lb := p2.lt
        have ld := p3.lt
        refine zip_begins3 (beginsK b1 a its.toArray) (beginsK b2 b its2.toArray) (beginsK b3 d its3.toArray) p1 p2 p3 fun h' hz hTI hTO h1 h2 h3 hsz hk => wpAny_pyIter_zip hz ?_
        have I2 : Inv X pins σ H1 { s1 with heap := h' } := I1.kept (t' := s1.toks) hk
        exact ⟨s1.heap.objs.size + 5, [s1.heap.objs.size + 5, s1.heap.objs.size + 3, s1.heap.objs.size + 4, s1.heap.objs.size, s1.heap.objs.size + 1, s1.heap.objs.size + 2], _, _, H1, rfl, I2,
          turn_zipK3 (zip_sep3 (fun c hc => by rw [List.mem_singleton.mp hc]; exact la) (fun c hc => by rw [List.mem_singleton.mp hc]; exact lb) (fun c hc => by rw [List.mem_singleton.mp hc]; exact ld)) (Nat.ne_of_lt la) (Nat.ne_of_lt (Nat.lt_succ_of_lt lb)) (Nat.ne_of_lt (Nat.lt_succ_of_lt (Nat.lt_succ_of_lt ld))), ⟨hz, hTI, ⟨_, _, _, hTO⟩, itK_0 h1, itK_0 h2, itK_0 h3⟩, fresh6, q⟩
/-! as data -/
def zip3 {α β γ : Type} (l : List α) (m : List β) (n : List γ) : List (α × β × γ) := l.zip (m.zip n)
section
variable {K : PySem.W.Frag} {Z : Zk} {η : List Ent} {ta : TA} {te tb tc : TE} {ρ : List Cell} {α β γ : Type} {e1 : α → PyData} {e2 : β → PyData} {e3 : γ → PyData}
theorem ri_zipK3 (b1 b2 b3 : Bool) {m1 : (List α → Prop) → Prop} {m2 : (List β → Prop) → Prop} {m3 : (List γ → Prop) → Prop} (h1 : Ref K Z (encK b1 e1) te ρ m1) (h2 : Ref K Z (encK b2 e2) tb ρ m2) (h3 : Ref K Z (encK b3 e3) tc ρ m3) :
    RefI K Z (eP3 e1 e2 e3) (iZipK3 K b1 b2 b3 (tCons te (tCons tb (tCons tc tNil)))) ρ (fun R => m1 fun x => m2 fun y => m3 fun z => R (zip3 x y z)) := fun R hR G0 H0 b0 σ G H r Q q =>
  ra_cons h1 (ra_cons h2 (ra_cons h3 ra_nil)) (fun p => R (zip3 p.1 p.2.1 p.2.2.1)) hR G0 H0 b0 σ G H r _ fun vs ds G1 H1 ⟨p, hd, rp⟩ s1 ha => by
    obtain ⟨l, m, n, u⟩ := p
    have hd' : ds = [encK b1 e1 l, encK b2 e2 m, encK b3 e3 n] := hd
    subst hd'
    cases ha with
    | cons hd1 ha =>
      cases ha with
      | cons hd2 ha =>
        cases ha with
        | cons hd3 ha =>
          cases ha
          obtain ⟨a, xs, rfl, ht1, hx⟩ := dq_K hd1
          obtain ⟨c, ys, rfl, ht2, hy⟩ := dq_K hd2
          obtain ⟨d, zs, rfl, ht3, hz⟩ := dq_K hd3
          have lx := hx.len
          have ly := hy.len
          have lz := hz.len
          rw [List.length_map] at lx ly lz
          refine ⟨a, c, d, xs, ys, zs, rfl, ht1 _ s1.s, ht2 _ s1.s, ht3 _ s1.s, q _ _ G1 H1 ⟨zip3 l m n, rfl, rp⟩ s1 fun i G2 H2 e2' b2' => ?_⟩
          have t1 := ht1 _ (e2'.trans b2'.ex)
          have t2 := ht2 _ (e2'.trans b2'.ex)
          have t3 := ht3 _ (e2'.trans b2'.ex)
          have zl : ((zip3 l m n).map (eP3 e1 e2 e3)).length = min xs.length (min ys.length zs.length) := by
            unfold zip3
            rw [List.length_map, List.length_zip, List.length_zip, lx, ly, lz]
          refine ⟨fun z => ⟨xs, ys, zs, t1, t2, t3, by rw [z, zl]⟩, fun dd hdd => ?_⟩
          rw [List.getElem?_map] at hdd
          obtain ⟨p, hp, rfl⟩ := Option.map_eq_some_iff.mp hdd
          obtain ⟨p1, p2⟩ := List.getElem?_zip_eq_some.mp hp
          obtain ⟨p3, p4⟩ := List.getElem?_zip_eq_some.mp p2
          obtain ⟨v1, k1, k2⟩ := hx.getD i (show (l.map e1)[i]? = some (e1 p.1) by rw [List.getElem?_map, p1]; rfl)
          obtain ⟨v2, k3, k4⟩ := hy.getD i (show (m.map e2)[i]? = some (e2 p.2.1) by rw [List.getElem?_map, p3]; rfl)
          obtain ⟨v3, k5, k6⟩ := hz.getD i (show (n.map e3)[i]? = some (e3 p.2.2) by rw [List.getElem?_map, p4]; rfl)
          refine ⟨⟨xs, ys, zs, v1, v2, v3, t1, t2, t3, k1, k3, k5⟩, fun v H3 y => ?_⟩
          obtain ⟨T, x, y', z', rfl, nT, rfl, ex, ey, ez⟩ := y
          have q1 := ex xs t1
          have q2 := ey ys t2
          have q3 := ez zs t3
          rw [k1] at q1
          rw [k3] at q2
          rw [k5] at q3
          cases q1
          cases q2
          cases q3
          have x2 := fun (o : HO) => e2'.trans (Ex.new (o := o) (none_of b2'.ex nT))
          exact ⟨_, .new b2' nT, .tup (SqT.of upd_same) (.cons (Dq.ex (x2 _) _ _ k2) (.cons (Dq.ex (x2 _) _ _ k4) (.cons (Dq.ex (x2 _) _ _ k6) .nil)))⟩
theorem rf_tupRg {m1 : (Int → Prop) → Prop} (h1 : Ref K Z eI te ρ m1) : Ref K Z (eT eI) (tTupRg (tRg1 te)) ρ (fun R => m1 fun n => ∃ k : Nat, n = k ∧ k ≤ 100000 ∧ R (rngI k)) := fun R hR G0 H0 b0 σ G H r Q q =>
  h1 _ hR G0 H0 b0 σ G H r _ fun v d G1 H1 ⟨n, hd, k, e, hk, r1⟩ s1 hv => by
    subst hd
    subst e
    have bs := (r.step b0 s1).bs b0
    rw [dq_int hv]
    have ok : RgOk 0 (k : Int) := by
      refine ⟨by decide, by decide, by omega, by omega, ?_⟩
      omega
    have ev : rgV 0 (k : Int) = (rngI k).map V.int := by
      unfold rgV rngI
      rw [List.map_map]
      have : ((k : Int) - 0).toNat = k := by omega
      rw [this]
      refine List.map_congr_left fun i _ => ?_
      show V.int (0 + (i : Int)) = V.int (i : Int)
      rw [Int.zero_add]
    refine ⟨_, rfl, ok, fun p np => q _ (eT eI (rngI k)) (upd G1 p (.tup (rgV 0 (k : Int)))) _ ⟨_, rfl, r1⟩ (s1.trans (.new bs np)) (.tup (SqT.of upd_same) ?_)⟩
    rw [ev]
    exact ints_dqa
end
end FF
set_option maxHeartbeats 4000000
namespace FF
open PySem PySem.Spec PyProof.Rows L2 Evl
/-! ### what is asked, shown -/
section
variable {α β σ : Type}
theorem forC_inv {l : List α} {s : σ} {f : α → σ → (σ → Prop) → (σ → Prop) → Prop} {k : σ → Prop} (I : Nat → σ → Prop) (h0 : I 0 s) (hs : ∀ i a s (nx : σ → Prop), l[i]? = some a → I i s → (∀ s', I (i + 1) s' → nx s') → f a s nx k) (hk : ∀ s, I l.length s → k s) : forC l s f k := by
  have go : ∀ (m : List α) (i : Nat) (s : σ), l.drop i = m → i ≤ l.length → I i s → forC m s f k := by
    intro m
    induction m with
    | nil =>
      intro i s hd hi hI
      have : l.length ≤ i := List.drop_eq_nil_iff.mp hd
      have e : i = l.length := by omega
      subst e
      exact hk s hI
    | cons a m ih =>
      intro i s hd hi hI
      have hlt : i < l.length := by
        by_cases c : i < l.length
        · exact c
        · rw [List.drop_eq_nil_of_le (by omega)] at hd; cases hd
      rw [List.drop_eq_getElem_cons hlt] at hd
      obtain ⟨e1, e2⟩ := List.cons.inj hd
      unfold forC
      exact hs i a s _ (by rw [List.getElem?_eq_getElem hlt, e1]) hI fun s' hI' => ih (i + 1) s' e2 (by omega) hI'
  exact go l 0 s rfl (Nat.zero_le _) h0
theorem forC_mem {l : List α} {s : σ} {f : α → σ → (σ → Prop) → (σ → Prop) → Prop} {k : σ → Prop} (I : σ → Prop) (h0 : I s) (hs : ∀ a s (nx : σ → Prop), a ∈ l → I s → (∀ s', I s' → nx s') → f a s nx k) (hk : ∀ s, I s → k s) : forC l s f k :=
  forC_inv (fun _ => I) h0 (fun i a s nx ha hI hn => hs a s nx (List.mem_of_getElem? ha) hI hn) hk
theorem forC_all {l : List α} {f : α → Unit → (Unit → Prop) → (Unit → Prop) → Prop} {k : Unit → Prop} (hs : ∀ a (nx : Unit → Prop), a ∈ l → nx () → f a () nx k) (hk : k ()) : forC l () f k :=
  forC_mem (fun _ => True) trivial (fun a s nx ha _ hn => hs a nx ha (hn () trivial)) fun _ _ => hk
theorem whileC_inv {s : σ} {c : σ → (Bool → Prop) → Prop} {f : σ → (σ → Prop) → (σ → Prop) → Prop} {k : σ → Prop} (I : σ → Prop) (μ : σ → Nat) (h0 : I s) (hs : ∀ s, I s → ∀ nx : σ → Prop, (∀ s', I s' → μ s' < μ s → nx s') → c s fun b => cnd b (f s nx k) (k s)) : whileC s c f k := by
  have go : ∀ (n : Nat) (s : σ), μ s < n → I s → whileN n s c f k := by
    intro n
    induction n with
    | zero => intro s h; omega
    | succ n ih =>
      intro s hn hI
      unfold whileN
      exact hs s hI _ fun s' hI' hm => ih s' (by omega) hI'
  exact ⟨μ s + 1, go _ s (Nat.lt_succ_self _) h0⟩
theorem lcC_go {t : α → (Bool → Prop) → Prop} {f : α → (β → Prop) → Prop} {R : List β → Prop} (t' : α → Bool) (f' : α → β) : ∀ (l : List α) (acc : List β), (∀ a ∈ l, ∀ R : Bool → Prop, R (t' a) → t a R) → (∀ a ∈ l, t' a = true → ∀ R : β → Prop, R (f' a) → f a R) → acc.length + l.length ≤ 100000 → R (acc ++ (l.filter t').map f') → lcC l acc t f R
  | [], acc, _, _, _, h => by
    unfold lcC
    simpa using h
  | a :: l, acc, ht, hf, hl, h => by
    unfold lcC
    rw [List.length_cons] at hl
    refine ht a (List.mem_cons_self ..) _ ⟨fun c => ⟨by omega, hf a (List.mem_cons_self ..) c _ ?_⟩, fun c => ?_⟩
    · refine lcC_go t' f' l _ (fun b hb => ht b (List.mem_cons_of_mem _ hb)) (fun b hb => hf b (List.mem_cons_of_mem _ hb)) (by rw [List.length_append, List.length_singleton]; omega) ?_
      rw [List.filter_cons_of_pos c, List.map_cons] at h
      rw [List.append_assoc]
      exact h
    · refine lcC_go t' f' l _ (fun b hb => ht b (List.mem_cons_of_mem _ hb)) (fun b hb => hf b (List.mem_cons_of_mem _ hb)) (by omega) ?_
      rw [List.filter_cons_of_neg (by rw [c]; exact Bool.false_ne_true)] at h
      exact h
/-- a comprehension of plain tests and items -/
theorem lcC_of {l : List α} {t : α → (Bool → Prop) → Prop} {f : α → (β → Prop) → Prop} {R : List β → Prop} (t' : α → Bool) (f' : α → β) (ht : ∀ a ∈ l, ∀ R : Bool → Prop, R (t' a) → t a R) (hf : ∀ a ∈ l, t' a = true → ∀ R : β → Prop, R (f' a) → f a R) (hl : l.length ≤ 100000) (h : R ((l.filter t').map f')) : lcC l [] t f R :=
  lcC_go t' f' l [] ht hf (by simpa using hl) (by simpa using h)
theorem lcC_map {l : List α} {f : α → (β → Prop) → Prop} {R : List β → Prop} (f' : α → β) (hf : ∀ a ∈ l, ∀ R : β → Prop, R (f' a) → f a R) (hl : l.length ≤ 100000) (h : R (l.map f')) : lcC l [] (fun _ R => R true) f R :=
  lcC_of (fun _ => true) f' (fun _ _ _ h => h) (fun a ha _ => hf a ha) hl (by rw [List.filter_eq_self.mpr fun _ _ => rfl]; exact h)
theorem lcC_fil {l : List α} {t : α → (Bool → Prop) → Prop} {R : List α → Prop} (t' : α → Bool) (ht : ∀ a ∈ l, ∀ R : Bool → Prop, R (t' a) → t a R) (hl : l.length ≤ 100000) (h : R (l.filter t')) : lcC l [] t (fun x R => R x) R :=
  lcC_of t' (fun a => a) ht (fun _ _ _ _ h => h) hl (by rw [List.map_id']; exact h)
/-- a comprehension by chance: the items are of a kind -/
theorem lcC_any {l : List α} {f : α → (β → Prop) → Prop} {R : List β → Prop} (Pb : β → Prop) (hf : ∀ a ∈ l, ∀ R : β → Prop, (∀ y, Pb y → R y) → f a R) (hl : l.length ≤ 100000) (h : ∀ ys : List β, ys.length = l.length → (∀ y ∈ ys, Pb y) → R ys) : lcC l [] (fun _ R => R true) f R := by
  have go : ∀ (m : List α) (acc : List β), (∀ a ∈ m, a ∈ l) → acc.length + m.length = l.length → (∀ y ∈ acc, Pb y) → lcC m acc (fun _ R => R true) f R := by
    intro m
    induction m with
    | nil => intro acc _ hl' ha; exact h acc (by simpa using hl') ha
    | cons a m ih =>
      intro acc hm hl' ha
      rw [List.length_cons] at hl'
      refine ⟨fun _ => ⟨by omega, hf a (hm a (List.mem_cons_self ..)) _ fun y hy => ih _ (fun b hb => hm b (List.mem_cons_of_mem _ hb)) (by rw [List.length_append, List.length_singleton]; omega) fun z hz => ?_⟩, (fun z => nomatch z)⟩
      rcases List.mem_append.mp hz with q | q
      · exact ha z q
      · rw [List.mem_singleton.mp q]; exact hy
  exact go l [] (fun _ h => h) (by simp) fun y hy => nomatch hy
end
theorem ne_same {x y : PyData} {R : Bool → Prop} (s : Sv 300000 60 x) (e : x = y) (h : R false) : reprD x fun a => reprD y fun b => R (!decide (a = b)) := by
  subst e
  refine ⟨s, s, ?_⟩
  show R (!decide (x.shown = x.shown))
  rw [decide_eq_true rfl]
  exact h
theorem sv_B {b : Bool} : Sv 300000 60 (eB b) := (Sv.bl (k := 0)).mono (by decide) (by decide)
theorem sv_O {W k : Nat} {α : Type} {e : α → PyData} {o : Option α} (h : ∀ a, o = some a → Sv W k (e a)) : Sv W k (eO e o) := by
  cases o with
  | none => exact (Sv.non (k := 0)).mono (Nat.zero_le _) (Nat.zero_le _)
  | some a => exact h a rfl
theorem rgZ_len {lo c : Int} {n : Nat} : (rgZ lo c n).length = n := by unfold rgZ; rw [List.length_map, List.length_range]
theorem rgZ_I (n : Nat) : rgZ 0 1 n = rngI n := by
  unfold rgZ rngI
  refine List.map_congr_left fun i _ => ?_
  rw [Int.zero_add, Int.mul_one]
theorem idx_nat {α : Type} {l : List α} {i : Nat} {a : α} {R : α → Prop} (h : l[i]? = some a) (r : R a) : idx l (i : Int) R := ⟨a, atI_nat h, r⟩
theorem idx_int {α : Type} {l : List α} {i : Int} {a : α} {R : α → Prop} (h0 : 0 ≤ i) (h : l[i.toNat]? = some a) (r : R a) : idx l i R := by
  obtain ⟨k, rfl⟩ : ∃ k : Nat, i = (k : Int) := ⟨i.toNat, by omega⟩
  exact idx_nat (by rw [Int.toNat_natCast] at h; exact h) r
theorem idx_last {α : Type} {l : List α} {R : α → Prop} (h : l ≠ []) (r : ∀ a, l.getLast? = some a → R a) : idx l (-1) R := by
  have hp : 0 < l.length := List.length_pos_iff.mpr h
  refine ⟨l[l.length - 1]'(by omega), ?_, r _ (by rw [List.getLast?_eq_getElem?, List.getElem?_eq_getElem (by omega)])⟩
  unfold atI
  have e : ixN l.length (-1) = some (l.length - 1) := by
    unfold ixN
    simp only [show ¬ (0 ≤ (-1 : Int)) by decide, if_false]
    rw [if_pos (by omega)]
    congr 1
    omega
  rw [e]
  show l[l.length - 1]? = _
  rw [List.getElem?_eq_getElem (by omega)]
end FF
namespace FF
open PySem PySem.Spec PyProof.Rows L2 Evl
theorem cnd_same {α : Type} [DecidableEq α] {x y : α} {A B : Prop} (e : x = y) (h : B) : cnd (!decide (x = y)) A B := by
  rw [decide_eq_true e]
  exact ⟨(fun z => nomatch z), fun _ => h⟩
theorem cnd_fa {A B : Prop} (h : B) : cnd false A B := cnd_f.mpr h
theorem cnd_tr {A B : Prop} (h : A) : cnd true A B := cnd_t.mpr h
theorem cnd_eqf {c : Bool} {A B : Prop} (e : c = false) (h : B) : cnd c A B := by subst e; exact cnd_f.mpr h
theorem cnd_eqt {c : Bool} {A B : Prop} (e : c = true) (h : A) : cnd c A B := by subst e; exact cnd_t.mpr h
end FF
namespace FF
open PySem PySem.Spec PyProof.Rows L2 Evl
theorem lc2C_of {α β γ : Type} {t : α → (Bool → Prop) → Prop} {mi : α → (List β → Prop) → Prop} {t1 : α → β → (Bool → Prop) → Prop} {f : α → β → (γ → Prop) → Prop} {R : List γ → Prop} (t' : α → Bool) (m' : α → List β) (t1' : α → β → Bool) (f' : α → β → γ) {n : Nat} :
    ∀ (l : List α) (acc : List γ), (∀ a ∈ l, ∀ R : Bool → Prop, R (t' a) → t a R) → (∀ a ∈ l, t' a = true → ∀ R : List β → Prop, R (m' a) → mi a R) → (∀ a ∈ l, t' a = true → (m' a).length ≤ n) → (∀ a ∈ l, t' a = true → ∀ b ∈ m' a, ∀ R : Bool → Prop, R (t1' a b) → t1 a b R) → (∀ a ∈ l, t' a = true → ∀ b ∈ m' a, t1' a b = true → ∀ R : γ → Prop, R (f' a b) → f a b R) →
    acc.length + n * l.length ≤ 100000 → R (acc ++ (l.filter t').flatMap fun a => ((m' a).filter (t1' a)).map (f' a)) → lc2C l acc t mi t1 f R
  | [], acc, _, _, _, _, _, _, h => by
    unfold lc2C
    simpa using h
  | a :: l, acc, ht, hm, hn, ht1, hf, hl, h => by
    unfold lc2C
    rw [List.length_cons, Nat.mul_succ] at hl
    have mem := List.mem_cons_self (a := a) (l := l)
    have up : ∀ {b}, b ∈ l → b ∈ a :: l := fun hb => List.mem_cons_of_mem _ hb
    refine ht a mem _ ⟨fun c => hm a mem c _ ?_, fun c => ?_⟩
    · refine lcC_go (t1' a) (f' a) (m' a) acc (ht1 a mem c) (hf a mem c) (by have := hn a mem c; omega) ?_
      have len : (((m' a).filter (t1' a)).map (f' a)).length ≤ n := by
        rw [List.length_map]
        exact Nat.le_trans (List.length_filter_le _ _) (hn a mem c)
      refine lc2C_of t' m' t1' f' l _ (fun b hb => ht b (up hb)) (fun b hb => hm b (up hb)) (fun b hb => hn b (up hb)) (fun b hb => ht1 b (up hb)) (fun b hb => hf b (up hb)) (by rw [List.length_append]; omega) ?_
      rw [List.filter_cons_of_pos c, List.flatMap_cons] at h
      rw [List.append_assoc]
      exact h
    · refine lc2C_of t' m' t1' f' l _ (fun b hb => ht b (up hb)) (fun b hb => hm b (up hb)) (fun b hb => hn b (up hb)) (fun b hb => ht1 b (up hb)) (fun b hb => hf b (up hb)) (by omega) ?_
      rw [List.filter_cons_of_neg (by rw [c]; exact Bool.false_ne_true)] at h
      exact h
end FF
namespace FF
open PySem PySem.Spec PyProof.Rows L2 Evl
theorem cutL_from {α : Type} (l : List α) (i : Nat) : cutL l (some (i : Int)) none = l.drop i := by
  unfold cutL
  rw [HT.sIx_nat, HT.sIx_none, List.take_of_length_le (by rw [List.length_drop]; exact Nat.le_refl _)]
  by_cases c : i ≤ l.length
  · rw [Nat.min_eq_left c]
  · rw [Nat.min_eq_right (by omega), List.drop_of_length_le (Nat.le_refl _), List.drop_of_length_le (by omega)]
theorem cutL_to {α : Type} (l : List α) (i : Nat) : cutL l none (some (i : Int)) = l.take i := by
  unfold cutL
  rw [HT.sIx_none, HT.sIx_nat, List.drop_zero, Nat.sub_zero]
  by_cases c : i ≤ l.length
  · rw [Nat.min_eq_left c]
  · rw [Nat.min_eq_right (by omega), List.take_of_length_le (Nat.le_refl _), List.take_of_length_le (by omega)]
end FF
set_option maxHeartbeats 4000000
namespace FF
open PySem PySem.Spec PyProof.Rows L2 Evl
/-! ### what the laws of sets that come want -/
theorem sv_lot {n : Nat} {B : List Int} (hn : n ≤ 10) (h : B ∈ pw n) : Sv 300000 60 (eT eI B) ∧ Sv 130 1 (eT eI B) := by
  obtain ⟨h1, h2, h3⟩ := pw_asc h
  have a : ∀ d ∈ B.map PyData.int, Sv 12 0 d := fun d hd => by
    obtain ⟨x, hx, rfl⟩ := List.mem_map.mp hd
    exact Sv.int12 (by have := h2 x hx; omega)
  have q := SvA.all a
  rw [List.length_map] at q
  have s : Sv 130 1 (eT eI B) := Sv.tup (q.mono (by omega) (Nat.le_refl _))
  exact ⟨s.mono (by decide) (by decide), s⟩
theorem pw_ne (n : Nat) : pw n ≠ [] := fun z => by
  have := pw_len n
  rw [z] at this
  exact absurd this.symm (Nat.ne_of_gt (Nat.two_pow_pos n))
theorem come_pw {fs ls : List (Int × Int)} {on B : List Int} (c : Come fs ls on B) : B ∈ pw fs.length := pw_mem c.asc c.inn
/-- a set of sets, as nested data -/
theorem inD_ints {B : List Int} {ks : List (List Int)} {R : Bool → Prop} (h : R (decide (B ∈ ks))) : inD (eT eI B) (ks.map (eT eI)) R := by
  refine ⟨shapedT_ints B, shapedLT ks, ?_⟩
  have e : ((ks.map (eT eI)).any fun z => PyData.eqv z (eT eI B)) = decide (B ∈ ks) := by
    rw [Bool.eq_iff_iff, decide_eq_true_eq, List.any_map, List.any_eq_true]
    constructor
    · rintro ⟨x, hx, he⟩
      have : decide (x = B) = true := by rw [← eqv_intsL]; exact he
      rw [← of_decide_eq_true this]; exact hx
    · intro hB
      refine ⟨B, hB, ?_⟩
      have : PyData.eqv (intsL B) (intsL B) = true := by rw [eqv_intsL]; exact decide_eq_true rfl
      exact this
  rw [e]
  exact h
/-- a value beside the bent ones is small -/
def Ok4 (x : PyData) : Prop := Sv 300000 60 x ∧ TL 4000 x
theorem ok4_bent {x : PyData} (q : BV 4 130 x) : Ok4 x := ⟨q.sv.mono (by decide) (by decide), fun xs e => Nat.le_trans (q.tl xs e) (by decide)⟩
theorem ok4_odd {d : PyData} (hd : Sv 3000 6 d) : Ok4 d := ⟨hd.mono (by decide) (by decide), fun xs e => by subst e; have := tup_len hd; omega⟩
theorem ok4_list {n : Nat} (hn : n ≤ 10) {B : List Int} (h : B ∈ pw n) : Ok4 (eL eI B) := ⟨(Sv.lst (sv_lot hn h).2.items).mono (by decide) (by decide), fun xs e => nomatch e⟩
theorem ok4_one {n : Nat} (hn : n ≤ 50) : Ok4 (eT eI [(n : Int)]) := ⟨(svSet (k := 0) (l := [(n : Int)]) (fun y hy => by rw [List.mem_singleton.mp hy]; omega) (by show 1 ≤ 100; decide)).mono (by decide) (by decide), fun xs e => by cases e; show 1 ≤ 4000; decide⟩
theorem bent_lot {n : Nat} (hn : n ≤ 10) {B : List Int} (h : B ∈ pw n) {j : Int} (h0 : 0 ≤ j) (h1 : j < 4) {R : PyData → Prop} (hR : ∀ d, BV 4 130 d → R d) : ∃ W, (eT eI B).canLay0 = true ∧ Sv W 10 (eT eI B) ∧ W ≤ 3000 ∧ 0 ≤ j ∧ j < 4 ∧ ∀ d', BV 4 W d' → R d' :=
  ⟨130, SeqAt.canLay_of_shaped (shapedT_ints B), (sv_lot hn h).2.mono (by decide) (by decide), by decide, h0, h1, hR⟩
theorem onOk0123 : OnOk [(1, 3), (1, 2), (2, 4), (0, 1)] [0, 1, 2, 3] := by
  refine ⟨by decide, fun l hl => ?_⟩
  simp at hl
  rcases hl with z | z | z | z <;> (subst z; decide)
end FF
namespace FF
open PySem PySem.Spec PyProof.Rows L2 Evl
theorem addB_len (B : List Int) (f : Int) : (addB B f).length = B.length + 1 := by
  unfold addB
  rw [(sortI_perm _).length_eq, List.length_append, List.length_singleton]
theorem come_count {fs ls : List (Int × Int)} {on B : List Int} (c : Come fs ls on B) : B.length ≤ fs.length := nodup_len (List.nodup_iff_pairwise_ne.mpr (c.asc.imp fun h => by omega)) c.inn
/-- whatever has come goes on to an end -/
theorem come_end {fs ls : List (Int × Int)} (g : WG fs ls) {on : List Int} (ho : OnOk ls on) : ∀ (n : Nat) {B : List Int}, Come fs ls on B → fs.length - B.length ≤ n → ∃ E, Come fs ls on E ∧ strD fs ls on E = [] ∧ ∀ x ∈ B, x ∈ E
  | 0, B, c, hn => by
    cases hs : strD fs ls on B with
    | nil => exact ⟨B, c, hs, fun _ h => h⟩
    | cons f r =>
      have c2 := come_step g ho c (f := f) (by rw [hs]; exact List.mem_cons_self ..)
      have := come_count c2
      rw [addB_len] at this
      omega
  | n + 1, B, c, hn => by
    cases hs : strD fs ls on B with
    | nil => exact ⟨B, c, hs, fun _ h => h⟩
    | cons f r =>
      have c2 := come_step g ho c (f := f) (by rw [hs]; exact List.mem_cons_self ..)
      obtain ⟨E, h1, h2, h3⟩ := come_end g ho n c2 (by rw [addB_len]; omega)
      exact ⟨E, h1, h2, fun x hx => h3 x (addB_mem.mpr (.inl hx))⟩
theorem end_exists {fs ls : List (Int × Int)} (g : WG fs ls) {on : List Int} (ho : OnOk ls on) : ∃ E, Come fs ls on E ∧ strD fs ls on E = [] :=
  let ⟨E, h1, h2, _⟩ := come_end g ho fs.length (come_nil fs ls on) (Nat.sub_le _ _); ⟨E, h1, h2⟩
/-- the law's own ends -/
structure Ends4 (fs ls : List (Int × Int)) (on : List Int) (es : List (List Int)) : Prop where
  nd : es.Nodup
  iff : ∀ B, B ∈ es ↔ Come fs ls on B ∧ strD fs ls on B = []
theorem Ends4.ne {fs ls : List (Int × Int)} {on : List Int} {es : List (List Int)} (h : Ends4 fs ls on es) (g : WG fs ls) (ho : OnOk ls on) : es ≠ [] := fun z => by
  obtain ⟨E, h1, h2⟩ := end_exists g ho
  have := (h.iff E).mpr ⟨h1, h2⟩
  rw [z] at this
  cases this
theorem Ends4.few {fs ls : List (Int × Int)} {on : List Int} {es : List (List Int)} (h : Ends4 fs ls on es) (hf : fs.length ≤ 10) : es.length ≤ 1024 := by
  have a := come_len h.nd fun B hB => ((h.iff B).mp hB).1
  have : 2 ^ fs.length ≤ 2 ^ 10 := Nat.pow_le_pow_right (by decide) hf
  exact Nat.le_trans a this
end FF
set_option maxHeartbeats 4000000
namespace FF
open PySem PySem.Spec PyProof.Rows L2 Evl
/-! ### the darkest end with told lamps lit -/
theorem sumBy_mono {P Q : Int → Bool} {v w : List (Int × Int)} (h : v.Sublist w) (hw : ∀ x ∈ w, 0 ≤ x.2) : sumBy v P ≤ sumBy w P := by
  induction h with
  | slnil => exact Int.le_refl _
  | @cons l1 l2 a s ih =>
    have := ih fun x hx => hw x (List.mem_cons_of_mem _ hx)
    have := hw a (List.mem_cons_self ..)
    rw [sumBy_cons]
    split <;> omega
  | @cons_cons l1 l2 a s ih =>
    have := ih fun x hx => hw x (List.mem_cons_of_mem _ hx)
    rw [sumBy_cons, sumBy_cons]
    omega
theorem filter_sub {α : Type} {p q : α → Bool} {l : List α} (h : ∀ x ∈ l, p x = true → q x = true) : (l.filter p).Sublist (l.filter q) := by
  induction l with
  | nil => exact List.Sublist.refl _
  | cons x l ih =>
    have := ih fun y hy => h y (List.mem_cons_of_mem _ hy)
    rw [List.filter_cons, List.filter_cons]
    cases c : p x with
    | true =>
      rw [h x (List.mem_cons_self ..) c]
      exact this.cons_cons x
    | false =>
      simp only [Bool.false_eq_true, if_false]
      split
      · exact this.cons x
      · exact this
theorem draw_nonneg {fs ls : List (Int × Int)} (g : WG fs ls) {on : List Int} (ho : OnOk ls on) : ∀ x ∈ drawsOf ls on, 0 ≤ x.2 := fun x hx => (hung_of g ho x hx).2.2.1
theorem litD_mem {ab : List Int} {ls : List (Int × Int)} {on bl : List Int} {l : Int} : l ∈ litD ab ls on bl ↔ l ∈ on ∧ deadF ab bl (lampAt ls l).1 = false := by
  unfold litD
  rw [List.mem_filter]
  simp
theorem deadF_iff {ab bl : List Int} {f : Int} : deadF ab bl f = true ↔ ∃ x, x ∈ way ab f ∧ x ∈ bl := by
  unfold deadF
  rw [List.any_eq_true]
  simp
theorem deadF_no {ab bl : List Int} {f : Int} : deadF ab bl f = false ↔ ∀ x ∈ way ab f, x ∉ bl := by
  rw [← Bool.not_eq_true, deadF_iff]
  exact ⟨fun h x h1 h2 => h ⟨x, h1, h2⟩, fun h ⟨x, h1, h2⟩ => h x h1 h2⟩
/-- what is lit with A is lit with B: no load is less with B -/
theorem load_mono {fs ls : List (Int × Int)} (g : WG fs ls) {on A B : List Int} (ho : OnOk ls on) (h : ∀ l ∈ on, deadF (fs.map (·.1)) A (lampAt ls l).1 = false → deadF (fs.map (·.1)) B (lampAt ls l).1 = false) (f : Int) :
    loadD (fs.map (·.1)) ls (litD (fs.map (·.1)) ls on A) f ≤ loadD (fs.map (·.1)) ls (litD (fs.map (·.1)) ls on B) f := by
  unfold loadD
  refine sumBy_mono (Q := fun _ => true) ?_ fun x hx => ?_
  · unfold drawsOf litD
    refine List.Sublist.map _ (filter_sub fun l hl c => ?_)
    rw [Bool.not_eq_true'] at c ⊢
    exact h l hl c
  · unfold drawsOf litD at hx
    obtain ⟨l, hl, rfl⟩ := List.mem_map.mp hx
    exact draw_nonneg g ho _ (List.mem_map.mpr ⟨l, (List.mem_filter.mp hl).1, rfl⟩)
theorem dead_nil {ab : List Int} {f : Int} : deadF ab [] f = false := deadF_no.mpr fun _ _ h => nomatch h
/-- what has blown was strained at first -/
theorem come_early {fs ls : List (Int × Int)} (g : WG fs ls) {on B : List Int} (ho : OnOk ls on) (c : Come fs ls on B) {f : Int} (hf : f ∈ B) : f ∈ strD fs ls on [] := by
  have hb := c.inn f hf
  have o := bar_none.mp c.bar f hf
  unfold overB at o
  have o := of_decide_eq_true o
  have := load_mono g (A := behD fs B f) (B := []) ho (fun l _ _ => dead_nil) f
  exact strD_iff.mpr ⟨hb, by omega⟩
def freeD (fs ls : List (Int × Int)) (on bright : List Int) : List Int := (strD fs ls on []).filter fun x => !decide (x ∈ bright.flatMap fun l => way (fs.map (·.1)) (lampAt ls l).1)
def topD (fs : List (Int × Int)) (ch : List Int) : List Int := ch.filter fun x => !(((way (fs.map (·.1)) x).drop 1).any fun y => decide (y ∈ ch))
theorem freeD_mem {fs ls : List (Int × Int)} {on bright : List Int} {x : Int} : x ∈ freeD fs ls on bright ↔ x ∈ strD fs ls on [] ∧ ∀ l ∈ bright, x ∉ way (fs.map (·.1)) (lampAt ls l).1 := by
  unfold freeD
  rw [List.mem_filter, Bool.not_eq_true', decide_eq_false_iff_not, List.mem_flatMap]
  exact ⟨fun ⟨a, b⟩ => ⟨a, fun l hl hx => b ⟨l, hl, hx⟩⟩, fun ⟨a, b⟩ => ⟨a, fun ⟨l, hl, hx⟩ => b l hl hx⟩⟩
theorem way_drop {ab : List Int} (wf : WF ab) {x : Int} (h0 : 0 ≤ x) (h1 : x < ab.length) {y : Int} : y ∈ (way ab x).drop 1 ↔ y ∈ way ab x ∧ y ≠ x := by
  have e := way_step wf h0 h1
  rw [e, List.drop_succ_cons, List.drop_zero, List.mem_cons]
  constructor
  · intro h
    refine ⟨.inr h, fun z => ?_⟩
    have := way_bound wf h
    have := (wf.at x h0).2
    omega
  · rintro ⟨h | h, n⟩
    · exact absurd h n
    · exact h
theorem topD_mem {fs : List (Int × Int)} (wf : WF (fs.map (·.1))) {ch : List Int} (hc : ∀ x ∈ ch, 0 ≤ x ∧ x < fs.length) {x : Int} : x ∈ topD fs ch ↔ x ∈ ch ∧ ∀ y ∈ way (fs.map (·.1)) x, y ≠ x → y ∉ ch := by
  unfold topD
  rw [List.mem_filter, Bool.not_eq_true', List.any_eq_false]
  constructor
  · rintro ⟨h1, h2⟩
    have hb := hc x h1
    refine ⟨h1, fun y hy hn hm => ?_⟩
    exact h2 y ((way_drop wf hb.1 (by rw [List.length_map]; exact hb.2)).mpr ⟨hy, hn⟩) (decide_eq_true hm)
  · rintro ⟨h1, h2⟩
    have hb := hc x h1
    refine ⟨h1, fun y hy hm => ?_⟩
    obtain ⟨k1, k2⟩ := (way_drop wf hb.1 (by rw [List.length_map]; exact hb.2)).mp hy
    exact h2 y k1 k2 (of_decide_eq_true hm)
/-- from anything that is chosen there is a topmost one above -/
theorem top_above {fs : List (Int × Int)} (wf : WF (fs.map (·.1))) {ch : List Int} (hc : ∀ x ∈ ch, 0 ≤ x ∧ x < fs.length) : ∀ (n : Nat) {x : Int}, x < (n : Int) → x ∈ ch → ∃ y ∈ way (fs.map (·.1)) x, y ∈ topD fs ch
  | 0, x, hn, hx => by have := hc x hx; omega
  | n + 1, x, hn, hx => by
    have hb := hc x hx
    by_cases c : ∃ y ∈ way (fs.map (·.1)) x, y ≠ x ∧ y ∈ ch
    · obtain ⟨y, h1, h2, h3⟩ := c
      have := way_bound wf h1
      obtain ⟨z, h4, h5⟩ := top_above wf hc n (x := y) (by omega) h3
      exact ⟨z, way_trans wf (by rw [List.length_map]; exact hb.2) h1 h4, h5⟩
    · exact ⟨x, way_self wf hb.1 (by rw [List.length_map]; exact hb.2), (topD_mem wf hc).mpr ⟨hx, fun y h1 h2 h3 => c ⟨y, h1, h2, h3⟩⟩⟩
def darkD (fs ls : List (Int × Int)) (on bright : List Int) : List Int := topD fs (freeD fs ls on bright)
section
variable {fs ls : List (Int × Int)} {on bright : List Int}
theorem free_in {x : Int} (h : x ∈ freeD fs ls on bright) : 0 ≤ x ∧ x < fs.length := (strD_iff.mp (freeD_mem.mp h).1).1
theorem str_asc (fs ls : List (Int × Int)) (on bl : List Int) : (strD fs ls on bl).Pairwise (· < ·) := by
  unfold strD
  refine List.Pairwise.filter _ ?_
  unfold rngI
  rw [List.pairwise_map]
  exact List.pairwise_lt_range.imp fun h => by omega
theorem darkD_asc (fs ls : List (Int × Int)) (on bright : List Int) : (darkD fs ls on bright).Pairwise (· < ·) := by
  unfold darkD topD freeD
  exact ((str_asc fs ls on []).filter _).filter _
theorem load_behNil (g : WG fs ls) (ho : OnOk ls on) {x : Int} (hx : x ∈ darkD fs ls on bright) : behD fs (darkD fs ls on bright) x = [] := by
  refine List.eq_nil_iff_forall_not_mem.mpr fun y hy => ?_
  obtain ⟨h1, h2, h3⟩ := behD_mem.mp hy
  have h1 := (topD_mem g.wf fun _ h => free_in h).mp h1
  have hx := (topD_mem g.wf fun _ h => free_in h).mp hx
  exact h1.2 x h3 h2.symm hx.1
theorem dark_come (g : WG fs ls) (ho : OnOk ls on) : Come fs ls on (darkD fs ls on bright) := by
  refine ⟨darkD_asc .., fun x hx => free_in ((topD_mem g.wf fun _ h => free_in h).mp hx).1, bar_none.mpr fun f hf => ?_⟩
  unfold overB
  rw [load_behNil g ho hf]
  exact decide_eq_true (strD_iff.mp (freeD_mem.mp ((topD_mem g.wf fun _ h => free_in h).mp hf).1).1).2
theorem dark_bright (g : WG fs ls) {l : Int} (hl : l ∈ bright) : deadF (fs.map (·.1)) (darkD fs ls on bright) (lampAt ls l).1 = false := deadF_no.mpr fun x hx hm =>
  (freeD_mem.mp ((topD_mem g.wf fun _ h => free_in h).mp hm).1).2 l hl hx
/-- what is lit with it is lit with whatever comes with the told lamps lit -/
theorem dark_least (g : WG fs ls) (ho : OnOk ls on) {E : List Int} (c : Come fs ls on E) (hb : ∀ l ∈ bright, deadF (fs.map (·.1)) E (lampAt ls l).1 = false) {l : Int} (hl : l ∈ on)
    (h : deadF (fs.map (·.1)) (darkD fs ls on bright) (lampAt ls l).1 = false) : deadF (fs.map (·.1)) E (lampAt ls l).1 = false := deadF_no.mpr fun x hx hE => by
  have hin := c.inn x hE
  have hf : x ∈ freeD fs ls on bright := freeD_mem.mpr ⟨come_early g ho c hE, fun b hb' hw => deadF_no.mp (hb b hb') x hw hE⟩
  obtain ⟨y, h1, h2⟩ := top_above g.wf (fun _ h => free_in h) fs.length (x := x) (by omega) hf
  have hlen : (lampAt ls l).1 < (fs.map (·.1)).length := by
    have hh := hung_of g ho (lampAt ls l) (List.mem_map.mpr ⟨l, hl, rfl⟩)
    rw [List.length_map]
    exact hh.2.1
  exact deadF_no.mp h y (way_trans g.wf hlen hx h1) h2
theorem dark_rest (g : WG fs ls) (ho : OnOk ls on) {E : List Int} (c : Come fs ls on E) (hr : strD fs ls on E = []) (hb : ∀ l ∈ bright, deadF (fs.map (·.1)) E (lampAt ls l).1 = false) : strD fs ls on (darkD fs ls on bright) = [] := by
  refine List.eq_nil_iff_forall_not_mem.mpr fun f hf => ?_
  obtain ⟨h1, h2⟩ := strD_iff.mp hf
  have := load_mono g (A := darkD fs ls on bright) (B := E) ho (fun l hl h => dark_least g ho c hb hl h) f
  have h3 : f ∈ strD fs ls on E := strD_iff.mpr ⟨h1, by omega⟩
  rw [hr] at h3
  cases h3
end
/-- shown -/
def shownD (fs ls : List (Int × Int)) (on bright dark : List Int) : Option (List Int) :=
  if (strD fs ls on (darkD fs ls on bright)).isEmpty && !(dark.any fun l => decide (l ∈ litD (fs.map (·.1)) ls on (darkD fs ls on bright))) then some (darkD fs ls on bright) else none
theorem shown_some {fs ls : List (Int × Int)} (g : WG fs ls) {on bright dark E : List Int} (ho : OnOk ls on) (h : shownD fs ls on bright dark = some E) :
    Come fs ls on E ∧ strD fs ls on E = [] ∧ (∀ l ∈ bright, l ∈ on → l ∈ litD (fs.map (·.1)) ls on E) ∧ ∀ l ∈ dark, l ∉ litD (fs.map (·.1)) ls on E := by
  unfold shownD at h
  split at h
  · next c =>
    cases h
    rw [Bool.and_eq_true, List.isEmpty_iff, Bool.not_eq_true', List.any_eq_false] at c
    exact ⟨dark_come g ho, c.1, fun l hl hon => litD_mem.mpr ⟨hon, dark_bright g hl⟩, fun l hl hm => c.2 l hl (decide_eq_true hm)⟩
  · cases h
theorem shown_none {fs ls : List (Int × Int)} (g : WG fs ls) {on bright dark : List Int} (ho : OnOk ls on) (hbo : ∀ l ∈ bright, l ∈ on) (h : shownD fs ls on bright dark = none) {E : List Int} (c : Come fs ls on E) (hr : strD fs ls on E = [])
    (hb : ∀ l ∈ bright, l ∈ litD (fs.map (·.1)) ls on E) (hd : ∀ l ∈ dark, l ∉ litD (fs.map (·.1)) ls on E) : False := by
  unfold shownD at h
  split at h
  · cases h
  · next n =>
    refine n ?_
    have hb' : ∀ l ∈ bright, deadF (fs.map (·.1)) E (lampAt ls l).1 = false := fun l hl => (litD_mem.mp (hb l hl)).2
    rw [Bool.and_eq_true, List.isEmpty_iff, Bool.not_eq_true', List.any_eq_false]
    refine ⟨dark_rest g ho c hr hb', fun l hl hm => ?_⟩
    obtain ⟨h1, h2⟩ := litD_mem.mp (of_decide_eq_true hm)
    exact hd l hl (litD_mem.mpr ⟨h1, dark_least g ho c hb' h1 h2⟩)
end FF
set_option maxHeartbeats 4000000
namespace FF
open PySem PySem.Spec PyProof.Rows L2 Evl
/-! ### dicts with int keys: mathematics -/
section
variable {β : Type}
theorem getM_map {k : Int} {b : β} (j : Int) : ∀ l : List (Int × β), getM (l.map fun q => if q.1 = k then (q.1, b) else q) j = (getM l j).map fun x => if j = k then b else x
  | [] => rfl
  | p :: l => by
    rw [List.map_cons]
    by_cases c : p.1 = k
    · rw [if_pos c]
      by_cases d : p.1 = j
      · unfold getM
        rw [if_pos (show (p.1, b).1 = j from d), if_pos d, Option.map_some, if_pos (d.symm.trans c)]
      · unfold getM
        rw [if_neg (show ¬ (p.1, b).1 = j from d), if_neg d, getM_map j l]
    · rw [if_neg c]
      by_cases d : p.1 = j
      · unfold getM
        rw [if_pos d, if_pos d, Option.map_some, if_neg (fun z => c (d.trans z))]
      · unfold getM
        rw [if_neg d, if_neg d, getM_map j l]
theorem getM_put (k : Int) (b : β) (j : Int) : ∀ l : List (Int × β), getM (putM l k b) j = if j = k then some b else getM l j
  | [] => by
    unfold putM getM
    by_cases c : k = j
    · rw [if_pos c, if_pos c.symm]
    · rw [if_neg c, if_neg fun z => c z.symm]; rfl
  | p :: l => by
    by_cases c : p.1 = k
    · have e : putM (p :: l) k b = (p.1, b) :: l.map (fun q => if q.1 = k then (q.1, b) else q) := by unfold putM; rw [if_pos c]
      rw [e]
      unfold getM
      by_cases d : p.1 = j
      · rw [if_pos (show (p.1, b).1 = j from d), if_pos (d.symm.trans c)]
      · rw [if_neg (show ¬ (p.1, b).1 = j from d), if_neg (fun z => d (c.trans z.symm)), if_neg d, getM_map]
        have : ¬ j = k := fun z => d (c.trans z.symm)
        cases getM l j with
        | none => rfl
        | some x => rw [Option.map_some, if_neg this]
    · have e : putM (p :: l) k b = p :: putM l k b := by
        show (if _ then _ else _) = _
        rw [if_neg c]
      rw [e]
      unfold getM
      by_cases d : p.1 = j
      · rw [if_pos d, if_neg (fun z => c (d.trans z)), if_pos d]
      · rw [if_neg d, getM_put k b j l, if_neg d]
theorem getM_mem {l : List (Int × β)} {k : Int} : (getM l k).isSome = true ↔ k ∈ l.map (·.1) := by
  induction l with
  | nil => simp [getM]
  | cons p l ih =>
    unfold getM
    by_cases c : p.1 = k
    · rw [if_pos c, List.map_cons, ← c]; simp
    · rw [if_neg c, ih, List.map_cons, List.mem_cons]
      constructor
      · exact .inr
      · rintro (z | z)
        · exact absurd z.symm c
        · exact z
theorem getM_of_mem {l : List (Int × β)} {k : Int} (h : k ∈ l.map (·.1)) : ∃ b, getM l k = some b := Option.isSome_iff_exists.mp (getM_mem.mpr h)
theorem getM_none {l : List (Int × β)} {k : Int} (h : k ∉ l.map (·.1)) : getM l k = none := by
  cases c : getM l k with
  | none => rfl
  | some b => exact absurd (getM_mem.mp (by rw [c]; rfl)) h
theorem keys_put (k : Int) (b : β) : ∀ l : List (Int × β), (putM l k b).map (·.1) = if k ∈ l.map (·.1) then l.map (·.1) else l.map (·.1) ++ [k]
  | [] => by simp [putM]
  | p :: l => by
    have mm : ∀ m : List (Int × β), (m.map fun q => if q.1 = k then (q.1, b) else q).map (·.1) = m.map (·.1) := fun m => by
      rw [List.map_map]
      refine List.map_congr_left fun q _ => ?_
      show (if q.1 = k then (q.1, b) else q).1 = q.1
      by_cases c : q.1 = k
      · rw [if_pos c]
      · rw [if_neg c]
    by_cases c : p.1 = k
    · unfold putM
      rw [if_pos c, List.map_cons, mm, List.map_cons, if_pos (by rw [← c]; exact List.mem_cons_self ..)]
    · have e : putM (p :: l) k b = p :: putM l k b := by
        show (if _ then _ else _) = _
        rw [if_neg c]
      rw [e, List.map_cons, keys_put k b l, List.map_cons]
      by_cases d : k ∈ l.map (·.1)
      · rw [if_pos d, if_pos (List.mem_cons_of_mem _ d)]
      · rw [if_neg d, if_neg (fun z => (List.mem_cons.mp z).elim (fun q => c q.symm) d), List.cons_append]
theorem putM_len (l : List (Int × β)) (k : Int) (b : β) : (putM l k b).length ≤ l.length + 1 := by
  have h := congrArg List.length (keys_put k b l)
  rw [List.length_map] at h
  rw [h]
  split
  · rw [List.length_map]; omega
  · rw [List.length_append, List.length_map]; exact Nat.le_refl _
theorem keys_nodup {l : List (Int × β)} (k : Int) (b : β) (h : (l.map (·.1)).Nodup) : ((putM l k b).map (·.1)).Nodup := by
  rw [keys_put]
  by_cases c : k ∈ l.map (·.1)
  · rw [if_pos c]; exact h
  · rw [if_neg c]
    refine List.nodup_append.mpr ⟨h, (by simp), fun a ha x hx z => ?_⟩
    rw [List.mem_singleton.mp hx] at z
    rw [z] at ha
    exact c ha
theorem mem_keys_put {l : List (Int × β)} {k j : Int} {b : β} : j ∈ (putM l k b).map (·.1) ↔ j = k ∨ j ∈ l.map (·.1) := by
  rw [keys_put]
  by_cases c : k ∈ l.map (·.1)
  · rw [if_pos c]
    exact ⟨.inr, fun z => z.elim (fun e => by rw [e]; exact c) id⟩
  · rw [if_neg c, List.mem_append, List.mem_singleton]
    exact ⟨fun z => z.symm, fun z => z.symm⟩
theorem mem_getM {l : List (Int × β)} (nd : (l.map (·.1)).Nodup) {p : Int × β} (h : p ∈ l) : getM l p.1 = some p.2 := by
  induction l with
  | nil => cases h
  | cons q l ih =>
    rw [List.map_cons, List.nodup_cons] at nd
    rcases List.mem_cons.mp h with e | e
    · subst e
      unfold getM
      rw [if_pos rfl]
    · have : ¬ q.1 = p.1 := fun z => nd.1 (by rw [z]; exact List.mem_map_of_mem e)
      unfold getM
      rw [if_neg this]
      exact ih nd.2 e
theorem getM_in {l : List (Int × β)} {k : Int} {b : β} (h : getM l k = some b) : (k, b) ∈ l := by
  induction l with
  | nil => cases h
  | cons q l ih =>
    unfold getM at h
    by_cases c : q.1 = k
    · rw [if_pos c] at h
      cases h
      rw [← c]
      exact List.mem_cons_self ..
    · rw [if_neg c] at h
      exact List.mem_cons_of_mem _ (ih h)
theorem atM_of {l : List (Int × β)} {k : Int} {b : β} {R : β → Prop} (h : getM l k = some b) (r : R b) : atM l k R := ⟨b, h, r⟩
end
/-- two lists without twice, ascending, of the same items -/
theorem asc_ext {l m : List Int} (h1 : l.Pairwise (· < ·)) (h2 : m.Pairwise (· < ·)) (h : ∀ x, x ∈ l ↔ x ∈ m) : l = m := by
  have nd1 : l.Nodup := List.nodup_iff_pairwise_ne.mpr (h1.imp fun h => by omega)
  have nd2 : m.Nodup := List.nodup_iff_pairwise_ne.mpr (h2.imp fun h => by omega)
  exact sorted_unique ((List.perm_ext_iff_of_nodup nd1 nd2).mpr h) (h1.imp fun h => by omega) (h2.imp fun h => by omega)
theorem sortI_asc {l : List Int} (nd : l.Nodup) : (sortI l).Pairwise (· < ·) := by
  have a := sortI_sorted l
  have b : (sortI l).Nodup := (sortI_perm l).nodup_iff.mpr nd
  have c := List.nodup_iff_pairwise_ne.mp b
  exact (a.and c).imp fun h => by omega
theorem sortI_eq {l m : List Int} (nd : l.Nodup) (h2 : m.Pairwise (· < ·)) (h : ∀ x, x ∈ l ↔ x ∈ m) : sortI l = m :=
  asc_ext (sortI_asc nd) h2 fun x => by rw [(sortI_perm l).mem_iff]; exact h x
theorem mem_sortI {l : List Int} {x : Int} : x ∈ sortI l ↔ x ∈ l := (sortI_perm l).mem_iff
end FF
set_option maxHeartbeats 4000000
namespace FF
open PySem PySem.Spec PyProof.Rows L2 Evl
/-! ### stories: mathematics -/
abbrev Deed := Option (Bool × Int)
def wordS (b : Bool) : Str := if b then "on" else "off"
def eDeed : Deed → PyData
  | none => .tuple [.str "pause"]
  | some (b, l) => .tuple [.str (wordS b), .int l]
def DeedOk (nl : Nat) : Deed → Prop
  | none => True
  | some p => 0 ≤ p.2 ∧ p.2 < nl
structure StoryOk (nl : Nat) (s : List Deed) : Prop where
  len : s.length ≤ 41
  ok : ∀ d ∈ s, DeedOk nl d
def stepOn (f : Int → Bool) : Deed → Int → Bool
  | none, l => f l
  | some (b, k), l => if l = k then b else f l
def onF (s : List Deed) : Int → Bool := s.foldl stepOn (fun _ => false)
def onD (nl : Nat) (s : List Deed) : List Int := (rngI nl).filter (onF s)
theorem onF_app (s : List Deed) (d : Deed) : onF (s ++ [d]) = stepOn (onF s) d := by
  unfold onF
  rw [List.foldl_append]
  rfl
theorem onD_ok {ls : List (Int × Int)} (hl : ls.length ≤ 1000) (s : List Deed) : OnOk ls (onD ls.length s) := by
  refine ⟨?_, fun l h => ?_⟩
  · refine Nat.le_trans (List.length_filter_le _ _) ?_
    rw [rngI_len]; exact hl
  · exact rngI_mem.mp (List.mem_filter.mp h).1
theorem onD_mem {nl : Nat} {s : List Deed} {l : Int} : l ∈ onD nl s ↔ (0 ≤ l ∧ l < nl) ∧ onF s l = true := by
  unfold onD
  rw [List.mem_filter, rngI_mem]
theorem rngI_asc (n : Nat) : (rngI n).Pairwise (· < ·) := by
  unfold rngI
  rw [List.pairwise_map]
  exact List.pairwise_lt_range.imp fun h => by omega
theorem onD_asc (nl : Nat) (s : List Deed) : (onD nl s).Pairwise (· < ·) := (rngI_asc nl).filter _
theorem StoryOk.take {nl : Nat} {s : List Deed} (h : StoryOk nl s) (n : Nat) : StoryOk nl (s.take n) := ⟨by rw [List.length_take]; have := h.len; omega, fun d hd => h.ok d (List.mem_of_mem_take hd)⟩
theorem sv_word (b : Bool) {k : Nat} : Sv 40 k (.str (wordS b)) := by
  cases b
  · exact Sv.str (by decide) (by decide)
  · exact Sv.str (by decide) (by decide)
theorem sv_deed {nl : Nat} (hn : nl ≤ 100) {d : Deed} (h : DeedOk nl d) : Sv 54 1 (eDeed d) := by
  match d, h with
  | none, _ => exact (Sv.tup (SvA.cons (Sv.str (k := 0) (x := "pause") (by decide) (by decide)) (SvA.nil (k := 0)))).mono (by decide) (by decide)
  | some (b, l), h =>
    have h1 : 0 ≤ l := h.1
    have h2 : l < nl := h.2
    exact (Sv.tup (SvA.cons (sv_word b (k := 0)) (SvA.cons (Sv.int12 (k := 0) (i := l) (by omega)) (SvA.nil (k := 0))))).mono (by decide) (by decide)
theorem sv_story {nl : Nat} (hn : nl ≤ 100) {s : List Deed} (h : StoryOk nl s) : Sv 2300 2 (eT eD (s.map eDeed)) := by
  have a : ∀ d ∈ s.map eDeed, Sv 54 1 d := fun d hd => by
    obtain ⟨x, hx, rfl⟩ := List.mem_map.mp hd
    exact sv_deed hn (h.ok x hx)
  have q := SvA.all a
  rw [List.length_map] at q
  have := h.len
  have e : (s.map eDeed).map eD = s.map eDeed := List.map_id' _
  show Sv 2300 2 (.tuple ((s.map eDeed).map eD))
  rw [e]
  exact Sv.tup (q.mono (by omega) (Nat.le_refl _))
theorem lay_story {nl : Nat} {s : List Deed} : (eT eD (s.map eDeed)).canLay0 = true := by
  have a : ∀ s : List Deed, PyData.canLayAll0 (s.map eDeed) = true := fun s => by
    induction s with
    | nil => rfl
    | cons d s ih =>
      rw [List.map_cons]
      simp only [PyData.canLayAll0, ih, Bool.and_true]
      cases d with
      | none => show PyData.canLay0 (.tuple [.str "pause"]) = true; decide +kernel
      | some p =>
        obtain ⟨b, l⟩ := p
        cases b
        · show PyData.canLay0 (.tuple [.str "off", .int l]) = true
          simp only [PyData.canLay0, PyData.canLayAll0, Bool.and_true]; decide +kernel
        · show PyData.canLay0 (.tuple [.str "on", .int l]) = true
          simp only [PyData.canLay0, PyData.canLayAll0, Bool.and_true]; decide +kernel
  have e : (s.map eDeed).map eD = s.map eDeed := List.map_id' _
  show PyData.canLay0 (.tuple ((s.map eDeed).map eD)) = true
  rw [e]
  exact a s
theorem enumZ_rng {β : Type} (f : Int → β) (n : Nat) : ∀ (m i : Nat), enumZ i ((List.range' i m).map fun k => f (k : Nat)) = (List.range' i m).map fun (k : Nat) => ((k : Int), f k)
  | 0, _ => rfl
  | m + 1, i => by
    rw [List.range'_succ, List.map_cons, List.map_cons]
    show ((i : Int), f i) :: enumZ (i + 1) _ = _
    rw [enumZ_rng f n m (i + 1)]
theorem enumZ_rngI {β : Type} (f : Int → β) (n : Nat) : enumZ 0 ((rngI n).map f) = (rngI n).map fun k => (k, f k) := by
  have := enumZ_rng f n n 0
  unfold rngI
  rw [List.map_map, List.map_map, List.range_eq_range']
  exact this
theorem map_rngI_set {β : Type} (f : Int → β) (n : Nat) (k : Int) (b : β) (h0 : 0 ≤ k) (h1 : k < n) : ((rngI n).map f).set k.toNat b = (rngI n).map fun l => if l = k then b else f l := by
  refine List.ext_getElem? fun i => ?_
  by_cases c : i < n
  · rw [List.getElem?_map, rngI_get c]
    by_cases d : k.toNat = i
    · subst d
      rw [List.getElem?_set_self (by rw [List.length_map, rngI_len]; exact c)]
      show some b = some (if _ then _ else _)
      rw [if_pos (by omega)]
    · rw [List.getElem?_set_ne d, List.getElem?_map, rngI_get c]
      show some (f i) = some (if _ then _ else _)
      rw [if_neg (by omega)]
  · rw [List.getElem?_eq_none (by rw [List.length_set, List.length_map, rngI_len]; omega), List.getElem?_eq_none (by rw [List.length_map, rngI_len]; omega)]
theorem ixN_nat {n : Nat} {k : Int} (h0 : 0 ≤ k) (h1 : k < n) : ixN n k = some k.toNat := by
  unfold ixN
  rw [if_pos h0, if_pos (by omega)]
theorem take_succ_of {α : Type} {l : List α} {i : Nat} {a : α} (h : l[i]? = some a) : l.take (i + 1) = l.take i ++ [a] := by rw [List.take_add_one, h]; rfl
end FF
set_option maxHeartbeats 4000000
namespace FF
open PySem PySem.Spec PyProof.Rows L2 Evl
/-! ### earliest moments: the program's own reckoning -/
def onsD (nl : Nat) (s : List Deed) : List (List Int) := (List.range s.length).map fun m => onD nl (s.take (m + 1))
def mx0 (l : List Int) : Int := l.foldr max 0
theorem mx0_ge : ∀ {l : List Int} {x : Int}, x ∈ l → x ≤ mx0 l
  | y :: l, x, h => by
    show x ≤ max y (mx0 l)
    rcases List.mem_cons.mp h with e | e
    · rw [e]; exact Int.le_max_left _ _
    · exact Int.le_trans (mx0_ge e) (Int.le_max_right _ _)
theorem mx0_nonneg : ∀ l : List Int, 0 ≤ mx0 l
  | [] => Int.le_refl _
  | y :: l => Int.le_trans (mx0_nonneg l) (Int.le_max_right _ _)
theorem mx0_le {b : Int} (hb : 0 ≤ b) : ∀ {l : List Int}, (∀ x ∈ l, x ≤ b) → mx0 l ≤ b
  | [], _ => hb
  | y :: l, h => Int.max_le.mpr ⟨h y (List.mem_cons_self ..), mx0_le hb fun x hx => h x (List.mem_cons_of_mem _ hx)⟩
theorem mx0_mem : ∀ {l : List Int}, mx0 l = 0 ∨ mx0 l ∈ l
  | [] => .inl rfl
  | y :: l => by
    show max y (mx0 l) = 0 ∨ max y (mx0 l) ∈ y :: l
    by_cases c : mx0 l ≤ y
    · rw [Int.max_eq_left c]; exact .inr (List.mem_cons_self ..)
    · rw [Int.max_eq_right (by omega)]
      rcases mx0_mem (l := l) with e | e
      · exact .inl e
      · exact .inr (List.mem_cons_of_mem _ e)
theorem maxOr_of {l : List Int} (h : ∀ x ∈ l, 0 ≤ x) {R : Int → Prop} (hR : R (mx0 l)) : maxOrC l 0 R := by
  refine ⟨fun e => by rw [e] at hR; exact hR, fun m hm hy => ?_⟩
  have a : m ≤ mx0 l := mx0_ge hm
  have b : mx0 l ≤ m := mx0_le (h m hm) hy
  rw [show m = mx0 l by omega]
  exact hR
abbrev Er := List (Int × Int)
def startD (fs : List (Int × Int)) (E : Er) (f : Int) : Int := mx0 ((E.filter fun x => decide (x.1 ∈ behindD fs f)).map (·.2))
def hotAt (fs ls : List (Int × Int)) (ons : List (List Int)) (B : List Int) (f m : Int) : Bool := decide (markAt fs f < loadD (fs.map (·.1)) ls (litD (fs.map (·.1)) ls (ons.getD m.toNat []) B) f)
def firstD (fs ls : List (Int × Int)) (ons : List (List Int)) (E : Er) (f : Int) : Option Int := (rngI ons.length).find? fun m => decide (startD fs E f ≤ m) && hotAt fs ls ons (E.map (·.1)) f m
def momR (fs ls : List (Int × Int)) (ons : List (List Int)) : Er → List Int → Option Er
  | E, [] => some E
  | E, f :: r => match firstD fs ls ons E f with
    | none => none
    | some m => momR fs ls ons (E ++ [(f, m)]) r
def momE (fs ls : List (Int × Int)) (ons : List (List Int)) (bl : List Int) : Option Er := momR fs ls ons [] bl.reverse
def goneAt (E : Er) (m : Int) : List Int := (E.filter fun x => decide (x.2 ≤ m)).map (·.1)
def pauseOk (fs ls : List (Int × Int)) (s : List Deed) (ons : List (List Int)) (E : Er) (m : Int) : Bool := match s[m.toNat]? with
  | some none => (strD fs ls (ons.getD m.toNat []) (goneAt E m)).isEmpty
  | _ => true
def pausesD (fs ls : List (Int × Int)) (s : List Deed) (ons : List (List Int)) (E : Er) : Bool := (rngI s.length).all (pauseOk fs ls s ons E)
def momD (fs ls : List (Int × Int)) (s : List Deed) (bl : List Int) : Option (List Int) := match momE fs ls (onsD ls.length s) bl with
  | none => none
  | some E => if pausesD fs ls s (onsD ls.length s) E then some (bl.map fun f => (getM E f).getD 0) else none
theorem onsD_len {nl : Nat} {s : List Deed} : (onsD nl s).length = s.length := by unfold onsD; rw [List.length_map, List.length_range]
theorem onsD_get {nl : Nat} {s : List Deed} {m : Nat} (h : m < s.length) : (onsD nl s)[m]? = some (onD nl (s.take (m + 1))) := by
  unfold onsD
  rw [List.getElem?_map, List.getElem?_range h]
  rfl
theorem onsD_at {nl : Nat} {s : List Deed} {m : Int} (h0 : 0 ≤ m) (h : m < s.length) : (onsD nl s).getD m.toNat [] = onD nl (s.take (m.toNat + 1)) := by
  rw [List.getD_eq_getElem?_getD, onsD_get (by omega)]
  rfl
theorem first_range {fs ls : List (Int × Int)} {ons : List (List Int)} {E : Er} {f m : Int} (h : firstD fs ls ons E f = some m) : 0 ≤ m ∧ m < ons.length ∧ startD fs E f ≤ m ∧ hotAt fs ls ons (E.map (·.1)) f m = true := by
  have a := rngI_mem.mp (List.mem_of_find?_eq_some h)
  have b := List.find?_some h
  rw [Bool.and_eq_true, decide_eq_true_eq] at b
  exact ⟨a.1, a.2, b.1, b.2⟩
theorem putM_app {β : Type} {l : List (Int × β)} {k : Int} {b : β} (h : k ∉ l.map (·.1)) : putM l k b = l ++ [(k, b)] := by
  rw [putM_eq, if_neg]
  intro z
  obtain ⟨p, hp, e⟩ := List.any_eq_true.mp z
  exact h (List.mem_map.mpr ⟨p, hp, of_decide_eq_true e⟩)
theorem mom_keys {fs ls : List (Int × Int)} {ons : List (List Int)} : ∀ {l : List Int} {E E' : Er}, momR fs ls ons E l = some E' → E'.map (·.1) = E.map (·.1) ++ l
  | [], E, E', h => by cases h; rw [List.append_nil]
  | f :: l, E, E', h => by
    unfold momR at h
    cases c : firstD fs ls ons E f with
    | none => rw [c] at h; cases h
    | some m =>
      rw [c] at h
      rw [mom_keys h, List.map_append, List.append_assoc]
      rfl
theorem mom_vals {fs ls : List (Int × Int)} {ons : List (List Int)} : ∀ {l : List Int} {E E' : Er}, (∀ p ∈ E, 0 ≤ p.2 ∧ p.2 < ons.length) → momR fs ls ons E l = some E' → ∀ p ∈ E', 0 ≤ p.2 ∧ p.2 < ons.length
  | [], E, E', hE, h => by cases h; exact hE
  | f :: l, E, E', hE, h => by
    unfold momR at h
    cases c : firstD fs ls ons E f with
    | none => rw [c] at h; cases h
    | some m =>
      rw [c] at h
      refine mom_vals (fun p hp => ?_) h
      rcases List.mem_append.mp hp with z | z
      · exact hE p z
      · rw [List.mem_singleton.mp z]
        obtain ⟨a, b, _⟩ := first_range c
        exact ⟨a, b⟩
theorem momR_app {fs ls : List (Int × Int)} {ons : List (List Int)} : ∀ (l m : List Int) (E : Er), momR fs ls ons E (l ++ m) = (momR fs ls ons E l).bind fun E' => momR fs ls ons E' m
  | [], m, E => rfl
  | f :: l, m, E => by
    rw [List.cons_append]
    show (match firstD fs ls ons E f with
      | none => none
      | some x => momR fs ls ons (E ++ [(f, x)]) (l ++ m)) = (match firstD fs ls ons E f with
      | none => none
      | some x => momR fs ls ons (E ++ [(f, x)]) l).bind fun E' => momR fs ls ons E' m
    cases firstD fs ls ons E f with
    | none => rfl
    | some x => exact momR_app l m _
theorem momE_nil {fs ls : List (Int × Int)} {ons : List (List Int)} : momE fs ls ons [] = some [] := rfl
theorem momE_cons {fs ls : List (Int × Int)} {ons : List (List Int)} (f : Int) (r : List Int) : momE fs ls ons (f :: r) = (momE fs ls ons r).bind fun E => (firstD fs ls ons E f).map fun m => E ++ [(f, m)] := by
  unfold momE
  rw [List.reverse_cons, momR_app]
  congr 1
  funext E
  unfold momR
  cases firstD fs ls ons E f with
  | none => rfl
  | some m => rfl
end FF
set_option maxHeartbeats 4000000
namespace FF
open PySem PySem.Spec PyProof.Rows L2 Evl
/-! ### tales -/
/-- fuses told: in range, no one twice -/
structure FusesOk (n : Nat) (bl : List Int) : Prop where
  nd : bl.Nodup
  inn : ∀ x ∈ bl, 0 ≤ x ∧ x < n
theorem FusesOk.len {n : Nat} {bl : List Int} (h : FusesOk n bl) : bl.length ≤ n := nodup_len h.nd h.inn
theorem FusesOk.nil {n : Nat} : FusesOk n [] := ⟨List.nodup_nil, fun x h => nomatch h⟩
theorem FusesOk.snoc {fs ls : List (Int × Int)} (g : WG fs ls) {on bl : List Int} {x : Int} (h : FusesOk fs.length bl) (hx : x ∈ strD fs ls on bl) : FusesOk fs.length (bl ++ [x]) := by
  refine ⟨?_, fun y hy => ?_⟩
  · rw [List.nodup_append]
    refine ⟨h.nd, List.nodup_cons.mpr ⟨List.not_mem_nil, List.nodup_nil⟩, fun a ha b hb e => ?_⟩
    rw [List.mem_singleton.mp hb] at e
    exact str_not_blown g hx (e ▸ ha)
  · rcases List.mem_append.mp hy with z | z
    · exact h.inn y z
    · rw [List.mem_singleton.mp z]; exact strD_mem hx
/-- each is strained when those blown, and those ahead of it, are blown -/
def folB (fs ls : List (Int × Int)) (on bl l : List Int) : Bool := (List.range l.length).all fun i => match l[i]? with
  | some x => decide (x ∈ strD fs ls on (bl ++ l.take i))
  | none => true
theorem fol_at {fs ls : List (Int × Int)} {on bl l : List Int} (h : folB fs ls on bl l = true) {i : Nat} {x : Int} (hx : l[i]? = some x) : x ∈ strD fs ls on (bl ++ l.take i) := by
  have hi := (List.getElem?_eq_some_iff.mp hx).1
  have q := List.all_eq_true.mp h i (List.mem_range.mpr hi)
  rw [hx] at q
  exact of_decide_eq_true q
theorem fol_of {fs ls : List (Int × Int)} {on bl l : List Int} (h : ∀ (i : Nat) (x : Int), l[i]? = some x → x ∈ strD fs ls on (bl ++ l.take i)) : folB fs ls on bl l = true := List.all_eq_true.mpr fun i hi => by
  rw [List.getElem?_eq_getElem (List.mem_range.mp hi)]
  exact decide_eq_true (h i _ (List.getElem?_eq_getElem (List.mem_range.mp hi)))
theorem fol_nil {fs ls : List (Int × Int)} {on bl : List Int} : folB fs ls on bl [] = true := rfl
theorem fol_take {fs ls : List (Int × Int)} {on bl l : List Int} (h : folB fs ls on bl l = true) (n : Nat) : folB fs ls on bl (l.take n) = true := fol_of fun i x hx => by
  have hi := (List.getElem?_eq_some_iff.mp hx).1
  rw [List.length_take] at hi
  rw [List.getElem?_take_of_lt (by omega)] at hx
  rw [List.take_take, Nat.min_eq_left (by omega)]
  exact fol_at h hx
theorem fol_snoc {fs ls : List (Int × Int)} {on bl l : List Int} {x : Int} : folB fs ls on bl (l ++ [x]) = true ↔ folB fs ls on bl l = true ∧ x ∈ strD fs ls on (bl ++ l) := by
  constructor
  · intro h
    refine ⟨?_, ?_⟩
    · have := fol_take h l.length
      rw [List.take_left] at this
      exact this
    · have := fol_at h (i := l.length) (x := x) (by rw [List.getElem?_append_right (Nat.le_refl _), Nat.sub_self]; rfl)
      rw [List.take_left] at this
      exact this
  · intro h
    refine fol_of fun i y hy => ?_
    by_cases c : i < l.length
    · rw [List.getElem?_append_left c] at hy
      rw [List.take_append_of_le_length (by omega)]
      exact fol_at h.1 hy
    · have hi := (List.getElem?_eq_some_iff.mp hy).1
      rw [List.length_append, List.length_singleton] at hi
      have e : i = l.length := by omega
      subst e
      rw [List.getElem?_append_right (Nat.le_refl _), Nat.sub_self] at hy
      have : x = y := Option.some.inj hy
      subst this
      rw [List.take_left]
      exact h.2
theorem fol_ok {fs ls : List (Int × Int)} (g : WG fs ls) {on bl : List Int} (hb : FusesOk fs.length bl) : ∀ (n : Nat) {l : List Int}, l.length = n → folB fs ls on bl l = true → FusesOk fs.length (bl ++ l)
  | 0, l, e, h => by
    have : l = [] := List.length_eq_zero_iff.mp e
    subst this
    rw [List.append_nil]
    exact hb
  | n + 1, l, e, h => by
    have hl : l ≠ [] := fun z => by rw [z] at e; cases e
    have el : l = l.dropLast ++ [l.getLast hl] := (List.dropLast_concat_getLast hl).symm
    rw [el] at h ⊢
    have h2 := fol_snoc.mp h
    rw [← List.append_assoc]
    exact (fol_ok g hb n (by rw [List.length_dropLast]; omega) h2.1).snoc g h2.2
theorem fol_unlike {fs ls : List (Int × Int)} (g : WG fs ls) {on bl l : List Int} (hb : FusesOk fs.length bl) (h : folB fs ls on bl l = true) : unlikeB fs.length (intsT l) = true := by
  have ok := fol_ok g hb l.length rfl h
  have nd := (List.nodup_append.mp ok.nd).2.1
  have inn : ∀ x ∈ l, 0 ≤ x ∧ x ≤ (fs.length : Int) - 1 := fun x hx => by have := ok.inn x (List.mem_append_right _ hx); omega
  have len := nodup_len (n := fs.length) nd fun x hx => by have := inn x hx; omega
  rw [unlike_ints len inn]
  exact decide_eq_true nd
def pauseAt (s : List Deed) (m : Nat) : Bool := match s[m]? with
  | some none => true
  | _ => false
def onAt (nl : Nat) (s : List Deed) (m : Nat) : List Int := onD nl (s.take (m + 1))
def stepT (fs ls : List (Int × Int)) (s : List Deed) (m : Nat) (row : Option (List Int)) (bl : List Int) : Option (List Int) := match row with
  | none => none
  | some l => if folB fs ls (onAt ls.length s m) bl l && !(pauseAt s m && !(strD fs ls (onAt ls.length s m) (bl ++ l)).isEmpty) then some (bl ++ l) else none
/-- what is blown after so many moments; none: it is no tale -/
def runT (fs ls : List (Int × Int)) (s : List Deed) (rows : Nat → Option (List Int)) : Nat → Option (List Int)
  | 0 => some []
  | m + 1 => (runT fs ls s rows m).bind (stepT fs ls s m (rows m))
theorem run_none {fs ls : List (Int × Int)} {s : List Deed} {rows : Nat → Option (List Int)} {i : Nat} (h : runT fs ls s rows i = none) : ∀ {j : Nat}, i ≤ j → runT fs ls s rows j = none
  | 0, hj => by rw [show i = 0 by omega] at h; exact h
  | j + 1, hj => by
    rcases Nat.eq_or_lt_of_le hj with e | e
    · rw [← e]; exact h
    · unfold runT
      rw [run_none h (by omega)]
      rfl
theorem step_some {fs ls : List (Int × Int)} {s : List Deed} {m : Nat} {row : Option (List Int)} {bl bl' : List Int} (h : stepT fs ls s m row bl = some bl') : ∃ l, row = some l ∧ bl' = bl ++ l ∧ folB fs ls (onAt ls.length s m) bl l = true ∧ (pauseAt s m = true → strD fs ls (onAt ls.length s m) (bl ++ l) = []) := by
  cases row with
  | none => cases h
  | some l =>
    unfold stepT at h
    by_cases c : (folB fs ls (onAt ls.length s m) bl l && !(pauseAt s m && !(strD fs ls (onAt ls.length s m) (bl ++ l)).isEmpty)) = true
    · simp only [c, if_true] at h
      rw [Bool.and_eq_true] at c
      refine ⟨l, rfl, (Option.some.inj h).symm, c.1, fun p => ?_⟩
      have c2 := c.2
      rw [p, Bool.true_and, Bool.not_not] at c2
      exact List.isEmpty_iff.mp c2
    · simp only [c] at h
      cases h
theorem step_of {fs ls : List (Int × Int)} {s : List Deed} {m : Nat} {bl l : List Int} (h1 : folB fs ls (onAt ls.length s m) bl l = true) (h2 : pauseAt s m = true → strD fs ls (onAt ls.length s m) (bl ++ l) = []) : stepT fs ls s m (some l) bl = some (bl ++ l) := by
  unfold stepT
  have c : (folB fs ls (onAt ls.length s m) bl l && !(pauseAt s m && !(strD fs ls (onAt ls.length s m) (bl ++ l)).isEmpty)) = true := by
    rw [h1, Bool.true_and]
    cases p : pauseAt s m with
    | false => rfl
    | true => rw [h2 p]; rfl
  simp only [c, if_true]
theorem run_ok {fs ls : List (Int × Int)} (g : WG fs ls) {s : List Deed} {rows : Nat → Option (List Int)} : ∀ {i : Nat} {bl : List Int}, runT fs ls s rows i = some bl → FusesOk fs.length bl
  | 0, bl, h => by cases h; exact .nil
  | i + 1, bl, h => by
    unfold runT at h
    cases c : runT fs ls s rows i with
    | none => rw [c] at h; cases h
    | some b =>
      rw [c] at h
      obtain ⟨l, _, e, h1, _⟩ := step_some (h : stepT fs ls s i (rows i) b = some bl)
      rw [e]
      exact fol_ok g (run_ok g c) l.length rfl h1
def rowsV (xs : List PyData) (m : Nat) : Option (List Int) := (xs[m]?).bind rowOf
def taleB (fs ls : List (Int × Int)) (s : List Deed) : PyData → Bool
  | .tuple xs => decide (xs.length = s.length) && (runT fs ls s (rowsV xs) s.length).isSome
  | _ => false
theorem tale_no {fs ls : List (Int × Int)} {s : List Deed} {xs : List PyData} {i : Nat} (hi : i ≤ s.length) (h : runT fs ls s (rowsV xs) i = none) : taleB fs ls s (.tuple xs) = false := by
  show (_ && (runT fs ls s (rowsV xs) s.length).isSome) = false
  rw [run_none h hi]
  exact Bool.and_false _
theorem tale_yes {fs ls : List (Int × Int)} {s : List Deed} {xs : List PyData} (hl : xs.length = s.length) {bl : List Int} (h : runT fs ls s (rowsV xs) s.length = some bl) : taleB fs ls s (.tuple xs) = true := by
  show (_ && (runT fs ls s (rowsV xs) s.length).isSome) = true
  rw [h, decide_eq_true hl]
  rfl
theorem tale_len {fs ls : List (Int × Int)} {s : List Deed} {d : PyData} (h : rowIn s.length s.length d = false) : taleB fs ls s d = false := by
  cases d with
  | tuple xs =>
    have : decide (xs.length = s.length) = false := decide_eq_false fun e => by
      rw [show rowIn s.length s.length (.tuple xs) = true by
        show (decide ((s.length : Int) ≤ (xs.length : Int)) && decide ((xs.length : Int) ≤ (s.length : Int))) = true
        rw [e, decide_eq_true (Int.le_refl _)]
        rfl] at h
      cases h
    show (decide (xs.length = s.length) && _) = false
    rw [this, Bool.false_and]
  | _ => rfl
theorem run_congr {fs ls : List (Int × Int)} {s : List Deed} {r1 r2 : Nat → Option (List Int)} : ∀ {i : Nat}, (∀ j, j < i → r1 j = r2 j) → runT fs ls s r1 i = runT fs ls s r2 i
  | 0, _ => rfl
  | i + 1, h => by
    unfold runT
    rw [run_congr fun j hj => h j (by omega), h i (by omega)]
def rowsT (T : List (List Int)) (m : Nat) : Option (List Int) := T[m]?
theorem rowsV_T (T : List (List Int)) : rowsV (T.map intsT) = rowsT T := by
  funext m
  unfold rowsV rowsT
  rw [List.getElem?_map]
  cases T[m]? with
  | none => rfl
  | some l => exact rowOf_ints l
/-- rows of fuses: a tale -/
structure TaleOk (fs ls : List (Int × Int)) (s : List Deed) (T : List (List Int)) : Prop where
  len : T.length = s.length
  run : runT fs ls s (rowsT T) s.length = some T.flatten
  rows : ∀ r ∈ T, r.length ≤ fs.length ∧ ∀ x ∈ r, 0 ≤ x ∧ x < fs.length
theorem run_snoc {fs ls : List (Int × Int)} {s : List Deed} {T : List (List Int)} {row bl b : List Int} (h : runT fs ls s (rowsT T) T.length = some bl) (h2 : stepT fs ls s T.length (some row) bl = some b) : runT fs ls s (rowsT (T ++ [row])) (T ++ [row]).length = some b := by
  rw [List.length_append, List.length_singleton]
  unfold runT
  have e : runT fs ls s (rowsT (T ++ [row])) T.length = runT fs ls s (rowsT T) T.length := run_congr fun j hj => by
    unfold rowsT
    exact List.getElem?_append_left hj
  rw [e, h]
  show stepT fs ls s T.length ((T ++ [row])[T.length]?) bl = some b
  rw [List.getElem?_append_right (Nat.le_refl _), Nat.sub_self]
  exact h2
end FF
namespace FF
open PySem PySem.Spec PyProof.Rows L2
def topS (i : Nat) : Stmt := PySem.Challenge.pw_firstfuse_k19_what_is_a_tale.main.body.getD i (.Pass ⟨0, 0, 0, 0⟩)
abbrev s_is_integer : Stmt := topS 1
abbrev s_is_row : Stmt := topS 2
abbrev s_are_unlike : Stmt := topS 3
abbrev s_lit : Stmt := topS 5
abbrev s__dead : Stmt := topS 6
abbrev s_loads : Stmt := topS 7
abbrev s_own_draws : Stmt := topS 8
abbrev s_strained : Stmt := topS 9
abbrev s_at_rest : Stmt := topS 10
abbrev s_can_follow : Stmt := topS 12
abbrev s_is_pause : Stmt := topS 14
abbrev s_on_after : Stmt := topS 15
abbrev s_on_at_moments : Stmt := topS 16
abbrev s_is_tale : Stmt := topS 17
abbrev sDeck : Stmt := topS 19
abbrev sDraw : Stmt := topS 20
abbrev sPick : Stmt := topS 21
abbrev sWay : Stmt := topS 22
abbrev sBoard : Stmt := topS 23
abbrev sL_lit : Stmt := topS 24
abbrev sL_loads : Stmt := topS 25
abbrev sL_strained : Stmt := topS 26
abbrev sL_is_int : Stmt := topS 27
abbrev sL_odd : Stmt := topS 28
abbrev sL_bent : Stmt := topS 29
abbrev sL_story : Stmt := topS 30
abbrev sL_on_after : Stmt := topS 31
abbrev sL_is_tale : Stmt := topS 32
abbrev sL_tale : Stmt := topS 33
abbrev sLaw : Stmt := topS 34
end FF
namespace FF
open PySem PySem.Spec PyProof.Rows L2 Evl
theorem scDeck : FnScope ["_law_script", "_law_cells", "_law_cell"] ["_law_script"] (defScope sDeck) := ⟨rfl, rfl, rfl, by decide +kernel, rfl, by decide +kernel, by decide +kernel⟩
theorem scDraw : FnScope ["_law_deck_here", "_law_bound", "_law_rest", "_law_cell", "_law_mixed"] ["_law_deck_here", "_law_bound"] (defScope sDraw) := ⟨rfl, rfl, rfl, by decide +kernel, rfl, by decide +kernel, by decide +kernel⟩
theorem scPick : FnScope ["_law_deck_here", "_law_items"] ["_law_deck_here", "_law_items"] (defScope sPick) := ⟨rfl, rfl, rfl, by decide +kernel, rfl, by decide +kernel, by decide +kernel⟩
/-! ### _law_draw -/
section
variable {P : Program} {w : World} {K : PySem.W.Frag} {mg : Str → Option Value} {base : Heap}
theorem ok_draw {f : Addr} {fd : FuncData} {k : Nat} (F : Fun K "_law_draw" "_law_draw" sDraw f fd) (mi : mg "int" = none) (ml : mg "len" = none) : FnOk P w K mg base CX0 (k + 1) f fd ["_law_deck_here", "_law_bound"] spDraw := by
  refine F.ok scDraw (fun vs H Q E h => ?_) (fun cdv A outer s H vs Q E hr h => ?_)
  · obtain ⟨D, A, B, b, rfl, _⟩ := h
    rfl
  · obtain ⟨D, A, B, b, rfl, hb1, hb2, dk, q⟩ := h
    obtain ⟨⟨gs, cs, n, h1, h2, h3, h4, h5⟩, nda, ndb, nab⟩ := id dk
    refine ⟨_, pss_cons (ps_if (pt_cmpR (op_neD hr.units) (pe_ix ix_list (pv 0) pe_int (fun _ _ => rfl)) (pe_lst pa_nil) (nomark _))
        (pss_cons (ps_set (i := 2) scDraw.nd rfl (.inl rfl) (pe_ix ix_list (pe_ix ix_list (pv 0) pe_int (fun _ _ => rfl)) pe_int (fun _ _ => rfl)))
        (pss_cons (ps_asg (pe_op op_fdiv (pv 2) (pv 1)) (pg_sub (pe_ix ix_list (pv 0) pe_int (fun _ _ => rfl)) pe_int set_list))
        (pss_cons (ps_if (pt_cmpR op_eq (pe_ix ix_list (pe_ix ix_list (pv 0) pe_int (fun _ _ => rfl)) pe_int (fun _ _ => rfl)) pe_int (nomark _))
          (pss_one (ps_expr (pe_bm PySem.F.plainAttrs_list PySem.F.slot_list_pop PySem.F.type_list_pop mt_popAt (pe_ix ix_list (pv 0) pe_int (fun _ _ => rfl)) (pa_cons pe_int pa_nil)))) pss_nil)
        (pss_one (ps_ret (pe_op op_mod (pe_callTy call_int1 (by rfl) mi (by decide +kernel) (pa_cons (pv 2) pa_nil)) (pv 1)))))))
        pss_nil)
      (pss_cons (ps_asg (pe_op op_add (pe_ix ix_list (pv 0) pe_int (fun _ _ => rfl)) pe_int) (pg_sub (pv 0) pe_int set_list))
      (pss_cons (ps_set (i := 3) scDraw.nd rfl (.inl rfl) (pe_ix ix_list (pe_ix ix_list (pv 0) pe_int (fun _ _ => rfl))
          (pe_op op_mod (pe_callTy call_int1 (by rfl) mi (by decide +kernel) (pa_cons (pe_ix ix_list (pv 0) pe_int (fun _ _ => rfl)) pa_nil))
            (pe_callB call_len_seq (by rfl) ml PySem.boot_len (pa_cons (pe_ix ix_list (pv 0) pe_int (fun _ _ => rfl)) pa_nil))) (fun _ _ => rfl)))
      (pss_cons (ps_set (i := 4) scDraw.nd rfl (.inl rfl) (pe_op op_mod (pe_callTy call_int1 (by rfl) mi (by decide +kernel) (pa_cons
          (pe_op op_add (pe_op op_mod (pe_callTy call_int1 (by rfl) mi (by decide +kernel) (pa_cons (pv 3) pa_nil)) pe_int) (pe_op op_mul pe_int (pe_ix ix_list (pv 0) pe_int (fun _ _ => rfl)))) pa_nil)) pe_int))
      (pss_cons (ps_set (i := 4) scDraw.nd rfl (.inl rfl) (pe_op op_mod (pe_callTy call_int1 (by rfl) mi (by decide +kernel) (pa_cons
          (pe_op op_add (pe_op op_mul (pv 4) (pv 4)) (pe_op op_mul pe_int (pe_ix ix_list (pv 0) pe_int (fun _ _ => rfl)))) pa_nil)) pe_int))
      (pss_one (ps_ret (pe_op op_mod (pe_op op_fdiv (pe_op op_mod (pe_callTy call_int1 (by rfl) mi (by decide +kernel) (pa_cons (pe_op op_mul (pv 4) (pv 4)) pa_nil)) pe_int) pe_int) (pv 1)))))))), ?_⟩
    -- deck[0] != []
    have hD : SqL K H D [.ref A, .ref B, .int n] := SqL.of h1
    have hA : SqL K H A (gs.map V.int) := SqL.of h2
    refine ⟨.ref D, rfl, D, _, 0, _, rfl, rfl, hD, atI_nat (j := 0) rfl, Nat.zero_le _, fun p np => ?_⟩
    have dk1 := dk.new (o := .lst []) np
    obtain ⟨np1, np2, np3⟩ := dk.ne np
    have kp1 : Kp D A H (upd H p (.lst [])) := Kp.new np
    have g1 : upd H p (.lst []) D = some (.lst [.ref A, .ref B, .int n]) := by rw [upd_ne np1.symm]; exact h1
    have g2 : upd H p (.lst []) A = some (.lst (gs.map V.int)) := by rw [upd_ne np2.symm]; exact h2
    have g3 : upd H p (.lst []) B = some (.lst (cs.map V.int)) := by rw [upd_ne np3.symm]; exact h3
    have gp : upd H p (.lst []) p = some (.lst []) := upd_same
    generalize upd H p (.lst []) = H1 at dk1 kp1 g1 g2 g3 gp ⊢
    refine ⟨_, _, .lst (SqL.of g2) (dpInts gs), .lst (SqL.of gp) .nil, shapedInts gs, rfl, _, rfl, ?_⟩
    cases gs with
    | cons g gr =>
      have et : (!PyData.eqv (.list ((g :: gr).map PyData.int)) (.list [])) = true := rfl
      rw [et]
      refine iteT ?_
      -- rest = deck[0][0]; deck[0][0] = rest // bound
      refine ⟨.ref D, rfl, D, _, 0, _, rfl, rfl, SqL.of g1, atI_nat (j := 0) rfl, A, _, 0, .int g, rfl, rfl, SqL.of g2, atI_nat (j := 0) rfl, ?_⟩
      refine ⟨.int g, rfl, .int b, rfl, g, b, rfl, rfl, ⟨by omega, by omega⟩, .ref D, rfl, D, _, 0, _, rfl, rfl, SqL.of g1, atI_nat (j := 0) rfl, A, _, 0, 0, rfl, rfl, g2, ixN0 (by simp), ?_⟩
      have e2 : ((g :: gr).map V.int).set 0 (.int (g / b)) = ((g / b) :: gr).map V.int := rfl
      rw [e2]
      have s1 : upd H1 A (.lst (((g / b) :: gr).map V.int)) D = some (.lst [.ref A, .ref B, .int n]) := by rw [upd_ne nda]; exact g1
      have s2 : upd H1 A (.lst (((g / b) :: gr).map V.int)) A = some (.lst (((g / b) :: gr).map V.int)) := upd_same
      have s3 : upd H1 A (.lst (((g / b) :: gr).map V.int)) B = some (.lst (cs.map V.int)) := by rw [upd_ne nab.symm]; exact g3
      have kp2 : Kp D A H (upd H1 A (.lst (((g / b) :: gr).map V.int))) := fun c o z n1 n2 => by rw [upd_ne n2]; exact kp1 c o z n1 n2
      generalize upd H1 A (.lst (((g / b) :: gr).map V.int)) = H2 at s1 s2 s3 kp2 ⊢
      have em0 : 0 ≤ g % b := Int.emod_nonneg _ (by omega)
      have em1 : g % b < b := Int.emod_lt_of_pos _ (by omega)
      -- if deck[0][0] == 0: deck[0].pop(0)
      refine ⟨.ref D, rfl, D, _, 0, _, rfl, rfl, SqL.of s1, atI_nat (j := 0) rfl, A, _, 0, .int (g / b), rfl, rfl, SqL.of s2, atI_nat (j := 0) rfl, rfl, _, rfl, ite2 (fun _ => ?_) (fun _ => ?_)⟩
      · refine ⟨.ref D, rfl, D, _, 0, _, rfl, rfl, SqL.of s1, atI_nat (j := 0) rfl, .inl ⟨rfl, _, SqL.of s2⟩, A, _, 0, 0, .int (g / b), rfl, rfl, s2, by decide, by decide, seqIx0 (by simp), rfl, ?_⟩
        have e3 : ((((g / b) :: gr).map V.int)).eraseIdx 0 = gr.map V.int := rfl
        rw [e3]
        refine ⟨.int g, rfl, .inl ⟨g, rfl, .int b, rfl, g, b, rfl, rfl, by omega, q _ _ em0 em1 ⟨⟨gr, cs, n, by rw [upd_ne nda]; exact s1, upd_same, by rw [upd_ne nab.symm]; exact s3, h4, by simp at h5; omega⟩, nda, ndb, nab⟩ (fun c o z n1 n2 => by rw [upd_ne n2]; exact kp2 c o z n1 n2)⟩⟩
      · refine ⟨.int g, rfl, .inl ⟨g, rfl, .int b, rfl, g, b, rfl, rfl, by omega, q _ _ em0 em1 ⟨⟨_, cs, n, s1, s2, s3, h4, by simpa using h5⟩, nda, ndb, nab⟩ kp2⟩⟩
    | nil =>
      have et : (!PyData.eqv (.list (([] : List Int).map PyData.int)) (.list [])) = false := rfl
      rw [et]
      refine iteF ?_
      -- deck[2] = deck[2] + 1
      refine ⟨.ref D, rfl, D, _, 2, _, rfl, rfl, SqL.of g1, atI_nat (j := 2) rfl, n, 1, rfl, rfl, .ref D, rfl, D, _, 2, 2, rfl, rfl, g1, rfl, ?_⟩
      have e2 : ([V.ref A, V.ref B, V.int n]).set 2 (.int (n + 1)) = [V.ref A, V.ref B, V.int (n + 1)] := rfl
      rw [e2]
      have s1 : upd H1 D (.lst [.ref A, .ref B, .int (n + 1)]) D = some (.lst [.ref A, .ref B, .int (n + 1)]) := upd_same
      have s2 : upd H1 D (.lst [.ref A, .ref B, .int (n + 1)]) A = some (.lst (([] : List Int).map V.int)) := by rw [upd_ne nda.symm]; exact g2
      have s3 : upd H1 D (.lst [.ref A, .ref B, .int (n + 1)]) B = some (.lst (cs.map V.int)) := by rw [upd_ne ndb.symm]; exact g3
      have kp2 : Kp D A H (upd H1 D (.lst [.ref A, .ref B, .int (n + 1)])) := fun c o z n1 n2 => by rw [upd_ne n1]; exact kp1 c o z n1 n2
      generalize upd H1 D (.lst [.ref A, .ref B, .int (n + 1)]) = H2 at s1 s2 s3 kp2 ⊢
      have hcl : 0 < cs.length := List.length_pos_iff.mpr h4
      have hj0 : 0 ≤ (n + 1) % ((cs.map V.int).length : Int) := Int.emod_nonneg _ (by rw [List.length_map]; omega)
      have hj1 : (n + 1) % ((cs.map V.int).length : Int) < ((cs.map V.int).length : Int) := Int.emod_lt_of_pos _ (by rw [List.length_map]; omega)
      obtain ⟨j, ej⟩ : ∃ j : Nat, (n + 1) % ((cs.map V.int).length : Int) = (j : Int) := ⟨((n + 1) % ((cs.map V.int).length : Int)).toNat, by omega⟩
      have hjl : j < cs.length := by
        rw [ej, List.length_map] at hj1
        omega
      have gj : (cs.map V.int)[j]? = some (.int cs[j]) := by rw [List.getElem?_map, List.getElem?_eq_getElem hjl] <;> rfl
      -- cell = ..
      refine ⟨.ref D, rfl, D, _, 1, _, rfl, rfl, SqL.of s1, atI_nat (j := 1) rfl, .ref D, rfl, D, _, 2, _, rfl, rfl, SqL.of s1, atI_nat (j := 2) rfl, .inl ⟨n + 1, rfl, ?_⟩⟩
      refine ⟨.ref D, rfl, D, _, 1, _, rfl, rfl, SqL.of s1, atI_nat (j := 1) rfl, B, _, rfl, .inl (SqL.of s3), n + 1, _, rfl, rfl, by rw [List.length_map]; omega, ?_⟩
      refine ⟨B, _, (j : Int), .int cs[j], rfl, congrArg V.int ej, SqL.of s3, atI_nat gj, ?_⟩
      -- mixed, twice
      refine ⟨_, rfl, .inl ⟨cs[j], rfl, cs[j], 4294966813, rfl, rfl, (by show (0 : Int) < 4294966813; decide), ?_⟩⟩
      refine ⟨.ref D, rfl, D, _, 2, _, rfl, rfl, SqL.of s1, atI_nat (j := 2) rfl, 2147483053, n + 1, rfl, rfl, .inl ⟨by decide, by decide⟩, _, _, rfl, rfl, .inl ⟨_, rfl, _, 4294966813, rfl, rfl, (by show (0 : Int) < 4294966813; decide), ?_⟩⟩
      obtain ⟨m, hm⟩ : ∃ m : Int, (cs[j] % 4294966813 + 2147483053 * (n + 1)) % 4294966813 = m := ⟨_, rfl⟩
      have m0 : 0 ≤ m := by rw [← hm]; exact Int.emod_nonneg _ (by decide)
      have m1 : m < 4294966813 := by rw [← hm]; exact Int.emod_lt_of_pos _ (by decide)
      refine ⟨_, rfl, _, rfl, m, m, congrArg V.int hm, congrArg V.int hm, .inl ⟨by omega, by omega⟩, .ref D, rfl, D, _, 2, _, rfl, rfl, SqL.of s1, atI_nat (j := 2) rfl, 66071, n + 1, rfl, rfl, .inl ⟨by decide, by decide⟩, _, _, rfl, rfl, .inl ⟨_, rfl, _, 4294966769, rfl, rfl, (by show (0 : Int) < 4294966769; decide), ?_⟩⟩
      obtain ⟨m2, hm2⟩ : ∃ m2 : Int, (m * m + 66071 * (n + 1)) % 4294966769 = m2 := ⟨_, rfl⟩
      have m20 : 0 ≤ m2 := by rw [← hm2]; exact Int.emod_nonneg _ (by decide)
      have m21 : m2 < 4294966769 := by rw [← hm2]; exact Int.emod_lt_of_pos _ (by decide)
      refine ⟨_, rfl, _, rfl, m2, m2, congrArg V.int hm2, congrArg V.int hm2, .inl ⟨by omega, by omega⟩, .inl ⟨_, rfl, _, 4294966667, rfl, rfl, (by show (0 : Int) < 4294966667; decide), _, 2048, rfl, rfl, ⟨by decide, by decide⟩, .int b, rfl, _, b, rfl, rfl, by omega, ?_⟩⟩
      exact q _ _ (Int.emod_nonneg _ (by omega)) (Int.emod_lt_of_pos _ (by omega)) ⟨⟨[], cs, n + 1, s1, s2, s3, h4, by simp⟩, nda, ndb, nab⟩ kp2
end
/-! ### _law_pick, _law_deck, _law_way -/
section
variable {P : Program} {w : World} {K : PySem.W.Frag} {mg : Str → Option Value} {base : Heap}
theorem ok_pick {f fD : Addr} {fd fdD : FuncData} {k : Nat} (F : Fun K "_law_pick" "_law_pick" sPick f fd) (GD : FnOk P w K mg base CX0 k fD fdD ["_law_deck_here", "_law_bound"] spDraw) (bD : Binds K fdD ["_law_deck_here", "_law_bound"] [])
    (gD : mg "_law_draw" = some (.ref fD)) (kD : PySem.W.keepIn K (.ref fD) = true) (ml : mg "len" = none) : FnOk P w K mg base CX0 (k + 1) f fd ["_law_deck_here", "_law_items"] (spPick K) := by
  refine F.ok scPick (fun vs H Q E h => ?_) (fun cdv A outer s H vs Q E hr h => ?_)
  · obtain ⟨D, A, B, I, xs, rfl, _⟩ := h
    rfl
  · obtain ⟨D, A, B, I, xs, rfl, dk, hI, ne, hl, q⟩ := h
    refine ⟨_, pss_one (ps_ret (pe_ix ix_list (pv 1) (pe_call GD hr (by rfl) gD kD bD .nil pass0 (pa_cons (pv 0) (pa_cons (pe_callB call_len_seq (by rfl) ml PySem.boot_len (pa_cons (pv 1) pa_nil)) pa_nil))) (fun _ _ => rfl))), ?_⟩
    have hx : 0 < xs.length := List.length_pos_iff.mpr ne
    refine ⟨.ref I, rfl, .ref D, rfl, .ref I, rfl, I, xs, rfl, .inl (hI _ Kp.refl), D, A, B, xs.length, rfl, by omega, by omega, dk, fun r H' r0 r1 dk' kp => ?_⟩
    obtain ⟨j, rfl⟩ : ∃ j : Nat, r = (j : Int) := ⟨r.toNat, by omega⟩
    have hj : j < xs.length := by omega
    exact ⟨I, xs, (j : Int), xs[j], rfl, rfl, hI _ kp, atI_nat (List.getElem?_eq_getElem hj), q _ _ (List.getElem_mem hj) dk' kp⟩

theorem ok_deck {f : Addr} {fd : FuncData} {k : Nat} (F : Fun K "_law_deck" "_law_deck" sDeck f fd) (ma : mg "abs" = none) (ml : mg "len" = none) : FnOk P w K mg base CX0 (k + 1) f fd ["_law_script"] (spDeck K) := by
  refine F.ok scDeck (fun vs H Q E h => ?_) (fun cdv A outer s H vs Q E hr h => ?_)
  · obtain ⟨a, ns, rfl, _⟩ := h
    rfl
  · obtain ⟨a, ns, rfl, hS, hlen, q⟩ := h
    refine ⟨_, pss_cons (ps_setLc (i := 1) (own := [("_law_cell", 2)]) (g := gName 2) (tt := tYes) (by rfl) scDeck.nd rfl rfl (sw_true rfl rfl rfl (by decide +kernel)) (pi_list (pe_slice sl_list (pv 0) po_none (po_some pe_int)))
        (blkOk_by (own := [("_law_cell", 2)]) (N := ["_law_script", "_law_cells", "_law_cell"]) (sc := defScope sDeck) (by decide +kernel)) (fun _ _ _ _ _ => pg_name (i := 2) scDeck.nd rfl (Or.inl rfl)) (fun _ _ _ _ _ => pts_nil)
        (fun _ _ _ _ _ => pe_callB call_abs (by rfl) ma (by decide +kernel) (pa_cons (pv 2) pa_nil)))
      (pss_one (ps_ret (pe_lst (pa_cons (pe_lc (own := [("_law_cell", 2)]) (g := gName 2) (by rfl) scDeck.nd (pi_list (pv 1))
          (blkOk_by (own := [("_law_cell", 2)]) (N := ["_law_script", "_law_cells", "_law_cell"]) (sc := defScope sDeck) (by decide +kernel)) (fun _ _ _ _ _ => pg_name (i := 2) scDeck.nd rfl (Or.inl rfl))
          (fun _ _ _ _ _ => pts_one (pt_cmpR op_ge (pv 2) (pe_op op_pow pe_int pe_int) (nomark _))) (fun _ _ _ _ _ => pv 2))
        (pa_cons (pe_op op_cat (pv 1) (pe_lst (pa_cons (pe_op op_add pe_int (pe_callB call_len_seq (by rfl) ml PySem.boot_len (pa_cons (pv 1) pa_nil))) pa_nil)))
        (pa_cons pe_int pa_nil)))))), ?_⟩
    -- cells
    refine ⟨_, rfl, 63, rfl, a, ns.map V.int, rfl, hS, fun c nc => ?_⟩
    have g0 : upd H c (.lst (cutV (ns.map V.int) none (some 63))) c = some (.lst (ns.map V.int)) := by rw [upd_same, cut63 ns hlen]
    have e0 : Ex H (upd H c (.lst (cutV (ns.map V.int) none (some 63)))) := Ex.new nc
    generalize upd H c (.lst (cutV (ns.map V.int) none (some 63))) = H1 at g0 e0 ⊢
    refine ⟨c, rfl, ⟨_, SqL.of g0⟩, fun D nD => ?_⟩
    have nDc : D ≠ c := (ne_of_none g0 nD).symm
    have nD0 : H D = none := none_ex e0 nD
    refine lc_list (K := K) (a := c) (xs := ns.map V.int) (fun i H' => H' c = some (.lst (ns.map V.int)) ∧ H' D = some (.lst (((ns.map absI).take i).map V.int)) ∧ Ex H H') ⟨by rw [upd_ne nDc.symm]; exact g0, upd_same, e0.mut nD0⟩ (fun i H' _ p => SqL.of p.1) (fun i x H' hx p => ?_) (fun H' p => ?_)
    · obtain ⟨z, hz, rfl⟩ : ∃ z, ns[i]? = some z ∧ x = V.int z := by
        rw [List.getElem?_map] at hx
        cases e : ns[i]? with
        | none => rw [e] at hx; cases hx
        | some z => rw [e] at hx; exact ⟨z, rfl, (Option.some.inj hx).symm⟩
      refine ⟨rfl, .int z, rfl, z, rfl, _, p.2.1, ?_, ?_, ?_, p.2.2.mut nD0⟩
      · rw [List.length_map, List.length_take]
        exact Nat.lt_of_le_of_lt (Nat.min_le_right _ _) (by rw [List.length_map]; exact small1000 (by omega))
      · rw [upd_ne nDc.symm]; exact p.1
      · rw [upd_same, List.take_add_one, List.getElem?_map, hz, List.map_append]
        rfl
    · obtain ⟨_, p2, ep⟩ := p
      rw [List.length_map, List.take_of_length_le (by rw [List.length_map]; exact Nat.le_refl _)] at p2
      -- the return
      refine ⟨.ref D, rfl, D, rfl, ⟨_, SqL.of p2⟩, fun G nG => ?_⟩
      have nGD : G ≠ D := (ne_of_none p2 nG).symm
      have nG0 : H G = none := none_ex ep nG
      refine lc_list (K := K) (a := D) (xs := (ns.map absI).map V.int) (fun i H2 => H2 D = some (.lst ((ns.map absI).map V.int)) ∧ Ex H H2 ∧ ∃ gs : List Int, gs.length ≤ i ∧ H2 G = some (.lst (gs.map V.int))) ⟨by rw [upd_ne nGD.symm]; exact p2, ep.mut nG0, [], Nat.zero_le _, upd_same⟩ (fun i H2 _ p => SqL.of p.1) (fun i x H2 hx p => ?_) (fun H2 p => ?_)
      · obtain ⟨z, rfl⟩ : ∃ z, x = V.int z := by
          rw [List.getElem?_map] at hx
          cases e : (ns.map absI)[i]? with
          | none => rw [e] at hx; cases hx
          | some z => rw [e] at hx; exact ⟨z, (Option.some.inj hx).symm⟩
        have hi : i < 63 := by
          have := (List.getElem?_eq_some_iff.mp hx).1
          rw [List.length_map, List.length_map] at this
          omega
        obtain ⟨q1, qe, gs, q2, q3⟩ := p
        refine ⟨rfl, .int z, rfl, 10, 18, rfl, rfl, ⟨by decide, by decide, by decide⟩, z, _, rfl, rfl, _, rfl, ite2 (fun _ => ?_) (fun _ => ?_)⟩
        · refine ⟨.int z, rfl, gs.map V.int, q3, by rw [List.length_map]; exact small1000 (by omega), by rw [upd_ne nGD.symm]; exact q1, qe.mut nG0, gs ++ [z], by rw [List.length_append]; simp; omega, ?_⟩
          rw [upd_same, List.map_append]
          rfl
        · exact ⟨q1, qe, gs, by omega, q3⟩
      · obtain ⟨q1, qe, gs, q2, q3⟩ := p
        rw [List.length_map, List.length_map] at q2
        -- cells + [11234 + len(cells)], 0
        refine ⟨.ref D, rfl, .ref D, rfl, D, _, rfl, .inl (SqL.of q1), 11234, _, rfl, rfl, (by show 1 ≤ sizeLine; decide), fun e ne => ?_⟩
        have neD : e ≠ D := (ne_of_none q1 ne).symm
        have neG : e ≠ G := (ne_of_none q3 ne).symm
        refine ⟨D, e, _, _, rfl, rfl, by rw [upd_ne neD.symm]; exact q1, upd_same, ?_, fun B nB => ?_⟩
        · rw [List.length_map, List.length_map]
          exact Nat.le_of_lt (small1000 (by simp; omega))
        have g1 : upd H2 e (.lst [.int (11234 + (((ns.map absI).map V.int).length : Int))]) G = some (.lst (gs.map V.int)) := by rw [upd_ne neG.symm]; exact q3
        have nBG : B ≠ G := (ne_of_none g1 nB).symm
        refine ⟨by show 3 ≤ sizeLine; decide, fun C nC => ?_⟩
        have nCB : C ≠ B := fun z => by rw [z, upd_same] at nC; cases nC
        have nCG : C ≠ G := fun z => by rw [z, upd_ne nBG.symm, g1] at nC; cases nC
        refine q C G B _ ⟨⟨gs, (ns.map absI) ++ [11234 + (((ns.map absI).map V.int).length : Int)], 0, upd_same, ?_, ?_, by simp, by omega⟩, nCG, nCB, nBG.symm⟩ (((qe.trans (Ex.new ne)).trans (Ex.new nB)).trans (Ex.new nC)) (none_ex ((qe.trans (Ex.new ne)).trans (Ex.new nB)) nC) nG0
        · rw [upd_ne nCG.symm, upd_ne nBG.symm]
          exact g1
        · rw [upd_ne nCB.symm, upd_same, List.map_append]
          rfl
end
theorem scWay : FnScope ["_law_fuses", "_law_fuse", "_law_found", "_law_turn"] ["_law_fuses", "_law_fuse"] (defScope sWay) := ⟨rfl, rfl, rfl, by decide +kernel, rfl, by decide +kernel, by decide +kernel⟩

section
variable {P : Program} {w : World} {K : PySem.W.Frag} {mg : Str → Option Value} {base : Heap}
theorem ok_way {f : Addr} {fd : FuncData} {k : Nat} (F : Fun K "_law_way" "_law_way" sWay f fd) (mr : mg "range" = none) (ml : mg "len" = none) : FnOk P w K mg base CX0 (k + 1) f fd ["_law_fuses", "_law_fuse"] (spWay K) := by
  refine F.ok scWay (fun vs H Q E h => ?_) (fun cdv A outer s H vs Q E hr h => ?_)
  · obtain ⟨T, ps, a, rfl, _⟩ := h
    rfl
  · obtain ⟨T, ps, a, rfl, hT, wf, ha0, ha1, hl, q⟩ := h
    refine ⟨_, pss_cons (ps_set (i := 2) scWay.nd rfl (.inl rfl) (pe_lst (pa_cons (pv 1) pa_nil)))
      (pss_cons (ps_for PassesOwn.never rfl (pi_range1 (by rfl) mr (pa_cons (pe_callB call_len_seq (by rfl) ml PySem.boot_len (pa_cons (pv 0) pa_nil)) pa_nil)) (pg_name (i := 3) scWay.nd rfl (.inl rfl))
        (pss_one (ps_if (pt_cmpR op_ge (pe_ix ix_tup (pe_ix ix_seq (pv 0) (pe_ix ix_list (pv 2) (pe_un un_neg pe_int) (fun _ _ => rfl)) (fun _ _ => rfl)) pe_int (fun _ _ => rfl)) pe_int (nomark _))
          (pss_one (ps_expr (pe_bm PySem.F.plainAttrs_list PySem.F.slot_list_append PySem.F.type_list_append mt_append (pv 2) (pa_cons (pe_ix ix_tup (pe_ix ix_seq (pv 0) (pe_ix ix_list (pv 2) (pe_un un_neg pe_int) (fun _ _ => rfl)) (fun _ _ => rfl)) pe_int (fun _ _ => rfl)) pa_nil)))) pss_nil)))
      (pss_one (ps_ret (pv 2)))), ?_⟩
    refine ⟨.int a, rfl, (by show 1 ≤ sizeLine; decide), fun p np => ?_⟩
    have e0 : Ex H (upd H p (.lst [.int a])) := Ex.new np
    have g0 : upd H p (.lst [.int a]) p = some (.lst [.int a]) := upd_same
    generalize upd H p (.lst [.int a]) = H0 at e0 g0 ⊢
    obtain ⟨vs, hvs, hps⟩ := hT.ex e0
    have hvl : vs.length = ps.length := hps.1
    refine ⟨.ref T, rfl, T, vs, rfl, hvs, vs.length, rfl, by omega, by omega, for_range (lo := 0) (n := ((vs.length : Nat) : Int).toNat) (fun i σ H' => ∃ y, σ = [some (.ref T), some (.int a), some (.ref p), y] ∧ Ex H H' ∧ H' p = some (.lst ((wayI (ps.map (·.1)) (i + 1) a).map V.int)))
      ⟨none, rfl, e0, ?_⟩ ?_ ?_⟩
    · rw [g0, wayI, if_neg (by omega)]
      rfl
    · rintro i σ H1 hi ⟨y, rfl, e1, g1⟩
      obtain ⟨z, hz, z0, hm⟩ := wayI_more (ab := ps.map (·.1)) i a ha0
      have hzm : z ∈ wayI (ps.map (·.1)) (i + 1) a := List.mem_of_getLast? hz
      have hzb := wayI_mem wf _ _ _ hzm
      obtain ⟨j, rfl⟩ : ∃ j : Nat, z = (j : Int) := ⟨z.toNat, by omega⟩
      have hj : j < ps.length := by omega
      obtain ⟨pr, hpr⟩ : ∃ pr, ps[j]? = some pr := ⟨ps[j], List.getElem?_eq_getElem hj⟩
      have eg : (ps.map (·.1)).getD ((j : Int)).toNat (-1) = pr.1 := by rw [Int.toNat_natCast]; exact getD_fst hpr
      rw [eg] at hm
      obtain ⟨vs1, hvs1, hps1⟩ := hT.ex e1
      obtain ⟨b, hb1, hb2⟩ := hps1.get hpr
      have gl : atI ((wayI (ps.map (·.1)) (i + 1) a).map V.int) (-1) = some (.int (j : Int)) := by
        obtain ⟨r, er⟩ := List.getLast?_eq_some_iff.mp hz
        rw [er, List.map_append]
        exact atI_last _ _
      have rd : ∀ Q' : VK, Q' (.ref b) H1 → rIx K (.ref T) (.int (j : Int)) H1 Q' := fun Q' h => by
        rcases hvs1 with hv | hv
        · exact .inl ⟨T, vs1, (j : Int), _, rfl, rfl, hv, atI_nat hb1, h⟩
        · exact .inr (.inl ⟨T, vs1, (j : Int), _, rfl, rfl, hv, atI_nat hb1, h⟩)
      refine ⟨.ref T, rfl, .ref p, rfl, 1, rfl, p, _, -1, _, rfl, rfl, SqL.of g1, gl, rd _ ?_⟩
      refine ⟨b, _, 0, .int pr.1, rfl, rfl, hb2, atI_nat (j := 0) rfl, pr.1, 0, rfl, rfl, _, rfl, ite2 (fun c => ?_) (fun c => ?_)⟩
      · have c' : 0 ≤ pr.1 := of_decide_eq_true c
        rw [if_pos c'] at hm
        refine ⟨.ref p, rfl, .inl ⟨rfl, _, SqL.of g1⟩, .ref T, rfl, .ref p, rfl, 1, rfl, p, _, -1, _, rfl, rfl, SqL.of g1, gl, rd _ ?_⟩
        refine ⟨b, _, 0, .int pr.1, rfl, rfl, hb2, atI_nat (j := 0) rfl, p, _, _, rfl, rfl, g1, ?_, _, rfl, e1.mut np, ?_⟩
        · rw [List.length_map]
          have := wayI_len (ab := ps.map (·.1)) (i + 1) a
          exact small1000 (by omega)
        · rw [upd_same, hm, List.map_append]
          rfl
      · have c' : ¬ 0 ≤ pr.1 := fun z => c (decide_eq_true z)
        rw [if_neg c'] at hm
        exact ⟨_, rfl, e1, by rw [hm]; exact g1⟩
    · rintro σ H1 ⟨y, rfl, e1, g1⟩
      refine ⟨.ref p, rfl, q p H1 np e1 ?_⟩
      rw [g1]
      have ew : wayI (ps.map (·.1)) (((vs.length : Nat) : Int).toNat + 1) a = way (ps.map (·.1)) a := by
        unfold way
        rw [List.length_map, Int.toNat_natCast, hvl]
      rw [ew]

end
abbrev nBoard : List Str := ["_law_deck_here", "_law_fuses", "_law_lamps", "_law_above", "_law_step", "_law_at", "_law_tree", "_law_hung", "_law_found", "_law_fuse", "_law_behind", "_law_some", "_law_mark", "_law_one", "_law_k", "_law_place", "_law_draw_here"]
theorem scBoard : FnScope nBoard ["_law_deck_here", "_law_fuses", "_law_lamps"] (defScope sBoard) := ⟨rfl, rfl, rfl, by decide +kernel, rfl, by decide +kernel, by decide +kernel⟩
section
variable {P : Program} {w : World} {K : PySem.W.Frag} {mg : Str → Option Value} {base : Heap}
theorem ok_board {f fD fP fW : Addr} {fd fdD fdP fdW : FuncData} {k : Nat} (F : Fun K "_law_board" "_law_board" sBoard f fd)
    (GD : FnOk P w K mg base CX0 k fD fdD ["_law_deck_here", "_law_bound"] spDraw) (bD : Binds K fdD ["_law_deck_here", "_law_bound"] []) (gD : mg "_law_draw" = some (.ref fD)) (kD : PySem.W.keepIn K (.ref fD) = true)
    (GP : FnOk P w K mg base CX0 k fP fdP ["_law_deck_here", "_law_items"] (spPick K)) (bP : Binds K fdP ["_law_deck_here", "_law_items"] []) (gP : mg "_law_pick" = some (.ref fP)) (kP : PySem.W.keepIn K (.ref fP) = true)
    (GW : FnOk P w K mg base CX0 k fW fdW ["_law_fuses", "_law_fuse"] (spWay K)) (bW : Binds K fdW ["_law_fuses", "_law_fuse"] []) (gW : mg "_law_way" = some (.ref fW)) (kW : PySem.W.keepIn K (.ref fW) = true)
    (mr : mg "range" = none) (ml : mg "len" = none) (ms : mg "sum" = none) (mi : mg "int" = none) (mx : mg "max" = none) (mn : mg "min" = none) (mt : mg "tuple" = none) :
    FnOk P w K mg base CX0 (k + 1) f fd ["_law_deck_here", "_law_fuses", "_law_lamps"] (spBoard K) := by
  refine F.ok scBoard (fun vs H Q E h => ?_) (fun cdv A' outer s H vs Q E hr h => ?_)
  · obtain ⟨D, A, B, a, b, rfl, _⟩ := h
    rfl
  · obtain ⟨D, A, B, a, b, rfl, dk, ha1, ha2, hb1, hb2, q⟩ := h
    refine ⟨_, pss_cons (ps_asg (pe_tup (pa_cons (pe_lst (pa_cons (pe_un un_neg pe_int) pa_nil)) (pa_cons (pe_call GP hr (by rfl) gP kP bP .nil pass0 (pa_cons (pv 0) (pa_cons (pe_lst (pa_cons pe_int (pa_cons pe_int (pa_cons pe_int (pa_cons pe_int pa_nil))))) pa_nil))) pa_nil)))
        (pg_tup rfl (pgs_cons (pg_name (i := 3) scBoard.nd rfl (.inr rfl)) (pgs_cons (pg_name (i := 4) scBoard.nd rfl (.inr rfl)) pgs_nil))))
      (pss_cons (ps_for PassesOwn.never rfl (pi_range1 (by rfl) mr (pa_cons (pe_call GD hr (by rfl) gD kD bD .nil pass0 (pa_cons (pv 0) (pa_cons (pv 1) pa_nil))) pa_nil)) (pg_name (i := 5) scBoard.nd rfl (.inl rfl))
        (pss_one (ps_expr (pe_bm PySem.F.plainAttrs_list PySem.F.slot_list_append PySem.F.type_list_append mt_append (pv 3) (pa_cons
          (pe_call GP hr (by rfl) gP kP bP .nil pass0 (pa_cons (pv 0) (pa_cons (pe_lst (pa_cons (pv 5) (pa_cons (pe_call GD hr (by rfl) gD kD bD .nil pass0 (pa_cons (pv 0) (pa_cons (pe_op op_add (pv 5) pe_int) pa_nil))) (pa_cons pe_int pa_nil)))) pa_nil))) pa_nil)))))
      (pss_cons (ps_set (i := 6) scBoard.nd rfl (.inr rfl) (pe_lc (own := [("_law_one", 13)]) (g := gName 13) (tt := tYes) (by rfl) scBoard.nd (pi_list (pv 3)) (blkOk_by (own := [("_law_one", 13)]) (N := nBoard) (sc := defScope sBoard) (by decide +kernel))
          (fun _ _ _ _ _ => pg_name (i := 13) scBoard.nd rfl (Or.inl rfl)) (fun _ _ _ _ _ => pts_nil) (fun _ _ _ _ _ => pe_tup (pa_cons (pv 13) (pa_cons pe_int pa_nil)))))
      (pss_cons (ps_setLc (i := 7) (own := [("_law_k", 14)]) (g := gName 14) (tt := tYes) (by rfl) scBoard.nd rfl rfl (sw_true rfl rfl rfl (by decide +kernel))
          (pi_range1 (by rfl) mr (pa_cons (pe_call GD hr (by rfl) gD kD bD .nil pass0 (pa_cons (pv 0) (pa_cons (pe_op op_add (pv 2) pe_int) pa_nil))) pa_nil))
          (blkOk_by (own := [("_law_k", 14)]) (N := nBoard) (sc := defScope sBoard) (by decide +kernel)) (fun _ _ _ _ _ => pg_name (i := 14) scBoard.nd rfl (Or.inl rfl)) (fun _ _ _ _ _ => pts_nil)
          (te := tTup (tCons (tCall spDraw [] E0 (tCons (tVar 0) (tCons (tCB (rLenS K) (tCons (tVar 3) tNil)) tNil))) (tCons (tOp (rI0 fun i j => .int (i + j)) (tVar 4) (tOp (rI CMul fun i j => .int (i * j)) (tVar 4) (tCall spDraw [] E0 (tCons (tVar 0) (tCons (tC (.int 9)) tNil))))) tNil)))
          (fun _ _ _ _ _ => pe_tup (pa_cons (pe_call GD hr (by rfl) gD kD bD .nil pass0 (pa_cons (pv 0) (pa_cons (pe_callB call_len_seq (by rfl) ml PySem.boot_len (pa_cons (pv 3) pa_nil)) pa_nil)))
            (pa_cons (pe_op op_add (pv 4) (pe_op op_mul (pv 4) (pe_call GD hr (by rfl) gD kD bD .nil pass0 (pa_cons (pv 0) (pa_cons pe_int pa_nil))))) pa_nil))))
      (pss_cons (ps_set (i := 8) scBoard.nd rfl (.inl rfl) (pe_lst pa_nil))
      (pss_cons (ps_for PassesOwn.never rfl (pi_range1 (by rfl) mr (pa_cons (pe_callB call_len_seq (by rfl) ml PySem.boot_len (pa_cons (pv 3) pa_nil)) pa_nil)) (pg_name (i := 9) scBoard.nd rfl (.inr rfl))
        (pss_cons (ps_setLc (i := 10) (own := [("_law_place", 15), ("_law_draw_here", 16)]) (g := gTup K 2 (gCons (gName 15) (gCons (gName 16) gNil))) (tt := tTest (tOp (rIn K false) (tVar 9) (tCall (spWay K) [] E0 (tCons (tVar 6) (tCons (tVar 15) tNil))))) (te := tVar 16)
          (by rfl) scBoard.nd rfl rfl (sw_true rfl rfl rfl (by decide +kernel)) (pi_list (pv 7)) (blkOk_by (own := [("_law_place", 15), ("_law_draw_here", 16)]) (N := nBoard) (sc := defScope sBoard) (by decide +kernel))
          (fun _ _ _ _ _ => pg_tup rfl (pgs_cons (pg_name (i := 15) scBoard.nd rfl (Or.inl rfl)) (pgs_cons (pg_name (i := 16) scBoard.nd rfl (Or.inl rfl)) pgs_nil)))
          (fun _ _ _ _ _ => pts_one (pt_cmpR op_in_seq (pv 9) (pe_call GW hr (by rfl) gW kW bW .nil pass0 (pa_cons (pv 6) (pa_cons (pv 15) pa_nil))) (by rfl))) (fun _ _ _ _ _ => pv 16))
        (pss_cons (ps_set (i := 11) scBoard.nd rfl (.inl rfl) (pe_lst (pa_cons (pe_callB (cr_sum rfl) (by rfl) ms (by decide +kernel) (pa_cons (pv 10) pa_nil))
            (pa_cons (pe_op op_sub (pe_callB (cr_sum rfl) (by rfl) ms (by decide +kernel) (pa_cons (pv 10) pa_nil)) pe_int)
            (pa_cons (pe_op op_fdiv (pe_callB (cr_sum rfl) (by rfl) ms (by decide +kernel) (pa_cons (pv 10) pa_nil)) pe_int)
            (pa_cons (pe_op op_sub (pe_callB (cr_sum rfl) (by rfl) ms (by decide +kernel) (pa_cons (pv 10) pa_nil)) (pe_ix ix_list (pe_op op_cat (pv 10) (pe_lst (pa_cons pe_int pa_nil))) pe_int (fun _ _ => rfl)))
            (pa_cons pe_int (pa_cons (pe_op op_mul pe_int (pe_callB (cr_sum rfl) (by rfl) ms (by decide +kernel) (pa_cons (pv 10) pa_nil))) pa_nil))))))))
        (pss_cons (ps_set (i := 12) scBoard.nd rfl (.inl rfl) (pe_call GP hr (by rfl) gP kP bP .nil pass0 (pa_cons (pv 0) (pa_cons (pe_op op_cat (pv 11) (pe_lst (pa_cons (pe_op op_mul (pv 4)
            (pe_call GD hr (by rfl) gD kD bD .nil pass0 (pa_cons (pv 0) (pa_cons pe_int pa_nil)))) pa_nil))) pa_nil))))
        (pss_one (ps_expr (pe_bm PySem.F.plainAttrs_list PySem.F.slot_list_append PySem.F.type_list_append mt_append (pv 8) (pa_cons (pe_tup (pa_cons (pe_ix ix_list (pv 3) (pv 9) (fun _ _ => rfl))
            (pa_cons (pe_callTy call_int1 (by rfl) mi (by decide +kernel) (pa_cons (pe_callB (call_max2 rfl) (by rfl) mx (by decide +kernel) (pa_cons pe_int (pa_cons (pe_callB (call_min2 rfl) (by rfl) mn (by decide +kernel) (pa_cons pe_int (pa_cons (pv 12) pa_nil))) pa_nil))) pa_nil)) pa_nil))) pa_nil))))))))
      (pss_one (ps_ret (pe_tup (pa_cons (pe_callTy call_tuple_of (by rfl) mt (by decide +kernel) (pa_cons (pv 8) pa_nil)) (pa_cons (pe_callTy call_tuple_of (by rfl) mt (by decide +kernel) (pa_cons (pv 7) pa_nil)) pa_nil))))))))))
, ?_⟩
    have G0 : Ex (hid D A H) (hid D A H) := Ex.refl _
    -- above, step = [-1], one of 1, 1, 10, 11
    refine ⟨1, rfl, (by show 1 ≤ sizeLine; decide), fun p1 np1 => ?_⟩
    obtain ⟨e1, g1⟩ := dk.hidNew (o := .lst [.int (-1)]) np1
    have dk1 := dk.new (o := .lst [.int (-1)]) np1
    obtain ⟨m1, m2, m3⟩ := dk.ne np1
    have np1' : hid D A H p1 = none := hid_none np1
    refine ⟨.ref D, rfl, (by show 4 ≤ sizeLine; decide), fun i1 ni1 => ?_⟩
    obtain ⟨e2, g2⟩ := dk1.hidNew (o := .lst [.int 1, .int 1, .int 10, .int 11]) ni1
    have dk2 := dk1.new (o := .lst [.int 1, .int 1, .int 10, .int 11]) ni1
    have g1' := e2 _ _ g1
    have e02 := e1.trans e2
    obtain ⟨l1, l2, l3⟩ := dk1.ne ni1
    generalize upd (upd H p1 (.lst [.int (-1)])) i1 (.lst [.int 1, .int 1, .int 10, .int 11]) = H2 at dk2 g2 g1' e02 ⊢
    refine ⟨D, A, B, i1, _, rfl, dk2, fun _ kp => SqL.of (kp _ _ (of_hid g2).1 l1 l2), by simp, by decide, fun v H3 hv dk3 kp3 => ?_⟩
    have e03 := e02.trans kp3.hid
    have g3 := kp3.hid _ _ g1'
    obtain ⟨st, rfl, st0, st1⟩ : ∃ st : Int, v = .int st ∧ 1 ≤ st ∧ st ≤ 11 := by
      simp at hv
      rcases hv with z | z | z
      · exact ⟨1, z, by decide, by decide⟩
      · exact ⟨10, z, by decide, by decide⟩
      · exact ⟨11, z, by decide, by decide⟩
    refine ⟨(by show 2 ≤ sizeLine; decide), fun t nt => ?_⟩
    obtain ⟨e4, _⟩ := dk3.hidNew (o := .tup [.ref p1, .int st]) nt
    have dk4 := dk3.new (o := .tup [.ref p1, .int st]) nt
    refine ⟨t, _, rfl, SqT.of upd_same, rfl, .ref p1, [.int st], rfl, .int st, [], rfl, rfl, ?_⟩
    have e04 := e03.trans e4
    have g4 := e4 _ _ g3
    generalize upd H3 t (.tup [.ref p1, .int st]) = H4 at dk4 e04 g4 ⊢
    -- for at in range(draw(deck, fuses)): above.append(..)
    refine ⟨.ref D, rfl, .int a, rfl, D, A, B, a, rfl, ha1, by omega, dk4, fun r1 H5 r10 r11 dk5 kp5 => ?_⟩
    have e05 := e04.trans kp5.hid
    have g5 := kp5.hid _ _ g4
    refine ⟨r1, rfl, by omega, by omega, for_range (lo := 0) (n := r1.toNat) (fun i σ H' => ∃ (ab : List Int) (y5 : Option V), σ = [some (.ref D), some (.int a), some (.int b), some (.ref p1), some (.int st), y5, none, none, none, none, none, none, none, none, none, none, none] ∧
        Deck D A B H' ∧ Ex (hid D A H) (hid D A H') ∧ hid D A H' p1 = some (.lst (ab.map V.int)) ∧ ab.length = i + 1 ∧ WF ab ∧ ∀ (i : Nat) (x : Int), ab[i]? = some x → 1 ≤ i → 0 ≤ x) ⟨[-1], none, rfl, dk5, e05, g5, rfl, ?_, fun i x hx h1 => by (cases i with | zero => omega | succ i => simp at hx)⟩ ?_ ?_⟩
    · intro i x hx
      cases i with
      | zero =>
        have : x = -1 := by simpa using hx.symm
        subst this
        decide
      | succ i => simp at hx
    · rintro i σ H6 hi ⟨ab, y5, rfl, dk6, e06, g6, hal, wf, rt⟩
      have ei : (0 : Int) + (i : Int) = (i : Int) := Int.zero_add _
      refine ⟨.ref p1, rfl, .inl ⟨rfl, _, SqL.of (of_hid g6).1⟩, .ref D, rfl, _, rfl, .ref D, rfl, _, rfl, _, 1, rfl, rfl, D, A, B, _, rfl, by omega, by omega, dk6, fun r2 H7 r20 r21 dk7 kp7 => ?_⟩
      have e07 := e06.trans kp7.hid
      have g7 := kp7.hid _ _ g6
      refine ⟨(by show 3 ≤ sizeLine; decide), fun i2 ni2 => ?_⟩
      obtain ⟨e8, g8⟩ := dk7.hidNew (o := .lst [.int ((0 : Int) + (i : Int)), .int r2, .int 0]) ni2
      have dk8 := dk7.new (o := .lst [.int ((0 : Int) + (i : Int)), .int r2, .int 0]) ni2
      obtain ⟨l1, l2, l3⟩ := dk7.ne ni2
      have e08 := e07.trans e8
      have g8' := e8 _ _ g7
      generalize upd H7 i2 (.lst [.int ((0 : Int) + (i : Int)), .int r2, .int 0]) = H8 at dk8 g8 e08 g8' ⊢
      refine ⟨D, A, B, i2, _, rfl, dk8, fun _ kp => SqL.of (kp _ _ (of_hid g8).1 l1 l2), by simp, (by show 3 < 100000; decide), fun v H9 hv dk9 kp9 => ?_⟩
      have e09 := e08.trans kp9.hid
      have g9 := kp9.hid _ _ g8'
      obtain ⟨x, rfl, x0, x1⟩ : ∃ x : Int, v = .int x ∧ 0 ≤ x ∧ x ≤ (i : Int) := by
        simp at hv
        rcases hv with z | z | z
        · exact ⟨_, z, by omega, by omega⟩
        · exact ⟨r2, z, r20, by omega⟩
        · exact ⟨0, z, by omega, by omega⟩
      refine ⟨p1, _, _, rfl, rfl, (of_hid g9).1, by rw [List.length_map]; exact small1000 (by omega), ab ++ [x], _, rfl, dk9.put ⟨_, (of_hid g9).1⟩ m1 m2 m3, ?_, ?_, by rw [List.length_append, hal]; rfl, ?_, ?_⟩
      · rw [hid_upd m1 m2]
        exact e09.mut np1'
      · rw [hid_upd m1 m2, upd_same, List.map_append]
        rfl
      · intro j y hy
        by_cases hj : j < ab.length
        · rw [List.getElem?_append_left hj] at hy
          exact wf j y hy
        · have hj2 : j = ab.length := by
            have := (List.getElem?_eq_some_iff.mp hy).1
            rw [List.length_append] at this
            simp at this
            omega
          subst hj2
          rw [List.getElem?_append_right (Nat.le_refl _), Nat.sub_self] at hy
          simp at hy
          subst hy
          omega
      · intro j y hy h1
        by_cases hj : j < ab.length
        · rw [List.getElem?_append_left hj] at hy
          exact rt j y hy h1
        · have hj2 : j = ab.length := by
            have := (List.getElem?_eq_some_iff.mp hy).1
            rw [List.length_append] at this
            simp at this
            omega
          subst hj2
          rw [List.getElem?_append_right (Nat.le_refl _), Nat.sub_self] at hy
          simp at hy
          subst hy
          exact x0
    rintro σ H6 ⟨ab, y5, rfl, dk6, e06, g6, hal, wf, rt⟩
    have hab : ab.length ≤ 20 := by omega
    have hab1 : 1 ≤ ab.length := by omega
    -- tree
    refine ⟨.ref p1, rfl, p1, rfl, ⟨_, SqL.of (of_hid g6).1⟩, fun p2 np2 => ?_⟩
    obtain ⟨n1, n2, n3⟩ := dk6.ne np2
    obtain ⟨e7, g7⟩ := dk6.hidNew (o := .lst []) np2
    have np2' : hid D A H6 p2 = none := hid_none np2
    refine lc_list (K := K) (a := p1) (xs := ab.map V.int) (fun i H' => Deck D A B H' ∧ Ex (hid D A H6) (hid D A H') ∧ ∃ vs, hid D A H' p2 = some (.lst vs) ∧ PsAt K (hid D A H') vs ((ab.take i).map fun x => (x, 0)))
      ⟨dk6.new np2, e7, [], g7, PsAt.nil⟩ (fun i H' _ z => SqL.of (of_hid (z.2.1 _ _ g6)).1) ?_ ?_
    · rintro i x H7 hx ⟨dk7, e7, vs, g7, ps7⟩
      obtain ⟨z, hz, rfl⟩ : ∃ z, ab[i]? = some z ∧ x = V.int z := by
        rw [List.getElem?_map] at hx
        cases e : ab[i]? with
        | none => rw [e] at hx; cases hx
        | some z => rw [e] at hx; exact ⟨z, rfl, (Option.some.inj hx).symm⟩
      have hi : i < ab.length := (List.getElem?_eq_some_iff.mp hz).1
      refine ⟨rfl, .int z, rfl, (by show 2 ≤ sizeLine; decide), fun t nt => ?_⟩
      obtain ⟨e8, g8⟩ := dk7.hidNew (o := .tup [.int z, .int 0]) nt
      have dk8 := dk7.new (o := .tup [.int z, .int 0]) nt
      have g7' := e8 _ _ g7
      have ntp : t ≠ p2 := (ne_of_none (of_hid g7).1 nt).symm
      generalize upd H7 t (.tup [.int z, .int 0]) = H8 at dk8 e8 g8 g7' ⊢
      have hlen : vs.length ≤ 20 := by
        rw [ps7.1, List.length_map, List.length_take]
        omega
      have ez : (ab.take (i + 1)).map (fun x => (x, (0 : Int))) = (ab.take i).map (fun x => (x, (0 : Int))) ++ [(z, 0)] := by
        rw [List.take_add_one, hz, List.map_append]
        rfl
      have e78 := e7.trans e8
      have psn : PsAt K (hid D A H8) (vs ++ [.ref t]) ((ab.take (i + 1)).map fun x => (x, 0)) := by
        rw [ez]
        exact (ps7.ex e8).snoc (SqT.of g8)
      refine ⟨vs, (of_hid g7').1, small1000 (by omega), dk8.put ⟨_, (of_hid g7').1⟩ n1 n2 n3, ?_, vs ++ [.ref t], ?_, ?_⟩
      · rw [hid_upd n1 n2]
        exact e78.mut np2'
      · rw [hid_upd n1 n2, upd_same]
      · rw [hid_upd n1 n2]
        exact psList g7' psn
    rintro H7 ⟨dk7, e7, vt, g7, pst⟩
    rw [List.length_map, List.take_of_length_le (Nat.le_refl _)] at pst
    have e07 := e06.trans e7
    have g17 := e7 _ _ g6
    have wfT : WF ((ab.map fun x => (x, (0 : Int))).map (·.1)) := by
      rw [List.map_map]
      have : ((fun p : Int × Int => p.1) ∘ fun x => (x, (0 : Int))) = id := rfl
      rw [this, List.map_id]
      exact wf
    -- hung
    refine ⟨.ref D, rfl, .int b, rfl, b, 1, rfl, rfl, D, A, B, _, rfl, by omega, by omega, dk7, fun r3 H8 r30 r31 dk8 kp8 => ?_⟩
    have e08 := e07.trans kp8.hid
    have g18 := kp8.hid _ _ g17
    have gt8 := kp8.hid _ _ g7
    have pst8 := pst.ex kp8.hid
    refine ⟨r3, rfl, by omega, by omega, fun p3 np3 => ?_⟩
    obtain ⟨h1, h2, h3⟩ := dk8.ne np3
    obtain ⟨e9, g9⟩ := dk8.hidNew (o := .lst []) np3
    have np3' : hid D A H8 p3 = none := hid_none np3
    refine lc_range (lo := 0) (n := r3.toNat) (fun i H' => Deck D A B H' ∧ Ex (hid D A H8) (hid D A H') ∧ ∃ vs ls, hid D A H' p3 = some (.lst vs) ∧ PsAt K (hid D A H') vs ls ∧ ls.length = i ∧ ∀ p ∈ ls, 0 ≤ p.1 ∧ p.1 < (ab.length : Int) ∧ 1 ≤ p.2 ∧ p.2 ≤ 110)
      ⟨dk8.new np3, e9, [], [], g9, PsAt.nil, rfl, fun p hp => nomatch hp⟩ ?_ ?_
    · rintro i H9 hi ⟨dk9, e9, vs, ls, g9, ps9, hll, hls⟩
      have gab := e9 _ _ g18
      refine ⟨rfl, .ref D, rfl, .ref p1, rfl, p1, _, rfl, .inl (SqL.of (of_hid gab).1), D, A, B, _, rfl, by rw [List.length_map]; omega, by rw [List.length_map]; omega, dk9, fun r4 H10 r40 r41 dk10 kp10 => ?_⟩
      rw [List.length_map] at r41
      refine ⟨.int st, rfl, .int st, rfl, .ref D, rfl, D, A, B, 9, rfl, by decide, by decide, dk10, fun r5 H11 r50 r51 dk11 kp11 => ?_⟩
      refine ⟨st, r5, rfl, rfl, .inl ⟨by omega, by omega⟩, st, st * r5, rfl, rfl, (by show 2 ≤ sizeLine; decide), fun t nt => ?_⟩
      have e11 : Ex (hid D A H9) (hid D A H11) := kp10.hid.trans kp11.hid
      obtain ⟨e12, g12⟩ := dk11.hidNew (o := .tup [.int r4, .int (st + st * r5)]) nt
      have dk12 := dk11.new (o := .tup [.int r4, .int (st + st * r5)]) nt
      have e912 := e11.trans e12
      have g9' := e912 _ _ g9
      generalize upd H11 t (.tup [.int r4, .int (st + st * r5)]) = H12 at dk12 e12 g12 g9' e912 ⊢
      have hlen : vs.length ≤ 31 := by
        rw [ps9.1, hll]
        omega
      have psn : PsAt K (hid D A H12) (vs ++ [.ref t]) (ls ++ [(r4, st + st * r5)]) := (ps9.ex e912).snoc (SqT.of g12)
      have e812 := e9.trans e912
      refine ⟨vs, (of_hid g9').1, small1000 (by omega), dk12.put ⟨_, (of_hid g9').1⟩ h1 h2 h3, ?_, vs ++ [.ref t], ls ++ [(r4, st + st * r5)], ?_, ?_, by rw [List.length_append, hll]; rfl, ?_⟩
      · rw [hid_upd h1 h2]
        exact e812.mut np3'
      · rw [hid_upd h1 h2, upd_same]
      · rw [hid_upd h1 h2]
        exact psList g9' psn
      · intro pr hp
        rcases List.mem_append.mp hp with hp | hp
        · exact hls pr hp
        · have := List.mem_singleton.mp hp
          subst this
          have m0 : 0 ≤ st * r5 := Int.mul_nonneg (by omega) r50
          have m1 : st * r5 ≤ 11 * 8 := Int.mul_le_mul st1 (by omega) r50 (by decide)
          exact ⟨r40, r41, by show 1 ≤ st + st * r5; omega, by show st + st * r5 ≤ 110; omega⟩
    rintro H9 ⟨dk9, e9, vl, ls, g9, psl, hll, hls⟩
    have e09 := e08.trans e9
    have g19 := e9 _ _ g18
    have gt9 := e9 _ _ gt8
    have pst9 := pst8.ex e9
    have hvl : vl.length = ls.length := psl.1
    -- found = []
    refine ⟨Nat.zero_le _, fun p4 np4 => ?_⟩
    obtain ⟨f1, f2, f3⟩ := dk9.ne np4
    obtain ⟨e10, g10⟩ := dk9.hidNew (o := .lst []) np4
    have dk10 := dk9.new (o := .lst []) np4
    have np4' : hid D A H9 p4 = none := hid_none np4
    have g110 := e10 _ _ g19
    generalize upd H9 p4 (.lst []) = H10 at dk10 e10 g10 g110 ⊢
    refine ⟨.ref p1, rfl, p1, _, rfl, .inl (SqL.of (of_hid g110).1), ((ab.map V.int).length : Int), rfl, by rw [List.length_map]; omega, by rw [List.length_map]; omega, for_range (lo := 0) (n := ((ab.map V.int).length : Int).toNat)
      (fun i σ H' => ∃ (vf : List V) (fs : List (Int × Int)) (y9 y10 y11 y12 : Option V), σ = [some (.ref D), some (.int a), some (.int b), some (.ref p1), some (.int st), y5, some (.ref p2), some (.ref p3), some (.ref p4), y9, y10, y11, y12, none, none, none, none] ∧
        Deck D A B H' ∧ Ex (hid D A H9) (hid D A H') ∧ hid D A H' p4 = some (.lst vf) ∧ PsAt K (hid D A H') vf fs ∧ fs.map (·.1) = ab.take i ∧ ∀ p ∈ fs, 0 ≤ p.2 ∧ p.2 ≤ 3000)
      ⟨[], [], none, none, none, none, rfl, dk10, e10, g10, PsAt.nil, rfl, fun p hp => nomatch hp⟩ ?_ ?_⟩
    · rintro i σ H11 hi ⟨vf, fs, y9, y10, y11, y12, rfl, dk11, e11, g11, psf, hfs, hmk⟩
      have hi2 : i < ab.length := by
        rw [List.length_map] at hi
        omega
      have ei : (0 : Int) + (i : Int) = (i : Int) := Int.zero_add _
      -- behind
      have gl11 := e11 _ _ g9
      have gt11 := e11 _ _ gt9
      refine ⟨.ref p3, rfl, p3, rfl, ⟨_, SqL.of (of_hid gl11).1⟩, fun p5 np5 => ?_⟩
      obtain ⟨b1, b2, b3⟩ := dk11.ne np5
      obtain ⟨e12, g12⟩ := dk11.hidNew (o := .lst []) np5
      have np5' : hid D A H11 p5 = none := hid_none np5
      refine lc_list (K := K) (a := p3) (xs := vl) (fun j H' => Deck D A B H' ∧ Ex (hid D A H11) (hid D A H') ∧ ∃ bs : List Int, hid D A H' p5 = some (.lst (bs.map V.int)) ∧ bs.length ≤ j)
        ⟨dk11.new np5, e12, [], g12, Nat.le_refl _⟩ (fun j H' _ z => SqL.of (of_hid (z.2.1 _ _ gl11)).1) ?_ ?_
      · rintro j x H12 hx ⟨dk12, e12, bs, g12, hbs⟩
        have hj : j < ls.length := by
          rw [← hvl]
          exact (List.getElem?_eq_some_iff.mp hx).1
        obtain ⟨pr, hpr⟩ : ∃ pr, ls[j]? = some pr := ⟨ls[j], List.getElem?_eq_getElem hj⟩
        have e1112 := e11.trans e12
        obtain ⟨c, hc1, hc2⟩ := (psl.ex e1112).get hpr
        have ex : x = .ref c := Option.some.inj (hx.symm.trans hc1)
        subst ex
        have hpb := hls pr (List.mem_of_getElem? hpr)
        have gt12 := e12 _ _ gt11
        have rowT : RowAt K H12 p2 (ab.map fun x => (x, 0)) := ⟨vt, .inl (SqL.of (of_hid gt12).1), (pst9.ex e1112).ex ex_hid⟩
        refine ⟨c, _, rfl, ex_t ex_hid hc2, rfl, .int pr.1, [.int pr.2], rfl, .int pr.2, [], rfl, rfl, rfl, ?_⟩
        refine ⟨_, rfl, .ref p2, rfl, .int pr.1, rfl, p2, _, pr.1, rfl, rowT, wfT, hpb.1, by rw [List.length_map]; exact hpb.2.1, by rw [List.length_map]; omega, fun u H13 nu e13 gu => ?_⟩
        have dk13 := dk12.ex e13
        have e13' := hidEx (D := D) (A := A) e13
        have g13 := e13' _ _ g12
        refine ⟨u, _, rfl, .inl (SqL.of gu), rfl, flat_ints _, _, rfl, ?_⟩
        refine ite2 (fun _ => ?_) (fun _ => ?_)
        · refine ⟨.int pr.2, rfl, _, (of_hid g13).1, by rw [List.length_map]; exact small1000 (by omega), dk13.put ⟨_, (of_hid g13).1⟩ b1 b2 b3, ?_, bs ++ [pr.2], ?_, by rw [List.length_append]; simp; omega⟩
          · rw [hid_upd b1 b2]
            exact (e12.trans e13').mut np5'
          · rw [hid_upd b1 b2, upd_same, List.map_append]
            rfl
        · exact ⟨dk13, e12.trans e13', bs, g13, by omega⟩
      rintro H12 ⟨dk12, e12, bs, g12, hbs⟩
      -- some
      have hB : SqL K H12 p5 (bs.map V.int) := SqL.of (of_hid g12).1
      refine ⟨.ref p5, rfl, p5, bs, rfl, hB, .ref p5, rfl, p5, bs, rfl, hB, _, 1, rfl, rfl, .ref p5, rfl, p5, bs, rfl, hB, _, 2, rfl, rfl, ⟨by decide, by decide⟩, .ref p5, rfl, p5, bs, rfl, hB, ?_⟩
      refine ⟨.ref p5, rfl, (by show 1 ≤ sizeLine; decide), fun q1 nq1 => ?_⟩
      obtain ⟨e13, g13⟩ := dk12.hidNew (o := .lst [.int 1]) nq1
      have dk13 := dk12.new (o := .lst [.int 1]) nq1
      have g12' := e13 _ _ g12
      generalize upd H12 q1 (.lst [.int 1]) = H13 at dk13 e13 g13 g12' ⊢
      refine ⟨p5, q1, _, _, rfl, rfl, (of_hid g12').1, (of_hid g13).1, by rw [List.length_map]; exact Nat.le_of_lt (small1000 (by simp; omega)), fun q2 nq2 => ?_⟩
      obtain ⟨e14, g14⟩ := dk13.hidNew (o := .lst (bs.map V.int ++ [.int 1])) nq2
      have dk14 := dk13.new (o := .lst (bs.map V.int ++ [.int 1])) nq2
      have g12'' := e14 _ _ g12'
      generalize upd H13 q2 (.lst (bs.map V.int ++ [.int 1])) = H14 at dk14 e14 g14 g12'' ⊢
      obtain ⟨z, hz⟩ : ∃ z : Int, (bs.map V.int ++ [V.int 1])[0]? = some (.int z) := by
        cases bs with
        | nil => exact ⟨1, rfl⟩
        | cons y r => exact ⟨y, rfl⟩
      have hB2 : SqL K H14 p5 (bs.map V.int) := SqL.of (of_hid g12'').1
      refine ⟨q2, _, 0, _, rfl, rfl, SqL.of (of_hid g14).1, atI_nat (j := 0) hz, _, z, rfl, rfl, .ref p5, rfl, p5, bs, rfl, hB2, 2, _, rfl, rfl, .inl ⟨by decide, by decide⟩, (by show 6 ≤ sizeLine; decide), fun p6 np6 => ?_⟩
      have ezs : [V.int bs.sum, V.int (bs.sum - 1), V.int (bs.sum / 2), V.int (bs.sum - z), V.int 0, V.int (2 * bs.sum)] = [bs.sum, bs.sum - 1, bs.sum / 2, bs.sum - z, 0, 2 * bs.sum].map V.int := rfl
      obtain ⟨zs, ezs2, hzl⟩ : ∃ zs : List Int, [V.int bs.sum, V.int (bs.sum - 1), V.int (bs.sum / 2), V.int (bs.sum - z), V.int 0, V.int (2 * bs.sum)] = zs.map V.int ∧ zs.length = 6 := ⟨_, ezs, rfl⟩
      obtain ⟨e15, g15⟩ := dk14.hidNew (o := .lst [V.int bs.sum, V.int (bs.sum - 1), V.int (bs.sum / 2), V.int (bs.sum - z), V.int 0, V.int (2 * bs.sum)]) np6
      have dk15 := dk14.new (o := .lst [V.int bs.sum, V.int (bs.sum - 1), V.int (bs.sum / 2), V.int (bs.sum - z), V.int 0, V.int (2 * bs.sum)]) np6
      have e1115 : Ex (hid D A H11) (hid D A (upd H14 p6 (.lst [V.int bs.sum, V.int (bs.sum - 1), V.int (bs.sum / 2), V.int (bs.sum - z), V.int 0, V.int (2 * bs.sum)]))) := e12.trans (e13.trans (e14.trans e15))
      generalize upd H14 p6 (.lst [V.int bs.sum, V.int (bs.sum - 1), V.int (bs.sum / 2), V.int (bs.sum - z), V.int 0, V.int (2 * bs.sum)]) = H15 at dk15 g15 e1115 ⊢
      rw [ezs2] at g15
      -- mark = pick(deck, some + [step * draw(deck, 9)])
      refine ⟨.ref D, rfl, .ref p6, rfl, .int st, rfl, .ref D, rfl, D, A, B, 9, rfl, by decide, by decide, dk15, fun r6 H16 r60 r61 dk16 kp16 => ?_⟩
      have e1116 := e1115.trans kp16.hid
      have g16 := kp16.hid _ _ g15
      refine ⟨st, r6, rfl, rfl, .inl ⟨by omega, by omega⟩, (by show 1 ≤ sizeLine; decide), fun q3 nq3 => ?_⟩
      obtain ⟨e17, g17⟩ := dk16.hidNew (o := .lst [.int (st * r6)]) nq3
      have dk17 := dk16.new (o := .lst [.int (st * r6)]) nq3
      have g16' := e17 _ _ g16
      have e1117 := e1116.trans e17
      generalize upd H16 q3 (.lst [.int (st * r6)]) = H17 at dk17 g17 g16' e1117 ⊢
      refine ⟨p6, q3, _, _, rfl, rfl, (of_hid g16').1, (of_hid g17).1, by rw [List.length_map]; exact Nat.le_of_lt (small1000 (by simp; omega)), fun q4 nq4 => ?_⟩
      obtain ⟨e18, g18'⟩ := dk17.hidNew (o := .lst (zs.map V.int ++ [.int (st * r6)])) nq4
      have dk18 := dk17.new (o := .lst (zs.map V.int ++ [.int (st * r6)])) nq4
      have e1118 := e1117.trans e18
      obtain ⟨l1, l2, l3⟩ := dk17.ne nq4
      generalize upd H17 q4 (.lst (zs.map V.int ++ [.int (st * r6)])) = H18 at dk18 g18' e1118 ⊢
      refine ⟨D, A, B, q4, _, rfl, dk18, fun _ kp => SqL.of (kp _ _ (of_hid g18').1 l1 l2), by simp, by rw [List.length_append, List.length_map]; simp; omega, fun v H19 hv dk19 kp19 => ?_⟩
      obtain ⟨mk, rfl⟩ : ∃ mk : Int, v = .int mk := by
        rcases List.mem_append.mp hv with hv | hv
        · obtain ⟨y, _, rfl⟩ := List.mem_map.mp hv
          exact ⟨y, rfl⟩
        · exact ⟨_, List.mem_singleton.mp hv⟩
      have e1119 := e1118.trans kp19.hid
      have e919 := e11.trans e1119
      have g119 := e919 _ _ g19
      have g419 := e1119 _ _ g11
      -- found.append((above[fuse], int(max(0, min(3000, mark)))))
      have gabi : (ab.map V.int)[i]? = some (.int ab[i]) := by rw [List.getElem?_map, List.getElem?_eq_getElem hi2] <;> rfl
      refine ⟨.ref p4, rfl, .inl ⟨rfl, _, SqL.of (of_hid g419).1⟩, .ref p1, rfl, _, rfl, p1, _, (0 : Int) + (i : Int), .int ab[i], rfl, rfl, SqL.of (of_hid g119).1, by rw [ei]; exact atI_nat gabi, ?_⟩
      refine ⟨.int mk, rfl, 3000, mk, rfl, 0, _, rfl, .inl ⟨_, rfl, (by show 2 ≤ sizeLine; decide), fun t nt => ?_⟩⟩
      obtain ⟨m, hm⟩ : ∃ m : Int, (if (if mk < 3000 then mk else 3000) > 0 then (if mk < 3000 then mk else 3000) else 0) = m := ⟨_, rfl⟩
      have hm0 : 0 ≤ m ∧ m ≤ 3000 := by
        rw [← hm]
        split <;> split <;> omega
      obtain ⟨e20, g20⟩ := dk19.hidNew (o := .tup [.int ab[i], .int (if (if mk < 3000 then mk else 3000) > 0 then (if mk < 3000 then mk else 3000) else 0)]) nt
      have dk20 := dk19.new (o := .tup [.int ab[i], .int (if (if mk < 3000 then mk else 3000) > 0 then (if mk < 3000 then mk else 3000) else 0)]) nt
      have e1120 := e1119.trans e20
      have e920 := e919.trans e20
      have g420 := e20 _ _ g419
      have gtt : t ≠ p4 := (ne_of_none (of_hid g419).1 nt).symm
      generalize upd H19 t (.tup [.int ab[i], .int (if (if mk < 3000 then mk else 3000) > 0 then (if mk < 3000 then mk else 3000) else 0)]) = H20 at dk20 g20 e1120 e920 g420 ⊢
      rw [hm] at g20
      have psn : PsAt K (hid D A H20) (vf ++ [.ref t]) (fs ++ [(ab[i], m)]) := (psf.ex e1120).snoc (SqT.of g20)
      have hfl : fs.length ≤ 20 := by
        have z := congrArg List.length hfs
        rw [List.length_map, List.length_take] at z
        omega
      refine ⟨p4, _, _, rfl, rfl, (of_hid g420).1, by rw [psf.1]; exact small1000 (by omega), vf ++ [.ref t], fs ++ [(ab[i], m)], _, _, _, _, rfl, dk20.put ⟨_, (of_hid g420).1⟩ f1 f2 f3, ?_, ?_, ?_, ?_, ?_⟩
      · rw [hid_upd f1 f2]
        exact e920.mut np4'
      · rw [hid_upd f1 f2, upd_same]
      · rw [hid_upd f1 f2]
        exact psList g420 psn
      · rw [List.map_append, hfs, List.take_add_one, List.getElem?_eq_getElem hi2]
        rfl
      · intro pr hp
        rcases List.mem_append.mp hp with hp | hp
        · exact hmk pr hp
        · have := List.mem_singleton.mp hp
          subst this
          exact hm0
    rintro σ H11 ⟨vf, fs, y9, y10, y11, y12, rfl, dk11, e11, g11, psf, hfs, hmk⟩
    rw [List.length_map, Int.toNat_natCast, List.take_of_length_le (Nat.le_refl _)] at hfs
    have hfl : fs.length = ab.length := by
      have z := congrArg List.length hfs
      rw [List.length_map] at z
      exact z
    have gl11 := e11 _ _ g9
    -- return (tuple(found), tuple(hung))
    refine ⟨.ref p4, rfl, p4, vf, rfl, .inl ⟨SqL.of (of_hid g11).1, fun t1 nt1 => ?_⟩⟩
    obtain ⟨e12, g12⟩ := dk11.hidNew (o := .tup vf) nt1
    have dk12 := dk11.new (o := .tup vf) nt1
    have gl12 := e12 _ _ gl11
    generalize upd H11 t1 (.tup vf) = H12 at dk12 e12 g12 gl12 ⊢
    refine ⟨.ref p3, rfl, p3, vl, rfl, .inl ⟨SqL.of (of_hid gl12).1, fun t2 nt2 => ?_⟩⟩
    obtain ⟨e13, g13⟩ := dk12.hidNew (o := .tup vl) nt2
    have dk13 := dk12.new (o := .tup vl) nt2
    have g12' := e13 _ _ g12
    have e1113 := e12.trans e13
    generalize upd H12 t2 (.tup vl) = H13 at dk13 e13 g13 g12' e1113 ⊢
    refine ⟨(by show 2 ≤ sizeLine; decide), fun t3 nt3 => ?_⟩
    obtain ⟨e14, g14⟩ := dk13.hidNew (o := .tup [.ref t1, .ref t2]) nt3
    have dk14 := dk13.new (o := .tup [.ref t1, .ref t2]) nt3
    have e1114 := e1113.trans e14
    have e914 := e11.trans e1114
    refine q t3 fs ls _ ⟨by rw [hfs]; exact wf, by omega, by omega, by omega, hmk, fun p hp => ?_, by rw [hfs]; exact rt⟩ (by omega) (by omega) ⟨t1, t2, vf, vl, SqT.of g14, SqT.of (e14 _ _ g12'), psf.ex e1114, SqT.of (e14 _ _ g13), psl.ex e914⟩ dk14 (kp_of_hid (e09.trans e914))
    rw [hfl]
    exact hls p hp
end
end FF
set_option maxHeartbeats 4000000
namespace FF
open PySem PySem.Spec PyProof.Rows L2 Evl
/-! ### firstfuse.loads -/
def preOwn : List PyData → (List PyData → Prop) → Prop := fun ds R => ∃ fs ls on, ds = [boardD fs ls, intsT on] ∧ WG fs ls ∧ OnOk ls on ∧ R (((rngI fs.length).map fun f => sumBy (drawsOf ls on) fun h => decide (h = f)).map .int)
def preDead : List PyData → (PyData → Prop) → Prop := fun ds R => ∃ fs ls bl, ds = [boardD fs ls, intsT bl] ∧ WG fs ls ∧ R (.list ((List.range fs.length).map fun (i : Nat) => .bool (deadF (fs.map (·.1)) bl i)))
def preLit : List PyData → (PyData → Prop) → Prop := fun ds R => ∃ fs ls on bl, ds = [boardD fs ls, intsT on, intsT bl] ∧ WG fs ls ∧ OnOk ls on ∧ R (intsT (litD (fs.map (·.1)) ls on bl))
def preLoads : List PyData → (PyData → Prop) → Prop := fun ds R => ∃ fs ls on bl, ds = [boardD fs ls, intsT on, intsT bl] ∧ WG fs ls ∧ OnOk ls on ∧ R (intsT (loadsD fs.length (fs.map (·.1)) ls (litD (fs.map (·.1)) ls on bl)))
def preLoad : List PyData → (PyData → Prop) → Prop := fun ds R => ∃ fs ls on bl f, ds = [boardD fs ls, intsT on, intsT bl, .int f] ∧ WG fs ls ∧ OnOk ls on ∧ 0 ≤ f ∧ f < fs.length ∧ R (.int (loadD (fs.map (·.1)) ls (litD (fs.map (·.1)) ls on bl) f))
theorem sc_own_draws : FnScope ["board", "on", "fuses", "lamps", "draws", "lamp", "fuse", "draw"] ["board", "on"] (defScope s_own_draws) := ⟨rfl, rfl, rfl, by decide +kernel, rfl, by decide +kernel, by decide +kernel⟩
theorem sc__dead : FnScope ["board", "blown", "dead", "fuse", "above", "_"] ["board", "blown"] (defScope s__dead) := ⟨rfl, rfl, rfl, by decide +kernel, rfl, by decide +kernel, by decide +kernel⟩
theorem sc_lit : FnScope ["board", "on", "blown", "lamps", "dead", "lamp"] ["board", "on", "blown"] (defScope s_lit) := ⟨rfl, rfl, rfl, by decide +kernel, rfl, by decide +kernel, by decide +kernel⟩
theorem sc_loads : FnScope ["board", "on", "blown", "fuses", "totals", "fuse"] ["board", "on", "blown"] (defScope s_loads) := ⟨rfl, rfl, rfl, by decide +kernel, rfl, by decide +kernel, by decide +kernel⟩
section
variable {P : Program} {w : World} {K : PySem.W.Frag} {mg : Str → Option Value} {base : Heap} {f : Addr} {fd : FuncData} {k : Nat}
theorem ok_own_draws (F : Fun K "own_draws" "own_draws" s_own_draws f fd) (mlen : mg "len" = none) : FnOk P w K mg base CX0 (k + 1) f fd ["board", "on"] (SpO K preOwn) :=
  ok_O F sc_own_draws (fun ds R h => by obtain ⟨_, _, _, rfl, _⟩ := h; rfl) fun cdv A outer s H E hr => ⟨_, (pss_cons (ps_asg (pv 0) (pg_tup rfl (pgs_cons (pg_name (i := 2) sc_own_draws.nd rfl (Or.inl rfl)) (pgs_cons (pg_name (i := 3) sc_own_draws.nd rfl (Or.inl rfl)) pgs_nil))))
      (pss_cons (ps_set (i := 4) sc_own_draws.nd rfl (.inl rfl) (pe_op op_rep (pe_lst (pa_cons pe_int pa_nil)) (pe_callB call_len_seq (by rfl) mlen PySem.boot_len (pa_cons (pv 2) pa_nil))))
      (pss_cons (ps_for PassesOwn.never rfl (pi_tup (pv 1)) (pg_name (i := 5) sc_own_draws.nd rfl (Or.inl rfl)) (pss_cons (ps_asg (pe_ix ix_tup (pv 3) (pv 5) (fun _ _ => rfl)) (pg_tup rfl (pgs_cons (pg_name (i := 6) sc_own_draws.nd rfl (Or.inl rfl)) (pgs_cons (pg_name (i := 7) sc_own_draws.nd rfl (Or.inl rfl)) pgs_nil))))
      (pss_one (ps_augS (pv 4) (pv 6) pget_list (pv 7) ip_add set_list))))
      (pss_one (ps_ret (pv 4)))))), fun ds R h => by
    obtain ⟨fs, ls, on, rfl, g, ho, hR⟩ := h
    -- fuses, lamps = board
    refine ss_seq (ss_unp sg_pair (se_var (i := 0) rfl) fun d e => ⟨_, ⟨e, rfl⟩, ?_⟩)
    -- draws = [0] * len(fuses)
    refine ss_seq (ss_setLQ (so_rep (so_lst (sa_cons se_int sa_nil)) (se_lenT (se_var (i := 2) rfl)) ?_ ?_) ?_)
    · have := g.few; simp; omega
    · have := g.few; simp; omega
    -- for lamp in on
    refine ss_seq (ss_for (fun ds i ρ => ∃ y5 y6 y7, ρ = [.e (.dat (boardD fs ls)), .e (.dat (intsT on)), .e (.dat (.tuple (fs.map pairD))), .e (.dat (.tuple (ls.map pairD))),
        .lst (((rngI fs.length).map fun f => sumBy (drawsOf ls (on.take i)) fun h => decide (h = f)).map .int), .e y5, .e y6, .e y7]) (si_tupQ (se_var (i := 1) rfl)) sg_name (fun ds e => ?_) (fun ds i d ρ e hd hI => ?_) fun ds ρ e hI => ?_)
    · refine ⟨.un, .un, .un, ?_⟩
      show [_, _, _, _, _, _, _, _] = _
      rw [List.length_map, zeros]
      rfl
    · subst e
      obtain ⟨y5, y6, y7, rfl⟩ := hI
      rw [List.getElem?_map] at hd
      cases c : on[i]? with
      | none => rw [c] at hd; cases hd
      | some l =>
        rw [c] at hd
        have ed : d = .int l := (Option.some.inj hd).symm
        subst ed
        have hl := ho.2 l (List.mem_of_getElem? c)
        obtain ⟨p, hp⟩ := get_of hl.1 hl.2
        have hh := g.hung p (List.mem_of_getElem? hp)
        have tk : on.take (i + 1) = on.take i ++ [l] := by rw [List.take_add_one, c]; rfl
        refine ⟨[.int l], rfl, ?_⟩
        -- fuse, draw = lamps[lamp]
        refine ss_seq (ss_unp sg_pair (se_ixT (se_var (i := 3) rfl) (se_var (i := 5) rfl) (atI_m hl.1 hp)) fun d e => ⟨_, ⟨e, rfl⟩, ?_⟩)
        -- draws[fuse] += draw
        refine ss_aug (i := 4) rfl (se_var (i := 6) rfl) (by rw [lenD_map]; exact ixN_of hh.1 hh.2.1) (getD_map hh.1 hh.2.1) (se_var (i := 7) rfl) ⟨.dat (.int l), .dat (.int p.1), .dat (.int p.2), ?_⟩
        show [_, _, _, _, _, _, _, _] = _
        rw [setD_map hh.1 hh.2.1, tk]
        congr 5
        congr 1
        congr 1
        refine map_ext fun x _ _ => ?_
        unfold drawsOf
        rw [List.map_append, sumBy_app, List.map_cons, List.map_nil, sumBy_cons, sumBy_nil, lampAt_of hp, Int.add_zero]
        by_cases e : x = p.1
        · subst e; rw [if_pos rfl, decide_eq_true rfl, if_pos rfl]
        · rw [if_neg e, if_neg (fun z => e (of_decide_eq_true z).symm), Int.add_zero]
    · subst e
      obtain ⟨y5, y6, y7, rfl⟩ := hI
      rw [List.length_map, List.take_of_length_le (Nat.le_refl _)]
      exact ss_retO (i := 4) rfl hR⟩
theorem ok_dead (F : Fun K "_dead" "_dead" s__dead f fd) (menumerate : mg "enumerate" = none) : FnOk P w K mg base CX0 (k + 1) f fd ["board", "blown"] (SpD K preDead) :=
  ok_D F sc__dead (fun ds R h => by obtain ⟨_, _, _, rfl, _⟩ := h; rfl) fun cdv A outer s H E hr => ⟨_, (pss_cons (ps_set (i := 2) sc__dead.nd rfl (.inl rfl) (pe_lst pa_nil))
      (pss_cons (ps_for PassesOwn.never rfl (pi_enT (by rfl) menumerate (pa_cons (pe_ix ix_tup (pv 0) pe_int (fun _ _ => rfl)) pa_nil)) (pg_tup rfl (pgs_cons (pg_name (i := 3) sc__dead.nd rfl (Or.inl rfl)) (pgs_cons (pg_tup rfl (pgs_cons (pg_name (i := 4) sc__dead.nd rfl (Or.inl rfl)) (pgs_cons (pg_name (i := 5) sc__dead.nd rfl (Or.inl rfl)) pgs_nil))) pgs_nil))) (pss_one (ps_expr (pe_bm PySem.F.plainAttrs_list PySem.F.slot_list_append PySem.F.type_list_append mt_append (pv 2) (pa_cons (pe_or (pe_cmpR op_in_seq (pv 3) (pv 1) (by rfl)) (pe_one (pe_and (pe_cmpR op_ge (pv 4) pe_int (nomark _)) (pe_one (pe_ix ix_list (pv 2) (pv 4) (fun _ _ => rfl)))))) pa_nil)))))
      (pss_one (ps_ret (pv 2))))), fun ds R h => by
    obtain ⟨fs, ls, bl, rfl, g, hR⟩ := h
    refine ss_seq (ss_setLQ (so_lst sa_nil) ?_)
    refine ss_seq (ss_for (fun ds i ρ => ∃ y3 y4 y5, ρ = [.e (.dat (boardD fs ls)), .e (.dat (intsT bl)), .lst ((List.range i).map fun (j : Nat) => .bool (deadF (fs.map (·.1)) bl j)), .e y3, .e y4, .e y5])
      (si_enT (sa_cons (se_ixT (se_var (i := 0) rfl) se_int (atI_nat (j := 0) rfl)) sa_nil)) sg_nest (fun ds e => ⟨.un, .un, .un, rfl⟩) (fun ds i d ρ e hd hI => ?_) fun ds ρ e hI => ?_)
    · subst e
      obtain ⟨y3, y4, y5, rfl⟩ := hI
      rw [enumD_get, List.getElem?_map] at hd
      cases c : fs[i]? with
      | none => rw [c] at hd; cases hd
      | some p =>
        rw [c] at hd
        have ed : d = .tuple [.int ((0 + i : Nat) : Int), .tuple [.int p.1, .int p.2]] := (Option.some.inj hd).symm
        have e0 : ((0 + i : Nat) : Int) = (i : Int) := by rw [Nat.zero_add]
        rw [e0] at ed
        subst ed
        have hi : i < fs.length := (List.getElem?_eq_some_iff.mp c).1
        obtain ⟨a1, a2, _⟩ := g.wf.abv c
        have few := g.few
        refine ⟨_, ⟨.int i, [.int p.1, .int p.2], rfl, rfl, rfl⟩, ?_⟩
        refine ss_appV (i := 2) rfl (se_orV (se_inT (se_var (i := 3) rfl) (se_var (i := 1) rfl)) fun _ => se_andV (se_rI0b (f := fun i j => decide (j ≤ i)) (se_var (i := 4) rfl) se_int) fun c0 => se_ixL (d := .bool (deadF (fs.map (·.1)) bl p.1)) (se_var (i := 2) rfl) (se_var (i := 4) rfl) ?_) (fun d e => by rw [e]; rfl) ?_ fun d e => ⟨.dat (.int (i : Int)), .dat (.int p.1), .dat (.int p.2), ?_⟩
        · have c1 : 0 ≤ p.1 := of_decide_eq_true c0
          exact at_dead c1 a2
        · rw [List.length_map, List.length_range]; omega
        · subst e
          show [_, _, _, _, _, _] = _
          rw [← deadF_up g.wf c, List.range_succ, List.map_append]
          rfl
    · subst e
      obtain ⟨y3, y4, y5, rfl⟩ := hI
      rw [enumD_len, List.length_map]
      exact ss_retQ (se_var (i := 2) rfl) hR⟩
theorem ok_lit (F : Fun K "lit" "lit" s_lit f fd) (cDE : Cal P w K mg base k "_dead" ["board", "blown"] (SpD K preDead)) (mtuple : mg "tuple" = none) : FnOk P w K mg base CX0 (k + 1) f fd ["board", "on", "blown"] (SpD K preLit) :=
  ok_D F sc_lit (fun ds R h => by obtain ⟨_, _, _, _, rfl, _⟩ := h; rfl) fun cdv A outer s H E hr => ⟨_, (pss_cons (ps_set (i := 3) sc_lit.nd rfl (.inr rfl) (pe_ix ix_tup (pv 0) pe_int (fun _ _ => rfl)))
      (pss_cons (ps_set (i := 4) sc_lit.nd rfl (.inr rfl) (pe_cal cDE hr (by rfl) (pa_cons (pv 0) (pa_cons (pv 2) pa_nil))))
      (pss_one (ps_ret (pe_callTy call_tuple_of (by rfl) mtuple (by decide +kernel) (pa_cons (pe_lc (own := [("lamp", 5)]) (g := (gName 5)) (by rfl) sc_lit.nd (pi_tup (pv 1)) (blkOk_by (own := [("lamp", 5)]) (N := ["board", "on", "blown", "lamps", "dead", "lamp"]) (sc := (defScope s_lit)) (by decide +kernel)) (fun _ _ _ _ _ => (pg_name (i := 5) sc_lit.nd rfl (Or.inl rfl))) (fun _ _ _ _ _ => pts_one (pt_not (pt_val (pe_ix ix_list (pv 4) (pe_ix ix_tup (pe_ix ix_tup (pv 3) (pv 5) (fun _ _ => rfl)) pe_int (fun _ _ => rfl)) (fun _ _ => rfl))))) (fun _ _ _ _ _ => (pv 5))) pa_nil)))))), fun ds R h => by
    obtain ⟨fs, ls, on, bl, rfl, g, ho, hR⟩ := h
    refine ss_seq (ss_setQ (se_ixT (se_var (i := 0) rfl) se_int (atI_nat (j := 1) rfl)) ?_)
    refine ss_seq (ss_setQ (se_call (sa_cons (se_var (i := 0) rfl) (sa_cons (se_var (i := 2) rfl) sa_nil)) ⟨fs, ls, bl, rfl, g, rfl⟩) ?_)
    refine ss_retQ (se_tupleL (so_lcM (K := K) on .int (fun l => [.int l]) (fun l => !deadF (fs.map (fun (q : Int × Int) => q.1)) bl (lampAt ls l).1) (fun l => .int l) (si_tupQ (se_var (i := 1) rfl)) sg_name (by decide) ?_ (fun l _ => ⟨rfl, rfl⟩) (fun l hl => ?_) fun l _ _ => se_var (i := 5) rfl).q) hR
    · have := ho.1; omega
    · have hl := ho.2 l hl
      obtain ⟨p, hp⟩ := get_of hl.1 hl.2
      have hh := g.hung p (List.mem_of_getElem? hp)
      rw [lampAt_of hp]
      refine st_not (st_b (se_ixL (se_var (i := 4) rfl) (se_ixT (se_ixT (se_var (i := 3) rfl) (se_var (i := 5) rfl) (atI_m hl.1 hp)) se_int (atI_nat (j := 0) rfl)) ?_))
      exact at_dead hh.1 hh.2.1⟩
theorem ok_loads (F : Fun K "loads" "loads" s_loads f fd) (cLT : Cal P w K mg base k "lit" ["board", "on", "blown"] (SpD K preLit)) (cOW : Cal P w K mg base k "own_draws" ["board", "on"] (SpO K preOwn)) (mlen : mg "len" = none) (mrange : mg "range" = none) (mtuple : mg "tuple" = none) :
    FnOk P w K mg base CX0 (k + 1) f fd ["board", "on", "blown"] (SpD K preLoads) :=
  ok_D F sc_loads (fun ds R h => by obtain ⟨_, _, _, _, rfl, _⟩ := h; rfl) fun cdv A outer s H E hr => ⟨_, (pss_cons (ps_set (i := 3) sc_loads.nd rfl (.inl rfl) (pe_ix ix_tup (pv 0) pe_int (fun _ _ => rfl)))
      (pss_cons (ps_set (i := 4) sc_loads.nd rfl (.inl rfl) (pe_cal cOW hr (by rfl) (pa_cons (pv 0) (pa_cons (pe_cal cLT hr (by rfl) (pa_cons (pv 0) (pa_cons (pv 1) (pa_cons (pv 2) pa_nil)))) pa_nil))))
      (pss_cons (ps_for PassesOwn.never rfl (pi_range3 (by rfl) mrange (pa_cons (pe_op op_sub (pe_callB call_len_seq (by rfl) mlen PySem.boot_len (pa_cons (pv 3) pa_nil)) pe_int) (pa_cons pe_int (pa_cons (pe_un un_neg pe_int) pa_nil)))) (pg_name (i := 5) sc_loads.nd rfl (Or.inl rfl)) (pss_one (ps_augS (pv 4) (pe_ix ix_tup (pe_ix ix_tup (pv 3) (pv 5) (fun _ _ => rfl)) pe_int (fun _ _ => rfl)) pget_list (pe_ix ix_list (pv 4) (pv 5) (fun _ _ => rfl)) ip_add set_list)))
      (pss_one (ps_ret (pe_callTy call_tuple_of (by rfl) mtuple (by decide +kernel) (pa_cons (pv 4) pa_nil))))))), fun ds R h => by
    obtain ⟨fs, ls, on, bl, rfl, g, ho, hR⟩ := h
    have few := g.few
    have one := g.one
    have ho' := litD_ok (ab := fs.map (·.1)) (bl := bl) ho
    have hw := hung_of g ho'
    have hw1 : ∀ x ∈ drawsOf ls (litD (fs.map (·.1)) ls on bl), x.1 < (fs.map (·.1)).length := fun x hx => by rw [List.length_map]; exact (hw x hx).2.1
    refine ss_seq (ss_setQ (se_ixT (se_var (i := 0) rfl) se_int (atI_nat (j := 0) rfl)) ?_)
    refine ss_seq (ss_setL (so_call (sa_cons (se_var (i := 0) rfl) (sa_cons (se_call (sa_cons (se_var (i := 0) rfl) (sa_cons (se_var (i := 1) rfl) (sa_cons (se_var (i := 2) rfl) sa_nil))) ⟨fs, ls, on, bl, rfl, g, ho, rfl⟩) sa_nil)) ⟨fs, ls, _, rfl, g, ho', rfl⟩) fun es e => ?_)
    subst e
    refine ss_seq (ss_for (fun ds i ρ => ∃ y5, ρ = [.e (.dat (boardD fs ls)), .e (.dat (intsT on)), .e (.dat (intsT bl)), .e (.dat (.tuple (fs.map pairD))),
        .lst (((rngI fs.length).map fun f => handed (fs.map (·.1)) (drawsOf ls (litD (fs.map (·.1)) ls on bl)) ((fs.length : Int) - 1 - (i : Nat)) f).map .int), .e y5])
      (si_rng3 (n := fs.length - 1) (sa_cons (se_rI0 (f := fun i j => i - j) (se_lenT (se_var (i := 3) rfl)) se_int) (sa_cons se_int (sa_cons (se_neg se_int) sa_nil))) ?_) sg_name (fun ds e => ⟨.un, ?_⟩) (fun ds i d ρ e hd hI => ?_) fun ds ρ e hI => ?_)
    · rw [List.length_map]
      have h := RgC.neg (i := (fs.length : Int) - 1) (j := 0) (by omega) (by omega) (by omega) (by omega)
      have e : ((fs.length : Int) - 1 - 0).toNat = fs.length - 1 := by omega
      rw [e] at h
      exact h
    · show [_, _, _, _, _, _] = _
      congr 5
      congr 1
      congr 1
      refine map_ext fun x _ _ => ?_
      rw [handed_top (by rw [List.length_map]; omega) fun y hy => ?_]
      have := hw y hy
      rw [List.length_map]
      exact ⟨this.1, this.2.1⟩
    · subst e
      obtain ⟨y5, rfl⟩ := hI
      unfold rngD at hd
      rw [List.getElem?_map] at hd
      have hi : i < fs.length - 1 := by
        by_cases c : i < fs.length - 1
        · exact c
        · rw [List.getElem?_eq_none (by rw [List.length_range]; omega)] at hd
          cases hd
      rw [List.getElem?_range hi] at hd
      have ed := (Option.some.inj hd).symm
      rw [List.length_map] at ed
      have ek : (fs.length : Int) - 1 + (i : Nat) * (-1) = (fs.length : Int) - 1 - (i : Nat) := by omega
      replace ed : d = .int ((fs.length : Int) - 1 - (i : Nat)) := by rw [ed]; show PyData.int _ = _; rw [ek]
      subst ed
      obtain ⟨x, hx⟩ : ∃ x : Int, (fs.length : Int) - 1 - (i : Nat) = x := ⟨_, rfl⟩
      have x1 : 1 ≤ x := by omega
      have x2 : x < fs.length := by omega
      have hx' : (fs.length : Int) - 1 - ((i + 1 : Nat)) = x - 1 := by omega
      rw [hx, hx']
      obtain ⟨p, hp⟩ := get_of (xs := fs) (x := x) (by omega) x2
      obtain ⟨a1, a2, a3⟩ := g.wf.abv hp
      have p0 : 0 ≤ p.1 := g.root x.toNat p.1 (by rw [List.getElem?_map, hp]; rfl) (by omega)
      have ex : ((x.toNat : Nat) : Int) = x := by omega
      rw [ex] at a2
      refine ⟨[.int x], rfl, ?_⟩
      -- totals[fuses[fuse][0]] += totals[fuse]
      refine ss_aug (i := 4) (kk := p.1) rfl (se_ixT (se_ixT (se_var (i := 3) rfl) (se_var (i := 5) rfl) (atI_m (by omega) hp)) se_int (atI_nat (j := 0) rfl)) (by rw [lenD_map]; exact ixN_of p0 (by omega)) (getD_map p0 (by omega))
        (se_ixL (se_var (i := 4) rfl) (se_var (i := 5) rfl) (atI_map (by omega) (by omega))) ⟨.dat (.int x), ?_⟩
      show [_, _, _, _, _, _] = _
      rw [setD_map p0 (by omega)]
      congr 5
      congr 1
      congr 1
      refine map_ext fun y y0 y1 => ?_
      rw [handed_step g.wf (by omega) (by rw [List.length_map]; omega) hw1 y y0, a3]
      by_cases c : y = p.1
      · rw [if_pos c, if_pos c, c]
      · rw [if_neg c, if_neg c]
    · subst e
      obtain ⟨y5, rfl⟩ := hI
      refine ss_retQ (se_tupleL (se_var (i := 4) rfl)) ?_
      have el : (fs.length : Int) - 1 - ((rngD ((fs.length : Int) - 1) (-1) (fs.length - 1)).length : Nat) = 0 := by
        unfold rngD
        rw [List.length_map, List.length_range]
        omega
      have e2 : (fun f => handed (fs.map (·.1)) (drawsOf ls (litD (fs.map (·.1)) ls on bl)) ((fs.length : Int) - 1 - ((rngD (((fs.map pairD).length : Nat) - 1 : Int) (-1) (fs.length - 1)).length : Nat)) f) = loadD (fs.map (·.1)) ls (litD (fs.map (·.1)) ls on bl) := by
        funext f
        rw [List.length_map, el]
        exact handed_zero g.wf hw1 f
      show R (.tuple (((rngI fs.length).map fun f => handed (fs.map (·.1)) (drawsOf ls (litD (fs.map (·.1)) ls on bl)) ((fs.length : Int) - 1 - ((rngD (((fs.map pairD).length : Nat) - 1 : Int) (-1) (fs.length - 1)).length : Nat)) f).map .int))
      rw [e2]
      exact hR⟩
end
end FF
set_option maxHeartbeats 4000000
namespace FF
open PySem PySem.Spec PyProof.Rows L2 Evl
/-! ### the law's own light and loads -/
def preWay : List PyData → (List PyData → Prop) → Prop := fun ds R => ∃ (ps : List (Int × Int)) (a : Int), ds = [.tuple (ps.map pairD), .int a] ∧ WF (ps.map (·.1)) ∧ 0 ≤ a ∧ a < ps.length ∧ ps.length ≤ 100 ∧ R ((way (ps.map (·.1)) a).map .int)
theorem dqa_ps {K : PySem.W.Frag} {H : Hp} : ∀ {vs : List V} {ps : List (Int × Int)}, DqA K H vs (ps.map pairD) → PsAt K H vs ps
  | [], [], _ => PsAt.nil
  | _, p :: ps, h => by
    cases h with
    | @cons v vs _ _ a b =>
      obtain ⟨t, xs, rfl, ht, hx⟩ := dq_tup a
      obtain ⟨u1, u2, rfl, k1, k2⟩ := dqa2 hx
      rw [dq_int k1, dq_int k2] at ht
      have ih := dqa_ps b
      refine ⟨by rw [List.length_cons, List.length_cons, ih.1], fun i v q h1 h2 => ?_⟩
      match i, h1, h2 with
      | 0, h1, h2 => cases h1; cases h2; exact ⟨t, rfl, ht⟩
      | i + 1, h1, h2 => exact ih.2 i v q h1 h2
theorem wayO {P : Program} {w : World} {K : PySem.W.Frag} {mg : Str → Option Value} {base : Heap} {CX : CXT} {k : Nat} {f : Addr} {fd : FuncData} {ps : List Str} (F : FnOk P w K mg base CX k f fd ps (spWay K)) : FnOk P w K mg base CX k f fd ps (SpO K preWay) := F.imp fun vs H Q E h => by
  obtain ⟨G, ds, R, b, ha, ⟨ps, a, rfl, wf, a0, a1, hl, hR⟩, q⟩ := h
  obtain ⟨v, u, rfl, hd, he⟩ := dqa2 ha
  obtain ⟨t, xs, rfl, ht, hx⟩ := dq_tup hd
  refine ⟨t, ps, a, by rw [dq_int he], ⟨xs, .inr (ex_t b.ex ht), (dqa_ps hx).ex b.ex⟩, wf, a0, a1, hl, fun p H2 np e g => ?_⟩
  exact q p _ _ G H2 hR ⟨Ex.refl _, b.ex.trans e, Kz.of e, fun _ _ h _ _ => h, trivial⟩ np (none_of b.ex np) g ints_dqa
theorem sc__law_lit : FnScope ["_law_board_here", "_law_on", "_law_blown", "_law_found", "_law_lamp", "_law_fuse"] ["_law_board_here", "_law_on", "_law_blown"] (defScope sL_lit) := ⟨rfl, rfl, rfl, by decide +kernel, rfl, by decide +kernel, by decide +kernel⟩
theorem sc__law_loads : FnScope ["_law_board_here", "_law_on", "_law_blown", "_law_found", "_law_lamp", "_law_fuse"] ["_law_board_here", "_law_on", "_law_blown"] (defScope sL_loads) := ⟨rfl, rfl, rfl, by decide +kernel, rfl, by decide +kernel, by decide +kernel⟩
section
variable {P : Program} {w : World} {K : PySem.W.Frag} {mg : Str → Option Value} {base : Heap} {f : Addr} {fd : FuncData} {k : Nat}
def preLLit : List PyData → (PyData → Prop) → Prop := fun ds R => ∃ fs ls on bl, ds = [boardD fs ls, intsT on, intsT bl] ∧ WG fs ls ∧ fs.length ≤ 100 ∧ OnOk ls on ∧ R (intsT (litD (fs.map (·.1)) ls on bl))
def preLLoads : List PyData → (List PyData → Prop) → Prop := fun ds R => ∃ fs ls on bl, ds = [boardD fs ls, intsT on, intsT bl] ∧ WG fs ls ∧ fs.length ≤ 100 ∧ OnOk ls on ∧ R ((loadsD fs.length (fs.map (·.1)) ls (litD (fs.map (·.1)) ls on bl)).map .int)
theorem ok_llit (F : Fun K "_law_lit" "_law_lit" sL_lit f fd) (cWY : Cal P w K mg base k "_law_way" ["_law_fuses", "_law_fuse"] (SpO K preWay)) (mtuple : mg "tuple" = none) : FnOk P w K mg base CX0 (k + 1) f fd ["_law_board_here", "_law_on", "_law_blown"] (SpD K preLLit) :=
  ok_D F sc__law_lit (fun ds R h => by obtain ⟨_, _, _, _, rfl, _⟩ := h; rfl) fun cdv A outer s H E hr => ⟨_, (pss_cons (ps_set (i := 3) sc__law_lit.nd rfl (.inl rfl) (pe_lst pa_nil))
      (pss_cons (ps_for PassesOwn.never rfl (pi_tup (pv 1)) (pg_name (i := 4) sc__law_lit.nd rfl (Or.inl rfl)) (pss_one (ps_if (pt_cmpR (op_eqD hr.units) (pe_lc (own := [("_law_fuse", 5)]) (g := (gName 5)) (by rfl) sc__law_lit.nd (pi_list (pe_cal cWY hr (by rfl) (pa_cons (pe_ix ix_tup (pv 0) pe_int (fun _ _ => rfl)) (pa_cons (pe_ix ix_tup (pe_ix ix_tup (pe_ix ix_tup (pv 0) pe_int (fun _ _ => rfl)) (pv 4) (fun _ _ => rfl)) pe_int (fun _ _ => rfl)) pa_nil)))) (blkOk_by (own := [("_law_fuse", 5)]) (N := ["_law_board_here", "_law_on", "_law_blown", "_law_found", "_law_lamp", "_law_fuse"]) (sc := (defScope sL_lit)) (by decide +kernel)) (fun _ _ _ _ _ => (pg_name (i := 5) sc__law_lit.nd rfl (Or.inl rfl))) (fun _ _ _ _ _ => pts_one (pt_cmpR op_in_seq (pv 5) (pv 2) (by rfl))) (fun _ _ _ _ _ => (pv 5))) (pe_lst pa_nil) (nomark _)) (pss_one (ps_expr (pe_bm PySem.F.plainAttrs_list PySem.F.slot_list_append PySem.F.type_list_append mt_append (pv 3) (pa_cons (pv 4) pa_nil)))) pss_nil)))
      (pss_one (ps_ret (pe_callTy call_tuple_of (by rfl) mtuple (by decide +kernel) (pa_cons (pv 3) pa_nil)))))), fun ds R h => by
    obtain ⟨fs, ls, on, bl, rfl, g, few, ho, hR⟩ := h
    refine ss_seq (ss_setLQ (so_lst sa_nil) ?_)
    refine ss_seq (ss_for (fun ds i ρ => ∃ y4, ρ = [.e (.dat (boardD fs ls)), .e (.dat (intsT on)), .e (.dat (intsT bl)), .lst ((litD (fs.map (·.1)) ls (on.take i) bl).map .int), .e y4, .e .un]) (si_tupQ (se_var (i := 1) rfl)) sg_name (fun ds e => ⟨.un, rfl⟩) (fun ds i d ρ e hd hI => ?_) fun ds ρ e hI => ?_)
    · subst e
      obtain ⟨y4, rfl⟩ := hI
      rw [List.getElem?_map] at hd
      cases c : on[i]? with
      | none => rw [c] at hd; cases hd
      | some l =>
        rw [c] at hd
        have ed : d = .int l := (Option.some.inj hd).symm
        subst ed
        have hl := ho.2 l (List.mem_of_getElem? c)
        obtain ⟨p, hp⟩ := get_of hl.1 hl.2
        have hh := g.hung p (List.mem_of_getElem? hp)
        have tk : on.take (i + 1) = on.take i ++ [l] := by rw [List.take_add_one, c]; rfl
        refine ⟨[.int l], rfl, ?_⟩
        have sh : SeqAt.shaped (.list (((way (fs.map (·.1)) p.1).filter fun x => decide (x ∈ bl)).map .int)) = true := shaped_ints _
        refine ss_ifQ (st_t (se_eqD (K := K) (so_lcM (K := K) (way (fs.map (·.1)) p.1) .int (fun x => [.int x]) (fun x => decide (x ∈ bl)) .int (si_listQ (so_call (sa_cons (se_ixT (se_var (i := 0) rfl) se_int (atI_nat (j := 0) rfl))
            (sa_cons (se_ixT (se_ixT (se_ixT (se_var (i := 0) rfl) se_int (atI_nat (j := 1) rfl)) (se_var (i := 4) rfl) (atI_m (f := pairD) hl.1 hp)) se_int (atI_nat (xs := [PyData.int p.1, PyData.int p.2]) (j := 0) rfl)) sa_nil)) ⟨fs, p.1, rfl, g.wf, hh.1, hh.2.1, few, rfl⟩).q) sg_name (by decide) ?_ (fun x _ => ⟨rfl, rfl⟩)
            (fun x _ => st_t (se_inT (se_var (i := 5) rfl) (se_var (i := 2) rfl))) fun x _ _ => se_var (i := 5) rfl).q (so_lst sa_nil).q sh rfl)) (fun e => ?_) fun e => ?_
        · have := wayI_len (ab := fs.map (·.1)) ((fs.map (·.1)).length + 1) p.1
          unfold way
          rw [List.length_map] at this ⊢
          omega
        · -- lit
          have dd : deadF (fs.map (·.1)) bl p.1 = false := by
            rw [eqvNilL, List.isEmpty_iff] at e
            have e := List.map_eq_nil_iff.mp e
            rw [List.filter_eq_nil_iff] at e
            unfold deadF
            rw [List.any_eq_false]
            exact e
          have hl2 : (litD (fs.map (·.1)) ls (on.take i) bl).length ≤ 1000 := by
            refine Nat.le_trans (List.length_filter_le _ _) ?_
            rw [List.length_take]
            have := ho.1
            omega
          refine ss_app (i := 3) rfl (se_var (i := 4) rfl) (by rw [List.length_map]; omega) fun d hd => ⟨.dat (.int l), ?_⟩
          subst hd
          show [_, _, _, _, _, _] = _
          rw [tk]
          unfold litD
          rw [List.filter_append, List.map_append, List.filter_cons, lampAt_of hp, dd]
          rfl
        · have dd : deadF (fs.map (·.1)) bl p.1 = true := by
            by_cases c2 : deadF (fs.map (·.1)) bl p.1 = true
            · exact c2
            · exfalso
              rw [eqvNilL] at e
              have n : (way (fs.map (·.1)) p.1).filter (fun x => decide (x ∈ bl)) = [] := by
                rw [List.filter_eq_nil_iff]
                have c3 : deadF (fs.map (·.1)) bl p.1 = false := by simpa using c2
                unfold deadF at c3
                rw [List.any_eq_false] at c3
                exact c3
              rw [n] at e
              cases e
          refine ss_next ⟨.dat (.int l), ?_⟩
          show [_, _, _, _, _, _] = _
          rw [tk]
          unfold litD
          rw [List.filter_append, List.map_append, List.filter_cons, lampAt_of hp, dd]
          simp
    · subst e
      obtain ⟨y4, rfl⟩ := hI
      rw [List.length_map, List.take_of_length_le (Nat.le_refl _)]
      exact ss_retQ (se_tupleL (se_var (i := 3) rfl)) hR⟩
theorem ok_lloads (F : Fun K "_law_loads" "_law_loads" sL_loads f fd) (cWY : Cal P w K mg base k "_law_way" ["_law_fuses", "_law_fuse"] (SpO K preWay)) (cLL : Cal P w K mg base k "_law_lit" ["_law_board_here", "_law_on", "_law_blown"] (SpD K preLLit)) (mlen : mg "len" = none) :
    FnOk P w K mg base CX0 (k + 1) f fd ["_law_board_here", "_law_on", "_law_blown"] (SpO K preLLoads) :=
  ok_O F sc__law_loads (fun ds R h => by obtain ⟨_, _, _, _, rfl, _⟩ := h; rfl) fun cdv A outer s H E hr => ⟨_, (pss_cons (ps_set (i := 3) sc__law_loads.nd rfl (.inl rfl) (pe_op op_rep (pe_lst (pa_cons pe_int pa_nil)) (pe_callB call_len_seq (by rfl) mlen PySem.boot_len (pa_cons (pe_ix ix_tup (pv 0) pe_int (fun _ _ => rfl)) pa_nil))))
      (pss_cons (ps_for PassesOwn.never rfl (pi_tup (pe_cal cLL hr (by rfl) (pa_cons (pv 0) (pa_cons (pv 1) (pa_cons (pv 2) pa_nil))))) (pg_name (i := 4) sc__law_loads.nd rfl (Or.inl rfl)) (pss_one (ps_for PassesOwn.never rfl (pi_list (pe_cal cWY hr (by rfl) (pa_cons (pe_ix ix_tup (pv 0) pe_int (fun _ _ => rfl)) (pa_cons (pe_ix ix_tup (pe_ix ix_tup (pe_ix ix_tup (pv 0) pe_int (fun _ _ => rfl)) (pv 4) (fun _ _ => rfl)) pe_int (fun _ _ => rfl)) pa_nil)))) (pg_name (i := 5) sc__law_loads.nd rfl (Or.inl rfl)) (pss_one (ps_asg (pe_op op_add (pe_ix ix_list (pv 3) (pv 5) (fun _ _ => rfl)) (pe_ix ix_tup (pe_ix ix_tup (pe_ix ix_tup (pv 0) pe_int (fun _ _ => rfl)) (pv 4) (fun _ _ => rfl)) pe_int (fun _ _ => rfl))) (pg_sub (pv 3) (pv 5) set_list))))))
      (pss_one (ps_ret (pv 3))))), fun ds R h => by
    obtain ⟨fs, ls, on, bl, rfl, g, few, ho, hR⟩ := h
    have ho' := litD_ok (ab := fs.map (·.1)) (bl := bl) ho
    obtain ⟨li, hli⟩ : ∃ li, litD (fs.map (·.1)) ls on bl = li := ⟨_, rfl⟩
    rw [hli] at ho' hR
    refine ss_seq (ss_setLQ (so_rep (so_lst (sa_cons se_int sa_nil)) (se_lenT (se_ixT (se_var (i := 0) rfl) se_int (atI_nat (j := 0) rfl))) ?_ ?_) ?_)
    · simp; omega
    · simp; omega
    refine ss_seq (ss_for (fun ds i ρ => ∃ y4 y5, ρ = [.e (.dat (boardD fs ls)), .e (.dat (intsT on)), .e (.dat (intsT bl)), .lst ((loadsD fs.length (fs.map (·.1)) ls (li.take i)).map .int), .e y4, .e y5])
      (si_tupQ (se_call (sa_cons (se_var (i := 0) rfl) (sa_cons (se_var (i := 1) rfl) (sa_cons (se_var (i := 2) rfl) sa_nil))) ⟨fs, ls, on, bl, rfl, g, few, ho, rfl⟩)) sg_name (fun ds e => ⟨.un, .un, ?_⟩) (fun ds i d ρ e hd hI => ?_) fun ds ρ e hI => ?_)
    · show [_, _, _, _, _, _] = _
      rw [List.length_map, zeros]
      rfl
    · rw [hli] at e
      subst e
      obtain ⟨y4, y5, rfl⟩ := hI
      rw [List.getElem?_map] at hd
      cases c : li[i]? with
      | none => rw [c] at hd; cases hd
      | some l =>
        rw [c] at hd
        have ed : d = .int l := (Option.some.inj hd).symm
        subst ed
        have hl := ho'.2 l (List.mem_of_getElem? c)
        obtain ⟨p, hp⟩ := get_of hl.1 hl.2
        have hh := g.hung p (List.mem_of_getElem? hp)
        have tk : li.take (i + 1) = li.take i ++ [l] := by rw [List.take_add_one, c]; rfl
        refine ⟨[.int l], rfl, ?_⟩
        have nd := way_nodup g.wf (p.1.toNat + 1) p.1 (by omega) (by rw [List.length_map]; exact hh.2.1)
        refine ss_for (fun ds j ρ => ∃ y5, ρ = [.e (.dat (boardD fs ls)), .e (.dat (intsT on)), .e (.dat (intsT bl)),
            .lst (((rngI fs.length).map fun f => loadD (fs.map (·.1)) ls (li.take i) f + if f ∈ (way (fs.map (·.1)) p.1).take j then p.2 else 0).map .int), .e (.dat (.int l)), .e y5])
          (si_listQ (so_call (sa_cons (se_ixT (se_var (i := 0) rfl) se_int (atI_nat (j := 0) rfl)) (sa_cons (se_ixT (se_ixT (se_ixT (se_var (i := 0) rfl) se_int (atI_nat (j := 1) rfl)) (se_var (i := 4) rfl) (atI_m (f := pairD) hl.1 hp)) se_int (atI_nat (xs := [PyData.int p.1, PyData.int p.2]) (j := 0) rfl)) sa_nil)) ⟨fs, p.1, rfl, g.wf, hh.1, hh.2.1, few, rfl⟩).q) sg_name (fun ds e => ⟨y5, ?_⟩) (fun ds j d ρ e hd hI => ?_) fun ds ρ e hI => ?_
        · show [_, _, _, _, _, _] = _
          have e0 : (fun f => loadD (fs.map (·.1)) ls (li.take i) f + if f ∈ (way (fs.map (·.1)) p.1).take 0 then p.2 else 0) = loadD (fs.map (·.1)) ls (li.take i) := by
            funext f
            rw [List.take_zero, if_neg List.not_mem_nil, Int.add_zero]
          rw [e0]
          rfl
        · subst e
          obtain ⟨y5, rfl⟩ := hI
          rw [List.getElem?_map] at hd
          cases c2 : (way (fs.map (·.1)) p.1)[j]? with
          | none => rw [c2] at hd; cases hd
          | some x =>
            rw [c2] at hd
            have ed : d = .int x := (Option.some.inj hd).symm
            subst ed
            have hx := way_bound g.wf (List.mem_of_getElem? c2)
            have x1 : x < fs.length := by omega
            have tk2 : (way (fs.map (·.1)) p.1).take (j + 1) = (way (fs.map (·.1)) p.1).take j ++ [x] := by rw [List.take_add_one, c2]; rfl
            have nx : x ∉ (way (fs.map (·.1)) p.1).take j := fun z => by
              have nd2 : ((way (fs.map (·.1)) p.1).take (j + 1)).Nodup := nd.sublist (List.take_sublist _ _)
              rw [tk2, List.nodup_append] at nd2
              exact nd2.2.2 x z x (List.mem_singleton.mpr rfl) rfl
            refine ⟨[.int x], rfl, ?_⟩
            refine ss_putV (i := 3) (kk := x) rfl (se_rI0 (f := fun i j => i + j) (se_ixL (se_var (i := 3) rfl) (se_var (i := 5) rfl) (atI_map hx.1 x1)) (se_ixT (se_ixT (se_ixT (se_var (i := 0) rfl) se_int (atI_nat (j := 1) rfl)) (se_var (i := 4) rfl) (atI_m hl.1 hp)) se_int (atI_nat (j := 1) rfl)))
              (fun d e => by rw [e]; rfl) (se_var (i := 5) rfl) (by rw [lenD_map]; exact ixN_of hx.1 x1) fun d hd => ⟨.dat (.int x), ?_⟩
            subst hd
            show [_, _, _, _, _, _] = _
            rw [setD_map hx.1 x1, tk2]
            congr 4
            congr 1
            congr 1
            refine map_ext fun y _ _ => ?_
            by_cases e : y = x
            · subst e
              rw [if_pos rfl, if_neg nx, if_pos (List.mem_append_right _ (List.mem_singleton.mpr rfl)), Int.add_zero]
            · rw [if_neg e]
              congr 1
              have e2 : (y ∈ (way (fs.map (·.1)) p.1).take j ++ [x]) ↔ y ∈ (way (fs.map (·.1)) p.1).take j := by
                rw [List.mem_append, List.mem_singleton]
                exact ⟨fun z => z.elim id fun q => absurd q e, .inl⟩
              by_cases m : y ∈ (way (fs.map (·.1)) p.1).take j
              · rw [if_pos m, if_pos (e2.mpr m)]
              · rw [if_neg m, if_neg (fun z => m (e2.mp z))]
        · subst e
          obtain ⟨y5, rfl⟩ := hI
          refine ⟨.dat (.int l), y5, ?_⟩
          rw [List.length_map, List.take_of_length_le (Nat.le_refl _), tk]
          congr 4
          congr 1
          congr 1
          refine map_ext fun y _ _ => ?_
          unfold loadD drawsOf
          rw [List.map_append, sumBy_app, List.map_cons, List.map_nil, sumBy_cons, sumBy_nil, lampAt_of hp, Int.add_zero]
          by_cases e : y ∈ way (fs.map (·.1)) p.1
          · rw [if_pos e, if_pos (decide_eq_true e)]
          · rw [if_neg e, if_neg (fun z => e (of_decide_eq_true z))]
    · rw [hli] at e
      subst e
      obtain ⟨y4, y5, rfl⟩ := hI
      rw [List.length_map, List.take_of_length_le (Nat.le_refl _)]
      exact ss_retO (i := 3) rfl hR⟩
end
end FF
set_option maxHeartbeats 4000000
namespace FF
open PySem PySem.Spec PyProof.Rows L2 Evl
/-! ### strained, at_rest -/
def preStr : List PyData → (PyData → Prop) → Prop := fun ds R => ∃ fs ls on bl, ds = [boardD fs ls, intsT on, intsT bl] ∧ WG fs ls ∧ OnOk ls on ∧ R (intsT (strD fs ls on bl))
def preRest : List PyData → (PyData → Prop) → Prop := fun ds R => ∃ fs ls on bl, ds = [boardD fs ls, intsT on, intsT bl] ∧ WG fs ls ∧ OnOk ls on ∧ R (.bool (strD fs ls on bl).isEmpty)
theorem sc_strained : FnScope ["board", "on", "blown", "fuses", "fuse", "total"] ["board", "on", "blown"] (defScope s_strained) := ⟨rfl, rfl, rfl, by decide +kernel, rfl, by decide +kernel, by decide +kernel⟩
theorem sc_at_rest : FnScope ["board", "on", "blown"] ["board", "on", "blown"] (defScope s_at_rest) := ⟨rfl, rfl, rfl, by decide +kernel, rfl, by decide +kernel, by decide +kernel⟩
section
variable {P : Program} {w : World} {K : PySem.W.Frag} {mg : Str → Option Value} {base : Heap} {f : Addr} {fd : FuncData} {k : Nat}
theorem ok_strained (F : Fun K "strained" "strained" s_strained f fd) (cLS : Cal P w K mg base k "loads" ["board", "on", "blown"] (SpD K preLoads)) (menumerate : mg "enumerate" = none) (mtuple : mg "tuple" = none) : FnOk P w K mg base CX0 (k + 1) f fd ["board", "on", "blown"] (SpD K preStr) :=
  ok_D F sc_strained (fun ds R h => by obtain ⟨_, _, _, _, rfl, _⟩ := h; rfl) fun cdv A outer s H E hr => ⟨_, (pss_cons (ps_set (i := 3) sc_strained.nd rfl (.inr rfl) (pe_ix ix_tup (pv 0) pe_int (fun _ _ => rfl)))
      (pss_one (ps_ret (pe_callTy call_tuple_of (by rfl) mtuple (by decide +kernel) (pa_cons (pe_lc (own := [("fuse", 4), ("total", 5)]) (g := (gTup K 2 (gCons (gName 4) (gCons (gName 5) gNil)))) (by rfl) sc_strained.nd (pi_enT (by rfl) menumerate (pa_cons (pe_cal cLS hr (by rfl) (pa_cons (pv 0) (pa_cons (pv 1) (pa_cons (pv 2) pa_nil)))) pa_nil)) (blkOk_by (own := [("fuse", 4), ("total", 5)]) (N := ["board", "on", "blown", "fuses", "fuse", "total"]) (sc := (defScope s_strained)) (by decide +kernel)) (fun _ _ _ _ _ => (pg_tup rfl (pgs_cons (pg_name (i := 4) sc_strained.nd rfl (Or.inl rfl)) (pgs_cons (pg_name (i := 5) sc_strained.nd rfl (Or.inl rfl)) pgs_nil)))) (fun _ _ _ _ _ => pts_one (pt_cmpR op_gt (pv 5) (pe_ix ix_tup (pe_ix ix_tup (pv 3) (pv 4) (fun _ _ => rfl)) pe_int (fun _ _ => rfl)) (nomark _))) (fun _ _ _ _ _ => (pv 4))) pa_nil))))), fun ds R h => by
    obtain ⟨fs, ls, on, bl, rfl, g, ho, hR⟩ := h
    have few := g.few
    refine ss_seq (ss_setQ (se_ixT (se_var (i := 0) rfl) se_int (atI_nat (j := 0) rfl)) ?_)
    refine ss_retQ (se_tupleL (so_lcM (K := K) (rngI fs.length) (fun x => .tuple [.int x, .int (loadD (fs.map (·.1)) ls (litD (fs.map (·.1)) ls on bl) x)]) (fun x => [.int x, .int (loadD (fs.map (·.1)) ls (litD (fs.map (·.1)) ls on bl) x)])
      (fun x => decide (markAt fs x < loadD (fs.map (·.1)) ls (litD (fs.map (·.1)) ls on bl) x)) .int (si_eq (si_enT (sa_cons (se_call (sa_cons (se_var (i := 0) rfl) (sa_cons (se_var (i := 1) rfl) (sa_cons (se_var (i := 2) rfl) sa_nil))) ⟨fs, ls, on, bl, rfl, g, ho, rfl⟩) sa_nil)) ?_) sg_pair (by decide) ?_ (fun x _ => ⟨⟨rfl, rfl⟩, rfl⟩) (fun x hx => ?_) fun x _ _ => se_var (i := 4) rfl).q) ?_
    · exact enumD_map _ _
    · rw [rngI_len]; omega
    · have hx := rngI_mem.mp hx
      obtain ⟨p, hp⟩ := get_of (xs := fs) hx.1 hx.2
      have e : markAt fs x = p.2 := by unfold markAt; rw [getD_of hp]
      rw [e]
      exact st_t (se_rI0b (f := fun i j => decide (j < i)) (se_var (i := 5) rfl) (se_ixT (se_ixT (se_var (i := 3) rfl) (se_var (i := 4) rfl) (atI_m hx.1 hp)) se_int (atI_nat (j := 1) rfl)))
    · exact hR⟩
theorem ok_rest (F : Fun K "at_rest" "at_rest" s_at_rest f fd) (cST : Cal P w K mg base k "strained" ["board", "on", "blown"] (SpD K preStr)) : FnOk P w K mg base CX0 (k + 1) f fd ["board", "on", "blown"] (SpD K preRest) :=
  ok_D F sc_at_rest (fun ds R h => by obtain ⟨_, _, _, _, rfl, _⟩ := h; rfl) fun cdv A outer s H E hr => ⟨_, (pss_one (ps_ret (pe_cmpR (op_eqD hr.units) (pe_cal cST hr (by rfl) (pa_cons (pv 0) (pa_cons (pv 1) (pa_cons (pv 2) pa_nil)))) (pe_tup pa_nil) (nomark _)))), fun ds R h => by
    obtain ⟨fs, ls, on, bl, rfl, g, ho, hR⟩ := h
    refine ss_retQ (se_eqD (se_call (sa_cons (se_var (i := 0) rfl) (sa_cons (se_var (i := 1) rfl) (sa_cons (se_var (i := 2) rfl) sa_nil))) ⟨fs, ls, on, bl, rfl, g, ho, rfl⟩) (se_tup sa_nil) (shapedT_ints _) rfl) ?_
    rw [eqvNilT]
    have e : ((strD fs ls on bl).map PyData.int).isEmpty = (strD fs ls on bl).isEmpty := by
      cases strD fs ls on bl <;> rfl
    rw [e]
    exact hR⟩
end
end FF
set_option maxHeartbeats 4000000
namespace FF
open PySem PySem.Spec PyProof.Rows L2 Evl
/-! ### the law's own strained fuses -/
def preLStr : List PyData → (List PyData → Prop) → Prop := fun ds R => ∃ fs ls on bl, ds = [boardD fs ls, intsT on, intsT bl] ∧ WG fs ls ∧ fs.length ≤ 100 ∧ OnOk ls on ∧ R ((strD fs ls on bl).map .int)
theorem sc__law_strained : FnScope ["_law_board_here", "_law_on", "_law_blown", "_law_sums", "_law_fuse"] ["_law_board_here", "_law_on", "_law_blown"] (defScope sL_strained) := ⟨rfl, rfl, rfl, by decide +kernel, rfl, by decide +kernel, by decide +kernel⟩
section
variable {P : Program} {w : World} {K : PySem.W.Frag} {mg : Str → Option Value} {base : Heap} {f : Addr} {fd : FuncData} {k : Nat}
theorem ok_lstr (F : Fun K "_law_strained" "_law_strained" sL_strained f fd) (cLLS : Cal P w K mg base k "_law_loads" ["_law_board_here", "_law_on", "_law_blown"] (SpD K fun ds R => preLLoads ds fun es => R (.list es))) (mlen : mg "len" = none) (mrange : mg "range" = none) :
    FnOk P w K mg base CX0 (k + 1) f fd ["_law_board_here", "_law_on", "_law_blown"] (SpO K preLStr) :=
  ok_O F sc__law_strained (fun ds R h => by obtain ⟨_, _, _, _, rfl, _⟩ := h; rfl) fun cdv A outer s H E hr => ⟨_, (pss_cons (ps_set (i := 3) sc__law_strained.nd rfl (.inr rfl) (pe_cal cLLS hr (by rfl) (pa_cons (pv 0) (pa_cons (pv 1) (pa_cons (pv 2) pa_nil)))))
      (pss_one (ps_ret (pe_lc (own := [("_law_fuse", 4)]) (g := (gName 4)) (by rfl) sc__law_strained.nd (pi_range1 (by rfl) mrange (pa_cons (pe_callB call_len_seq (by rfl) mlen PySem.boot_len (pa_cons (pv 3) pa_nil)) pa_nil)) (blkOk_by (own := [("_law_fuse", 4)]) (N := ["_law_board_here", "_law_on", "_law_blown", "_law_sums", "_law_fuse"]) (sc := (defScope sL_strained)) (by decide +kernel)) (fun _ _ _ _ _ => (pg_name (i := 4) sc__law_strained.nd rfl (Or.inl rfl))) (fun _ _ _ _ _ => pts_one (pt_cmpR op_gt (pe_ix ix_list (pv 3) (pv 4) (fun _ _ => rfl)) (pe_ix ix_tup (pe_ix ix_tup (pe_ix ix_tup (pv 0) pe_int (fun _ _ => rfl)) (pv 4) (fun _ _ => rfl)) pe_int (fun _ _ => rfl)) (nomark _))) (fun _ _ _ _ _ => (pv 4)))))), fun ds R h => by
    obtain ⟨fs, ls, on, bl, rfl, g, few, ho, hR⟩ := h
    have ln : (loadsD fs.length (fs.map (·.1)) ls (litD (fs.map (·.1)) ls on bl)).length = fs.length := by unfold loadsD; rw [List.length_map, rngI_len]
    refine ss_seq (ss_setQ (se_call (sa_cons (se_var (i := 0) rfl) (sa_cons (se_var (i := 1) rfl) (sa_cons (se_var (i := 2) rfl) sa_nil))) ⟨fs, ls, on, bl, rfl, g, few, ho, rfl⟩) ?_)
    refine ss_retOe (so_lcM (K := K) (rngI fs.length) .int (fun x => [.int x]) (fun x => decide (markAt fs x < loadD (fs.map (·.1)) ls (litD (fs.map (·.1)) ls on bl) x)) .int (si_eq (si_rng1 (se_lenL (se_var (i := 3) rfl)) ?_) ?_) sg_name (by decide) ?_ (fun x _ => ⟨rfl, rfl⟩) (fun x hx => ?_) fun x _ _ => se_var (i := 4) rfl) fun ds e => ?_
    · rw [List.length_map, ln]; omega
    · rw [List.length_map, ln, rngD_I]
    · rw [rngI_len]; omega
    · have hx := rngI_mem.mp hx
      obtain ⟨p, hp⟩ := get_of (xs := fs) hx.1 hx.2
      have e : markAt fs x = p.2 := by unfold markAt; rw [getD_of hp]
      rw [e]
      exact st_t (se_rI0b (f := fun i j => decide (j < i)) (se_ixL (se_var (i := 3) rfl) (se_var (i := 4) rfl) (atI_map hx.1 hx.2)) (se_ixT (se_ixT (se_ixT (se_var (i := 0) rfl) se_int (atI_nat (j := 0) rfl)) (se_var (i := 4) rfl) (atI_m hx.1 hp)) se_int (atI_nat (j := 1) rfl)))
    · rw [e]; exact hR⟩
end
end FF
set_option maxHeartbeats 4000000
namespace FF
open PySem PySem.Spec PyProof.Rows L2 Evl
/-! ### firstfuse.checks -/
def preInt : List PyData → (PyData → Prop) → Prop := fun ds R => ∃ d lo hi, ds = [d, .int lo, .int hi] ∧ R (.bool (intIn lo hi d))
def preRow : List PyData → (PyData → Prop) → Prop := fun ds R => ∃ d lo hi, ds = [d, .int lo, .int hi] ∧ R (.bool (rowIn lo hi d))
def preUnl : List PyData → (PyData → Prop) → Prop := fun ds R => ∃ (d : PyData) (n : Nat), ds = [d, .int (n : Nat)] ∧ n ≤ 1000 ∧ R (.bool (unlikeB n d))
def preAsc : List PyData → (PyData → Prop) → Prop := fun ds R => ∃ (d : PyData) (n : Nat), ds = [d, .int (n : Nat)] ∧ n ≤ 1000 ∧ R (.bool (ascB n d))
theorem sc_is_integer : FnScope ["value", "least", "most"] ["value", "least", "most"] (defScope s_is_integer) := ⟨rfl, rfl, rfl, by decide +kernel, rfl, by decide +kernel, by decide +kernel⟩
theorem sc_is_row : FnScope ["value", "least", "most"] ["value", "least", "most"] (defScope s_is_row) := ⟨rfl, rfl, rfl, by decide +kernel, rfl, by decide +kernel, by decide +kernel⟩
theorem sc_are_unlike : FnScope ["value", "count", "item"] ["value", "count"] (defScope s_are_unlike) := ⟨rfl, rfl, rfl, by decide +kernel, rfl, by decide +kernel, by decide +kernel⟩
theorem sc__law_is_int : FnScope ["_law_thing", "_law_least", "_law_most"] ["_law_thing", "_law_least", "_law_most"] (defScope sL_is_int) := ⟨rfl, rfl, rfl, by decide +kernel, rfl, by decide +kernel, by decide +kernel⟩
section
variable {P : Program} {w : World} {K : PySem.W.Frag} {mg : Str → Option Value} {base : Heap} {f : Addr} {fd : FuncData} {k : Nat}
theorem se_intIn {Z : Zk} {η : List Ent} {d : PyData} {lo hi : Int} (h0 : η[0]? = some (.dat d)) (h1 : η[1]? = some (.dat (.int lo))) (h2 : η[2]? = some (.dat (.int hi))) :
    SQ K Z (tAndV (tCB (rIsi K) (tCons (tVar 0) (tCons (tC (.ty "int")) tNil))) (tAndV (tNotV (tCB (rIsi K) (tCons (tVar 0) (tCons (tC (.ty "bool")) tNil)))) (tChain (rI0 fun i j => .bl (decide (i ≤ j))) (rI0 fun i j => .bl (decide (i ≤ j))) (tVar 1) (tVar 0) (tVar 2)))) η (.bool (intIn lo hi d)) := by
  cases d with
  | int i => exact se_eq (se_andV (se_isi (se_var h0) (kitInt _)) fun _ => se_andV (se_notV (se_isi (se_var h0) (kitBool _))) fun _ => se_chainI (p := fun i j => decide (i ≤ j)) (p' := fun i j => decide (i ≤ j)) (se_var h1) (se_var h0) fun _ => se_var h2) rfl
  | bool b => exact se_eq (se_andV (se_isi (se_var h0) (kitInt _)) fun _ => se_andV (d := false) (se_notV (se_isi (se_var h0) (kitBool _))) fun c => nomatch c) rfl
  | none => exact se_eq (se_andV (d := false) (se_isi (se_var h0) (kitInt _)) fun c => nomatch c) rfl
  | str _ => exact se_eq (se_andV (d := false) (se_isi (se_var h0) (kitInt _)) fun c => nomatch c) rfl
  | list _ => exact se_eq (se_andV (d := false) (se_isi (se_var h0) (kitInt _)) fun c => nomatch c) rfl
  | tuple _ => exact se_eq (se_andV (d := false) (se_isi (se_var h0) (kitInt _)) fun c => nomatch c) rfl
  | dict _ => exact se_eq (se_andV (d := false) (se_isi (se_var h0) (kitInt _)) fun c => nomatch c) rfl
theorem ok_isInt (F : Fun K "is_integer" "is_integer" s_is_integer f fd) (misinstance : mg "isinstance" = none) (mint : mg "int" = none) (mbool : mg "bool" = none) : FnOk P w K mg base CX0 (k + 1) f fd ["value", "least", "most"] (SpD K preInt) :=
  ok_D F sc_is_integer (fun ds R h => by obtain ⟨_, _, _, rfl, _⟩ := h; rfl) fun cdv A outer s H E hr => ⟨_, (pss_one (ps_ret (pe_and (pe_callB call_isi (by rfl) misinstance (by decide +kernel) (pa_cons (pv 0) (pa_cons (pe_bltn (v := .ty "int") (by rfl) mint (by decide +kernel) rfl) pa_nil))) (pe_and (pe_not (pe_callB call_isi (by rfl) misinstance (by decide +kernel) (pa_cons (pv 0) (pa_cons (pe_bltn (v := .ty "bool") (by rfl) mbool (by decide +kernel) rfl) pa_nil)))) (pe_one (pe_chain op_le op_le (pv 1) (pv 0) (pv 2))))))), fun ds R h => by
    obtain ⟨d, lo, hi, rfl, hR⟩ := h
    exact ss_retQ (se_intIn rfl rfl rfl) hR⟩
theorem ok_lInt (F : Fun K "_law_is_int" "_law_is_int" sL_is_int f fd) (misinstance : mg "isinstance" = none) (mint : mg "int" = none) (mbool : mg "bool" = none) : FnOk P w K mg base CX0 (k + 1) f fd ["_law_thing", "_law_least", "_law_most"] (SpD K preInt) :=
  ok_D F sc__law_is_int (fun ds R h => by obtain ⟨_, _, _, rfl, _⟩ := h; rfl) fun cdv A outer s H E hr => ⟨_, (pss_one (ps_ret (pe_and (pe_callB call_isi (by rfl) misinstance (by decide +kernel) (pa_cons (pv 0) (pa_cons (pe_bltn (v := .ty "int") (by rfl) mint (by decide +kernel) rfl) pa_nil))) (pe_and (pe_not (pe_callB call_isi (by rfl) misinstance (by decide +kernel) (pa_cons (pv 0) (pa_cons (pe_bltn (v := .ty "bool") (by rfl) mbool (by decide +kernel) rfl) pa_nil)))) (pe_one (pe_chain op_le op_le (pv 1) (pv 0) (pv 2))))))), fun ds R h => by
    obtain ⟨d, lo, hi, rfl, hR⟩ := h
    exact ss_retQ (se_intIn rfl rfl rfl) hR⟩
theorem ok_isRow (F : Fun K "is_row" "is_row" s_is_row f fd) (misinstance : mg "isinstance" = none) (mtuple : mg "tuple" = none) (mlen : mg "len" = none) : FnOk P w K mg base CX0 (k + 1) f fd ["value", "least", "most"] (SpD K preRow) :=
  ok_D F sc_is_row (fun ds R h => by obtain ⟨_, _, _, rfl, _⟩ := h; rfl) fun cdv A outer s H E hr => ⟨_, (pss_one (ps_ret (pe_and (pe_callB call_isi (by rfl) misinstance (by decide +kernel) (pa_cons (pv 0) (pa_cons (pe_bltn (v := .ty "tuple") (by rfl) mtuple (by decide +kernel) rfl) pa_nil))) (pe_one (pe_chain op_le op_le (pv 1) (pe_callB call_len_seq (by rfl) mlen PySem.boot_len (pa_cons (pv 0) pa_nil)) (pv 2)))))), fun ds R h => by
    obtain ⟨d, lo, hi, rfl, hR⟩ := h
    cases d with
    | tuple xs => exact ss_retQ (se_eq (se_andV (se_isi (se_var (i := 0) rfl) (kitTup _)) fun _ => se_chainI (p := fun i j => decide (i ≤ j)) (p' := fun i j => decide (i ≤ j)) (se_var (i := 1) rfl) (se_lenT (se_var (i := 0) rfl)) fun _ => se_var (i := 2) rfl) rfl) hR
    | int i => exact ss_retQ (se_eq (se_andV (d := false) (se_isi (se_var (i := 0) rfl) (kitTup _)) fun c => nomatch c) rfl) hR
    | bool b => exact ss_retQ (se_eq (se_andV (d := false) (se_isi (se_var (i := 0) rfl) (kitTup _)) fun c => nomatch c) rfl) hR
    | none => exact ss_retQ (se_eq (se_andV (d := false) (se_isi (se_var (i := 0) rfl) (kitTup _)) fun c => nomatch c) rfl) hR
    | str _ => exact ss_retQ (se_eq (se_andV (d := false) (se_isi (se_var (i := 0) rfl) (kitTup _)) fun c => nomatch c) rfl) hR
    | list _ => exact ss_retQ (se_eq (se_andV (d := false) (se_isi (se_var (i := 0) rfl) (kitTup _)) fun c => nomatch c) rfl) hR
    | dict _ => exact ss_retQ (se_eq (se_andV (d := false) (se_isi (se_var (i := 0) rfl) (kitTup _)) fun c => nomatch c) rfl) hR⟩
theorem ok_unlike (F : Fun K "are_unlike" "are_unlike" s_are_unlike f fd) (cII : Cal P w K mg base k "is_integer" ["value", "least", "most"] (SpD K preInt)) (cIR : Cal P w K mg base k "is_row" ["value", "least", "most"] (SpD K preRow)) (mall : mg "all" = none) (mlen : mg "len" = none) (mset : mg "set" = none) :
    FnOk P w K mg base CX0 (k + 1) f fd ["value", "count"] (SpD K preUnl) :=
  ok_D F sc_are_unlike (fun ds R h => by obtain ⟨_, _, rfl, _⟩ := h; rfl) fun cdv A outer s H E hr => ⟨_, (pss_cons (ps_if (pt_not (pt_val (pe_cal cIR hr (by rfl) (pa_cons (pv 0) (pa_cons pe_int (pa_cons (pv 1) pa_nil)))))) (pss_one (ps_ret pe_bl)) pss_nil)
      (pss_one (ps_ret (pe_and (pe_callB (cr_all rfl) (by rfl) mall (by decide +kernel) (pa_cons (pe_lc (own := [("item", 2)]) (g := (gName 2)) (tt := tYes) (by rfl) sc_are_unlike.nd (pi_tup (pv 0)) (blkOk_by (own := [("item", 2)]) (N := ["value", "count", "item"]) (sc := (defScope s_are_unlike)) (by decide +kernel)) (fun _ _ _ _ _ => (pg_name (i := 2) sc_are_unlike.nd rfl (Or.inl rfl))) (fun _ _ _ _ _ => pts_nil) (fun _ _ _ _ _ => (pe_cal cII hr (by rfl) (pa_cons (pv 2) (pa_cons pe_int (pa_cons (pe_op op_sub (pv 1) pe_int) pa_nil)))))) pa_nil)) (pe_one (pe_cmpR op_eq (pe_lenSetT (by rfl) mlen (by rfl) mset (pv 0)) (pe_callB call_len_seq (by rfl) mlen PySem.boot_len (pa_cons (pv 0) pa_nil)) (nomark _))))))), fun ds R h => by
    obtain ⟨d, n, rfl, hn, hR⟩ := h
    refine ss_seq (ss_ifQ (b := !rowIn 0 n d) (st_not (st_b (se_call (sa_cons (se_var (i := 0) rfl) (sa_cons se_int (sa_cons (se_var (i := 1) rfl) sa_nil))) ⟨d, 0, n, rfl, rfl⟩))) (fun e => ?_) fun e => ss_next ?_)
    · have e' : rowIn 0 n d = false := by simpa using e
      refine ss_retQ se_bl ?_
      rw [← unlike_row e']
      exact hR
    · have e' : rowIn 0 n d = true := by simpa using e
      obtain ⟨xs, rfl, hl⟩ := rowIn_tup e'
      refine ss_ret (R := fun x => x = .bool (unlikeB n (.tuple xs))) ?_ fun x ex => by rw [ex]; exact hR
      have h1 : SQ K none (tCB (rAll K) (tCons (tLc (iTup K (tVar 0)) (gName 2) tYes (tCall (SpD K preInt) [] E0 (tCons (tVar 2) (tCons (tC (.int 0)) (tCons (tOp (rI0 fun i j => .int (i - j)) (tVar 1) (tC (.int 1))) tNil)))) [2]) tNil)) (viewE [.e (.dat (.tuple xs)), .e (.dat (.int (n : Nat))), .e .un]) (.bool (xs.all (intIn 0 ((n : Int) - 1)))) := by
        refine se_eq (se_all (bs := xs.map (intIn 0 ((n : Int) - 1))) (se_eq (so_lcM (K := K) xs id (fun x => [x]) (fun _ => true) (fun x => .bool (intIn 0 ((n : Int) - 1) x)) (si_eq (si_tupQ (se_var (i := 0) rfl)) (List.map_id xs).symm) sg_name (by decide) (by omega) (fun _ _ => ⟨rfl, rfl⟩) (fun _ _ => st_yes)
          (fun x _ _ => se_call (sa_cons (se_var (i := 2) rfl) (sa_cons se_int (sa_cons (se_rI0 (f := fun i j => i - j) (se_var (i := 1) rfl) se_int) sa_nil))) ⟨x, 0, _, rfl, rfl⟩)).q ?_)) ?_
        · rw [List.filter_eq_self.mpr fun _ _ => rfl, List.map_map]; rfl
        · rw [List.all_map]; rfl
      cases c : xs.all (intIn 0 ((n : Int) - 1)) with
      | false =>
        rw [c] at h1
        rw [unlike_no c]
        exact (se_andV (d := false) h1 fun z => nomatch z)
      | true =>
        obtain ⟨l, rfl, hl2⟩ := ints_of c
        rw [c] at h1
        rw [List.length_map] at hl
        intro σ G H b s Q q
        refine h1 σ G H b s _ fun v d1 G1 H1 e1 s1 hd1 => ?_
        subst e1
        refine ⟨true, dq_bl hd1, iteT ?_⟩
        refine se_lenSet (K := K) (se_var (i := 0) rfl) (by omega) σ G1 H1 (b.go s1) (s.ex s1.g) _ fun v2 d2 G2 H2 e2 s2 hd2 => ?_
        obtain ⟨m, rfl, hm⟩ := e2
        refine se_lenT (K := K) (se_var (i := 0) rfl) σ G2 H2 ((b.go s1).go s2) ((s.ex s1.g).ex s2.g) _ fun v3 d3 G3 H3 e3 s3 hd3 => ?_
        subst e3
        rw [dq_int hd2, dq_int hd3]
        refine ⟨rfl, q (.bl (decide (V.int (m : Nat) = V.int ((l.map PyData.int).length : Nat)))) (.bool (decide (V.int (m : Nat) = V.int ((l.map PyData.int).length : Nat)))) G3 H3 ?_ ((s1.trans s2).trans s3) (.bl _)⟩
        rw [unlike_ints (by omega) hl2]
        congr 1
        rw [Bool.eq_iff_iff, decide_eq_true_eq, decide_eq_true_eq, ← hm, List.length_map]
        constructor
        · intro z
          have := V.int.inj z
          omega
        · intro z; rw [z]⟩
end
end FF
set_option maxHeartbeats 4000000
namespace FF
open PySem PySem.Spec PyProof.Rows L2 Evl
/-! ### is_order -/
def preIsO : List PyData → (PyData → Prop) → Prop := fun ds R => ∃ (fs ls : List (Int × Int)) (on : List Int) (d : PyData), ds = [boardD fs ls, intsT on, d] ∧ WG fs ls ∧ OnOk ls on ∧ R (.bool (isOrdD fs ls on d))
theorem enumD_ints (l : List Int) : enumD 0 (l.map PyData.int) = (List.range l.length).map fun (i : Nat) => .tuple [.int (i : Int), .int (l.getD i 0)] := by
  refine List.ext_getElem? fun j => ?_
  rw [enumD_get, List.getElem?_map, List.getElem?_map]
  by_cases c : j < l.length
  · have e : l.getD j 0 = l[j] := by rw [List.getD_eq_getElem?_getD, List.getElem?_eq_getElem c]; rfl
    rw [List.getElem?_range c, List.getElem?_eq_getElem c]
    show some (PyData.tuple [.int ((0 + j : Nat) : Int), .int l[j]]) = some (PyData.tuple [.int (j : Int), .int (l.getD j 0)])
    rw [Nat.zero_add, e]
  · rw [List.getElem?_eq_none (by omega), List.getElem?_eq_none (by rw [List.length_range]; omega)]
    rfl
theorem ordB_all (fs ls : List (Int × Int)) (on l : List Int) : ((List.range l.length).map fun i => decide (l.getD i 0 ∈ strD fs ls on (l.take i))).all id = ordB fs ls on l := by
  rw [List.all_map]
  unfold ordB
  refine Bool.eq_iff_iff.mpr ?_
  rw [List.all_eq_true, List.all_eq_true]
  constructor <;> intro h i hi
  · have q := h i hi
    have hl := List.mem_range.mp hi
    rw [List.getElem?_eq_getElem hl]
    simpa [List.getD_eq_getElem?_getD, hl] using q
  · have q := h i hi
    have hl := List.mem_range.mp hi
    rw [List.getElem?_eq_getElem hl] at q
    simpa [List.getD_eq_getElem?_getD, hl] using q
section
variable {P : Program} {w : World} {K : PySem.W.Frag} {mg : Str → Option Value} {base : Heap} {f : Addr} {fd : FuncData} {k : Nat}
end
end FF
set_option maxHeartbeats 4000000
namespace FF
open PySem PySem.Spec PyProof.Rows L2 Evl
/-! ### the law's odd and bent values -/
theorem sc__law_odd : FnScope ["_law_deck_here", "_law_some"] ["_law_deck_here"] (defScope sL_odd) := ⟨rfl, rfl, rfl, by decide +kernel, rfl, by decide +kernel, by decide +kernel⟩
theorem sc__law_bent : FnScope ["_law_deck_here", "_law_thing", "_law_deep", "_law_at", "_law_some"] ["_law_deck_here", "_law_thing", "_law_deep"] (defScope sL_bent) := ⟨rfl, rfl, rfl, by decide +kernel, rfl, by decide +kernel, by decide +kernel⟩
theorem oddB : (([PyData.none, PyData.bool true, PyData.bool false, PyData.int 0, PyData.int 1, PyData.int (-1), PyData.int 20, PyData.int ((10 : Int) ^ (30 : Int).toNat), PyData.str (Str.ofString ""), PyData.str (Str.ofString "on"), PyData.str (Str.ofString "0"), PyData.tuple [], PyData.list [], PyData.dict [], PyData.tuple [PyData.int 0], PyData.tuple [PyData.int 1, PyData.int 0], PyData.tuple [PyData.int 0, PyData.int 0], PyData.list [PyData.int 0], PyData.tuple [PyData.bool true]] : List PyData) ++ [PyData.tuple [PyData.int (-1), PyData.int 5], PyData.tuple [PyData.int 0, PyData.int 1], PyData.tuple [PyData.str (Str.ofString "on"), PyData.int 0], PyData.tuple [PyData.str (Str.ofString "pause")], PyData.tuple [PyData.none], PyData.tuple [PyData.str (Str.ofString "0")], PyData.tuple [PyData.int 0, PyData.int 1, PyData.int 2], PyData.tuple [PyData.tuple [PyData.int 0, PyData.int 1]]]).all (svB 3000 6) = true := by decide +kernel
section
variable {P : Program} {w : World} {K : PySem.W.Frag} {mg : Str → Option Value} {base : Heap} {f : Addr} {fd : FuncData} {k : Nat}
theorem ok_odd (F : Fun K "_law_odd" "_law_odd" sL_odd f fd) (cPK : Cal P w K mg base k "_law_pick" ["_law_deck_here", "_law_items"] (SpZ K prePick)) : FnOk P w K mg base CX0 (k + 1) f fd ["_law_deck_here"] (SpZ K preOdd) :=
  ok_Z F sc__law_odd (fun ds R h => by obtain ⟨rfl, _⟩ := h; rfl) fun cdv A outer s H E hr => ⟨_, (pss_cons (ps_set (i := 1) sc__law_odd.nd rfl (.inl rfl) (pe_lst (pa_cons pe_non (pa_cons pe_bl (pa_cons pe_bl (pa_cons pe_int (pa_cons pe_int (pa_cons (pe_un un_neg pe_int) (pa_cons pe_int (pa_cons (pe_op op_pow pe_int pe_int) (pa_cons pe_str (pa_cons pe_str (pa_cons pe_str (pa_cons (pe_tup pa_nil) (pa_cons (pe_lst pa_nil) (pa_cons (pe_frz pe_dnewK) (pa_cons (pe_tup (pa_cons pe_int pa_nil)) (pa_cons (pe_tup (pa_cons pe_int (pa_cons pe_int pa_nil))) (pa_cons (pe_tup (pa_cons pe_int (pa_cons pe_int pa_nil))) (pa_cons (pe_lst (pa_cons pe_int pa_nil)) (pa_cons (pe_tup (pa_cons pe_bl pa_nil)) pa_nil)))))))))))))))))))))
      (pss_one (ps_ret (pe_cal cPK hr (by rfl) (pa_cons (pv 0) (pa_cons (pe_op op_cat (pv 1) (pe_lst (pa_cons (pe_tup (pa_cons (pe_un un_neg pe_int) (pa_cons pe_int pa_nil))) (pa_cons (pe_tup (pa_cons pe_int (pa_cons pe_int pa_nil))) (pa_cons (pe_tup (pa_cons pe_str (pa_cons pe_int pa_nil))) (pa_cons (pe_tup (pa_cons pe_str pa_nil)) (pa_cons (pe_tup (pa_cons pe_non pa_nil)) (pa_cons (pe_tup (pa_cons pe_str pa_nil)) (pa_cons (pe_tup (pa_cons pe_int (pa_cons pe_int (pa_cons pe_int pa_nil)))) (pa_cons (pe_tup (pa_cons (pe_tup (pa_cons pe_int (pa_cons pe_int pa_nil))) pa_nil)) pa_nil)))))))))) pa_nil)))))), fun Z ds R h => by
    obtain ⟨rfl, hR⟩ := h
    refine ss_seq (ss_setLQ (so_lst (sa_cons se_non (sa_cons se_bl (sa_cons se_bl (sa_cons se_int (sa_cons se_int (sa_cons (se_neg se_int) (sa_cons se_int (sa_cons (se_rI (f := fun i j => i ^ j.toNat) se_int se_int ⟨by decide, by decide, by decide⟩) (sa_cons se_str (sa_cons se_str (sa_cons se_str (sa_cons (se_tup sa_nil) (sa_cons (so_lst sa_nil).q (sa_cons se_dnew (sa_cons (se_tup (sa_cons se_int sa_nil)) (sa_cons (se_tup (sa_cons se_int (sa_cons se_int sa_nil))) (sa_cons (se_tup (sa_cons se_int (sa_cons se_int sa_nil))) (sa_cons (so_lst (sa_cons se_int sa_nil)).q (sa_cons (se_tup (sa_cons se_bl sa_nil)) sa_nil)))))))))))))))))))) ?_)
    refine ss_ret (R := fun d => Sv 3000 6 d) (se_callZ rfl (sa_cons (so_cat (se_var (i := 1) rfl) (so_lst (sa_cons (se_tup (sa_cons (se_neg se_int) (sa_cons se_int sa_nil))) (sa_cons (se_tup (sa_cons se_int (sa_cons se_int sa_nil))) (sa_cons (se_tup (sa_cons se_str (sa_cons se_int sa_nil))) (sa_cons (se_tup (sa_cons se_str sa_nil)) (sa_cons (se_tup (sa_cons se_non sa_nil)) (sa_cons (se_tup (sa_cons se_str sa_nil)) (sa_cons (se_tup (sa_cons se_int (sa_cons se_int (sa_cons se_int sa_nil)))) (sa_cons (se_tup (sa_cons (se_tup (sa_cons se_int (sa_cons se_int sa_nil))) sa_nil)) sa_nil))))))))).q (by exact Nat.le_of_ble_eq_true rfl)).q sa_nil) ⟨_, rfl, List.cons_ne_nil _ _, (by show List.length _ + 1 ≤ 100000; exact Nat.le_of_ble_eq_true rfl), fun d hd => ?_⟩) hR
    refine sv_of ?_
    exact List.all_eq_true.mp (oddB) d hd⟩
theorem ok_bent0 : FnOk P w K mg base CX0 k f fd ["_law_deck_here", "_law_thing", "_law_deep"] (SpZ K (preBent 0)) :=
  ⟨fun vs H Q E h => by obtain ⟨_, _, _, _, _, _, _, _, _, _, ⟨d, j, W, _, _, _, _, h1, h2, _⟩, _⟩ := h; omega,
   fun A outer s H args us vs Q E _ _ _ _ h => by obtain ⟨_, _, _, _, _, _, _, _, _, _, ⟨d, j, W, _, _, _, _, h1, h2, _⟩, _⟩ := h; omega⟩
theorem ok_bent {m : Nat} (F : Fun K "_law_bent" "_law_bent" sL_bent f fd) (cBT : Cal P w K mg base k "_law_bent" ["_law_deck_here", "_law_thing", "_law_deep"] (SpZ K (preBent m))) (cOD : Cal P w K mg base k "_law_odd" ["_law_deck_here"] (SpZ K preOdd))
    (cPK : Cal P w K mg base k "_law_pick" ["_law_deck_here", "_law_items"] (SpZ K prePick)) (cDR : Cal P w K mg base k "_law_draw" ["_law_deck_here", "_law_bound"] (SpZ K preDraw)) (misinstance : mg "isinstance" = none) (mtuple : mg "tuple" = none) (mlen : mg "len" = none) (mlist : mg "list" = none) :
    FnOk P w K mg base CX0 (k + 1) f fd ["_law_deck_here", "_law_thing", "_law_deep"] (SpZ K (preBent (m + 1))) :=
  ok_Z F sc__law_bent (fun ds R h => by obtain ⟨_, _, _, rfl, _⟩ := h; rfl) fun cdv A outer s H E hr => ⟨_, (pss_cons (ps_if (PW.pt (pw_and (pt_val (pe_callB call_isi (by rfl) misinstance (by decide +kernel) (pa_cons (pv 1) (pa_cons (pe_bltn (v := .ty "tuple") (by rfl) mtuple (by decide +kernel) rfl) pa_nil)))) (pw_and (pt_cmpR (op_neD hr.units) (pv 1) (pe_tup pa_nil) (nomark _)) (pw_and (pt_cmpR op_gt (pv 2) pe_int (nomark _)) (pw_and1 (pt_cmpR op_gt (pe_cal cDR hr (by rfl) (pa_cons (pv 0) (pa_cons pe_int pa_nil))) pe_int (nomark _))))))) (pss_cons (ps_set (i := 3) sc__law_bent.nd rfl (.inl rfl) (pe_cal cDR hr (by rfl) (pa_cons (pv 0) (pa_cons (pe_callB call_len_seq (by rfl) mlen PySem.boot_len (pa_cons (pv 1) pa_nil)) pa_nil))))
      (pss_one (ps_ret (pe_op op_catA (pe_op op_catA (pe_slice sl_tupA (pv 1) po_none (po_some (pv 3))) (pe_tup (pa_cons (pe_cal cBT hr (by rfl) (pa_cons (pv 0) (pa_cons (pe_ix ix_tup (pv 1) (pv 3) (fun _ _ => rfl)) (pa_cons (pe_op op_sub (pv 2) pe_int) pa_nil)))) pa_nil))) (pe_slice sl_tupA (pv 1) (po_some (pe_op op_add (pv 3) pe_int)) po_none))))) pss_nil)
      (pss_cons (ps_set (i := 4) sc__law_bent.nd rfl (.inl rfl) (pe_lst (pa_cons (pe_cal cOD hr (by rfl) (pa_cons (pv 0) pa_nil)) (pa_cons (pe_cal cOD hr (by rfl) (pa_cons (pv 0) pa_nil)) pa_nil))))
      (pss_cons (ps_if (pt_val (pe_callB call_isi (by rfl) misinstance (by decide +kernel) (pa_cons (pv 1) (pa_cons (pe_bltn (v := .ty "tuple") (by rfl) mtuple (by decide +kernel) rfl) pa_nil)))) (pss_one (ps_set (i := 4) sc__law_bent.nd rfl (.inl rfl) (pe_op op_cat (pv 4) (pe_lst (pa_cons (pe_op op_catA (pv 1) (pe_tup (pa_cons (pe_cal cOD hr (by rfl) (pa_cons (pv 0) pa_nil)) pa_nil))) (pa_cons (pe_slice sl_tupA (pv 1) (po_some pe_int) po_none) (pa_cons (pe_op op_catA (pv 1) (pe_slice sl_tupA (pv 1) po_none (po_some pe_int))) (pa_cons (pe_callTy call_list_of (by rfl) mlist (by decide +kernel) (pa_cons (pv 1) pa_nil)) (pa_cons (pe_slice sl_tupA (pv 1) po_none (po_some (pe_un un_neg pe_int))) (pa_cons (pe_revT (pv 1)) pa_nil)))))))))) pss_nil)
      (pss_one (ps_ret (pe_cal cPK hr (by rfl) (pa_cons (pv 0) (pa_cons (pv 4) pa_nil)))))))), fun Z ds R h => by
    obtain ⟨d, j, W, rfl, hc, hs, hW, hj0, hj1, hR⟩ := h
    have odd : ∀ {η : List Ent}, η[0]? = some .deck → SE K Z (tCall (SpZ K preOdd) [] E0 (tCons (tVar 0) tNil)) η (fun d => Sv 3000 6 d) := fun h0 => se_callZ h0 sa_nil ⟨rfl, fun d hd => hd⟩
    have sd : SeqAt.shaped d = true := by
      unfold SeqAt.shaped
      rw [hc, decide_eq_true (Nat.le_trans hs.dp (by decide))]
      rfl
    refine ss_mid (Mid := fun ρ' => ρ' = [.e .deck, .e (.dat d), .e (.dat (.int j)), .e .un, .e .un]) ?_ ?_
    · -- the first if
      rcases isTup_cases d with ⟨xs, rfl⟩ | hn
      · have hxl := tup_len hs
        refine ss_if (Rb := fun c => c = true → xs ≠ [] ∧ 0 < j) ?_ (fun hb => ?_) fun _ => ss_next rfl
        · -- the test
          intro σ G H b s Q q
          refine st_b (se_isi (se_var (i := 1) rfl) (kitTup _)) σ G H b s _ fun c1 G1 H1 e1 s1 => ?_
          subst e1
          refine iteT (st_t (se_neD (se_var (i := 1) rfl) (se_tup sa_nil) sd rfl) σ G1 H1 (b.go s1) (s.ex s1.g) _ fun c2 G2 H2 e2 s2 => ?_)
          subst e2
          rw [eqvNilT]
          have s12 := s1.trans s2
          cases c2 : xs.isEmpty with
          | true => exact iteF (q _ G2 H2 (fun z => nomatch z) s12)
          | false =>
            refine iteT (st_t (se_rI0b (f := fun i j => decide (j < i)) (se_var (i := 2) rfl) se_int) σ G2 H2 (b.go s12) (s.ex s12.g) _ fun c3 G3 H3 e3 s3 => ?_)
            subst e3
            have s13 := s12.trans s3
            cases c3 : decide ((0 : Int) < j) with
            | false => exact iteF (q _ G3 H3 (fun z => nomatch z) s13)
            | true =>
              refine iteT (st_tR (Rb := fun _ => True) (se_opR (R1 := fun d => ∃ r : Int, d = .int r) (R2 := fun d => d = .int 0) (se_callZ rfl (sa_cons se_int sa_nil) ⟨4, rfl, by decide, by decide, fun r _ _ => ⟨r, rfl⟩⟩) se_int ?_) σ G3 H3 (b.go s13) (s.ex s13.g) _ fun c4 G4 H4 e4 s4 => ?_)
              · rintro v1 v2 d1 d2 G H ⟨r, rfl⟩ rfl b h1 h2 Q q
                exact ⟨r, 0, dq_int h1, dq_int h2, q _ _ G H ⟨_, trivial, rfl⟩ (.refl b) (.bl _)⟩
              · refine q _ G4 H4 (fun _ => ⟨fun z => ?_, of_decide_eq_true c3⟩) (s13.trans s4)
                rw [z] at c2
                cases c2
        · -- one part otherwise
          obtain ⟨hne, hj⟩ := hb rfl
          have hp : 0 < xs.length := List.length_pos_iff.mpr hne
          refine ss_seq (ss_setV (R := fun d => ∃ n : Nat, d = .int (n : Nat) ∧ n < xs.length) (se_callZ rfl (sa_cons (se_lenT (se_var (i := 1) rfl)) sa_nil) ⟨_, rfl, by omega, by omega, fun r r0 r1 => ⟨r.toNat, by congr 1; omega, by omega⟩⟩) (fun d hd => by obtain ⟨n, rfl, _⟩ := hd; rfl) fun d hd => ?_)
          obtain ⟨n, rfl, hn⟩ := hd
          obtain ⟨x, hx⟩ : ∃ x, xs[n]? = some x := ⟨_, List.getElem?_eq_getElem hn⟩
          have hxm := List.mem_of_getElem? hx
          have lay : PyData.canLayAll0 xs = true := by simpa only [PyData.canLay0] using hc
          refine ss_ret (R := BV (m + 1) W) ?_ hR
          intro σ G H b s Q q
          refine se_slT (K := K) (se_var (i := 1) rfl) sp_none (sp_some (se_var (i := 3) rfl)) σ G H b s _ fun v1 d1 G1 H1 e1 s1 hd1 => ?_
          refine se_tupR (K := K) (R1 := fun ds => ∃ d, Sv (bentW m W) (11 + m) d ∧ ds = [d]) (SA.mono (sa_consR (R1 := fun d => Sv (bentW m W) (11 + m) d) (se_callZ (K := K) rfl (sa_cons (se_ixT (se_var (i := 1) rfl) (se_var (i := 3) rfl) (atI_nat hx)) (sa_cons (se_rI0 (f := fun i j => i - j) (se_var (i := 2) rfl) se_int) sa_nil)) ⟨x, j - 1, W, rfl, lay_items lay x hxm, hs.items.sub x hxm, hW, by omega, by omega, fun d' hd => hd.sv⟩) sa_nil) fun ds h => ?_) (fun ds h => ?_) σ G1 H1 (b.go s1) (s.ex s1.g) _ fun v2 d2 G2 H2 e2 s2 hd2 => ?_
          · obtain ⟨d, r, hd, rfl, rfl⟩ := h; exact ⟨d, hd, rfl⟩
          · obtain ⟨d, _, rfl⟩ := h; exact Nat.le_of_ble_eq_true rfl
          obtain ⟨_, ⟨y, hy, rfl⟩, rfl⟩ := e2
          subst e1
          have s12 := s1.trans s2
          have b2 := b.go s12
          refine catA2 (K := K) (ds := cutD xs none (some (n : Nat))) (es := [y]) b2 (Dq.ex s2.g _ _ hd1) hd2 (by have := cutD_len xs none (some ((n : Nat) : Int)); simp; omega) fun v3 G3 H3 s3 hd3 => ?_
          have s13 := s12.trans s3
          refine se_slT (K := K) (se_var (i := 1) rfl) (sp_some (se_rI0 (f := fun i j => i + j) (se_var (i := 3) rfl) se_int)) sp_none σ G3 H3 (b.go s13) (s.ex s13.g) _ fun v4 d4 G4 H4 e4 s4 hd4 => ?_
          subst e4
          have s14 := s13.trans s4
          refine catA2 (K := K) (ds := cutD xs none (some (n : Nat)) ++ [y]) (es := cutD xs (some ((n : Int) + 1)) none) (b.go s14) (Dq.ex s4.g _ _ hd3) hd4 (by have := cutD_len xs none (some ((n : Nat) : Int)); have := cutD_len xs (some ((n : Int) + 1)) none; rw [List.length_append]; simp; omega) fun v5 G5 H5 s5 hd5 => ?_
          refine q _ _ G5 H5 ?_ (s14.trans s5) hd5
          have A := sv_cut hs.items none (some ((n : Nat) : Int))
          have B := sv_cut hs.items (some ((n : Int) + 1)) none
          refine ⟨(Sv.tup ((A.app (SvA.cons hy (SvA.nil (k := 0)))).app B)).mono ?_ ?_, .tup (by have := cutD_len xs none (some ((n : Nat) : Int)); have := cutD_len xs (some ((n : Int) + 1)) none; rw [List.length_append, List.length_append]; simp; omega)⟩
          · unfold bentW
            rw [show 2 * (m + 1) * W = 2 * m * W + 2 * W by rw [Nat.mul_add, Nat.add_mul]]
            omega
          · omega
      · refine ss_ifQ (b := false) (st_eq (b := false && false) (st_and (d := false) (st_b (se_isi (se_var (i := 1) rfl) (by rw [← hn]; exact kitTup d))) fun z => nomatch z) rfl) (fun z => nomatch z) fun _ => ss_next rfl
    · rintro ρ' rfl
      have big : ∀ {d : PyData}, Sv 3000 6 d → BV (m + 1) W d := fun h => ⟨h.mono (by unfold bentW; omega) (by omega), fun xs e => by subst e; have := tup_len h; omega⟩
      -- two odd ones
      refine ss_seq (ss_setL (so_lstR (sa_consR (odd rfl) (sa_consR (odd rfl) sa_nil)) fun ds h => ?_) fun ds h => ?_)
      · obtain ⟨_, _, _, ⟨_, _, _, rfl, rfl⟩, rfl⟩ := h; exact Nat.le_of_ble_eq_true rfl
      obtain ⟨o1, _, ho1, ⟨o2, _, ho2, rfl, rfl⟩, rfl⟩ := h
      refine ss_mid (Mid := fun ρ' => ∃ es, ρ' = [.e .deck, .e (.dat d), .e (.dat (.int j)), .e .un, .lst es] ∧ es ≠ [] ∧ es.length ≤ 100 ∧ ∀ x ∈ es, BV (m + 1) W x) ?_ ?_
      · rcases isTup_cases d with ⟨xs, rfl⟩ | hn
        · have hxl := tup_len hs
          refine ss_tell 4 rfl (ss_ifQ (b := true) (st_b (se_isi (se_var (i := 1) rfl) (kitTup _))) (fun _ => ?_) fun z => nomatch z)
          have A := hs.items
          have cA : ∀ lo hi, BV (m + 1) W (.tuple (cutD xs lo hi)) := fun lo hi => ⟨(Sv.tup (sv_cut A lo hi)).mono (show W ≤ bentW (m + 1) W by unfold bentW; omega) (show 10 + 1 ≤ 11 + (m + 1) by omega), .tup (by have := cutD_len xs lo hi; omega)⟩
          refine ss_setL (so_catR (R2 := fun es => es.length = 6 ∧ ∀ x ∈ es, BV (m + 1) W x) (se_var (i := 4) rfl) (SE.mono (SO.e (so_lstR (sa_consR (R1 := BV (m + 1) W) (se_catAR (R2 := fun es => ∃ y, Sv 3000 6 y ∧ es = [y]) (se_var (i := 1) rfl) (SE.mono (se_tupR (sa_consR (odd rfl) sa_nil) fun ds h => ?_) fun d h => ?_) ?_ ?_)
            (sa_consR (R1 := BV (m + 1) W) (SE.ex1 (se_slT (se_var (i := 1) rfl) (sp_some se_int) sp_none) (cA _ _))
            (sa_consR (R1 := BV (m + 1) W) (SE.ex1 (se_catA (se_var (i := 1) rfl) (se_slT (se_var (i := 1) rfl) sp_none (sp_some se_int)) (by have := cutD_len xs none (some 1); omega)) ⟨(Sv.tup (A.app (sv_cut A none (some 1)))).mono (by unfold bentW; rw [show 2 * (m + 1) * W = 2 * m * W + 2 * W by rw [Nat.mul_add, Nat.add_mul]]; omega) (by omega), .tup (by have := cutD_len xs none (some 1); rw [List.length_append]; omega)⟩)
            (sa_consR (R1 := BV (m + 1) W) (SE.ex1 (so_listT (se_var (i := 1) rfl)).q ⟨(Sv.lst A).mono (by unfold bentW; omega) (by omega), fun xs e => nomatch e⟩)
            (sa_consR (R1 := BV (m + 1) W) (SE.ex1 (se_slT (se_var (i := 1) rfl) sp_none (sp_some (se_neg se_int))) (cA _ _))
            (sa_consR (R1 := BV (m + 1) W) (SE.ex1 (se_revT (se_var (i := 1) rfl)) ⟨(Sv.tup A.rev).mono (by unfold bentW; omega) (by omega), .tup (by rw [List.length_reverse]; omega)⟩) sa_nil)))))) ?_)) ?_) ?_) ?_
          · obtain ⟨_, _, _, rfl, rfl⟩ := h; exact Nat.le_of_ble_eq_true rfl
          · obtain ⟨_, ⟨y, _, hy, rfl, rfl⟩, rfl⟩ := h; exact ⟨_, ⟨y, hy, rfl⟩, rfl⟩
          · rintro es ⟨y, _, rfl⟩; simp; omega
          · rintro es ⟨y, hy, rfl⟩
            exact ⟨(Sv.tup (A.app (SvA.cons hy (SvA.nil (k := 0))))).mono (by unfold bentW; omega) (by omega), .tup (by rw [List.length_append]; simp; omega)⟩
          · rintro ds ⟨_, _, _, ⟨_, _, _, ⟨_, _, _, ⟨_, _, _, ⟨_, _, _, ⟨_, _, _, rfl, rfl⟩, rfl⟩, rfl⟩, rfl⟩, rfl⟩, rfl⟩; exact Nat.le_of_ble_eq_true rfl
          · rintro x ⟨ds, ⟨_, _, k1, ⟨_, _, k2, ⟨_, _, k3, ⟨_, _, k4, ⟨_, _, k5, ⟨_, _, k6, rfl, rfl⟩, rfl⟩, rfl⟩, rfl⟩, rfl⟩, rfl⟩, rfl⟩
            refine ⟨_, ⟨rfl, fun d hd => ?_⟩, rfl⟩
            simp at hd
            rcases hd with z | z | z | z | z | z <;> (subst z; assumption)
          · rintro es ⟨h6, _⟩; simp; omega
          · rintro ds ⟨es, ⟨h6, hes⟩, rfl⟩
            refine ⟨[o1, o2] ++ es, rfl, List.cons_ne_nil _ _, by simp; omega, fun x hx => ?_⟩
            rcases List.mem_append.mp hx with z | z
            · simp at z
              rcases z with z | z <;> (subst z; exact big (by assumption))
            · exact hes x z
        · refine ss_ifQ (b := false) (st_b (se_isi (se_var (i := 1) rfl) (by rw [← hn]; exact kitTup d))) (fun z => nomatch z) fun _ => ss_next ⟨_, rfl, List.cons_ne_nil _ _, by show 2 ≤ 100; decide, fun x hx => ?_⟩
          simp at hx
          rcases hx with z | z <;> (subst z; exact big (by assumption))
      · rintro ρ' ⟨es, rfl, hne, hl, hes⟩
        exact ss_ret (R := BV (m + 1) W) (se_callZ rfl (sa_cons (se_var (i := 4) rfl) sa_nil) ⟨es, rfl, hne, by omega, hes⟩) hR⟩
end
end FF
set_option maxHeartbeats 4000000
namespace FF
open PySem PySem.Spec PyProof.Rows L2 Evl
def f_lit : (Bd) → (List Int) → (List Int) → (List Int → Prop) → Prop := fun b on bl R => WG b.1 b.2 ∧ OnOk b.2 on ∧ R (litD (b.1.map (·.1)) b.2 on bl)
theorem cv_lit : ∀ (ds : List PyData) (R : PyData → Prop), preT (encC eBd (encC (eT eI) (encC (eT eI) encN))) (eT eI) (fun t => f_lit t.1 t.2.1 t.2.2.1) ds R → preLit ds R := fun ds R ⟨t, R', e, h, hR⟩ => by
  subst e
  exact match t, h with
    | ⟨(fs, ls), on, bl, _⟩, h => ⟨fs, ls, on, bl, rfl, h.1, h.2.1, hR _ h.2.2⟩
def f_loads : (Bd) → (List Int) → (List Int) → (List Int → Prop) → Prop := fun b on bl R => WG b.1 b.2 ∧ OnOk b.2 on ∧ R (loadsD b.1.length (b.1.map (·.1)) b.2 (litD (b.1.map (·.1)) b.2 on bl))
theorem cv_loads : ∀ (ds : List PyData) (R : PyData → Prop), preT (encC eBd (encC (eT eI) (encC (eT eI) encN))) (eT eI) (fun t => f_loads t.1 t.2.1 t.2.2.1) ds R → preLoads ds R := fun ds R ⟨t, R', e, h, hR⟩ => by
  subst e
  exact match t, h with
    | ⟨(fs, ls), on, bl, _⟩, h => ⟨fs, ls, on, bl, rfl, h.1, h.2.1, hR _ h.2.2⟩
def f_strained : (Bd) → (List Int) → (List Int) → (List Int → Prop) → Prop := fun b on bl R => WG b.1 b.2 ∧ OnOk b.2 on ∧ R (strD b.1 b.2 on bl)
theorem cv_strained : ∀ (ds : List PyData) (R : PyData → Prop), preT (encC eBd (encC (eT eI) (encC (eT eI) encN))) (eT eI) (fun t => f_strained t.1 t.2.1 t.2.2.1) ds R → preStr ds R := fun ds R ⟨t, R', e, h, hR⟩ => by
  subst e
  exact match t, h with
    | ⟨(fs, ls), on, bl, _⟩, h => ⟨fs, ls, on, bl, rfl, h.1, h.2.1, hR _ h.2.2⟩
def f_at_rest : (Bd) → (List Int) → (List Int) → (Bool → Prop) → Prop := fun b on bl R => WG b.1 b.2 ∧ OnOk b.2 on ∧ R (strD b.1 b.2 on bl).isEmpty
theorem cv_at_rest : ∀ (ds : List PyData) (R : PyData → Prop), preT (encC eBd (encC (eT eI) (encC (eT eI) encN))) eB (fun t => f_at_rest t.1 t.2.1 t.2.2.1) ds R → preRest ds R := fun ds R ⟨t, R', e, h, hR⟩ => by
  subst e
  exact match t, h with
    | ⟨(fs, ls), on, bl, _⟩, h => ⟨fs, ls, on, bl, rfl, h.1, h.2.1, hR _ h.2.2⟩
def f_own_draws : (Bd) → (List Int) → (List Int → Prop) → Prop := fun b on R => WG b.1 b.2 ∧ OnOk b.2 on ∧ R ((rngI b.1.length).map fun f => sumBy (drawsOf b.2 on) fun h => decide (h = f))
theorem cv_own_draws : ∀ (ds : List PyData) (R : List PyData → Prop), preO (encC eBd (encC (eT eI) encN)) eI (fun t => f_own_draws t.1 t.2.1) ds R → preOwn ds R := fun ds R ⟨t, R', e, h, hR⟩ => by
  subst e
  exact match t, h with
    | ⟨(fs, ls), on, _⟩, h => ⟨fs, ls, on, rfl, h.1, h.2.1, hR _ h.2.2⟩
def f_is_integer : (PyData) → (Int) → (Int) → (Bool → Prop) → Prop := fun d lo hi R => R (intIn lo hi d)
theorem cv_is_integer : ∀ (ds : List PyData) (R : PyData → Prop), preT (encC eD (encC eI (encC eI encN))) eB (fun t => f_is_integer t.1 t.2.1 t.2.2.1) ds R → preInt ds R := fun ds R ⟨t, R', e, h, hR⟩ => by
  subst e
  exact match t, h with
    | ⟨d, lo, hi, _⟩, h => ⟨d, lo, hi, rfl, hR _ h⟩
def f_is_int_L : (PyData) → (Int) → (Int) → (Bool → Prop) → Prop := fun d lo hi R => R (intIn lo hi d)
theorem cv_is_int_L : ∀ (ds : List PyData) (R : PyData → Prop), preT (encC eD (encC eI (encC eI encN))) eB (fun t => f_is_int_L t.1 t.2.1 t.2.2.1) ds R → preInt ds R := fun ds R ⟨t, R', e, h, hR⟩ => by
  subst e
  exact match t, h with
    | ⟨d, lo, hi, _⟩, h => ⟨d, lo, hi, rfl, hR _ h⟩
def f_is_row : (PyData) → (Int) → (Int) → (Bool → Prop) → Prop := fun d lo hi R => R (rowIn lo hi d)
theorem cv_is_row : ∀ (ds : List PyData) (R : PyData → Prop), preT (encC eD (encC eI (encC eI encN))) eB (fun t => f_is_row t.1 t.2.1 t.2.2.1) ds R → preRow ds R := fun ds R ⟨t, R', e, h, hR⟩ => by
  subst e
  exact match t, h with
    | ⟨d, lo, hi, _⟩, h => ⟨d, lo, hi, rfl, hR _ h⟩
def f_are_unlike : (PyData) → (Int) → (Bool → Prop) → Prop := fun d n R => ∃ k : Nat, n = k ∧ k ≤ 1000 ∧ R (unlikeB k d)
theorem cv_are_unlike : ∀ (ds : List PyData) (R : PyData → Prop), preT (encC eD (encC eI encN)) eB (fun t => f_are_unlike t.1 t.2.1) ds R → preUnl ds R := fun ds R ⟨t, R', e, h, hR⟩ => by
  subst e
  exact match t, h with
    | ⟨d, n, _⟩, h => by obtain ⟨k, h1, h2, h3⟩ := h; exact ⟨d, k, by rw [← h1]; rfl, h2, hR _ h3⟩
def f_draw_L : (Int) → (Int → Prop) → Prop := fun n R => 1 ≤ n ∧ n < 1000000 ∧ ∀ r : Int, 0 ≤ r → r < n → R r
theorem cv_draw_L : ∀ (ds : List PyData) (R : PyData → Prop), preT (encC eI encN) eI (fun t => f_draw_L t.1) ds R → preDraw ds R := fun ds R ⟨t, R', e, h, hR⟩ => by
  subst e
  exact match t, h with
    | ⟨n, _⟩, h => ⟨n, rfl, h.1, h.2.1, fun r h1 h2 => hR _ (h.2.2 r h1 h2)⟩
def f_board_L : (Int) → (Int) → (Bd → Prop) → Prop := fun a b R => 1 ≤ a ∧ a ≤ 20 ∧ 0 ≤ b ∧ b ≤ 30 ∧ ∀ fs ls, WB fs ls → (fs.length : Int) ≤ a → (ls.length : Int) ≤ b → R (fs, ls)
theorem cv_board_L : ∀ (ds : List PyData) (R : PyData → Prop), preT (encC eI (encC eI encN)) eBd (fun t => f_board_L t.1 t.2.1) ds R → preBoard ds R := fun ds R ⟨t, R', e, h, hR⟩ => by
  subst e
  exact match t, h with
    | ⟨a, b, _⟩, h => ⟨a, b, rfl, h.1, h.2.1, h.2.2.1, h.2.2.2.1, fun fs ls h1 h2 h3 => hR (fs, ls) (h.2.2.2.2 fs ls h1 h2 h3)⟩
def f_way_L : (List (Int × Int)) → (Int) → (List Int → Prop) → Prop := fun ps a R => WF (ps.map (·.1)) ∧ 0 ≤ a ∧ a < ps.length ∧ ps.length ≤ 100 ∧ R (way (ps.map (·.1)) a)
theorem cv_way_L : ∀ (ds : List PyData) (R : List PyData → Prop), preO (encC (eT (eP eI eI)) (encC eI encN)) eI (fun t => f_way_L t.1 t.2.1) ds R → preWay ds R := fun ds R ⟨t, R', e, h, hR⟩ => by
  subst e
  exact match t, h with
    | ⟨ps, a, _⟩, h => ⟨ps, a, rfl, h.1, h.2.1, h.2.2.1, h.2.2.2.1, hR _ h.2.2.2.2⟩
def f_lit_L : (Bd) → (List Int) → (List Int) → (List Int → Prop) → Prop := fun b on bl R => WG b.1 b.2 ∧ b.1.length ≤ 100 ∧ OnOk b.2 on ∧ R (litD (b.1.map (·.1)) b.2 on bl)
theorem cv_lit_L : ∀ (ds : List PyData) (R : PyData → Prop), preT (encC eBd (encC (eT eI) (encC (eT eI) encN))) (eT eI) (fun t => f_lit_L t.1 t.2.1 t.2.2.1) ds R → preLLit ds R := fun ds R ⟨t, R', e, h, hR⟩ => by
  subst e
  exact match t, h with
    | ⟨(fs, ls), on, bl, _⟩, h => ⟨fs, ls, on, bl, rfl, h.1, h.2.1, h.2.2.1, hR _ h.2.2.2⟩
def f_loads_L : (Bd) → (List Int) → (List Int) → (List Int → Prop) → Prop := fun b on bl R => WG b.1 b.2 ∧ b.1.length ≤ 100 ∧ OnOk b.2 on ∧ R (loadsD b.1.length (b.1.map (·.1)) b.2 (litD (b.1.map (·.1)) b.2 on bl))
theorem cv_loads_L : ∀ (ds : List PyData) (R : PyData → Prop), preT (encC eBd (encC (eT eI) (encC (eT eI) encN))) (eL eI) (fun t => f_loads_L t.1 t.2.1 t.2.2.1) ds R → (fun ds R => preLLoads ds fun es => R (.list es)) ds R := fun ds R ⟨t, R', e, h, hR⟩ => by
  subst e
  exact match t, h with
    | ⟨(fs, ls), on, bl, _⟩, h => ⟨fs, ls, on, bl, rfl, h.1, h.2.1, h.2.2.1, hR _ h.2.2.2⟩
def f_strained_L : (Bd) → (List Int) → (List Int) → (List Int → Prop) → Prop := fun b on bl R => WG b.1 b.2 ∧ b.1.length ≤ 100 ∧ OnOk b.2 on ∧ R (strD b.1 b.2 on bl)
theorem cv_strained_L : ∀ (ds : List PyData) (R : PyData → Prop), preT (encC eBd (encC (eT eI) (encC (eT eI) encN))) (eL eI) (fun t => f_strained_L t.1 t.2.1 t.2.2.1) ds R → (fun ds R => preLStr ds fun es => R (.list es)) ds R := fun ds R ⟨t, R', e, h, hR⟩ => by
  subst e
  exact match t, h with
    | ⟨(fs, ls), on, bl, _⟩, h => ⟨fs, ls, on, bl, rfl, h.1, h.2.1, h.2.2.1, hR _ h.2.2.2⟩
def f_odd_L : (PyData → Prop) → Prop := fun R => ∀ d, Sv 3000 6 d → R d
theorem cv_odd_L : ∀ (ds : List PyData) (R : PyData → Prop), preT encN eD (fun t => f_odd_L ) ds R → preOdd ds R := fun ds R ⟨t, R', e, h, hR⟩ => by
  subst e
  exact match t, h with
    | _, h => ⟨rfl, fun d hd => hR d (h d hd)⟩
def f_bent_L : (PyData) → (Int) → (PyData → Prop) → Prop := fun d j R => ∃ W, d.canLay0 = true ∧ Sv W 10 d ∧ W ≤ 3000 ∧ 0 ≤ j ∧ j < 4 ∧ ∀ d', BV 4 W d' → R d'
theorem cv_bent_L : ∀ (ds : List PyData) (R : PyData → Prop), preT (encC eD (encC eI encN)) eD (fun t => f_bent_L t.1 t.2.1) ds R → (preBent 4) ds R := fun ds R ⟨t, R', e, h, hR⟩ => by
  subst e
  exact match t, h with
    | ⟨d, j, _⟩, h => by obtain ⟨W, h1, h2, h3, h4, h5, h6⟩ := h; exact ⟨d, j, W, rfl, h1, h2, h3, h4, h5, fun d' hd => hR _ (h6 d' hd)⟩
section
variable {P : Program} {w : World} {K : PySem.W.Frag} {mg : Str → Option Value} {base : Heap} {f : Addr} {fd : FuncData} {k : Nat}
theorem sc_story_L : FnScope ["_law_deck_here", "_law_board_here", "_law_most", "_law_found", "_law_lamps", "_law_k", "_law_way_here"] ["_law_deck_here", "_law_board_here", "_law_most"] (defScope sL_story) := ⟨rfl, rfl, rfl, by decide +kernel, rfl, by decide +kernel, by decide +kernel⟩
def f_story_L : (Bd) → (Int) → (List PyData → Prop) → Prop := fun a1 a2 RET => st (fun R => R ([] : List PyData)) fun (found_2 : List PyData) => st (fun R => R (a1.2.length : Int)) fun (lamps_3 : Int) => forS (fun R => f_draw_L (a2 + (1 : Int)) fun v4 => rg1 v4 fun l5 => R l5) found_2 (fun x7 (s6 : (List PyData)) nx8 bk9 => st (fun R => f_draw_L (7 : Int) fun v14 => R v14) fun (way_here_12 : Int) => ifS (fun R => cnd (decide ((0 : Int) < lamps_3)) (R (decide (way_here_12 < (5 : Int)))) (R false)) (st (fun R => idx ([("on" : Str), ("on" : Str), ("on" : Str), ("on" : Str), ("off" : Str)] : List Str) way_here_12 fun v18 => f_draw_L lamps_3 fun v19 => R ((eP eS eI) (v18, v19))) fun v20 => s6.length < 100000 ∧ nx8 ((s6 ++ [v20]))) (st (fun R => R ((eT eS) [("pause" : Str)])) fun v22 => s6.length < 100000 ∧ nx8 ((s6 ++ [v22])))) fun s23 => st (fun R => R s23) RET
theorem ok_story_L (F : Fun K "_law_story" "_law_story" sL_story f fd) (c_draw_L : Cal P w K mg base k "_law_draw" ["_law_deck_here", "_law_bound"] (SpZ K (preT (encC eI encN) eI (fun t => f_draw_L t.1)))) (mlen : mg "len" = none) (mrange : mg "range" = none) (mtuple : mg "tuple" = none)  : FnOk P w K mg base CX0 (k + 1) f fd ["_law_deck_here", "_law_board_here", "_law_most"] (SpZ K (preT (encC eBd (encC eI encN)) (eT eD) (fun t => f_story_L t.1 t.2.1))) :=
  ok_TZ F sc_story_L (fun _ => rfl) fun cdv A outer s H E hr => ⟨_, (pss_cons (ps_par (i := 3) (j := 4) rfl sc_story_L.nd rfl rfl (by decide) rfl rfl (pa_cons (pe_lst pa_nil) (pa_cons (pe_callB call_len_seq (by rfl) mlen PySem.boot_len (pa_cons (pe_ix ix_tup (pv 1) pe_int (fun _ _ => rfl)) pa_nil)) pa_nil)) (by rfl))
      (pss_cons (ps_for PassesOwn.never rfl (pi_range1 (by rfl) mrange (pa_cons (pe_cal c_draw_L hr (by rfl) (pa_cons (pv 0) (pa_cons (pe_op op_add (pv 2) pe_int) pa_nil))) pa_nil)) (pg_name (i := 5) sc_story_L.nd rfl (Or.inl rfl)) (pss_cons (ps_set (i := 6) sc_story_L.nd rfl (.inl rfl) (pe_cal c_draw_L hr (by rfl) (pa_cons (pv 0) (pa_cons pe_int pa_nil))))
      (pss_one (ps_if (PW.pt (pw_and (pt_cmpR op_gt (pv 4) pe_int (nomark _)) (pw_and1 (pt_cmpR op_lt (pv 6) pe_int (nomark _))))) (pss_one (ps_expr (pe_bm PySem.F.plainAttrs_list PySem.F.slot_list_append PySem.F.type_list_append mt_append (pv 3) (pa_cons (pe_tup (pa_cons (pe_ix ix_list (pe_lst (pa_cons pe_str (pa_cons pe_str (pa_cons pe_str (pa_cons pe_str (pa_cons pe_str pa_nil)))))) (pv 6) (fun _ _ => rfl)) (pa_cons (pe_cal c_draw_L hr (by rfl) (pa_cons (pv 0) (pa_cons (pv 4) pa_nil))) pa_nil))) pa_nil)))) (pss_one (ps_expr (pe_bm PySem.F.plainAttrs_list PySem.F.slot_list_append PySem.F.type_list_append mt_append (pv 3) (pa_cons (pe_tup (pa_cons pe_str pa_nil)) pa_nil))))))))
      (pss_one (ps_ret (pe_callTy call_tuple_of (by rfl) mtuple (by decide +kernel) (pa_cons (pv 3) pa_nil)))))), fun Z a RET R0 HH HK => by
    obtain ⟨a1, a2, _⟩ := a
    have HH : f_story_L a1 a2 RET := HH
    unfold f_story_L at HH
    show SS K Z _ [.e .deck, .e (.dat (eBd a1)), .e (.dat (eI a2)), .e .un, .e .un, .e .un, .e .un] (fun _ => False) { rt := R0 }
    refine ss_seq (rs_parLV (by decide) (rfo_lst (e := eD) (fun (t : Unit) => ([] : List PyData)) ra_nil) (rf_lenT (rf_p1 (rf_var eBd a1))) HH fun found_2 lamps_3 h1 => ?_)
    refine ss_seq (rs_for (ea := eI) (fun (s6 : (List PyData)) => [.e .deck, .e (.dat (eBd a1)), .e (.dat (eI a2)), .lst ((s6 : List PyData).map eD), .e (.dat (eI lamps_3)), .e .un, .e .un]) (fun a => [eI a]) found_2 (ri_rg1 (rf_callZ (ra_cons (rf_i2 (rf_var eI a2) rf_int) ra_nil))) sg_name (fun _ => rfl) ⟨.inl rfl, ⟨.inl rfl, ⟨.inl rfl, ⟨.inl rfl, ⟨.inl rfl, ⟨.inl rfl, ⟨.inl rfl, trivial⟩⟩⟩⟩⟩⟩⟩ h1 (fun x7 s6 nx8 h10 => ?_) (fun s23 h11 => ?_) clo_seq)
    · refine ss_seq (rs_set (e := eI) (rf_callZ (ra_cons rf_int ra_nil)) h10 fun way_here_12 h13 => ?_)
      refine rs_if (rb_and (rb_t (rf_ib (rf_var eI lamps_3) rf_int)) (rb_t (rf_ib (rf_var eI way_here_12) rf_int))) h13 (fun h15 => ?_) (fun h16 => ?_)
      · refine rs_app s6 (rf_any (rf_tup (e := (eP eS eI)) (fun (t : Str × Int × Unit) => ((t.1, t.2.1) : Str × Int)) (ra_cons (rf_ixL (rf_told (rfo_lst (e := eS) (fun (t : Str × Str × Str × Str × Str × Unit) => ([t.1, t.2.1, t.2.2.1, t.2.2.2.1, t.2.2.2.2.1] : List Str)) (ra_cons rf_str (ra_cons rf_str (ra_cons rf_str (ra_cons rf_str (ra_cons rf_str ra_nil))))))) (rf_var eI way_here_12)) (ra_cons (rf_callZ (ra_cons (rf_var eI lamps_3) ra_nil)) ra_nil)))) h15 fun v20 h17 => ?_
        exact ⟨((s6 ++ [v20])), ⟨.inl rfl, ⟨.inl rfl, ⟨.inl rfl, ⟨.inl rfl, ⟨.inl rfl, ⟨.inr rfl, ⟨.inr rfl, trivial⟩⟩⟩⟩⟩⟩⟩, h17⟩
      · refine rs_app s6 (rf_any (rf_tup (e := (eT eS)) (fun (t : Str × Unit) => ([t.1] : List Str)) (ra_cons rf_str ra_nil))) h16 fun v22 h21 => ?_
        exact ⟨((s6 ++ [v22])), ⟨.inl rfl, ⟨.inl rfl, ⟨.inl rfl, ⟨.inl rfl, ⟨.inl rfl, ⟨.inr rfl, ⟨.inr rfl, trivial⟩⟩⟩⟩⟩⟩⟩, h21⟩
    · refine rs_tell 3 eD s23 ?_
      exact rs_ret (rf_tupL (rf_var (eL eD) s23)) h11 HK⟩
theorem sc_on_after_L : FnScope ["_law_story_here", "_law_found", "_law_deed", "_law_lamp"] ["_law_story_here"] (defScope sL_on_after) := ⟨rfl, rfl, rfl, by decide +kernel, rfl, by decide +kernel, by decide +kernel⟩
def f_on_after_L : (List PyData) → (List Int → Prop) → Prop := fun a1 RET => st (fun R => R ([] : List (Int × Bool))) fun (found_1 : List (Int × Bool)) => forS (fun R => R a1) found_1 (fun x4 (s3 : (List (Int × Bool))) nx5 bk6 => ifS (fun R => asE (eT eD) x4 fun v9 => idx v9 (0 : Int) fun v10 => eqD (eD v10) (eS ("pause" : Str)) fun c11 => R (!c11)) (st (fun R => asE (eT eD) x4 fun v15 => idx v15 (0 : Int) fun v16 => R (isS (eD v16) ("on" : Str))) fun v21 => st (fun R => asE (eT eD) x4 fun v17 => idx v17 (1 : Int) fun v18 => asE eI v18 fun v19 => R v19) fun v22 => s3.length < 100000 ∧ st (fun R => R (putM s3 v22 v21)) fun found_20 => nx5 found_20) (nx5 s3)) fun s23 => st (fun R => lcC (s23.map (·.1)) [] (fun x24 R => atM s23 x24 fun v25 => R v25) (fun x24 R => R x24) fun l26 => R (sortI l26)) RET
theorem ok_on_after_L (F : Fun K "_law_on_after" "_law_on_after" sL_on_after f fd)  (msorted : mg "sorted" = none) (mtuple : mg "tuple" = none)  : FnOk P w K mg base CX0 (k + 1) f fd ["_law_story_here"] (SpD K (preT (encC (eT eD) encN) (eT eI) (fun t => f_on_after_L t.1))) :=
  ok_T F sc_on_after_L (fun _ => rfl) fun cdv A outer s H E hr => ⟨_, (pss_cons (ps_set (i := 1) sc_on_after_L.nd rfl (.inr rfl) pe_dnewK)
      (pss_cons (ps_for PassesOwn.never rfl (pi_tup (pv 0)) (pg_name (i := 2) sc_on_after_L.nd rfl (Or.inl rfl)) (pss_one (ps_if (pt_cmpR (op_neD hr.units) (pe_ix ix_tup (pv 2) pe_int (fun _ _ => rfl)) pe_str (nomark _)) (pss_one (ps_asg (pe_cmpR (op_eqS hr.units) (pe_ix ix_tup (pv 2) pe_int (fun _ _ => rfl)) pe_str (nomark _)) (pg_sub (pv 1) (pe_ix ix_tup (pv 2) pe_int (fun _ _ => rfl)) (set_dM hr.units)))) pss_nil)))
      (pss_one (ps_frz (ps_ret (pe_callTy call_tuple_of (by rfl) mtuple (by decide +kernel) (pa_cons (pe_callB cr_sortedA (by rfl) msorted (by decide +kernel) (pa_cons (pe_lc (own := [("_law_lamp", 3)]) (g := (gName 3)) (by rfl) sc_on_after_L.nd (pi_keys (pv 1)) (blkOk_by (own := [("_law_lamp", 3)]) (N := ["_law_story_here", "_law_found", "_law_deed", "_law_lamp"]) (sc := (defScope sL_on_after)) (by decide +kernel)) (fun _ _ _ _ _ => (pg_name (i := 3) sc_on_after_L.nd rfl (Or.inl rfl))) (fun _ _ _ _ _ => pts_one (pt_val (pe_dgetU hr.units (pv 1) (pv 3) (fun _ _ => rfl)))) (fun _ _ _ _ _ => (pv 3))) pa_nil)) pa_nil))))))), fun a RET R0 HH HK => by
    obtain ⟨a1, _⟩ := a
    have HH : f_on_after_L a1 RET := HH
    unfold f_on_after_L at HH
    show SS K none _ [.e (.dat ((eT eD) a1)), .e .un, .e .un, .e .un] (fun _ => False) { rt := R0 }
    refine ss_seq (rs_setD (rfd_new eB) HH fun found_1 h2 => ?_)
    refine ss_seq (rs_for (ea := eD) (fun (s3 : (List (Int × Bool))) => [.e (.dat ((eT eD) a1)), .dm (dM eB (s3 : List (Int × Bool))), .e .un, .e .un]) (fun a => [eD a]) found_1 (ri_tup (rf_var (eT eD) a1)) sg_name (fun _ => rfl) ⟨.inl rfl, ⟨.inl rfl, ⟨.inl rfl, ⟨.inl rfl, trivial⟩⟩⟩⟩ h2 (fun x4 s3 nx5 h7 => ?_) (fun s23 h8 => ?_) clo_seq)
    · refine rs_if (rb_t (rf_neD (rf_ixT (rf_as (e := (eT eD)) (rf_var eD x4)) rf_int) rf_str)) h7 (fun h12 => ?_) (fun h13 => ?_)
      · refine rs_putD s3 (rf_eqDS (rf_ixT (rf_as (e := (eT eD)) (rf_var eD x4)) rf_int) rf_str) (rf_as (e := eI) (rf_ixT (rf_as (e := (eT eD)) (rf_var eD x4)) rf_int)) h12 fun found_20 h14 => ?_
        exact ⟨found_20, ⟨.inl rfl, ⟨.inl rfl, ⟨.inr rfl, ⟨.inl rfl, trivial⟩⟩⟩⟩, h14⟩
      · exact ss_next (⟨s3, ⟨.inl rfl, ⟨.inl rfl, ⟨.inr rfl, ⟨.inl rfl, trivial⟩⟩⟩⟩, h13⟩)
    · exact rs_tellD (i := 1) eB s23 (rs_ret (rf_tupL (rf_told (rfo_sortL (rf_told (rfo_lc (e := eI) (e1 := eI) (fun a => [eI a]) (ri_keys (rf_var (eM eB) s23)) sg_name (by decide) (fun _ => ⟨rfl, rfl⟩) (fun x24 => (rb_b (rf_dget (rf_var (eM eB) s23) (rf_var eI x24)))) (fun x24 => (rf_var eI x24))))))) h8 HK)⟩
theorem sc_tale_L : FnScope ["_law_deck_here", "_law_board_here", "_law_story_here", "_law_found", "_law_blown", "_law_at", "_law_on", "_law_now", "_law_many", "_law_turn", "_law_some", "_law_fuse"] ["_law_deck_here", "_law_board_here", "_law_story_here"] (defScope sL_tale) := ⟨rfl, rfl, rfl, by decide +kernel, rfl, by decide +kernel, by decide +kernel⟩
def f_tale_L : (Bd) → (List PyData) → (List (List Int) → Prop) → Prop := fun a1 a2 RET => st (fun R => R ([] : List (List Int))) fun (found_2 : List (List Int)) => st (fun R => R ([] : List Int)) fun (blown_3 : List Int) => forS (fun R => rg1 (a2.length : Int) fun l4 => R l4) (found_2, blown_3) (fun x6 (s5 : (List (List Int)) × (List Int)) nx7 bk8 => st (fun R => f_on_after_L (cutL a2 none (some (x6 + (1 : Int)))) fun v12 => R v12) fun (on_14 : List Int) => st (fun R => R ([] : List Int)) fun (now_15 : List Int) => st (fun R => f_draw_L (3 : Int) fun v13 => R v13) fun (many_16 : Int) => forS (fun R => rg1 (a1.1.length : Int) fun l17 => R l17) (s5.2, now_15) (fun x19 (s18 : (List Int) × (List Int)) nx20 bk21 => st (fun R => f_strained_L a1 on_14 s18.1 fun v26 => R v26) fun (some_24 : List Int) => ifS (fun R => cnd (!some_24.isEmpty) (idx a2 x6 fun v27 => asE (eT eD) v27 fun v28 => idx v28 (0 : Int) fun v29 => cnd (isS (eD v29) ("pause" : Str)) (R true) (R (decide ((s18.2.length : Int) < many_16)))) (R false)) (st (fun R => f_pick some_24 fun v34 => R v34) fun (fuse_32 : Int) => st (fun R => few (s18.2 ++ [fuse_32]) fun v36 => R v36) fun (now_38 : List Int) => st (fun R => few (s18.1 ++ [fuse_32]) fun v37 => R v37) fun (blown_39 : List Int) => nx20 (blown_39, now_38)) (nx20 (s18.1, s18.2))) fun s40 => st (fun R => R s40.2) fun v42 => s5.1.length < 100000 ∧ nx7 ((s5.1 ++ [v42]), s40.1)) fun s43 => st (fun R => R s43.1) RET
theorem ok_tale_L (F : Fun K "_law_tale" "_law_tale" sL_tale f fd) (c_on_after_L : Cal P w K mg base k "_law_on_after" ["_law_story_here"] (SpD K (preT (encC (eT eD) encN) (eT eI) (fun t => f_on_after_L t.1)))) (c_draw_L : Cal P w K mg base k "_law_draw" ["_law_deck_here", "_law_bound"] (SpZ K (preT (encC eI encN) eI (fun t => f_draw_L t.1)))) (c_strained_L : Cal P w K mg base k "_law_strained" ["_law_board_here", "_law_on", "_law_blown"] (SpD K (preT (encC eBd (encC (eT eI) (encC (eT eI) encN))) (eL eI) (fun t => f_strained_L t.1 t.2.1 t.2.2.1)))) (c_pick_L : Cal P w K mg base k "_law_pick" ["_law_deck_here", "_law_items"] (SpZ K prePick)) (mlen : mg "len" = none) (mrange : mg "range" = none) (mtuple : mg "tuple" = none)  : FnOk P w K mg base CX0 (k + 1) f fd ["_law_deck_here", "_law_board_here", "_law_story_here"] (SpZ K (preT (encC eBd (encC (eT eD) encN)) (eT (eT eI)) (fun t => f_tale_L t.1 t.2.1))) :=
  ok_TZ F sc_tale_L (fun _ => rfl) fun cdv A outer s H E hr => ⟨_, (pss_cons (ps_par (i := 3) (j := 4) rfl sc_tale_L.nd rfl rfl (by decide) rfl rfl (pa_cons (pe_lst pa_nil) (pa_cons (pe_tup pa_nil) pa_nil)) (by rfl))
      (pss_cons (ps_for PassesOwn.never rfl (pi_range1 (by rfl) mrange (pa_cons (pe_callB call_len_seq (by rfl) mlen PySem.boot_len (pa_cons (pv 2) pa_nil)) pa_nil)) (pg_name (i := 5) sc_tale_L.nd rfl (Or.inl rfl)) (pss_cons (ps_par3 (i := 6) (j := 7) (l := 8) rfl sc_tale_L.nd rfl rfl rfl (by decide) (by decide) (by decide) rfl rfl rfl (pa_cons (pe_cal c_on_after_L hr (by rfl) (pa_cons (pe_slice sl_tupA (pv 2) po_none (po_some (pe_op op_add (pv 5) pe_int))) pa_nil)) (pa_cons (pe_tup pa_nil) (pa_cons (pe_cal c_draw_L hr (by rfl) (pa_cons (pv 0) (pa_cons pe_int pa_nil))) pa_nil))) (by rfl))
      (pss_cons (ps_for PassesOwn.never rfl (pi_range1 (by rfl) mrange (pa_cons (pe_callB call_len_seq (by rfl) mlen PySem.boot_len (pa_cons (pe_ix ix_tup (pv 1) pe_int (fun _ _ => rfl)) pa_nil)) pa_nil)) (pg_name (i := 9) sc_tale_L.nd rfl (Or.inl rfl)) (pss_cons (ps_set (i := 10) sc_tale_L.nd rfl (.inl rfl) (pe_cal c_strained_L hr (by rfl) (pa_cons (pv 1) (pa_cons (pv 6) (pa_cons (pv 4) pa_nil)))))
      (pss_one (ps_if (PW.pt (pw_and (pt_cmpR (op_neNilL hr.units0) (pv 10) (pe_lst pa_nil) (nomark _)) (pw_and1 (PW.pt (pw_or (pt_cmpR (op_eqS hr.units) (pe_ix ix_tup (pe_ix ix_tup (pv 2) (pv 5) (fun _ _ => rfl)) pe_int (fun _ _ => rfl)) pe_str (nomark _)) (pw_or1 (pt_cmpR op_lt (pe_callB call_len_seq (by rfl) mlen PySem.boot_len (pa_cons (pv 7) pa_nil)) (pv 8) (nomark _)))))))) (pss_cons (ps_set (i := 11) sc_tale_L.nd rfl (.inl rfl) (pe_cal (cv_pick eI c_pick_L) hr (by rfl) (pa_cons (pv 0) (pa_cons (pv 10) pa_nil))))
      (pss_one (ps_par (i := 7) (j := 4) rfl sc_tale_L.nd rfl rfl (by decide) rfl rfl (pa_cons (pe_op op_catA (pv 7) (pe_tup (pa_cons (pv 11) pa_nil))) (pa_cons (pe_op op_catA (pv 4) (pe_tup (pa_cons (pv 11) pa_nil))) pa_nil)) (by rfl)))) pss_nil))))
      (pss_one (ps_expr (pe_bm PySem.F.plainAttrs_list PySem.F.slot_list_append PySem.F.type_list_append mt_append (pv 3) (pa_cons (pv 7) pa_nil)))))))
      (pss_one (ps_ret (pe_callTy call_tuple_of (by rfl) mtuple (by decide +kernel) (pa_cons (pv 3) pa_nil)))))), fun Z a RET R0 HH HK => by
    obtain ⟨a1, a2, _⟩ := a
    have HH : f_tale_L a1 a2 RET := HH
    unfold f_tale_L at HH
    show SS K Z _ [.e .deck, .e (.dat (eBd a1)), .e (.dat ((eT eD) a2)), .e .un, .e .un, .e .un, .e .un, .e .un, .e .un, .e .un, .e .un, .e .un] (fun _ => False) { rt := R0 }
    refine ss_seq (rs_parLV (by decide) (rfo_lst (e := (eT eI)) (fun (t : Unit) => ([] : List (List Int))) ra_nil) (rf_tup (e := (eT eI)) (fun (t : Unit) => ([] : List Int)) ra_nil) HH fun found_2 blown_3 h1 => ?_)
    refine ss_seq (rs_for (ea := eI) (fun (s5 : (List (List Int)) × (List Int)) => [.e .deck, .e (.dat (eBd a1)), .e (.dat ((eT eD) a2)), .lst ((s5.1 : List (List Int)).map (eT eI)), .e (.dat ((eT eI) s5.2)), .e .un, .e .un, .e .un, .e .un, .e .un, .e .un, .e .un]) (fun a => [eI a]) (found_2, blown_3) (ri_rg1 (rf_lenT (rf_var (eT eD) a2))) sg_name (fun _ => rfl) ⟨.inl rfl, ⟨.inl rfl, ⟨.inl rfl, ⟨.inl rfl, ⟨.inl rfl, ⟨.inl rfl, ⟨.inl rfl, ⟨.inl rfl, ⟨.inl rfl, ⟨.inl rfl, ⟨.inl rfl, ⟨.inl rfl, trivial⟩⟩⟩⟩⟩⟩⟩⟩⟩⟩⟩⟩ h1 (fun x6 s5 nx7 h9 => ?_) (fun s43 h10 => ?_) clo_seq)
    · refine ss_seq (rs_par3 (e1 := (eT eI)) (e2 := (eT eI)) (e3 := eI) (rf_call (ra_cons (rf_slT (rf_var (eT eD) a2) rp_none (rp_some (rf_i2 (rf_var eI x6) rf_int))) ra_nil)) (rf_tup (e := (eT eI)) (fun (t : Unit) => ([] : List Int)) ra_nil) (rf_callZ (ra_cons rf_int ra_nil)) h9 fun on_14 now_15 many_16 h11 => ?_)
      refine ss_seq (rs_for (ea := eI) (fun (s18 : (List Int) × (List Int)) => [.e .deck, .e (.dat (eBd a1)), .e (.dat ((eT eD) a2)), .lst ((s5.1 : List (List Int)).map (eT eI)), .e (.dat ((eT eI) s18.1)), .e (.dat (eI x6)), .e (.dat ((eT eI) on_14)), .e (.dat ((eT eI) s18.2)), .e (.dat (eI many_16)), .e .un, .e .un, .e .un]) (fun a => [eI a]) (s5.2, now_15) (ri_rg1 (rf_lenT (rf_p0 (rf_var eBd a1)))) sg_name (fun _ => rfl) ⟨.inl rfl, ⟨.inl rfl, ⟨.inl rfl, ⟨.inl rfl, ⟨.inl rfl, ⟨.inl rfl, ⟨.inl rfl, ⟨.inl rfl, ⟨.inl rfl, ⟨.inl rfl, ⟨.inl rfl, ⟨.inl rfl, trivial⟩⟩⟩⟩⟩⟩⟩⟩⟩⟩⟩⟩ h11 (fun x19 s18 nx20 h22 => ?_) (fun s40 h23 => ?_) clo_seq)
      · refine ss_seq (rs_set (e := (eL eI)) (rf_call (ra_cons (rf_var eBd a1) (ra_cons (rf_var (eT eI) on_14) (ra_cons (rf_var (eT eI) s18.1) ra_nil)))) h22 fun some_24 h25 => ?_)
        refine rs_if (rb_and (rb_t (rf_neNil (rf_var (eL eI) some_24))) (rb_or (rb_t (rf_eqDS (rf_ixT (rf_as (e := (eT eD)) (rf_ixT (rf_var (eT eD) a2) (rf_var eI x6))) rf_int) rf_str)) (rb_t (rf_ib (rf_lenT (rf_var (eT eI) s18.2)) (rf_var eI many_16))))) h25 (fun h30 => ?_) (fun h31 => ?_)
        · refine ss_seq (rs_set (e := eI) (rf_callZ (ra_cons (rf_var (eL eI) some_24) ra_nil)) h30 fun fuse_32 h33 => ?_)
          refine rs_par (e1 := (eT eI)) (e2 := (eT eI)) (rf_catT (rf_var (eT eI) s18.2) (rf_tup (e := (eT eI)) (fun (t : Int × Unit) => ([t.1] : List Int)) (ra_cons (rf_var eI fuse_32) ra_nil))) (rf_catT (rf_var (eT eI) s18.1) (rf_tup (e := (eT eI)) (fun (t : Int × Unit) => ([t.1] : List Int)) (ra_cons (rf_var eI fuse_32) ra_nil))) h33 fun now_38 blown_39 h35 => ?_
          exact ⟨(blown_39, now_38), ⟨.inl rfl, ⟨.inl rfl, ⟨.inl rfl, ⟨.inl rfl, ⟨.inl rfl, ⟨.inl rfl, ⟨.inl rfl, ⟨.inl rfl, ⟨.inl rfl, ⟨.inr rfl, ⟨.inr rfl, ⟨.inr rfl, trivial⟩⟩⟩⟩⟩⟩⟩⟩⟩⟩⟩⟩, h35⟩
        · exact ss_next (⟨(s18.1, s18.2), ⟨.inl rfl, ⟨.inl rfl, ⟨.inl rfl, ⟨.inl rfl, ⟨.inl rfl, ⟨.inl rfl, ⟨.inl rfl, ⟨.inl rfl, ⟨.inl rfl, ⟨.inr rfl, ⟨.inr rfl, ⟨.inl rfl, trivial⟩⟩⟩⟩⟩⟩⟩⟩⟩⟩⟩⟩, h31⟩)
      · refine rs_app s5.1 (rf_var (eT eI) s40.2) h23 fun v42 h41 => ?_
        exact ⟨((s5.1 ++ [v42]), s40.1), ⟨.inl rfl, ⟨.inl rfl, ⟨.inl rfl, ⟨.inl rfl, ⟨.inl rfl, ⟨.inr rfl, ⟨.inr rfl, ⟨.inr rfl, ⟨.inr rfl, ⟨.inl rfl, ⟨.inl rfl, ⟨.inl rfl, trivial⟩⟩⟩⟩⟩⟩⟩⟩⟩⟩⟩⟩, h41⟩
    · exact rs_ret (rf_tupOwn (eT eI) (nl_T nl_I) s43.1) h10 HK⟩
theorem sc_is_tale_L : FnScope ["_law_board_here", "_law_story_here", "_law_thing", "_law_blown", "_law_at", "_law_on", "_law_fuse"] ["_law_board_here", "_law_story_here", "_law_thing"] (defScope sL_is_tale) := ⟨rfl, rfl, rfl, by decide +kernel, rfl, by decide +kernel, by decide +kernel⟩
def f_is_tale_L : (Bd) → (List PyData) → (PyData) → (Bool → Prop) → Prop := fun a1 a2 a3 RET => ifS (fun R => cnd (!(isTupD (eD a3))) (R true) (asE (eT eD) a3 fun v1 => R (!decide ((v1.length : Int) = (a2.length : Int))))) (st (fun R => R false) RET) (st (fun R => R ([] : List Int)) fun (blown_4 : List Int) => forS (fun R => rg1 (a2.length : Int) fun l6 => R l6) blown_4 (fun x8 (s7 : (List Int)) nx9 bk10 => st (fun R => f_on_after_L (cutL a2 none (some (x8 + (1 : Int)))) fun v15 => R v15) fun (on_13 : List Int) => ifS (fun R => asE (eT eD) a3 fun v16 => idx v16 x8 fun v17 => R (!(isTupD (eD v17)))) (st (fun R => R false) RET) (forS (fun R => asE (eT eD) a3 fun v20 => idx v20 x8 fun v21 => asE (eT eD) v21 fun v22 => R v22) s7 (fun x24 (s23 : (List Int)) nx25 bk26 => ifS (fun R => f_is_int_L x24 (0 : Int) ((a1.1.length : Int) - (1 : Int)) fun v29 => cnd (!v29) (R true) (f_strained_L a1 on_13 s23 fun v30 => inD (eD x24) (v30.map eI) fun c31 => R (!c31))) (st (fun R => R false) RET) (st (fun R => asE eI x24 fun v36 => few (s23 ++ [v36]) fun v37 => R v37) fun (blown_34 : List Int) => nx25 blown_34)) fun s38 => ifS (fun R => idx a2 x8 fun v39 => asE (eT eD) v39 fun v40 => idx v40 (0 : Int) fun v41 => cnd (isS (eD v41) ("pause" : Str)) (f_strained_L a1 on_13 s38 fun v42 => R (!v42.isEmpty)) (R false)) (st (fun R => R false) RET) (nx9 s38))) fun s45 => st (fun R => R true) RET)
theorem ok_is_tale_L (F : Fun K "_law_is_tale" "_law_is_tale" sL_is_tale f fd) (c_on_after_L : Cal P w K mg base k "_law_on_after" ["_law_story_here"] (SpD K (preT (encC (eT eD) encN) (eT eI) (fun t => f_on_after_L t.1)))) (c_strained_L : Cal P w K mg base k "_law_strained" ["_law_board_here", "_law_on", "_law_blown"] (SpD K (preT (encC eBd (encC (eT eI) (encC (eT eI) encN))) (eL eI) (fun t => f_strained_L t.1 t.2.1 t.2.2.1)))) (c_is_int_L : Cal P w K mg base k "_law_is_int" ["_law_thing", "_law_least", "_law_most"] (SpD K (preT (encC eD (encC eI (encC eI encN))) eB (fun t => f_is_int_L t.1 t.2.1 t.2.2.1)))) (misinstance : mg "isinstance" = none) (mlen : mg "len" = none) (mrange : mg "range" = none) (mtuple : mg "tuple" = none)  : FnOk P w K mg base CX0 (k + 1) f fd ["_law_board_here", "_law_story_here", "_law_thing"] (SpD K (preT (encC eBd (encC (eT eD) (encC eD encN))) eB (fun t => f_is_tale_L t.1 t.2.1 t.2.2.1))) :=
  ok_T F sc_is_tale_L (fun _ => rfl) fun cdv A outer s H E hr => ⟨_, (pss_cons (ps_if (PW.pt (pw_or (pt_not (pt_val (pe_callB call_isi (by rfl) misinstance (by decide +kernel) (pa_cons (pv 2) (pa_cons (pe_bltn (v := .ty "tuple") (by rfl) mtuple (by decide +kernel) rfl) pa_nil))))) (pw_or1 (pt_cmpR op_ne (pe_callB call_len_seq (by rfl) mlen PySem.boot_len (pa_cons (pv 2) pa_nil)) (pe_callB call_len_seq (by rfl) mlen PySem.boot_len (pa_cons (pv 1) pa_nil)) (nomark _))))) (pss_one (ps_ret pe_bl)) pss_nil)
      (pss_cons (ps_set (i := 3) sc_is_tale_L.nd rfl (.inl rfl) (pe_tup pa_nil))
      (pss_cons (ps_for PassesOwn.never rfl (pi_range1 (by rfl) mrange (pa_cons (pe_callB call_len_seq (by rfl) mlen PySem.boot_len (pa_cons (pv 1) pa_nil)) pa_nil)) (pg_name (i := 4) sc_is_tale_L.nd rfl (Or.inl rfl)) (pss_cons (ps_set (i := 5) sc_is_tale_L.nd rfl (.inl rfl) (pe_cal c_on_after_L hr (by rfl) (pa_cons (pe_slice sl_tupA (pv 1) po_none (po_some (pe_op op_add (pv 4) pe_int))) pa_nil)))
      (pss_cons (ps_if (pt_not (pt_val (pe_callB call_isi (by rfl) misinstance (by decide +kernel) (pa_cons (pe_ix ix_tup (pv 2) (pv 4) (fun _ _ => rfl)) (pa_cons (pe_bltn (v := .ty "tuple") (by rfl) mtuple (by decide +kernel) rfl) pa_nil))))) (pss_one (ps_ret pe_bl)) pss_nil)
      (pss_cons (ps_for PassesOwn.never rfl (pi_tup (pe_ix ix_tup (pv 2) (pv 4) (fun _ _ => rfl))) (pg_name (i := 6) sc_is_tale_L.nd rfl (Or.inl rfl)) (pss_cons (ps_if (PW.pt (pw_or (pt_not (pt_val (pe_cal c_is_int_L hr (by rfl) (pa_cons (pv 6) (pa_cons pe_int (pa_cons (pe_op op_sub (pe_callB call_len_seq (by rfl) mlen PySem.boot_len (pa_cons (pe_ix ix_tup (pv 0) pe_int (fun _ _ => rfl)) pa_nil)) pe_int) pa_nil)))))) (pw_or1 (pt_cmpR (op_notinD (room65 hr)) (pv 6) (pe_cal c_strained_L hr (by rfl) (pa_cons (pv 0) (pa_cons (pv 5) (pa_cons (pv 3) pa_nil)))) (by rfl))))) (pss_one (ps_ret pe_bl)) pss_nil)
      (pss_one (ps_set (i := 3) sc_is_tale_L.nd rfl (.inl rfl) (pe_op op_catA (pv 3) (pe_tup (pa_cons (pv 6) pa_nil)))))))
      (pss_one (ps_if (PW.pt (pw_and (pt_cmpR (op_eqS hr.units) (pe_ix ix_tup (pe_ix ix_tup (pv 1) (pv 4) (fun _ _ => rfl)) pe_int (fun _ _ => rfl)) pe_str (nomark _)) (pw_and1 (pt_cmpR (op_neNilL hr.units0) (pe_cal c_strained_L hr (by rfl) (pa_cons (pv 0) (pa_cons (pv 5) (pa_cons (pv 3) pa_nil)))) (pe_lst pa_nil) (nomark _))))) (pss_one (ps_ret pe_bl)) pss_nil))))))
      (pss_one (ps_ret pe_bl))))), fun a RET R0 HH HK => by
    obtain ⟨a1, a2, a3, _⟩ := a
    have HH : f_is_tale_L a1 a2 a3 RET := HH
    unfold f_is_tale_L at HH
    show SS K none _ [.e (.dat (eBd a1)), .e (.dat ((eT eD) a2)), .e (.dat (eD a3)), .e .un, .e .un, .e .un, .e .un] (fun _ => False) { rt := R0 }
    refine ss_seq (rs_if (rb_or (rb_not (rb_b (rf_isTup (rf_var eD a3)))) (rb_t (rf_neI (rf_lenT (rf_as (e := (eT eD)) (rf_var eD a3))) (rf_lenT (rf_var (eT eD) a2))))) HH (fun h2 => ?_) (fun h3 => ?_))
    · exact rs_ret rf_bl h2 HK
    · refine ss_next (ss_seq (rs_set (e := (eT eI)) (rf_tup (e := (eT eI)) (fun (t : Unit) => ([] : List Int)) ra_nil) h3 fun blown_4 h5 => ?_))
      refine ss_seq (rs_for (ea := eI) (fun (s7 : (List Int)) => [.e (.dat (eBd a1)), .e (.dat ((eT eD) a2)), .e (.dat (eD a3)), .e (.dat ((eT eI) s7)), .e .un, .e .un, .e .un]) (fun a => [eI a]) blown_4 (ri_rg1 (rf_lenT (rf_var (eT eD) a2))) sg_name (fun _ => rfl) ⟨.inl rfl, ⟨.inl rfl, ⟨.inl rfl, ⟨.inl rfl, ⟨.inl rfl, ⟨.inl rfl, ⟨.inl rfl, trivial⟩⟩⟩⟩⟩⟩⟩ h5 (fun x8 s7 nx9 h11 => ?_) (fun s45 h12 => ?_) clo_seq)
      · refine ss_seq (rs_set (e := (eT eI)) (rf_call (ra_cons (rf_slT (rf_var (eT eD) a2) rp_none (rp_some (rf_i2 (rf_var eI x8) rf_int))) ra_nil)) h11 fun on_13 h14 => ?_)
        refine ss_seq (rs_if (rb_not (rb_b (rf_isTup (rf_ixT (rf_as (e := (eT eD)) (rf_var eD a3)) (rf_var eI x8))))) h14 (fun h18 => ?_) (fun h19 => ?_))
        · exact rs_ret rf_bl h18 HK
        · refine ss_next (ss_seq (rs_for (ea := eD) (fun (s23 : (List Int)) => [.e (.dat (eBd a1)), .e (.dat ((eT eD) a2)), .e (.dat (eD a3)), .e (.dat ((eT eI) s23)), .e (.dat (eI x8)), .e (.dat ((eT eI) on_13)), .e .un]) (fun a => [eD a]) s7 (ri_tup (rf_as (e := (eT eD)) (rf_ixT (rf_as (e := (eT eD)) (rf_var eD a3)) (rf_var eI x8)))) sg_name (fun _ => rfl) ⟨.inl rfl, ⟨.inl rfl, ⟨.inl rfl, ⟨.inl rfl, ⟨.inl rfl, ⟨.inl rfl, ⟨.inl rfl, trivial⟩⟩⟩⟩⟩⟩⟩ h19 (fun x24 s23 nx25 h27 => ?_) (fun s38 h28 => ?_) clo_seq))
          · refine ss_seq (rs_if (rb_or (rb_not (rb_b (rf_call (ra_cons (rf_var eD x24) (ra_cons rf_int (ra_cons (rf_i2 (rf_lenT (rf_p0 (rf_var eBd a1))) rf_int) ra_nil)))))) (rb_t (rf_notinDL (rf_var eD x24) (rf_call (ra_cons (rf_var eBd a1) (ra_cons (rf_var (eT eI) on_13) (ra_cons (rf_var (eT eI) s23) ra_nil))))))) h27 (fun h32 => ?_) (fun h33 => ?_))
            · exact rs_ret rf_bl h32 HK
            · refine ss_next (rs_set (e := (eT eI)) (rf_catT (rf_var (eT eI) s23) (rf_tup (e := (eT eI)) (fun (t : Int × Unit) => ([t.1] : List Int)) (ra_cons (rf_as (e := eI) (rf_var eD x24)) ra_nil))) h33 fun blown_34 h35 => ?_)
              exact ⟨blown_34, ⟨.inl rfl, ⟨.inl rfl, ⟨.inl rfl, ⟨.inl rfl, ⟨.inl rfl, ⟨.inl rfl, ⟨.inr rfl, trivial⟩⟩⟩⟩⟩⟩⟩, h35⟩
          · refine rs_if (rb_and (rb_t (rf_eqDS (rf_ixT (rf_as (e := (eT eD)) (rf_ixT (rf_var (eT eD) a2) (rf_var eI x8))) rf_int) rf_str)) (rb_t (rf_neNil (rf_call (ra_cons (rf_var eBd a1) (ra_cons (rf_var (eT eI) on_13) (ra_cons (rf_var (eT eI) s38) ra_nil))))))) h28 (fun h43 => ?_) (fun h44 => ?_)
            · exact rs_ret rf_bl h43 HK
            · exact ss_next (⟨s38, ⟨.inl rfl, ⟨.inl rfl, ⟨.inl rfl, ⟨.inl rfl, ⟨.inr rfl, ⟨.inr rfl, ⟨.inl rfl, trivial⟩⟩⟩⟩⟩⟩⟩, h44⟩)
      · exact rs_ret rf_bl h12 HK⟩
theorem sc_is_pause : FnScope ["deed"] ["deed"] (defScope s_is_pause) := ⟨rfl, rfl, rfl, by decide +kernel, rfl, by decide +kernel, by decide +kernel⟩
def f_is_pause : (PyData) → (Bool → Prop) → Prop := fun a1 RET => st (fun R => asE (eT eD) a1 fun v1 => idx v1 (0 : Int) fun v2 => R (isS (eD v2) ("pause" : Str))) RET
theorem ok_is_pause (F : Fun K "is_pause" "is_pause" s_is_pause f fd)    : FnOk P w K mg base CX0 (k + 1) f fd ["deed"] (SpD K (preT (encC eD encN) eB (fun t => f_is_pause t.1))) :=
  ok_T F sc_is_pause (fun _ => rfl) fun cdv A outer s H E hr => ⟨_, (pss_one (ps_ret (pe_cmpR (op_eqS hr.units) (pe_ix ix_tup (pv 0) pe_int (fun _ _ => rfl)) pe_str (nomark _)))), fun a RET R0 HH HK => by
    obtain ⟨a1, _⟩ := a
    have HH : f_is_pause a1 RET := HH
    unfold f_is_pause at HH
    show SS K none _ [.e (.dat (eD a1))] (fun _ => False) { rt := R0 }
    exact rs_ret (rf_eqDS (rf_ixT (rf_as (e := (eT eD)) (rf_var eD a1)) rf_int) rf_str) HH HK⟩
theorem sc_on_after : FnScope ["board", "story", "burns", "deed", "word", "lamp", "is_on"] ["board", "story"] (defScope s_on_after) := ⟨rfl, rfl, rfl, by decide +kernel, rfl, by decide +kernel, by decide +kernel⟩
def f_on_after : (Bd) → (List PyData) → (List Int → Prop) → Prop := fun a1 a2 RET => st (fun R => ∃ n3 : Nat, (a1.2.length : Int) = (n3 : Int) ∧ ([false] : List Bool).length * n3 ≤ 100000 ∧ n3 ≤ 100000 ∧ R (List.replicate n3 ([false] : List Bool)).flatten) fun (burns_1 : List Bool) => forS (fun R => R a2) burns_1 (fun x5 (s4 : (List Bool)) nx6 bk7 => ifS (fun R => f_is_pause x5 fun v10 => R (!v10)) (st (fun R => asE (eP eD eD) x5 fun v15 => R v15) fun (p13 : PyData × PyData) => st (fun R => R (isS (eD p13.1) ("on" : Str))) fun v19 => st (fun R => asE eI p13.2 fun v17 => R v17) fun v20 => putI s4 v20 v19 fun burns_18 => nx6 burns_18) (nx6 s4)) fun s21 => st (fun R => lcC (enumZ 0 s21) [] (fun x22 R => R x22.2) (fun x22 R => R x22.1) fun l23 => R l23) RET
theorem ok_on_after (F : Fun K "on_after" "on_after" s_on_after f fd) (c_is_pause : Cal P w K mg base k "is_pause" ["deed"] (SpD K (preT (encC eD encN) eB (fun t => f_is_pause t.1)))) (menumerate : mg "enumerate" = none) (mlen : mg "len" = none) (mtuple : mg "tuple" = none)  : FnOk P w K mg base CX0 (k + 1) f fd ["board", "story"] (SpD K (preT (encC eBd (encC (eT eD) encN)) (eT eI) (fun t => f_on_after t.1 t.2.1))) :=
  ok_T F sc_on_after (fun _ => rfl) fun cdv A outer s H E hr => ⟨_, (pss_cons (ps_set (i := 2) sc_on_after.nd rfl (.inl rfl) (pe_op op_rep (pe_lst (pa_cons pe_bl pa_nil)) (pe_callB call_len_seq (by rfl) mlen PySem.boot_len (pa_cons (pe_ix ix_tup (pv 0) pe_int (fun _ _ => rfl)) pa_nil))))
      (pss_cons (ps_for PassesOwn.never rfl (pi_tup (pv 1)) (pg_name (i := 3) sc_on_after.nd rfl (Or.inl rfl)) (pss_one (ps_if (pt_not (pt_val (pe_cal c_is_pause hr (by rfl) (pa_cons (pv 3) pa_nil)))) (pss_cons (ps_asg (pv 3) (pg_tup rfl (pgs_cons (pg_name (i := 4) sc_on_after.nd rfl (Or.inl rfl)) (pgs_cons (pg_name (i := 5) sc_on_after.nd rfl (Or.inl rfl)) pgs_nil))))
      (pss_one (ps_asg (pe_cmpR (op_eqS hr.units) (pv 4) pe_str (nomark _)) (pg_sub (pv 2) (pv 5) set_list)))) pss_nil)))
      (pss_one (ps_ret (pe_callTy call_tuple_of (by rfl) mtuple (by decide +kernel) (pa_cons (pe_lc (own := [("lamp", 5), ("is_on", 6)]) (g := (gTup K 2 (gCons (gName 5) (gCons (gName 6) gNil)))) (by rfl) sc_on_after.nd (pi_enum (by rfl) menumerate (pa_cons (pv 2) pa_nil)) (blkOk_by (own := [("lamp", 5), ("is_on", 6)]) (N := ["board", "story", "burns", "deed", "word", "lamp", "is_on"]) (sc := (defScope s_on_after)) (by decide +kernel)) (fun _ _ _ _ _ => (pg_tup rfl (pgs_cons (pg_name (i := 5) sc_on_after.nd rfl (Or.inl rfl)) (pgs_cons (pg_name (i := 6) sc_on_after.nd rfl (Or.inl rfl)) pgs_nil)))) (fun _ _ _ _ _ => pts_one (pt_val (pv 6))) (fun _ _ _ _ _ => (pv 5))) pa_nil)))))), fun a RET R0 HH HK => by
    obtain ⟨a1, a2, _⟩ := a
    have HH : f_on_after a1 a2 RET := HH
    unfold f_on_after at HH
    show SS K none _ [.e (.dat (eBd a1)), .e (.dat ((eT eD) a2)), .e .un, .e .un, .e .un, .e .un, .e .un] (fun _ => False) { rt := R0 }
    refine ss_seq (rs_setO (rfo_rep (rfo_lst (e := eB) (fun (t : Bool × Unit) => ([t.1] : List Bool)) (ra_cons rf_bl ra_nil)) (rf_lenT (rf_p1 (rf_var eBd a1)))) HH fun burns_1 h2 => ?_)
    refine ss_seq (rs_for (ea := eD) (fun (s4 : (List Bool)) => [.e (.dat (eBd a1)), .e (.dat ((eT eD) a2)), .lst ((s4 : List Bool).map eB), .e .un, .e .un, .e .un, .e .un]) (fun a => [eD a]) burns_1 (ri_tup (rf_var (eT eD) a2)) sg_name (fun _ => rfl) ⟨.inl rfl, ⟨.inl rfl, ⟨.inl rfl, ⟨.inl rfl, ⟨.inl rfl, ⟨.inl rfl, ⟨.inl rfl, trivial⟩⟩⟩⟩⟩⟩⟩ h2 (fun x5 s4 nx6 h8 => ?_) (fun s21 h9 => ?_) clo_seq)
    · refine rs_if (rb_not (rb_b (rf_call (ra_cons (rf_var eD x5) ra_nil)))) h8 (fun h11 => ?_) (fun h12 => ?_)
      · refine ss_seq (rs_unp (fun a => [eD a.1, eD a.2]) sg_pair (fun _ => ⟨rfl, rfl⟩) (rf_as (e := (eP eD eD)) (rf_var eD x5)) h11 fun p13 h14 => ?_)
        refine rs_put s4 (rf_eqDS (rf_var eD p13.1) rf_str) (rf_as (e := eI) (rf_var eD p13.2)) h14 fun burns_18 h16 => ?_
        exact ⟨burns_18, ⟨.inl rfl, ⟨.inl rfl, ⟨.inl rfl, ⟨.inr rfl, ⟨.inr rfl, ⟨.inr rfl, ⟨.inl rfl, trivial⟩⟩⟩⟩⟩⟩⟩, h16⟩
      · exact ss_next (⟨s4, ⟨.inl rfl, ⟨.inl rfl, ⟨.inl rfl, ⟨.inr rfl, ⟨.inl rfl, ⟨.inl rfl, ⟨.inl rfl, trivial⟩⟩⟩⟩⟩⟩⟩, h12⟩)
    · refine rs_tell 2 eB s21 ?_
      exact rs_ret (rf_tupL (rf_told (rfo_lc (e := eI) (e1 := (eP eI eB)) (fun a => [eI a.1, eB a.2]) (ri_enL (rf_var (eL eB) s21)) sg_pair (by decide) (fun _ => ⟨⟨rfl, rfl⟩, rfl⟩) (fun x22 => (rb_b (rf_var eB x22.2))) (fun x22 => (rf_var eI x22.1))))) h9 HK⟩
theorem sc_on_at_moments : FnScope ["board", "story", "moment"] ["board", "story"] (defScope s_on_at_moments) := ⟨rfl, rfl, rfl, by decide +kernel, rfl, by decide +kernel, by decide +kernel⟩
def f_on_at_moments : (Bd) → (List PyData) → (List (List Int) → Prop) → Prop := fun a1 a2 RET => st (fun R => rg1 (a2.length : Int) fun l1 => lcC l1 [] (fun x2 R => R true) (fun x2 R => f_on_after a1 (cutL a2 none (some (x2 + (1 : Int)))) fun v3 => R v3) fun l4 => R l4) RET
theorem ok_on_at_moments (F : Fun K "on_at_moments" "on_at_moments" s_on_at_moments f fd) (c_on_after : Cal P w K mg base k "on_after" ["board", "story"] (SpD K (preT (encC eBd (encC (eT eD) encN)) (eT eI) (fun t => f_on_after t.1 t.2.1)))) (mlen : mg "len" = none) (mrange : mg "range" = none)  : FnOk P w K mg base CX0 (k + 1) f fd ["board", "story"] (SpD K (preT (encC eBd (encC (eT eD) encN)) (eL (eT eI)) (fun t => f_on_at_moments t.1 t.2.1))) :=
  ok_T F sc_on_at_moments (fun _ => rfl) fun cdv A outer s H E hr => ⟨_, (pss_one (ps_ret (pe_lc (own := [("moment", 2)]) (g := (gName 2)) (tt := tYes) (by rfl) sc_on_at_moments.nd (pi_range1 (by rfl) mrange (pa_cons (pe_callB call_len_seq (by rfl) mlen PySem.boot_len (pa_cons (pv 1) pa_nil)) pa_nil)) (blkOk_by (own := [("moment", 2)]) (N := ["board", "story", "moment"]) (sc := (defScope s_on_at_moments)) (by decide +kernel)) (fun _ _ _ _ _ => (pg_name (i := 2) sc_on_at_moments.nd rfl (Or.inl rfl))) (fun _ _ _ _ _ => pts_nil) (fun _ _ _ _ _ => (pe_cal c_on_after hr (by rfl) (pa_cons (pv 0) (pa_cons (pe_slice (sl_tupAE (K := K) rfl) (pv 1) po_none (po_some (pe_op op_add (pv 2) pe_int))) pa_nil))))))), fun a RET R0 HH HK => by
    obtain ⟨a1, a2, _⟩ := a
    have HH : f_on_at_moments a1 a2 RET := HH
    unfold f_on_at_moments at HH
    show SS K none _ [.e (.dat (eBd a1)), .e (.dat ((eT eD) a2)), .e .un] (fun _ => False) { rt := R0 }
    exact rs_ret (rf_told (rfo_lc (e := (eT eI)) (e1 := eI) (fun a => [eI a]) (ri_rg1 (rf_lenT (rf_var (eT eD) a2))) sg_name (by decide) (fun _ => ⟨rfl, rfl⟩) (fun x2 => rb_yes) (fun x2 => (rf_call (ra_cons (rf_var eBd a1) (ra_cons (rf_slT (rf_var (eT eD) a2) rp_none (rp_some (rf_i2 (rf_var eI x2) rf_int))) ra_nil)))))) HH HK⟩
theorem sc_can_follow : FnScope ["board", "on", "blown", "row", "index", "fuse"] ["board", "on", "blown", "row"] (defScope s_can_follow) := ⟨rfl, rfl, rfl, by decide +kernel, rfl, by decide +kernel, by decide +kernel⟩
def f_can_follow : (Bd) → (List Int) → (List Int) → (List Int) → (Bool → Prop) → Prop := fun a1 a2 a3 a4 RET => st (fun R => lcC (enumZ 0 a4) [] (fun x1 R => R true) (fun x1 R => few (a3 ++ (cutL a4 none (some x1.1))) fun v2 => f_strained a1 a2 v2 fun v3 => R (decide (x1.2 ∈ v3))) fun l4 => R (l4.all id)) RET
theorem ok_can_follow (F : Fun K "can_follow" "can_follow" s_can_follow f fd) (c_strained : Cal P w K mg base k "strained" ["board", "on", "blown"] (SpD K (preT (encC eBd (encC (eT eI) (encC (eT eI) encN))) (eT eI) (fun t => f_strained t.1 t.2.1 t.2.2.1)))) (mall : mg "all" = none) (menumerate : mg "enumerate" = none)  : FnOk P w K mg base CX0 (k + 1) f fd ["board", "on", "blown", "row"] (SpD K (preT (encC eBd (encC (eT eI) (encC (eT eI) (encC (eT eI) encN)))) eB (fun t => f_can_follow t.1 t.2.1 t.2.2.1 t.2.2.2.1))) :=
  ok_T F sc_can_follow (fun _ => rfl) fun cdv A outer s H E hr => ⟨_, (pss_one (ps_ret (pe_callB (cr_all rfl) (by rfl) mall (by decide +kernel) (pa_cons (pe_lc (own := [("index", 4), ("fuse", 5)]) (g := (gTup K 2 (gCons (gName 4) (gCons (gName 5) gNil)))) (tt := tYes) (by rfl) sc_can_follow.nd (pi_enT (by rfl) menumerate (pa_cons (pv 3) pa_nil)) (blkOk_by (own := [("index", 4), ("fuse", 5)]) (N := ["board", "on", "blown", "row", "index", "fuse"]) (sc := (defScope s_can_follow)) (by decide +kernel)) (fun _ _ _ _ _ => (pg_tup rfl (pgs_cons (pg_name (i := 4) sc_can_follow.nd rfl (Or.inl rfl)) (pgs_cons (pg_name (i := 5) sc_can_follow.nd rfl (Or.inl rfl)) pgs_nil)))) (fun _ _ _ _ _ => pts_nil) (fun _ _ _ _ _ => (pe_cmpR (op_in_seqE (K := K) rfl) (pv 5) (pe_cal c_strained hr (by rfl) (pa_cons (pv 0) (pa_cons (pv 1) (pa_cons (pe_op (op_catE (K := K) rfl) (pv 2) (pe_slice (sl_tupAE (K := K) rfl) (pv 3) po_none (po_some (pv 4)))) pa_nil)))) (by rfl)))) pa_nil)))), fun a RET R0 HH HK => by
    obtain ⟨a1, a2, a3, a4, _⟩ := a
    have HH : f_can_follow a1 a2 a3 a4 RET := HH
    unfold f_can_follow at HH
    show SS K none _ [.e (.dat (eBd a1)), .e (.dat ((eT eI) a2)), .e (.dat ((eT eI) a3)), .e (.dat ((eT eI) a4)), .e .un, .e .un] (fun _ => False) { rt := R0 }
    exact rs_ret (rf_all (rf_told (rfo_lc (e := eB) (e1 := (eP eI eI)) (fun a => [eI a.1, eI a.2]) (ri_enT (rf_var (eT eI) a4)) sg_pair (by decide) (fun _ => ⟨⟨rfl, rfl⟩, rfl⟩) (fun x1 => rb_yes) (fun x1 => (rf_inT (rf_var eI x1.2) (rf_call (ra_cons (rf_var eBd a1) (ra_cons (rf_var (eT eI) a2) (ra_cons (rf_catT (rf_var (eT eI) a3) (rf_slT (rf_var (eT eI) a4) rp_none (rp_some (rf_var eI x1.1)))) ra_nil))))))))) HH HK⟩
theorem sc_is_tale : FnScope ["board", "story", "value", "blown", "deed", "on", "row"] ["board", "story", "value"] (defScope s_is_tale) := ⟨rfl, rfl, rfl, by decide +kernel, rfl, by decide +kernel, by decide +kernel⟩
def f_is_tale : (Bd) → (List PyData) → (PyData) → (Bool → Prop) → Prop := fun a1 a2 a3 RET => ifS (fun R => f_is_row a3 (a2.length : Int) (a2.length : Int) fun v1 => R (!v1)) (st (fun R => R false) RET) (st (fun R => R ([] : List Int)) fun (blown_4 : List Int) => forS (fun R => f_on_at_moments a1 a2 fun v6 => asE (eT eD) a3 fun v7 => R (zip3 a2 v6 v7)) blown_4 (fun x9 (s8 : (List Int)) nx10 bk11 => ifS (fun R => f_are_unlike x9.2.2 (a1.1.length : Int) fun v14 => cnd (!v14) (R true) (asE (eT eI) x9.2.2 fun v15 => f_can_follow a1 x9.2.1 s8 v15 fun v16 => R (!v16))) (st (fun R => R false) RET) (st (fun R => asE (eT eI) x9.2.2 fun v21 => few (s8 ++ v21) fun v22 => R v22) fun (blown_19 : List Int) => ifS (fun R => f_is_pause x9.1 fun v23 => cnd v23 (f_at_rest a1 x9.2.1 blown_19 fun v24 => R (!v24)) (R false)) (st (fun R => R false) RET) (nx10 blown_19))) fun s27 => st (fun R => R true) RET)
theorem ok_is_tale (F : Fun K "is_tale" "is_tale" s_is_tale f fd) (c_is_row : Cal P w K mg base k "is_row" ["value", "least", "most"] (SpD K (preT (encC eD (encC eI (encC eI encN))) eB (fun t => f_is_row t.1 t.2.1 t.2.2.1)))) (c_on_at_moments : Cal P w K mg base k "on_at_moments" ["board", "story"] (SpD K (preT (encC eBd (encC (eT eD) encN)) (eL (eT eI)) (fun t => f_on_at_moments t.1 t.2.1)))) (c_is_pause : Cal P w K mg base k "is_pause" ["deed"] (SpD K (preT (encC eD encN) eB (fun t => f_is_pause t.1)))) (c_are_unlike : Cal P w K mg base k "are_unlike" ["value", "count"] (SpD K (preT (encC eD (encC eI encN)) eB (fun t => f_are_unlike t.1 t.2.1)))) (c_can_follow : Cal P w K mg base k "can_follow" ["board", "on", "blown", "row"] (SpD K (preT (encC eBd (encC (eT eI) (encC (eT eI) (encC (eT eI) encN)))) eB (fun t => f_can_follow t.1 t.2.1 t.2.2.1 t.2.2.2.1)))) (c_at_rest : Cal P w K mg base k "at_rest" ["board", "on", "blown"] (SpD K (preT (encC eBd (encC (eT eI) (encC (eT eI) encN))) eB (fun t => f_at_rest t.1 t.2.1 t.2.2.1)))) (mlen : mg "len" = none) (mzip : mg "zip" = none)  : FnOk P w K mg base CX0 (k + 1) f fd ["board", "story", "value"] (SpD K (preT (encC eBd (encC (eT eD) (encC eD encN))) eB (fun t => f_is_tale t.1 t.2.1 t.2.2.1))) :=
  ok_T F sc_is_tale (fun _ => rfl) fun cdv A outer s H E hr => ⟨_, (pss_cons (ps_if (pt_not (pt_val (pe_cal c_is_row hr (by rfl) (pa_cons (pv 2) (pa_cons (pe_callB call_len_seq (by rfl) mlen PySem.boot_len (pa_cons (pv 1) pa_nil)) (pa_cons (pe_callB call_len_seq (by rfl) mlen PySem.boot_len (pa_cons (pv 1) pa_nil)) pa_nil)))))) (pss_one (ps_ret pe_bl)) pss_nil)
      (pss_cons (ps_set (i := 3) sc_is_tale.nd rfl (.inl rfl) (pe_tup pa_nil))
      (pss_cons (ps_for PassesOwn.never rfl (pi_zipK3 true false true (by rfl) mzip (pa_cons (pv 1) (pa_cons (pe_cal c_on_at_moments hr (by rfl) (pa_cons (pv 0) (pa_cons (pv 1) pa_nil))) (pa_cons (pv 2) pa_nil)))) (pg_tup rfl (pgs_cons (pg_name (i := 4) sc_is_tale.nd rfl (Or.inl rfl)) (pgs_cons (pg_name (i := 5) sc_is_tale.nd rfl (Or.inl rfl)) (pgs_cons (pg_name (i := 6) sc_is_tale.nd rfl (Or.inl rfl)) pgs_nil)))) (pss_cons (ps_if (PW.pt (pw_or (pt_not (pt_val (pe_cal c_are_unlike hr (by rfl) (pa_cons (pv 6) (pa_cons (pe_callB call_len_seq (by rfl) mlen PySem.boot_len (pa_cons (pe_ix ix_tup (pv 0) pe_int (fun _ _ => rfl)) pa_nil)) pa_nil))))) (pw_or1 (pt_not (pt_val (pe_cal c_can_follow hr (by rfl) (pa_cons (pv 0) (pa_cons (pv 5) (pa_cons (pv 3) (pa_cons (pv 6) pa_nil)))))))))) (pss_one (ps_ret pe_bl)) pss_nil)
      (pss_cons (ps_set (i := 3) sc_is_tale.nd rfl (.inl rfl) (pe_op op_catA (pv 3) (pv 6)))
      (pss_one (ps_if (PW.pt (pw_and (pt_val (pe_cal c_is_pause hr (by rfl) (pa_cons (pv 4) pa_nil))) (pw_and1 (pt_not (pt_val (pe_cal c_at_rest hr (by rfl) (pa_cons (pv 0) (pa_cons (pv 5) (pa_cons (pv 3) pa_nil))))))))) (pss_one (ps_ret pe_bl)) pss_nil)))))
      (pss_one (ps_ret pe_bl))))), fun a RET R0 HH HK => by
    obtain ⟨a1, a2, a3, _⟩ := a
    have HH : f_is_tale a1 a2 a3 RET := HH
    unfold f_is_tale at HH
    show SS K none _ [.e (.dat (eBd a1)), .e (.dat ((eT eD) a2)), .e (.dat (eD a3)), .e .un, .e .un, .e .un, .e .un] (fun _ => False) { rt := R0 }
    refine ss_seq (rs_if (rb_not (rb_b (rf_call (ra_cons (rf_var eD a3) (ra_cons (rf_lenT (rf_var (eT eD) a2)) (ra_cons (rf_lenT (rf_var (eT eD) a2)) ra_nil)))))) HH (fun h2 => ?_) (fun h3 => ?_))
    · exact rs_ret rf_bl h2 HK
    · refine ss_next (ss_seq (rs_set (e := (eT eI)) (rf_tup (e := (eT eI)) (fun (t : Unit) => ([] : List Int)) ra_nil) h3 fun blown_4 h5 => ?_))
      refine ss_seq (rs_for (ea := (eP3 eD (eT eI) eD)) (fun (s8 : (List Int)) => [.e (.dat (eBd a1)), .e (.dat ((eT eD) a2)), .e (.dat (eD a3)), .e (.dat ((eT eI) s8)), .e .un, .e .un, .e .un]) (fun a => [eD a.1, (eT eI) a.2.1, eD a.2.2]) blown_4 (ri_zipK3 true false true (rf_var (eT eD) a2) (rf_call (ra_cons (rf_var eBd a1) (ra_cons (rf_var (eT eD) a2) ra_nil))) (rf_as (e := (eT eD)) (rf_var eD a3))) sg_triple (fun _ => ⟨rfl, rfl⟩) ⟨.inl rfl, ⟨.inl rfl, ⟨.inl rfl, ⟨.inl rfl, ⟨.inl rfl, ⟨.inl rfl, ⟨.inl rfl, trivial⟩⟩⟩⟩⟩⟩⟩ h5 (fun x9 s8 nx10 h12 => ?_) (fun s27 h13 => ?_) clo_seq)
      · refine ss_seq (rs_if (rb_or (rb_not (rb_b (rf_call (ra_cons (rf_var eD x9.2.2) (ra_cons (rf_lenT (rf_p0 (rf_var eBd a1))) ra_nil))))) (rb_not (rb_b (rf_call (ra_cons (rf_var eBd a1) (ra_cons (rf_var (eT eI) x9.2.1) (ra_cons (rf_var (eT eI) s8) (ra_cons (rf_as (e := (eT eI)) (rf_var eD x9.2.2)) ra_nil)))))))) h12 (fun h17 => ?_) (fun h18 => ?_))
        · exact rs_ret rf_bl h17 HK
        · refine ss_next (ss_seq (rs_set (e := (eT eI)) (rf_catT (rf_var (eT eI) s8) (rf_as (e := (eT eI)) (rf_var eD x9.2.2))) h18 fun blown_19 h20 => ?_))
          refine rs_if (rb_and (rb_b (rf_call (ra_cons (rf_var eD x9.1) ra_nil))) (rb_not (rb_b (rf_call (ra_cons (rf_var eBd a1) (ra_cons (rf_var (eT eI) x9.2.1) (ra_cons (rf_var (eT eI) blown_19) ra_nil))))))) h20 (fun h25 => ?_) (fun h26 => ?_)
          · exact rs_ret rf_bl h25 HK
          · exact ss_next (⟨blown_19, ⟨.inl rfl, ⟨.inl rfl, ⟨.inl rfl, ⟨.inl rfl, ⟨.inr rfl, ⟨.inr rfl, ⟨.inr rfl, trivial⟩⟩⟩⟩⟩⟩⟩, h26⟩)
      · exact rs_ret rf_bl h13 HK⟩
theorem sc_law : FnScope ["_law_script", "_law_deck_here", "_law_turn", "_law_board_here", "_law_story_here", "_law_tale_here", "_law_at", "_law_values", "_law_thing", "_law_shown", "_law_due", "_law_row", "_law_k"] ["_law_script"] (defScope sLaw) := ⟨rfl, rfl, rfl, by decide +kernel, rfl, by decide +kernel, by decide +kernel⟩
def f_law : (Bool → Prop) → Prop := fun RET => forS (fun R => rg1 (8 : Int) fun l1 => R l1) () (fun x3 (s2 : Unit) nx4 bk5 => st (fun R => f_pick ([(7 : Int), (20 : Int)] : List Int) fun v10 => f_pick ([(8 : Int), (30 : Int)] : List Int) fun v11 => f_board_L v10 v11 fun v12 => R v12) fun (board_here_8 : Bd) => st (fun R => f_story_L board_here_8 (10 : Int) fun v15 => R v15) fun (story_here_13 : List PyData) => st (fun R => f_tale_L board_here_8 story_here_13 fun v17 => f_draw_L ((story_here_13.length : Int) + (1 : Int)) fun v18 => R (v17, v18)) fun (p70 : (List (List Int)) × Int) => st (fun R => few (p70.1 ++ [([] : List Int)]) fun v77 => repC [([] : List Int)] (story_here_13.length : Int) fun v78 => few ((cutL p70.1 none (some p70.2)) ++ [([] : List Int)]) fun v79 => few (v79 ++ (cutL p70.1 (some (p70.2 + (1 : Int))) none)) fun v80 => R ([((eT (eT eI)) p70.1), ((eT (eT eI)) v77), ((eT (eT eI)) (cutL p70.1 (some (1 : Int)) none)), ((eT (eT eI)) v78), ((eL (eT eI)) p70.1), ((eT (eT eI)) v80)] : List PyData)) fun (values_71 : List PyData) => st (fun R => lcC p70.1 [] (fun x83 R => R true) (fun x83 R => R x83.reverse) fun l84 => few ((cutL p70.1 none (some p70.2)) ++ (cutL p70.1 (some (p70.2 + (1 : Int))) none)) fun v85 => few (v85 ++ [([] : List Int)]) fun v86 => f_odd_L  fun v87 => few (values_71 ++ ([((eT (eT eI)) l84), ((eT (eT eI)) v86), v87] : List PyData)) fun v88 => R v88) fun (values_81 : List PyData) => st (fun R => lcC p70.1 [] (fun x91 R => R true) (fun x91 R => R x91) fun l92 => lcC p70.1 [] (fun x93 R => R true) (fun x93 R => few (x93 ++ (cutL x93 none (some (1 : Int)))) fun v94 => R v94) fun l95 => few (values_81 ++ ([((eT (eL eI)) l92), ((eT (eT eI)) l95)] : List PyData)) fun v96 => R v96) fun (values_89 : List PyData) => forS (fun R => rg1 (6 : Int) fun l97 => lcC l97 [] (fun x98 R => R true) (fun x98 R => f_bent_L ((eT (eT eI)) p70.1) (3 : Int) fun v99 => R v99) fun l100 => few (values_89 ++ l100) fun v101 => R v101) () (fun x103 (s102 : Unit) nx104 bk105 => st (fun R => reprD (eD x103) fun s109 => R s109) fun (shown_111 : Str) => st (fun R => f_is_tale_L board_here_8 story_here_13 x103 fun v110 => R v110) fun (due_112 : Bool) => ifS (fun R => f_is_tale board_here_8 story_here_13 x103 fun v113 => reprD (eB v113) fun s114 => reprD (eB due_112) fun s115 => cnd (!decide (s114 = s115)) (R true) (reprD (eD x103) fun s116 => R (!decide (s116 = shown_111)))) (st (fun R => R false) RET) (nx104 ())) fun s119 => nx4 ()) fun s120 => st (fun R => R true) RET
theorem ok_law (HH : f_law (fun b => b = true)) (cDK : Cal P w K mg base k "_law_deck" ["_law_script"] (spDeck K)) (c_board_L : Cal P w K mg base k "_law_board" ["_law_deck_here", "_law_fuses", "_law_lamps"] (SpZ K (preT (encC eI (encC eI encN)) eBd (fun t => f_board_L t.1 t.2.1)))) (c_story_L : Cal P w K mg base k "_law_story" ["_law_deck_here", "_law_board_here", "_law_most"] (SpZ K (preT (encC eBd (encC eI encN)) (eT eD) (fun t => f_story_L t.1 t.2.1)))) (c_pick_L : Cal P w K mg base k "_law_pick" ["_law_deck_here", "_law_items"] (SpZ K prePick)) (c_tale_L : Cal P w K mg base k "_law_tale" ["_law_deck_here", "_law_board_here", "_law_story_here"] (SpZ K (preT (encC eBd (encC (eT eD) encN)) (eT (eT eI)) (fun t => f_tale_L t.1 t.2.1)))) (c_draw_L : Cal P w K mg base k "_law_draw" ["_law_deck_here", "_law_bound"] (SpZ K (preT (encC eI encN) eI (fun t => f_draw_L t.1)))) (c_odd_L : Cal P w K mg base k "_law_odd" ["_law_deck_here"] (SpZ K (preT encN eD (fun t => f_odd_L )))) (c_bent_L : Cal P w K mg base k "_law_bent" ["_law_deck_here", "_law_thing", "_law_deep"] (SpZ K (preT (encC eD (encC eI encN)) eD (fun t => f_bent_L t.1 t.2.1)))) (c_is_tale_L : Cal P w K mg base k "_law_is_tale" ["_law_board_here", "_law_story_here", "_law_thing"] (SpD K (preT (encC eBd (encC (eT eD) (encC eD encN))) eB (fun t => f_is_tale_L t.1 t.2.1 t.2.2.1)))) (c_is_tale : Cal P w K mg base k "is_tale" ["board", "story", "value"] (SpD K (preT (encC eBd (encC (eT eD) (encC eD encN))) eB (fun t => f_is_tale t.1 t.2.1 t.2.2.1)))) (mlen : mg "len" = none) (mlist : mg "list" = none) (mrange : mg "range" = none) (mrepr : mg "repr" = none) (mtuple : mg "tuple" = none)  : BodyS P w K mg base k ["_law_script", "_law_deck_here", "_law_turn", "_law_board_here", "_law_story_here", "_law_tale_here", "_law_at", "_law_values", "_law_thing", "_law_shown", "_law_due", "_law_row", "_law_k"] sLaw f := by
  intro cdv A outer s H a ns hg hr hy hS hl
  refine ⟨_, pss_cons (ps_set (i := 1) sc_law.nd rfl (.inr rfl) (pe_cal cDK hr (by rfl) (pa_cons (pv 0) pa_nil)))
      (pss_cons (ps_for PassesOwn.never rfl (pi_range1 (by rfl) mrange (pa_cons pe_int pa_nil)) (pg_name (i := 2) sc_law.nd rfl (Or.inl rfl)) (pss_cons (ps_set (i := 3) sc_law.nd rfl (.inl rfl) (pe_cal c_board_L hr (by rfl) (pa_cons (pv 1) (pa_cons (pe_cal (cv_pick eI c_pick_L) hr (by rfl) (pa_cons (pv 1) (pa_cons (pe_lst (pa_cons pe_int (pa_cons pe_int pa_nil))) pa_nil))) (pa_cons (pe_cal (cv_pick eI c_pick_L) hr (by rfl) (pa_cons (pv 1) (pa_cons (pe_lst (pa_cons pe_int (pa_cons pe_int pa_nil))) pa_nil))) pa_nil)))))
      (pss_cons (ps_set (i := 4) sc_law.nd rfl (.inl rfl) (pe_cal c_story_L hr (by rfl) (pa_cons (pv 1) (pa_cons (pv 3) (pa_cons pe_int pa_nil)))))
      (pss_cons (ps_asg (pe_tup (pa_cons (pe_cal c_tale_L hr (by rfl) (pa_cons (pv 1) (pa_cons (pv 3) (pa_cons (pv 4) pa_nil)))) (pa_cons (pe_cal c_draw_L hr (by rfl) (pa_cons (pv 1) (pa_cons (pe_op op_add (pe_callB call_len_seq (by rfl) mlen PySem.boot_len (pa_cons (pv 4) pa_nil)) pe_int) pa_nil))) pa_nil))) (pg_tup rfl (pgs_cons (pg_name (i := 5) sc_law.nd rfl (Or.inr rfl)) (pgs_cons (pg_name (i := 6) sc_law.nd rfl (Or.inl rfl)) pgs_nil))))
      (pss_cons (ps_set (i := 7) sc_law.nd rfl (.inl rfl) (pe_lst (pa_cons (pv 5) (pa_cons (pe_op op_catA (pv 5) (pe_tup (pa_cons (pe_tup pa_nil) pa_nil))) (pa_cons (pe_slice sl_tupA (pv 5) (po_some pe_int) po_none) (pa_cons (pe_op op_repTA (pe_tup (pa_cons (pe_tup pa_nil) pa_nil)) (pe_callB call_len_seq (by rfl) mlen PySem.boot_len (pa_cons (pv 4) pa_nil))) (pa_cons (pe_callTy call_list_of (by rfl) mlist (by decide +kernel) (pa_cons (pv 5) pa_nil)) (pa_cons (pe_op op_catA (pe_op op_catA (pe_slice sl_tupA (pv 5) po_none (po_some (pv 6))) (pe_tup (pa_cons (pe_tup pa_nil) pa_nil))) (pe_slice sl_tupA (pv 5) (po_some (pe_op op_add (pv 6) pe_int)) po_none)) pa_nil))))))))
      (pss_cons (ps_set (i := 7) sc_law.nd rfl (.inl rfl) (pe_op op_cat (pv 7) (pe_lst (pa_cons (pe_callTy call_tuple_of (by rfl) mtuple (by decide +kernel) (pa_cons (pe_lc (own := [("_law_row", 11)]) (g := (gName 11)) (tt := tYes) (by rfl) sc_law.nd (pi_tup (pv 5)) (blkOk_by (own := [("_law_row", 11)]) (N := ["_law_script", "_law_deck_here", "_law_turn", "_law_board_here", "_law_story_here", "_law_tale_here", "_law_at", "_law_values", "_law_thing", "_law_shown", "_law_due", "_law_row", "_law_k"]) (sc := (defScope sLaw)) (by decide +kernel)) (fun _ _ _ _ _ => (pg_name (i := 11) sc_law.nd rfl (Or.inl rfl))) (fun _ _ _ _ _ => pts_nil) (fun _ _ _ _ _ => (pe_revTE (K := K) rfl (pv 11)))) pa_nil)) (pa_cons (pe_op op_catA (pe_op op_catA (pe_slice sl_tupA (pv 5) po_none (po_some (pv 6))) (pe_slice sl_tupA (pv 5) (po_some (pe_op op_add (pv 6) pe_int)) po_none)) (pe_tup (pa_cons (pe_tup pa_nil) pa_nil))) (pa_cons (pe_cal c_odd_L hr (by rfl) (pa_cons (pv 1) pa_nil)) pa_nil))))))
      (pss_cons (ps_set (i := 7) sc_law.nd rfl (.inl rfl) (pe_op op_cat (pv 7) (pe_lst (pa_cons (pe_callTy call_tuple_of (by rfl) mtuple (by decide +kernel) (pa_cons (pe_lc (own := [("_law_row", 11)]) (g := (gName 11)) (tt := tYes) (by rfl) sc_law.nd (pi_tup (pv 5)) (blkOk_by (own := [("_law_row", 11)]) (N := ["_law_script", "_law_deck_here", "_law_turn", "_law_board_here", "_law_story_here", "_law_tale_here", "_law_at", "_law_values", "_law_thing", "_law_shown", "_law_due", "_law_row", "_law_k"]) (sc := (defScope sLaw)) (by decide +kernel)) (fun _ _ _ _ _ => (pg_name (i := 11) sc_law.nd rfl (Or.inl rfl))) (fun _ _ _ _ _ => pts_nil) (fun _ _ _ _ _ => (pe_callTy (call_listE (K := K) rfl) (by rfl) mlist (by decide +kernel) (pa_cons (pv 11) pa_nil)))) pa_nil)) (pa_cons (pe_callTy call_tuple_of (by rfl) mtuple (by decide +kernel) (pa_cons (pe_lc (own := [("_law_row", 11)]) (g := (gName 11)) (tt := tYes) (by rfl) sc_law.nd (pi_tup (pv 5)) (blkOk_by (own := [("_law_row", 11)]) (N := ["_law_script", "_law_deck_here", "_law_turn", "_law_board_here", "_law_story_here", "_law_tale_here", "_law_at", "_law_values", "_law_thing", "_law_shown", "_law_due", "_law_row", "_law_k"]) (sc := (defScope sLaw)) (by decide +kernel)) (fun _ _ _ _ _ => (pg_name (i := 11) sc_law.nd rfl (Or.inl rfl))) (fun _ _ _ _ _ => pts_nil) (fun _ _ _ _ _ => (pe_op (op_catE (K := K) rfl) (pv 11) (pe_slice (sl_tupAE (K := K) rfl) (pv 11) po_none (po_some pe_int))))) pa_nil)) pa_nil)))))
      (pss_one (ps_for PassesOwn.never rfl (pi_list (pe_op op_cat (pv 7) (pe_lc (own := [("_law_k", 12)]) (g := (gName 12)) (tt := tYes) (by rfl) sc_law.nd (pi_range1 (by rfl) mrange (pa_cons pe_int pa_nil)) (blkOk_by (own := [("_law_k", 12)]) (N := ["_law_script", "_law_deck_here", "_law_turn", "_law_board_here", "_law_story_here", "_law_tale_here", "_law_at", "_law_values", "_law_thing", "_law_shown", "_law_due", "_law_row", "_law_k"]) (sc := (defScope sLaw)) (by decide +kernel)) (fun _ _ _ _ _ => (pg_name (i := 12) sc_law.nd rfl (Or.inl rfl))) (fun _ _ _ _ _ => pts_nil) (fun _ _ _ _ _ => (pe_cal c_bent_L hr (by rfl) (pa_cons (pv 1) (pa_cons (pv 5) (pa_cons pe_int pa_nil)))))))) (pg_name (i := 8) sc_law.nd rfl (Or.inl rfl)) (pss_cons (ps_par (i := 9) (j := 10) rfl sc_law.nd rfl rfl (by decide) rfl rfl (pa_cons (pe_callB (callReprV hg hr.units) (by rfl) mrepr (by decide +kernel) (pa_cons (pv 8) pa_nil)) (pa_cons (pe_cal c_is_tale_L hr (by rfl) (pa_cons (pv 3) (pa_cons (pv 4) (pa_cons (pv 8) pa_nil)))) pa_nil)) (by rfl))
      (pss_one (ps_if (PW.pt (pw_or (pt_cmpR op_ne (pe_callB (callReprV hg hr.units) (by rfl) mrepr (by decide +kernel) (pa_cons (pe_cal c_is_tale hr (by rfl) (pa_cons (pv 3) (pa_cons (pv 4) (pa_cons (pv 8) pa_nil)))) pa_nil)) (pe_callB (callReprV hg hr.units) (by rfl) mrepr (by decide +kernel) (pa_cons (pv 10) pa_nil)) (nomark _)) (pw_or1 (pt_cmpR op_ne (pe_callB (callReprV hg hr.units) (by rfl) mrepr (by decide +kernel) (pa_cons (pv 8) pa_nil)) (pv 9) (nomark _))))) (pss_one (ps_ret pe_bl)) pss_nil))))))))))))
      (pss_one (ps_ret pe_bl))), ?_⟩
  refine law_start hy hS hl (by decide) fun Z => ?_
  unfold f_law at HH
  have HK : ∀ c : Bool, c = true → eB c = .bool true := fun c h => by rw [h]
  show SS K Z _ [.e .un, .e .deck, .e .un, .e .un, .e .un, .e .un, .e .un, .e .un, .e .un, .e .un, .e .un, .e .un, .e .un] (fun _ => False) { rt := fun d => d = .bool true }
  refine ss_seq (rs_for (ea := eI) (fun (s2 : Unit) => [.e .un, .e .deck, .e .un, .e .un, .e .un, .e .un, .e .un, .e .un, .e .un, .e .un, .e .un, .e .un, .e .un]) (fun a => [eI a]) () (ri_rg1 rf_int) sg_name (fun _ => rfl) ⟨.inl rfl, ⟨.inl rfl, ⟨.inl rfl, ⟨.inl rfl, ⟨.inl rfl, ⟨.inl rfl, ⟨.inl rfl, ⟨.inl rfl, ⟨.inl rfl, ⟨.inl rfl, ⟨.inl rfl, ⟨.inl rfl, ⟨.inl rfl, trivial⟩⟩⟩⟩⟩⟩⟩⟩⟩⟩⟩⟩⟩ HH (fun x3 s2 nx4 h6 => ?_) (fun s120 h7 => ?_) clo_seq)
  · refine ss_seq (rs_set (e := eBd) (rf_callZ (ra_cons (rf_callZ (ra_cons (rf_told (rfo_lst (e := eI) (fun (t : Int × Int × Unit) => ([t.1, t.2.1] : List Int)) (ra_cons rf_int (ra_cons rf_int ra_nil)))) ra_nil)) (ra_cons (rf_callZ (ra_cons (rf_told (rfo_lst (e := eI) (fun (t : Int × Int × Unit) => ([t.1, t.2.1] : List Int)) (ra_cons rf_int (ra_cons rf_int ra_nil)))) ra_nil)) ra_nil))) h6 fun board_here_8 h9 => ?_)
    refine ss_seq (rs_set (e := (eT eD)) (rf_callZ (ra_cons (rf_var eBd board_here_8) (ra_cons rf_int ra_nil))) h9 fun story_here_13 h14 => ?_)
    refine ss_seq (rs_unp (fun a => [(eT (eT eI)) a.1, eI a.2]) sg_pair (fun _ => ⟨rfl, rfl⟩) (rf_tup (e := (eP (eT (eT eI)) eI)) (fun (t : (List (List Int)) × Int × Unit) => (t.1, t.2.1)) (ra_cons (rf_callZ (ra_cons (rf_var eBd board_here_8) (ra_cons (rf_var (eT eD) story_here_13) ra_nil))) (ra_cons (rf_callZ (ra_cons (rf_i2 (rf_lenT (rf_var (eT eD) story_here_13)) rf_int) ra_nil)) ra_nil))) h14 fun p70 h16 => ?_)
    refine ss_seq (rs_set (e := (eL eD)) (rf_told (rfo_lst (e := eD) (fun (t : PyData × PyData × PyData × PyData × PyData × PyData × Unit) => ([t.1, t.2.1, t.2.2.1, t.2.2.2.1, t.2.2.2.2.1, t.2.2.2.2.2.1] : List PyData)) (ra_cons (rf_any (rf_var (eT (eT eI)) p70.1)) (ra_cons (rf_any (rf_catT (rf_var (eT (eT eI)) p70.1) (rf_tup (e := (eT (eT eI))) (fun (t : (List Int) × Unit) => ([t.1] : List (List Int))) (ra_cons (rf_tup (e := (eT eI)) (fun (t : Unit) => ([] : List Int)) ra_nil) ra_nil)))) (ra_cons (rf_any (rf_slT (rf_var (eT (eT eI)) p70.1) (rp_some rf_int) rp_none)) (ra_cons (rf_any (rf_repT (rf_tup (e := (eT (eT eI))) (fun (t : (List Int) × Unit) => ([t.1] : List (List Int))) (ra_cons (rf_tup (e := (eT eI)) (fun (t : Unit) => ([] : List Int)) ra_nil) ra_nil)) (rf_lenT (rf_var (eT eD) story_here_13)))) (ra_cons (rf_any (rf_told (rfo_listT (rf_var (eT (eT eI)) p70.1)))) (ra_cons (rf_any (rf_catT (rf_catT (rf_slT (rf_var (eT (eT eI)) p70.1) rp_none (rp_some (rf_var eI p70.2))) (rf_tup (e := (eT (eT eI))) (fun (t : (List Int) × Unit) => ([t.1] : List (List Int))) (ra_cons (rf_tup (e := (eT eI)) (fun (t : Unit) => ([] : List Int)) ra_nil) ra_nil))) (rf_slT (rf_var (eT (eT eI)) p70.1) (rp_some (rf_i2 (rf_var eI p70.2) rf_int)) rp_none))) ra_nil)))))))) h16 fun values_71 h72 => ?_)
    refine ss_seq (rs_set (e := (eL eD)) (rf_told (rfo_cat (rf_var (eL eD) values_71) (rf_told (rfo_lst (e := eD) (fun (t : PyData × PyData × PyData × Unit) => ([t.1, t.2.1, t.2.2.1] : List PyData)) (ra_cons (rf_any (rf_tupL (rf_told (rfo_lc (e := (eT eI)) (e1 := (eT eI)) (fun a => [(eT eI) a]) (ri_tup (rf_var (eT (eT eI)) p70.1)) sg_name (by decide) (fun _ => ⟨rfl, rfl⟩) (fun x83 => rb_yes) (fun x83 => (rf_revT (rf_var (eT eI) x83))))))) (ra_cons (rf_any (rf_catT (rf_catT (rf_slT (rf_var (eT (eT eI)) p70.1) rp_none (rp_some (rf_var eI p70.2))) (rf_slT (rf_var (eT (eT eI)) p70.1) (rp_some (rf_i2 (rf_var eI p70.2) rf_int)) rp_none)) (rf_tup (e := (eT (eT eI))) (fun (t : (List Int) × Unit) => ([t.1] : List (List Int))) (ra_cons (rf_tup (e := (eT eI)) (fun (t : Unit) => ([] : List Int)) ra_nil) ra_nil)))) (ra_cons (rf_callZ ra_nil) ra_nil))))))) h72 fun values_81 h82 => ?_)
    refine ss_seq (rs_set (e := (eL eD)) (rf_told (rfo_cat (rf_var (eL eD) values_81) (rf_told (rfo_lst (e := eD) (fun (t : PyData × PyData × Unit) => ([t.1, t.2.1] : List PyData)) (ra_cons (rf_any (rf_tupL (rf_told (rfo_lc (e := (eL eI)) (e1 := (eT eI)) (fun a => [(eT eI) a]) (ri_tup (rf_var (eT (eT eI)) p70.1)) sg_name (by decide) (fun _ => ⟨rfl, rfl⟩) (fun x91 => rb_yes) (fun x91 => (rf_told (rfo_listTK (rf_var (eT eI) x91)))))))) (ra_cons (rf_any (rf_tupL (rf_told (rfo_lc (e := (eT eI)) (e1 := (eT eI)) (fun a => [(eT eI) a]) (ri_tup (rf_var (eT (eT eI)) p70.1)) sg_name (by decide) (fun _ => ⟨rfl, rfl⟩) (fun x93 => rb_yes) (fun x93 => (rf_catT (rf_var (eT eI) x93) (rf_slT (rf_var (eT eI) x93) rp_none (rp_some rf_int)))))))) ra_nil)))))) h82 fun values_89 h90 => ?_)
    refine rs_for (ea := eD) (fun (s102 : Unit) => [.e .un, .e .deck, .e (.dat (eI x3)), .e (.dat (eBd board_here_8)), .e (.dat ((eT eD) story_here_13)), .e (.dat ((eT (eT eI)) p70.1)), .e (.dat (eI p70.2)), .e (.dat ((eL eD) values_89)), .e .un, .e .un, .e .un, .e .un, .e .un]) (fun a => [eD a]) () (ri_list (rf_told (rfo_cat (rf_var (eL eD) values_89) (rf_told (rfo_lc (e := eD) (e1 := eI) (fun a => [eI a]) (ri_rg1 rf_int) sg_name (by decide) (fun _ => ⟨rfl, rfl⟩) (fun x98 => rb_yes) (fun x98 => (rf_callZ (ra_cons (rf_any (rf_var (eT (eT eI)) p70.1)) (ra_cons rf_int ra_nil))))))))) sg_name (fun _ => rfl) ⟨.inl rfl, ⟨.inl rfl, ⟨.inl rfl, ⟨.inl rfl, ⟨.inl rfl, ⟨.inl rfl, ⟨.inl rfl, ⟨.inl rfl, ⟨.inl rfl, ⟨.inl rfl, ⟨.inl rfl, ⟨.inl rfl, ⟨.inl rfl, trivial⟩⟩⟩⟩⟩⟩⟩⟩⟩⟩⟩⟩⟩ h90 (fun x103 s102 nx104 h106 => ?_) (fun s119 h107 => ?_) clo_ex
    · refine ss_seq (rs_par (e1 := eS) (e2 := eB) (rf_repr (rf_var eD x103)) (rf_call (ra_cons (rf_var eBd board_here_8) (ra_cons (rf_var (eT eD) story_here_13) (ra_cons (rf_var eD x103) ra_nil)))) h106 fun shown_111 due_112 h108 => ?_)
      refine rs_if (rb_or (rb_t (rf_neS (rf_repr (rf_call (ra_cons (rf_var eBd board_here_8) (ra_cons (rf_var (eT eD) story_here_13) (ra_cons (rf_var eD x103) ra_nil))))) (rf_repr (rf_var eB due_112)))) (rb_t (rf_neS (rf_repr (rf_var eD x103)) (rf_var eS shown_111)))) h108 (fun h117 => ?_) (fun h118 => ?_)
      · exact rs_ret rf_bl h117 HK
      · exact ss_next (⟨(), ⟨.inl rfl, ⟨.inl rfl, ⟨.inl rfl, ⟨.inl rfl, ⟨.inl rfl, ⟨.inl rfl, ⟨.inl rfl, ⟨.inl rfl, ⟨.inr rfl, ⟨.inr rfl, ⟨.inr rfl, ⟨.inl rfl, ⟨.inl rfl, trivial⟩⟩⟩⟩⟩⟩⟩⟩⟩⟩⟩⟩⟩, h118⟩)
    · exact ⟨(), ⟨.inl rfl, ⟨.inl rfl, ⟨.inr rfl, ⟨.inr rfl, ⟨.inr rfl, ⟨.inr rfl, ⟨.inr rfl, ⟨.inr rfl, ⟨.inl rfl, ⟨.inl rfl, ⟨.inl rfl, ⟨.inl rfl, ⟨.inl rfl, trivial⟩⟩⟩⟩⟩⟩⟩⟩⟩⟩⟩⟩⟩, h107⟩
  · exact rs_ret rf_bl h7 HK
end
end FF
set_option maxHeartbeats 4000000
namespace FF
open PySem PySem.Spec PyProof.Rows L2 Evl
/-! stories, read -/
theorem isPause_of {d : Deed} {R : Bool → Prop} (h : R d.isNone) : f_is_pause (eDeed d) R := by
  match d with
  | none => exact ⟨[.str "pause"], rfl, idx_nat (i := 0) rfl h⟩
  | some (b, l) =>
    refine ⟨[.str (wordS b), .int l], rfl, idx_nat (i := 0) rfl ?_⟩
    show R (isS (.str (wordS b)) "pause")
    have e : isS (.str (wordS b)) "pause" = false := by cases b <;> decide +kernel
    rw [e]
    exact h
theorem onAfter_of {fs ls : List (Int × Int)} (hl : ls.length ≤ 1000) {s : List Deed} (hs : StoryOk ls.length s) {R : List Int → Prop} (h : R (onD ls.length s)) : f_on_after (fs, ls) (s.map eDeed) R := by
  unfold f_on_after
  refine ⟨ls.length, rfl, by show 1 * ls.length ≤ _; omega, by omega, ?_⟩
  refine forC_inv (fun i (u : List Bool) => u = (rngI ls.length).map (onF (s.take i))) ?_ (fun i d u nx hd hI hn => ?_) fun u hu => ?_
  · have e : onF (s.take 0) = fun _ => false := by rw [List.take_zero]; rfl
    rw [e]
    have : ∀ n : Nat, (List.replicate n [false]).flatten = (rngI n).map fun _ => false := fun n => by
      refine List.ext_getElem? fun i => ?_
      have l1 : (List.replicate n [false]).flatten = List.replicate n false := by
        induction n with
        | zero => rfl
        | succ n ih => rw [List.replicate_succ, List.flatten_cons, ih]; rfl
      rw [l1, List.getElem?_map]
      by_cases c : i < n
      · rw [rngI_get c, List.getElem?_replicate_of_lt c]; rfl
      · rw [List.getElem?_eq_none (by rw [List.length_replicate]; omega), List.getElem?_eq_none (by rw [rngI_len]; omega)]; rfl
    exact this _
  · rw [List.getElem?_map] at hd
    cases c : s[i]? with
    | none => rw [c] at hd; cases hd
    | some x =>
      rw [c] at hd
      have ed : d = eDeed x := (Option.some.inj hd).symm
      subst ed
      have tk := take_succ_of c
      rw [tk, onF_app] at hn
      refine isPause_of ⟨fun q => ?_, fun q => ?_⟩
      · match x, q, c, hn with
        | some (b, k), _, c, hn =>
          have hok := hs.ok _ (List.mem_of_getElem? c)
          have h0 : 0 ≤ k := hok.1
          have h1 : k < ls.length := hok.2
          refine ⟨(.str (wordS b), .int k), rfl, ?_⟩
          show st (fun R => asE eI (.int k) fun v17 => R v17) _
          refine ⟨k, rfl, k.toNat, ?_, hn _ ?_⟩
          · rw [hI, List.length_map, rngI_len]; exact ixN_nat h0 h1
          · rw [hI, map_rngI_set _ _ _ _ h0 h1]
            have e : isS (eD (.str (wordS b))) "on" = b := by cases b <;> decide +kernel
            show (rngI ls.length).map (fun l => if l = k then isS (eD (.str (wordS b))) "on" else onF (s.take i) l) = _
            rw [e]
            rfl
      · match x, q, hn with
        | none, _, hn =>
          refine hn _ ?_
          rw [hI]
          rfl
  · rw [List.length_map, List.take_length] at hu
    subst hu
    rw [enumZ_rngI]
    refine lcC_of (fun x => x.2) (fun x => x.1) (fun _ _ _ h => h) (fun _ _ _ _ h => h) (by rw [List.length_map, rngI_len]; omega) ?_
    have e : ((((rngI ls.length).map fun k => (k, onF s k)).filter fun x => x.2).map fun x => x.1) = onD ls.length s := by
      unfold onD
      rw [List.filter_map, List.map_map]
      have : (fun x : Int × Bool => x.1) ∘ (fun k => (k, onF s k)) = id := rfl
      rw [this, List.map_id]
      rfl
    rw [e]
    exact h
theorem onAfterL_of {nl : Nat} {s : List Deed} (hs : StoryOk nl s) {R : List Int → Prop} (h : R (onD nl s)) : f_on_after_L (s.map eDeed) R := by
  unfold f_on_after_L
  refine forC_inv (fun i (u : List (Int × Bool)) => u.length ≤ i ∧ (u.map (·.1)).Nodup ∧ (∀ k ∈ u.map (·.1), getM u k = some (onF (s.take i) k) ∧ 0 ≤ k ∧ k < nl) ∧ ∀ k, k ∉ u.map (·.1) → onF (s.take i) k = false) ⟨Nat.zero_le _, List.nodup_nil, fun k hk => (by cases hk), fun k _ => rfl⟩ (fun i d u nx hd hI hn => ?_) fun u hu => ?_
  · rw [List.getElem?_map] at hd
    cases c : s[i]? with
    | none => rw [c] at hd; cases hd
    | some x =>
      rw [c] at hd
      have ed : d = eDeed x := (Option.some.inj hd).symm
      subst ed
      have tk := take_succ_of c
      rw [tk, onF_app] at hn
      have hil : i < s.length := (List.getElem?_eq_some_iff.mp c).1
      have hlen := hs.len
      obtain ⟨i1, i2, i3, i4⟩ := hI
      match x, c, hn with
      | none, c, hn =>
        refine ⟨[.str "pause"], rfl, idx_nat (i := 0) rfl ⟨by decide +kernel, by decide +kernel, ?_⟩⟩
        have e : PyData.eqv (eD (.str "pause")) (eS "pause") = true := by decide +kernel
        rw [e]
        refine ⟨(fun z => nomatch z), fun _ => hn _ ⟨by omega, i2, i3, i4⟩⟩
      | some (b, k), c, hn =>
        have hok := hs.ok _ (List.mem_of_getElem? c)
        have h0 : 0 ≤ k := hok.1
        have h1 : k < nl := hok.2
        refine ⟨[.str (wordS b), .int k], rfl, idx_nat (i := 0) rfl ⟨by cases b <;> decide +kernel, by decide +kernel, ?_⟩⟩
        have e : PyData.eqv (eD (.str (wordS b))) (eS "pause") = false := by cases b <;> decide +kernel
        rw [e]
        refine ⟨fun _ => ?_, (fun z => nomatch z)⟩
        refine ⟨[.str (wordS b), .int k], rfl, idx_nat (i := 0) rfl ?_⟩
        have e2 : isS (eD (.str (wordS b))) "on" = b := by cases b <;> decide +kernel
        rw [e2]
        refine ⟨[.str (wordS b), .int k], rfl, idx_nat (i := 1) rfl ⟨k, rfl, by omega, ?_⟩⟩
        refine hn _ ⟨Nat.le_trans (putM_len _ _ _) (by omega), keys_nodup _ _ i2, fun j hj => ?_, fun j hj => ?_⟩
        · rw [getM_put]
          rw [mem_keys_put] at hj
          by_cases q : j = k
          · subst q
            rw [if_pos rfl]
            refine ⟨?_, h0, h1⟩
            show some b = some (if j = j then b else _)
            rw [if_pos rfl]
          · rw [if_neg q]
            rcases hj with z | z
            · exact absurd z q
            · refine ⟨?_, (i3 j z).2⟩
              rw [(i3 j z).1]
              show _ = some (if j = k then b else _)
              rw [if_neg q]
        · rw [mem_keys_put] at hj
          show (if j = k then b else onF (s.take i) j) = false
          rw [if_neg fun z => hj (.inl z)]
          exact i4 j fun z => hj (.inr z)
  · rw [List.length_map, List.take_length] at hu
    obtain ⟨i1, i2, i3, i4⟩ := hu
    have hlen := hs.len
    refine lcC_of (fun k => onF s k) (fun k => k) (fun k hk R h => ⟨_, (i3 k hk).1, h⟩) (fun _ _ _ _ h => h) (by rw [List.length_map]; omega) ?_
    have e : sortI (((u.map (·.1)).filter fun k => onF s k).map fun k => k) = onD nl s := by
      refine sortI_eq (by rw [List.map_id']; exact i2.filter _) (onD_asc _ _) fun x => ?_
      rw [List.map_id', List.mem_filter, onD_mem]
      constructor
      · intro z
        exact ⟨(i3 x z.1).2, z.2⟩
      · intro z
        refine ⟨?_, z.2⟩
        by_cases q : x ∈ u.map (·.1)
        · exact q
        · have := i4 x q
          rw [z.2] at this
          cases this
    show R (sortI _)
    rw [e]
    exact h
/-- a story, drawn -/
theorem story_of {fs ls : List (Int × Int)} (hl : ls.length ≤ 30) {m : Int} (h0 : 0 ≤ m) (hm : m ≤ 40) {R : List PyData → Prop} (h : ∀ s : List Deed, StoryOk ls.length s → (s.length : Int) ≤ m → R (s.map eDeed)) : f_story_L (fs, ls) m R := by
  unfold f_story_L
  refine ⟨by omega, by omega, fun n n0 n1 => ?_⟩
  refine ⟨⟨by omega, by omega⟩, ?_⟩
  have rl : (rgZ 0 1 n.toNat).length = n.toNat := rgZ_len
  refine forC_inv (fun i (u : List PyData) => ∃ s : List Deed, u = s.map eDeed ∧ s.length = i ∧ ∀ d ∈ s, DeedOk ls.length d) ⟨[], rfl, rfl, fun d hd => nomatch hd⟩ (fun i x u nx hx hI hn => ?_) fun u hu => ?_
  · obtain ⟨s, rfl, sl, so⟩ := hI
    have hi := (List.getElem?_eq_some_iff.mp hx).1
    rw [rl] at hi
    have key : ∀ d : Deed, DeedOk ls.length d → nx (s.map eDeed ++ [eDeed d]) := fun d hd => hn _ ⟨s ++ [d], by rw [List.map_append]; rfl, by rw [List.length_append, sl]; rfl, fun e he => by
      rcases List.mem_append.mp he with z | z
      · exact so e z
      · rw [List.mem_singleton.mp z]; exact hd⟩
    refine ⟨by decide, by decide, fun w w0 w1 => ?_⟩
    have pz : st (fun R => R ((eT eS) [("pause" : Str)])) fun v22 => (s.map eDeed).length < 100000 ∧ nx (s.map eDeed ++ [v22]) := ⟨by rw [List.length_map]; omega, key none trivial⟩
    refine ⟨fun c => ?_, fun c => cnd_f.mpr pz⟩
    have hpos : (0 : Int) < ls.length := of_decide_eq_true c
    refine ⟨fun c2 => ?_, fun c2 => pz⟩
    have w5 : w < 5 := of_decide_eq_true c2
    have dr : ∀ b : Bool, f_draw_L (ls.length : Int) fun v19 => (s.map eDeed).length < 100000 ∧ nx (s.map eDeed ++ [(eP eS eI) (wordS b, v19)]) := fun b => ⟨by omega, by omega, fun r r0 r1 => ⟨by rw [List.length_map]; omega, key (some (b, r)) ⟨r0, r1⟩⟩⟩
    have : w = 0 ∨ w = 1 ∨ w = 2 ∨ w = 3 ∨ w = 4 := by omega
    rcases this with z | z | z | z | z <;> subst z
    · exact idx_nat (i := 0) rfl (dr true)
    · exact idx_nat (i := 1) rfl (dr true)
    · exact idx_nat (i := 2) rfl (dr true)
    · exact idx_nat (i := 3) rfl (dr true)
    · exact idx_nat (i := 4) rfl (dr false)
  · obtain ⟨s, rfl, sl, so⟩ := hu
    rw [rl] at sl
    exact h s ⟨by omega, so⟩ (by omega)
/-! earliest moments, read -/
theorem onsAt_of {fs ls : List (Int × Int)} (hl : ls.length ≤ 1000) {s : List Deed} (hs : StoryOk ls.length s) {R : List (List Int) → Prop} (h : R (onsD ls.length s)) : f_on_at_moments (fs, ls) (s.map eDeed) R := by
  unfold f_on_at_moments
  have hlen := hs.len
  show rg1 ((s.map eDeed).length : Int) fun l1 => lcC l1 [] (fun x2 R => R true) (fun x2 R => f_on_after (fs, ls) (cutL (s.map eDeed) none (some (x2 + 1))) fun v3 => R v3) fun l4 => R l4
  rw [List.length_map]
  refine ⟨⟨by omega, by omega⟩, ?_⟩
  rw [Int.toNat_natCast, rgZ_I]
  refine lcC_map (fun i => onD ls.length (s.take (i.toNat + 1))) (fun i hi R hR => ?_) (by rw [rngI_len]; omega) ?_
  · have hi := rngI_mem.mp hi
    have e : cutL (s.map eDeed) none (some (i + 1)) = (s.take (i.toNat + 1)).map eDeed := by
      have e1 : i + 1 = ((i.toNat + 1 : Nat) : Int) := by omega
      rw [e1, cutL_to, List.map_take]
    rw [e]
    exact onAfter_of hl (hs.take _) hR
  · have e : ((rngI s.length).map fun i => onD ls.length (s.take (i.toNat + 1))) = onsD ls.length s := by
      unfold rngI onsD
      rw [List.map_map]
      rfl
    rw [e]
    exact h
def ErOk (n : Nat) (E : Er) : Prop := E.length ≤ 1000 ∧ ∀ p ∈ E, 0 ≤ p.2 ∧ p.2 < n
theorem enumZ_get' {α : Type} : ∀ (l : List α) (k i : Nat), (enumZ k l)[i]? = (l[i]?).map fun a => (((k + i : Nat) : Int), a)
  | [], k, i => by simp [enumZ]
  | x :: l, k, 0 => rfl
  | x :: l, k, i + 1 => by
    show (enumZ (k + 1) l)[i]? = _
    rw [enumZ_get' l (k + 1) i]
    show _ = (l[i]?).map _
    rw [show k + 1 + i = k + (i + 1) by omega]
theorem enumZ_len' {α : Type} : ∀ (l : List α) (k : Nat), (enumZ k l).length = l.length
  | [], _ => rfl
  | x :: l, k => by show (enumZ (k + 1) l).length + 1 = _; rw [enumZ_len' l (k + 1)]; rfl
theorem way_le {fs : List (Int × Int)} {x : Int} : (way (fs.map (·.1)) x).length ≤ fs.length + 1 := by
  have := wayI_len (ab := fs.map (·.1)) ((fs.map (·.1)).length + 1) x
  rw [List.length_map] at this
  unfold way
  rw [List.length_map]
  exact this
theorem st_of {α : Type} {m : (α → Prop) → Prop} {k : α → Prop} (h : m k) : st m k := h
theorem rg1_of {n : Nat} (h : n ≤ 100000) {R : List Int → Prop} (hR : R (rngI n)) : rg1 (n : Int) R := by
  refine ⟨⟨by omega, by omega⟩, ?_⟩
  rw [Int.toNat_natCast, rgZ_I]
  exact hR
/-! ever, never, steady -/
def mayD (fs ls : List (Int × Int)) : List Int := strD fs ls (rngI ls.length) []
def neverD (fs ls : List (Int × Int)) : List Int := (rngI fs.length).filter fun x => !decide (x ∈ mayD fs ls)
def calmB (fs ls : List (Int × Int)) (l : Int) : Bool := !((way (fs.map (·.1)) (lampAt ls l).1).any fun x => decide (x ∈ mayD fs ls))
def steadyD (fs ls : List (Int × Int)) : List Int := (rngI ls.length).filter (calmB fs ls)
theorem every_ok {ls : List (Int × Int)} (h : ls.length ≤ 1000) : OnOk ls (rngI ls.length) := ⟨by rw [rngI_len]; exact h, fun l hl => rngI_mem.mp hl⟩
theorem onF_all (n : Nat) : ∀ (m : Nat) (l : Int), onF ((rngI m).map fun l => some (true, l)) l = decide (0 ≤ l ∧ l < m)
  | 0, l => by
    rw [decide_eq_false (by omega)]
    rfl
  | m + 1, l => by
    have e : rngI (m + 1) = rngI m ++ [(m : Int)] := by
      unfold rngI
      rw [List.range_succ, List.map_append]
      rfl
    rw [e, List.map_append]
    show onF (_ ++ [some (true, (m : Int))]) l = _
    rw [onF_app]
    show (if l = (m : Int) then true else _) = _
    rw [onF_all n m l]
    by_cases c : l = m
    · rw [if_pos c, decide_eq_true (by omega)]
    · rw [if_neg c]
      by_cases d : 0 ≤ l ∧ l < (m : Int)
      · rw [decide_eq_true d, decide_eq_true (by omega)]
      · rw [decide_eq_false d, decide_eq_false (by omega)]
/-- the story that puts every lamp on -/
def allOn (n : Nat) : List Deed := (rngI n).map fun l => some (true, l)
theorem allOn_on (n : Nat) : onD n (allOn n) = rngI n := by
  unfold onD allOn
  refine List.filter_eq_self.mpr fun l hl => ?_
  rw [onF_all n]
  exact decide_eq_true (rngI_mem.mp hl)
theorem allOn_len (n : Nat) : (allOn n).length = n := by unfold allOn; rw [List.length_map, rngI_len]
theorem allOn_ok {n : Nat} (h : n ≤ 41) : StoryOk n (allOn n) := ⟨by rw [allOn_len]; exact h, fun d hd => by
  obtain ⟨l, hl, rfl⟩ := List.mem_map.mp hd
  exact rngI_mem.mp hl⟩
/-- with every lamp on, any one fuse that may ever blow can blow first -/
theorem allOn_mom {fs ls : List (Int × Int)} (g : WG fs ls) {x : Int} (hx : x ∈ mayD fs ls) : ∃ v, momD fs ls (allOn ls.length) [x] = some v := by
  have hs := strD_iff.mp hx
  obtain ⟨⟨x0, x1⟩, hs⟩ := hs
  have one : 1 ≤ ls.length := by
    rcases Nat.eq_zero_or_pos ls.length with z | z
    · rw [z] at hs
      have e : rngI 0 = [] := rfl
      rw [e] at hs
      obtain ⟨p, hp⟩ := get_of (xs := fs) x0 x1
      have := (g.marks p (List.mem_of_getElem? hp)).1
      have em : markAt fs x = p.2 := by
        unfold markAt
        rw [List.getD_eq_getElem?_getD, hp]
        rfl
      rw [em] at hs
      have : loadD (fs.map (·.1)) ls (litD (fs.map (·.1)) ls [] []) x = 0 := rfl
      omega
    · exact z
  have hot : hotAt fs ls (onsD ls.length (allOn ls.length)) [] x (((ls.length - 1 : Nat)) : Int) = true := by
    unfold hotAt
    rw [Int.toNat_natCast, List.getD_eq_getElem?_getD, onsD_get (by rw [allOn_len]; omega)]
    have e : (allOn ls.length).take (ls.length - 1 + 1) = allOn ls.length := List.take_of_length_le (by rw [allOn_len]; omega)
    rw [e, allOn_on]
    exact decide_eq_true hs
  have st0 : startD fs [] x = 0 := rfl
  cases c : firstD fs ls (onsD ls.length (allOn ls.length)) [] x with
  | none =>
    have := List.find?_eq_none.mp c (((ls.length - 1 : Nat)) : Int) (rngI_mem.mpr ⟨by omega, by rw [onsD_len, allOn_len]; omega⟩)
    rw [st0, decide_eq_true (by omega), Bool.true_and] at this
    exact absurd hot this
  | some m =>
    have e : momE fs ls (onsD ls.length (allOn ls.length)) [x] = some [(x, m)] := by
      unfold momE
      show momR _ _ _ [] [x] = _
      unfold momR
      rw [c]
      rfl
    have p : pausesD fs ls (allOn ls.length) (onsD ls.length (allOn ls.length)) [(x, m)] = true := by
      unfold pausesD
      refine List.all_eq_true.mpr fun m hm => ?_
      unfold pauseOk
      cases q : (allOn ls.length)[m.toNat]? with
      | none => rfl
      | some d =>
        obtain ⟨l, _, rfl⟩ := List.mem_map.mp (List.mem_of_getElem? q)
        rfl
    unfold momD
    rw [e]
    simp only [p, if_true]
    exact ⟨_, rfl⟩
theorem enumZ_mem' {α : Type} {l : List α} {p : Int × α} (h : p ∈ enumZ 0 l) : ∃ i : Nat, l[i]? = some p.2 ∧ p.1 = (i : Int) := by
  obtain ⟨i, hi⟩ := List.getElem?_of_mem h
  rw [enumZ_get'] at hi
  obtain ⟨x, hx, rfl⟩ := Option.map_eq_some_iff.mp hi
  exact ⟨i, hx, by simp⟩
theorem mem_enumZ' {α : Type} {l : List α} {i : Nat} {x : α} (h : l[i]? = some x) : ((i : Int), x) ∈ enumZ 0 l := List.mem_of_getElem? (i := i) (by rw [enumZ_get', h]; simp)
theorem canFollowB_of {fs ls : List (Int × Int)} (g : WG fs ls) {on : List Int} (ho : OnOk ls on) {bl l : List Int} (hb : bl.length ≤ 1000) (hl : l.length ≤ 1000) {R : Bool → Prop} (h : R (folB fs ls on bl l)) : f_can_follow (fs, ls) on bl l R := by
  unfold f_can_follow
  show lcC _ _ _ _ _
  refine lcC_map (fun p => decide (p.2 ∈ strD fs ls on (bl ++ l.take p.1.toNat))) (fun p hp R hR => ?_) (by rw [enumZ_len']; omega) ?_
  · obtain ⟨i, hi, e⟩ := enumZ_mem' hp
    rw [e] at hR ⊢
    rw [cutL_to]
    rw [Int.toNat_natCast] at hR
    exact ⟨by rw [List.length_append, List.length_take]; omega, g, ho, hR⟩
  · have e : ((enumZ 0 l).map fun p => decide (p.2 ∈ strD fs ls on (bl ++ l.take p.1.toNat))).all id = folB fs ls on bl l := by
      rw [Bool.eq_iff_iff, List.all_map, List.all_eq_true]
      constructor
      · intro q
        refine fol_of fun i x hx => ?_
        have q2 : decide (x ∈ strD fs ls on (bl ++ l.take ((i : Int)).toNat)) = true := q ((i : Int), x) (mem_enumZ' hx)
        rw [Int.toNat_natCast] at q2
        exact of_decide_eq_true q2
      · intro q p hp
        obtain ⟨i, hi, e⟩ := enumZ_mem' hp
        show decide (p.2 ∈ strD fs ls on (bl ++ l.take p.1.toNat)) = true
        refine decide_eq_true ?_
        rw [e, Int.toNat_natCast]
        exact fol_at q hi
    rw [e]
    exact h
theorem zip3_get {α β γ : Type} {l : List α} {m : List β} {n : List γ} {i : Nat} {x : α × β × γ} (h : (zip3 l m n)[i]? = some x) : l[i]? = some x.1 ∧ m[i]? = some x.2.1 ∧ n[i]? = some x.2.2 := by
  unfold zip3 at h
  rw [List.getElem?_zip_eq_some, List.getElem?_zip_eq_some] at h
  exact ⟨h.1, h.2.1, h.2.2⟩
theorem zip3_len {α β γ : Type} {l : List α} {m : List β} {n : List γ} : (zip3 l m n).length = min l.length (min m.length n.length) := by
  unfold zip3
  rw [List.length_zip, List.length_zip]
theorem onAt_ok {ls : List (Int × Int)} (h : ls.length ≤ 1000) (s : List Deed) (m : Nat) : OnOk ls (onAt ls.length s m) := onD_ok h _
theorem isTale_of {fs ls : List (Int × Int)} (g : WG fs ls) {s : List Deed} (hs : StoryOk ls.length s) {d : PyData} {R : Bool → Prop} (h : R (taleB fs ls s d)) : f_is_tale (fs, ls) (s.map eDeed) d R := by
  have few := g.few
  have lam := g.lamps
  unfold f_is_tale
  show cnd (!(rowIn (((s.map eDeed).length : Nat) : Int) (((s.map eDeed).length : Nat) : Int) d)) _ _
  rw [List.length_map]
  refine ⟨fun q => ?_, fun q => ?_⟩
  · rw [tale_len (by simpa using q)] at h
    exact h
  · have q : rowIn s.length s.length d = true := by simpa using q
    match d, q, h with
    | .tuple xs, q, h =>
      have hl : xs.length = s.length := by
        have q : (decide ((s.length : Int) ≤ (xs.length : Int)) && decide ((xs.length : Int) ≤ (s.length : Int))) = true := q
        rw [Bool.and_eq_true, decide_eq_true_eq, decide_eq_true_eq] at q
        omega
      refine onsAt_of lam hs ⟨xs, by show PyData.tuple xs = .tuple (xs.map eD); rw [show xs.map eD = xs from List.map_id' _], ?_⟩
      have stop : ∀ i ≤ s.length, runT fs ls s (rowsV xs) i = none → R false := fun i hi e => by rw [tale_no hi e] at h; exact h
      refine forC_inv (fun i (u : List Int) => runT fs ls s (rowsV xs) i = some u) rfl (fun i x u nx hx hI hn => ?_) fun u hu => ?_
      · obtain ⟨x1, x2, x3⟩ := zip3_get hx
        have hix := (List.getElem?_eq_some_iff.mp x3).1
        have hil : i < s.length := by omega
        rw [onsD_get hil] at x2
        have x2 : x.2.1 = onAt ls.length s i := (Option.some.inj x2).symm
        have ok := run_ok g hI
        have okl := ok.len
        have run1 : runT fs ls s (rowsV xs) (i + 1) = stepT fs ls s i (rowOf x.2.2) u := by
          show (runT fs ls s (rowsV xs) i).bind _ = _
          rw [hI]
          show stepT fs ls s i ((xs[i]?).bind rowOf) u = _
          rw [x3]
          rfl
        have bad : stepT fs ls s i (rowOf x.2.2) u = none → R false := fun e => stop (i + 1) hil (by rw [run1, e])
        rw [x2]
        refine ⟨fs.length, rfl, few, ?_⟩
        cases c : unlikeB fs.length x.2.2 with
        | false =>
          refine cnd_t.mpr (cnd_t.mpr (bad ?_))
          cases r : rowOf x.2.2 with
          | none => rfl
          | some l =>
            cases f : stepT fs ls s i (some l) u with
            | none => rfl
            | some b =>
              obtain ⟨l', e1, _, f1, _⟩ := step_some f
              cases e1
              rw [rowOf_some r, fol_unlike g ok f1] at c
              cases c
        | true =>
          obtain ⟨l, el, ll, _, _⟩ := unlike_yes c
          refine cnd_f.mpr ⟨l, el, canFollowB_of g (onAt_ok lam s i) (by omega) (by omega) ?_⟩
          rw [el, rowOf_ints] at bad run1
          refine ⟨fun q => bad ?_, fun q => ⟨l, el, ?_, ?_⟩⟩
          · have q : folB fs ls (onAt ls.length s i) u l = false := by simpa using q
            unfold stepT
            simp only [q, Bool.false_and, Bool.false_eq_true, if_false]
          · rw [List.length_append]; omega
          · have q : folB fs ls (onAt ls.length s i) u l = true := by simpa using q
            have ok2 := fol_ok g ok l.length rfl q
            rw [List.getElem?_map] at x1
            cases ci : s[i]? with
            | none => rw [ci] at x1; cases x1
            | some dd =>
              rw [ci] at x1
              have ed : x.1 = eDeed dd := (Option.some.inj x1).symm
              rw [ed]
              have pa : pauseAt s i = dd.isNone := by
                unfold pauseAt
                rw [ci]
                cases dd <;> rfl
              refine isPause_of ?_
              cases dd with
              | none =>
                refine cnd_t.mpr ⟨g, onAt_ok lam s i, fun q2 => bad ?_, fun q2 => hn _ ?_⟩
                · have q2 : (strD fs ls (onAt ls.length s i) (u ++ l)).isEmpty = false := by simpa using q2
                  unfold stepT
                  rw [pa]
                  simp only [q, q2]
                  rfl
                · have q2 : (strD fs ls (onAt ls.length s i) (u ++ l)).isEmpty = true := by simpa using q2
                  rw [run1]
                  exact step_of q fun _ => List.isEmpty_iff.mp q2
              | some p =>
                refine cnd_f.mpr (cnd_f.mpr (hn _ ?_))
                rw [run1]
                exact step_of q fun z => by rw [pa] at z; cases z
      · rw [zip3_len, List.length_map, onsD_len, hl, Nat.min_self, Nat.min_self] at hu
        rw [tale_yes hl hu] at h
        exact h
theorem not_t {b : Bool} (h : (!b) = true) : b = false := by cases b <;> first | rfl | cases h
theorem not_f {b : Bool} (h : (!b) = false) : b = true := by cases b <;> first | rfl | cases h
/-- the first word of a deed -/
def headD : Deed → PyData
  | none => .str "pause"
  | some p => .str (wordS p.1)
theorem head_of {d : Deed} {P : PyData → Prop} (h : P (headD d)) : asE (eT eD) (eDeed d) fun v => idx v (0 : Int) P := by
  match d with
  | none => exact ⟨[.str "pause"], rfl, idx_nat (i := 0) rfl h⟩
  | some (b, l) => exact ⟨[.str (wordS b), .int l], rfl, idx_nat (i := 0) rfl h⟩
theorem head_pause {d : Deed} : isS (eD (headD d)) "pause" = d.isNone := by
  match d with
  | none => decide +kernel
  | some (true, l) => show isS (.str (wordS true)) "pause" = false; decide +kernel
  | some (false, l) => show isS (.str (wordS false)) "pause" = false; decide +kernel
theorem pauseAt_of {s : List Deed} {i : Nat} {d : Deed} (h : s[i]? = some d) : pauseAt s i = d.isNone := by
  unfold pauseAt
  rw [h]
  cases d <;> rfl
theorem rowOf_snoc {xs : List PyData} {i : Int} {l : List Int} (h : rowOf (.tuple xs) = some l) : rowOf (.tuple (xs ++ [.int i])) = some (l ++ [i]) := by
  have e := rowOf_some h
  have e : xs = l.map .int := PyData.tuple.inj e
  subst e
  have := rowOf_ints (l ++ [i])
  unfold intsT at this
  rw [List.map_append] at this
  exact this
theorem row_elem {xs : List PyData} {l : List Int} (h : rowOf (.tuple xs) = some l) : xs = l.map .int := PyData.tuple.inj (rowOf_some h)
theorem any_int {l : List Int} {x : Int} : ((l.map eI).any fun z => PyData.eqv z (eD (.int x))) = decide (x ∈ l) := by
  induction l with
  | nil => rfl
  | cons y l ih =>
    rw [List.map_cons, List.any_cons, ih]
    have e : PyData.eqv (eI y) (eD (.int x)) = decide (y = x) := by
      show PyData.eqv (.int y) (.int x) = _
      by_cases c : y = x
      · subst c; simp [PyData.eqv]
      · simp [PyData.eqv, c]
    rw [e]
    by_cases c : x = y
    · subst c; simp
    · have c2 : ¬ y = x := fun z => c z.symm
      simp [c, c2]
theorem inD_int {l : List Int} {x : Int} {R : Bool → Prop} (h : R (decide (x ∈ l))) : inD (eD (.int x)) (l.map eI) R := by
  refine ⟨rfl, shapedInts l, ?_⟩
  rw [any_int]
  exact h
/-- the law's own look at a tale -/
theorem isTaleL_of {fs ls : List (Int × Int)} (g : WG fs ls) (fw : fs.length ≤ 100) {s : List Deed} (hs : StoryOk ls.length s) {d : PyData} {R : Bool → Prop} (h : R (taleB fs ls s d)) : f_is_tale_L (fs, ls) (s.map eDeed) d R := by
  have lam := g.lamps
  have hsl := hs.len
  unfold f_is_tale_L
  have ea : ∀ xs : List PyData, PyData.tuple xs = eT eD xs := fun xs => by show _ = PyData.tuple (xs.map eD); rw [show xs.map eD = xs from List.map_id' _]
  have other : isTupD (eD d) = false → R false := fun z => by
    have : taleB fs ls s d = false := by
      cases d with
      | tuple xs => cases z
      | _ => rfl
    rw [this] at h
    exact h
  show cnd (!(isTupD (eD d))) _ _
  rcases isTup_cases d with ⟨xs, rfl⟩ | z
  rotate_left
  · rw [show isTupD (eD d) = false from z]
    exact cnd_t.mpr (cnd_t.mpr (other z))
  refine cnd_f.mpr ⟨xs, ea xs, ?_⟩
  rw [List.length_map]
  refine ⟨fun q => ?_, fun q => ?_⟩
  · have q : ¬ ((xs.length : Nat) : Int) = ((s.length : Nat) : Int) := of_decide_eq_false (not_t q)
    have q : ¬ xs.length = s.length := fun z => q (by rw [z])
    have : taleB fs ls s (.tuple xs) = false := by
      show (decide (xs.length = s.length) && _) = false
      rw [decide_eq_false q, Bool.false_and]
    rw [this] at h
    exact h
  have hl : xs.length = s.length := by
    have q : ((xs.length : Nat) : Int) = ((s.length : Nat) : Int) := by simpa using q
    omega
  have stop : ∀ i ≤ s.length, runT fs ls s (rowsV xs) i = none → R false := fun i hi e => by rw [tale_no hi e] at h; exact h
  refine st_of (st_of (rg1_of (n := s.length) (by omega) ?_))
  refine forC_inv (fun i (u : List Int) => runT fs ls s (rowsV xs) i = some u) rfl (fun i m u nx hm hI hn => ?_) fun u hu => ?_
  · have hi := (List.getElem?_eq_some_iff.mp hm).1
    rw [rngI_len] at hi
    have em : m = (i : Int) := by
      rw [rngI_get hi] at hm
      exact (Option.some.inj hm).symm
    subst em
    have ok := run_ok g hI
    have okl := ok.len
    have ons := onAt_ok (ls := ls) lam s i
    have hx : xs[i]? = some (xs[i]'(by omega)) := List.getElem?_eq_getElem (by omega)
    generalize xs[i]'(by omega) = x at hx
    have run1 : runT fs ls s (rowsV xs) (i + 1) = stepT fs ls s i (rowOf x) u := by
      show (runT fs ls s (rowsV xs) i).bind _ = _
      rw [hI]
      show stepT fs ls s i ((xs[i]?).bind rowOf) u = _
      rw [hx]
      rfl
    have bad : stepT fs ls s i (rowOf x) u = none → R false := fun e => stop (i + 1) hi (by rw [run1, e])
    have e1 : cutL (s.map eDeed) none (some ((i : Int) + 1)) = (s.take (i + 1)).map eDeed := by
      have e1 : (i : Int) + 1 = ((i + 1 : Nat) : Int) := by omega
      rw [e1, cutL_to, List.map_take]
    rw [e1]
    refine onAfterL_of (hs.take _) ⟨xs, ea xs, idx_nat hx ?_⟩
    show cnd (!(isTupD (eD x))) _ _
    rcases isTup_cases x with ⟨ys, rfl⟩ | z
    rotate_left
    · rw [show isTupD (eD x) = false from z]
      refine cnd_t.mpr (bad ?_)
      cases x with
      | tuple ys => cases z
      | _ => rfl
    refine cnd_f.mpr ⟨xs, ea xs, idx_nat hx ⟨ys, ea ys, ?_⟩⟩
    refine forC_inv (fun j (w : List Int) => ∃ l, rowOf (.tuple (ys.take j)) = some l ∧ w = u ++ l ∧ folB fs ls (onAt ls.length s i) u l = true) ⟨[], rfl, (List.append_nil _).symm, rfl⟩ (fun j y w nx2 hy hJ hn2 => ?_) fun w hw => ?_
    · obtain ⟨l, r1, rfl, f1⟩ := hJ
      have tk := take_succ_of hy
      have ok2 := fol_ok g ok l.length rfl f1
      have ok2l := ok2.len
      have no : (∀ l2, rowOf (.tuple ys) = some l2 → ¬ ∃ k : Int, y = .int k ∧ k ∈ strD fs ls (onAt ls.length s i) (u ++ l)) → R false := fun hno => bad (by
        cases r : rowOf (.tuple ys) with
        | none => rfl
        | some l2 =>
          cases f : stepT fs ls s i (some l2) u with
          | none => rfl
          | some b =>
            obtain ⟨l', e1, _, f2, _⟩ := step_some f
            cases e1
            refine absurd ?_ (hno l2 r)
            have ey := row_elem r
            subst ey
            rw [List.getElem?_map] at hy
            cases q : l2[j]? with
            | none => rw [q] at hy; cases hy
            | some k =>
              rw [q] at hy
              have ey : y = .int k := (Option.some.inj hy).symm
              refine ⟨k, ey, ?_⟩
              have := fol_at f2 q
              have el : l = l2.take j := by
                have e2 : (l2.map PyData.int).take j = (l2.take j).map .int := List.map_take.symm
                rw [e2] at r1
                have := rowOf_ints (l2.take j)
                unfold intsT at this
                rw [this] at r1
                exact (Option.some.inj r1).symm
              rw [el]
              exact this)
      show cnd (!(intIn 0 ((fs.length : Int) - 1) y)) _ _
      cases c : intIn 0 ((fs.length : Int) - 1) y with
      | false =>
        refine cnd_t.mpr (cnd_t.mpr (no fun l2 r2 z => ?_))
        obtain ⟨k, rfl, hk⟩ := z
        have := strD_mem hk
        have c2 : (decide ((0 : Int) ≤ k) && decide (k ≤ (fs.length : Int) - 1)) = false := c
        rw [decide_eq_true this.1, decide_eq_true (by omega)] at c2
        cases c2
      | true =>
        match y, c with
        | .int k, c =>
          refine cnd_f.mpr ⟨g, fw, ons, inD_int ?_⟩
          refine ⟨fun q => no fun l2 r2 z => ?_, fun q => ⟨k, rfl, ?_, hn2 _ ?_⟩⟩
          · obtain ⟨k2, e2, hk⟩ := z
            cases e2
            have q : (!decide (k ∈ strD fs ls (onAt ls.length s i) (u ++ l))) = true := q
            rw [decide_eq_true hk] at q
            cases q
          · rw [List.length_append, List.length_singleton]; omega
          · have q : (!decide (k ∈ strD fs ls (onAt ls.length s i) (u ++ l))) = false := q
            have hk : k ∈ strD fs ls (onAt ls.length s i) (u ++ l) := by simpa using q
            refine ⟨l ++ [k], ?_, (List.append_assoc _ _ _), fol_snoc.mpr ⟨f1, hk⟩⟩
            rw [tk]
            exact rowOf_snoc r1
    · obtain ⟨l, r1, rfl, f1⟩ := hw
      rw [List.take_length] at r1
      rw [r1] at bad run1
      obtain ⟨dd, hd⟩ : ∃ dd, s[i]? = some dd := ⟨_, List.getElem?_eq_getElem hi⟩
      refine idx_nat (by rw [List.getElem?_map, hd]; rfl) (head_of ?_)
      have pa := pauseAt_of hd
      show cnd (isS (eD (headD dd)) "pause") _ _
      rw [head_pause, ← pa]
      cases c : pauseAt s i with
      | false =>
        refine cnd_f.mpr (cnd_f.mpr (hn _ ?_))
        rw [run1]
        exact step_of f1 fun z => by rw [c] at z; cases z
      | true =>
        refine cnd_t.mpr ⟨g, fw, ons, fun q => bad ?_, fun q => hn _ ?_⟩
        · have q : (strD fs ls (onAt ls.length s i) (u ++ l)).isEmpty = false := not_t q
          unfold stepT
          simp only [f1, q, c]
          rfl
        · have q : (strD fs ls (onAt ls.length s i) (u ++ l)).isEmpty = true := not_f q
          rw [run1]
          exact step_of f1 fun _ => List.isEmpty_iff.mp q
  · rw [rngI_len] at hu
    rw [tale_yes hl hu] at h
    exact h
/-- a tale, drawn -/
theorem tale_of {fs ls : List (Int × Int)} (g : WG fs ls) (fw : fs.length ≤ 100) {s : List Deed} (hs : StoryOk ls.length s) {R : List (List Int) → Prop} (h : ∀ T, TaleOk fs ls s T → R T) : f_tale_L (fs, ls) (s.map eDeed) R := by
  have lam := g.lamps
  have hsl := hs.len
  unfold f_tale_L
  refine st_of (st_of ?_)
  show rg1 (((s.map eDeed).length : Nat) : Int) fun l => forC l (([] : List (List Int)), ([] : List Int)) _ _
  rw [List.length_map]
  refine rg1_of (n := s.length) (by omega) ?_
  refine forC_inv (fun i (u : List (List Int) × List Int) => u.1.length = i ∧ runT fs ls s (rowsT u.1) i = some u.2 ∧ u.2 = u.1.flatten ∧ ∀ r ∈ u.1, r.length ≤ fs.length ∧ ∀ x ∈ r, 0 ≤ x ∧ x < fs.length) ⟨rfl, rfl, rfl, fun r hr => nomatch hr⟩ (fun i m u nx hm hI hn => ?_) fun u hu => ?_
  · obtain ⟨T, bl⟩ := u
    obtain ⟨i1, i2, i3, i4⟩ := hI
    have i1 : T.length = i := i1
    have i2 : runT fs ls s (rowsT T) i = some bl := i2
    have i3 : bl = T.flatten := i3
    have hi := (List.getElem?_eq_some_iff.mp hm).1
    rw [rngI_len] at hi
    have em : m = (i : Int) := by
      rw [rngI_get hi] at hm
      exact (Option.some.inj hm).symm
    subst em
    have ok := run_ok g i2
    have okl := ok.len
    have ons := onAt_ok (ls := ls) lam s i
    obtain ⟨dd, hd⟩ : ∃ dd, s[i]? = some dd := ⟨_, List.getElem?_eq_getElem hi⟩
    have pa := pauseAt_of hd
    have e1 : cutL (s.map eDeed) none (some ((i : Int) + 1)) = (s.take (i + 1)).map eDeed := by
      have e1 : (i : Int) + 1 = ((i + 1 : Nat) : Int) := by omega
      rw [e1, cutL_to, List.map_take]
    rw [e1]
    refine onAfterL_of (hs.take _) ⟨by decide, by decide, fun many m0 m1 => st_of (rg1_of (n := fs.length) (by omega) ?_)⟩
    refine forC_inv (fun j (w : List Int × List Int) => w.1 = bl ++ w.2 ∧ w.2.length ≤ j ∧ folB fs ls (onAt ls.length s i) bl w.2 = true ∧ (pauseAt s i = true → w.2.length = j ∨ strD fs ls (onAt ls.length s i) w.1 = [])) ⟨(List.append_nil _).symm, Nat.le_refl _, rfl, fun _ => .inl rfl⟩ (fun j k w nx2 hk hJ hn2 => ?_) fun w hw => ?_
    · obtain ⟨b, now⟩ := w
      obtain ⟨j1, j2, j3, j4⟩ := hJ
      have j1 : b = bl ++ now := j1
      have j2 : now.length ≤ j := j2
      have j3 : folB fs ls (onAt ls.length s i) bl now = true := j3
      have j4 : pauseAt s i = true → now.length = j ∨ strD fs ls (onAt ls.length s i) b = [] := j4
      subst j1
      have ok2 := fol_ok g ok now.length rfl j3
      have ok2l := ok2.len
      have keep : (pauseAt s i = true → strD fs ls (onAt ls.length s i) (bl ++ now) = []) → nx2 (bl ++ now, now) := fun hp => hn2 _ ⟨rfl, Nat.le_succ_of_le j2, j3, fun q => .inr (hp q)⟩
      have take : ∀ x ∈ strD fs ls (onAt ls.length s i) (bl ++ now), few (now ++ [x]) fun a => few ((bl ++ now) ++ [x]) fun c => nx2 (c, a) := fun x hx => by
        have ok3 := (ok2.snoc g hx).len
        rw [List.length_append, List.length_append] at ok3
        refine ⟨by rw [List.length_append]; omega, by rw [List.length_append, List.length_append]; omega, hn2 _ ⟨List.append_assoc _ _ _, by show (now ++ [x]).length ≤ j + 1; rw [List.length_append, List.length_singleton]; omega, fol_snoc.mpr ⟨j3, hx⟩, fun q => ?_⟩⟩
        rcases j4 q with z | z
        · left; show (now ++ [x]).length = j + 1; rw [List.length_append, List.length_singleton]; omega
        · rw [z] at hx; cases hx
      refine ⟨g, fw, ons, ?_⟩
      show cnd (!(strD fs ls (onAt ls.length s i) (bl ++ now)).isEmpty) _ _
      have pk : ∀ {R : Int → Prop}, (strD fs ls (onAt ls.length s i) (bl ++ now)).isEmpty = false → (∀ x ∈ strD fs ls (onAt ls.length s i) (bl ++ now), R x) → f_pick (strD fs ls (onAt ls.length s i) (bl ++ now)) R := fun q hR => ⟨fun z => (by rw [z] at q; cases q), Nat.lt_of_le_of_lt (strD_len _ _ _ _) (by omega), hR⟩
      cases q : (strD fs ls (onAt ls.length s i) (bl ++ now)).isEmpty with
      | true => exact cnd_f.mpr (cnd_f.mpr (keep fun _ => List.isEmpty_iff.mp q))
      | false =>
        refine cnd_t.mpr (idx_nat (by rw [List.getElem?_map, hd]; rfl) (head_of ?_))
        show cnd (isS (eD (headD dd)) "pause") _ _
        rw [head_pause, ← pa]
        cases c : pauseAt s i with
        | true => exact cnd_t.mpr (cnd_t.mpr (pk q take))
        | false => exact cnd_f.mpr ⟨fun _ => pk q take, fun _ => keep fun z => by rw [c] at z; cases z⟩
    · rw [rngI_len] at hw
      obtain ⟨b, now⟩ := w
      obtain ⟨j1, j2, j3, j4⟩ := hw
      have j1 : b = bl ++ now := j1
      have j2 : now.length ≤ fs.length := j2
      have j3 : folB fs ls (onAt ls.length s i) bl now = true := j3
      have j4 : pauseAt s i = true → now.length = fs.length ∨ strD fs ls (onAt ls.length s i) b = [] := j4
      subst j1
      have ok2 := fol_ok g ok now.length rfl j3
      have calm : pauseAt s i = true → strD fs ls (onAt ls.length s i) (bl ++ now) = [] := fun q => by
        rcases j4 q with z | z
        · refine List.eq_nil_iff_forall_not_mem.mpr fun x hx => ?_
          have := (ok2.snoc g hx).len
          rw [List.length_append, List.length_append, List.length_singleton] at this
          omega
        · exact z
      refine ⟨by show T.length < 100000; omega, hn (T ++ [now], bl ++ now) ⟨by show (T ++ [now]).length = i + 1; rw [List.length_append, i1]; rfl, ?_, ?_, fun r hr => ?_⟩⟩
      · have := run_snoc (row := now) (b := bl ++ now) (by rw [i1]; exact i2) (by rw [i1]; exact step_of j3 calm)
        rw [List.length_append, i1] at this
        exact this
      · show bl ++ now = (T ++ [now]).flatten
        rw [List.flatten_append, ← i3]
        simp
      · rcases List.mem_append.mp hr with z | z
        · exact i4 r z
        · rw [List.mem_singleton.mp z]
          exact ⟨j2, fun x hx => ok2.inn x (List.mem_append_right _ hx)⟩
  · rw [rngI_len] at hu
    obtain ⟨T, bl⟩ := u
    obtain ⟨i1, i2, i3, i4⟩ := hu
    have i3 : bl = T.flatten := i3
    subst i3
    exact h T ⟨i1, i2, i4⟩
/-! rows of small numbers, as values -/
def RowS (r : List Int) : Prop := r.length ≤ 40 ∧ ∀ x ∈ r, 0 ≤ x ∧ x < 100
theorem sv_rowT {r : List Int} {n : Nat} (h : ∀ x ∈ r, 0 ≤ x ∧ x < 100) (hl : r.length ≤ n) : Sv (13 * n) 1 (eT eI r) := by
  have a : ∀ d ∈ r.map PyData.int, Sv 12 0 d := fun d hd => by
    obtain ⟨x, hx, rfl⟩ := List.mem_map.mp hd
    exact Sv.int12 (by have := h x hx; omega)
  have q := SvA.all a
  rw [List.length_map] at q
  exact Sv.tup (q.mono (by omega) (Nat.le_refl _))
theorem sv_rowL {r : List Int} {n : Nat} (h : ∀ x ∈ r, 0 ≤ x ∧ x < 100) (hl : r.length ≤ n) : Sv (13 * n) 2 (eL eI r) := Sv.lst (sv_rowT h hl).items
theorem sv_rows {L : List (List Int)} {n m : Nat} (h : ∀ r ∈ L, r.length ≤ n ∧ ∀ x ∈ r, 0 ≤ x ∧ x < 100) (hl : L.length ≤ m) : Sv ((13 * n + 1) * m) 2 (eT (eT eI) L) ∧ Sv ((13 * n + 1) * m) 2 (eL (eT eI) L) ∧ Sv ((13 * n + 1) * m) 3 (eT (eL eI) L) := by
  have a : ∀ d ∈ L.map (eT eI), Sv (13 * n) 1 d := fun d hd => by
    obtain ⟨x, hx, rfl⟩ := List.mem_map.mp hd
    exact sv_rowT (h x hx).2 (h x hx).1
  have b : ∀ d ∈ L.map (eL eI), Sv (13 * n) 2 d := fun d hd => by
    obtain ⟨x, hx, rfl⟩ := List.mem_map.mp hd
    exact sv_rowL (h x hx).2 (h x hx).1
  have q := SvA.all a
  have q2 := SvA.all b
  rw [List.length_map] at q q2
  have le : (13 * n + 1) * L.length ≤ (13 * n + 1) * m := Nat.mul_le_mul_left _ hl
  exact ⟨Sv.tup (q.mono le (Nat.le_refl _)), Sv.lst (q.mono le (Nat.le_refl _)), Sv.tup (q2.mono le (Nat.le_refl _))⟩
theorem cutL_sub {α : Type} {l : List α} {a b : Option Int} {x : α} (h : x ∈ cutL l a b) : x ∈ l := List.mem_of_mem_drop (List.mem_of_mem_take h)
theorem cutL_len {α : Type} {l : List α} {a b : Option Int} : (cutL l a b).length ≤ l.length := by
  unfold cutL
  rw [List.length_take, List.length_drop]
  omega
theorem lay_rows (L : List (List Int)) : (eT (eT eI) L).canLay0 = true := by
  show PyData.canLay0 (.tuple (L.map intsT)) = true
  exact layLT L
end FF
set_option maxHeartbeats 4000000
namespace FF
open PySem PySem.Spec PyProof.Rows L2 Evl
theorem bent_tale {T : List (List Int)} (hl : T.length ≤ 11) (h : ∀ r ∈ T, r.length ≤ 20 ∧ ∀ x ∈ r, 0 ≤ x ∧ x < 100) {j : Int} (h0 : 0 ≤ j) (h1 : j < 4) {R : PyData → Prop} (hR : ∀ d, BV 4 2871 d → R d) : f_bent_L ((eT (eT eI)) T) j R :=
  ⟨2871, lay_rows T, (sv_rows h hl).1.mono (by decide) (by decide), by decide, h0, h1, hR⟩
theorem law_true : f_law (fun b => b = true) := by
  unfold f_law
  refine ⟨by decide, forC_all (fun t nx ht hn => ?_) rfl⟩
  have pick : ∀ (l : List Int) (R : Int → Prop), l ≠ [] → l.length ≤ 1000 → (∀ x ∈ l, R x) → f_pick l R := fun l R h1 h2 h3 => ⟨h1, by omega, h3⟩
  refine pick _ _ (by decide) (by decide) fun m hm => ?_
  have hm : 7 ≤ m ∧ m ≤ 20 := by
    simp at hm
    omega
  refine pick _ _ (by decide) (by decide) fun n hn0 => ?_
  have hn0 : 8 ≤ n ∧ n ≤ 30 := by
    simp at hn0
    omega
  refine ⟨by omega, by omega, by omega, by omega, fun fs ls wb hfl hll => ?_⟩
  have g := wb.g
  have lam : ls.length ≤ 30 := by omega
  have fw : fs.length ≤ 20 := by omega
  refine story_of lam (by decide) (by decide) fun s hs hsl => ?_
  have sl : s.length ≤ 10 := by omega
  refine tale_of g (by omega) hs fun T hT => ?_
  have tl := hT.len
  have rows : ∀ r ∈ T, r.length ≤ 20 ∧ ∀ x ∈ r, 0 ≤ x ∧ x < 100 := fun r hr => ⟨Nat.le_trans (hT.rows r hr).1 fw, fun x hx => by have := (hT.rows r hr).2 x hx; omega⟩
  have r0 : ∀ r ∈ ([[]] : List (List Int)), r.length ≤ 20 ∧ ∀ x ∈ r, 0 ≤ x ∧ x < 100 := fun r hr => by
    rw [List.mem_singleton.mp hr]
    exact ⟨Nat.zero_le _, fun x hx => nomatch hx⟩
  have rApp : ∀ {A B : List (List Int)}, (∀ r ∈ A, r.length ≤ 20 ∧ ∀ x ∈ r, 0 ≤ x ∧ x < 100) → (∀ r ∈ B, r.length ≤ 20 ∧ ∀ x ∈ r, 0 ≤ x ∧ x < 100) → ∀ r ∈ A ++ B, r.length ≤ 20 ∧ ∀ x ∈ r, 0 ≤ x ∧ x < 100 := fun ha hb r hr => by
    rcases List.mem_append.mp hr with z | z
    · exact ha r z
    · exact hb r z
  have rCut : ∀ a b, ∀ r ∈ cutL T a b, r.length ≤ 20 ∧ ∀ x ∈ r, 0 ≤ x ∧ x < 100 := fun a b r hr => rows r (cutL_sub hr)
  have ok : ∀ {A : List (List Int)}, (∀ r ∈ A, r.length ≤ 20 ∧ ∀ x ∈ r, 0 ≤ x ∧ x < 100) → A.length ≤ 40 → Sv 300000 60 ((eT (eT eI)) A) := fun h hl => (sv_rows h hl).1.mono (by decide) (by decide)
  rw [List.length_map]
  refine ⟨by omega, by omega, fun i i0 i1 => ?_⟩
  dsimp only
  have c1 := cutL_len (l := T) (a := none) (b := some i)
  have c2 := cutL_len (l := T) (a := some (i + 1)) (b := none)
  have c3 := cutL_len (l := T) (a := some (1 : Int)) (b := none)
  refine ⟨by rw [List.length_append]; show T.length + 1 ≤ _; omega, ?_⟩
  refine ⟨by omega, by omega, by decide, ?_⟩
  rw [Int.toNat_natCast]
  have fl : ∀ k : Nat, (List.replicate k ([[]] : List (List Int))).flatten.length = k ∧ ∀ r ∈ (List.replicate k ([[]] : List (List Int))).flatten, r.length ≤ 20 ∧ ∀ x ∈ r, 0 ≤ x ∧ x < 100 := fun k => by
    induction k with
    | zero => exact ⟨rfl, fun r hr => nomatch hr⟩
    | succ k ih =>
      rw [List.replicate_succ, List.flatten_cons]
      exact ⟨by rw [List.length_append, ih.1]; show 1 + k = k + 1; omega, rApp r0 ih.2⟩
  refine ⟨by rw [List.length_append]; show _ + 1 ≤ _; omega, ⟨by rw [List.length_append, List.length_append]; show _ + 1 + _ ≤ _; omega, ?_⟩⟩
  refine lcC_map (fun r => r.reverse) (fun r _ R h => h) (by omega) ?_
  refine ⟨by rw [List.length_append]; omega, ⟨by rw [List.length_append, List.length_append]; show _ + _ + 1 ≤ _; omega, fun d hd => ⟨by show 9 ≤ 100000; decide, ?_⟩⟩⟩
  refine lcC_map (fun r => r) (fun r _ R h => h) (by omega) ?_
  refine lcC_map (fun r => r ++ cutL r none (some (1 : Int))) (fun r hr R h => ⟨by rw [List.length_append]; have := (rows r hr).1; have := cutL_len (l := r) (a := none) (b := some (1 : Int)); omega, h⟩) (by omega) ?_
  refine ⟨by show 11 ≤ 100000; decide, ?_⟩
  refine ⟨by decide, lcC_any (fun d => BV 4 2871 d) (fun x hx R hR => bent_tale (by omega) rows (by decide) (by decide) hR) (by rw [rgZ_len]; decide) fun vs hvl hvs => ?_⟩
  rw [rgZ_len] at hvl
  refine ⟨by rw [List.length_append, hvl]; exact Nat.le_of_ble_eq_true rfl, forC_all (fun x nx2 hx hn2 => ?_) hn⟩
  have svx : Sv 300000 60 x := by
    rcases List.mem_append.mp hx with z | z
    · rcases List.mem_append.mp z with z | z
      · rcases List.mem_append.mp z with z | z
        · simp only [List.mem_cons, List.not_mem_nil, or_false] at z
          rcases z with z | z | z | z | z | z
          · rw [z]; exact ok rows (by omega)
          · rw [z]; exact ok (rApp rows r0) (by rw [List.length_append]; show _ + 1 ≤ _; omega)
          · rw [z]; exact ok (rCut _ _) (by omega)
          · rw [z]; exact ok (fl _).2 (by rw [(fl _).1]; omega)
          · rw [z]; exact (sv_rows rows (show T.length ≤ 40 by omega)).2.1.mono (by decide) (by decide)
          · rw [z]; exact ok (rApp (rApp (rCut _ _) r0) (rCut _ _)) (by rw [List.length_append, List.length_append]; show _ + 1 + _ ≤ _; omega)
        · simp only [List.mem_cons, List.not_mem_nil, or_false] at z
          rcases z with z | z | z
          · rw [z]
            refine ok (fun r hr => ?_) (by rw [List.length_map]; omega)
            obtain ⟨q, hq, rfl⟩ := List.mem_map.mp hr
            exact ⟨by rw [List.length_reverse]; exact (rows q hq).1, fun x hx => (rows q hq).2 x (List.mem_reverse.mp hx)⟩
          · rw [z]; exact ok (rApp (rApp (rCut _ _) (rCut _ _)) r0) (by rw [List.length_append, List.length_append]; show _ + _ + 1 ≤ _; omega)
          · rw [z]; exact hd.mono (by decide) (by decide)
      · simp only [List.mem_cons, List.not_mem_nil, or_false] at z
        rcases z with z | z
        · rw [z, List.map_id']; exact (sv_rows rows (show T.length ≤ 40 by omega)).2.2.mono (by decide) (by decide)
        · rw [z]
          refine (sv_rows (n := 40) (m := 40) (fun r hr => ?_) (by rw [List.length_map]; omega)).1.mono (by decide) (by decide)
          obtain ⟨q, hq, rfl⟩ := List.mem_map.mp hr
          have := (rows q hq).1
          refine ⟨by rw [List.length_append]; have := cutL_len (l := q) (a := none) (b := some (1 : Int)); omega, fun x hx => ?_⟩
          rcases List.mem_append.mp hx with y | y
          · exact (rows q hq).2 x y
          · exact (rows q hq).2 x (cutL_sub y)
    · exact (hvs x z).sv.mono (by decide) (by decide)
  refine ⟨svx, isTaleL_of g (by omega) hs (isTale_of g hs ⟨sv_B, sv_B, cnd_same rfl ⟨svx, cnd_same rfl hn2⟩⟩)⟩
end FF
set_option maxHeartbeats 4000000
namespace FF
open PySem PySem.Spec PyProof.Rows L2 Evl
theorem all_mk {l : PySem.W.OpenLaw} {w : World} {K : PySem.W.Frag} {h : Heap} {mg : Str → Option Value} {fa fII fIR fAU fLT fDE fLS fOW fST fAR fN9 fN10 fN11 fN12 fN13 fDK fDR fPK fWY fBD fLL fLLS fLST fLI fOD fBT fN25 fN26 fN27 fN28 fLW : Addr} (X : K.In h) (G : h.Ns mainGlobals mg) (hfa : mg "law" = some (.ref fa))
    {odII anII odIR anIR odAU anAU odLT anLT odDE anDE odLS anLS odOW anOW odST anST odAR anAR odN9 anN9 odN10 anN10 odN11 anN11 odN12 anN12 odN13 anN13 odDK anDK odDR anDR odPK anPK odWY anWY odBD anBD odLL anLL odLLS anLLS odLST anLST odLI anLI odOD anOD odBT anBT odN25 anN25 odN26 anN26 odN27 anN27 odN28 anN28 odLW anLW : Option Addr} {slII slIR slAU slLT slDE slLS slOW slST slAR slN9 slN10 slN11 slN12 slN13 slDK slDR slPK slWY slBD slLL slLLS slLST slLI slOD slBT slN25 slN26 slN27 slN28 slLW : Array (Option Value)} {ocII kVII dcII pmII cdII ctII ocIR kVIR dcIR pmIR cdIR ctIR ocAU kVAU dcAU pmAU cdAU ctAU ocLT kVLT dcLT pmLT cdLT ctLT ocDE kVDE dcDE pmDE cdDE ctDE ocLS kVLS dcLS pmLS cdLS ctLS ocOW kVOW dcOW pmOW cdOW ctOW ocST kVST dcST pmST cdST ctST ocAR kVAR dcAR pmAR cdAR ctAR ocN9 kVN9 dcN9 pmN9 cdN9 ctN9 ocN10 kVN10 dcN10 pmN10 cdN10 ctN10 ocN11 kVN11 dcN11 pmN11 cdN11 ctN11 ocN12 kVN12 dcN12 pmN12 cdN12 ctN12 ocN13 kVN13 dcN13 pmN13 cdN13 ctN13 ocDK kVDK dcDK pmDK cdDK ctDK ocDR kVDR dcDR pmDR cdDR ctDR ocPK kVPK dcPK pmPK cdPK ctPK ocWY kVWY dcWY pmWY cdWY ctWY ocBD kVBD dcBD pmBD cdBD ctBD ocLL kVLL dcLL pmLL cdLL ctLL ocLLS kVLLS dcLLS pmLLS cdLLS ctLLS ocLST kVLST dcLST pmLST cdLST ctLST ocLI kVLI dcLI pmLI cdLI ctLI ocOD kVOD dcOD pmOD cdOD ctOD ocBT kVBT dcBT pmBT cdBT ctBT ocN25 kVN25 dcN25 pmN25 cdN25 ctN25 ocN26 kVN26 dcN26 pmN26 cdN26 ctN26 ocN27 kVN27 dcN27 pmN27 cdN27 ctN27 ocN28 kVN28 dcN28 pmN28 cdN28 ctN28 ocLW kVLW dcLW pmLW cdLW ctLW : Value}
    (aII : PySem.W.nsIn K mainGlobals "is_integer" = some (some (.ref fII))) (lII : K.lookup fII = some ⟨ocII, odII, .func (PySem.W.fnOf "is_integer" "is_integer" (defArgs s_is_integer) (defBody s_is_integer) (defScope s_is_integer) .none kVII dcII pmII anII cdII ctII), slII⟩) (cII : PySem.W.codeIn K cdII "is_integer" = true) (kII : PySem.W.keepIn K (.ref fII) = true)
    (aIR : PySem.W.nsIn K mainGlobals "is_row" = some (some (.ref fIR))) (lIR : K.lookup fIR = some ⟨ocIR, odIR, .func (PySem.W.fnOf "is_row" "is_row" (defArgs s_is_row) (defBody s_is_row) (defScope s_is_row) .none kVIR dcIR pmIR anIR cdIR ctIR), slIR⟩) (cIR : PySem.W.codeIn K cdIR "is_row" = true) (kIR : PySem.W.keepIn K (.ref fIR) = true)
    (aAU : PySem.W.nsIn K mainGlobals "are_unlike" = some (some (.ref fAU))) (lAU : K.lookup fAU = some ⟨ocAU, odAU, .func (PySem.W.fnOf "are_unlike" "are_unlike" (defArgs s_are_unlike) (defBody s_are_unlike) (defScope s_are_unlike) .none kVAU dcAU pmAU anAU cdAU ctAU), slAU⟩) (cAU : PySem.W.codeIn K cdAU "are_unlike" = true) (kAU : PySem.W.keepIn K (.ref fAU) = true)
    (aLT : PySem.W.nsIn K mainGlobals "lit" = some (some (.ref fLT))) (lLT : K.lookup fLT = some ⟨ocLT, odLT, .func (PySem.W.fnOf "lit" "lit" (defArgs s_lit) (defBody s_lit) (defScope s_lit) .none kVLT dcLT pmLT anLT cdLT ctLT), slLT⟩) (cLT : PySem.W.codeIn K cdLT "lit" = true) (kLT : PySem.W.keepIn K (.ref fLT) = true)
    (aDE : PySem.W.nsIn K mainGlobals "_dead" = some (some (.ref fDE))) (lDE : K.lookup fDE = some ⟨ocDE, odDE, .func (PySem.W.fnOf "_dead" "_dead" (defArgs s__dead) (defBody s__dead) (defScope s__dead) .none kVDE dcDE pmDE anDE cdDE ctDE), slDE⟩) (cDE : PySem.W.codeIn K cdDE "_dead" = true) (kDE : PySem.W.keepIn K (.ref fDE) = true)
    (aLS : PySem.W.nsIn K mainGlobals "loads" = some (some (.ref fLS))) (lLS : K.lookup fLS = some ⟨ocLS, odLS, .func (PySem.W.fnOf "loads" "loads" (defArgs s_loads) (defBody s_loads) (defScope s_loads) .none kVLS dcLS pmLS anLS cdLS ctLS), slLS⟩) (cLS : PySem.W.codeIn K cdLS "loads" = true) (kLS : PySem.W.keepIn K (.ref fLS) = true)
    (aOW : PySem.W.nsIn K mainGlobals "own_draws" = some (some (.ref fOW))) (lOW : K.lookup fOW = some ⟨ocOW, odOW, .func (PySem.W.fnOf "own_draws" "own_draws" (defArgs s_own_draws) (defBody s_own_draws) (defScope s_own_draws) .none kVOW dcOW pmOW anOW cdOW ctOW), slOW⟩) (cOW : PySem.W.codeIn K cdOW "own_draws" = true) (kOW : PySem.W.keepIn K (.ref fOW) = true)
    (aST : PySem.W.nsIn K mainGlobals "strained" = some (some (.ref fST))) (lST : K.lookup fST = some ⟨ocST, odST, .func (PySem.W.fnOf "strained" "strained" (defArgs s_strained) (defBody s_strained) (defScope s_strained) .none kVST dcST pmST anST cdST ctST), slST⟩) (cST : PySem.W.codeIn K cdST "strained" = true) (kST : PySem.W.keepIn K (.ref fST) = true)
    (aAR : PySem.W.nsIn K mainGlobals "at_rest" = some (some (.ref fAR))) (lAR : K.lookup fAR = some ⟨ocAR, odAR, .func (PySem.W.fnOf "at_rest" "at_rest" (defArgs s_at_rest) (defBody s_at_rest) (defScope s_at_rest) .none kVAR dcAR pmAR anAR cdAR ctAR), slAR⟩) (cAR : PySem.W.codeIn K cdAR "at_rest" = true) (kAR : PySem.W.keepIn K (.ref fAR) = true)
    (aN9 : PySem.W.nsIn K mainGlobals "can_follow" = some (some (.ref fN9))) (lN9 : K.lookup fN9 = some ⟨ocN9, odN9, .func (PySem.W.fnOf "can_follow" "can_follow" (defArgs s_can_follow) (defBody s_can_follow) (defScope s_can_follow) .none kVN9 dcN9 pmN9 anN9 cdN9 ctN9), slN9⟩) (cN9 : PySem.W.codeIn K cdN9 "can_follow" = true) (kN9 : PySem.W.keepIn K (.ref fN9) = true)
    (aN10 : PySem.W.nsIn K mainGlobals "is_pause" = some (some (.ref fN10))) (lN10 : K.lookup fN10 = some ⟨ocN10, odN10, .func (PySem.W.fnOf "is_pause" "is_pause" (defArgs s_is_pause) (defBody s_is_pause) (defScope s_is_pause) .none kVN10 dcN10 pmN10 anN10 cdN10 ctN10), slN10⟩) (cN10 : PySem.W.codeIn K cdN10 "is_pause" = true) (kN10 : PySem.W.keepIn K (.ref fN10) = true)
    (aN11 : PySem.W.nsIn K mainGlobals "on_after" = some (some (.ref fN11))) (lN11 : K.lookup fN11 = some ⟨ocN11, odN11, .func (PySem.W.fnOf "on_after" "on_after" (defArgs s_on_after) (defBody s_on_after) (defScope s_on_after) .none kVN11 dcN11 pmN11 anN11 cdN11 ctN11), slN11⟩) (cN11 : PySem.W.codeIn K cdN11 "on_after" = true) (kN11 : PySem.W.keepIn K (.ref fN11) = true)
    (aN12 : PySem.W.nsIn K mainGlobals "on_at_moments" = some (some (.ref fN12))) (lN12 : K.lookup fN12 = some ⟨ocN12, odN12, .func (PySem.W.fnOf "on_at_moments" "on_at_moments" (defArgs s_on_at_moments) (defBody s_on_at_moments) (defScope s_on_at_moments) .none kVN12 dcN12 pmN12 anN12 cdN12 ctN12), slN12⟩) (cN12 : PySem.W.codeIn K cdN12 "on_at_moments" = true) (kN12 : PySem.W.keepIn K (.ref fN12) = true)
    (aN13 : PySem.W.nsIn K mainGlobals "is_tale" = some (some (.ref fN13))) (lN13 : K.lookup fN13 = some ⟨ocN13, odN13, .func (PySem.W.fnOf "is_tale" "is_tale" (defArgs s_is_tale) (defBody s_is_tale) (defScope s_is_tale) .none kVN13 dcN13 pmN13 anN13 cdN13 ctN13), slN13⟩) (cN13 : PySem.W.codeIn K cdN13 "is_tale" = true) (kN13 : PySem.W.keepIn K (.ref fN13) = true)
    (aDK : PySem.W.nsIn K mainGlobals "_law_deck" = some (some (.ref fDK))) (lDK : K.lookup fDK = some ⟨ocDK, odDK, .func (PySem.W.fnOf "_law_deck" "_law_deck" (defArgs sDeck) (defBody sDeck) (defScope sDeck) .none kVDK dcDK pmDK anDK cdDK ctDK), slDK⟩) (cDK : PySem.W.codeIn K cdDK "_law_deck" = true) (kDK : PySem.W.keepIn K (.ref fDK) = true)
    (aDR : PySem.W.nsIn K mainGlobals "_law_draw" = some (some (.ref fDR))) (lDR : K.lookup fDR = some ⟨ocDR, odDR, .func (PySem.W.fnOf "_law_draw" "_law_draw" (defArgs sDraw) (defBody sDraw) (defScope sDraw) .none kVDR dcDR pmDR anDR cdDR ctDR), slDR⟩) (cDR : PySem.W.codeIn K cdDR "_law_draw" = true) (kDR : PySem.W.keepIn K (.ref fDR) = true)
    (aPK : PySem.W.nsIn K mainGlobals "_law_pick" = some (some (.ref fPK))) (lPK : K.lookup fPK = some ⟨ocPK, odPK, .func (PySem.W.fnOf "_law_pick" "_law_pick" (defArgs sPick) (defBody sPick) (defScope sPick) .none kVPK dcPK pmPK anPK cdPK ctPK), slPK⟩) (cPK : PySem.W.codeIn K cdPK "_law_pick" = true) (kPK : PySem.W.keepIn K (.ref fPK) = true)
    (aWY : PySem.W.nsIn K mainGlobals "_law_way" = some (some (.ref fWY))) (lWY : K.lookup fWY = some ⟨ocWY, odWY, .func (PySem.W.fnOf "_law_way" "_law_way" (defArgs sWay) (defBody sWay) (defScope sWay) .none kVWY dcWY pmWY anWY cdWY ctWY), slWY⟩) (cWY : PySem.W.codeIn K cdWY "_law_way" = true) (kWY : PySem.W.keepIn K (.ref fWY) = true)
    (aBD : PySem.W.nsIn K mainGlobals "_law_board" = some (some (.ref fBD))) (lBD : K.lookup fBD = some ⟨ocBD, odBD, .func (PySem.W.fnOf "_law_board" "_law_board" (defArgs sBoard) (defBody sBoard) (defScope sBoard) .none kVBD dcBD pmBD anBD cdBD ctBD), slBD⟩) (cBD : PySem.W.codeIn K cdBD "_law_board" = true) (kBD : PySem.W.keepIn K (.ref fBD) = true)
    (aLL : PySem.W.nsIn K mainGlobals "_law_lit" = some (some (.ref fLL))) (lLL : K.lookup fLL = some ⟨ocLL, odLL, .func (PySem.W.fnOf "_law_lit" "_law_lit" (defArgs sL_lit) (defBody sL_lit) (defScope sL_lit) .none kVLL dcLL pmLL anLL cdLL ctLL), slLL⟩) (cLL : PySem.W.codeIn K cdLL "_law_lit" = true) (kLL : PySem.W.keepIn K (.ref fLL) = true)
    (aLLS : PySem.W.nsIn K mainGlobals "_law_loads" = some (some (.ref fLLS))) (lLLS : K.lookup fLLS = some ⟨ocLLS, odLLS, .func (PySem.W.fnOf "_law_loads" "_law_loads" (defArgs sL_loads) (defBody sL_loads) (defScope sL_loads) .none kVLLS dcLLS pmLLS anLLS cdLLS ctLLS), slLLS⟩) (cLLS : PySem.W.codeIn K cdLLS "_law_loads" = true) (kLLS : PySem.W.keepIn K (.ref fLLS) = true)
    (aLST : PySem.W.nsIn K mainGlobals "_law_strained" = some (some (.ref fLST))) (lLST : K.lookup fLST = some ⟨ocLST, odLST, .func (PySem.W.fnOf "_law_strained" "_law_strained" (defArgs sL_strained) (defBody sL_strained) (defScope sL_strained) .none kVLST dcLST pmLST anLST cdLST ctLST), slLST⟩) (cLST : PySem.W.codeIn K cdLST "_law_strained" = true) (kLST : PySem.W.keepIn K (.ref fLST) = true)
    (aLI : PySem.W.nsIn K mainGlobals "_law_is_int" = some (some (.ref fLI))) (lLI : K.lookup fLI = some ⟨ocLI, odLI, .func (PySem.W.fnOf "_law_is_int" "_law_is_int" (defArgs sL_is_int) (defBody sL_is_int) (defScope sL_is_int) .none kVLI dcLI pmLI anLI cdLI ctLI), slLI⟩) (cLI : PySem.W.codeIn K cdLI "_law_is_int" = true) (kLI : PySem.W.keepIn K (.ref fLI) = true)
    (aOD : PySem.W.nsIn K mainGlobals "_law_odd" = some (some (.ref fOD))) (lOD : K.lookup fOD = some ⟨ocOD, odOD, .func (PySem.W.fnOf "_law_odd" "_law_odd" (defArgs sL_odd) (defBody sL_odd) (defScope sL_odd) .none kVOD dcOD pmOD anOD cdOD ctOD), slOD⟩) (cOD : PySem.W.codeIn K cdOD "_law_odd" = true) (kOD : PySem.W.keepIn K (.ref fOD) = true)
    (aBT : PySem.W.nsIn K mainGlobals "_law_bent" = some (some (.ref fBT))) (lBT : K.lookup fBT = some ⟨ocBT, odBT, .func (PySem.W.fnOf "_law_bent" "_law_bent" (defArgs sL_bent) (defBody sL_bent) (defScope sL_bent) .none kVBT dcBT pmBT anBT cdBT ctBT), slBT⟩) (cBT : PySem.W.codeIn K cdBT "_law_bent" = true) (kBT : PySem.W.keepIn K (.ref fBT) = true)
    (aN25 : PySem.W.nsIn K mainGlobals "_law_story" = some (some (.ref fN25))) (lN25 : K.lookup fN25 = some ⟨ocN25, odN25, .func (PySem.W.fnOf "_law_story" "_law_story" (defArgs sL_story) (defBody sL_story) (defScope sL_story) .none kVN25 dcN25 pmN25 anN25 cdN25 ctN25), slN25⟩) (cN25 : PySem.W.codeIn K cdN25 "_law_story" = true) (kN25 : PySem.W.keepIn K (.ref fN25) = true)
    (aN26 : PySem.W.nsIn K mainGlobals "_law_on_after" = some (some (.ref fN26))) (lN26 : K.lookup fN26 = some ⟨ocN26, odN26, .func (PySem.W.fnOf "_law_on_after" "_law_on_after" (defArgs sL_on_after) (defBody sL_on_after) (defScope sL_on_after) .none kVN26 dcN26 pmN26 anN26 cdN26 ctN26), slN26⟩) (cN26 : PySem.W.codeIn K cdN26 "_law_on_after" = true) (kN26 : PySem.W.keepIn K (.ref fN26) = true)
    (aN27 : PySem.W.nsIn K mainGlobals "_law_is_tale" = some (some (.ref fN27))) (lN27 : K.lookup fN27 = some ⟨ocN27, odN27, .func (PySem.W.fnOf "_law_is_tale" "_law_is_tale" (defArgs sL_is_tale) (defBody sL_is_tale) (defScope sL_is_tale) .none kVN27 dcN27 pmN27 anN27 cdN27 ctN27), slN27⟩) (cN27 : PySem.W.codeIn K cdN27 "_law_is_tale" = true) (kN27 : PySem.W.keepIn K (.ref fN27) = true)
    (aN28 : PySem.W.nsIn K mainGlobals "_law_tale" = some (some (.ref fN28))) (lN28 : K.lookup fN28 = some ⟨ocN28, odN28, .func (PySem.W.fnOf "_law_tale" "_law_tale" (defArgs sL_tale) (defBody sL_tale) (defScope sL_tale) .none kVN28 dcN28 pmN28 anN28 cdN28 ctN28), slN28⟩) (cN28 : PySem.W.codeIn K cdN28 "_law_tale" = true) (kN28 : PySem.W.keepIn K (.ref fN28) = true)
    (aLW : PySem.W.nsIn K mainGlobals "law" = some (some (.ref fLW))) (lLW : K.lookup fLW = some ⟨ocLW, odLW, .func (PySem.W.fnOf "law" "law" (defArgs sLaw) (defBody sLaw) (defScope sLaw) .none kVLW dcLW pmLW anLW cdLW ctLW), slLW⟩) (cLW : PySem.W.codeIn K cdLW "law" = true) (kLW : PySem.W.keepIn K (.ref fLW) = true)
    (zabs : PySem.W.nsIn K mainGlobals "abs" = some none)
    (zall : PySem.W.nsIn K mainGlobals "all" = some none)
    (zbool : PySem.W.nsIn K mainGlobals "bool" = some none)
    (zenumerate : PySem.W.nsIn K mainGlobals "enumerate" = some none)
    (zint : PySem.W.nsIn K mainGlobals "int" = some none)
    (zisinstance : PySem.W.nsIn K mainGlobals "isinstance" = some none)
    (zlen : PySem.W.nsIn K mainGlobals "len" = some none)
    (zlist : PySem.W.nsIn K mainGlobals "list" = some none)
    (zmax : PySem.W.nsIn K mainGlobals "max" = some none)
    (zmin : PySem.W.nsIn K mainGlobals "min" = some none)
    (zrange : PySem.W.nsIn K mainGlobals "range" = some none)
    (zrepr : PySem.W.nsIn K mainGlobals "repr" = some none)
    (zset : PySem.W.nsIn K mainGlobals "set" = some none)
    (zsorted : PySem.W.nsIn K mainGlobals "sorted" = some none)
    (zsum : PySem.W.nsIn K mainGlobals "sum" = some none)
    (ztuple : PySem.W.nsIn K mainGlobals "tuple" = some none)
    (zzip : PySem.W.nsIn K mainGlobals "zip" = some none)
    (zsys : K.lookup sysModules = none)
    : ∃ fd : FuncData, K.lookup sysModules = none ∧ Fun K "law" "law" sLaw fa fd ∧ (∀ (s : Shared) (u : Value), BindsTo s fd ⟨[u], []⟩ [("_law_script", u)]) ∧ ∀ base : Heap, K.In base → base.Ns mainGlobals mg → BodyS l.prog w K mg base 7 ["_law_script", "_law_deck_here", "_law_turn", "_law_board_here", "_law_story_here", "_law_tale_here", "_law_at", "_law_values", "_law_thing", "_law_shown", "_law_due", "_law_row", "_law_k"] sLaw fa := by
  have e := hfa.symm.trans (PySem.W.mg_of X G aLW)
  cases e
  have mabs := PySem.W.mg_none_of X G zabs
  have mall := PySem.W.mg_none_of X G zall
  have mbool := PySem.W.mg_none_of X G zbool
  have menumerate := PySem.W.mg_none_of X G zenumerate
  have mint := PySem.W.mg_none_of X G zint
  have misinstance := PySem.W.mg_none_of X G zisinstance
  have mlen := PySem.W.mg_none_of X G zlen
  have mlist := PySem.W.mg_none_of X G zlist
  have mmax := PySem.W.mg_none_of X G zmax
  have mmin := PySem.W.mg_none_of X G zmin
  have mrange := PySem.W.mg_none_of X G zrange
  have mrepr := PySem.W.mg_none_of X G zrepr
  have mset := PySem.W.mg_none_of X G zset
  have msorted := PySem.W.mg_none_of X G zsorted
  have msum := PySem.W.mg_none_of X G zsum
  have mtuple := PySem.W.mg_none_of X G ztuple
  have mzip := PySem.W.mg_none_of X G zzip
  have FII := fun_mk (st := s_is_integer) lII cII kII
  have bII := FII.binds (ps := ["value", "least", "most"]) fun _ _ _ _ _ _ us hl => match us, hl with | [_, _, _], _ => rfl
  have mII := PySem.W.mg_of X G aII
  have FIR := fun_mk (st := s_is_row) lIR cIR kIR
  have bIR := FIR.binds (ps := ["value", "least", "most"]) fun _ _ _ _ _ _ us hl => match us, hl with | [_, _, _], _ => rfl
  have mIR := PySem.W.mg_of X G aIR
  have FAU := fun_mk (st := s_are_unlike) lAU cAU kAU
  have bAU := FAU.binds (ps := ["value", "count"]) fun _ _ _ _ _ _ us hl => match us, hl with | [_, _], _ => rfl
  have mAU := PySem.W.mg_of X G aAU
  have FLT := fun_mk (st := s_lit) lLT cLT kLT
  have bLT := FLT.binds (ps := ["board", "on", "blown"]) fun _ _ _ _ _ _ us hl => match us, hl with | [_, _, _], _ => rfl
  have mLT := PySem.W.mg_of X G aLT
  have FDE := fun_mk (st := s__dead) lDE cDE kDE
  have bDE := FDE.binds (ps := ["board", "blown"]) fun _ _ _ _ _ _ us hl => match us, hl with | [_, _], _ => rfl
  have mDE := PySem.W.mg_of X G aDE
  have FLS := fun_mk (st := s_loads) lLS cLS kLS
  have bLS := FLS.binds (ps := ["board", "on", "blown"]) fun _ _ _ _ _ _ us hl => match us, hl with | [_, _, _], _ => rfl
  have mLS := PySem.W.mg_of X G aLS
  have FOW := fun_mk (st := s_own_draws) lOW cOW kOW
  have bOW := FOW.binds (ps := ["board", "on"]) fun _ _ _ _ _ _ us hl => match us, hl with | [_, _], _ => rfl
  have mOW := PySem.W.mg_of X G aOW
  have FST := fun_mk (st := s_strained) lST cST kST
  have bST := FST.binds (ps := ["board", "on", "blown"]) fun _ _ _ _ _ _ us hl => match us, hl with | [_, _, _], _ => rfl
  have mST := PySem.W.mg_of X G aST
  have FAR := fun_mk (st := s_at_rest) lAR cAR kAR
  have bAR := FAR.binds (ps := ["board", "on", "blown"]) fun _ _ _ _ _ _ us hl => match us, hl with | [_, _, _], _ => rfl
  have mAR := PySem.W.mg_of X G aAR
  have FN9 := fun_mk (st := s_can_follow) lN9 cN9 kN9
  have bN9 := FN9.binds (ps := ["board", "on", "blown", "row"]) fun _ _ _ _ _ _ us hl => match us, hl with | [_, _, _, _], _ => rfl
  have mN9 := PySem.W.mg_of X G aN9
  have FN10 := fun_mk (st := s_is_pause) lN10 cN10 kN10
  have bN10 := FN10.binds (ps := ["deed"]) fun _ _ _ _ _ _ us hl => match us, hl with | [_], _ => rfl
  have mN10 := PySem.W.mg_of X G aN10
  have FN11 := fun_mk (st := s_on_after) lN11 cN11 kN11
  have bN11 := FN11.binds (ps := ["board", "story"]) fun _ _ _ _ _ _ us hl => match us, hl with | [_, _], _ => rfl
  have mN11 := PySem.W.mg_of X G aN11
  have FN12 := fun_mk (st := s_on_at_moments) lN12 cN12 kN12
  have bN12 := FN12.binds (ps := ["board", "story"]) fun _ _ _ _ _ _ us hl => match us, hl with | [_, _], _ => rfl
  have mN12 := PySem.W.mg_of X G aN12
  have FN13 := fun_mk (st := s_is_tale) lN13 cN13 kN13
  have bN13 := FN13.binds (ps := ["board", "story", "value"]) fun _ _ _ _ _ _ us hl => match us, hl with | [_, _, _], _ => rfl
  have mN13 := PySem.W.mg_of X G aN13
  have FDK := fun_mk (st := sDeck) lDK cDK kDK
  have bDK := FDK.binds (ps := ["_law_script"]) fun _ _ _ _ _ _ us hl => match us, hl with | [_], _ => rfl
  have mDK := PySem.W.mg_of X G aDK
  have FDR := fun_mk (st := sDraw) lDR cDR kDR
  have bDR := FDR.binds (ps := ["_law_deck_here", "_law_bound"]) fun _ _ _ _ _ _ us hl => match us, hl with | [_, _], _ => rfl
  have mDR := PySem.W.mg_of X G aDR
  have FPK := fun_mk (st := sPick) lPK cPK kPK
  have bPK := FPK.binds (ps := ["_law_deck_here", "_law_items"]) fun _ _ _ _ _ _ us hl => match us, hl with | [_, _], _ => rfl
  have mPK := PySem.W.mg_of X G aPK
  have FWY := fun_mk (st := sWay) lWY cWY kWY
  have bWY := FWY.binds (ps := ["_law_fuses", "_law_fuse"]) fun _ _ _ _ _ _ us hl => match us, hl with | [_, _], _ => rfl
  have mWY := PySem.W.mg_of X G aWY
  have FBD := fun_mk (st := sBoard) lBD cBD kBD
  have bBD := FBD.binds (ps := ["_law_deck_here", "_law_fuses", "_law_lamps"]) fun _ _ _ _ _ _ us hl => match us, hl with | [_, _, _], _ => rfl
  have mBD := PySem.W.mg_of X G aBD
  have FLL := fun_mk (st := sL_lit) lLL cLL kLL
  have bLL := FLL.binds (ps := ["_law_board_here", "_law_on", "_law_blown"]) fun _ _ _ _ _ _ us hl => match us, hl with | [_, _, _], _ => rfl
  have mLL := PySem.W.mg_of X G aLL
  have FLLS := fun_mk (st := sL_loads) lLLS cLLS kLLS
  have bLLS := FLLS.binds (ps := ["_law_board_here", "_law_on", "_law_blown"]) fun _ _ _ _ _ _ us hl => match us, hl with | [_, _, _], _ => rfl
  have mLLS := PySem.W.mg_of X G aLLS
  have FLST := fun_mk (st := sL_strained) lLST cLST kLST
  have bLST := FLST.binds (ps := ["_law_board_here", "_law_on", "_law_blown"]) fun _ _ _ _ _ _ us hl => match us, hl with | [_, _, _], _ => rfl
  have mLST := PySem.W.mg_of X G aLST
  have FLI := fun_mk (st := sL_is_int) lLI cLI kLI
  have bLI := FLI.binds (ps := ["_law_thing", "_law_least", "_law_most"]) fun _ _ _ _ _ _ us hl => match us, hl with | [_, _, _], _ => rfl
  have mLI := PySem.W.mg_of X G aLI
  have FOD := fun_mk (st := sL_odd) lOD cOD kOD
  have bOD := FOD.binds (ps := ["_law_deck_here"]) fun _ _ _ _ _ _ us hl => match us, hl with | [_], _ => rfl
  have mOD := PySem.W.mg_of X G aOD
  have FBT := fun_mk (st := sL_bent) lBT cBT kBT
  have bBT := FBT.binds (ps := ["_law_deck_here", "_law_thing", "_law_deep"]) fun _ _ _ _ _ _ us hl => match us, hl with | [_, _, _], _ => rfl
  have mBT := PySem.W.mg_of X G aBT
  have FN25 := fun_mk (st := sL_story) lN25 cN25 kN25
  have bN25 := FN25.binds (ps := ["_law_deck_here", "_law_board_here", "_law_most"]) fun _ _ _ _ _ _ us hl => match us, hl with | [_, _, _], _ => rfl
  have mN25 := PySem.W.mg_of X G aN25
  have FN26 := fun_mk (st := sL_on_after) lN26 cN26 kN26
  have bN26 := FN26.binds (ps := ["_law_story_here"]) fun _ _ _ _ _ _ us hl => match us, hl with | [_], _ => rfl
  have mN26 := PySem.W.mg_of X G aN26
  have FN27 := fun_mk (st := sL_is_tale) lN27 cN27 kN27
  have bN27 := FN27.binds (ps := ["_law_board_here", "_law_story_here", "_law_thing"]) fun _ _ _ _ _ _ us hl => match us, hl with | [_, _, _], _ => rfl
  have mN27 := PySem.W.mg_of X G aN27
  have FN28 := fun_mk (st := sL_tale) lN28 cN28 kN28
  have bN28 := FN28.binds (ps := ["_law_deck_here", "_law_board_here", "_law_story_here"]) fun _ _ _ _ _ _ us hl => match us, hl with | [_, _, _], _ => rfl
  have mN28 := PySem.W.mg_of X G aN28
  have FLW := fun_mk (st := sLaw) lLW cLW kLW
  refine ⟨_, zsys, FLW, fun s v => .of_eq rfl, fun base _ _ => ?_⟩
  have GII : FnOk l.prog w K mg base CX0 1 fII _ ["value", "least", "most"] (SpD K preInt) := ok_isInt FII misinstance mint mbool
  have cII : Cal l.prog w K mg base 1 "is_integer" ["value", "least", "most"] (SpD K preInt) := ⟨_, _, GII, bII, mII, kII⟩
  have c_is_integer : Cal l.prog w K mg base 1 "is_integer" ["value", "least", "most"] (SpD K (preT (encC eD (encC eI (encC eI encN))) eB (fun t => f_is_integer t.1 t.2.1 t.2.2.1))) := cII.imp fun F => imp_D F cv_is_integer
  have GIR : FnOk l.prog w K mg base CX0 1 fIR _ ["value", "least", "most"] (SpD K preRow) := ok_isRow FIR misinstance mtuple mlen
  have cIR : Cal l.prog w K mg base 1 "is_row" ["value", "least", "most"] (SpD K preRow) := ⟨_, _, GIR, bIR, mIR, kIR⟩
  have c_is_row : Cal l.prog w K mg base 1 "is_row" ["value", "least", "most"] (SpD K (preT (encC eD (encC eI (encC eI encN))) eB (fun t => f_is_row t.1 t.2.1 t.2.2.1))) := cIR.imp fun F => imp_D F cv_is_row
  have GAU : FnOk l.prog w K mg base CX0 2 fAU _ ["value", "count"] (SpD K preUnl) := ok_unlike FAU (cII.mono (by decide)) (cIR.mono (by decide)) mall mlen mset
  have cAU : Cal l.prog w K mg base 2 "are_unlike" ["value", "count"] (SpD K preUnl) := ⟨_, _, GAU, bAU, mAU, kAU⟩
  have c_are_unlike : Cal l.prog w K mg base 2 "are_unlike" ["value", "count"] (SpD K (preT (encC eD (encC eI encN)) eB (fun t => f_are_unlike t.1 t.2.1))) := cAU.imp fun F => imp_D F cv_are_unlike
  have GDE : FnOk l.prog w K mg base CX0 1 fDE _ ["board", "blown"] (SpD K preDead) := ok_dead FDE menumerate
  have cDE : Cal l.prog w K mg base 1 "_dead" ["board", "blown"] (SpD K preDead) := ⟨_, _, GDE, bDE, mDE, kDE⟩
  have GLT : FnOk l.prog w K mg base CX0 2 fLT _ ["board", "on", "blown"] (SpD K preLit) := ok_lit FLT (cDE.mono (by decide)) mtuple
  have cLT : Cal l.prog w K mg base 2 "lit" ["board", "on", "blown"] (SpD K preLit) := ⟨_, _, GLT, bLT, mLT, kLT⟩
  have c_lit : Cal l.prog w K mg base 2 "lit" ["board", "on", "blown"] (SpD K (preT (encC eBd (encC (eT eI) (encC (eT eI) encN))) (eT eI) (fun t => f_lit t.1 t.2.1 t.2.2.1))) := cLT.imp fun F => imp_D F cv_lit
  have GOW : FnOk l.prog w K mg base CX0 1 fOW _ ["board", "on"] (SpO K preOwn) := ok_own_draws FOW mlen
  have cOW : Cal l.prog w K mg base 1 "own_draws" ["board", "on"] (SpO K preOwn) := ⟨_, _, GOW, bOW, mOW, kOW⟩
  have c_own_draws : Cal l.prog w K mg base 1 "own_draws" ["board", "on"] (SpO K (preO (encC eBd (encC (eT eI) encN)) eI (fun t => f_own_draws t.1 t.2.1))) := cOW.imp fun F => imp_O F cv_own_draws
  have GLS : FnOk l.prog w K mg base CX0 3 fLS _ ["board", "on", "blown"] (SpD K preLoads) := ok_loads FLS (cLT.mono (by decide)) (cOW.mono (by decide)) mlen mrange mtuple
  have cLS : Cal l.prog w K mg base 3 "loads" ["board", "on", "blown"] (SpD K preLoads) := ⟨_, _, GLS, bLS, mLS, kLS⟩
  have c_loads : Cal l.prog w K mg base 3 "loads" ["board", "on", "blown"] (SpD K (preT (encC eBd (encC (eT eI) (encC (eT eI) encN))) (eT eI) (fun t => f_loads t.1 t.2.1 t.2.2.1))) := cLS.imp fun F => imp_D F cv_loads
  have GST : FnOk l.prog w K mg base CX0 4 fST _ ["board", "on", "blown"] (SpD K preStr) := ok_strained FST (cLS.mono (by decide)) menumerate mtuple
  have cST : Cal l.prog w K mg base 4 "strained" ["board", "on", "blown"] (SpD K preStr) := ⟨_, _, GST, bST, mST, kST⟩
  have c_strained : Cal l.prog w K mg base 4 "strained" ["board", "on", "blown"] (SpD K (preT (encC eBd (encC (eT eI) (encC (eT eI) encN))) (eT eI) (fun t => f_strained t.1 t.2.1 t.2.2.1))) := cST.imp fun F => imp_D F cv_strained
  have GAR : FnOk l.prog w K mg base CX0 5 fAR _ ["board", "on", "blown"] (SpD K preRest) := ok_rest FAR (cST.mono (by decide))
  have cAR : Cal l.prog w K mg base 5 "at_rest" ["board", "on", "blown"] (SpD K preRest) := ⟨_, _, GAR, bAR, mAR, kAR⟩
  have c_at_rest : Cal l.prog w K mg base 5 "at_rest" ["board", "on", "blown"] (SpD K (preT (encC eBd (encC (eT eI) (encC (eT eI) encN))) eB (fun t => f_at_rest t.1 t.2.1 t.2.2.1))) := cAR.imp fun F => imp_D F cv_at_rest
  have c_can_follow : Cal l.prog w K mg base 5 "can_follow" ["board", "on", "blown", "row"] (SpD K (preT (encC eBd (encC (eT eI) (encC (eT eI) (encC (eT eI) encN)))) eB (fun t => f_can_follow t.1 t.2.1 t.2.2.1 t.2.2.2.1))) := ⟨_, _, ok_can_follow FN9 (c_strained.mono (by decide)) mall menumerate , bN9, mN9, kN9⟩
  have c_is_pause : Cal l.prog w K mg base 1 "is_pause" ["deed"] (SpD K (preT (encC eD encN) eB (fun t => f_is_pause t.1))) := ⟨_, _, ok_is_pause FN10   , bN10, mN10, kN10⟩
  have c_on_after : Cal l.prog w K mg base 2 "on_after" ["board", "story"] (SpD K (preT (encC eBd (encC (eT eD) encN)) (eT eI) (fun t => f_on_after t.1 t.2.1))) := ⟨_, _, ok_on_after FN11 (c_is_pause.mono (by decide)) menumerate mlen mtuple , bN11, mN11, kN11⟩
  have c_on_at_moments : Cal l.prog w K mg base 3 "on_at_moments" ["board", "story"] (SpD K (preT (encC eBd (encC (eT eD) encN)) (eL (eT eI)) (fun t => f_on_at_moments t.1 t.2.1))) := ⟨_, _, ok_on_at_moments FN12 (c_on_after.mono (by decide)) mlen mrange , bN12, mN12, kN12⟩
  have c_is_tale : Cal l.prog w K mg base 6 "is_tale" ["board", "story", "value"] (SpD K (preT (encC eBd (encC (eT eD) (encC eD encN))) eB (fun t => f_is_tale t.1 t.2.1 t.2.2.1))) := ⟨_, _, ok_is_tale FN13 (c_is_row.mono (by decide)) (c_on_at_moments.mono (by decide)) (c_is_pause.mono (by decide)) (c_are_unlike.mono (by decide)) (c_can_follow.mono (by decide)) (c_at_rest.mono (by decide)) mlen mzip , bN13, mN13, kN13⟩
  have GDK : FnOk l.prog w K mg base CX0 1 fDK _ ["_law_script"] (spDeck K) := ok_deck FDK mabs mlen
  have cDK : Cal l.prog w K mg base 1 "_law_deck" ["_law_script"] (spDeck K) := ⟨_, _, GDK, bDK, mDK, kDK⟩
  have GDR : FnOk l.prog w K mg base CX0 1 fDR _ ["_law_deck_here", "_law_bound"] (spDraw) := ok_draw FDR mint mlen
  have cDR : Cal l.prog w K mg base 1 "_law_draw" ["_law_deck_here", "_law_bound"] (SpZ K preDraw) := ⟨_, _, drawZ GDR, bDR, mDR, kDR⟩
  have c_draw_L : Cal l.prog w K mg base 1 "_law_draw" ["_law_deck_here", "_law_bound"] (SpZ K (preT (encC eI encN) eI (fun t => f_draw_L t.1))) := cDR.imp fun F => imp_Z F cv_draw_L
  have GPK : FnOk l.prog w K mg base CX0 2 fPK _ ["_law_deck_here", "_law_items"] (spPick K) := ok_pick FPK (GDR.mono (by decide)) bDR mDR kDR mlen
  have cPK : Cal l.prog w K mg base 2 "_law_pick" ["_law_deck_here", "_law_items"] (SpZ K prePick) := ⟨_, _, pickZ GPK, bPK, mPK, kPK⟩
  have c_pick_L := cPK
  have GWY : FnOk l.prog w K mg base CX0 1 fWY _ ["_law_fuses", "_law_fuse"] (spWay K) := ok_way FWY mrange mlen
  have cWY : Cal l.prog w K mg base 1 "_law_way" ["_law_fuses", "_law_fuse"] (SpO K preWay) := ⟨_, _, wayO GWY, bWY, mWY, kWY⟩
  have c_way_L : Cal l.prog w K mg base 1 "_law_way" ["_law_fuses", "_law_fuse"] (SpO K (preO (encC (eT (eP eI eI)) (encC eI encN)) eI (fun t => f_way_L t.1 t.2.1))) := cWY.imp fun F => imp_O F cv_way_L
  have GBD : FnOk l.prog w K mg base CX0 3 fBD _ ["_law_deck_here", "_law_fuses", "_law_lamps"] (spBoard K) := ok_board FBD (GDR.mono (by decide)) bDR mDR kDR (GPK.mono (by decide)) bPK mPK kPK (GWY.mono (by decide)) bWY mWY kWY mrange mlen msum mint mmax mmin mtuple
  have cBD : Cal l.prog w K mg base 3 "_law_board" ["_law_deck_here", "_law_fuses", "_law_lamps"] (SpZ K preBoard) := ⟨_, _, boardZ GBD, bBD, mBD, kBD⟩
  have c_board_L : Cal l.prog w K mg base 3 "_law_board" ["_law_deck_here", "_law_fuses", "_law_lamps"] (SpZ K (preT (encC eI (encC eI encN)) eBd (fun t => f_board_L t.1 t.2.1))) := cBD.imp fun F => imp_Z F cv_board_L
  have GLL : FnOk l.prog w K mg base CX0 2 fLL _ ["_law_board_here", "_law_on", "_law_blown"] (SpD K preLLit) := ok_llit FLL (cWY.mono (by decide)) mtuple
  have cLL : Cal l.prog w K mg base 2 "_law_lit" ["_law_board_here", "_law_on", "_law_blown"] (SpD K preLLit) := ⟨_, _, GLL, bLL, mLL, kLL⟩
  have c_lit_L : Cal l.prog w K mg base 2 "_law_lit" ["_law_board_here", "_law_on", "_law_blown"] (SpD K (preT (encC eBd (encC (eT eI) (encC (eT eI) encN))) (eT eI) (fun t => f_lit_L t.1 t.2.1 t.2.2.1))) := cLL.imp fun F => imp_D F cv_lit_L
  have GLLS : FnOk l.prog w K mg base CX0 3 fLLS _ ["_law_board_here", "_law_on", "_law_blown"] (SpO K preLLoads) := ok_lloads FLLS (cWY.mono (by decide)) (cLL.mono (by decide)) mlen
  have cLLS : Cal l.prog w K mg base 3 "_law_loads" ["_law_board_here", "_law_on", "_law_blown"] (SpD K fun ds R => preLLoads ds fun es => R (.list es)) := ⟨_, _, FnOk.told GLLS, bLLS, mLLS, kLLS⟩
  have c_loads_L : Cal l.prog w K mg base 3 "_law_loads" ["_law_board_here", "_law_on", "_law_blown"] (SpD K (preT (encC eBd (encC (eT eI) (encC (eT eI) encN))) (eL eI) (fun t => f_loads_L t.1 t.2.1 t.2.2.1))) := cLLS.imp fun F => imp_D F cv_loads_L
  have GLST : FnOk l.prog w K mg base CX0 4 fLST _ ["_law_board_here", "_law_on", "_law_blown"] (SpO K preLStr) := ok_lstr FLST (cLLS.mono (by decide)) mlen mrange
  have cLST : Cal l.prog w K mg base 4 "_law_strained" ["_law_board_here", "_law_on", "_law_blown"] (SpD K fun ds R => preLStr ds fun es => R (.list es)) := ⟨_, _, FnOk.told GLST, bLST, mLST, kLST⟩
  have c_strained_L : Cal l.prog w K mg base 4 "_law_strained" ["_law_board_here", "_law_on", "_law_blown"] (SpD K (preT (encC eBd (encC (eT eI) (encC (eT eI) encN))) (eL eI) (fun t => f_strained_L t.1 t.2.1 t.2.2.1))) := cLST.imp fun F => imp_D F cv_strained_L
  have GLI : FnOk l.prog w K mg base CX0 1 fLI _ ["_law_thing", "_law_least", "_law_most"] (SpD K preInt) := ok_lInt FLI misinstance mint mbool
  have cLI : Cal l.prog w K mg base 1 "_law_is_int" ["_law_thing", "_law_least", "_law_most"] (SpD K preInt) := ⟨_, _, GLI, bLI, mLI, kLI⟩
  have c_is_int_L : Cal l.prog w K mg base 1 "_law_is_int" ["_law_thing", "_law_least", "_law_most"] (SpD K (preT (encC eD (encC eI (encC eI encN))) eB (fun t => f_is_int_L t.1 t.2.1 t.2.2.1))) := cLI.imp fun F => imp_D F cv_is_int_L
  have GOD : FnOk l.prog w K mg base CX0 3 fOD _ ["_law_deck_here"] (SpZ K preOdd) := ok_odd FOD (cPK.mono (by decide))
  have cOD : Cal l.prog w K mg base 3 "_law_odd" ["_law_deck_here"] (SpZ K preOdd) := ⟨_, _, GOD, bOD, mOD, kOD⟩
  have c_odd_L : Cal l.prog w K mg base 3 "_law_odd" ["_law_deck_here"] (SpZ K (preT encN eD (fun t => f_odd_L ))) := cOD.imp fun F => imp_Z F cv_odd_L
  have cBT0 : Cal l.prog w K mg base 3 "_law_bent" ["_law_deck_here", "_law_thing", "_law_deep"] (SpZ K (preBent 0)) := ⟨_, _, ok_bent0, bBT, mBT, kBT⟩
  have GBT1 : FnOk l.prog w K mg base CX0 4 fBT _ ["_law_deck_here", "_law_thing", "_law_deep"] (SpZ K (preBent 1)) := ok_bent FBT cBT0 (cOD.mono (by decide)) (cPK.mono (by decide)) (cDR.mono (by decide)) misinstance mtuple mlen mlist
  have cBT1 : Cal l.prog w K mg base 4 "_law_bent" ["_law_deck_here", "_law_thing", "_law_deep"] (SpZ K (preBent 1)) := ⟨_, _, GBT1, bBT, mBT, kBT⟩
  have GBT2 : FnOk l.prog w K mg base CX0 5 fBT _ ["_law_deck_here", "_law_thing", "_law_deep"] (SpZ K (preBent 2)) := ok_bent FBT cBT1 (cOD.mono (by decide)) (cPK.mono (by decide)) (cDR.mono (by decide)) misinstance mtuple mlen mlist
  have cBT2 : Cal l.prog w K mg base 5 "_law_bent" ["_law_deck_here", "_law_thing", "_law_deep"] (SpZ K (preBent 2)) := ⟨_, _, GBT2, bBT, mBT, kBT⟩
  have GBT3 : FnOk l.prog w K mg base CX0 6 fBT _ ["_law_deck_here", "_law_thing", "_law_deep"] (SpZ K (preBent 3)) := ok_bent FBT cBT2 (cOD.mono (by decide)) (cPK.mono (by decide)) (cDR.mono (by decide)) misinstance mtuple mlen mlist
  have cBT3 : Cal l.prog w K mg base 6 "_law_bent" ["_law_deck_here", "_law_thing", "_law_deep"] (SpZ K (preBent 3)) := ⟨_, _, GBT3, bBT, mBT, kBT⟩
  have GBT4 : FnOk l.prog w K mg base CX0 7 fBT _ ["_law_deck_here", "_law_thing", "_law_deep"] (SpZ K (preBent 4)) := ok_bent FBT cBT3 (cOD.mono (by decide)) (cPK.mono (by decide)) (cDR.mono (by decide)) misinstance mtuple mlen mlist
  have cBT : Cal l.prog w K mg base 7 "_law_bent" ["_law_deck_here", "_law_thing", "_law_deep"] (SpZ K (preBent 4)) := ⟨_, _, GBT4, bBT, mBT, kBT⟩
  have c_bent_L : Cal l.prog w K mg base 7 "_law_bent" ["_law_deck_here", "_law_thing", "_law_deep"] (SpZ K (preT (encC eD (encC eI encN)) eD (fun t => f_bent_L t.1 t.2.1))) := cBT.imp fun F => imp_Z F cv_bent_L
  have c_story_L : Cal l.prog w K mg base 2 "_law_story" ["_law_deck_here", "_law_board_here", "_law_most"] (SpZ K (preT (encC eBd (encC eI encN)) (eT eD) (fun t => f_story_L t.1 t.2.1))) := ⟨_, _, ok_story_L FN25 (c_draw_L.mono (by decide)) mlen mrange mtuple , bN25, mN25, kN25⟩
  have c_on_after_L : Cal l.prog w K mg base 1 "_law_on_after" ["_law_story_here"] (SpD K (preT (encC (eT eD) encN) (eT eI) (fun t => f_on_after_L t.1))) := ⟨_, _, ok_on_after_L FN26  msorted mtuple , bN26, mN26, kN26⟩
  have c_is_tale_L : Cal l.prog w K mg base 5 "_law_is_tale" ["_law_board_here", "_law_story_here", "_law_thing"] (SpD K (preT (encC eBd (encC (eT eD) (encC eD encN))) eB (fun t => f_is_tale_L t.1 t.2.1 t.2.2.1))) := ⟨_, _, ok_is_tale_L FN27 (c_on_after_L.mono (by decide)) (c_strained_L.mono (by decide)) (c_is_int_L.mono (by decide)) misinstance mlen mrange mtuple , bN27, mN27, kN27⟩
  have c_tale_L : Cal l.prog w K mg base 5 "_law_tale" ["_law_deck_here", "_law_board_here", "_law_story_here"] (SpZ K (preT (encC eBd (encC (eT eD) encN)) (eT (eT eI)) (fun t => f_tale_L t.1 t.2.1))) := ⟨_, _, ok_tale_L FN28 (c_on_after_L.mono (by decide)) (c_draw_L.mono (by decide)) (c_strained_L.mono (by decide)) (c_pick_L.mono (by decide)) mlen mrange mtuple , bN28, mN28, kN28⟩
  exact ok_law law_true (cDK.mono (by decide)) (c_board_L.mono (by decide)) (c_story_L.mono (by decide)) (c_pick_L.mono (by decide)) (c_tale_L.mono (by decide)) (c_draw_L.mono (by decide)) (c_odd_L.mono (by decide)) (c_bent_L.mono (by decide)) (c_is_tale_L.mono (by decide)) (c_is_tale.mono (by decide)) mlen mlist mrange mrepr mtuple 
end FF
open PySem PySem.W PyProof.Rows
set_option maxRecDepth 100000 in
set_option maxHeartbeats 0 in
theorem PySem.Challenge.cw_firstfuse_k19_what_is_a_tale_holds : PySem.Challenge.rw_firstfuse_k19_what_is_a_tale.Holds := by
  w_on; o_law; k_head; (case hw => w_witness2)
  k_fill
  refine FF.walkS (l := PySem.Challenge.rw_firstfuse_k19_what_is_a_tale) (k := 7) (N := ["_law_script", "_law_deck_here", "_law_turn", "_law_board_here", "_law_story_here", "_law_tale_here", "_law_at", "_law_values", "_law_thing", "_law_shown", "_law_due", "_law_row", "_law_k"]) (x := "_law_script") (st := FF.sLaw) rfl rfl ⟨rfl, by decide, by decide⟩ FF.sc_law rfl (fun w h Y => PySem.W.kIn_of Y) ?F
  case F =>
    intro w mg fa h KX G hmg
    refine' FF.all_mk KX G hmg ?aII ?lII ?cII ?kII ?aIR ?lIR ?cIR ?kIR ?aAU ?lAU ?cAU ?kAU ?aLT ?lLT ?cLT ?kLT ?aDE ?lDE ?cDE ?kDE ?aLS ?lLS ?cLS ?kLS ?aOW ?lOW ?cOW ?kOW ?aST ?lST ?cST ?kST ?aAR ?lAR ?cAR ?kAR ?aN9 ?lN9 ?cN9 ?kN9 ?aN10 ?lN10 ?cN10 ?kN10 ?aN11 ?lN11 ?cN11 ?kN11 ?aN12 ?lN12 ?cN12 ?kN12 ?aN13 ?lN13 ?cN13 ?kN13 ?aDK ?lDK ?cDK ?kDK ?aDR ?lDR ?cDR ?kDR ?aPK ?lPK ?cPK ?kPK ?aWY ?lWY ?cWY ?kWY ?aBD ?lBD ?cBD ?kBD ?aLL ?lLL ?cLL ?kLL ?aLLS ?lLLS ?cLLS ?kLLS ?aLST ?lLST ?cLST ?kLST ?aLI ?lLI ?cLI ?kLI ?aOD ?lOD ?cOD ?kOD ?aBT ?lBT ?cBT ?kBT ?aN25 ?lN25 ?cN25 ?kN25 ?aN26 ?lN26 ?cN26 ?kN26 ?aN27 ?lN27 ?cN27 ?kN27 ?aN28 ?lN28 ?cN28 ?kN28 ?aLW ?lLW ?cLW ?kLW ?zabs ?zall ?zbool ?zenumerate ?zint ?zisinstance ?zlen ?zlist ?zmax ?zmin ?zrange ?zrepr ?zset ?zsorted ?zsum ?ztuple ?zzip ?zsys
    (case aII => k_is)
    (case lII => k_is)
    (case cII => k_is)
    (case kII => k_is)
    (case aIR => k_is)
    (case lIR => k_is)
    (case cIR => k_is)
    (case kIR => k_is)
    (case aAU => k_is)
    (case lAU => k_is)
    (case cAU => k_is)
    (case kAU => k_is)
    (case aLT => k_is)
    (case lLT => k_is)
    (case cLT => k_is)
    (case kLT => k_is)
    (case aDE => k_is)
    (case lDE => k_is)
    (case cDE => k_is)
    (case kDE => k_is)
    (case aLS => k_is)
    (case lLS => k_is)
    (case cLS => k_is)
    (case kLS => k_is)
    (case aOW => k_is)
    (case lOW => k_is)
    (case cOW => k_is)
    (case kOW => k_is)
    (case aST => k_is)
    (case lST => k_is)
    (case cST => k_is)
    (case kST => k_is)
    (case aAR => k_is)
    (case lAR => k_is)
    (case cAR => k_is)
    (case kAR => k_is)
    (case aN9 => k_is)
    (case lN9 => k_is)
    (case cN9 => k_is)
    (case kN9 => k_is)
    (case aN10 => k_is)
    (case lN10 => k_is)
    (case cN10 => k_is)
    (case kN10 => k_is)
    (case aN11 => k_is)
    (case lN11 => k_is)
    (case cN11 => k_is)
    (case kN11 => k_is)
    (case aN12 => k_is)
    (case lN12 => k_is)
    (case cN12 => k_is)
    (case kN12 => k_is)
    (case aN13 => k_is)
    (case lN13 => k_is)
    (case cN13 => k_is)
    (case kN13 => k_is)
    (case aDK => k_is)
    (case lDK => k_is)
    (case cDK => k_is)
    (case kDK => k_is)
    (case aDR => k_is)
    (case lDR => k_is)
    (case cDR => k_is)
    (case kDR => k_is)
    (case aPK => k_is)
    (case lPK => k_is)
    (case cPK => k_is)
    (case kPK => k_is)
    (case aWY => k_is)
    (case lWY => k_is)
    (case cWY => k_is)
    (case kWY => k_is)
    (case aBD => k_is)
    (case lBD => k_is)
    (case cBD => k_is)
    (case kBD => k_is)
    (case aLL => k_is)
    (case lLL => k_is)
    (case cLL => k_is)
    (case kLL => k_is)
    (case aLLS => k_is)
    (case lLLS => k_is)
    (case cLLS => k_is)
    (case kLLS => k_is)
    (case aLST => k_is)
    (case lLST => k_is)
    (case cLST => k_is)
    (case kLST => k_is)
    (case aLI => k_is)
    (case lLI => k_is)
    (case cLI => k_is)
    (case kLI => k_is)
    (case aOD => k_is)
    (case lOD => k_is)
    (case cOD => k_is)
    (case kOD => k_is)
    (case aBT => k_is)
    (case lBT => k_is)
    (case cBT => k_is)
    (case kBT => k_is)
    (case aN25 => k_is)
    (case lN25 => k_is)
    (case cN25 => k_is)
    (case kN25 => k_is)
    (case aN26 => k_is)
    (case lN26 => k_is)
    (case cN26 => k_is)
    (case kN26 => k_is)
    (case aN27 => k_is)
    (case lN27 => k_is)
    (case cN27 => k_is)
    (case kN27 => k_is)
    (case aN28 => k_is)
    (case lN28 => k_is)
    (case cN28 => k_is)
    (case kN28 => k_is)
    (case aLW => k_is)
    (case lLW => k_is)
    (case cLW => k_is)
    (case kLW => k_is)
    (case zabs => k_is)
    (case zall => k_is)
    (case zbool => k_is)
    (case zenumerate => k_is)
    (case zint => k_is)
    (case zisinstance => k_is)
    (case zlen => k_is)
    (case zlist => k_is)
    (case zmax => k_is)
    (case zmin => k_is)
    (case zrange => k_is)
    (case zrepr => k_is)
    (case zset => k_is)
    (case zsorted => k_is)
    (case zsum => k_is)
    (case ztuple => k_is)
    (case zzip => k_is)
    (case zsys => rfl)
