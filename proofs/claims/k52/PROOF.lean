import PyProof.Rows.All
import Wide.All
import OpenK.AllK
import Wide.FinOn
import HandS.ForMost
import HandS.Evl
import PyProof.EnumMake
import PyProof.Draws
import PyProof.ReprRoads
import PyProof.TupleIter
import HandS.IsInst
import HandS.Dict
import HandS.TupAny
import HandS.TupMul
import KE.KRevSl
import HandS.Walk
import KE.KExcInit
import KE.KExcIs
import HandS.ExcValue
import HandS.ExcInit
import HandS.ExcIs
import HandS.ExcField
import KE.KExcTry
import PySem.Challenge.RW_firstfuse_k52_errors_and_bounds
set_option Elab.async false
set_option linter.all false
set_option maxRecDepth 100000
namespace FF
open PySem PySem.Spec PyProof.Rows L2
open AutoSeq1 (wpAny_loadPart')

/-! ### enumerate over a tuple -/
section
variable {P : Program} {w : World} {A : Around} {E : Value → Shared → Prop} {s : Shared}
theorem nextTupItem {j t : Addr} {i : Nat} {vs : Array Value} {x : Value} {Q : Value → Shared → Prop} (hj : s.heap.IsTupleIter j t i) (ht : s.heap.IsTuple t vs) (hx : vs[i]? = some x)
    (k : ∀ h', h'.IsTupleIter j t (i + 1) → Heap.SameBut j s.heap h' → Q x { s with heap := h' }) : wpAny (model P w) A (Builtin.SmallTypes.nextOf (.ref j)) Q E s := by
  obtain ⟨oj, gj, cj, dj⟩ := id hj
  obtain ⟨ot, gt, _, nt, dt⟩ := ht
  unfold Builtin.SmallTypes.nextOf
  refine wpAny_bind (wpAny_callSpecial?_slot (name := Str.ofString "__next__") hj.typeIs F.slot_tuple_iterator_next
    (wpAny_call_entry F.slot_tuple_iterator_next hj.typeIs F.entry_tuple_iterator_next ?_ (F.args_tuple_iterator_next_1 _)))
  show wpAny _ _ (field (.ref j) 0 >>= _) _ _ s
  refine wpAny_bind (wpAny_field gj dj (x := .ref t) rfl ?_)
  show wpAny _ _ (if (Value.ref t == Value.none) = true then _ else _) _ _ s
  rw [if_neg (by exact Bool.false_ne_true)]
  show wpAny _ _ (field (.ref j) 1 >>= _) _ _ s
  refine wpAny_bind (wpAny_field gj dj (x := .int i 0) rfl ?_)
  show wpAny _ _ (seqItems? (.ref t) >>= _) _ _ s
  refine wpAny_bind (wpAny_seqItems gt dt ?_)
  simp only [Int.toNat_natCast, hx]
  refine wpAny_bind (wpAny_setField gj dj (by simp) (wpAny_pure ⟨x, rfl, wpAny_pure (k _ ?_ (Heap.SameBut.update ..))⟩))
  exact ⟨_, Heap.get?_update_self _ gj (Obj.isFreed_of_fields (Obj.data_mapFields dj _)), (Obj.cls_mapFields ..).trans cj, by
    rw [Obj.data_mapFields dj]; simp [rawInt]⟩
theorem nextTupEnd {j t : Addr} {i : Nat} {vs : Array Value} {Q : Value → Shared → Prop} (hnd : A.handled = none) (hj : s.heap.IsTupleIter j t i) (ht : s.heap.IsTuple t vs) (hx : vs[i]? = none)
    (k : ∀ h' e, Heap.ExtBut j s.heap h' → (∃ o, h'.get? e = some o ∧ o.cls = .type "StopIteration") → E (.ref e) { s with heap := h' }) : wpAny (model P w) A (Builtin.SmallTypes.nextOf (.ref j)) Q E s := by
  obtain ⟨oj, gj, cj, dj⟩ := id hj
  obtain ⟨ot, gt, _, nt, dt⟩ := ht
  unfold Builtin.SmallTypes.nextOf
  refine wpAny_bind (wpAny_callSpecial?_slot (name := Str.ofString "__next__") hj.typeIs F.slot_tuple_iterator_next
    (wpAny_call_entry F.slot_tuple_iterator_next hj.typeIs F.entry_tuple_iterator_next ?_ (F.args_tuple_iterator_next_1 _)))
  show wpAny _ _ (field (.ref j) 0 >>= _) _ _ s
  refine wpAny_bind (wpAny_field gj dj (x := .ref t) rfl ?_)
  show wpAny _ _ (if (Value.ref t == Value.none) = true then _ else _) _ _ s
  rw [if_neg (by exact Bool.false_ne_true)]
  show wpAny _ _ (field (.ref j) 1 >>= _) _ _ s
  refine wpAny_bind (wpAny_field gj dj (x := .int i 0) rfl ?_)
  show wpAny _ _ (seqItems? (.ref t) >>= _) _ _ s
  refine wpAny_bind (wpAny_seqItems gt dt ?_)
  simp only [Int.toNat_natCast, hx]
  refine wpAny_bind (wpAny_rule (wpAny_bind (wpAny_setField gj dj (by simp) ?_)))
  show wpAny _ _ (newExc (.type "StopIteration") [] >>= _) _ _ _
  refine wpAny_bind (?_ : wpAny _ _ (newExc _ _) _ _ _)
  simp only [newExc, newTuple]
  refine wpAny_bind (wpAny_newObj_type ?_ (by (size_fits)))
  refine wpAny_bind (m := firstArgMember _ _) (wpAny_of_eq (a := Value.none) (by first | rfl | (simp only [firstArgMember] <;> rfl)) ?_)
  refine wpAny_newObj_type (?_ : _) (by (size_fits))
  simp only [raiseNew]
  refine wpAny_bind (wpAny_handled (?_ : _))
  first | rw [show A.in1.handled = none from hnd] | rw [hnd]
  refine wpAny_bind (wpAny_pure (wpAny_throw (?_ : _)))
  exact k _ _ (((Heap.SameBut.update ..).extBut.push _).push _) ⟨_, Heap.get?_push_size _ rfl, rfl⟩
end
theorem drawsTuple {P : Program} {w : World} {A : Around} (hnd : A.handled = none) (j t : Addr) (ne : t ≠ j) (vs : Array Value) :
    Draws P w A j [j, t] vs.size (fun i v => vs[i]? = some v) (fun i h => h.IsTupleIter j t i ∧ h.IsTuple t vs) where
  live := fun _ _ q => let ⟨o, g, _⟩ := q.1; ⟨o, g⟩
  frame := fun _ _ _ q f => by
    obtain ⟨⟨o, g, r⟩, ⟨o', g', r'⟩⟩ := q
    exact ⟨⟨o, f j (by simp) o g, r⟩, ⟨o', f t (by simp) o' g', r'⟩⟩
  item := fun i s Q E hi q k => by
    refine nextTupItem q.1 q.2 (x := vs[i]) (by simp [hi]) fun h' q' sb => ?_
    exact k _ h' s.toks (by simp [hi]) ⟨q', q.2.extBut sb.extBut ne⟩ sb
  done := fun s Q E q k => nextTupEnd hnd q.1 q.2 (by simp) k

theorem meetsEnumT (l : Addr) (vs : Array Value) (ob : Obj) (n : Nat) (hc : ob.cls = .type "tuple") (hd : ob.data = .seq vs n) :
    Meets (Builtin.«enumerate.__new__» ⟨[.type "enumerate", .ref l], []⟩) (fun _ R s => s.heap.get? l = some ob ∧
      R (.ok (.ret (.ref (s.heap.push { cls := .type "tuple_iterator", data := .fields #[.ref l, .int 0 0] }).objs.size)))
        { s with heap := (s.heap.push { cls := .type "tuple_iterator", data := .fields #[.ref l, .int 0 0] }).push { cls := .type "enumerate", data := .fields #[.none, .bool false, .ref s.heap.objs.size, rawInt 0, .none, .none] } }) :=
  .of_wp fun prog w A R s h => by
    obtain ⟨cc, dct, dd, sl⟩ := ob
    replace hc : cc = .type "tuple" := hc
    replace hd : dd = .seq vs n := hd
    subst hc hd
    obtain ⟨hp, g, d, tk, os⟩ := s
    obtain ⟨hl, h⟩ := h
    have sub := sub_enumerate
    have isT : Heap.IsTuple (Shared.heap ⟨hp, g, d, tk, os⟩) l vs := ⟨_, hl, rfl, n, rfl⟩
    wp_walk using wpAny_loadPart' hl
    refine wpAny_stack_any fun st => wpAny_pure (?_ : _)
    split
    · rename_i c _ _ _ _ _
      cases (c == Value.type "enumerate")
      · wp_walk using wpAny_loadPart' hl, wpAny_pyIter_tuple isT
        exact ⟨_, rfl, h⟩
      · wp_walk using wpAny_loadPart' hl, wpAny_pyIter_tuple isT
        exact ⟨_, rfl, h⟩
    · wp_walk using wpAny_loadPart' hl, wpAny_pyIter_tuple isT
      exact ⟨_, rfl, h⟩
section
variable {P : Program} {w : World} {A : Around} {E : Value → Shared → Prop} {s : Shared}
theorem callEnumT {l : Addr} {vs : Array Value} {Q : Value → Shared → Prop} (isT : s.heap.IsTuple l vs)
    (k : ∀ h', IsEnum h' (s.heap.objs.size + 1) s.heap.objs.size 0 .none → h'.IsTupleIter s.heap.objs.size l 0 →
      (∀ b o, s.heap.get? b = some o → h'.get? b = some o) → Q (.ref (s.heap.objs.size + 1)) { s with heap := h' }) :
    wpAny (model P w) A (call (.type "enumerate") [.ref l]) Q E s := by
  obtain ⟨ob, hl, hc, n, hd⟩ := isT
  refine callType_new F.called_enumerate (by decide) (F.typeCall_enumerate_1 _) (F.newCall_enumerate_1 _) (fun x => F.args_object_init_2 x _) F.entry_enumerate_new
    (meetsEnumT l vs ob n hc hd) ⟨hl, ?_⟩
  have hz : (s.heap.push { cls := .type "tuple_iterator", data := .fields #[.ref l, .int 0 0] }).objs.size = s.heap.objs.size + 1 := Heap.size_push ..
  show _ ∧ _
  rw [hz]
  have he : IsEnum ((s.heap.push { cls := .type "tuple_iterator", data := .fields #[.ref l, .int 0 0] }).push
      { cls := .type "enumerate", data := .fields #[.none, .bool false, .ref s.heap.objs.size, rawInt 0, .none, .none] }) (s.heap.objs.size + 1) s.heap.objs.size 0 .none := by
    have q := Heap.get?_push_size (s.heap.push { cls := .type "tuple_iterator", data := .fields #[.ref l, .int 0 0] })
      (o := { cls := .type "enumerate", data := .fields #[.none, .bool false, .ref s.heap.objs.size, rawInt 0, .none, .none] }) rfl
    rw [hz] at q
    exact q
  exact ⟨⟨_, he, rfl⟩, k _ he ⟨_, Heap.get?_push_of_some _ (Heap.get?_push_size _ rfl), rfl, rfl⟩ fun b o q => Heap.get?_push_of_some _ (Heap.get?_push_of_some _ q)⟩
end
/-- the tuple at a, each item in a new pair behind its number -/
def ItE (K : PySem.W.Frag) (a : Addr) : It where
  go := fun i H => ∃ (xs : List V) (x : V), SqT K H a xs ∧ xs[i]? = some x
  yld := fun i H v H' => ∃ T x, v = .ref T ∧ H T = none ∧ H' = upd H T (.tup [.int (i : Nat), x]) ∧ ∀ xs, SqT K H a xs → xs[i]? = some x
  stop := fun i H => ∃ xs : List V, SqT K H a xs ∧ xs.length ≤ i
theorem turnEnumT {P : Program} {w : World} {K : PySem.W.Frag} {elts : List Expr} {kk : Nat} {tp : Pos} (a e j : Addr) :
    Turn P w K (.Tuple elts kk tp) (ItE K a) [e, j] e (fun i h => (∃ old, IsEnum h e j ((i : Nat) : Int) old) ∧ h.IsTupleIter j a i ∧ e ≠ j ∧ a ≠ j ∧ a ≠ e) where
  mem := by simp
  obj := fun i h q b hb => by
    obtain ⟨⟨old, he⟩, ⟨o, ho, hc, hd⟩, _⟩ := q
    have eb : b = e ∨ b = j := by simpa using hb
    rcases eb with z | z
    · rw [z]; exact ⟨_, he, fun v y => nomatch y⟩
    · rw [z]; exact ⟨o, ho, fun v y => by rw [hd] at y; cases y⟩
  keep := fun i h h' q f => by
    obtain ⟨⟨old, he⟩, ⟨o, ho, r⟩, n⟩ := q
    exact ⟨⟨old, f e (by simp) _ he⟩, ⟨o, f j (by simp) _ ho, r⟩, n⟩
  item := by
    intro X hP hw hK hc i pins s σ H E I hf q hg
    subst hP hw hK
    obtain ⟨⟨old, he⟩, hj, n1, n2, n3⟩ := q
    obtain ⟨xs, x, hs, hx⟩ := hg
    obtain ⟨its, rv, p, hz⟩ := I.tuple hs
    obtain ⟨u, hu, ru⟩ := rv.get hx
    have hil : i < its.toArray.size := by
      have := (List.getElem?_eq_some_iff.mp hu).1
      simpa using this
    have D := drawsTuple (P := X.prog) (w := X.w) (A := X.A.in1) (I.ok.hd hc) j a n2 its.toArray
    have nfp : e ∉ [j, a] := by
      simp only [List.mem_cons, List.not_mem_nil, or_false, not_or]
      exact ⟨n1, fun z => n3 z.symm⟩
    refine wpAny_pyNext_enum_itemD D he ⟨hj, p⟩ hil n1 nfp fun y h' tk hy ho hst hT hsz hk => ?_
    have ey : y = u := by
      have z : its[i]? = some y := by simpa using hy
      exact Option.some.inj (z.symm.trans hu)
    subst ey
    refine ⟨_, rfl, wpAny_letOwnedTupleGo_enum (s := { s with heap := h', toks := tk + 1 }) ho fun h'' he' sb => ?_⟩
    have hel : e < s.heap.objs.size := Heap.lt_size he
    have hjl : j < s.heap.objs.size := by obtain ⟨_, z, _⟩ := hj; exact Heap.lt_size z
    have hT2 : h''.get? s.heap.objs.size = some { cls := .type "tuple", data := .seq #[.int i tk, y] } := (sb.2 _ (Nat.ne_of_gt hel)).trans hT
    have new : ObjOk X.prog X.w (upd H s.heap.objs.size (.tup [.int (i : Nat), x])) h'' s.heap.objs.size (.tup [.int (i : Nat), x]) :=
      ⟨by show 2 ≤ sizeLine; decide, [.int i tk, y], .cons ⟨_, rfl⟩ (.cons ru .nil), ⟨_, hT2, rfl, _, rfl⟩⟩
    have I1 : Inv X pins σ (upd H s.heap.objs.size (.tup [.int (i : Nat), x])) { s with heap := h'', toks := tk + 1 } :=
      I.turnedNew (ch := [e, j]) (fun b ob hb z => (sb.2 b (fun y => hb (by simp [y]))).trans (hk b ob (fun y => hb (by simp [y])) (fun y => hb (by simp [y])) z)) hf (Nat.le_refl _) new
    obtain ⟨oj, gj, rj⟩ := hst.1
    refine ⟨.ref s.heap.objs.size, _, I1, rfl, ⟨_, x, rfl, I.hok.fresh (Nat.le_refl _), rfl, fun ys hy => by rw [I.tuple_inj hy hs]; exact hx⟩, ⟨⟨y, ?_⟩, ⟨oj, (sb.2 j (Ne.symm n1)).trans gj, rj⟩, n1, n2, n3⟩, fun b hb => ?_⟩
    · have e1 : ((i + 1 : Nat) : Int) = (i : Int) + 1 := by omega
      rw [e1]
      exact he'
    · have hb' : b < s.heap.objs.size := by
        have eb : b = e ∨ b = j := by simpa using hb
        rcases eb with z | z
        · rw [z]; exact hel
        · rw [z]; exact hjl
      rw [upd_ne (Nat.ne_of_lt hb')]
      exact (hf b hb).1
  done := by
    intro X hP hw hK hc i pins s σ H E I hf q hg
    subst hP hw hK
    obtain ⟨⟨old, he⟩, hj, n1, n2, n3⟩ := q
    obtain ⟨xs, hs, hx⟩ := hg
    obtain ⟨its, rv, p, hz⟩ := I.tuple hs
    obtain ⟨f0, f1, f2, f3, f4, f5⟩ := hf j (by simp)
    have hl := rv.length
    have hT : s.TypeIs (.ref e) "enumerate" := ⟨_, he, rfl⟩
    unfold pyNext
    refine wpAny_bind (wpAny_attempt (wpAny_callSpecial?_slot (name := Str.ofString "__next__") hT F.slot_enumerate_next
      (wpAny_call_entry F.slot_enumerate_next hT F.entry_enumerate_next (?_ : _) (F.args_enumerate_next_1 _))))
    show wpAny _ _ (field (.ref e) 2 >>= _) _ _ _
    refine wpAny_bind (wpAny_field he rfl (x := .ref j) rfl (?_ : _))
    refine wpAny_bind (nextTupEnd (I.ok.hd hc) hj p (by simp; omega) fun h' x eb hx' => ?_)
    obtain ⟨o, ho, hoc⟩ := hx'
    refine wpAny_bind (wpAny_isInstance (T := "StopIteration") (b := true) ⟨o, ho, hoc⟩ isSubtype_stop (?_ : _))
    exact wpAny_pure ⟨rfl, I.turned (t' := s.toks) (fun b o hb q => eb b o hb q) f0 f1 f3 f4 f5⟩
  self := fun A i s Q E q h => let ⟨⟨_, he⟩, _⟩ := q; wpAny_pyIter_enum he h
def iEnT (K : PySem.W.Frag) (ta : TA) : TI := fun σ H R => ta σ H fun vs H1 => ∃ a xs, vs = [.ref a] ∧ SqT K H1 a xs ∧ R (ItE K a) H1
theorem pi_enT {X : Cx} {e : Expr} {ta : TA} {p pos tp : Pos} {elts : List Expr} {kk : Nat} (hg : Gl X "enumerate") (hm : X.mg "enumerate" = none) (ha : PA X [e] ta) (hs : starEach [e] X.env = [(false, eval e X.env)] := by rfl) :
    PI X (.Tuple elts kk tp) (.Call (.Name "enumerate" p) [e] [] pos) (iEnT X.K ta) := by
  refine ⟨fun pins s σ H R I h => Call_ (ld_blt I hg hm boot_enumerate (PyProof.Rows.callWith_type1 (thn (ha.run pos pins s σ H _ I h) fun us s1 ⟨vs, H1, I1, r1, q1⟩ => ?_) hs rfl))⟩
  obtain ⟨a, xs, ex, hq, q⟩ := q1
  subst ex
  cases r1 with
  | cons r rr =>
    cases rr
    cases r
    obtain ⟨its, rv, tp', hz⟩ := I1.tuple hq
    have hal : a < s1.heap.objs.size := by obtain ⟨_, z, _⟩ := tp'; exact Heap.lt_size z
    refine callEnumT (show s1.heap.IsTuple a its.toArray from tp') fun h' he hit hk => wpAny_pyIter_enum he (?_ : _)
    have I2 : Inv X pins σ H1 { s1 with heap := h' } := I1.kept (t' := s1.toks) hk
    refine ⟨s1.heap.objs.size + 1, [s1.heap.objs.size + 1, s1.heap.objs.size], _, _, H1, rfl, I2, turnEnumT a (s1.heap.objs.size + 1) s1.heap.objs.size, ⟨⟨.none, he⟩, hit, Nat.succ_ne_self _, Nat.ne_of_lt hal, Nat.ne_of_lt (Nat.lt_succ_of_lt hal)⟩, fun b hb => ?_, q⟩
    have eb : b = s1.heap.objs.size + 1 ∨ b = s1.heap.objs.size := by simpa using hb
    have hle : s1.heap.objs.size ≤ b := by
      rcases eb with z | z
      · rw [z]; exact Nat.le_succ _
      · rw [z]; exact Nat.le_refl _
    exact I1.fpOk hle (I1.hok.fresh hle)
end FF
namespace FF
open PySem PySem.Spec PyProof.Rows L2

/-! ### what can be shown by repr -/
structure Sw (W k : Nat) (d : PyData) : Prop where
  sh : d.showable = true
  lf : d.leavesShort 13 = true
  wt : d.weight ≤ W
  dp : d.depth ≤ k
  nd : d.hasDict = false
structure SwA (W k : Nat) (ds : List PyData) : Prop where
  sh : PyData.showableAll ds = true
  lf : PyData.leavesShortAll 13 ds = true
  wt : PyData.weightAll ds ≤ W
  dp : PyData.depthAll ds ≤ k
  nd : PyData.hasDictAll ds = false
theorem Sw.mono {W k W' k' : Nat} {d : PyData} (h : Sw W k d) (h1 : W ≤ W') (h2 : k ≤ k') : Sw W' k' d := ⟨h.sh, h.lf, Nat.le_trans h.wt h1, Nat.le_trans h.dp h2, h.nd⟩
theorem SwA.nil {k : Nat} : SwA 0 k [] := ⟨rfl, rfl, Nat.le_refl _, Nat.zero_le _, rfl⟩
theorem SwA.cons {W V k : Nat} {d : PyData} {ds : List PyData} (h : Sw W k d) (t : SwA V k ds) : SwA (W + 1 + V) k (d :: ds) := by
  refine ⟨?_, ?_, ?_, ?_, ?_⟩
  · simp only [PyData.showableAll, h.sh, t.sh, Bool.and_self]
  · simp only [PyData.leavesShortAll, h.lf, t.lf, Bool.and_self]
  · have a := h.wt
    have b := t.wt
    simp only [PyData.weightAll]
    omega
  · simp only [PyData.depthAll]
    exact Nat.max_le.mpr ⟨h.dp, t.dp⟩
  · simp only [PyData.hasDictAll, h.nd, t.nd, Bool.or_self]
theorem SwA.all {W k : Nat} : ∀ {ds : List PyData}, (∀ d ∈ ds, Sw W k d) → SwA ((W + 1) * ds.length) k ds
  | [], _ => by simpa using (SwA.nil (k := k))
  | d :: ds, h => by
    have t := SwA.cons (h d (List.mem_cons_self ..)) (SwA.all (ds := ds) fun x hx => h x (List.mem_cons_of_mem _ hx))
    have e : W + 1 + (W + 1) * ds.length = (W + 1) * (d :: ds).length := by
      rw [List.length_cons, Nat.mul_add, Nat.mul_one, Nat.add_comm]
    rw [e] at t
    exact t
theorem Sw.tup {W k : Nat} {ds : List PyData} (h : SwA W k ds) : Sw W (k + 1) (.tuple ds) := by
  refine ⟨?_, ?_, ?_, ?_, ?_⟩
  · simp only [PyData.showable, h.sh]
  · simp only [PyData.leavesShort, h.lf]
  · simp only [PyData.weight]; exact h.wt
  · simp only [PyData.depth]; have := h.dp; omega
  · simp only [PyData.hasDict, h.nd]
theorem Sw.lst {W k : Nat} {ds : List PyData} (h : SwA W k ds) : Sw W (k + 1) (.list ds) := by
  refine ⟨?_, ?_, ?_, ?_, ?_⟩
  · simp only [PyData.showable, h.sh]
  · simp only [PyData.leavesShort, h.lf]
  · simp only [PyData.weight]; exact h.wt
  · simp only [PyData.depth]; have := h.dp; omega
  · simp only [PyData.hasDict, h.nd]
theorem log2_lt_of {n k : Nat} (hk : 0 < k) (h : n < 2 ^ k) : n.log2 < k := by
  by_cases e : n = 0
  · subst e
    simpa using hk
  · exact (Nat.log2_lt e).mpr h
theorem Sw.int {k : Nat} {i : Int} (h : i.natAbs < 2 ^ 30) : Sw 30 k (.int i) := by
  have hl : i.natAbs.log2 < 30 := log2_lt_of (by decide) h
  refine ⟨?_, ?_, ?_, Nat.zero_le _, rfl⟩
  · simp only [PyData.showable, decide_eq_true_eq]
    omega
  · simp only [PyData.leavesShort, decide_eq_true_eq]
    show (Str.ofString (toString i)).length ≤ 13
    rw [PySem.ofString_length]
    have h2 : i.natAbs < 10 ^ 12 := Nat.lt_trans h (by decide)
    exact int_text_length_le10 (k := 12) (by decide) h2
  · simp only [PyData.weight]
    split
    · exact Nat.zero_le _
    · omega
theorem Sw.fits {W k : Nat} {d : PyData} (h : Sw W k d) (hW : W ≤ 1000000) : d.shown.length ≤ sizeLine := by
  refine PyData.shown_fits (B := 13) (by decide) (by decide) h.lf (Nat.le_trans h.wt (Nat.le_trans hW ?_))
  decide

/-- repr of a list or a tuple, read as data -/
def rRepr (K : PySem.W.Frag) : List V → Hp → VK → Prop := fun xs H Q => ∃ a d, xs = [.ref a] ∧ Dp K H (.ref a) d ∧ Sw 1000000 60 d ∧ Q (.str d.shown) H
theorem callRepr {X : Cx} (hg : X.A.guards = some []) (hu : X.A.units + 64 < cLine) : CallR X (.builtin "repr") (rRepr X.K) := by
  intro pins s σ H xs us Q I r h
  obtain ⟨a, d, rfl, hd, hs, q⟩ := h
  cases r with
  | cons r1 r2 =>
    cases r2
    cases r1
    obtain ⟨as, rd⟩ := Dp.reads I d (.ref a) _ hd rfl
    have hdp := hs.dp
    refine repr_of_reads' rd hs.sh (fun z => by rw [hs.nd] at z; cases z) hg (by omega) (fun _ _ e => e) (fun h' u tk hk => ?_) (hs.fits (Nat.le_refl _))
    exact ⟨.str d.shown, H, I.kept hk, ⟨_, rfl⟩, q⟩

/-! ### the law's own call: nothing runs around it -/
/-- the body of the law, the script's list at hand; no repr is running around it -/
def BodyOk (P : Program) (w : World) (K : PySem.W.Frag) (mg : Str → Option Value) (base : Heap) (k : Nat) (N : List Str) (st : Stmt) (f : Addr) : Prop :=
  ∀ (cdv : Value) (A : Around) (outer : List Env) (s : Shared) (H : Hp) (a : Addr) (ns : List Int), A.guards = some [] → Room k (A.deeper (envOfC "law" (defScope st) s.heap.objs.size f cdv)) →
    SqL K H a (ns.map V.int) → ns.length ≤ 63 → ∃ t, PSs (cxOf CX0 P w K mg base N "law" (defScope st) f cdv A outer s H E0).nox (defBody st) t ∧ t { nx := fun _ _ => False, rt := fun v _ => v = .bl true } (start N [.ref a]) H
theorem lawRuns {P : Program} {w : World} {K : PySem.W.Frag} {mg : Str → Option Value} {base : Heap} {k : Nat} {N : List Str} {x : Str} {st : Stmt} {f a : Addr} {fd : FuncData} {s : Shared} {H : Hp} {ns : List Int}
    (F : Fun K "law" "law" st f fd) (S : FnScope N [x] (defScope st)) (hb : BodyOk P w K mg base k N st f) (bind : ∀ (s : Shared) (u : Value), BindsTo s fd ⟨[u], []⟩ [(x, u)]) (hr : Room (k + 1) callerA)
    (e0 : Env0 P w K mg base callerA [] s H) (hS : SqL K H a (ns.map V.int)) (hl : ns.length ≤ 63) :
    codeAny (model P w) callerA (.call (.ref f) ⟨[.ref a], []⟩) (CR CX0 [] P w H s (fun v _ => v = .bl true) E0) s := by
  obtain ⟨oc, od, kV, doc, pm, an, cdv, ct, osl, rfl, lk, hcd⟩ := F.ex
  have hK : K.In s.heap := e0.mod.kin.keeps fun b o z => (e0.bs b o z).1
  have nolim : s.heap.NoLimit := e0.mod.nolimit.keeps fun b o z => (e0.bs b o z).1
  have r : Vals [V.ref a] [Value.ref a] := .cons rfl .nil
  have kinds : ∀ y ∈ [x].zip [Value.ref a], (defScope st).names.lookup y.1 = some .local ∨ ((defScope st).names.lookup y.1 = some .cell ∧ ((cellsFrom (s.heap.objs.size + 1) (defScope st).names []).lookup y.1).isSome = true) := by
    rintro ⟨n, v⟩ hy
    rcases S.par n (List.of_mem_zip hy).1 with z | z
    · exact Or.inl z
    · exact Or.inr ⟨z, PySem.W.cellsFrom_some _ _ _ (Or.inl z)⟩
  refine codeAny_call_function hr.depth (hK _ _ lk) rfl S.co S.gen rfl (PySem.W.codeRec_of hK hcd) (bind s (.ref a) _ _ _ _ ?_)
  refine wpAny_newFunctionEnv_cells S.kind kinds fun env he s1 ic => ?_
  subst he
  refine ⟨nolim.keeps ic.toInCall.keep, codeAny_func (?_ : _)⟩
  obtain ⟨t, ht, hq⟩ := hb cdv callerA [] s H a ns rfl (hr.deeper _) hS hl
  have I := inv_start (CX := CX0) (E := E0) (cd := cdv) S hr.hd e0 rfl r ic
  refine wpAny_mono (ht.nox.run [] s1 _ H _ I hq) (fun fl s' hs => ?_) fun _ _ z => z
  cases fl with
  | ret u =>
    obtain ⟨v, σ', H', J, rv, q⟩ := hs
    exact ⟨v, H', J.os, J.bare, J.base, J.hok, rv, q⟩
  | next => obtain ⟨_, _, _, z⟩ := hs; exact False.elim z
  | brk => obtain ⟨_, _, _, z⟩ := hs; exact False.elim z
  | cont => obtain ⟨_, _, _, z⟩ := hs; exact False.elim z

/-- from an abstract heap that tracks at most the script -/
theorem lawCore {P : Program} {w : World} {K : PySem.W.Frag} {mg mb : Str → Option Value} {k : Nat} {N : List Str} {x : Str} {st : Stmt} {f a : Addr} {fd : FuncData} {s₁ : Shared} {vs : List Value} {ns : List Int} {H : Hp}
    (KX : K.In s₁.heap) (hns : s₁.heap.Ns mainGlobals mg) (hbn : s₁.heap.Ns builtinsNs mb) (hbb : ∀ x : Str, x ≠ "__name__" → mb x = bootBuiltins x) (hlim : s₁.heap.NoLimit) (hg : s₁.gens = #[])
    (ha : s₁.heap.get? a = some { cls := .type "list", data := .seq vs.toArray }) (hl : ns.length ≤ 63) (hr : Room (k + 1) callerA)
    (F : Fun K "law" "law" st f fd) (S : FnScope N [x] (defScope st)) (hb : ∀ base : Heap, K.In base → base.Ns mainGlobals mg → BodyOk P w K mg base k N st f) (bind : ∀ (s : Shared) (u : Value), BindsTo s fd ⟨[u], []⟩ [(x, u)])
    (hO : ∀ b, H b = none ∨ ∃ o xs, H b = some (.frz o (.lst xs))) (hS : SqL K H a (ns.map V.int)) (hok : HOk P w H s₁.heap) (hA : ∀ b, H b ≠ none → b = a) (hK : H a ≠ none → K.lookup a = none) :
    codeAny (model P w) callerA (.call (.ref f) ⟨[.ref a], []⟩) (fun r s' => r = .ok (.ret (.bool true)) ∧ OldK s₁.heap s'.heap ∧ s'.os = s₁.os ∧ AllBare s'.gens) s₁ := by
  have put : ∀ {b : Addr} {o : Obj}, s₁.heap.get? b = some o → H b = none → (hidT s₁.heap H).get? b = some o := fun e n => hidT_get e n
  have free : ∀ {b : Addr}, b ≠ a → H b = none := fun {b} n => by
    cases q : H b with
    | none => rfl
    | some u => exact absurd (hA b (by rw [q]; exact fun z => nomatch z)) n
  have nsk : ∀ {b : Addr} {m : Str → Option Value}, s₁.heap.Ns b m → (hidT s₁.heap H).Ns b m := by
    rintro b m ⟨o, es, ep, e, d, r⟩
    refine ⟨o, es, ep, put e (free fun z => ?_), d, r⟩
    subst z
    rw [ha] at e
    cases e
    have d' : Data.seq vs.toArray _ = Data.dict es ep := d
    cases d'
  have kb : K.In (hidT s₁.heap H) := fun b o e => put (KX b o e) (by
    cases q : H b with
    | none => rfl
    | some u =>
      have nn : H b ≠ none := by rw [q]; exact fun z => nomatch z
      have eb : b = a := hA b nn
      rw [eb] at nn e
      rw [hK nn] at e
      cases e)
  have md : Mod K mg (hidT s₁.heap H) := ⟨kb, nsk hns, ⟨mb, nsk hbn, hbb⟩, let ⟨mc, h1, h2⟩ := hlim; ⟨mc, nsk h1, h2⟩⟩
  have e0 : Env0 P w K mg (hidT s₁.heap H) callerA [] s₁ H :=
    { frames := rfl, mod := md, bs := fun b o e => of_hidT e, bsz := Nat.le_of_eq (hidT_size _ _), funs := trivial, frf := fun b z => absurd (show b ∈ ([] : List Addr) from z) (by simp), hok := hok, bare := .of_eq hg }
  refine codeAny_mono (lawRuns F S (hb _ kb (nsk hns)) bind hr e0 hS hl) fun r s' h => ?_
  cases r with
  | error e => exact False.elim h
  | ok fl =>
    cases fl with
    | next => exact False.elim h
    | brk => exact False.elim h
    | cont => exact False.elim h
    | ret u =>
      obtain ⟨v, H', hos, bare, un, hok', r', q⟩ := h
      have q' : v = .bl true := q
      subst q'
      obtain rfl : u = Value.bool true := r'
      refine ⟨rfl, OldK.of_keep fun b o e => ?_, hos, bare⟩
      rcases hO b with z | ⟨ob, xs, z⟩
      · exact un.keep b o e z (fun y => absurd (show b ∈ ([] : List Addr) from y) (by simp)) (by simp)
      · obtain ⟨e1, _⟩ := hok b _ z
        obtain ⟨e2, _⟩ := hok' b _ (un.frzs b ob _ z)
        rw [e] at e1
        cases e1
        exact e2
theorem lawWalk {l : PySem.W.OpenLaw} {k : Nat} {q : Program} {loose : List Str} {XP : (Str → Option Value) → Heap → Prop} {YP : World → Heap → Prop} {d : DefRec} {K : Params → PySem.W.Frag} {N : List Str} {x : Str} {st : Stmt}
    (hn : l.most = some 63) (hdf : d.params.defaults = []) (hr : Room (k + 1) callerA) (S : FnScope N [x] (defScope st))
    (hY : ∀ (w : World) (h : Heap), YP w h → (K w.params).In h)
    (F : ∀ (w : World) (mg : Str → Option Value) (fa : Addr) (h : Heap), (K w.params).In h → h.Ns mainGlobals mg → mg d.name = some (.ref fa) →
      ∃ fd : FuncData, Fun (K w.params) "law" "law" st fa fd ∧ (∀ (s : Shared) (u : Value), BindsTo s fd ⟨[u], []⟩ [(x, u)]) ∧
        ∀ base : Heap, (K w.params).In base → base.Ns mainGlobals mg → BodyOk l.prog w (K w.params) mg base k N st fa) :
    PySem.W.WalkO q loose XP YP l.row.toRowW d [] (fun f vs => PySem.call f vs) := by
  refine Att.attach_call hn hdf fun w s₀ s₁ mg mb fa o pm cd doc a vs ns G Y ho hd hcd hmg hobj hints hlen hg => ?_
  have KX := hY w _ Y
  obtain ⟨fd, hF, hb, hbody⟩ := F w mg fa _ KX G.T.g hmg
  have rv := vals_ints hints
  have hlv := hints.length
  have sz : ns.length ≤ sizeLine := Nat.le_trans hlen (by decide)
  have go := fun (H : Hp) => lawCore (H := H) KX G.T.g G.T.b G.T.builtins G.T.nolimit hg hobj hlen hr hF S hbody hb
  cases hk : (K w.params).lookup a with
  | some oa =>
    have e := KX a oa hk
    rw [hobj] at e
    cases e
    refine go (fun _ => none) (fun _ => Or.inl rfl) (Or.inr ⟨_, vs.toArray, _, hk, rfl, rfl, rfl, ?_, by simpa using rv⟩) (fun b u z => ?_) (fun b z => absurd rfl z) fun z => absurd rfl z
    · rw [List.size_toArray, hlv]; exact sz
    · have z' : (none : Option HO) = some u := z
      cases z'
  | none =>
    let ob : Obj := { cls := .type "list", data := .seq vs.toArray }
    refine go (fun b => if b = a then some (.frz ob (.lst (ns.map V.int))) else none) (fun b => ?_) (Or.inl (Or.inr ⟨ob, if_pos rfl⟩)) (fun b u z => ?_) (fun b z => ?_) fun _ => hk
    · by_cases hba : b = a
      · exact Or.inr ⟨_, _, if_pos hba⟩
      · exact Or.inl (if_neg hba)
    · by_cases hba : b = a
      · have z' := (if_pos hba).symm.trans z
        cases z'
        subst hba
        exact ⟨hobj, by rw [List.length_map]; exact sz, vs, _, rv, hobj⟩
      · have z' := (if_neg hba).symm.trans z
        cases z'
    · by_cases hba : b = a
      · exact hba
      · exact absurd (if_neg hba) z
end FF
namespace FF
open PySem PySem.Spec PyProof.Rows L2
def topS (i : Nat) : Stmt := PySem.Challenge.pw_firstfuse_k52_errors_and_bounds.main.body.getD i (.Pass ⟨0, 0, 0, 0⟩)
def inS (i : Nat) : Stmt := match topS i with
  | .ClassDef (body := b) .. => b.getD 0 (.Pass ⟨0, 0, 0, 0⟩)
  | _ => .Pass ⟨0, 0, 0, 0⟩
abbrev sDeck : Stmt := topS 22
abbrev sDraw : Stmt := topS 23
abbrev sPick : Stmt := topS 24
abbrev sOdd : Stmt := topS 25
abbrev sCls : Stmt := topS 26
abbrev sAll : Stmt := topS 27
abbrev sLaw : Stmt := topS 28
end FF
namespace FF
open PySem PySem.Spec PyProof.Rows L2
theorem scDeck : FnScope ["_law_script", "_law_cells", "_law_cell"] ["_law_script"] (defScope sDeck) := ⟨rfl, rfl, rfl, by decide +kernel, rfl, by decide +kernel, by decide +kernel⟩
theorem scDraw : FnScope ["_law_deck_here", "_law_bound", "_law_rest", "_law_cell", "_law_mixed"] ["_law_deck_here", "_law_bound"] (defScope sDraw) := ⟨rfl, rfl, rfl, by decide +kernel, rfl, by decide +kernel, by decide +kernel⟩
theorem scPick : FnScope ["_law_deck_here", "_law_items"] ["_law_deck_here", "_law_items"] (defScope sPick) := ⟨rfl, rfl, rfl, by decide +kernel, rfl, by decide +kernel, by decide +kernel⟩

/-! ### the deck: a list of the great cells' list, all cells' list, a count -/
structure Deck (D A B : Addr) (H : Hp) : Prop where
  it : ∃ (gs cs : List Int) (n : Int), H D = some (.lst [.ref A, .ref B, .int n]) ∧ H A = some (.lst (gs.map V.int)) ∧ H B = some (.lst (cs.map V.int)) ∧ cs ≠ [] ∧ gs.length ≤ 63
  da : D ≠ A
  db : D ≠ B
  ab : A ≠ B
/-- the heap without what a draw changes -/
def hid (D A : Addr) (H : Hp) : Hp := fun b => if b = D ∨ b = A then none else H b
theorem hid_of {D A b : Addr} {H : Hp} {o : HO} (h : H b = some o) (n1 : b ≠ D) (n2 : b ≠ A) : hid D A H b = some o := by
  unfold hid
  rw [if_neg (fun z => z.elim n1 n2)]
  exact h
theorem of_hid {D A b : Addr} {H : Hp} {o : HO} (h : hid D A H b = some o) : H b = some o ∧ b ≠ D ∧ b ≠ A := by
  unfold hid at h
  by_cases c : b = D ∨ b = A
  · rw [if_pos c] at h; cases h
  · rw [if_neg c] at h
    exact ⟨h, fun z => c (.inl z), fun z => c (.inr z)⟩
/-- all but the deck stands as it was -/
def Kp (D A : Addr) (H H' : Hp) : Prop := ∀ b o, H b = some o → b ≠ D → b ≠ A → H' b = some o
theorem Kp.refl {D A : Addr} {H : Hp} : Kp D A H H := fun _ _ h _ _ => h
theorem Kp.trans {D A : Addr} {H H1 H2 : Hp} (a : Kp D A H H1) (b : Kp D A H1 H2) : Kp D A H H2 := fun x o h n1 n2 => b x o (a x o h n1 n2) n1 n2
theorem Kp.of {D A : Addr} {H H1 : Hp} (a : Evl.Ex H H1) : Kp D A H H1 := fun x o h _ _ => a x o h
theorem Deck.ex {D A B : Addr} {H H1 : Hp} (d : Deck D A B H) (e : Evl.Ex H H1) : Deck D A B H1 := by
  obtain ⟨⟨gs, cs, n, h1, h2, h3, h4, h5⟩, a, b, c⟩ := d
  exact ⟨⟨gs, cs, n, e _ _ h1, e _ _ h2, e _ _ h3, h4, h5⟩, a, b, c⟩
theorem Deck.new {D A B p : Addr} {H : Hp} {o : HO} (d : Deck D A B H) (h : H p = none) : Deck D A B (upd H p o) := d.ex (Evl.Ex.new h)
theorem Deck.ne {D A B p : Addr} {H : Hp} (d : Deck D A B H) (h : H p = none) : p ≠ D ∧ p ≠ A ∧ p ≠ B := by
  obtain ⟨⟨gs, cs, n, h1, h2, h3, h4, h5⟩, a, b, c⟩ := d
  exact ⟨(ne_of_none h1 h).symm, (ne_of_none h2 h).symm, (ne_of_none h3 h).symm⟩
theorem Kp.new {D A p : Addr} {H : Hp} {o : HO} (h : H p = none) : Kp D A H (upd H p o) := Kp.of (Evl.Ex.new h)

theorem dpInts {K : PySem.W.Frag} {H : Hp} : ∀ ns : List Int, DpAll K H (ns.map V.int) (ns.map PyData.int)
  | [] => .nil
  | n :: r => .cons (.int n) (dpInts r)
theorem layInts : ∀ ns : List Int, PyData.canLayAll0 (ns.map PyData.int) = true
  | [] => rfl
  | n :: r => by
    rw [List.map_cons]
    simp only [PyData.canLayAll0, PyData.canLay0, layInts r, Bool.and_self]
theorem depInts : ∀ ns : List Int, PyData.depthAll (ns.map PyData.int) = 0
  | [] => rfl
  | n :: r => by
    rw [List.map_cons]
    simp only [PyData.depthAll, PyData.depth, depInts r, Nat.max_self]
theorem shapedInts (ns : List Int) : SeqAt.shaped (.list (ns.map PyData.int)) = true := by
  unfold SeqAt.shaped
  simp only [PyData.canLay0, layInts, PyData.depth, depInts]
  decide
theorem seqIx0 {n : Nat} (h : 0 < n) : seqIndex? 0 n = some 0 := by
  unfold seqIndex?
  simp [h]
theorem ixN0 {n : Nat} (h : 0 < n) : ixN n 0 = some 0 := Evl.ixN_nat h

/-! ### _law_draw -/
def spDraw : Sp := fun vs H Q _ => ∃ (D A B : Addr) (b : Int), vs = [.ref D, .int b] ∧ 1 ≤ b ∧ b < 1000000 ∧ Deck D A B H ∧
  ∀ r H', 0 ≤ r → r < b → Deck D A B H' → Kp D A H H' → Q (.int r) H'
section
variable {P : Program} {w : World} {K : PySem.W.Frag} {mg : Str → Option Value} {base : Heap}
theorem ok_draw {f : Addr} {fd : FuncData} {k : Nat} (F : Fun K "_law_draw" "_law_draw" sDraw f fd) (mi : mg "int" = none) (ml : mg "len" = none) : FnOk P w K mg base CX0 (k + 1) f fd ["_law_deck_here", "_law_bound"] spDraw := by
  refine F.ok scDraw (fun vs H Q E h => ?_) (fun cdv A outer s H vs Q E hr h => ?_)
  · obtain ⟨D, A, B, b, rfl, _⟩ := h
    rfl
  · obtain ⟨D, A, B, b, rfl, hb1, hb2, dk, q⟩ := h
    obtain ⟨⟨gs, cs, n, h1, h2, h3, h4, h5⟩, nda, ndb, nab⟩ := id dk
    refine ⟨_, pss_cons (ps_if (pt_cmpR (op_neD hr.units) (pe_ix ix_list (pv 0) pe_int (fun _ _ => rfl)) (pe_lst pa_nil) (nomark _))
        (pss_cons (ps_set (i := 2) scDraw.nd rfl (.inl rfl) (pe_ix ix_list (pe_ix ix_list (pv 0) pe_int (fun _ _ => rfl)) pe_int (fun _ _ => rfl)))
        (pss_cons (ps_asg (pe_op op_fdiv (pv 2) (pv 1)) (pg_sub (pe_ix ix_list (pv 0) pe_int (fun _ _ => rfl)) pe_int set_list))
        (pss_cons (ps_if (pt_cmpR op_eq (pe_ix ix_list (pe_ix ix_list (pv 0) pe_int (fun _ _ => rfl)) pe_int (fun _ _ => rfl)) pe_int (nomark _))
          (pss_one (ps_expr (pe_bm PySem.F.plainAttrs_list PySem.F.slot_list_pop PySem.F.type_list_pop mt_popAt (pe_ix ix_list (pv 0) pe_int (fun _ _ => rfl)) (pa_cons pe_int pa_nil)))) pss_nil)
        (pss_one (ps_ret (pe_op op_mod (pe_callTy call_int1 (by rfl) mi (by decide +kernel) (pa_cons (pv 2) pa_nil)) (pv 1)))))))
        pss_nil)
      (pss_cons (ps_asg (pe_op op_add (pe_ix ix_list (pv 0) pe_int (fun _ _ => rfl)) pe_int) (pg_sub (pv 0) pe_int set_list))
      (pss_cons (ps_set (i := 3) scDraw.nd rfl (.inl rfl) (pe_ix ix_list (pe_ix ix_list (pv 0) pe_int (fun _ _ => rfl))
          (pe_op op_mod (pe_callTy call_int1 (by rfl) mi (by decide +kernel) (pa_cons (pe_ix ix_list (pv 0) pe_int (fun _ _ => rfl)) pa_nil))
            (pe_callB call_len_seq (by rfl) ml PySem.boot_len (pa_cons (pe_ix ix_list (pv 0) pe_int (fun _ _ => rfl)) pa_nil))) (fun _ _ => rfl)))
      (pss_cons (ps_set (i := 4) scDraw.nd rfl (.inl rfl) (pe_op op_mod (pe_callTy call_int1 (by rfl) mi (by decide +kernel) (pa_cons
          (pe_op op_add (pe_op op_mod (pe_callTy call_int1 (by rfl) mi (by decide +kernel) (pa_cons (pv 3) pa_nil)) pe_int) (pe_op op_mul pe_int (pe_ix ix_list (pv 0) pe_int (fun _ _ => rfl)))) pa_nil)) pe_int))
      (pss_cons (ps_set (i := 4) scDraw.nd rfl (.inl rfl) (pe_op op_mod (pe_callTy call_int1 (by rfl) mi (by decide +kernel) (pa_cons
          (pe_op op_add (pe_op op_mul (pv 4) (pv 4)) (pe_op op_mul pe_int (pe_ix ix_list (pv 0) pe_int (fun _ _ => rfl)))) pa_nil)) pe_int))
      (pss_one (ps_ret (pe_op op_mod (pe_op op_fdiv (pe_op op_mod (pe_callTy call_int1 (by rfl) mi (by decide +kernel) (pa_cons (pe_op op_mul (pv 4) (pv 4)) pa_nil)) pe_int) pe_int) (pv 1)))))))), ?_⟩
    -- deck[0] != []
    have hD : SqL K H D [.ref A, .ref B, .int n] := SqL.of h1
    have hA : SqL K H A (gs.map V.int) := SqL.of h2
    refine ⟨.ref D, rfl, D, _, 0, _, rfl, rfl, hD, atI_nat (j := 0) rfl, Nat.zero_le _, fun p np => ?_⟩
    have dk1 := dk.new (o := .lst []) np
    obtain ⟨np1, np2, np3⟩ := dk.ne np
    have kp1 : Kp D A H (upd H p (.lst [])) := Kp.new np
    have g1 : upd H p (.lst []) D = some (.lst [.ref A, .ref B, .int n]) := by rw [upd_ne np1.symm]; exact h1
    have g2 : upd H p (.lst []) A = some (.lst (gs.map V.int)) := by rw [upd_ne np2.symm]; exact h2
    have g3 : upd H p (.lst []) B = some (.lst (cs.map V.int)) := by rw [upd_ne np3.symm]; exact h3
    have gp : upd H p (.lst []) p = some (.lst []) := upd_same
    generalize upd H p (.lst []) = H1 at dk1 kp1 g1 g2 g3 gp ⊢
    refine ⟨_, _, .lst (SqL.of g2) (dpInts gs), .lst (SqL.of gp) .nil, shapedInts gs, rfl, _, rfl, ?_⟩
    cases gs with
    | cons g gr =>
      have et : (!PyData.eqv (.list ((g :: gr).map PyData.int)) (.list [])) = true := rfl
      rw [et]
      refine iteT ?_
      -- rest = deck[0][0]; deck[0][0] = rest // bound
      refine ⟨.ref D, rfl, D, _, 0, _, rfl, rfl, SqL.of g1, atI_nat (j := 0) rfl, A, _, 0, .int g, rfl, rfl, SqL.of g2, atI_nat (j := 0) rfl, ?_⟩
      refine ⟨.int g, rfl, .int b, rfl, g, b, rfl, rfl, ⟨by omega, by omega⟩, .ref D, rfl, D, _, 0, _, rfl, rfl, SqL.of g1, atI_nat (j := 0) rfl, A, _, 0, 0, rfl, rfl, g2, ixN0 (by simp), ?_⟩
      have e2 : ((g :: gr).map V.int).set 0 (.int (g / b)) = ((g / b) :: gr).map V.int := rfl
      rw [e2]
      have s1 : upd H1 A (.lst (((g / b) :: gr).map V.int)) D = some (.lst [.ref A, .ref B, .int n]) := by rw [upd_ne nda]; exact g1
      have s2 : upd H1 A (.lst (((g / b) :: gr).map V.int)) A = some (.lst (((g / b) :: gr).map V.int)) := upd_same
      have s3 : upd H1 A (.lst (((g / b) :: gr).map V.int)) B = some (.lst (cs.map V.int)) := by rw [upd_ne nab.symm]; exact g3
      have kp2 : Kp D A H (upd H1 A (.lst (((g / b) :: gr).map V.int))) := fun c o z n1 n2 => by rw [upd_ne n2]; exact kp1 c o z n1 n2
      generalize upd H1 A (.lst (((g / b) :: gr).map V.int)) = H2 at s1 s2 s3 kp2 ⊢
      have em0 : 0 ≤ g % b := Int.emod_nonneg _ (by omega)
      have em1 : g % b < b := Int.emod_lt_of_pos _ (by omega)
      -- if deck[0][0] == 0: deck[0].pop(0)
      refine ⟨.ref D, rfl, D, _, 0, _, rfl, rfl, SqL.of s1, atI_nat (j := 0) rfl, A, _, 0, .int (g / b), rfl, rfl, SqL.of s2, atI_nat (j := 0) rfl, rfl, _, rfl, ite2 (fun _ => ?_) (fun _ => ?_)⟩
      · refine ⟨.ref D, rfl, D, _, 0, _, rfl, rfl, SqL.of s1, atI_nat (j := 0) rfl, .inl ⟨rfl, _, SqL.of s2⟩, A, _, 0, 0, .int (g / b), rfl, rfl, s2, by decide, by decide, seqIx0 (by simp), rfl, ?_⟩
        have e3 : ((((g / b) :: gr).map V.int)).eraseIdx 0 = gr.map V.int := rfl
        rw [e3]
        refine ⟨.int g, rfl, .inl ⟨g, rfl, .int b, rfl, g, b, rfl, rfl, by omega, q _ _ em0 em1 ⟨⟨gr, cs, n, by rw [upd_ne nda]; exact s1, upd_same, by rw [upd_ne nab.symm]; exact s3, h4, by simp at h5; omega⟩, nda, ndb, nab⟩ (fun c o z n1 n2 => by rw [upd_ne n2]; exact kp2 c o z n1 n2)⟩⟩
      · refine ⟨.int g, rfl, .inl ⟨g, rfl, .int b, rfl, g, b, rfl, rfl, by omega, q _ _ em0 em1 ⟨⟨_, cs, n, s1, s2, s3, h4, by simpa using h5⟩, nda, ndb, nab⟩ kp2⟩⟩
    | nil =>
      have et : (!PyData.eqv (.list (([] : List Int).map PyData.int)) (.list [])) = false := rfl
      rw [et]
      refine iteF ?_
      -- deck[2] = deck[2] + 1
      refine ⟨.ref D, rfl, D, _, 2, _, rfl, rfl, SqL.of g1, atI_nat (j := 2) rfl, n, 1, rfl, rfl, .ref D, rfl, D, _, 2, 2, rfl, rfl, g1, rfl, ?_⟩
      have e2 : ([V.ref A, V.ref B, V.int n]).set 2 (.int (n + 1)) = [V.ref A, V.ref B, V.int (n + 1)] := rfl
      rw [e2]
      have s1 : upd H1 D (.lst [.ref A, .ref B, .int (n + 1)]) D = some (.lst [.ref A, .ref B, .int (n + 1)]) := upd_same
      have s2 : upd H1 D (.lst [.ref A, .ref B, .int (n + 1)]) A = some (.lst (([] : List Int).map V.int)) := by rw [upd_ne nda.symm]; exact g2
      have s3 : upd H1 D (.lst [.ref A, .ref B, .int (n + 1)]) B = some (.lst (cs.map V.int)) := by rw [upd_ne ndb.symm]; exact g3
      have kp2 : Kp D A H (upd H1 D (.lst [.ref A, .ref B, .int (n + 1)])) := fun c o z n1 n2 => by rw [upd_ne n1]; exact kp1 c o z n1 n2
      generalize upd H1 D (.lst [.ref A, .ref B, .int (n + 1)]) = H2 at s1 s2 s3 kp2 ⊢
      have hcl : 0 < cs.length := List.length_pos_iff.mpr h4
      have hj0 : 0 ≤ (n + 1) % ((cs.map V.int).length : Int) := Int.emod_nonneg _ (by rw [List.length_map]; omega)
      have hj1 : (n + 1) % ((cs.map V.int).length : Int) < ((cs.map V.int).length : Int) := Int.emod_lt_of_pos _ (by rw [List.length_map]; omega)
      obtain ⟨j, ej⟩ : ∃ j : Nat, (n + 1) % ((cs.map V.int).length : Int) = (j : Int) := ⟨((n + 1) % ((cs.map V.int).length : Int)).toNat, by omega⟩
      have hjl : j < cs.length := by
        rw [ej, List.length_map] at hj1
        omega
      have gj : (cs.map V.int)[j]? = some (.int cs[j]) := by rw [List.getElem?_map, List.getElem?_eq_getElem hjl] <;> rfl
      -- cell = ..
      refine ⟨.ref D, rfl, D, _, 1, _, rfl, rfl, SqL.of s1, atI_nat (j := 1) rfl, .ref D, rfl, D, _, 2, _, rfl, rfl, SqL.of s1, atI_nat (j := 2) rfl, .inl ⟨n + 1, rfl, ?_⟩⟩
      refine ⟨.ref D, rfl, D, _, 1, _, rfl, rfl, SqL.of s1, atI_nat (j := 1) rfl, B, _, rfl, .inl (SqL.of s3), n + 1, _, rfl, rfl, by rw [List.length_map]; omega, ?_⟩
      refine ⟨B, _, (j : Int), .int cs[j], rfl, congrArg V.int ej, SqL.of s3, atI_nat gj, ?_⟩
      -- mixed, twice
      refine ⟨_, rfl, .inl ⟨cs[j], rfl, cs[j], 4294966813, rfl, rfl, (by show (0 : Int) < 4294966813; decide), ?_⟩⟩
      refine ⟨.ref D, rfl, D, _, 2, _, rfl, rfl, SqL.of s1, atI_nat (j := 2) rfl, 2147483053, n + 1, rfl, rfl, .inl ⟨by decide, by decide⟩, _, _, rfl, rfl, .inl ⟨_, rfl, _, 4294966813, rfl, rfl, (by show (0 : Int) < 4294966813; decide), ?_⟩⟩
      obtain ⟨m, hm⟩ : ∃ m : Int, (cs[j] % 4294966813 + 2147483053 * (n + 1)) % 4294966813 = m := ⟨_, rfl⟩
      have m0 : 0 ≤ m := by rw [← hm]; exact Int.emod_nonneg _ (by decide)
      have m1 : m < 4294966813 := by rw [← hm]; exact Int.emod_lt_of_pos _ (by decide)
      refine ⟨_, rfl, _, rfl, m, m, congrArg V.int hm, congrArg V.int hm, .inl ⟨by omega, by omega⟩, .ref D, rfl, D, _, 2, _, rfl, rfl, SqL.of s1, atI_nat (j := 2) rfl, 66071, n + 1, rfl, rfl, .inl ⟨by decide, by decide⟩, _, _, rfl, rfl, .inl ⟨_, rfl, _, 4294966769, rfl, rfl, (by show (0 : Int) < 4294966769; decide), ?_⟩⟩
      obtain ⟨m2, hm2⟩ : ∃ m2 : Int, (m * m + 66071 * (n + 1)) % 4294966769 = m2 := ⟨_, rfl⟩
      have m20 : 0 ≤ m2 := by rw [← hm2]; exact Int.emod_nonneg _ (by decide)
      have m21 : m2 < 4294966769 := by rw [← hm2]; exact Int.emod_lt_of_pos _ (by decide)
      refine ⟨_, rfl, _, rfl, m2, m2, congrArg V.int hm2, congrArg V.int hm2, .inl ⟨by omega, by omega⟩, .inl ⟨_, rfl, _, 4294966667, rfl, rfl, (by show (0 : Int) < 4294966667; decide), _, 2048, rfl, rfl, ⟨by decide, by decide⟩, .int b, rfl, _, b, rfl, rfl, by omega, ?_⟩⟩
      exact q _ _ (Int.emod_nonneg _ (by omega)) (Int.emod_lt_of_pos _ (by omega)) ⟨⟨[], cs, n + 1, s1, s2, s3, h4, by simp⟩, nda, ndb, nab⟩ kp2
end
end FF
namespace FF
open PySem PySem.Spec PyProof.Rows L2 Evl
/-! ### the mathematics of ways -/
/-- the row of numbers from a on, each time the one above; at most n of them -/
def wayI (ab : List Int) : Nat → Int → List Int
  | 0, _ => []
  | n + 1, a => if a < 0 then [] else a :: wayI ab n (ab.getD a.toNat (-1))
/-- a tree: each stands behind the one above it -/
def WF (ab : List Int) : Prop := ∀ (i : Nat) (x : Int), ab[i]? = some x → -1 ≤ x ∧ x < (i : Int)
theorem WF.at {ab : List Int} (h : WF ab) (a : Int) (h0 : 0 ≤ a) : -1 ≤ ab.getD a.toNat (-1) ∧ ab.getD a.toNat (-1) < a := by
  rw [List.getD_eq_getElem?_getD]
  cases e : ab[a.toNat]? with
  | none => exact ⟨by simp, by simp; omega⟩
  | some x =>
    have q := h _ _ e
    have e2 : (a.toNat : Int) = a := by omega
    rw [e2] at q
    exact q
theorem wayI_neg {ab : List Int} {n : Nat} {a : Int} (h : a < 0) : wayI ab n a = [] := by
  cases n with
  | zero => rfl
  | succ n => unfold wayI; rw [if_pos h]
theorem wayI_stable {ab : List Int} (h : WF ab) : ∀ (n m : Nat) (a : Int), a < n → a < m → wayI ab n a = wayI ab m a
  | 0, m, a, h1, _ => by rw [wayI_neg (by omega), wayI_neg (by omega)]
  | n + 1, 0, a, _, h2 => by rw [wayI_neg (by omega), wayI_neg (by omega)]
  | n + 1, m + 1, a, h1, h2 => by
    unfold wayI
    by_cases hn : a < 0
    · rw [if_pos hn, if_pos hn]
    · rw [if_neg hn, if_neg hn]
      have q := h.at a (by omega)
      rw [wayI_stable h n m _ (by omega) (by omega)]
/-- one more turn -/
theorem wayI_more {ab : List Int} : ∀ (n : Nat) (a : Int), 0 ≤ a → ∃ z, (wayI ab (n + 1) a).getLast? = some z ∧ 0 ≤ z ∧
    wayI ab (n + 2) a = if 0 ≤ ab.getD z.toNat (-1) then wayI ab (n + 1) a ++ [ab.getD z.toNat (-1)] else wayI ab (n + 1) a
  | 0, a, h => by
    have e1 : wayI ab 1 a = [a] := by unfold wayI; rw [if_neg (by omega)]; rfl
    refine ⟨a, by rw [e1]; rfl, h, ?_⟩
    rw [e1]
    show wayI ab (1 + 1) a = _
    unfold wayI
    rw [if_neg (by omega)]
    by_cases c : 0 ≤ ab.getD a.toNat (-1)
    · rw [if_pos c]
      show a :: wayI ab (0 + 1) _ = _
      unfold wayI
      rw [if_neg (by omega)]
      rfl
    · rw [if_neg c, wayI_neg (by omega)]
  | n + 1, a, h => by
    have e1 : ∀ m, wayI ab (m + 1) a = a :: wayI ab m (ab.getD a.toNat (-1)) := fun m => by
      rw [wayI, if_neg (by omega)]
    by_cases c : 0 ≤ ab.getD a.toNat (-1)
    · obtain ⟨z, h1, h2, h3⟩ := wayI_more n (ab.getD a.toNat (-1)) c
      refine ⟨z, ?_, h2, ?_⟩
      · rw [e1 (n + 1), List.getLast?_cons, h1]
        rfl
      · rw [e1 (n + 2), h3, e1 (n + 1)]
        by_cases d : 0 ≤ ab.getD z.toNat (-1)
        · rw [if_pos d, if_pos d, List.cons_append]
        · rw [if_neg d, if_neg d]
    · refine ⟨a, ?_, h, ?_⟩
      · rw [e1 (n + 1), wayI_neg (by omega)]
        rfl
      · rw [e1 (n + 2), e1 (n + 1), wayI_neg (by omega), wayI_neg (by omega), if_neg c]
theorem wayI_mem {ab : List Int} (h : WF ab) : ∀ (n : Nat) (a x : Int), x ∈ wayI ab n a → 0 ≤ x ∧ x ≤ a
  | 0, _, _, hx => by simp [wayI] at hx
  | n + 1, a, x, hx => by
    unfold wayI at hx
    by_cases c : a < 0
    · rw [if_pos c] at hx; cases hx
    · rw [if_neg c] at hx
      have q := h.at a (by omega)
      rcases List.mem_cons.mp hx with e | e
      · subst e; omega
      · have r := wayI_mem h n _ x e
        omega
theorem wayI_len {ab : List Int} : ∀ (n : Nat) (a : Int), (wayI ab n a).length ≤ n
  | 0, _ => Nat.le_refl _
  | n + 1, a => by
    unfold wayI
    split
    · exact Nat.zero_le _
    · have := wayI_len (ab := ab) n (ab.getD a.toNat (-1))
      rw [List.length_cons]
      omega
/-- the whole way -/
def way (ab : List Int) (a : Int) : List Int := wayI ab (ab.length + 1) a
theorem way_step {ab : List Int} (h : WF ab) {a : Int} (h0 : 0 ≤ a) (h1 : a < ab.length) : way ab a = a :: way ab (ab.getD a.toNat (-1)) := by
  have q := h.at a h0
  unfold way
  rw [wayI, if_neg (by omega), wayI_stable h ab.length (ab.length + 1) _ (by omega) (by omega)]
theorem way_neg {ab : List Int} {a : Int} (h : a < 0) : way ab a = [] := wayI_neg h

/-! ### pairs in a row of the heap -/
/-- a pair of whole numbers stands at v -/
def PairAt (K : PySem.W.Frag) (H : Hp) (v : V) (p : Int × Int) : Prop := ∃ a, v = .ref a ∧ SqT K H a [.int p.1, .int p.2]
def PsAt (K : PySem.W.Frag) (H : Hp) (vs : List V) (ps : List (Int × Int)) : Prop := vs.length = ps.length ∧ ∀ (i : Nat) (v : V) (p : Int × Int), vs[i]? = some v → ps[i]? = some p → PairAt K H v p
theorem PsAt.ex {K : PySem.W.Frag} {H H' : Hp} {vs : List V} {ps : List (Int × Int)} (h : PsAt K H vs ps) (e : Ex H H') : PsAt K H' vs ps :=
  ⟨h.1, fun i v p h1 h2 => let ⟨a, e1, e2⟩ := h.2 i v p h1 h2; ⟨a, e1, ex_t e e2⟩⟩
theorem PsAt.get {K : PySem.W.Frag} {H : Hp} {vs : List V} {ps : List (Int × Int)} (h : PsAt K H vs ps) {i : Nat} {p : Int × Int} (hp : ps[i]? = some p) : ∃ a, vs[i]? = some (.ref a) ∧ SqT K H a [.int p.1, .int p.2] := by
  have hi : i < vs.length := by rw [h.1]; exact (List.getElem?_eq_some_iff.mp hp).1
  obtain ⟨a, e1, e2⟩ := h.2 i vs[i] p (List.getElem?_eq_getElem hi) hp
  exact ⟨a, by rw [List.getElem?_eq_getElem hi, e1], e2⟩
theorem PsAt.nil {K : PySem.W.Frag} {H : Hp} : PsAt K H [] [] := ⟨rfl, fun i v p h _ => by simp at h⟩
theorem PsAt.snoc {K : PySem.W.Frag} {H : Hp} {vs : List V} {ps : List (Int × Int)} (h : PsAt K H vs ps) {a : Addr} {p : Int × Int} (ha : SqT K H a [.int p.1, .int p.2]) : PsAt K H (vs ++ [.ref a]) (ps ++ [p]) := by
  refine ⟨by rw [List.length_append, List.length_append, h.1]; rfl, fun i v q h1 h2 => ?_⟩
  by_cases hi : i < vs.length
  · rw [List.getElem?_append_left hi] at h1
    rw [List.getElem?_append_left (by rw [← h.1]; exact hi)] at h2
    exact h.2 i v q h1 h2
  · have hi2 : i = vs.length := by
      have := (List.getElem?_eq_some_iff.mp h1).1
      rw [List.length_append] at this
      simp at this
      omega
    subst hi2
    rw [List.getElem?_append_right (Nat.le_refl _), Nat.sub_self] at h1
    rw [h.1, List.getElem?_append_right (Nat.le_refl _), Nat.sub_self] at h2
    simp at h1 h2
    subst h1 h2
    exact ⟨a, rfl, ha⟩
/-- as data -/
theorem PsAt.data {K : PySem.W.Frag} {H : Hp} : ∀ {vs : List V} {ps : List (Int × Int)}, PsAt K H vs ps → DpAll K H vs (ps.map fun p => .tuple [.int p.1, .int p.2])
  | [], [], _ => .nil
  | [], _ :: _, h => by have := h.1; simp at this
  | _ :: _, [], h => by have := h.1; simp at this
  | v :: vs, p :: ps, h => by
    obtain ⟨a, e1, e2⟩ := h.2 0 v p rfl rfl
    subst e1
    refine .cons (.tup e2 (.cons (.int _) (.cons (.int _) .nil))) (PsAt.data ⟨?_, fun i w q h1 h2 => h.2 (i + 1) w q (by simpa using h1) (by simpa using h2)⟩)
    have := h.1
    simpa using this

/-! ### _law_pick, _law_deck, _law_way -/
def spPick : Sp := fun vs H Q _ => ∃ (D A B I : Addr) (xs : List V), vs = [.ref D, .ref I] ∧ Deck D A B H ∧ H I = some (.lst xs) ∧ I ≠ D ∧ I ≠ A ∧ xs ≠ [] ∧ xs.length < 1000 ∧
  ∀ v H', v ∈ xs → Deck D A B H' → Kp D A H H' → Q v H'
section
variable {P : Program} {w : World} {K : PySem.W.Frag} {mg : Str → Option Value} {base : Heap}
theorem ok_pick {f fD : Addr} {fd fdD : FuncData} {k : Nat} (F : Fun K "_law_pick" "_law_pick" sPick f fd) (GD : FnOk P w K mg base CX0 k fD fdD ["_law_deck_here", "_law_bound"] spDraw) (bD : Binds K fdD ["_law_deck_here", "_law_bound"] [])
    (gD : mg "_law_draw" = some (.ref fD)) (kD : PySem.W.keepIn K (.ref fD) = true) (ml : mg "len" = none) : FnOk P w K mg base CX0 (k + 1) f fd ["_law_deck_here", "_law_items"] spPick := by
  refine F.ok scPick (fun vs H Q E h => ?_) (fun cdv A outer s H vs Q E hr h => ?_)
  · obtain ⟨D, A, B, I, xs, rfl, _⟩ := h
    rfl
  · obtain ⟨D, A, B, I, xs, rfl, dk, hI, n1, n2, ne, hl, q⟩ := h
    refine ⟨_, pss_one (ps_ret (pe_ix ix_list (pv 1) (pe_call GD hr (by rfl) gD kD bD .nil pass0 (pa_cons (pv 0) (pa_cons (pe_callB call_len_seq (by rfl) ml PySem.boot_len (pa_cons (pv 1) pa_nil)) pa_nil))) (fun _ _ => rfl))), ?_⟩
    have hx : 0 < xs.length := List.length_pos_iff.mpr ne
    refine ⟨.ref I, rfl, .ref D, rfl, .ref I, rfl, I, xs, rfl, .inl (SqL.of hI), D, A, B, xs.length, rfl, by omega, by omega, dk, fun r H' r0 r1 dk' kp => ?_⟩
    obtain ⟨j, rfl⟩ : ∃ j : Nat, r = (j : Int) := ⟨r.toNat, by omega⟩
    have hj : j < xs.length := by omega
    exact ⟨I, xs, (j : Int), xs[j], rfl, rfl, SqL.of (kp _ _ hI n1 n2), atI_nat (List.getElem?_eq_getElem hj), q _ _ (List.getElem_mem hj) dk' kp⟩

/-- the numbers without their signs -/
def absI (i : Int) : Int := if i < 0 then -i else i
def spDeck (K : PySem.W.Frag) : Sp := fun vs H Q _ => ∃ (a : Addr) (ns : List Int), vs = [.ref a] ∧ SqL K H a (ns.map V.int) ∧ ns.length ≤ 63 ∧ ∀ D A B H', Deck D A B H' → Ex H H' → H D = none → H A = none → Q (.ref D) H'
theorem none_ex {H H' : Hp} {p : Addr} (e : Ex H H') (n : H' p = none) : H p = none := by
  cases c : H p with
  | none => rfl
  | some o => rw [e _ _ c] at n; cases n
theorem cut63 (ns : List Int) (h : ns.length ≤ 63) : cutV (ns.map V.int) none (some 63) = ns.map V.int := by
  unfold cutV
  rw [show HT.sIx (ns.map V.int).length (ns.map V.int).length (some 63) = min 63 (ns.map V.int).length from HT.sIx_nat _ _ 63, HT.sIx_none, List.drop_zero, List.length_map, Nat.min_eq_right h, Nat.sub_zero]
  exact List.take_of_length_le (by rw [List.length_map]; exact Nat.le_refl _)
theorem ok_deck {f : Addr} {fd : FuncData} {k : Nat} (F : Fun K "_law_deck" "_law_deck" sDeck f fd) (ma : mg "abs" = none) (ml : mg "len" = none) : FnOk P w K mg base CX0 (k + 1) f fd ["_law_script"] (spDeck K) := by
  refine F.ok scDeck (fun vs H Q E h => ?_) (fun cdv A outer s H vs Q E hr h => ?_)
  · obtain ⟨a, ns, rfl, _⟩ := h
    rfl
  · obtain ⟨a, ns, rfl, hS, hlen, q⟩ := h
    refine ⟨_, pss_cons (ps_setLc (i := 1) (own := [("_law_cell", 2)]) (g := gName 2) (tt := tYes) (by rfl) scDeck.nd rfl rfl (sw_true rfl rfl rfl (by decide +kernel)) (pi_list (pe_slice sl_list (pv 0) po_none (po_some pe_int)))
        (blkOk_by (own := [("_law_cell", 2)]) (N := ["_law_script", "_law_cells", "_law_cell"]) (sc := defScope sDeck) (by decide +kernel)) (fun _ _ _ _ _ => pg_name (i := 2) scDeck.nd rfl (Or.inl rfl)) (fun _ _ _ _ _ => pts_nil)
        (fun _ _ _ _ _ => pe_callB call_abs (by rfl) ma (by decide +kernel) (pa_cons (pv 2) pa_nil)))
      (pss_one (ps_ret (pe_lst (pa_cons (pe_lc (own := [("_law_cell", 2)]) (g := gName 2) (by rfl) scDeck.nd (pi_list (pv 1))
          (blkOk_by (own := [("_law_cell", 2)]) (N := ["_law_script", "_law_cells", "_law_cell"]) (sc := defScope sDeck) (by decide +kernel)) (fun _ _ _ _ _ => pg_name (i := 2) scDeck.nd rfl (Or.inl rfl))
          (fun _ _ _ _ _ => pts_one (pt_cmpR op_ge (pv 2) (pe_op op_pow pe_int pe_int) (nomark _))) (fun _ _ _ _ _ => pv 2))
        (pa_cons (pe_op op_cat (pv 1) (pe_lst (pa_cons (pe_op op_add pe_int (pe_callB call_len_seq (by rfl) ml PySem.boot_len (pa_cons (pv 1) pa_nil))) pa_nil)))
        (pa_cons pe_int pa_nil)))))), ?_⟩
    -- cells
    refine ⟨_, rfl, 63, rfl, a, ns.map V.int, rfl, hS, fun c nc => ?_⟩
    have g0 : upd H c (.lst (cutV (ns.map V.int) none (some 63))) c = some (.lst (ns.map V.int)) := by rw [upd_same, cut63 ns hlen]
    have e0 : Ex H (upd H c (.lst (cutV (ns.map V.int) none (some 63)))) := Ex.new nc
    generalize upd H c (.lst (cutV (ns.map V.int) none (some 63))) = H1 at g0 e0 ⊢
    refine ⟨c, rfl, ⟨_, SqL.of g0⟩, fun D nD => ?_⟩
    have nDc : D ≠ c := (ne_of_none g0 nD).symm
    have nD0 : H D = none := none_ex e0 nD
    refine lc_list (K := K) (a := c) (xs := ns.map V.int) (fun i H' => H' c = some (.lst (ns.map V.int)) ∧ H' D = some (.lst (((ns.map absI).take i).map V.int)) ∧ Ex H H') ⟨by rw [upd_ne nDc.symm]; exact g0, upd_same, e0.mut nD0⟩ (fun i H' _ p => SqL.of p.1) (fun i x H' hx p => ?_) (fun H' p => ?_)
    · obtain ⟨z, hz, rfl⟩ : ∃ z, ns[i]? = some z ∧ x = V.int z := by
        rw [List.getElem?_map] at hx
        cases e : ns[i]? with
        | none => rw [e] at hx; cases hx
        | some z => rw [e] at hx; exact ⟨z, rfl, (Option.some.inj hx).symm⟩
      refine ⟨rfl, .int z, rfl, z, rfl, _, p.2.1, ?_, ?_, ?_, p.2.2.mut nD0⟩
      · rw [List.length_map, List.length_take]
        exact Nat.lt_of_le_of_lt (Nat.min_le_right _ _) (by rw [List.length_map]; exact small1000 (by omega))
      · rw [upd_ne nDc.symm]; exact p.1
      · rw [upd_same, List.take_add_one, List.getElem?_map, hz, List.map_append]
        rfl
    · obtain ⟨_, p2, ep⟩ := p
      rw [List.length_map, List.take_of_length_le (by rw [List.length_map]; exact Nat.le_refl _)] at p2
      -- the return
      refine ⟨.ref D, rfl, D, rfl, ⟨_, SqL.of p2⟩, fun G nG => ?_⟩
      have nGD : G ≠ D := (ne_of_none p2 nG).symm
      have nG0 : H G = none := none_ex ep nG
      refine lc_list (K := K) (a := D) (xs := (ns.map absI).map V.int) (fun i H2 => H2 D = some (.lst ((ns.map absI).map V.int)) ∧ Ex H H2 ∧ ∃ gs : List Int, gs.length ≤ i ∧ H2 G = some (.lst (gs.map V.int))) ⟨by rw [upd_ne nGD.symm]; exact p2, ep.mut nG0, [], Nat.zero_le _, upd_same⟩ (fun i H2 _ p => SqL.of p.1) (fun i x H2 hx p => ?_) (fun H2 p => ?_)
      · obtain ⟨z, rfl⟩ : ∃ z, x = V.int z := by
          rw [List.getElem?_map] at hx
          cases e : (ns.map absI)[i]? with
          | none => rw [e] at hx; cases hx
          | some z => rw [e] at hx; exact ⟨z, (Option.some.inj hx).symm⟩
        have hi : i < 63 := by
          have := (List.getElem?_eq_some_iff.mp hx).1
          rw [List.length_map, List.length_map] at this
          omega
        obtain ⟨q1, qe, gs, q2, q3⟩ := p
        refine ⟨rfl, .int z, rfl, 10, 18, rfl, rfl, ⟨by decide, by decide, by decide⟩, z, _, rfl, rfl, _, rfl, ite2 (fun _ => ?_) (fun _ => ?_)⟩
        · refine ⟨.int z, rfl, gs.map V.int, q3, by rw [List.length_map]; exact small1000 (by omega), by rw [upd_ne nGD.symm]; exact q1, qe.mut nG0, gs ++ [z], by rw [List.length_append]; simp; omega, ?_⟩
          rw [upd_same, List.map_append]
          rfl
        · exact ⟨q1, qe, gs, by omega, q3⟩
      · obtain ⟨q1, qe, gs, q2, q3⟩ := p
        rw [List.length_map, List.length_map] at q2
        -- cells + [11234 + len(cells)], 0
        refine ⟨.ref D, rfl, .ref D, rfl, D, _, rfl, .inl (SqL.of q1), 11234, _, rfl, rfl, (by show 1 ≤ sizeLine; decide), fun e ne => ?_⟩
        have neD : e ≠ D := (ne_of_none q1 ne).symm
        have neG : e ≠ G := (ne_of_none q3 ne).symm
        refine ⟨D, e, _, _, rfl, rfl, by rw [upd_ne neD.symm]; exact q1, upd_same, ?_, fun B nB => ?_⟩
        · rw [List.length_map, List.length_map]
          exact Nat.le_of_lt (small1000 (by simp; omega))
        have g1 : upd H2 e (.lst [.int (11234 + (((ns.map absI).map V.int).length : Int))]) G = some (.lst (gs.map V.int)) := by rw [upd_ne neG.symm]; exact q3
        have nBG : B ≠ G := (ne_of_none g1 nB).symm
        refine ⟨by show 3 ≤ sizeLine; decide, fun C nC => ?_⟩
        have nCB : C ≠ B := fun z => by rw [z, upd_same] at nC; cases nC
        have nCG : C ≠ G := fun z => by rw [z, upd_ne nBG.symm, g1] at nC; cases nC
        refine q C G B _ ⟨⟨gs, (ns.map absI) ++ [11234 + (((ns.map absI).map V.int).length : Int)], 0, upd_same, ?_, ?_, by simp, by omega⟩, nCG, nCB, nBG.symm⟩ (((qe.trans (Ex.new ne)).trans (Ex.new nB)).trans (Ex.new nC)) (none_ex ((qe.trans (Ex.new ne)).trans (Ex.new nB)) nC) nG0
        · rw [upd_ne nCG.symm, upd_ne nBG.symm]
          exact g1
        · rw [upd_ne nCB.symm, upd_same, List.map_append]
          rfl
end
end FF
namespace FF
open PySem PySem.Spec PyProof.Rows L2 Evl
/-! ### the heap beside the deck -/
section
variable {D A B p : Addr} {H H1 H2 G : Hp} {o : HO}
theorem Kp.hid (k : Kp D A H H1) : Ex (hid D A H) (hid D A H1) := fun b o h => by
  obtain ⟨h1, n1, n2⟩ := of_hid h
  exact hid_of (k b o h1 n1 n2) n1 n2
theorem kp_of_hid (e : Ex (hid D A H) (hid D A H1)) : Kp D A H H1 := fun b o h n1 n2 => (of_hid (e b o (hid_of h n1 n2))).1
theorem ex_hid : Ex (hid D A H) H := fun _ _ h => (of_hid h).1
theorem hidEx (e : Ex H H1) : Ex (hid D A H) (hid D A H1) := (Kp.of e).hid
theorem Deck.hidNew (dk : Deck D A B H) (n : H p = none) : Ex (hid D A H) (hid D A (upd H p o)) ∧ hid D A (upd H p o) p = some o :=
  ⟨hidEx (Ex.new n), hid_of upd_same (dk.ne n).1 (dk.ne n).2.1⟩
theorem hid_none (n : H p = none) : hid D A H p = none := by
  unfold FF.hid
  split
  · rfl
  · exact n
theorem hid_upd (n1 : p ≠ D) (n2 : p ≠ A) : hid D A (upd H p o) = upd (hid D A H) p o := by
  funext b
  unfold FF.hid upd
  by_cases c : b = p
  · subst c
    rw [if_neg (fun z => z.elim n1 n2), if_pos rfl, if_pos rfl]
  · rw [if_neg c, if_neg c]
/-- a list that the deck has no part in is written -/
theorem Deck.put (dk : Deck D A B H) (hB : ∃ vs, H p = some (.lst vs)) (n1 : p ≠ D) (n2 : p ≠ A) (n3 : p ≠ B) : Deck D A B (upd H p o) := by
  obtain ⟨⟨gs, cs, n, h1, h2, h3, h4, h5⟩, a, b, c⟩ := dk
  exact ⟨⟨gs, cs, n, by rw [upd_ne n1.symm]; exact h1, by rw [upd_ne n2.symm]; exact h2, by rw [upd_ne n3.symm]; exact h3, h4, h5⟩, a, b, c⟩
end
/-- a list of pairs' addresses is written: the pairs stand -/
theorem psList {K : PySem.W.Frag} {H : Hp} {p : Addr} {vs ws us : List V} {ps : List (Int × Int)} (g : H p = some (.lst us)) (h : PsAt K H ws ps) : PsAt K (upd H p (.lst vs)) ws ps := by
  refine ⟨h.1, fun i v q h1 h2 => ?_⟩
  obtain ⟨a, e1, e2⟩ := h.2 i v q h1 h2
  refine ⟨a, e1, ?_⟩
  rcases e2 with (e2 | ⟨o, e2⟩) | e2
  · exact .inl (.inl (by rw [upd_ne (ne_of e2 g (fun z => nomatch z))]; exact e2))
  · by_cases c : a = p
    · subst c
      rw [g] at e2
      cases e2
    · exact .inl (.inr ⟨o, by rw [upd_ne c]; exact e2⟩)
  · exact .inr e2
end FF
namespace FF
open PySem PySem.Spec PyProof.Rows L2 Evl

/-! ### values of all kinds, read as data -/
def keyD : Key → PyData
  | .inl i => .int i
  | .inr x => .str x
mutual
inductive Dq (K : PySem.W.Frag) (H : Hp) : V → PyData → Prop
  | non : Dq K H .non .none
  | bl (b : Bool) : Dq K H (.bl b) (.bool b)
  | int (i : Int) : Dq K H (.int i) (.int i)
  | str (x : Str) : Dq K H (.str x) (.str x)
  | lst {a : Addr} {xs : List V} {ds : List PyData} : SqL K H a xs → a ≠ sysModules → DqA K H xs ds → Dq K H (.ref a) (.list ds)
  | tup {a : Addr} {xs : List V} {ds : List PyData} : SqT K H a xs → DqA K H xs ds → Dq K H (.ref a) (.tuple ds)
  | dct {a : Addr} {kvs : List (Key × V)} {ds : List (PyData × PyData)} : H a = some (.dK kvs) → DqK K H kvs ds → Dq K H (.ref a) (.dict ds)
inductive DqA (K : PySem.W.Frag) (H : Hp) : List V → List PyData → Prop
  | nil : DqA K H [] []
  | cons {v : V} {vs : List V} {d : PyData} {ds : List PyData} : Dq K H v d → DqA K H vs ds → DqA K H (v :: vs) (d :: ds)
inductive DqK (K : PySem.W.Frag) (H : Hp) : List (Key × V) → List (PyData × PyData) → Prop
  | nil : DqK K H [] []
  | cons {k : Key} {v : V} {r : List (Key × V)} {d : PyData} {ds : List (PyData × PyData)} : Dq K H v d → DqK K H r ds → DqK K H ((k, v) :: r) ((keyD k, d) :: ds)
end
section
variable {K : PySem.W.Frag} {H H' : Hp}
mutual
theorem Dq.ex (e : Ex H H') : ∀ (d : PyData) (v : V), Dq K H v d → Dq K H' v d
  | .none, _, h => by cases h; exact .non
  | .bool b, _, h => by cases h; exact .bl b
  | .int i, _, h => by cases h; exact .int i
  | .str x, _, h => by cases h; exact .str x
  | .list ds, _, h => by
    cases h with
    | lst a n b => exact .lst (ex_l e a) n (DqA.ex e ds _ b)
  | .tuple ds, _, h => by
    cases h with
    | tup a b => exact .tup (ex_t e a) (DqA.ex e ds _ b)
  | .dict ds, _, h => by
    cases h with
    | dct a b => exact .dct (e _ _ a) (DqK.ex e ds _ b)
theorem DqA.ex (e : Ex H H') : ∀ (ds : List PyData) (vs : List V), DqA K H vs ds → DqA K H' vs ds
  | [], _, h => by cases h; exact .nil
  | d :: ds, _, h => by
    cases h with
    | cons a b => exact .cons (Dq.ex e d _ a) (DqA.ex e ds _ b)
theorem DqK.ex (e : Ex H H') : ∀ (ds : List (PyData × PyData)) (vs : List (Key × V)), DqK K H vs ds → DqK K H' vs ds
  | [], _, h => by cases h; exact .nil
  | (_, d) :: ds, _, h => by
    cases h with
    | cons a b => exact .cons (Dq.ex e d _ a) (DqK.ex e ds _ b)
end
theorem DqA.len : ∀ {ds : List PyData} {vs : List V}, DqA K H vs ds → vs.length = ds.length
  | [], _, h => by cases h; rfl
  | d :: ds, _, h => by
    cases h with
    | cons a b => rw [List.length_cons, List.length_cons, DqA.len b]
theorem DqA.app : ∀ {ds es : List PyData} {vs ws : List V}, DqA K H vs ds → DqA K H ws es → DqA K H (vs ++ ws) (ds ++ es)
  | [], _, _, _, h, g => by cases h; exact g
  | d :: ds, _, _, _, h, g => by
    cases h with
    | cons a b => exact .cons a (DqA.app b g)
theorem DqA.take : ∀ (n : Nat) {ds : List PyData} {vs : List V}, DqA K H vs ds → DqA K H (vs.take n) (ds.take n)
  | 0, _, _, _ => .nil
  | n + 1, [], _, h => by cases h; exact .nil
  | n + 1, d :: ds, _, h => by
    cases h with
    | cons a b => exact .cons a (DqA.take n b)
theorem DqA.drop : ∀ (n : Nat) {ds : List PyData} {vs : List V}, DqA K H vs ds → DqA K H (vs.drop n) (ds.drop n)
  | 0, _, _, h => h
  | n + 1, [], _, h => by cases h; exact .nil
  | n + 1, d :: ds, _, h => by
    cases h with
    | cons a b => exact DqA.drop n b
theorem DqA.rev : ∀ {ds : List PyData} {vs : List V}, DqA K H vs ds → DqA K H vs.reverse ds.reverse
  | [], _, h => by cases h; exact .nil
  | d :: ds, _, h => by
    cases h with
    | cons a b =>
      rw [List.reverse_cons, List.reverse_cons]
      exact (DqA.rev b).app (.cons a .nil)
theorem DqA.get : ∀ {ds : List PyData} {vs : List V} (i : Nat) {v : V}, DqA K H vs ds → vs[i]? = some v → ∃ d, ds[i]? = some d ∧ Dq K H v d
  | [], _, i, v, h, e => by cases h; simp at e
  | d :: ds, _, 0, v, h, e => by
    cases h with
    | cons a b =>
      have ev := Option.some.inj (show some _ = some v from e)
      subst ev
      exact ⟨d, rfl, a⟩
  | d :: ds, _, i + 1, v, h, e => by
    cases h with
    | cons a b =>
      obtain ⟨d', h1, h2⟩ := DqA.get i b (by simpa using e)
      exact ⟨d', by simpa using h1, h2⟩
theorem DqA.getD : ∀ {ds : List PyData} {vs : List V} (i : Nat) {d : PyData}, DqA K H vs ds → ds[i]? = some d → ∃ v, vs[i]? = some v ∧ Dq K H v d := fun {ds vs} i {d} h e => by
  have hi : i < vs.length := by rw [h.len]; exact (List.getElem?_eq_some_iff.mp e).1
  obtain ⟨d', h1, h2⟩ := h.get i (List.getElem?_eq_getElem hi)
  have : d' = d := Option.some.inj (h1.symm.trans e)
  subst this
  exact ⟨_, List.getElem?_eq_getElem hi, h2⟩
end
section
variable {X : Cx} {pins : List (Addr × Obj)} {σ : L2.St} {H : Hp} {s : Shared}
theorem pairs_read {P : Program} {w : World} : ∀ {es : List DictEntry} {ws : List (Key × Value)}, Pairs (mixKind P w) es ws → Paired (fun (e : DictEntry) (q : Key × Value) => keyIs q.1 e.key = true ∧ e.val = q.2) es ws
  | _, _, .nil => .nil
  | _, _, .cons a b c => .cons ⟨a, b⟩ (pairs_read c)
mutual
theorem Dq.reads (I : Inv X pins σ H s) : ∀ (d : PyData) (v : V) (u : Value), Dq X.K H v d → RelV v u → ∃ as, Reads s.heap u d as ∧ sysModules ∉ as
  | .none, _, _, h, r => by
    cases h; cases r
    exact ⟨_, Reads.none, List.not_mem_nil⟩
  | .bool b, _, _, h, r => by
    cases h; cases r
    exact ⟨_, Reads.bool b, List.not_mem_nil⟩
  | .int i, _, _, h, r => by
    cases h
    obtain ⟨t, rfl⟩ := r
    exact ⟨_, Reads.int i t, List.not_mem_nil⟩
  | .str x, _, _, h, r => by
    cases h
    obtain ⟨t, rfl⟩ := r
    exact ⟨_, Reads.str x t, List.not_mem_nil⟩
  | .list ds, _, _, h, r => by
    cases h with
    | lst hs ne ha =>
      cases r
      obtain ⟨its, rv, ⟨o, n, ho, hc, _, hd⟩, _⟩ := I.list hs
      obtain ⟨as, hr, hn⟩ := DqA.reads I ds _ its ha rv
      exact ⟨_, Reads.list ho hc hd hr, fun z => (List.mem_cons.mp z).elim (fun q => ne q.symm) hn⟩
  | .tuple ds, _, _, h, r => by
    cases h with
    | tup hs ha =>
      cases r
      obtain ⟨its, rv, ⟨o, ho, hc, n, hd⟩, _⟩ := I.tuple hs
      obtain ⟨as, hr, hn⟩ := DqA.reads I ds _ its ha rv
      exact ⟨_, Reads.tuple ho hc hd hr, hn⟩
  | .dict ds, _, _, h, r => by
    cases h with
    | @dct a kvs _ hs ha =>
      cases r
      obtain ⟨hz, hsys, ws, kv, o, es, ep, ho, hx, hd, _, hp, _⟩ := I.hok a _ hs
      obtain ⟨as, bs, h1, h2, h3, h4⟩ := DqK.reads I ds kvs ws es.toList ha kv (pairs_read hp)
      refine ⟨_, Reads.dict ho hx.1 hd h1 h2, fun z => ?_⟩
      rcases List.mem_append.mp z with z | z
      · rcases List.mem_cons.mp z with z | z
        · rw [z] at hsys
          simp at hsys
        · exact h3 z
      · exact h4 z
theorem DqA.reads (I : Inv X pins σ H s) : ∀ (ds : List PyData) (vs : List V) (us : List Value), DqA X.K H vs ds → Vals vs us → ∃ as, ReadsAll s.heap us ds as ∧ sysModules ∉ as
  | [], _, _, h, r => by
    cases h; cases r
    exact ⟨_, ReadsAll.nil, List.not_mem_nil⟩
  | d :: ds, _, _, h, r => by
    cases h with
    | cons h1 h2 =>
      cases r with
      | cons r1 r2 =>
        obtain ⟨as, q1, n1⟩ := Dq.reads I d _ _ h1 r1
        obtain ⟨bs, q2, n2⟩ := DqA.reads I ds _ _ h2 r2
        exact ⟨_, ReadsAll.cons q1 q2, fun z => (List.mem_append.mp z).elim n1 n2⟩
theorem DqK.reads (I : Inv X pins σ H s) : ∀ (ds : List (PyData × PyData)) (kvs : List (Key × V)) (ws : List (Key × Value)) (es : List DictEntry), DqK X.K H kvs ds → KV kvs ws → Paired (fun (e : DictEntry) (q : Key × Value) => keyIs q.1 e.key = true ∧ e.val = q.2) es ws →
    ∃ as bs, ReadsAll s.heap (es.map (·.key)) (ds.map (·.1)) as ∧ ReadsAll s.heap (es.map (·.val)) (ds.map (·.2)) bs ∧ sysModules ∉ as ∧ sysModules ∉ bs
  | [], _, _, _, h, r, p => by
    cases h; cases r; cases p
    exact ⟨_, _, ReadsAll.nil, ReadsAll.nil, List.not_mem_nil, List.not_mem_nil⟩
  | (_, d) :: ds, _, _, _, h, r, p => by
    cases h with
    | @cons k v kr _ _ h1 h2 =>
      cases r with
      | @cons _ q _ qr r1 r2 =>
        cases p with
        | @cons e _ er _ p1 p2 =>
          obtain ⟨k1, w1⟩ := q
          obtain ⟨e1, e2⟩ := r1
          obtain ⟨p3, p4⟩ := p1
          replace e1 : k = k1 := e1
          replace e2 : RelV v w1 := e2
          replace p3 : keyIs k1 e.key = true := p3
          replace p4 : e.val = w1 := p4
          subst e1 p4
          obtain ⟨bs, q2, n2⟩ := Dq.reads I d _ _ h1 e2
          obtain ⟨as', bs', q3, q4, n3, n4⟩ := DqK.reads I ds _ _ _ h2 r2 p2
          have q1 : Reads s.heap e.key (keyD k) [] := by
            rcases keyIs_shape p3 with ⟨i, t, rfl, ek⟩ | ⟨x, t, rfl, ek⟩
            · rw [ek]; exact Reads.int i t
            · rw [ek]; exact Reads.str x t
          refine ⟨[] ++ as', bs ++ bs', ?_, ?_, n3, fun z => (List.mem_append.mp z).elim n2 n4⟩
          · rw [List.map_cons, List.map_cons]
            exact ReadsAll.cons q1 q3
          · rw [List.map_cons, List.map_cons]
            exact ReadsAll.cons q2 q4
end
end

/-! ### what can be shown by repr -/
structure Sv (W k : Nat) (d : PyData) : Prop where
  sh : d.showable = true
  lf : d.leavesShort 40 = true
  wt : d.weight ≤ W
  dp : d.depth ≤ k
structure SvA (W k : Nat) (ds : List PyData) : Prop where
  sh : PyData.showableAll ds = true
  lf : PyData.leavesShortAll 40 ds = true
  wt : PyData.weightAll ds ≤ W
  dp : PyData.depthAll ds ≤ k
theorem Sv.mono {W k W' k' : Nat} {d : PyData} (h : Sv W k d) (h1 : W ≤ W') (h2 : k ≤ k') : Sv W' k' d := ⟨h.sh, h.lf, Nat.le_trans h.wt h1, Nat.le_trans h.dp h2⟩
theorem SvA.mono {W k W' k' : Nat} {d : List PyData} (h : SvA W k d) (h1 : W ≤ W') (h2 : k ≤ k') : SvA W' k' d := ⟨h.sh, h.lf, Nat.le_trans h.wt h1, Nat.le_trans h.dp h2⟩
theorem SvA.nil {k : Nat} : SvA 0 k [] := ⟨rfl, rfl, Nat.le_refl _, Nat.zero_le _⟩
theorem SvA.cons {W V k j : Nat} {d : PyData} {ds : List PyData} (h : Sv W k d) (t : SvA V j ds) : SvA (W + 1 + V) (max k j) (d :: ds) := by
  refine ⟨?_, ?_, ?_, ?_⟩
  · simp only [PyData.showableAll, h.sh, t.sh, Bool.and_self]
  · simp only [PyData.leavesShortAll, h.lf, t.lf, Bool.and_self]
  · have a := h.wt
    have b := t.wt
    simp only [PyData.weightAll]
    omega
  · simp only [PyData.depthAll]
    have a := h.dp
    have b := t.dp
    omega
theorem SvA.app {W V k j : Nat} : ∀ {ds es : List PyData}, SvA W k ds → SvA V j es → SvA (W + V) (max k j) (ds ++ es)
  | [], es, a, b => b.mono (Nat.le_add_left _ _) (Nat.le_max_right _ _)
  | d :: ds, es, a, b => by
    have h1 := a.sh
    have h2 := a.lf
    have h3 := a.wt
    have h4 := a.dp
    simp only [PyData.showableAll, Bool.and_eq_true] at h1
    simp only [PyData.leavesShortAll, Bool.and_eq_true] at h2
    simp only [PyData.weightAll] at h3
    simp only [PyData.depthAll] at h4
    have t : SvA (W - d.weight - 1) k ds := ⟨h1.2, h2.2, by omega, by omega⟩
    have r := SvA.cons (W := d.weight) (k := k) ⟨h1.1, h2.1, Nat.le_refl _, by omega⟩ (t.app b)
    exact r.mono (by omega) (by omega)
theorem SvA.sub {W k : Nat} : ∀ {ds : List PyData}, SvA W k ds → (∀ d ∈ ds, Sv W k d)
  | [], _, d, hd => nomatch hd
  | x :: ds, a, d, hd => by
    have h1 := a.sh
    have h2 := a.lf
    have h3 := a.wt
    have h4 := a.dp
    simp only [PyData.showableAll, Bool.and_eq_true] at h1
    simp only [PyData.leavesShortAll, Bool.and_eq_true] at h2
    simp only [PyData.weightAll] at h3
    simp only [PyData.depthAll] at h4
    rcases List.mem_cons.mp hd with e | e
    · subst e
      exact ⟨h1.1, h2.1, by omega, by omega⟩
    · exact SvA.sub (ds := ds) ⟨h1.2, h2.2, by omega, by omega⟩ d e
theorem SvA.all {W k : Nat} : ∀ {ds : List PyData}, (∀ d ∈ ds, Sv W k d) → SvA ((W + 1) * ds.length) k ds
  | [], _ => by simpa using (SvA.nil (k := k))
  | d :: ds, h => by
    have t := SvA.cons (h d (List.mem_cons_self ..)) (SvA.all (ds := ds) fun x hx => h x (List.mem_cons_of_mem _ hx))
    have e : W + 1 + (W + 1) * ds.length = (W + 1) * (d :: ds).length := by
      rw [List.length_cons, Nat.mul_add, Nat.mul_one, Nat.add_comm]
    rw [e] at t
    exact t.mono (Nat.le_refl _) (by omega)
theorem SvA.drop {W k : Nat} : ∀ (n : Nat) {ds : List PyData}, SvA W k ds → SvA W k (ds.drop n)
  | 0, _, a => a
  | n + 1, [], a => a
  | n + 1, d :: ds, a => by
    have h1 := a.sh
    have h2 := a.lf
    have h3 := a.wt
    have h4 := a.dp
    simp only [PyData.showableAll, Bool.and_eq_true] at h1
    simp only [PyData.leavesShortAll, Bool.and_eq_true] at h2
    simp only [PyData.weightAll] at h3
    simp only [PyData.depthAll] at h4
    exact SvA.drop n (ds := ds) ⟨h1.2, h2.2, by omega, by omega⟩
theorem SvA.take {W k : Nat} : ∀ (n : Nat) {ds : List PyData}, SvA W k ds → SvA W k (ds.take n)
  | 0, _, a => SvA.nil.mono (Nat.zero_le _) (Nat.le_refl _)
  | n + 1, [], a => a
  | n + 1, d :: ds, a => by
    have h1 := a.sh
    have h2 := a.lf
    have h3 := a.wt
    have h4 := a.dp
    simp only [PyData.showableAll, Bool.and_eq_true] at h1
    simp only [PyData.leavesShortAll, Bool.and_eq_true] at h2
    simp only [PyData.weightAll] at h3
    simp only [PyData.depthAll] at h4
    have t : SvA (W - d.weight - 1) k (ds.take n) := SvA.take n (ds := ds) ⟨h1.2, h2.2, by omega, by omega⟩
    rw [List.take_succ_cons]
    exact (SvA.cons (W := d.weight) (k := k) ⟨h1.1, h2.1, Nat.le_refl _, by omega⟩ t).mono (by omega) (by omega)
theorem SvA.rev {W k : Nat} : ∀ {ds : List PyData}, SvA W k ds → SvA W k ds.reverse
  | [], a => a
  | d :: ds, a => by
    have h1 := a.sh
    have h2 := a.lf
    have h3 := a.wt
    have h4 := a.dp
    simp only [PyData.showableAll, Bool.and_eq_true] at h1
    simp only [PyData.leavesShortAll, Bool.and_eq_true] at h2
    simp only [PyData.weightAll] at h3
    simp only [PyData.depthAll] at h4
    have t : SvA (W - d.weight - 1) k ds.reverse := SvA.rev (ds := ds) ⟨h1.2, h2.2, by omega, by omega⟩
    rw [List.reverse_cons]
    exact (t.app (SvA.cons (W := d.weight) (k := k) ⟨h1.1, h2.1, Nat.le_refl _, by omega⟩ (SvA.nil (k := k)))).mono (by omega) (by omega)
theorem SvA.rep {W k : Nat} {ds : List PyData} (h : SvA W k ds) : ∀ n : Nat, SvA (n * W) k (List.replicate n ds).flatten
  | 0 => by simpa using (SvA.nil (k := k))
  | n + 1 => by
    rw [List.replicate_succ, List.flatten_cons]
    exact (h.app (SvA.rep h n)).mono (by rw [Nat.add_mul]; omega) (by omega)
theorem Sv.tup {W k : Nat} {ds : List PyData} (h : SvA W k ds) : Sv W (k + 1) (.tuple ds) := by
  refine ⟨?_, ?_, ?_, ?_⟩
  · simp only [PyData.showable, h.sh]
  · simp only [PyData.leavesShort, h.lf]
  · simp only [PyData.weight]; exact h.wt
  · simp only [PyData.depth]; have := h.dp; omega
theorem Sv.lst {W k : Nat} {ds : List PyData} (h : SvA W k ds) : Sv W (k + 1) (.list ds) := by
  refine ⟨?_, ?_, ?_, ?_⟩
  · simp only [PyData.showable, h.sh]
  · simp only [PyData.leavesShort, h.lf]
  · simp only [PyData.weight]; exact h.wt
  · simp only [PyData.depth]; have := h.dp; omega
theorem Sv.items {W k : Nat} {ds : List PyData} (h : Sv W k (.tuple ds)) : SvA W k ds := by
  refine ⟨?_, ?_, ?_, ?_⟩
  · have := h.sh; simpa only [PyData.showable] using this
  · have := h.lf; simpa only [PyData.leavesShort] using this
  · have := h.wt; simpa only [PyData.weight] using this
  · have := h.dp
    simp only [PyData.depth] at this
    omega
theorem Sv.int {k : Nat} {i : Int} (h : i.natAbs < 2 ^ 110) : Sv 110 k (.int i) := by
  have hl : i.natAbs.log2 < 110 := log2_lt_of (by decide) h
  refine ⟨?_, ?_, ?_, Nat.zero_le _⟩
  · simp only [PyData.showable, decide_eq_true_eq]
    omega
  · simp only [PyData.leavesShort, decide_eq_true_eq]
    show (Str.ofString (toString i)).length ≤ 40
    rw [PySem.ofString_length]
    have h2 : i.natAbs < 10 ^ 39 := Nat.lt_trans h (by decide)
    exact int_text_length_le10 (k := 39) (by decide) h2
  · simp only [PyData.weight]
    split
    · exact Nat.zero_le _
    · omega
theorem Sv.non {k : Nat} : Sv 0 k .none := ⟨rfl, rfl, Nat.le_refl _, Nat.zero_le _⟩
theorem Sv.bl {k : Nat} {b : Bool} : Sv 0 k (.bool b) := ⟨rfl, rfl, Nat.le_refl _, Nat.zero_le _⟩
theorem Sv.str {k : Nat} {x : Str} (h : (x.cps.toList.all fun c => decide (c < 1000)) = true) (hl : x.length ≤ 40) : Sv 40 k (.str x) := by
  refine ⟨rfl, ?_, hl, Nat.zero_le _⟩
  simp only [PyData.leavesShort, List.all_eq_true, decide_eq_true_eq]
  intro c hc
  have := List.all_eq_true.mp h c hc
  simp at this
  have e : (16 : Nat) ^ 8 = 4294967296 := by decide
  omega
theorem Sv.fits {W k : Nat} {d : PyData} (h : Sv W k d) (hW : W ≤ 300000) : d.shown.length ≤ sizeLine := by
  have a := PyData.shown_le 40 (by decide) d h.lf
  have b := h.wt
  have c : (40 + 2) * d.weight ≤ 42 * 300000 := Nat.mul_le_mul (by decide) (by omega)
  have e : sizeLine = 16777216 := by decide
  omega

/-- repr of any such value -/
def rReprV (K : PySem.W.Frag) : List V → Hp → VK → Prop := fun xs H Q => ∃ x d, xs = [x] ∧ Dq K H x d ∧ Sv 300000 60 d ∧ Q (.str d.shown) H
theorem callReprV {X : Cx} (hg : X.A.guards = some []) (hu : X.A.units + 64 < cLine) : CallR X (.builtin "repr") (rReprV X.K) := by
  intro pins s σ H xs us Q I r h
  obtain ⟨x, d, rfl, hd, hs, q⟩ := h
  have ft := hs.fits (Nat.le_refl _)
  cases r with
  | cons r1 r2 =>
    cases r2
    cases x with
    | non =>
      cases hd
      cases (show _ = Value.none from r1)
      exact PySem.P.repr_of_none ⟨.str _, H, I.tok _, ⟨_, rfl⟩, q⟩
    | bl b =>
      cases hd
      cases (show _ = Value.bool b from r1)
      exact PySem.P.repr_of_bool ⟨.str _, H, I.tok _, ⟨_, rfl⟩, q⟩
    | int i =>
      cases hd
      obtain ⟨t, rfl⟩ := r1
      have := hs.sh
      simp only [PyData.showable, decide_eq_true_eq] at this
      exact PySem.P.repr_of_int this ⟨.str _, H, I.tok _, ⟨_, rfl⟩, q⟩
    | str z =>
      cases hd
      obtain ⟨t, rfl⟩ := r1
      exact PySem.P.repr_of_str ⟨.str _, H, I.tok _, ⟨_, rfl⟩, q⟩ ft
    | ref a =>
      obtain ⟨as, rd, nsys⟩ := Dq.reads I d (.ref a) _ hd r1
      cases (show _ = Value.ref a from r1)
      have hdp := hs.dp
      refine repr_of_reads' rd hs.sh (fun _ => nsys) hg (by omega) (fun _ _ e => e) (fun h' u tk hk => ?_) ft
      exact ⟨.str d.shown, H, I.kept hk, ⟨_, rfl⟩, q⟩
    | byt _ => cases hd
    | flt _ => cases hd
    | ty _ => cases hd

/-! ### isinstance on such values -/
def tyD : PyData → String
  | .none => "NoneType"
  | .bool _ => "bool"
  | .int _ => "int"
  | .str _ => "str"
  | .list _ => "list"
  | .tuple _ => "tuple"
  | .dict _ => "dict"
theorem dqTy {K : PySem.W.Frag} {H : Hp} {v : V} {d : PyData} (h : Dq K H v d) : TyX K H v (.type (tyD d)) := by
  cases h with
  | non => exact .base .non
  | bl b => exact .base (.bl b)
  | int i => exact .base (.int i)
  | str x => exact .base (.str x)
  | lst a _ _ =>
    rcases a with (a | ⟨o, a⟩) | ⟨o, its, n, hk, hc, _⟩
    · exact .base (.lst a)
    · exact .base (.frz a)
    · exact .kList hk hc
  | tup a _ =>
    rcases a with (a | ⟨o, a⟩) | ⟨o, its, n, hk, hc, _⟩
    · exact .base (.tup a)
    · exact .fTuple a
    · exact .kTuple hk hc
  | dct a _ => exact .base (.dK a)
def isTupD : PyData → Bool
  | .tuple _ => true
  | _ => false
def isIntT : PyData → Bool
  | .int _ => true
  | .bool _ => true
  | _ => false
def isBoolD : PyData → Bool
  | .bool _ => true
  | _ => false
theorem kitTup : ∀ d : PyData, kitB (tyD d) "tuple" = some (isTupD d)
  | .none => (by decide +kernel : kitB "NoneType" "tuple" = some false)
  | .bool _ => (by decide +kernel : kitB "bool" "tuple" = some false)
  | .int _ => (by decide +kernel : kitB "int" "tuple" = some false)
  | .str _ => (by decide +kernel : kitB "str" "tuple" = some false)
  | .list _ => (by decide +kernel : kitB "list" "tuple" = some false)
  | .tuple _ => (by decide +kernel : kitB "tuple" "tuple" = some true)
  | .dict _ => (by decide +kernel : kitB "dict" "tuple" = some false)
theorem kitInt : ∀ d : PyData, kitB (tyD d) "int" = some (isIntT d)
  | .none => (by decide +kernel : kitB "NoneType" "int" = some false)
  | .bool _ => (by decide +kernel : kitB "bool" "int" = some true)
  | .int _ => (by decide +kernel : kitB "int" "int" = some true)
  | .str _ => (by decide +kernel : kitB "str" "int" = some false)
  | .list _ => (by decide +kernel : kitB "list" "int" = some false)
  | .tuple _ => (by decide +kernel : kitB "tuple" "int" = some false)
  | .dict _ => (by decide +kernel : kitB "dict" "int" = some false)
theorem kitBool : ∀ d : PyData, kitB (tyD d) "bool" = some (isBoolD d)
  | .none => (by decide +kernel : kitB "NoneType" "bool" = some false)
  | .bool _ => (by decide +kernel : kitB "bool" "bool" = some true)
  | .int _ => (by decide +kernel : kitB "int" "bool" = some false)
  | .str _ => (by decide +kernel : kitB "str" "bool" = some false)
  | .list _ => (by decide +kernel : kitB "list" "bool" = some false)
  | .tuple _ => (by decide +kernel : kitB "tuple" "bool" = some false)
  | .dict _ => (by decide +kernel : kitB "dict" "bool" = some false)
/-- isinstance(x, tuple) .. -/
theorem isiV {K : PySem.W.Frag} {H : Hp} {v : V} {d : PyData} {T : String} {b : Bool} {Q : VK} (h : Dq K H v d) (k : kitB (tyD d) T = some b) (q : Q (.bl b) H) : rIsi K [v, .ty T] H Q :=
  ⟨v, .ty T, _, _, b, rfl, .ty T, dqTy h, kit_ty k, q⟩
end FF
namespace FF
open PySem PySem.Spec PyProof.Rows L2 Evl
/-! ### the law's own call, the table of modules known -/
/-- the table of modules stands where it stands: no new thing is laid there -/
def Sys (H : Hp) : Prop := ∃ o, H sysModules = some (.frz o (.own 0))
theorem Sys.ex {H H' : Hp} (s : Sys H) (e : Ex H H') : Sys H' := let ⟨o, h⟩ := s; ⟨o, e _ _ h⟩
theorem Sys.ne {H : Hp} {p : Addr} (s : Sys H) (n : H p = none) : p ≠ sysModules := let ⟨_, h⟩ := s; (ne_of_none h n).symm
def BodyS (P : Program) (w : World) (K : PySem.W.Frag) (mg : Str → Option Value) (base : Heap) (k : Nat) (N : List Str) (st : Stmt) (f : Addr) : Prop :=
  ∀ (cdv : Value) (A : Around) (outer : List Env) (s : Shared) (H : Hp) (a : Addr) (ns : List Int), A.guards = some [] → Room k (A.deeper (envOfC "law" (defScope st) s.heap.objs.size f cdv)) →
    Sys H → SqL K H a (ns.map V.int) → ns.length ≤ 63 → ∃ t, PSs (cxOf CX0 P w K mg base N "law" (defScope st) f cdv A outer s H E0).nox (defBody st) t ∧ t { nx := fun _ _ => False, rt := fun v _ => v = .bl true } (start N [.ref a]) H
theorem runsS {P : Program} {w : World} {K : PySem.W.Frag} {mg : Str → Option Value} {base : Heap} {k : Nat} {N : List Str} {x : Str} {st : Stmt} {f a : Addr} {fd : FuncData} {s : Shared} {H : Hp} {ns : List Int}
    (F : Fun K "law" "law" st f fd) (S : FnScope N [x] (defScope st)) (hb : BodyS P w K mg base k N st f) (bind : ∀ (s : Shared) (u : Value), BindsTo s fd ⟨[u], []⟩ [(x, u)]) (hr : Room (k + 1) callerA)
    (e0 : Env0 P w K mg base callerA [] s H) (hy : Sys H) (hS : SqL K H a (ns.map V.int)) (hl : ns.length ≤ 63) :
    codeAny (model P w) callerA (.call (.ref f) ⟨[.ref a], []⟩) (CR CX0 [] P w H s (fun v _ => v = .bl true) E0) s := by
  obtain ⟨oc, od, kV, doc, pm, an, cdv, ct, osl, rfl, lk, hcd⟩ := F.ex
  have hK : K.In s.heap := e0.mod.kin.keeps fun b o z => (e0.bs b o z).1
  have nolim : s.heap.NoLimit := e0.mod.nolimit.keeps fun b o z => (e0.bs b o z).1
  have r : Vals [V.ref a] [Value.ref a] := .cons rfl .nil
  have kinds : ∀ y ∈ [x].zip [Value.ref a], (defScope st).names.lookup y.1 = some .local ∨ ((defScope st).names.lookup y.1 = some .cell ∧ ((cellsFrom (s.heap.objs.size + 1) (defScope st).names []).lookup y.1).isSome = true) := by
    rintro ⟨n, v⟩ hy
    rcases S.par n (List.of_mem_zip hy).1 with z | z
    · exact Or.inl z
    · exact Or.inr ⟨z, PySem.W.cellsFrom_some _ _ _ (Or.inl z)⟩
  refine codeAny_call_function hr.depth (hK _ _ lk) rfl S.co S.gen rfl (PySem.W.codeRec_of hK hcd) (bind s (.ref a) _ _ _ _ ?_)
  refine wpAny_newFunctionEnv_cells S.kind kinds fun env he s1 ic => ?_
  subst he
  refine ⟨nolim.keeps ic.toInCall.keep, codeAny_func (?_ : _)⟩
  obtain ⟨t, ht, hq⟩ := hb cdv callerA [] s H a ns rfl (hr.deeper _) hy hS hl
  have I := inv_start (CX := CX0) (E := E0) (cd := cdv) S hr.hd e0 rfl r ic
  refine wpAny_mono (ht.nox.run [] s1 _ H _ I hq) (fun fl s' hs => ?_) fun _ _ z => z
  cases fl with
  | ret u =>
    obtain ⟨v, σ', H', J, rv, q⟩ := hs
    exact ⟨v, H', J.os, J.bare, J.base, J.hok, rv, q⟩
  | next => obtain ⟨_, _, _, z⟩ := hs; exact False.elim z
  | brk => obtain ⟨_, _, _, z⟩ := hs; exact False.elim z
  | cont => obtain ⟨_, _, _, z⟩ := hs; exact False.elim z
theorem coreS {P : Program} {w : World} {K : PySem.W.Frag} {mg mb : Str → Option Value} {k : Nat} {N : List Str} {x : Str} {st : Stmt} {f a : Addr} {fd : FuncData} {s₁ : Shared} {vs : List Value} {ns : List Int} {H : Hp}
    (KX : K.In s₁.heap) (hns : s₁.heap.Ns mainGlobals mg) (hbn : s₁.heap.Ns builtinsNs mb) (hbb : ∀ x : Str, x ≠ "__name__" → mb x = bootBuiltins x) (hlim : s₁.heap.NoLimit) (hg : s₁.gens = #[])
    (ha : s₁.heap.get? a = some { cls := .type "list", data := .seq vs.toArray }) (hl : ns.length ≤ 63) (hr : Room (k + 1) callerA)
    (F : Fun K "law" "law" st f fd) (S : FnScope N [x] (defScope st)) (hb : ∀ base : Heap, K.In base → base.Ns mainGlobals mg → BodyS P w K mg base k N st f) (bind : ∀ (s : Shared) (u : Value), BindsTo s fd ⟨[u], []⟩ [(x, u)])
    (hO : ∀ b, H b = none ∨ ∃ o u, H b = some (.frz o u)) (hy : Sys H) (hS : SqL K H a (ns.map V.int)) (hok : HOk P w H s₁.heap) (hA : ∀ b, H b ≠ none → b = a ∨ b = sysModules) (hK : ∀ b, H b ≠ none → K.lookup b = none) :
    codeAny (model P w) callerA (.call (.ref f) ⟨[.ref a], []⟩) (fun r s' => r = .ok (.ret (.bool true)) ∧ OldK s₁.heap s'.heap ∧ s'.os = s₁.os ∧ AllBare s'.gens) s₁ := by
  have put : ∀ {b : Addr} {o : Obj}, s₁.heap.get? b = some o → H b = none → (hidT s₁.heap H).get? b = some o := fun e n => hidT_get e n
  have free : ∀ {b : Addr}, b ≠ a → b ≠ sysModules → H b = none := fun {b} n n2 => by
    cases q : H b with
    | none => rfl
    | some u => exact ((hA b (by rw [q]; exact fun z => nomatch z)).elim (fun z => absurd z n) fun z => absurd z n2)
  have nsk : ∀ {b : Addr} {m : Str → Option Value}, b ≠ sysModules → s₁.heap.Ns b m → (hidT s₁.heap H).Ns b m := by
    rintro b m n2 ⟨o, es, ep, e, d, r⟩
    refine ⟨o, es, ep, put e (free (fun z => ?_) n2), d, r⟩
    subst z
    rw [ha] at e
    cases e
    have d' : Data.seq vs.toArray _ = Data.dict es ep := d
    cases d'
  have kb : K.In (hidT s₁.heap H) := fun b o e => put (KX b o e) (by
    cases q : H b with
    | none => rfl
    | some u =>
      have nn : H b ≠ none := by rw [q]; exact fun z => nomatch z
      rw [hK b nn] at e
      cases e)
  have md : Mod K mg (hidT s₁.heap H) := ⟨kb, nsk (by decide) hns, ⟨mb, nsk (by decide) hbn, hbb⟩, let ⟨mc, h1, h2⟩ := hlim; ⟨mc, nsk (by decide) h1, h2⟩⟩
  have e0 : Env0 P w K mg (hidT s₁.heap H) callerA [] s₁ H :=
    { frames := rfl, mod := md, bs := fun b o e => of_hidT e, bsz := Nat.le_of_eq (hidT_size _ _), funs := trivial, frf := fun b z => absurd (show b ∈ ([] : List Addr) from z) (by simp), hok := hok, bare := .of_eq hg }
  refine codeAny_mono (runsS F S (hb _ kb (nsk (by decide) hns)) bind hr e0 hy hS hl) fun r s' h => ?_
  cases r with
  | error e => exact False.elim h
  | ok fl =>
    cases fl with
    | next => exact False.elim h
    | brk => exact False.elim h
    | cont => exact False.elim h
    | ret u =>
      obtain ⟨v, H', hos, bare, un, hok', r', q⟩ := h
      have q' : v = .bl true := q
      subst q'
      obtain rfl : u = Value.bool true := r'
      refine ⟨rfl, OldK.of_keep fun b o e => ?_, hos, bare⟩
      rcases hO b with z | ⟨ob, u, z⟩
      · exact un.keep b o e z (fun y => absurd (show b ∈ ([] : List Addr) from y) (by simp)) (by simp)
      · obtain ⟨e1, _⟩ := hok b _ z
        obtain ⟨e2, _⟩ := hok' b _ (un.frzs b ob _ z)
        rw [e] at e1
        cases e1
        exact e2
theorem walkS {l : PySem.W.OpenLaw} {k : Nat} {q : Program} {loose : List Str} {XP : (Str → Option Value) → Heap → Prop} {YP : World → Heap → Prop} {d : DefRec} {K : Params → PySem.W.Frag} {N : List Str} {x : Str} {st : Stmt}
    (hn : l.most = some 63) (hdf : d.params.defaults = []) (hr : Room (k + 1) callerA) (S : FnScope N [x] (defScope st)) (hq : importsNone q = true)
    (hY : ∀ (w : World) (h : Heap), YP w h → (K w.params).In h)
    (F : ∀ (w : World) (mg : Str → Option Value) (fa : Addr) (h : Heap), (K w.params).In h → h.Ns mainGlobals mg → mg d.name = some (.ref fa) →
      ∃ fd : FuncData, (K w.params).lookup sysModules = none ∧ Fun (K w.params) "law" "law" st fa fd ∧ (∀ (s : Shared) (u : Value), BindsTo s fd ⟨[u], []⟩ [(x, u)]) ∧
        ∀ base : Heap, (K w.params).In base → base.Ns mainGlobals mg → BodyS l.prog w (K w.params) mg base k N st fa) :
    PySem.W.WalkO q loose XP YP l.row.toRowW d [] (fun f vs => PySem.call f vs) := by
  refine Att.attach_call hn hdf fun w s₀ s₁ mg mb fa o pm cd doc a vs ns G Y ho hd hcd hmg hobj hints hlen hg => ?_
  have KX := hY w _ Y
  obtain ⟨fd, hk1, hF, hb, hbody⟩ := F w mg fa _ KX G.T.g hmg
  obtain ⟨mm, ⟨om, es, ep, hm1, hm2, _⟩, _⟩ := (G.T.seer hq).mods
  have na : a ≠ sysModules := fun z => by
    subst z
    rw [hobj] at hm1
    cases hm1
    have d' : Data.seq vs.toArray _ = Data.dict es ep := hm2
    cases d'
  have rv := vals_ints hints
  have hlv := hints.length
  have sz : ns.length ≤ sizeLine := Nat.le_trans hlen (by decide)
  have go := fun (H : Hp) => coreS (H := H) KX G.T.g G.T.b G.T.builtins G.T.nolimit hg hobj hlen hr hF S hbody hb
  cases hk : (K w.params).lookup a with
  | some oa =>
    have e := KX a oa hk
    rw [hobj] at e
    cases e
    refine go (fun b => if b = sysModules then some (.frz om (.own 0)) else none) (fun b => ?_) ⟨om, if_pos rfl⟩ (Or.inr ⟨_, vs.toArray, _, hk, rfl, rfl, rfl, ?_, by simpa using rv⟩) (fun b u z => ?_) (fun b z => ?_) fun b z => ?_
    · by_cases hs : b = sysModules
      · exact Or.inr ⟨_, _, if_pos hs⟩
      · exact Or.inl (if_neg hs)
    · rw [List.size_toArray, hlv]; exact sz
    · by_cases hs : b = sysModules
      · have z' := (if_pos hs).symm.trans z
        cases z'
        subst hs
        exact ⟨hm1, _, hm1⟩
      · have z' := (if_neg hs).symm.trans z
        cases z'
    · by_cases hs : b = sysModules
      · exact Or.inr hs
      · exact absurd (if_neg hs) z
    · by_cases hs : b = sysModules
      · rw [hs]; exact hk1
      · exact absurd (if_neg hs) z
  | none =>
    let ob : Obj := { cls := .type "list", data := .seq vs.toArray }
    have hA : ∀ b, (if b = a then some (HO.frz ob (.lst (ns.map V.int))) else if b = sysModules then some (.frz om (.own 0)) else none) ≠ none → b = a ∨ b = sysModules := fun b z => by
      by_cases hba : b = a
      · exact Or.inl hba
      · by_cases hs : b = sysModules
        · exact Or.inr hs
        · rw [if_neg hba, if_neg hs] at z
          exact absurd rfl z
    refine go (fun b => if b = a then some (.frz ob (.lst (ns.map V.int))) else if b = sysModules then some (.frz om (.own 0)) else none) (fun b => ?_) ⟨om, (if_neg na.symm).trans (if_pos rfl)⟩ (Or.inl (Or.inr ⟨ob, if_pos rfl⟩)) (fun b u z => ?_) hA (fun b z => ?_)
    · by_cases hba : b = a
      · exact Or.inr ⟨_, _, if_pos hba⟩
      · by_cases hs : b = sysModules
        · exact Or.inr ⟨_, _, (if_neg hba).trans (if_pos hs)⟩
        · exact Or.inl ((if_neg hba).trans (if_neg hs))
    · by_cases hba : b = a
      · have z' := (if_pos hba).symm.trans z
        cases z'
        subst hba
        exact ⟨hobj, by rw [List.length_map]; exact sz, vs, _, rv, hobj⟩
      · by_cases hs : b = sysModules
        · have z' := ((if_neg hba).trans (if_pos hs)).symm.trans z
          cases z'
          subst hs
          exact ⟨hm1, _, hm1⟩
        · have z' := ((if_neg hba).trans (if_neg hs)).symm.trans z
          cases z'
    · rcases hA b z with e | e
      · rw [e]; exact hk
      · rw [e]; exact hk1
end FF
namespace FF
open PySem PySem.Spec PyProof.Rows L2 Evl
open HT (slicePart_)
/-! ### t[::-1] of a tuple -/
section
variable {P : Program} {w : World} {A : Around} {E : Value → Shared → Prop} {s : Shared}
theorem pickRev (xs : Array Value) : ((List.range xs.size).filterMap fun (k : Nat) => xs[(((xs.size : Int) - 1) + (k : Int) * (-1)).toNat]?).toArray = xs.toList.reverse.toArray := by
  have e : (fun (k : Nat) => xs[(((xs.size : Int) - 1) + (k : Int) * (-1)).toNat]?) = (fun x => xs[x]?) ∘ fun k => xs.size - 1 - k := by
    funext k
    have : (((xs.size : Int) - 1) + (k : Int) * (-1)).toNat = xs.size - 1 - k := by omega
    show xs[_]? = xs[_]?
    rw [this]
  rw [e, ← List.filterMap_map, PySem.W.krv_range, List.filterMap_reverse, PySem.W.krv_all]
theorem getRevT {t sl : Addr} {xs : Array Value} {vs : Value} {Q : Value → Shared → Prop} (ht : IsTup s.heap t xs) (hs : s.heap.IsSliceOf sl .none .none vs) (pl : IsPart vs (some (-1)))
    (h : Q (.ref s.heap.objs.size) { s with heap := s.heap.push { cls := .type "tuple", data := .seq xs.toList.reverse.toArray } }) (hsz : xs.size ≤ sizeLine) : wpAny (model P w) A (getItem (.ref t) (.ref sl)) Q E s := by
  have fit : sizeOk (.seq xs.toList.reverse.toArray) := by
    show xs.toList.reverse.toArray.size ≤ sizeLine
    rw [List.size_toArray, List.length_reverse, Array.length_toList]
    exact hsz
  obtain ⟨ob, go, hcs, dd⟩ := id hs
  have isS : s.TypeIs (.ref sl) "slice" := ⟨ob, go, hcs⟩
  unfold getItem
  try with_reducible refine wpAny_holding (?_ : _)
  first | refine wpAny_bind (wpAny_pure (?_ : _)) | skip
  refine wpAny_bind (wpAny_sequenceKey ht.typeIs (by decide) (?_ : _))
  refine wpAny_bind (wpAny_callSpecial?_slot (name := Str.ofString "__getitem__") ht.typeIs PyProof.Rows.slot_tuple_getitem
    (wpAny_call_entry PyProof.Rows.slot_tuple_getitem ht.typeIs entry_tuple_getitem (?_ : _) (args_tuple_getitem _ _)))
  show wpAny _ _ (Builtin.Tuple.tupleItemsOf (.ref t) >>= _) _ _ s
  refine wpAny_bind (tupleItemsOf_ ht (?_ : _))
  refine wpAny_bind (wpAny_typeOf isS (?_ : _))
  rw [if_pos (show (Value.type "slice" == Value.type "slice") = true by decide)]
  refine wpAny_bind (?_ : wpAny _ _ (Builtin.Slice.sliceApplied _ _) _ _ _)
  unfold Builtin.Slice.sliceApplied Builtin.Slice.sliceFields
  refine wpAny_bind (wpAny_bind (wpAny_field go dd (x := .none) rfl (wpAny_bind (wpAny_field go dd (x := .none) rfl (wpAny_bind (wpAny_field go dd (x := vs) rfl (wpAny_pure (?_ : _))))))))
  refine wpAny_bind (slicePart_ pl (?_ : _))
  show wpAny _ _ (if ((-1 : Int) == 0) = true then _ else _) _ _ s
  rw [if_neg (show ¬ ((-1 : Int) == 0) = true by decide)]
  refine wpAny_bind (slicePart_none (wpAny_bind (slicePart_none (wpAny_bind (wpAny_pure (?_ : _))))))
  have ep : Builtin.Slice.slicePlaces ((xs.size : Int) - 1) (-1) (-1) = xs.size := by
    unfold Builtin.Slice.slicePlaces
    rw [if_neg (show ¬ (-1 : Int) > 0 by decide)]
    by_cases c : (xs.size : Int) - 1 > -1
    · rw [if_pos c, show (- -1 : Int) = 1 by decide, Int.ediv_one]
      omega
    · rw [if_neg c]
      omega
  show wpAny _ _ (pure ((xs.size : Int) - 1, (-1 : Int), Builtin.Slice.slicePlaces ((xs.size : Int) - 1) (-1) (-1))) _ _ s
  rw [ep]
  refine wpAny_pure (?_ : _)
  show wpAny _ _ (if (((xs.size : Int) - 1) == 0 && (-1 : Int) == 1 && xs.size == xs.size) = true then _ else _) _ _ s
  have no : ¬ ((((xs.size : Int) - 1) == 0 && (-1 : Int) == 1 && xs.size == xs.size) = true) := by
    rw [show ((-1 : Int) == 1) = false by decide, Bool.and_false, Bool.false_and]
    exact Bool.false_ne_true
  rw [if_neg no, pickRev]
  first
    | exact wpAny_bind (m := Builtin.Tuple.tupleExact _) (wpAny_newObj_type (wpAny_pure ⟨_, rfl, wpAny_pure h⟩) fit)
    | exact wpAny_bind (m := Builtin.Tuple.tupleExact _) (wpAny_newObj_type (wpAny_bind (wpAny_pure (wpAny_pure ⟨_, rfl, wpAny_pure h⟩))) fit)
    | exact wpAny_bind (wpAny_bind (m := Builtin.Tuple.tupleExact _) (wpAny_newObj_type (wpAny_pure (wpAny_pure ⟨_, rfl, wpAny_pure h⟩)) fit))
    | exact wpAny_bind (wpAny_bind (m := Builtin.Tuple.tupleExact _) (wpAny_newObj_type (wpAny_pure ⟨_, rfl, wpAny_pure h⟩) fit))
end
def tRevT (K : PySem.W.Frag) (te : TE) : TE := fun σ H Q => te σ H fun x H1 => ∃ a xs, x = .ref a ∧ SqT K H1 a xs ∧ ∀ p, H1 p = none → Q (.ref p) (upd H1 p (.tup xs.reverse))
theorem pe_revT {X : Cx} {e : Expr} {te : TE} {k : Nat} {p1 p2 p3 pos : Pos} (he : PE X e te) : PE X (.Subscript e (.Slice none none (some (.UnaryOp .USub (.Constant (.int 1) k p1) p2)) p3) pos) (tRevT X.K te) := by
  refine ⟨fun pins s σ H Q I h => Subscript_ (thn (he.run pins s σ H _ I h) fun v s1 ⟨x, H1, I1, r1, q1⟩ => ?_)⟩
  obtain ⟨a, xs, ex, hx, q⟩ := q1
  subst ex
  cases r1
  have st : PO X (some (.UnaryOp .USub (.Constant (.int 1) k p1) p2)) (tPart (tUn (rU fun i => .int (-i)) (tC (.int 1)))) := po_some (pe_un un_neg pe_int)
  refine wpAny_Slice (thn (po_none.run pins s1 σ H1 (fun o J => o = none ∧ J = H1) I1 ⟨rfl, rfl⟩) fun vl s2 ⟨l, J2, I2, pl, el, e2⟩ => ?_)
  subst el e2
  refine thn (po_none.run pins s2 σ J2 (fun o J => o = none ∧ J = J2) I2 ⟨rfl, rfl⟩) fun vu s3 ⟨u, J3, I3, pu, eu, e3⟩ => ?_
  subst eu e3
  refine thn (st.run pins s3 σ J3 (fun o J => o = some (-1) ∧ J = J3) I3 ⟨1, rfl, -1, rfl, rfl, rfl⟩) fun vs s4 ⟨o, J4, I4, ps, eo, e4⟩ => ?_
  subst eo e4
  have I5 : Inv X pins σ J4 { s4 with heap := s4.heap.push { cls := .type "slice", data := .fields #[vl, vu, vs] } } := I4.kept (t' := s4.toks) fun b ob z => Heap.get?_push_of_some _ z
  obtain ⟨its, r, ht, hz⟩ := I5.tuple hx
  have hlen := r.length
  cases pl
  cases pu
  show wpAny (model X.prog X.w) X.A (subscriptTail e (.Slice none none (some (.UnaryOp .USub (.Constant (.int 1) k p1) p2)) p3) (.ref a) (.ref s4.heap.objs.size)) (EP X pins σ Q) X.xe { s4 with heap := s4.heap.push { cls := .type "slice", data := .fields #[.none, .none, vs] } }
  refine tail_any (ops := [.ref a, .ref s4.heap.objs.size]) ht.typeIs (PyProof.Rows.slot_tuple_getitem.lookup) (?_ : _) (by with_unfolding_all rfl)
  refine getRevT ht (Heap.IsSliceOf.new _ .none .none vs) ps (?_ : _) (by rw [List.size_toArray]; omega)
  refine ⟨.ref _, _, I5.laid (t' := s4.toks) (o := .tup xs.reverse) (fun b ob z => Heap.get?_push_of_some _ z) (Nat.le_refl _) (?_ : _), rfl, q _ (I5.hok.fresh (Nat.le_refl _))⟩
  exact ⟨by rw [List.length_reverse]; exact hz, its.reverse, r.reverse, ⟨_, Heap.get?_push_size _ rfl, rfl, _, rfl⟩⟩
end FF
namespace FF
open PySem PySem.Spec PyProof.Rows L2 Evl
/-! ### a deck, with some things hidden besides -/
structure Dk (D A B : Addr) (S : Hp) (H : Hp) : Prop where
  d : Deck D A B H
  s : Ex S H
  sd : S D = none
  sa : S A = none
def hsd (D A : Addr) (S H : Hp) : Hp := fun b => if (S b).isSome = true then none else hid D A H b
section
variable {D A B p b : Addr} {S H H1 H2 : Hp} {o : HO}
theorem hs_of (h : H b = some o) (n1 : b ≠ D) (n2 : b ≠ A) (n3 : S b = none) : hsd D A S H b = some o := by
  unfold hsd
  rw [n3]
  exact hid_of h n1 n2
theorem of_hs (h : hsd D A S H b = some o) : H b = some o ∧ b ≠ D ∧ b ≠ A := by
  unfold hsd at h
  split at h
  · cases h
  · exact of_hid h
theorem of_hsS (h : hsd D A S H b = some o) : S b = none := by
  unfold hsd at h
  split at h
  · cases h
  · next c => cases e : S b with
    | none => rfl
    | some x => rw [e] at c; exact absurd rfl c
theorem ex_hs : Ex (hsd D A S H) H := fun _ _ h => (of_hs h).1
theorem Kp.hs (k : Kp D A H H1) : Ex (FF.hsd D A S H) (FF.hsd D A S H1) := fun b o h => by
  obtain ⟨h1, n1, n2⟩ := of_hs h
  exact hs_of (k b o h1 n1 n2) n1 n2 (of_hsS h)
theorem Dk.new (dk : Dk D A B S H) (n : H p = none) : Dk D A B S (upd H p o) := ⟨dk.d.new n, dk.s.trans (Ex.new n), dk.sd, dk.sa⟩
theorem Dk.ne (dk : Dk D A B S H) (n : H p = none) : p ≠ D ∧ p ≠ A ∧ p ≠ B := dk.d.ne n
theorem Dk.hidNew (dk : Dk D A B S H) (n : H p = none) : Ex (FF.hsd D A S H) (FF.hsd D A S (upd H p o)) ∧ FF.hsd D A S (upd H p o) p = some o :=
  ⟨(Kp.new n).hs, hs_of upd_same (dk.ne n).1 (dk.ne n).2.1 (none_ex dk.s n)⟩
theorem Dk.kp (dk : Dk D A B S H) (dk' : Deck D A B H1) (k : Kp D A H H1) : Dk D A B S H1 :=
  ⟨dk', fun b o h => k b o (dk.s b o h) (fun z => by rw [z, dk.sd] at h; cases h) (fun z => by rw [z, dk.sa] at h; cases h), dk.sd, dk.sa⟩
theorem hs_none (n : H p = none) : hsd D A S H p = none := by
  unfold hsd
  split
  · rfl
  · exact hid_none n
end
/-! ### values made beside the deck, told by their data -/
section
variable (K : PySem.W.Frag) (D A B : Addr) (S : Hp)
def EvQ (te : TE) (σ : L2.St) (G : Hp) (W k : Nat) : Prop := ∀ H, Dk D A B S H → Ex G (hsd D A S H) → ∀ Q : VK, (∀ v d H', Dk D A B S H' → Ex (hsd D A S H) (hsd D A S H') → Dq K (hsd D A S H') v d → Sv W k d → Q v H') → te σ H Q
def EvQA (ta : TA) (σ : L2.St) (G : Hp) (W k n : Nat) : Prop := ∀ H, Dk D A B S H → Ex G (hsd D A S H) → ∀ Q : List V → Hp → Prop, (∀ vs ds H', Dk D A B S H' → Ex (hsd D A S H) (hsd D A S H') → DqA K (hsd D A S H') vs ds → SvA W k ds → vs.length = n → Q vs H') → ta σ H Q
/-- a tuple of lo to hi items -/
def EvQT (te : TE) (σ : L2.St) (G : Hp) (W k lo hi : Nat) : Prop := ∀ H, Dk D A B S H → Ex G (hsd D A S H) → ∀ Q : VK, (∀ a xs ds H', Dk D A B S H' → Ex (hsd D A S H) (hsd D A S H') → SqT K (hsd D A S H') a xs → DqA K (hsd D A S H') xs ds → SvA W k ds → lo ≤ xs.length → xs.length ≤ hi → Q (.ref a) H') → te σ H Q
end
section
variable {K : PySem.W.Frag} {D A B : Addr} {S : Hp} {σ : L2.St} {G : Hp} {te ta tb : TE} {W V' k j n m lo hi lo2 hi2 : Nat}
theorem EvQ.mono (h : EvQ K D A B S te σ G W k) {W' k' : Nat} (h1 : W ≤ W') (h2 : k ≤ k') : EvQ K D A B S te σ G W' k' := fun H dk e Q q => h H dk e Q fun v d H' dk' e' hd s => q v d H' dk' e' hd (s.mono h1 h2)
theorem EvQA.mono {ta : TA} (h : EvQA K D A B S ta σ G W k n) {W' k' : Nat} (h1 : W ≤ W') (h2 : k ≤ k') : EvQA K D A B S ta σ G W' k' n := fun H dk e Q q => h H dk e Q fun v d H' dk' e' hd s => q v d H' dk' e' hd (s.mono h1 h2)
theorem EvQ.go (h : EvQ K D A B S te σ G W k) {H : Hp} (dk : Dk D A B S H) (e : Ex G (hsd D A S H)) {Q : VK} (q : ∀ v d H', Dk D A B S H' → Ex (hsd D A S H) (hsd D A S H') → Dq K (hsd D A S H') v d → Sv W k d → Q v H') : te σ H Q := h H dk e Q q
theorem EvQA.go {ta : TA} (h : EvQA K D A B S ta σ G W k n) {H : Hp} (dk : Dk D A B S H) (e : Ex G (hsd D A S H)) {Q : List V → Hp → Prop} (q : ∀ vs ds H', Dk D A B S H' → Ex (hsd D A S H) (hsd D A S H') → DqA K (hsd D A S H') vs ds → SvA W k ds → vs.length = n → Q vs H') : ta σ H Q := h H dk e Q q
theorem EvQT.go (h : EvQT K D A B S te σ G W k lo hi) {H : Hp} (dk : Dk D A B S H) (e : Ex G (hsd D A S H)) {Q : VK} (q : ∀ a xs ds H', Dk D A B S H' → Ex (hsd D A S H) (hsd D A S H') → SqT K (hsd D A S H') a xs → DqA K (hsd D A S H') xs ds → SvA W k ds → lo ≤ xs.length → xs.length ≤ hi → Q (.ref a) H') : te σ H Q := h H dk e Q q
theorem EvQ.ex {G' : Hp} (h : EvQ K D A B S te σ G W k) (e : Ex G G') : EvQ K D A B S te σ G' W k := fun H dk e' => h H dk (e.trans e')
theorem qc {v : V} {d : PyData} (hd : ∀ H, Dq K H v d) (s : Sv W k d) : EvQ K D A B S (tC v) σ G W k := fun H dk _ Q q => q v d H dk (Ex.refl _) (hd _) s
theorem qNon : EvQ K D A B S (tC .non) σ G 0 0 := qc (fun _ => .non) Sv.non
theorem qBl {b : Bool} : EvQ K D A B S (tC (.bl b)) σ G 0 0 := qc (fun _ => .bl b) Sv.bl
theorem qInt {i : Int} (h : i.natAbs < 2 ^ 110 := by decide) : EvQ K D A B S (tC (.int i)) σ G 110 0 := qc (fun _ => .int i) (Sv.int h)
theorem qStr {z : Str} (h : (z.cps.toList.all fun c => decide (c < 1000)) = true := by decide +kernel) (hl : z.length ≤ 40 := by decide +kernel) : EvQ K D A B S (tC (.str z)) σ G 40 0 := qc (fun _ => .str z) (Sv.str h hl)
theorem qNeg {i : Int} (h : (-i).natAbs < 2 ^ 110 := by decide) : EvQ K D A B S (tUn (rU fun i => .int (-i)) (tC (.int i))) σ G 110 0 := fun H dk _ Q q => ⟨i, rfl, q _ (.int (-i)) H dk (Ex.refl _) (.int _) (Sv.int h)⟩
theorem qPow30 : EvQ K D A B S (tOp (rI CPow fun i j => .int (i ^ j.toNat)) (tC (.int 10)) (tC (.int 30))) σ G 110 0 := fun H dk _ Q q =>
  ⟨10, 30, rfl, rfl, ⟨by decide, by decide, by decide⟩, q _ (.int ((10 : Int) ^ (30 : Int).toNat)) H dk (Ex.refl _) (.int _) (Sv.int (by decide))⟩
theorem qVar {i : Nat} {v : V} {d : PyData} (h : σ[i]? = some (some v)) (hd : Dq K G v d) (s : Sv W k d) : EvQ K D A B S (tVar i) σ G W k := fun H dk e Q q => ⟨v, h, q v d H dk (Ex.refl _) (Dq.ex e _ _ hd) s⟩
theorem qaNil : EvQA K D A B S tNil σ G 0 0 0 := fun H dk _ Q q => q [] [] H dk (Ex.refl _) .nil SvA.nil rfl
theorem qaCons {tr : TA} (h : EvQ K D A B S te σ G W k) (t : EvQA K D A B S tr σ G V' j n) : EvQA K D A B S (tCons te tr) σ G (W + 1 + V') (max k j) (n + 1) := fun H dk e Q q =>
  h H dk e _ fun v d H1 dk1 e1 hd s => t H1 dk1 (e.trans e1) _ fun vs ds H2 dk2 e2 ha sa hl => q (v :: vs) (d :: ds) H2 dk2 (e1.trans e2) (.cons (Dq.ex e2 _ _ hd) ha) (SvA.cons s sa) (by rw [List.length_cons, hl])
theorem qtTup {ta : TA} (h : EvQA K D A B S ta σ G W k n) (hn : n ≤ 1000 := by decide) : EvQT K D A B S (tTup ta) σ G W k n n := fun H dk e Q q =>
  h H dk e _ fun vs ds H1 dk1 e1 ha sa hl => ⟨Nat.le_of_lt (small1000 (by omega)), fun p np => by
    obtain ⟨e2, g2⟩ := dk1.hidNew (o := .tup vs) np
    exact q p vs ds _ (dk1.new np) (e1.trans e2) (SqT.of g2) (DqA.ex e2 _ _ ha) sa (by omega) (by omega)⟩
theorem qT (h : EvQT K D A B S te σ G W k lo hi) : EvQ K D A B S te σ G W (k + 1) := fun H dk e Q q => h H dk e _ fun a xs ds H1 dk1 e1 ht ha sa _ _ => q _ _ H1 dk1 e1 (.tup ht ha) (Sv.tup sa)
theorem qLst {ta : TA} (hy : Sys G) (h : EvQA K D A B S ta σ G W k n) (hn : n ≤ 1000 := by decide) : EvQ K D A B S (tLst ta) σ G W (k + 1) := fun H dk e Q q =>
  h H dk e _ fun vs ds H1 dk1 e1 ha sa hl => ⟨Nat.le_of_lt (small1000 (by omega)), fun p np => by
    obtain ⟨e2, g2⟩ := dk1.hidNew (o := .lst vs) np
    have ns : p ≠ sysModules := ((hy.ex (e.trans e1)).ex ex_hs).ne np
    exact q (.ref p) (.list ds) _ (dk1.new np) (e1.trans e2) (.lst (SqL.of g2) ns (DqA.ex e2 _ _ ha)) (Sv.lst sa)⟩
theorem qDict : EvQ K D A B S tDNewK σ G 0 1 := fun H dk _ Q q p np => by
  obtain ⟨e2, g2⟩ := dk.hidNew (o := .dK []) np
  exact q (.ref p) (.dict []) _ (dk.new np) e2 (.dct g2 .nil) ⟨rfl, rfl, Nat.le_refl _, Nat.le_refl _⟩
theorem qtVar {i : Nat} {a : Addr} {xs : List V} {ds : List PyData} (h : σ[i]? = some (some (.ref a))) (ht : SqT K G a xs) (ha : DqA K G xs ds) (s : SvA W k ds) (h1 : lo ≤ xs.length) (h2 : xs.length ≤ hi) : EvQT K D A B S (tVar i) σ G W k lo hi := fun H dk e Q q =>
  ⟨.ref a, h, q a xs ds H dk (Ex.refl _) (ex_t e ht) (DqA.ex e _ _ ha) s h1 h2⟩
theorem qtCat (h : EvQT K D A B S ta σ G W k lo hi) (g : EvQT K D A B S tb σ G V' j lo2 hi2) (hz : hi + hi2 ≤ 10000 := by decide) : EvQT K D A B S (tOp (rCatA K) ta tb) σ G (W + V') (max k j) (lo + lo2) (hi + hi2) := fun H dk e Q q =>
  h H dk e _ fun a xs ds H1 dk1 e1 ht ha sa l1 l2 => g H1 dk1 (e.trans e1) _ fun b ys es H2 dk2 e2 ht2 ha2 sa2 m1 m2 => by
    have ht' := ex_t e2 ht
    have ha' := DqA.ex e2 _ _ ha
    refine ⟨a, b, xs, ys, rfl, rfl, ex_t ex_hs ht', ex_t ex_hs ht2, ?_, fun z => ?_, fun z1 z2 => ?_, fun z1 z2 p np => ?_⟩
    · exact Nat.le_trans (show xs.length + ys.length ≤ 10000 by omega) (by decide)
    · subst z
      have dz : ds = [] := List.eq_nil_of_length_eq_zero ha.len.symm
      subst dz
      exact q b ys es H2 dk2 (e1.trans e2) ht2 ha2 (sa2.mono (Nat.le_add_left _ _) (Nat.le_max_right _ _)) (by simp at l1; omega) (by omega)
    · subst z2
      exact q a xs ds H2 dk2 (e1.trans e2) ht' ha' (sa.mono (Nat.le_add_right _ _) (Nat.le_max_left _ _)) (by simp at m1; omega) (by omega)
    · obtain ⟨e3, g3⟩ := dk2.hidNew (o := .tup (xs ++ ys)) np
      exact q p (xs ++ ys) (ds ++ es) _ (dk2.new np) ((e1.trans e2).trans e3) (SqT.of g3) ((DqA.ex e3 _ _ ha').app (DqA.ex e3 _ _ ha2)) (sa.app sa2) (by rw [List.length_append]; omega) (by rw [List.length_append]; omega)
theorem dqRep {H : Hp} {xs : List V} {ds : List PyData} (h : DqA K H xs ds) : ∀ n : Nat, DqA K H (List.replicate n xs).flatten (List.replicate n ds).flatten
  | 0 => .nil
  | n + 1 => by
    rw [List.replicate_succ, List.flatten_cons, List.replicate_succ, List.flatten_cons]
    exact h.app (dqRep h n)
theorem lenRep (xs : List V) : ∀ n : Nat, (List.replicate n xs).flatten.length = n * xs.length
  | 0 => by simp
  | n + 1 => by rw [List.replicate_succ, List.flatten_cons, List.length_append, lenRep xs n, Nat.add_mul, Nat.one_mul, Nat.add_comm]
/-- the pure reading of a number -/
def PureI (te : TE) (σ : L2.St) (i : Int) : Prop := ∀ (H : Hp) (Q : VK), Q (.int i) H → te σ H Q
theorem puC {i : Int} : PureI (tC (.int i)) σ i := fun _ _ q => q
theorem puV {r : Nat} {i : Int} (h : σ[r]? = some (some (.int i))) : PureI (tVar r) σ i := fun _ _ q => ⟨_, h, q⟩
theorem puNeg {i : Int} : PureI (tUn (rU fun i => .int (-i)) (tC (.int i))) σ (-i) := fun _ _ q => ⟨i, rfl, q⟩
theorem puAdd {i c : Int} (h : PureI te σ i) : PureI (tOp (rI0 fun i j => .int (i + j)) te (tC (.int c))) σ (i + c) := fun H Q q => h H _ ⟨i, c, rfl, rfl, q⟩
theorem qtRep {i : Int} {m : Nat} (h : EvQT K D A B S ta σ G W k lo hi) (hp : PureI tb σ i) (hm : i = (m : Int)) (h1 : 1 ≤ lo) (h2 : 2 ≤ m) (h3 : m ≤ 1000) (h4 : hi ≤ 1000) :
    EvQT K D A B S (tOp (rRepT K) ta tb) σ G (m * W) k (m * lo) (m * hi) := fun H dk e Q q =>
  h H dk e _ fun a xs ds H1 dk1 e1 ht ha sa l1 l2 => hp H1 _ (by
    refine ⟨a, i, xs, rfl, rfl, ex_t ex_hs ht, fun z => by rw [z] at l1; simp at l1; omega, by omega, by omega, by omega, fun p np => ?_⟩
    have em : i.toNat = m := by omega
    rw [em]
    obtain ⟨e2, g2⟩ := dk1.hidNew (o := .tup (List.replicate m xs).flatten) np
    refine q p _ _ _ (dk1.new np) (e1.trans e2) (SqT.of g2) (dqRep (DqA.ex e2 _ _ ha) m) (SvA.rep sa m) ?_ ?_
    · rw [lenRep]; exact Nat.mul_le_mul_left _ l1
    · rw [lenRep]; exact Nat.mul_le_mul_left _ l2)
def PureO (to : TO) (σ : L2.St) (o : Option Int) : Prop := ∀ (H : Hp) (Q : Option Int → Hp → Prop), Q o H → to σ H Q
theorem puNone : PureO tNoPart σ none := fun _ _ q => q
theorem puSome {i : Int} (h : PureI te σ i) : PureO (tPart te) σ (some i) := fun H _ q => h H _ ⟨i, rfl, q⟩
theorem qtSl {tl th : TO} {o1 o2 : Option Int} (h : EvQT K D A B S ta σ G W k lo hi) (h1 : PureO tl σ o1) (h2 : PureO th σ o2) : EvQT K D A B S (tSl (rSlA K) ta tl th) σ G W k 0 hi := fun H dk e Q q =>
  h H dk e _ fun a xs ds H1 dk1 e1 ht ha sa l1 l2 => h1 H1 _ (h2 H1 _ (by
    refine ⟨a, xs, rfl, ex_t ex_hs ht, fun _ => ?_, fun _ p np => ?_⟩
    · exact q a xs ds H1 dk1 e1 ht ha sa (Nat.zero_le _) l2
    · obtain ⟨e2, g2⟩ := dk1.hidNew (o := .tup (cutV xs o1 o2)) np
      have hc := cutV_length xs o1 o2
      refine q p (cutV xs o1 o2) ((ds.drop (HT.sIx xs.length 0 o1)).take (HT.sIx xs.length xs.length o2 - HT.sIx xs.length 0 o1)) _ (dk1.new np) (e1.trans e2) (SqT.of g2) ?_ ?_ (Nat.zero_le _) (by omega)
      · unfold cutV
        exact (DqA.ex e2 _ _ ((ha.drop _).take _))
      · exact (sa.drop _).take _))
theorem qtRev (h : EvQT K D A B S ta σ G W k lo hi) : EvQT K D A B S (tRevT K ta) σ G W k lo hi := fun H dk e Q q =>
  h H dk e _ fun a xs ds H1 dk1 e1 ht ha sa l1 l2 => ⟨a, xs, rfl, ex_t ex_hs ht, fun p np => by
    obtain ⟨e2, g2⟩ := dk1.hidNew (o := .tup xs.reverse) np
    exact q p xs.reverse ds.reverse _ (dk1.new np) (e1.trans e2) (SqT.of g2) (DqA.ex e2 _ _ ha).rev sa.rev (by rw [List.length_reverse]; exact l1) (by rw [List.length_reverse]; exact l2)⟩
theorem qList (hy : Sys G) (h : EvQT K D A B S ta σ G W k lo hi) : EvQ K D A B S (tCB (rListS K) (tCons ta tNil)) σ G W (k + 1) := fun H dk e Q q =>
  h H dk e _ fun a xs ds H1 dk1 e1 ht ha sa l1 l2 => ⟨a, xs, rfl, .inr (ex_t ex_hs ht), fun p np => by
    obtain ⟨e2, g2⟩ := dk1.hidNew (o := .lst xs) np
    have ns : p ≠ sysModules := ((hy.ex (e.trans e1)).ex ex_hs).ne np
    exact q (.ref p) (.list ds) _ (dk1.new np) (e1.trans e2) (.lst (SqL.of g2) ns (DqA.ex e2 _ _ ha)) (Sv.lst sa)⟩
theorem qLen (h : EvQT K D A B S ta σ G W k lo hi) (hz : hi ≤ 100000 := by decide) : EvQ K D A B S (tCB (rLenS K) (tCons ta tNil)) σ G 110 0 := fun H dk e Q q =>
  h H dk e _ fun a xs ds H1 dk1 e1 ht ha sa l1 l2 => ⟨a, xs, rfl, .inr (ex_t ex_hs ht), q _ (.int (xs.length : Int)) H1 dk1 e1 (.int _) (Sv.int (by
    have : (2 : Nat) ^ 110 = 1298074214633706907132624082305024 := by decide
    omega))⟩
/-- [..] at the head: a new list of such values -/
theorem qaLst {ta : TA} (h : EvQA K D A B S ta σ G W k n) {H : Hp} (dk : Dk D A B S H) (e : Ex G (hsd D A S H)) (hn : n ≤ 1000) {Q : VK}
    (q : ∀ p vs ds H', Dk D A B S H' → Ex (hsd D A S H) (hsd D A S H') → hsd D A S H' p = some (.lst vs) → p ≠ D → p ≠ A → p ≠ B → DqA K (hsd D A S H') vs ds → SvA W k ds → vs.length = n → Q (.ref p) H') : tLst ta σ H Q :=
  h H dk e _ fun vs ds H1 dk1 e1 ha sa hl => ⟨Nat.le_of_lt (small1000 (by omega)), fun p np => by
    obtain ⟨e2, g2⟩ := dk1.hidNew (o := .lst vs) np
    obtain ⟨n1, n2, n3⟩ := dk1.ne np
    exact q p vs ds _ (dk1.new np) (e1.trans e2) g2 n1 n2 n3 (DqA.ex e2 _ _ ha) sa hl⟩
theorem qsLst {ta : TA} {i : Nat} {u : TS} {Ed : Ends} (h : EvQA K D A B S ta σ G W k n) {H : Hp} (dk : Dk D A B S H) (e : Ex G (hsd D A S H)) (hn : n ≤ 1000)
    (q : ∀ p vs ds H', Dk D A B S H' → Ex (hsd D A S H) (hsd D A S H') → hsd D A S H' p = some (.lst vs) → p ≠ D → p ≠ A → p ≠ B → DqA K (hsd D A S H') vs ds → SvA W k ds → vs.length = n → u Ed (σ.set i (some (.ref p))) H') : tSeq (tAsg (tLst ta) (gName i)) u Ed σ H := by
  show tLst ta σ H (fun x H1 => u Ed (σ.set i (some x)) H1)
  exact qaLst h dk e hn q
/-- l + [..] -/
theorem qaCat {ta : TA} {a : Addr} {i : Nat} {us : List V} {H : Hp} (hv : σ[i]? = some (some (.ref a))) (h : EvQA K D A B S ta σ G W k n) (dk : Dk D A B S H) (e : Ex G (hsd D A S H)) (hl : hsd D A S H a = some (.lst us)) (hz : us.length + n ≤ 1000) {Q : VK}
    (q : ∀ p vs ds H', Dk D A B S H' → Ex (hsd D A S H) (hsd D A S H') → hsd D A S H' p = some (.lst (us ++ vs)) → p ≠ D → p ≠ A → p ≠ B → DqA K (hsd D A S H') vs ds → SvA W k ds → vs.length = n → Q (.ref p) H') : tOp rCat (tVar i) (tLst ta) σ H Q :=
  ⟨.ref a, hv, qaLst h dk e (by omega) fun p vs ds H1 dk1 e1 g1 _ _ _ ha sa hn => by
    refine ⟨a, p, us, vs, rfl, rfl, (of_hs (e1 _ _ hl)).1, (of_hs g1).1, Nat.le_of_lt (small1000 (by omega)), fun r nr => ?_⟩
    obtain ⟨e2, g2⟩ := dk1.hidNew (o := .lst (us ++ vs)) nr
    obtain ⟨n1, n2, n3⟩ := dk1.ne nr
    exact q r vs ds _ (dk1.new nr) (e1.trans e2) g2 n1 n2 n3 (DqA.ex e2 _ _ ha) sa hn⟩
theorem qsCat {ta : TA} {a : Addr} {i l : Nat} {us : List V} {u : TS} {Ed : Ends} {H : Hp} (hv : σ[i]? = some (some (.ref a))) (h : EvQA K D A B S ta σ G W k n) (dk : Dk D A B S H) (e : Ex G (hsd D A S H)) (hl : hsd D A S H a = some (.lst us)) (hz : us.length + n ≤ 1000)
    (q : ∀ p vs ds H', Dk D A B S H' → Ex (hsd D A S H) (hsd D A S H') → hsd D A S H' p = some (.lst (us ++ vs)) → p ≠ D → p ≠ A → p ≠ B → DqA K (hsd D A S H') vs ds → SvA W k ds → vs.length = n → u Ed (σ.set l (some (.ref p))) H') : tSeq (tAsg (tOp rCat (tVar i) (tLst ta)) (gName l)) u Ed σ H := by
  show tOp rCat (tVar i) (tLst ta) σ H (fun x H1 => u Ed (σ.set l (some x)) H1)
  exact qaCat hv h dk e hl hz q
theorem qRet {Ed : Ends} (h : EvQ K D A B S te σ G W k) {H : Hp} (dk : Dk D A B S H) (e : Ex G (hsd D A S H)) (q : ∀ v d H', Dk D A B S H' → Ex (hsd D A S H) (hsd D A S H') → Dq K (hsd D A S H') v d → Sv W k d → Ed.rt v H') : tRet te Ed σ H := h H dk e _ q
end

/-! ### _law_odd -/
theorem scOdd : FnScope ["_law_deck_here", "_law_some"] ["_law_deck_here"] (defScope sOdd) := ⟨rfl, rfl, rfl, by decide +kernel, rfl, by decide +kernel, by decide +kernel⟩
def spOdd (K : PySem.W.Frag) : Sp := fun vs H Q _ => ∃ (D A B : Addr) (S : Hp), vs = [.ref D] ∧ Dk D A B S H ∧ Sys (hsd D A S H) ∧ ∀ v d H', Dk D A B S H' → Ex (hsd D A S H) (hsd D A S H') → Dq K (hsd D A S H') v d → Sv 3000 6 d → Q v H'
section
variable {P : Program} {w : World} {K : PySem.W.Frag} {mg : Str → Option Value} {base : Heap}
theorem ok_odd {f fP : Addr} {fd fdP : FuncData} {k : Nat} (F : Fun K "_law_odd" "_law_odd" sOdd f fd)
    (GP : FnOk P w K mg base CX0 k fP fdP ["_law_deck_here", "_law_items"] spPick) (bP : Binds K fdP ["_law_deck_here", "_law_items"] []) (gP : mg "_law_pick" = some (.ref fP)) (kP : PySem.W.keepIn K (.ref fP) = true) :
    FnOk P w K mg base CX0 (k + 1) f fd ["_law_deck_here"] (spOdd K) := by
  refine F.ok scOdd (fun vs H Q E h => ?_) (fun cdv A' outer s H vs Q E hr h => ?_)
  · obtain ⟨D, A, B, S, rfl, _⟩ := h
    rfl
  · obtain ⟨D, A, B, S, rfl, dk, hy, q⟩ := h
    refine ⟨_, pss_cons (ps_set (i := 1) scOdd.nd rfl (.inl rfl) (pe_lst (pa_cons pe_non (pa_cons pe_bl (pa_cons pe_bl (pa_cons pe_int (pa_cons pe_int (pa_cons (pe_un un_neg pe_int) (pa_cons pe_int (pa_cons (pe_op op_pow pe_int pe_int)
        (pa_cons pe_str (pa_cons pe_str (pa_cons pe_str (pa_cons (pe_tup pa_nil) (pa_cons (pe_lst pa_nil) (pa_cons pe_dnewK (pa_cons (pe_tup (pa_cons pe_int pa_nil)) (pa_cons (pe_tup (pa_cons pe_int (pa_cons pe_int pa_nil))) (pa_cons (pe_tup (pa_cons pe_int (pa_cons pe_int pa_nil)))
        (pa_cons (pe_lst (pa_cons pe_int pa_nil)) (pa_cons (pe_tup (pa_cons pe_bl pa_nil)) pa_nil)))))))))))))))))))))
      (pss_one (ps_ret (pe_call GP hr (by rfl) gP kP bP .nil pass0 (pa_cons (pv 0) (pa_cons (pe_op op_cat (pv 1) (pe_lst (pa_cons (pe_tup (pa_cons (pe_un un_neg pe_int) (pa_cons pe_int pa_nil))) (pa_cons (pe_tup (pa_cons pe_int (pa_cons pe_int pa_nil)))
        (pa_cons (pe_tup (pa_cons pe_str (pa_cons pe_int pa_nil))) (pa_cons (pe_tup (pa_cons pe_str pa_nil)) (pa_cons (pe_tup (pa_cons pe_non pa_nil)) (pa_cons (pe_tup (pa_cons pe_str pa_nil)) (pa_cons (pe_tup (pa_cons pe_int (pa_cons pe_int (pa_cons pe_int pa_nil))))
        (pa_cons (pe_tup (pa_cons (pe_tup (pa_cons pe_int (pa_cons pe_int pa_nil))) pa_nil)) pa_nil)))))))))) pa_nil))))), ?_⟩
    refine qsLst (K := K) (A := A) (B := B) (S := S) (G := hsd D A S H) ((qaCons qNon (qaCons qBl (qaCons qBl (qaCons qInt (qaCons qInt (qaCons qNeg (qaCons qInt (qaCons qPow30
        (qaCons qStr (qaCons qStr (qaCons qStr (qaCons (qT (qtTup qaNil)) (qaCons (qLst hy qaNil) (qaCons qDict (qaCons (qT (qtTup (qaCons qInt qaNil))) (qaCons (qT (qtTup (qaCons qInt (qaCons qInt qaNil)))) (qaCons (qT (qtTup (qaCons qInt (qaCons qInt qaNil))))
        (qaCons (qLst hy (qaCons qInt qaNil)) (qaCons (qT (qtTup (qaCons qBl qaNil))) qaNil))))))))))))))))))).mono (W' := 2500) (k' := 5) (by decide) (by decide)) dk (Ex.refl _) (by decide) fun p vs ds H2 dk2 e02 g2 m1 m2 m3 ha2 sa hl => ?_
    refine ⟨.ref D, rfl, ?_⟩
    refine qaCat (K := K) (D := D) (A := A) (B := B) (S := S) (G := hsd D A S H2) (a := p) rfl ((qaCons (qT (qtTup (qaCons qNeg (qaCons qInt qaNil)))) (qaCons (qT (qtTup (qaCons qInt (qaCons qInt qaNil)))) (qaCons (qT (qtTup (qaCons qStr (qaCons qInt qaNil)))) (qaCons (qT (qtTup (qaCons qStr qaNil)))
        (qaCons (qT (qtTup (qaCons qNon qaNil))) (qaCons (qT (qtTup (qaCons qStr qaNil))) (qaCons (qT (qtTup (qaCons qInt (qaCons qInt (qaCons qInt qaNil))))) (qaCons (qT (qtTup (qaCons (qT (qtTup (qaCons qInt (qaCons qInt qaNil)))) qaNil))) qaNil)))))))).mono (W' := 2500) (k' := 5) (by decide) (by decide)) dk2 (Ex.refl _) g2 (by omega) fun t ws es H5 dk5 e5 g5 l1 l2 l3 ha5 sa3 hl3 => ?_
    have ha6 := (DqA.ex e5 _ _ ha2).app ha5
    refine ⟨D, A, B, t, vs ++ ws, rfl, dk5.d, (of_hs g5).1, l1, l2, fun z => ?_, by rw [List.length_append]; omega, fun v H6 hv dk6 kp6 => ?_⟩
    · have c : (vs ++ ws).length = 0 := by rw [z]; rfl
      rw [List.length_append] at c
      omega
    · obtain ⟨i, hi⟩ := List.getElem?_of_mem hv
      obtain ⟨d, hd1, hd2⟩ := ha6.get i hi
      have sd2 : Sv 3000 6 d := by
        rcases List.mem_append.mp (List.mem_of_getElem? hd1) with z | z
        · exact (sa.sub d z).mono (by decide) (by decide)
        · exact (sa3.sub d z).mono (by decide) (by decide)
      exact q v d H6 (dk5.kp dk6 kp6) ((e02.trans e5).trans kp6.hs) (Dq.ex kp6.hs _ _ hd2) sd2
end
end FF
namespace FF
open PySem PySem.Spec PyProof.Rows L2 Evl
/-! ### one list hidden besides the deck -/
def noS : Hp := fun _ => none
def sg (p : Addr) (o : HO) : Hp := fun b => if b = p then some o else none
section
variable {D A B p q b : Addr} {S H H1 H2 G : Hp} {o o' : HO}
theorem sg_ne (n : b ≠ p) : sg p o b = none := if_neg n
theorem ne_sg (h : sg p o b = none) : b ≠ p := fun z => by
  unfold sg at h
  rw [if_pos z] at h
  cases h
theorem Deck.no (d : Deck D A B H) : Dk D A B noS H := { d := d, s := fun _ _ h => (nomatch h), sd := rfl, sa := rfl }
theorem Deck.sg (d : Deck D A B H) (g : H p = some o) (n1 : p ≠ D) (n2 : p ≠ A) : Dk D A B (FF.sg p o) H :=
  { d := d, sd := sg_ne n1.symm, sa := sg_ne n2.symm, s := fun b x h => by
      by_cases c : b = p
      · subst c
        unfold FF.sg at h
        rw [if_pos rfl] at h
        rw [← h]
        exact g
      · rw [sg_ne c] at h
        cases h }
theorem hsd_no : hsd D A noS H = hid D A H := by
  funext b
  unfold hsd noS
  rfl
/-- seen beside all, seen beside less -/
theorem ex_no : Ex (hsd D A S H) (hsd D A noS H) := fun b x h => by
  obtain ⟨h1, n1, n2⟩ := of_hs h
  exact hs_of h1 n1 n2 rfl
theorem ex_of_no (e : Ex (hsd D A noS H) (hsd D A noS H1)) : Ex (hsd D A S H) (hsd D A S H1) := fun b x h => by
  obtain ⟨h1, n1, n2⟩ := of_hs (e b x (ex_no b x h))
  exact hs_of h1 n1 n2 (of_hsS h)
/-- a new thing, hidden at once -/
theorem ex_new (n : H p = none) : Ex (hsd D A noS H) (hsd D A (sg p o) (upd H p o')) := fun b x h => by
  obtain ⟨h1, n1, n2⟩ := of_hs h
  have nb := ne_of_none h1 n
  exact hs_of (by rw [upd_ne nb]; exact h1) n1 n2 (sg_ne nb)
/-- what is hidden is written -/
theorem ex_put : Ex (hsd D A (sg p o) H) (hsd D A (sg p o') (upd H p o')) := fun b x h => by
  obtain ⟨h1, n1, n2⟩ := of_hs h
  have nb := ne_sg (of_hsS h)
  exact hs_of (by rw [upd_ne nb]; exact h1) n1 n2 (sg_ne nb)
end
/-- a list of values told by their data; none of them reaches the list -/
structure Vl (K : PySem.W.Frag) (D A B : Addr) (G : Hp) (p : Addr) (H : Hp) (us : List V) (es : List PyData) (n : Nat) : Prop where
  g : H p = some (.lst us)
  n1 : p ≠ D
  n2 : p ≠ A
  n3 : p ≠ B
  e : Ex G (hsd D A (sg p (.lst us)) H)
  a : DqA K (hsd D A (sg p (.lst us)) H) us es
  s : ∀ d ∈ es, Sv 100000 20 d
  l : us.length = n
section
variable {K : PySem.W.Frag} {D A B : Addr} {σ : L2.St} {G H H1 : Hp} {te : TE} {ta : TA} {W k n m : Nat} {us vs : List V} {es ds : List PyData} {a b p : Addr}
theorem Vl.ex (h : Vl K D A B G p H us es n) (e : Ex (hsd D A noS H) (hsd D A noS H1)) : Vl K D A B G p H1 us es n :=
  ⟨(of_hs (e _ _ (hs_of h.g h.n1 h.n2 rfl))).1, h.n1, h.n2, h.n3, h.e.trans (ex_of_no e), DqA.ex (ex_of_no e) _ _ h.a, h.s, h.l⟩
theorem Vl.no (h : Vl K D A B G p H us es n) : Ex G (hsd D A noS H) := h.e.trans ex_no
theorem Vl.base (h : Vl K D A B G p H us es n) {G' : Hp} (e : Ex G' (hsd D A (sg p (.lst us)) H)) : Vl K D A B G' p H us es n := ⟨h.g, h.n1, h.n2, h.n3, e, h.a, h.s, h.l⟩
theorem sv_app (h1 : ∀ d ∈ es, Sv 100000 20 d) (h2 : ∀ d ∈ ds, Sv 100000 20 d) : ∀ d ∈ es ++ ds, Sv 100000 20 d := fun d hd => (List.mem_append.mp hd).elim (h1 d) (h2 d)
theorem SvA.to (s : SvA W k ds) (hW : W ≤ 100000) (hk : k ≤ 20) : ∀ d ∈ ds, Sv 100000 20 d := fun d hd => (s.sub d hd).mono hW hk
/-- [..] -/
theorem vLst (h : EvQA K D A B noS ta σ G W k n) (dk : Deck D A B H) (e : Ex G (hsd D A noS H)) (hn : n ≤ 1000) (hW : W ≤ 100000) (hk : k ≤ 20) {Q : VK}
    (q : ∀ p us es H', Deck D A B H' → Ex (hsd D A noS H) (hsd D A noS H') → Vl K D A B G p H' us es n → Q (.ref p) H') : tLst ta σ H Q :=
  h H dk.no e _ fun vs ds H1 dk1 e1 ha sa hl => ⟨Nat.le_of_lt (small1000 (by omega)), fun p np => by
    obtain ⟨n1, n2, n3⟩ := dk1.ne np
    have x : Ex (hsd D A noS H1) (hsd D A (sg p (.lst vs)) (upd H1 p (.lst vs))) := ex_new np
    exact q p vs ds _ (dk1.d.new np) (e1.trans (x.trans ex_no)) ⟨upd_same, n1, n2, n3, (e.trans e1).trans x, DqA.ex x _ _ ha, sa.to hW hk, hl⟩⟩
/-- l + m -/
theorem vJoin (va : Vl K D A B G a H us es m) (vb : Vl K D A B G b H vs ds n) (dk : Deck D A B H) (hz : m + n ≤ 1000) {Q : VK}
    (q : ∀ p us' es' H', Deck D A B H' → Ex (hsd D A noS H) (hsd D A noS H') → Vl K D A B G p H' us' es' (m + n) → Q (.ref p) H') : rCat (.ref a) (.ref b) H Q := by
  have h1 := va.l
  have h2 := vb.l
  refine ⟨a, b, us, vs, rfl, rfl, va.g, vb.g, Nat.le_of_lt (small1000 (by omega)), fun p np => ?_⟩
  obtain ⟨n1, n2, n3⟩ := dk.ne np
  have x : Ex (hsd D A noS H) (hsd D A (sg p (.lst (us ++ vs))) (upd H p (.lst (us ++ vs)))) := ex_new np
  refine q p (us ++ vs) (es ++ ds) _ (dk.new np) (x.trans ex_no) ⟨upd_same, n1, n2, n3, va.no.trans x, (DqA.ex (ex_no.trans x) _ _ va.a).app (DqA.ex (ex_no.trans x) _ _ vb.a), sv_app va.s vb.s, ?_⟩
  rw [List.length_append]
  omega
/-- l + [..] -/
theorem vCat {i : Nat} (hv : σ[i]? = some (some (.ref a))) (h : EvQA K D A B noS ta σ G W k n) (va : Vl K D A B G a H us es m) (dk : Deck D A B H) (hz : m + n ≤ 1000) (hW : W ≤ 100000) (hk : k ≤ 20) {Q : VK}
    (q : ∀ p us' es' H', Deck D A B H' → Ex (hsd D A noS H) (hsd D A noS H') → Vl K D A B G p H' us' es' (m + n) → Q (.ref p) H') : tOp rCat (tVar i) (tLst ta) σ H Q :=
  ⟨.ref a, hv, vLst h dk va.no (by omega) hW hk fun b vs ds H1 dk1 e1 vb => vJoin (va.ex e1) vb dk1 hz fun p us' es' H2 dk2 e2 vp => q p us' es' H2 dk2 (e1.trans e2) vp⟩
/-- one more, at the end of the list that grows -/
theorem Vl.push (va : Vl K D A B G p H us es n) {v : V} {d : PyData} (dk' : Dk D A B (sg p (.lst us)) H1) (e' : Ex (hsd D A (sg p (.lst us)) H) (hsd D A (sg p (.lst us)) H1)) (hd : Dq K (hsd D A (sg p (.lst us)) H1) v d) (s : Sv W k d) (hW : W ≤ 100000) (hk : k ≤ 20) :
    Deck D A B (upd H1 p (.lst (us ++ [v]))) ∧ Vl K D A B G p (upd H1 p (.lst (us ++ [v]))) (us ++ [v]) (es ++ [d]) (n + 1) := by
  have g1 : H1 p = some (.lst us) := dk'.s _ _ (if_pos rfl)
  have x : Ex (hsd D A (sg p (.lst us)) H1) (hsd D A (sg p (.lst (us ++ [v]))) (upd H1 p (.lst (us ++ [v])))) := ex_put
  refine ⟨dk'.d.put ⟨_, g1⟩ va.n1 va.n2 va.n3, upd_same, va.n1, va.n2, va.n3, (va.e.trans e').trans x, (DqA.ex (e'.trans x) _ _ va.a).app (.cons (Dq.ex x _ _ hd) .nil), sv_app va.s ?_, ?_⟩
  · intro y hy
    rw [List.mem_singleton.mp hy]
    exact s.mono hW hk
  · rw [List.length_append, va.l]
    rfl
/-- l.extend([..]) -/
theorem vExt {i : Nat} {Q : VK} (hv : σ[i]? = some (some (.ref p))) (va : Vl K D A B G p H us es m) (dk : Deck D A B H) (h : EvQA K D A B (sg p (.lst us)) ta σ G W k n) (hz : m + n ≤ 1000) (hW : W ≤ 100000) (hk : k ≤ 20)
    (q : ∀ us' es' H', Deck D A B H' → Vl K D A B G p H' us' es' (m + n) → Q .non H') : tBM K "list" rExtend (tVar i) (tCons (tLst ta) tNil) σ H Q := by
  refine ⟨.ref p, hv, ?_, ?_⟩
  · exact .inl ⟨rfl, us, SqL.of va.g⟩
  · show tLst ta σ H (fun x H1 => rExtend (.ref p) [x] H1 Q)
    refine h H (dk.sg va.g va.n1 va.n2) va.e _ fun vs ds H1 dk1 e1 ha sa hl => ⟨Nat.le_of_lt (small1000 (by omega)), fun b nb => ?_⟩
    have hm := va.l
    obtain ⟨x, gb⟩ := dk1.hidNew (o := .lst vs) nb
    have dk2 := dk1.new (o := .lst vs) nb
    have gp : upd H1 b (.lst vs) p = some (.lst us) := dk2.s _ _ (if_pos rfl)
    have y : Ex (hsd D A (sg p (.lst us)) (upd H1 b (.lst vs))) (hsd D A (sg p (.lst (us ++ vs))) (upd (upd H1 b (.lst vs)) p (.lst (us ++ vs)))) := ex_put
    refine ⟨p, b, us, vs, rfl, rfl, gp, upd_same, Nat.le_of_lt (small1000 (by omega)), q (us ++ vs) (es ++ ds) _ (dk2.d.put ⟨_, gp⟩ va.n1 va.n2 va.n3) ⟨upd_same, va.n1, va.n2, va.n3, (va.e.trans e1).trans (x.trans y), (DqA.ex ((e1.trans x).trans y) _ _ va.a).app (DqA.ex (x.trans y) _ _ ha), sv_app va.s (sa.to hW hk), ?_⟩⟩
    rw [List.length_append]
    omega
theorem Vl.step (va : Vl K D A B G p H us es n) (dk' : Dk D A B (sg p (.lst us)) H1) (e' : Ex (hsd D A (sg p (.lst us)) H) (hsd D A (sg p (.lst us)) H1)) : Vl K D A B (hsd D A (sg p (.lst us)) H1) p H1 us es n :=
  ⟨dk'.s _ _ (if_pos rfl), va.n1, va.n2, va.n3, Ex.refl _, DqA.ex e' _ _ va.a, va.s, va.l⟩
theorem vNil (dk : Deck D A B H) (np : H p = none) : Deck D A B (upd H p (.lst [])) ∧ Vl K D A B (hsd D A noS H) p (upd H p (.lst [])) [] [] 0 :=
  have ⟨n1, n2, n3⟩ := dk.ne np
  ⟨dk.new np, upd_same, n1, n2, n3, ex_new np, .nil, fun _ h => (nomatch h), rfl⟩
theorem vsLst {i : Nat} {u : TS} {Ed : Ends} (h : EvQA K D A B noS ta σ G W k n) (dk : Deck D A B H) (e : Ex G (hsd D A noS H)) (hn : n ≤ 1000) (hW : W ≤ 100000) (hk : k ≤ 20)
    (q : ∀ p us es H', Deck D A B H' → Ex (hsd D A noS H) (hsd D A noS H') → Vl K D A B G p H' us es n → u Ed (σ.set i (some (.ref p))) H') : tSeq (tAsg (tLst ta) (gName i)) u Ed σ H := by
  show tLst ta σ H (fun x H1 => u Ed (σ.set i (some x)) H1)
  exact vLst h dk e hn hW hk q
theorem vsCat {i l : Nat} {u : TS} {Ed : Ends} (hv : σ[i]? = some (some (.ref a))) (h : EvQA K D A B noS ta σ G W k n) (va : Vl K D A B G a H us es m) (dk : Deck D A B H) (hz : m + n ≤ 1000) (hW : W ≤ 100000) (hk : k ≤ 20)
    (q : ∀ p us' es' H', Deck D A B H' → Ex (hsd D A noS H) (hsd D A noS H') → Vl K D A B G p H' us' es' (m + n) → u Ed (σ.set l (some (.ref p))) H') : tSeq (tAsg (tOp rCat (tVar i) (tLst ta)) (gName l)) u Ed σ H := by
  show tOp rCat (tVar i) (tLst ta) σ H (fun x H1 => u Ed (σ.set l (some x)) H1)
  exact vCat hv h va dk hz hW hk q
theorem qRunT {S : Hp} (h : EvQA K D A B S ta σ G W k n) (dk : Dk D A B S H) (e : Ex G (hsd D A S H)) (hn : n ≤ 1000) {Q : VK} (q : ∀ v d H', Dk D A B S H' → Ex (hsd D A S H) (hsd D A S H') → Dq K (hsd D A S H') v d → Sv W (k + 1) d → Q v H') : tTup ta σ H Q := qT (qtTup h hn) H dk e Q q
theorem Sys.deck (s : Sys H) (e : Ex H H1) (nD : H D = none) (nA : H A = none) : Sys (hsd D A noS H1) := by
  obtain ⟨o, h⟩ := s
  exact ⟨o, hs_of (e _ _ h) (ne_of_none h nD) (ne_of_none h nA) rfl⟩
end
end FF
namespace FF
open PySem PySem.Spec PyProof.Rows L2 Evl
section
open Builtin Builtin.ObjectAttr PySem.W
variable {prog : Program} {w : World} {A : Around} {E : Value → Shared → Prop} {R : Result → Shared → Prop} {hp : Heap} {g : Array GenState} {d : Drawn} {t : Nat} {os : OsState} {B : String} {bmB : List Value}
/-- e.name = v, no dict as yet; any base -/
theorem sa_first {K : PySem.W.Frag} {name : Str} {tk : Tok} {v : Value} {x C : Addr} {fv : Array Value} (SF : StoreFacts B bmB "object.__setattr__" "object") (X : K.In hp) (hx : hp.get? x = some { cls := .ref C, data := .fields fv })
    (ho : PySem.W.excOver K C bmB = true) (hd : PySem.W.hasDictIn K C = true) (ht : PySem.W.takerIn K C name = some none)
    (hq : ∀ h' tk' dx, (∀ b o, b ≠ x → hp.get? b = some o → h'.get? b = some o) → hp.objs.size ≤ dx → dx ≠ x → h'.get? x = some { cls := .ref C, dict := some dx, data := .fields fv } → h'.Ns1 dx (fun y => if y = name then some v else none) → R (.ok (.ret .none)) ⟨h', g, d, tk', os⟩) :
    codeAny (model prog w) A (.call (.builtin "object.__setattr__") ⟨[.ref x, .str name tk, v], []⟩) R ⟨hp, g, d, t, os⟩ := by
  have ne : x ≠ hp.objs.size := Nat.ne_of_lt (Heap.lt_size hx)
  refine PySem.W.osa_openX (od := none) SF X ⟨hx, rfl, rfl, trivial⟩ ho ht fun b => ?_
  obtain ⟨cd, hcd, hdict⟩ := PySem.W.any_some hd
  have lk : PySem.W.Looks (model prog w) hp (classData C) cd := PySem.W.looks_clsIn X hcd
  obtain ⟨nm, bs, mro, ns, qn, hd', sn, sb, ab, col, del⟩ := cd
  dsimp only at hdict
  subst hdict
  unfold storeInOwnDict ownDictForStores
  repeat (first | with_reducible refine PySem.HandSPX.store_in_new ?_ ?_ | with_reducible refine wpAny_loadPart_at hx ?_ | with_reducible refine lk.at ?_ | wp_step)
  · refine ⟨_, #[], _, (Heap.get?_update_ne _ _ _ _ ne.symm).trans (Heap.get?_push_at rfl rfl), rfl, ?_, fun _ => rfl⟩
    exact fun e he => absurd he (by simp)
  · intro h' tk' hn' sb'
    have hx1 : (hp.push { cls := .type "dict", data := .dict #[] }).get? x = some { cls := .ref C, data := .fields fv } := Heap.get?_push_of_some _ hx
    refine hq h' tk' hp.objs.size (fun c o hc hco => ?_) (Nat.le_refl _) ne.symm ?_ hn'
    · refine (sb'.2 c (Nat.ne_of_lt (Heap.lt_size hco))).trans ?_
      exact (Heap.get?_update_ne _ _ _ _ hc).trans (Heap.get?_push_of_some _ hco)
    · exact (sb'.2 x ne).trans (Heap.get?_update_self _ hx1 rfl)
end
end FF
namespace FF
open PySem PySem.Spec PyProof.Rows L2 Evl
/-- what the written part says of an exception class of the program, over any base -/
structure OG (K : PySem.W.Frag) (C : Addr) : Prop where
  base : ∃ (B newId initId : String) (bmB : List Value), ExcBaseFacts B newId initId bmB ∧ StoreFacts B bmB "object.__setattr__" "object" ∧ PySem.W.excOver K C bmB = true ∧ PySem.W.excInitIn K C bmB newId = true
  sa : PySem.W.findIn K (.ref C) "__setattr__" = some (some (.builtin "object.__setattr__"))
  kC : PySem.W.keepIn K (.ref C) = true
  is : ExcC K C
section
variable {X : Cx} {pins : List (Addr × Obj)} {σ : L2.St} {H : Hp} {s : Shared} {a C : Addr} {f : Str} {y : V} {u : Value} {E : Value → Shared → Prop} {A : Around}
theorem store_g {Q : Unit → Shared → Prop} (T : OG X.K C) (I : Inv X pins σ H s) (e : H a = some (exo a C none)) (ht : PySem.W.takerIn X.K C f = some none) (ry : RelV y u)
    (h : ∀ dx s', H dx = none → dx ≠ a → Inv X pins σ (upd (upd H dx (exd dx [(f, y)])) a (exo a C (some dx))) s' → Q () s') : wpAny (model X.prog X.w) A (setAttr (.ref a) f u) Q E s := by
  obtain ⟨B, newId, initId, bmB, hF, hS, hov, _⟩ := T.base
  obtain ⟨t1, ho⟩ := exo_at I.hok e
  obtain ⟨hp, g, d, t, os⟩ := s
  refine PySem.W.set_plain I.kIn (od := none) ⟨ho, rfl, rfl, trivial⟩ T.sa (sa_first hS I.kIn ho hov T.is.hd ht fun h' tk' dx k dn dne hx hn => ?_)
  have hnd : H dx = none := I.hok.fresh dn
  have od : ∀ {b : Addr} {o : Obj}, hp.get? b = some o → b ≠ dx := fun {b o} q => Nat.ne_of_lt (Nat.lt_of_lt_of_le (Heap.lt_size q) dn)
  have oa : ∀ {b : Addr}, H b = none → b ≠ a := fun {b} n z => by rw [z, e] at n; cases n
  have two : ∀ {b : Addr}, b ≠ a → b ≠ dx → upd (upd H dx (exd dx [(f, y)])) a (exo a C (some dx)) b = H b := fun n1 n2 => by rw [upd_ne n1, upd_ne n2]
  have un : Un X.fs [] H (upd (upd H dx (exd dx [(f, y)])) a (exo a C (some dx))) hp h' := by
    refine ⟨fun b o q n _ _ => k b o (oa n) q, fun b o q n _ _ => ⟨o.slots, k b o (oa n) q⟩, fun b o q n _ => (two (oa n) (od q)).trans n, fun b o q _ => ?_, fun b xs q => ?_, fun b o v q => ?_, fun b ps q => ⟨#[], ?_⟩⟩
    · by_cases hb : b = a
      · subst hb; exact ⟨_, hx⟩
      · exact ⟨o, k b o hb q⟩
    · exact (two (at_ne e q exo_tup) (ne_of_none q hnd)).trans q
    · exact (two (at_ne e q exo_frz) (ne_of_none q hnd)).trans q
    · rw [two (at_ne e q exo_tbl) (ne_of_none q hnd), q]
      simp
  refine h dx _ hnd dne (I.un (t' := tk') un fun b o q => ?_)
  by_cases hb : b = a
  · subst hb
    rw [upd_same] at q
    injection q with q
    subst q
    exact exo_ok hx
  · by_cases hd : b = dx
    · subst hd
      rw [upd_ne hb, upd_same] at q
      injection q with q
      subst q
      exact exd_ok hn (relO_put (fs := []) ry fun _ => True.intro)
    · rw [two hb hd] at q
      refine (I.hok b o q).stay (fun c v hc z => k c v ?_ z) (fun c hc => (two (at_ne e hc exo_own) (ne_of_none hc hnd)).trans hc) (fun c xs hc => (two (at_ne e hc exo_tup) (ne_of_none hc hnd)).trans hc)
      rcases hc with hc | hc
      · rw [hc]; exact hb
      · exact at_ne e hc exo_own
/-- self.f = e, the first store of an exception -/
def tOsg (K : PySem.W.Frag) (f : Str) (to te : TE) : TS := fun D σ H => te σ H fun y H1 => to σ H1 fun x H2 => ∃ a C : Addr, x = .ref a ∧ OG K C ∧ PySem.W.takerIn K C f = some none ∧
  H2 a = some (exo a C none) ∧ ∀ dx, H2 dx = none → dx ≠ a → D.nx σ (upd (upd H2 dx (exd dx [(f, y)])) a (exo a C (some dx)))
theorem ps_osg {o e : Expr} {to te : TE} {p' pos : Pos} (ho : PE X o to) (he : PE X e te) (hs : swapsWith e (some (.Attribute o f p')) pos.line X.env = pure false := by rfl) : PS X (.Assign [.Attribute o f p'] e pos) (tOsg X.K f to te) := by
  refine ⟨fun pins s σ H D I h => ?_⟩
  refine plainObj_wpAny_Assign_Attribute (thn (he.run pins s σ H _ I h) fun v s1 w1 => ?_) hs
  obtain ⟨y, H1, I1, r1, q1⟩ := w1
  refine thn (ho.run pins s1 σ H1 _ I1 q1) fun z s2 w2 => ?_
  obtain ⟨x, H2, I2, r2, a, C, rfl, T, ht, ea, q⟩ := w2
  cases r2
  exact store_g T I2 ea ht r1 fun dx s' n ne J => ⟨σ, _, J, q dx n ne⟩
end
/-- an exception at a, of the class at C, with these fields -/
def ExAt (H : Hp) (a C : Addr) (fs : List (Str × V)) : Prop := (H a = some (exo a C none) ∧ fs = []) ∨ ∃ dx, H a = some (exo a C (some dx)) ∧ H dx = some (exd dx fs)
theorem ExAt.ex {H H' : Hp} {a C : Addr} {fs : List (Str × V)} (h : ExAt H a C fs) (e : Ex H H') : ExAt H' a C fs := by
  rcases h with ⟨h, r⟩ | ⟨dx, h1, h2⟩
  · exact .inl ⟨e _ _ h, r⟩
  · exact .inr ⟨dx, e _ _ h1, e _ _ h2⟩
theorem ExAt.inst {X : Cx} {pins : List (Addr × Obj)} {σ : L2.St} {H : Hp} {s : Shared} {a C : Addr} {fs : List (Str × V)} (I : Inv X pins σ H s) (h : ExAt H a C fs) :
    ∃ ox od, PySem.W.InstAt s.heap a ox C od ∧ ∀ (n : Str) (v : V), fs.lookup n = some v → ∃ o u, od = some o ∧ PySem.W.lookIn n o = some (some u) ∧ RelV v u := by
  rcases h with ⟨h, rfl⟩ | ⟨dx, h1, h2⟩
  · obtain ⟨t1, ho⟩ := exo_at I.hok h
    exact ⟨_, none, ⟨ho, rfl, rfl, trivial⟩, fun n v z => nomatch z⟩
  · obtain ⟨t1, ho⟩ := exo_at I.hok h1
    obtain ⟨mA, hns, hr⟩ := exd_at I.hok h2
    obtain ⟨od, hd, hl⟩ := lookIn_ns hns
    refine ⟨_, some od, ⟨ho, rfl, rfl, hd⟩, fun n v z => ?_⟩
    obtain ⟨u, hu, ru⟩ := RelO.some_of (v := v) (o := mA n) (by rw [← z]; exact hr n)
    exact ⟨od, u, rfl, by rw [hl, hu], ru⟩
/-- isinstance(e, c) -/
def rIsX (K : PySem.W.Frag) : List V → Hp → VK → Prop := fun xs H Q => ∃ (a D : Addr) (fs : List (Str × V)) (c : V) (cv : Value) (b : Bool), xs = [.ref a, c] ∧ ExAt H a D fs ∧ ExcC K D ∧ (∀ u, RelV c u → u = cv) ∧ PySem.W.kitOne K (.ref D) cv = some b ∧ Q (.bl b) H
theorem call_isX {X : Cx} : CallR X (.builtin "isinstance") (rIsX X.K) := by
  intro pins s σ H xs us Q I r h
  obtain ⟨a, D, fs, c, cv, b, rfl, hE, hC, hcv, e, q⟩ := h
  cases r with
  | cons rx rr =>
    cases rr with
    | cons rt rr =>
      cases rr
      cases rx
      have ec := hcv _ rt
      subst ec
      obtain ⟨ox, od, J, _⟩ := hE.inst I
      obtain ⟨cd, hcd, _⟩ := PySem.W.any_some hC.hd
      exact PySem.W.kia_one (PySem.W.kitx_exc (by rw [hcd]; rfl) hC.hg hC.hk hC.hs hC.ha hC.hn hC.ht hC.hm) I.kIn J e (fun z => nomatch z) fun tk => ⟨.bl b, H, I.kept (t' := tk) fun _ _ z => z, rfl, q⟩
/-- e.f -/
def tFld (K : PySem.W.Frag) (n : Str) (te : TE) : TE := fun σ H Q => te σ H fun x H1 => ∃ (a C : Addr) (fs : List (Str × V)) (v : V), x = .ref a ∧ ExAt H1 a C fs ∧ ExcC K C ∧ PySem.W.findIn K (.ref C) n = some none ∧ fs.lookup n = some v ∧ Q v H1
theorem pe_fld {X : Cx} {e : Expr} {te : TE} {pos : Pos} {n : Str} (he : PE X e te) (hb : attributeBase e n X.env (eval e X.env) = eval e X.env := by rfl) : PE X (.Attribute e n pos) (tFld X.K n te) := by
  refine ⟨fun pins s σ H Q I h => ?_⟩
  refine attr_of hb (thn (he.run pins s σ H _ I h) fun u s1 w1 => ?_)
  obtain ⟨x, H1, I1, rx, a, C, fs, v, rfl, hE, hC, hno, l, q⟩ := w1
  cases rx
  obtain ⟨ox, od, J, hf⟩ := hE.inst I1
  obtain ⟨o, u, rfl, hl, ru⟩ := hf n v l
  exact PySem.HandSPX.exc_get I1.kIn J hC.hg hC.hk hC.hs (PySem.W.findObj_own hC.hd hno rfl hl) (handed_of ru) ⟨v, H1, I1.tok _, ru, q⟩
end FF
namespace FF
open PySem PySem.Spec PyProof.Rows L2 Evl
/-- C(e, ..) as a value, C's own __init__ keeping sp -/
def tMkG (C : Addr) (sp : Sp) (ta : TA) : TE := fun σ H Q => ta σ H fun vs H1 => vs.length ≤ 1000 ∧ ∀ a, H1 a = none → sp (.ref a :: vs) (upd H1 a (exo a C none)) (fun v H2 => v = .non ∧ Q (.ref a) H2) E0
section
variable {X : Cx} {CX : CXT} {x : Str} {C fI : Addr} {k : Nat} {fd : FuncData} {ps : List Str} {sp : Sp} {e : Expr} {es : List Expr} {ta : TA} {p pos : Pos}
theorem pe_mkG (T : OG X.K C) (iC : PySem.W.findIn X.K (.ref C) "__init__" = some (some (.ref fI))) (tI : PySem.W.typeIn X.K (.ref fI) = some (.type "function"))
    (F1 : FnOk X.prog X.w X.K X.mg X.base CX k fI fd ps sp) (hr : Room (k + 1) X.A) (hb : Binds X.K fd ps []) (hx : Passes CX X E0) (hg : Gl X x) (hm : X.mg x = some (.ref C)) (ha : PA X (e :: es) ta)
    (hdb : (x == ("__debug__" : Str)) = false := by decide) (he : starEach (e :: es) X.env = (false, eval e X.env) :: starEach es X.env := by rfl) (hpl : (backTo pos (starEach es X.env)).any (·.1) = false := by rfl) :
    PE X (.Call (.Name x p) (e :: es) [] pos) (tMkG C sp ta) := by
  refine ⟨fun pins s σ H Q I h => ?_⟩
  obtain ⟨B, newId, initId, bmB, hF, _, _, hini⟩ := T.base
  refine wpAny_Call_Name_kw (ld_glob I hg hm ?_ hdb)
  refine PySem.W.callWith_K (h₀ := X.base) I.ok.mod.kin T.kC (thn (ha.run pos pins s σ H _ I h) fun us s1 w1 => ?_) he hpl
  obtain ⟨vs, H1, I1, r1, hz, q1⟩ := w1
  refine ⟨I1.kIn, ?_⟩
  show wpAny _ _ (call (.ref C) us) _ _ _
  obtain ⟨nm, N, qn, bs, bm, hdct, sn, sub, ab, col, dd, k0, k1, k2, k3, k5, hC, hbm⟩ := PySem.W.excInit_of I1.kIn hini
  obtain ⟨hp, g, dr, tk, os⟩ := s1
  have big : hp.objs.size ≤ hp.objs.size + 1 := Nat.le_succ _
  have nn : H1 (hp.objs.size + 1) = none := I1.hok.fresh big
  have hq := q1 (hp.objs.size + 1) nn
  have kk : ∀ b o, hp.get? b = some o → ((hp.push (PySem.W.kdv_tup us)).push (PySem.HandSPX.excO C hp.objs.size)).get? b = some o :=
    fun b o z => Heap.get?_push_of_some _ (Heap.get?_push_of_some _ z)
  have gt : ((hp.push (PySem.W.kdv_tup us)).push (PySem.HandSPX.excO C hp.objs.size)).get? (hp.objs.size + 1) = some (PySem.HandSPX.excO C hp.objs.size) := by heap_get
  have I2 : Inv X pins σ (upd H1 (hp.objs.size + 1) (exo (hp.objs.size + 1) C none)) ⟨(hp.push (PySem.W.kdv_tup us)).push (PySem.HandSPX.excO C hp.objs.size), g, dr, tk, os⟩ := I1.laid (t' := tk) kk big (exo_ok gt)
  have r2 : Vals (V.ref (hp.objs.size + 1) :: vs) (Value.ref (hp.objs.size + 1) :: us) := .cons rfl r1
  have hl : (Value.ref (hp.objs.size + 1) :: us).length = ps.length := by
    rw [← F1.len _ _ _ _ hq]
    exact r2.length.symm
  have hus : us.length ≤ sizeLine := by
    rw [← Paired.length r1, sizeLine_eq]
    omega
  have bd := hb (⟨(hp.push (PySem.W.kdv_tup us)).push (PySem.HandSPX.excO C hp.objs.size), g, dr, tk, os⟩ : Shared) (Value.ref (hp.objs.size + 1) :: us) I2.kIn (by rw [List.append_nil]; exact hl)
  rw [List.append_nil] at bd
  refine wpAny_call (PySem.HandSPX.call_own hF hbm hC (PySem.W.looks_findIn I1.kIn iC) (fun self => PySem.W.bind_fn I1.kIn self tI) hus (codeAny_mono (F1.run _ X.stack _ _ ⟨Value.ref (hp.objs.size + 1) :: us, []⟩ _ _ _ E0 (hr.make C us []) (I2.env0.make C us []) bd r2 hq) fun r s' hq' => ?_))
  cases r with
  | error er => exact hx pins σ _ _ er s' I2 hq'
  | ok fl =>
    cases fl with
    | ret u =>
      obtain ⟨v, H2, os2, bare2, un2, hok2, rv, ev, q2⟩ := hq'
      subst ev
      exact ⟨rv, .ref (hp.objs.size + 1), H2, I2.call' (ch := []) os2 un2 hok2 bare2 (fun b z => absurd z (by simp)), rfl, q2⟩
    | next => exact False.elim hq'
    | brk => exact False.elim hq'
    | cont => exact False.elim hq'
/-- C() as a value, no own __init__ -/
def tMk0 (C : Addr) : TE := fun _ H Q => ∀ a, H a = none → Q (.ref a) (upd H a (exo a C none))
theorem pe_mk0 {bmB : List Value} {B newId initId : String} (F : ExcBaseFacts B newId initId bmB) (q : PySem.W.excIn X.K C bmB newId = true) (kC : PySem.W.keepIn X.K (.ref C) = true) (hg : Gl X x) (hm : X.mg x = some (.ref C))
    (hdb : (x == ("__debug__" : Str)) = false := by decide) : PE X (.Call (.Name x p) [] [] pos) (tMk0 C) := by
  refine ⟨fun pins s σ H Q I h => ?_⟩
  refine wpAny_Call_Name_kw (ld_glob I hg hm ?_ hdb)
  refine PySem.W.callWith_K0 I.kIn kC ?_
  obtain ⟨bm, N, nm, qn, bs, hdct, sn, sub, ab, col, dd, k0, k1, k2, k3, k5, mN, hC, hN, hni, T⟩ := exc_obj I.kIn q
  refine wpAny_call_exc_subT F T hC hN hni (fun h' a hm => ?_) (by show 0 ≤ sizeLine; exact Nat.zero_le _)
  have hn : H a = none := I.hok.gone hm.new
  obtain ⟨t, ht, _, _⟩ := hm.there
  exact ⟨.ref a, upd H a (exo a C none), I.laidN hm.keeps hm.new hn (exo_ok ht), rfl, h a hn⟩
end
end FF
namespace FF
open PySem PySem.Spec PyProof.Rows
section
variable {M : Model} {prog : Program} {w : World} {A : Around} {E : Value → Shared → Prop} {R : Result → Shared → Prop} {h : Heap} {g : Array GenState} {d : Drawn} {t : Nat} {os : OsState}
variable {nm q nk : Str} {u : Value} {C N : Addr} {bs bm bmB : List Value} {hdct : Bool} {sn : List Str} {sub : List Value} {ab : Bool} {col : Option Bool} {dd : Option Addr} {k0 k1 k2 k3 k5 : Option Value} {B newId initId : String}
theorem kw_check_new (F : ExcBaseFacts B newId initId bmB) (hT : ∀ Z : String, bm.contains (.type Z) = bmB.contains (.type Z)) {Q : Unit → Shared → Prop} (hC : h.get? C = some (excClassObj nm q C N bs bm hdct sn sub ab col dd k0 k1 k2 k3 k5 newId))
    (hq : Q () ⟨h, g, d, t, os⟩) : wpAny M A (checkBuiltinCall newId ⟨[.ref C], [(nk, u)]⟩) Q E ⟨h, g, d, t, os⟩ := by
  have own : (Value.ref C :: bm).contains (.type B) = true := by
    rw [List.contains_cons, hT, F.hasB, Bool.or_true]
  have st := F.noStar
  simp only [checkBuiltinCall, F.newKind, F.newSplit, F.newRow]
  repeat (first
    | refine wpAny_loadPart_at hC ?_
    | (refine wpAny_isSubtype_exc hC ?_; rw [own])
    | refine wpAny_staticBase_exc hC ?_
    | refine wpAny_madeBy_exc hC ?_
    | simp only [bne_self_eq_false, Bool.false_eq_true, if_false]
    | wp_step)
  exact hq
theorem kw_new (F : ExcBaseFacts B newId initId bmB) (hT : ∀ Z : String, bm.contains (.type Z) = bmB.contains (.type Z)) (hC : h.get? C = some (excClassObj nm q C N bs bm hdct sn sub ab col dd k0 k1 k2 k3 k5 newId))
    (hq : R (.ok (.ret (.ref (h.objs.size + 1)))) ⟨(h.push (PySem.W.kdv_tup [])).push (PySem.HandSPX.excO C h.objs.size), g, d, t, os⟩) : codeAny (model prog w) A (.builtin newId ⟨[.ref C], [(nk, u)]⟩) R ⟨h, g, d, t, os⟩ := by
  have en := F.ends
  have b1 : (Value.ref C :: bm).contains (.type B) = true := by
    rw [List.contains_cons, hT, F.hasB, Bool.or_true]
  have b2 : (Value.ref C :: bm).contains (.type "AttributeError") = false := by
    rw [List.contains_cons, hT, F.noAttr]
    rfl
  have b3 : (Value.ref C :: bm).contains (.type "NameError") = false := by
    rw [List.contains_cons, hT, F.noName]
    rfl
  have hz : ([] : List Value).length ≤ sizeLine := Nat.zero_le _
  refine codeAny_builtinAt F.entry ?_
  unfold Builtin.«BaseException.__new__»
  refine PySem.wpAt_bind ?_
  show PySem.wpAt _ _ _ (stack >>= _) _ _ _
  refine PySem.wpAt_bind (PySem.wpAt_stack fun p below => PySem.wpAt_of_wpAny ?_)
  wp_walk
  refine PySem.wpAt_of_wpAny ?_
  rw [F.owner]
  repeat (first
    | with_reducible refine wpAny_madeHere_exc F.canon hC ?_
    | with_reducible refine wpAny_loadPart_at hC ?_
    | (with_reducible refine wpAny_isSubtype_exc hC ?_; first | rw [b1] | rw [b2] | rw [b3])
    | wp_step)
  show R _ _
  rw [Heap.size_push]
  exact hq
theorem kw_type_call (F : ExcBaseFacts B newId initId bmB) (hT : ∀ Z : String, bm.contains (.type Z) = bmB.contains (.type Z)) {fI : Addr} {Q : Fin → Shared → Prop} (hC : h.get? C = some (excClassObj nm q C N bs bm hdct sn sub ab col dd k0 k1 k2 k3 k5 newId))
    (hi : PySem.W.Looks (model prog w) h (typeLookup (.ref C) "__init__") (some (.ref fI))) (hb : ∀ self, PySem.W.Looks (model prog w) h (bindSpecial (.ref fI) self) (.ref fI, [self]))
    (hq : codeAny (model prog w) A (.call (.ref fI) ⟨[.ref (h.objs.size + 1)], [(nk, u)]⟩) (fun r s' => match r with | .ok (.ret v) => v = .none ∧ Q (.done (.ret (.ref (h.objs.size + 1)))) s' | .ok _ => False | .error e => E e s')
      ⟨(h.push (PySem.W.kdv_tup [])).push (PySem.HandSPX.excO C h.objs.size), g, d, t, os⟩) : wpAny (model prog w) A (Builtin.«type.__call__» ⟨[.ref C], [(nk, u)]⟩) Q E ⟨h, g, d, t, os⟩ := by
  repeat (first
    | with_reducible refine wpAny_loadPart_at hC ?_
    | with_reducible refine wpAny_madeBy_exc hC ?_
    | wp_step)
  refine codeAny_call_builtin_code (Code.quiet_builtin _ F.quiet) (kw_check_new F hT hC ?_)
  refine kw_new F hT hC ?_
  show wpAny _ _ _ _ _ _
  have k : ∀ b o, h.get? b = some o → ((h.push (PySem.W.kdv_tup [])).push (PySem.HandSPX.excO C h.objs.size)).get? b = some o :=
    fun b o e => Heap.get?_push_of_some _ (Heap.get?_push_of_some _ e)
  have c1 := k _ _ hC
  have c2 : ((h.push (PySem.W.kdv_tup [])).push (PySem.HandSPX.excO C h.objs.size)).get? (h.objs.size + 1) = some (PySem.HandSPX.excO C h.objs.size) := by
    heap_get
  have c3 : (Value.ref C :: bm).contains (.ref C) = true := by
    simp
  have i1 := hi.keeps k
  have b1 := (hb (.ref (h.objs.size + 1))).keeps k
  unfold isInstance
  repeat (first
    | with_reducible refine wpAny_loadPart_at c2 ?_
    | (with_reducible refine wpAny_isSubtype_exc c1 ?_; rw [c3])
    | wp_step)
  show wpAny _ _ (typeLookup (.ref C) _) _ _ _
  refine i1.at ?_
  refine wpAny_holding (wpAny_bind (b1.at ?_))
  refine wpAny_bind (wpAny_call (codeAny_mono hq fun r s' z => ?_))
  rcases r with e | (v | _ | _ | _) <;> first | exact z | exact z.elim | skip
  obtain ⟨rfl, z'⟩ := z
  first
    | exact wpAny_pure (wpAny_pure z')
    | (wp_walk; exact z')
theorem kw_check_type (hC : h.get? C = some (excClassObj nm q C N bs bm hdct sn sub ab col dd k0 k1 k2 k3 k5 newId)) {Q : Unit → Shared → Prop} (hq : Q () ⟨h, g, d, t, os⟩) : wpAny M A (checkBuiltinCall "type.__call__" ⟨[.ref C], [(nk, u)]⟩) Q E ⟨h, g, d, t, os⟩ := by
  have f := tc_sub
  have ty : (⟨h, g, d, t, os⟩ : Shared).TypeIs (.ref C) "type" := ⟨_, hC, rfl⟩
  simp only [checkBuiltinCall, tc_kind, tc_split]
  repeat (any_goals (first
    | assumption
    | with_reducible refine wpAny_loadPart_at hC ?_
    | with_reducible refine wpAny_onRaise ?_
    | with_reducible refine wpAny_map ?_
    | wp_step))
theorem kw_call_own (F : ExcBaseFacts B newId initId bmB) (hT : ∀ Z : String, bm.contains (.type Z) = bmB.contains (.type Z)) {fI : Addr} (hC : h.get? C = some (excClassObj nm q C N bs bm hdct sn sub ab col dd k0 k1 k2 k3 k5 newId))
    (hi : PySem.W.Looks (model prog w) h (typeLookup (.ref C) "__init__") (some (.ref fI))) (hb : ∀ self, PySem.W.Looks (model prog w) h (bindSpecial (.ref fI) self) (.ref fI, [self]))
    (hq : codeAny (model prog w) (A.under (.builtin "type.__call__" ⟨[.ref C], [(nk, u)]⟩)) (.call (.ref fI) ⟨[.ref (h.objs.size + 1)], [(nk, u)]⟩) (PySem.W.InitBack (h.objs.size + 1) R)
      ⟨(h.push (PySem.W.kdv_tup [])).push (PySem.HandSPX.excO C h.objs.size), g, d, t, os⟩) : codeAny (model prog w) A (.call (.ref C) ⟨[], [(nk, u)]⟩) R ⟨h, g, d, t, os⟩ := by
  have f1 := tc_lookup
  have f2 := tc_bind (.ref C)
  have ty : (⟨h, g, d, t, os⟩ : Shared).TypeIs (.ref C) "type" := ⟨_, hC, rfl⟩
  refine codeAny_of_tree ?_
  show wpAny _ _ (callAny (.ref C) _) _ _ _
  repeat (any_goals (first
    | assumption
    | with_reducible refine wpAny_loadPart_at hC ?_
    | wp_step))
  refine ⟨rfl, ?_⟩
  refine codeAny_call_builtin_at (Code.quiet_builtin _ (by decide +kernel)) entry_typeCall (kw_check_type hC (kw_type_call F hT hC hi hb ?_))
  refine codeAny_mono hq fun r s' z => ?_
  rcases r with e | (v | _ | _ | _) <;> exact z
end
end FF
namespace FF
open PySem PySem.Spec PyProof.Rows L2 Evl
section
variable {X : Cx} {CX : CXT} {x nk : Str} {C fI : Addr} {k : Nat} {fd : FuncData} {ps : List Str} {sp : Sp} {e : Expr} {te : TE} {p pos kpos : Pos}
/-- C(n = e) -/
theorem pe_mkK (T : OG X.K C) (iC : PySem.W.findIn X.K (.ref C) "__init__" = some (some (.ref fI))) (tI : PySem.W.typeIn X.K (.ref fI) = some (.type "function"))
    (F1 : FnOk X.prog X.w X.K X.mg X.base CX k fI fd ps sp) (hr : Room (k + 1) X.A) (hb : ∀ (s : Shared) (v u : Value), BindsTo s fd ⟨[v], [(nk, u)]⟩ (ps.zip [v, u])) (hx : Passes CX X E0) (hg : Gl X x) (hm : X.mg x = some (.ref C)) (ha : PE X e te)
    (hdb : (x == ("__debug__" : Str)) = false := by decide)
    (hall : (backToKw pos (keywordEach [⟨some nk, e, kpos⟩] X.env)).all (·.1.isSome) = true := by rfl) (hks : (backToKw pos (keywordEach [⟨some nk, e, kpos⟩] X.env)).filterMap (·.1) = [nk] := by rfl)
    (hpl : ((backTo pos (starEach [] X.env)).any (·.1) || (backToKw pos (keywordEach [⟨some nk, e, kpos⟩] X.env)).any (·.1.isNone)) = false := by rfl) :
    PE X (.Call (.Name x p) [] [⟨some nk, e, kpos⟩] pos) (tMkG C sp (tCons te tNil)) := by
  refine ⟨fun pins s σ H Q I h => ?_⟩
  obtain ⟨B, newId, initId, bmB, hF, _, _, hini⟩ := T.base
  refine wpAny_Call_Name_kw (ld_glob I hg hm ?_ hdb)
  refine PySem.W.callWith_KW0 (h₀ := X.base) I.ok.mod.kin T.kC hall ?_ hpl
  rw [hks]
  show wpAny _ _ (evalAll [(do let v ← eval e X.env; standAt pos; pure v)]) _ _ s
  refine wpAny_evalAll_cons (wpAny_bind (thn (ha.run pins s σ H _ I h) fun u s1 w1 => wpAny_bind (wpAny_standAt (wpAny_pure (wpAny_evalAll_nil ?_)))))
  obtain ⟨v1, H1, I1, r1, _, q1⟩ := w1
  refine ⟨I1.kIn, ?_⟩
  show wpAny _ _ (call (.ref C) [] [(nk, u)]) _ _ _
  obtain ⟨nm, N, qn, bs, bm, hdct, sn, sub, ab, col, dd, k0, k1, k2, k3, k5, hC, hbm⟩ := PySem.W.excInit_of I1.kIn hini
  obtain ⟨hp, g, dr, tk, os⟩ := s1
  have big : hp.objs.size ≤ hp.objs.size + 1 := Nat.le_succ _
  have hq := q1 (hp.objs.size + 1) (I1.hok.fresh big)
  have kk : ∀ b o, hp.get? b = some o → ((hp.push (PySem.W.kdv_tup [])).push (PySem.HandSPX.excO C hp.objs.size)).get? b = some o :=
    fun b o z => Heap.get?_push_of_some _ (Heap.get?_push_of_some _ z)
  have gt : ((hp.push (PySem.W.kdv_tup [])).push (PySem.HandSPX.excO C hp.objs.size)).get? (hp.objs.size + 1) = some (PySem.HandSPX.excO C hp.objs.size) := by heap_get
  have I2 : Inv X pins σ (upd H1 (hp.objs.size + 1) (exo (hp.objs.size + 1) C none)) ⟨(hp.push (PySem.W.kdv_tup [])).push (PySem.HandSPX.excO C hp.objs.size), g, dr, tk, os⟩ := I1.laid (t' := tk) kk big (exo_ok gt)
  have r2 : Vals [V.ref (hp.objs.size + 1), v1] [Value.ref (hp.objs.size + 1), u] := .cons rfl (.cons r1 .nil)
  refine wpAny_call (kw_call_own hF hbm hC (PySem.W.looks_findIn I1.kIn iC) (fun self => PySem.W.bind_fn I1.kIn self tI) (codeAny_mono (F1.run _ X.stack _ _ ⟨[Value.ref (hp.objs.size + 1)], [(nk, u)]⟩ _ _ _ E0 (hr.make C [] [(nk, u)]) (I2.env0.make C [] [(nk, u)]) (hb _ _ u) r2 hq) fun r s' hq' => ?_))
  cases r with
  | error er => exact hx pins σ _ _ er s' I2 hq'
  | ok fl =>
    cases fl with
    | ret z =>
      obtain ⟨v, H2, os2, bare2, un2, hok2, rv, ev, q2⟩ := hq'
      subst ev
      exact ⟨rv, .ref (hp.objs.size + 1), H2, I2.call' (ch := []) os2 un2 hok2 bare2 (fun b z => absurd z (by simp)), rfl, q2⟩
    | next => exact False.elim hq'
    | brk => exact False.elim hq'
    | cont => exact False.elim hq'
end
end FF
namespace FF
open PySem PySem.Spec PyProof.Rows L2 Evl
/-! ### __init__ -/
def spIni (K : PySem.W.Frag) (C : Addr) (f : Str) : Sp := fun vs H Q _ => ∃ (a : Addr) (v : V), vs = [.ref a, v] ∧ H a = some (exo a C none) ∧ ∀ dx, H dx = none → dx ≠ a → Q .non (upd (upd H dx (exd dx [(f, v)])) a (exo a C (some dx)))
section
variable {P : Program} {w : World} {K : PySem.W.Frag} {mg : Str → Option Value} {base : Heap}
theorem scIBB : FnScope ["self", "error"] ["self", "error"] (defScope (inS 2)) := ⟨rfl, rfl, rfl, by decide +kernel, rfl, by decide +kernel, by decide +kernel⟩
theorem ok_iniBB {f : Addr} {fd : FuncData} {k : Nat} {C : Addr} (F : Fun K "__init__" "BadBoard.__init__" (inS 2) f fd) (T : OG K C) (ht : PySem.W.takerIn K C "error" = some none) : FnOk P w K mg base CX0 (k + 1) f fd ["self", "error"] (spIni K C "error") := by
  refine F.ok scIBB (fun vs H Q E h => ?_) (fun cdv A' outer s H vs Q E hr h => ?_)
  · obtain ⟨a, v, rfl, _⟩ := h
    rfl
  · obtain ⟨a, v, rfl, ha, q⟩ := h
    exact ⟨_, pss_one (ps_osg (pv 0) (pv 1)), v, rfl, .ref a, rfl, a, C, rfl, T, ht, ha, q⟩
theorem scIBT : FnScope ["self", "line"] ["self", "line"] (defScope (inS 3)) := ⟨rfl, rfl, rfl, by decide +kernel, rfl, by decide +kernel, by decide +kernel⟩
theorem ok_iniBT {f : Addr} {fd : FuncData} {k : Nat} {C : Addr} (F : Fun K "__init__" "BadText.__init__" (inS 3) f fd) (T : OG K C) (ht : PySem.W.takerIn K C "line" = some none) : FnOk P w K mg base CX0 (k + 1) f fd ["self", "line"] (spIni K C "line") := by
  refine F.ok scIBT (fun vs H Q E h => ?_) (fun cdv A' outer s H vs Q E hr h => ?_)
  · obtain ⟨a, v, rfl, _⟩ := h
    rfl
  · obtain ⟨a, v, rfl, ha, q⟩ := h
    exact ⟨_, pss_one (ps_osg (pv 0) (pv 1)), v, rfl, .ref a, rfl, a, C, rfl, T, ht, ha, q⟩
theorem scINS : FnScope ["self", "fuse"] ["self", "fuse"] (defScope (inS 7)) := ⟨rfl, rfl, rfl, by decide +kernel, rfl, by decide +kernel, by decide +kernel⟩
theorem ok_iniNS {f : Addr} {fd : FuncData} {k : Nat} {C : Addr} (F : Fun K "__init__" "NotStrained.__init__" (inS 7) f fd) (T : OG K C) (ht : PySem.W.takerIn K C "fuse" = some none) : FnOk P w K mg base CX0 (k + 1) f fd ["self", "fuse"] (spIni K C "fuse") := by
  refine F.ok scINS (fun vs H Q E h => ?_) (fun cdv A' outer s H vs Q E hr h => ?_)
  · obtain ⟨a, v, rfl, _⟩ := h
    rfl
  · obtain ⟨a, v, rfl, ha, q⟩ := h
    exact ⟨_, pss_one (ps_osg (pv 0) (pv 1)), v, rfl, .ref a, rfl, a, C, rfl, T, ht, ha, q⟩
theorem scITE : FnScope ["self", "fuses"] ["self", "fuses"] (defScope (inS 8)) := ⟨rfl, rfl, rfl, by decide +kernel, rfl, by decide +kernel, by decide +kernel⟩
theorem ok_iniTE {f : Addr} {fd : FuncData} {k : Nat} {C : Addr} (F : Fun K "__init__" "TooEarly.__init__" (inS 8) f fd) (T : OG K C) (ht : PySem.W.takerIn K C "fuses" = some none) : FnOk P w K mg base CX0 (k + 1) f fd ["self", "fuses"] (spIni K C "fuses") := by
  refine F.ok scITE (fun vs H Q E h => ?_) (fun cdv A' outer s H vs Q E hr h => ?_)
  · obtain ⟨a, v, rfl, _⟩ := h
    rfl
  · obtain ⟨a, v, rfl, ha, q⟩ := h
    exact ⟨_, pss_one (ps_osg (pv 0) (pv 1)), v, rfl, .ref a, rfl, a, C, rfl, T, ht, ha, q⟩
theorem scINL : FnScope ["self", "lamp"] ["self", "lamp"] (defScope (inS 11)) := ⟨rfl, rfl, rfl, by decide +kernel, rfl, by decide +kernel, by decide +kernel⟩
theorem ok_iniNL {f : Addr} {fd : FuncData} {k : Nat} {C : Addr} (F : Fun K "__init__" "NoLamp.__init__" (inS 11) f fd) (T : OG K C) (ht : PySem.W.takerIn K C "lamp" = some none) : FnOk P w K mg base CX0 (k + 1) f fd ["self", "lamp"] (spIni K C "lamp") := by
  refine F.ok scINL (fun vs H Q E h => ?_) (fun cdv A' outer s H vs Q E hr h => ?_)
  · obtain ⟨a, v, rfl, _⟩ := h
    rfl
  · obtain ⟨a, v, rfl, ha, q⟩ := h
    exact ⟨_, pss_one (ps_osg (pv 0) (pv 1)), v, rfl, .ref a, rfl, a, C, rfl, T, ht, ha, q⟩
theorem scINF : FnScope ["self", "fuse"] ["self", "fuse"] (defScope (inS 12)) := ⟨rfl, rfl, rfl, by decide +kernel, rfl, by decide +kernel, by decide +kernel⟩
theorem ok_iniNF {f : Addr} {fd : FuncData} {k : Nat} {C : Addr} (F : Fun K "__init__" "NoFuse.__init__" (inS 12) f fd) (T : OG K C) (ht : PySem.W.takerIn K C "fuse" = some none) : FnOk P w K mg base CX0 (k + 1) f fd ["self", "fuse"] (spIni K C "fuse") := by
  refine F.ok scINF (fun vs H Q E h => ?_) (fun cdv A' outer s H vs Q E hr h => ?_)
  · obtain ⟨a, v, rfl, _⟩ := h
    rfl
  · obtain ⟨a, v, rfl, ha, q⟩ := h
    exact ⟨_, pss_one (ps_osg (pv 0) (pv 1)), v, rfl, .ref a, rfl, a, C, rfl, T, ht, ha, q⟩
end
/-! ### an exception made: what comes -/
theorem none_ex' {H H' : Hp} {p : Addr} (e : Ex H H') (n : H' p = none) : H p = none := by
  cases c : H p with
  | none => rfl
  | some o => rw [e _ _ c] at n; cases n
def EvE (te : TE) (σ : L2.St) (C : Addr) (fs : List (Str × V)) : Prop := ∀ (H : Hp) (Q : VK), (∀ a H', Ex H H' → ExAt H' a C fs → Q (.ref a) H') → te σ H Q
def ErsL (H : Hp) : List V → List (Addr × List (Str × V)) → Prop
  | [], [] => True
  | v :: vs, c :: cs => (∃ a, v = .ref a ∧ ExAt H a c.1 c.2) ∧ ErsL H vs cs
  | _, _ => False
theorem ErsL.ex {H H' : Hp} (e : Ex H H') : ∀ {vs : List V} {cs : List (Addr × List (Str × V))}, ErsL H vs cs → ErsL H' vs cs
  | [], [], _ => True.intro
  | _ :: _, _ :: _, ⟨⟨a, h1, h2⟩, h3⟩ => ⟨⟨a, h1, h2.ex e⟩, ErsL.ex e h3⟩
  | [], _ :: _, h => h.elim
  | _ :: _, [], h => h.elim
theorem ErsL.app {H : Hp} : ∀ {vs us : List V} {cs ds : List (Addr × List (Str × V))}, ErsL H vs cs → ErsL H us ds → ErsL H (vs ++ us) (cs ++ ds)
  | [], _, [], _, _, h => h
  | _ :: _, _, _ :: _, _, ⟨h1, h3⟩, h => ⟨h1, ErsL.app h3 h⟩
  | [], _, _ :: _, _, h, _ => h.elim
  | _ :: _, _, [], _, h, _ => h.elim
theorem ErsL.len {H : Hp} : ∀ {vs : List V} {cs : List (Addr × List (Str × V))}, ErsL H vs cs → vs.length = cs.length
  | [], [], _ => rfl
  | _ :: _, _ :: _, ⟨_, h⟩ => by rw [List.length_cons, List.length_cons, ErsL.len h]
  | [], _ :: _, h => h.elim
  | _ :: _, [], h => h.elim
theorem ErsL.get {H : Hp} : ∀ {vs : List V} {cs : List (Addr × List (Str × V))} (i : Nat) {c : Addr × List (Str × V)}, ErsL H vs cs → cs[i]? = some c → ∃ a, vs[i]? = some (.ref a) ∧ ExAt H a c.1 c.2
  | v :: vs, c :: cs, 0, d, ⟨⟨a, h1, h2⟩, _⟩, e => by
    have e' : c = d := by simpa using e
    subst e'
    exact ⟨a, by rw [h1]; rfl, h2⟩
  | v :: vs, c :: cs, i + 1, d, ⟨_, h⟩, e => by
    obtain ⟨a, h1, h2⟩ := ErsL.get i h (by simpa using e)
    exact ⟨a, by simpa using h1, h2⟩
  | [], [], _, _, _, e => by simp at e
  | [], _ :: _, _, _, h, _ => h.elim
  | _ :: _, [], _, _, h, _ => h.elim
def EvEs (ta : TA) (σ : L2.St) (cs : List (Addr × List (Str × V))) : Prop := ∀ (H : Hp) (Q : List V → Hp → Prop), (∀ vs H', Ex H H' → ErsL H' vs cs → Q vs H') → ta σ H Q
section
variable {K : PySem.W.Frag} {σ : L2.St} {C : Addr} {fs : List (Str × V)} {te : TE} {ta : TA} {cs : List (Addr × List (Str × V))}
theorem ee0 : EvE (tMk0 C) σ C [] := fun H Q q a na => q a _ (Ex.new na) (.inl ⟨upd_same, rfl⟩)
theorem ee1 {i : Nat} {v : V} {f : Str} (hv : σ[i]? = some (some v)) : EvE (tMkG C (spIni K C f) (tCons (tVar i) tNil)) σ C [(f, v)] := fun H Q q =>
  ⟨v, hv, (by show 1 ≤ 1000; decide), fun a na => ⟨a, v, rfl, upd_same, fun dx nd ne => ⟨rfl, by
    have nd0 : H dx = none := by
      rw [upd_ne ne] at nd
      exact nd
    refine q a _ ((((Ex.new na).trans (Ex.new nd))).mut na) (.inr ⟨dx, upd_same, ?_⟩)
    rw [upd_ne ne, upd_same]⟩⟩⟩
theorem eeN : EvEs tNil σ [] := fun H Q q => q [] H (Ex.refl _) True.intro
theorem eeC (h : EvE te σ C fs) (t : EvEs ta σ cs) : EvEs (tCons te ta) σ ((C, fs) :: cs) := fun H Q q =>
  h H _ fun a H1 e1 x => t H1 _ fun vs H2 e2 r => q (.ref a :: vs) H2 (e1.trans e2) ⟨⟨a, rfl, x.ex e2⟩, r⟩
theorem esLst {Q : VK} {H : Hp} (h : EvEs ta σ cs) (hn : cs.length ≤ 1000) (q : ∀ p vs H', Ex H H' → H p = none → H' p = some (.lst vs) → ErsL H' vs cs → Q (.ref p) H') : tLst ta σ H Q :=
  h H _ fun vs H1 e1 r => ⟨Nat.le_of_lt (small1000 (by have := r.len; omega)), fun p np => q p vs _ (e1.trans (Ex.new np)) (none_ex' e1 np) upd_same (r.ex (Ex.new np))⟩
theorem esSet {i : Nat} {u : TS} {Ed : Ends} {H : Hp} (h : EvEs ta σ cs) (hn : cs.length ≤ 1000) (q : ∀ p vs H', Ex H H' → H p = none → H' p = some (.lst vs) → ErsL H' vs cs → u Ed (σ.set i (some (.ref p))) H') : tSeq (tAsg (tLst ta) (gName i)) u Ed σ H := by
  show tLst ta σ H (fun x H1 => u Ed (σ.set i (some x)) H1)
  exact esLst h hn q
theorem esRet {i : Nat} {Ed : Ends} {H : Hp} {p1 : Addr} {us : List V} {ds : List (Addr × List (Str × V))} (hv : σ[i]? = some (some (.ref p1))) (g1 : H p1 = some (.lst us)) (r1 : ErsL H us ds) (h : EvEs ta σ cs) (hz : ds.length + cs.length ≤ 1000)
    (q : ∀ p vs H', Ex H H' → H p = none → H' p = some (.lst vs) → ErsL H' vs (ds ++ cs) → Ed.rt (.ref p) H') : tRet (tOp rCat (tVar i) (tLst ta)) Ed σ H := by
  show tOp rCat (tVar i) (tLst ta) σ H (fun x H1 => Ed.rt x H1)
  refine ⟨.ref p1, hv, esLst h (by omega) fun p2 us2 H2 e2 n2 g2 r2 => ?_⟩
  have l1 := r1.len
  have l2 := r2.len
  refine ⟨p1, p2, us, us2, rfl, rfl, e2 _ _ g1, g2, Nat.le_of_lt (small1000 (by omega)), fun r nr => ?_⟩
  exact q r (us ++ us2) _ (e2.trans (Ex.new nr)) (none_ex' e2 nr) upd_same (((r1.ex e2).app r2).ex (Ex.new nr))
end
end FF
namespace FF
open PySem PySem.Spec PyProof.Rows L2 Evl
/-- the classes of the errors -/
structure Cs where
  (BB BT TG UN FU NS TE NU NR NL NF FE : Addr)
def Cs.at (c : Cs) (i : Nat) : Addr := [c.BB, c.BT, c.TG, c.UN, c.FU, c.NS, c.TE, c.NU, c.NR, c.NL, c.NF].getD i 0
/-- an exception class without own __init__ -/
def Bare (K : PySem.W.Frag) (C : Addr) : Prop := PySem.W.keepIn K (.ref C) = true ∧ ∃ (B newId initId : String) (bmB : List Value), ExcBaseFacts B newId initId bmB ∧ PySem.W.excIn K C bmB newId = true
structure CsOk (K : PySem.W.Frag) (mg : Str → Option Value) (c : Cs) : Prop where
  kits : ∀ i, i < 11 → ∀ j, j < 11 → PySem.W.kitOne K (.ref (c.at i)) (.ref (c.at j)) = some (i == j)
  kFE : ∀ i, i < 11 → PySem.W.kitOne K (.ref (c.at i)) (.ref c.FE) = some (decide (i < 9))
  kVE : ∀ i, i < 11 → PySem.W.kitOne K (.ref (c.at i)) (.type "ValueError") = some (decide (i < 9))
  kLE : ∀ i, i < 11 → PySem.W.kitOne K (.ref (c.at i)) (.type "LookupError") = some (decide (8 < i))
  kKE : ∀ i, i < 11 → PySem.W.kitOne K (.ref (c.at i)) (.type "KeyError") = some false
  kIE : ∀ i, i < 11 → PySem.W.kitOne K (.ref (c.at i)) (.type "IndexError") = some false
  fVE : PySem.W.kitOne K (.ref c.FE) (.type "ValueError") = some true
  fLE : PySem.W.kitOne K (.ref c.FE) (.type "LookupError") = some false
  ex : ∀ i, i < 11 → ExcC K (c.at i)
  exFE : ExcC K c.FE
  gBB : mg "BadBoard" = some (.ref c.BB)
  oBB : OG K c.BB
  nBB : PySem.W.findIn K (.ref c.BB) "error" = some none
  gBT : mg "BadText" = some (.ref c.BT)
  oBT : OG K c.BT
  nBT : PySem.W.findIn K (.ref c.BT) "line" = some none
  gTG : mg "TooGreat" = some (.ref c.TG)
  oTG : Bare K c.TG
  gUN : mg "Unlike" = some (.ref c.UN)
  oUN : Bare K c.UN
  gFU : mg "Full" = some (.ref c.FU)
  oFU : Bare K c.FU
  gNS : mg "NotStrained" = some (.ref c.NS)
  oNS : OG K c.NS
  nNS : PySem.W.findIn K (.ref c.NS) "fuse" = some none
  gTE : mg "TooEarly" = some (.ref c.TE)
  oTE : OG K c.TE
  nTE : PySem.W.findIn K (.ref c.TE) "fuses" = some none
  gNU : mg "NothingToUndo" = some (.ref c.NU)
  oNU : Bare K c.NU
  gNR : mg "NothingToRedo" = some (.ref c.NR)
  oNR : Bare K c.NR
  gNL : mg "NoLamp" = some (.ref c.NL)
  oNL : OG K c.NL
  nNL : PySem.W.findIn K (.ref c.NL) "lamp" = some none
  gNF : mg "NoFuse" = some (.ref c.NF)
  oNF : OG K c.NF
  nNF : PySem.W.findIn K (.ref c.NF) "fuse" = some none
  gFE : mg "FuseError" = some (.ref c.FE)
  oFE : Bare K c.FE
def errsOf (c : Cs) (v : V) : List (Addr × List (Str × V)) := [(c.BB, [("error", v)]), (c.BT, [("line", v)]), (c.TG, []), (c.UN, []), (c.FU, []), (c.NS, [("fuse", v)]), (c.TE, [("fuses", v)]), (c.NU, []), (c.NR, []), (c.NL, [("lamp", v)]), (c.NF, [("fuse", v)])]
def spAll (c : Cs) : Sp := fun vs H Q _ => ∃ v, vs = [v] ∧ ∀ p us H', Ex H H' → H p = none → H' p = some (.lst us) → ErsL H' us (errsOf c v) → Q (.ref p) H'
def bls (i : Nat) : List V := (List.range 11).map fun j => V.bl (i == j)
def spCls (c : Cs) : Sp := fun vs H Q _ => ∃ (a : Addr) (i : Nat) (fs : List (Str × V)), vs = [.ref a] ∧ i < 11 ∧ ExAt H a (c.at i) fs ∧ ∀ p H', Ex H H' → H' p = some (.lst (bls i)) → Q (.ref p) H'
theorem scAll : FnScope ["_law_one", "_law_found"] ["_law_one"] (defScope sAll) := ⟨rfl, rfl, rfl, by decide +kernel, rfl, by decide +kernel, by decide +kernel⟩
theorem scCls : FnScope ["_law_error", "_law_found"] ["_law_error"] (defScope sCls) := ⟨rfl, rfl, rfl, by decide +kernel, rfl, by decide +kernel, by decide +kernel⟩
/-- the class's own __init__, ready to be called -/
structure InOk (P : Program) (w : World) (K : PySem.W.Frag) (mg : Str → Option Value) (base : Heap) (k : Nat) (C : Addr) (n : Str) : Prop where
  ex : ∃ (fI : Addr) (fd : FuncData), PySem.W.findIn K (.ref C) "__init__" = some (some (.ref fI)) ∧ PySem.W.typeIn K (.ref fI) = some (.type "function") ∧ FnOk P w K mg base CX0 k fI fd [("self" : Str), n] (spIni K C n) ∧ Binds K fd [("self" : Str), n] [] ∧
    ∀ (s : Shared) (v u : Value), BindsTo s fd ⟨[v], [(n, u)]⟩ ([("self" : Str), n].zip [v, u])
section
variable {X : Cx} {x n : Str} {C : Addr} {k : Nat} {e : Expr} {te : TE} {ta : TA} {p pos kpos : Pos}
theorem pe_mkA (T : OG X.K C) (O : InOk X.prog X.w X.K X.mg X.base k C n) (hr : Room (k + 1) X.A) (hg : Gl X x) (hm : X.mg x = some (.ref C)) (ha : PA X [e] ta)
    (hdb : (x == ("__debug__" : Str)) = false := by decide) (he : starEach [e] X.env = (false, eval e X.env) :: starEach [] X.env := by rfl) (hpl : (backTo pos (starEach [] X.env)).any (·.1) = false := by rfl) :
    PE X (.Call (.Name x p) [e] [] pos) (tMkG C (spIni X.K C n) ta) := by
  obtain ⟨fI, fd, h1, h2, h3, h4, _⟩ := O.ex
  exact pe_mkG T h1 h2 h3 hr h4 pass0 hg hm ha hdb he hpl
theorem pe_mkB (T : OG X.K C) (O : InOk X.prog X.w X.K X.mg X.base k C n) (hr : Room (k + 1) X.A) (hg : Gl X x) (hm : X.mg x = some (.ref C)) (ha : PE X e te)
    (hdb : (x == ("__debug__" : Str)) = false := by decide)
    (hall : (backToKw pos (keywordEach [⟨some n, e, kpos⟩] X.env)).all (·.1.isSome) = true := by rfl) (hks : (backToKw pos (keywordEach [⟨some n, e, kpos⟩] X.env)).filterMap (·.1) = [n] := by rfl)
    (hpl : ((backTo pos (starEach [] X.env)).any (·.1) || (backToKw pos (keywordEach [⟨some n, e, kpos⟩] X.env)).any (·.1.isNone)) = false := by rfl) :
    PE X (.Call (.Name x p) [] [⟨some n, e, kpos⟩] pos) (tMkG C (spIni X.K C n) (tCons te tNil)) := by
  obtain ⟨fI, fd, h1, h2, h3, _, h5⟩ := O.ex
  exact pe_mkK T h1 h2 h3 hr h5 pass0 hg hm ha hdb hall hks hpl
theorem pe_mkC (T : Bare X.K C) (hg : Gl X x) (hm : X.mg x = some (.ref C)) (hdb : (x == ("__debug__" : Str)) = false := by decide) : PE X (.Call (.Name x p) [] [] pos) (tMk0 C) := by
  obtain ⟨h1, B, newId, initId, bmB, h2, h3⟩ := T
  exact pe_mk0 h2 h3 h1 hg hm hdb
end
section
variable {P : Program} {w : World} {K : PySem.W.Frag} {mg : Str → Option Value} {base : Heap} {c : Cs}
theorem ok_all {f : Addr} {fd : FuncData} {k : Nat} (F : Fun K "_law_all" "_law_all" sAll f fd) (Z : CsOk K mg c)
    (iBB : InOk P w K mg base k c.BB "error")
    (iBT : InOk P w K mg base k c.BT "line")
    (iNS : InOk P w K mg base k c.NS "fuse")
    (iTE : InOk P w K mg base k c.TE "fuses")
    (iNL : InOk P w K mg base k c.NL "lamp")
    (iNF : InOk P w K mg base k c.NF "fuse")
    : FnOk P w K mg base CX0 (k + 2) f fd ["_law_one"] (spAll c) := by
  refine F.ok scAll (fun vs H Q E h => ?_) (fun cdv A' outer s H vs Q E hr h => ?_)
  · obtain ⟨v, rfl, _⟩ := h
    rfl
  · obtain ⟨v, rfl, q⟩ := h
    refine ⟨_, pss_cons (ps_set (i := 1) scAll.nd rfl (.inl rfl) (pe_lst (pa_cons (pe_mkA Z.oBB iBB hr (by rfl) Z.gBB (pa_cons (pv 0) pa_nil)) (pa_cons (pe_mkA Z.oBT iBT hr (by rfl) Z.gBT (pa_cons (pv 0) pa_nil)) (pa_cons (pe_mkC Z.oTG (by rfl) Z.gTG) (pa_cons (pe_mkC Z.oUN (by rfl) Z.gUN) (pa_cons (pe_mkC Z.oFU (by rfl) Z.gFU) (pa_cons (pe_mkA Z.oNS iNS hr (by rfl) Z.gNS (pa_cons (pv 0) pa_nil)) (pa_cons (pe_mkA Z.oTE iTE hr (by rfl) Z.gTE (pa_cons (pv 0) pa_nil)) pa_nil)))))))))
      (pss_one (ps_ret (pe_op op_cat (pv 1) (pe_lst (pa_cons (pe_mkC Z.oNU (by rfl) Z.gNU) (pa_cons (pe_mkC Z.oNR (by rfl) Z.gNR) (pa_cons (pe_mkA Z.oNL iNL hr (by rfl) Z.gNL (pa_cons (pv 0) pa_nil)) (pa_cons (pe_mkA Z.oNF iNF hr (by rfl) Z.gNF (pa_cons (pv 0) pa_nil)) pa_nil)))))))), ?_⟩
    refine esSet (eeC (ee1 (i := 0) rfl) (eeC (ee1 (i := 0) rfl) (eeC ee0 (eeC ee0 (eeC ee0 (eeC (ee1 (i := 0) rfl) (eeC (ee1 (i := 0) rfl) eeN))))))) (by show 7 ≤ 1000; decide) fun p1 us1 H1 e1 n1 g1 r1 => ?_
    refine esRet rfl g1 r1 (eeC ee0 (eeC ee0 (eeC (ee1 (i := 0) rfl) (eeC (ee1 (i := 0) rfl) eeN)))) (by show 7 + 4 ≤ 1000; decide) fun r vs H2 e2 n2 g2 r2 => ?_
    exact q r vs H2 (e1.trans e2) (none_ex' e1 n2) g2 r2
theorem ok_cls {f : Addr} {fd : FuncData} {k : Nat} (F : Fun K "_law_classes" "_law_classes" sCls f fd) (Z : CsOk K mg c) (ms : mg "isinstance" = none) : FnOk P w K mg base CX0 (k + 1) f fd ["_law_error"] (spCls c) := by
  refine F.ok scCls (fun vs H Q E h => ?_) (fun cdv A' outer s H vs Q E hr h => ?_)
  · obtain ⟨a, i, fs, rfl, _⟩ := h
    rfl
  · obtain ⟨a, i, fs, rfl, hi, hE, q⟩ := h
    refine ⟨_, pss_cons (ps_set (i := 1) scCls.nd rfl (.inl rfl) (pe_lst (pa_cons (pe_callB call_isX (by rfl) ms (by decide +kernel) (pa_cons (pv 0) (pa_cons (pe_glob (v := .ref c.BB) (by rfl) Z.gBB rfl) pa_nil))) (pa_cons (pe_callB call_isX (by rfl) ms (by decide +kernel) (pa_cons (pv 0) (pa_cons (pe_glob (v := .ref c.BT) (by rfl) Z.gBT rfl) pa_nil))) (pa_cons (pe_callB call_isX (by rfl) ms (by decide +kernel) (pa_cons (pv 0) (pa_cons (pe_glob (v := .ref c.TG) (by rfl) Z.gTG rfl) pa_nil))) pa_nil))))) (pss_cons (ps_set (i := 1) scCls.nd rfl (.inl rfl) (pe_op op_cat (pv 1) (pe_lst (pa_cons (pe_callB call_isX (by rfl) ms (by decide +kernel) (pa_cons (pv 0) (pa_cons (pe_glob (v := .ref c.UN) (by rfl) Z.gUN rfl) pa_nil))) (pa_cons (pe_callB call_isX (by rfl) ms (by decide +kernel) (pa_cons (pv 0) (pa_cons (pe_glob (v := .ref c.FU) (by rfl) Z.gFU rfl) pa_nil))) (pa_cons (pe_callB call_isX (by rfl) ms (by decide +kernel) (pa_cons (pv 0) (pa_cons (pe_glob (v := .ref c.NS) (by rfl) Z.gNS rfl) pa_nil))) pa_nil)))))) (pss_cons (ps_set (i := 1) scCls.nd rfl (.inl rfl) (pe_op op_cat (pv 1) (pe_lst (pa_cons (pe_callB call_isX (by rfl) ms (by decide +kernel) (pa_cons (pv 0) (pa_cons (pe_glob (v := .ref c.TE) (by rfl) Z.gTE rfl) pa_nil))) (pa_cons (pe_callB call_isX (by rfl) ms (by decide +kernel) (pa_cons (pv 0) (pa_cons (pe_glob (v := .ref c.NU) (by rfl) Z.gNU rfl) pa_nil))) (pa_cons (pe_callB call_isX (by rfl) ms (by decide +kernel) (pa_cons (pv 0) (pa_cons (pe_glob (v := .ref c.NR) (by rfl) Z.gNR rfl) pa_nil))) pa_nil))))))
      (pss_one (ps_ret (pe_op op_cat (pv 1) (pe_lst (pa_cons (pe_callB call_isX (by rfl) ms (by decide +kernel) (pa_cons (pv 0) (pa_cons (pe_glob (v := .ref c.NL) (by rfl) Z.gNL rfl) pa_nil))) (pa_cons (pe_callB call_isX (by rfl) ms (by decide +kernel) (pa_cons (pv 0) (pa_cons (pe_glob (v := .ref c.NF) (by rfl) Z.gNF rfl) pa_nil))) pa_nil)))))))), ?_⟩
    have X := Z.ex i hi
    refine ⟨.ref a, rfl, a, c.at i, fs, .ref (c.at 0), .ref (c.at 0), _, rfl, hE, X, fun _ r => r, Z.kits i hi 0 (by decide), .ref a, rfl, a, c.at i, fs, .ref (c.at 1), .ref (c.at 1), _, rfl, hE, X, fun _ r => r, Z.kits i hi 1 (by decide), .ref a, rfl, a, c.at i, fs, .ref (c.at 2), .ref (c.at 2), _, rfl, hE, X, fun _ r => r, Z.kits i hi 2 (by decide), (by show 3 ≤ sizeLine; decide), fun p1 n1 => ?_⟩
    have e1 : Ex H (upd H p1 (.lst [.bl (i == 0), .bl (i == 1), .bl (i == 2)])) := Ex.new n1
    have g1 : upd H p1 (.lst [.bl (i == 0), .bl (i == 1), .bl (i == 2)]) p1 = some (.lst [.bl (i == 0), .bl (i == 1), .bl (i == 2)]) := upd_same
    generalize upd H p1 (.lst [.bl (i == 0), .bl (i == 1), .bl (i == 2)]) = H1 at e1 g1 ⊢
    have hE1 := hE.ex e1
    refine ⟨.ref p1, rfl, .ref a, rfl, a, c.at i, fs, .ref (c.at 3), .ref (c.at 3), _, rfl, hE1, X, fun _ r => r, Z.kits i hi 3 (by decide), .ref a, rfl, a, c.at i, fs, .ref (c.at 4), .ref (c.at 4), _, rfl, hE1, X, fun _ r => r, Z.kits i hi 4 (by decide), .ref a, rfl, a, c.at i, fs, .ref (c.at 5), .ref (c.at 5), _, rfl, hE1, X, fun _ r => r, Z.kits i hi 5 (by decide), (by show 3 ≤ sizeLine; decide), fun p2 n2 => ⟨p1, p2, _, _, rfl, rfl, (Ex.new n2) _ _ g1, upd_same, (by show 6 ≤ sizeLine; decide), fun p3 n3 => ?_⟩⟩
    have e2 : Ex H (upd (upd H1 p2 (.lst [V.bl (i == 3), .bl (i == 4), .bl (i == 5)])) p3 (.lst ([V.bl (i == 0), .bl (i == 1), .bl (i == 2)] ++ [V.bl (i == 3), .bl (i == 4), .bl (i == 5)]))) := (e1.trans (Ex.new n2)).trans (Ex.new n3)
    have g2 : (upd (upd H1 p2 (.lst [V.bl (i == 3), .bl (i == 4), .bl (i == 5)])) p3 (.lst ([V.bl (i == 0), .bl (i == 1), .bl (i == 2)] ++ [V.bl (i == 3), .bl (i == 4), .bl (i == 5)]))) p3 = some (.lst ([V.bl (i == 0), .bl (i == 1), .bl (i == 2)] ++ [V.bl (i == 3), .bl (i == 4), .bl (i == 5)])) := upd_same
    generalize upd (upd H1 p2 (.lst [V.bl (i == 3), .bl (i == 4), .bl (i == 5)])) p3 (.lst ([V.bl (i == 0), .bl (i == 1), .bl (i == 2)] ++ [V.bl (i == 3), .bl (i == 4), .bl (i == 5)])) = H2 at e2 g2 ⊢
    have hE2 := hE.ex e2
    refine ⟨.ref p3, rfl, .ref a, rfl, a, c.at i, fs, .ref (c.at 6), .ref (c.at 6), _, rfl, hE2, X, fun _ r => r, Z.kits i hi 6 (by decide), .ref a, rfl, a, c.at i, fs, .ref (c.at 7), .ref (c.at 7), _, rfl, hE2, X, fun _ r => r, Z.kits i hi 7 (by decide), .ref a, rfl, a, c.at i, fs, .ref (c.at 8), .ref (c.at 8), _, rfl, hE2, X, fun _ r => r, Z.kits i hi 8 (by decide), (by show 3 ≤ sizeLine; decide), fun p4 n4 => ⟨p3, p4, _, _, rfl, rfl, (Ex.new n4) _ _ g2, upd_same, (by show 9 ≤ sizeLine; decide), fun p5 n5 => ?_⟩⟩
    have e3 : Ex H (upd (upd H2 p4 (.lst [V.bl (i == 6), .bl (i == 7), .bl (i == 8)])) p5 (.lst (([V.bl (i == 0), .bl (i == 1), .bl (i == 2)] ++ [V.bl (i == 3), .bl (i == 4), .bl (i == 5)]) ++ [V.bl (i == 6), .bl (i == 7), .bl (i == 8)]))) := (e2.trans (Ex.new n4)).trans (Ex.new n5)
    have g3 : (upd (upd H2 p4 (.lst [V.bl (i == 6), .bl (i == 7), .bl (i == 8)])) p5 (.lst (([V.bl (i == 0), .bl (i == 1), .bl (i == 2)] ++ [V.bl (i == 3), .bl (i == 4), .bl (i == 5)]) ++ [V.bl (i == 6), .bl (i == 7), .bl (i == 8)]))) p5 = some (.lst (([V.bl (i == 0), .bl (i == 1), .bl (i == 2)] ++ [V.bl (i == 3), .bl (i == 4), .bl (i == 5)]) ++ [V.bl (i == 6), .bl (i == 7), .bl (i == 8)])) := upd_same
    generalize upd (upd H2 p4 (.lst [V.bl (i == 6), .bl (i == 7), .bl (i == 8)])) p5 (.lst (([V.bl (i == 0), .bl (i == 1), .bl (i == 2)] ++ [V.bl (i == 3), .bl (i == 4), .bl (i == 5)]) ++ [V.bl (i == 6), .bl (i == 7), .bl (i == 8)])) = H3 at e3 g3 ⊢
    have hE3 := hE.ex e3
    refine ⟨.ref p5, rfl, .ref a, rfl, a, c.at i, fs, .ref (c.at 9), .ref (c.at 9), _, rfl, hE3, X, fun _ r => r, Z.kits i hi 9 (by decide), .ref a, rfl, a, c.at i, fs, .ref (c.at 10), .ref (c.at 10), _, rfl, hE3, X, fun _ r => r, Z.kits i hi 10 (by decide), (by show 2 ≤ sizeLine; decide), fun p6 n6 => ⟨p5, p6, _, _, rfl, rfl, (Ex.new n6) _ _ g3, upd_same, (by show 11 ≤ sizeLine; decide), fun p7 n7 => ?_⟩⟩
    exact q p7 _ ((e3.trans (Ex.new n6)).trans (Ex.new n7)) upd_same
end
end FF
namespace FF
open PySem PySem.Spec PyProof.Rows L2 Evl
abbrev nLaw : List Str := ["_law_script", "_law_deck_here", "_law_told", "_law_turn", "_law_one", "_law_errors", "_law_at", "_law_kept", "_law_own"]
theorem scLaw : FnScope nLaw ["_law_script"] (defScope sLaw) := ⟨rfl, rfl, rfl, by decide +kernel, rfl, by decide +kernel, by decide +kernel⟩
theorem upd_upd {H : Hp} {p : Addr} {o o' : HO} : upd (upd H p o) p o' = upd H p o' := by
  funext b
  by_cases c : b = p
  · subst c; rw [upd_same, upd_same]
  · rw [upd_ne c, upd_ne c, upd_ne c]
theorem qDisp {K : PySem.W.Frag} {D A B : Addr} {S : Hp} {σ : L2.St} {G : Hp} : EvQ K D A B S (tDisp [(tC (.str "a"), tC (.int 4))]) σ G 200 1 := fun H dk _ Q q p np => by
  refine ⟨upd_same, [(.inr "a", .int 4)], rfl, by decide, ?_⟩
  rw [upd_upd]
  obtain ⟨e2, g2⟩ := dk.hidNew (o := .dK [(.inr "a", .int 4)]) np
  exact q (.ref p) (.dict [(.str "a", .int 4)]) _ (dk.new np) e2 (.dct g2 (.cons (.int 4) .nil)) ⟨by decide +kernel, by decide +kernel, by decide +kernel, by decide +kernel⟩
theorem yesIf {σ : L2.St} {H : Hp} {te : TE} {Q : VK} {R : Hp → Prop} (h : te σ H Q) : tYes σ H (fun b H3 => if b = true then te σ H3 Q else R H3) := by
  show (if true = true then te σ H Q else R H)
  rw [if_pos rfl]
  exact h
theorem hsdEx {D A : Addr} {S H H1 : Hp} (e : Ex H H1) : Ex (hsd D A S H) (hsd D A S H1) := (Kp.of e).hs
theorem qOdd {K : PySem.W.Frag} {D A B : Addr} {S : Hp} {σ : L2.St} {G : Hp} {i : Nat} (h : σ[i]? = some (some (.ref D))) (hy : Sys G) : EvQ K D A B S (tCall (spOdd K) [] E0 (tCons (tVar i) tNil)) σ G 3000 6 := fun H dk e Q q =>
  ⟨.ref D, h, D, A, B, S, rfl, dk, hy.ex e, fun v d H' dk' e' hd s => q v d H' dk' e' hd s⟩
theorem errs_at {c : Cs} {v : V} : ∀ j, j < 11 → ∃ fs, (errsOf c v)[j]? = some (c.at j, fs)
  | 0, _ => ⟨_, rfl⟩ | 1, _ => ⟨_, rfl⟩ | 2, _ => ⟨_, rfl⟩ | 3, _ => ⟨_, rfl⟩ | 4, _ => ⟨_, rfl⟩ | 5, _ => ⟨_, rfl⟩ | 6, _ => ⟨_, rfl⟩ | 7, _ => ⟨_, rfl⟩ | 8, _ => ⟨_, rfl⟩ | 9, _ => ⟨_, rfl⟩ | 10, _ => ⟨_, rfl⟩
  | j + 11, h => absurd h (by omega)
def blD (j : Nat) : List PyData := (List.range 11).map fun m => PyData.bool (j == m)
theorem dpBl {K : PySem.W.Frag} {H : Hp} {f : Nat → Bool} : ∀ l : List Nat, DpAll K H (l.map fun m => V.bl (f m)) (l.map fun m => PyData.bool (f m))
  | [] => .nil
  | m :: l => .cons (.bl _) (dpBl l)
theorem blD_eq : ∀ j, j < 11 → PyData.eqv (.list (blD j)) (.list (blD j)) = true := by decide +kernel
theorem blD_sh : ∀ j, j < 11 → SeqAt.shaped (.list (blD j)) = true := by decide +kernel
theorem told_shown : PyData.shown (.list [.int 20, .int 30, .int 3000, .int 100, .int 40, .int 6, .int 6, .int 60]) = ("[20, 30, 3000, 100, 40, 6, 6, 60]" : Str) := by decide +kernel
theorem repD {K : PySem.W.Frag} {H : Hp} {v : V} {d : PyData} (h : Dq K H v d) : ∀ n, DqA K H (List.replicate n v) (List.replicate n d)
  | 0 => .nil
  | n + 1 => by rw [List.replicate_succ, List.replicate_succ]; exact .cons h (repD h n)
theorem repS {d : PyData} (h : Sv 5000 7 d) : Sv 300000 60 (.list (List.replicate 12 d)) := by
  have a := SvA.all (ds := List.replicate 12 d) (W := 5000) (k := 7) fun x hx => by rw [List.eq_of_mem_replicate hx]; exact h
  rw [List.length_replicate] at a
  exact (Sv.lst a).mono (by decide) (by decide)
theorem beqI {j m : Nat} : decide (V.int (j : Int) = V.int ((0 : Int) + (m : Int))) = (j == m) := by
  by_cases h : j = m
  · subst h
    rw [Int.zero_add, decide_eq_true rfl]
    simp
  · rw [decide_eq_false (fun z => h (by injection z with z; omega))]
    simp [h]
theorem iteB {b : Bool} {P R : Prop} (h : b = false) (r : R) : if b = true then P else R := by
  rw [if_neg (by rw [h]; exact Bool.false_ne_true)]
  exact r
/-! ### values that stand -/
def EvP (te : TE) (σ : L2.St) (G : Hp) (v : V) : Prop := ∀ H, Ex G H → ∀ Q : VK, (∀ H', Ex H H' → Q v H') → te σ H Q
def EvPs (ta : TA) (σ : L2.St) (G : Hp) (vs : List V) : Prop := ∀ H, Ex G H → ∀ Q : List V → Hp → Prop, (∀ H', Ex H H' → Q vs H') → ta σ H Q
section
variable {K : PySem.W.Frag} {σ : L2.St} {G H : Hp} {C : Addr} {te : TE} {ta : TA} {v : V} {vs us : List V} {f : Str}
theorem lookOne : List.lookup f [(f, v)] = some v := by
  rw [List.lookup_cons_self]
theorem epMk {i : Nat} (hv : σ[i]? = some (some v)) (hX : ExcC K C) (hn : PySem.W.findIn K (.ref C) f = some none) : EvP (tFld K f (tMkG C (spIni K C f) (tCons (tVar i) tNil))) σ G v := fun H _ Q q =>
  ee1 hv H _ fun a H' e x => ⟨a, C, _, v, rfl, x, hX, hn, lookOne, q H' e⟩
theorem epFld {i m : Nat} {p a : Addr} (hv : σ[i]? = some (some (.ref p))) (g : G p = some (.lst us)) (hu : us[m]? = some (.ref a)) (hE : ExAt G a C [(f, v)]) (hX : ExcC K C) (hn : PySem.W.findIn K (.ref C) f = some none) :
    EvP (tFld K f (tOp (rIxL K) (tVar i) (tC (.int (m : Int))))) σ G v := fun H e Q q =>
  ⟨.ref p, hv, p, us, (m : Int), .ref a, rfl, rfl, SqL.of (e _ _ g), atI_nat hu, a, C, _, v, rfl, hE.ex e, hX, hn, lookOne, q H (Ex.refl _)⟩
theorem epN : EvPs tNil σ G [] := fun H _ Q q => q H (Ex.refl _)
theorem epC (h : EvP te σ G v) (t : EvPs ta σ G vs) : EvPs (tCons te ta) σ G (v :: vs) := fun H e Q q =>
  h H e _ fun H1 e1 => t H1 (e.trans e1) _ fun H2 e2 => q H2 (e1.trans e2)
theorem epLst {Q : VK} (h : EvPs ta σ G vs) (e : Ex G H) (hn : vs.length ≤ 1000) (q : ∀ p H', Ex H H' → H p = none → H' p = some (.lst vs) → Q (.ref p) H') : tLst ta σ H Q :=
  h H e _ fun H1 e1 => ⟨Nat.le_of_lt (small1000 (by omega)), fun p np => q p _ (e1.trans (Ex.new np)) (none_ex e1 np) upd_same⟩
theorem epSet {i : Nat} {u : TS} {Ed : Ends} (h : EvPs ta σ G vs) (e : Ex G H) (hn : vs.length ≤ 1000) (q : ∀ p H', Ex H H' → H p = none → H' p = some (.lst vs) → u Ed (σ.set i (some (.ref p))) H') : tSeq (tAsg (tLst ta) (gName i)) u Ed σ H := by
  show tLst ta σ H (fun x H1 => u Ed (σ.set i (some x)) H1)
  exact epLst h e hn q
theorem epCat {i l : Nat} {u : TS} {Ed : Ends} {p0 : Addr} (hv : σ[i]? = some (some (.ref p0))) (g0 : H p0 = some (.lst us)) (h : EvPs ta σ G vs) (e : Ex G H) (hn : us.length + vs.length ≤ 1000)
    (q : ∀ p H', Ex H H' → H p = none → H' p = some (.lst (us ++ vs)) → u Ed (σ.set l (some (.ref p))) H') : tSeq (tAsg (tOp rCat (tVar i) (tLst ta)) (gName l)) u Ed σ H := by
  show tOp rCat (tVar i) (tLst ta) σ H (fun x H1 => u Ed (σ.set l (some x)) H1)
  refine ⟨.ref p0, hv, epLst h e (by omega) fun p1 H1 e1 _ g1 => ⟨p0, p1, us, vs, rfl, rfl, e1 _ _ g0, g1, Nat.le_of_lt (small1000 (by omega)), fun r nr => ?_⟩⟩
  exact q r _ (e1.trans (Ex.new nr)) (none_ex e1 nr) upd_same
end
section
variable {P : Program} {w : World} {K : PySem.W.Frag} {mg : Str → Option Value} {base : Heap} {c : Cs}
theorem ok_law {fDk fP fO fC fA : Addr} {fdDk fdP fdO fdC fdA : FuncData} {t1 t2 t3 t4 t5 t6 t7 t8 : Tok}
    (GK : FnOk P w K mg base CX0 5 fDk fdDk ["_law_script"] (spDeck K)) (bK : Binds K fdDk ["_law_script"] []) (gK : mg "_law_deck" = some (.ref fDk)) (kK : PySem.W.keepIn K (.ref fDk) = true)
    (GP : FnOk P w K mg base CX0 5 fP fdP ["_law_deck_here", "_law_items"] spPick) (bP : Binds K fdP ["_law_deck_here", "_law_items"] []) (gP : mg "_law_pick" = some (.ref fP)) (kP : PySem.W.keepIn K (.ref fP) = true)
    (GO : FnOk P w K mg base CX0 5 fO fdO ["_law_deck_here"] (spOdd K)) (bO : Binds K fdO ["_law_deck_here"] []) (gO : mg "_law_odd" = some (.ref fO)) (kO : PySem.W.keepIn K (.ref fO) = true)
    (GC : FnOk P w K mg base CX0 5 fC fdC ["_law_error"] (spCls c)) (bC : Binds K fdC ["_law_error"] []) (gC : mg "_law_classes" = some (.ref fC)) (kC : PySem.W.keepIn K (.ref fC) = true)
    (GA : FnOk P w K mg base CX0 5 fA fdA ["_law_one"] (spAll c)) (bA : Binds K fdA ["_law_one"] []) (gA : mg "_law_all" = some (.ref fA)) (kA : PySem.W.keepIn K (.ref fA) = true)
    (Z : CsOk K mg c)
    (iBB : InOk P w K mg base 4 c.BB "error")
    (iBT : InOk P w K mg base 4 c.BT "line")
    (iNS : InOk P w K mg base 4 c.NS "fuse")
    (iTE : InOk P w K mg base 4 c.TE "fuses")
    (iNL : InOk P w K mg base 4 c.NL "lamp")
    (iNF : InOk P w K mg base 4 c.NF "fuse")
    (h1 : mg "MAX_FUSES" = some (.int 20 t1))
    (h2 : mg "MAX_LAMPS" = some (.int 30 t2))
    (h3 : mg "MAX_LOAD" = some (.int 3000 t3))
    (h4 : mg "MAX_DRAW" = some (.int 100 t4))
    (h5 : mg "MAX_STORY" = some (.int 40 t5))
    (h6 : mg "MAX_SMALL" = some (.int 6 t6))
    (h7 : mg "MAX_SMALL_LAMPS" = some (.int 6 t7))
    (h8 : mg "MAX_EDITS" = some (.int 60 t8))
    (mr : mg "range" = none) (mp : mg "repr" = none) (ms : mg "isinstance" = none) (mV : mg "ValueError" = none) (mL : mg "LookupError" = none) (mK : mg "KeyError" = none) (mI : mg "IndexError" = none) (f : Addr) : BodyS P w K mg base 5 nLaw sLaw f := by
  intro cdv A' outer s H a ns hg hr hy hS hlen
  refine ⟨_, pss_cons (ps_set (i := 1) scLaw.nd rfl (.inl rfl) (pe_call GK hr (by rfl) gK kK bK .nil pass0 (pa_cons (pv 0) pa_nil)))
    (pss_cons (ps_set (i := 2) scLaw.nd rfl (.inl rfl) (pe_lst (pa_cons (pe_glob (v := .int 20) (by rfl) h1 ⟨_, rfl⟩) (pa_cons (pe_glob (v := .int 30) (by rfl) h2 ⟨_, rfl⟩) (pa_cons (pe_glob (v := .int 3000) (by rfl) h3 ⟨_, rfl⟩) (pa_cons (pe_glob (v := .int 100) (by rfl) h4 ⟨_, rfl⟩) (pa_cons (pe_glob (v := .int 40) (by rfl) h5 ⟨_, rfl⟩) (pa_cons (pe_glob (v := .int 6) (by rfl) h6 ⟨_, rfl⟩) (pa_cons (pe_glob (v := .int 6) (by rfl) h7 ⟨_, rfl⟩) (pa_cons (pe_glob (v := .int 60) (by rfl) h8 ⟨_, rfl⟩) pa_nil))))))))))
    (pss_cons (ps_if (pt_cmpR op_ne (pe_callB (callReprV hg hr.units) (by rfl) mp (by decide +kernel) (pa_cons (pv 2) pa_nil)) pe_str (nomark _)) (pss_one (ps_ret pe_bl)) pss_nil)
    (pss_cons (ps_for PassesOwn.never rfl (pi_range1 (by rfl) mr (pa_cons pe_int pa_nil)) (pg_name (i := 3) scLaw.nd rfl (.inl rfl))
      (pss_cons (ps_set (i := 4) scLaw.nd rfl (.inl rfl) (pe_call GP hr (by rfl) gP kP bP .nil pass0 (pa_cons (pv 1) (pa_cons (pe_lst (pa_cons pe_non (pa_cons pe_bl (pa_cons pe_int (pa_cons (pe_un un_neg pe_int) (pa_cons pe_str (pa_cons pe_str (pa_cons (pe_tup (pa_cons pe_int (pa_cons pe_int pa_nil))) (pa_cons (pe_lst (pa_cons pe_int pa_nil)) (pa_cons (pe_disp (pps_cons pe_str pe_int pps_nil) (by rfl) (by rfl) (by decide) (by decide)) (pa_cons (pe_tup (pa_cons pe_non (pa_cons pe_str pa_nil))) (pa_cons (pe_call GO hr (by rfl) gO kO bO .nil pass0 (pa_cons (pv 1) pa_nil)) pa_nil)))))))))))) pa_nil))))
      (pss_cons (ps_set (i := 5) scLaw.nd rfl (.inl rfl) (pe_call GA hr (by rfl) gA kA bA .nil pass0 (pa_cons (pv 4) pa_nil)))
      (pss_cons (ps_for PassesOwn.never rfl (pi_range1 (by rfl) mr (pa_cons pe_int pa_nil)) (pg_name (i := 6) scLaw.nd rfl (.inr rfl))
        (pss_cons (ps_if (pt_cmpR (op_neD hr.units) (pe_call GC hr (by rfl) gC kC bC .nil pass0 (pa_cons (pe_ix ix_list (pv 5) (pv 6) (fun _ _ => rfl)) pa_nil))
            (pe_lc (own := [("_law_own", 8)]) (g := gName 8) (tt := tYes) (te := tOp rEq (tVar 6) (tVar 8)) (by rfl) scLaw.nd (pi_range1 (by rfl) mr (pa_cons pe_int pa_nil))
              (blkOk_by (own := [("_law_own", 8)]) (N := nLaw) (sc := defScope sLaw) (by decide +kernel)) (fun _ _ _ _ _ => pg_name (i := 8) scLaw.nd rfl (Or.inl rfl)) (fun _ _ _ _ _ => pts_nil) (fun _ _ _ _ _ => pe_cmpR op_eq (pv 6) (pv 8) (nomark _))) (nomark _)) (pss_one (ps_ret pe_bl)) pss_nil)
        (pss_cons (ps_if (PW.pt (pw_or (pt_cmpR op_ne (pe_callB call_isX (by rfl) ms (by decide +kernel) (pa_cons (pe_ix ix_list (pv 5) (pv 6) (fun _ _ => rfl)) (pa_cons (pe_glob (v := .ref c.FE) (by rfl) Z.gFE rfl) pa_nil))) (pe_cmpR op_lt (pv 6) pe_int (nomark _)) (nomark _)) (pw_or1 (pt_cmpR op_ne (pe_callB call_isX (by rfl) ms (by decide +kernel) (pa_cons (pe_ix ix_list (pv 5) (pv 6) (fun _ _ => rfl)) (pa_cons (pe_bltn (v := .ty "ValueError") (by rfl) mV (by decide +kernel) rfl) pa_nil))) (pe_cmpR op_lt (pv 6) pe_int (nomark _)) (nomark _))))) (pss_one (ps_ret pe_bl)) pss_nil)
        (pss_cons (ps_if (pt_cmpR op_ne (pe_callB call_isX (by rfl) ms (by decide +kernel) (pa_cons (pe_ix ix_list (pv 5) (pv 6) (fun _ _ => rfl)) (pa_cons (pe_bltn (v := .ty "LookupError") (by rfl) mL (by decide +kernel) rfl) pa_nil))) (pe_cmpR op_gt (pv 6) pe_int (nomark _)) (nomark _)) (pss_one (ps_ret pe_bl)) pss_nil)
        (pss_one (ps_if (PW.pt (pw_or (pt_val (pe_callB call_isX (by rfl) ms (by decide +kernel) (pa_cons (pe_ix ix_list (pv 5) (pv 6) (fun _ _ => rfl)) (pa_cons (pe_bltn (v := .ty "KeyError") (by rfl) mK (by decide +kernel) rfl) pa_nil)))) (pw_or1 (pt_val (pe_callB call_isX (by rfl) ms (by decide +kernel) (pa_cons (pe_ix ix_list (pv 5) (pv 6) (fun _ _ => rfl)) (pa_cons (pe_bltn (v := .ty "IndexError") (by rfl) mI (by decide +kernel) rfl) pa_nil))))))) (pss_one (ps_ret pe_bl)) pss_nil))))))
      (pss_cons (ps_set (i := 7) scLaw.nd rfl (.inl rfl) (pe_lst (pa_cons (pe_fld (pe_ix ix_list (pv 5) pe_int (fun _ _ => rfl))) (pa_cons (pe_fld (pe_ix ix_list (pv 5) pe_int (fun _ _ => rfl))) (pa_cons (pe_fld (pe_ix ix_list (pv 5) pe_int (fun _ _ => rfl))) (pa_cons (pe_fld (pe_ix ix_list (pv 5) pe_int (fun _ _ => rfl))) (pa_cons (pe_fld (pe_ix ix_list (pv 5) pe_int (fun _ _ => rfl))) (pa_cons (pe_fld (pe_ix ix_list (pv 5) pe_int (fun _ _ => rfl))) pa_nil))))))))
      (pss_cons (ps_set (i := 7) scLaw.nd rfl (.inl rfl) (pe_op op_cat (pv 7) (pe_lst (pa_cons (pe_fld (pe_mkB Z.oBB iBB hr (by rfl) Z.gBB (pv 4))) (pa_cons (pe_fld (pe_mkB Z.oBT iBT hr (by rfl) Z.gBT (pv 4))) (pa_cons (pe_fld (pe_mkB Z.oNS iNS hr (by rfl) Z.gNS (pv 4))) pa_nil))))))
      (pss_cons (ps_set (i := 7) scLaw.nd rfl (.inl rfl) (pe_op op_cat (pv 7) (pe_lst (pa_cons (pe_fld (pe_mkB Z.oTE iTE hr (by rfl) Z.gTE (pv 4))) (pa_cons (pe_fld (pe_mkB Z.oNL iNL hr (by rfl) Z.gNL (pv 4))) (pa_cons (pe_fld (pe_mkB Z.oNF iNF hr (by rfl) Z.gNF (pv 4))) pa_nil))))))
      (pss_one (ps_if (pt_cmpR op_ne (pe_callB (callReprV hg hr.units) (by rfl) mp (by decide +kernel) (pa_cons (pv 7) pa_nil)) (pe_callB (callReprV hg hr.units) (by rfl) mp (by decide +kernel) (pa_cons (pe_op op_rep (pe_lst (pa_cons (pv 4) pa_nil)) pe_int) pa_nil)) (nomark _)) (pss_one (ps_ret pe_bl)) pss_nil)))))))))
    (pss_one (ps_ret (pe_and (pe_callB call_isX (by rfl) ms (by decide +kernel) (pa_cons (pe_mkC Z.oFE (by rfl) Z.gFE) (pa_cons (pe_bltn (v := .ty "ValueError") (by rfl) mV (by decide +kernel) rfl) pa_nil))) (pe_one (pe_not (pe_callB call_isX (by rfl) ms (by decide +kernel) (pa_cons (pe_mkC Z.oFE (by rfl) Z.gFE) (pa_cons (pe_bltn (v := .ty "LookupError") (by rfl) mL (by decide +kernel) rfl) pa_nil))))))))))), ?_⟩
  refine ⟨.ref a, rfl, a, ns, rfl, hS, hlen, fun D A B H1 dk1 eH1 nD nA => ?_⟩
  have hy1 : Sys (hsd D A noS H1) := hy.deck eH1 nD nA
  refine ⟨(by show 8 ≤ sizeLine; decide), fun p0 np0 => ?_⟩
  have e2 : Ex H1 (upd H1 p0 (.lst [.int 20, .int 30, .int 3000, .int 100, .int 40, .int 6, .int 6, .int 60])) := Ex.new np0
  have g2 : upd H1 p0 (.lst [.int 20, .int 30, .int 3000, .int 100, .int 40, .int 6, .int 6, .int 60]) p0 = some (.lst [.int 20, .int 30, .int 3000, .int 100, .int 40, .int 6, .int 6, .int 60]) := upd_same
  have ne0 := (hy1.ex ex_hs).ne np0
  generalize upd H1 p0 (.lst [.int 20, .int 30, .int 3000, .int 100, .int 40, .int 6, .int 6, .int 60]) = H2 at e2 g2 ⊢
  have dk2 := dk1.ex e2
  have hy2 := hy1.ex (hsdEx e2)
  have nef : ∀ z : Str, (!decide (V.str z = V.str z)) = false := fun z => by
    rw [decide_eq_true rfl]
    rfl
  have nbf : ∀ z : Bool, (!decide (V.bl z = V.bl z)) = false := fun z => by
    rw [decide_eq_true rfl]
    rfl
  refine ⟨.ref p0, rfl, .ref p0, .list [.int 20, .int 30, .int 3000, .int 100, .int 40, .int 6, .int 6, .int 60], rfl, .lst (SqL.of g2) ne0 (.cons (.int _) (.cons (.int _) (.cons (.int _) (.cons (.int _) (.cons (.int _) (.cons (.int _) (.cons (.int _) (.cons (.int _) .nil)))))))),
    ⟨by decide +kernel, by decide +kernel, by decide +kernel, by decide +kernel⟩, rfl, _, rfl, ?_⟩
  rw [told_shown, nef]
  refine iteF ?_
  clear dk1 hy1 eH1 nD nA hS hy e2 g2 ne0 np0
  refine ⟨6, rfl, by decide, by decide, for_range (lo := 0) (n := 6) (fun i σ H' => ∃ y3 y4 y5 y6 y7 y8 : Option V, σ = [some (.ref a), some (.ref D), some (.ref p0), y3, y4, y5, y6, y7, y8] ∧ Deck D A B H' ∧ Sys (hsd D A noS H'))
    ⟨_, _, _, _, _, _, rfl, dk2, hy2⟩ ?_ ?_⟩
  · rintro i σ H3 hi ⟨y3, y4, y5, y6, y7, y8, rfl, dk3, hy3⟩
    clear dk2 hy2
    refine ⟨.ref D, rfl, ?_⟩
    refine qaLst (K := K) (D := D) (A := A) (B := B) (S := noS) (G := hsd D A noS H3) ((qaCons qNon (qaCons qBl (qaCons qInt (qaCons qNeg (qaCons qStr (qaCons qStr (qaCons (qT (qtTup (qaCons qInt (qaCons qInt qaNil)))) (qaCons (qLst hy3 (qaCons qInt qaNil)) (qaCons qDisp
      (qaCons (qT (qtTup (qaCons qNon (qaCons qStr qaNil)))) (qaCons (qOdd (i := 1) rfl hy3) qaNil))))))))))).mono (W' := 5000) (k' := 7) (by decide) (by decide)) dk3.no (Ex.refl _) (by decide) fun t vs ds H5 dk5 e5 g5 l1 l2 l3 ha5 sa5 hl5 => ?_
    refine ⟨D, A, B, t, vs, rfl, dk5.d, (of_hs g5).1, l1, l2, fun z => ?_, by omega, fun v H6 hv dk6 kp6 => ?_⟩
    · rw [z] at hl5
      cases hl5
    obtain ⟨j, hj⟩ := List.getElem?_of_mem hv
    obtain ⟨d, hd1, hd2⟩ := ha5.get j hj
    have hd := Dq.ex ((kp6.hs).trans ex_hs) _ _ hd2
    have sd := sa5.sub d (List.mem_of_getElem? hd1)
    have hy6 := hy3.ex (e5.trans kp6.hs)
    clear dk3 hy3 dk5 e5 g5 l1 l2 l3 ha5 sa5 hl5 kp6 hj hd1 hd2 hv
    refine ⟨v, rfl, v, rfl, fun p us H7 e7 n7 g7 r7 => ?_⟩
    have dk7 := dk6.ex e7
    have hy7 := hy6.ex (hsdEx e7)
    replace hd := Dq.ex e7 _ _ hd
    clear dk6 hy6 e7 n7
    refine ⟨11, rfl, by decide, by decide, for_range (lo := 0) (n := 11) (fun j σ H' => ∃ z6 z7 z8 : Option V, σ = [some (.ref a), some (.ref D), some (.ref p0), some (.int (0 + (i : Int))), some v, some (.ref p), z6, z7, z8] ∧ Ex H7 H') ⟨_, _, _, rfl, Ex.refl _⟩ ?_ ?_⟩
    · rintro j σ H8 hj ⟨z6, z7, z8, rfl, e8⟩
      have ej : (0 : Int) + (j : Int) = (j : Int) := Int.zero_add _
      rw [ej]
      obtain ⟨fs, hfs⟩ := errs_at (c := c) (v := v) j hj
      obtain ⟨ea, hu, hE⟩ := r7.get j hfs
      have hX := Z.ex j hj
      have g8 := e8 _ _ g7
      have hE8 : ExAt H8 ea (c.at j) fs := hE.ex e8
      refine ⟨.ref p, rfl, .int (j : Int), rfl, p, us, (j : Int), .ref ea, rfl, rfl, SqL.of g8, atI_nat hu, ea, j, fs, rfl, hj, hE8, fun q H9 e9 g9 => ?_⟩
      refine ⟨11, rfl, by decide, by decide, fun r nr => ?_⟩
      refine lc_range (lo := 0) (n := 11) (fun m H' => Ex H9 H' ∧ H' r = some (.lst ((List.range m).map fun x => V.bl (j == x)))) ⟨Ex.new nr, upd_same⟩ ?_ ?_
      · rintro m H' hm ⟨ex, gx⟩
        refine ⟨rfl, yesIf ⟨.int (j : Int), rfl, .int (0 + (m : Int)), rfl, rfl, _, gx, by rw [List.length_map, List.length_range]; exact small1000 (by omega), ex.mut nr, ?_⟩⟩
        rw [upd_same, List.range_succ, List.map_append, beqI]
        rfl
      rintro H10 ⟨e10, g10⟩
      refine ⟨.list (blD j), .list (blD j), .lst (SqL.of (e10 _ _ g9)) (dpBl _), .lst (SqL.of g10) (dpBl _), blD_sh j hj, blD_sh j hj, _, rfl, ?_⟩
      rw [blD_eq j hj]
      refine iteF ?_
      have e810 := e9.trans e10
      have gA := e810 _ _ g8
      have hA := hE8.ex e810
      have d9 : decide ((j : Int) < 9) = decide (j < 9) := by
        by_cases h : j < 9
        · rw [decide_eq_true h, decide_eq_true (by omega)]
        · rw [decide_eq_false h, decide_eq_false (by omega)]
      have d8 : decide ((8 : Int) < (j : Int)) = decide (8 < j) := by
        by_cases h : 8 < j
        · rw [decide_eq_true h, decide_eq_true (by omega)]
        · rw [decide_eq_false h, decide_eq_false (by omega)]
      have w9 : (!decide (V.bl (decide (j < 9)) = V.bl (decide ((j : Int) < 9)))) = false := by
        rw [d9, nbf]
      have w8 : (!decide (V.bl (decide (8 < j)) = V.bl (decide ((8 : Int) < (j : Int))))) = false := by
        rw [d8, nbf]
      refine ⟨.ref p, rfl, .int (j : Int), rfl, p, us, (j : Int), .ref ea, rfl, rfl, SqL.of gA, atI_nat hu, ea, c.at j, fs, .ref c.FE, .ref c.FE, _, rfl, hA, hX, fun _ r => r, Z.kFE j hj, .int (j : Int), rfl, (j : Int), 9, rfl, rfl, rfl, _, rfl, iteB w9 ?_⟩
      refine ⟨.ref p, rfl, .int (j : Int), rfl, p, us, (j : Int), .ref ea, rfl, rfl, SqL.of gA, atI_nat hu, ea, c.at j, fs, .ty "ValueError", .type "ValueError", _, rfl, hA, hX, fun _ r => r, Z.kVE j hj, .int (j : Int), rfl, (j : Int), 9, rfl, rfl, rfl, _, rfl, iteB w9 ?_⟩
      refine ⟨.ref p, rfl, .int (j : Int), rfl, p, us, (j : Int), .ref ea, rfl, rfl, SqL.of gA, atI_nat hu, ea, c.at j, fs, .ty "LookupError", .type "LookupError", _, rfl, hA, hX, fun _ r => r, Z.kLE j hj, .int (j : Int), rfl, (j : Int), 8, rfl, rfl, rfl, _, rfl, iteB w8 ?_⟩
      refine ⟨.ref p, rfl, .int (j : Int), rfl, p, us, (j : Int), .ref ea, rfl, rfl, SqL.of gA, atI_nat hu, ea, c.at j, fs, .ty "KeyError", .type "KeyError", _, rfl, hA, hX, fun _ r => r, Z.kKE j hj, _, rfl, ?_⟩
      refine iteF ⟨.ref p, rfl, .int (j : Int), rfl, p, us, (j : Int), .ref ea, rfl, rfl, SqL.of gA, atI_nat hu, ea, c.at j, fs, .ty "IndexError", .type "IndexError", _, rfl, hA, hX, fun _ r => r, Z.kIE j hj, _, rfl, ?_⟩
      exact iteF ⟨_, _, _, rfl, e8.trans e810⟩
    rintro σ H8 ⟨z6, z7, z8, rfl, e8⟩
    obtain ⟨a0, u0, x0⟩ := r7.get 0 rfl
    obtain ⟨a1, u1, x1⟩ := r7.get 1 rfl
    obtain ⟨a5, u5, x5⟩ := r7.get 5 rfl
    obtain ⟨a6, u6, x6⟩ := r7.get 6 rfl
    obtain ⟨a9, u9, x9⟩ := r7.get 9 rfl
    obtain ⟨a10, u10, x10⟩ := r7.get 10 rfl
    refine epSet (G := H7) (vs := [v, v, v, v, v, v]) (epC (epFld (m := 0) rfl g7 u0 x0 (Z.ex 0 (by decide)) Z.nBB) (epC (epFld (m := 1) rfl g7 u1 x1 (Z.ex 1 (by decide)) Z.nBT) (epC (epFld (m := 5) rfl g7 u5 x5 (Z.ex 5 (by decide)) Z.nNS) (epC (epFld (m := 6) rfl g7 u6 x6 (Z.ex 6 (by decide)) Z.nTE)
      (epC (epFld (m := 9) rfl g7 u9 x9 (Z.ex 9 (by decide)) Z.nNL) (epC (epFld (m := 10) rfl g7 u10 x10 (Z.ex 10 (by decide)) Z.nNF) epN)))))) e8 (by show 6 ≤ 1000; decide) fun k1 H9 e9 _ g9 => ?_
    refine epCat (G := H7) (vs := [v, v, v]) rfl g9 (epC (epMk (i := 4) rfl (Z.ex 0 (by decide)) Z.nBB) (epC (epMk (i := 4) rfl (Z.ex 1 (by decide)) Z.nBT) (epC (epMk (i := 4) rfl (Z.ex 5 (by decide)) Z.nNS) epN))) (e8.trans e9) (by show 9 ≤ 1000; decide) fun k2 H10 e10 _ g10 => ?_
    refine epCat (G := H7) (vs := [v, v, v]) rfl g10 (epC (epMk (i := 4) rfl (Z.ex 6 (by decide)) Z.nTE) (epC (epMk (i := 4) rfl (Z.ex 9 (by decide)) Z.nNL) (epC (epMk (i := 4) rfl (Z.ex 10 (by decide)) Z.nNF) epN))) ((e8.trans e9).trans e10) (by show 12 ≤ 1000; decide) fun k3 H11 e11 n11 g11 => ?_
    have e711 := ((e8.trans e9).trans e10).trans e11
    have hs7 : Sys H7 := hy7.ex ex_hs
    have ne3 : k3 ≠ sysModules := (hs7.ex ((e8.trans e9).trans e10)).ne n11
    refine ⟨.ref k3, rfl, .ref k3, .list (List.replicate 12 d), rfl, .lst (xs := List.replicate 12 v) (SqL.of g11) ne3 (repD (Dq.ex e711 _ _ hd) 12), repS sd, v, rfl, (by show 1 ≤ sizeLine; decide), fun x1 nx1 => ?_⟩
    refine ⟨x1, 12, [v], rfl, rfl, upd_same, by decide, by decide, (by show 12 ≤ sizeLine; decide), fun x2 nx2 => ?_⟩
    have ef := (e711.trans (Ex.new (o := .lst [v]) nx1)).trans (Ex.new (o := .lst (List.replicate (12 : Int).toNat [v]).flatten) nx2)
    have ne4 : x2 ≠ sysModules := (hs7.ex (e711.trans (Ex.new (o := .lst [v]) nx1))).ne nx2
    refine ⟨.ref x2, .list (List.replicate 12 d), rfl, .lst (xs := List.replicate 12 v) (SqL.of upd_same) ne4 (repD (Dq.ex ef _ _ hd) 12), repS sd, rfl, _, rfl, ?_⟩
    rw [nef]
    exact iteF ⟨_, _, _, _, _, _, rfl, dk7.ex ef, hy7.ex (hsdEx ef)⟩
  · rintro σ H3 ⟨y3, y4, y5, y6, y7, y8, rfl, _, _⟩
    refine fun fa nfa => ⟨fa, c.FE, [], .ty "ValueError", .type "ValueError", true, rfl, .inl ⟨upd_same, rfl⟩, Z.exFE, fun _ r => r, Z.fVE, true, rfl, ?_⟩
    refine iteT fun fb nfb => ⟨fb, c.FE, [], .ty "LookupError", .type "LookupError", false, rfl, .inl ⟨upd_same, rfl⟩, Z.exFE, fun _ r => r, Z.fLE, false, rfl, rfl⟩
end
end FF
namespace FF
open PySem PySem.Spec PyProof.Rows L2 Evl
abbrev veM : List Value := [.type "ValueError", .type "Exception", .type "BaseException", .type "object"]
abbrev leM : List Value := [.type "LookupError", .type "Exception", .type "BaseException", .type "object"]
def excB (K : PySem.W.Frag) (D : Addr) : Bool := decide (PySem.W.findIn K (.ref D) "__getattribute__" = some (some (.builtin "BaseException.__getattribute__"))) && (decide (PySem.W.findIn K (.ref D) "__getattr__" = some none) && (decide (PySem.W.subIn K (.ref D) (.type "BaseException") = some true) && (PySem.W.hasDictIn K D && (decide (PySem.W.findIn K (.ref D) "__class__" = some (some (.builtin "object.__class__"))) &&
  (decide (PySem.W.specialIn K (.builtin "object.__class__") "__get__" = some (some (.builtin "getset_descriptor.__get__"))) && (decide (PySem.W.takesIn K (.builtin "object.__class__") = some true) && decide (PySem.W.mroIn K D (.type "object") = some true)))))))
theorem excB_ok {K : PySem.W.Frag} {D : Addr} (h : excB K D = true) : ExcC K D := by
  simp only [excB, Bool.and_eq_true, decide_eq_true_eq] at h
  obtain ⟨h1, h2, h3, h4, h5, h6, h7, h8⟩ := h
  exact ⟨h1, h2, h3, h4, h5, h6, h7, h8⟩
def ogB (K : PySem.W.Frag) (C : Addr) (bmB : List Value) (newId : String) (f : Str) : Bool := PySem.W.excOver K C bmB && (PySem.W.excInitIn K C bmB newId && (decide (PySem.W.findIn K (.ref C) "__setattr__" = some (some (.builtin "object.__setattr__"))) && (PySem.W.keepIn K (.ref C) && (excB K C && (decide (PySem.W.takerIn K C f = some none) && decide (PySem.W.findIn K (.ref C) f = some none))))))
theorem ogB_ok {K : PySem.W.Frag} {C : Addr} {bmB : List Value} {B newId initId : String} {f : Str} (F : ExcBaseFacts B newId initId bmB) (S : StoreFacts B bmB "object.__setattr__" "object") (h : ogB K C bmB newId f = true) :
    OG K C ∧ PySem.W.takerIn K C f = some none ∧ PySem.W.findIn K (.ref C) f = some none := by
  simp only [ogB, Bool.and_eq_true, decide_eq_true_eq] at h
  obtain ⟨h1, h2, h3, h4, h5, h6, h7⟩ := h
  exact ⟨⟨⟨B, newId, initId, bmB, F, S, h1, h2⟩, h3, h4, excB_ok h5⟩, h6, h7⟩
def bareB (K : PySem.W.Frag) (C : Addr) : Bool := PySem.W.excIn K C veM "ValueError.__new__" && (PySem.W.keepIn K (.ref C) && excB K C)
theorem bareB_ok {K : PySem.W.Frag} {C : Addr} (h : bareB K C = true) : Bare K C ∧ ExcC K C := by
  simp only [bareB, Bool.and_eq_true] at h
  obtain ⟨h1, h2, h3⟩ := h
  exact ⟨⟨h2, _, _, _, _, PySem.F.excBase_ValueError, h1⟩, excB_ok h3⟩
def kitB' (K : PySem.W.Frag) (c : Cs) : Bool := ((List.range 11).all fun i => ((List.range 11).all fun j => decide (PySem.W.kitOne K (.ref (c.at i)) (.ref (c.at j)) = some (i == j))) && (decide (PySem.W.kitOne K (.ref (c.at i)) (.ref c.FE) = some (decide (i < 9))) && (decide (PySem.W.kitOne K (.ref (c.at i)) (.type "ValueError") = some (decide (i < 9))) &&
  (decide (PySem.W.kitOne K (.ref (c.at i)) (.type "LookupError") = some (decide (8 < i))) && (decide (PySem.W.kitOne K (.ref (c.at i)) (.type "KeyError") = some false) && (decide (PySem.W.kitOne K (.ref (c.at i)) (.type "IndexError") = some false) && excB K (c.at i))))))) &&
  (decide (PySem.W.kitOne K (.ref c.FE) (.type "ValueError") = some true) && decide (PySem.W.kitOne K (.ref c.FE) (.type "LookupError") = some false))
def csB (K : PySem.W.Frag) (c : Cs) : Bool := kitB' K c && (ogB K c.BB veM "ValueError.__new__" "error" && (ogB K c.BT veM "ValueError.__new__" "line" && (ogB K c.NS veM "ValueError.__new__" "fuse" && (ogB K c.TE veM "ValueError.__new__" "fuses" && (ogB K c.NL leM "LookupError.__new__" "lamp" && (ogB K c.NF leM "LookupError.__new__" "fuse" &&
  (bareB K c.TG && (bareB K c.UN && (bareB K c.FU && (bareB K c.NU && (bareB K c.NR && bareB K c.FE)))))))))))
theorem inOk_of {P : Program} {w : World} {K : PySem.W.Frag} {mg : Str → Option Value} {base : Heap} {k : Nat} {C fI : Addr} {n : Str} {fd : FuncData} (h1 : PySem.W.findIn K (.ref C) "__init__" = some (some (.ref fI))) (h2 : PySem.W.typeIn K (.ref fI) = some (.type "function"))
    (h3 : FnOk P w K mg base CX0 k fI fd [("self" : Str), n] (spIni K C n)) (h4 : Binds K fd [("self" : Str), n] []) (h5 : ∀ (s : Shared) (v u : Value), BindsTo s fd ⟨[v], [(n, u)]⟩ ([("self" : Str), n].zip [v, u])) : InOk P w K mg base k C n := ⟨fI, fd, h1, h2, h3, h4, h5⟩
theorem csOk_of {K : PySem.W.Frag} {mg : Str → Option Value} {c : Cs} (h : csB K c = true) (g : mg "BadBoard" = some (.ref c.BB) ∧ mg "BadText" = some (.ref c.BT) ∧ mg "TooGreat" = some (.ref c.TG) ∧ mg "Unlike" = some (.ref c.UN) ∧ mg "Full" = some (.ref c.FU) ∧ mg "NotStrained" = some (.ref c.NS) ∧ mg "TooEarly" = some (.ref c.TE) ∧
    mg "NothingToUndo" = some (.ref c.NU) ∧ mg "NothingToRedo" = some (.ref c.NR) ∧ mg "NoLamp" = some (.ref c.NL) ∧ mg "NoFuse" = some (.ref c.NF) ∧ mg "FuseError" = some (.ref c.FE)) :
    CsOk K mg c ∧ PySem.W.takerIn K c.BB "error" = some none ∧ PySem.W.takerIn K c.BT "line" = some none ∧ PySem.W.takerIn K c.NS "fuse" = some none ∧ PySem.W.takerIn K c.TE "fuses" = some none ∧ PySem.W.takerIn K c.NL "lamp" = some none ∧ PySem.W.takerIn K c.NF "fuse" = some none := by
  simp only [csB, Bool.and_eq_true] at h
  obtain ⟨hk, q1, q2, q3, q4, q5, q6, b1, b2, b3, b4, b5, b6⟩ := h
  obtain ⟨g1, g2, g3, g4, g5, g6, g7, g8, g9, g10, g11, g12⟩ := g
  obtain ⟨o1, t1, n1⟩ := ogB_ok PySem.F.excBase_ValueError PySem.F.store_ValueError q1
  obtain ⟨o2, t2, n2⟩ := ogB_ok PySem.F.excBase_ValueError PySem.F.store_ValueError q2
  obtain ⟨o3, t3, n3⟩ := ogB_ok PySem.F.excBase_ValueError PySem.F.store_ValueError q3
  obtain ⟨o4, t4, n4⟩ := ogB_ok PySem.F.excBase_ValueError PySem.F.store_ValueError q4
  obtain ⟨o5, t5, n5⟩ := ogB_ok PySem.F.excBase_LookupError PySem.F.store_LookupError q5
  obtain ⟨o6, t6, n6⟩ := ogB_ok PySem.F.excBase_LookupError PySem.F.store_LookupError q6
  simp only [kitB', Bool.and_eq_true, List.all_eq_true, decide_eq_true_eq, List.mem_range] at hk
  obtain ⟨ha, hv, hl⟩ := hk
  have x := fun i hi => (ha i hi).2
  exact ⟨⟨fun i hi j hj => (ha i hi).1 j hj, fun i hi => (x i hi).1, fun i hi => (x i hi).2.1, fun i hi => (x i hi).2.2.1, fun i hi => (x i hi).2.2.2.1, fun i hi => (x i hi).2.2.2.2.1, hv, hl, fun i hi => excB_ok (x i hi).2.2.2.2.2, (bareB_ok b6).2,
    g1, o1, n1, g2, o2, n2, g3, (bareB_ok b1).1, g4, (bareB_ok b2).1, g5, (bareB_ok b3).1, g6, o3, n3, g7, o4, n4, g8, (bareB_ok b4).1, g9, (bareB_ok b5).1, g10, o5, n5, g11, o6, n6, g12, (bareB_ok b6).1⟩, t1, t2, t3, t4, t5, t6⟩
end FF
namespace FF
open PySem PySem.Spec PyProof.Rows L2 Evl
theorem InOk.mono {P : Program} {w : World} {K : PySem.W.Frag} {mg : Str → Option Value} {base : Heap} {k j : Nat} {C : Addr} {n : Str} (h : InOk P w K mg base k C n) (hj : k ≤ j) : InOk P w K mg base j C n := by
  obtain ⟨fI, fd, h1, h2, h3, h4⟩ := h.ex
  exact ⟨fI, fd, h1, h2, h3.mono hj, h4⟩
theorem all_mk {l : PySem.W.OpenLaw} {w : World} {K : PySem.W.Frag} {h : Heap} {tMF tML tMO tMD tMS tMA tMB tME : Tok} {cBB cBT cTG cUN cFU cNS cTE cNU cNR cNL cNF cFE fBB fBT fNS fTE fNL fNF : Addr} {odBB anBB odBT anBT odNS anNS odTE anTE odNL anNL odNF anNF : Option Addr} {slBB slBT slNS slTE slNL slNF : Array (Option Value)} {ocBB kVBB dcBB pmBB cdBB ctBB ocBT kVBT dcBT pmBT cdBT ctBT ocNS kVNS dcNS pmNS cdNS ctNS ocTE kVTE dcTE pmTE cdTE ctTE ocNL kVNL dcNL pmNL cdNL ctNL ocNF kVNF dcNF pmNF cdNF ctNF : Value} {mg : Str → Option Value} {fa fDK fDR fPK fOD fCL fAL fLW : Addr} (X : K.In h) (G : h.Ns mainGlobals mg) (hfa : mg "law" = some (.ref fa))
    {odDK anDK odDR anDR odPK anPK odOD anOD odCL anCL odAL anAL odLW anLW : Option Addr} {slDK slDR slPK slOD slCL slAL slLW : Array (Option Value)} {ocDK kVDK dcDK pmDK cdDK ctDK ocDR kVDR dcDR pmDR cdDR ctDR ocPK kVPK dcPK pmPK cdPK ctPK ocOD kVOD dcOD pmOD cdOD ctOD ocCL kVCL dcCL pmCL cdCL ctCL ocAL kVAL dcAL pmAL cdAL ctAL ocLW kVLW dcLW pmLW cdLW ctLW : Value}
    (aDK : PySem.W.nsIn K mainGlobals "_law_deck" = some (some (.ref fDK))) (lDK : K.lookup fDK = some ⟨ocDK, odDK, .func (PySem.W.fnOf "_law_deck" "_law_deck" (defArgs sDeck) (defBody sDeck) (defScope sDeck) .none kVDK dcDK pmDK anDK cdDK ctDK), slDK⟩) (cDK : PySem.W.codeIn K cdDK "_law_deck" = true) (kDK : PySem.W.keepIn K (.ref fDK) = true)
    (aDR : PySem.W.nsIn K mainGlobals "_law_draw" = some (some (.ref fDR))) (lDR : K.lookup fDR = some ⟨ocDR, odDR, .func (PySem.W.fnOf "_law_draw" "_law_draw" (defArgs sDraw) (defBody sDraw) (defScope sDraw) .none kVDR dcDR pmDR anDR cdDR ctDR), slDR⟩) (cDR : PySem.W.codeIn K cdDR "_law_draw" = true) (kDR : PySem.W.keepIn K (.ref fDR) = true)
    (aPK : PySem.W.nsIn K mainGlobals "_law_pick" = some (some (.ref fPK))) (lPK : K.lookup fPK = some ⟨ocPK, odPK, .func (PySem.W.fnOf "_law_pick" "_law_pick" (defArgs sPick) (defBody sPick) (defScope sPick) .none kVPK dcPK pmPK anPK cdPK ctPK), slPK⟩) (cPK : PySem.W.codeIn K cdPK "_law_pick" = true) (kPK : PySem.W.keepIn K (.ref fPK) = true)
    (aOD : PySem.W.nsIn K mainGlobals "_law_odd" = some (some (.ref fOD))) (lOD : K.lookup fOD = some ⟨ocOD, odOD, .func (PySem.W.fnOf "_law_odd" "_law_odd" (defArgs sOdd) (defBody sOdd) (defScope sOdd) .none kVOD dcOD pmOD anOD cdOD ctOD), slOD⟩) (cOD : PySem.W.codeIn K cdOD "_law_odd" = true) (kOD : PySem.W.keepIn K (.ref fOD) = true)
    (aCL : PySem.W.nsIn K mainGlobals "_law_classes" = some (some (.ref fCL))) (lCL : K.lookup fCL = some ⟨ocCL, odCL, .func (PySem.W.fnOf "_law_classes" "_law_classes" (defArgs sCls) (defBody sCls) (defScope sCls) .none kVCL dcCL pmCL anCL cdCL ctCL), slCL⟩) (cCL : PySem.W.codeIn K cdCL "_law_classes" = true) (kCL : PySem.W.keepIn K (.ref fCL) = true)
    (aAL : PySem.W.nsIn K mainGlobals "_law_all" = some (some (.ref fAL))) (lAL : K.lookup fAL = some ⟨ocAL, odAL, .func (PySem.W.fnOf "_law_all" "_law_all" (defArgs sAll) (defBody sAll) (defScope sAll) .none kVAL dcAL pmAL anAL cdAL ctAL), slAL⟩) (cAL : PySem.W.codeIn K cdAL "_law_all" = true) (kAL : PySem.W.keepIn K (.ref fAL) = true)
    (aLW : PySem.W.nsIn K mainGlobals "law" = some (some (.ref fLW))) (lLW : K.lookup fLW = some ⟨ocLW, odLW, .func (PySem.W.fnOf "law" "law" (defArgs sLaw) (defBody sLaw) (defScope sLaw) .none kVLW dcLW pmLW anLW cdLW ctLW), slLW⟩) (cLW : PySem.W.codeIn K cdLW "law" = true) (kLW : PySem.W.keepIn K (.ref fLW) = true)
    (zlen : PySem.W.nsIn K mainGlobals "len" = some none)
    (zrange : PySem.W.nsIn K mainGlobals "range" = some none)
    (zint : PySem.W.nsIn K mainGlobals "int" = some none)
    (zabs : PySem.W.nsIn K mainGlobals "abs" = some none)
    (zrepr : PySem.W.nsIn K mainGlobals "repr" = some none)
    (zisinstance : PySem.W.nsIn K mainGlobals "isinstance" = some none)
    (zValueError : PySem.W.nsIn K mainGlobals "ValueError" = some none)
    (zLookupError : PySem.W.nsIn K mainGlobals "LookupError" = some none)
    (zKeyError : PySem.W.nsIn K mainGlobals "KeyError" = some none)
    (zIndexError : PySem.W.nsIn K mainGlobals "IndexError" = some none)
    (aMF : PySem.W.nsIn K mainGlobals "MAX_FUSES" = some (some (.int 20 tMF)))
    (aML : PySem.W.nsIn K mainGlobals "MAX_LAMPS" = some (some (.int 30 tML)))
    (aMO : PySem.W.nsIn K mainGlobals "MAX_LOAD" = some (some (.int 3000 tMO)))
    (aMD : PySem.W.nsIn K mainGlobals "MAX_DRAW" = some (some (.int 100 tMD)))
    (aMS : PySem.W.nsIn K mainGlobals "MAX_STORY" = some (some (.int 40 tMS)))
    (aMA : PySem.W.nsIn K mainGlobals "MAX_SMALL" = some (some (.int 6 tMA)))
    (aMB : PySem.W.nsIn K mainGlobals "MAX_SMALL_LAMPS" = some (some (.int 6 tMB)))
    (aME : PySem.W.nsIn K mainGlobals "MAX_EDITS" = some (some (.int 60 tME)))
    (qBB : PySem.W.nsIn K mainGlobals "BadBoard" = some (some (.ref cBB)))
    (qBT : PySem.W.nsIn K mainGlobals "BadText" = some (some (.ref cBT)))
    (qTG : PySem.W.nsIn K mainGlobals "TooGreat" = some (some (.ref cTG)))
    (qUN : PySem.W.nsIn K mainGlobals "Unlike" = some (some (.ref cUN)))
    (qFU : PySem.W.nsIn K mainGlobals "Full" = some (some (.ref cFU)))
    (qNS : PySem.W.nsIn K mainGlobals "NotStrained" = some (some (.ref cNS)))
    (qTE : PySem.W.nsIn K mainGlobals "TooEarly" = some (some (.ref cTE)))
    (qNU : PySem.W.nsIn K mainGlobals "NothingToUndo" = some (some (.ref cNU)))
    (qNR : PySem.W.nsIn K mainGlobals "NothingToRedo" = some (some (.ref cNR)))
    (qNL : PySem.W.nsIn K mainGlobals "NoLamp" = some (some (.ref cNL)))
    (qNF : PySem.W.nsIn K mainGlobals "NoFuse" = some (some (.ref cNF)))
    (qFE : PySem.W.nsIn K mainGlobals "FuseError" = some (some (.ref cFE)))
    (yBB : PySem.W.findIn K (.ref cBB) "__init__" = some (some (.ref fBB))) (zBB : PySem.W.typeIn K (.ref fBB) = some (.type "function")) (vBB : K.lookup fBB = some ⟨ocBB, odBB, .func (PySem.W.fnOf "__init__" "BadBoard.__init__" (defArgs (inS 2)) (defBody (inS 2)) (defScope (inS 2)) .none kVBB dcBB pmBB anBB cdBB ctBB), slBB⟩) (wBB : PySem.W.codeIn K cdBB "BadBoard.__init__" = true) (xBB : PySem.W.keepIn K (.ref fBB) = true)
    (yBT : PySem.W.findIn K (.ref cBT) "__init__" = some (some (.ref fBT))) (zBT : PySem.W.typeIn K (.ref fBT) = some (.type "function")) (vBT : K.lookup fBT = some ⟨ocBT, odBT, .func (PySem.W.fnOf "__init__" "BadText.__init__" (defArgs (inS 3)) (defBody (inS 3)) (defScope (inS 3)) .none kVBT dcBT pmBT anBT cdBT ctBT), slBT⟩) (wBT : PySem.W.codeIn K cdBT "BadText.__init__" = true) (xBT : PySem.W.keepIn K (.ref fBT) = true)
    (yNS : PySem.W.findIn K (.ref cNS) "__init__" = some (some (.ref fNS))) (zNS : PySem.W.typeIn K (.ref fNS) = some (.type "function")) (vNS : K.lookup fNS = some ⟨ocNS, odNS, .func (PySem.W.fnOf "__init__" "NotStrained.__init__" (defArgs (inS 7)) (defBody (inS 7)) (defScope (inS 7)) .none kVNS dcNS pmNS anNS cdNS ctNS), slNS⟩) (wNS : PySem.W.codeIn K cdNS "NotStrained.__init__" = true) (xNS : PySem.W.keepIn K (.ref fNS) = true)
    (yTE : PySem.W.findIn K (.ref cTE) "__init__" = some (some (.ref fTE))) (zTE : PySem.W.typeIn K (.ref fTE) = some (.type "function")) (vTE : K.lookup fTE = some ⟨ocTE, odTE, .func (PySem.W.fnOf "__init__" "TooEarly.__init__" (defArgs (inS 8)) (defBody (inS 8)) (defScope (inS 8)) .none kVTE dcTE pmTE anTE cdTE ctTE), slTE⟩) (wTE : PySem.W.codeIn K cdTE "TooEarly.__init__" = true) (xTE : PySem.W.keepIn K (.ref fTE) = true)
    (yNL : PySem.W.findIn K (.ref cNL) "__init__" = some (some (.ref fNL))) (zNL : PySem.W.typeIn K (.ref fNL) = some (.type "function")) (vNL : K.lookup fNL = some ⟨ocNL, odNL, .func (PySem.W.fnOf "__init__" "NoLamp.__init__" (defArgs (inS 11)) (defBody (inS 11)) (defScope (inS 11)) .none kVNL dcNL pmNL anNL cdNL ctNL), slNL⟩) (wNL : PySem.W.codeIn K cdNL "NoLamp.__init__" = true) (xNL : PySem.W.keepIn K (.ref fNL) = true)
    (yNF : PySem.W.findIn K (.ref cNF) "__init__" = some (some (.ref fNF))) (zNF : PySem.W.typeIn K (.ref fNF) = some (.type "function")) (vNF : K.lookup fNF = some ⟨ocNF, odNF, .func (PySem.W.fnOf "__init__" "NoFuse.__init__" (defArgs (inS 12)) (defBody (inS 12)) (defScope (inS 12)) .none kVNF dcNF pmNF anNF cdNF ctNF), slNF⟩) (wNF : PySem.W.codeIn K cdNF "NoFuse.__init__" = true) (xNF : PySem.W.keepIn K (.ref fNF) = true)
    (zchk : csB K ⟨cBB, cBT, cTG, cUN, cFU, cNS, cTE, cNU, cNR, cNL, cNF, cFE⟩ = true)
    (zsys : K.lookup sysModules = none)
    : ∃ fd : FuncData, K.lookup sysModules = none ∧ Fun K "law" "law" sLaw fa fd ∧ (∀ (s : Shared) (u : Value), BindsTo s fd ⟨[u], []⟩ [("_law_script", u)]) ∧ ∀ base : Heap, K.In base → base.Ns mainGlobals mg → BodyS l.prog w K mg base 5 nLaw sLaw fa := by
  have gMF := PySem.W.mg_of X G aMF
  have gML := PySem.W.mg_of X G aML
  have gMO := PySem.W.mg_of X G aMO
  have gMD := PySem.W.mg_of X G aMD
  have gMS := PySem.W.mg_of X G aMS
  have gMA := PySem.W.mg_of X G aMA
  have gMB := PySem.W.mg_of X G aMB
  have gME := PySem.W.mg_of X G aME
  have e := hfa.symm.trans (PySem.W.mg_of X G aLW)
  cases e
  have mlen := PySem.W.mg_none_of X G zlen
  have mrange := PySem.W.mg_none_of X G zrange
  have mint := PySem.W.mg_none_of X G zint
  have mabs := PySem.W.mg_none_of X G zabs
  have mrepr := PySem.W.mg_none_of X G zrepr
  have misinstance := PySem.W.mg_none_of X G zisinstance
  have mValueError := PySem.W.mg_none_of X G zValueError
  have mLookupError := PySem.W.mg_none_of X G zLookupError
  have mKeyError := PySem.W.mg_none_of X G zKeyError
  have mIndexError := PySem.W.mg_none_of X G zIndexError
  have FDK := fun_mk (st := sDeck) lDK cDK kDK
  have bDK := FDK.binds (ps := ["_law_script"]) fun _ _ _ _ _ _ us hl => match us, hl with | [_], _ => rfl
  have mDK := PySem.W.mg_of X G aDK
  have FDR := fun_mk (st := sDraw) lDR cDR kDR
  have bDR := FDR.binds (ps := ["_law_deck_here", "_law_bound"]) fun _ _ _ _ _ _ us hl => match us, hl with | [_, _], _ => rfl
  have mDR := PySem.W.mg_of X G aDR
  have FPK := fun_mk (st := sPick) lPK cPK kPK
  have bPK := FPK.binds (ps := ["_law_deck_here", "_law_items"]) fun _ _ _ _ _ _ us hl => match us, hl with | [_, _], _ => rfl
  have mPK := PySem.W.mg_of X G aPK
  have FOD := fun_mk (st := sOdd) lOD cOD kOD
  have bOD := FOD.binds (ps := ["_law_deck_here"]) fun _ _ _ _ _ _ us hl => match us, hl with | [_], _ => rfl
  have mOD := PySem.W.mg_of X G aOD
  have FCL := fun_mk (st := sCls) lCL cCL kCL
  have bCL := FCL.binds (ps := ["_law_error"]) fun _ _ _ _ _ _ us hl => match us, hl with | [_], _ => rfl
  have mCL := PySem.W.mg_of X G aCL
  have FAL := fun_mk (st := sAll) lAL cAL kAL
  have bAL := FAL.binds (ps := ["_law_one"]) fun _ _ _ _ _ _ us hl => match us, hl with | [_], _ => rfl
  have mAL := PySem.W.mg_of X G aAL
  have FLW := fun_mk (st := sLaw) lLW cLW kLW
  refine ⟨_, zsys, FLW, fun s v => .of_eq rfl, fun base _ _ => ?_⟩
  obtain ⟨Z, tBB, tBT, tNS, tTE, tNL, tNF⟩ := csOk_of (K := K) (mg := mg) (c := ⟨cBB, cBT, cTG, cUN, cFU, cNS, cTE, cNU, cNR, cNL, cNF, cFE⟩) zchk ⟨PySem.W.mg_of X G qBB, PySem.W.mg_of X G qBT, PySem.W.mg_of X G qTG, PySem.W.mg_of X G qUN, PySem.W.mg_of X G qFU, PySem.W.mg_of X G qNS, PySem.W.mg_of X G qTE, PySem.W.mg_of X G qNU, PySem.W.mg_of X G qNR, PySem.W.mg_of X G qNL, PySem.W.mg_of X G qNF, PySem.W.mg_of X G qFE⟩
  have GDR : FnOk l.prog w K mg base CX0 1 fDR _ ["_law_deck_here", "_law_bound"] spDraw := ok_draw FDR mint mlen
  have GPK : FnOk l.prog w K mg base CX0 2 fPK _ ["_law_deck_here", "_law_items"] spPick := ok_pick FPK GDR bDR mDR kDR mlen
  have GDK : FnOk l.prog w K mg base CX0 1 fDK _ ["_law_script"] (spDeck K) := ok_deck FDK mabs mlen
  have GOD : FnOk l.prog w K mg base CX0 3 fOD _ ["_law_deck_here"] (spOdd K) := ok_odd FOD GPK bPK mPK kPK
  have JBB := fun_mk (st := inS 2) vBB wBB xBB
  have BBB := JBB.binds (ps := ["self", "error"]) fun _ _ _ _ _ _ us hl => match us, hl with | [_, _], _ => rfl
  have iBB : InOk l.prog w K mg base 1 cBB "error" := inOk_of yBB zBB (ok_iniBB JBB Z.oBB tBB) BBB (fun s v u => .of_eq rfl)
  have JBT := fun_mk (st := inS 3) vBT wBT xBT
  have BBT := JBT.binds (ps := ["self", "line"]) fun _ _ _ _ _ _ us hl => match us, hl with | [_, _], _ => rfl
  have iBT : InOk l.prog w K mg base 1 cBT "line" := inOk_of yBT zBT (ok_iniBT JBT Z.oBT tBT) BBT (fun s v u => .of_eq rfl)
  have JNS := fun_mk (st := inS 7) vNS wNS xNS
  have BNS := JNS.binds (ps := ["self", "fuse"]) fun _ _ _ _ _ _ us hl => match us, hl with | [_, _], _ => rfl
  have iNS : InOk l.prog w K mg base 1 cNS "fuse" := inOk_of yNS zNS (ok_iniNS JNS Z.oNS tNS) BNS (fun s v u => .of_eq rfl)
  have JTE := fun_mk (st := inS 8) vTE wTE xTE
  have BTE := JTE.binds (ps := ["self", "fuses"]) fun _ _ _ _ _ _ us hl => match us, hl with | [_, _], _ => rfl
  have iTE : InOk l.prog w K mg base 1 cTE "fuses" := inOk_of yTE zTE (ok_iniTE JTE Z.oTE tTE) BTE (fun s v u => .of_eq rfl)
  have JNL := fun_mk (st := inS 11) vNL wNL xNL
  have BNL := JNL.binds (ps := ["self", "lamp"]) fun _ _ _ _ _ _ us hl => match us, hl with | [_, _], _ => rfl
  have iNL : InOk l.prog w K mg base 1 cNL "lamp" := inOk_of yNL zNL (ok_iniNL JNL Z.oNL tNL) BNL (fun s v u => .of_eq rfl)
  have JNF := fun_mk (st := inS 12) vNF wNF xNF
  have BNF := JNF.binds (ps := ["self", "fuse"]) fun _ _ _ _ _ _ us hl => match us, hl with | [_, _], _ => rfl
  have iNF : InOk l.prog w K mg base 1 cNF "fuse" := inOk_of yNF zNF (ok_iniNF JNF Z.oNF tNF) BNF (fun s v u => .of_eq rfl)
  have GAL : FnOk l.prog w K mg base CX0 3 fAL _ ["_law_one"] (spAll ⟨cBB, cBT, cTG, cUN, cFU, cNS, cTE, cNU, cNR, cNL, cNF, cFE⟩) := ok_all FAL Z iBB iBT iNS iTE iNL iNF
  have GCL : FnOk l.prog w K mg base CX0 1 fCL _ ["_law_error"] (spCls ⟨cBB, cBT, cTG, cUN, cFU, cNS, cTE, cNU, cNR, cNL, cNF, cFE⟩) := ok_cls FCL Z misinstance
  exact ok_law (GDK.mono (by decide)) bDK mDK kDK (GPK.mono (by decide)) bPK mPK kPK (GOD.mono (by decide)) bOD mOD kOD (GCL.mono (by decide)) bCL mCL kCL (GAL.mono (by decide)) bAL mAL kAL Z (iBB.mono (by decide)) (iBT.mono (by decide)) (iNS.mono (by decide)) (iTE.mono (by decide)) (iNL.mono (by decide)) (iNF.mono (by decide)) gMF gML gMO gMD gMS gMA gMB gME mrange mrepr misinstance mValueError mLookupError mKeyError mIndexError _
end FF
open PySem PySem.W PyProof.Rows
set_option maxRecDepth 100000 in
set_option maxHeartbeats 0 in
theorem PySem.Challenge.cw_firstfuse_k52_errors_and_bounds_holds : PySem.Challenge.rw_firstfuse_k52_errors_and_bounds.Holds := by
  w_on; o_law; k_head; (case hw => w_witness2)
  k_fill
  refine FF.walkS (l := PySem.Challenge.rw_firstfuse_k52_errors_and_bounds) (k := 5) (N := FF.nLaw) (x := "_law_script") (st := FF.sLaw) rfl rfl ⟨rfl, by decide, by decide⟩ FF.scLaw rfl (fun w h Y => PySem.W.kIn_of Y) ?F
  case F =>
    intro w mg fa h KX G hmg
    refine' FF.all_mk KX G hmg ?aDK ?lDK ?cDK ?kDK ?aDR ?lDR ?cDR ?kDR ?aPK ?lPK ?cPK ?kPK ?aOD ?lOD ?cOD ?kOD ?aCL ?lCL ?cCL ?kCL ?aAL ?lAL ?cAL ?kAL ?aLW ?lLW ?cLW ?kLW ?zlen ?zrange ?zint ?zabs ?zrepr ?zisinstance ?zValueError ?zLookupError ?zKeyError ?zIndexError ?aMF ?aML ?aMO ?aMD ?aMS ?aMA ?aMB ?aME ?qBB ?qBT ?qTG ?qUN ?qFU ?qNS ?qTE ?qNU ?qNR ?qNL ?qNF ?qFE ?yBB ?zBB ?vBB ?wBB ?xBB ?yBT ?zBT ?vBT ?wBT ?xBT ?yNS ?zNS ?vNS ?wNS ?xNS ?yTE ?zTE ?vTE ?wTE ?xTE ?yNL ?zNL ?vNL ?wNL ?xNL ?yNF ?zNF ?vNF ?wNF ?xNF ?zchk ?zsys
    (case aDK => k_is)
    (case lDK => k_is)
    (case cDK => k_is)
    (case kDK => k_is)
    (case aDR => k_is)
    (case lDR => k_is)
    (case cDR => k_is)
    (case kDR => k_is)
    (case aPK => k_is)
    (case lPK => k_is)
    (case cPK => k_is)
    (case kPK => k_is)
    (case aOD => k_is)
    (case lOD => k_is)
    (case cOD => k_is)
    (case kOD => k_is)
    (case aCL => k_is)
    (case lCL => k_is)
    (case cCL => k_is)
    (case kCL => k_is)
    (case aAL => k_is)
    (case lAL => k_is)
    (case cAL => k_is)
    (case kAL => k_is)
    (case aLW => k_is)
    (case lLW => k_is)
    (case cLW => k_is)
    (case kLW => k_is)
    (case zlen => k_is)
    (case zrange => k_is)
    (case zint => k_is)
    (case zabs => k_is)
    (case zrepr => k_is)
    (case zisinstance => k_is)
    (case zValueError => k_is)
    (case zLookupError => k_is)
    (case zKeyError => k_is)
    (case zIndexError => k_is)
    (case aMF => k_is)
    (case aML => k_is)
    (case aMO => k_is)
    (case aMD => k_is)
    (case aMS => k_is)
    (case aMA => k_is)
    (case aMB => k_is)
    (case aME => k_is)
    (case qBB => k_is)
    (case qBT => k_is)
    (case qTG => k_is)
    (case qUN => k_is)
    (case qFU => k_is)
    (case qNS => k_is)
    (case qTE => k_is)
    (case qNU => k_is)
    (case qNR => k_is)
    (case qNL => k_is)
    (case qNF => k_is)
    (case qFE => k_is)
    (case yBB => k_is)
    (case zBB => k_is)
    (case vBB => k_is)
    (case wBB => k_is)
    (case xBB => k_is)
    (case yBT => k_is)
    (case zBT => k_is)
    (case vBT => k_is)
    (case wBT => k_is)
    (case xBT => k_is)
    (case yNS => k_is)
    (case zNS => k_is)
    (case vNS => k_is)
    (case wNS => k_is)
    (case xNS => k_is)
    (case yTE => k_is)
    (case zTE => k_is)
    (case vTE => k_is)
    (case wTE => k_is)
    (case xTE => k_is)
    (case yNL => k_is)
    (case zNL => k_is)
    (case vNL => k_is)
    (case wNL => k_is)
    (case xNL => k_is)
    (case yNF => k_is)
    (case zNF => k_is)
    (case vNF => k_is)
    (case wNF => k_is)
    (case xNF => k_is)
    (case zchk => kernel_rfl)
    (case zsys => rfl)
