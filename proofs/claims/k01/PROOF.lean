import PyProof.Rows.All
import Wide.All
import OpenK.AllK
import Wide.FinOn
import HandS.ForMost
import HandS.Evl
import PyProof.EnumMake
import PyProof.Draws
import PyProof.ReprRoads
import PyProof.TupleIter
import HandS.Walk
import PySem.Challenge.RW_firstfuse_k01_ways_and_what_is_behind
set_option Elab.async false
set_option linter.all false
set_option maxRecDepth 100000
namespace FF
open PySem PySem.Spec PyProof.Rows L2
open AutoSeq1 (wpAny_loadPart')

/-! ### enumerate over a tuple -/
section
variable {P : Program} {w : World} {A : Around} {E : Value → Shared → Prop} {s : Shared}
theorem nextTupItem {j t : Addr} {i : Nat} {vs : Array Value} {x : Value} {Q : Value → Shared → Prop} (hj : s.heap.IsTupleIter j t i) (ht : s.heap.IsTuple t vs) (hx : vs[i]? = some x)
    (k : ∀ h', h'.IsTupleIter j t (i + 1) → Heap.SameBut j s.heap h' → Q x { s with heap := h' }) : wpAny (model P w) A (Builtin.SmallTypes.nextOf (.ref j)) Q E s := by
  obtain ⟨oj, gj, cj, dj⟩ := id hj
  obtain ⟨ot, gt, _, nt, dt⟩ := ht
  unfold Builtin.SmallTypes.nextOf
  refine wpAny_bind (wpAny_callSpecial?_slot (name := Str.ofString "__next__") hj.typeIs F.slot_tuple_iterator_next
    (wpAny_call_entry F.slot_tuple_iterator_next hj.typeIs F.entry_tuple_iterator_next ?_ (F.args_tuple_iterator_next_1 _)))
  show wpAny _ _ (field (.ref j) 0 >>= _) _ _ s
  refine wpAny_bind (wpAny_field gj dj (x := .ref t) rfl ?_)
  show wpAny _ _ (if (Value.ref t == Value.none) = true then _ else _) _ _ s
  rw [if_neg (by exact Bool.false_ne_true)]
  show wpAny _ _ (field (.ref j) 1 >>= _) _ _ s
  refine wpAny_bind (wpAny_field gj dj (x := .int i 0) rfl ?_)
  show wpAny _ _ (seqItems? (.ref t) >>= _) _ _ s
  refine wpAny_bind (wpAny_seqItems gt dt ?_)
  simp only [Int.toNat_natCast, hx]
  refine wpAny_bind (wpAny_setField gj dj (by simp) (wpAny_pure ⟨x, rfl, wpAny_pure (k _ ?_ (Heap.SameBut.update ..))⟩))
  exact ⟨_, Heap.get?_update_self _ gj (Obj.isFreed_of_fields (Obj.data_mapFields dj _)), (Obj.cls_mapFields ..).trans cj, by
    rw [Obj.data_mapFields dj]; simp [rawInt]⟩
theorem nextTupEnd {j t : Addr} {i : Nat} {vs : Array Value} {Q : Value → Shared → Prop} (hnd : A.handled = none) (hj : s.heap.IsTupleIter j t i) (ht : s.heap.IsTuple t vs) (hx : vs[i]? = none)
    (k : ∀ h' e, Heap.ExtBut j s.heap h' → (∃ o, h'.get? e = some o ∧ o.cls = .type "StopIteration") → E (.ref e) { s with heap := h' }) : wpAny (model P w) A (Builtin.SmallTypes.nextOf (.ref j)) Q E s := by
  obtain ⟨oj, gj, cj, dj⟩ := id hj
  obtain ⟨ot, gt, _, nt, dt⟩ := ht
  unfold Builtin.SmallTypes.nextOf
  refine wpAny_bind (wpAny_callSpecial?_slot (name := Str.ofString "__next__") hj.typeIs F.slot_tuple_iterator_next
    (wpAny_call_entry F.slot_tuple_iterator_next hj.typeIs F.entry_tuple_iterator_next ?_ (F.args_tuple_iterator_next_1 _)))
  show wpAny _ _ (field (.ref j) 0 >>= _) _ _ s
  refine wpAny_bind (wpAny_field gj dj (x := .ref t) rfl ?_)
  show wpAny _ _ (if (Value.ref t == Value.none) = true then _ else _) _ _ s
  rw [if_neg (by exact Bool.false_ne_true)]
  show wpAny _ _ (field (.ref j) 1 >>= _) _ _ s
  refine wpAny_bind (wpAny_field gj dj (x := .int i 0) rfl ?_)
  show wpAny _ _ (seqItems? (.ref t) >>= _) _ _ s
  refine wpAny_bind (wpAny_seqItems gt dt ?_)
  simp only [Int.toNat_natCast, hx]
  refine wpAny_bind (wpAny_rule (wpAny_bind (wpAny_setField gj dj (by simp) ?_)))
  show wpAny _ _ (newExc (.type "StopIteration") [] >>= _) _ _ _
  refine wpAny_bind (?_ : wpAny _ _ (newExc _ _) _ _ _)
  simp only [newExc, newTuple]
  refine wpAny_bind (wpAny_newObj_type ?_ (by (size_fits)))
  refine wpAny_bind (m := firstArgMember _ _) (wpAny_of_eq (a := Value.none) (by first | rfl | (simp only [firstArgMember] <;> rfl)) ?_)
  refine wpAny_newObj_type (?_ : _) (by (size_fits))
  simp only [raiseNew]
  refine wpAny_bind (wpAny_handled (?_ : _))
  first | rw [show A.in1.handled = none from hnd] | rw [hnd]
  refine wpAny_bind (wpAny_pure (wpAny_throw (?_ : _)))
  exact k _ _ (((Heap.SameBut.update ..).extBut.push _).push _) ⟨_, Heap.get?_push_size _ rfl, rfl⟩
end
theorem drawsTuple {P : Program} {w : World} {A : Around} (hnd : A.handled = none) (j t : Addr) (ne : t ≠ j) (vs : Array Value) :
    Draws P w A j [j, t] vs.size (fun i v => vs[i]? = some v) (fun i h => h.IsTupleIter j t i ∧ h.IsTuple t vs) where
  live := fun _ _ q => let ⟨o, g, _⟩ := q.1; ⟨o, g⟩
  frame := fun _ _ _ q f => by
    obtain ⟨⟨o, g, r⟩, ⟨o', g', r'⟩⟩ := q
    exact ⟨⟨o, f j (by simp) o g, r⟩, ⟨o', f t (by simp) o' g', r'⟩⟩
  item := fun i s Q E hi q k => by
    refine nextTupItem q.1 q.2 (x := vs[i]) (by simp [hi]) fun h' q' sb => ?_
    exact k _ h' s.toks (by simp [hi]) ⟨q', q.2.extBut sb.extBut ne⟩ sb
  done := fun s Q E q k => nextTupEnd hnd q.1 q.2 (by simp) k

theorem meetsEnumT (l : Addr) (vs : Array Value) (ob : Obj) (n : Nat) (hc : ob.cls = .type "tuple") (hd : ob.data = .seq vs n) :
    Meets (Builtin.«enumerate.__new__» ⟨[.type "enumerate", .ref l], []⟩) (fun _ R s => s.heap.get? l = some ob ∧
      R (.ok (.ret (.ref (s.heap.push { cls := .type "tuple_iterator", data := .fields #[.ref l, .int 0 0] }).objs.size)))
        { s with heap := (s.heap.push { cls := .type "tuple_iterator", data := .fields #[.ref l, .int 0 0] }).push { cls := .type "enumerate", data := .fields #[.none, .bool false, .ref s.heap.objs.size, rawInt 0, .none, .none] } }) :=
  .of_wp fun prog w A R s h => by
    obtain ⟨cc, dct, dd, sl⟩ := ob
    replace hc : cc = .type "tuple" := hc
    replace hd : dd = .seq vs n := hd
    subst hc hd
    obtain ⟨hp, g, d, tk, os⟩ := s
    obtain ⟨hl, h⟩ := h
    have sub := sub_enumerate
    have isT : Heap.IsTuple (Shared.heap ⟨hp, g, d, tk, os⟩) l vs := ⟨_, hl, rfl, n, rfl⟩
    wp_walk using wpAny_loadPart' hl
    refine wpAny_stack_any fun st => wpAny_pure (?_ : _)
    split
    · rename_i c _ _ _ _ _
      cases (c == Value.type "enumerate")
      · wp_walk using wpAny_loadPart' hl, wpAny_pyIter_tuple isT
        exact ⟨_, rfl, h⟩
      · wp_walk using wpAny_loadPart' hl, wpAny_pyIter_tuple isT
        exact ⟨_, rfl, h⟩
    · wp_walk using wpAny_loadPart' hl, wpAny_pyIter_tuple isT
      exact ⟨_, rfl, h⟩
section
variable {P : Program} {w : World} {A : Around} {E : Value → Shared → Prop} {s : Shared}
theorem callEnumT {l : Addr} {vs : Array Value} {Q : Value → Shared → Prop} (isT : s.heap.IsTuple l vs)
    (k : ∀ h', IsEnum h' (s.heap.objs.size + 1) s.heap.objs.size 0 .none → h'.IsTupleIter s.heap.objs.size l 0 →
      (∀ b o, s.heap.get? b = some o → h'.get? b = some o) → Q (.ref (s.heap.objs.size + 1)) { s with heap := h' }) :
    wpAny (model P w) A (call (.type "enumerate") [.ref l]) Q E s := by
  obtain ⟨ob, hl, hc, n, hd⟩ := isT
  refine callType_new F.called_enumerate (by decide) (F.typeCall_enumerate_1 _) (F.newCall_enumerate_1 _) (fun x => F.args_object_init_2 x _) F.entry_enumerate_new
    (meetsEnumT l vs ob n hc hd) ⟨hl, ?_⟩
  have hz : (s.heap.push { cls := .type "tuple_iterator", data := .fields #[.ref l, .int 0 0] }).objs.size = s.heap.objs.size + 1 := Heap.size_push ..
  show _ ∧ _
  rw [hz]
  have he : IsEnum ((s.heap.push { cls := .type "tuple_iterator", data := .fields #[.ref l, .int 0 0] }).push
      { cls := .type "enumerate", data := .fields #[.none, .bool false, .ref s.heap.objs.size, rawInt 0, .none, .none] }) (s.heap.objs.size + 1) s.heap.objs.size 0 .none := by
    have q := Heap.get?_push_size (s.heap.push { cls := .type "tuple_iterator", data := .fields #[.ref l, .int 0 0] })
      (o := { cls := .type "enumerate", data := .fields #[.none, .bool false, .ref s.heap.objs.size, rawInt 0, .none, .none] }) rfl
    rw [hz] at q
    exact q
  exact ⟨⟨_, he, rfl⟩, k _ he ⟨_, Heap.get?_push_of_some _ (Heap.get?_push_size _ rfl), rfl, rfl⟩ fun b o q => Heap.get?_push_of_some _ (Heap.get?_push_of_some _ q)⟩
end
/-- the tuple at a, each item in a new pair behind its number -/
def ItE (K : PySem.W.Frag) (a : Addr) : It where
  go := fun i H => ∃ (xs : List V) (x : V), SqT K H a xs ∧ xs[i]? = some x
  yld := fun i H v H' => ∃ T x, v = .ref T ∧ H T = none ∧ H' = upd H T (.tup [.int (i : Nat), x]) ∧ ∀ xs, SqT K H a xs → xs[i]? = some x
  stop := fun i H => ∃ xs : List V, SqT K H a xs ∧ xs.length ≤ i
theorem turnEnumT {P : Program} {w : World} {K : PySem.W.Frag} {elts : List Expr} {kk : Nat} {tp : Pos} (a e j : Addr) :
    Turn P w K (.Tuple elts kk tp) (ItE K a) [e, j] e (fun i h => (∃ old, IsEnum h e j ((i : Nat) : Int) old) ∧ h.IsTupleIter j a i ∧ e ≠ j ∧ a ≠ j ∧ a ≠ e) where
  mem := by simp
  obj := fun i h q b hb => by
    obtain ⟨⟨old, he⟩, ⟨o, ho, hc, hd⟩, _⟩ := q
    have eb : b = e ∨ b = j := by simpa using hb
    rcases eb with z | z
    · rw [z]; exact ⟨_, he, fun v y => nomatch y⟩
    · rw [z]; exact ⟨o, ho, fun v y => by rw [hd] at y; cases y⟩
  keep := fun i h h' q f => by
    obtain ⟨⟨old, he⟩, ⟨o, ho, r⟩, n⟩ := q
    exact ⟨⟨old, f e (by simp) _ he⟩, ⟨o, f j (by simp) _ ho, r⟩, n⟩
  item := by
    intro X hP hw hK hc i pins s σ H E I hf q hg
    subst hP hw hK
    obtain ⟨⟨old, he⟩, hj, n1, n2, n3⟩ := q
    obtain ⟨xs, x, hs, hx⟩ := hg
    obtain ⟨its, rv, p, hz⟩ := I.tuple hs
    obtain ⟨u, hu, ru⟩ := rv.get hx
    have hil : i < its.toArray.size := by
      have := (List.getElem?_eq_some_iff.mp hu).1
      simpa using this
    have D := drawsTuple (P := X.prog) (w := X.w) (A := X.A.in1) (I.ok.hd hc) j a n2 its.toArray
    have nfp : e ∉ [j, a] := by
      simp only [List.mem_cons, List.not_mem_nil, or_false, not_or]
      exact ⟨n1, fun z => n3 z.symm⟩
    refine wpAny_pyNext_enum_itemD D he ⟨hj, p⟩ hil n1 nfp fun y h' tk hy ho hst hT hsz hk => ?_
    have ey : y = u := by
      have z : its[i]? = some y := by simpa using hy
      exact Option.some.inj (z.symm.trans hu)
    subst ey
    refine ⟨_, rfl, wpAny_letOwnedTupleGo_enum (s := { s with heap := h', toks := tk + 1 }) ho fun h'' he' sb => ?_⟩
    have hel : e < s.heap.objs.size := Heap.lt_size he
    have hjl : j < s.heap.objs.size := by obtain ⟨_, z, _⟩ := hj; exact Heap.lt_size z
    have hT2 : h''.get? s.heap.objs.size = some { cls := .type "tuple", data := .seq #[.int i tk, y] } := (sb.2 _ (Nat.ne_of_gt hel)).trans hT
    have new : ObjOk X.prog X.w (upd H s.heap.objs.size (.tup [.int (i : Nat), x])) h'' s.heap.objs.size (.tup [.int (i : Nat), x]) :=
      ⟨by show 2 ≤ sizeLine; decide, [.int i tk, y], .cons ⟨_, rfl⟩ (.cons ru .nil), ⟨_, hT2, rfl, _, rfl⟩⟩
    have I1 : Inv X pins σ (upd H s.heap.objs.size (.tup [.int (i : Nat), x])) { s with heap := h'', toks := tk + 1 } :=
      I.turnedNew (ch := [e, j]) (fun b ob hb z => (sb.2 b (fun y => hb (by simp [y]))).trans (hk b ob (fun y => hb (by simp [y])) (fun y => hb (by simp [y])) z)) hf (Nat.le_refl _) new
    obtain ⟨oj, gj, rj⟩ := hst.1
    refine ⟨.ref s.heap.objs.size, _, I1, rfl, ⟨_, x, rfl, I.hok.fresh (Nat.le_refl _), rfl, fun ys hy => by rw [I.tuple_inj hy hs]; exact hx⟩, ⟨⟨y, ?_⟩, ⟨oj, (sb.2 j (Ne.symm n1)).trans gj, rj⟩, n1, n2, n3⟩, fun b hb => ?_⟩
    · have e1 : ((i + 1 : Nat) : Int) = (i : Int) + 1 := by omega
      rw [e1]
      exact he'
    · have hb' : b < s.heap.objs.size := by
        have eb : b = e ∨ b = j := by simpa using hb
        rcases eb with z | z
        · rw [z]; exact hel
        · rw [z]; exact hjl
      rw [upd_ne (Nat.ne_of_lt hb')]
      exact (hf b hb).1
  done := by
    intro X hP hw hK hc i pins s σ H E I hf q hg
    subst hP hw hK
    obtain ⟨⟨old, he⟩, hj, n1, n2, n3⟩ := q
    obtain ⟨xs, hs, hx⟩ := hg
    obtain ⟨its, rv, p, hz⟩ := I.tuple hs
    obtain ⟨f0, f1, f2, f3, f4, f5⟩ := hf j (by simp)
    have hl := rv.length
    have hT : s.TypeIs (.ref e) "enumerate" := ⟨_, he, rfl⟩
    unfold pyNext
    refine wpAny_bind (wpAny_attempt (wpAny_callSpecial?_slot (name := Str.ofString "__next__") hT F.slot_enumerate_next
      (wpAny_call_entry F.slot_enumerate_next hT F.entry_enumerate_next (?_ : _) (F.args_enumerate_next_1 _))))
    show wpAny _ _ (field (.ref e) 2 >>= _) _ _ _
    refine wpAny_bind (wpAny_field he rfl (x := .ref j) rfl (?_ : _))
    refine wpAny_bind (nextTupEnd (I.ok.hd hc) hj p (by simp; omega) fun h' x eb hx' => ?_)
    obtain ⟨o, ho, hoc⟩ := hx'
    refine wpAny_bind (wpAny_isInstance (T := "StopIteration") (b := true) ⟨o, ho, hoc⟩ isSubtype_stop (?_ : _))
    exact wpAny_pure ⟨rfl, I.turned (t' := s.toks) (fun b o hb q => eb b o hb q) f0 f1 f3 f4 f5⟩
  self := fun A i s Q E q h => let ⟨⟨_, he⟩, _⟩ := q; wpAny_pyIter_enum he h
def iEnT (K : PySem.W.Frag) (ta : TA) : TI := fun σ H R => ta σ H fun vs H1 => ∃ a xs, vs = [.ref a] ∧ SqT K H1 a xs ∧ R (ItE K a) H1
theorem pi_enT {X : Cx} {e : Expr} {ta : TA} {p pos tp : Pos} {elts : List Expr} {kk : Nat} (hg : Gl X "enumerate") (hm : X.mg "enumerate" = none) (ha : PA X [e] ta) (hs : starEach [e] X.env = [(false, eval e X.env)] := by rfl) :
    PI X (.Tuple elts kk tp) (.Call (.Name "enumerate" p) [e] [] pos) (iEnT X.K ta) := by
  refine ⟨fun pins s σ H R I h => Call_ (ld_blt I hg hm boot_enumerate (PyProof.Rows.callWith_type1 (thn (ha.run pos pins s σ H _ I h) fun us s1 ⟨vs, H1, I1, r1, q1⟩ => ?_) hs rfl))⟩
  obtain ⟨a, xs, ex, hq, q⟩ := q1
  subst ex
  cases r1 with
  | cons r rr =>
    cases rr
    cases r
    obtain ⟨its, rv, tp', hz⟩ := I1.tuple hq
    have hal : a < s1.heap.objs.size := by obtain ⟨_, z, _⟩ := tp'; exact Heap.lt_size z
    refine callEnumT (show s1.heap.IsTuple a its.toArray from tp') fun h' he hit hk => wpAny_pyIter_enum he (?_ : _)
    have I2 : Inv X pins σ H1 { s1 with heap := h' } := I1.kept (t' := s1.toks) hk
    refine ⟨s1.heap.objs.size + 1, [s1.heap.objs.size + 1, s1.heap.objs.size], _, _, H1, rfl, I2, turnEnumT a (s1.heap.objs.size + 1) s1.heap.objs.size, ⟨⟨.none, he⟩, hit, Nat.succ_ne_self _, Nat.ne_of_lt hal, Nat.ne_of_lt (Nat.lt_succ_of_lt hal)⟩, fun b hb => ?_, q⟩
    have eb : b = s1.heap.objs.size + 1 ∨ b = s1.heap.objs.size := by simpa using hb
    have hle : s1.heap.objs.size ≤ b := by
      rcases eb with z | z
      · rw [z]; exact Nat.le_succ _
      · rw [z]; exact Nat.le_refl _
    exact I1.fpOk hle (I1.hok.fresh hle)
end FF
namespace FF
open PySem PySem.Spec PyProof.Rows L2

/-! ### what can be shown by repr -/
structure Sw (W k : Nat) (d : PyData) : Prop where
  sh : d.showable = true
  lf : d.leavesShort 13 = true
  wt : d.weight ≤ W
  dp : d.depth ≤ k
  nd : d.hasDict = false
structure SwA (W k : Nat) (ds : List PyData) : Prop where
  sh : PyData.showableAll ds = true
  lf : PyData.leavesShortAll 13 ds = true
  wt : PyData.weightAll ds ≤ W
  dp : PyData.depthAll ds ≤ k
  nd : PyData.hasDictAll ds = false
theorem Sw.mono {W k W' k' : Nat} {d : PyData} (h : Sw W k d) (h1 : W ≤ W') (h2 : k ≤ k') : Sw W' k' d := ⟨h.sh, h.lf, Nat.le_trans h.wt h1, Nat.le_trans h.dp h2, h.nd⟩
theorem SwA.nil {k : Nat} : SwA 0 k [] := ⟨rfl, rfl, Nat.le_refl _, Nat.zero_le _, rfl⟩
theorem SwA.cons {W V k : Nat} {d : PyData} {ds : List PyData} (h : Sw W k d) (t : SwA V k ds) : SwA (W + 1 + V) k (d :: ds) := by
  refine ⟨?_, ?_, ?_, ?_, ?_⟩
  · simp only [PyData.showableAll, h.sh, t.sh, Bool.and_self]
  · simp only [PyData.leavesShortAll, h.lf, t.lf, Bool.and_self]
  · have a := h.wt
    have b := t.wt
    simp only [PyData.weightAll]
    omega
  · simp only [PyData.depthAll]
    exact Nat.max_le.mpr ⟨h.dp, t.dp⟩
  · simp only [PyData.hasDictAll, h.nd, t.nd, Bool.or_self]
theorem SwA.all {W k : Nat} : ∀ {ds : List PyData}, (∀ d ∈ ds, Sw W k d) → SwA ((W + 1) * ds.length) k ds
  | [], _ => by simpa using (SwA.nil (k := k))
  | d :: ds, h => by
    have t := SwA.cons (h d (List.mem_cons_self ..)) (SwA.all (ds := ds) fun x hx => h x (List.mem_cons_of_mem _ hx))
    have e : W + 1 + (W + 1) * ds.length = (W + 1) * (d :: ds).length := by
      rw [List.length_cons, Nat.mul_add, Nat.mul_one, Nat.add_comm]
    rw [e] at t
    exact t
theorem Sw.tup {W k : Nat} {ds : List PyData} (h : SwA W k ds) : Sw W (k + 1) (.tuple ds) := by
  refine ⟨?_, ?_, ?_, ?_, ?_⟩
  · simp only [PyData.showable, h.sh]
  · simp only [PyData.leavesShort, h.lf]
  · simp only [PyData.weight]; exact h.wt
  · simp only [PyData.depth]; have := h.dp; omega
  · simp only [PyData.hasDict, h.nd]
theorem Sw.lst {W k : Nat} {ds : List PyData} (h : SwA W k ds) : Sw W (k + 1) (.list ds) := by
  refine ⟨?_, ?_, ?_, ?_, ?_⟩
  · simp only [PyData.showable, h.sh]
  · simp only [PyData.leavesShort, h.lf]
  · simp only [PyData.weight]; exact h.wt
  · simp only [PyData.depth]; have := h.dp; omega
  · simp only [PyData.hasDict, h.nd]
theorem log2_lt_of {n k : Nat} (hk : 0 < k) (h : n < 2 ^ k) : n.log2 < k := by
  by_cases e : n = 0
  · subst e
    simpa using hk
  · exact (Nat.log2_lt e).mpr h
theorem Sw.int {k : Nat} {i : Int} (h : i.natAbs < 2 ^ 30) : Sw 30 k (.int i) := by
  have hl : i.natAbs.log2 < 30 := log2_lt_of (by decide) h
  refine ⟨?_, ?_, ?_, Nat.zero_le _, rfl⟩
  · simp only [PyData.showable, decide_eq_true_eq]
    omega
  · simp only [PyData.leavesShort, decide_eq_true_eq]
    show (Str.ofString (toString i)).length ≤ 13
    rw [PySem.ofString_length]
    have h2 : i.natAbs < 10 ^ 12 := Nat.lt_trans h (by decide)
    exact int_text_length_le10 (k := 12) (by decide) h2
  · simp only [PyData.weight]
    split
    · exact Nat.zero_le _
    · omega
theorem Sw.fits {W k : Nat} {d : PyData} (h : Sw W k d) (hW : W ≤ 1000000) : d.shown.length ≤ sizeLine := by
  refine PyData.shown_fits (B := 13) (by decide) (by decide) h.lf (Nat.le_trans h.wt (Nat.le_trans hW ?_))
  decide

/-- repr of a list or a tuple, read as data -/
def rRepr (K : PySem.W.Frag) : List V → Hp → VK → Prop := fun xs H Q => ∃ a d, xs = [.ref a] ∧ Dp K H (.ref a) d ∧ Sw 1000000 60 d ∧ Q (.str d.shown) H
theorem callRepr {X : Cx} (hg : X.A.guards = some []) (hu : X.A.units + 64 < cLine) : CallR X (.builtin "repr") (rRepr X.K) := by
  intro pins s σ H xs us Q I r h
  obtain ⟨a, d, rfl, hd, hs, q⟩ := h
  cases r with
  | cons r1 r2 =>
    cases r2
    cases r1
    obtain ⟨as, rd⟩ := Dp.reads I d (.ref a) _ hd rfl
    have hdp := hs.dp
    refine repr_of_reads' rd hs.sh (fun z => by rw [hs.nd] at z; cases z) hg (by omega) (fun _ _ e => e) (fun h' u tk hk => ?_) (hs.fits (Nat.le_refl _))
    exact ⟨.str d.shown, H, I.kept hk, ⟨_, rfl⟩, q⟩

/-! ### the law's own call: nothing runs around it -/
/-- the body of the law, the script's list at hand; no repr is running around it -/
def BodyOk (P : Program) (w : World) (K : PySem.W.Frag) (mg : Str → Option Value) (base : Heap) (k : Nat) (N : List Str) (st : Stmt) (f : Addr) : Prop :=
  ∀ (cdv : Value) (A : Around) (outer : List Env) (s : Shared) (H : Hp) (a : Addr) (ns : List Int), A.guards = some [] → Room k (A.deeper (envOfC "law" (defScope st) s.heap.objs.size f cdv)) →
    SqL K H a (ns.map V.int) → ns.length ≤ 63 → ∃ t, PSs (cxOf CX0 P w K mg base N "law" (defScope st) f cdv A outer s H E0).nox (defBody st) t ∧ t { nx := fun _ _ => False, rt := fun v _ => v = .bl true } (start N [.ref a]) H
theorem lawRuns {P : Program} {w : World} {K : PySem.W.Frag} {mg : Str → Option Value} {base : Heap} {k : Nat} {N : List Str} {x : Str} {st : Stmt} {f a : Addr} {fd : FuncData} {s : Shared} {H : Hp} {ns : List Int}
    (F : Fun K "law" "law" st f fd) (S : FnScope N [x] (defScope st)) (hb : BodyOk P w K mg base k N st f) (bind : ∀ (s : Shared) (u : Value), BindsTo s fd ⟨[u], []⟩ [(x, u)]) (hr : Room (k + 1) callerA)
    (e0 : Env0 P w K mg base callerA [] s H) (hS : SqL K H a (ns.map V.int)) (hl : ns.length ≤ 63) :
    codeAny (model P w) callerA (.call (.ref f) ⟨[.ref a], []⟩) (CR CX0 [] P w H s (fun v _ => v = .bl true) E0) s := by
  obtain ⟨oc, od, kV, doc, pm, an, cdv, ct, osl, rfl, lk, hcd⟩ := F.ex
  have hK : K.In s.heap := e0.mod.kin.keeps fun b o z => (e0.bs b o z).1
  have nolim : s.heap.NoLimit := e0.mod.nolimit.keeps fun b o z => (e0.bs b o z).1
  have r : Vals [V.ref a] [Value.ref a] := .cons rfl .nil
  have kinds : ∀ y ∈ [x].zip [Value.ref a], (defScope st).names.lookup y.1 = some .local ∨ ((defScope st).names.lookup y.1 = some .cell ∧ ((cellsFrom (s.heap.objs.size + 1) (defScope st).names []).lookup y.1).isSome = true) := by
    rintro ⟨n, v⟩ hy
    rcases S.par n (List.of_mem_zip hy).1 with z | z
    · exact Or.inl z
    · exact Or.inr ⟨z, PySem.W.cellsFrom_some _ _ _ (Or.inl z)⟩
  refine codeAny_call_function hr.depth (hK _ _ lk) rfl S.co S.gen rfl (PySem.W.codeRec_of hK hcd) (bind s (.ref a) _ _ _ _ ?_)
  refine wpAny_newFunctionEnv_cells S.kind kinds fun env he s1 ic => ?_
  subst he
  refine ⟨nolim.keeps ic.toInCall.keep, codeAny_func (?_ : _)⟩
  obtain ⟨t, ht, hq⟩ := hb cdv callerA [] s H a ns rfl (hr.deeper _) hS hl
  have I := inv_start (CX := CX0) (E := E0) (cd := cdv) S hr.hd e0 rfl r ic
  refine wpAny_mono (ht.nox.run [] s1 _ H _ I hq) (fun fl s' hs => ?_) fun _ _ z => z
  cases fl with
  | ret u =>
    obtain ⟨v, σ', H', J, rv, q⟩ := hs
    exact ⟨v, H', J.os, J.bare, J.base, J.hok, rv, q⟩
  | next => obtain ⟨_, _, _, z⟩ := hs; exact False.elim z
  | brk => obtain ⟨_, _, _, z⟩ := hs; exact False.elim z
  | cont => obtain ⟨_, _, _, z⟩ := hs; exact False.elim z

/-- from an abstract heap that tracks at most the script -/
theorem lawCore {P : Program} {w : World} {K : PySem.W.Frag} {mg mb : Str → Option Value} {k : Nat} {N : List Str} {x : Str} {st : Stmt} {f a : Addr} {fd : FuncData} {s₁ : Shared} {vs : List Value} {ns : List Int} {H : Hp}
    (KX : K.In s₁.heap) (hns : s₁.heap.Ns mainGlobals mg) (hbn : s₁.heap.Ns builtinsNs mb) (hbb : ∀ x : Str, x ≠ "__name__" → mb x = bootBuiltins x) (hlim : s₁.heap.NoLimit) (hg : s₁.gens = #[])
    (ha : s₁.heap.get? a = some { cls := .type "list", data := .seq vs.toArray }) (hl : ns.length ≤ 63) (hr : Room (k + 1) callerA)
    (F : Fun K "law" "law" st f fd) (S : FnScope N [x] (defScope st)) (hb : ∀ base : Heap, K.In base → base.Ns mainGlobals mg → BodyOk P w K mg base k N st f) (bind : ∀ (s : Shared) (u : Value), BindsTo s fd ⟨[u], []⟩ [(x, u)])
    (hO : ∀ b, H b = none ∨ ∃ o xs, H b = some (.frz o (.lst xs))) (hS : SqL K H a (ns.map V.int)) (hok : HOk P w H s₁.heap) (hA : ∀ b, H b ≠ none → b = a) (hK : H a ≠ none → K.lookup a = none) :
    codeAny (model P w) callerA (.call (.ref f) ⟨[.ref a], []⟩) (fun r s' => r = .ok (.ret (.bool true)) ∧ OldK s₁.heap s'.heap ∧ s'.os = s₁.os ∧ AllBare s'.gens) s₁ := by
  have put : ∀ {b : Addr} {o : Obj}, s₁.heap.get? b = some o → H b = none → (hidT s₁.heap H).get? b = some o := fun e n => hidT_get e n
  have free : ∀ {b : Addr}, b ≠ a → H b = none := fun {b} n => by
    cases q : H b with
    | none => rfl
    | some u => exact absurd (hA b (by rw [q]; exact fun z => nomatch z)) n
  have nsk : ∀ {b : Addr} {m : Str → Option Value}, s₁.heap.Ns b m → (hidT s₁.heap H).Ns b m := by
    rintro b m ⟨o, es, ep, e, d, r⟩
    refine ⟨o, es, ep, put e (free fun z => ?_), d, r⟩
    subst z
    rw [ha] at e
    cases e
    have d' : Data.seq vs.toArray _ = Data.dict es ep := d
    cases d'
  have kb : K.In (hidT s₁.heap H) := fun b o e => put (KX b o e) (by
    cases q : H b with
    | none => rfl
    | some u =>
      have nn : H b ≠ none := by rw [q]; exact fun z => nomatch z
      have eb : b = a := hA b nn
      rw [eb] at nn e
      rw [hK nn] at e
      cases e)
  have md : Mod K mg (hidT s₁.heap H) := ⟨kb, nsk hns, ⟨mb, nsk hbn, hbb⟩, let ⟨mc, h1, h2⟩ := hlim; ⟨mc, nsk h1, h2⟩⟩
  have e0 : Env0 P w K mg (hidT s₁.heap H) callerA [] s₁ H :=
    { frames := rfl, mod := md, bs := fun b o e => of_hidT e, bsz := Nat.le_of_eq (hidT_size _ _), funs := trivial, frf := fun b z => absurd (show b ∈ ([] : List Addr) from z) (by simp), hok := hok, bare := .of_eq hg }
  refine codeAny_mono (lawRuns F S (hb _ kb (nsk hns)) bind hr e0 hS hl) fun r s' h => ?_
  cases r with
  | error e => exact False.elim h
  | ok fl =>
    cases fl with
    | next => exact False.elim h
    | brk => exact False.elim h
    | cont => exact False.elim h
    | ret u =>
      obtain ⟨v, H', hos, bare, un, hok', r', q⟩ := h
      have q' : v = .bl true := q
      subst q'
      obtain rfl : u = Value.bool true := r'
      refine ⟨rfl, OldK.of_keep fun b o e => ?_, hos, bare⟩
      rcases hO b with z | ⟨ob, xs, z⟩
      · exact un.keep b o e z (fun y => absurd (show b ∈ ([] : List Addr) from y) (by simp)) (by simp)
      · obtain ⟨e1, _⟩ := hok b _ z
        obtain ⟨e2, _⟩ := hok' b _ (un.frzs b ob _ z)
        rw [e] at e1
        cases e1
        exact e2
theorem lawWalk {l : PySem.W.OpenLaw} {k : Nat} {q : Program} {loose : List Str} {XP : (Str → Option Value) → Heap → Prop} {YP : World → Heap → Prop} {d : DefRec} {K : Params → PySem.W.Frag} {N : List Str} {x : Str} {st : Stmt}
    (hn : l.most = some 63) (hdf : d.params.defaults = []) (hr : Room (k + 1) callerA) (S : FnScope N [x] (defScope st))
    (hY : ∀ (w : World) (h : Heap), YP w h → (K w.params).In h)
    (F : ∀ (w : World) (mg : Str → Option Value) (fa : Addr) (h : Heap), (K w.params).In h → h.Ns mainGlobals mg → mg d.name = some (.ref fa) →
      ∃ fd : FuncData, Fun (K w.params) "law" "law" st fa fd ∧ (∀ (s : Shared) (u : Value), BindsTo s fd ⟨[u], []⟩ [(x, u)]) ∧
        ∀ base : Heap, (K w.params).In base → base.Ns mainGlobals mg → BodyOk l.prog w (K w.params) mg base k N st fa) :
    PySem.W.WalkO q loose XP YP l.row.toRowW d [] (fun f vs => PySem.call f vs) := by
  refine Att.attach_call hn hdf fun w s₀ s₁ mg mb fa o pm cd doc a vs ns G Y ho hd hcd hmg hobj hints hlen hg => ?_
  have KX := hY w _ Y
  obtain ⟨fd, hF, hb, hbody⟩ := F w mg fa _ KX G.T.g hmg
  have rv := vals_ints hints
  have hlv := hints.length
  have sz : ns.length ≤ sizeLine := Nat.le_trans hlen (by decide)
  have go := fun (H : Hp) => lawCore (H := H) KX G.T.g G.T.b G.T.builtins G.T.nolimit hg hobj hlen hr hF S hbody hb
  cases hk : (K w.params).lookup a with
  | some oa =>
    have e := KX a oa hk
    rw [hobj] at e
    cases e
    refine go (fun _ => none) (fun _ => Or.inl rfl) (Or.inr ⟨_, vs.toArray, _, hk, rfl, rfl, rfl, ?_, by simpa using rv⟩) (fun b u z => ?_) (fun b z => absurd rfl z) fun z => absurd rfl z
    · rw [List.size_toArray, hlv]; exact sz
    · have z' : (none : Option HO) = some u := z
      cases z'
  | none =>
    let ob : Obj := { cls := .type "list", data := .seq vs.toArray }
    refine go (fun b => if b = a then some (.frz ob (.lst (ns.map V.int))) else none) (fun b => ?_) (Or.inl (Or.inr ⟨ob, if_pos rfl⟩)) (fun b u z => ?_) (fun b z => ?_) fun _ => hk
    · by_cases hba : b = a
      · exact Or.inr ⟨_, _, if_pos hba⟩
      · exact Or.inl (if_neg hba)
    · by_cases hba : b = a
      · have z' := (if_pos hba).symm.trans z
        cases z'
        subst hba
        exact ⟨hobj, by rw [List.length_map]; exact sz, vs, _, rv, hobj⟩
      · have z' := (if_neg hba).symm.trans z
        cases z'
    · by_cases hba : b = a
      · exact hba
      · exact absurd (if_neg hba) z
end FF
namespace FF
open PySem PySem.Spec PyProof.Rows L2
def topS (i : Nat) : Stmt := PySem.Challenge.pw_firstfuse_k01_ways_and_what_is_behind.main.body.getD i (.Pass ⟨0, 0, 0, 0⟩)
abbrev sWayOf : Stmt := topS 1
abbrev sFuses : Stmt := topS 2
abbrev sLamps : Stmt := topS 3
abbrev sDeck : Stmt := topS 5
abbrev sDraw : Stmt := topS 6
abbrev sPick : Stmt := topS 7
abbrev sWay : Stmt := topS 8
abbrev sBoard : Stmt := topS 9
abbrev sLaw : Stmt := topS 10
theorem scDeck : FnScope ["_law_script", "_law_cells", "_law_cell"] ["_law_script"] (defScope sDeck) := ⟨rfl, rfl, rfl, by decide +kernel, rfl, by decide +kernel, by decide +kernel⟩
theorem scDraw : FnScope ["_law_deck_here", "_law_bound", "_law_rest", "_law_cell", "_law_mixed"] ["_law_deck_here", "_law_bound"] (defScope sDraw) := ⟨rfl, rfl, rfl, by decide +kernel, rfl, by decide +kernel, by decide +kernel⟩
theorem scPick : FnScope ["_law_deck_here", "_law_items"] ["_law_deck_here", "_law_items"] (defScope sPick) := ⟨rfl, rfl, rfl, by decide +kernel, rfl, by decide +kernel, by decide +kernel⟩

/-! ### the deck: a list of the great cells' list, all cells' list, a count -/
structure Deck (D A B : Addr) (H : Hp) : Prop where
  it : ∃ (gs cs : List Int) (n : Int), H D = some (.lst [.ref A, .ref B, .int n]) ∧ H A = some (.lst (gs.map V.int)) ∧ H B = some (.lst (cs.map V.int)) ∧ cs ≠ [] ∧ gs.length ≤ 63
  da : D ≠ A
  db : D ≠ B
  ab : A ≠ B
/-- the heap without what a draw changes -/
def hid (D A : Addr) (H : Hp) : Hp := fun b => if b = D ∨ b = A then none else H b
theorem hid_of {D A b : Addr} {H : Hp} {o : HO} (h : H b = some o) (n1 : b ≠ D) (n2 : b ≠ A) : hid D A H b = some o := by
  unfold hid
  rw [if_neg (fun z => z.elim n1 n2)]
  exact h
theorem of_hid {D A b : Addr} {H : Hp} {o : HO} (h : hid D A H b = some o) : H b = some o ∧ b ≠ D ∧ b ≠ A := by
  unfold hid at h
  by_cases c : b = D ∨ b = A
  · rw [if_pos c] at h; cases h
  · rw [if_neg c] at h
    exact ⟨h, fun z => c (.inl z), fun z => c (.inr z)⟩
/-- all but the deck stands as it was -/
def Kp (D A : Addr) (H H' : Hp) : Prop := ∀ b o, H b = some o → b ≠ D → b ≠ A → H' b = some o
theorem Kp.refl {D A : Addr} {H : Hp} : Kp D A H H := fun _ _ h _ _ => h
theorem Kp.trans {D A : Addr} {H H1 H2 : Hp} (a : Kp D A H H1) (b : Kp D A H1 H2) : Kp D A H H2 := fun x o h n1 n2 => b x o (a x o h n1 n2) n1 n2
theorem Kp.of {D A : Addr} {H H1 : Hp} (a : Evl.Ex H H1) : Kp D A H H1 := fun x o h _ _ => a x o h
theorem Deck.ex {D A B : Addr} {H H1 : Hp} (d : Deck D A B H) (e : Evl.Ex H H1) : Deck D A B H1 := by
  obtain ⟨⟨gs, cs, n, h1, h2, h3, h4, h5⟩, a, b, c⟩ := d
  exact ⟨⟨gs, cs, n, e _ _ h1, e _ _ h2, e _ _ h3, h4, h5⟩, a, b, c⟩
theorem Deck.new {D A B p : Addr} {H : Hp} {o : HO} (d : Deck D A B H) (h : H p = none) : Deck D A B (upd H p o) := d.ex (Evl.Ex.new h)
theorem Deck.ne {D A B p : Addr} {H : Hp} (d : Deck D A B H) (h : H p = none) : p ≠ D ∧ p ≠ A ∧ p ≠ B := by
  obtain ⟨⟨gs, cs, n, h1, h2, h3, h4, h5⟩, a, b, c⟩ := d
  exact ⟨(ne_of_none h1 h).symm, (ne_of_none h2 h).symm, (ne_of_none h3 h).symm⟩
theorem Kp.new {D A p : Addr} {H : Hp} {o : HO} (h : H p = none) : Kp D A H (upd H p o) := Kp.of (Evl.Ex.new h)

theorem dpInts {K : PySem.W.Frag} {H : Hp} : ∀ ns : List Int, DpAll K H (ns.map V.int) (ns.map PyData.int)
  | [] => .nil
  | n :: r => .cons (.int n) (dpInts r)
theorem layInts : ∀ ns : List Int, PyData.canLayAll0 (ns.map PyData.int) = true
  | [] => rfl
  | n :: r => by
    rw [List.map_cons]
    simp only [PyData.canLayAll0, PyData.canLay0, layInts r, Bool.and_self]
theorem depInts : ∀ ns : List Int, PyData.depthAll (ns.map PyData.int) = 0
  | [] => rfl
  | n :: r => by
    rw [List.map_cons]
    simp only [PyData.depthAll, PyData.depth, depInts r, Nat.max_self]
theorem shapedInts (ns : List Int) : SeqAt.shaped (.list (ns.map PyData.int)) = true := by
  unfold SeqAt.shaped
  simp only [PyData.canLay0, layInts, PyData.depth, depInts]
  decide
theorem seqIx0 {n : Nat} (h : 0 < n) : seqIndex? 0 n = some 0 := by
  unfold seqIndex?
  simp [h]
theorem ixN0 {n : Nat} (h : 0 < n) : ixN n 0 = some 0 := Evl.ixN_nat h

/-! ### _law_draw -/
def spDraw : Sp := fun vs H Q _ => ∃ (D A B : Addr) (b : Int), vs = [.ref D, .int b] ∧ 1 ≤ b ∧ b < 1000000 ∧ Deck D A B H ∧
  ∀ r H', 0 ≤ r → r < b → Deck D A B H' → Kp D A H H' → Q (.int r) H'
section
variable {P : Program} {w : World} {K : PySem.W.Frag} {mg : Str → Option Value} {base : Heap}
theorem ok_draw {f : Addr} {fd : FuncData} {k : Nat} (F : Fun K "_law_draw" "_law_draw" sDraw f fd) (mi : mg "int" = none) (ml : mg "len" = none) : FnOk P w K mg base CX0 (k + 1) f fd ["_law_deck_here", "_law_bound"] spDraw := by
  refine F.ok scDraw (fun vs H Q E h => ?_) (fun cdv A outer s H vs Q E hr h => ?_)
  · obtain ⟨D, A, B, b, rfl, _⟩ := h
    rfl
  · obtain ⟨D, A, B, b, rfl, hb1, hb2, dk, q⟩ := h
    obtain ⟨⟨gs, cs, n, h1, h2, h3, h4, h5⟩, nda, ndb, nab⟩ := id dk
    refine ⟨_, pss_cons (ps_if (pt_cmpR (op_neD hr.units) (pe_ix ix_list (pv 0) pe_int (fun _ _ => rfl)) (pe_lst pa_nil) (nomark _))
        (pss_cons (ps_set (i := 2) scDraw.nd rfl (.inl rfl) (pe_ix ix_list (pe_ix ix_list (pv 0) pe_int (fun _ _ => rfl)) pe_int (fun _ _ => rfl)))
        (pss_cons (ps_asg (pe_op op_fdiv (pv 2) (pv 1)) (pg_sub (pe_ix ix_list (pv 0) pe_int (fun _ _ => rfl)) pe_int set_list))
        (pss_cons (ps_if (pt_cmpR op_eq (pe_ix ix_list (pe_ix ix_list (pv 0) pe_int (fun _ _ => rfl)) pe_int (fun _ _ => rfl)) pe_int (nomark _))
          (pss_one (ps_expr (pe_bm PySem.F.plainAttrs_list PySem.F.slot_list_pop PySem.F.type_list_pop mt_popAt (pe_ix ix_list (pv 0) pe_int (fun _ _ => rfl)) (pa_cons pe_int pa_nil)))) pss_nil)
        (pss_one (ps_ret (pe_op op_mod (pe_callTy call_int1 (by rfl) mi (by decide +kernel) (pa_cons (pv 2) pa_nil)) (pv 1)))))))
        pss_nil)
      (pss_cons (ps_asg (pe_op op_add (pe_ix ix_list (pv 0) pe_int (fun _ _ => rfl)) pe_int) (pg_sub (pv 0) pe_int set_list))
      (pss_cons (ps_set (i := 3) scDraw.nd rfl (.inl rfl) (pe_ix ix_list (pe_ix ix_list (pv 0) pe_int (fun _ _ => rfl))
          (pe_op op_mod (pe_callTy call_int1 (by rfl) mi (by decide +kernel) (pa_cons (pe_ix ix_list (pv 0) pe_int (fun _ _ => rfl)) pa_nil))
            (pe_callB call_len_seq (by rfl) ml PySem.boot_len (pa_cons (pe_ix ix_list (pv 0) pe_int (fun _ _ => rfl)) pa_nil))) (fun _ _ => rfl)))
      (pss_cons (ps_set (i := 4) scDraw.nd rfl (.inl rfl) (pe_op op_mod (pe_callTy call_int1 (by rfl) mi (by decide +kernel) (pa_cons
          (pe_op op_add (pe_op op_mod (pe_callTy call_int1 (by rfl) mi (by decide +kernel) (pa_cons (pv 3) pa_nil)) pe_int) (pe_op op_mul pe_int (pe_ix ix_list (pv 0) pe_int (fun _ _ => rfl)))) pa_nil)) pe_int))
      (pss_cons (ps_set (i := 4) scDraw.nd rfl (.inl rfl) (pe_op op_mod (pe_callTy call_int1 (by rfl) mi (by decide +kernel) (pa_cons
          (pe_op op_add (pe_op op_mul (pv 4) (pv 4)) (pe_op op_mul pe_int (pe_ix ix_list (pv 0) pe_int (fun _ _ => rfl)))) pa_nil)) pe_int))
      (pss_one (ps_ret (pe_op op_mod (pe_op op_fdiv (pe_op op_mod (pe_callTy call_int1 (by rfl) mi (by decide +kernel) (pa_cons (pe_op op_mul (pv 4) (pv 4)) pa_nil)) pe_int) pe_int) (pv 1)))))))), ?_⟩
    -- deck[0] != []
    have hD : SqL K H D [.ref A, .ref B, .int n] := SqL.of h1
    have hA : SqL K H A (gs.map V.int) := SqL.of h2
    refine ⟨.ref D, rfl, D, _, 0, _, rfl, rfl, hD, atI_nat (j := 0) rfl, Nat.zero_le _, fun p np => ?_⟩
    have dk1 := dk.new (o := .lst []) np
    obtain ⟨np1, np2, np3⟩ := dk.ne np
    have kp1 : Kp D A H (upd H p (.lst [])) := Kp.new np
    have g1 : upd H p (.lst []) D = some (.lst [.ref A, .ref B, .int n]) := by rw [upd_ne np1.symm]; exact h1
    have g2 : upd H p (.lst []) A = some (.lst (gs.map V.int)) := by rw [upd_ne np2.symm]; exact h2
    have g3 : upd H p (.lst []) B = some (.lst (cs.map V.int)) := by rw [upd_ne np3.symm]; exact h3
    have gp : upd H p (.lst []) p = some (.lst []) := upd_same
    generalize upd H p (.lst []) = H1 at dk1 kp1 g1 g2 g3 gp ⊢
    refine ⟨_, _, .lst (SqL.of g2) (dpInts gs), .lst (SqL.of gp) .nil, shapedInts gs, rfl, _, rfl, ?_⟩
    cases gs with
    | cons g gr =>
      have et : (!PyData.eqv (.list ((g :: gr).map PyData.int)) (.list [])) = true := rfl
      rw [et]
      refine iteT ?_
      -- rest = deck[0][0]; deck[0][0] = rest // bound
      refine ⟨.ref D, rfl, D, _, 0, _, rfl, rfl, SqL.of g1, atI_nat (j := 0) rfl, A, _, 0, .int g, rfl, rfl, SqL.of g2, atI_nat (j := 0) rfl, ?_⟩
      refine ⟨.int g, rfl, .int b, rfl, g, b, rfl, rfl, ⟨by omega, by omega⟩, .ref D, rfl, D, _, 0, _, rfl, rfl, SqL.of g1, atI_nat (j := 0) rfl, A, _, 0, 0, rfl, rfl, g2, ixN0 (by simp), ?_⟩
      have e2 : ((g :: gr).map V.int).set 0 (.int (g / b)) = ((g / b) :: gr).map V.int := rfl
      rw [e2]
      have s1 : upd H1 A (.lst (((g / b) :: gr).map V.int)) D = some (.lst [.ref A, .ref B, .int n]) := by rw [upd_ne nda]; exact g1
      have s2 : upd H1 A (.lst (((g / b) :: gr).map V.int)) A = some (.lst (((g / b) :: gr).map V.int)) := upd_same
      have s3 : upd H1 A (.lst (((g / b) :: gr).map V.int)) B = some (.lst (cs.map V.int)) := by rw [upd_ne nab.symm]; exact g3
      have kp2 : Kp D A H (upd H1 A (.lst (((g / b) :: gr).map V.int))) := fun c o z n1 n2 => by rw [upd_ne n2]; exact kp1 c o z n1 n2
      generalize upd H1 A (.lst (((g / b) :: gr).map V.int)) = H2 at s1 s2 s3 kp2 ⊢
      have em0 : 0 ≤ g % b := Int.emod_nonneg _ (by omega)
      have em1 : g % b < b := Int.emod_lt_of_pos _ (by omega)
      -- if deck[0][0] == 0: deck[0].pop(0)
      refine ⟨.ref D, rfl, D, _, 0, _, rfl, rfl, SqL.of s1, atI_nat (j := 0) rfl, A, _, 0, .int (g / b), rfl, rfl, SqL.of s2, atI_nat (j := 0) rfl, rfl, _, rfl, ite2 (fun _ => ?_) (fun _ => ?_)⟩
      · refine ⟨.ref D, rfl, D, _, 0, _, rfl, rfl, SqL.of s1, atI_nat (j := 0) rfl, .inl ⟨rfl, _, SqL.of s2⟩, A, _, 0, 0, .int (g / b), rfl, rfl, s2, by decide, by decide, seqIx0 (by simp), rfl, ?_⟩
        have e3 : ((((g / b) :: gr).map V.int)).eraseIdx 0 = gr.map V.int := rfl
        rw [e3]
        refine ⟨.int g, rfl, .inl ⟨g, rfl, .int b, rfl, g, b, rfl, rfl, by omega, q _ _ em0 em1 ⟨⟨gr, cs, n, by rw [upd_ne nda]; exact s1, upd_same, by rw [upd_ne nab.symm]; exact s3, h4, by simp at h5; omega⟩, nda, ndb, nab⟩ (fun c o z n1 n2 => by rw [upd_ne n2]; exact kp2 c o z n1 n2)⟩⟩
      · refine ⟨.int g, rfl, .inl ⟨g, rfl, .int b, rfl, g, b, rfl, rfl, by omega, q _ _ em0 em1 ⟨⟨_, cs, n, s1, s2, s3, h4, by simpa using h5⟩, nda, ndb, nab⟩ kp2⟩⟩
    | nil =>
      have et : (!PyData.eqv (.list (([] : List Int).map PyData.int)) (.list [])) = false := rfl
      rw [et]
      refine iteF ?_
      -- deck[2] = deck[2] + 1
      refine ⟨.ref D, rfl, D, _, 2, _, rfl, rfl, SqL.of g1, atI_nat (j := 2) rfl, n, 1, rfl, rfl, .ref D, rfl, D, _, 2, 2, rfl, rfl, g1, rfl, ?_⟩
      have e2 : ([V.ref A, V.ref B, V.int n]).set 2 (.int (n + 1)) = [V.ref A, V.ref B, V.int (n + 1)] := rfl
      rw [e2]
      have s1 : upd H1 D (.lst [.ref A, .ref B, .int (n + 1)]) D = some (.lst [.ref A, .ref B, .int (n + 1)]) := upd_same
      have s2 : upd H1 D (.lst [.ref A, .ref B, .int (n + 1)]) A = some (.lst (([] : List Int).map V.int)) := by rw [upd_ne nda.symm]; exact g2
      have s3 : upd H1 D (.lst [.ref A, .ref B, .int (n + 1)]) B = some (.lst (cs.map V.int)) := by rw [upd_ne ndb.symm]; exact g3
      have kp2 : Kp D A H (upd H1 D (.lst [.ref A, .ref B, .int (n + 1)])) := fun c o z n1 n2 => by rw [upd_ne n1]; exact kp1 c o z n1 n2
      generalize upd H1 D (.lst [.ref A, .ref B, .int (n + 1)]) = H2 at s1 s2 s3 kp2 ⊢
      have hcl : 0 < cs.length := List.length_pos_iff.mpr h4
      have hj0 : 0 ≤ (n + 1) % ((cs.map V.int).length : Int) := Int.emod_nonneg _ (by rw [List.length_map]; omega)
      have hj1 : (n + 1) % ((cs.map V.int).length : Int) < ((cs.map V.int).length : Int) := Int.emod_lt_of_pos _ (by rw [List.length_map]; omega)
      obtain ⟨j, ej⟩ : ∃ j : Nat, (n + 1) % ((cs.map V.int).length : Int) = (j : Int) := ⟨((n + 1) % ((cs.map V.int).length : Int)).toNat, by omega⟩
      have hjl : j < cs.length := by
        rw [ej, List.length_map] at hj1
        omega
      have gj : (cs.map V.int)[j]? = some (.int cs[j]) := by rw [List.getElem?_map, List.getElem?_eq_getElem hjl] <;> rfl
      -- cell = ..
      refine ⟨.ref D, rfl, D, _, 1, _, rfl, rfl, SqL.of s1, atI_nat (j := 1) rfl, .ref D, rfl, D, _, 2, _, rfl, rfl, SqL.of s1, atI_nat (j := 2) rfl, .inl ⟨n + 1, rfl, ?_⟩⟩
      refine ⟨.ref D, rfl, D, _, 1, _, rfl, rfl, SqL.of s1, atI_nat (j := 1) rfl, B, _, rfl, .inl (SqL.of s3), n + 1, _, rfl, rfl, by rw [List.length_map]; omega, ?_⟩
      refine ⟨B, _, (j : Int), .int cs[j], rfl, congrArg V.int ej, SqL.of s3, atI_nat gj, ?_⟩
      -- mixed, twice
      refine ⟨_, rfl, .inl ⟨cs[j], rfl, cs[j], 4294966813, rfl, rfl, (by show (0 : Int) < 4294966813; decide), ?_⟩⟩
      refine ⟨.ref D, rfl, D, _, 2, _, rfl, rfl, SqL.of s1, atI_nat (j := 2) rfl, 2147483053, n + 1, rfl, rfl, .inl ⟨by decide, by decide⟩, _, _, rfl, rfl, .inl ⟨_, rfl, _, 4294966813, rfl, rfl, (by show (0 : Int) < 4294966813; decide), ?_⟩⟩
      obtain ⟨m, hm⟩ : ∃ m : Int, (cs[j] % 4294966813 + 2147483053 * (n + 1)) % 4294966813 = m := ⟨_, rfl⟩
      have m0 : 0 ≤ m := by rw [← hm]; exact Int.emod_nonneg _ (by decide)
      have m1 : m < 4294966813 := by rw [← hm]; exact Int.emod_lt_of_pos _ (by decide)
      refine ⟨_, rfl, _, rfl, m, m, congrArg V.int hm, congrArg V.int hm, .inl ⟨by omega, by omega⟩, .ref D, rfl, D, _, 2, _, rfl, rfl, SqL.of s1, atI_nat (j := 2) rfl, 66071, n + 1, rfl, rfl, .inl ⟨by decide, by decide⟩, _, _, rfl, rfl, .inl ⟨_, rfl, _, 4294966769, rfl, rfl, (by show (0 : Int) < 4294966769; decide), ?_⟩⟩
      obtain ⟨m2, hm2⟩ : ∃ m2 : Int, (m * m + 66071 * (n + 1)) % 4294966769 = m2 := ⟨_, rfl⟩
      have m20 : 0 ≤ m2 := by rw [← hm2]; exact Int.emod_nonneg _ (by decide)
      have m21 : m2 < 4294966769 := by rw [← hm2]; exact Int.emod_lt_of_pos _ (by decide)
      refine ⟨_, rfl, _, rfl, m2, m2, congrArg V.int hm2, congrArg V.int hm2, .inl ⟨by omega, by omega⟩, .inl ⟨_, rfl, _, 4294966667, rfl, rfl, (by show (0 : Int) < 4294966667; decide), _, 2048, rfl, rfl, ⟨by decide, by decide⟩, .int b, rfl, _, b, rfl, rfl, by omega, ?_⟩⟩
      exact q _ _ (Int.emod_nonneg _ (by omega)) (Int.emod_lt_of_pos _ (by omega)) ⟨⟨[], cs, n + 1, s1, s2, s3, h4, by simp⟩, nda, ndb, nab⟩ kp2
end
end FF
namespace FF
open PySem PySem.Spec PyProof.Rows L2 Evl
/-! ### the mathematics of ways -/
/-- the row of numbers from a on, each time the one above; at most n of them -/
def wayI (ab : List Int) : Nat → Int → List Int
  | 0, _ => []
  | n + 1, a => if a < 0 then [] else a :: wayI ab n (ab.getD a.toNat (-1))
/-- a tree: each stands behind the one above it -/
def WF (ab : List Int) : Prop := ∀ (i : Nat) (x : Int), ab[i]? = some x → -1 ≤ x ∧ x < (i : Int)
theorem WF.at {ab : List Int} (h : WF ab) (a : Int) (h0 : 0 ≤ a) : -1 ≤ ab.getD a.toNat (-1) ∧ ab.getD a.toNat (-1) < a := by
  rw [List.getD_eq_getElem?_getD]
  cases e : ab[a.toNat]? with
  | none => exact ⟨by simp, by simp; omega⟩
  | some x =>
    have q := h _ _ e
    have e2 : (a.toNat : Int) = a := by omega
    rw [e2] at q
    exact q
theorem wayI_neg {ab : List Int} {n : Nat} {a : Int} (h : a < 0) : wayI ab n a = [] := by
  cases n with
  | zero => rfl
  | succ n => unfold wayI; rw [if_pos h]
theorem wayI_stable {ab : List Int} (h : WF ab) : ∀ (n m : Nat) (a : Int), a < n → a < m → wayI ab n a = wayI ab m a
  | 0, m, a, h1, _ => by rw [wayI_neg (by omega), wayI_neg (by omega)]
  | n + 1, 0, a, _, h2 => by rw [wayI_neg (by omega), wayI_neg (by omega)]
  | n + 1, m + 1, a, h1, h2 => by
    unfold wayI
    by_cases hn : a < 0
    · rw [if_pos hn, if_pos hn]
    · rw [if_neg hn, if_neg hn]
      have q := h.at a (by omega)
      rw [wayI_stable h n m _ (by omega) (by omega)]
/-- one more turn -/
theorem wayI_more {ab : List Int} : ∀ (n : Nat) (a : Int), 0 ≤ a → ∃ z, (wayI ab (n + 1) a).getLast? = some z ∧ 0 ≤ z ∧
    wayI ab (n + 2) a = if 0 ≤ ab.getD z.toNat (-1) then wayI ab (n + 1) a ++ [ab.getD z.toNat (-1)] else wayI ab (n + 1) a
  | 0, a, h => by
    have e1 : wayI ab 1 a = [a] := by unfold wayI; rw [if_neg (by omega)]; rfl
    refine ⟨a, by rw [e1]; rfl, h, ?_⟩
    rw [e1]
    show wayI ab (1 + 1) a = _
    unfold wayI
    rw [if_neg (by omega)]
    by_cases c : 0 ≤ ab.getD a.toNat (-1)
    · rw [if_pos c]
      show a :: wayI ab (0 + 1) _ = _
      unfold wayI
      rw [if_neg (by omega)]
      rfl
    · rw [if_neg c, wayI_neg (by omega)]
  | n + 1, a, h => by
    have e1 : ∀ m, wayI ab (m + 1) a = a :: wayI ab m (ab.getD a.toNat (-1)) := fun m => by
      rw [wayI, if_neg (by omega)]
    by_cases c : 0 ≤ ab.getD a.toNat (-1)
    · obtain ⟨z, h1, h2, h3⟩ := wayI_more n (ab.getD a.toNat (-1)) c
      refine ⟨z, ?_, h2, ?_⟩
      · rw [e1 (n + 1), List.getLast?_cons, h1]
        rfl
      · rw [e1 (n + 2), h3, e1 (n + 1)]
        by_cases d : 0 ≤ ab.getD z.toNat (-1)
        · rw [if_pos d, if_pos d, List.cons_append]
        · rw [if_neg d, if_neg d]
    · refine ⟨a, ?_, h, ?_⟩
      · rw [e1 (n + 1), wayI_neg (by omega)]
        rfl
      · rw [e1 (n + 2), e1 (n + 1), wayI_neg (by omega), wayI_neg (by omega), if_neg c]
theorem wayI_mem {ab : List Int} (h : WF ab) : ∀ (n : Nat) (a x : Int), x ∈ wayI ab n a → 0 ≤ x ∧ x ≤ a
  | 0, _, _, hx => by simp [wayI] at hx
  | n + 1, a, x, hx => by
    unfold wayI at hx
    by_cases c : a < 0
    · rw [if_pos c] at hx; cases hx
    · rw [if_neg c] at hx
      have q := h.at a (by omega)
      rcases List.mem_cons.mp hx with e | e
      · subst e; omega
      · have r := wayI_mem h n _ x e
        omega
theorem wayI_len {ab : List Int} : ∀ (n : Nat) (a : Int), (wayI ab n a).length ≤ n
  | 0, _ => Nat.le_refl _
  | n + 1, a => by
    unfold wayI
    split
    · exact Nat.zero_le _
    · have := wayI_len (ab := ab) n (ab.getD a.toNat (-1))
      rw [List.length_cons]
      omega
/-- the whole way -/
def way (ab : List Int) (a : Int) : List Int := wayI ab (ab.length + 1) a
theorem way_step {ab : List Int} (h : WF ab) {a : Int} (h0 : 0 ≤ a) (h1 : a < ab.length) : way ab a = a :: way ab (ab.getD a.toNat (-1)) := by
  have q := h.at a h0
  unfold way
  rw [wayI, if_neg (by omega), wayI_stable h ab.length (ab.length + 1) _ (by omega) (by omega)]
theorem way_neg {ab : List Int} {a : Int} (h : a < 0) : way ab a = [] := wayI_neg h

/-! ### pairs in a row of the heap -/
/-- a pair of whole numbers stands at v -/
def PairAt (K : PySem.W.Frag) (H : Hp) (v : V) (p : Int × Int) : Prop := ∃ a, v = .ref a ∧ SqT K H a [.int p.1, .int p.2]
def PsAt (K : PySem.W.Frag) (H : Hp) (vs : List V) (ps : List (Int × Int)) : Prop := vs.length = ps.length ∧ ∀ (i : Nat) (v : V) (p : Int × Int), vs[i]? = some v → ps[i]? = some p → PairAt K H v p
theorem PsAt.ex {K : PySem.W.Frag} {H H' : Hp} {vs : List V} {ps : List (Int × Int)} (h : PsAt K H vs ps) (e : Ex H H') : PsAt K H' vs ps :=
  ⟨h.1, fun i v p h1 h2 => let ⟨a, e1, e2⟩ := h.2 i v p h1 h2; ⟨a, e1, ex_t e e2⟩⟩
theorem PsAt.get {K : PySem.W.Frag} {H : Hp} {vs : List V} {ps : List (Int × Int)} (h : PsAt K H vs ps) {i : Nat} {p : Int × Int} (hp : ps[i]? = some p) : ∃ a, vs[i]? = some (.ref a) ∧ SqT K H a [.int p.1, .int p.2] := by
  have hi : i < vs.length := by rw [h.1]; exact (List.getElem?_eq_some_iff.mp hp).1
  obtain ⟨a, e1, e2⟩ := h.2 i vs[i] p (List.getElem?_eq_getElem hi) hp
  exact ⟨a, by rw [List.getElem?_eq_getElem hi, e1], e2⟩
theorem PsAt.nil {K : PySem.W.Frag} {H : Hp} : PsAt K H [] [] := ⟨rfl, fun i v p h _ => by simp at h⟩
theorem PsAt.snoc {K : PySem.W.Frag} {H : Hp} {vs : List V} {ps : List (Int × Int)} (h : PsAt K H vs ps) {a : Addr} {p : Int × Int} (ha : SqT K H a [.int p.1, .int p.2]) : PsAt K H (vs ++ [.ref a]) (ps ++ [p]) := by
  refine ⟨by rw [List.length_append, List.length_append, h.1]; rfl, fun i v q h1 h2 => ?_⟩
  by_cases hi : i < vs.length
  · rw [List.getElem?_append_left hi] at h1
    rw [List.getElem?_append_left (by rw [← h.1]; exact hi)] at h2
    exact h.2 i v q h1 h2
  · have hi2 : i = vs.length := by
      have := (List.getElem?_eq_some_iff.mp h1).1
      rw [List.length_append] at this
      simp at this
      omega
    subst hi2
    rw [List.getElem?_append_right (Nat.le_refl _), Nat.sub_self] at h1
    rw [h.1, List.getElem?_append_right (Nat.le_refl _), Nat.sub_self] at h2
    simp at h1 h2
    subst h1 h2
    exact ⟨a, rfl, ha⟩
/-- as data -/
theorem PsAt.data {K : PySem.W.Frag} {H : Hp} : ∀ {vs : List V} {ps : List (Int × Int)}, PsAt K H vs ps → DpAll K H vs (ps.map fun p => .tuple [.int p.1, .int p.2])
  | [], [], _ => .nil
  | [], _ :: _, h => by have := h.1; simp at this
  | _ :: _, [], h => by have := h.1; simp at this
  | v :: vs, p :: ps, h => by
    obtain ⟨a, e1, e2⟩ := h.2 0 v p rfl rfl
    subst e1
    refine .cons (.tup e2 (.cons (.int _) (.cons (.int _) .nil))) (PsAt.data ⟨?_, fun i w q h1 h2 => h.2 (i + 1) w q (by simpa using h1) (by simpa using h2)⟩)
    have := h.1
    simpa using this

/-! ### _law_pick, _law_deck, _law_way -/
def spPick : Sp := fun vs H Q _ => ∃ (D A B I : Addr) (xs : List V), vs = [.ref D, .ref I] ∧ Deck D A B H ∧ H I = some (.lst xs) ∧ I ≠ D ∧ I ≠ A ∧ xs ≠ [] ∧ xs.length < 1000 ∧
  ∀ v H', v ∈ xs → Deck D A B H' → Kp D A H H' → Q v H'
section
variable {P : Program} {w : World} {K : PySem.W.Frag} {mg : Str → Option Value} {base : Heap}
theorem ok_pick {f fD : Addr} {fd fdD : FuncData} {k : Nat} (F : Fun K "_law_pick" "_law_pick" sPick f fd) (GD : FnOk P w K mg base CX0 k fD fdD ["_law_deck_here", "_law_bound"] spDraw) (bD : Binds K fdD ["_law_deck_here", "_law_bound"] [])
    (gD : mg "_law_draw" = some (.ref fD)) (kD : PySem.W.keepIn K (.ref fD) = true) (ml : mg "len" = none) : FnOk P w K mg base CX0 (k + 1) f fd ["_law_deck_here", "_law_items"] spPick := by
  refine F.ok scPick (fun vs H Q E h => ?_) (fun cdv A outer s H vs Q E hr h => ?_)
  · obtain ⟨D, A, B, I, xs, rfl, _⟩ := h
    rfl
  · obtain ⟨D, A, B, I, xs, rfl, dk, hI, n1, n2, ne, hl, q⟩ := h
    refine ⟨_, pss_one (ps_ret (pe_ix ix_list (pv 1) (pe_call GD hr (by rfl) gD kD bD .nil pass0 (pa_cons (pv 0) (pa_cons (pe_callB call_len_seq (by rfl) ml PySem.boot_len (pa_cons (pv 1) pa_nil)) pa_nil))) (fun _ _ => rfl))), ?_⟩
    have hx : 0 < xs.length := List.length_pos_iff.mpr ne
    refine ⟨.ref I, rfl, .ref D, rfl, .ref I, rfl, I, xs, rfl, .inl (SqL.of hI), D, A, B, xs.length, rfl, by omega, by omega, dk, fun r H' r0 r1 dk' kp => ?_⟩
    obtain ⟨j, rfl⟩ : ∃ j : Nat, r = (j : Int) := ⟨r.toNat, by omega⟩
    have hj : j < xs.length := by omega
    exact ⟨I, xs, (j : Int), xs[j], rfl, rfl, SqL.of (kp _ _ hI n1 n2), atI_nat (List.getElem?_eq_getElem hj), q _ _ (List.getElem_mem hj) dk' kp⟩

/-- the numbers without their signs -/
def absI (i : Int) : Int := if i < 0 then -i else i
def spDeck (K : PySem.W.Frag) : Sp := fun vs H Q _ => ∃ (a : Addr) (ns : List Int), vs = [.ref a] ∧ SqL K H a (ns.map V.int) ∧ ns.length ≤ 63 ∧ ∀ D A B H', Deck D A B H' → Q (.ref D) H'
theorem cut63 (ns : List Int) (h : ns.length ≤ 63) : cutV (ns.map V.int) none (some 63) = ns.map V.int := by
  unfold cutV
  rw [show HT.sIx (ns.map V.int).length (ns.map V.int).length (some 63) = min 63 (ns.map V.int).length from HT.sIx_nat _ _ 63, HT.sIx_none, List.drop_zero, List.length_map, Nat.min_eq_right h, Nat.sub_zero]
  exact List.take_of_length_le (by rw [List.length_map]; exact Nat.le_refl _)
theorem ok_deck {f : Addr} {fd : FuncData} {k : Nat} (F : Fun K "_law_deck" "_law_deck" sDeck f fd) (ma : mg "abs" = none) (ml : mg "len" = none) : FnOk P w K mg base CX0 (k + 1) f fd ["_law_script"] (spDeck K) := by
  refine F.ok scDeck (fun vs H Q E h => ?_) (fun cdv A outer s H vs Q E hr h => ?_)
  · obtain ⟨a, ns, rfl, _⟩ := h
    rfl
  · obtain ⟨a, ns, rfl, hS, hlen, q⟩ := h
    refine ⟨_, pss_cons (ps_setLc (i := 1) (own := [("_law_cell", 2)]) (g := gName 2) (tt := tYes) (by rfl) scDeck.nd rfl rfl (sw_true rfl rfl rfl (by decide +kernel)) (pi_list (pe_slice sl_list (pv 0) po_none (po_some pe_int)))
        (blkOk_by (own := [("_law_cell", 2)]) (N := ["_law_script", "_law_cells", "_law_cell"]) (sc := defScope sDeck) (by decide +kernel)) (fun _ _ _ _ _ => pg_name (i := 2) scDeck.nd rfl (Or.inl rfl)) (fun _ _ _ _ _ => pts_nil)
        (fun _ _ _ _ _ => pe_callB call_abs (by rfl) ma (by decide +kernel) (pa_cons (pv 2) pa_nil)))
      (pss_one (ps_ret (pe_lst (pa_cons (pe_lc (own := [("_law_cell", 2)]) (g := gName 2) (by rfl) scDeck.nd (pi_list (pv 1))
          (blkOk_by (own := [("_law_cell", 2)]) (N := ["_law_script", "_law_cells", "_law_cell"]) (sc := defScope sDeck) (by decide +kernel)) (fun _ _ _ _ _ => pg_name (i := 2) scDeck.nd rfl (Or.inl rfl))
          (fun _ _ _ _ _ => pts_one (pt_cmpR op_ge (pv 2) (pe_op op_pow pe_int pe_int) (nomark _))) (fun _ _ _ _ _ => pv 2))
        (pa_cons (pe_op op_cat (pv 1) (pe_lst (pa_cons (pe_op op_add pe_int (pe_callB call_len_seq (by rfl) ml PySem.boot_len (pa_cons (pv 1) pa_nil))) pa_nil)))
        (pa_cons pe_int pa_nil)))))), ?_⟩
    -- cells
    refine ⟨_, rfl, 63, rfl, a, ns.map V.int, rfl, hS, fun c nc => ?_⟩
    have g0 : upd H c (.lst (cutV (ns.map V.int) none (some 63))) c = some (.lst (ns.map V.int)) := by rw [upd_same, cut63 ns hlen]
    generalize upd H c (.lst (cutV (ns.map V.int) none (some 63))) = H1 at g0 ⊢
    refine ⟨c, rfl, ⟨_, SqL.of g0⟩, fun D nD => ?_⟩
    have nDc : D ≠ c := (ne_of_none g0 nD).symm
    refine lc_list (K := K) (a := c) (xs := ns.map V.int) (fun i H' => H' c = some (.lst (ns.map V.int)) ∧ H' D = some (.lst (((ns.map absI).take i).map V.int))) ⟨by rw [upd_ne nDc.symm]; exact g0, upd_same⟩ (fun i H' _ p => SqL.of p.1) (fun i x H' hx p => ?_) (fun H' p => ?_)
    · obtain ⟨z, hz, rfl⟩ : ∃ z, ns[i]? = some z ∧ x = V.int z := by
        rw [List.getElem?_map] at hx
        cases e : ns[i]? with
        | none => rw [e] at hx; cases hx
        | some z => rw [e] at hx; exact ⟨z, rfl, (Option.some.inj hx).symm⟩
      refine ⟨rfl, .int z, rfl, z, rfl, _, p.2, ?_, ?_, ?_⟩
      · rw [List.length_map, List.length_take]
        exact Nat.lt_of_le_of_lt (Nat.min_le_right _ _) (by rw [List.length_map]; exact small1000 (by omega))
      · rw [upd_ne nDc.symm]; exact p.1
      · rw [upd_same, List.take_add_one, List.getElem?_map, hz, List.map_append]
        rfl
    · obtain ⟨_, p2⟩ := p
      rw [List.length_map, List.take_of_length_le (by rw [List.length_map]; exact Nat.le_refl _)] at p2
      -- the return
      refine ⟨.ref D, rfl, D, rfl, ⟨_, SqL.of p2⟩, fun G nG => ?_⟩
      have nGD : G ≠ D := (ne_of_none p2 nG).symm
      refine lc_list (K := K) (a := D) (xs := (ns.map absI).map V.int) (fun i H2 => H2 D = some (.lst ((ns.map absI).map V.int)) ∧ ∃ gs : List Int, gs.length ≤ i ∧ H2 G = some (.lst (gs.map V.int))) ⟨by rw [upd_ne nGD.symm]; exact p2, [], Nat.zero_le _, upd_same⟩ (fun i H2 _ p => SqL.of p.1) (fun i x H2 hx p => ?_) (fun H2 p => ?_)
      · obtain ⟨z, rfl⟩ : ∃ z, x = V.int z := by
          rw [List.getElem?_map] at hx
          cases e : (ns.map absI)[i]? with
          | none => rw [e] at hx; cases hx
          | some z => rw [e] at hx; exact ⟨z, (Option.some.inj hx).symm⟩
        have hi : i < 63 := by
          have := (List.getElem?_eq_some_iff.mp hx).1
          rw [List.length_map, List.length_map] at this
          omega
        obtain ⟨q1, gs, q2, q3⟩ := p
        refine ⟨rfl, .int z, rfl, 10, 18, rfl, rfl, ⟨by decide, by decide, by decide⟩, z, _, rfl, rfl, _, rfl, ite2 (fun _ => ?_) (fun _ => ?_)⟩
        · refine ⟨.int z, rfl, gs.map V.int, q3, by rw [List.length_map]; exact small1000 (by omega), by rw [upd_ne nGD.symm]; exact q1, gs ++ [z], by rw [List.length_append]; simp; omega, ?_⟩
          rw [upd_same, List.map_append]
          rfl
        · exact ⟨q1, gs, by omega, q3⟩
      · obtain ⟨q1, gs, q2, q3⟩ := p
        rw [List.length_map, List.length_map] at q2
        -- cells + [11234 + len(cells)], 0
        refine ⟨.ref D, rfl, .ref D, rfl, D, _, rfl, .inl (SqL.of q1), 11234, _, rfl, rfl, (by show 1 ≤ sizeLine; decide), fun e ne => ?_⟩
        have neD : e ≠ D := (ne_of_none q1 ne).symm
        have neG : e ≠ G := (ne_of_none q3 ne).symm
        refine ⟨D, e, _, _, rfl, rfl, by rw [upd_ne neD.symm]; exact q1, upd_same, ?_, fun B nB => ?_⟩
        · rw [List.length_map, List.length_map]
          exact Nat.le_of_lt (small1000 (by simp; omega))
        have g1 : upd H2 e (.lst [.int (11234 + (((ns.map absI).map V.int).length : Int))]) G = some (.lst (gs.map V.int)) := by rw [upd_ne neG.symm]; exact q3
        have nBG : B ≠ G := (ne_of_none g1 nB).symm
        refine ⟨by show 3 ≤ sizeLine; decide, fun C nC => ?_⟩
        have nCB : C ≠ B := fun z => by rw [z, upd_same] at nC; cases nC
        have nCG : C ≠ G := fun z => by rw [z, upd_ne nBG.symm, g1] at nC; cases nC
        refine q C G B _ ⟨⟨gs, (ns.map absI) ++ [11234 + (((ns.map absI).map V.int).length : Int)], 0, upd_same, ?_, ?_, by simp, by omega⟩, nCG, nCB, nBG.symm⟩
        · rw [upd_ne nCG.symm, upd_ne nBG.symm]
          exact g1
        · rw [upd_ne nCB.symm, upd_same, List.map_append]
          rfl
end
end FF
namespace FF
open PySem PySem.Spec PyProof.Rows L2 Evl
theorem walkEnT {K : PySem.W.Frag} {a : Addr} {xs : List V} : Walk (ItE K a) xs.length (fun H => SqT K H a xs) (YPair (fun i => some (.int (i : Nat))) (fun i => xs[i]?)) := by
  refine ⟨fun i _ hi q => ⟨xs, xs[i], q, List.getElem?_eq_getElem hi⟩, fun _ q => ⟨xs, q, Nat.le_refl _⟩, fun i H v H' _ q y => ?_⟩
  obtain ⟨T, x, h1, h2, h3, h4⟩ := y
  exact ⟨T, .int (i : Nat), x, h1, h2, h3, rfl, h4 xs q⟩
theorem inV_int (x : Int) : ∀ l : List Int, inV (.int x) (l.map V.int) = decide (x ∈ l)
  | [] => by simp [inV]
  | y :: l => by
    have ih := inV_int x l
    unfold inV at ih ⊢
    rw [List.map_cons, List.any_cons, ih]
    show ((y == x) || decide (x ∈ l)) = decide (x ∈ y :: l)
    by_cases c : y = x
    · subst c
      rw [beq_self_eq_true, Bool.true_or, decide_eq_true (List.mem_cons_self ..)]
    · rw [beq_eq_false_iff_ne.mpr c, Bool.false_or]
      by_cases d : x ∈ l
      · rw [decide_eq_true d, decide_eq_true (List.mem_cons_of_mem _ d)]
      · rw [decide_eq_false d, decide_eq_false fun z => (List.mem_cons.mp z).elim (fun q => c q.symm) d]
theorem flat_ints : ∀ l : List Int, (l.map V.int).all flatV = true
  | [] => rfl
  | _ :: l => by rw [List.map_cons, List.all_cons, flat_ints l]; rfl

/-! ### a row of pairs, as a list or a tuple -/
def RowAt (K : PySem.W.Frag) (H : Hp) (T : Addr) (ps : List (Int × Int)) : Prop := ∃ vs, (SqL K H T vs ∨ SqT K H T vs) ∧ PsAt K H vs ps
theorem RowAt.ex {K : PySem.W.Frag} {H H' : Hp} {T : Addr} {ps : List (Int × Int)} (h : RowAt K H T ps) (e : Ex H H') : RowAt K H' T ps := by
  obtain ⟨vs, h1, h2⟩ := h
  refine ⟨vs, ?_, h2.ex e⟩
  rcases h1 with h1 | h1
  · exact .inl (ex_l e h1)
  · exact .inr (ex_t e h1)
theorem WF.get {ps : List (Int × Int)} {i : Nat} {p : Int × Int} (h : WF (ps.map (·.1))) (hp : ps[i]? = some p) : -1 ≤ p.1 ∧ p.1 < (i : Int) := h i p.1 (by rw [List.getElem?_map, hp]; rfl)
theorem getD_fst {ps : List (Int × Int)} {i : Nat} {p : Int × Int} (hp : ps[i]? = some p) : (ps.map (·.1)).getD i (-1) = p.1 := by
  rw [List.getD_eq_getElem?_getD, List.getElem?_map, hp]
  rfl

theorem scWay : FnScope ["_law_fuses", "_law_fuse", "_law_found", "_law_turn"] ["_law_fuses", "_law_fuse"] (defScope sWay) := ⟨rfl, rfl, rfl, by decide +kernel, rfl, by decide +kernel, by decide +kernel⟩
theorem scWayOf : FnScope ["board", "fuse", "fuses", "way", "at"] ["board", "fuse"] (defScope sWayOf) := ⟨rfl, rfl, rfl, by decide +kernel, rfl, by decide +kernel, by decide +kernel⟩
theorem scFuses : FnScope ["board", "fuse", "fuses", "behind", "index", "above", "_"] ["board", "fuse"] (defScope sFuses) := ⟨rfl, rfl, rfl, by decide +kernel, rfl, by decide +kernel, by decide +kernel⟩
theorem scLamps : FnScope ["board", "fuse", "lamps", "behind", "index", "held_by", "_"] ["board", "fuse"] (defScope sLamps) := ⟨rfl, rfl, rfl, by decide +kernel, rfl, by decide +kernel, by decide +kernel⟩

def spWay (K : PySem.W.Frag) : Sp := fun vs H Q _ => ∃ (T : Addr) (ps : List (Int × Int)) (a : Int), vs = [.ref T, .int a] ∧ RowAt K H T ps ∧ WF (ps.map (·.1)) ∧ 0 ≤ a ∧ a < ps.length ∧ ps.length ≤ 100 ∧
  RetL ((way (ps.map (·.1)) a).map V.int) H Q
section
variable {P : Program} {w : World} {K : PySem.W.Frag} {mg : Str → Option Value} {base : Heap}
theorem ok_way {f : Addr} {fd : FuncData} {k : Nat} (F : Fun K "_law_way" "_law_way" sWay f fd) (mr : mg "range" = none) (ml : mg "len" = none) : FnOk P w K mg base CX0 (k + 1) f fd ["_law_fuses", "_law_fuse"] (spWay K) := by
  refine F.ok scWay (fun vs H Q E h => ?_) (fun cdv A outer s H vs Q E hr h => ?_)
  · obtain ⟨T, ps, a, rfl, _⟩ := h
    rfl
  · obtain ⟨T, ps, a, rfl, hT, wf, ha0, ha1, hl, q⟩ := h
    refine ⟨_, pss_cons (ps_set (i := 2) scWay.nd rfl (.inl rfl) (pe_lst (pa_cons (pv 1) pa_nil)))
      (pss_cons (ps_for PassesOwn.never rfl (pi_range1 (by rfl) mr (pa_cons (pe_callB call_len_seq (by rfl) ml PySem.boot_len (pa_cons (pv 0) pa_nil)) pa_nil)) (pg_name (i := 3) scWay.nd rfl (.inl rfl))
        (pss_one (ps_if (pt_cmpR op_ge (pe_ix ix_tup (pe_ix ix_seq (pv 0) (pe_ix ix_list (pv 2) (pe_un un_neg pe_int) (fun _ _ => rfl)) (fun _ _ => rfl)) pe_int (fun _ _ => rfl)) pe_int (nomark _))
          (pss_one (ps_expr (pe_bm PySem.F.plainAttrs_list PySem.F.slot_list_append PySem.F.type_list_append mt_append (pv 2) (pa_cons (pe_ix ix_tup (pe_ix ix_seq (pv 0) (pe_ix ix_list (pv 2) (pe_un un_neg pe_int) (fun _ _ => rfl)) (fun _ _ => rfl)) pe_int (fun _ _ => rfl)) pa_nil)))) pss_nil)))
      (pss_one (ps_ret (pv 2)))), ?_⟩
    refine ⟨.int a, rfl, (by show 1 ≤ sizeLine; decide), fun p np => ?_⟩
    have e0 : Ex H (upd H p (.lst [.int a])) := Ex.new np
    have g0 : upd H p (.lst [.int a]) p = some (.lst [.int a]) := upd_same
    generalize upd H p (.lst [.int a]) = H0 at e0 g0 ⊢
    obtain ⟨vs, hvs, hps⟩ := hT.ex e0
    have hvl : vs.length = ps.length := hps.1
    refine ⟨.ref T, rfl, T, vs, rfl, hvs, vs.length, rfl, by omega, by omega, for_range (lo := 0) (n := ((vs.length : Nat) : Int).toNat) (fun i σ H' => ∃ y, σ = [some (.ref T), some (.int a), some (.ref p), y] ∧ Ex H H' ∧ H' p = some (.lst ((wayI (ps.map (·.1)) (i + 1) a).map V.int)))
      ⟨none, rfl, e0, ?_⟩ ?_ ?_⟩
    · rw [g0, wayI, if_neg (by omega)]
      rfl
    · rintro i σ H1 hi ⟨y, rfl, e1, g1⟩
      obtain ⟨z, hz, z0, hm⟩ := wayI_more (ab := ps.map (·.1)) i a ha0
      have hzm : z ∈ wayI (ps.map (·.1)) (i + 1) a := List.mem_of_getLast? hz
      have hzb := wayI_mem wf _ _ _ hzm
      obtain ⟨j, rfl⟩ : ∃ j : Nat, z = (j : Int) := ⟨z.toNat, by omega⟩
      have hj : j < ps.length := by omega
      obtain ⟨pr, hpr⟩ : ∃ pr, ps[j]? = some pr := ⟨ps[j], List.getElem?_eq_getElem hj⟩
      have eg : (ps.map (·.1)).getD ((j : Int)).toNat (-1) = pr.1 := by rw [Int.toNat_natCast]; exact getD_fst hpr
      rw [eg] at hm
      obtain ⟨vs1, hvs1, hps1⟩ := hT.ex e1
      obtain ⟨b, hb1, hb2⟩ := hps1.get hpr
      have gl : atI ((wayI (ps.map (·.1)) (i + 1) a).map V.int) (-1) = some (.int (j : Int)) := by
        obtain ⟨r, er⟩ := List.getLast?_eq_some_iff.mp hz
        rw [er, List.map_append]
        exact atI_last _ _
      have rd : ∀ Q' : VK, Q' (.ref b) H1 → rIx K (.ref T) (.int (j : Int)) H1 Q' := fun Q' h => by
        rcases hvs1 with hv | hv
        · exact .inl ⟨T, vs1, (j : Int), _, rfl, rfl, hv, atI_nat hb1, h⟩
        · exact .inr (.inl ⟨T, vs1, (j : Int), _, rfl, rfl, hv, atI_nat hb1, h⟩)
      refine ⟨.ref T, rfl, .ref p, rfl, 1, rfl, p, _, -1, _, rfl, rfl, SqL.of g1, gl, rd _ ?_⟩
      refine ⟨b, _, 0, .int pr.1, rfl, rfl, hb2, atI_nat (j := 0) rfl, pr.1, 0, rfl, rfl, _, rfl, ite2 (fun c => ?_) (fun c => ?_)⟩
      · have c' : 0 ≤ pr.1 := of_decide_eq_true c
        rw [if_pos c'] at hm
        refine ⟨.ref p, rfl, .inl ⟨rfl, _, SqL.of g1⟩, .ref T, rfl, .ref p, rfl, 1, rfl, p, _, -1, _, rfl, rfl, SqL.of g1, gl, rd _ ?_⟩
        refine ⟨b, _, 0, .int pr.1, rfl, rfl, hb2, atI_nat (j := 0) rfl, p, _, _, rfl, rfl, g1, ?_, _, rfl, e1.mut np, ?_⟩
        · rw [List.length_map]
          have := wayI_len (ab := ps.map (·.1)) (i + 1) a
          exact small1000 (by omega)
        · rw [upd_same, hm, List.map_append]
          rfl
      · have c' : ¬ 0 ≤ pr.1 := fun z => c (decide_eq_true z)
        rw [if_neg c'] at hm
        exact ⟨_, rfl, e1, by rw [hm]; exact g1⟩
    · rintro σ H1 ⟨y, rfl, e1, g1⟩
      refine ⟨.ref p, rfl, q p H1 np e1 ?_⟩
      rw [g1]
      have ew : wayI (ps.map (·.1)) (((vs.length : Nat) : Int).toNat + 1) a = way (ps.map (·.1)) a := by
        unfold way
        rw [List.length_map, Int.toNat_natCast, hvl]
      rw [ew]

/-! ### boards -/
def BoardAt (K : PySem.W.Frag) (H : Hp) (bd : Addr) (fs ls : List (Int × Int)) : Prop := ∃ F L vf vl, SqT K H bd [.ref F, .ref L] ∧ SqT K H F vf ∧ PsAt K H vf fs ∧ SqT K H L vl ∧ PsAt K H vl ls
theorem BoardAt.ex {K : PySem.W.Frag} {H H' : Hp} {bd : Addr} {fs ls : List (Int × Int)} (h : BoardAt K H bd fs ls) (e : Ex H H') : BoardAt K H' bd fs ls := by
  obtain ⟨F, L, vf, vl, h1, h2, h3, h4, h5⟩ := h
  exact ⟨F, L, vf, vl, ex_t e h1, ex_t e h2, h3.ex e, ex_t e h4, h5.ex e⟩
def RetU (xs : List V) (H : Hp) (Q : VK) : Prop := ∀ p H2, H p = none → Ex H H2 → H2 p = some (.tup xs) → Q (.ref p) H2
def spWayOf (K : PySem.W.Frag) : Sp := fun vs H Q _ => ∃ (bd : Addr) (fs ls : List (Int × Int)) (a : Int), vs = [.ref bd, .int a] ∧ BoardAt K H bd fs ls ∧ WF (fs.map (·.1)) ∧ 0 ≤ a ∧ a < fs.length ∧ fs.length ≤ 100 ∧
  RetU ((way (fs.map (·.1)) a).map V.int) H Q
theorem ok_wayOf {f : Addr} {fd : FuncData} {k : Nat} (F : Fun K "way_of" "way_of" sWayOf f fd) (mt : mg "tuple" = none) : FnOk P w K mg base CX0 (k + 1) f fd ["board", "fuse"] (spWayOf K) := by
  refine F.ok scWayOf (fun vs H Q E h => ?_) (fun cdv A outer s H vs Q E hr h => ?_)
  · obtain ⟨bd, fs, ls, a, rfl, _⟩ := h
    rfl
  · obtain ⟨bd, fs, ls, a, rfl, hB, wf, ha0, ha1, hl, q⟩ := h
    refine ⟨_, pss_cons (ps_set (i := 2) scWayOf.nd rfl (.inl rfl) (pe_ix ix_tup (pv 0) pe_int (fun _ _ => rfl)))
      (pss_cons (ps_set (i := 3) scWayOf.nd rfl (.inl rfl) (pe_lst pa_nil))
      (pss_cons (ps_set (i := 4) scWayOf.nd rfl (.inl rfl) (pv 1))
      (pss_cons (ps_while PassesOwn.never (pt_cmpR op_ge (pv 4) pe_int (nomark _))
        (pss_cons (ps_expr (pe_bm PySem.F.plainAttrs_list PySem.F.slot_list_append PySem.F.type_list_append mt_append (pv 3) (pa_cons (pv 4) pa_nil)))
        (pss_one (ps_set (i := 4) scWayOf.nd rfl (.inl rfl) (pe_ix ix_tup (pe_ix ix_tup (pv 2) (pv 4) (fun _ _ => rfl)) pe_int (fun _ _ => rfl))))))
      (pss_one (ps_ret (pe_callTy call_tuple_of (by rfl) mt (by decide +kernel) (pa_cons (pv 3) pa_nil))))))), ?_⟩
    obtain ⟨F, L, vf, vl, hb1, hb2, hb3, hb4, hb5⟩ := hB
    refine ⟨.ref bd, rfl, bd, _, 0, .ref F, rfl, rfl, hb1, atI_nat (j := 0) rfl, Nat.zero_le _, fun p np => ?_⟩
    have e0 : Ex H (upd H p (.lst [])) := Ex.new np
    have g0 : upd H p (.lst []) p = some (.lst (([] : List Int).map V.int)) := upd_same
    generalize upd H p (.lst []) = H0 at e0 g0 ⊢
    refine ⟨.int a, rfl, fun m σ H' => ∃ (dn : List Int) (x : Int), σ = [some (.ref bd), some (.int a), some (.ref F), some (.ref p), some (.int x)] ∧ m = (x + 1).toNat ∧ Ex H H' ∧ H' p = some (.lst (dn.map V.int)) ∧ -1 ≤ x ∧ x < fs.length ∧ dn.length + x ≤ a ∧ dn ++ way (fs.map (·.1)) x = way (fs.map (·.1)) a,
      ⟨_, [], a, rfl, rfl, e0, g0, by omega, ha1, by simp, rfl⟩, ?_⟩
    rintro m σ H1 ⟨dn, x, rfl, rfl, e1, g1, x0, x1, hdl, hw⟩
    refine ⟨.int x, rfl, x, 0, rfl, rfl, _, rfl, ite2 (fun c => ?_) (fun c => ?_)⟩
    · have c' : 0 ≤ x := of_decide_eq_true c
      obtain ⟨j, rfl⟩ : ∃ j : Nat, x = (j : Int) := ⟨x.toNat, by omega⟩
      have hj : j < fs.length := by omega
      obtain ⟨pr, hpr⟩ : ∃ pr, fs[j]? = some pr := ⟨fs[j], List.getElem?_eq_getElem hj⟩
      have hws := way_step wf c' (by rw [List.length_map]; omega)
      rw [Int.toNat_natCast, getD_fst hpr] at hws
      have hpb := wf.get hpr
      refine ⟨fun σ' H' => ∃ (dn' : List Int), σ' = [some (.ref bd), some (.int a), some (.ref F), some (.ref p), some (.int pr.1)] ∧ Ex H H' ∧ H' p = some (.lst (dn'.map V.int)) ∧ dn'.length + pr.1 ≤ a ∧ dn' ++ way (fs.map (·.1)) pr.1 = way (fs.map (·.1)) a, ?_, ?_⟩
      · rintro σ' H' ⟨dn', rfl, e2, g2, hdl2, hw2⟩
        exact ⟨(pr.1 + 1).toNat, by omega, dn', pr.1, rfl, rfl, e2, g2, hpb.1, by omega, hdl2, hw2⟩
      · refine ⟨.ref p, rfl, .inl ⟨rfl, _, SqL.of g1⟩, .int (j : Int), rfl, p, _, _, rfl, rfl, g1, ?_, ?_⟩
        · rw [List.length_map]
          exact small1000 (by omega)
        have e2 : Ex H (upd H1 p (.lst (dn.map V.int ++ [.int (j : Int)]))) := e1.mut np
        have g2 : upd H1 p (.lst (dn.map V.int ++ [.int (j : Int)])) p = some (.lst ((dn ++ [(j : Int)]).map V.int)) := by rw [upd_same, List.map_append]; rfl
        generalize upd H1 p (.lst (dn.map V.int ++ [.int (j : Int)])) = H2 at e2 g2 ⊢
        obtain ⟨b, hv1, hv2⟩ := (hb3.ex e2).get hpr
        refine ⟨.ref F, rfl, .int (j : Int), rfl, F, _, (j : Int), _, rfl, rfl, ex_t e2 hb2, atI_nat hv1, b, _, 0, .int pr.1, rfl, rfl, hv2, atI_nat (j := 0) rfl, ?_⟩
        refine ⟨dn ++ [(j : Int)], rfl, e2, g2, ?_, ?_⟩
        · rw [List.length_append]
          simp
          omega
        · rw [List.append_assoc, ← hw, hws]
          rfl
    · have c' : ¬ 0 ≤ x := fun z => c (decide_eq_true z)
      rw [way_neg (by omega), List.append_nil] at hw
      subst hw
      refine ⟨.ref p, rfl, p, _, rfl, .inl ⟨SqL.of g1, fun l nl => ?_⟩⟩
      exact q l _ (fresh_back e1 nl) (e1.trans (Ex.new nl)) upd_same
end
end FF
namespace FF
open PySem PySem.Spec PyProof.Rows L2 Evl
/-- the numbers below n that pass the test -/
def sel (f : Nat → Bool) (n : Nat) : List Int := ((List.range n).filter f).map fun (i : Nat) => (i : Int)
theorem sel_zero {f : Nat → Bool} : sel f 0 = [] := rfl
theorem sel_yes {f : Nat → Bool} {n : Nat} (h : f n = true) : sel f (n + 1) = sel f n ++ [(n : Int)] := by
  unfold sel
  rw [List.range_succ, List.filter_append, List.map_append, List.filter_cons, if_pos h]
  rfl
theorem sel_no {f : Nat → Bool} {n : Nat} (h : f n = false) : sel f (n + 1) = sel f n := by
  unfold sel
  rw [List.range_succ, List.filter_append, List.map_append, List.filter_cons, if_neg (by rw [h]; decide)]
  exact List.append_nil _
theorem sel_len (f : Nat → Bool) (n : Nat) : (sel f n).length ≤ n := by
  unfold sel
  rw [List.length_map]
  have h := List.length_filter_le f (List.range n)
  rw [List.length_range] at h
  exact h
theorem sel_mem {f : Nat → Bool} {n : Nat} {x : Int} : x ∈ sel f n ↔ ∃ k : Nat, x = (k : Int) ∧ k < n ∧ f k = true := by
  unfold sel
  rw [List.mem_map]
  constructor
  · rintro ⟨k, hk, rfl⟩
    obtain ⟨h1, h2⟩ := List.mem_filter.mp hk
    exact ⟨k, rfl, List.mem_range.mp h1, h2⟩
  · rintro ⟨k, rfl, h1, h2⟩
    exact ⟨k, List.mem_filter.mpr ⟨List.mem_range.mpr h1, h2⟩, rfl⟩
theorem sel_data {f : Nat → Bool} {n : Nat} {x : Int} (h : x ∈ sel f n) : 0 ≤ x ∧ x < n := by
  obtain ⟨k, rfl, h1, _⟩ := sel_mem.mp h
  omega
theorem sel_ext {f g : Nat → Bool} : ∀ {n : Nat}, (∀ i, i < n → f i = g i) → sel f n = sel g n
  | 0, _ => rfl
  | n + 1, h => by
    have ih := sel_ext (f := f) (g := g) (n := n) fun i hi => h i (by omega)
    have e := h n (by omega)
    cases c : f n with
    | true => rw [sel_yes c, sel_yes (e ▸ c), ih]
    | false => rw [sel_no c, sel_no (e ▸ c), ih]

/-- is the i-th behind a -/
def isB (ab : List Int) (a : Int) (i : Nat) : Bool := decide ((i : Int) ≠ a) && decide (a ∈ way ab (i : Int))
theorem isB_iff {ab : List Int} {a : Int} {i : Nat} : isB ab a i = true ↔ (i : Int) ≠ a ∧ a ∈ way ab (i : Int) := by
  unfold isB
  rw [Bool.and_eq_true, decide_eq_true_eq, decide_eq_true_eq]
theorem way_bound {ab : List Int} (h : WF ab) {a x : Int} (hx : x ∈ way ab a) : 0 ≤ x ∧ x ≤ a := wayI_mem h _ _ _ hx
theorem way_self {ab : List Int} (h : WF ab) {a : Int} (h0 : 0 ≤ a) (h1 : a < ab.length) : a ∈ way ab a := by
  rw [way_step h h0 h1]
  exact List.mem_cons_self ..
theorem behind_step {ab : List Int} (h : WF ab) {a pr : Int} {i : Nat} (h0 : 0 ≤ a) (hi : ab[i]? = some pr) : ((pr = a) ∨ pr ∈ sel (isB ab a) i) ↔ isB ab a i = true := by
  have hil : i < ab.length := (List.getElem?_eq_some_iff.mp hi).1
  have hb := h i pr hi
  have hg : ab.getD (i : Int).toNat (-1) = pr := by
    rw [Int.toNat_natCast, List.getD_eq_getElem?_getD, hi]
    rfl
  have hw := way_step h (a := (i : Int)) (by omega) (by omega)
  rw [hg] at hw
  rw [isB_iff, hw]
  constructor
  · rintro (e | e)
    · subst e
      exact ⟨by omega, List.mem_cons_of_mem _ (way_self h h0 (by omega))⟩
    · obtain ⟨k, rfl, k1, k2⟩ := sel_mem.mp e
      have q := isB_iff.mp k2
      have r := way_bound h q.2
      exact ⟨by omega, List.mem_cons_of_mem _ q.2⟩
  · rintro ⟨n1, n2⟩
    rcases List.mem_cons.mp n2 with e | e
    · exact absurd e.symm n1
    · by_cases c : pr = a
      · exact .inl c
      · by_cases d : pr < 0
        · rw [way_neg d] at e
          cases e
        · refine .inr (sel_mem.mpr ⟨pr.toNat, by omega, by omega, isB_iff.mpr ?_⟩)
          have e2 : ((pr.toNat : Nat) : Int) = pr := by omega
          rw [e2]
          exact ⟨c, e⟩
/-- is the j-th lamp behind a or on it -/
def isL (ab : List Int) (ls : List (Int × Int)) (a : Int) (j : Nat) : Bool := match ls[j]? with
  | some p => decide (a ∈ way ab p.1)
  | none => false
theorem lamp_step {ab : List Int} (h : WF ab) {a x : Int} (h0 : 0 ≤ a) (x0 : 0 ≤ x) (x1 : x < ab.length) : ((x = a) ∨ x ∈ sel (isB ab a) ab.length) ↔ a ∈ way ab x := by
  constructor
  · rintro (e | e)
    · subst e; exact way_self h h0 x1
    · obtain ⟨k, rfl, k1, k2⟩ := sel_mem.mp e
      exact (isB_iff.mp k2).2
  · intro e
    by_cases c : x = a
    · exact .inl c
    · refine .inr (sel_mem.mpr ⟨x.toNat, by omega, by omega, isB_iff.mpr ?_⟩)
      have e2 : ((x.toNat : Nat) : Int) = x := by omega
      rw [e2]
      exact ⟨c, e⟩

def spFuses (K : PySem.W.Frag) : Sp := fun vs H Q _ => ∃ (bd : Addr) (fs ls : List (Int × Int)) (a : Int), vs = [.ref bd, .int a] ∧ BoardAt K H bd fs ls ∧ WF (fs.map (·.1)) ∧ 0 ≤ a ∧ a < fs.length ∧ fs.length ≤ 100 ∧
  RetU ((sel (isB (fs.map (·.1)) a) fs.length).map V.int) H Q
def spLamps (K : PySem.W.Frag) : Sp := fun vs H Q _ => ∃ (bd : Addr) (fs ls : List (Int × Int)) (a : Int), vs = [.ref bd, .int a] ∧ BoardAt K H bd fs ls ∧ WF (fs.map (·.1)) ∧ 0 ≤ a ∧ a < fs.length ∧ fs.length ≤ 100 ∧ ls.length ≤ 100 ∧
  (∀ (j : Nat) (p : Int × Int), ls[j]? = some p → 0 ≤ p.1 ∧ p.1 < fs.length) ∧ RetU ((sel (isL (fs.map (·.1)) ls a) ls.length).map V.int) H Q
section
variable {P : Program} {w : World} {K : PySem.W.Frag} {mg : Str → Option Value} {base : Heap}
theorem ok_fuses {f : Addr} {fd : FuncData} {k : Nat} (F : Fun K "fuses_behind" "fuses_behind" sFuses f fd) (me : mg "enumerate" = none) (mt : mg "tuple" = none) : FnOk P w K mg base CX0 (k + 1) f fd ["board", "fuse"] (spFuses K) := by
  refine F.ok scFuses (fun vs H Q E h => ?_) (fun cdv A outer s H vs Q E hr h => ?_)
  · obtain ⟨bd, fs, ls, a, rfl, _⟩ := h
    rfl
  · obtain ⟨bd, fs, ls, a, rfl, hB, wf, ha0, ha1, hl, q⟩ := h
    refine ⟨_, pss_cons (ps_set (i := 2) scFuses.nd rfl (.inl rfl) (pe_ix ix_tup (pv 0) pe_int (fun _ _ => rfl)))
      (pss_cons (ps_set (i := 3) scFuses.nd rfl (.inl rfl) (pe_lst pa_nil))
      (pss_cons (ps_for PassesOwn.never rfl (pi_enT (by rfl) me (pa_cons (pv 2) pa_nil))
        (pg_tup rfl (pgs_cons (pg_name (i := 4) scFuses.nd rfl (.inl rfl)) (pgs_cons (pg_tup rfl (pgs_cons (pg_name (i := 5) scFuses.nd rfl (.inl rfl)) (pgs_cons (pg_name (i := 6) scFuses.nd rfl (.inl rfl)) pgs_nil))) pgs_nil)))
        (pss_one (ps_if (PW.pt (pw_or (pt_cmpR op_eq (pv 5) (pv 1) (nomark _)) (pw_or1 (pt_cmpR op_in_seq (pv 5) (pv 3) (by rfl)))))
          (pss_one (ps_expr (pe_bm PySem.F.plainAttrs_list PySem.F.slot_list_append PySem.F.type_list_append mt_append (pv 3) (pa_cons (pv 4) pa_nil)))) pss_nil)))
      (pss_one (ps_ret (pe_callTy call_tuple_of (by rfl) mt (by decide +kernel) (pa_cons (pv 3) pa_nil)))))), ?_⟩
    obtain ⟨F, L, vf, vl, hb1, hb2, hb3, hb4, hb5⟩ := hB
    refine ⟨.ref bd, rfl, bd, _, 0, .ref F, rfl, rfl, hb1, atI_nat (j := 0) rfl, Nat.zero_le _, fun p np => ?_⟩
    have e0 : Ex H (upd H p (.lst [])) := Ex.new np
    have g0 : upd H p (.lst []) p = some (.lst ((sel (isB (fs.map (·.1)) a) 0).map V.int)) := upd_same
    generalize upd H p (.lst []) = H0 at e0 g0 ⊢
    have hvl : vf.length = fs.length := hb3.1
    refine ⟨.ref F, rfl, F, vf, rfl, ex_t e0 hb2, for_it walkEnT (fun i σ H' => ∃ y4 y5 y6, σ = [some (.ref bd), some (.int a), some (.ref F), some (.ref p), y4, y5, y6] ∧ Ex H H' ∧ H' p = some (.lst ((sel (isB (fs.map (·.1)) a) i).map V.int)))
      ⟨none, none, none, rfl, e0, g0⟩ (fun i σ H' _ ⟨_, _, _, _, e1, _⟩ => ex_t e1 hb2) ?_ ?_⟩
    · rintro i x σ H1 H2 hi ⟨y4, y5, y6, rfl, e1, g1⟩ ⟨T, x1, x2, rfl, nT, rfl, ex1, ex2⟩
      have ex1' : x1 = .int (i : Nat) := (Option.some.inj ex1).symm
      subst ex1'
      obtain ⟨pr, hpr⟩ : ∃ pr, fs[i]? = some pr := ⟨fs[i]'(by omega), List.getElem?_eq_getElem (by omega)⟩
      have e2 : Ex H (upd H1 T (.tup [.int (i : Nat), x2])) := e1.trans (Ex.new nT)
      obtain ⟨b, hv1, hv2⟩ := (hb3.ex e2).get hpr
      have ex2' : x2 = .ref b := Option.some.inj (ex2.symm.trans hv1)
      subst ex2'
      have g2 : upd H1 T (.tup [.int (i : Nat), .ref b]) p = some (.lst ((sel (isB (fs.map (·.1)) a) i).map V.int)) := by rw [upd_ne (ne_of_none g1 nT)]; exact g1
      have gT : SqT K (upd H1 T (.tup [.int (i : Nat), .ref b])) T [.int (i : Nat), .ref b] := SqT.of upd_same
      generalize upd H1 T (.tup [.int (i : Nat), .ref b]) = H3 at e2 g2 gT hv2 ⊢
      have hst := behind_step wf (pr := pr.1) (i := i) ha0 (by rw [List.getElem?_map, hpr]; rfl)
      have fin : ∀ y5 y6, isB (fs.map (·.1)) a i = false → ∃ z4 z5 z6, [some (V.ref bd), some (.int a), some (.ref F), some (.ref p), some (.int (i : Nat)), y5, y6] = [some (.ref bd), some (.int a), some (.ref F), some (.ref p), z4, z5, z6] ∧ Ex H H3 ∧ H3 p = some (.lst ((sel (isB (fs.map (·.1)) a) (i + 1)).map V.int)) := fun y5 y6 c =>
        ⟨_, _, _, rfl, e2, by rw [sel_no c]; exact g2⟩
      have app : ∀ y5 y6, isB (fs.map (·.1)) a i = true → ∃ z4 z5 z6, [some (V.ref bd), some (.int a), some (.ref F), some (.ref p), some (.int (i : Nat)), y5, y6] = [some (.ref bd), some (.int a), some (.ref F), some (.ref p), z4, z5, z6] ∧ Ex H (upd H3 p (.lst ((sel (isB (fs.map (·.1)) a) i).map V.int ++ [.int (i : Nat)]))) ∧
          upd H3 p (.lst ((sel (isB (fs.map (·.1)) a) i).map V.int ++ [.int (i : Nat)])) p = some (.lst ((sel (isB (fs.map (·.1)) a) (i + 1)).map V.int)) := fun y5 y6 c =>
        ⟨_, _, _, rfl, e2.mut np, by rw [upd_same, sel_yes c, List.map_append]; rfl⟩
      have hsz : ((sel (isB (fs.map (·.1)) a) i).map V.int).length < sizeLine := by
        rw [List.length_map]
        have := sel_len (isB (fs.map (·.1)) a) i
        exact small1000 (by omega)
      refine ⟨T, _, rfl, gT, rfl, .int (i : Nat), [.ref b], rfl, .ref b, [], rfl, ⟨b, _, rfl, hv2, rfl, .int pr.1, [.int pr.2], rfl, .int pr.2, [], rfl, rfl, rfl, ?_⟩⟩
      refine ⟨.int pr.1, rfl, .int a, rfl, rfl, _, rfl, ite2 (fun c => ?_) (fun c => ?_)⟩
      · have c' : pr.1 = a := V.int.inj (of_decide_eq_true c)
        exact iteT ⟨.ref p, rfl, .inl ⟨rfl, _, SqL.of g2⟩, .int (i : Nat), rfl, p, _, _, rfl, rfl, g2, hsz, app _ _ (hst.mp (.inl c'))⟩
      · have c' : pr.1 ≠ a := fun z => c (decide_eq_true (congrArg V.int z))
        refine ⟨.int pr.1, rfl, .ref p, rfl, p, _, rfl, .inl (SqL.of g2), rfl, flat_ints _, _, rfl, ?_⟩
        show (if inV (.int pr.1) ((sel (isB (fs.map (·.1)) a) i).map V.int) = true then _ else _)
        rw [inV_int]
        refine ite2 (fun d => ?_) (fun d => ?_)
        · have d' := of_decide_eq_true d
          exact ⟨.ref p, rfl, .inl ⟨rfl, _, SqL.of g2⟩, .int (i : Nat), rfl, p, _, _, rfl, rfl, g2, hsz, app _ _ (hst.mp (.inr d'))⟩
        · refine fin _ _ ?_
          cases e : isB (fs.map (·.1)) a i with
          | false => rfl
          | true => exact ((hst.mpr e).elim c' fun z => d (decide_eq_true z)).elim
    · rintro σ H1 ⟨y4, y5, y6, rfl, e1, g1⟩
      rw [hvl] at g1
      refine ⟨.ref p, rfl, p, _, rfl, .inl ⟨SqL.of g1, fun l nl => ?_⟩⟩
      exact q l _ (fresh_back e1 nl) (e1.trans (Ex.new nl)) upd_same

theorem ok_lamps {f fF : Addr} {fd fdF : FuncData} {k : Nat} (F : Fun K "lamps_behind" "lamps_behind" sLamps f fd) (GF : FnOk P w K mg base CX0 k fF fdF ["board", "fuse"] (spFuses K)) (bF : Binds K fdF ["board", "fuse"] [])
    (gF : mg "fuses_behind" = some (.ref fF)) (kF : PySem.W.keepIn K (.ref fF) = true) (me : mg "enumerate" = none) (mt : mg "tuple" = none) : FnOk P w K mg base CX0 (k + 1) f fd ["board", "fuse"] (spLamps K) := by
  refine F.ok scLamps (fun vs H Q E h => ?_) (fun cdv A outer s H vs Q E hr h => ?_)
  · obtain ⟨bd, fs, ls, a, rfl, _⟩ := h
    rfl
  · obtain ⟨bd, fs, ls, a, rfl, hB, wf, ha0, ha1, hl, hl2, hls, q⟩ := h
    refine ⟨_, pss_cons (ps_set (i := 2) scLamps.nd rfl (.inl rfl) (pe_ix ix_tup (pv 0) pe_int (fun _ _ => rfl)))
      (pss_cons (ps_set (i := 3) scLamps.nd rfl (.inr rfl) (pe_call GF hr (by rfl) gF kF bF .nil pass0 (pa_cons (pv 0) (pa_cons (pv 1) pa_nil))))
      (pss_one (ps_ret (pe_callTy call_tuple_of (by rfl) mt (by decide +kernel) (pa_cons
        (pe_lc (own := [("index", 4), ("held_by", 5), ("_", 6)]) (g := gTup K 2 (gCons (gName 4) (gCons (gTup K 2 (gCons (gName 5) (gCons (gName 6) gNil))) gNil))) (tt := tOr (tTest (tOp rEq (tVar 5) (tVar 1))) (tTest (tOp (rIn K false) (tVar 5) (tVar 3)))) (te := tVar 4) (by rfl) scLamps.nd (pi_enT (by rfl) me (pa_cons (pv 2) pa_nil))
          (blkOk_by (own := [("index", 4), ("held_by", 5), ("_", 6)]) (N := ["board", "fuse", "lamps", "behind", "index", "held_by", "_"]) (sc := defScope sLamps) (by decide +kernel))
          (fun _ _ _ _ _ => pg_tup rfl (pgs_cons (pg_name (i := 4) scLamps.nd rfl (.inl rfl)) (pgs_cons (pg_tup rfl (pgs_cons (pg_name (i := 5) scLamps.nd rfl (.inl rfl)) (pgs_cons (pg_name (i := 6) scLamps.nd rfl (.inl rfl)) pgs_nil))) pgs_nil)))
          (fun _ _ _ _ _ => pts_one (PW.pt (pw_or (pt_cmpR op_eq (pv 5) (pv 1) (nomark _)) (pw_or1 (pt_cmpR op_in_seq (pv 5) (pv 3) (by rfl))))))
          (fun _ _ _ _ _ => pv 4)) pa_nil))))), ?_⟩
    obtain ⟨F, L, vf, vl, hb1, hb2, hb3, hb4, hb5⟩ := id hB
    have hvl : vl.length = ls.length := hb5.1
    have hal : (fs.map (·.1)).length = fs.length := List.length_map ..
    refine ⟨.ref bd, rfl, bd, _, 1, .ref L, rfl, rfl, hb1, atI_nat (j := 1) rfl, .ref bd, rfl, .int a, rfl, bd, fs, ls, a, rfl, hB, wf, ha0, ha1, hl, fun p H0 np e0 g0 => ?_⟩
    refine ⟨.ref L, rfl, L, vl, rfl, ex_t e0 hb4, fun Dl nDl => ?_⟩
    have nDp : p ≠ Dl := ne_of_none g0 nDl
    have nD0 : H Dl = none := fresh_back e0 nDl
    refine lc_it walkEnT (fun i H' => Ex H0 H' ∧ H' Dl = some (.lst ((sel (isL (fs.map (·.1)) ls a) i).map V.int))) ⟨Ex.new nDl, upd_same⟩ (fun i H' _ z => ex_t (e0.trans z.1) hb4) ?_ ?_
    · rintro i x H1 H2 hi ⟨e1, g1⟩ ⟨T, x1, x2, rfl, nT, rfl, ex1, ex2⟩
      have ex1' : x1 = .int (i : Nat) := (Option.some.inj ex1).symm
      subst ex1'
      obtain ⟨pr, hpr⟩ : ∃ pr, ls[i]? = some pr := ⟨ls[i]'(by omega), List.getElem?_eq_getElem (by omega)⟩
      have e2 : Ex H0 (upd H1 T (.tup [.int (i : Nat), x2])) := e1.trans (Ex.new nT)
      obtain ⟨b, hv1, hv2⟩ := (hb5.ex (e0.trans e2)).get hpr
      have ex2' : x2 = .ref b := Option.some.inj (ex2.symm.trans hv1)
      subst ex2'
      have g2 : upd H1 T (.tup [.int (i : Nat), .ref b]) Dl = some (.lst ((sel (isL (fs.map (·.1)) ls a) i).map V.int)) := by rw [upd_ne (ne_of_none g1 nT)]; exact g1
      have gT : SqT K (upd H1 T (.tup [.int (i : Nat), .ref b])) T [.int (i : Nat), .ref b] := SqT.of upd_same
      generalize upd H1 T (.tup [.int (i : Nat), .ref b]) = H3 at e2 g2 gT hv2 ⊢
      have hbd := hls i pr hpr
      have hst := lamp_step wf (a := a) (x := pr.1) ha0 hbd.1 (by rw [hal]; exact hbd.2)
      rw [hal] at hst
      have eL : isL (fs.map (·.1)) ls a i = decide (a ∈ way (fs.map (·.1)) pr.1) := by unfold isL; rw [hpr]
      have hsz : ((sel (isL (fs.map (·.1)) ls a) i).map V.int).length < sizeLine := by
        rw [List.length_map]
        have := sel_len (isL (fs.map (·.1)) ls a) i
        exact small1000 (by omega)
      have gp : SqT K H3 p ((sel (isB (fs.map (·.1)) a) fs.length).map V.int) := SqT.of (e2 _ _ g0)
      have app : isL (fs.map (·.1)) ls a i = true → Ex H0 (upd H3 Dl (.lst ((sel (isL (fs.map (·.1)) ls a) i).map V.int ++ [.int (i : Nat)]))) ∧
          upd H3 Dl (.lst ((sel (isL (fs.map (·.1)) ls a) i).map V.int ++ [.int (i : Nat)])) Dl = some (.lst ((sel (isL (fs.map (·.1)) ls a) (i + 1)).map V.int)) := fun c => ⟨e2.mut nDl, by rw [upd_same, sel_yes c, List.map_append]; rfl⟩
      refine ⟨T, _, rfl, gT, rfl, .int (i : Nat), [.ref b], rfl, .ref b, [], rfl, ⟨b, _, rfl, hv2, rfl, .int pr.1, [.int pr.2], rfl, .int pr.2, [], rfl, rfl, rfl, rfl, ?_⟩⟩
      refine ⟨.int pr.1, rfl, .int a, rfl, rfl, _, rfl, ite2 (fun c => ?_) (fun c => ?_)⟩
      · have c' : pr.1 = a := V.int.inj (of_decide_eq_true c)
        exact iteT ⟨.int (i : Nat), rfl, _, g2, hsz, app (by rw [eL]; exact decide_eq_true (hst.mp (.inl c')))⟩
      · have c' : pr.1 ≠ a := fun z => c (decide_eq_true (congrArg V.int z))
        refine ⟨.int pr.1, rfl, .ref p, rfl, p, _, rfl, .inr gp, rfl, flat_ints _, _, rfl, ?_⟩
        show (if inV (.int pr.1) ((sel (isB (fs.map (·.1)) a) fs.length).map V.int) = true then _ else _)
        rw [inV_int]
        refine ite2 (fun d => ?_) (fun d => ?_)
        · exact ⟨.int (i : Nat), rfl, _, g2, hsz, app (by rw [eL]; exact decide_eq_true (hst.mp (.inr (of_decide_eq_true d))))⟩
        · refine ⟨e2, ?_⟩
          have hno : isL (fs.map (·.1)) ls a i = false := by
            rw [eL]
            exact decide_eq_false fun z => ((hst.mpr z).elim c' fun y => d (decide_eq_true y))
          rw [sel_no hno]
          exact g2
    · rintro H1 ⟨e1, g1⟩
      rw [hvl] at g1
      refine ⟨Dl, _, rfl, .inl ⟨SqL.of g1, fun l nl => ?_⟩⟩
      exact q l _ (fresh_back (e0.trans e1) nl) ((e0.trans e1).trans (Ex.new nl)) upd_same
end
end FF
namespace FF
open PySem PySem.Spec PyProof.Rows L2 Evl
/-! ### the heap beside the deck -/
section
variable {D A B p : Addr} {H H1 H2 G : Hp} {o : HO}
theorem Kp.hid (k : Kp D A H H1) : Ex (hid D A H) (hid D A H1) := fun b o h => by
  obtain ⟨h1, n1, n2⟩ := of_hid h
  exact hid_of (k b o h1 n1 n2) n1 n2
theorem kp_of_hid (e : Ex (hid D A H) (hid D A H1)) : Kp D A H H1 := fun b o h n1 n2 => (of_hid (e b o (hid_of h n1 n2))).1
theorem ex_hid : Ex (hid D A H) H := fun _ _ h => (of_hid h).1
theorem hidEx (e : Ex H H1) : Ex (hid D A H) (hid D A H1) := (Kp.of e).hid
theorem Deck.hidNew (dk : Deck D A B H) (n : H p = none) : Ex (hid D A H) (hid D A (upd H p o)) ∧ hid D A (upd H p o) p = some o :=
  ⟨hidEx (Ex.new n), hid_of upd_same (dk.ne n).1 (dk.ne n).2.1⟩
theorem hid_none (n : H p = none) : hid D A H p = none := by
  unfold FF.hid
  split
  · rfl
  · exact n
theorem hid_upd (n1 : p ≠ D) (n2 : p ≠ A) : hid D A (upd H p o) = upd (hid D A H) p o := by
  funext b
  unfold FF.hid upd
  by_cases c : b = p
  · subst c
    rw [if_neg (fun z => z.elim n1 n2), if_pos rfl, if_pos rfl]
  · rw [if_neg c, if_neg c]
/-- a list that the deck has no part in is written -/
theorem Deck.put (dk : Deck D A B H) (hB : ∃ vs, H p = some (.lst vs)) (n1 : p ≠ D) (n2 : p ≠ A) (n3 : p ≠ B) : Deck D A B (upd H p o) := by
  obtain ⟨⟨gs, cs, n, h1, h2, h3, h4, h5⟩, a, b, c⟩ := dk
  exact ⟨⟨gs, cs, n, by rw [upd_ne n1.symm]; exact h1, by rw [upd_ne n2.symm]; exact h2, by rw [upd_ne n3.symm]; exact h3, h4, h5⟩, a, b, c⟩
end
/-- a list of pairs' addresses is written: the pairs stand -/
theorem psList {K : PySem.W.Frag} {H : Hp} {p : Addr} {vs ws us : List V} {ps : List (Int × Int)} (g : H p = some (.lst us)) (h : PsAt K H ws ps) : PsAt K (upd H p (.lst vs)) ws ps := by
  refine ⟨h.1, fun i v q h1 h2 => ?_⟩
  obtain ⟨a, e1, e2⟩ := h.2 i v q h1 h2
  refine ⟨a, e1, ?_⟩
  rcases e2 with (e2 | ⟨o, e2⟩) | e2
  · exact .inl (.inl (by rw [upd_ne (ne_of e2 g (fun z => nomatch z))]; exact e2))
  · by_cases c : a = p
    · subst c
      rw [g] at e2
      cases e2
    · exact .inl (.inr ⟨o, by rw [upd_ne c]; exact e2⟩)
  · exact .inr e2
/-- the numbers of a board -/
structure WB (fs ls : List (Int × Int)) : Prop where
  wf : WF (fs.map (·.1))
  one : 1 ≤ fs.length
  few : fs.length ≤ 20
  lamps : ls.length ≤ 30
  marks : ∀ p ∈ fs, 0 ≤ p.2 ∧ p.2 ≤ 3000
  hung : ∀ p ∈ ls, 0 ≤ p.1 ∧ p.1 < fs.length ∧ 1 ≤ p.2 ∧ p.2 ≤ 110
def spBoard (K : PySem.W.Frag) : Sp := fun vs H Q _ => ∃ (D A B : Addr) (a b : Int), vs = [.ref D, .int a, .int b] ∧ Deck D A B H ∧ 1 ≤ a ∧ a ≤ 20 ∧ 0 ≤ b ∧ b ≤ 30 ∧
  ∀ bd fs ls H', WB fs ls → BoardAt K (hid D A H') bd fs ls → Deck D A B H' → Kp D A H H' → Q (.ref bd) H'
abbrev nBoard : List Str := ["_law_deck_here", "_law_fuses", "_law_lamps", "_law_above", "_law_step", "_law_at", "_law_tree", "_law_hung", "_law_found", "_law_fuse", "_law_behind", "_law_some", "_law_mark", "_law_one", "_law_k", "_law_place", "_law_draw_here"]
theorem scBoard : FnScope nBoard ["_law_deck_here", "_law_fuses", "_law_lamps"] (defScope sBoard) := ⟨rfl, rfl, rfl, by decide +kernel, rfl, by decide +kernel, by decide +kernel⟩
section
variable {P : Program} {w : World} {K : PySem.W.Frag} {mg : Str → Option Value} {base : Heap}
theorem ok_board {f fD fP fW : Addr} {fd fdD fdP fdW : FuncData} {k : Nat} (F : Fun K "_law_board" "_law_board" sBoard f fd)
    (GD : FnOk P w K mg base CX0 k fD fdD ["_law_deck_here", "_law_bound"] spDraw) (bD : Binds K fdD ["_law_deck_here", "_law_bound"] []) (gD : mg "_law_draw" = some (.ref fD)) (kD : PySem.W.keepIn K (.ref fD) = true)
    (GP : FnOk P w K mg base CX0 k fP fdP ["_law_deck_here", "_law_items"] spPick) (bP : Binds K fdP ["_law_deck_here", "_law_items"] []) (gP : mg "_law_pick" = some (.ref fP)) (kP : PySem.W.keepIn K (.ref fP) = true)
    (GW : FnOk P w K mg base CX0 k fW fdW ["_law_fuses", "_law_fuse"] (spWay K)) (bW : Binds K fdW ["_law_fuses", "_law_fuse"] []) (gW : mg "_law_way" = some (.ref fW)) (kW : PySem.W.keepIn K (.ref fW) = true)
    (mr : mg "range" = none) (ml : mg "len" = none) (ms : mg "sum" = none) (mi : mg "int" = none) (mx : mg "max" = none) (mn : mg "min" = none) (mt : mg "tuple" = none) :
    FnOk P w K mg base CX0 (k + 1) f fd ["_law_deck_here", "_law_fuses", "_law_lamps"] (spBoard K) := by
  refine F.ok scBoard (fun vs H Q E h => ?_) (fun cdv A' outer s H vs Q E hr h => ?_)
  · obtain ⟨D, A, B, a, b, rfl, _⟩ := h
    rfl
  · obtain ⟨D, A, B, a, b, rfl, dk, ha1, ha2, hb1, hb2, q⟩ := h
    refine ⟨_, pss_cons (ps_asg (pe_tup (pa_cons (pe_lst (pa_cons (pe_un un_neg pe_int) pa_nil)) (pa_cons (pe_call GP hr (by rfl) gP kP bP .nil pass0 (pa_cons (pv 0) (pa_cons (pe_lst (pa_cons pe_int (pa_cons pe_int (pa_cons pe_int (pa_cons pe_int pa_nil))))) pa_nil))) pa_nil)))
        (pg_tup rfl (pgs_cons (pg_name (i := 3) scBoard.nd rfl (.inr rfl)) (pgs_cons (pg_name (i := 4) scBoard.nd rfl (.inr rfl)) pgs_nil))))
      (pss_cons (ps_for PassesOwn.never rfl (pi_range1 (by rfl) mr (pa_cons (pe_call GD hr (by rfl) gD kD bD .nil pass0 (pa_cons (pv 0) (pa_cons (pv 1) pa_nil))) pa_nil)) (pg_name (i := 5) scBoard.nd rfl (.inl rfl))
        (pss_one (ps_expr (pe_bm PySem.F.plainAttrs_list PySem.F.slot_list_append PySem.F.type_list_append mt_append (pv 3) (pa_cons
          (pe_call GP hr (by rfl) gP kP bP .nil pass0 (pa_cons (pv 0) (pa_cons (pe_lst (pa_cons (pv 5) (pa_cons (pe_call GD hr (by rfl) gD kD bD .nil pass0 (pa_cons (pv 0) (pa_cons (pe_op op_add (pv 5) pe_int) pa_nil))) (pa_cons pe_int pa_nil)))) pa_nil))) pa_nil)))))
      (pss_cons (ps_set (i := 6) scBoard.nd rfl (.inr rfl) (pe_lc (own := [("_law_one", 13)]) (g := gName 13) (tt := tYes) (by rfl) scBoard.nd (pi_list (pv 3)) (blkOk_by (own := [("_law_one", 13)]) (N := nBoard) (sc := defScope sBoard) (by decide +kernel))
          (fun _ _ _ _ _ => pg_name (i := 13) scBoard.nd rfl (Or.inl rfl)) (fun _ _ _ _ _ => pts_nil) (fun _ _ _ _ _ => pe_tup (pa_cons (pv 13) (pa_cons pe_int pa_nil)))))
      (pss_cons (ps_setLc (i := 7) (own := [("_law_k", 14)]) (g := gName 14) (tt := tYes) (by rfl) scBoard.nd rfl rfl (sw_true rfl rfl rfl (by decide +kernel))
          (pi_range1 (by rfl) mr (pa_cons (pe_call GD hr (by rfl) gD kD bD .nil pass0 (pa_cons (pv 0) (pa_cons (pe_op op_add (pv 2) pe_int) pa_nil))) pa_nil))
          (blkOk_by (own := [("_law_k", 14)]) (N := nBoard) (sc := defScope sBoard) (by decide +kernel)) (fun _ _ _ _ _ => pg_name (i := 14) scBoard.nd rfl (Or.inl rfl)) (fun _ _ _ _ _ => pts_nil)
          (te := tTup (tCons (tCall spDraw [] E0 (tCons (tVar 0) (tCons (tCB (rLenS K) (tCons (tVar 3) tNil)) tNil))) (tCons (tOp (rI0 fun i j => .int (i + j)) (tVar 4) (tOp (rI CMul fun i j => .int (i * j)) (tVar 4) (tCall spDraw [] E0 (tCons (tVar 0) (tCons (tC (.int 9)) tNil))))) tNil)))
          (fun _ _ _ _ _ => pe_tup (pa_cons (pe_call GD hr (by rfl) gD kD bD .nil pass0 (pa_cons (pv 0) (pa_cons (pe_callB call_len_seq (by rfl) ml PySem.boot_len (pa_cons (pv 3) pa_nil)) pa_nil)))
            (pa_cons (pe_op op_add (pv 4) (pe_op op_mul (pv 4) (pe_call GD hr (by rfl) gD kD bD .nil pass0 (pa_cons (pv 0) (pa_cons pe_int pa_nil))))) pa_nil))))
      (pss_cons (ps_set (i := 8) scBoard.nd rfl (.inl rfl) (pe_lst pa_nil))
      (pss_cons (ps_for PassesOwn.never rfl (pi_range1 (by rfl) mr (pa_cons (pe_callB call_len_seq (by rfl) ml PySem.boot_len (pa_cons (pv 3) pa_nil)) pa_nil)) (pg_name (i := 9) scBoard.nd rfl (.inr rfl))
        (pss_cons (ps_setLc (i := 10) (own := [("_law_place", 15), ("_law_draw_here", 16)]) (g := gTup K 2 (gCons (gName 15) (gCons (gName 16) gNil))) (tt := tTest (tOp (rIn K false) (tVar 9) (tCall (spWay K) [] E0 (tCons (tVar 6) (tCons (tVar 15) tNil))))) (te := tVar 16)
          (by rfl) scBoard.nd rfl rfl (sw_true rfl rfl rfl (by decide +kernel)) (pi_list (pv 7)) (blkOk_by (own := [("_law_place", 15), ("_law_draw_here", 16)]) (N := nBoard) (sc := defScope sBoard) (by decide +kernel))
          (fun _ _ _ _ _ => pg_tup rfl (pgs_cons (pg_name (i := 15) scBoard.nd rfl (Or.inl rfl)) (pgs_cons (pg_name (i := 16) scBoard.nd rfl (Or.inl rfl)) pgs_nil)))
          (fun _ _ _ _ _ => pts_one (pt_cmpR op_in_seq (pv 9) (pe_call GW hr (by rfl) gW kW bW .nil pass0 (pa_cons (pv 6) (pa_cons (pv 15) pa_nil))) (by rfl))) (fun _ _ _ _ _ => pv 16))
        (pss_cons (ps_set (i := 11) scBoard.nd rfl (.inl rfl) (pe_lst (pa_cons (pe_callB (cr_sum rfl) (by rfl) ms (by decide +kernel) (pa_cons (pv 10) pa_nil))
            (pa_cons (pe_op op_sub (pe_callB (cr_sum rfl) (by rfl) ms (by decide +kernel) (pa_cons (pv 10) pa_nil)) pe_int)
            (pa_cons (pe_op op_fdiv (pe_callB (cr_sum rfl) (by rfl) ms (by decide +kernel) (pa_cons (pv 10) pa_nil)) pe_int)
            (pa_cons (pe_op op_sub (pe_callB (cr_sum rfl) (by rfl) ms (by decide +kernel) (pa_cons (pv 10) pa_nil)) (pe_ix ix_list (pe_op op_cat (pv 10) (pe_lst (pa_cons pe_int pa_nil))) pe_int (fun _ _ => rfl)))
            (pa_cons pe_int (pa_cons (pe_op op_mul pe_int (pe_callB (cr_sum rfl) (by rfl) ms (by decide +kernel) (pa_cons (pv 10) pa_nil))) pa_nil))))))))
        (pss_cons (ps_set (i := 12) scBoard.nd rfl (.inl rfl) (pe_call GP hr (by rfl) gP kP bP .nil pass0 (pa_cons (pv 0) (pa_cons (pe_op op_cat (pv 11) (pe_lst (pa_cons (pe_op op_mul (pv 4)
            (pe_call GD hr (by rfl) gD kD bD .nil pass0 (pa_cons (pv 0) (pa_cons pe_int pa_nil)))) pa_nil))) pa_nil))))
        (pss_one (ps_expr (pe_bm PySem.F.plainAttrs_list PySem.F.slot_list_append PySem.F.type_list_append mt_append (pv 8) (pa_cons (pe_tup (pa_cons (pe_ix ix_list (pv 3) (pv 9) (fun _ _ => rfl))
            (pa_cons (pe_callTy call_int1 (by rfl) mi (by decide +kernel) (pa_cons (pe_callB (call_max2 rfl) (by rfl) mx (by decide +kernel) (pa_cons pe_int (pa_cons (pe_callB (call_min2 rfl) (by rfl) mn (by decide +kernel) (pa_cons pe_int (pa_cons (pv 12) pa_nil))) pa_nil))) pa_nil)) pa_nil))) pa_nil))))))))
      (pss_one (ps_ret (pe_tup (pa_cons (pe_callTy call_tuple_of (by rfl) mt (by decide +kernel) (pa_cons (pv 8) pa_nil)) (pa_cons (pe_callTy call_tuple_of (by rfl) mt (by decide +kernel) (pa_cons (pv 7) pa_nil)) pa_nil))))))))))
, ?_⟩
    have G0 : Ex (hid D A H) (hid D A H) := Ex.refl _
    -- above, step = [-1], one of 1, 1, 10, 11
    refine ⟨1, rfl, (by show 1 ≤ sizeLine; decide), fun p1 np1 => ?_⟩
    obtain ⟨e1, g1⟩ := dk.hidNew (o := .lst [.int (-1)]) np1
    have dk1 := dk.new (o := .lst [.int (-1)]) np1
    obtain ⟨m1, m2, m3⟩ := dk.ne np1
    have np1' : hid D A H p1 = none := hid_none np1
    refine ⟨.ref D, rfl, (by show 4 ≤ sizeLine; decide), fun i1 ni1 => ?_⟩
    obtain ⟨e2, g2⟩ := dk1.hidNew (o := .lst [.int 1, .int 1, .int 10, .int 11]) ni1
    have dk2 := dk1.new (o := .lst [.int 1, .int 1, .int 10, .int 11]) ni1
    have g1' := e2 _ _ g1
    have e02 := e1.trans e2
    obtain ⟨l1, l2, l3⟩ := dk1.ne ni1
    generalize upd (upd H p1 (.lst [.int (-1)])) i1 (.lst [.int 1, .int 1, .int 10, .int 11]) = H2 at dk2 g2 g1' e02 ⊢
    refine ⟨D, A, B, i1, _, rfl, dk2, (of_hid g2).1, l1, l2, by simp, by decide, fun v H3 hv dk3 kp3 => ?_⟩
    have e03 := e02.trans kp3.hid
    have g3 := kp3.hid _ _ g1'
    obtain ⟨st, rfl, st0, st1⟩ : ∃ st : Int, v = .int st ∧ 1 ≤ st ∧ st ≤ 11 := by
      simp at hv
      rcases hv with z | z | z
      · exact ⟨1, z, by decide, by decide⟩
      · exact ⟨10, z, by decide, by decide⟩
      · exact ⟨11, z, by decide, by decide⟩
    refine ⟨(by show 2 ≤ sizeLine; decide), fun t nt => ?_⟩
    obtain ⟨e4, _⟩ := dk3.hidNew (o := .tup [.ref p1, .int st]) nt
    have dk4 := dk3.new (o := .tup [.ref p1, .int st]) nt
    refine ⟨t, _, rfl, SqT.of upd_same, rfl, .ref p1, [.int st], rfl, .int st, [], rfl, rfl, ?_⟩
    have e04 := e03.trans e4
    have g4 := e4 _ _ g3
    generalize upd H3 t (.tup [.ref p1, .int st]) = H4 at dk4 e04 g4 ⊢
    -- for at in range(draw(deck, fuses)): above.append(..)
    refine ⟨.ref D, rfl, .int a, rfl, D, A, B, a, rfl, ha1, by omega, dk4, fun r1 H5 r10 r11 dk5 kp5 => ?_⟩
    have e05 := e04.trans kp5.hid
    have g5 := kp5.hid _ _ g4
    refine ⟨r1, rfl, by omega, by omega, for_range (lo := 0) (n := r1.toNat) (fun i σ H' => ∃ (ab : List Int) (y5 : Option V), σ = [some (.ref D), some (.int a), some (.int b), some (.ref p1), some (.int st), y5, none, none, none, none, none, none, none, none, none, none, none] ∧
        Deck D A B H' ∧ Ex (hid D A H) (hid D A H') ∧ hid D A H' p1 = some (.lst (ab.map V.int)) ∧ ab.length = i + 1 ∧ WF ab) ⟨[-1], none, rfl, dk5, e05, g5, rfl, ?_⟩ ?_ ?_⟩
    · intro i x hx
      cases i with
      | zero =>
        have : x = -1 := by simpa using hx.symm
        subst this
        decide
      | succ i => simp at hx
    · rintro i σ H6 hi ⟨ab, y5, rfl, dk6, e06, g6, hal, wf⟩
      have ei : (0 : Int) + (i : Int) = (i : Int) := Int.zero_add _
      refine ⟨.ref p1, rfl, .inl ⟨rfl, _, SqL.of (of_hid g6).1⟩, .ref D, rfl, _, rfl, .ref D, rfl, _, rfl, _, 1, rfl, rfl, D, A, B, _, rfl, by omega, by omega, dk6, fun r2 H7 r20 r21 dk7 kp7 => ?_⟩
      have e07 := e06.trans kp7.hid
      have g7 := kp7.hid _ _ g6
      refine ⟨(by show 3 ≤ sizeLine; decide), fun i2 ni2 => ?_⟩
      obtain ⟨e8, g8⟩ := dk7.hidNew (o := .lst [.int ((0 : Int) + (i : Int)), .int r2, .int 0]) ni2
      have dk8 := dk7.new (o := .lst [.int ((0 : Int) + (i : Int)), .int r2, .int 0]) ni2
      obtain ⟨l1, l2, l3⟩ := dk7.ne ni2
      have e08 := e07.trans e8
      have g8' := e8 _ _ g7
      generalize upd H7 i2 (.lst [.int ((0 : Int) + (i : Int)), .int r2, .int 0]) = H8 at dk8 g8 e08 g8' ⊢
      refine ⟨D, A, B, i2, _, rfl, dk8, (of_hid g8).1, l1, l2, by simp, (by show 3 < 1000; decide), fun v H9 hv dk9 kp9 => ?_⟩
      have e09 := e08.trans kp9.hid
      have g9 := kp9.hid _ _ g8'
      obtain ⟨x, rfl, x0, x1⟩ : ∃ x : Int, v = .int x ∧ 0 ≤ x ∧ x ≤ (i : Int) := by
        simp at hv
        rcases hv with z | z | z
        · exact ⟨_, z, by omega, by omega⟩
        · exact ⟨r2, z, r20, by omega⟩
        · exact ⟨0, z, by omega, by omega⟩
      refine ⟨p1, _, _, rfl, rfl, (of_hid g9).1, by rw [List.length_map]; exact small1000 (by omega), ab ++ [x], _, rfl, dk9.put ⟨_, (of_hid g9).1⟩ m1 m2 m3, ?_, ?_, by rw [List.length_append, hal]; rfl, ?_⟩
      · rw [hid_upd m1 m2]
        exact e09.mut np1'
      · rw [hid_upd m1 m2, upd_same, List.map_append]
        rfl
      · intro j y hy
        by_cases hj : j < ab.length
        · rw [List.getElem?_append_left hj] at hy
          exact wf j y hy
        · have hj2 : j = ab.length := by
            have := (List.getElem?_eq_some_iff.mp hy).1
            rw [List.length_append] at this
            simp at this
            omega
          subst hj2
          rw [List.getElem?_append_right (Nat.le_refl _), Nat.sub_self] at hy
          simp at hy
          subst hy
          omega
    rintro σ H6 ⟨ab, y5, rfl, dk6, e06, g6, hal, wf⟩
    have hab : ab.length ≤ 20 := by omega
    have hab1 : 1 ≤ ab.length := by omega
    -- tree
    refine ⟨.ref p1, rfl, p1, rfl, ⟨_, SqL.of (of_hid g6).1⟩, fun p2 np2 => ?_⟩
    obtain ⟨n1, n2, n3⟩ := dk6.ne np2
    obtain ⟨e7, g7⟩ := dk6.hidNew (o := .lst []) np2
    have np2' : hid D A H6 p2 = none := hid_none np2
    refine lc_list (K := K) (a := p1) (xs := ab.map V.int) (fun i H' => Deck D A B H' ∧ Ex (hid D A H6) (hid D A H') ∧ ∃ vs, hid D A H' p2 = some (.lst vs) ∧ PsAt K (hid D A H') vs ((ab.take i).map fun x => (x, 0)))
      ⟨dk6.new np2, e7, [], g7, PsAt.nil⟩ (fun i H' _ z => SqL.of (of_hid (z.2.1 _ _ g6)).1) ?_ ?_
    · rintro i x H7 hx ⟨dk7, e7, vs, g7, ps7⟩
      obtain ⟨z, hz, rfl⟩ : ∃ z, ab[i]? = some z ∧ x = V.int z := by
        rw [List.getElem?_map] at hx
        cases e : ab[i]? with
        | none => rw [e] at hx; cases hx
        | some z => rw [e] at hx; exact ⟨z, rfl, (Option.some.inj hx).symm⟩
      have hi : i < ab.length := (List.getElem?_eq_some_iff.mp hz).1
      refine ⟨rfl, .int z, rfl, (by show 2 ≤ sizeLine; decide), fun t nt => ?_⟩
      obtain ⟨e8, g8⟩ := dk7.hidNew (o := .tup [.int z, .int 0]) nt
      have dk8 := dk7.new (o := .tup [.int z, .int 0]) nt
      have g7' := e8 _ _ g7
      have ntp : t ≠ p2 := (ne_of_none (of_hid g7).1 nt).symm
      generalize upd H7 t (.tup [.int z, .int 0]) = H8 at dk8 e8 g8 g7' ⊢
      have hlen : vs.length ≤ 20 := by
        rw [ps7.1, List.length_map, List.length_take]
        omega
      have ez : (ab.take (i + 1)).map (fun x => (x, (0 : Int))) = (ab.take i).map (fun x => (x, (0 : Int))) ++ [(z, 0)] := by
        rw [List.take_add_one, hz, List.map_append]
        rfl
      have e78 := e7.trans e8
      have psn : PsAt K (hid D A H8) (vs ++ [.ref t]) ((ab.take (i + 1)).map fun x => (x, 0)) := by
        rw [ez]
        exact (ps7.ex e8).snoc (SqT.of g8)
      refine ⟨vs, (of_hid g7').1, small1000 (by omega), dk8.put ⟨_, (of_hid g7').1⟩ n1 n2 n3, ?_, vs ++ [.ref t], ?_, ?_⟩
      · rw [hid_upd n1 n2]
        exact e78.mut np2'
      · rw [hid_upd n1 n2, upd_same]
      · rw [hid_upd n1 n2]
        exact psList g7' psn
    rintro H7 ⟨dk7, e7, vt, g7, pst⟩
    rw [List.length_map, List.take_of_length_le (Nat.le_refl _)] at pst
    have e07 := e06.trans e7
    have g17 := e7 _ _ g6
    have wfT : WF ((ab.map fun x => (x, (0 : Int))).map (·.1)) := by
      rw [List.map_map]
      have : ((fun p : Int × Int => p.1) ∘ fun x => (x, (0 : Int))) = id := rfl
      rw [this, List.map_id]
      exact wf
    -- hung
    refine ⟨.ref D, rfl, .int b, rfl, b, 1, rfl, rfl, D, A, B, _, rfl, by omega, by omega, dk7, fun r3 H8 r30 r31 dk8 kp8 => ?_⟩
    have e08 := e07.trans kp8.hid
    have g18 := kp8.hid _ _ g17
    have gt8 := kp8.hid _ _ g7
    have pst8 := pst.ex kp8.hid
    refine ⟨r3, rfl, by omega, by omega, fun p3 np3 => ?_⟩
    obtain ⟨h1, h2, h3⟩ := dk8.ne np3
    obtain ⟨e9, g9⟩ := dk8.hidNew (o := .lst []) np3
    have np3' : hid D A H8 p3 = none := hid_none np3
    refine lc_range (lo := 0) (n := r3.toNat) (fun i H' => Deck D A B H' ∧ Ex (hid D A H8) (hid D A H') ∧ ∃ vs ls, hid D A H' p3 = some (.lst vs) ∧ PsAt K (hid D A H') vs ls ∧ ls.length = i ∧ ∀ p ∈ ls, 0 ≤ p.1 ∧ p.1 < (ab.length : Int) ∧ 1 ≤ p.2 ∧ p.2 ≤ 110)
      ⟨dk8.new np3, e9, [], [], g9, PsAt.nil, rfl, fun p hp => nomatch hp⟩ ?_ ?_
    · rintro i H9 hi ⟨dk9, e9, vs, ls, g9, ps9, hll, hls⟩
      have gab := e9 _ _ g18
      refine ⟨rfl, .ref D, rfl, .ref p1, rfl, p1, _, rfl, .inl (SqL.of (of_hid gab).1), D, A, B, _, rfl, by rw [List.length_map]; omega, by rw [List.length_map]; omega, dk9, fun r4 H10 r40 r41 dk10 kp10 => ?_⟩
      rw [List.length_map] at r41
      refine ⟨.int st, rfl, .int st, rfl, .ref D, rfl, D, A, B, 9, rfl, by decide, by decide, dk10, fun r5 H11 r50 r51 dk11 kp11 => ?_⟩
      refine ⟨st, r5, rfl, rfl, .inl ⟨by omega, by omega⟩, st, st * r5, rfl, rfl, (by show 2 ≤ sizeLine; decide), fun t nt => ?_⟩
      have e11 : Ex (hid D A H9) (hid D A H11) := kp10.hid.trans kp11.hid
      obtain ⟨e12, g12⟩ := dk11.hidNew (o := .tup [.int r4, .int (st + st * r5)]) nt
      have dk12 := dk11.new (o := .tup [.int r4, .int (st + st * r5)]) nt
      have e912 := e11.trans e12
      have g9' := e912 _ _ g9
      generalize upd H11 t (.tup [.int r4, .int (st + st * r5)]) = H12 at dk12 e12 g12 g9' e912 ⊢
      have hlen : vs.length ≤ 31 := by
        rw [ps9.1, hll]
        omega
      have psn : PsAt K (hid D A H12) (vs ++ [.ref t]) (ls ++ [(r4, st + st * r5)]) := (ps9.ex e912).snoc (SqT.of g12)
      have e812 := e9.trans e912
      refine ⟨vs, (of_hid g9').1, small1000 (by omega), dk12.put ⟨_, (of_hid g9').1⟩ h1 h2 h3, ?_, vs ++ [.ref t], ls ++ [(r4, st + st * r5)], ?_, ?_, by rw [List.length_append, hll]; rfl, ?_⟩
      · rw [hid_upd h1 h2]
        exact e812.mut np3'
      · rw [hid_upd h1 h2, upd_same]
      · rw [hid_upd h1 h2]
        exact psList g9' psn
      · intro pr hp
        rcases List.mem_append.mp hp with hp | hp
        · exact hls pr hp
        · have := List.mem_singleton.mp hp
          subst this
          have m0 : 0 ≤ st * r5 := Int.mul_nonneg (by omega) r50
          have m1 : st * r5 ≤ 11 * 8 := Int.mul_le_mul st1 (by omega) r50 (by decide)
          exact ⟨r40, r41, by show 1 ≤ st + st * r5; omega, by show st + st * r5 ≤ 110; omega⟩
    rintro H9 ⟨dk9, e9, vl, ls, g9, psl, hll, hls⟩
    have e09 := e08.trans e9
    have g19 := e9 _ _ g18
    have gt9 := e9 _ _ gt8
    have pst9 := pst8.ex e9
    have hvl : vl.length = ls.length := psl.1
    -- found = []
    refine ⟨Nat.zero_le _, fun p4 np4 => ?_⟩
    obtain ⟨f1, f2, f3⟩ := dk9.ne np4
    obtain ⟨e10, g10⟩ := dk9.hidNew (o := .lst []) np4
    have dk10 := dk9.new (o := .lst []) np4
    have np4' : hid D A H9 p4 = none := hid_none np4
    have g110 := e10 _ _ g19
    generalize upd H9 p4 (.lst []) = H10 at dk10 e10 g10 g110 ⊢
    refine ⟨.ref p1, rfl, p1, _, rfl, .inl (SqL.of (of_hid g110).1), ((ab.map V.int).length : Int), rfl, by rw [List.length_map]; omega, by rw [List.length_map]; omega, for_range (lo := 0) (n := ((ab.map V.int).length : Int).toNat)
      (fun i σ H' => ∃ (vf : List V) (fs : List (Int × Int)) (y9 y10 y11 y12 : Option V), σ = [some (.ref D), some (.int a), some (.int b), some (.ref p1), some (.int st), y5, some (.ref p2), some (.ref p3), some (.ref p4), y9, y10, y11, y12, none, none, none, none] ∧
        Deck D A B H' ∧ Ex (hid D A H9) (hid D A H') ∧ hid D A H' p4 = some (.lst vf) ∧ PsAt K (hid D A H') vf fs ∧ fs.map (·.1) = ab.take i ∧ ∀ p ∈ fs, 0 ≤ p.2 ∧ p.2 ≤ 3000)
      ⟨[], [], none, none, none, none, rfl, dk10, e10, g10, PsAt.nil, rfl, fun p hp => nomatch hp⟩ ?_ ?_⟩
    · rintro i σ H11 hi ⟨vf, fs, y9, y10, y11, y12, rfl, dk11, e11, g11, psf, hfs, hmk⟩
      have hi2 : i < ab.length := by
        rw [List.length_map] at hi
        omega
      have ei : (0 : Int) + (i : Int) = (i : Int) := Int.zero_add _
      -- behind
      have gl11 := e11 _ _ g9
      have gt11 := e11 _ _ gt9
      refine ⟨.ref p3, rfl, p3, rfl, ⟨_, SqL.of (of_hid gl11).1⟩, fun p5 np5 => ?_⟩
      obtain ⟨b1, b2, b3⟩ := dk11.ne np5
      obtain ⟨e12, g12⟩ := dk11.hidNew (o := .lst []) np5
      have np5' : hid D A H11 p5 = none := hid_none np5
      refine lc_list (K := K) (a := p3) (xs := vl) (fun j H' => Deck D A B H' ∧ Ex (hid D A H11) (hid D A H') ∧ ∃ bs : List Int, hid D A H' p5 = some (.lst (bs.map V.int)) ∧ bs.length ≤ j)
        ⟨dk11.new np5, e12, [], g12, Nat.le_refl _⟩ (fun j H' _ z => SqL.of (of_hid (z.2.1 _ _ gl11)).1) ?_ ?_
      · rintro j x H12 hx ⟨dk12, e12, bs, g12, hbs⟩
        have hj : j < ls.length := by
          rw [← hvl]
          exact (List.getElem?_eq_some_iff.mp hx).1
        obtain ⟨pr, hpr⟩ : ∃ pr, ls[j]? = some pr := ⟨ls[j], List.getElem?_eq_getElem hj⟩
        have e1112 := e11.trans e12
        obtain ⟨c, hc1, hc2⟩ := (psl.ex e1112).get hpr
        have ex : x = .ref c := Option.some.inj (hx.symm.trans hc1)
        subst ex
        have hpb := hls pr (List.mem_of_getElem? hpr)
        have gt12 := e12 _ _ gt11
        have rowT : RowAt K H12 p2 (ab.map fun x => (x, 0)) := ⟨vt, .inl (SqL.of (of_hid gt12).1), (pst9.ex e1112).ex ex_hid⟩
        refine ⟨c, _, rfl, ex_t ex_hid hc2, rfl, .int pr.1, [.int pr.2], rfl, .int pr.2, [], rfl, rfl, rfl, ?_⟩
        refine ⟨_, rfl, .ref p2, rfl, .int pr.1, rfl, p2, _, pr.1, rfl, rowT, wfT, hpb.1, by rw [List.length_map]; exact hpb.2.1, by rw [List.length_map]; omega, fun u H13 nu e13 gu => ?_⟩
        have dk13 := dk12.ex e13
        have e13' := hidEx (D := D) (A := A) e13
        have g13 := e13' _ _ g12
        refine ⟨u, _, rfl, .inl (SqL.of gu), rfl, flat_ints _, _, rfl, ?_⟩
        refine ite2 (fun _ => ?_) (fun _ => ?_)
        · refine ⟨.int pr.2, rfl, _, (of_hid g13).1, by rw [List.length_map]; exact small1000 (by omega), dk13.put ⟨_, (of_hid g13).1⟩ b1 b2 b3, ?_, bs ++ [pr.2], ?_, by rw [List.length_append]; simp; omega⟩
          · rw [hid_upd b1 b2]
            exact (e12.trans e13').mut np5'
          · rw [hid_upd b1 b2, upd_same, List.map_append]
            rfl
        · exact ⟨dk13, e12.trans e13', bs, g13, by omega⟩
      rintro H12 ⟨dk12, e12, bs, g12, hbs⟩
      -- some
      have hB : SqL K H12 p5 (bs.map V.int) := SqL.of (of_hid g12).1
      refine ⟨.ref p5, rfl, p5, bs, rfl, hB, .ref p5, rfl, p5, bs, rfl, hB, _, 1, rfl, rfl, .ref p5, rfl, p5, bs, rfl, hB, _, 2, rfl, rfl, ⟨by decide, by decide⟩, .ref p5, rfl, p5, bs, rfl, hB, ?_⟩
      refine ⟨.ref p5, rfl, (by show 1 ≤ sizeLine; decide), fun q1 nq1 => ?_⟩
      obtain ⟨e13, g13⟩ := dk12.hidNew (o := .lst [.int 1]) nq1
      have dk13 := dk12.new (o := .lst [.int 1]) nq1
      have g12' := e13 _ _ g12
      generalize upd H12 q1 (.lst [.int 1]) = H13 at dk13 e13 g13 g12' ⊢
      refine ⟨p5, q1, _, _, rfl, rfl, (of_hid g12').1, (of_hid g13).1, by rw [List.length_map]; exact Nat.le_of_lt (small1000 (by simp; omega)), fun q2 nq2 => ?_⟩
      obtain ⟨e14, g14⟩ := dk13.hidNew (o := .lst (bs.map V.int ++ [.int 1])) nq2
      have dk14 := dk13.new (o := .lst (bs.map V.int ++ [.int 1])) nq2
      have g12'' := e14 _ _ g12'
      generalize upd H13 q2 (.lst (bs.map V.int ++ [.int 1])) = H14 at dk14 e14 g14 g12'' ⊢
      obtain ⟨z, hz⟩ : ∃ z : Int, (bs.map V.int ++ [V.int 1])[0]? = some (.int z) := by
        cases bs with
        | nil => exact ⟨1, rfl⟩
        | cons y r => exact ⟨y, rfl⟩
      have hB2 : SqL K H14 p5 (bs.map V.int) := SqL.of (of_hid g12'').1
      refine ⟨q2, _, 0, _, rfl, rfl, SqL.of (of_hid g14).1, atI_nat (j := 0) hz, _, z, rfl, rfl, .ref p5, rfl, p5, bs, rfl, hB2, 2, _, rfl, rfl, .inl ⟨by decide, by decide⟩, (by show 6 ≤ sizeLine; decide), fun p6 np6 => ?_⟩
      have ezs : [V.int bs.sum, V.int (bs.sum - 1), V.int (bs.sum / 2), V.int (bs.sum - z), V.int 0, V.int (2 * bs.sum)] = [bs.sum, bs.sum - 1, bs.sum / 2, bs.sum - z, 0, 2 * bs.sum].map V.int := rfl
      obtain ⟨zs, ezs2, hzl⟩ : ∃ zs : List Int, [V.int bs.sum, V.int (bs.sum - 1), V.int (bs.sum / 2), V.int (bs.sum - z), V.int 0, V.int (2 * bs.sum)] = zs.map V.int ∧ zs.length = 6 := ⟨_, ezs, rfl⟩
      obtain ⟨e15, g15⟩ := dk14.hidNew (o := .lst [V.int bs.sum, V.int (bs.sum - 1), V.int (bs.sum / 2), V.int (bs.sum - z), V.int 0, V.int (2 * bs.sum)]) np6
      have dk15 := dk14.new (o := .lst [V.int bs.sum, V.int (bs.sum - 1), V.int (bs.sum / 2), V.int (bs.sum - z), V.int 0, V.int (2 * bs.sum)]) np6
      have e1115 : Ex (hid D A H11) (hid D A (upd H14 p6 (.lst [V.int bs.sum, V.int (bs.sum - 1), V.int (bs.sum / 2), V.int (bs.sum - z), V.int 0, V.int (2 * bs.sum)]))) := e12.trans (e13.trans (e14.trans e15))
      generalize upd H14 p6 (.lst [V.int bs.sum, V.int (bs.sum - 1), V.int (bs.sum / 2), V.int (bs.sum - z), V.int 0, V.int (2 * bs.sum)]) = H15 at dk15 g15 e1115 ⊢
      rw [ezs2] at g15
      -- mark = pick(deck, some + [step * draw(deck, 9)])
      refine ⟨.ref D, rfl, .ref p6, rfl, .int st, rfl, .ref D, rfl, D, A, B, 9, rfl, by decide, by decide, dk15, fun r6 H16 r60 r61 dk16 kp16 => ?_⟩
      have e1116 := e1115.trans kp16.hid
      have g16 := kp16.hid _ _ g15
      refine ⟨st, r6, rfl, rfl, .inl ⟨by omega, by omega⟩, (by show 1 ≤ sizeLine; decide), fun q3 nq3 => ?_⟩
      obtain ⟨e17, g17⟩ := dk16.hidNew (o := .lst [.int (st * r6)]) nq3
      have dk17 := dk16.new (o := .lst [.int (st * r6)]) nq3
      have g16' := e17 _ _ g16
      have e1117 := e1116.trans e17
      generalize upd H16 q3 (.lst [.int (st * r6)]) = H17 at dk17 g17 g16' e1117 ⊢
      refine ⟨p6, q3, _, _, rfl, rfl, (of_hid g16').1, (of_hid g17).1, by rw [List.length_map]; exact Nat.le_of_lt (small1000 (by simp; omega)), fun q4 nq4 => ?_⟩
      obtain ⟨e18, g18'⟩ := dk17.hidNew (o := .lst (zs.map V.int ++ [.int (st * r6)])) nq4
      have dk18 := dk17.new (o := .lst (zs.map V.int ++ [.int (st * r6)])) nq4
      have e1118 := e1117.trans e18
      obtain ⟨l1, l2, l3⟩ := dk17.ne nq4
      generalize upd H17 q4 (.lst (zs.map V.int ++ [.int (st * r6)])) = H18 at dk18 g18' e1118 ⊢
      refine ⟨D, A, B, q4, _, rfl, dk18, (of_hid g18').1, l1, l2, by simp, by rw [List.length_append, List.length_map]; simp; omega, fun v H19 hv dk19 kp19 => ?_⟩
      obtain ⟨mk, rfl⟩ : ∃ mk : Int, v = .int mk := by
        rcases List.mem_append.mp hv with hv | hv
        · obtain ⟨y, _, rfl⟩ := List.mem_map.mp hv
          exact ⟨y, rfl⟩
        · exact ⟨_, List.mem_singleton.mp hv⟩
      have e1119 := e1118.trans kp19.hid
      have e919 := e11.trans e1119
      have g119 := e919 _ _ g19
      have g419 := e1119 _ _ g11
      -- found.append((above[fuse], int(max(0, min(3000, mark)))))
      have gabi : (ab.map V.int)[i]? = some (.int ab[i]) := by rw [List.getElem?_map, List.getElem?_eq_getElem hi2] <;> rfl
      refine ⟨.ref p4, rfl, .inl ⟨rfl, _, SqL.of (of_hid g419).1⟩, .ref p1, rfl, _, rfl, p1, _, (0 : Int) + (i : Int), .int ab[i], rfl, rfl, SqL.of (of_hid g119).1, by rw [ei]; exact atI_nat gabi, ?_⟩
      refine ⟨.int mk, rfl, 3000, mk, rfl, 0, _, rfl, .inl ⟨_, rfl, (by show 2 ≤ sizeLine; decide), fun t nt => ?_⟩⟩
      obtain ⟨m, hm⟩ : ∃ m : Int, (if (if mk < 3000 then mk else 3000) > 0 then (if mk < 3000 then mk else 3000) else 0) = m := ⟨_, rfl⟩
      have hm0 : 0 ≤ m ∧ m ≤ 3000 := by
        rw [← hm]
        split <;> split <;> omega
      obtain ⟨e20, g20⟩ := dk19.hidNew (o := .tup [.int ab[i], .int (if (if mk < 3000 then mk else 3000) > 0 then (if mk < 3000 then mk else 3000) else 0)]) nt
      have dk20 := dk19.new (o := .tup [.int ab[i], .int (if (if mk < 3000 then mk else 3000) > 0 then (if mk < 3000 then mk else 3000) else 0)]) nt
      have e1120 := e1119.trans e20
      have e920 := e919.trans e20
      have g420 := e20 _ _ g419
      have gtt : t ≠ p4 := (ne_of_none (of_hid g419).1 nt).symm
      generalize upd H19 t (.tup [.int ab[i], .int (if (if mk < 3000 then mk else 3000) > 0 then (if mk < 3000 then mk else 3000) else 0)]) = H20 at dk20 g20 e1120 e920 g420 ⊢
      rw [hm] at g20
      have psn : PsAt K (hid D A H20) (vf ++ [.ref t]) (fs ++ [(ab[i], m)]) := (psf.ex e1120).snoc (SqT.of g20)
      have hfl : fs.length ≤ 20 := by
        have z := congrArg List.length hfs
        rw [List.length_map, List.length_take] at z
        omega
      refine ⟨p4, _, _, rfl, rfl, (of_hid g420).1, by rw [psf.1]; exact small1000 (by omega), vf ++ [.ref t], fs ++ [(ab[i], m)], _, _, _, _, rfl, dk20.put ⟨_, (of_hid g420).1⟩ f1 f2 f3, ?_, ?_, ?_, ?_, ?_⟩
      · rw [hid_upd f1 f2]
        exact e920.mut np4'
      · rw [hid_upd f1 f2, upd_same]
      · rw [hid_upd f1 f2]
        exact psList g420 psn
      · rw [List.map_append, hfs, List.take_add_one, List.getElem?_eq_getElem hi2]
        rfl
      · intro pr hp
        rcases List.mem_append.mp hp with hp | hp
        · exact hmk pr hp
        · have := List.mem_singleton.mp hp
          subst this
          exact hm0
    rintro σ H11 ⟨vf, fs, y9, y10, y11, y12, rfl, dk11, e11, g11, psf, hfs, hmk⟩
    rw [List.length_map, Int.toNat_natCast, List.take_of_length_le (Nat.le_refl _)] at hfs
    have hfl : fs.length = ab.length := by
      have z := congrArg List.length hfs
      rw [List.length_map] at z
      exact z
    have gl11 := e11 _ _ g9
    -- return (tuple(found), tuple(hung))
    refine ⟨.ref p4, rfl, p4, vf, rfl, .inl ⟨SqL.of (of_hid g11).1, fun t1 nt1 => ?_⟩⟩
    obtain ⟨e12, g12⟩ := dk11.hidNew (o := .tup vf) nt1
    have dk12 := dk11.new (o := .tup vf) nt1
    have gl12 := e12 _ _ gl11
    generalize upd H11 t1 (.tup vf) = H12 at dk12 e12 g12 gl12 ⊢
    refine ⟨.ref p3, rfl, p3, vl, rfl, .inl ⟨SqL.of (of_hid gl12).1, fun t2 nt2 => ?_⟩⟩
    obtain ⟨e13, g13⟩ := dk12.hidNew (o := .tup vl) nt2
    have dk13 := dk12.new (o := .tup vl) nt2
    have g12' := e13 _ _ g12
    have e1113 := e12.trans e13
    generalize upd H12 t2 (.tup vl) = H13 at dk13 e13 g13 g12' e1113 ⊢
    refine ⟨(by show 2 ≤ sizeLine; decide), fun t3 nt3 => ?_⟩
    obtain ⟨e14, g14⟩ := dk13.hidNew (o := .tup [.ref t1, .ref t2]) nt3
    have dk14 := dk13.new (o := .tup [.ref t1, .ref t2]) nt3
    have e1114 := e1113.trans e14
    have e914 := e11.trans e1114
    refine q t3 fs ls _ ⟨by rw [hfs]; exact wf, by omega, by omega, by omega, hmk, fun p hp => ?_⟩ ⟨t1, t2, vf, vl, SqT.of g14, SqT.of (e14 _ _ g12'), psf.ex e1114, SqT.of (e14 _ _ g13), psl.ex e914⟩ dk14 (kp_of_hid (e09.trans e914))
    rw [hfl]
    exact hls p hp
end
end FF
namespace FF
open PySem PySem.Spec PyProof.Rows L2 Evl
abbrev nLaw : List Str := ["_law_script", "_law_deck_here", "_law_turn", "_law_board_here", "_law_fuse", "_law_shown", "_law_ways", "_law_behind", "_law_lamps", "_law_told", "_law_b", "_law_other", "_law_lamp"]
theorem scLaw : FnScope nLaw ["_law_script"] (defScope sLaw) := ⟨rfl, rfl, rfl, by decide +kernel, rfl, by decide +kernel, by decide +kernel⟩
/-- each fuse's way, as the lists of a list at W -/
def WaysAt (H : Hp) (W : Addr) (vs : List V) (ab : List Int) (n : Nat) : Prop := vs.length = n ∧ ∀ (j : Nat) (v : V), vs[j]? = some v → ∃ a, v = .ref a ∧ a ≠ W ∧ H a = some (.lst ((way ab (j : Int)).map V.int))
theorem WaysAt.ex {H H' : Hp} {W : Addr} {vs : List V} {ab : List Int} {n : Nat} (h : WaysAt H W vs ab n) (e : Ex H H') : WaysAt H' W vs ab n := ⟨h.1, fun j v z => let ⟨a, h1, h2, h3⟩ := h.2 j v z; ⟨a, h1, h2, e _ _ h3⟩⟩
theorem WaysAt.put {H : Hp} {W : Addr} {o : HO} {vs : List V} {ab : List Int} {n : Nat} (h : WaysAt H W vs ab n) : WaysAt (upd H W o) W vs ab n := ⟨h.1, fun j v z => let ⟨a, h1, h2, h3⟩ := h.2 j v z; ⟨a, h1, h2, by rw [upd_ne h2]; exact h3⟩⟩
theorem WaysAt.get {H : Hp} {W : Addr} {vs : List V} {ab : List Int} {n j : Nat} (h : WaysAt H W vs ab n) (hj : j < n) : ∃ a, vs[j]? = some (.ref a) ∧ H a = some (.lst ((way ab (j : Int)).map V.int)) := by
  have hl : j < vs.length := by rw [h.1]; exact hj
  obtain ⟨a, e1, _, e2⟩ := h.2 j vs[j] (List.getElem?_eq_getElem hl)
  exact ⟨a, by rw [List.getElem?_eq_getElem hl, e1], e2⟩
theorem WaysAt.snoc {H : Hp} {W : Addr} {vs : List V} {ab : List Int} {n : Nat} {a : Addr} (h : WaysAt H W vs ab n) (hn : a ≠ W) (ha : H a = some (.lst ((way ab (n : Int)).map V.int))) : WaysAt H W (vs ++ [.ref a]) ab (n + 1) := by
  refine ⟨by rw [List.length_append, h.1]; rfl, fun j v z => ?_⟩
  by_cases hj : j < vs.length
  · rw [List.getElem?_append_left hj] at z
    exact h.2 j v z
  · have e : j = vs.length := by
      have := (List.getElem?_eq_some_iff.mp z).1
      rw [List.length_append] at this
      simp at this
      omega
    subst e
    rw [List.getElem?_append_right (Nat.le_refl _), Nat.sub_self] at z
    simp at z
    subst z
    rw [h.1]
    exact ⟨a, rfl, hn, ha⟩
/-- the pairs as data -/
def pairD (p : Int × Int) : PyData := .tuple [.int p.1, .int p.2]
def boardD (fs ls : List (Int × Int)) : PyData := .tuple [.tuple (fs.map pairD), .tuple (ls.map pairD)]
theorem BoardAt.data {K : PySem.W.Frag} {H : Hp} {bd : Addr} {fs ls : List (Int × Int)} (h : BoardAt K H bd fs ls) : Dp K H (.ref bd) (boardD fs ls) := by
  obtain ⟨F, L, vf, vl, h1, h2, h3, h4, h5⟩ := h
  exact .tup h1 (.cons (.tup h2 h3.data) (.cons (.tup h4 h5.data) .nil))
theorem small_int {i : Int} (h0 : -1 ≤ i) (h1 : i < 10000) : i.natAbs < 2 ^ 30 := by omega
theorem swPairs {l : List (Int × Int)} (h : ∀ p ∈ l, (-1 ≤ p.1 ∧ p.1 < 10000) ∧ -1 ≤ p.2 ∧ p.2 < 10000) : Sw (63 * l.length) 2 (.tuple (l.map pairD)) := by
  have a : ∀ d ∈ l.map pairD, Sw 62 1 d := fun d hd => by
    obtain ⟨p, hp, rfl⟩ := List.mem_map.mp hd
    obtain ⟨⟨h1, h2⟩, h3, h4⟩ := h p hp
    exact Sw.tup (SwA.cons (Sw.int (small_int h1 h2)) (SwA.cons (Sw.int (small_int h3 h4)) SwA.nil))
  have q := Sw.tup (SwA.all a)
  rw [List.length_map] at q
  exact q
theorem WB.sw {fs ls : List (Int × Int)} (h : WB fs ls) : Sw 1000000 60 (boardD fs ls) := by
  have a := swPairs (l := fs) fun p hp => by
    obtain ⟨i, hi⟩ := List.getElem?_of_mem hp
    have q := h.wf.get hi
    have r := h.marks p hp
    have il : i < fs.length := (List.getElem?_eq_some_iff.mp hi).1
    have := h.few
    omega
  have b := swPairs (l := ls) fun p hp => by
    have r := h.hung p hp
    have := h.few
    omega
  have c := Sw.tup (SwA.cons a (SwA.cons b SwA.nil))
  refine c.mono ?_ (by decide)
  have := h.few
  have := h.lamps
  omega
theorem swInts {l : List Int} (h : ∀ x ∈ l, 0 ≤ x ∧ x < 10000) : Sw (31 * l.length) 1 (.tuple (l.map PyData.int)) := by
  have a : ∀ d ∈ l.map PyData.int, Sw 30 0 d := fun d hd => by
    obtain ⟨x, hx, rfl⟩ := List.mem_map.mp hd
    obtain ⟨h1, h2⟩ := h x hx
    exact Sw.int (small_int (by omega) h2)
  have q := Sw.tup (SwA.all a)
  rw [List.length_map] at q
  exact q
def toldD (x y z : List Int) : PyData := .list [.tuple (x.map PyData.int), .tuple (y.map PyData.int), .tuple (z.map PyData.int)]
theorem swTold {x y z : List Int} (hx : ∀ i ∈ x, 0 ≤ i ∧ i < 10000) (hy : ∀ i ∈ y, 0 ≤ i ∧ i < 10000) (hz : ∀ i ∈ z, 0 ≤ i ∧ i < 10000) (lx : x.length ≤ 1000) (ly : y.length ≤ 1000) (lz : z.length ≤ 1000) : Sw 1000000 60 (toldD x y z) := by
  have c := Sw.lst (SwA.cons (swInts hx) (SwA.cons (swInts hy) (SwA.cons (swInts hz) SwA.nil)))
  refine c.mono ?_ (by decide)
  omega
section
variable {P : Program} {w : World} {K : PySem.W.Frag} {mg : Str → Option Value} {base : Heap}
theorem ok_law {fDk fP fB fW fWO fFB fLB : Addr} {fdDk fdP fdB fdW fdWO fdFB fdLB : FuncData}
    (GK : FnOk P w K mg base CX0 4 fDk fdDk ["_law_script"] (spDeck K)) (bK : Binds K fdDk ["_law_script"] []) (gK : mg "_law_deck" = some (.ref fDk)) (kK : PySem.W.keepIn K (.ref fDk) = true)
    (GP : FnOk P w K mg base CX0 4 fP fdP ["_law_deck_here", "_law_items"] spPick) (bP : Binds K fdP ["_law_deck_here", "_law_items"] []) (gP : mg "_law_pick" = some (.ref fP)) (kP : PySem.W.keepIn K (.ref fP) = true)
    (GB : FnOk P w K mg base CX0 4 fB fdB ["_law_deck_here", "_law_fuses", "_law_lamps"] (spBoard K)) (bB : Binds K fdB ["_law_deck_here", "_law_fuses", "_law_lamps"] []) (gB : mg "_law_board" = some (.ref fB)) (kB : PySem.W.keepIn K (.ref fB) = true)
    (GW : FnOk P w K mg base CX0 4 fW fdW ["_law_fuses", "_law_fuse"] (spWay K)) (bW : Binds K fdW ["_law_fuses", "_law_fuse"] []) (gW : mg "_law_way" = some (.ref fW)) (kW : PySem.W.keepIn K (.ref fW) = true)
    (G1 : FnOk P w K mg base CX0 4 fWO fdWO ["board", "fuse"] (spWayOf K)) (b1 : Binds K fdWO ["board", "fuse"] []) (g1 : mg "way_of" = some (.ref fWO)) (k1 : PySem.W.keepIn K (.ref fWO) = true)
    (G2 : FnOk P w K mg base CX0 4 fFB fdFB ["board", "fuse"] (spFuses K)) (b2 : Binds K fdFB ["board", "fuse"] []) (g2 : mg "fuses_behind" = some (.ref fFB)) (k2 : PySem.W.keepIn K (.ref fFB) = true)
    (G3 : FnOk P w K mg base CX0 4 fLB fdLB ["board", "fuse"] (spLamps K)) (b3 : Binds K fdLB ["board", "fuse"] []) (g3 : mg "lamps_behind" = some (.ref fLB)) (k3 : PySem.W.keepIn K (.ref fLB) = true)
    (mr : mg "range" = none) (ml : mg "len" = none) (mp : mg "repr" = none) (mt : mg "tuple" = none) (f : Addr) : BodyOk P w K mg base 4 nLaw sLaw f := by
  intro cdv A' outer s H a ns hg hr hS hlen
  refine ⟨_, pss_cons (ps_set (i := 1) scLaw.nd rfl (.inl rfl) (pe_call GK hr (by rfl) gK kK bK .nil pass0 (pa_cons (pv 0) pa_nil)))
    (pss_cons (ps_for PassesOwn.never rfl (pi_range1 (by rfl) mr (pa_cons pe_int pa_nil)) (pg_name (i := 2) scLaw.nd rfl (.inl rfl))
      (pss_cons (ps_set (i := 3) scLaw.nd rfl (.inr rfl) (pe_call GB hr (by rfl) gB kB bB .nil pass0 (pa_cons (pv 1)
          (pa_cons (pe_call GP hr (by rfl) gP kP bP .nil pass0 (pa_cons (pv 1) (pa_cons (pe_lst (pa_cons pe_int (pa_cons pe_int (pa_cons pe_int pa_nil)))) pa_nil)))
          (pa_cons (pe_call GP hr (by rfl) gP kP bP .nil pass0 (pa_cons (pv 1) (pa_cons (pe_lst (pa_cons pe_int (pa_cons pe_int pa_nil))) pa_nil))) pa_nil)))))
      (pss_cons (ps_asg (pe_tup (pa_cons (pe_callB (callRepr hg hr.units) (by rfl) mp (by decide +kernel) (pa_cons (pv 3) pa_nil)) (pa_cons
          (pe_lc (own := [("_law_fuse", 4)]) (g := gName 4) (tt := tYes) (te := tCall (spWay K) [] E0 (tCons (tOp (rIxT K) (tVar 3) (tC (.int 0))) (tCons (tVar 4) tNil))) (by rfl) scLaw.nd
            (pi_range1 (by rfl) mr (pa_cons (pe_callB call_len_seq (by rfl) ml PySem.boot_len (pa_cons (pe_ix ix_tup (pv 3) pe_int (fun _ _ => rfl)) pa_nil)) pa_nil))
            (blkOk_by (own := [("_law_fuse", 4)]) (N := nLaw) (sc := defScope sLaw) (by decide +kernel)) (fun _ _ _ _ _ => pg_name (i := 4) scLaw.nd rfl (Or.inl rfl)) (fun _ _ _ _ _ => pts_nil)
            (fun _ _ _ _ _ => pe_call GW hr (by rfl) gW kW bW .nil pass0 (pa_cons (pe_ix ix_tup (pv 3) pe_int (fun _ _ => rfl)) (pa_cons (pv 4) pa_nil)))) pa_nil)))
          (pg_tup rfl (pgs_cons (pg_name (i := 5) scLaw.nd rfl (.inl rfl)) (pgs_cons (pg_name (i := 6) scLaw.nd rfl (.inr rfl)) pgs_nil))))
      (pss_cons (ps_for PassesOwn.never rfl (pi_range1 (by rfl) mr (pa_cons (pe_callB call_len_seq (by rfl) ml PySem.boot_len (pa_cons (pv 6) pa_nil)) pa_nil)) (pg_name (i := 4) scLaw.nd rfl (.inr rfl))
        (pss_cons (ps_set (i := 7) scLaw.nd rfl (.inl rfl) (pe_callTy call_tuple_of (by rfl) mt (by decide +kernel) (pa_cons
          (pe_lc (own := [("_law_other", 11)]) (g := gName 11) (tt := tAnd (tTest (tOp rNe (tVar 11) (tVar 4))) (tTest (tOp (rIn K false) (tVar 4) (tOp (rIxL K) (tVar 6) (tVar 11))))) (te := tVar 11) (by rfl) scLaw.nd
            (pi_range1 (by rfl) mr (pa_cons (pe_callB call_len_seq (by rfl) ml PySem.boot_len (pa_cons (pv 6) pa_nil)) pa_nil))
            (blkOk_by (own := [("_law_other", 11)]) (N := nLaw) (sc := defScope sLaw) (by decide +kernel)) (fun _ _ _ _ _ => pg_name (i := 11) scLaw.nd rfl (Or.inl rfl))
            (fun _ _ _ _ _ => pts_one (PW.pt (pw_and (pt_cmpR op_ne (pv 11) (pv 4) (nomark _)) (pw_and1 (pt_cmpR op_in_seq (pv 4) (pe_ix ix_list (pv 6) (pv 11) (fun _ _ => rfl)) (by rfl))))))
            (fun _ _ _ _ _ => pv 11)) pa_nil)))
        (pss_cons (ps_set (i := 8) scLaw.nd rfl (.inl rfl) (pe_callTy call_tuple_of (by rfl) mt (by decide +kernel) (pa_cons
          (pe_lc (own := [("_law_lamp", 12)]) (g := gName 12) (tt := tTest (tOp (rIn K false) (tVar 4) (tOp (rIxL K) (tVar 6) (tOp (rIxT K) (tOp (rIxT K) (tOp (rIxT K) (tVar 3) (tC (.int 1))) (tVar 12)) (tC (.int 0)))))) (te := tVar 12) (by rfl) scLaw.nd
            (pi_range1 (by rfl) mr (pa_cons (pe_callB call_len_seq (by rfl) ml PySem.boot_len (pa_cons (pe_ix ix_tup (pv 3) pe_int (fun _ _ => rfl)) pa_nil)) pa_nil))
            (blkOk_by (own := [("_law_lamp", 12)]) (N := nLaw) (sc := defScope sLaw) (by decide +kernel)) (fun _ _ _ _ _ => pg_name (i := 12) scLaw.nd rfl (Or.inl rfl))
            (fun _ _ _ _ _ => pts_one (pt_cmpR op_in_seq (pv 4) (pe_ix ix_list (pv 6) (pe_ix ix_tup (pe_ix ix_tup (pe_ix ix_tup (pv 3) pe_int (fun _ _ => rfl)) (pv 12) (fun _ _ => rfl)) pe_int (fun _ _ => rfl)) (fun _ _ => rfl)) (by rfl)))
            (fun _ _ _ _ _ => pv 12)) pa_nil)))
        (pss_cons (ps_set (i := 9) scLaw.nd rfl (.inl rfl) (pe_lst (pa_cons (pe_call G1 hr (by rfl) g1 k1 b1 .nil pass0 (pa_cons (pv 3) (pa_cons (pv 4) pa_nil)))
          (pa_cons (pe_call G2 hr (by rfl) g2 k2 b2 .nil pass0 (pa_cons (pv 3) (pa_cons (pv 4) pa_nil))) (pa_cons (pe_call G3 hr (by rfl) g3 k3 b3 .nil pass0 (pa_cons (pv 3) (pa_cons (pv 4) pa_nil))) pa_nil)))))
        (pss_one (ps_if (pt_cmpR op_ne (pe_callB (callRepr hg hr.units) (by rfl) mp (by decide +kernel) (pa_cons (pv 9) pa_nil))
            (pe_callB (callRepr hg hr.units) (by rfl) mp (by decide +kernel) (pa_cons (pe_lst (pa_cons (pe_callTy call_tuple_of (by rfl) mt (by decide +kernel) (pa_cons (pe_ix ix_list (pv 6) (pv 4) (fun _ _ => rfl)) pa_nil)) (pa_cons (pv 7) (pa_cons (pv 8) pa_nil)))) pa_nil)) (nomark _))
          (pss_one (ps_ret pe_bl)) pss_nil))))))
      (pss_one (ps_if (pt_cmpR op_ne (pe_callB (callRepr hg hr.units) (by rfl) mp (by decide +kernel) (pa_cons (pv 3) pa_nil)) (pv 5) (nomark _)) (pss_one (ps_ret pe_bl)) pss_nil))))))
    (pss_cons (ps_set (i := 10) scLaw.nd rfl (.inl rfl) (pe_tup (pa_cons
        (pe_tup (pa_cons (pe_tup (pa_cons (pe_un un_neg pe_int) (pa_cons pe_int pa_nil))) (pa_cons (pe_tup (pa_cons pe_int (pa_cons pe_int pa_nil))) (pa_cons (pe_tup (pa_cons pe_int (pa_cons pe_int pa_nil))) pa_nil))))
        (pa_cons (pe_tup (pa_cons (pe_tup (pa_cons pe_int (pa_cons pe_int pa_nil))) (pa_cons (pe_tup (pa_cons pe_int (pa_cons pe_int pa_nil))) (pa_cons (pe_tup (pa_cons pe_int (pa_cons pe_int pa_nil))) (pa_cons (pe_tup (pa_cons pe_int (pa_cons pe_int pa_nil))) pa_nil))))) pa_nil))))
    (pss_one (ps_ret (pe_cmpR (op_eqD hr.units)
      (pe_lst (pa_cons (pe_call G1 hr (by rfl) g1 k1 b1 .nil pass0 (pa_cons (pv 10) (pa_cons pe_int pa_nil))) (pa_cons (pe_call G3 hr (by rfl) g3 k3 b3 .nil pass0 (pa_cons (pv 10) (pa_cons pe_int pa_nil))) (pa_cons (pe_call G3 hr (by rfl) g3 k3 b3 .nil pass0 (pa_cons (pv 10) (pa_cons pe_int pa_nil))) pa_nil))))
      (pe_lst (pa_cons (pe_tup (pa_cons pe_int (pa_cons pe_int pa_nil))) (pa_cons (pe_tup (pa_cons pe_int (pa_cons pe_int pa_nil))) (pa_cons (pe_tup (pa_cons pe_int (pa_cons pe_int (pa_cons pe_int (pa_cons pe_int pa_nil))))) pa_nil)))) (nomark _)))))), ?_⟩
  refine ⟨.ref a, rfl, a, ns, rfl, hS, hlen, fun D A B H1 dk1 => ?_⟩
  refine ⟨6, rfl, by decide, by decide, for_range (lo := 0) (n := 6) (fun i σ H' => ∃ y2 y3 y4 y5 y6 y7 y8 y9 y10 y11 y12 : Option V, σ = [some (.ref a), some (.ref D), y2, y3, y4, y5, y6, y7, y8, y9, y10, y11, y12] ∧ Deck D A B H')
    ⟨none, none, none, none, none, none, none, none, none, none, none, rfl, dk1⟩ ?_ ?_⟩
  · rintro i σ H2 hi ⟨y2, y3, y4, y5, y6, y7, y8, y9, y10, y11, y12, rfl, dk2⟩
    -- board
    refine ⟨.ref D, rfl, .ref D, rfl, (by show 3 ≤ sizeLine; decide), fun i1 ni1 => ?_⟩
    have dk3 := dk2.new (o := .lst [.int 4, .int 9, .int 20]) ni1
    obtain ⟨l1, l2, l3⟩ := dk2.ne ni1
    refine ⟨D, A, B, i1, _, rfl, dk3, upd_same, l1, l2, by simp, by decide, fun v H3 hv dk4 _ => ?_⟩
    obtain ⟨n1, rfl, n10, n11⟩ : ∃ n1 : Int, v = .int n1 ∧ 1 ≤ n1 ∧ n1 ≤ 20 := by
      simp at hv
      rcases hv with z | z | z
      · exact ⟨4, z, by decide, by decide⟩
      · exact ⟨9, z, by decide, by decide⟩
      · exact ⟨20, z, by decide, by decide⟩
    refine ⟨.ref D, rfl, (by show 2 ≤ sizeLine; decide), fun i2 ni2 => ?_⟩
    have dk5 := dk4.new (o := .lst [.int 5, .int 30]) ni2
    obtain ⟨l1, l2, l3⟩ := dk4.ne ni2
    refine ⟨D, A, B, i2, _, rfl, dk5, upd_same, l1, l2, by simp, by decide, fun v H4 hv dk6 _ => ?_⟩
    obtain ⟨n2, rfl, n20, n21⟩ : ∃ n2 : Int, v = .int n2 ∧ 0 ≤ n2 ∧ n2 ≤ 30 := by
      simp at hv
      rcases hv with z | z
      · exact ⟨5, z, by decide, by decide⟩
      · exact ⟨30, z, by decide, by decide⟩
    refine ⟨D, A, B, n1, n2, rfl, dk6, n10, n11, n20, n21, fun bd fs ls H5 wb hb0 dk7 _ => ?_⟩
    have hb : BoardAt K H5 bd fs ls := hb0.ex ex_hid
    have hal : (fs.map (·.1)).length = fs.length := List.length_map ..
    have hfew := wb.few
    have hone := wb.one
    have hlam := wb.lamps
    -- shown, ways
    refine ⟨.ref bd, rfl, bd, _, rfl, hb.data, wb.sw, ?_⟩
    obtain ⟨F, L, vf, vl, hb1, hb2, hb3, hb4, hb5⟩ := id hb
    have hvf : vf.length = fs.length := hb3.1
    have hvl : vl.length = ls.length := hb5.1
    refine ⟨.ref bd, rfl, bd, _, 0, .ref F, rfl, rfl, hb1, atI_nat (j := 0) rfl, F, vf, rfl, .inr hb2, (vf.length : Int), rfl, by omega, by omega, fun W nW => ?_⟩
    refine lc_range (lo := 0) (n := ((vf.length : Nat) : Int).toNat) (fun i H' => Ex H5 H' ∧ ∃ vs, H' W = some (.lst vs) ∧ WaysAt H' W vs (fs.map (·.1)) i) ⟨Ex.new nW, [], upd_same, rfl, fun j v z => by simp at z⟩ ?_ ?_
    · rintro j H6 hj ⟨e6, vs, g6, ws⟩
      have ej : (0 : Int) + (j : Int) = (j : Int) := Int.zero_add _
      have hj2 : j < fs.length := by omega
      refine ⟨rfl, .ref bd, rfl, bd, _, 0, .ref F, rfl, rfl, ex_t e6 hb1, atI_nat (j := 0) rfl, _, rfl, F, fs, (0 : Int) + (j : Int), rfl, ⟨vf, .inr (ex_t e6 hb2), hb3.ex e6⟩, wb.wf, by omega, by omega, by omega, fun p H7 np e7 g7 => ?_⟩
      rw [ej] at g7
      have g67 := e7 _ _ g6
      refine ⟨vs, g67, by rw [ws.1]; exact small1000 (by omega), (e6.trans e7).mut nW, vs ++ [.ref p], upd_same, ?_⟩
      have npW : p ≠ W := (ne_of_none g6 np).symm
      exact ((ws.ex e7).snoc npW g7).put
    rintro H6 ⟨e6, vs, g6, ws⟩
    have evf : ((vf.length : Nat) : Int).toNat = fs.length := by omega
    rw [evf] at ws
    refine ⟨(by show 2 ≤ sizeLine; decide), fun t nt => ?_⟩
    have e57 : Ex H5 (upd H6 t (.tup [.str (boardD fs ls).shown, .ref W])) := e6.trans (Ex.new nt)
    have g7 := (Ex.new (o := .tup [.str (boardD fs ls).shown, .ref W]) nt) _ _ g6
    have ws7 := ws.ex (Ex.new (o := .tup [.str (boardD fs ls).shown, .ref W]) nt)
    refine ⟨t, _, rfl, SqT.of upd_same, rfl, .str (boardD fs ls).shown, [.ref W], rfl, .ref W, [], rfl, rfl, ?_⟩
    generalize upd H6 t (.tup [.str (boardD fs ls).shown, .ref W]) = H7 at e57 g7 ws7 ⊢
    have dk8 := dk7.ex e57
    have hb8 := hb.ex e57
    clear nW ws g6 e6 nt
    have wl : vs.length = fs.length := ws7.1
    -- for fuse in range(len(ways))
    refine ⟨.ref W, rfl, W, vs, rfl, .inl (SqL.of g7), (vs.length : Int), rfl, by omega, by omega, for_range (lo := 0) (n := ((vs.length : Nat) : Int).toNat)
      (fun i σ H' => ∃ y2 y4 y7 y8 y9 y10 y11 y12 : Option V, σ = [some (.ref a), some (.ref D), y2, some (.ref bd), y4, some (.str (boardD fs ls).shown), some (.ref W), y7, y8, y9, y10, y11, y12] ∧ Ex H7 H')
      ⟨_, _, _, _, _, _, _, _, rfl, Ex.refl _⟩ ?_ ?_⟩
    · rintro j σ H8 hj ⟨y2, y4, y7, y8, y9, y10, y11, y12, rfl, e8⟩
      have ej : (0 : Int) + (j : Int) = (j : Int) := Int.zero_add _
      have hj2 : j < fs.length := by omega
      have hb9 := hb8.ex e8
      have g8 := e8 _ _ g7
      have ws8 := ws7.ex e8
      rw [ej]
      -- behind
      refine ⟨.ref W, rfl, W, vs, rfl, .inl (SqL.of g8), (vs.length : Int), rfl, by omega, by omega, fun p1 np1 => ?_⟩
      refine lc_range (lo := 0) (n := ((vs.length : Nat) : Int).toNat) (fun i H' => Ex H8 H' ∧ H' p1 = some (.lst ((sel (isB (fs.map (·.1)) (j : Int)) i).map V.int))) ⟨Ex.new np1, upd_same⟩ ?_ ?_
      · rintro m H9 hm ⟨e9, g9⟩
        have em : (0 : Int) + (m : Int) = (m : Int) := Int.zero_add _
        rw [em]
        obtain ⟨c, c1, c2⟩ := (ws8.ex e9).get (j := m) (by omega)
        have gW := e9 _ _ g8
        have hsz : ((sel (isB (fs.map (·.1)) (j : Int)) m).map V.int).length < sizeLine := by
          rw [List.length_map]
          have := sel_len (isB (fs.map (·.1)) (j : Int)) m
          exact small1000 (by omega)
        have app : isB (fs.map (·.1)) (j : Int) m = true → Ex H8 (upd H9 p1 (.lst ((sel (isB (fs.map (·.1)) (j : Int)) m).map V.int ++ [.int (m : Int)]))) ∧
            upd H9 p1 (.lst ((sel (isB (fs.map (·.1)) (j : Int)) m).map V.int ++ [.int (m : Int)])) p1 = some (.lst ((sel (isB (fs.map (·.1)) (j : Int)) (m + 1)).map V.int)) := fun c => ⟨e9.mut np1, by rw [upd_same, sel_yes c, List.map_append]; rfl⟩
        have no : isB (fs.map (·.1)) (j : Int) m = false → Ex H8 H9 ∧ H9 p1 = some (.lst ((sel (isB (fs.map (·.1)) (j : Int)) (m + 1)).map V.int)) := fun c => ⟨e9, by rw [sel_no c]; exact g9⟩
        have eB : isB (fs.map (·.1)) (j : Int) m = (!decide (V.int (m : Int) = V.int (j : Int)) && inV (.int (j : Int)) ((way (fs.map (·.1)) (m : Int)).map V.int)) := by
          rw [inV_int]
          unfold isB
          congr 1
          by_cases q : (m : Int) = (j : Int)
          · rw [q]; simp
          · rw [decide_eq_true q, decide_eq_false (fun z => q (V.int.inj z))]
            rfl
        refine ⟨rfl, .int (m : Int), rfl, .int (j : Int), rfl, rfl, _, rfl, ?_⟩
        cases q1 : (!decide (V.int (m : Int) = V.int (j : Int))) with
        | false =>
          rw [q1, Bool.false_and] at eB
          exact iteF (iteF (no eB))
        | true =>
          rw [q1, Bool.true_and] at eB
          refine iteT ⟨.int (j : Int), rfl, .ref W, rfl, .int (m : Int), rfl, W, vs, (m : Int), _, rfl, rfl, SqL.of gW, atI_nat c1, c, _, rfl, .inl (SqL.of c2), rfl, flat_ints _, _, rfl, ?_⟩
          show (if inV (.int (j : Int)) ((way (fs.map (·.1)) (m : Int)).map V.int) = true then _ else _)
          rw [← eB]
          cases q2 : isB (fs.map (·.1)) (j : Int) m with
          | true => exact iteT ⟨.int (m : Int), rfl, _, g9, hsz, app q2⟩
          | false => exact iteF (no q2)
      rintro H9 ⟨e9, g9⟩
      have evs : ((vs.length : Nat) : Int).toNat = fs.length := by omega
      rw [evs] at g9
      refine ⟨p1, _, rfl, .inl ⟨SqL.of g9, fun t1 nt1 => ?_⟩⟩
      have e10 : Ex H8 (upd H9 t1 (.tup ((sel (isB (fs.map (·.1)) (j : Int)) fs.length).map V.int))) := e9.trans (Ex.new nt1)
      have g10 : upd H9 t1 (.tup ((sel (isB (fs.map (·.1)) (j : Int)) fs.length).map V.int)) t1 = some (.tup ((sel (isB (fs.map (·.1)) (j : Int)) fs.length).map V.int)) := upd_same
      generalize upd H9 t1 (.tup ((sel (isB (fs.map (·.1)) (j : Int)) fs.length).map V.int)) = H10 at e10 g10 ⊢
      clear e9 g9 nt1 np1
      -- lamps
      obtain ⟨F', L', vf', vl', hc1, hc2, hc3, hc4, hc5⟩ := hb9.ex e10
      have hvl' : vl'.length = ls.length := hc5.1
      refine ⟨.ref bd, rfl, bd, _, 1, .ref L', rfl, rfl, hc1, atI_nat (j := 1) rfl, L', vl', rfl, .inr hc4, (vl'.length : Int), rfl, by omega, by omega, fun p2 np2 => ?_⟩
      refine lc_range (lo := 0) (n := ((vl'.length : Nat) : Int).toNat) (fun i H' => Ex H10 H' ∧ H' p2 = some (.lst ((sel (isL (fs.map (·.1)) ls (j : Int)) i).map V.int))) ⟨Ex.new np2, upd_same⟩ ?_ ?_
      · rintro m H11 hm ⟨e11, g11⟩
        have em : (0 : Int) + (m : Int) = (m : Int) := Int.zero_add _
        rw [em]
        have hml : m < ls.length := by omega
        obtain ⟨pr, hpr⟩ : ∃ pr, ls[m]? = some pr := ⟨ls[m], List.getElem?_eq_getElem hml⟩
        obtain ⟨d, d1, d2⟩ := (hc5.ex e11).get hpr
        have hpb := wb.hung pr (List.mem_of_getElem? hpr)
        have ex' : ((pr.1.toNat : Nat) : Int) = pr.1 := by omega
        obtain ⟨c, c1, c2⟩ := (ws8.ex (e10.trans e11)).get (j := pr.1.toNat) (by omega)
        rw [ex'] at c2
        have gW := (e10.trans e11) _ _ g8
        have eL : isL (fs.map (·.1)) ls (j : Int) m = inV (.int (j : Int)) ((way (fs.map (·.1)) pr.1).map V.int) := by
          rw [inV_int]
          unfold isL
          rw [hpr]
        have hsz : ((sel (isL (fs.map (·.1)) ls (j : Int)) m).map V.int).length < sizeLine := by
          rw [List.length_map]
          have := sel_len (isL (fs.map (·.1)) ls (j : Int)) m
          exact small1000 (by omega)
        refine ⟨rfl, .int (j : Int), rfl, .ref W, rfl, .ref bd, rfl, bd, _, 1, .ref L', rfl, rfl, ex_t e11 hc1, atI_nat (j := 1) rfl, .int (m : Int), rfl, L', vl', (m : Int), _, rfl, rfl, ex_t e11 hc4, atI_nat d1, d, _, 0, .int pr.1, rfl, rfl, d2, atI_nat (j := 0) rfl, ?_⟩
        refine ⟨W, vs, pr.1, .ref c, rfl, rfl, SqL.of gW, by rw [← ex']; exact atI_nat c1, c, _, rfl, .inl (SqL.of c2), rfl, flat_ints _, _, rfl, ?_⟩
        show (if inV (.int (j : Int)) ((way (fs.map (·.1)) pr.1).map V.int) = true then _ else _)
        rw [← eL]
        cases q2 : isL (fs.map (·.1)) ls (j : Int) m with
        | true => exact iteT ⟨.int (m : Int), rfl, _, g11, hsz, e11.mut np2, by rw [upd_same, sel_yes q2, List.map_append]; rfl⟩
        | false => exact iteF ⟨e11, by rw [sel_no q2]; exact g11⟩
      rintro H11 ⟨e11, g11⟩
      have evs2 : ((vl'.length : Nat) : Int).toNat = ls.length := by omega
      rw [evs2] at g11
      refine ⟨p2, _, rfl, .inl ⟨SqL.of g11, fun t2 nt2 => ?_⟩⟩
      have e12 : Ex H10 (upd H11 t2 (.tup ((sel (isL (fs.map (·.1)) ls (j : Int)) ls.length).map V.int))) := e11.trans (Ex.new nt2)
      have g12 : upd H11 t2 (.tup ((sel (isL (fs.map (·.1)) ls (j : Int)) ls.length).map V.int)) t2 = some (.tup ((sel (isL (fs.map (·.1)) ls (j : Int)) ls.length).map V.int)) := upd_same
      generalize upd H11 t2 (.tup ((sel (isL (fs.map (·.1)) ls (j : Int)) ls.length).map V.int)) = H12 at e12 g12 ⊢
      clear e11 g11 nt2 np2
      -- told
      have e812 := e10.trans e12
      have jb : (0 : Int) ≤ (j : Int) ∧ (j : Int) < fs.length := ⟨by omega, by omega⟩
      refine ⟨.ref bd, rfl, .int (j : Int), rfl, bd, fs, ls, (j : Int), rfl, hb9.ex e812, wb.wf, jb.1, jb.2, by omega, fun w1 H13 _ e13 g13 => ?_⟩
      refine ⟨.ref bd, rfl, .int (j : Int), rfl, bd, fs, ls, (j : Int), rfl, hb9.ex (e812.trans e13), wb.wf, jb.1, jb.2, by omega, fun w2 H14 _ e14 g14 => ?_⟩
      refine ⟨.ref bd, rfl, .int (j : Int), rfl, bd, fs, ls, (j : Int), rfl, hb9.ex ((e812.trans e13).trans e14), wb.wf, jb.1, jb.2, by omega, by omega, (fun m p hp => by
        have := wb.hung p (List.mem_of_getElem? hp)
        exact ⟨this.1, this.2.1⟩), fun w3 H15 _ e15 g15 => ?_⟩
      refine ⟨(by show 3 ≤ sizeLine; decide), fun p3 np3 => ?_⟩
      have e16 : Ex H15 (upd H15 p3 (.lst [.ref w1, .ref w2, .ref w3])) := Ex.new np3
      have g16 : upd H15 p3 (.lst [.ref w1, .ref w2, .ref w3]) p3 = some (.lst [.ref w1, .ref w2, .ref w3]) := upd_same
      generalize upd H15 p3 (.lst [.ref w1, .ref w2, .ref w3]) = H16 at e16 g16 ⊢
      have q1 := e16 _ _ (e15 _ _ (e14 _ _ g13))
      have q2 := e16 _ _ (e15 _ _ g14)
      have q3 := e16 _ _ g15
      have e1216 := ((e13.trans e14).trans e15).trans e16
      have sw : Sw 1000000 60 (toldD (way (fs.map (·.1)) (j : Int)) (sel (isB (fs.map (·.1)) (j : Int)) fs.length) (sel (isL (fs.map (·.1)) ls (j : Int)) ls.length)) := by
        refine swTold (fun x hx => ?_) (fun x hx => ?_) (fun x hx => ?_) ?_ ?_ ?_
        · have := way_bound wb.wf hx
          omega
        · have := sel_data hx
          omega
        · have := sel_data hx
          omega
        · have := wayI_len (ab := fs.map (·.1)) ((fs.map (·.1)).length + 1) (j : Int)
          unfold way
          omega
        · have := sel_len (isB (fs.map (·.1)) (j : Int)) fs.length
          omega
        · have := sel_len (isL (fs.map (·.1)) ls (j : Int)) ls.length
          omega
      have toldAt : ∀ {H' : Hp} {q u1 u2 u3 : Addr}, H' q = some (.lst [.ref u1, .ref u2, .ref u3]) → H' u1 = some (.tup ((way (fs.map (·.1)) (j : Int)).map V.int)) → H' u2 = some (.tup ((sel (isB (fs.map (·.1)) (j : Int)) fs.length).map V.int)) →
          H' u3 = some (.tup ((sel (isL (fs.map (·.1)) ls (j : Int)) ls.length).map V.int)) → Dp K H' (.ref q) (toldD (way (fs.map (·.1)) (j : Int)) (sel (isB (fs.map (·.1)) (j : Int)) fs.length) (sel (isL (fs.map (·.1)) ls (j : Int)) ls.length)) := fun a0 a1 a2 a3 =>
        .lst (SqL.of a0) (.cons (.tup (SqT.of a1) (dpInts _)) (.cons (.tup (SqT.of a2) (dpInts _)) (.cons (.tup (SqT.of a3) (dpInts _)) .nil)))
      -- repr(told) != repr(..)
      refine ⟨.ref p3, rfl, p3, _, rfl, toldAt g16 q1 q2 q3, sw, ?_⟩
      obtain ⟨c, c1, c2⟩ := (ws8.ex (e812.trans e1216)).get (j := j) (by omega)
      have gW := (e812.trans e1216) _ _ g8
      refine ⟨.ref W, rfl, .int (j : Int), rfl, W, vs, (j : Int), _, rfl, rfl, SqL.of gW, atI_nat c1, c, _, rfl, .inl ⟨SqL.of c2, fun u1 nu1 => ?_⟩⟩
      have e17 : Ex H16 (upd H16 u1 (.tup ((way (fs.map (·.1)) (j : Int)).map V.int))) := Ex.new nu1
      have g17 : upd H16 u1 (.tup ((way (fs.map (·.1)) (j : Int)).map V.int)) u1 = some (.tup ((way (fs.map (·.1)) (j : Int)).map V.int)) := upd_same
      generalize upd H16 u1 (.tup ((way (fs.map (·.1)) (j : Int)).map V.int)) = H17 at e17 g17 ⊢
      refine ⟨.ref t1, rfl, .ref t2, rfl, (by show 3 ≤ sizeLine; decide), fun p4 np4 => ?_⟩
      have e18 : Ex H17 (upd H17 p4 (.lst [.ref u1, .ref t1, .ref t2])) := Ex.new np4
      have g18 : upd H17 p4 (.lst [.ref u1, .ref t1, .ref t2]) p4 = some (.lst [.ref u1, .ref t1, .ref t2]) := upd_same
      generalize upd H17 p4 (.lst [.ref u1, .ref t1, .ref t2]) = H18 at e18 g18 ⊢
      have e1218 := (e1216.trans e17).trans e18
      refine ⟨p4, _, rfl, toldAt g18 (e18 _ _ g17) ((e12.trans e1218) _ _ g10) (e1218 _ _ g12), sw, rfl, _, rfl, ?_⟩
      have ed : (!decide (V.str (toldD (way (fs.map (·.1)) (j : Int)) (sel (isB (fs.map (·.1)) (j : Int)) fs.length) (sel (isL (fs.map (·.1)) ls (j : Int)) ls.length)).shown = V.str (toldD (way (fs.map (·.1)) (j : Int)) (sel (isB (fs.map (·.1)) (j : Int)) fs.length) (sel (isL (fs.map (·.1)) ls (j : Int)) ls.length)).shown)) = false := by
        rw [decide_eq_true rfl]
        rfl
      rw [ed]
      exact iteF ⟨_, _, _, _, _, _, _, _, rfl, e8.trans (e812.trans e1218)⟩
    · rintro σ H8 ⟨y2, y4, y7, y8, y9, y10, y11, y12, rfl, e8⟩
      refine ⟨.ref bd, rfl, bd, _, rfl, (hb8.ex e8).data, wb.sw, .str (boardD fs ls).shown, rfl, rfl, _, rfl, ?_⟩
      have ed : (!decide (V.str (boardD fs ls).shown = V.str (boardD fs ls).shown)) = false := by
        rw [decide_eq_true rfl]
        rfl
      rw [ed]
      exact iteF ⟨_, _, _, _, _, _, _, _, _, _, _, rfl, dk8.ex e8⟩
  · rintro σ H2 ⟨y2, y3, y4, y5, y6, y7, y8, y9, y10, y11, y12, rfl, _⟩
    have two : 2 ≤ sizeLine := by decide
    refine ⟨1, rfl, (by show 2 ≤ sizeLine; decide), fun a1 na1 => ?_⟩
    have x0 : Ex H2 (upd H2 a1 (.tup [.int (-1), .int 6])) := Ex.new na1
    have g0 : upd H2 a1 (.tup [.int (-1), .int 6]) a1 = some (.tup [.int (-1), .int 6]) := upd_same
    generalize upd H2 a1 (.tup [.int (-1), .int 6]) = I0 at x0 g0 ⊢
    refine ⟨(by show 2 ≤ sizeLine; decide), fun a2 na2 => ?_⟩
    have x1 : Ex I0 (upd I0 a2 (.tup [.int 0, .int 4])) := Ex.new na2
    have g1 : upd I0 a2 (.tup [.int 0, .int 4]) a2 = some (.tup [.int 0, .int 4]) := upd_same
    generalize upd I0 a2 (.tup [.int 0, .int 4]) = I1 at x1 g1 ⊢
    refine ⟨(by show 2 ≤ sizeLine; decide), fun a3 na3 => ?_⟩
    have x2 : Ex I1 (upd I1 a3 (.tup [.int 0, .int 5])) := Ex.new na3
    have g2 : upd I1 a3 (.tup [.int 0, .int 5]) a3 = some (.tup [.int 0, .int 5]) := upd_same
    generalize upd I1 a3 (.tup [.int 0, .int 5]) = I2 at x2 g2 ⊢
    refine ⟨(by show 3 ≤ sizeLine; decide), fun F nF => ?_⟩
    have x3 : Ex I2 (upd I2 F (.tup [.ref a1, .ref a2, .ref a3])) := Ex.new nF
    have g3 : upd I2 F (.tup [.ref a1, .ref a2, .ref a3]) F = some (.tup [.ref a1, .ref a2, .ref a3]) := upd_same
    generalize upd I2 F (.tup [.ref a1, .ref a2, .ref a3]) = I3 at x3 g3 ⊢
    refine ⟨(by show 2 ≤ sizeLine; decide), fun c1 nc1 => ?_⟩
    have x4 : Ex I3 (upd I3 c1 (.tup [.int 1, .int 3])) := Ex.new nc1
    have g4 : upd I3 c1 (.tup [.int 1, .int 3]) c1 = some (.tup [.int 1, .int 3]) := upd_same
    generalize upd I3 c1 (.tup [.int 1, .int 3]) = I4 at x4 g4 ⊢
    refine ⟨(by show 2 ≤ sizeLine; decide), fun c2 nc2 => ?_⟩
    have x5 : Ex I4 (upd I4 c2 (.tup [.int 1, .int 2])) := Ex.new nc2
    have g5 : upd I4 c2 (.tup [.int 1, .int 2]) c2 = some (.tup [.int 1, .int 2]) := upd_same
    generalize upd I4 c2 (.tup [.int 1, .int 2]) = I5 at x5 g5 ⊢
    refine ⟨(by show 2 ≤ sizeLine; decide), fun c3 nc3 => ?_⟩
    have x6 : Ex I5 (upd I5 c3 (.tup [.int 2, .int 4])) := Ex.new nc3
    have g6 : upd I5 c3 (.tup [.int 2, .int 4]) c3 = some (.tup [.int 2, .int 4]) := upd_same
    generalize upd I5 c3 (.tup [.int 2, .int 4]) = I6 at x6 g6 ⊢
    refine ⟨(by show 2 ≤ sizeLine; decide), fun c4 nc4 => ?_⟩
    have x7 : Ex I6 (upd I6 c4 (.tup [.int 0, .int 1])) := Ex.new nc4
    have g7 : upd I6 c4 (.tup [.int 0, .int 1]) c4 = some (.tup [.int 0, .int 1]) := upd_same
    generalize upd I6 c4 (.tup [.int 0, .int 1]) = I7 at x7 g7 ⊢
    refine ⟨(by show 4 ≤ sizeLine; decide), fun L nL => ?_⟩
    have x8 : Ex I7 (upd I7 L (.tup [.ref c1, .ref c2, .ref c3, .ref c4])) := Ex.new nL
    have g8 : upd I7 L (.tup [.ref c1, .ref c2, .ref c3, .ref c4]) L = some (.tup [.ref c1, .ref c2, .ref c3, .ref c4]) := upd_same
    generalize upd I7 L (.tup [.ref c1, .ref c2, .ref c3, .ref c4]) = I8 at x8 g8 ⊢
    refine ⟨(by show 2 ≤ sizeLine; decide), fun bd nbd => ?_⟩
    have x9 : Ex I8 (upd I8 bd (.tup [.ref F, .ref L])) := Ex.new nbd
    have g9 : upd I8 bd (.tup [.ref F, .ref L]) bd = some (.tup [.ref F, .ref L]) := upd_same
    generalize upd I8 bd (.tup [.ref F, .ref L]) = I9 at x9 g9 ⊢
    have f0 := (x9 _ _ (x8 _ _ (x7 _ _ (x6 _ _ (x5 _ _ (x4 _ _ (x3 _ _ (x2 _ _ (x1 _ _ g0)))))))))
    have f1 := (x9 _ _ (x8 _ _ (x7 _ _ (x6 _ _ (x5 _ _ (x4 _ _ (x3 _ _ (x2 _ _ g1))))))))
    have f2 := (x9 _ _ (x8 _ _ (x7 _ _ (x6 _ _ (x5 _ _ (x4 _ _ (x3 _ _ g2)))))))
    have f3 := (x9 _ _ (x8 _ _ (x7 _ _ (x6 _ _ (x5 _ _ (x4 _ _ g3))))))
    have f4 := (x9 _ _ (x8 _ _ (x7 _ _ (x6 _ _ (x5 _ _ g4)))))
    have f5 := (x9 _ _ (x8 _ _ (x7 _ _ (x6 _ _ g5))))
    have f6 := (x9 _ _ (x8 _ _ (x7 _ _ g6)))
    have f7 := (x9 _ _ (x8 _ _ g7))
    have f8 := (x9 _ _ g8)
    have bt : BoardAt K I9 bd [(-1, 6), (0, 4), (0, 5)] [(1, 3), (1, 2), (2, 4), (0, 1)] := by
      refine ⟨F, L, _, _, SqT.of g9, SqT.of f3, ?_, SqT.of f8, ?_⟩
      · exact ((PsAt.nil.snoc (p := (-1, 6)) (SqT.of f0)).snoc (p := (0, 4)) (SqT.of f1)).snoc (p := (0, 5)) (SqT.of f2)
      · exact (((PsAt.nil.snoc (p := (1, 3)) (SqT.of f4)).snoc (p := (1, 2)) (SqT.of f5)).snoc (p := (2, 4)) (SqT.of f6)).snoc (p := (0, 1)) (SqT.of f7)
    have wf : WF (([(-1, 6), (0, 4), (0, 5)] : List (Int × Int)).map (·.1)) := by
      intro i x hx
      match i, hx with
      | 0, hx => have : x = -1 := by simpa using hx.symm
                 subst this; decide
      | 1, hx => have : x = 0 := by simpa using hx.symm
                 subst this; decide
      | 2, hx => have : x = 0 := by simpa using hx.symm
                 subst this; decide
      | i + 3, hx => simp at hx
    have lm : ∀ (j : Nat) (p : Int × Int), ([(1, 3), (1, 2), (2, 4), (0, 1)] : List (Int × Int))[j]? = some p → 0 ≤ p.1 ∧ p.1 < (([(-1, 6), (0, 4), (0, 5)] : List (Int × Int)).length : Int) := by
      intro j p hp
      have hm := List.mem_of_getElem? hp
      simp at hm
      rcases hm with z | z | z | z <;> (subst z; decide)
    have v1 : way (([(-1, 6), (0, 4), (0, 5)] : List (Int × Int)).map (·.1)) 2 = [2, 0] := by decide
    have v2 : sel (isL (([(-1, 6), (0, 4), (0, 5)] : List (Int × Int)).map (·.1)) [(1, 3), (1, 2), (2, 4), (0, 1)] 1) 4 = [0, 1] := by decide
    have v3 : sel (isL (([(-1, 6), (0, 4), (0, 5)] : List (Int × Int)).map (·.1)) [(1, 3), (1, 2), (2, 4), (0, 1)] 0) 4 = [0, 1, 2, 3] := by decide
    refine ⟨.ref bd, rfl, bd, _, _, 2, rfl, bt, wf, by decide, by decide, by decide, fun w1 J1 _ y1 k1 => ?_⟩
    rw [v1] at k1
    refine ⟨.ref bd, rfl, bd, _, _, 1, rfl, bt.ex y1, wf, by decide, by decide, by decide, by decide, lm, fun w2 J2 _ y2' k2 => ?_⟩
    replace k2 : J2 w2 = some (.tup (([0, 1] : List Int).map V.int)) := by rw [← v2]; exact k2
    refine ⟨.ref bd, rfl, bd, _, _, 0, rfl, bt.ex (y1.trans y2'), wf, by decide, by decide, by decide, by decide, lm, fun w3 J3 _ y3' k3 => ?_⟩
    replace k3 : J3 w3 = some (.tup (([0, 1, 2, 3] : List Int).map V.int)) := by rw [← v3]; exact k3
    refine ⟨(by show 3 ≤ sizeLine; decide), fun q1 nq1 => ?_⟩
    have y4' : Ex J3 (upd J3 q1 (.lst [.ref w1, .ref w2, .ref w3])) := Ex.new nq1
    have k4 : upd J3 q1 (.lst [.ref w1, .ref w2, .ref w3]) q1 = some (.lst [.ref w1, .ref w2, .ref w3]) := upd_same
    generalize upd J3 q1 (.lst [.ref w1, .ref w2, .ref w3]) = J4 at y4' k4 ⊢
    refine ⟨(by show 2 ≤ sizeLine; decide), fun u1 nu1 => ?_⟩
    have y5' : Ex J4 (upd J4 u1 (.tup [.int 2, .int 0])) := Ex.new nu1
    have k5 : upd J4 u1 (.tup [.int 2, .int 0]) u1 = some (.tup [.int 2, .int 0]) := upd_same
    generalize upd J4 u1 (.tup [.int 2, .int 0]) = J5 at y5' k5 ⊢
    refine ⟨(by show 2 ≤ sizeLine; decide), fun u2 nu2 => ?_⟩
    have y6' : Ex J5 (upd J5 u2 (.tup [.int 0, .int 1])) := Ex.new nu2
    have k6 : upd J5 u2 (.tup [.int 0, .int 1]) u2 = some (.tup [.int 0, .int 1]) := upd_same
    generalize upd J5 u2 (.tup [.int 0, .int 1]) = J6 at y6' k6 ⊢
    refine ⟨(by show 4 ≤ sizeLine; decide), fun u3 nu3 => ?_⟩
    have y7' : Ex J6 (upd J6 u3 (.tup [.int 0, .int 1, .int 2, .int 3])) := Ex.new nu3
    have k7 : upd J6 u3 (.tup [.int 0, .int 1, .int 2, .int 3]) u3 = some (.tup [.int 0, .int 1, .int 2, .int 3]) := upd_same
    generalize upd J6 u3 (.tup [.int 0, .int 1, .int 2, .int 3]) = J7 at y7' k7 ⊢
    refine ⟨(by show 3 ≤ sizeLine; decide), fun q2 nq2 => ?_⟩
    have y8' : Ex J7 (upd J7 q2 (.lst [.ref u1, .ref u2, .ref u3])) := Ex.new nq2
    have k8 : upd J7 q2 (.lst [.ref u1, .ref u2, .ref u3]) q2 = some (.lst [.ref u1, .ref u2, .ref u3]) := upd_same
    generalize upd J7 q2 (.lst [.ref u1, .ref u2, .ref u3]) = J8 at y8' k8 ⊢
    have e48 := ((y5'.trans y6').trans y7').trans y8'
    have e38 := y4'.trans e48
    refine ⟨.list [.tuple [.int 2, .int 0], .tuple [.int 0, .int 1], .tuple [.int 0, .int 1, .int 2, .int 3]], .list [.tuple [.int 2, .int 0], .tuple [.int 0, .int 1], .tuple [.int 0, .int 1, .int 2, .int 3]], ?_, ?_, by decide, by decide, ?_⟩
    · exact .lst (SqL.of (e48 _ _ k4)) (.cons (.tup (SqT.of (e38 _ _ (y3' _ _ (y2' _ _ k1)))) (dpInts [2, 0])) (.cons (.tup (SqT.of (e38 _ _ (y3' _ _ k2))) (dpInts [0, 1])) (.cons (.tup (SqT.of (e38 _ _ k3)) (dpInts [0, 1, 2, 3])) .nil)))
    · exact .lst (SqL.of k8) (.cons (.tup (SqT.of (y8' _ _ (y7' _ _ (y6' _ _ k5)))) (dpInts [2, 0])) (.cons (.tup (SqT.of (y8' _ _ (y7' _ _ k6))) (dpInts [0, 1])) (.cons (.tup (SqT.of (y8' _ _ k7)) (dpInts [0, 1, 2, 3])) .nil)))
    · rfl
end
end FF
namespace FF
open PySem PySem.Spec PyProof.Rows L2 Evl
theorem all_mk {l : PySem.W.OpenLaw} {w : World} {K : PySem.W.Frag} {h : Heap} {mg : Str → Option Value} {fa fWO fFB fLB fDK fDR fPK fWY fBD fLW : Addr} (X : K.In h) (G : h.Ns mainGlobals mg) (hfa : mg "law" = some (.ref fa))
    {odWO anWO odFB anFB odLB anLB odDK anDK odDR anDR odPK anPK odWY anWY odBD anBD odLW anLW : Option Addr} {slWO slFB slLB slDK slDR slPK slWY slBD slLW : Array (Option Value)} {ocWO kVWO dcWO pmWO cdWO ctWO ocFB kVFB dcFB pmFB cdFB ctFB ocLB kVLB dcLB pmLB cdLB ctLB ocDK kVDK dcDK pmDK cdDK ctDK ocDR kVDR dcDR pmDR cdDR ctDR ocPK kVPK dcPK pmPK cdPK ctPK ocWY kVWY dcWY pmWY cdWY ctWY ocBD kVBD dcBD pmBD cdBD ctBD ocLW kVLW dcLW pmLW cdLW ctLW : Value}
    (aWO : PySem.W.nsIn K mainGlobals "way_of" = some (some (.ref fWO))) (lWO : K.lookup fWO = some ⟨ocWO, odWO, .func (PySem.W.fnOf "way_of" "way_of" (defArgs sWayOf) (defBody sWayOf) (defScope sWayOf) .none kVWO dcWO pmWO anWO cdWO ctWO), slWO⟩) (cWO : PySem.W.codeIn K cdWO "way_of" = true) (kWO : PySem.W.keepIn K (.ref fWO) = true)
    (aFB : PySem.W.nsIn K mainGlobals "fuses_behind" = some (some (.ref fFB))) (lFB : K.lookup fFB = some ⟨ocFB, odFB, .func (PySem.W.fnOf "fuses_behind" "fuses_behind" (defArgs sFuses) (defBody sFuses) (defScope sFuses) .none kVFB dcFB pmFB anFB cdFB ctFB), slFB⟩) (cFB : PySem.W.codeIn K cdFB "fuses_behind" = true) (kFB : PySem.W.keepIn K (.ref fFB) = true)
    (aLB : PySem.W.nsIn K mainGlobals "lamps_behind" = some (some (.ref fLB))) (lLB : K.lookup fLB = some ⟨ocLB, odLB, .func (PySem.W.fnOf "lamps_behind" "lamps_behind" (defArgs sLamps) (defBody sLamps) (defScope sLamps) .none kVLB dcLB pmLB anLB cdLB ctLB), slLB⟩) (cLB : PySem.W.codeIn K cdLB "lamps_behind" = true) (kLB : PySem.W.keepIn K (.ref fLB) = true)
    (aDK : PySem.W.nsIn K mainGlobals "_law_deck" = some (some (.ref fDK))) (lDK : K.lookup fDK = some ⟨ocDK, odDK, .func (PySem.W.fnOf "_law_deck" "_law_deck" (defArgs sDeck) (defBody sDeck) (defScope sDeck) .none kVDK dcDK pmDK anDK cdDK ctDK), slDK⟩) (cDK : PySem.W.codeIn K cdDK "_law_deck" = true) (kDK : PySem.W.keepIn K (.ref fDK) = true)
    (aDR : PySem.W.nsIn K mainGlobals "_law_draw" = some (some (.ref fDR))) (lDR : K.lookup fDR = some ⟨ocDR, odDR, .func (PySem.W.fnOf "_law_draw" "_law_draw" (defArgs sDraw) (defBody sDraw) (defScope sDraw) .none kVDR dcDR pmDR anDR cdDR ctDR), slDR⟩) (cDR : PySem.W.codeIn K cdDR "_law_draw" = true) (kDR : PySem.W.keepIn K (.ref fDR) = true)
    (aPK : PySem.W.nsIn K mainGlobals "_law_pick" = some (some (.ref fPK))) (lPK : K.lookup fPK = some ⟨ocPK, odPK, .func (PySem.W.fnOf "_law_pick" "_law_pick" (defArgs sPick) (defBody sPick) (defScope sPick) .none kVPK dcPK pmPK anPK cdPK ctPK), slPK⟩) (cPK : PySem.W.codeIn K cdPK "_law_pick" = true) (kPK : PySem.W.keepIn K (.ref fPK) = true)
    (aWY : PySem.W.nsIn K mainGlobals "_law_way" = some (some (.ref fWY))) (lWY : K.lookup fWY = some ⟨ocWY, odWY, .func (PySem.W.fnOf "_law_way" "_law_way" (defArgs sWay) (defBody sWay) (defScope sWay) .none kVWY dcWY pmWY anWY cdWY ctWY), slWY⟩) (cWY : PySem.W.codeIn K cdWY "_law_way" = true) (kWY : PySem.W.keepIn K (.ref fWY) = true)
    (aBD : PySem.W.nsIn K mainGlobals "_law_board" = some (some (.ref fBD))) (lBD : K.lookup fBD = some ⟨ocBD, odBD, .func (PySem.W.fnOf "_law_board" "_law_board" (defArgs sBoard) (defBody sBoard) (defScope sBoard) .none kVBD dcBD pmBD anBD cdBD ctBD), slBD⟩) (cBD : PySem.W.codeIn K cdBD "_law_board" = true) (kBD : PySem.W.keepIn K (.ref fBD) = true)
    (aLW : PySem.W.nsIn K mainGlobals "law" = some (some (.ref fLW))) (lLW : K.lookup fLW = some ⟨ocLW, odLW, .func (PySem.W.fnOf "law" "law" (defArgs sLaw) (defBody sLaw) (defScope sLaw) .none kVLW dcLW pmLW anLW cdLW ctLW), slLW⟩) (cLW : PySem.W.codeIn K cdLW "law" = true) (kLW : PySem.W.keepIn K (.ref fLW) = true)
    (zlen : PySem.W.nsIn K mainGlobals "len" = some none)
    (zrange : PySem.W.nsIn K mainGlobals "range" = some none)
    (ztuple : PySem.W.nsIn K mainGlobals "tuple" = some none)
    (zenumerate : PySem.W.nsIn K mainGlobals "enumerate" = some none)
    (zint : PySem.W.nsIn K mainGlobals "int" = some none)
    (zabs : PySem.W.nsIn K mainGlobals "abs" = some none)
    (zsum : PySem.W.nsIn K mainGlobals "sum" = some none)
    (zmax : PySem.W.nsIn K mainGlobals "max" = some none)
    (zmin : PySem.W.nsIn K mainGlobals "min" = some none)
    (zrepr : PySem.W.nsIn K mainGlobals "repr" = some none)
    : ∃ fd : FuncData, Fun K "law" "law" sLaw fa fd ∧ (∀ (s : Shared) (u : Value), BindsTo s fd ⟨[u], []⟩ [("_law_script", u)]) ∧ ∀ base : Heap, K.In base → base.Ns mainGlobals mg → BodyOk l.prog w K mg base 4 nLaw sLaw fa := by
  have e := hfa.symm.trans (PySem.W.mg_of X G aLW)
  cases e
  have mlen := PySem.W.mg_none_of X G zlen
  have mrange := PySem.W.mg_none_of X G zrange
  have mtuple := PySem.W.mg_none_of X G ztuple
  have menumerate := PySem.W.mg_none_of X G zenumerate
  have mint := PySem.W.mg_none_of X G zint
  have mabs := PySem.W.mg_none_of X G zabs
  have msum := PySem.W.mg_none_of X G zsum
  have mmax := PySem.W.mg_none_of X G zmax
  have mmin := PySem.W.mg_none_of X G zmin
  have mrepr := PySem.W.mg_none_of X G zrepr
  have FWO := fun_mk (st := sWayOf) lWO cWO kWO
  have bWO := FWO.binds (ps := ["board", "fuse"]) fun _ _ _ _ _ _ us hl => match us, hl with | [_, _], _ => rfl
  have mWO := PySem.W.mg_of X G aWO
  have FFB := fun_mk (st := sFuses) lFB cFB kFB
  have bFB := FFB.binds (ps := ["board", "fuse"]) fun _ _ _ _ _ _ us hl => match us, hl with | [_, _], _ => rfl
  have mFB := PySem.W.mg_of X G aFB
  have FLB := fun_mk (st := sLamps) lLB cLB kLB
  have bLB := FLB.binds (ps := ["board", "fuse"]) fun _ _ _ _ _ _ us hl => match us, hl with | [_, _], _ => rfl
  have mLB := PySem.W.mg_of X G aLB
  have FDK := fun_mk (st := sDeck) lDK cDK kDK
  have bDK := FDK.binds (ps := ["_law_script"]) fun _ _ _ _ _ _ us hl => match us, hl with | [_], _ => rfl
  have mDK := PySem.W.mg_of X G aDK
  have FDR := fun_mk (st := sDraw) lDR cDR kDR
  have bDR := FDR.binds (ps := ["_law_deck_here", "_law_bound"]) fun _ _ _ _ _ _ us hl => match us, hl with | [_, _], _ => rfl
  have mDR := PySem.W.mg_of X G aDR
  have FPK := fun_mk (st := sPick) lPK cPK kPK
  have bPK := FPK.binds (ps := ["_law_deck_here", "_law_items"]) fun _ _ _ _ _ _ us hl => match us, hl with | [_, _], _ => rfl
  have mPK := PySem.W.mg_of X G aPK
  have FWY := fun_mk (st := sWay) lWY cWY kWY
  have bWY := FWY.binds (ps := ["_law_fuses", "_law_fuse"]) fun _ _ _ _ _ _ us hl => match us, hl with | [_, _], _ => rfl
  have mWY := PySem.W.mg_of X G aWY
  have FBD := fun_mk (st := sBoard) lBD cBD kBD
  have bBD := FBD.binds (ps := ["_law_deck_here", "_law_fuses", "_law_lamps"]) fun _ _ _ _ _ _ us hl => match us, hl with | [_, _, _], _ => rfl
  have mBD := PySem.W.mg_of X G aBD
  have FLW := fun_mk (st := sLaw) lLW cLW kLW
  refine ⟨_, FLW, fun s v => .of_eq rfl, fun base _ _ => ?_⟩
  have GDR : FnOk l.prog w K mg base CX0 1 fDR _ ["_law_deck_here", "_law_bound"] spDraw := ok_draw FDR mint mlen
  have GPK : FnOk l.prog w K mg base CX0 2 fPK _ ["_law_deck_here", "_law_items"] spPick := ok_pick FPK GDR bDR mDR kDR mlen
  have GDK : FnOk l.prog w K mg base CX0 1 fDK _ ["_law_script"] (spDeck K) := ok_deck FDK mabs mlen
  have GWY : FnOk l.prog w K mg base CX0 1 fWY _ ["_law_fuses", "_law_fuse"] (spWay K) := ok_way FWY mrange mlen
  have GBD : FnOk l.prog w K mg base CX0 3 fBD _ ["_law_deck_here", "_law_fuses", "_law_lamps"] (spBoard K) :=
    ok_board FBD (GDR.mono (by decide)) bDR mDR kDR GPK bPK mPK kPK (GWY.mono (by decide)) bWY mWY kWY mrange mlen msum mint mmax mmin mtuple
  have GWO : FnOk l.prog w K mg base CX0 1 fWO _ ["board", "fuse"] (spWayOf K) := ok_wayOf FWO mtuple
  have GFB : FnOk l.prog w K mg base CX0 1 fFB _ ["board", "fuse"] (spFuses K) := ok_fuses FFB menumerate mtuple
  have GLB : FnOk l.prog w K mg base CX0 2 fLB _ ["board", "fuse"] (spLamps K) := ok_lamps FLB GFB bFB mFB kFB menumerate mtuple
  exact ok_law (GDK.mono (by decide)) bDK mDK kDK (GPK.mono (by decide)) bPK mPK kPK (GBD.mono (by decide)) bBD mBD kBD (GWY.mono (by decide)) bWY mWY kWY (GWO.mono (by decide)) bWO mWO kWO (GFB.mono (by decide)) bFB mFB kFB (GLB.mono (by decide)) bLB mLB kLB mrange mlen mrepr mtuple _
end FF
open PySem PySem.W PyProof.Rows
set_option maxRecDepth 100000 in
set_option maxHeartbeats 0 in
theorem PySem.Challenge.cw_firstfuse_k01_ways_and_what_is_behind_holds : PySem.Challenge.rw_firstfuse_k01_ways_and_what_is_behind.Holds := by
  w_on; o_law; k_head; (case hw => w_witness2)
  k_fill
  refine FF.lawWalk (l := PySem.Challenge.rw_firstfuse_k01_ways_and_what_is_behind) (k := 4) (N := FF.nLaw) (x := "_law_script") (st := FF.sLaw) rfl rfl ⟨rfl, by decide, by decide⟩ FF.scLaw (fun w h Y => PySem.W.kIn_of Y) ?F
  case F =>
    intro w mg fa h KX G hmg
    refine' FF.all_mk KX G hmg ?aWO ?lWO ?cWO ?kWO ?aFB ?lFB ?cFB ?kFB ?aLB ?lLB ?cLB ?kLB ?aDK ?lDK ?cDK ?kDK ?aDR ?lDR ?cDR ?kDR ?aPK ?lPK ?cPK ?kPK ?aWY ?lWY ?cWY ?kWY ?aBD ?lBD ?cBD ?kBD ?aLW ?lLW ?cLW ?kLW ?zlen ?zrange ?ztuple ?zenumerate ?zint ?zabs ?zsum ?zmax ?zmin ?zrepr
    (case aWO => k_is)
    (case lWO => k_is)
    (case cWO => k_is)
    (case kWO => k_is)
    (case aFB => k_is)
    (case lFB => k_is)
    (case cFB => k_is)
    (case kFB => k_is)
    (case aLB => k_is)
    (case lLB => k_is)
    (case cLB => k_is)
    (case kLB => k_is)
    (case aDK => k_is)
    (case lDK => k_is)
    (case cDK => k_is)
    (case kDK => k_is)
    (case aDR => k_is)
    (case lDR => k_is)
    (case cDR => k_is)
    (case kDR => k_is)
    (case aPK => k_is)
    (case lPK => k_is)
    (case cPK => k_is)
    (case kPK => k_is)
    (case aWY => k_is)
    (case lWY => k_is)
    (case cWY => k_is)
    (case kWY => k_is)
    (case aBD => k_is)
    (case lBD => k_is)
    (case cBD => k_is)
    (case kBD => k_is)
    (case aLW => k_is)
    (case lLW => k_is)
    (case cLW => k_is)
    (case kLW => k_is)
    (case zlen => k_is)
    (case zrange => k_is)
    (case ztuple => k_is)
    (case zenumerate => k_is)
    (case zint => k_is)
    (case zabs => k_is)
    (case zsum => k_is)
    (case zmax => k_is)
    (case zmin => k_is)
    (case zrepr => k_is)
