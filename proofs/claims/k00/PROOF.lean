import PyProof.Rows.All
import Wide.All
import OpenK.AllK
import Wide.FinOn
import HandS.ForMost
import HandS.Evl
import PyProof.EnumMake
import PyProof.Draws
import PyProof.ReprRoads
import PyProof.TupleIter
import HandS.Walk
import HandS.IsInst
import HandS.Dict
import HandS.TupAny
import HandS.TupMul
import KE.KRevSl
import PySem.Challenge.RW_firstfuse_k00_what_is_no_board
set_option Elab.async false
set_option linter.all false
set_option maxRecDepth 100000
namespace FF
open PySem PySem.Spec PyProof.Rows L2
open AutoSeq1 (wpAny_loadPart')

/-! ### enumerate over a tuple -/
section
variable {P : Program} {w : World} {A : Around} {E : Value → Shared → Prop} {s : Shared}
theorem nextTupItem {j t : Addr} {i : Nat} {vs : Array Value} {x : Value} {Q : Value → Shared → Prop} (hj : s.heap.IsTupleIter j t i) (ht : s.heap.IsTuple t vs) (hx : vs[i]? = some x)
    (k : ∀ h', h'.IsTupleIter j t (i + 1) → Heap.SameBut j s.heap h' → Q x { s with heap := h' }) : wpAny (model P w) A (Builtin.SmallTypes.nextOf (.ref j)) Q E s := by
  obtain ⟨oj, gj, cj, dj⟩ := id hj
  obtain ⟨ot, gt, _, nt, dt⟩ := ht
  unfold Builtin.SmallTypes.nextOf
  refine wpAny_bind (wpAny_callSpecial?_slot (name := Str.ofString "__next__") hj.typeIs F.slot_tuple_iterator_next
    (wpAny_call_entry F.slot_tuple_iterator_next hj.typeIs F.entry_tuple_iterator_next ?_ (F.args_tuple_iterator_next_1 _)))
  show wpAny _ _ (field (.ref j) 0 >>= _) _ _ s
  refine wpAny_bind (wpAny_field gj dj (x := .ref t) rfl ?_)
  show wpAny _ _ (if (Value.ref t == Value.none) = true then _ else _) _ _ s
  rw [if_neg (by exact Bool.false_ne_true)]
  show wpAny _ _ (field (.ref j) 1 >>= _) _ _ s
  refine wpAny_bind (wpAny_field gj dj (x := .int i 0) rfl ?_)
  show wpAny _ _ (seqItems? (.ref t) >>= _) _ _ s
  refine wpAny_bind (wpAny_seqItems gt dt ?_)
  simp only [Int.toNat_natCast, hx]
  refine wpAny_bind (wpAny_setField gj dj (by simp) (wpAny_pure ⟨x, rfl, wpAny_pure (k _ ?_ (Heap.SameBut.update ..))⟩))
  exact ⟨_, Heap.get?_update_self _ gj (Obj.isFreed_of_fields (Obj.data_mapFields dj _)), (Obj.cls_mapFields ..).trans cj, by
    rw [Obj.data_mapFields dj]; simp [rawInt]⟩
theorem nextTupEnd {j t : Addr} {i : Nat} {vs : Array Value} {Q : Value → Shared → Prop} (hnd : A.handled = none) (hj : s.heap.IsTupleIter j t i) (ht : s.heap.IsTuple t vs) (hx : vs[i]? = none)
    (k : ∀ h' e, Heap.ExtBut j s.heap h' → (∃ o, h'.get? e = some o ∧ o.cls = .type "StopIteration") → E (.ref e) { s with heap := h' }) : wpAny (model P w) A (Builtin.SmallTypes.nextOf (.ref j)) Q E s := by
  obtain ⟨oj, gj, cj, dj⟩ := id hj
  obtain ⟨ot, gt, _, nt, dt⟩ := ht
  unfold Builtin.SmallTypes.nextOf
  refine wpAny_bind (wpAny_callSpecial?_slot (name := Str.ofString "__next__") hj.typeIs F.slot_tuple_iterator_next
    (wpAny_call_entry F.slot_tuple_iterator_next hj.typeIs F.entry_tuple_iterator_next ?_ (F.args_tuple_iterator_next_1 _)))
  show wpAny _ _ (field (.ref j) 0 >>= _) _ _ s
  refine wpAny_bind (wpAny_field gj dj (x := .ref t) rfl ?_)
  show wpAny _ _ (if (Value.ref t == Value.none) = true then _ else _) _ _ s
  rw [if_neg (by exact Bool.false_ne_true)]
  show wpAny _ _ (field (.ref j) 1 >>= _) _ _ s
  refine wpAny_bind (wpAny_field gj dj (x := .int i 0) rfl ?_)
  show wpAny _ _ (seqItems? (.ref t) >>= _) _ _ s
  refine wpAny_bind (wpAny_seqItems gt dt ?_)
  simp only [Int.toNat_natCast, hx]
  refine wpAny_bind (wpAny_rule (wpAny_bind (wpAny_setField gj dj (by simp) ?_)))
  show wpAny _ _ (newExc (.type "StopIteration") [] >>= _) _ _ _
  refine wpAny_bind (?_ : wpAny _ _ (newExc _ _) _ _ _)
  simp only [newExc, newTuple]
  refine wpAny_bind (wpAny_newObj_type ?_ (by (size_fits)))
  refine wpAny_bind (m := firstArgMember _ _) (wpAny_of_eq (a := Value.none) (by first | rfl | (simp only [firstArgMember] <;> rfl)) ?_)
  refine wpAny_newObj_type (?_ : _) (by (size_fits))
  simp only [raiseNew]
  refine wpAny_bind (wpAny_handled (?_ : _))
  first | rw [show A.in1.handled = none from hnd] | rw [hnd]
  refine wpAny_bind (wpAny_pure (wpAny_throw (?_ : _)))
  exact k _ _ (((Heap.SameBut.update ..).extBut.push _).push _) ⟨_, Heap.get?_push_size _ rfl, rfl⟩
end
theorem drawsTuple {P : Program} {w : World} {A : Around} (hnd : A.handled = none) (j t : Addr) (ne : t ≠ j) (vs : Array Value) :
    Draws P w A j [j, t] vs.size (fun i v => vs[i]? = some v) (fun i h => h.IsTupleIter j t i ∧ h.IsTuple t vs) where
  live := fun _ _ q => let ⟨o, g, _⟩ := q.1; ⟨o, g⟩
  frame := fun _ _ _ q f => by
    obtain ⟨⟨o, g, r⟩, ⟨o', g', r'⟩⟩ := q
    exact ⟨⟨o, f j (by simp) o g, r⟩, ⟨o', f t (by simp) o' g', r'⟩⟩
  item := fun i s Q E hi q k => by
    refine nextTupItem q.1 q.2 (x := vs[i]) (by simp [hi]) fun h' q' sb => ?_
    exact k _ h' s.toks (by simp [hi]) ⟨q', q.2.extBut sb.extBut ne⟩ sb
  done := fun s Q E q k => nextTupEnd hnd q.1 q.2 (by simp) k

theorem meetsEnumT (l : Addr) (vs : Array Value) (ob : Obj) (n : Nat) (hc : ob.cls = .type "tuple") (hd : ob.data = .seq vs n) :
    Meets (Builtin.«enumerate.__new__» ⟨[.type "enumerate", .ref l], []⟩) (fun _ R s => s.heap.get? l = some ob ∧
      R (.ok (.ret (.ref (s.heap.push { cls := .type "tuple_iterator", data := .fields #[.ref l, .int 0 0] }).objs.size)))
        { s with heap := (s.heap.push { cls := .type "tuple_iterator", data := .fields #[.ref l, .int 0 0] }).push { cls := .type "enumerate", data := .fields #[.none, .bool false, .ref s.heap.objs.size, rawInt 0, .none, .none] } }) :=
  .of_wp fun prog w A R s h => by
    obtain ⟨cc, dct, dd, sl⟩ := ob
    replace hc : cc = .type "tuple" := hc
    replace hd : dd = .seq vs n := hd
    subst hc hd
    obtain ⟨hp, g, d, tk, os⟩ := s
    obtain ⟨hl, h⟩ := h
    have sub := sub_enumerate
    have isT : Heap.IsTuple (Shared.heap ⟨hp, g, d, tk, os⟩) l vs := ⟨_, hl, rfl, n, rfl⟩
    wp_walk using wpAny_loadPart' hl
    refine wpAny_stack_any fun st => wpAny_pure (?_ : _)
    split
    · rename_i c _ _ _ _ _
      cases (c == Value.type "enumerate")
      · wp_walk using wpAny_loadPart' hl, wpAny_pyIter_tuple isT
        exact ⟨_, rfl, h⟩
      · wp_walk using wpAny_loadPart' hl, wpAny_pyIter_tuple isT
        exact ⟨_, rfl, h⟩
    · wp_walk using wpAny_loadPart' hl, wpAny_pyIter_tuple isT
      exact ⟨_, rfl, h⟩
section
variable {P : Program} {w : World} {A : Around} {E : Value → Shared → Prop} {s : Shared}
theorem callEnumT {l : Addr} {vs : Array Value} {Q : Value → Shared → Prop} (isT : s.heap.IsTuple l vs)
    (k : ∀ h', IsEnum h' (s.heap.objs.size + 1) s.heap.objs.size 0 .none → h'.IsTupleIter s.heap.objs.size l 0 →
      (∀ b o, s.heap.get? b = some o → h'.get? b = some o) → Q (.ref (s.heap.objs.size + 1)) { s with heap := h' }) :
    wpAny (model P w) A (call (.type "enumerate") [.ref l]) Q E s := by
  obtain ⟨ob, hl, hc, n, hd⟩ := isT
  refine callType_new F.called_enumerate (by decide) (F.typeCall_enumerate_1 _) (F.newCall_enumerate_1 _) (fun x => F.args_object_init_2 x _) F.entry_enumerate_new
    (meetsEnumT l vs ob n hc hd) ⟨hl, ?_⟩
  have hz : (s.heap.push { cls := .type "tuple_iterator", data := .fields #[.ref l, .int 0 0] }).objs.size = s.heap.objs.size + 1 := Heap.size_push ..
  show _ ∧ _
  rw [hz]
  have he : IsEnum ((s.heap.push { cls := .type "tuple_iterator", data := .fields #[.ref l, .int 0 0] }).push
      { cls := .type "enumerate", data := .fields #[.none, .bool false, .ref s.heap.objs.size, rawInt 0, .none, .none] }) (s.heap.objs.size + 1) s.heap.objs.size 0 .none := by
    have q := Heap.get?_push_size (s.heap.push { cls := .type "tuple_iterator", data := .fields #[.ref l, .int 0 0] })
      (o := { cls := .type "enumerate", data := .fields #[.none, .bool false, .ref s.heap.objs.size, rawInt 0, .none, .none] }) rfl
    rw [hz] at q
    exact q
  exact ⟨⟨_, he, rfl⟩, k _ he ⟨_, Heap.get?_push_of_some _ (Heap.get?_push_size _ rfl), rfl, rfl⟩ fun b o q => Heap.get?_push_of_some _ (Heap.get?_push_of_some _ q)⟩
end
/-- the tuple at a, each item in a new pair behind its number -/
def ItE (K : PySem.W.Frag) (a : Addr) : It where
  go := fun i H => ∃ (xs : List V) (x : V), SqT K H a xs ∧ xs[i]? = some x
  yld := fun i H v H' => ∃ T x, v = .ref T ∧ H T = none ∧ H' = upd H T (.tup [.int (i : Nat), x]) ∧ ∀ xs, SqT K H a xs → xs[i]? = some x
  stop := fun i H => ∃ xs : List V, SqT K H a xs ∧ xs.length ≤ i
theorem turnEnumT {P : Program} {w : World} {K : PySem.W.Frag} {elts : List Expr} {kk : Nat} {tp : Pos} (a e j : Addr) :
    Turn P w K (.Tuple elts kk tp) (ItE K a) [e, j] e (fun i h => (∃ old, IsEnum h e j ((i : Nat) : Int) old) ∧ h.IsTupleIter j a i ∧ e ≠ j ∧ a ≠ j ∧ a ≠ e) where
  mem := by simp
  obj := fun i h q b hb => by
    obtain ⟨⟨old, he⟩, ⟨o, ho, hc, hd⟩, _⟩ := q
    have eb : b = e ∨ b = j := by simpa using hb
    rcases eb with z | z
    · rw [z]; exact ⟨_, he, fun v y => nomatch y⟩
    · rw [z]; exact ⟨o, ho, fun v y => by rw [hd] at y; cases y⟩
  keep := fun i h h' q f => by
    obtain ⟨⟨old, he⟩, ⟨o, ho, r⟩, n⟩ := q
    exact ⟨⟨old, f e (by simp) _ he⟩, ⟨o, f j (by simp) _ ho, r⟩, n⟩
  item := by
    intro X hP hw hK hc i pins s σ H E I hf q hg
    subst hP hw hK
    obtain ⟨⟨old, he⟩, hj, n1, n2, n3⟩ := q
    obtain ⟨xs, x, hs, hx⟩ := hg
    obtain ⟨its, rv, p, hz⟩ := I.tuple hs
    obtain ⟨u, hu, ru⟩ := rv.get hx
    have hil : i < its.toArray.size := by
      have := (List.getElem?_eq_some_iff.mp hu).1
      simpa using this
    have D := drawsTuple (P := X.prog) (w := X.w) (A := X.A.in1) (I.ok.hd hc) j a n2 its.toArray
    have nfp : e ∉ [j, a] := by
      simp only [List.mem_cons, List.not_mem_nil, or_false, not_or]
      exact ⟨n1, fun z => n3 z.symm⟩
    refine wpAny_pyNext_enum_itemD D he ⟨hj, p⟩ hil n1 nfp fun y h' tk hy ho hst hT hsz hk => ?_
    have ey : y = u := by
      have z : its[i]? = some y := by simpa using hy
      exact Option.some.inj (z.symm.trans hu)
    subst ey
    refine ⟨_, rfl, wpAny_letOwnedTupleGo_enum (s := { s with heap := h', toks := tk + 1 }) ho fun h'' he' sb => ?_⟩
    have hel : e < s.heap.objs.size := Heap.lt_size he
    have hjl : j < s.heap.objs.size := by obtain ⟨_, z, _⟩ := hj; exact Heap.lt_size z
    have hT2 : h''.get? s.heap.objs.size = some { cls := .type "tuple", data := .seq #[.int i tk, y] } := (sb.2 _ (Nat.ne_of_gt hel)).trans hT
    have new : ObjOk X.prog X.w (upd H s.heap.objs.size (.tup [.int (i : Nat), x])) h'' s.heap.objs.size (.tup [.int (i : Nat), x]) :=
      ⟨by show 2 ≤ sizeLine; decide, [.int i tk, y], .cons ⟨_, rfl⟩ (.cons ru .nil), ⟨_, hT2, rfl, _, rfl⟩⟩
    have I1 : Inv X pins σ (upd H s.heap.objs.size (.tup [.int (i : Nat), x])) { s with heap := h'', toks := tk + 1 } :=
      I.turnedNew (ch := [e, j]) (fun b ob hb z => (sb.2 b (fun y => hb (by simp [y]))).trans (hk b ob (fun y => hb (by simp [y])) (fun y => hb (by simp [y])) z)) hf (Nat.le_refl _) new
    obtain ⟨oj, gj, rj⟩ := hst.1
    refine ⟨.ref s.heap.objs.size, _, I1, rfl, ⟨_, x, rfl, I.hok.fresh (Nat.le_refl _), rfl, fun ys hy => by rw [I.tuple_inj hy hs]; exact hx⟩, ⟨⟨y, ?_⟩, ⟨oj, (sb.2 j (Ne.symm n1)).trans gj, rj⟩, n1, n2, n3⟩, fun b hb => ?_⟩
    · have e1 : ((i + 1 : Nat) : Int) = (i : Int) + 1 := by omega
      rw [e1]
      exact he'
    · have hb' : b < s.heap.objs.size := by
        have eb : b = e ∨ b = j := by simpa using hb
        rcases eb with z | z
        · rw [z]; exact hel
        · rw [z]; exact hjl
      rw [upd_ne (Nat.ne_of_lt hb')]
      exact (hf b hb).1
  done := by
    intro X hP hw hK hc i pins s σ H E I hf q hg
    subst hP hw hK
    obtain ⟨⟨old, he⟩, hj, n1, n2, n3⟩ := q
    obtain ⟨xs, hs, hx⟩ := hg
    obtain ⟨its, rv, p, hz⟩ := I.tuple hs
    obtain ⟨f0, f1, f2, f3, f4, f5⟩ := hf j (by simp)
    have hl := rv.length
    have hT : s.TypeIs (.ref e) "enumerate" := ⟨_, he, rfl⟩
    unfold pyNext
    refine wpAny_bind (wpAny_attempt (wpAny_callSpecial?_slot (name := Str.ofString "__next__") hT F.slot_enumerate_next
      (wpAny_call_entry F.slot_enumerate_next hT F.entry_enumerate_next (?_ : _) (F.args_enumerate_next_1 _))))
    show wpAny _ _ (field (.ref e) 2 >>= _) _ _ _
    refine wpAny_bind (wpAny_field he rfl (x := .ref j) rfl (?_ : _))
    refine wpAny_bind (nextTupEnd (I.ok.hd hc) hj p (by simp; omega) fun h' x eb hx' => ?_)
    obtain ⟨o, ho, hoc⟩ := hx'
    refine wpAny_bind (wpAny_isInstance (T := "StopIteration") (b := true) ⟨o, ho, hoc⟩ isSubtype_stop (?_ : _))
    exact wpAny_pure ⟨rfl, I.turned (t' := s.toks) (fun b o hb q => eb b o hb q) f0 f1 f3 f4 f5⟩
  self := fun A i s Q E q h => let ⟨⟨_, he⟩, _⟩ := q; wpAny_pyIter_enum he h
def iEnT (K : PySem.W.Frag) (ta : TA) : TI := fun σ H R => ta σ H fun vs H1 => ∃ a xs, vs = [.ref a] ∧ SqT K H1 a xs ∧ R (ItE K a) H1
theorem pi_enT {X : Cx} {e : Expr} {ta : TA} {p pos tp : Pos} {elts : List Expr} {kk : Nat} (hg : Gl X "enumerate") (hm : X.mg "enumerate" = none) (ha : PA X [e] ta) (hs : starEach [e] X.env = [(false, eval e X.env)] := by rfl) :
    PI X (.Tuple elts kk tp) (.Call (.Name "enumerate" p) [e] [] pos) (iEnT X.K ta) := by
  refine ⟨fun pins s σ H R I h => Call_ (ld_blt I hg hm boot_enumerate (PyProof.Rows.callWith_type1 (thn (ha.run pos pins s σ H _ I h) fun us s1 ⟨vs, H1, I1, r1, q1⟩ => ?_) hs rfl))⟩
  obtain ⟨a, xs, ex, hq, q⟩ := q1
  subst ex
  cases r1 with
  | cons r rr =>
    cases rr
    cases r
    obtain ⟨its, rv, tp', hz⟩ := I1.tuple hq
    have hal : a < s1.heap.objs.size := by obtain ⟨_, z, _⟩ := tp'; exact Heap.lt_size z
    refine callEnumT (show s1.heap.IsTuple a its.toArray from tp') fun h' he hit hk => wpAny_pyIter_enum he (?_ : _)
    have I2 : Inv X pins σ H1 { s1 with heap := h' } := I1.kept (t' := s1.toks) hk
    refine ⟨s1.heap.objs.size + 1, [s1.heap.objs.size + 1, s1.heap.objs.size], _, _, H1, rfl, I2, turnEnumT a (s1.heap.objs.size + 1) s1.heap.objs.size, ⟨⟨.none, he⟩, hit, Nat.succ_ne_self _, Nat.ne_of_lt hal, Nat.ne_of_lt (Nat.lt_succ_of_lt hal)⟩, fun b hb => ?_, q⟩
    have eb : b = s1.heap.objs.size + 1 ∨ b = s1.heap.objs.size := by simpa using hb
    have hle : s1.heap.objs.size ≤ b := by
      rcases eb with z | z
      · rw [z]; exact Nat.le_succ _
      · rw [z]; exact Nat.le_refl _
    exact I1.fpOk hle (I1.hok.fresh hle)
end FF
namespace FF
open PySem PySem.Spec PyProof.Rows L2

/-! ### what can be shown by repr -/
structure Sw (W k : Nat) (d : PyData) : Prop where
  sh : d.showable = true
  lf : d.leavesShort 13 = true
  wt : d.weight ≤ W
  dp : d.depth ≤ k
  nd : d.hasDict = false
structure SwA (W k : Nat) (ds : List PyData) : Prop where
  sh : PyData.showableAll ds = true
  lf : PyData.leavesShortAll 13 ds = true
  wt : PyData.weightAll ds ≤ W
  dp : PyData.depthAll ds ≤ k
  nd : PyData.hasDictAll ds = false
theorem Sw.mono {W k W' k' : Nat} {d : PyData} (h : Sw W k d) (h1 : W ≤ W') (h2 : k ≤ k') : Sw W' k' d := ⟨h.sh, h.lf, Nat.le_trans h.wt h1, Nat.le_trans h.dp h2, h.nd⟩
theorem SwA.nil {k : Nat} : SwA 0 k [] := ⟨rfl, rfl, Nat.le_refl _, Nat.zero_le _, rfl⟩
theorem SwA.cons {W V k : Nat} {d : PyData} {ds : List PyData} (h : Sw W k d) (t : SwA V k ds) : SwA (W + 1 + V) k (d :: ds) := by
  refine ⟨?_, ?_, ?_, ?_, ?_⟩
  · simp only [PyData.showableAll, h.sh, t.sh, Bool.and_self]
  · simp only [PyData.leavesShortAll, h.lf, t.lf, Bool.and_self]
  · have a := h.wt
    have b := t.wt
    simp only [PyData.weightAll]
    omega
  · simp only [PyData.depthAll]
    exact Nat.max_le.mpr ⟨h.dp, t.dp⟩
  · simp only [PyData.hasDictAll, h.nd, t.nd, Bool.or_self]
theorem SwA.all {W k : Nat} : ∀ {ds : List PyData}, (∀ d ∈ ds, Sw W k d) → SwA ((W + 1) * ds.length) k ds
  | [], _ => by simpa using (SwA.nil (k := k))
  | d :: ds, h => by
    have t := SwA.cons (h d (List.mem_cons_self ..)) (SwA.all (ds := ds) fun x hx => h x (List.mem_cons_of_mem _ hx))
    have e : W + 1 + (W + 1) * ds.length = (W + 1) * (d :: ds).length := by
      rw [List.length_cons, Nat.mul_add, Nat.mul_one, Nat.add_comm]
    rw [e] at t
    exact t
theorem Sw.tup {W k : Nat} {ds : List PyData} (h : SwA W k ds) : Sw W (k + 1) (.tuple ds) := by
  refine ⟨?_, ?_, ?_, ?_, ?_⟩
  · simp only [PyData.showable, h.sh]
  · simp only [PyData.leavesShort, h.lf]
  · simp only [PyData.weight]; exact h.wt
  · simp only [PyData.depth]; have := h.dp; omega
  · simp only [PyData.hasDict, h.nd]
theorem Sw.lst {W k : Nat} {ds : List PyData} (h : SwA W k ds) : Sw W (k + 1) (.list ds) := by
  refine ⟨?_, ?_, ?_, ?_, ?_⟩
  · simp only [PyData.showable, h.sh]
  · simp only [PyData.leavesShort, h.lf]
  · simp only [PyData.weight]; exact h.wt
  · simp only [PyData.depth]; have := h.dp; omega
  · simp only [PyData.hasDict, h.nd]
theorem log2_lt_of {n k : Nat} (hk : 0 < k) (h : n < 2 ^ k) : n.log2 < k := by
  by_cases e : n = 0
  · subst e
    simpa using hk
  · exact (Nat.log2_lt e).mpr h
theorem Sw.int {k : Nat} {i : Int} (h : i.natAbs < 2 ^ 30) : Sw 30 k (.int i) := by
  have hl : i.natAbs.log2 < 30 := log2_lt_of (by decide) h
  refine ⟨?_, ?_, ?_, Nat.zero_le _, rfl⟩
  · simp only [PyData.showable, decide_eq_true_eq]
    omega
  · simp only [PyData.leavesShort, decide_eq_true_eq]
    show (Str.ofString (toString i)).length ≤ 13
    rw [PySem.ofString_length]
    have h2 : i.natAbs < 10 ^ 12 := Nat.lt_trans h (by decide)
    exact int_text_length_le10 (k := 12) (by decide) h2
  · simp only [PyData.weight]
    split
    · exact Nat.zero_le _
    · omega
theorem Sw.fits {W k : Nat} {d : PyData} (h : Sw W k d) (hW : W ≤ 1000000) : d.shown.length ≤ sizeLine := by
  refine PyData.shown_fits (B := 13) (by decide) (by decide) h.lf (Nat.le_trans h.wt (Nat.le_trans hW ?_))
  decide

/-- repr of a list or a tuple, read as data -/
def rRepr (K : PySem.W.Frag) : List V → Hp → VK → Prop := fun xs H Q => ∃ a d, xs = [.ref a] ∧ Dp K H (.ref a) d ∧ Sw 1000000 60 d ∧ Q (.str d.shown) H
theorem callRepr {X : Cx} (hg : X.A.guards = some []) (hu : X.A.units + 64 < cLine) : CallR X (.builtin "repr") (rRepr X.K) := by
  intro pins s σ H xs us Q I r h
  obtain ⟨a, d, rfl, hd, hs, q⟩ := h
  cases r with
  | cons r1 r2 =>
    cases r2
    cases r1
    obtain ⟨as, rd⟩ := Dp.reads I d (.ref a) _ hd rfl
    have hdp := hs.dp
    refine repr_of_reads' rd hs.sh (fun z => by rw [hs.nd] at z; cases z) hg (by omega) (fun _ _ e => e) (fun h' u tk hk => ?_) (hs.fits (Nat.le_refl _))
    exact ⟨.str d.shown, H, I.kept hk, ⟨_, rfl⟩, q⟩

/-! ### the law's own call: nothing runs around it -/
/-- the body of the law, the script's list at hand; no repr is running around it -/
def BodyOk (P : Program) (w : World) (K : PySem.W.Frag) (mg : Str → Option Value) (base : Heap) (k : Nat) (N : List Str) (st : Stmt) (f : Addr) : Prop :=
  ∀ (cdv : Value) (A : Around) (outer : List Env) (s : Shared) (H : Hp) (a : Addr) (ns : List Int), A.guards = some [] → Room k (A.deeper (envOfC "law" (defScope st) s.heap.objs.size f cdv)) →
    SqL K H a (ns.map V.int) → ns.length ≤ 63 → ∃ t, PSs (cxOf CX0 P w K mg base N "law" (defScope st) f cdv A outer s H E0).nox (defBody st) t ∧ t { nx := fun _ _ => False, rt := fun v _ => v = .bl true } (start N [.ref a]) H
theorem lawRuns {P : Program} {w : World} {K : PySem.W.Frag} {mg : Str → Option Value} {base : Heap} {k : Nat} {N : List Str} {x : Str} {st : Stmt} {f a : Addr} {fd : FuncData} {s : Shared} {H : Hp} {ns : List Int}
    (F : Fun K "law" "law" st f fd) (S : FnScope N [x] (defScope st)) (hb : BodyOk P w K mg base k N st f) (bind : ∀ (s : Shared) (u : Value), BindsTo s fd ⟨[u], []⟩ [(x, u)]) (hr : Room (k + 1) callerA)
    (e0 : Env0 P w K mg base callerA [] s H) (hS : SqL K H a (ns.map V.int)) (hl : ns.length ≤ 63) :
    codeAny (model P w) callerA (.call (.ref f) ⟨[.ref a], []⟩) (CR CX0 [] P w H s (fun v _ => v = .bl true) E0) s := by
  obtain ⟨oc, od, kV, doc, pm, an, cdv, ct, osl, rfl, lk, hcd⟩ := F.ex
  have hK : K.In s.heap := e0.mod.kin.keeps fun b o z => (e0.bs b o z).1
  have nolim : s.heap.NoLimit := e0.mod.nolimit.keeps fun b o z => (e0.bs b o z).1
  have r : Vals [V.ref a] [Value.ref a] := .cons rfl .nil
  have kinds : ∀ y ∈ [x].zip [Value.ref a], (defScope st).names.lookup y.1 = some .local ∨ ((defScope st).names.lookup y.1 = some .cell ∧ ((cellsFrom (s.heap.objs.size + 1) (defScope st).names []).lookup y.1).isSome = true) := by
    rintro ⟨n, v⟩ hy
    rcases S.par n (List.of_mem_zip hy).1 with z | z
    · exact Or.inl z
    · exact Or.inr ⟨z, PySem.W.cellsFrom_some _ _ _ (Or.inl z)⟩
  refine codeAny_call_function hr.depth (hK _ _ lk) rfl S.co S.gen rfl (PySem.W.codeRec_of hK hcd) (bind s (.ref a) _ _ _ _ ?_)
  refine wpAny_newFunctionEnv_cells S.kind kinds fun env he s1 ic => ?_
  subst he
  refine ⟨nolim.keeps ic.toInCall.keep, codeAny_func (?_ : _)⟩
  obtain ⟨t, ht, hq⟩ := hb cdv callerA [] s H a ns rfl (hr.deeper _) hS hl
  have I := inv_start (CX := CX0) (E := E0) (cd := cdv) S hr.hd e0 rfl r ic
  refine wpAny_mono (ht.nox.run [] s1 _ H _ I hq) (fun fl s' hs => ?_) fun _ _ z => z
  cases fl with
  | ret u =>
    obtain ⟨v, σ', H', J, rv, q⟩ := hs
    exact ⟨v, H', J.os, J.bare, J.base, J.hok, rv, q⟩
  | next => obtain ⟨_, _, _, z⟩ := hs; exact False.elim z
  | brk => obtain ⟨_, _, _, z⟩ := hs; exact False.elim z
  | cont => obtain ⟨_, _, _, z⟩ := hs; exact False.elim z

/-- from an abstract heap that tracks at most the script -/
theorem lawCore {P : Program} {w : World} {K : PySem.W.Frag} {mg mb : Str → Option Value} {k : Nat} {N : List Str} {x : Str} {st : Stmt} {f a : Addr} {fd : FuncData} {s₁ : Shared} {vs : List Value} {ns : List Int} {H : Hp}
    (KX : K.In s₁.heap) (hns : s₁.heap.Ns mainGlobals mg) (hbn : s₁.heap.Ns builtinsNs mb) (hbb : ∀ x : Str, x ≠ "__name__" → mb x = bootBuiltins x) (hlim : s₁.heap.NoLimit) (hg : s₁.gens = #[])
    (ha : s₁.heap.get? a = some { cls := .type "list", data := .seq vs.toArray }) (hl : ns.length ≤ 63) (hr : Room (k + 1) callerA)
    (F : Fun K "law" "law" st f fd) (S : FnScope N [x] (defScope st)) (hb : ∀ base : Heap, K.In base → base.Ns mainGlobals mg → BodyOk P w K mg base k N st f) (bind : ∀ (s : Shared) (u : Value), BindsTo s fd ⟨[u], []⟩ [(x, u)])
    (hO : ∀ b, H b = none ∨ ∃ o xs, H b = some (.frz o (.lst xs))) (hS : SqL K H a (ns.map V.int)) (hok : HOk P w H s₁.heap) (hA : ∀ b, H b ≠ none → b = a) (hK : H a ≠ none → K.lookup a = none) :
    codeAny (model P w) callerA (.call (.ref f) ⟨[.ref a], []⟩) (fun r s' => r = .ok (.ret (.bool true)) ∧ OldK s₁.heap s'.heap ∧ s'.os = s₁.os ∧ AllBare s'.gens) s₁ := by
  have put : ∀ {b : Addr} {o : Obj}, s₁.heap.get? b = some o → H b = none → (hidT s₁.heap H).get? b = some o := fun e n => hidT_get e n
  have free : ∀ {b : Addr}, b ≠ a → H b = none := fun {b} n => by
    cases q : H b with
    | none => rfl
    | some u => exact absurd (hA b (by rw [q]; exact fun z => nomatch z)) n
  have nsk : ∀ {b : Addr} {m : Str → Option Value}, s₁.heap.Ns b m → (hidT s₁.heap H).Ns b m := by
    rintro b m ⟨o, es, ep, e, d, r⟩
    refine ⟨o, es, ep, put e (free fun z => ?_), d, r⟩
    subst z
    rw [ha] at e
    cases e
    have d' : Data.seq vs.toArray _ = Data.dict es ep := d
    cases d'
  have kb : K.In (hidT s₁.heap H) := fun b o e => put (KX b o e) (by
    cases q : H b with
    | none => rfl
    | some u =>
      have nn : H b ≠ none := by rw [q]; exact fun z => nomatch z
      have eb : b = a := hA b nn
      rw [eb] at nn e
      rw [hK nn] at e
      cases e)
  have md : Mod K mg (hidT s₁.heap H) := ⟨kb, nsk hns, ⟨mb, nsk hbn, hbb⟩, let ⟨mc, h1, h2⟩ := hlim; ⟨mc, nsk h1, h2⟩⟩
  have e0 : Env0 P w K mg (hidT s₁.heap H) callerA [] s₁ H :=
    { frames := rfl, mod := md, bs := fun b o e => of_hidT e, bsz := Nat.le_of_eq (hidT_size _ _), funs := trivial, frf := fun b z => absurd (show b ∈ ([] : List Addr) from z) (by simp), hok := hok, bare := .of_eq hg }
  refine codeAny_mono (lawRuns F S (hb _ kb (nsk hns)) bind hr e0 hS hl) fun r s' h => ?_
  cases r with
  | error e => exact False.elim h
  | ok fl =>
    cases fl with
    | next => exact False.elim h
    | brk => exact False.elim h
    | cont => exact False.elim h
    | ret u =>
      obtain ⟨v, H', hos, bare, un, hok', r', q⟩ := h
      have q' : v = .bl true := q
      subst q'
      obtain rfl : u = Value.bool true := r'
      refine ⟨rfl, OldK.of_keep fun b o e => ?_, hos, bare⟩
      rcases hO b with z | ⟨ob, xs, z⟩
      · exact un.keep b o e z (fun y => absurd (show b ∈ ([] : List Addr) from y) (by simp)) (by simp)
      · obtain ⟨e1, _⟩ := hok b _ z
        obtain ⟨e2, _⟩ := hok' b _ (un.frzs b ob _ z)
        rw [e] at e1
        cases e1
        exact e2
theorem lawWalk {l : PySem.W.OpenLaw} {k : Nat} {q : Program} {loose : List Str} {XP : (Str → Option Value) → Heap → Prop} {YP : World → Heap → Prop} {d : DefRec} {K : Params → PySem.W.Frag} {N : List Str} {x : Str} {st : Stmt}
    (hn : l.most = some 63) (hdf : d.params.defaults = []) (hr : Room (k + 1) callerA) (S : FnScope N [x] (defScope st))
    (hY : ∀ (w : World) (h : Heap), YP w h → (K w.params).In h)
    (F : ∀ (w : World) (mg : Str → Option Value) (fa : Addr) (h : Heap), (K w.params).In h → h.Ns mainGlobals mg → mg d.name = some (.ref fa) →
      ∃ fd : FuncData, Fun (K w.params) "law" "law" st fa fd ∧ (∀ (s : Shared) (u : Value), BindsTo s fd ⟨[u], []⟩ [(x, u)]) ∧
        ∀ base : Heap, (K w.params).In base → base.Ns mainGlobals mg → BodyOk l.prog w (K w.params) mg base k N st fa) :
    PySem.W.WalkO q loose XP YP l.row.toRowW d [] (fun f vs => PySem.call f vs) := by
  refine Att.attach_call hn hdf fun w s₀ s₁ mg mb fa o pm cd doc a vs ns G Y ho hd hcd hmg hobj hints hlen hg => ?_
  have KX := hY w _ Y
  obtain ⟨fd, hF, hb, hbody⟩ := F w mg fa _ KX G.T.g hmg
  have rv := vals_ints hints
  have hlv := hints.length
  have sz : ns.length ≤ sizeLine := Nat.le_trans hlen (by decide)
  have go := fun (H : Hp) => lawCore (H := H) KX G.T.g G.T.b G.T.builtins G.T.nolimit hg hobj hlen hr hF S hbody hb
  cases hk : (K w.params).lookup a with
  | some oa =>
    have e := KX a oa hk
    rw [hobj] at e
    cases e
    refine go (fun _ => none) (fun _ => Or.inl rfl) (Or.inr ⟨_, vs.toArray, _, hk, rfl, rfl, rfl, ?_, by simpa using rv⟩) (fun b u z => ?_) (fun b z => absurd rfl z) fun z => absurd rfl z
    · rw [List.size_toArray, hlv]; exact sz
    · have z' : (none : Option HO) = some u := z
      cases z'
  | none =>
    let ob : Obj := { cls := .type "list", data := .seq vs.toArray }
    refine go (fun b => if b = a then some (.frz ob (.lst (ns.map V.int))) else none) (fun b => ?_) (Or.inl (Or.inr ⟨ob, if_pos rfl⟩)) (fun b u z => ?_) (fun b z => ?_) fun _ => hk
    · by_cases hba : b = a
      · exact Or.inr ⟨_, _, if_pos hba⟩
      · exact Or.inl (if_neg hba)
    · by_cases hba : b = a
      · have z' := (if_pos hba).symm.trans z
        cases z'
        subst hba
        exact ⟨hobj, by rw [List.length_map]; exact sz, vs, _, rv, hobj⟩
      · have z' := (if_neg hba).symm.trans z
        cases z'
    · by_cases hba : b = a
      · exact hba
      · exact absurd (if_neg hba) z
end FF
namespace FF
open PySem PySem.Spec PyProof.Rows L2
def topS (i : Nat) : Stmt := PySem.Challenge.pw_firstfuse_k00_what_is_no_board.main.body.getD i (.Pass ⟨0, 0, 0, 0⟩)
abbrev sIsInt : Stmt := topS 5
abbrev sIsRow : Stmt := topS 6
abbrev sIsPair : Stmt := topS 7
abbrev sErr : Stmt := topS 9
abbrev sFu : Stmt := topS 10
abbrev sLa : Stmt := topS 11
abbrev sDeck : Stmt := topS 13
abbrev sDraw : Stmt := topS 14
abbrev sPick : Stmt := topS 15
abbrev sWay : Stmt := topS 16
abbrev sBoard : Stmt := topS 17
abbrev sLInt : Stmt := topS 18
abbrev sOdd : Stmt := topS 19
abbrev sBent : Stmt := topS 20
abbrev sLFu : Stmt := topS 21
abbrev sLLa : Stmt := topS 22
abbrev sLErr : Stmt := topS 23
abbrev sLaw : Stmt := topS 24
end FF
namespace FF
open PySem PySem.Spec PyProof.Rows L2
theorem scDeck : FnScope ["_law_script", "_law_cells", "_law_cell"] ["_law_script"] (defScope sDeck) := ⟨rfl, rfl, rfl, by decide +kernel, rfl, by decide +kernel, by decide +kernel⟩
theorem scDraw : FnScope ["_law_deck_here", "_law_bound", "_law_rest", "_law_cell", "_law_mixed"] ["_law_deck_here", "_law_bound"] (defScope sDraw) := ⟨rfl, rfl, rfl, by decide +kernel, rfl, by decide +kernel, by decide +kernel⟩
theorem scPick : FnScope ["_law_deck_here", "_law_items"] ["_law_deck_here", "_law_items"] (defScope sPick) := ⟨rfl, rfl, rfl, by decide +kernel, rfl, by decide +kernel, by decide +kernel⟩

/-! ### the deck: a list of the great cells' list, all cells' list, a count -/
structure Deck (D A B : Addr) (H : Hp) : Prop where
  it : ∃ (gs cs : List Int) (n : Int), H D = some (.lst [.ref A, .ref B, .int n]) ∧ H A = some (.lst (gs.map V.int)) ∧ H B = some (.lst (cs.map V.int)) ∧ cs ≠ [] ∧ gs.length ≤ 63
  da : D ≠ A
  db : D ≠ B
  ab : A ≠ B
/-- the heap without what a draw changes -/
def hid (D A : Addr) (H : Hp) : Hp := fun b => if b = D ∨ b = A then none else H b
theorem hid_of {D A b : Addr} {H : Hp} {o : HO} (h : H b = some o) (n1 : b ≠ D) (n2 : b ≠ A) : hid D A H b = some o := by
  unfold hid
  rw [if_neg (fun z => z.elim n1 n2)]
  exact h
theorem of_hid {D A b : Addr} {H : Hp} {o : HO} (h : hid D A H b = some o) : H b = some o ∧ b ≠ D ∧ b ≠ A := by
  unfold hid at h
  by_cases c : b = D ∨ b = A
  · rw [if_pos c] at h; cases h
  · rw [if_neg c] at h
    exact ⟨h, fun z => c (.inl z), fun z => c (.inr z)⟩
/-- all but the deck stands as it was -/
def Kp (D A : Addr) (H H' : Hp) : Prop := ∀ b o, H b = some o → b ≠ D → b ≠ A → H' b = some o
theorem Kp.refl {D A : Addr} {H : Hp} : Kp D A H H := fun _ _ h _ _ => h
theorem Kp.trans {D A : Addr} {H H1 H2 : Hp} (a : Kp D A H H1) (b : Kp D A H1 H2) : Kp D A H H2 := fun x o h n1 n2 => b x o (a x o h n1 n2) n1 n2
theorem Kp.of {D A : Addr} {H H1 : Hp} (a : Evl.Ex H H1) : Kp D A H H1 := fun x o h _ _ => a x o h
theorem Deck.ex {D A B : Addr} {H H1 : Hp} (d : Deck D A B H) (e : Evl.Ex H H1) : Deck D A B H1 := by
  obtain ⟨⟨gs, cs, n, h1, h2, h3, h4, h5⟩, a, b, c⟩ := d
  exact ⟨⟨gs, cs, n, e _ _ h1, e _ _ h2, e _ _ h3, h4, h5⟩, a, b, c⟩
theorem Deck.new {D A B p : Addr} {H : Hp} {o : HO} (d : Deck D A B H) (h : H p = none) : Deck D A B (upd H p o) := d.ex (Evl.Ex.new h)
theorem Deck.ne {D A B p : Addr} {H : Hp} (d : Deck D A B H) (h : H p = none) : p ≠ D ∧ p ≠ A ∧ p ≠ B := by
  obtain ⟨⟨gs, cs, n, h1, h2, h3, h4, h5⟩, a, b, c⟩ := d
  exact ⟨(ne_of_none h1 h).symm, (ne_of_none h2 h).symm, (ne_of_none h3 h).symm⟩
theorem Kp.new {D A p : Addr} {H : Hp} {o : HO} (h : H p = none) : Kp D A H (upd H p o) := Kp.of (Evl.Ex.new h)

theorem dpInts {K : PySem.W.Frag} {H : Hp} : ∀ ns : List Int, DpAll K H (ns.map V.int) (ns.map PyData.int)
  | [] => .nil
  | n :: r => .cons (.int n) (dpInts r)
theorem layInts : ∀ ns : List Int, PyData.canLayAll0 (ns.map PyData.int) = true
  | [] => rfl
  | n :: r => by
    rw [List.map_cons]
    simp only [PyData.canLayAll0, PyData.canLay0, layInts r, Bool.and_self]
theorem depInts : ∀ ns : List Int, PyData.depthAll (ns.map PyData.int) = 0
  | [] => rfl
  | n :: r => by
    rw [List.map_cons]
    simp only [PyData.depthAll, PyData.depth, depInts r, Nat.max_self]
theorem shapedInts (ns : List Int) : SeqAt.shaped (.list (ns.map PyData.int)) = true := by
  unfold SeqAt.shaped
  simp only [PyData.canLay0, layInts, PyData.depth, depInts]
  decide
theorem seqIx0 {n : Nat} (h : 0 < n) : seqIndex? 0 n = some 0 := by
  unfold seqIndex?
  simp [h]
theorem ixN0 {n : Nat} (h : 0 < n) : ixN n 0 = some 0 := Evl.ixN_nat h

/-! ### _law_draw -/
def spDraw : Sp := fun vs H Q _ => ∃ (D A B : Addr) (b : Int), vs = [.ref D, .int b] ∧ 1 ≤ b ∧ b < 1000000 ∧ Deck D A B H ∧
  ∀ r H', 0 ≤ r → r < b → Deck D A B H' → Kp D A H H' → Q (.int r) H'
section
variable {P : Program} {w : World} {K : PySem.W.Frag} {mg : Str → Option Value} {base : Heap}
theorem ok_draw {f : Addr} {fd : FuncData} {k : Nat} (F : Fun K "_law_draw" "_law_draw" sDraw f fd) (mi : mg "int" = none) (ml : mg "len" = none) : FnOk P w K mg base CX0 (k + 1) f fd ["_law_deck_here", "_law_bound"] spDraw := by
  refine F.ok scDraw (fun vs H Q E h => ?_) (fun cdv A outer s H vs Q E hr h => ?_)
  · obtain ⟨D, A, B, b, rfl, _⟩ := h
    rfl
  · obtain ⟨D, A, B, b, rfl, hb1, hb2, dk, q⟩ := h
    obtain ⟨⟨gs, cs, n, h1, h2, h3, h4, h5⟩, nda, ndb, nab⟩ := id dk
    refine ⟨_, pss_cons (ps_if (pt_cmpR (op_neD hr.units) (pe_ix ix_list (pv 0) pe_int (fun _ _ => rfl)) (pe_lst pa_nil) (nomark _))
        (pss_cons (ps_set (i := 2) scDraw.nd rfl (.inl rfl) (pe_ix ix_list (pe_ix ix_list (pv 0) pe_int (fun _ _ => rfl)) pe_int (fun _ _ => rfl)))
        (pss_cons (ps_asg (pe_op op_fdiv (pv 2) (pv 1)) (pg_sub (pe_ix ix_list (pv 0) pe_int (fun _ _ => rfl)) pe_int set_list))
        (pss_cons (ps_if (pt_cmpR op_eq (pe_ix ix_list (pe_ix ix_list (pv 0) pe_int (fun _ _ => rfl)) pe_int (fun _ _ => rfl)) pe_int (nomark _))
          (pss_one (ps_expr (pe_bm PySem.F.plainAttrs_list PySem.F.slot_list_pop PySem.F.type_list_pop mt_popAt (pe_ix ix_list (pv 0) pe_int (fun _ _ => rfl)) (pa_cons pe_int pa_nil)))) pss_nil)
        (pss_one (ps_ret (pe_op op_mod (pe_callTy call_int1 (by rfl) mi (by decide +kernel) (pa_cons (pv 2) pa_nil)) (pv 1)))))))
        pss_nil)
      (pss_cons (ps_asg (pe_op op_add (pe_ix ix_list (pv 0) pe_int (fun _ _ => rfl)) pe_int) (pg_sub (pv 0) pe_int set_list))
      (pss_cons (ps_set (i := 3) scDraw.nd rfl (.inl rfl) (pe_ix ix_list (pe_ix ix_list (pv 0) pe_int (fun _ _ => rfl))
          (pe_op op_mod (pe_callTy call_int1 (by rfl) mi (by decide +kernel) (pa_cons (pe_ix ix_list (pv 0) pe_int (fun _ _ => rfl)) pa_nil))
            (pe_callB call_len_seq (by rfl) ml PySem.boot_len (pa_cons (pe_ix ix_list (pv 0) pe_int (fun _ _ => rfl)) pa_nil))) (fun _ _ => rfl)))
      (pss_cons (ps_set (i := 4) scDraw.nd rfl (.inl rfl) (pe_op op_mod (pe_callTy call_int1 (by rfl) mi (by decide +kernel) (pa_cons
          (pe_op op_add (pe_op op_mod (pe_callTy call_int1 (by rfl) mi (by decide +kernel) (pa_cons (pv 3) pa_nil)) pe_int) (pe_op op_mul pe_int (pe_ix ix_list (pv 0) pe_int (fun _ _ => rfl)))) pa_nil)) pe_int))
      (pss_cons (ps_set (i := 4) scDraw.nd rfl (.inl rfl) (pe_op op_mod (pe_callTy call_int1 (by rfl) mi (by decide +kernel) (pa_cons
          (pe_op op_add (pe_op op_mul (pv 4) (pv 4)) (pe_op op_mul pe_int (pe_ix ix_list (pv 0) pe_int (fun _ _ => rfl)))) pa_nil)) pe_int))
      (pss_one (ps_ret (pe_op op_mod (pe_op op_fdiv (pe_op op_mod (pe_callTy call_int1 (by rfl) mi (by decide +kernel) (pa_cons (pe_op op_mul (pv 4) (pv 4)) pa_nil)) pe_int) pe_int) (pv 1)))))))), ?_⟩
    -- deck[0] != []
    have hD : SqL K H D [.ref A, .ref B, .int n] := SqL.of h1
    have hA : SqL K H A (gs.map V.int) := SqL.of h2
    refine ⟨.ref D, rfl, D, _, 0, _, rfl, rfl, hD, atI_nat (j := 0) rfl, Nat.zero_le _, fun p np => ?_⟩
    have dk1 := dk.new (o := .lst []) np
    obtain ⟨np1, np2, np3⟩ := dk.ne np
    have kp1 : Kp D A H (upd H p (.lst [])) := Kp.new np
    have g1 : upd H p (.lst []) D = some (.lst [.ref A, .ref B, .int n]) := by rw [upd_ne np1.symm]; exact h1
    have g2 : upd H p (.lst []) A = some (.lst (gs.map V.int)) := by rw [upd_ne np2.symm]; exact h2
    have g3 : upd H p (.lst []) B = some (.lst (cs.map V.int)) := by rw [upd_ne np3.symm]; exact h3
    have gp : upd H p (.lst []) p = some (.lst []) := upd_same
    generalize upd H p (.lst []) = H1 at dk1 kp1 g1 g2 g3 gp ⊢
    refine ⟨_, _, .lst (SqL.of g2) (dpInts gs), .lst (SqL.of gp) .nil, shapedInts gs, rfl, _, rfl, ?_⟩
    cases gs with
    | cons g gr =>
      have et : (!PyData.eqv (.list ((g :: gr).map PyData.int)) (.list [])) = true := rfl
      rw [et]
      refine iteT ?_
      -- rest = deck[0][0]; deck[0][0] = rest // bound
      refine ⟨.ref D, rfl, D, _, 0, _, rfl, rfl, SqL.of g1, atI_nat (j := 0) rfl, A, _, 0, .int g, rfl, rfl, SqL.of g2, atI_nat (j := 0) rfl, ?_⟩
      refine ⟨.int g, rfl, .int b, rfl, g, b, rfl, rfl, ⟨by omega, by omega⟩, .ref D, rfl, D, _, 0, _, rfl, rfl, SqL.of g1, atI_nat (j := 0) rfl, A, _, 0, 0, rfl, rfl, g2, ixN0 (by simp), ?_⟩
      have e2 : ((g :: gr).map V.int).set 0 (.int (g / b)) = ((g / b) :: gr).map V.int := rfl
      rw [e2]
      have s1 : upd H1 A (.lst (((g / b) :: gr).map V.int)) D = some (.lst [.ref A, .ref B, .int n]) := by rw [upd_ne nda]; exact g1
      have s2 : upd H1 A (.lst (((g / b) :: gr).map V.int)) A = some (.lst (((g / b) :: gr).map V.int)) := upd_same
      have s3 : upd H1 A (.lst (((g / b) :: gr).map V.int)) B = some (.lst (cs.map V.int)) := by rw [upd_ne nab.symm]; exact g3
      have kp2 : Kp D A H (upd H1 A (.lst (((g / b) :: gr).map V.int))) := fun c o z n1 n2 => by rw [upd_ne n2]; exact kp1 c o z n1 n2
      generalize upd H1 A (.lst (((g / b) :: gr).map V.int)) = H2 at s1 s2 s3 kp2 ⊢
      have em0 : 0 ≤ g % b := Int.emod_nonneg _ (by omega)
      have em1 : g % b < b := Int.emod_lt_of_pos _ (by omega)
      -- if deck[0][0] == 0: deck[0].pop(0)
      refine ⟨.ref D, rfl, D, _, 0, _, rfl, rfl, SqL.of s1, atI_nat (j := 0) rfl, A, _, 0, .int (g / b), rfl, rfl, SqL.of s2, atI_nat (j := 0) rfl, rfl, _, rfl, ite2 (fun _ => ?_) (fun _ => ?_)⟩
      · refine ⟨.ref D, rfl, D, _, 0, _, rfl, rfl, SqL.of s1, atI_nat (j := 0) rfl, .inl ⟨rfl, _, SqL.of s2⟩, A, _, 0, 0, .int (g / b), rfl, rfl, s2, by decide, by decide, seqIx0 (by simp), rfl, ?_⟩
        have e3 : ((((g / b) :: gr).map V.int)).eraseIdx 0 = gr.map V.int := rfl
        rw [e3]
        refine ⟨.int g, rfl, .inl ⟨g, rfl, .int b, rfl, g, b, rfl, rfl, by omega, q _ _ em0 em1 ⟨⟨gr, cs, n, by rw [upd_ne nda]; exact s1, upd_same, by rw [upd_ne nab.symm]; exact s3, h4, by simp at h5; omega⟩, nda, ndb, nab⟩ (fun c o z n1 n2 => by rw [upd_ne n2]; exact kp2 c o z n1 n2)⟩⟩
      · refine ⟨.int g, rfl, .inl ⟨g, rfl, .int b, rfl, g, b, rfl, rfl, by omega, q _ _ em0 em1 ⟨⟨_, cs, n, s1, s2, s3, h4, by simpa using h5⟩, nda, ndb, nab⟩ kp2⟩⟩
    | nil =>
      have et : (!PyData.eqv (.list (([] : List Int).map PyData.int)) (.list [])) = false := rfl
      rw [et]
      refine iteF ?_
      -- deck[2] = deck[2] + 1
      refine ⟨.ref D, rfl, D, _, 2, _, rfl, rfl, SqL.of g1, atI_nat (j := 2) rfl, n, 1, rfl, rfl, .ref D, rfl, D, _, 2, 2, rfl, rfl, g1, rfl, ?_⟩
      have e2 : ([V.ref A, V.ref B, V.int n]).set 2 (.int (n + 1)) = [V.ref A, V.ref B, V.int (n + 1)] := rfl
      rw [e2]
      have s1 : upd H1 D (.lst [.ref A, .ref B, .int (n + 1)]) D = some (.lst [.ref A, .ref B, .int (n + 1)]) := upd_same
      have s2 : upd H1 D (.lst [.ref A, .ref B, .int (n + 1)]) A = some (.lst (([] : List Int).map V.int)) := by rw [upd_ne nda.symm]; exact g2
      have s3 : upd H1 D (.lst [.ref A, .ref B, .int (n + 1)]) B = some (.lst (cs.map V.int)) := by rw [upd_ne ndb.symm]; exact g3
      have kp2 : Kp D A H (upd H1 D (.lst [.ref A, .ref B, .int (n + 1)])) := fun c o z n1 n2 => by rw [upd_ne n1]; exact kp1 c o z n1 n2
      generalize upd H1 D (.lst [.ref A, .ref B, .int (n + 1)]) = H2 at s1 s2 s3 kp2 ⊢
      have hcl : 0 < cs.length := List.length_pos_iff.mpr h4
      have hj0 : 0 ≤ (n + 1) % ((cs.map V.int).length : Int) := Int.emod_nonneg _ (by rw [List.length_map]; omega)
      have hj1 : (n + 1) % ((cs.map V.int).length : Int) < ((cs.map V.int).length : Int) := Int.emod_lt_of_pos _ (by rw [List.length_map]; omega)
      obtain ⟨j, ej⟩ : ∃ j : Nat, (n + 1) % ((cs.map V.int).length : Int) = (j : Int) := ⟨((n + 1) % ((cs.map V.int).length : Int)).toNat, by omega⟩
      have hjl : j < cs.length := by
        rw [ej, List.length_map] at hj1
        omega
      have gj : (cs.map V.int)[j]? = some (.int cs[j]) := by rw [List.getElem?_map, List.getElem?_eq_getElem hjl] <;> rfl
      -- cell = ..
      refine ⟨.ref D, rfl, D, _, 1, _, rfl, rfl, SqL.of s1, atI_nat (j := 1) rfl, .ref D, rfl, D, _, 2, _, rfl, rfl, SqL.of s1, atI_nat (j := 2) rfl, .inl ⟨n + 1, rfl, ?_⟩⟩
      refine ⟨.ref D, rfl, D, _, 1, _, rfl, rfl, SqL.of s1, atI_nat (j := 1) rfl, B, _, rfl, .inl (SqL.of s3), n + 1, _, rfl, rfl, by rw [List.length_map]; omega, ?_⟩
      refine ⟨B, _, (j : Int), .int cs[j], rfl, congrArg V.int ej, SqL.of s3, atI_nat gj, ?_⟩
      -- mixed, twice
      refine ⟨_, rfl, .inl ⟨cs[j], rfl, cs[j], 4294966813, rfl, rfl, (by show (0 : Int) < 4294966813; decide), ?_⟩⟩
      refine ⟨.ref D, rfl, D, _, 2, _, rfl, rfl, SqL.of s1, atI_nat (j := 2) rfl, 2147483053, n + 1, rfl, rfl, .inl ⟨by decide, by decide⟩, _, _, rfl, rfl, .inl ⟨_, rfl, _, 4294966813, rfl, rfl, (by show (0 : Int) < 4294966813; decide), ?_⟩⟩
      obtain ⟨m, hm⟩ : ∃ m : Int, (cs[j] % 4294966813 + 2147483053 * (n + 1)) % 4294966813 = m := ⟨_, rfl⟩
      have m0 : 0 ≤ m := by rw [← hm]; exact Int.emod_nonneg _ (by decide)
      have m1 : m < 4294966813 := by rw [← hm]; exact Int.emod_lt_of_pos _ (by decide)
      refine ⟨_, rfl, _, rfl, m, m, congrArg V.int hm, congrArg V.int hm, .inl ⟨by omega, by omega⟩, .ref D, rfl, D, _, 2, _, rfl, rfl, SqL.of s1, atI_nat (j := 2) rfl, 66071, n + 1, rfl, rfl, .inl ⟨by decide, by decide⟩, _, _, rfl, rfl, .inl ⟨_, rfl, _, 4294966769, rfl, rfl, (by show (0 : Int) < 4294966769; decide), ?_⟩⟩
      obtain ⟨m2, hm2⟩ : ∃ m2 : Int, (m * m + 66071 * (n + 1)) % 4294966769 = m2 := ⟨_, rfl⟩
      have m20 : 0 ≤ m2 := by rw [← hm2]; exact Int.emod_nonneg _ (by decide)
      have m21 : m2 < 4294966769 := by rw [← hm2]; exact Int.emod_lt_of_pos _ (by decide)
      refine ⟨_, rfl, _, rfl, m2, m2, congrArg V.int hm2, congrArg V.int hm2, .inl ⟨by omega, by omega⟩, .inl ⟨_, rfl, _, 4294966667, rfl, rfl, (by show (0 : Int) < 4294966667; decide), _, 2048, rfl, rfl, ⟨by decide, by decide⟩, .int b, rfl, _, b, rfl, rfl, by omega, ?_⟩⟩
      exact q _ _ (Int.emod_nonneg _ (by omega)) (Int.emod_lt_of_pos _ (by omega)) ⟨⟨[], cs, n + 1, s1, s2, s3, h4, by simp⟩, nda, ndb, nab⟩ kp2
end
end FF
namespace FF
open PySem PySem.Spec PyProof.Rows L2 Evl
/-! ### the mathematics of ways -/
/-- the row of numbers from a on, each time the one above; at most n of them -/
def wayI (ab : List Int) : Nat → Int → List Int
  | 0, _ => []
  | n + 1, a => if a < 0 then [] else a :: wayI ab n (ab.getD a.toNat (-1))
/-- a tree: each stands behind the one above it -/
def WF (ab : List Int) : Prop := ∀ (i : Nat) (x : Int), ab[i]? = some x → -1 ≤ x ∧ x < (i : Int)
theorem WF.at {ab : List Int} (h : WF ab) (a : Int) (h0 : 0 ≤ a) : -1 ≤ ab.getD a.toNat (-1) ∧ ab.getD a.toNat (-1) < a := by
  rw [List.getD_eq_getElem?_getD]
  cases e : ab[a.toNat]? with
  | none => exact ⟨by simp, by simp; omega⟩
  | some x =>
    have q := h _ _ e
    have e2 : (a.toNat : Int) = a := by omega
    rw [e2] at q
    exact q
theorem wayI_neg {ab : List Int} {n : Nat} {a : Int} (h : a < 0) : wayI ab n a = [] := by
  cases n with
  | zero => rfl
  | succ n => unfold wayI; rw [if_pos h]
theorem wayI_stable {ab : List Int} (h : WF ab) : ∀ (n m : Nat) (a : Int), a < n → a < m → wayI ab n a = wayI ab m a
  | 0, m, a, h1, _ => by rw [wayI_neg (by omega), wayI_neg (by omega)]
  | n + 1, 0, a, _, h2 => by rw [wayI_neg (by omega), wayI_neg (by omega)]
  | n + 1, m + 1, a, h1, h2 => by
    unfold wayI
    by_cases hn : a < 0
    · rw [if_pos hn, if_pos hn]
    · rw [if_neg hn, if_neg hn]
      have q := h.at a (by omega)
      rw [wayI_stable h n m _ (by omega) (by omega)]
/-- one more turn -/
theorem wayI_more {ab : List Int} : ∀ (n : Nat) (a : Int), 0 ≤ a → ∃ z, (wayI ab (n + 1) a).getLast? = some z ∧ 0 ≤ z ∧
    wayI ab (n + 2) a = if 0 ≤ ab.getD z.toNat (-1) then wayI ab (n + 1) a ++ [ab.getD z.toNat (-1)] else wayI ab (n + 1) a
  | 0, a, h => by
    have e1 : wayI ab 1 a = [a] := by unfold wayI; rw [if_neg (by omega)]; rfl
    refine ⟨a, by rw [e1]; rfl, h, ?_⟩
    rw [e1]
    show wayI ab (1 + 1) a = _
    unfold wayI
    rw [if_neg (by omega)]
    by_cases c : 0 ≤ ab.getD a.toNat (-1)
    · rw [if_pos c]
      show a :: wayI ab (0 + 1) _ = _
      unfold wayI
      rw [if_neg (by omega)]
      rfl
    · rw [if_neg c, wayI_neg (by omega)]
  | n + 1, a, h => by
    have e1 : ∀ m, wayI ab (m + 1) a = a :: wayI ab m (ab.getD a.toNat (-1)) := fun m => by
      rw [wayI, if_neg (by omega)]
    by_cases c : 0 ≤ ab.getD a.toNat (-1)
    · obtain ⟨z, h1, h2, h3⟩ := wayI_more n (ab.getD a.toNat (-1)) c
      refine ⟨z, ?_, h2, ?_⟩
      · rw [e1 (n + 1), List.getLast?_cons, h1]
        rfl
      · rw [e1 (n + 2), h3, e1 (n + 1)]
        by_cases d : 0 ≤ ab.getD z.toNat (-1)
        · rw [if_pos d, if_pos d, List.cons_append]
        · rw [if_neg d, if_neg d]
    · refine ⟨a, ?_, h, ?_⟩
      · rw [e1 (n + 1), wayI_neg (by omega)]
        rfl
      · rw [e1 (n + 2), e1 (n + 1), wayI_neg (by omega), wayI_neg (by omega), if_neg c]
theorem wayI_mem {ab : List Int} (h : WF ab) : ∀ (n : Nat) (a x : Int), x ∈ wayI ab n a → 0 ≤ x ∧ x ≤ a
  | 0, _, _, hx => by simp [wayI] at hx
  | n + 1, a, x, hx => by
    unfold wayI at hx
    by_cases c : a < 0
    · rw [if_pos c] at hx; cases hx
    · rw [if_neg c] at hx
      have q := h.at a (by omega)
      rcases List.mem_cons.mp hx with e | e
      · subst e; omega
      · have r := wayI_mem h n _ x e
        omega
theorem wayI_len {ab : List Int} : ∀ (n : Nat) (a : Int), (wayI ab n a).length ≤ n
  | 0, _ => Nat.le_refl _
  | n + 1, a => by
    unfold wayI
    split
    · exact Nat.zero_le _
    · have := wayI_len (ab := ab) n (ab.getD a.toNat (-1))
      rw [List.length_cons]
      omega
/-- the whole way -/
def way (ab : List Int) (a : Int) : List Int := wayI ab (ab.length + 1) a
theorem way_step {ab : List Int} (h : WF ab) {a : Int} (h0 : 0 ≤ a) (h1 : a < ab.length) : way ab a = a :: way ab (ab.getD a.toNat (-1)) := by
  have q := h.at a h0
  unfold way
  rw [wayI, if_neg (by omega), wayI_stable h ab.length (ab.length + 1) _ (by omega) (by omega)]
theorem way_neg {ab : List Int} {a : Int} (h : a < 0) : way ab a = [] := wayI_neg h

/-! ### pairs in a row of the heap -/
/-- a pair of whole numbers stands at v -/
def PairAt (K : PySem.W.Frag) (H : Hp) (v : V) (p : Int × Int) : Prop := ∃ a, v = .ref a ∧ SqT K H a [.int p.1, .int p.2]
def PsAt (K : PySem.W.Frag) (H : Hp) (vs : List V) (ps : List (Int × Int)) : Prop := vs.length = ps.length ∧ ∀ (i : Nat) (v : V) (p : Int × Int), vs[i]? = some v → ps[i]? = some p → PairAt K H v p
theorem PsAt.ex {K : PySem.W.Frag} {H H' : Hp} {vs : List V} {ps : List (Int × Int)} (h : PsAt K H vs ps) (e : Ex H H') : PsAt K H' vs ps :=
  ⟨h.1, fun i v p h1 h2 => let ⟨a, e1, e2⟩ := h.2 i v p h1 h2; ⟨a, e1, ex_t e e2⟩⟩
theorem PsAt.get {K : PySem.W.Frag} {H : Hp} {vs : List V} {ps : List (Int × Int)} (h : PsAt K H vs ps) {i : Nat} {p : Int × Int} (hp : ps[i]? = some p) : ∃ a, vs[i]? = some (.ref a) ∧ SqT K H a [.int p.1, .int p.2] := by
  have hi : i < vs.length := by rw [h.1]; exact (List.getElem?_eq_some_iff.mp hp).1
  obtain ⟨a, e1, e2⟩ := h.2 i vs[i] p (List.getElem?_eq_getElem hi) hp
  exact ⟨a, by rw [List.getElem?_eq_getElem hi, e1], e2⟩
theorem PsAt.nil {K : PySem.W.Frag} {H : Hp} : PsAt K H [] [] := ⟨rfl, fun i v p h _ => by simp at h⟩
theorem PsAt.snoc {K : PySem.W.Frag} {H : Hp} {vs : List V} {ps : List (Int × Int)} (h : PsAt K H vs ps) {a : Addr} {p : Int × Int} (ha : SqT K H a [.int p.1, .int p.2]) : PsAt K H (vs ++ [.ref a]) (ps ++ [p]) := by
  refine ⟨by rw [List.length_append, List.length_append, h.1]; rfl, fun i v q h1 h2 => ?_⟩
  by_cases hi : i < vs.length
  · rw [List.getElem?_append_left hi] at h1
    rw [List.getElem?_append_left (by rw [← h.1]; exact hi)] at h2
    exact h.2 i v q h1 h2
  · have hi2 : i = vs.length := by
      have := (List.getElem?_eq_some_iff.mp h1).1
      rw [List.length_append] at this
      simp at this
      omega
    subst hi2
    rw [List.getElem?_append_right (Nat.le_refl _), Nat.sub_self] at h1
    rw [h.1, List.getElem?_append_right (Nat.le_refl _), Nat.sub_self] at h2
    simp at h1 h2
    subst h1 h2
    exact ⟨a, rfl, ha⟩
/-- as data -/
theorem PsAt.data {K : PySem.W.Frag} {H : Hp} : ∀ {vs : List V} {ps : List (Int × Int)}, PsAt K H vs ps → DpAll K H vs (ps.map fun p => .tuple [.int p.1, .int p.2])
  | [], [], _ => .nil
  | [], _ :: _, h => by have := h.1; simp at this
  | _ :: _, [], h => by have := h.1; simp at this
  | v :: vs, p :: ps, h => by
    obtain ⟨a, e1, e2⟩ := h.2 0 v p rfl rfl
    subst e1
    refine .cons (.tup e2 (.cons (.int _) (.cons (.int _) .nil))) (PsAt.data ⟨?_, fun i w q h1 h2 => h.2 (i + 1) w q (by simpa using h1) (by simpa using h2)⟩)
    have := h.1
    simpa using this

/-! ### _law_pick, _law_deck, _law_way -/
def spPick : Sp := fun vs H Q _ => ∃ (D A B I : Addr) (xs : List V), vs = [.ref D, .ref I] ∧ Deck D A B H ∧ H I = some (.lst xs) ∧ I ≠ D ∧ I ≠ A ∧ xs ≠ [] ∧ xs.length < 1000 ∧
  ∀ v H', v ∈ xs → Deck D A B H' → Kp D A H H' → Q v H'
section
variable {P : Program} {w : World} {K : PySem.W.Frag} {mg : Str → Option Value} {base : Heap}
theorem ok_pick {f fD : Addr} {fd fdD : FuncData} {k : Nat} (F : Fun K "_law_pick" "_law_pick" sPick f fd) (GD : FnOk P w K mg base CX0 k fD fdD ["_law_deck_here", "_law_bound"] spDraw) (bD : Binds K fdD ["_law_deck_here", "_law_bound"] [])
    (gD : mg "_law_draw" = some (.ref fD)) (kD : PySem.W.keepIn K (.ref fD) = true) (ml : mg "len" = none) : FnOk P w K mg base CX0 (k + 1) f fd ["_law_deck_here", "_law_items"] spPick := by
  refine F.ok scPick (fun vs H Q E h => ?_) (fun cdv A outer s H vs Q E hr h => ?_)
  · obtain ⟨D, A, B, I, xs, rfl, _⟩ := h
    rfl
  · obtain ⟨D, A, B, I, xs, rfl, dk, hI, n1, n2, ne, hl, q⟩ := h
    refine ⟨_, pss_one (ps_ret (pe_ix ix_list (pv 1) (pe_call GD hr (by rfl) gD kD bD .nil pass0 (pa_cons (pv 0) (pa_cons (pe_callB call_len_seq (by rfl) ml PySem.boot_len (pa_cons (pv 1) pa_nil)) pa_nil))) (fun _ _ => rfl))), ?_⟩
    have hx : 0 < xs.length := List.length_pos_iff.mpr ne
    refine ⟨.ref I, rfl, .ref D, rfl, .ref I, rfl, I, xs, rfl, .inl (SqL.of hI), D, A, B, xs.length, rfl, by omega, by omega, dk, fun r H' r0 r1 dk' kp => ?_⟩
    obtain ⟨j, rfl⟩ : ∃ j : Nat, r = (j : Int) := ⟨r.toNat, by omega⟩
    have hj : j < xs.length := by omega
    exact ⟨I, xs, (j : Int), xs[j], rfl, rfl, SqL.of (kp _ _ hI n1 n2), atI_nat (List.getElem?_eq_getElem hj), q _ _ (List.getElem_mem hj) dk' kp⟩

/-- the numbers without their signs -/
def absI (i : Int) : Int := if i < 0 then -i else i
def spDeck (K : PySem.W.Frag) : Sp := fun vs H Q _ => ∃ (a : Addr) (ns : List Int), vs = [.ref a] ∧ SqL K H a (ns.map V.int) ∧ ns.length ≤ 63 ∧ ∀ D A B H', Deck D A B H' → Ex H H' → H D = none → H A = none → Q (.ref D) H'
theorem none_ex {H H' : Hp} {p : Addr} (e : Ex H H') (n : H' p = none) : H p = none := by
  cases c : H p with
  | none => rfl
  | some o => rw [e _ _ c] at n; cases n
theorem cut63 (ns : List Int) (h : ns.length ≤ 63) : cutV (ns.map V.int) none (some 63) = ns.map V.int := by
  unfold cutV
  rw [show HT.sIx (ns.map V.int).length (ns.map V.int).length (some 63) = min 63 (ns.map V.int).length from HT.sIx_nat _ _ 63, HT.sIx_none, List.drop_zero, List.length_map, Nat.min_eq_right h, Nat.sub_zero]
  exact List.take_of_length_le (by rw [List.length_map]; exact Nat.le_refl _)
theorem ok_deck {f : Addr} {fd : FuncData} {k : Nat} (F : Fun K "_law_deck" "_law_deck" sDeck f fd) (ma : mg "abs" = none) (ml : mg "len" = none) : FnOk P w K mg base CX0 (k + 1) f fd ["_law_script"] (spDeck K) := by
  refine F.ok scDeck (fun vs H Q E h => ?_) (fun cdv A outer s H vs Q E hr h => ?_)
  · obtain ⟨a, ns, rfl, _⟩ := h
    rfl
  · obtain ⟨a, ns, rfl, hS, hlen, q⟩ := h
    refine ⟨_, pss_cons (ps_setLc (i := 1) (own := [("_law_cell", 2)]) (g := gName 2) (tt := tYes) (by rfl) scDeck.nd rfl rfl (sw_true rfl rfl rfl (by decide +kernel)) (pi_list (pe_slice sl_list (pv 0) po_none (po_some pe_int)))
        (blkOk_by (own := [("_law_cell", 2)]) (N := ["_law_script", "_law_cells", "_law_cell"]) (sc := defScope sDeck) (by decide +kernel)) (fun _ _ _ _ _ => pg_name (i := 2) scDeck.nd rfl (Or.inl rfl)) (fun _ _ _ _ _ => pts_nil)
        (fun _ _ _ _ _ => pe_callB call_abs (by rfl) ma (by decide +kernel) (pa_cons (pv 2) pa_nil)))
      (pss_one (ps_ret (pe_lst (pa_cons (pe_lc (own := [("_law_cell", 2)]) (g := gName 2) (by rfl) scDeck.nd (pi_list (pv 1))
          (blkOk_by (own := [("_law_cell", 2)]) (N := ["_law_script", "_law_cells", "_law_cell"]) (sc := defScope sDeck) (by decide +kernel)) (fun _ _ _ _ _ => pg_name (i := 2) scDeck.nd rfl (Or.inl rfl))
          (fun _ _ _ _ _ => pts_one (pt_cmpR op_ge (pv 2) (pe_op op_pow pe_int pe_int) (nomark _))) (fun _ _ _ _ _ => pv 2))
        (pa_cons (pe_op op_cat (pv 1) (pe_lst (pa_cons (pe_op op_add pe_int (pe_callB call_len_seq (by rfl) ml PySem.boot_len (pa_cons (pv 1) pa_nil))) pa_nil)))
        (pa_cons pe_int pa_nil)))))), ?_⟩
    -- cells
    refine ⟨_, rfl, 63, rfl, a, ns.map V.int, rfl, hS, fun c nc => ?_⟩
    have g0 : upd H c (.lst (cutV (ns.map V.int) none (some 63))) c = some (.lst (ns.map V.int)) := by rw [upd_same, cut63 ns hlen]
    have e0 : Ex H (upd H c (.lst (cutV (ns.map V.int) none (some 63)))) := Ex.new nc
    generalize upd H c (.lst (cutV (ns.map V.int) none (some 63))) = H1 at g0 e0 ⊢
    refine ⟨c, rfl, ⟨_, SqL.of g0⟩, fun D nD => ?_⟩
    have nDc : D ≠ c := (ne_of_none g0 nD).symm
    have nD0 : H D = none := none_ex e0 nD
    refine lc_list (K := K) (a := c) (xs := ns.map V.int) (fun i H' => H' c = some (.lst (ns.map V.int)) ∧ H' D = some (.lst (((ns.map absI).take i).map V.int)) ∧ Ex H H') ⟨by rw [upd_ne nDc.symm]; exact g0, upd_same, e0.mut nD0⟩ (fun i H' _ p => SqL.of p.1) (fun i x H' hx p => ?_) (fun H' p => ?_)
    · obtain ⟨z, hz, rfl⟩ : ∃ z, ns[i]? = some z ∧ x = V.int z := by
        rw [List.getElem?_map] at hx
        cases e : ns[i]? with
        | none => rw [e] at hx; cases hx
        | some z => rw [e] at hx; exact ⟨z, rfl, (Option.some.inj hx).symm⟩
      refine ⟨rfl, .int z, rfl, z, rfl, _, p.2.1, ?_, ?_, ?_, p.2.2.mut nD0⟩
      · rw [List.length_map, List.length_take]
        exact Nat.lt_of_le_of_lt (Nat.min_le_right _ _) (by rw [List.length_map]; exact small1000 (by omega))
      · rw [upd_ne nDc.symm]; exact p.1
      · rw [upd_same, List.take_add_one, List.getElem?_map, hz, List.map_append]
        rfl
    · obtain ⟨_, p2, ep⟩ := p
      rw [List.length_map, List.take_of_length_le (by rw [List.length_map]; exact Nat.le_refl _)] at p2
      -- the return
      refine ⟨.ref D, rfl, D, rfl, ⟨_, SqL.of p2⟩, fun G nG => ?_⟩
      have nGD : G ≠ D := (ne_of_none p2 nG).symm
      have nG0 : H G = none := none_ex ep nG
      refine lc_list (K := K) (a := D) (xs := (ns.map absI).map V.int) (fun i H2 => H2 D = some (.lst ((ns.map absI).map V.int)) ∧ Ex H H2 ∧ ∃ gs : List Int, gs.length ≤ i ∧ H2 G = some (.lst (gs.map V.int))) ⟨by rw [upd_ne nGD.symm]; exact p2, ep.mut nG0, [], Nat.zero_le _, upd_same⟩ (fun i H2 _ p => SqL.of p.1) (fun i x H2 hx p => ?_) (fun H2 p => ?_)
      · obtain ⟨z, rfl⟩ : ∃ z, x = V.int z := by
          rw [List.getElem?_map] at hx
          cases e : (ns.map absI)[i]? with
          | none => rw [e] at hx; cases hx
          | some z => rw [e] at hx; exact ⟨z, (Option.some.inj hx).symm⟩
        have hi : i < 63 := by
          have := (List.getElem?_eq_some_iff.mp hx).1
          rw [List.length_map, List.length_map] at this
          omega
        obtain ⟨q1, qe, gs, q2, q3⟩ := p
        refine ⟨rfl, .int z, rfl, 10, 18, rfl, rfl, ⟨by decide, by decide, by decide⟩, z, _, rfl, rfl, _, rfl, ite2 (fun _ => ?_) (fun _ => ?_)⟩
        · refine ⟨.int z, rfl, gs.map V.int, q3, by rw [List.length_map]; exact small1000 (by omega), by rw [upd_ne nGD.symm]; exact q1, qe.mut nG0, gs ++ [z], by rw [List.length_append]; simp; omega, ?_⟩
          rw [upd_same, List.map_append]
          rfl
        · exact ⟨q1, qe, gs, by omega, q3⟩
      · obtain ⟨q1, qe, gs, q2, q3⟩ := p
        rw [List.length_map, List.length_map] at q2
        -- cells + [11234 + len(cells)], 0
        refine ⟨.ref D, rfl, .ref D, rfl, D, _, rfl, .inl (SqL.of q1), 11234, _, rfl, rfl, (by show 1 ≤ sizeLine; decide), fun e ne => ?_⟩
        have neD : e ≠ D := (ne_of_none q1 ne).symm
        have neG : e ≠ G := (ne_of_none q3 ne).symm
        refine ⟨D, e, _, _, rfl, rfl, by rw [upd_ne neD.symm]; exact q1, upd_same, ?_, fun B nB => ?_⟩
        · rw [List.length_map, List.length_map]
          exact Nat.le_of_lt (small1000 (by simp; omega))
        have g1 : upd H2 e (.lst [.int (11234 + (((ns.map absI).map V.int).length : Int))]) G = some (.lst (gs.map V.int)) := by rw [upd_ne neG.symm]; exact q3
        have nBG : B ≠ G := (ne_of_none g1 nB).symm
        refine ⟨by show 3 ≤ sizeLine; decide, fun C nC => ?_⟩
        have nCB : C ≠ B := fun z => by rw [z, upd_same] at nC; cases nC
        have nCG : C ≠ G := fun z => by rw [z, upd_ne nBG.symm, g1] at nC; cases nC
        refine q C G B _ ⟨⟨gs, (ns.map absI) ++ [11234 + (((ns.map absI).map V.int).length : Int)], 0, upd_same, ?_, ?_, by simp, by omega⟩, nCG, nCB, nBG.symm⟩ (((qe.trans (Ex.new ne)).trans (Ex.new nB)).trans (Ex.new nC)) (none_ex ((qe.trans (Ex.new ne)).trans (Ex.new nB)) nC) nG0
        · rw [upd_ne nCG.symm, upd_ne nBG.symm]
          exact g1
        · rw [upd_ne nCB.symm, upd_same, List.map_append]
          rfl
end
end FF
namespace FF
open PySem PySem.Spec PyProof.Rows L2 Evl
theorem walkEnT {K : PySem.W.Frag} {a : Addr} {xs : List V} : Walk (ItE K a) xs.length (fun H => SqT K H a xs) (YPair (fun i => some (.int (i : Nat))) (fun i => xs[i]?)) := by
  refine ⟨fun i _ hi q => ⟨xs, xs[i], q, List.getElem?_eq_getElem hi⟩, fun _ q => ⟨xs, q, Nat.le_refl _⟩, fun i H v H' _ q y => ?_⟩
  obtain ⟨T, x, h1, h2, h3, h4⟩ := y
  exact ⟨T, .int (i : Nat), x, h1, h2, h3, rfl, h4 xs q⟩
theorem inV_int (x : Int) : ∀ l : List Int, inV (.int x) (l.map V.int) = decide (x ∈ l)
  | [] => by simp [inV]
  | y :: l => by
    have ih := inV_int x l
    unfold inV at ih ⊢
    rw [List.map_cons, List.any_cons, ih]
    show ((y == x) || decide (x ∈ l)) = decide (x ∈ y :: l)
    by_cases c : y = x
    · subst c
      rw [beq_self_eq_true, Bool.true_or, decide_eq_true (List.mem_cons_self ..)]
    · rw [beq_eq_false_iff_ne.mpr c, Bool.false_or]
      by_cases d : x ∈ l
      · rw [decide_eq_true d, decide_eq_true (List.mem_cons_of_mem _ d)]
      · rw [decide_eq_false d, decide_eq_false fun z => (List.mem_cons.mp z).elim (fun q => c q.symm) d]
theorem flat_ints : ∀ l : List Int, (l.map V.int).all flatV = true
  | [] => rfl
  | _ :: l => by rw [List.map_cons, List.all_cons, flat_ints l]; rfl

/-! ### a row of pairs, as a list or a tuple -/
def RowAt (K : PySem.W.Frag) (H : Hp) (T : Addr) (ps : List (Int × Int)) : Prop := ∃ vs, (SqL K H T vs ∨ SqT K H T vs) ∧ PsAt K H vs ps
theorem RowAt.ex {K : PySem.W.Frag} {H H' : Hp} {T : Addr} {ps : List (Int × Int)} (h : RowAt K H T ps) (e : Ex H H') : RowAt K H' T ps := by
  obtain ⟨vs, h1, h2⟩ := h
  refine ⟨vs, ?_, h2.ex e⟩
  rcases h1 with h1 | h1
  · exact .inl (ex_l e h1)
  · exact .inr (ex_t e h1)
theorem WF.get {ps : List (Int × Int)} {i : Nat} {p : Int × Int} (h : WF (ps.map (·.1))) (hp : ps[i]? = some p) : -1 ≤ p.1 ∧ p.1 < (i : Int) := h i p.1 (by rw [List.getElem?_map, hp]; rfl)
theorem getD_fst {ps : List (Int × Int)} {i : Nat} {p : Int × Int} (hp : ps[i]? = some p) : (ps.map (·.1)).getD i (-1) = p.1 := by
  rw [List.getD_eq_getElem?_getD, List.getElem?_map, hp]
  rfl

theorem scWay : FnScope ["_law_fuses", "_law_fuse", "_law_found", "_law_turn"] ["_law_fuses", "_law_fuse"] (defScope sWay) := ⟨rfl, rfl, rfl, by decide +kernel, rfl, by decide +kernel, by decide +kernel⟩

def spWay (K : PySem.W.Frag) : Sp := fun vs H Q _ => ∃ (T : Addr) (ps : List (Int × Int)) (a : Int), vs = [.ref T, .int a] ∧ RowAt K H T ps ∧ WF (ps.map (·.1)) ∧ 0 ≤ a ∧ a < ps.length ∧ ps.length ≤ 100 ∧
  RetL ((way (ps.map (·.1)) a).map V.int) H Q
section
variable {P : Program} {w : World} {K : PySem.W.Frag} {mg : Str → Option Value} {base : Heap}
theorem ok_way {f : Addr} {fd : FuncData} {k : Nat} (F : Fun K "_law_way" "_law_way" sWay f fd) (mr : mg "range" = none) (ml : mg "len" = none) : FnOk P w K mg base CX0 (k + 1) f fd ["_law_fuses", "_law_fuse"] (spWay K) := by
  refine F.ok scWay (fun vs H Q E h => ?_) (fun cdv A outer s H vs Q E hr h => ?_)
  · obtain ⟨T, ps, a, rfl, _⟩ := h
    rfl
  · obtain ⟨T, ps, a, rfl, hT, wf, ha0, ha1, hl, q⟩ := h
    refine ⟨_, pss_cons (ps_set (i := 2) scWay.nd rfl (.inl rfl) (pe_lst (pa_cons (pv 1) pa_nil)))
      (pss_cons (ps_for PassesOwn.never rfl (pi_range1 (by rfl) mr (pa_cons (pe_callB call_len_seq (by rfl) ml PySem.boot_len (pa_cons (pv 0) pa_nil)) pa_nil)) (pg_name (i := 3) scWay.nd rfl (.inl rfl))
        (pss_one (ps_if (pt_cmpR op_ge (pe_ix ix_tup (pe_ix ix_seq (pv 0) (pe_ix ix_list (pv 2) (pe_un un_neg pe_int) (fun _ _ => rfl)) (fun _ _ => rfl)) pe_int (fun _ _ => rfl)) pe_int (nomark _))
          (pss_one (ps_expr (pe_bm PySem.F.plainAttrs_list PySem.F.slot_list_append PySem.F.type_list_append mt_append (pv 2) (pa_cons (pe_ix ix_tup (pe_ix ix_seq (pv 0) (pe_ix ix_list (pv 2) (pe_un un_neg pe_int) (fun _ _ => rfl)) (fun _ _ => rfl)) pe_int (fun _ _ => rfl)) pa_nil)))) pss_nil)))
      (pss_one (ps_ret (pv 2)))), ?_⟩
    refine ⟨.int a, rfl, (by show 1 ≤ sizeLine; decide), fun p np => ?_⟩
    have e0 : Ex H (upd H p (.lst [.int a])) := Ex.new np
    have g0 : upd H p (.lst [.int a]) p = some (.lst [.int a]) := upd_same
    generalize upd H p (.lst [.int a]) = H0 at e0 g0 ⊢
    obtain ⟨vs, hvs, hps⟩ := hT.ex e0
    have hvl : vs.length = ps.length := hps.1
    refine ⟨.ref T, rfl, T, vs, rfl, hvs, vs.length, rfl, by omega, by omega, for_range (lo := 0) (n := ((vs.length : Nat) : Int).toNat) (fun i σ H' => ∃ y, σ = [some (.ref T), some (.int a), some (.ref p), y] ∧ Ex H H' ∧ H' p = some (.lst ((wayI (ps.map (·.1)) (i + 1) a).map V.int)))
      ⟨none, rfl, e0, ?_⟩ ?_ ?_⟩
    · rw [g0, wayI, if_neg (by omega)]
      rfl
    · rintro i σ H1 hi ⟨y, rfl, e1, g1⟩
      obtain ⟨z, hz, z0, hm⟩ := wayI_more (ab := ps.map (·.1)) i a ha0
      have hzm : z ∈ wayI (ps.map (·.1)) (i + 1) a := List.mem_of_getLast? hz
      have hzb := wayI_mem wf _ _ _ hzm
      obtain ⟨j, rfl⟩ : ∃ j : Nat, z = (j : Int) := ⟨z.toNat, by omega⟩
      have hj : j < ps.length := by omega
      obtain ⟨pr, hpr⟩ : ∃ pr, ps[j]? = some pr := ⟨ps[j], List.getElem?_eq_getElem hj⟩
      have eg : (ps.map (·.1)).getD ((j : Int)).toNat (-1) = pr.1 := by rw [Int.toNat_natCast]; exact getD_fst hpr
      rw [eg] at hm
      obtain ⟨vs1, hvs1, hps1⟩ := hT.ex e1
      obtain ⟨b, hb1, hb2⟩ := hps1.get hpr
      have gl : atI ((wayI (ps.map (·.1)) (i + 1) a).map V.int) (-1) = some (.int (j : Int)) := by
        obtain ⟨r, er⟩ := List.getLast?_eq_some_iff.mp hz
        rw [er, List.map_append]
        exact atI_last _ _
      have rd : ∀ Q' : VK, Q' (.ref b) H1 → rIx K (.ref T) (.int (j : Int)) H1 Q' := fun Q' h => by
        rcases hvs1 with hv | hv
        · exact .inl ⟨T, vs1, (j : Int), _, rfl, rfl, hv, atI_nat hb1, h⟩
        · exact .inr (.inl ⟨T, vs1, (j : Int), _, rfl, rfl, hv, atI_nat hb1, h⟩)
      refine ⟨.ref T, rfl, .ref p, rfl, 1, rfl, p, _, -1, _, rfl, rfl, SqL.of g1, gl, rd _ ?_⟩
      refine ⟨b, _, 0, .int pr.1, rfl, rfl, hb2, atI_nat (j := 0) rfl, pr.1, 0, rfl, rfl, _, rfl, ite2 (fun c => ?_) (fun c => ?_)⟩
      · have c' : 0 ≤ pr.1 := of_decide_eq_true c
        rw [if_pos c'] at hm
        refine ⟨.ref p, rfl, .inl ⟨rfl, _, SqL.of g1⟩, .ref T, rfl, .ref p, rfl, 1, rfl, p, _, -1, _, rfl, rfl, SqL.of g1, gl, rd _ ?_⟩
        refine ⟨b, _, 0, .int pr.1, rfl, rfl, hb2, atI_nat (j := 0) rfl, p, _, _, rfl, rfl, g1, ?_, _, rfl, e1.mut np, ?_⟩
        · rw [List.length_map]
          have := wayI_len (ab := ps.map (·.1)) (i + 1) a
          exact small1000 (by omega)
        · rw [upd_same, hm, List.map_append]
          rfl
      · have c' : ¬ 0 ≤ pr.1 := fun z => c (decide_eq_true z)
        rw [if_neg c'] at hm
        exact ⟨_, rfl, e1, by rw [hm]; exact g1⟩
    · rintro σ H1 ⟨y, rfl, e1, g1⟩
      refine ⟨.ref p, rfl, q p H1 np e1 ?_⟩
      rw [g1]
      have ew : wayI (ps.map (·.1)) (((vs.length : Nat) : Int).toNat + 1) a = way (ps.map (·.1)) a := by
        unfold way
        rw [List.length_map, Int.toNat_natCast, hvl]
      rw [ew]

end
/-! ### boards -/
def BoardAt (K : PySem.W.Frag) (H : Hp) (bd : Addr) (fs ls : List (Int × Int)) : Prop := ∃ F L vf vl, SqT K H bd [.ref F, .ref L] ∧ SqT K H F vf ∧ PsAt K H vf fs ∧ SqT K H L vl ∧ PsAt K H vl ls
theorem BoardAt.ex {K : PySem.W.Frag} {H H' : Hp} {bd : Addr} {fs ls : List (Int × Int)} (h : BoardAt K H bd fs ls) (e : Ex H H') : BoardAt K H' bd fs ls := by
  obtain ⟨F, L, vf, vl, h1, h2, h3, h4, h5⟩ := h
  exact ⟨F, L, vf, vl, ex_t e h1, ex_t e h2, h3.ex e, ex_t e h4, h5.ex e⟩
def RetU (xs : List V) (H : Hp) (Q : VK) : Prop := ∀ p H2, H p = none → Ex H H2 → H2 p = some (.tup xs) → Q (.ref p) H2
end FF
namespace FF
open PySem PySem.Spec PyProof.Rows L2 Evl
/-! ### the heap beside the deck -/
section
variable {D A B p : Addr} {H H1 H2 G : Hp} {o : HO}
theorem Kp.hid (k : Kp D A H H1) : Ex (hid D A H) (hid D A H1) := fun b o h => by
  obtain ⟨h1, n1, n2⟩ := of_hid h
  exact hid_of (k b o h1 n1 n2) n1 n2
theorem kp_of_hid (e : Ex (hid D A H) (hid D A H1)) : Kp D A H H1 := fun b o h n1 n2 => (of_hid (e b o (hid_of h n1 n2))).1
theorem ex_hid : Ex (hid D A H) H := fun _ _ h => (of_hid h).1
theorem hidEx (e : Ex H H1) : Ex (hid D A H) (hid D A H1) := (Kp.of e).hid
theorem Deck.hidNew (dk : Deck D A B H) (n : H p = none) : Ex (hid D A H) (hid D A (upd H p o)) ∧ hid D A (upd H p o) p = some o :=
  ⟨hidEx (Ex.new n), hid_of upd_same (dk.ne n).1 (dk.ne n).2.1⟩
theorem hid_none (n : H p = none) : hid D A H p = none := by
  unfold FF.hid
  split
  · rfl
  · exact n
theorem hid_upd (n1 : p ≠ D) (n2 : p ≠ A) : hid D A (upd H p o) = upd (hid D A H) p o := by
  funext b
  unfold FF.hid upd
  by_cases c : b = p
  · subst c
    rw [if_neg (fun z => z.elim n1 n2), if_pos rfl, if_pos rfl]
  · rw [if_neg c, if_neg c]
/-- a list that the deck has no part in is written -/
theorem Deck.put (dk : Deck D A B H) (hB : ∃ vs, H p = some (.lst vs)) (n1 : p ≠ D) (n2 : p ≠ A) (n3 : p ≠ B) : Deck D A B (upd H p o) := by
  obtain ⟨⟨gs, cs, n, h1, h2, h3, h4, h5⟩, a, b, c⟩ := dk
  exact ⟨⟨gs, cs, n, by rw [upd_ne n1.symm]; exact h1, by rw [upd_ne n2.symm]; exact h2, by rw [upd_ne n3.symm]; exact h3, h4, h5⟩, a, b, c⟩
end
/-- a list of pairs' addresses is written: the pairs stand -/
theorem psList {K : PySem.W.Frag} {H : Hp} {p : Addr} {vs ws us : List V} {ps : List (Int × Int)} (g : H p = some (.lst us)) (h : PsAt K H ws ps) : PsAt K (upd H p (.lst vs)) ws ps := by
  refine ⟨h.1, fun i v q h1 h2 => ?_⟩
  obtain ⟨a, e1, e2⟩ := h.2 i v q h1 h2
  refine ⟨a, e1, ?_⟩
  rcases e2 with (e2 | ⟨o, e2⟩) | e2
  · exact .inl (.inl (by rw [upd_ne (ne_of e2 g (fun z => nomatch z))]; exact e2))
  · by_cases c : a = p
    · subst c
      rw [g] at e2
      cases e2
    · exact .inl (.inr ⟨o, by rw [upd_ne c]; exact e2⟩)
  · exact .inr e2
/-- the numbers of a board -/
structure WB (fs ls : List (Int × Int)) : Prop where
  wf : WF (fs.map (·.1))
  one : 1 ≤ fs.length
  few : fs.length ≤ 20
  lamps : ls.length ≤ 30
  marks : ∀ p ∈ fs, 0 ≤ p.2 ∧ p.2 ≤ 3000
  hung : ∀ p ∈ ls, 0 ≤ p.1 ∧ p.1 < fs.length ∧ 1 ≤ p.2 ∧ p.2 ≤ 110
def spBoard (K : PySem.W.Frag) : Sp := fun vs H Q _ => ∃ (D A B : Addr) (a b : Int), vs = [.ref D, .int a, .int b] ∧ Deck D A B H ∧ 1 ≤ a ∧ a ≤ 20 ∧ 0 ≤ b ∧ b ≤ 30 ∧
  ∀ bd fs ls H', WB fs ls → BoardAt K (hid D A H') bd fs ls → Deck D A B H' → Kp D A H H' → Q (.ref bd) H'
abbrev nBoard : List Str := ["_law_deck_here", "_law_fuses", "_law_lamps", "_law_above", "_law_step", "_law_at", "_law_tree", "_law_hung", "_law_found", "_law_fuse", "_law_behind", "_law_some", "_law_mark", "_law_one", "_law_k", "_law_place", "_law_draw_here"]
theorem scBoard : FnScope nBoard ["_law_deck_here", "_law_fuses", "_law_lamps"] (defScope sBoard) := ⟨rfl, rfl, rfl, by decide +kernel, rfl, by decide +kernel, by decide +kernel⟩
section
variable {P : Program} {w : World} {K : PySem.W.Frag} {mg : Str → Option Value} {base : Heap}
theorem ok_board {f fD fP fW : Addr} {fd fdD fdP fdW : FuncData} {k : Nat} (F : Fun K "_law_board" "_law_board" sBoard f fd)
    (GD : FnOk P w K mg base CX0 k fD fdD ["_law_deck_here", "_law_bound"] spDraw) (bD : Binds K fdD ["_law_deck_here", "_law_bound"] []) (gD : mg "_law_draw" = some (.ref fD)) (kD : PySem.W.keepIn K (.ref fD) = true)
    (GP : FnOk P w K mg base CX0 k fP fdP ["_law_deck_here", "_law_items"] spPick) (bP : Binds K fdP ["_law_deck_here", "_law_items"] []) (gP : mg "_law_pick" = some (.ref fP)) (kP : PySem.W.keepIn K (.ref fP) = true)
    (GW : FnOk P w K mg base CX0 k fW fdW ["_law_fuses", "_law_fuse"] (spWay K)) (bW : Binds K fdW ["_law_fuses", "_law_fuse"] []) (gW : mg "_law_way" = some (.ref fW)) (kW : PySem.W.keepIn K (.ref fW) = true)
    (mr : mg "range" = none) (ml : mg "len" = none) (ms : mg "sum" = none) (mi : mg "int" = none) (mx : mg "max" = none) (mn : mg "min" = none) (mt : mg "tuple" = none) :
    FnOk P w K mg base CX0 (k + 1) f fd ["_law_deck_here", "_law_fuses", "_law_lamps"] (spBoard K) := by
  refine F.ok scBoard (fun vs H Q E h => ?_) (fun cdv A' outer s H vs Q E hr h => ?_)
  · obtain ⟨D, A, B, a, b, rfl, _⟩ := h
    rfl
  · obtain ⟨D, A, B, a, b, rfl, dk, ha1, ha2, hb1, hb2, q⟩ := h
    refine ⟨_, pss_cons (ps_asg (pe_tup (pa_cons (pe_lst (pa_cons (pe_un un_neg pe_int) pa_nil)) (pa_cons (pe_call GP hr (by rfl) gP kP bP .nil pass0 (pa_cons (pv 0) (pa_cons (pe_lst (pa_cons pe_int (pa_cons pe_int (pa_cons pe_int (pa_cons pe_int pa_nil))))) pa_nil))) pa_nil)))
        (pg_tup rfl (pgs_cons (pg_name (i := 3) scBoard.nd rfl (.inr rfl)) (pgs_cons (pg_name (i := 4) scBoard.nd rfl (.inr rfl)) pgs_nil))))
      (pss_cons (ps_for PassesOwn.never rfl (pi_range1 (by rfl) mr (pa_cons (pe_call GD hr (by rfl) gD kD bD .nil pass0 (pa_cons (pv 0) (pa_cons (pv 1) pa_nil))) pa_nil)) (pg_name (i := 5) scBoard.nd rfl (.inl rfl))
        (pss_one (ps_expr (pe_bm PySem.F.plainAttrs_list PySem.F.slot_list_append PySem.F.type_list_append mt_append (pv 3) (pa_cons
          (pe_call GP hr (by rfl) gP kP bP .nil pass0 (pa_cons (pv 0) (pa_cons (pe_lst (pa_cons (pv 5) (pa_cons (pe_call GD hr (by rfl) gD kD bD .nil pass0 (pa_cons (pv 0) (pa_cons (pe_op op_add (pv 5) pe_int) pa_nil))) (pa_cons pe_int pa_nil)))) pa_nil))) pa_nil)))))
      (pss_cons (ps_set (i := 6) scBoard.nd rfl (.inr rfl) (pe_lc (own := [("_law_one", 13)]) (g := gName 13) (tt := tYes) (by rfl) scBoard.nd (pi_list (pv 3)) (blkOk_by (own := [("_law_one", 13)]) (N := nBoard) (sc := defScope sBoard) (by decide +kernel))
          (fun _ _ _ _ _ => pg_name (i := 13) scBoard.nd rfl (Or.inl rfl)) (fun _ _ _ _ _ => pts_nil) (fun _ _ _ _ _ => pe_tup (pa_cons (pv 13) (pa_cons pe_int pa_nil)))))
      (pss_cons (ps_setLc (i := 7) (own := [("_law_k", 14)]) (g := gName 14) (tt := tYes) (by rfl) scBoard.nd rfl rfl (sw_true rfl rfl rfl (by decide +kernel))
          (pi_range1 (by rfl) mr (pa_cons (pe_call GD hr (by rfl) gD kD bD .nil pass0 (pa_cons (pv 0) (pa_cons (pe_op op_add (pv 2) pe_int) pa_nil))) pa_nil))
          (blkOk_by (own := [("_law_k", 14)]) (N := nBoard) (sc := defScope sBoard) (by decide +kernel)) (fun _ _ _ _ _ => pg_name (i := 14) scBoard.nd rfl (Or.inl rfl)) (fun _ _ _ _ _ => pts_nil)
          (te := tTup (tCons (tCall spDraw [] E0 (tCons (tVar 0) (tCons (tCB (rLenS K) (tCons (tVar 3) tNil)) tNil))) (tCons (tOp (rI0 fun i j => .int (i + j)) (tVar 4) (tOp (rI CMul fun i j => .int (i * j)) (tVar 4) (tCall spDraw [] E0 (tCons (tVar 0) (tCons (tC (.int 9)) tNil))))) tNil)))
          (fun _ _ _ _ _ => pe_tup (pa_cons (pe_call GD hr (by rfl) gD kD bD .nil pass0 (pa_cons (pv 0) (pa_cons (pe_callB call_len_seq (by rfl) ml PySem.boot_len (pa_cons (pv 3) pa_nil)) pa_nil)))
            (pa_cons (pe_op op_add (pv 4) (pe_op op_mul (pv 4) (pe_call GD hr (by rfl) gD kD bD .nil pass0 (pa_cons (pv 0) (pa_cons pe_int pa_nil))))) pa_nil))))
      (pss_cons (ps_set (i := 8) scBoard.nd rfl (.inl rfl) (pe_lst pa_nil))
      (pss_cons (ps_for PassesOwn.never rfl (pi_range1 (by rfl) mr (pa_cons (pe_callB call_len_seq (by rfl) ml PySem.boot_len (pa_cons (pv 3) pa_nil)) pa_nil)) (pg_name (i := 9) scBoard.nd rfl (.inr rfl))
        (pss_cons (ps_setLc (i := 10) (own := [("_law_place", 15), ("_law_draw_here", 16)]) (g := gTup K 2 (gCons (gName 15) (gCons (gName 16) gNil))) (tt := tTest (tOp (rIn K false) (tVar 9) (tCall (spWay K) [] E0 (tCons (tVar 6) (tCons (tVar 15) tNil))))) (te := tVar 16)
          (by rfl) scBoard.nd rfl rfl (sw_true rfl rfl rfl (by decide +kernel)) (pi_list (pv 7)) (blkOk_by (own := [("_law_place", 15), ("_law_draw_here", 16)]) (N := nBoard) (sc := defScope sBoard) (by decide +kernel))
          (fun _ _ _ _ _ => pg_tup rfl (pgs_cons (pg_name (i := 15) scBoard.nd rfl (Or.inl rfl)) (pgs_cons (pg_name (i := 16) scBoard.nd rfl (Or.inl rfl)) pgs_nil)))
          (fun _ _ _ _ _ => pts_one (pt_cmpR op_in_seq (pv 9) (pe_call GW hr (by rfl) gW kW bW .nil pass0 (pa_cons (pv 6) (pa_cons (pv 15) pa_nil))) (by rfl))) (fun _ _ _ _ _ => pv 16))
        (pss_cons (ps_set (i := 11) scBoard.nd rfl (.inl rfl) (pe_lst (pa_cons (pe_callB (cr_sum rfl) (by rfl) ms (by decide +kernel) (pa_cons (pv 10) pa_nil))
            (pa_cons (pe_op op_sub (pe_callB (cr_sum rfl) (by rfl) ms (by decide +kernel) (pa_cons (pv 10) pa_nil)) pe_int)
            (pa_cons (pe_op op_fdiv (pe_callB (cr_sum rfl) (by rfl) ms (by decide +kernel) (pa_cons (pv 10) pa_nil)) pe_int)
            (pa_cons (pe_op op_sub (pe_callB (cr_sum rfl) (by rfl) ms (by decide +kernel) (pa_cons (pv 10) pa_nil)) (pe_ix ix_list (pe_op op_cat (pv 10) (pe_lst (pa_cons pe_int pa_nil))) pe_int (fun _ _ => rfl)))
            (pa_cons pe_int (pa_cons (pe_op op_mul pe_int (pe_callB (cr_sum rfl) (by rfl) ms (by decide +kernel) (pa_cons (pv 10) pa_nil))) pa_nil))))))))
        (pss_cons (ps_set (i := 12) scBoard.nd rfl (.inl rfl) (pe_call GP hr (by rfl) gP kP bP .nil pass0 (pa_cons (pv 0) (pa_cons (pe_op op_cat (pv 11) (pe_lst (pa_cons (pe_op op_mul (pv 4)
            (pe_call GD hr (by rfl) gD kD bD .nil pass0 (pa_cons (pv 0) (pa_cons pe_int pa_nil)))) pa_nil))) pa_nil))))
        (pss_one (ps_expr (pe_bm PySem.F.plainAttrs_list PySem.F.slot_list_append PySem.F.type_list_append mt_append (pv 8) (pa_cons (pe_tup (pa_cons (pe_ix ix_list (pv 3) (pv 9) (fun _ _ => rfl))
            (pa_cons (pe_callTy call_int1 (by rfl) mi (by decide +kernel) (pa_cons (pe_callB (call_max2 rfl) (by rfl) mx (by decide +kernel) (pa_cons pe_int (pa_cons (pe_callB (call_min2 rfl) (by rfl) mn (by decide +kernel) (pa_cons pe_int (pa_cons (pv 12) pa_nil))) pa_nil))) pa_nil)) pa_nil))) pa_nil))))))))
      (pss_one (ps_ret (pe_tup (pa_cons (pe_callTy call_tuple_of (by rfl) mt (by decide +kernel) (pa_cons (pv 8) pa_nil)) (pa_cons (pe_callTy call_tuple_of (by rfl) mt (by decide +kernel) (pa_cons (pv 7) pa_nil)) pa_nil))))))))))
, ?_⟩
    have G0 : Ex (hid D A H) (hid D A H) := Ex.refl _
    -- above, step = [-1], one of 1, 1, 10, 11
    refine ⟨1, rfl, (by show 1 ≤ sizeLine; decide), fun p1 np1 => ?_⟩
    obtain ⟨e1, g1⟩ := dk.hidNew (o := .lst [.int (-1)]) np1
    have dk1 := dk.new (o := .lst [.int (-1)]) np1
    obtain ⟨m1, m2, m3⟩ := dk.ne np1
    have np1' : hid D A H p1 = none := hid_none np1
    refine ⟨.ref D, rfl, (by show 4 ≤ sizeLine; decide), fun i1 ni1 => ?_⟩
    obtain ⟨e2, g2⟩ := dk1.hidNew (o := .lst [.int 1, .int 1, .int 10, .int 11]) ni1
    have dk2 := dk1.new (o := .lst [.int 1, .int 1, .int 10, .int 11]) ni1
    have g1' := e2 _ _ g1
    have e02 := e1.trans e2
    obtain ⟨l1, l2, l3⟩ := dk1.ne ni1
    generalize upd (upd H p1 (.lst [.int (-1)])) i1 (.lst [.int 1, .int 1, .int 10, .int 11]) = H2 at dk2 g2 g1' e02 ⊢
    refine ⟨D, A, B, i1, _, rfl, dk2, (of_hid g2).1, l1, l2, by simp, by decide, fun v H3 hv dk3 kp3 => ?_⟩
    have e03 := e02.trans kp3.hid
    have g3 := kp3.hid _ _ g1'
    obtain ⟨st, rfl, st0, st1⟩ : ∃ st : Int, v = .int st ∧ 1 ≤ st ∧ st ≤ 11 := by
      simp at hv
      rcases hv with z | z | z
      · exact ⟨1, z, by decide, by decide⟩
      · exact ⟨10, z, by decide, by decide⟩
      · exact ⟨11, z, by decide, by decide⟩
    refine ⟨(by show 2 ≤ sizeLine; decide), fun t nt => ?_⟩
    obtain ⟨e4, _⟩ := dk3.hidNew (o := .tup [.ref p1, .int st]) nt
    have dk4 := dk3.new (o := .tup [.ref p1, .int st]) nt
    refine ⟨t, _, rfl, SqT.of upd_same, rfl, .ref p1, [.int st], rfl, .int st, [], rfl, rfl, ?_⟩
    have e04 := e03.trans e4
    have g4 := e4 _ _ g3
    generalize upd H3 t (.tup [.ref p1, .int st]) = H4 at dk4 e04 g4 ⊢
    -- for at in range(draw(deck, fuses)): above.append(..)
    refine ⟨.ref D, rfl, .int a, rfl, D, A, B, a, rfl, ha1, by omega, dk4, fun r1 H5 r10 r11 dk5 kp5 => ?_⟩
    have e05 := e04.trans kp5.hid
    have g5 := kp5.hid _ _ g4
    refine ⟨r1, rfl, by omega, by omega, for_range (lo := 0) (n := r1.toNat) (fun i σ H' => ∃ (ab : List Int) (y5 : Option V), σ = [some (.ref D), some (.int a), some (.int b), some (.ref p1), some (.int st), y5, none, none, none, none, none, none, none, none, none, none, none] ∧
        Deck D A B H' ∧ Ex (hid D A H) (hid D A H') ∧ hid D A H' p1 = some (.lst (ab.map V.int)) ∧ ab.length = i + 1 ∧ WF ab) ⟨[-1], none, rfl, dk5, e05, g5, rfl, ?_⟩ ?_ ?_⟩
    · intro i x hx
      cases i with
      | zero =>
        have : x = -1 := by simpa using hx.symm
        subst this
        decide
      | succ i => simp at hx
    · rintro i σ H6 hi ⟨ab, y5, rfl, dk6, e06, g6, hal, wf⟩
      have ei : (0 : Int) + (i : Int) = (i : Int) := Int.zero_add _
      refine ⟨.ref p1, rfl, .inl ⟨rfl, _, SqL.of (of_hid g6).1⟩, .ref D, rfl, _, rfl, .ref D, rfl, _, rfl, _, 1, rfl, rfl, D, A, B, _, rfl, by omega, by omega, dk6, fun r2 H7 r20 r21 dk7 kp7 => ?_⟩
      have e07 := e06.trans kp7.hid
      have g7 := kp7.hid _ _ g6
      refine ⟨(by show 3 ≤ sizeLine; decide), fun i2 ni2 => ?_⟩
      obtain ⟨e8, g8⟩ := dk7.hidNew (o := .lst [.int ((0 : Int) + (i : Int)), .int r2, .int 0]) ni2
      have dk8 := dk7.new (o := .lst [.int ((0 : Int) + (i : Int)), .int r2, .int 0]) ni2
      obtain ⟨l1, l2, l3⟩ := dk7.ne ni2
      have e08 := e07.trans e8
      have g8' := e8 _ _ g7
      generalize upd H7 i2 (.lst [.int ((0 : Int) + (i : Int)), .int r2, .int 0]) = H8 at dk8 g8 e08 g8' ⊢
      refine ⟨D, A, B, i2, _, rfl, dk8, (of_hid g8).1, l1, l2, by simp, (by show 3 < 1000; decide), fun v H9 hv dk9 kp9 => ?_⟩
      have e09 := e08.trans kp9.hid
      have g9 := kp9.hid _ _ g8'
      obtain ⟨x, rfl, x0, x1⟩ : ∃ x : Int, v = .int x ∧ 0 ≤ x ∧ x ≤ (i : Int) := by
        simp at hv
        rcases hv with z | z | z
        · exact ⟨_, z, by omega, by omega⟩
        · exact ⟨r2, z, r20, by omega⟩
        · exact ⟨0, z, by omega, by omega⟩
      refine ⟨p1, _, _, rfl, rfl, (of_hid g9).1, by rw [List.length_map]; exact small1000 (by omega), ab ++ [x], _, rfl, dk9.put ⟨_, (of_hid g9).1⟩ m1 m2 m3, ?_, ?_, by rw [List.length_append, hal]; rfl, ?_⟩
      · rw [hid_upd m1 m2]
        exact e09.mut np1'
      · rw [hid_upd m1 m2, upd_same, List.map_append]
        rfl
      · intro j y hy
        by_cases hj : j < ab.length
        · rw [List.getElem?_append_left hj] at hy
          exact wf j y hy
        · have hj2 : j = ab.length := by
            have := (List.getElem?_eq_some_iff.mp hy).1
            rw [List.length_append] at this
            simp at this
            omega
          subst hj2
          rw [List.getElem?_append_right (Nat.le_refl _), Nat.sub_self] at hy
          simp at hy
          subst hy
          omega
    rintro σ H6 ⟨ab, y5, rfl, dk6, e06, g6, hal, wf⟩
    have hab : ab.length ≤ 20 := by omega
    have hab1 : 1 ≤ ab.length := by omega
    -- tree
    refine ⟨.ref p1, rfl, p1, rfl, ⟨_, SqL.of (of_hid g6).1⟩, fun p2 np2 => ?_⟩
    obtain ⟨n1, n2, n3⟩ := dk6.ne np2
    obtain ⟨e7, g7⟩ := dk6.hidNew (o := .lst []) np2
    have np2' : hid D A H6 p2 = none := hid_none np2
    refine lc_list (K := K) (a := p1) (xs := ab.map V.int) (fun i H' => Deck D A B H' ∧ Ex (hid D A H6) (hid D A H') ∧ ∃ vs, hid D A H' p2 = some (.lst vs) ∧ PsAt K (hid D A H') vs ((ab.take i).map fun x => (x, 0)))
      ⟨dk6.new np2, e7, [], g7, PsAt.nil⟩ (fun i H' _ z => SqL.of (of_hid (z.2.1 _ _ g6)).1) ?_ ?_
    · rintro i x H7 hx ⟨dk7, e7, vs, g7, ps7⟩
      obtain ⟨z, hz, rfl⟩ : ∃ z, ab[i]? = some z ∧ x = V.int z := by
        rw [List.getElem?_map] at hx
        cases e : ab[i]? with
        | none => rw [e] at hx; cases hx
        | some z => rw [e] at hx; exact ⟨z, rfl, (Option.some.inj hx).symm⟩
      have hi : i < ab.length := (List.getElem?_eq_some_iff.mp hz).1
      refine ⟨rfl, .int z, rfl, (by show 2 ≤ sizeLine; decide), fun t nt => ?_⟩
      obtain ⟨e8, g8⟩ := dk7.hidNew (o := .tup [.int z, .int 0]) nt
      have dk8 := dk7.new (o := .tup [.int z, .int 0]) nt
      have g7' := e8 _ _ g7
      have ntp : t ≠ p2 := (ne_of_none (of_hid g7).1 nt).symm
      generalize upd H7 t (.tup [.int z, .int 0]) = H8 at dk8 e8 g8 g7' ⊢
      have hlen : vs.length ≤ 20 := by
        rw [ps7.1, List.length_map, List.length_take]
        omega
      have ez : (ab.take (i + 1)).map (fun x => (x, (0 : Int))) = (ab.take i).map (fun x => (x, (0 : Int))) ++ [(z, 0)] := by
        rw [List.take_add_one, hz, List.map_append]
        rfl
      have e78 := e7.trans e8
      have psn : PsAt K (hid D A H8) (vs ++ [.ref t]) ((ab.take (i + 1)).map fun x => (x, 0)) := by
        rw [ez]
        exact (ps7.ex e8).snoc (SqT.of g8)
      refine ⟨vs, (of_hid g7').1, small1000 (by omega), dk8.put ⟨_, (of_hid g7').1⟩ n1 n2 n3, ?_, vs ++ [.ref t], ?_, ?_⟩
      · rw [hid_upd n1 n2]
        exact e78.mut np2'
      · rw [hid_upd n1 n2, upd_same]
      · rw [hid_upd n1 n2]
        exact psList g7' psn
    rintro H7 ⟨dk7, e7, vt, g7, pst⟩
    rw [List.length_map, List.take_of_length_le (Nat.le_refl _)] at pst
    have e07 := e06.trans e7
    have g17 := e7 _ _ g6
    have wfT : WF ((ab.map fun x => (x, (0 : Int))).map (·.1)) := by
      rw [List.map_map]
      have : ((fun p : Int × Int => p.1) ∘ fun x => (x, (0 : Int))) = id := rfl
      rw [this, List.map_id]
      exact wf
    -- hung
    refine ⟨.ref D, rfl, .int b, rfl, b, 1, rfl, rfl, D, A, B, _, rfl, by omega, by omega, dk7, fun r3 H8 r30 r31 dk8 kp8 => ?_⟩
    have e08 := e07.trans kp8.hid
    have g18 := kp8.hid _ _ g17
    have gt8 := kp8.hid _ _ g7
    have pst8 := pst.ex kp8.hid
    refine ⟨r3, rfl, by omega, by omega, fun p3 np3 => ?_⟩
    obtain ⟨h1, h2, h3⟩ := dk8.ne np3
    obtain ⟨e9, g9⟩ := dk8.hidNew (o := .lst []) np3
    have np3' : hid D A H8 p3 = none := hid_none np3
    refine lc_range (lo := 0) (n := r3.toNat) (fun i H' => Deck D A B H' ∧ Ex (hid D A H8) (hid D A H') ∧ ∃ vs ls, hid D A H' p3 = some (.lst vs) ∧ PsAt K (hid D A H') vs ls ∧ ls.length = i ∧ ∀ p ∈ ls, 0 ≤ p.1 ∧ p.1 < (ab.length : Int) ∧ 1 ≤ p.2 ∧ p.2 ≤ 110)
      ⟨dk8.new np3, e9, [], [], g9, PsAt.nil, rfl, fun p hp => nomatch hp⟩ ?_ ?_
    · rintro i H9 hi ⟨dk9, e9, vs, ls, g9, ps9, hll, hls⟩
      have gab := e9 _ _ g18
      refine ⟨rfl, .ref D, rfl, .ref p1, rfl, p1, _, rfl, .inl (SqL.of (of_hid gab).1), D, A, B, _, rfl, by rw [List.length_map]; omega, by rw [List.length_map]; omega, dk9, fun r4 H10 r40 r41 dk10 kp10 => ?_⟩
      rw [List.length_map] at r41
      refine ⟨.int st, rfl, .int st, rfl, .ref D, rfl, D, A, B, 9, rfl, by decide, by decide, dk10, fun r5 H11 r50 r51 dk11 kp11 => ?_⟩
      refine ⟨st, r5, rfl, rfl, .inl ⟨by omega, by omega⟩, st, st * r5, rfl, rfl, (by show 2 ≤ sizeLine; decide), fun t nt => ?_⟩
      have e11 : Ex (hid D A H9) (hid D A H11) := kp10.hid.trans kp11.hid
      obtain ⟨e12, g12⟩ := dk11.hidNew (o := .tup [.int r4, .int (st + st * r5)]) nt
      have dk12 := dk11.new (o := .tup [.int r4, .int (st + st * r5)]) nt
      have e912 := e11.trans e12
      have g9' := e912 _ _ g9
      generalize upd H11 t (.tup [.int r4, .int (st + st * r5)]) = H12 at dk12 e12 g12 g9' e912 ⊢
      have hlen : vs.length ≤ 31 := by
        rw [ps9.1, hll]
        omega
      have psn : PsAt K (hid D A H12) (vs ++ [.ref t]) (ls ++ [(r4, st + st * r5)]) := (ps9.ex e912).snoc (SqT.of g12)
      have e812 := e9.trans e912
      refine ⟨vs, (of_hid g9').1, small1000 (by omega), dk12.put ⟨_, (of_hid g9').1⟩ h1 h2 h3, ?_, vs ++ [.ref t], ls ++ [(r4, st + st * r5)], ?_, ?_, by rw [List.length_append, hll]; rfl, ?_⟩
      · rw [hid_upd h1 h2]
        exact e812.mut np3'
      · rw [hid_upd h1 h2, upd_same]
      · rw [hid_upd h1 h2]
        exact psList g9' psn
      · intro pr hp
        rcases List.mem_append.mp hp with hp | hp
        · exact hls pr hp
        · have := List.mem_singleton.mp hp
          subst this
          have m0 : 0 ≤ st * r5 := Int.mul_nonneg (by omega) r50
          have m1 : st * r5 ≤ 11 * 8 := Int.mul_le_mul st1 (by omega) r50 (by decide)
          exact ⟨r40, r41, by show 1 ≤ st + st * r5; omega, by show st + st * r5 ≤ 110; omega⟩
    rintro H9 ⟨dk9, e9, vl, ls, g9, psl, hll, hls⟩
    have e09 := e08.trans e9
    have g19 := e9 _ _ g18
    have gt9 := e9 _ _ gt8
    have pst9 := pst8.ex e9
    have hvl : vl.length = ls.length := psl.1
    -- found = []
    refine ⟨Nat.zero_le _, fun p4 np4 => ?_⟩
    obtain ⟨f1, f2, f3⟩ := dk9.ne np4
    obtain ⟨e10, g10⟩ := dk9.hidNew (o := .lst []) np4
    have dk10 := dk9.new (o := .lst []) np4
    have np4' : hid D A H9 p4 = none := hid_none np4
    have g110 := e10 _ _ g19
    generalize upd H9 p4 (.lst []) = H10 at dk10 e10 g10 g110 ⊢
    refine ⟨.ref p1, rfl, p1, _, rfl, .inl (SqL.of (of_hid g110).1), ((ab.map V.int).length : Int), rfl, by rw [List.length_map]; omega, by rw [List.length_map]; omega, for_range (lo := 0) (n := ((ab.map V.int).length : Int).toNat)
      (fun i σ H' => ∃ (vf : List V) (fs : List (Int × Int)) (y9 y10 y11 y12 : Option V), σ = [some (.ref D), some (.int a), some (.int b), some (.ref p1), some (.int st), y5, some (.ref p2), some (.ref p3), some (.ref p4), y9, y10, y11, y12, none, none, none, none] ∧
        Deck D A B H' ∧ Ex (hid D A H9) (hid D A H') ∧ hid D A H' p4 = some (.lst vf) ∧ PsAt K (hid D A H') vf fs ∧ fs.map (·.1) = ab.take i ∧ ∀ p ∈ fs, 0 ≤ p.2 ∧ p.2 ≤ 3000)
      ⟨[], [], none, none, none, none, rfl, dk10, e10, g10, PsAt.nil, rfl, fun p hp => nomatch hp⟩ ?_ ?_⟩
    · rintro i σ H11 hi ⟨vf, fs, y9, y10, y11, y12, rfl, dk11, e11, g11, psf, hfs, hmk⟩
      have hi2 : i < ab.length := by
        rw [List.length_map] at hi
        omega
      have ei : (0 : Int) + (i : Int) = (i : Int) := Int.zero_add _
      -- behind
      have gl11 := e11 _ _ g9
      have gt11 := e11 _ _ gt9
      refine ⟨.ref p3, rfl, p3, rfl, ⟨_, SqL.of (of_hid gl11).1⟩, fun p5 np5 => ?_⟩
      obtain ⟨b1, b2, b3⟩ := dk11.ne np5
      obtain ⟨e12, g12⟩ := dk11.hidNew (o := .lst []) np5
      have np5' : hid D A H11 p5 = none := hid_none np5
      refine lc_list (K := K) (a := p3) (xs := vl) (fun j H' => Deck D A B H' ∧ Ex (hid D A H11) (hid D A H') ∧ ∃ bs : List Int, hid D A H' p5 = some (.lst (bs.map V.int)) ∧ bs.length ≤ j)
        ⟨dk11.new np5, e12, [], g12, Nat.le_refl _⟩ (fun j H' _ z => SqL.of (of_hid (z.2.1 _ _ gl11)).1) ?_ ?_
      · rintro j x H12 hx ⟨dk12, e12, bs, g12, hbs⟩
        have hj : j < ls.length := by
          rw [← hvl]
          exact (List.getElem?_eq_some_iff.mp hx).1
        obtain ⟨pr, hpr⟩ : ∃ pr, ls[j]? = some pr := ⟨ls[j], List.getElem?_eq_getElem hj⟩
        have e1112 := e11.trans e12
        obtain ⟨c, hc1, hc2⟩ := (psl.ex e1112).get hpr
        have ex : x = .ref c := Option.some.inj (hx.symm.trans hc1)
        subst ex
        have hpb := hls pr (List.mem_of_getElem? hpr)
        have gt12 := e12 _ _ gt11
        have rowT : RowAt K H12 p2 (ab.map fun x => (x, 0)) := ⟨vt, .inl (SqL.of (of_hid gt12).1), (pst9.ex e1112).ex ex_hid⟩
        refine ⟨c, _, rfl, ex_t ex_hid hc2, rfl, .int pr.1, [.int pr.2], rfl, .int pr.2, [], rfl, rfl, rfl, ?_⟩
        refine ⟨_, rfl, .ref p2, rfl, .int pr.1, rfl, p2, _, pr.1, rfl, rowT, wfT, hpb.1, by rw [List.length_map]; exact hpb.2.1, by rw [List.length_map]; omega, fun u H13 nu e13 gu => ?_⟩
        have dk13 := dk12.ex e13
        have e13' := hidEx (D := D) (A := A) e13
        have g13 := e13' _ _ g12
        refine ⟨u, _, rfl, .inl (SqL.of gu), rfl, flat_ints _, _, rfl, ?_⟩
        refine ite2 (fun _ => ?_) (fun _ => ?_)
        · refine ⟨.int pr.2, rfl, _, (of_hid g13).1, by rw [List.length_map]; exact small1000 (by omega), dk13.put ⟨_, (of_hid g13).1⟩ b1 b2 b3, ?_, bs ++ [pr.2], ?_, by rw [List.length_append]; simp; omega⟩
          · rw [hid_upd b1 b2]
            exact (e12.trans e13').mut np5'
          · rw [hid_upd b1 b2, upd_same, List.map_append]
            rfl
        · exact ⟨dk13, e12.trans e13', bs, g13, by omega⟩
      rintro H12 ⟨dk12, e12, bs, g12, hbs⟩
      -- some
      have hB : SqL K H12 p5 (bs.map V.int) := SqL.of (of_hid g12).1
      refine ⟨.ref p5, rfl, p5, bs, rfl, hB, .ref p5, rfl, p5, bs, rfl, hB, _, 1, rfl, rfl, .ref p5, rfl, p5, bs, rfl, hB, _, 2, rfl, rfl, ⟨by decide, by decide⟩, .ref p5, rfl, p5, bs, rfl, hB, ?_⟩
      refine ⟨.ref p5, rfl, (by show 1 ≤ sizeLine; decide), fun q1 nq1 => ?_⟩
      obtain ⟨e13, g13⟩ := dk12.hidNew (o := .lst [.int 1]) nq1
      have dk13 := dk12.new (o := .lst [.int 1]) nq1
      have g12' := e13 _ _ g12
      generalize upd H12 q1 (.lst [.int 1]) = H13 at dk13 e13 g13 g12' ⊢
      refine ⟨p5, q1, _, _, rfl, rfl, (of_hid g12').1, (of_hid g13).1, by rw [List.length_map]; exact Nat.le_of_lt (small1000 (by simp; omega)), fun q2 nq2 => ?_⟩
      obtain ⟨e14, g14⟩ := dk13.hidNew (o := .lst (bs.map V.int ++ [.int 1])) nq2
      have dk14 := dk13.new (o := .lst (bs.map V.int ++ [.int 1])) nq2
      have g12'' := e14 _ _ g12'
      generalize upd H13 q2 (.lst (bs.map V.int ++ [.int 1])) = H14 at dk14 e14 g14 g12'' ⊢
      obtain ⟨z, hz⟩ : ∃ z : Int, (bs.map V.int ++ [V.int 1])[0]? = some (.int z) := by
        cases bs with
        | nil => exact ⟨1, rfl⟩
        | cons y r => exact ⟨y, rfl⟩
      have hB2 : SqL K H14 p5 (bs.map V.int) := SqL.of (of_hid g12'').1
      refine ⟨q2, _, 0, _, rfl, rfl, SqL.of (of_hid g14).1, atI_nat (j := 0) hz, _, z, rfl, rfl, .ref p5, rfl, p5, bs, rfl, hB2, 2, _, rfl, rfl, .inl ⟨by decide, by decide⟩, (by show 6 ≤ sizeLine; decide), fun p6 np6 => ?_⟩
      have ezs : [V.int bs.sum, V.int (bs.sum - 1), V.int (bs.sum / 2), V.int (bs.sum - z), V.int 0, V.int (2 * bs.sum)] = [bs.sum, bs.sum - 1, bs.sum / 2, bs.sum - z, 0, 2 * bs.sum].map V.int := rfl
      obtain ⟨zs, ezs2, hzl⟩ : ∃ zs : List Int, [V.int bs.sum, V.int (bs.sum - 1), V.int (bs.sum / 2), V.int (bs.sum - z), V.int 0, V.int (2 * bs.sum)] = zs.map V.int ∧ zs.length = 6 := ⟨_, ezs, rfl⟩
      obtain ⟨e15, g15⟩ := dk14.hidNew (o := .lst [V.int bs.sum, V.int (bs.sum - 1), V.int (bs.sum / 2), V.int (bs.sum - z), V.int 0, V.int (2 * bs.sum)]) np6
      have dk15 := dk14.new (o := .lst [V.int bs.sum, V.int (bs.sum - 1), V.int (bs.sum / 2), V.int (bs.sum - z), V.int 0, V.int (2 * bs.sum)]) np6
      have e1115 : Ex (hid D A H11) (hid D A (upd H14 p6 (.lst [V.int bs.sum, V.int (bs.sum - 1), V.int (bs.sum / 2), V.int (bs.sum - z), V.int 0, V.int (2 * bs.sum)]))) := e12.trans (e13.trans (e14.trans e15))
      generalize upd H14 p6 (.lst [V.int bs.sum, V.int (bs.sum - 1), V.int (bs.sum / 2), V.int (bs.sum - z), V.int 0, V.int (2 * bs.sum)]) = H15 at dk15 g15 e1115 ⊢
      rw [ezs2] at g15
      -- mark = pick(deck, some + [step * draw(deck, 9)])
      refine ⟨.ref D, rfl, .ref p6, rfl, .int st, rfl, .ref D, rfl, D, A, B, 9, rfl, by decide, by decide, dk15, fun r6 H16 r60 r61 dk16 kp16 => ?_⟩
      have e1116 := e1115.trans kp16.hid
      have g16 := kp16.hid _ _ g15
      refine ⟨st, r6, rfl, rfl, .inl ⟨by omega, by omega⟩, (by show 1 ≤ sizeLine; decide), fun q3 nq3 => ?_⟩
      obtain ⟨e17, g17⟩ := dk16.hidNew (o := .lst [.int (st * r6)]) nq3
      have dk17 := dk16.new (o := .lst [.int (st * r6)]) nq3
      have g16' := e17 _ _ g16
      have e1117 := e1116.trans e17
      generalize upd H16 q3 (.lst [.int (st * r6)]) = H17 at dk17 g17 g16' e1117 ⊢
      refine ⟨p6, q3, _, _, rfl, rfl, (of_hid g16').1, (of_hid g17).1, by rw [List.length_map]; exact Nat.le_of_lt (small1000 (by simp; omega)), fun q4 nq4 => ?_⟩
      obtain ⟨e18, g18'⟩ := dk17.hidNew (o := .lst (zs.map V.int ++ [.int (st * r6)])) nq4
      have dk18 := dk17.new (o := .lst (zs.map V.int ++ [.int (st * r6)])) nq4
      have e1118 := e1117.trans e18
      obtain ⟨l1, l2, l3⟩ := dk17.ne nq4
      generalize upd H17 q4 (.lst (zs.map V.int ++ [.int (st * r6)])) = H18 at dk18 g18' e1118 ⊢
      refine ⟨D, A, B, q4, _, rfl, dk18, (of_hid g18').1, l1, l2, by simp, by rw [List.length_append, List.length_map]; simp; omega, fun v H19 hv dk19 kp19 => ?_⟩
      obtain ⟨mk, rfl⟩ : ∃ mk : Int, v = .int mk := by
        rcases List.mem_append.mp hv with hv | hv
        · obtain ⟨y, _, rfl⟩ := List.mem_map.mp hv
          exact ⟨y, rfl⟩
        · exact ⟨_, List.mem_singleton.mp hv⟩
      have e1119 := e1118.trans kp19.hid
      have e919 := e11.trans e1119
      have g119 := e919 _ _ g19
      have g419 := e1119 _ _ g11
      -- found.append((above[fuse], int(max(0, min(3000, mark)))))
      have gabi : (ab.map V.int)[i]? = some (.int ab[i]) := by rw [List.getElem?_map, List.getElem?_eq_getElem hi2] <;> rfl
      refine ⟨.ref p4, rfl, .inl ⟨rfl, _, SqL.of (of_hid g419).1⟩, .ref p1, rfl, _, rfl, p1, _, (0 : Int) + (i : Int), .int ab[i], rfl, rfl, SqL.of (of_hid g119).1, by rw [ei]; exact atI_nat gabi, ?_⟩
      refine ⟨.int mk, rfl, 3000, mk, rfl, 0, _, rfl, .inl ⟨_, rfl, (by show 2 ≤ sizeLine; decide), fun t nt => ?_⟩⟩
      obtain ⟨m, hm⟩ : ∃ m : Int, (if (if mk < 3000 then mk else 3000) > 0 then (if mk < 3000 then mk else 3000) else 0) = m := ⟨_, rfl⟩
      have hm0 : 0 ≤ m ∧ m ≤ 3000 := by
        rw [← hm]
        split <;> split <;> omega
      obtain ⟨e20, g20⟩ := dk19.hidNew (o := .tup [.int ab[i], .int (if (if mk < 3000 then mk else 3000) > 0 then (if mk < 3000 then mk else 3000) else 0)]) nt
      have dk20 := dk19.new (o := .tup [.int ab[i], .int (if (if mk < 3000 then mk else 3000) > 0 then (if mk < 3000 then mk else 3000) else 0)]) nt
      have e1120 := e1119.trans e20
      have e920 := e919.trans e20
      have g420 := e20 _ _ g419
      have gtt : t ≠ p4 := (ne_of_none (of_hid g419).1 nt).symm
      generalize upd H19 t (.tup [.int ab[i], .int (if (if mk < 3000 then mk else 3000) > 0 then (if mk < 3000 then mk else 3000) else 0)]) = H20 at dk20 g20 e1120 e920 g420 ⊢
      rw [hm] at g20
      have psn : PsAt K (hid D A H20) (vf ++ [.ref t]) (fs ++ [(ab[i], m)]) := (psf.ex e1120).snoc (SqT.of g20)
      have hfl : fs.length ≤ 20 := by
        have z := congrArg List.length hfs
        rw [List.length_map, List.length_take] at z
        omega
      refine ⟨p4, _, _, rfl, rfl, (of_hid g420).1, by rw [psf.1]; exact small1000 (by omega), vf ++ [.ref t], fs ++ [(ab[i], m)], _, _, _, _, rfl, dk20.put ⟨_, (of_hid g420).1⟩ f1 f2 f3, ?_, ?_, ?_, ?_, ?_⟩
      · rw [hid_upd f1 f2]
        exact e920.mut np4'
      · rw [hid_upd f1 f2, upd_same]
      · rw [hid_upd f1 f2]
        exact psList g420 psn
      · rw [List.map_append, hfs, List.take_add_one, List.getElem?_eq_getElem hi2]
        rfl
      · intro pr hp
        rcases List.mem_append.mp hp with hp | hp
        · exact hmk pr hp
        · have := List.mem_singleton.mp hp
          subst this
          exact hm0
    rintro σ H11 ⟨vf, fs, y9, y10, y11, y12, rfl, dk11, e11, g11, psf, hfs, hmk⟩
    rw [List.length_map, Int.toNat_natCast, List.take_of_length_le (Nat.le_refl _)] at hfs
    have hfl : fs.length = ab.length := by
      have z := congrArg List.length hfs
      rw [List.length_map] at z
      exact z
    have gl11 := e11 _ _ g9
    -- return (tuple(found), tuple(hung))
    refine ⟨.ref p4, rfl, p4, vf, rfl, .inl ⟨SqL.of (of_hid g11).1, fun t1 nt1 => ?_⟩⟩
    obtain ⟨e12, g12⟩ := dk11.hidNew (o := .tup vf) nt1
    have dk12 := dk11.new (o := .tup vf) nt1
    have gl12 := e12 _ _ gl11
    generalize upd H11 t1 (.tup vf) = H12 at dk12 e12 g12 gl12 ⊢
    refine ⟨.ref p3, rfl, p3, vl, rfl, .inl ⟨SqL.of (of_hid gl12).1, fun t2 nt2 => ?_⟩⟩
    obtain ⟨e13, g13⟩ := dk12.hidNew (o := .tup vl) nt2
    have dk13 := dk12.new (o := .tup vl) nt2
    have g12' := e13 _ _ g12
    have e1113 := e12.trans e13
    generalize upd H12 t2 (.tup vl) = H13 at dk13 e13 g13 g12' e1113 ⊢
    refine ⟨(by show 2 ≤ sizeLine; decide), fun t3 nt3 => ?_⟩
    obtain ⟨e14, g14⟩ := dk13.hidNew (o := .tup [.ref t1, .ref t2]) nt3
    have dk14 := dk13.new (o := .tup [.ref t1, .ref t2]) nt3
    have e1114 := e1113.trans e14
    have e914 := e11.trans e1114
    refine q t3 fs ls _ ⟨by rw [hfs]; exact wf, by omega, by omega, by omega, hmk, fun p hp => ?_⟩ ⟨t1, t2, vf, vl, SqT.of g14, SqT.of (e14 _ _ g12'), psf.ex e1114, SqT.of (e14 _ _ g13), psl.ex e914⟩ dk14 (kp_of_hid (e09.trans e914))
    rw [hfl]
    exact hls p hp
end
end FF
namespace FF
open PySem PySem.Spec PyProof.Rows L2 Evl

/-! ### values of all kinds, read as data -/
def keyD : Key → PyData
  | .inl i => .int i
  | .inr x => .str x
mutual
inductive Dq (K : PySem.W.Frag) (H : Hp) : V → PyData → Prop
  | non : Dq K H .non .none
  | bl (b : Bool) : Dq K H (.bl b) (.bool b)
  | int (i : Int) : Dq K H (.int i) (.int i)
  | str (x : Str) : Dq K H (.str x) (.str x)
  | lst {a : Addr} {xs : List V} {ds : List PyData} : SqL K H a xs → a ≠ sysModules → DqA K H xs ds → Dq K H (.ref a) (.list ds)
  | tup {a : Addr} {xs : List V} {ds : List PyData} : SqT K H a xs → DqA K H xs ds → Dq K H (.ref a) (.tuple ds)
  | dct {a : Addr} {kvs : List (Key × V)} {ds : List (PyData × PyData)} : H a = some (.dK kvs) → DqK K H kvs ds → Dq K H (.ref a) (.dict ds)
inductive DqA (K : PySem.W.Frag) (H : Hp) : List V → List PyData → Prop
  | nil : DqA K H [] []
  | cons {v : V} {vs : List V} {d : PyData} {ds : List PyData} : Dq K H v d → DqA K H vs ds → DqA K H (v :: vs) (d :: ds)
inductive DqK (K : PySem.W.Frag) (H : Hp) : List (Key × V) → List (PyData × PyData) → Prop
  | nil : DqK K H [] []
  | cons {k : Key} {v : V} {r : List (Key × V)} {d : PyData} {ds : List (PyData × PyData)} : Dq K H v d → DqK K H r ds → DqK K H ((k, v) :: r) ((keyD k, d) :: ds)
end
section
variable {K : PySem.W.Frag} {H H' : Hp}
mutual
theorem Dq.ex (e : Ex H H') : ∀ (d : PyData) (v : V), Dq K H v d → Dq K H' v d
  | .none, _, h => by cases h; exact .non
  | .bool b, _, h => by cases h; exact .bl b
  | .int i, _, h => by cases h; exact .int i
  | .str x, _, h => by cases h; exact .str x
  | .list ds, _, h => by
    cases h with
    | lst a n b => exact .lst (ex_l e a) n (DqA.ex e ds _ b)
  | .tuple ds, _, h => by
    cases h with
    | tup a b => exact .tup (ex_t e a) (DqA.ex e ds _ b)
  | .dict ds, _, h => by
    cases h with
    | dct a b => exact .dct (e _ _ a) (DqK.ex e ds _ b)
theorem DqA.ex (e : Ex H H') : ∀ (ds : List PyData) (vs : List V), DqA K H vs ds → DqA K H' vs ds
  | [], _, h => by cases h; exact .nil
  | d :: ds, _, h => by
    cases h with
    | cons a b => exact .cons (Dq.ex e d _ a) (DqA.ex e ds _ b)
theorem DqK.ex (e : Ex H H') : ∀ (ds : List (PyData × PyData)) (vs : List (Key × V)), DqK K H vs ds → DqK K H' vs ds
  | [], _, h => by cases h; exact .nil
  | (_, d) :: ds, _, h => by
    cases h with
    | cons a b => exact .cons (Dq.ex e d _ a) (DqK.ex e ds _ b)
end
theorem DqA.len : ∀ {ds : List PyData} {vs : List V}, DqA K H vs ds → vs.length = ds.length
  | [], _, h => by cases h; rfl
  | d :: ds, _, h => by
    cases h with
    | cons a b => rw [List.length_cons, List.length_cons, DqA.len b]
theorem DqA.app : ∀ {ds es : List PyData} {vs ws : List V}, DqA K H vs ds → DqA K H ws es → DqA K H (vs ++ ws) (ds ++ es)
  | [], _, _, _, h, g => by cases h; exact g
  | d :: ds, _, _, _, h, g => by
    cases h with
    | cons a b => exact .cons a (DqA.app b g)
theorem DqA.take : ∀ (n : Nat) {ds : List PyData} {vs : List V}, DqA K H vs ds → DqA K H (vs.take n) (ds.take n)
  | 0, _, _, _ => .nil
  | n + 1, [], _, h => by cases h; exact .nil
  | n + 1, d :: ds, _, h => by
    cases h with
    | cons a b => exact .cons a (DqA.take n b)
theorem DqA.drop : ∀ (n : Nat) {ds : List PyData} {vs : List V}, DqA K H vs ds → DqA K H (vs.drop n) (ds.drop n)
  | 0, _, _, h => h
  | n + 1, [], _, h => by cases h; exact .nil
  | n + 1, d :: ds, _, h => by
    cases h with
    | cons a b => exact DqA.drop n b
theorem DqA.rev : ∀ {ds : List PyData} {vs : List V}, DqA K H vs ds → DqA K H vs.reverse ds.reverse
  | [], _, h => by cases h; exact .nil
  | d :: ds, _, h => by
    cases h with
    | cons a b =>
      rw [List.reverse_cons, List.reverse_cons]
      exact (DqA.rev b).app (.cons a .nil)
theorem DqA.get : ∀ {ds : List PyData} {vs : List V} (i : Nat) {v : V}, DqA K H vs ds → vs[i]? = some v → ∃ d, ds[i]? = some d ∧ Dq K H v d
  | [], _, i, v, h, e => by cases h; simp at e
  | d :: ds, _, 0, v, h, e => by
    cases h with
    | cons a b =>
      have ev := Option.some.inj (show some _ = some v from e)
      subst ev
      exact ⟨d, rfl, a⟩
  | d :: ds, _, i + 1, v, h, e => by
    cases h with
    | cons a b =>
      obtain ⟨d', h1, h2⟩ := DqA.get i b (by simpa using e)
      exact ⟨d', by simpa using h1, h2⟩
theorem DqA.getD : ∀ {ds : List PyData} {vs : List V} (i : Nat) {d : PyData}, DqA K H vs ds → ds[i]? = some d → ∃ v, vs[i]? = some v ∧ Dq K H v d := fun {ds vs} i {d} h e => by
  have hi : i < vs.length := by rw [h.len]; exact (List.getElem?_eq_some_iff.mp e).1
  obtain ⟨d', h1, h2⟩ := h.get i (List.getElem?_eq_getElem hi)
  have : d' = d := Option.some.inj (h1.symm.trans e)
  subst this
  exact ⟨_, List.getElem?_eq_getElem hi, h2⟩
end
section
variable {X : Cx} {pins : List (Addr × Obj)} {σ : L2.St} {H : Hp} {s : Shared}
theorem pairs_read {P : Program} {w : World} : ∀ {es : List DictEntry} {ws : List (Key × Value)}, Pairs (mixKind P w) es ws → Paired (fun (e : DictEntry) (q : Key × Value) => keyIs q.1 e.key = true ∧ e.val = q.2) es ws
  | _, _, .nil => .nil
  | _, _, .cons a b c => .cons ⟨a, b⟩ (pairs_read c)
mutual
theorem Dq.reads (I : Inv X pins σ H s) : ∀ (d : PyData) (v : V) (u : Value), Dq X.K H v d → RelV v u → ∃ as, Reads s.heap u d as ∧ sysModules ∉ as
  | .none, _, _, h, r => by
    cases h; cases r
    exact ⟨_, Reads.none, List.not_mem_nil⟩
  | .bool b, _, _, h, r => by
    cases h; cases r
    exact ⟨_, Reads.bool b, List.not_mem_nil⟩
  | .int i, _, _, h, r => by
    cases h
    obtain ⟨t, rfl⟩ := r
    exact ⟨_, Reads.int i t, List.not_mem_nil⟩
  | .str x, _, _, h, r => by
    cases h
    obtain ⟨t, rfl⟩ := r
    exact ⟨_, Reads.str x t, List.not_mem_nil⟩
  | .list ds, _, _, h, r => by
    cases h with
    | lst hs ne ha =>
      cases r
      obtain ⟨its, rv, ⟨o, n, ho, hc, _, hd⟩, _⟩ := I.list hs
      obtain ⟨as, hr, hn⟩ := DqA.reads I ds _ its ha rv
      exact ⟨_, Reads.list ho hc hd hr, fun z => (List.mem_cons.mp z).elim (fun q => ne q.symm) hn⟩
  | .tuple ds, _, _, h, r => by
    cases h with
    | tup hs ha =>
      cases r
      obtain ⟨its, rv, ⟨o, ho, hc, n, hd⟩, _⟩ := I.tuple hs
      obtain ⟨as, hr, hn⟩ := DqA.reads I ds _ its ha rv
      exact ⟨_, Reads.tuple ho hc hd hr, hn⟩
  | .dict ds, _, _, h, r => by
    cases h with
    | @dct a kvs _ hs ha =>
      cases r
      obtain ⟨hz, hsys, ws, kv, o, es, ep, ho, hx, hd, _, hp, _⟩ := I.hok a _ hs
      obtain ⟨as, bs, h1, h2, h3, h4⟩ := DqK.reads I ds kvs ws es.toList ha kv (pairs_read hp)
      refine ⟨_, Reads.dict ho hx.1 hd h1 h2, fun z => ?_⟩
      rcases List.mem_append.mp z with z | z
      · rcases List.mem_cons.mp z with z | z
        · rw [z] at hsys
          simp at hsys
        · exact h3 z
      · exact h4 z
theorem DqA.reads (I : Inv X pins σ H s) : ∀ (ds : List PyData) (vs : List V) (us : List Value), DqA X.K H vs ds → Vals vs us → ∃ as, ReadsAll s.heap us ds as ∧ sysModules ∉ as
  | [], _, _, h, r => by
    cases h; cases r
    exact ⟨_, ReadsAll.nil, List.not_mem_nil⟩
  | d :: ds, _, _, h, r => by
    cases h with
    | cons h1 h2 =>
      cases r with
      | cons r1 r2 =>
        obtain ⟨as, q1, n1⟩ := Dq.reads I d _ _ h1 r1
        obtain ⟨bs, q2, n2⟩ := DqA.reads I ds _ _ h2 r2
        exact ⟨_, ReadsAll.cons q1 q2, fun z => (List.mem_append.mp z).elim n1 n2⟩
theorem DqK.reads (I : Inv X pins σ H s) : ∀ (ds : List (PyData × PyData)) (kvs : List (Key × V)) (ws : List (Key × Value)) (es : List DictEntry), DqK X.K H kvs ds → KV kvs ws → Paired (fun (e : DictEntry) (q : Key × Value) => keyIs q.1 e.key = true ∧ e.val = q.2) es ws →
    ∃ as bs, ReadsAll s.heap (es.map (·.key)) (ds.map (·.1)) as ∧ ReadsAll s.heap (es.map (·.val)) (ds.map (·.2)) bs ∧ sysModules ∉ as ∧ sysModules ∉ bs
  | [], _, _, _, h, r, p => by
    cases h; cases r; cases p
    exact ⟨_, _, ReadsAll.nil, ReadsAll.nil, List.not_mem_nil, List.not_mem_nil⟩
  | (_, d) :: ds, _, _, _, h, r, p => by
    cases h with
    | @cons k v kr _ _ h1 h2 =>
      cases r with
      | @cons _ q _ qr r1 r2 =>
        cases p with
        | @cons e _ er _ p1 p2 =>
          obtain ⟨k1, w1⟩ := q
          obtain ⟨e1, e2⟩ := r1
          obtain ⟨p3, p4⟩ := p1
          replace e1 : k = k1 := e1
          replace e2 : RelV v w1 := e2
          replace p3 : keyIs k1 e.key = true := p3
          replace p4 : e.val = w1 := p4
          subst e1 p4
          obtain ⟨bs, q2, n2⟩ := Dq.reads I d _ _ h1 e2
          obtain ⟨as', bs', q3, q4, n3, n4⟩ := DqK.reads I ds _ _ _ h2 r2 p2
          have q1 : Reads s.heap e.key (keyD k) [] := by
            rcases keyIs_shape p3 with ⟨i, t, rfl, ek⟩ | ⟨x, t, rfl, ek⟩
            · rw [ek]; exact Reads.int i t
            · rw [ek]; exact Reads.str x t
          refine ⟨[] ++ as', bs ++ bs', ?_, ?_, n3, fun z => (List.mem_append.mp z).elim n2 n4⟩
          · rw [List.map_cons, List.map_cons]
            exact ReadsAll.cons q1 q3
          · rw [List.map_cons, List.map_cons]
            exact ReadsAll.cons q2 q4
end
end

/-! ### what can be shown by repr -/
structure Sv (W k : Nat) (d : PyData) : Prop where
  sh : d.showable = true
  lf : d.leavesShort 40 = true
  wt : d.weight ≤ W
  dp : d.depth ≤ k
structure SvA (W k : Nat) (ds : List PyData) : Prop where
  sh : PyData.showableAll ds = true
  lf : PyData.leavesShortAll 40 ds = true
  wt : PyData.weightAll ds ≤ W
  dp : PyData.depthAll ds ≤ k
theorem Sv.mono {W k W' k' : Nat} {d : PyData} (h : Sv W k d) (h1 : W ≤ W') (h2 : k ≤ k') : Sv W' k' d := ⟨h.sh, h.lf, Nat.le_trans h.wt h1, Nat.le_trans h.dp h2⟩
theorem SvA.mono {W k W' k' : Nat} {d : List PyData} (h : SvA W k d) (h1 : W ≤ W') (h2 : k ≤ k') : SvA W' k' d := ⟨h.sh, h.lf, Nat.le_trans h.wt h1, Nat.le_trans h.dp h2⟩
theorem SvA.nil {k : Nat} : SvA 0 k [] := ⟨rfl, rfl, Nat.le_refl _, Nat.zero_le _⟩
theorem SvA.cons {W V k j : Nat} {d : PyData} {ds : List PyData} (h : Sv W k d) (t : SvA V j ds) : SvA (W + 1 + V) (max k j) (d :: ds) := by
  refine ⟨?_, ?_, ?_, ?_⟩
  · simp only [PyData.showableAll, h.sh, t.sh, Bool.and_self]
  · simp only [PyData.leavesShortAll, h.lf, t.lf, Bool.and_self]
  · have a := h.wt
    have b := t.wt
    simp only [PyData.weightAll]
    omega
  · simp only [PyData.depthAll]
    have a := h.dp
    have b := t.dp
    omega
theorem SvA.app {W V k j : Nat} : ∀ {ds es : List PyData}, SvA W k ds → SvA V j es → SvA (W + V) (max k j) (ds ++ es)
  | [], es, a, b => b.mono (Nat.le_add_left _ _) (Nat.le_max_right _ _)
  | d :: ds, es, a, b => by
    have h1 := a.sh
    have h2 := a.lf
    have h3 := a.wt
    have h4 := a.dp
    simp only [PyData.showableAll, Bool.and_eq_true] at h1
    simp only [PyData.leavesShortAll, Bool.and_eq_true] at h2
    simp only [PyData.weightAll] at h3
    simp only [PyData.depthAll] at h4
    have t : SvA (W - d.weight - 1) k ds := ⟨h1.2, h2.2, by omega, by omega⟩
    have r := SvA.cons (W := d.weight) (k := k) ⟨h1.1, h2.1, Nat.le_refl _, by omega⟩ (t.app b)
    exact r.mono (by omega) (by omega)
theorem SvA.sub {W k : Nat} : ∀ {ds : List PyData}, SvA W k ds → (∀ d ∈ ds, Sv W k d)
  | [], _, d, hd => nomatch hd
  | x :: ds, a, d, hd => by
    have h1 := a.sh
    have h2 := a.lf
    have h3 := a.wt
    have h4 := a.dp
    simp only [PyData.showableAll, Bool.and_eq_true] at h1
    simp only [PyData.leavesShortAll, Bool.and_eq_true] at h2
    simp only [PyData.weightAll] at h3
    simp only [PyData.depthAll] at h4
    rcases List.mem_cons.mp hd with e | e
    · subst e
      exact ⟨h1.1, h2.1, by omega, by omega⟩
    · exact SvA.sub (ds := ds) ⟨h1.2, h2.2, by omega, by omega⟩ d e
theorem SvA.all {W k : Nat} : ∀ {ds : List PyData}, (∀ d ∈ ds, Sv W k d) → SvA ((W + 1) * ds.length) k ds
  | [], _ => by simpa using (SvA.nil (k := k))
  | d :: ds, h => by
    have t := SvA.cons (h d (List.mem_cons_self ..)) (SvA.all (ds := ds) fun x hx => h x (List.mem_cons_of_mem _ hx))
    have e : W + 1 + (W + 1) * ds.length = (W + 1) * (d :: ds).length := by
      rw [List.length_cons, Nat.mul_add, Nat.mul_one, Nat.add_comm]
    rw [e] at t
    exact t.mono (Nat.le_refl _) (by omega)
theorem SvA.drop {W k : Nat} : ∀ (n : Nat) {ds : List PyData}, SvA W k ds → SvA W k (ds.drop n)
  | 0, _, a => a
  | n + 1, [], a => a
  | n + 1, d :: ds, a => by
    have h1 := a.sh
    have h2 := a.lf
    have h3 := a.wt
    have h4 := a.dp
    simp only [PyData.showableAll, Bool.and_eq_true] at h1
    simp only [PyData.leavesShortAll, Bool.and_eq_true] at h2
    simp only [PyData.weightAll] at h3
    simp only [PyData.depthAll] at h4
    exact SvA.drop n (ds := ds) ⟨h1.2, h2.2, by omega, by omega⟩
theorem SvA.take {W k : Nat} : ∀ (n : Nat) {ds : List PyData}, SvA W k ds → SvA W k (ds.take n)
  | 0, _, a => SvA.nil.mono (Nat.zero_le _) (Nat.le_refl _)
  | n + 1, [], a => a
  | n + 1, d :: ds, a => by
    have h1 := a.sh
    have h2 := a.lf
    have h3 := a.wt
    have h4 := a.dp
    simp only [PyData.showableAll, Bool.and_eq_true] at h1
    simp only [PyData.leavesShortAll, Bool.and_eq_true] at h2
    simp only [PyData.weightAll] at h3
    simp only [PyData.depthAll] at h4
    have t : SvA (W - d.weight - 1) k (ds.take n) := SvA.take n (ds := ds) ⟨h1.2, h2.2, by omega, by omega⟩
    rw [List.take_succ_cons]
    exact (SvA.cons (W := d.weight) (k := k) ⟨h1.1, h2.1, Nat.le_refl _, by omega⟩ t).mono (by omega) (by omega)
theorem SvA.rev {W k : Nat} : ∀ {ds : List PyData}, SvA W k ds → SvA W k ds.reverse
  | [], a => a
  | d :: ds, a => by
    have h1 := a.sh
    have h2 := a.lf
    have h3 := a.wt
    have h4 := a.dp
    simp only [PyData.showableAll, Bool.and_eq_true] at h1
    simp only [PyData.leavesShortAll, Bool.and_eq_true] at h2
    simp only [PyData.weightAll] at h3
    simp only [PyData.depthAll] at h4
    have t : SvA (W - d.weight - 1) k ds.reverse := SvA.rev (ds := ds) ⟨h1.2, h2.2, by omega, by omega⟩
    rw [List.reverse_cons]
    exact (t.app (SvA.cons (W := d.weight) (k := k) ⟨h1.1, h2.1, Nat.le_refl _, by omega⟩ (SvA.nil (k := k)))).mono (by omega) (by omega)
theorem SvA.rep {W k : Nat} {ds : List PyData} (h : SvA W k ds) : ∀ n : Nat, SvA (n * W) k (List.replicate n ds).flatten
  | 0 => by simpa using (SvA.nil (k := k))
  | n + 1 => by
    rw [List.replicate_succ, List.flatten_cons]
    exact (h.app (SvA.rep h n)).mono (by rw [Nat.add_mul]; omega) (by omega)
theorem Sv.tup {W k : Nat} {ds : List PyData} (h : SvA W k ds) : Sv W (k + 1) (.tuple ds) := by
  refine ⟨?_, ?_, ?_, ?_⟩
  · simp only [PyData.showable, h.sh]
  · simp only [PyData.leavesShort, h.lf]
  · simp only [PyData.weight]; exact h.wt
  · simp only [PyData.depth]; have := h.dp; omega
theorem Sv.lst {W k : Nat} {ds : List PyData} (h : SvA W k ds) : Sv W (k + 1) (.list ds) := by
  refine ⟨?_, ?_, ?_, ?_⟩
  · simp only [PyData.showable, h.sh]
  · simp only [PyData.leavesShort, h.lf]
  · simp only [PyData.weight]; exact h.wt
  · simp only [PyData.depth]; have := h.dp; omega
theorem Sv.items {W k : Nat} {ds : List PyData} (h : Sv W k (.tuple ds)) : SvA W k ds := by
  refine ⟨?_, ?_, ?_, ?_⟩
  · have := h.sh; simpa only [PyData.showable] using this
  · have := h.lf; simpa only [PyData.leavesShort] using this
  · have := h.wt; simpa only [PyData.weight] using this
  · have := h.dp
    simp only [PyData.depth] at this
    omega
theorem Sv.int {k : Nat} {i : Int} (h : i.natAbs < 2 ^ 110) : Sv 110 k (.int i) := by
  have hl : i.natAbs.log2 < 110 := log2_lt_of (by decide) h
  refine ⟨?_, ?_, ?_, Nat.zero_le _⟩
  · simp only [PyData.showable, decide_eq_true_eq]
    omega
  · simp only [PyData.leavesShort, decide_eq_true_eq]
    show (Str.ofString (toString i)).length ≤ 40
    rw [PySem.ofString_length]
    have h2 : i.natAbs < 10 ^ 39 := Nat.lt_trans h (by decide)
    exact int_text_length_le10 (k := 39) (by decide) h2
  · simp only [PyData.weight]
    split
    · exact Nat.zero_le _
    · omega
theorem Sv.non {k : Nat} : Sv 0 k .none := ⟨rfl, rfl, Nat.le_refl _, Nat.zero_le _⟩
theorem Sv.bl {k : Nat} {b : Bool} : Sv 0 k (.bool b) := ⟨rfl, rfl, Nat.le_refl _, Nat.zero_le _⟩
theorem Sv.str {k : Nat} {x : Str} (h : (x.cps.toList.all fun c => decide (c < 1000)) = true) (hl : x.length ≤ 40) : Sv 40 k (.str x) := by
  refine ⟨rfl, ?_, hl, Nat.zero_le _⟩
  simp only [PyData.leavesShort, List.all_eq_true, decide_eq_true_eq]
  intro c hc
  have := List.all_eq_true.mp h c hc
  simp at this
  have e : (16 : Nat) ^ 8 = 4294967296 := by decide
  omega
theorem Sv.fits {W k : Nat} {d : PyData} (h : Sv W k d) (hW : W ≤ 300000) : d.shown.length ≤ sizeLine := by
  have a := PyData.shown_le 40 (by decide) d h.lf
  have b := h.wt
  have c : (40 + 2) * d.weight ≤ 42 * 300000 := Nat.mul_le_mul (by decide) (by omega)
  have e : sizeLine = 16777216 := by decide
  omega

/-- repr of any such value -/
def rReprV (K : PySem.W.Frag) : List V → Hp → VK → Prop := fun xs H Q => ∃ x d, xs = [x] ∧ Dq K H x d ∧ Sv 300000 60 d ∧ Q (.str d.shown) H
theorem callReprV {X : Cx} (hg : X.A.guards = some []) (hu : X.A.units + 64 < cLine) : CallR X (.builtin "repr") (rReprV X.K) := by
  intro pins s σ H xs us Q I r h
  obtain ⟨x, d, rfl, hd, hs, q⟩ := h
  have ft := hs.fits (Nat.le_refl _)
  cases r with
  | cons r1 r2 =>
    cases r2
    cases x with
    | non =>
      cases hd
      cases (show _ = Value.none from r1)
      exact PySem.P.repr_of_none ⟨.str _, H, I.tok _, ⟨_, rfl⟩, q⟩
    | bl b =>
      cases hd
      cases (show _ = Value.bool b from r1)
      exact PySem.P.repr_of_bool ⟨.str _, H, I.tok _, ⟨_, rfl⟩, q⟩
    | int i =>
      cases hd
      obtain ⟨t, rfl⟩ := r1
      have := hs.sh
      simp only [PyData.showable, decide_eq_true_eq] at this
      exact PySem.P.repr_of_int this ⟨.str _, H, I.tok _, ⟨_, rfl⟩, q⟩
    | str z =>
      cases hd
      obtain ⟨t, rfl⟩ := r1
      exact PySem.P.repr_of_str ⟨.str _, H, I.tok _, ⟨_, rfl⟩, q⟩ ft
    | ref a =>
      obtain ⟨as, rd, nsys⟩ := Dq.reads I d (.ref a) _ hd r1
      cases (show _ = Value.ref a from r1)
      have hdp := hs.dp
      refine repr_of_reads' rd hs.sh (fun _ => nsys) hg (by omega) (fun _ _ e => e) (fun h' u tk hk => ?_) ft
      exact ⟨.str d.shown, H, I.kept hk, ⟨_, rfl⟩, q⟩
    | byt _ => cases hd
    | flt _ => cases hd
    | ty _ => cases hd

/-! ### isinstance on such values -/
def tyD : PyData → String
  | .none => "NoneType"
  | .bool _ => "bool"
  | .int _ => "int"
  | .str _ => "str"
  | .list _ => "list"
  | .tuple _ => "tuple"
  | .dict _ => "dict"
theorem dqTy {K : PySem.W.Frag} {H : Hp} {v : V} {d : PyData} (h : Dq K H v d) : TyX K H v (.type (tyD d)) := by
  cases h with
  | non => exact .base .non
  | bl b => exact .base (.bl b)
  | int i => exact .base (.int i)
  | str x => exact .base (.str x)
  | lst a _ _ =>
    rcases a with (a | ⟨o, a⟩) | ⟨o, its, n, hk, hc, _⟩
    · exact .base (.lst a)
    · exact .base (.frz a)
    · exact .kList hk hc
  | tup a _ =>
    rcases a with (a | ⟨o, a⟩) | ⟨o, its, n, hk, hc, _⟩
    · exact .base (.tup a)
    · exact .fTuple a
    · exact .kTuple hk hc
  | dct a _ => exact .base (.dK a)
def isTupD : PyData → Bool
  | .tuple _ => true
  | _ => false
def isIntT : PyData → Bool
  | .int _ => true
  | .bool _ => true
  | _ => false
def isBoolD : PyData → Bool
  | .bool _ => true
  | _ => false
theorem kitTup : ∀ d : PyData, kitB (tyD d) "tuple" = some (isTupD d)
  | .none => (by decide +kernel : kitB "NoneType" "tuple" = some false)
  | .bool _ => (by decide +kernel : kitB "bool" "tuple" = some false)
  | .int _ => (by decide +kernel : kitB "int" "tuple" = some false)
  | .str _ => (by decide +kernel : kitB "str" "tuple" = some false)
  | .list _ => (by decide +kernel : kitB "list" "tuple" = some false)
  | .tuple _ => (by decide +kernel : kitB "tuple" "tuple" = some true)
  | .dict _ => (by decide +kernel : kitB "dict" "tuple" = some false)
theorem kitInt : ∀ d : PyData, kitB (tyD d) "int" = some (isIntT d)
  | .none => (by decide +kernel : kitB "NoneType" "int" = some false)
  | .bool _ => (by decide +kernel : kitB "bool" "int" = some true)
  | .int _ => (by decide +kernel : kitB "int" "int" = some true)
  | .str _ => (by decide +kernel : kitB "str" "int" = some false)
  | .list _ => (by decide +kernel : kitB "list" "int" = some false)
  | .tuple _ => (by decide +kernel : kitB "tuple" "int" = some false)
  | .dict _ => (by decide +kernel : kitB "dict" "int" = some false)
theorem kitBool : ∀ d : PyData, kitB (tyD d) "bool" = some (isBoolD d)
  | .none => (by decide +kernel : kitB "NoneType" "bool" = some false)
  | .bool _ => (by decide +kernel : kitB "bool" "bool" = some true)
  | .int _ => (by decide +kernel : kitB "int" "bool" = some false)
  | .str _ => (by decide +kernel : kitB "str" "bool" = some false)
  | .list _ => (by decide +kernel : kitB "list" "bool" = some false)
  | .tuple _ => (by decide +kernel : kitB "tuple" "bool" = some false)
  | .dict _ => (by decide +kernel : kitB "dict" "bool" = some false)
/-- isinstance(x, tuple) .. -/
theorem isiV {K : PySem.W.Frag} {H : Hp} {v : V} {d : PyData} {T : String} {b : Bool} {Q : VK} (h : Dq K H v d) (k : kitB (tyD d) T = some b) (q : Q (.bl b) H) : rIsi K [v, .ty T] H Q :=
  ⟨v, .ty T, _, _, b, rfl, .ty T, dqTy h, kit_ty k, q⟩
end FF
namespace FF
open PySem PySem.Spec PyProof.Rows L2 Evl
/-! ### the law's own call, the table of modules known -/
/-- the table of modules stands where it stands: no new thing is laid there -/
def Sys (H : Hp) : Prop := ∃ o, H sysModules = some (.frz o (.own 0))
theorem Sys.ex {H H' : Hp} (s : Sys H) (e : Ex H H') : Sys H' := let ⟨o, h⟩ := s; ⟨o, e _ _ h⟩
theorem Sys.ne {H : Hp} {p : Addr} (s : Sys H) (n : H p = none) : p ≠ sysModules := let ⟨_, h⟩ := s; (ne_of_none h n).symm
def BodyS (P : Program) (w : World) (K : PySem.W.Frag) (mg : Str → Option Value) (base : Heap) (k : Nat) (N : List Str) (st : Stmt) (f : Addr) : Prop :=
  ∀ (cdv : Value) (A : Around) (outer : List Env) (s : Shared) (H : Hp) (a : Addr) (ns : List Int), A.guards = some [] → Room k (A.deeper (envOfC "law" (defScope st) s.heap.objs.size f cdv)) →
    Sys H → SqL K H a (ns.map V.int) → ns.length ≤ 63 → ∃ t, PSs (cxOf CX0 P w K mg base N "law" (defScope st) f cdv A outer s H E0).nox (defBody st) t ∧ t { nx := fun _ _ => False, rt := fun v _ => v = .bl true } (start N [.ref a]) H
theorem runsS {P : Program} {w : World} {K : PySem.W.Frag} {mg : Str → Option Value} {base : Heap} {k : Nat} {N : List Str} {x : Str} {st : Stmt} {f a : Addr} {fd : FuncData} {s : Shared} {H : Hp} {ns : List Int}
    (F : Fun K "law" "law" st f fd) (S : FnScope N [x] (defScope st)) (hb : BodyS P w K mg base k N st f) (bind : ∀ (s : Shared) (u : Value), BindsTo s fd ⟨[u], []⟩ [(x, u)]) (hr : Room (k + 1) callerA)
    (e0 : Env0 P w K mg base callerA [] s H) (hy : Sys H) (hS : SqL K H a (ns.map V.int)) (hl : ns.length ≤ 63) :
    codeAny (model P w) callerA (.call (.ref f) ⟨[.ref a], []⟩) (CR CX0 [] P w H s (fun v _ => v = .bl true) E0) s := by
  obtain ⟨oc, od, kV, doc, pm, an, cdv, ct, osl, rfl, lk, hcd⟩ := F.ex
  have hK : K.In s.heap := e0.mod.kin.keeps fun b o z => (e0.bs b o z).1
  have nolim : s.heap.NoLimit := e0.mod.nolimit.keeps fun b o z => (e0.bs b o z).1
  have r : Vals [V.ref a] [Value.ref a] := .cons rfl .nil
  have kinds : ∀ y ∈ [x].zip [Value.ref a], (defScope st).names.lookup y.1 = some .local ∨ ((defScope st).names.lookup y.1 = some .cell ∧ ((cellsFrom (s.heap.objs.size + 1) (defScope st).names []).lookup y.1).isSome = true) := by
    rintro ⟨n, v⟩ hy
    rcases S.par n (List.of_mem_zip hy).1 with z | z
    · exact Or.inl z
    · exact Or.inr ⟨z, PySem.W.cellsFrom_some _ _ _ (Or.inl z)⟩
  refine codeAny_call_function hr.depth (hK _ _ lk) rfl S.co S.gen rfl (PySem.W.codeRec_of hK hcd) (bind s (.ref a) _ _ _ _ ?_)
  refine wpAny_newFunctionEnv_cells S.kind kinds fun env he s1 ic => ?_
  subst he
  refine ⟨nolim.keeps ic.toInCall.keep, codeAny_func (?_ : _)⟩
  obtain ⟨t, ht, hq⟩ := hb cdv callerA [] s H a ns rfl (hr.deeper _) hy hS hl
  have I := inv_start (CX := CX0) (E := E0) (cd := cdv) S hr.hd e0 rfl r ic
  refine wpAny_mono (ht.nox.run [] s1 _ H _ I hq) (fun fl s' hs => ?_) fun _ _ z => z
  cases fl with
  | ret u =>
    obtain ⟨v, σ', H', J, rv, q⟩ := hs
    exact ⟨v, H', J.os, J.bare, J.base, J.hok, rv, q⟩
  | next => obtain ⟨_, _, _, z⟩ := hs; exact False.elim z
  | brk => obtain ⟨_, _, _, z⟩ := hs; exact False.elim z
  | cont => obtain ⟨_, _, _, z⟩ := hs; exact False.elim z
theorem coreS {P : Program} {w : World} {K : PySem.W.Frag} {mg mb : Str → Option Value} {k : Nat} {N : List Str} {x : Str} {st : Stmt} {f a : Addr} {fd : FuncData} {s₁ : Shared} {vs : List Value} {ns : List Int} {H : Hp}
    (KX : K.In s₁.heap) (hns : s₁.heap.Ns mainGlobals mg) (hbn : s₁.heap.Ns builtinsNs mb) (hbb : ∀ x : Str, x ≠ "__name__" → mb x = bootBuiltins x) (hlim : s₁.heap.NoLimit) (hg : s₁.gens = #[])
    (ha : s₁.heap.get? a = some { cls := .type "list", data := .seq vs.toArray }) (hl : ns.length ≤ 63) (hr : Room (k + 1) callerA)
    (F : Fun K "law" "law" st f fd) (S : FnScope N [x] (defScope st)) (hb : ∀ base : Heap, K.In base → base.Ns mainGlobals mg → BodyS P w K mg base k N st f) (bind : ∀ (s : Shared) (u : Value), BindsTo s fd ⟨[u], []⟩ [(x, u)])
    (hO : ∀ b, H b = none ∨ ∃ o u, H b = some (.frz o u)) (hy : Sys H) (hS : SqL K H a (ns.map V.int)) (hok : HOk P w H s₁.heap) (hA : ∀ b, H b ≠ none → b = a ∨ b = sysModules) (hK : ∀ b, H b ≠ none → K.lookup b = none) :
    codeAny (model P w) callerA (.call (.ref f) ⟨[.ref a], []⟩) (fun r s' => r = .ok (.ret (.bool true)) ∧ OldK s₁.heap s'.heap ∧ s'.os = s₁.os ∧ AllBare s'.gens) s₁ := by
  have put : ∀ {b : Addr} {o : Obj}, s₁.heap.get? b = some o → H b = none → (hidT s₁.heap H).get? b = some o := fun e n => hidT_get e n
  have free : ∀ {b : Addr}, b ≠ a → b ≠ sysModules → H b = none := fun {b} n n2 => by
    cases q : H b with
    | none => rfl
    | some u => exact ((hA b (by rw [q]; exact fun z => nomatch z)).elim (fun z => absurd z n) fun z => absurd z n2)
  have nsk : ∀ {b : Addr} {m : Str → Option Value}, b ≠ sysModules → s₁.heap.Ns b m → (hidT s₁.heap H).Ns b m := by
    rintro b m n2 ⟨o, es, ep, e, d, r⟩
    refine ⟨o, es, ep, put e (free (fun z => ?_) n2), d, r⟩
    subst z
    rw [ha] at e
    cases e
    have d' : Data.seq vs.toArray _ = Data.dict es ep := d
    cases d'
  have kb : K.In (hidT s₁.heap H) := fun b o e => put (KX b o e) (by
    cases q : H b with
    | none => rfl
    | some u =>
      have nn : H b ≠ none := by rw [q]; exact fun z => nomatch z
      rw [hK b nn] at e
      cases e)
  have md : Mod K mg (hidT s₁.heap H) := ⟨kb, nsk (by decide) hns, ⟨mb, nsk (by decide) hbn, hbb⟩, let ⟨mc, h1, h2⟩ := hlim; ⟨mc, nsk (by decide) h1, h2⟩⟩
  have e0 : Env0 P w K mg (hidT s₁.heap H) callerA [] s₁ H :=
    { frames := rfl, mod := md, bs := fun b o e => of_hidT e, bsz := Nat.le_of_eq (hidT_size _ _), funs := trivial, frf := fun b z => absurd (show b ∈ ([] : List Addr) from z) (by simp), hok := hok, bare := .of_eq hg }
  refine codeAny_mono (runsS F S (hb _ kb (nsk (by decide) hns)) bind hr e0 hy hS hl) fun r s' h => ?_
  cases r with
  | error e => exact False.elim h
  | ok fl =>
    cases fl with
    | next => exact False.elim h
    | brk => exact False.elim h
    | cont => exact False.elim h
    | ret u =>
      obtain ⟨v, H', hos, bare, un, hok', r', q⟩ := h
      have q' : v = .bl true := q
      subst q'
      obtain rfl : u = Value.bool true := r'
      refine ⟨rfl, OldK.of_keep fun b o e => ?_, hos, bare⟩
      rcases hO b with z | ⟨ob, u, z⟩
      · exact un.keep b o e z (fun y => absurd (show b ∈ ([] : List Addr) from y) (by simp)) (by simp)
      · obtain ⟨e1, _⟩ := hok b _ z
        obtain ⟨e2, _⟩ := hok' b _ (un.frzs b ob _ z)
        rw [e] at e1
        cases e1
        exact e2
theorem walkS {l : PySem.W.OpenLaw} {k : Nat} {q : Program} {loose : List Str} {XP : (Str → Option Value) → Heap → Prop} {YP : World → Heap → Prop} {d : DefRec} {K : Params → PySem.W.Frag} {N : List Str} {x : Str} {st : Stmt}
    (hn : l.most = some 63) (hdf : d.params.defaults = []) (hr : Room (k + 1) callerA) (S : FnScope N [x] (defScope st)) (hq : importsNone q = true)
    (hY : ∀ (w : World) (h : Heap), YP w h → (K w.params).In h)
    (F : ∀ (w : World) (mg : Str → Option Value) (fa : Addr) (h : Heap), (K w.params).In h → h.Ns mainGlobals mg → mg d.name = some (.ref fa) →
      ∃ fd : FuncData, (K w.params).lookup sysModules = none ∧ Fun (K w.params) "law" "law" st fa fd ∧ (∀ (s : Shared) (u : Value), BindsTo s fd ⟨[u], []⟩ [(x, u)]) ∧
        ∀ base : Heap, (K w.params).In base → base.Ns mainGlobals mg → BodyS l.prog w (K w.params) mg base k N st fa) :
    PySem.W.WalkO q loose XP YP l.row.toRowW d [] (fun f vs => PySem.call f vs) := by
  refine Att.attach_call hn hdf fun w s₀ s₁ mg mb fa o pm cd doc a vs ns G Y ho hd hcd hmg hobj hints hlen hg => ?_
  have KX := hY w _ Y
  obtain ⟨fd, hk1, hF, hb, hbody⟩ := F w mg fa _ KX G.T.g hmg
  obtain ⟨mm, ⟨om, es, ep, hm1, hm2, _⟩, _⟩ := (G.T.seer hq).mods
  have na : a ≠ sysModules := fun z => by
    subst z
    rw [hobj] at hm1
    cases hm1
    have d' : Data.seq vs.toArray _ = Data.dict es ep := hm2
    cases d'
  have rv := vals_ints hints
  have hlv := hints.length
  have sz : ns.length ≤ sizeLine := Nat.le_trans hlen (by decide)
  have go := fun (H : Hp) => coreS (H := H) KX G.T.g G.T.b G.T.builtins G.T.nolimit hg hobj hlen hr hF S hbody hb
  cases hk : (K w.params).lookup a with
  | some oa =>
    have e := KX a oa hk
    rw [hobj] at e
    cases e
    refine go (fun b => if b = sysModules then some (.frz om (.own 0)) else none) (fun b => ?_) ⟨om, if_pos rfl⟩ (Or.inr ⟨_, vs.toArray, _, hk, rfl, rfl, rfl, ?_, by simpa using rv⟩) (fun b u z => ?_) (fun b z => ?_) fun b z => ?_
    · by_cases hs : b = sysModules
      · exact Or.inr ⟨_, _, if_pos hs⟩
      · exact Or.inl (if_neg hs)
    · rw [List.size_toArray, hlv]; exact sz
    · by_cases hs : b = sysModules
      · have z' := (if_pos hs).symm.trans z
        cases z'
        subst hs
        exact ⟨hm1, _, hm1⟩
      · have z' := (if_neg hs).symm.trans z
        cases z'
    · by_cases hs : b = sysModules
      · exact Or.inr hs
      · exact absurd (if_neg hs) z
    · by_cases hs : b = sysModules
      · rw [hs]; exact hk1
      · exact absurd (if_neg hs) z
  | none =>
    let ob : Obj := { cls := .type "list", data := .seq vs.toArray }
    have hA : ∀ b, (if b = a then some (HO.frz ob (.lst (ns.map V.int))) else if b = sysModules then some (.frz om (.own 0)) else none) ≠ none → b = a ∨ b = sysModules := fun b z => by
      by_cases hba : b = a
      · exact Or.inl hba
      · by_cases hs : b = sysModules
        · exact Or.inr hs
        · rw [if_neg hba, if_neg hs] at z
          exact absurd rfl z
    refine go (fun b => if b = a then some (.frz ob (.lst (ns.map V.int))) else if b = sysModules then some (.frz om (.own 0)) else none) (fun b => ?_) ⟨om, (if_neg na.symm).trans (if_pos rfl)⟩ (Or.inl (Or.inr ⟨ob, if_pos rfl⟩)) (fun b u z => ?_) hA (fun b z => ?_)
    · by_cases hba : b = a
      · exact Or.inr ⟨_, _, if_pos hba⟩
      · by_cases hs : b = sysModules
        · exact Or.inr ⟨_, _, (if_neg hba).trans (if_pos hs)⟩
        · exact Or.inl ((if_neg hba).trans (if_neg hs))
    · by_cases hba : b = a
      · have z' := (if_pos hba).symm.trans z
        cases z'
        subst hba
        exact ⟨hobj, by rw [List.length_map]; exact sz, vs, _, rv, hobj⟩
      · by_cases hs : b = sysModules
        · have z' := ((if_neg hba).trans (if_pos hs)).symm.trans z
          cases z'
          subst hs
          exact ⟨hm1, _, hm1⟩
        · have z' := ((if_neg hba).trans (if_neg hs)).symm.trans z
          cases z'
    · rcases hA b z with e | e
      · rw [e]; exact hk
      · rw [e]; exact hk1
end FF
namespace FF
open PySem PySem.Spec PyProof.Rows L2 Evl
/-! ### what is a board, over data -/
def isIntD (lo hi : Int) : PyData → Bool
  | .int i => decide (lo ≤ i) && decide (i ≤ hi)
  | _ => false
def rowD (lo hi : Int) : PyData → Bool
  | .tuple xs => decide (lo ≤ (xs.length : Int)) && decide ((xs.length : Int) ≤ hi)
  | _ => false
def fuOk (at_ : Int) : PyData → Bool
  | .tuple [x, y] => isIntD (if at_ = 0 then -1 else 0) (at_ - 1) x && isIntD 0 3000 y
  | _ => false
def laOk (n : Int) : PyData → Bool
  | .tuple [x, y] => isIntD 0 (n - 1) x && isIntD 1 100 y
  | _ => false
/-- the first that fails, from i on -/
def badD (ok : Int → PyData → Bool) : Int → List PyData → Option Int
  | _, [] => none
  | i, x :: xs => if ok i x = true then badD ok (i + 1) xs else some i
def nonD (z : Str) : PyData := .tuple [.none, .str z]
def atD (i : Int) (z : Str) : PyData := .tuple [.int i, .str z]
def lampsD (n : Int) : PyData → PyData
  | .tuple ys => if (ys.length : Int) ≤ 30 then (match badD (fun _ => laOk n) 0 ys with
      | some i => atD i "lamp"
      | none => .none) else nonD "lamps"
  | _ => nonD "lamps"
def errD : PyData → PyData
  | .tuple [a, b] => match a with
    | .tuple xs => if 1 ≤ (xs.length : Int) ∧ (xs.length : Int) ≤ 20 then (match badD fuOk 0 xs with
        | some i => atD i "fuse"
        | none => lampsD xs.length b) else nonD "fuses"
    | _ => nonD "fuses"
  | _ => nonD "board"
theorem badD_take {ok : Int → PyData → Bool} : ∀ (xs : List PyData) (i : Int) (n : Nat) (x : PyData), xs[n]? = some x → (∀ (m : Nat) (y : PyData), m < n → xs[m]? = some y → ok (i + (m : Int)) y = true) → ok (i + (n : Int)) x = false → badD ok i xs = some (i + (n : Int))
  | [], i, n, x, h, _, _ => by simp at h
  | y :: ys, i, 0, x, h, _, hb => by
    have e : y = x := by simpa using h
    subst e
    have e2 : i + ((0 : Nat) : Int) = i := by omega
    rw [e2] at hb ⊢
    unfold badD
    rw [if_neg (by rw [hb]; exact Bool.false_ne_true)]
  | y :: ys, i, n + 1, x, h, ha, hb => by
    have h0 := ha 0 y (Nat.succ_pos n) rfl
    have e2 : i + ((0 : Nat) : Int) = i := by omega
    rw [e2] at h0
    unfold badD
    rw [if_pos h0]
    have e3 : ∀ m : Nat, i + 1 + (m : Int) = i + ((m + 1 : Nat) : Int) := fun m => by omega
    rw [badD_take ys (i + 1) n x (by simpa using h) (fun m z hm hz => by rw [e3]; exact ha (m + 1) z (by omega) (by simpa using hz)) (by rw [e3]; exact hb), e3]
theorem badD_none {ok : Int → PyData → Bool} : ∀ (xs : List PyData) (i : Int), (∀ (m : Nat) (y : PyData), xs[m]? = some y → ok (i + (m : Int)) y = true) → badD ok i xs = none
  | [], _, _ => rfl
  | y :: ys, i, h => by
    have h0 := h 0 y rfl
    have e2 : i + ((0 : Nat) : Int) = i := by omega
    rw [e2] at h0
    unfold badD
    rw [if_pos h0]
    exact badD_none ys (i + 1) fun m z hz => by
      have e3 : i + 1 + (m : Int) = i + ((m + 1 : Nat) : Int) := by omega
      rw [e3]
      exact h (m + 1) z (by simpa using hz)

theorem scIsInt : FnScope ["value", "least", "most"] ["value", "least", "most"] (defScope sIsInt) := ⟨rfl, rfl, rfl, by decide +kernel, rfl, by decide +kernel, by decide +kernel⟩
theorem scIsRow : FnScope ["value", "least", "most"] ["value", "least", "most"] (defScope sIsRow) := ⟨rfl, rfl, rfl, by decide +kernel, rfl, by decide +kernel, by decide +kernel⟩
theorem scIsPair : FnScope ["value"] ["value"] (defScope sIsPair) := ⟨rfl, rfl, rfl, by decide +kernel, rfl, by decide +kernel, by decide +kernel⟩
theorem scFu : FnScope ["item", "index", "above", "mark", "least"] ["item", "index"] (defScope sFu) := ⟨rfl, rfl, rfl, by decide +kernel, rfl, by decide +kernel, by decide +kernel⟩
theorem scLa : FnScope ["item", "fuse_count", "fuse", "draw"] ["item", "fuse_count"] (defScope sLa) := ⟨rfl, rfl, rfl, by decide +kernel, rfl, by decide +kernel, by decide +kernel⟩
theorem scErr : FnScope ["value", "fuses", "lamps", "index", "item"] ["value"] (defScope sErr) := ⟨rfl, rfl, rfl, by decide +kernel, rfl, by decide +kernel, by decide +kernel⟩
theorem scLInt : FnScope ["_law_thing", "_law_least", "_law_most"] ["_law_thing", "_law_least", "_law_most"] (defScope sLInt) := ⟨rfl, rfl, rfl, by decide +kernel, rfl, by decide +kernel, by decide +kernel⟩
theorem scLFu : FnScope ["_law_thing", "_law_at"] ["_law_thing", "_law_at"] (defScope sLFu) := ⟨rfl, rfl, rfl, by decide +kernel, rfl, by decide +kernel, by decide +kernel⟩
theorem scLLa : FnScope ["_law_thing", "_law_many"] ["_law_thing", "_law_many"] (defScope sLLa) := ⟨rfl, rfl, rfl, by decide +kernel, rfl, by decide +kernel, by decide +kernel⟩
theorem scLErr : FnScope ["_law_thing", "_law_at", "_law_item"] ["_law_thing"] (defScope sLErr) := ⟨rfl, rfl, rfl, by decide +kernel, rfl, by decide +kernel, by decide +kernel⟩
/-- asks of a value, answers by a bool, changes nothing -/
def spIsInt (K : PySem.W.Frag) : Sp := fun vs H Q _ => ∃ v d lo hi, vs = [v, .int lo, .int hi] ∧ Dq K H v d ∧ Q (.bl (isIntD lo hi d)) H
def spIsRow (K : PySem.W.Frag) : Sp := fun vs H Q _ => ∃ v d lo hi, vs = [v, .int lo, .int hi] ∧ Dq K H v d ∧ Q (.bl (rowD lo hi d)) H
def spIsPair (K : PySem.W.Frag) : Sp := fun vs H Q _ => ∃ v d, vs = [v] ∧ Dq K H v d ∧ Q (.bl (rowD 2 2 d)) H
def spFu (K : PySem.W.Frag) : Sp := fun vs H Q _ => ∃ v d i, vs = [v, .int i] ∧ Dq K H v d ∧ Q (.bl (fuOk i d)) H
def spLa (K : PySem.W.Frag) : Sp := fun vs H Q _ => ∃ v d i, vs = [v, .int i] ∧ Dq K H v d ∧ Q (.bl (laOk i d)) H
def spErr (K : PySem.W.Frag) : Sp := fun vs H Q _ => ∃ v d, vs = [v] ∧ Dq K H v d ∧ ∀ v' H', Ex H H' → Dq K H' v' (errD d) → Q v' H'
theorem rowD_two {d : PyData} : rowD 2 2 d = true ↔ ∃ x y, d = .tuple [x, y] := by
  constructor
  · intro h
    cases d with
    | tuple xs =>
      simp only [rowD, Bool.and_eq_true, decide_eq_true_eq] at h
      match xs, h with
      | [x, y], _ => exact ⟨x, y, rfl⟩
      | [], h => simp at h
      | [_], h => simp at h
      | _ :: _ :: _ :: _, h => simp at h; omega
    | none => cases h
    | bool _ => cases h
    | int _ => cases h
    | str _ => cases h
    | list _ => cases h
    | dict _ => cases h
  · rintro ⟨x, y, rfl⟩
    rfl
theorem fuOk_row {i : Int} {d : PyData} (h : rowD 2 2 d = false) : fuOk i d = false := by
  cases e : fuOk i d with
  | false => rfl
  | true =>
    exfalso
    cases d with
    | tuple xs =>
      match xs, e, h with
      | [x, y], _, h => cases h
    | none => cases e
    | bool _ => cases e
    | int _ => cases e
    | str _ => cases e
    | list _ => cases e
    | dict _ => cases e
theorem laOk_row {i : Int} {d : PyData} (h : rowD 2 2 d = false) : laOk i d = false := by
  cases e : laOk i d with
  | false => rfl
  | true =>
    exfalso
    cases d with
    | tuple xs =>
      match xs, e, h with
      | [x, y], _, h => cases h
    | none => cases e
    | bool _ => cases e
    | int _ => cases e
    | str _ => cases e
    | list _ => cases e
    | dict _ => cases e
theorem errD_row {d : PyData} (h : rowD 2 2 d = false) : errD d = nonD "board" := by
  cases d with
  | tuple xs =>
    match xs, h with
    | [x, y], h => cases h
    | [], _ => rfl
    | [_], _ => rfl
    | _ :: _ :: _ :: _, _ => rfl
  | none => rfl
  | bool _ => rfl
  | int _ => rfl
  | str _ => rfl
  | list _ => rfl
  | dict _ => rfl
section
variable {P : Program} {w : World} {K : PySem.W.Frag} {mg : Str → Option Value} {base : Heap}
theorem dq_int {H : Hp} {v : V} {d : PyData} (h : Dq K H v d) (a : isIntT d = true) (b : isBoolD d = false) : ∃ i, v = .int i ∧ d = .int i := by
  cases h with
  | int i => exact ⟨i, rfl, rfl⟩
  | bl b' => cases b
  | non => cases a
  | str _ => cases a
  | lst _ _ _ => cases a
  | tup _ _ => cases a
  | dct _ _ => cases a
theorem isIntD_no {lo hi : Int} {d : PyData} (h : isIntT d = false ∨ isBoolD d = true) : isIntD lo hi d = false := by
  cases d with
  | int i => rcases h with h | h <;> cases h
  | _ => rfl
theorem ok_isInt {f : Addr} {fd : FuncData} {k : Nat} (F : Fun K "is_integer" "is_integer" sIsInt f fd) (ms : mg "isinstance" = none) (mi : mg "int" = none) (mb : mg "bool" = none) :
    FnOk P w K mg base CX0 (k + 1) f fd ["value", "least", "most"] (spIsInt K) := by
  refine F.ok scIsInt (fun vs H Q E h => ?_) (fun cdv A outer s H vs Q E hr h => ?_)
  · obtain ⟨v, d, lo, hi, rfl, _⟩ := h
    rfl
  · obtain ⟨v, d, lo, hi, rfl, hd, q⟩ := h
    refine ⟨_, pss_one (ps_ret (pe_and (pe_callB call_isi (by rfl) ms (by decide +kernel) (pa_cons (pv 0) (pa_cons (pe_bltn (v := .ty "int") (by rfl) mi (by decide +kernel) rfl) pa_nil)))
      (pe_and (pe_not (pe_callB call_isi (by rfl) ms (by decide +kernel) (pa_cons (pv 0) (pa_cons (pe_bltn (v := .ty "bool") (by rfl) mb (by decide +kernel) rfl) pa_nil))))
      (pe_one (pe_chain op_le op_le (pv 1) (pv 0) (pv 2)))))), ?_⟩
    refine ⟨v, rfl, v, .ty "int", _, _, _, rfl, .ty "int", dqTy hd, kit_ty (kitInt d), _, rfl, ite2 (fun c1 => ?_) (fun c1 => ?_)⟩
    · refine ⟨v, rfl, v, .ty "bool", _, _, _, rfl, .ty "bool", dqTy hd, kit_ty (kitBool d), _, rfl, _, rfl, ite2 (fun c2 => ?_) (fun c2 => ?_)⟩
      · have c2' : isBoolD d = false := by simpa using c2
        obtain ⟨i, rfl, rfl⟩ := dq_int hd c1 c2'
        refine ⟨_, rfl, _, rfl, lo, i, rfl, rfl, _, rfl, ite2 (fun c3 => ?_) (fun c3 => ?_)⟩
        · refine ⟨_, rfl, i, hi, rfl, rfl, ?_⟩
          replace q : Q (.bl (decide (lo ≤ i) && decide (i ≤ hi))) H := q
          rw [c3, Bool.true_and] at q
          exact q
        · replace q : Q (.bl (decide (lo ≤ i) && decide (i ≤ hi))) H := q
          rw [Bool.eq_false_iff.mpr c3, Bool.false_and] at q
          exact q
      · have c2' : isBoolD d = true := by simpa using c2
        rw [isIntD_no (.inr c2')] at q
        exact q
    · rw [isIntD_no (.inl (Bool.eq_false_iff.mpr c1))] at q
      exact q
theorem ok_lInt {f : Addr} {fd : FuncData} {k : Nat} (F : Fun K "_law_is_int" "_law_is_int" sLInt f fd) (ms : mg "isinstance" = none) (mi : mg "int" = none) (mb : mg "bool" = none) :
    FnOk P w K mg base CX0 (k + 1) f fd ["_law_thing", "_law_least", "_law_most"] (spIsInt K) := by
  refine F.ok scLInt (fun vs H Q E h => ?_) (fun cdv A outer s H vs Q E hr h => ?_)
  · obtain ⟨v, d, lo, hi, rfl, _⟩ := h
    rfl
  · obtain ⟨v, d, lo, hi, rfl, hd, q⟩ := h
    refine ⟨_, pss_one (ps_ret (pe_and (pe_callB call_isi (by rfl) ms (by decide +kernel) (pa_cons (pv 0) (pa_cons (pe_bltn (v := .ty "int") (by rfl) mi (by decide +kernel) rfl) pa_nil)))
      (pe_and (pe_not (pe_callB call_isi (by rfl) ms (by decide +kernel) (pa_cons (pv 0) (pa_cons (pe_bltn (v := .ty "bool") (by rfl) mb (by decide +kernel) rfl) pa_nil))))
      (pe_one (pe_chain op_le op_le (pv 1) (pv 0) (pv 2)))))), ?_⟩
    refine ⟨v, rfl, v, .ty "int", _, _, _, rfl, .ty "int", dqTy hd, kit_ty (kitInt d), _, rfl, ite2 (fun c1 => ?_) (fun c1 => ?_)⟩
    · refine ⟨v, rfl, v, .ty "bool", _, _, _, rfl, .ty "bool", dqTy hd, kit_ty (kitBool d), _, rfl, _, rfl, ite2 (fun c2 => ?_) (fun c2 => ?_)⟩
      · have c2' : isBoolD d = false := by simpa using c2
        obtain ⟨i, rfl, rfl⟩ := dq_int hd c1 c2'
        refine ⟨_, rfl, _, rfl, lo, i, rfl, rfl, _, rfl, ite2 (fun c3 => ?_) (fun c3 => ?_)⟩
        · refine ⟨_, rfl, i, hi, rfl, rfl, ?_⟩
          replace q : Q (.bl (decide (lo ≤ i) && decide (i ≤ hi))) H := q
          rw [c3, Bool.true_and] at q
          exact q
        · replace q : Q (.bl (decide (lo ≤ i) && decide (i ≤ hi))) H := q
          rw [Bool.eq_false_iff.mpr c3, Bool.false_and] at q
          exact q
      · have c2' : isBoolD d = true := by simpa using c2
        rw [isIntD_no (.inr c2')] at q
        exact q
    · rw [isIntD_no (.inl (Bool.eq_false_iff.mpr c1))] at q
      exact q
theorem dq_tup {H : Hp} {v : V} {d : PyData} (h : Dq K H v d) (a : isTupD d = true) : ∃ p xs ds, v = .ref p ∧ d = .tuple ds ∧ SqT K H p xs ∧ DqA K H xs ds := by
  cases h with
  | tup h1 h2 => exact ⟨_, _, _, rfl, rfl, h1, h2⟩
  | int i => cases a
  | bl b' => cases a
  | non => cases a
  | str _ => cases a
  | lst _ _ _ => cases a
  | dct _ _ => cases a
theorem rowD_no {lo hi : Int} {d : PyData} (h : isTupD d = false) : rowD lo hi d = false := by
  cases d with
  | tuple i => cases h
  | _ => rfl
theorem ok_isRow {f : Addr} {fd : FuncData} {k : Nat} (F : Fun K "is_row" "is_row" sIsRow f fd) (ms : mg "isinstance" = none) (mt : mg "tuple" = none) (ml : mg "len" = none) :
    FnOk P w K mg base CX0 (k + 1) f fd ["value", "least", "most"] (spIsRow K) := by
  refine F.ok scIsRow (fun vs H Q E h => ?_) (fun cdv A outer s H vs Q E hr h => ?_)
  · obtain ⟨v, d, lo, hi, rfl, _⟩ := h
    rfl
  · obtain ⟨v, d, lo, hi, rfl, hd, q⟩ := h
    refine ⟨_, pss_one (ps_ret (pe_and (pe_callB call_isi (by rfl) ms (by decide +kernel) (pa_cons (pv 0) (pa_cons (pe_bltn (v := .ty "tuple") (by rfl) mt (by decide +kernel) rfl) pa_nil)))
      (pe_one (pe_chain op_le op_le (pv 1) (pe_callB call_len_seq (by rfl) ml PySem.boot_len (pa_cons (pv 0) pa_nil)) (pv 2))))), ?_⟩
    refine ⟨v, rfl, v, .ty "tuple", _, _, _, rfl, .ty "tuple", dqTy hd, kit_ty (kitTup d), _, rfl, ite2 (fun c1 => ?_) (fun c1 => ?_)⟩
    · obtain ⟨p, xs, ds, rfl, rfl, hs, ha⟩ := dq_tup hd c1
      have hl := ha.len
      refine ⟨_, rfl, .ref p, rfl, p, xs, rfl, .inr hs, lo, _, rfl, rfl, _, rfl, ite2 (fun c3 => ?_) (fun c3 => ?_)⟩
      · refine ⟨_, rfl, _, hi, rfl, rfl, ?_⟩
        replace q : Q (.bl (decide (lo ≤ (ds.length : Int)) && decide ((ds.length : Int) ≤ hi))) H := q
        rw [hl] at c3 ⊢
        rw [c3, Bool.true_and] at q
        exact q
      · replace q : Q (.bl (decide (lo ≤ (ds.length : Int)) && decide ((ds.length : Int) ≤ hi))) H := q
        rw [hl] at c3
        rw [Bool.eq_false_iff.mpr c3, Bool.false_and] at q
        exact q
    · rw [rowD_no (Bool.eq_false_iff.mpr c1)] at q
      exact q
theorem ok_isPair {f fR : Addr} {fd fdR : FuncData} {k : Nat} (F : Fun K "is_pair" "is_pair" sIsPair f fd) (GR : FnOk P w K mg base CX0 k fR fdR ["value", "least", "most"] (spIsRow K)) (bR : Binds K fdR ["value", "least", "most"] []) (gR : mg "is_row" = some (.ref fR)) (kR : PySem.W.keepIn K (.ref fR) = true) :
    FnOk P w K mg base CX0 (k + 1) f fd ["value"] (spIsPair K) := by
  refine F.ok scIsPair (fun vs H Q E h => ?_) (fun cdv A outer s H vs Q E hr h => ?_)
  · obtain ⟨v, d, rfl, _⟩ := h
    rfl
  · obtain ⟨v, d, rfl, hd, q⟩ := h
    refine ⟨_, pss_one (ps_ret (pe_call GR hr (by rfl) gR kR bR .nil pass0 (pa_cons (pv 0) (pa_cons pe_int (pa_cons pe_int pa_nil))))), ?_⟩
    exact ⟨v, rfl, v, d, 2, 2, rfl, hd, q⟩
theorem dq_pair {H : Hp} {v : V} {x y : PyData} (h : Dq K H v (.tuple [x, y])) : ∃ p v1 v2, v = .ref p ∧ SqT K H p [v1, v2] ∧ Dq K H v1 x ∧ Dq K H v2 y := by
  cases h with
  | @tup p xs _ h1 h2 =>
    cases h2 with
    | @cons v1 vs _ _ a b =>
      cases b with
      | @cons v2 vs2 _ _ c e =>
        cases e
        exact ⟨p, v1, v2, rfl, h1, a, c⟩
theorem ok_fu {f fP fI : Addr} {fd fdP fdI : FuncData} {k : Nat} {t3 : Tok} (F : Fun K "_is_fuse" "_is_fuse" sFu f fd) (GP : FnOk P w K mg base CX0 k fP fdP ["value"] (spIsPair K)) (bP : Binds K fdP ["value"] []) (gP : mg "is_pair" = some (.ref fP)) (kP : PySem.W.keepIn K (.ref fP) = true)
    (GI : FnOk P w K mg base CX0 k fI fdI ["value", "least", "most"] (spIsInt K)) (bI : Binds K fdI ["value", "least", "most"] []) (gI : mg "is_integer" = some (.ref fI)) (kI : PySem.W.keepIn K (.ref fI) = true) (gM : mg "MAX_LOAD" = some (.int 3000 t3)) :
    FnOk P w K mg base CX0 (k + 1) f fd ["item", "index"] (spFu K) := by
  refine F.ok scFu (fun vs H Q E h => ?_) (fun cdv A outer s H vs Q E hr h => ?_)
  · obtain ⟨v, d, i, rfl, _⟩ := h
    rfl
  · obtain ⟨v, d, i, rfl, hd, q⟩ := h
    refine ⟨_, pss_cons (ps_if (pt_not (pt_val (pe_call GP hr (by rfl) gP kP bP .nil pass0 (pa_cons (pv 0) pa_nil)))) (pss_one (ps_ret pe_bl)) pss_nil)
      (pss_cons (ps_asg (pv 0) (pg_tup rfl (pgs_cons (pg_name (i := 2) scFu.nd rfl (.inl rfl)) (pgs_cons (pg_name (i := 3) scFu.nd rfl (.inl rfl)) pgs_nil))))
      (pss_cons (ps_set (i := 4) scFu.nd rfl (.inl rfl) (pe_ifExp (pt_cmpR op_eq (pv 1) pe_int (nomark _)) (pe_un un_neg pe_int) pe_int))
      (pss_one (ps_ret (pe_and (pe_call GI hr (by rfl) gI kI bI .nil pass0 (pa_cons (pv 2) (pa_cons (pv 4) (pa_cons (pe_op op_sub (pv 1) pe_int) pa_nil))))
        (pe_one (pe_call GI hr (by rfl) gI kI bI .nil pass0 (pa_cons (pv 3) (pa_cons pe_int (pa_cons (pe_glob (v := .int 3000) (by rfl) gM ⟨_, rfl⟩) pa_nil)))))))))), ?_⟩
    refine ⟨v, rfl, v, d, rfl, hd, _, rfl, ite2 (fun c1 => ?_) (fun c1 => ?_)⟩
    · rw [fuOk_row (by simpa using c1)] at q
      exact q
    · have c1' : rowD 2 2 d = true := by simpa using c1
      obtain ⟨x, y, rfl⟩ := rowD_two.mp c1'
      obtain ⟨p, v1, v2, rfl, hs, hx, hy⟩ := dq_pair hd
      refine ⟨.ref p, rfl, p, _, rfl, hs, rfl, v1, [v2], rfl, v2, [], rfl, rfl, ?_⟩
      have go : ∀ lo : Int, lo = (if i = 0 then -1 else 0) → spIsInt K [v1, .int lo, .int (i - 1)] H (fun z H1 => ∃ c, z = .bl c ∧ if c = true then ∃ a2, [some (V.ref p), some (.int i), some v1, some v2, some (.int lo)][3]? = some (some a2) ∧ spIsInt K [a2, .int 0, .int 3000] H1 Q E0 else Q (.bl false) H1) E0 := by
        intro lo elo
        refine ⟨v1, x, lo, i - 1, rfl, hx, _, rfl, ite2 (fun c2 => ?_) (fun c2 => ?_)⟩
        · refine ⟨v2, rfl, v2, y, 0, 3000, rfl, hy, ?_⟩
          replace q : Q (.bl (isIntD (if i = 0 then -1 else 0) (i - 1) x && isIntD 0 3000 y)) H := q
          rw [← elo, c2, Bool.true_and] at q
          exact q
        · replace q : Q (.bl (isIntD (if i = 0 then -1 else 0) (i - 1) x && isIntD 0 3000 y)) H := q
          rw [← elo, Bool.eq_false_iff.mpr c2, Bool.false_and] at q
          exact q
      refine ⟨.int i, rfl, rfl, _, rfl, ite2 (fun c2 => ?_) (fun c2 => ?_)⟩
      · have e : i = 0 := V.int.inj (of_decide_eq_true c2)
        exact ⟨1, rfl, v1, rfl, _, rfl, _, rfl, _, _, rfl, rfl, go (-1) (by rw [if_pos e])⟩
      · have e : i ≠ 0 := fun z => c2 (decide_eq_true (by rw [z]))
        exact ⟨v1, rfl, _, rfl, _, rfl, _, _, rfl, rfl, go 0 (by rw [if_neg e])⟩
theorem ok_la {f fP fI : Addr} {fd fdP fdI : FuncData} {k : Nat} {t3 : Tok} (F : Fun K "_is_lamp" "_is_lamp" sLa f fd) (GP : FnOk P w K mg base CX0 k fP fdP ["value"] (spIsPair K)) (bP : Binds K fdP ["value"] []) (gP : mg "is_pair" = some (.ref fP)) (kP : PySem.W.keepIn K (.ref fP) = true)
    (GI : FnOk P w K mg base CX0 k fI fdI ["value", "least", "most"] (spIsInt K)) (bI : Binds K fdI ["value", "least", "most"] []) (gI : mg "is_integer" = some (.ref fI)) (kI : PySem.W.keepIn K (.ref fI) = true) (gM : mg "MAX_DRAW" = some (.int 100 t3)) :
    FnOk P w K mg base CX0 (k + 1) f fd ["item", "fuse_count"] (spLa K) := by
  refine F.ok scLa (fun vs H Q E h => ?_) (fun cdv A outer s H vs Q E hr h => ?_)
  · obtain ⟨v, d, i, rfl, _⟩ := h
    rfl
  · obtain ⟨v, d, i, rfl, hd, q⟩ := h
    refine ⟨_, pss_cons (ps_if (pt_not (pt_val (pe_call GP hr (by rfl) gP kP bP .nil pass0 (pa_cons (pv 0) pa_nil)))) (pss_one (ps_ret pe_bl)) pss_nil)
      (pss_cons (ps_asg (pv 0) (pg_tup rfl (pgs_cons (pg_name (i := 2) scLa.nd rfl (.inl rfl)) (pgs_cons (pg_name (i := 3) scLa.nd rfl (.inl rfl)) pgs_nil))))
      (pss_one (ps_ret (pe_and (pe_call GI hr (by rfl) gI kI bI .nil pass0 (pa_cons (pv 2) (pa_cons pe_int (pa_cons (pe_op op_sub (pv 1) pe_int) pa_nil))))
        (pe_one (pe_call GI hr (by rfl) gI kI bI .nil pass0 (pa_cons (pv 3) (pa_cons pe_int (pa_cons (pe_glob (v := .int 100) (by rfl) gM ⟨_, rfl⟩) pa_nil))))))))), ?_⟩
    refine ⟨v, rfl, v, d, rfl, hd, _, rfl, ite2 (fun c1 => ?_) (fun c1 => ?_)⟩
    · rw [laOk_row (by simpa using c1)] at q
      exact q
    · have c1' : rowD 2 2 d = true := by simpa using c1
      obtain ⟨x, y, rfl⟩ := rowD_two.mp c1'
      obtain ⟨p, v1, v2, rfl, hs, hx, hy⟩ := dq_pair hd
      refine ⟨.ref p, rfl, p, _, rfl, hs, rfl, v1, [v2], rfl, v2, [], rfl, rfl, ?_⟩
      refine ⟨v1, rfl, .int i, rfl, i, 1, rfl, rfl, v1, x, 0, i - 1, rfl, hx, _, rfl, ite2 (fun c2 => ?_) (fun c2 => ?_)⟩
      · refine ⟨v2, rfl, v2, y, 1, 100, rfl, hy, ?_⟩
        replace q : Q (.bl (isIntD 0 (i - 1) x && isIntD 1 100 y)) H := q
        rw [c2, Bool.true_and] at q
        exact q
      · replace q : Q (.bl (isIntD 0 (i - 1) x && isIntD 1 100 y)) H := q
        rw [Bool.eq_false_iff.mpr c2, Bool.false_and] at q
        exact q
end
end FF
namespace FF
open PySem PySem.Spec PyProof.Rows L2 Evl
section
variable {P : Program} {w : World} {K : PySem.W.Frag} {mg : Str → Option Value} {base : Heap}
theorem rowLen {xs : List PyData} : rowD 2 2 (.tuple xs) = decide ((xs.length : Int) = 2) := by
  show (decide (2 ≤ (xs.length : Int)) && decide ((xs.length : Int) ≤ 2)) = _
  by_cases h : (xs.length : Int) = 2
  · rw [h]; rfl
  · rw [decide_eq_false h]
    by_cases c : (2 : Int) ≤ (xs.length : Int)
    · rw [decide_eq_true c, decide_eq_false (by omega)]; rfl
    · rw [decide_eq_false c]; rfl
theorem ok_lFu {f fI : Addr} {fd fdI : FuncData} {k : Nat} (F : Fun K "_law_is_fuse" "_law_is_fuse" sLFu f fd)
    (GI : FnOk P w K mg base CX0 k fI fdI ["_law_thing", "_law_least", "_law_most"] (spIsInt K)) (bI : Binds K fdI ["_law_thing", "_law_least", "_law_most"] []) (gI : mg "_law_is_int" = some (.ref fI)) (kI : PySem.W.keepIn K (.ref fI) = true)
    (ms : mg "isinstance" = none) (mt : mg "tuple" = none) (ml : mg "len" = none) : FnOk P w K mg base CX0 (k + 1) f fd ["_law_thing", "_law_at"] (spFu K) := by
  refine F.ok scLFu (fun vs H Q E h => ?_) (fun cdv A outer s H vs Q E hr h => ?_)
  · obtain ⟨v, d, i, rfl, _⟩ := h
    rfl
  · obtain ⟨v, d, i, rfl, hd, q⟩ := h
    refine ⟨_, pss_cons (ps_if (PW.pt (pw_or (pt_not (pt_val (pe_callB call_isi (by rfl) ms (by decide +kernel) (pa_cons (pv 0) (pa_cons (pe_bltn (v := .ty "tuple") (by rfl) mt (by decide +kernel) rfl) pa_nil)))))
          (pw_or (pt_cmpR op_ne (pe_callB call_len_seq (by rfl) ml PySem.boot_len (pa_cons (pv 0) pa_nil)) pe_int (nomark _))
          (pw_or1 (pt_not (pt_val (pe_call GI hr (by rfl) gI kI bI .nil pass0 (pa_cons (pe_ix ix_tup (pv 0) pe_int (fun _ _ => rfl)) (pa_cons pe_int (pa_cons pe_int pa_nil)))))))))) (pss_one (ps_ret pe_bl)) pss_nil)
      (pss_one (ps_ret (pe_ifExp (pt_cmpR op_eq (pv 1) pe_int (nomark _))
        (pe_call GI hr (by rfl) gI kI bI .nil pass0 (pa_cons (pe_ix ix_tup (pv 0) pe_int (fun _ _ => rfl)) (pa_cons (pe_un un_neg pe_int) (pa_cons (pe_un un_neg pe_int) pa_nil))))
        (pe_call GI hr (by rfl) gI kI bI .nil pass0 (pa_cons (pe_ix ix_tup (pv 0) pe_int (fun _ _ => rfl)) (pa_cons pe_int (pa_cons (pe_op op_sub (pv 1) pe_int) pa_nil))))))), ?_⟩
    refine ⟨v, rfl, v, .ty "tuple", _, _, _, rfl, .ty "tuple", dqTy hd, kit_ty (kitTup d), _, rfl, ?_⟩
    cases c1 : isTupD d with
    | false =>
      rw [fuOk_row (rowD_no c1)] at q
      exact iteT (iteT q)
    | true =>
      refine iteF ?_
      obtain ⟨p, xs, ds, rfl, rfl, hs, ha⟩ := dq_tup hd c1
      have hl := ha.len
      refine ⟨.ref p, rfl, p, xs, rfl, .inr hs, rfl, _, rfl, ?_⟩
      cases c2 : decide ((ds.length : Int) = 2) with
      | false =>
        have e2 : (!decide (V.int (xs.length : Int) = V.int 2)) = true := by
          rw [hl, decide_eq_false (fun z => (of_decide_eq_false c2) (V.int.inj z))]
          rfl
        rw [e2]
        rw [fuOk_row (by rw [rowLen]; exact c2)] at q
        exact iteT (iteT q)
      | true =>
        have e2 : (!decide (V.int (xs.length : Int) = V.int 2)) = false := by
          rw [hl, decide_eq_true (congrArg V.int (of_decide_eq_true c2))]
          rfl
        rw [e2]
        refine iteF ?_
        obtain ⟨x, y, e⟩ := rowD_two.mp ((rowLen (xs := ds)).trans c2)
        rw [e] at hd q
        obtain ⟨p', v1, v2, ep, hs', hx, hy⟩ := dq_pair hd
        cases ep
        refine ⟨.ref p, rfl, p, _, 1, v2, rfl, rfl, hs', atI_nat (j := 1) rfl, v2, y, 0, 3000, rfl, hy, _, rfl, ?_⟩
        replace q : Q (.bl (isIntD (if i = 0 then -1 else 0) (i - 1) x && isIntD 0 3000 y)) H := q
        cases c3 : isIntD 0 3000 y with
        | false =>
          rw [c3, Bool.and_false] at q
          exact iteT q
        | true =>
          rw [c3, Bool.and_true] at q
          refine iteF ?_
          refine ⟨.int i, rfl, rfl, _, rfl, ite2 (fun c4 => ?_) (fun c4 => ?_)⟩
          · have e : i = 0 := V.int.inj (of_decide_eq_true c4)
            subst e
            exact ⟨.ref p, rfl, p, _, 0, v1, rfl, rfl, hs', atI_nat (j := 0) rfl, 1, rfl, 1, rfl, v1, x, -1, -1, rfl, hx, q⟩
          · have e : i ≠ 0 := fun z => c4 (decide_eq_true (by rw [z]))
            rw [if_neg e] at q
            exact ⟨.ref p, rfl, p, _, 0, v1, rfl, rfl, hs', atI_nat (j := 0) rfl, .int i, rfl, i, 1, rfl, rfl, v1, x, 0, i - 1, rfl, hx, q⟩
theorem ok_lLa {f fI : Addr} {fd fdI : FuncData} {k : Nat} (F : Fun K "_law_is_lamp" "_law_is_lamp" sLLa f fd)
    (GI : FnOk P w K mg base CX0 k fI fdI ["_law_thing", "_law_least", "_law_most"] (spIsInt K)) (bI : Binds K fdI ["_law_thing", "_law_least", "_law_most"] []) (gI : mg "_law_is_int" = some (.ref fI)) (kI : PySem.W.keepIn K (.ref fI) = true)
    (ms : mg "isinstance" = none) (mt : mg "tuple" = none) (ml : mg "len" = none) : FnOk P w K mg base CX0 (k + 1) f fd ["_law_thing", "_law_many"] (spLa K) := by
  refine F.ok scLLa (fun vs H Q E h => ?_) (fun cdv A outer s H vs Q E hr h => ?_)
  · obtain ⟨v, d, i, rfl, _⟩ := h
    rfl
  · obtain ⟨v, d, i, rfl, hd, q⟩ := h
    refine ⟨_, pss_cons (ps_if (PW.pt (pw_or (pt_not (pt_val (pe_callB call_isi (by rfl) ms (by decide +kernel) (pa_cons (pv 0) (pa_cons (pe_bltn (v := .ty "tuple") (by rfl) mt (by decide +kernel) rfl) pa_nil)))))
          (pw_or1 (pt_cmpR op_ne (pe_callB call_len_seq (by rfl) ml PySem.boot_len (pa_cons (pv 0) pa_nil)) pe_int (nomark _))))) (pss_one (ps_ret pe_bl)) pss_nil)
      (pss_one (ps_ret (pe_and (pe_call GI hr (by rfl) gI kI bI .nil pass0 (pa_cons (pe_ix ix_tup (pv 0) pe_int (fun _ _ => rfl)) (pa_cons pe_int (pa_cons (pe_op op_sub (pv 1) pe_int) pa_nil))))
        (pe_one (pe_call GI hr (by rfl) gI kI bI .nil pass0 (pa_cons (pe_ix ix_tup (pv 0) pe_int (fun _ _ => rfl)) (pa_cons pe_int (pa_cons pe_int pa_nil)))))))), ?_⟩
    refine ⟨v, rfl, v, .ty "tuple", _, _, _, rfl, .ty "tuple", dqTy hd, kit_ty (kitTup d), _, rfl, ?_⟩
    cases c1 : isTupD d with
    | false =>
      rw [laOk_row (rowD_no c1)] at q
      exact iteT (iteT q)
    | true =>
      refine iteF ?_
      obtain ⟨p, xs, ds, rfl, rfl, hs, ha⟩ := dq_tup hd c1
      have hl := ha.len
      refine ⟨.ref p, rfl, p, xs, rfl, .inr hs, rfl, _, rfl, ?_⟩
      cases c2 : decide ((ds.length : Int) = 2) with
      | false =>
        have e2 : (!decide (V.int (xs.length : Int) = V.int 2)) = true := by
          rw [hl, decide_eq_false (fun z => (of_decide_eq_false c2) (V.int.inj z))]
          rfl
        rw [e2]
        rw [laOk_row (by rw [rowLen]; exact c2)] at q
        exact iteT q
      | true =>
        have e2 : (!decide (V.int (xs.length : Int) = V.int 2)) = false := by
          rw [hl, decide_eq_true (congrArg V.int (of_decide_eq_true c2))]
          rfl
        rw [e2]
        refine iteF ?_
        obtain ⟨x, y, e⟩ := rowD_two.mp ((rowLen (xs := ds)).trans c2)
        rw [e] at hd q
        obtain ⟨p', v1, v2, ep, hs', hx, hy⟩ := dq_pair hd
        cases ep
        replace q : Q (.bl (isIntD 0 (i - 1) x && isIntD 1 100 y)) H := q
        refine ⟨.ref p, rfl, p, _, 0, v1, rfl, rfl, hs', atI_nat (j := 0) rfl, .int i, rfl, i, 1, rfl, rfl, v1, x, 0, i - 1, rfl, hx, _, rfl, ite2 (fun c3 => ?_) (fun c3 => ?_)⟩
        · rw [c3, Bool.true_and] at q
          exact ⟨.ref p, rfl, p, _, 1, v2, rfl, rfl, hs', atI_nat (j := 1) rfl, v2, y, 1, 100, rfl, hy, q⟩
        · rw [Bool.eq_false_iff.mpr c3, Bool.false_and] at q
          exact q
/-- a pair (None, word) or (number, word), just laid -/
theorem nonAt {H : Hp} {p : Addr} {z : Str} (h : H p = some (.tup [.non, .str z])) : Dq K H (.ref p) (nonD z) := .tup (SqT.of h) (.cons .non (.cons (.str z) .nil))
theorem intAt {H : Hp} {p : Addr} {i : Int} {z : Str} (h : H p = some (.tup [.int i, .str z])) : Dq K H (.ref p) (atD i z) := .tup (SqT.of h) (.cons (.int i) (.cons (.str z) .nil))
theorem lampsD_no {n : Int} {d : PyData} (h : rowD 0 30 d = false) : lampsD n d = nonD "lamps" := by
  cases d with
  | tuple ys =>
    have c : ¬ (ys.length : Int) ≤ 30 := fun z => by
      have : rowD 0 30 (.tuple ys) = true := by
        show (decide (0 ≤ (ys.length : Int)) && decide ((ys.length : Int) ≤ 30)) = true
        rw [decide_eq_true z, decide_eq_true (by omega)]
        rfl
      rw [this] at h
      cases h
    show (if _ then _ else _) = _
    rw [if_neg c]
  | _ => rfl
theorem rowD_tup {lo hi : Int} {d : PyData} (h : rowD lo hi d = true) : isTupD d = true := by
  cases d with
  | tuple _ => rfl
  | _ => cases h
theorem rowD_len {lo hi : Int} {xs : List PyData} : rowD lo hi (.tuple xs) = true ↔ lo ≤ (xs.length : Int) ∧ (xs.length : Int) ≤ hi := by
  show (decide (lo ≤ (xs.length : Int)) && decide ((xs.length : Int) ≤ hi)) = true ↔ _
  rw [Bool.and_eq_true, decide_eq_true_eq, decide_eq_true_eq]
theorem errD_no {a b : PyData} (h : rowD 1 20 a = false) : errD (.tuple [a, b]) = nonD "fuses" := by
  cases a with
  | tuple xs =>
    have c : ¬ (1 ≤ (xs.length : Int) ∧ (xs.length : Int) ≤ 20) := fun z => by
      rw [rowD_len.mpr z] at h
      cases h
    show (if _ then _ else _) = _
    rw [if_neg c]
  | _ => rfl
theorem ok_err {f fP fR fF fL : Addr} {fd fdP fdR fdF fdL : FuncData} {k : Nat} {t1 t2 : Tok} (F : Fun K "board_error" "board_error" sErr f fd) (GP : FnOk P w K mg base CX0 k fP fdP ["value"] (spIsPair K)) (bP : Binds K fdP ["value"] []) (gP : mg "is_pair" = some (.ref fP)) (kP : PySem.W.keepIn K (.ref fP) = true)
    (GR : FnOk P w K mg base CX0 k fR fdR ["value", "least", "most"] (spIsRow K)) (bR : Binds K fdR ["value", "least", "most"] []) (gR : mg "is_row" = some (.ref fR)) (kR : PySem.W.keepIn K (.ref fR) = true)
    (GF : FnOk P w K mg base CX0 k fF fdF ["item", "index"] (spFu K)) (bF : Binds K fdF ["item", "index"] []) (gF : mg "_is_fuse" = some (.ref fF)) (kF : PySem.W.keepIn K (.ref fF) = true)
    (GL : FnOk P w K mg base CX0 k fL fdL ["item", "fuse_count"] (spLa K)) (bL : Binds K fdL ["item", "fuse_count"] []) (gL : mg "_is_lamp" = some (.ref fL)) (kL : PySem.W.keepIn K (.ref fL) = true)
    (gM : mg "MAX_FUSES" = some (.int 20 t1)) (gN : mg "MAX_LAMPS" = some (.int 30 t2)) (me : mg "enumerate" = none) (ml : mg "len" = none) :
    FnOk P w K mg base CX0 (k + 1) f fd ["value"] (spErr K) := by
  refine F.ok scErr (fun vs H Q E h => ?_) (fun cdv A outer s H vs Q E hr h => ?_)
  · obtain ⟨v, d, rfl, _⟩ := h
    rfl
  · obtain ⟨v, d, rfl, hd, q⟩ := h
    refine ⟨_, pss_cons (ps_if (pt_not (pt_val (pe_call GP hr (by rfl) gP kP bP .nil pass0 (pa_cons (pv 0) pa_nil)))) (pss_one (ps_ret (pe_tup (pa_cons pe_non (pa_cons pe_str pa_nil))))) pss_nil)
      (pss_cons (ps_asg (pv 0) (pg_tup rfl (pgs_cons (pg_name (i := 1) scErr.nd rfl (.inl rfl)) (pgs_cons (pg_name (i := 2) scErr.nd rfl (.inl rfl)) pgs_nil))))
      (pss_cons (ps_if (pt_not (pt_val (pe_call GR hr (by rfl) gR kR bR .nil pass0 (pa_cons (pv 1) (pa_cons pe_int (pa_cons (pe_glob (v := .int 20) (by rfl) gM ⟨_, rfl⟩) pa_nil)))))) (pss_one (ps_ret (pe_tup (pa_cons pe_non (pa_cons pe_str pa_nil))))) pss_nil)
      (pss_cons (ps_for PassesOwn.never rfl (pi_enT (by rfl) me (pa_cons (pv 1) pa_nil)) (pg_tup rfl (pgs_cons (pg_name (i := 3) scErr.nd rfl (.inl rfl)) (pgs_cons (pg_name (i := 4) scErr.nd rfl (.inl rfl)) pgs_nil)))
        (pss_one (ps_if (pt_not (pt_val (pe_call GF hr (by rfl) gF kF bF .nil pass0 (pa_cons (pv 4) (pa_cons (pv 3) pa_nil))))) (pss_one (ps_ret (pe_tup (pa_cons (pv 3) (pa_cons pe_str pa_nil))))) pss_nil)))
      (pss_cons (ps_if (pt_not (pt_val (pe_call GR hr (by rfl) gR kR bR .nil pass0 (pa_cons (pv 2) (pa_cons pe_int (pa_cons (pe_glob (v := .int 30) (by rfl) gN ⟨_, rfl⟩) pa_nil)))))) (pss_one (ps_ret (pe_tup (pa_cons pe_non (pa_cons pe_str pa_nil))))) pss_nil)
      (pss_cons (ps_for PassesOwn.never rfl (pi_enT (by rfl) me (pa_cons (pv 2) pa_nil)) (pg_tup rfl (pgs_cons (pg_name (i := 3) scErr.nd rfl (.inl rfl)) (pgs_cons (pg_name (i := 4) scErr.nd rfl (.inl rfl)) pgs_nil)))
        (pss_one (ps_if (pt_not (pt_val (pe_call GL hr (by rfl) gL kL bL .nil pass0 (pa_cons (pv 4) (pa_cons (pe_callB call_len_seq (by rfl) ml PySem.boot_len (pa_cons (pv 1) pa_nil)) pa_nil))))) (pss_one (ps_ret (pe_tup (pa_cons (pv 3) (pa_cons pe_str pa_nil))))) pss_nil)))
      (pss_one (ps_ret pe_non))))))), ?_⟩
    have two : ∀ a b : V, [a, b].length ≤ sizeLine := fun a b => by show 2 ≤ sizeLine; decide
    refine ⟨v, rfl, v, d, rfl, hd, _, rfl, ite2 (fun c1 => ?_) (fun c1 => ?_)⟩
    · have c1' : rowD 2 2 d = false := by simpa using c1
      rw [errD_row c1'] at q
      exact ⟨two _ _, fun p np => q _ _ (Ex.new np) (nonAt upd_same)⟩
    · have c1' : rowD 2 2 d = true := by simpa using c1
      obtain ⟨x, y, rfl⟩ := rowD_two.mp c1'
      obtain ⟨p, v1, v2, rfl, hs, hx, hy⟩ := dq_pair hd
      refine ⟨.ref p, rfl, p, _, rfl, hs, rfl, v1, [v2], rfl, v2, [], rfl, rfl, ?_⟩
      refine ⟨v1, rfl, v1, x, 1, 20, rfl, hx, _, rfl, ite2 (fun c2 => ?_) (fun c2 => ?_)⟩
      · have c2' : rowD 1 20 x = false := by simpa using c2
        rw [errD_no c2'] at q
        exact ⟨two _ _, fun p np => q _ _ (Ex.new np) (nonAt upd_same)⟩
      · have c2' : rowD 1 20 x = true := by simpa using c2
        obtain ⟨F, vf, xs, rfl, rfl, hF, hxs⟩ := dq_tup hx (rowD_tup c2')
        have hlen := rowD_len.mp c2'
        have hvl := hxs.len
        have eq1 : errD (.tuple [.tuple xs, y]) = (match badD fuOk 0 xs with | some i => atD i "fuse" | none => lampsD xs.length y) := by
          show (if _ then _ else _) = _
          refine (if_pos hlen).trans ?_
          cases badD fuOk 0 xs <;> rfl
        rw [eq1] at q
        refine ⟨.ref F, rfl, F, vf, rfl, hF, for_it walkEnT (fun i σ H' => ∃ y3 y4, σ = [some (.ref p), some (.ref F), some v2, y3, y4] ∧ Ex H H' ∧ ∀ (m : Nat) (z : PyData), m < i → xs[m]? = some z → fuOk ((0 : Int) + (m : Int)) z = true)
          ⟨none, none, rfl, Ex.refl H, fun m z hm _ => absurd hm (Nat.not_lt_zero m)⟩ (fun i σ H' _ ⟨_, _, _, e1, _⟩ => ex_t e1 hF) ?_ ?_⟩
        · rintro i x' σ H1 H2 hi ⟨y3, y4, rfl, e1, good⟩ ⟨T, x1, x2, rfl, nT, rfl, ex1, ex2⟩
          have ex1' : x1 = .int (i : Nat) := (Option.some.inj ex1).symm
          subst ex1'
          have ex2' : vf[i]? = some x2 := ex2
          obtain ⟨z, hz, hdz⟩ := hxs.get i ex2'
          have e2 : Ex H (upd H1 T (.tup [.int (i : Nat), x2])) := e1.trans (Ex.new nT)
          refine ⟨T, _, rfl, SqT.of upd_same, rfl, .int (i : Nat), [x2], rfl, x2, [], rfl, rfl, ?_⟩
          generalize upd H1 T (.tup [.int (i : Nat), x2]) = H3 at e2 ⊢
          have ei : (0 : Int) + (i : Int) = (i : Int) := Int.zero_add _
          refine ⟨x2, rfl, _, rfl, x2, z, (i : Int), rfl, Dq.ex e2 _ _ hdz, _, rfl, ite2 (fun c3 => ?_) (fun c3 => ?_)⟩
          · have c3' : fuOk (i : Int) z = false := by simpa using c3
            have eb := badD_take (ok := fuOk) xs 0 i z hz good (by rw [ei]; exact c3')
            rw [eb, ei] at q
            exact ⟨_, rfl, two _ _, fun p np => q _ _ (e2.trans (Ex.new np)) (intAt upd_same)⟩
          · have c3' : fuOk (i : Int) z = true := by simpa using c3
            refine ⟨_, _, rfl, e2, fun m z' hm hz' => ?_⟩
            by_cases hmi : m = i
            · subst hmi
              have : z' = z := Option.some.inj (hz'.symm.trans hz)
              subst this
              rw [ei]
              exact c3'
            · exact good m z' (by omega) hz'
        · rintro σ H1 ⟨y3, y4, rfl, e1, good⟩
          rw [badD_none (ok := fuOk) xs 0 (fun m z hz => good m z (by rw [hvl]; exact (List.getElem?_eq_some_iff.mp hz).1) hz)] at q
          replace q : ∀ v' H', Ex H H' → Dq K H' v' (lampsD xs.length y) → Q v' H' := q
          refine ⟨v2, rfl, v2, y, 0, 30, rfl, Dq.ex e1 _ _ hy, _, rfl, ite2 (fun c4 => ?_) (fun c4 => ?_)⟩
          · have c4' : rowD 0 30 y = false := by simpa using c4
            rw [lampsD_no c4'] at q
            exact ⟨two _ _, fun p np => q _ _ (e1.trans (Ex.new np)) (nonAt upd_same)⟩
          · have c4' : rowD 0 30 y = true := by simpa using c4
            obtain ⟨L, vl, ys, rfl, rfl, hL, hys⟩ := dq_tup hy (rowD_tup c4')
            have hlen2 := rowD_len.mp c4'
            have hvl2 := hys.len
            have eq2 : lampsD xs.length (.tuple ys) = (match badD (fun _ => laOk xs.length) 0 ys with | some i => atD i "lamp" | none => .none) := by
              show (if _ then _ else _) = _
              refine (if_pos hlen2.2).trans ?_
              cases badD (fun _ => laOk xs.length) 0 ys <;> rfl
            rw [eq2] at q
            refine ⟨.ref L, rfl, L, vl, rfl, ex_t e1 hL, for_it walkEnT (fun i σ H' => ∃ y3 y4, σ = [some (.ref p), some (.ref F), some (.ref L), y3, y4] ∧ Ex H H' ∧ ∀ (m : Nat) (z : PyData), m < i → ys[m]? = some z → laOk xs.length z = true)
              ⟨_, _, rfl, e1, fun m z hm _ => absurd hm (Nat.not_lt_zero m)⟩ (fun i σ H' _ ⟨_, _, _, e1, _⟩ => ex_t e1 hL) ?_ ?_⟩
            · rintro i x' σ H2 H3 hi ⟨y3, y4, rfl, e2, good2⟩ ⟨T, x1, x2, rfl, nT, rfl, ex1, ex2⟩
              have ex1' : x1 = .int (i : Nat) := (Option.some.inj ex1).symm
              subst ex1'
              have ex2' : vl[i]? = some x2 := ex2
              obtain ⟨z, hz, hdz⟩ := hys.get i ex2'
              have e3 : Ex H (upd H2 T (.tup [.int (i : Nat), x2])) := e2.trans (Ex.new nT)
              refine ⟨T, _, rfl, SqT.of upd_same, rfl, .int (i : Nat), [x2], rfl, x2, [], rfl, rfl, ?_⟩
              generalize upd H2 T (.tup [.int (i : Nat), x2]) = H4 at e3 ⊢
              have ei : (0 : Int) + (i : Int) = (i : Int) := Int.zero_add _
              refine ⟨x2, rfl, .ref F, rfl, F, vf, rfl, .inr (ex_t e3 hF), x2, z, (vf.length : Int), rfl, Dq.ex e3 _ _ hdz, _, rfl, ?_⟩
              rw [hvl]
              refine ite2 (fun c5 => ?_) (fun c5 => ?_)
              · have c5' : laOk xs.length z = false := by simpa using c5
                have eb := badD_take (ok := fun _ => laOk xs.length) ys 0 i z hz good2 c5'
                rw [eb, ei] at q
                exact ⟨_, rfl, two _ _, fun p np => q _ _ (e3.trans (Ex.new np)) (intAt upd_same)⟩
              · have c5' : laOk xs.length z = true := by simpa using c5
                refine ⟨_, _, rfl, e3, fun m z' hm hz' => ?_⟩
                by_cases hmi : m = i
                · subst hmi
                  have : z' = z := Option.some.inj (hz'.symm.trans hz)
                  subst this
                  exact c5'
                · exact good2 m z' (by omega) hz'
            · rintro σ H2 ⟨y3, y4, rfl, e2, good2⟩
              rw [badD_none (ok := fun _ => laOk xs.length) ys 0 (fun m z hz => good2 m z (by rw [hvl2]; exact (List.getElem?_eq_some_iff.mp hz).1) hz)] at q
              exact q _ _ e2 .non
end
end FF
namespace FF
open PySem PySem.Spec PyProof.Rows L2 Evl
section
variable {P : Program} {w : World} {K : PySem.W.Frag} {mg : Str → Option Value} {base : Heap}
theorem ok_lErr {f fF fL : Addr} {fd fdF fdL : FuncData} {k : Nat} (F : Fun K "_law_board_error" "_law_board_error" sLErr f fd)
    (GF : FnOk P w K mg base CX0 k fF fdF ["_law_thing", "_law_at"] (spFu K)) (bF : Binds K fdF ["_law_thing", "_law_at"] []) (gF : mg "_law_is_fuse" = some (.ref fF)) (kF : PySem.W.keepIn K (.ref fF) = true)
    (GL : FnOk P w K mg base CX0 k fL fdL ["_law_thing", "_law_many"] (spLa K)) (bL : Binds K fdL ["_law_thing", "_law_many"] []) (gL : mg "_law_is_lamp" = some (.ref fL)) (kL : PySem.W.keepIn K (.ref fL) = true)
    (ms : mg "isinstance" = none) (mt : mg "tuple" = none) (me : mg "enumerate" = none) (ml : mg "len" = none) :
    FnOk P w K mg base CX0 (k + 1) f fd ["_law_thing"] (spErr K) := by
  refine F.ok scLErr (fun vs H Q E h => ?_) (fun cdv A outer s H vs Q E hr h => ?_)
  · obtain ⟨v, d, rfl, _⟩ := h
    rfl
  · obtain ⟨v, d, rfl, hd, q⟩ := h
    refine ⟨_, pss_cons (ps_if (PW.pt (pw_or (pt_not (pt_val (pe_callB call_isi (by rfl) ms (by decide +kernel) (pa_cons (pv 0) (pa_cons (pe_bltn (v := .ty "tuple") (by rfl) mt (by decide +kernel) rfl) pa_nil)))))
          (pw_or1 (pt_cmpR op_ne (pe_callB call_len_seq (by rfl) ml PySem.boot_len (pa_cons (pv 0) pa_nil)) pe_int (nomark _))))) (pss_one (ps_ret (pe_tup (pa_cons pe_non (pa_cons pe_str pa_nil))))) pss_nil)
      (pss_cons (ps_if (PW.pt (pw_or (pt_not (pt_val (pe_callB call_isi (by rfl) ms (by decide +kernel) (pa_cons (pe_ix ix_tup (pv 0) pe_int (fun _ _ => rfl)) (pa_cons (pe_bltn (v := .ty "tuple") (by rfl) mt (by decide +kernel) rfl) pa_nil)))))
          (pw_or1 (pt_not (pt_chain op_le op_le pe_int (pe_callB call_len_seq (by rfl) ml PySem.boot_len (pa_cons (pe_ix ix_tup (pv 0) pe_int (fun _ _ => rfl)) pa_nil)) pe_int))))) (pss_one (ps_ret (pe_tup (pa_cons pe_non (pa_cons pe_str pa_nil))))) pss_nil)
      (pss_cons (ps_for PassesOwn.never rfl (pi_enT (by rfl) me (pa_cons (pe_ix ix_tup (pv 0) pe_int (fun _ _ => rfl)) pa_nil)) (pg_tup rfl (pgs_cons (pg_name (i := 1) scLErr.nd rfl (.inl rfl)) (pgs_cons (pg_name (i := 2) scLErr.nd rfl (.inl rfl)) pgs_nil)))
        (pss_one (ps_if (pt_not (pt_val (pe_call GF hr (by rfl) gF kF bF .nil pass0 (pa_cons (pv 2) (pa_cons (pv 1) pa_nil))))) (pss_one (ps_ret (pe_tup (pa_cons (pv 1) (pa_cons pe_str pa_nil))))) pss_nil)))
      (pss_cons (ps_if (PW.pt (pw_or (pt_not (pt_val (pe_callB call_isi (by rfl) ms (by decide +kernel) (pa_cons (pe_ix ix_tup (pv 0) pe_int (fun _ _ => rfl)) (pa_cons (pe_bltn (v := .ty "tuple") (by rfl) mt (by decide +kernel) rfl) pa_nil)))))
          (pw_or1 (pt_cmpR op_gt (pe_callB call_len_seq (by rfl) ml PySem.boot_len (pa_cons (pe_ix ix_tup (pv 0) pe_int (fun _ _ => rfl)) pa_nil)) pe_int (nomark _))))) (pss_one (ps_ret (pe_tup (pa_cons pe_non (pa_cons pe_str pa_nil))))) pss_nil)
      (pss_cons (ps_for PassesOwn.never rfl (pi_enT (by rfl) me (pa_cons (pe_ix ix_tup (pv 0) pe_int (fun _ _ => rfl)) pa_nil)) (pg_tup rfl (pgs_cons (pg_name (i := 1) scLErr.nd rfl (.inl rfl)) (pgs_cons (pg_name (i := 2) scLErr.nd rfl (.inl rfl)) pgs_nil)))
        (pss_one (ps_if (pt_not (pt_val (pe_call GL hr (by rfl) gL kL bL .nil pass0 (pa_cons (pv 2) (pa_cons (pe_callB call_len_seq (by rfl) ml PySem.boot_len (pa_cons (pe_ix ix_tup (pv 0) pe_int (fun _ _ => rfl)) pa_nil)) pa_nil))))) (pss_one (ps_ret (pe_tup (pa_cons (pv 1) (pa_cons pe_str pa_nil))))) pss_nil)))
      (pss_one (ps_ret pe_non)))))), ?_⟩
    have two : ∀ a b : V, [a, b].length ≤ sizeLine := fun a b => by show 2 ≤ sizeLine; decide
    refine ⟨v, rfl, v, .ty "tuple", _, _, _, rfl, .ty "tuple", dqTy hd, kit_ty (kitTup d), _, rfl, ?_⟩
    cases c0 : isTupD d with
    | false =>
      rw [errD_row (rowD_no c0)] at q
      exact iteT (iteT ⟨two _ _, fun p np => q _ _ (Ex.new np) (nonAt upd_same)⟩)
    | true =>
      refine iteF ?_
      obtain ⟨p, us, ds, rfl, rfl, hs0, ha0⟩ := dq_tup hd c0
      have hl0 := ha0.len
      refine ⟨.ref p, rfl, p, us, rfl, .inr hs0, rfl, _, rfl, ?_⟩
      cases c1 : decide ((ds.length : Int) = 2) with
      | false =>
        have e2 : (!decide (V.int (us.length : Int) = V.int 2)) = true := by
          rw [hl0, decide_eq_false (fun z => (of_decide_eq_false c1) (V.int.inj z))]
          rfl
        rw [e2]
        rw [errD_row (by rw [rowLen]; exact c1)] at q
        exact iteT ⟨two _ _, fun p np => q _ _ (Ex.new np) (nonAt upd_same)⟩
      | true =>
        have e2 : (!decide (V.int (us.length : Int) = V.int 2)) = false := by
          rw [hl0, decide_eq_true (congrArg V.int (of_decide_eq_true c1))]
          rfl
        rw [e2]
        refine iteF ?_
        obtain ⟨x, y, e⟩ := rowD_two.mp ((rowLen (xs := ds)).trans c1)
        rw [e] at hd q
        obtain ⟨p', v1, v2, ep, hs, hx, hy⟩ := dq_pair hd
        cases ep
        refine ⟨.ref p, rfl, p, _, 0, v1, rfl, rfl, hs, atI_nat (j := 0) rfl, v1, .ty "tuple", _, _, _, rfl, .ty "tuple", dqTy hx, kit_ty (kitTup x), _, rfl, ?_⟩
        cases c2 : isTupD x with
        | false =>
          rw [errD_no (rowD_no c2)] at q
          exact iteT (iteT ⟨two _ _, fun p np => q _ _ (Ex.new np) (nonAt upd_same)⟩)
        | true =>
          refine iteF ?_
          obtain ⟨F, vf, xs, rfl, rfl, hF, hxs⟩ := dq_tup hx c2
          have hvl := hxs.len
          have bad : rowD 1 20 (.tuple xs) = false → ∃ k, V.bl false = .bl k ∧ if (!k) = true then True else False := fun _ => ⟨false, rfl, True.intro⟩
          refine ⟨.ref p, rfl, p, _, 0, .ref F, rfl, rfl, hs, atI_nat (j := 0) rfl, F, vf, rfl, .inr hF, 1, _, rfl, rfl, _, rfl, ?_⟩
          cases c3 : rowD 1 20 (.tuple xs) with
          | false =>
            rw [errD_no c3] at q
            have n3 : ¬ (1 ≤ (xs.length : Int) ∧ (xs.length : Int) ≤ 20) := fun z => by rw [rowD_len.mpr z] at c3; cases c3
            refine ite2 (fun c4 => ?_) (fun c4 => ?_)
            · have c4' : (1 : Int) ≤ (vf.length : Int) := of_decide_eq_true c4
              refine ⟨_, 20, rfl, rfl, _, rfl, ?_⟩
              have e4 : decide ((vf.length : Int) ≤ 20) = false := decide_eq_false (fun z => n3 ⟨by rw [← hvl]; exact c4', by rw [← hvl]; exact z⟩)
              rw [e4]
              exact iteT ⟨two _ _, fun p np => q _ _ (Ex.new np) (nonAt upd_same)⟩
            · exact ⟨_, rfl, iteT ⟨two _ _, fun p np => q _ _ (Ex.new np) (nonAt upd_same)⟩⟩
          | true =>
            have hlen := rowD_len.mp c3
            have e4 : decide ((1 : Int) ≤ (vf.length : Int)) = true := decide_eq_true (by rw [hvl]; exact hlen.1)
            have e5 : decide ((vf.length : Int) ≤ 20) = true := decide_eq_true (by rw [hvl]; exact hlen.2)
            rw [e4]
            refine iteT ⟨_, 20, rfl, rfl, _, rfl, ?_⟩
            rw [e5]
            refine iteF ?_
            have eq1 : errD (.tuple [.tuple xs, y]) = (match badD fuOk 0 xs with | some i => atD i "fuse" | none => lampsD xs.length y) := by
              show (if _ then _ else _) = _
              refine (if_pos hlen).trans ?_
              cases badD fuOk 0 xs <;> rfl
            rw [eq1] at q
            refine ⟨.ref p, rfl, p, _, 0, .ref F, rfl, rfl, hs, atI_nat (j := 0) rfl, F, vf, rfl, hF, for_it walkEnT (fun i σ H' => ∃ y3 y4, σ = [some (.ref p), y3, y4] ∧ Ex H H' ∧ ∀ (m : Nat) (z : PyData), m < i → xs[m]? = some z → fuOk ((0 : Int) + (m : Int)) z = true)
              ⟨none, none, rfl, Ex.refl H, fun m z hm _ => absurd hm (Nat.not_lt_zero m)⟩ (fun i σ H' _ ⟨_, _, _, e1, _⟩ => ex_t e1 hF) ?_ ?_⟩
            · rintro i x' σ H1 H2 hi ⟨y3, y4, rfl, e1, good⟩ ⟨T, x1, x2, rfl, nT, rfl, ex1, ex2⟩
              have ex1' : x1 = .int (i : Nat) := (Option.some.inj ex1).symm
              subst ex1'
              have ex2' : vf[i]? = some x2 := ex2
              obtain ⟨z, hz, hdz⟩ := hxs.get i ex2'
              have e2 : Ex H (upd H1 T (.tup [.int (i : Nat), x2])) := e1.trans (Ex.new nT)
              refine ⟨T, _, rfl, SqT.of upd_same, rfl, .int (i : Nat), [x2], rfl, x2, [], rfl, rfl, ?_⟩
              generalize upd H1 T (.tup [.int (i : Nat), x2]) = H3 at e2 ⊢
              have ei : (0 : Int) + (i : Int) = (i : Int) := Int.zero_add _
              refine ⟨x2, rfl, _, rfl, x2, z, (i : Int), rfl, Dq.ex e2 _ _ hdz, _, rfl, ite2 (fun c3 => ?_) (fun c3 => ?_)⟩
              · have c3' : fuOk (i : Int) z = false := by simpa using c3
                have eb := badD_take (ok := fuOk) xs 0 i z hz good (by rw [ei]; exact c3')
                rw [eb, ei] at q
                exact ⟨_, rfl, two _ _, fun p np => q _ _ (e2.trans (Ex.new np)) (intAt upd_same)⟩
              · have c3' : fuOk (i : Int) z = true := by simpa using c3
                refine ⟨_, _, rfl, e2, fun m z' hm hz' => ?_⟩
                by_cases hmi : m = i
                · subst hmi
                  have : z' = z := Option.some.inj (hz'.symm.trans hz)
                  subst this
                  rw [ei]
                  exact c3'
                · exact good m z' (by omega) hz'
            · rintro σ H1 ⟨y3, y4, rfl, e1, good⟩
              rw [badD_none (ok := fuOk) xs 0 (fun m z hz => good m z (by rw [hvl]; exact (List.getElem?_eq_some_iff.mp hz).1) hz)] at q
              replace q : ∀ v' H', Ex H H' → Dq K H' v' (lampsD xs.length y) → Q v' H' := q
              have hs1 := ex_t e1 hs
              have hy1 := Dq.ex e1 _ _ hy
              refine ⟨.ref p, rfl, p, _, 1, v2, rfl, rfl, hs1, atI_nat (j := 1) rfl, v2, .ty "tuple", _, _, _, rfl, .ty "tuple", dqTy hy1, kit_ty (kitTup y), _, rfl, ?_⟩
              cases c6 : isTupD y with
              | false =>
                rw [lampsD_no (rowD_no c6)] at q
                exact iteT (iteT ⟨two _ _, fun p np => q _ _ (e1.trans (Ex.new np)) (nonAt upd_same)⟩)
              | true =>
                refine iteF ?_
                obtain ⟨L, vl, ys, rfl, rfl, hL, hys⟩ := dq_tup hy c6
                have hvl2 := hys.len
                refine ⟨.ref p, rfl, p, _, 1, .ref L, rfl, rfl, hs1, atI_nat (j := 1) rfl, L, vl, rfl, .inr (ex_t e1 hL), _, 30, rfl, rfl, _, rfl, ite2 (fun c7 => ?_) (fun c7 => ?_)⟩
                · have c7' : ¬ (ys.length : Int) ≤ 30 := by
                    have z : (30 : Int) < (vl.length : Int) := of_decide_eq_true c7
                    rw [hvl2] at z
                    omega
                  rw [lampsD_no (by
                    cases c : rowD 0 30 (.tuple ys) with
                    | false => rfl
                    | true => exact absurd (rowD_len.mp c).2 c7')] at q
                  exact ⟨two _ _, fun p np => q _ _ (e1.trans (Ex.new np)) (nonAt upd_same)⟩
                · have hlen2 : (ys.length : Int) ≤ 30 := by
                    have z : ¬ (30 : Int) < (vl.length : Int) := fun z => c7 (decide_eq_true z)
                    rw [hvl2] at z
                    omega
                  have eq2 : lampsD xs.length (.tuple ys) = (match badD (fun _ => laOk xs.length) 0 ys with | some i => atD i "lamp" | none => .none) := by
                    show (if _ then _ else _) = _
                    refine (if_pos hlen2).trans ?_
                    cases badD (fun _ => laOk xs.length) 0 ys <;> rfl
                  rw [eq2] at q
                  refine ⟨.ref p, rfl, p, _, 1, .ref L, rfl, rfl, hs1, atI_nat (j := 1) rfl, L, vl, rfl, ex_t e1 hL, for_it walkEnT (fun i σ H' => ∃ y3 y4, σ = [some (.ref p), y3, y4] ∧ Ex H H' ∧ ∀ (m : Nat) (z : PyData), m < i → ys[m]? = some z → laOk xs.length z = true)
                    ⟨_, _, rfl, e1, fun m z hm _ => absurd hm (Nat.not_lt_zero m)⟩ (fun i σ H' _ ⟨_, _, _, e1, _⟩ => ex_t e1 hL) ?_ ?_⟩
                  · rintro i x' σ H2 H3 hi ⟨y3, y4, rfl, e2, good2⟩ ⟨T, x1, x2, rfl, nT, rfl, ex1, ex2⟩
                    have ex1' : x1 = .int (i : Nat) := (Option.some.inj ex1).symm
                    subst ex1'
                    have ex2' : vl[i]? = some x2 := ex2
                    obtain ⟨z, hz, hdz⟩ := hys.get i ex2'
                    have e3 : Ex H (upd H2 T (.tup [.int (i : Nat), x2])) := e2.trans (Ex.new nT)
                    refine ⟨T, _, rfl, SqT.of upd_same, rfl, .int (i : Nat), [x2], rfl, x2, [], rfl, rfl, ?_⟩
                    generalize upd H2 T (.tup [.int (i : Nat), x2]) = H4 at e3 ⊢
                    have ei : (0 : Int) + (i : Int) = (i : Int) := Int.zero_add _
                    refine ⟨x2, rfl, .ref p, rfl, p, _, 0, .ref F, rfl, rfl, ex_t e3 hs, atI_nat (j := 0) rfl, F, vf, rfl, .inr (ex_t e3 hF), x2, z, (vf.length : Int), rfl, Dq.ex e3 _ _ hdz, _, rfl, ?_⟩
                    rw [hvl]
                    refine ite2 (fun c5 => ?_) (fun c5 => ?_)
                    · have c5' : laOk xs.length z = false := by simpa using c5
                      have eb := badD_take (ok := fun _ => laOk xs.length) ys 0 i z hz good2 c5'
                      rw [eb, ei] at q
                      exact ⟨_, rfl, two _ _, fun p np => q _ _ (e3.trans (Ex.new np)) (intAt upd_same)⟩
                    · have c5' : laOk xs.length z = true := by simpa using c5
                      refine ⟨_, _, rfl, e3, fun m z' hm hz' => ?_⟩
                      by_cases hmi : m = i
                      · subst hmi
                        have : z' = z := Option.some.inj (hz'.symm.trans hz)
                        subst this
                        exact c5'
                      · exact good2 m z' (by omega) hz'
                  · rintro σ H2 ⟨y3, y4, rfl, e2, good2⟩
                    rw [badD_none (ok := fun _ => laOk xs.length) ys 0 (fun m z hz => good2 m z (by rw [hvl2]; exact (List.getElem?_eq_some_iff.mp hz).1) hz)] at q
                    exact q _ _ e2 .non
end
end FF
namespace FF
open PySem PySem.Spec PyProof.Rows L2 Evl
open HT (slicePart_)
/-! ### t[::-1] of a tuple -/
section
variable {P : Program} {w : World} {A : Around} {E : Value → Shared → Prop} {s : Shared}
theorem pickRev (xs : Array Value) : ((List.range xs.size).filterMap fun (k : Nat) => xs[(((xs.size : Int) - 1) + (k : Int) * (-1)).toNat]?).toArray = xs.toList.reverse.toArray := by
  have e : (fun (k : Nat) => xs[(((xs.size : Int) - 1) + (k : Int) * (-1)).toNat]?) = (fun x => xs[x]?) ∘ fun k => xs.size - 1 - k := by
    funext k
    have : (((xs.size : Int) - 1) + (k : Int) * (-1)).toNat = xs.size - 1 - k := by omega
    show xs[_]? = xs[_]?
    rw [this]
  rw [e, ← List.filterMap_map, PySem.W.krv_range, List.filterMap_reverse, PySem.W.krv_all]
theorem getRevT {t sl : Addr} {xs : Array Value} {vs : Value} {Q : Value → Shared → Prop} (ht : IsTup s.heap t xs) (hs : s.heap.IsSliceOf sl .none .none vs) (pl : IsPart vs (some (-1)))
    (h : Q (.ref s.heap.objs.size) { s with heap := s.heap.push { cls := .type "tuple", data := .seq xs.toList.reverse.toArray } }) (hsz : xs.size ≤ sizeLine) : wpAny (model P w) A (getItem (.ref t) (.ref sl)) Q E s := by
  have fit : sizeOk (.seq xs.toList.reverse.toArray) := by
    show xs.toList.reverse.toArray.size ≤ sizeLine
    rw [List.size_toArray, List.length_reverse, Array.length_toList]
    exact hsz
  obtain ⟨ob, go, hcs, dd⟩ := id hs
  have isS : s.TypeIs (.ref sl) "slice" := ⟨ob, go, hcs⟩
  unfold getItem
  try with_reducible refine wpAny_holding (?_ : _)
  first | refine wpAny_bind (wpAny_pure (?_ : _)) | skip
  refine wpAny_bind (wpAny_sequenceKey ht.typeIs (by decide) (?_ : _))
  refine wpAny_bind (wpAny_callSpecial?_slot (name := Str.ofString "__getitem__") ht.typeIs PyProof.Rows.slot_tuple_getitem
    (wpAny_call_entry PyProof.Rows.slot_tuple_getitem ht.typeIs entry_tuple_getitem (?_ : _) (args_tuple_getitem _ _)))
  show wpAny _ _ (Builtin.Tuple.tupleItemsOf (.ref t) >>= _) _ _ s
  refine wpAny_bind (tupleItemsOf_ ht (?_ : _))
  refine wpAny_bind (wpAny_typeOf isS (?_ : _))
  rw [if_pos (show (Value.type "slice" == Value.type "slice") = true by decide)]
  refine wpAny_bind (?_ : wpAny _ _ (Builtin.Slice.sliceApplied _ _) _ _ _)
  unfold Builtin.Slice.sliceApplied Builtin.Slice.sliceFields
  refine wpAny_bind (wpAny_bind (wpAny_field go dd (x := .none) rfl (wpAny_bind (wpAny_field go dd (x := .none) rfl (wpAny_bind (wpAny_field go dd (x := vs) rfl (wpAny_pure (?_ : _))))))))
  refine wpAny_bind (slicePart_ pl (?_ : _))
  show wpAny _ _ (if ((-1 : Int) == 0) = true then _ else _) _ _ s
  rw [if_neg (show ¬ ((-1 : Int) == 0) = true by decide)]
  refine wpAny_bind (slicePart_none (wpAny_bind (slicePart_none (wpAny_bind (wpAny_pure (?_ : _))))))
  have ep : Builtin.Slice.slicePlaces ((xs.size : Int) - 1) (-1) (-1) = xs.size := by
    unfold Builtin.Slice.slicePlaces
    rw [if_neg (show ¬ (-1 : Int) > 0 by decide)]
    by_cases c : (xs.size : Int) - 1 > -1
    · rw [if_pos c, show (- -1 : Int) = 1 by decide, Int.ediv_one]
      omega
    · rw [if_neg c]
      omega
  show wpAny _ _ (pure ((xs.size : Int) - 1, (-1 : Int), Builtin.Slice.slicePlaces ((xs.size : Int) - 1) (-1) (-1))) _ _ s
  rw [ep]
  refine wpAny_pure (?_ : _)
  show wpAny _ _ (if (((xs.size : Int) - 1) == 0 && (-1 : Int) == 1 && xs.size == xs.size) = true then _ else _) _ _ s
  have no : ¬ ((((xs.size : Int) - 1) == 0 && (-1 : Int) == 1 && xs.size == xs.size) = true) := by
    rw [show ((-1 : Int) == 1) = false by decide, Bool.and_false, Bool.false_and]
    exact Bool.false_ne_true
  rw [if_neg no, pickRev]
  first
    | exact wpAny_bind (m := Builtin.Tuple.tupleExact _) (wpAny_newObj_type (wpAny_pure ⟨_, rfl, wpAny_pure h⟩) fit)
    | exact wpAny_bind (m := Builtin.Tuple.tupleExact _) (wpAny_newObj_type (wpAny_bind (wpAny_pure (wpAny_pure ⟨_, rfl, wpAny_pure h⟩))) fit)
    | exact wpAny_bind (wpAny_bind (m := Builtin.Tuple.tupleExact _) (wpAny_newObj_type (wpAny_pure (wpAny_pure ⟨_, rfl, wpAny_pure h⟩)) fit))
    | exact wpAny_bind (wpAny_bind (m := Builtin.Tuple.tupleExact _) (wpAny_newObj_type (wpAny_pure ⟨_, rfl, wpAny_pure h⟩) fit))
end
def tRevT (K : PySem.W.Frag) (te : TE) : TE := fun σ H Q => te σ H fun x H1 => ∃ a xs, x = .ref a ∧ SqT K H1 a xs ∧ ∀ p, H1 p = none → Q (.ref p) (upd H1 p (.tup xs.reverse))
theorem pe_revT {X : Cx} {e : Expr} {te : TE} {k : Nat} {p1 p2 p3 pos : Pos} (he : PE X e te) : PE X (.Subscript e (.Slice none none (some (.UnaryOp .USub (.Constant (.int 1) k p1) p2)) p3) pos) (tRevT X.K te) := by
  refine ⟨fun pins s σ H Q I h => Subscript_ (thn (he.run pins s σ H _ I h) fun v s1 ⟨x, H1, I1, r1, q1⟩ => ?_)⟩
  obtain ⟨a, xs, ex, hx, q⟩ := q1
  subst ex
  cases r1
  have st : PO X (some (.UnaryOp .USub (.Constant (.int 1) k p1) p2)) (tPart (tUn (rU fun i => .int (-i)) (tC (.int 1)))) := po_some (pe_un un_neg pe_int)
  refine wpAny_Slice (thn (po_none.run pins s1 σ H1 (fun o J => o = none ∧ J = H1) I1 ⟨rfl, rfl⟩) fun vl s2 ⟨l, J2, I2, pl, el, e2⟩ => ?_)
  subst el e2
  refine thn (po_none.run pins s2 σ J2 (fun o J => o = none ∧ J = J2) I2 ⟨rfl, rfl⟩) fun vu s3 ⟨u, J3, I3, pu, eu, e3⟩ => ?_
  subst eu e3
  refine thn (st.run pins s3 σ J3 (fun o J => o = some (-1) ∧ J = J3) I3 ⟨1, rfl, -1, rfl, rfl, rfl⟩) fun vs s4 ⟨o, J4, I4, ps, eo, e4⟩ => ?_
  subst eo e4
  have I5 : Inv X pins σ J4 { s4 with heap := s4.heap.push { cls := .type "slice", data := .fields #[vl, vu, vs] } } := I4.kept (t' := s4.toks) fun b ob z => Heap.get?_push_of_some _ z
  obtain ⟨its, r, ht, hz⟩ := I5.tuple hx
  have hlen := r.length
  cases pl
  cases pu
  show wpAny (model X.prog X.w) X.A (subscriptTail e (.Slice none none (some (.UnaryOp .USub (.Constant (.int 1) k p1) p2)) p3) (.ref a) (.ref s4.heap.objs.size)) (EP X pins σ Q) X.xe { s4 with heap := s4.heap.push { cls := .type "slice", data := .fields #[.none, .none, vs] } }
  refine tail_any (ops := [.ref a, .ref s4.heap.objs.size]) ht.typeIs (PyProof.Rows.slot_tuple_getitem.lookup) (?_ : _) (by with_unfolding_all rfl)
  refine getRevT ht (Heap.IsSliceOf.new _ .none .none vs) ps (?_ : _) (by rw [List.size_toArray]; omega)
  refine ⟨.ref _, _, I5.laid (t' := s4.toks) (o := .tup xs.reverse) (fun b ob z => Heap.get?_push_of_some _ z) (Nat.le_refl _) (?_ : _), rfl, q _ (I5.hok.fresh (Nat.le_refl _))⟩
  exact ⟨by rw [List.length_reverse]; exact hz, its.reverse, r.reverse, ⟨_, Heap.get?_push_size _ rfl, rfl, _, rfl⟩⟩
end FF
namespace FF
open PySem PySem.Spec PyProof.Rows L2 Evl
/-! ### a deck, with some things hidden besides -/
structure Dk (D A B : Addr) (S : Hp) (H : Hp) : Prop where
  d : Deck D A B H
  s : Ex S H
  sd : S D = none
  sa : S A = none
def hsd (D A : Addr) (S H : Hp) : Hp := fun b => if (S b).isSome = true then none else hid D A H b
section
variable {D A B p b : Addr} {S H H1 H2 : Hp} {o : HO}
theorem hs_of (h : H b = some o) (n1 : b ≠ D) (n2 : b ≠ A) (n3 : S b = none) : hsd D A S H b = some o := by
  unfold hsd
  rw [n3]
  exact hid_of h n1 n2
theorem of_hs (h : hsd D A S H b = some o) : H b = some o ∧ b ≠ D ∧ b ≠ A := by
  unfold hsd at h
  split at h
  · cases h
  · exact of_hid h
theorem of_hsS (h : hsd D A S H b = some o) : S b = none := by
  unfold hsd at h
  split at h
  · cases h
  · next c => cases e : S b with
    | none => rfl
    | some x => rw [e] at c; exact absurd rfl c
theorem ex_hs : Ex (hsd D A S H) H := fun _ _ h => (of_hs h).1
theorem Kp.hs (k : Kp D A H H1) : Ex (FF.hsd D A S H) (FF.hsd D A S H1) := fun b o h => by
  obtain ⟨h1, n1, n2⟩ := of_hs h
  exact hs_of (k b o h1 n1 n2) n1 n2 (of_hsS h)
theorem Dk.new (dk : Dk D A B S H) (n : H p = none) : Dk D A B S (upd H p o) := ⟨dk.d.new n, dk.s.trans (Ex.new n), dk.sd, dk.sa⟩
theorem Dk.ne (dk : Dk D A B S H) (n : H p = none) : p ≠ D ∧ p ≠ A ∧ p ≠ B := dk.d.ne n
theorem Dk.hidNew (dk : Dk D A B S H) (n : H p = none) : Ex (FF.hsd D A S H) (FF.hsd D A S (upd H p o)) ∧ FF.hsd D A S (upd H p o) p = some o :=
  ⟨(Kp.new n).hs, hs_of upd_same (dk.ne n).1 (dk.ne n).2.1 (none_ex dk.s n)⟩
theorem Dk.kp (dk : Dk D A B S H) (dk' : Deck D A B H1) (k : Kp D A H H1) : Dk D A B S H1 :=
  ⟨dk', fun b o h => k b o (dk.s b o h) (fun z => by rw [z, dk.sd] at h; cases h) (fun z => by rw [z, dk.sa] at h; cases h), dk.sd, dk.sa⟩
theorem hs_none (n : H p = none) : hsd D A S H p = none := by
  unfold hsd
  split
  · rfl
  · exact hid_none n
end
/-! ### values made beside the deck, told by their data -/
section
variable (K : PySem.W.Frag) (D A B : Addr) (S : Hp)
def EvQ (te : TE) (σ : L2.St) (G : Hp) (W k : Nat) : Prop := ∀ H, Dk D A B S H → Ex G (hsd D A S H) → ∀ Q : VK, (∀ v d H', Dk D A B S H' → Ex (hsd D A S H) (hsd D A S H') → Dq K (hsd D A S H') v d → Sv W k d → Q v H') → te σ H Q
def EvQA (ta : TA) (σ : L2.St) (G : Hp) (W k n : Nat) : Prop := ∀ H, Dk D A B S H → Ex G (hsd D A S H) → ∀ Q : List V → Hp → Prop, (∀ vs ds H', Dk D A B S H' → Ex (hsd D A S H) (hsd D A S H') → DqA K (hsd D A S H') vs ds → SvA W k ds → vs.length = n → Q vs H') → ta σ H Q
/-- a tuple of lo to hi items -/
def EvQT (te : TE) (σ : L2.St) (G : Hp) (W k lo hi : Nat) : Prop := ∀ H, Dk D A B S H → Ex G (hsd D A S H) → ∀ Q : VK, (∀ a xs ds H', Dk D A B S H' → Ex (hsd D A S H) (hsd D A S H') → SqT K (hsd D A S H') a xs → DqA K (hsd D A S H') xs ds → SvA W k ds → lo ≤ xs.length → xs.length ≤ hi → Q (.ref a) H') → te σ H Q
end
section
variable {K : PySem.W.Frag} {D A B : Addr} {S : Hp} {σ : L2.St} {G : Hp} {te ta tb : TE} {W V' k j n m lo hi lo2 hi2 : Nat}
theorem EvQ.mono (h : EvQ K D A B S te σ G W k) {W' k' : Nat} (h1 : W ≤ W') (h2 : k ≤ k') : EvQ K D A B S te σ G W' k' := fun H dk e Q q => h H dk e Q fun v d H' dk' e' hd s => q v d H' dk' e' hd (s.mono h1 h2)
theorem EvQA.mono {ta : TA} (h : EvQA K D A B S ta σ G W k n) {W' k' : Nat} (h1 : W ≤ W') (h2 : k ≤ k') : EvQA K D A B S ta σ G W' k' n := fun H dk e Q q => h H dk e Q fun v d H' dk' e' hd s => q v d H' dk' e' hd (s.mono h1 h2)
theorem EvQ.go (h : EvQ K D A B S te σ G W k) {H : Hp} (dk : Dk D A B S H) (e : Ex G (hsd D A S H)) {Q : VK} (q : ∀ v d H', Dk D A B S H' → Ex (hsd D A S H) (hsd D A S H') → Dq K (hsd D A S H') v d → Sv W k d → Q v H') : te σ H Q := h H dk e Q q
theorem EvQA.go {ta : TA} (h : EvQA K D A B S ta σ G W k n) {H : Hp} (dk : Dk D A B S H) (e : Ex G (hsd D A S H)) {Q : List V → Hp → Prop} (q : ∀ vs ds H', Dk D A B S H' → Ex (hsd D A S H) (hsd D A S H') → DqA K (hsd D A S H') vs ds → SvA W k ds → vs.length = n → Q vs H') : ta σ H Q := h H dk e Q q
theorem EvQT.go (h : EvQT K D A B S te σ G W k lo hi) {H : Hp} (dk : Dk D A B S H) (e : Ex G (hsd D A S H)) {Q : VK} (q : ∀ a xs ds H', Dk D A B S H' → Ex (hsd D A S H) (hsd D A S H') → SqT K (hsd D A S H') a xs → DqA K (hsd D A S H') xs ds → SvA W k ds → lo ≤ xs.length → xs.length ≤ hi → Q (.ref a) H') : te σ H Q := h H dk e Q q
theorem EvQ.ex {G' : Hp} (h : EvQ K D A B S te σ G W k) (e : Ex G G') : EvQ K D A B S te σ G' W k := fun H dk e' => h H dk (e.trans e')
theorem qc {v : V} {d : PyData} (hd : ∀ H, Dq K H v d) (s : Sv W k d) : EvQ K D A B S (tC v) σ G W k := fun H dk _ Q q => q v d H dk (Ex.refl _) (hd _) s
theorem qNon : EvQ K D A B S (tC .non) σ G 0 0 := qc (fun _ => .non) Sv.non
theorem qBl {b : Bool} : EvQ K D A B S (tC (.bl b)) σ G 0 0 := qc (fun _ => .bl b) Sv.bl
theorem qInt {i : Int} (h : i.natAbs < 2 ^ 110 := by decide) : EvQ K D A B S (tC (.int i)) σ G 110 0 := qc (fun _ => .int i) (Sv.int h)
theorem qStr {z : Str} (h : (z.cps.toList.all fun c => decide (c < 1000)) = true := by decide +kernel) (hl : z.length ≤ 40 := by decide +kernel) : EvQ K D A B S (tC (.str z)) σ G 40 0 := qc (fun _ => .str z) (Sv.str h hl)
theorem qNeg {i : Int} (h : (-i).natAbs < 2 ^ 110 := by decide) : EvQ K D A B S (tUn (rU fun i => .int (-i)) (tC (.int i))) σ G 110 0 := fun H dk _ Q q => ⟨i, rfl, q _ (.int (-i)) H dk (Ex.refl _) (.int _) (Sv.int h)⟩
theorem qPow30 : EvQ K D A B S (tOp (rI CPow fun i j => .int (i ^ j.toNat)) (tC (.int 10)) (tC (.int 30))) σ G 110 0 := fun H dk _ Q q =>
  ⟨10, 30, rfl, rfl, ⟨by decide, by decide, by decide⟩, q _ (.int ((10 : Int) ^ (30 : Int).toNat)) H dk (Ex.refl _) (.int _) (Sv.int (by decide))⟩
theorem qVar {i : Nat} {v : V} {d : PyData} (h : σ[i]? = some (some v)) (hd : Dq K G v d) (s : Sv W k d) : EvQ K D A B S (tVar i) σ G W k := fun H dk e Q q => ⟨v, h, q v d H dk (Ex.refl _) (Dq.ex e _ _ hd) s⟩
theorem qaNil : EvQA K D A B S tNil σ G 0 0 0 := fun H dk _ Q q => q [] [] H dk (Ex.refl _) .nil SvA.nil rfl
theorem qaCons {tr : TA} (h : EvQ K D A B S te σ G W k) (t : EvQA K D A B S tr σ G V' j n) : EvQA K D A B S (tCons te tr) σ G (W + 1 + V') (max k j) (n + 1) := fun H dk e Q q =>
  h H dk e _ fun v d H1 dk1 e1 hd s => t H1 dk1 (e.trans e1) _ fun vs ds H2 dk2 e2 ha sa hl => q (v :: vs) (d :: ds) H2 dk2 (e1.trans e2) (.cons (Dq.ex e2 _ _ hd) ha) (SvA.cons s sa) (by rw [List.length_cons, hl])
theorem qtTup {ta : TA} (h : EvQA K D A B S ta σ G W k n) (hn : n ≤ 1000 := by decide) : EvQT K D A B S (tTup ta) σ G W k n n := fun H dk e Q q =>
  h H dk e _ fun vs ds H1 dk1 e1 ha sa hl => ⟨Nat.le_of_lt (small1000 (by omega)), fun p np => by
    obtain ⟨e2, g2⟩ := dk1.hidNew (o := .tup vs) np
    exact q p vs ds _ (dk1.new np) (e1.trans e2) (SqT.of g2) (DqA.ex e2 _ _ ha) sa (by omega) (by omega)⟩
theorem qT (h : EvQT K D A B S te σ G W k lo hi) : EvQ K D A B S te σ G W (k + 1) := fun H dk e Q q => h H dk e _ fun a xs ds H1 dk1 e1 ht ha sa _ _ => q _ _ H1 dk1 e1 (.tup ht ha) (Sv.tup sa)
theorem qLst {ta : TA} (hy : Sys G) (h : EvQA K D A B S ta σ G W k n) (hn : n ≤ 1000 := by decide) : EvQ K D A B S (tLst ta) σ G W (k + 1) := fun H dk e Q q =>
  h H dk e _ fun vs ds H1 dk1 e1 ha sa hl => ⟨Nat.le_of_lt (small1000 (by omega)), fun p np => by
    obtain ⟨e2, g2⟩ := dk1.hidNew (o := .lst vs) np
    have ns : p ≠ sysModules := ((hy.ex (e.trans e1)).ex ex_hs).ne np
    exact q (.ref p) (.list ds) _ (dk1.new np) (e1.trans e2) (.lst (SqL.of g2) ns (DqA.ex e2 _ _ ha)) (Sv.lst sa)⟩
theorem qDict : EvQ K D A B S tDNewK σ G 0 1 := fun H dk _ Q q p np => by
  obtain ⟨e2, g2⟩ := dk.hidNew (o := .dK []) np
  exact q (.ref p) (.dict []) _ (dk.new np) e2 (.dct g2 .nil) ⟨rfl, rfl, Nat.le_refl _, Nat.le_refl _⟩
theorem qtVar {i : Nat} {a : Addr} {xs : List V} {ds : List PyData} (h : σ[i]? = some (some (.ref a))) (ht : SqT K G a xs) (ha : DqA K G xs ds) (s : SvA W k ds) (h1 : lo ≤ xs.length) (h2 : xs.length ≤ hi) : EvQT K D A B S (tVar i) σ G W k lo hi := fun H dk e Q q =>
  ⟨.ref a, h, q a xs ds H dk (Ex.refl _) (ex_t e ht) (DqA.ex e _ _ ha) s h1 h2⟩
theorem qtCat (h : EvQT K D A B S ta σ G W k lo hi) (g : EvQT K D A B S tb σ G V' j lo2 hi2) (hz : hi + hi2 ≤ 10000 := by decide) : EvQT K D A B S (tOp (rCatA K) ta tb) σ G (W + V') (max k j) (lo + lo2) (hi + hi2) := fun H dk e Q q =>
  h H dk e _ fun a xs ds H1 dk1 e1 ht ha sa l1 l2 => g H1 dk1 (e.trans e1) _ fun b ys es H2 dk2 e2 ht2 ha2 sa2 m1 m2 => by
    have ht' := ex_t e2 ht
    have ha' := DqA.ex e2 _ _ ha
    refine ⟨a, b, xs, ys, rfl, rfl, ex_t ex_hs ht', ex_t ex_hs ht2, ?_, fun z => ?_, fun z1 z2 => ?_, fun z1 z2 p np => ?_⟩
    · exact Nat.le_trans (show xs.length + ys.length ≤ 10000 by omega) (by decide)
    · subst z
      have dz : ds = [] := List.eq_nil_of_length_eq_zero ha.len.symm
      subst dz
      exact q b ys es H2 dk2 (e1.trans e2) ht2 ha2 (sa2.mono (Nat.le_add_left _ _) (Nat.le_max_right _ _)) (by simp at l1; omega) (by omega)
    · subst z2
      exact q a xs ds H2 dk2 (e1.trans e2) ht' ha' (sa.mono (Nat.le_add_right _ _) (Nat.le_max_left _ _)) (by simp at m1; omega) (by omega)
    · obtain ⟨e3, g3⟩ := dk2.hidNew (o := .tup (xs ++ ys)) np
      exact q p (xs ++ ys) (ds ++ es) _ (dk2.new np) ((e1.trans e2).trans e3) (SqT.of g3) ((DqA.ex e3 _ _ ha').app (DqA.ex e3 _ _ ha2)) (sa.app sa2) (by rw [List.length_append]; omega) (by rw [List.length_append]; omega)
theorem dqRep {H : Hp} {xs : List V} {ds : List PyData} (h : DqA K H xs ds) : ∀ n : Nat, DqA K H (List.replicate n xs).flatten (List.replicate n ds).flatten
  | 0 => .nil
  | n + 1 => by
    rw [List.replicate_succ, List.flatten_cons, List.replicate_succ, List.flatten_cons]
    exact h.app (dqRep h n)
theorem lenRep (xs : List V) : ∀ n : Nat, (List.replicate n xs).flatten.length = n * xs.length
  | 0 => by simp
  | n + 1 => by rw [List.replicate_succ, List.flatten_cons, List.length_append, lenRep xs n, Nat.add_mul, Nat.one_mul, Nat.add_comm]
/-- the pure reading of a number -/
def PureI (te : TE) (σ : L2.St) (i : Int) : Prop := ∀ (H : Hp) (Q : VK), Q (.int i) H → te σ H Q
theorem puC {i : Int} : PureI (tC (.int i)) σ i := fun _ _ q => q
theorem puV {r : Nat} {i : Int} (h : σ[r]? = some (some (.int i))) : PureI (tVar r) σ i := fun _ _ q => ⟨_, h, q⟩
theorem puNeg {i : Int} : PureI (tUn (rU fun i => .int (-i)) (tC (.int i))) σ (-i) := fun _ _ q => ⟨i, rfl, q⟩
theorem puAdd {i c : Int} (h : PureI te σ i) : PureI (tOp (rI0 fun i j => .int (i + j)) te (tC (.int c))) σ (i + c) := fun H Q q => h H _ ⟨i, c, rfl, rfl, q⟩
theorem qtRep {i : Int} {m : Nat} (h : EvQT K D A B S ta σ G W k lo hi) (hp : PureI tb σ i) (hm : i = (m : Int)) (h1 : 1 ≤ lo) (h2 : 2 ≤ m) (h3 : m ≤ 1000) (h4 : hi ≤ 1000) :
    EvQT K D A B S (tOp (rRepT K) ta tb) σ G (m * W) k (m * lo) (m * hi) := fun H dk e Q q =>
  h H dk e _ fun a xs ds H1 dk1 e1 ht ha sa l1 l2 => hp H1 _ (by
    refine ⟨a, i, xs, rfl, rfl, ex_t ex_hs ht, fun z => by rw [z] at l1; simp at l1; omega, by omega, by omega, by omega, fun p np => ?_⟩
    have em : i.toNat = m := by omega
    rw [em]
    obtain ⟨e2, g2⟩ := dk1.hidNew (o := .tup (List.replicate m xs).flatten) np
    refine q p _ _ _ (dk1.new np) (e1.trans e2) (SqT.of g2) (dqRep (DqA.ex e2 _ _ ha) m) (SvA.rep sa m) ?_ ?_
    · rw [lenRep]; exact Nat.mul_le_mul_left _ l1
    · rw [lenRep]; exact Nat.mul_le_mul_left _ l2)
def PureO (to : TO) (σ : L2.St) (o : Option Int) : Prop := ∀ (H : Hp) (Q : Option Int → Hp → Prop), Q o H → to σ H Q
theorem puNone : PureO tNoPart σ none := fun _ _ q => q
theorem puSome {i : Int} (h : PureI te σ i) : PureO (tPart te) σ (some i) := fun H _ q => h H _ ⟨i, rfl, q⟩
theorem qtSl {tl th : TO} {o1 o2 : Option Int} (h : EvQT K D A B S ta σ G W k lo hi) (h1 : PureO tl σ o1) (h2 : PureO th σ o2) : EvQT K D A B S (tSl (rSlA K) ta tl th) σ G W k 0 hi := fun H dk e Q q =>
  h H dk e _ fun a xs ds H1 dk1 e1 ht ha sa l1 l2 => h1 H1 _ (h2 H1 _ (by
    refine ⟨a, xs, rfl, ex_t ex_hs ht, fun _ => ?_, fun _ p np => ?_⟩
    · exact q a xs ds H1 dk1 e1 ht ha sa (Nat.zero_le _) l2
    · obtain ⟨e2, g2⟩ := dk1.hidNew (o := .tup (cutV xs o1 o2)) np
      have hc := cutV_length xs o1 o2
      refine q p (cutV xs o1 o2) ((ds.drop (HT.sIx xs.length 0 o1)).take (HT.sIx xs.length xs.length o2 - HT.sIx xs.length 0 o1)) _ (dk1.new np) (e1.trans e2) (SqT.of g2) ?_ ?_ (Nat.zero_le _) (by omega)
      · unfold cutV
        exact (DqA.ex e2 _ _ ((ha.drop _).take _))
      · exact (sa.drop _).take _))
theorem qtRev (h : EvQT K D A B S ta σ G W k lo hi) : EvQT K D A B S (tRevT K ta) σ G W k lo hi := fun H dk e Q q =>
  h H dk e _ fun a xs ds H1 dk1 e1 ht ha sa l1 l2 => ⟨a, xs, rfl, ex_t ex_hs ht, fun p np => by
    obtain ⟨e2, g2⟩ := dk1.hidNew (o := .tup xs.reverse) np
    exact q p xs.reverse ds.reverse _ (dk1.new np) (e1.trans e2) (SqT.of g2) (DqA.ex e2 _ _ ha).rev sa.rev (by rw [List.length_reverse]; exact l1) (by rw [List.length_reverse]; exact l2)⟩
theorem qList (hy : Sys G) (h : EvQT K D A B S ta σ G W k lo hi) : EvQ K D A B S (tCB (rListS K) (tCons ta tNil)) σ G W (k + 1) := fun H dk e Q q =>
  h H dk e _ fun a xs ds H1 dk1 e1 ht ha sa l1 l2 => ⟨a, xs, rfl, .inr (ex_t ex_hs ht), fun p np => by
    obtain ⟨e2, g2⟩ := dk1.hidNew (o := .lst xs) np
    have ns : p ≠ sysModules := ((hy.ex (e.trans e1)).ex ex_hs).ne np
    exact q (.ref p) (.list ds) _ (dk1.new np) (e1.trans e2) (.lst (SqL.of g2) ns (DqA.ex e2 _ _ ha)) (Sv.lst sa)⟩
theorem qLen (h : EvQT K D A B S ta σ G W k lo hi) (hz : hi ≤ 100000 := by decide) : EvQ K D A B S (tCB (rLenS K) (tCons ta tNil)) σ G 110 0 := fun H dk e Q q =>
  h H dk e _ fun a xs ds H1 dk1 e1 ht ha sa l1 l2 => ⟨a, xs, rfl, .inr (ex_t ex_hs ht), q _ (.int (xs.length : Int)) H1 dk1 e1 (.int _) (Sv.int (by
    have : (2 : Nat) ^ 110 = 1298074214633706907132624082305024 := by decide
    omega))⟩
/-- [..] at the head: a new list of such values -/
theorem qaLst {ta : TA} (h : EvQA K D A B S ta σ G W k n) {H : Hp} (dk : Dk D A B S H) (e : Ex G (hsd D A S H)) (hn : n ≤ 1000) {Q : VK}
    (q : ∀ p vs ds H', Dk D A B S H' → Ex (hsd D A S H) (hsd D A S H') → hsd D A S H' p = some (.lst vs) → p ≠ D → p ≠ A → p ≠ B → DqA K (hsd D A S H') vs ds → SvA W k ds → vs.length = n → Q (.ref p) H') : tLst ta σ H Q :=
  h H dk e _ fun vs ds H1 dk1 e1 ha sa hl => ⟨Nat.le_of_lt (small1000 (by omega)), fun p np => by
    obtain ⟨e2, g2⟩ := dk1.hidNew (o := .lst vs) np
    obtain ⟨n1, n2, n3⟩ := dk1.ne np
    exact q p vs ds _ (dk1.new np) (e1.trans e2) g2 n1 n2 n3 (DqA.ex e2 _ _ ha) sa hl⟩
theorem qsLst {ta : TA} {i : Nat} {u : TS} {Ed : Ends} (h : EvQA K D A B S ta σ G W k n) {H : Hp} (dk : Dk D A B S H) (e : Ex G (hsd D A S H)) (hn : n ≤ 1000)
    (q : ∀ p vs ds H', Dk D A B S H' → Ex (hsd D A S H) (hsd D A S H') → hsd D A S H' p = some (.lst vs) → p ≠ D → p ≠ A → p ≠ B → DqA K (hsd D A S H') vs ds → SvA W k ds → vs.length = n → u Ed (σ.set i (some (.ref p))) H') : tSeq (tAsg (tLst ta) (gName i)) u Ed σ H := by
  show tLst ta σ H (fun x H1 => u Ed (σ.set i (some x)) H1)
  exact qaLst h dk e hn q
/-- l + [..] -/
theorem qaCat {ta : TA} {a : Addr} {i : Nat} {us : List V} {H : Hp} (hv : σ[i]? = some (some (.ref a))) (h : EvQA K D A B S ta σ G W k n) (dk : Dk D A B S H) (e : Ex G (hsd D A S H)) (hl : hsd D A S H a = some (.lst us)) (hz : us.length + n ≤ 1000) {Q : VK}
    (q : ∀ p vs ds H', Dk D A B S H' → Ex (hsd D A S H) (hsd D A S H') → hsd D A S H' p = some (.lst (us ++ vs)) → p ≠ D → p ≠ A → p ≠ B → DqA K (hsd D A S H') vs ds → SvA W k ds → vs.length = n → Q (.ref p) H') : tOp rCat (tVar i) (tLst ta) σ H Q :=
  ⟨.ref a, hv, qaLst h dk e (by omega) fun p vs ds H1 dk1 e1 g1 _ _ _ ha sa hn => by
    refine ⟨a, p, us, vs, rfl, rfl, (of_hs (e1 _ _ hl)).1, (of_hs g1).1, Nat.le_of_lt (small1000 (by omega)), fun r nr => ?_⟩
    obtain ⟨e2, g2⟩ := dk1.hidNew (o := .lst (us ++ vs)) nr
    obtain ⟨n1, n2, n3⟩ := dk1.ne nr
    exact q r vs ds _ (dk1.new nr) (e1.trans e2) g2 n1 n2 n3 (DqA.ex e2 _ _ ha) sa hn⟩
theorem qsCat {ta : TA} {a : Addr} {i l : Nat} {us : List V} {u : TS} {Ed : Ends} {H : Hp} (hv : σ[i]? = some (some (.ref a))) (h : EvQA K D A B S ta σ G W k n) (dk : Dk D A B S H) (e : Ex G (hsd D A S H)) (hl : hsd D A S H a = some (.lst us)) (hz : us.length + n ≤ 1000)
    (q : ∀ p vs ds H', Dk D A B S H' → Ex (hsd D A S H) (hsd D A S H') → hsd D A S H' p = some (.lst (us ++ vs)) → p ≠ D → p ≠ A → p ≠ B → DqA K (hsd D A S H') vs ds → SvA W k ds → vs.length = n → u Ed (σ.set l (some (.ref p))) H') : tSeq (tAsg (tOp rCat (tVar i) (tLst ta)) (gName l)) u Ed σ H := by
  show tOp rCat (tVar i) (tLst ta) σ H (fun x H1 => u Ed (σ.set l (some x)) H1)
  exact qaCat hv h dk e hl hz q
theorem qRet {Ed : Ends} (h : EvQ K D A B S te σ G W k) {H : Hp} (dk : Dk D A B S H) (e : Ex G (hsd D A S H)) (q : ∀ v d H', Dk D A B S H' → Ex (hsd D A S H) (hsd D A S H') → Dq K (hsd D A S H') v d → Sv W k d → Ed.rt v H') : tRet te Ed σ H := h H dk e _ q
end

/-! ### _law_odd -/
theorem scOdd : FnScope ["_law_deck_here", "_law_some"] ["_law_deck_here"] (defScope sOdd) := ⟨rfl, rfl, rfl, by decide +kernel, rfl, by decide +kernel, by decide +kernel⟩
def spOdd (K : PySem.W.Frag) : Sp := fun vs H Q _ => ∃ (D A B : Addr) (S : Hp), vs = [.ref D] ∧ Dk D A B S H ∧ Sys (hsd D A S H) ∧ ∀ v d H', Dk D A B S H' → Ex (hsd D A S H) (hsd D A S H') → Dq K (hsd D A S H') v d → Sv 3000 6 d → Q v H'
section
variable {P : Program} {w : World} {K : PySem.W.Frag} {mg : Str → Option Value} {base : Heap}
theorem ok_odd {f fP : Addr} {fd fdP : FuncData} {k : Nat} (F : Fun K "_law_odd" "_law_odd" sOdd f fd)
    (GP : FnOk P w K mg base CX0 k fP fdP ["_law_deck_here", "_law_items"] spPick) (bP : Binds K fdP ["_law_deck_here", "_law_items"] []) (gP : mg "_law_pick" = some (.ref fP)) (kP : PySem.W.keepIn K (.ref fP) = true) :
    FnOk P w K mg base CX0 (k + 1) f fd ["_law_deck_here"] (spOdd K) := by
  refine F.ok scOdd (fun vs H Q E h => ?_) (fun cdv A' outer s H vs Q E hr h => ?_)
  · obtain ⟨D, A, B, S, rfl, _⟩ := h
    rfl
  · obtain ⟨D, A, B, S, rfl, dk, hy, q⟩ := h
    refine ⟨_, pss_cons (ps_set (i := 1) scOdd.nd rfl (.inl rfl) (pe_lst (pa_cons pe_non (pa_cons pe_bl (pa_cons pe_bl (pa_cons pe_int (pa_cons pe_int (pa_cons (pe_un un_neg pe_int) (pa_cons pe_int (pa_cons (pe_op op_pow pe_int pe_int)
        (pa_cons pe_str (pa_cons pe_str (pa_cons pe_str (pa_cons (pe_tup pa_nil) (pa_cons (pe_lst pa_nil) (pa_cons pe_dnewK (pa_cons (pe_tup (pa_cons pe_int pa_nil)) (pa_cons (pe_tup (pa_cons pe_int (pa_cons pe_int pa_nil))) (pa_cons (pe_tup (pa_cons pe_int (pa_cons pe_int pa_nil)))
        (pa_cons (pe_lst (pa_cons pe_int pa_nil)) (pa_cons (pe_tup (pa_cons pe_bl pa_nil)) pa_nil)))))))))))))))))))))
      (pss_one (ps_ret (pe_call GP hr (by rfl) gP kP bP .nil pass0 (pa_cons (pv 0) (pa_cons (pe_op op_cat (pv 1) (pe_lst (pa_cons (pe_tup (pa_cons (pe_un un_neg pe_int) (pa_cons pe_int pa_nil))) (pa_cons (pe_tup (pa_cons pe_int (pa_cons pe_int pa_nil)))
        (pa_cons (pe_tup (pa_cons pe_str (pa_cons pe_int pa_nil))) (pa_cons (pe_tup (pa_cons pe_str pa_nil)) (pa_cons (pe_tup (pa_cons pe_non pa_nil)) (pa_cons (pe_tup (pa_cons pe_str pa_nil)) (pa_cons (pe_tup (pa_cons pe_int (pa_cons pe_int (pa_cons pe_int pa_nil))))
        (pa_cons (pe_tup (pa_cons (pe_tup (pa_cons pe_int (pa_cons pe_int pa_nil))) pa_nil)) pa_nil)))))))))) pa_nil))))), ?_⟩
    refine qsLst (K := K) (A := A) (B := B) (S := S) (G := hsd D A S H) ((qaCons qNon (qaCons qBl (qaCons qBl (qaCons qInt (qaCons qInt (qaCons qNeg (qaCons qInt (qaCons qPow30
        (qaCons qStr (qaCons qStr (qaCons qStr (qaCons (qT (qtTup qaNil)) (qaCons (qLst hy qaNil) (qaCons qDict (qaCons (qT (qtTup (qaCons qInt qaNil))) (qaCons (qT (qtTup (qaCons qInt (qaCons qInt qaNil)))) (qaCons (qT (qtTup (qaCons qInt (qaCons qInt qaNil))))
        (qaCons (qLst hy (qaCons qInt qaNil)) (qaCons (qT (qtTup (qaCons qBl qaNil))) qaNil))))))))))))))))))).mono (W' := 2500) (k' := 5) (by decide) (by decide)) dk (Ex.refl _) (by decide) fun p vs ds H2 dk2 e02 g2 m1 m2 m3 ha2 sa hl => ?_
    refine ⟨.ref D, rfl, ?_⟩
    refine qaCat (K := K) (D := D) (A := A) (B := B) (S := S) (G := hsd D A S H2) (a := p) rfl ((qaCons (qT (qtTup (qaCons qNeg (qaCons qInt qaNil)))) (qaCons (qT (qtTup (qaCons qInt (qaCons qInt qaNil)))) (qaCons (qT (qtTup (qaCons qStr (qaCons qInt qaNil)))) (qaCons (qT (qtTup (qaCons qStr qaNil)))
        (qaCons (qT (qtTup (qaCons qNon qaNil))) (qaCons (qT (qtTup (qaCons qStr qaNil))) (qaCons (qT (qtTup (qaCons qInt (qaCons qInt (qaCons qInt qaNil))))) (qaCons (qT (qtTup (qaCons (qT (qtTup (qaCons qInt (qaCons qInt qaNil)))) qaNil))) qaNil)))))))).mono (W' := 2500) (k' := 5) (by decide) (by decide)) dk2 (Ex.refl _) g2 (by omega) fun t ws es H5 dk5 e5 g5 l1 l2 l3 ha5 sa3 hl3 => ?_
    have ha6 := (DqA.ex e5 _ _ ha2).app ha5
    refine ⟨D, A, B, t, vs ++ ws, rfl, dk5.d, (of_hs g5).1, l1, l2, fun z => ?_, by rw [List.length_append]; omega, fun v H6 hv dk6 kp6 => ?_⟩
    · have c : (vs ++ ws).length = 0 := by rw [z]; rfl
      rw [List.length_append] at c
      omega
    · obtain ⟨i, hi⟩ := List.getElem?_of_mem hv
      obtain ⟨d, hd1, hd2⟩ := ha6.get i hi
      have sd2 : Sv 3000 6 d := by
        rcases List.mem_append.mp (List.mem_of_getElem? hd1) with z | z
        · exact (sa.sub d z).mono (by decide) (by decide)
        · exact (sa3.sub d z).mono (by decide) (by decide)
      exact q v d H6 (dk5.kp dk6 kp6) ((e02.trans e5).trans kp6.hs) (Dq.ex kp6.hs _ _ hd2) sd2
end
end FF
namespace FF
open PySem PySem.Spec PyProof.Rows L2 Evl
/-! ### data of whole numbers and tuples alone -/
mutual
def onlyTI : PyData → Bool
  | .int _ => true
  | .tuple xs => onlyTIs xs
  | _ => false
def onlyTIs : List PyData → Bool
  | [] => true
  | x :: xs => onlyTI x && onlyTIs xs
end
theorem onlyTIs_mem : ∀ {xs : List PyData} {x : PyData}, onlyTIs xs = true → x ∈ xs → onlyTI x = true
  | [], _, _, h => nomatch h
  | y :: ys, x, h, hx => by
    simp only [onlyTIs, Bool.and_eq_true] at h
    rcases List.mem_cons.mp hx with e | e
    · rw [e]; exact h.1
    · exact onlyTIs_mem h.2 e
mutual
theorem onlyTI_lay : ∀ d : PyData, onlyTI d = true → d.canLay0 = true
  | .int _, _ => rfl
  | .tuple xs, h => by
    simp only [onlyTI] at h
    simp only [PyData.canLay0]
    exact onlyTIs_lay xs h
  | .none, h => by cases h
  | .bool _, h => by cases h
  | .str _, h => by cases h
  | .list _, h => by cases h
  | .dict _, h => by cases h
theorem onlyTIs_lay : ∀ ds : List PyData, onlyTIs ds = true → PyData.canLayAll0 ds = true
  | [], _ => rfl
  | d :: ds, h => by
    simp only [onlyTIs, Bool.and_eq_true] at h
    simp only [PyData.canLayAll0, onlyTI_lay d h.1, onlyTIs_lay ds h.2, Bool.and_self]
end
section
variable {K : PySem.W.Frag} {H : Hp}
mutual
theorem dq_dp : ∀ (d : PyData) (v : V), onlyTI d = true → Dq K H v d → Dp K H v d
  | .int i, _, _, h => by cases h; exact .int i
  | .tuple xs, _, o, h => by
    simp only [onlyTI] at o
    cases h with
    | tup a b => exact .tup a (dqa_dpa xs _ o b)
  | .none, _, o, _ => by cases o
  | .bool _, _, o, _ => by cases o
  | .str _, _, o, _ => by cases o
  | .list _, _, o, _ => by cases o
  | .dict _, _, o, _ => by cases o
theorem dqa_dpa : ∀ (ds : List PyData) (vs : List V), onlyTIs ds = true → DqA K H vs ds → DpAll K H vs ds
  | [], _, _, h => by cases h; exact .nil
  | d :: ds, _, o, h => by
    simp only [onlyTIs, Bool.and_eq_true] at o
    cases h with
    | cons a b => exact .cons (dq_dp d _ o.1 a) (dqa_dpa ds _ o.2 b)
end
end
theorem len_weight : ∀ ds : List PyData, ds.length ≤ PyData.weightAll ds
  | [] => Nat.le_refl _
  | d :: ds => by
    have := len_weight ds
    simp only [PyData.weightAll, List.length_cons]
    omega
theorem eqvNil (ds : List PyData) : PyData.eqv (.tuple ds) (.tuple []) = ds.isEmpty := by
  cases ds <;> rfl

/-! ### _law_bent -/
abbrev nBent : List Str := ["_law_deck_here", "_law_thing", "_law_deep", "_law_at", "_law_some"]
abbrev pBent : List Str := ["_law_deck_here", "_law_thing", "_law_deep"]
theorem scBent : FnScope nBent pBent (defScope sBent) := ⟨rfl, rfl, rfl, by decide +kernel, rfl, by decide +kernel, by decide +kernel⟩
/-- how heavy, how deep what comes may be -/
def bentW (m W : Nat) : Nat := 2 * m * W + 40000 + m
def spBent (K : PySem.W.Frag) (m : Nat) : Sp := fun vs H Q _ => ∃ (D A B : Addr) (S : Hp) (v : V) (d : PyData) (j : Int) (W : Nat), vs = [.ref D, v, .int j] ∧ Dk D A B S H ∧ Sys (hsd D A S H) ∧ Dq K (hsd D A S H) v d ∧ onlyTI d = true ∧ Sv W 10 d ∧ W ≤ 3000 ∧ 0 ≤ j ∧ j < m ∧
  ∀ v' d' H', Dk D A B S H' → Ex (hsd D A S H) (hsd D A S H') → Dq K (hsd D A S H') v' d' → Sv (bentW m W) (11 + m) d' → Q v' H'
section
variable {P : Program} {w : World} {K : PySem.W.Frag} {mg : Str → Option Value} {base : Heap}
theorem ok_bent0 {f : Addr} {fd : FuncData} {k : Nat} : FnOk P w K mg base CX0 k f fd pBent (spBent K 0) :=
  ⟨fun vs H Q E h => by obtain ⟨_, _, _, _, _, j, _, _, _, _, _, _, _, _, h1, h2, _⟩ := h; omega,
   fun A outer s H args us vs Q E _ _ _ _ h => by obtain ⟨_, _, _, _, _, j, _, _, _, _, _, _, _, _, h1, h2, _⟩ := h; omega⟩
theorem qOdd {D A B : Addr} {S : Hp} {σ : L2.St} {G : Hp} {i : Nat} (h : σ[i]? = some (some (.ref D))) (hy : Sys G) : EvQ K D A B S (tCall (spOdd K) [] E0 (tCons (tVar i) tNil)) σ G 3000 6 := fun H dk e Q q =>
  ⟨.ref D, h, D, A, B, S, rfl, dk, hy.ex e, fun v d H' dk' e' hd s => q v d H' dk' e' hd s⟩
theorem ok_bentS {f fD fP fO : Addr} {fd fdD fdP fdO : FuncData} {k m : Nat} (F : Fun K "_law_bent" "_law_bent" sBent f fd) (bB : Binds K fd pBent []) (gB : mg "_law_bent" = some (.ref f)) (GB : FnOk P w K mg base CX0 k f fd pBent (spBent K m))
    (GD : FnOk P w K mg base CX0 k fD fdD ["_law_deck_here", "_law_bound"] spDraw) (bD : Binds K fdD ["_law_deck_here", "_law_bound"] []) (gD : mg "_law_draw" = some (.ref fD)) (kD : PySem.W.keepIn K (.ref fD) = true)
    (GP : FnOk P w K mg base CX0 k fP fdP ["_law_deck_here", "_law_items"] spPick) (bP : Binds K fdP ["_law_deck_here", "_law_items"] []) (gP : mg "_law_pick" = some (.ref fP)) (kP : PySem.W.keepIn K (.ref fP) = true)
    (GO : FnOk P w K mg base CX0 k fO fdO ["_law_deck_here"] (spOdd K)) (bO : Binds K fdO ["_law_deck_here"] []) (gO : mg "_law_odd" = some (.ref fO)) (kO : PySem.W.keepIn K (.ref fO) = true)
    (ms : mg "isinstance" = none) (mt : mg "tuple" = none) (ml : mg "len" = none) (mL : mg "list" = none) : FnOk P w K mg base CX0 (k + 1) f fd pBent (spBent K (m + 1)) := by
  refine F.ok scBent (fun vs H Q E h => ?_) (fun cdv A' outer s H vs Q E hr h => ?_)
  · obtain ⟨D, A, B, S, v, d, j, W, rfl, _⟩ := h
    rfl
  · obtain ⟨D, A, B, S, v, d, j, W, rfl, dk, hy, hd, ho, hs, hW, hj0, hj1, q⟩ := h
    refine ⟨_, pss_cut (ps_if (PW.pt (pw_and (pt_val (pe_callB call_isi (by rfl) ms (by decide +kernel) (pa_cons (pv 1) (pa_cons (pe_bltn (v := .ty "tuple") (by rfl) mt (by decide +kernel) rfl) pa_nil))))
          (pw_and (pt_cmpR (op_neD hr.units) (pv 1) (pe_tup pa_nil) (nomark _)) (pw_and (pt_cmpR op_gt (pv 2) pe_int (nomark _))
          (pw_and1 (pt_cmpR op_gt (pe_call GD hr (by rfl) gD kD bD .nil pass0 (pa_cons (pv 0) (pa_cons pe_int pa_nil))) pe_int (nomark _)))))))
        (pss_cons (ps_set (i := 3) scBent.nd rfl (.inl rfl) (pe_call GD hr (by rfl) gD kD bD .nil pass0 (pa_cons (pv 0) (pa_cons (pe_callB call_len_seq (by rfl) ml PySem.boot_len (pa_cons (pv 1) pa_nil)) pa_nil))))
        (pss_one (ps_ret (pe_op op_catA (pe_op op_catA (pe_slice sl_tupA (pv 1) po_none (po_some (pv 3)))
            (pe_tup (pa_cons (pe_call GB hr (by rfl) gB F.kp bB .nil pass0 (pa_cons (pv 0) (pa_cons (pe_ix ix_tup (pv 1) (pv 3) (fun _ _ => rfl)) (pa_cons (pe_op op_sub (pv 2) pe_int) pa_nil)))) pa_nil)))
          (pe_slice sl_tupA (pv 1) (po_some (pe_op op_add (pv 3) pe_int)) po_none))))) pss_nil)
      (pss_cons (ps_set (i := 4) scBent.nd rfl (.inl rfl) (pe_lst (pa_cons (pe_call GO hr (by rfl) gO kO bO .nil pass0 (pa_cons (pv 0) pa_nil)) (pa_cons (pe_call GO hr (by rfl) gO kO bO .nil pass0 (pa_cons (pv 0) pa_nil)) pa_nil))))
      (pss_cut (ps_if (pt_val (pe_callB call_isi (by rfl) ms (by decide +kernel) (pa_cons (pv 1) (pa_cons (pe_bltn (v := .ty "tuple") (by rfl) mt (by decide +kernel) rfl) pa_nil))))
        (pss_one (ps_set (i := 4) scBent.nd rfl (.inl rfl) (pe_op op_cat (pv 4) (pe_lst
          (pa_cons (pe_op op_catA (pv 1) (pe_tup (pa_cons (pe_call GO hr (by rfl) gO kO bO .nil pass0 (pa_cons (pv 0) pa_nil)) pa_nil)))
          (pa_cons (pe_slice sl_tupA (pv 1) (po_some pe_int) po_none)
          (pa_cons (pe_op op_catA (pv 1) (pe_slice sl_tupA (pv 1) po_none (po_some pe_int)))
          (pa_cons (pe_callTy call_list_of (by rfl) mL (by decide +kernel) (pa_cons (pv 1) pa_nil))
          (pa_cons (pe_slice sl_tupA (pv 1) po_none (po_some (pe_un un_neg pe_int)))
          (pa_cons (pe_revT (pv 1)) pa_nil)))))))))) pss_nil)
      (pss_one (ps_ret (pe_call GP hr (by rfl) gP kP bP .nil pass0 (pa_cons (pv 0) (pa_cons (pv 4) pa_nil))))))), ?_⟩
    refine ⟨fun σ H' => σ = [some (.ref D), some v, some (.int j), none, none] ∧ Dk D A B S H' ∧ Ex (hsd D A S H) (hsd D A S H'), ?_, ?_⟩
    · refine ⟨v, rfl, v, .ty "tuple", _, _, _, rfl, .ty "tuple", dqTy (Dq.ex ex_hs _ _ hd), kit_ty (kitTup d), _, rfl, ?_⟩
      cases c1 : isTupD d with
      | false => exact iteF (iteF ⟨rfl, dk, Ex.refl _⟩)
      | true =>
        obtain ⟨p, xs, ds, rfl, rfl, hp, ha⟩ := dq_tup hd c1
        have hlw : ds.length ≤ 3000 := by
          have := len_weight ds
          have := hs.items.wt
          omega
        have hxl := ha.len
        refine iteT ⟨.ref p, rfl, Nat.zero_le _, fun t nt => ?_⟩
        obtain ⟨e1, g1⟩ := dk.hidNew (o := .tup []) nt
        have dk1 := dk.new (o := .tup []) nt
        refine ⟨.tuple ds, .tuple [], Dp.tup (ex_t (ex_hs.trans (Ex.new nt)) hp) ?_, .tup (SqT.of upd_same) .nil, ?_, rfl, _, rfl, ?_⟩
        · have hds := DqA.ex (ex_hs.trans (Ex.new (o := .tup []) nt)) _ _ ha
          have ho' : onlyTIs ds = true := by simpa only [onlyTI] using ho
          exact dqa_dpa ds _ ho' hds
        · unfold SeqAt.shaped
          rw [onlyTI_lay _ ho, decide_eq_true (Nat.le_trans hs.dp (by decide))]
          rfl
        rw [eqvNil]
        generalize upd H t (.tup []) = H1 at dk1 e1 g1 ⊢
        cases c2 : ds.isEmpty with
        | true => exact iteF (iteF ⟨rfl, dk1, e1⟩)
        | false =>
          have hne : 0 < ds.length := by
            cases ds with
            | nil => cases c2
            | cons _ _ => exact Nat.succ_pos _
          refine iteT ⟨.int j, rfl, j, 0, rfl, rfl, _, rfl, ite2 (fun c3 => ?_) (fun c3 => ?_)⟩
          · have c3' : 0 < j := of_decide_eq_true c3
            refine ⟨.ref D, rfl, D, A, B, 4, rfl, by decide, by decide, dk1.d, fun r1 H2 r10 r11 dk2 kp2 => ?_⟩
            have dk2 := dk1.kp dk2 kp2
            have e2 := e1.trans kp2.hs
            refine ⟨r1, 0, rfl, rfl, _, rfl, ite2 (fun c4 => ?_) (fun c4 => ?_)⟩
            · -- at = draw(deck, len(thing))
              have hp2 := ex_t e2 hp
              refine ⟨.ref D, rfl, .ref p, rfl, p, xs, rfl, .inr (ex_t ex_hs hp2), D, A, B, _, rfl, by omega, by omega, dk2.d, fun r2 H3 r20 r21 dk3 kp3 => ?_⟩
              have dk3 := dk2.kp dk3 kp3
              have e3 := e2.trans kp3.hs
              obtain ⟨i, rfl⟩ : ∃ i : Nat, r2 = (i : Int) := ⟨r2.toNat, by omega⟩
              have hil : i < xs.length := by omega
              obtain ⟨di, hdi, hdq⟩ := ha.get i (List.getElem?_eq_getElem hil)
              have tv : ∀ {G : Hp}, Ex (hsd D A S H) G → EvQT K D A B S (tVar 1) [some (.ref D), some (.ref p), some (.int j), some (.int (i : Int)), none] G W 10 0 3000 := fun eG => qtVar rfl (ex_t eG hp) (DqA.ex eG _ _ ha) hs.items (Nat.zero_le _) (by omega)
              have hdi2 := List.mem_of_getElem? hdi
              have bent : EvQ K D A B S (tCall (spBent K m) [] E0 (tCons (tVar 0) (tCons (tOp (rIxT K) (tVar 1) (tVar 3)) (tCons (tOp (rI0 fun i j => .int (i - j)) (tVar 2) (tC (.int 1))) tNil)))) [some (.ref D), some (.ref p), some (.int j), some (.int (i : Int)), none] (hsd D A S H3) (bentW m W) (11 + m) := fun H4 dk4 e4 Q4 q4 => by
                have e04 := e3.trans e4
                refine ⟨.ref D, rfl, .ref p, rfl, .int (i : Int), rfl, p, xs, (i : Int), xs[i], rfl, rfl, ex_t ex_hs (ex_t e04 hp), atI_nat (List.getElem?_eq_getElem hil), .int j, rfl, j, 1, rfl, rfl, D, A, B, S, xs[i], di, j - 1, W, rfl, dk4, hy.ex e04, Dq.ex e04 _ _ hdq, ?_, hs.items.sub di hdi2, hW, by omega, by omega, fun v' d' H5 dk5 e5 hd5 s5 => q4 v' d' H5 dk5 e5 hd5 s5⟩
                exact onlyTIs_mem (by simpa only [onlyTI] using ho) hdi2
              have res := qT (qtCat (qtCat (qtSl (tv e3) puNone (puSome (puV (r := 3) rfl))) (qtTup (qaCons bent qaNil))) (qtSl (tv e3) (puSome (puAdd (c := 1) (puV (r := 3) rfl))) puNone))
              refine qRet res dk3 (Ex.refl _) fun v' d' H5 dk5 e5 hd5 s5 => q v' d' H5 dk5 (e3.trans e5) hd5 (s5.mono ?_ ?_)
              · unfold bentW
                rw [show 2 * (m + 1) * W = 2 * m * W + 2 * W by rw [Nat.mul_add, Nat.add_mul]]
                omega
              · omega
            · exact ⟨rfl, dk2, e2⟩
          · exact iteF ⟨rfl, dk1, e1⟩
    · rintro σ H1 ⟨rfl, dk1, e1⟩
      have hy1 := hy.ex e1
      refine qsLst (K := K) (A := A) (B := B) (S := S) (G := hsd D A S H1) ((qaCons (qOdd rfl hy1) (qaCons (qOdd rfl hy1) qaNil)).mono (W' := 8000) (k' := 6) (by decide) (by decide)) dk1 (Ex.refl _) (by decide) fun p1 vs ds H2 dk2 e2 g2 m1 m2 m3 ha2 sa2 hl2 => ?_
      have e02 := e1.trans e2
      have hy2 := hy.ex e02
      refine ⟨fun σ H' => ∃ (p2 : Addr) (us : List V) (es : List PyData), σ = [some (.ref D), some v, some (.int j), none, some (.ref p2)] ∧ Dk D A B S H' ∧ Ex (hsd D A S H) (hsd D A S H') ∧ hsd D A S H' p2 = some (.lst us) ∧ p2 ≠ D ∧ p2 ≠ A ∧ DqA K (hsd D A S H') us es ∧ us ≠ [] ∧ us.length < 1000 ∧ ∀ x ∈ es, Sv (bentW (m + 1) W) (11 + (m + 1)) x, ?_, ?_⟩
      · have hd2 := Dq.ex (e02.trans ex_hs) _ _ hd
        have sm : ∀ x ∈ ds, Sv (bentW (m + 1) W) (11 + (m + 1)) x := fun x hx => (sa2.sub x hx).mono (by unfold bentW; omega) (by omega)
        have nv : vs ≠ [] := fun z => by rw [z] at hl2; cases hl2
        refine ⟨v, rfl, v, .ty "tuple", _, _, _, rfl, .ty "tuple", dqTy hd2, kit_ty (kitTup d), _, rfl, ?_⟩
        cases c1 : isTupD d with
        | false => exact iteF ⟨p1, vs, ds, rfl, dk2, e02, g2, m1, m2, ha2, nv, by omega, sm⟩
        | true =>
          obtain ⟨p, xs, dd, rfl, rfl, hp, ha⟩ := dq_tup hd c1
          have hlw : dd.length ≤ 3000 := by
            have := len_weight dd
            have := hs.items.wt
            omega
          have hxl := ha.len
          have tv : EvQT K D A B S (tVar 1) [some (.ref D), some (.ref p), some (.int j), none, some (.ref p1)] (hsd D A S H2) W 10 0 3000 := qtVar rfl (ex_t e02 hp) (DqA.ex e02 _ _ ha) hs.items (Nat.zero_le _) (by omega)
          refine iteT ?_
          have all := qaCons (qT (qtCat tv (qtTup (qaCons (qOdd (K := K) (i := 0) rfl hy2) qaNil)))) (qaCons (qT (qtSl tv (puSome (puC (i := 1))) puNone)) (qaCons (qT (qtCat tv (qtSl tv puNone (puSome (puC (i := 1)))))) (qaCons (qList hy2 tv) (qaCons (qT (qtSl tv puNone (puSome (puNeg (i := 1))))) (qaCons (qT (qtRev tv)) qaNil)))))
          show tOp rCat (tVar 4) (tLst _) _ _ _
          refine qaCat (K := K) (D := D) (A := A) (B := B) (S := S) (G := hsd D A S H2) (a := p1) rfl all dk2 (Ex.refl _) g2 (by omega) fun p2 ws es H3 dk3 e3 g3 l1 l2 l3 ha3 sa3 hl3 => ?_
          refine ⟨p2, vs ++ ws, ds ++ es, rfl, dk3, e02.trans e3, g3, l1, l2, (DqA.ex e3 _ _ ha2).app ha3, fun z => ?_, by rw [List.length_append]; omega, fun x hx => ?_⟩
          · have c : (vs ++ ws).length = 0 := by rw [z]; rfl
            rw [List.length_append] at c
            omega
          · rcases List.mem_append.mp hx with z | z
            · exact sm x z
            · exact (sa3.sub x z).mono (by unfold bentW; omega) (by omega)
      · rintro σ H3 ⟨p2, us, es, rfl, dk3, e3, g3, n1, n2, ha3, hne, hln, sm⟩
        refine ⟨.ref D, rfl, .ref p2, rfl, D, A, B, p2, us, rfl, dk3.d, (of_hs g3).1, n1, n2, hne, hln, fun v' H4 hv dk4 kp4 => ?_⟩
        obtain ⟨i, hi⟩ := List.getElem?_of_mem hv
        obtain ⟨d', hd1, hd2⟩ := ha3.get i hi
        exact q v' d' H4 (dk3.kp dk4 kp4) (e3.trans kp4.hs) (Dq.ex kp4.hs _ _ hd2) (sm d' (List.mem_of_getElem? hd1))
end
end FF
namespace FF
open PySem PySem.Spec PyProof.Rows L2 Evl
/-! ### one list hidden besides the deck -/
def noS : Hp := fun _ => none
def sg (p : Addr) (o : HO) : Hp := fun b => if b = p then some o else none
section
variable {D A B p q b : Addr} {S H H1 H2 G : Hp} {o o' : HO}
theorem sg_ne (n : b ≠ p) : sg p o b = none := if_neg n
theorem ne_sg (h : sg p o b = none) : b ≠ p := fun z => by
  unfold sg at h
  rw [if_pos z] at h
  cases h
theorem Deck.no (d : Deck D A B H) : Dk D A B noS H := { d := d, s := fun _ _ h => (nomatch h), sd := rfl, sa := rfl }
theorem Deck.sg (d : Deck D A B H) (g : H p = some o) (n1 : p ≠ D) (n2 : p ≠ A) : Dk D A B (FF.sg p o) H :=
  { d := d, sd := sg_ne n1.symm, sa := sg_ne n2.symm, s := fun b x h => by
      by_cases c : b = p
      · subst c
        unfold FF.sg at h
        rw [if_pos rfl] at h
        rw [← h]
        exact g
      · rw [sg_ne c] at h
        cases h }
theorem hsd_no : hsd D A noS H = hid D A H := by
  funext b
  unfold hsd noS
  rfl
/-- seen beside all, seen beside less -/
theorem ex_no : Ex (hsd D A S H) (hsd D A noS H) := fun b x h => by
  obtain ⟨h1, n1, n2⟩ := of_hs h
  exact hs_of h1 n1 n2 rfl
theorem ex_of_no (e : Ex (hsd D A noS H) (hsd D A noS H1)) : Ex (hsd D A S H) (hsd D A S H1) := fun b x h => by
  obtain ⟨h1, n1, n2⟩ := of_hs (e b x (ex_no b x h))
  exact hs_of h1 n1 n2 (of_hsS h)
/-- a new thing, hidden at once -/
theorem ex_new (n : H p = none) : Ex (hsd D A noS H) (hsd D A (sg p o) (upd H p o')) := fun b x h => by
  obtain ⟨h1, n1, n2⟩ := of_hs h
  have nb := ne_of_none h1 n
  exact hs_of (by rw [upd_ne nb]; exact h1) n1 n2 (sg_ne nb)
/-- what is hidden is written -/
theorem ex_put : Ex (hsd D A (sg p o) H) (hsd D A (sg p o') (upd H p o')) := fun b x h => by
  obtain ⟨h1, n1, n2⟩ := of_hs h
  have nb := ne_sg (of_hsS h)
  exact hs_of (by rw [upd_ne nb]; exact h1) n1 n2 (sg_ne nb)
end
/-- a list of values told by their data; none of them reaches the list -/
structure Vl (K : PySem.W.Frag) (D A B : Addr) (G : Hp) (p : Addr) (H : Hp) (us : List V) (es : List PyData) (n : Nat) : Prop where
  g : H p = some (.lst us)
  n1 : p ≠ D
  n2 : p ≠ A
  n3 : p ≠ B
  e : Ex G (hsd D A (sg p (.lst us)) H)
  a : DqA K (hsd D A (sg p (.lst us)) H) us es
  s : ∀ d ∈ es, Sv 100000 20 d
  l : us.length = n
section
variable {K : PySem.W.Frag} {D A B : Addr} {σ : L2.St} {G H H1 : Hp} {te : TE} {ta : TA} {W k n m : Nat} {us vs : List V} {es ds : List PyData} {a b p : Addr}
theorem Vl.ex (h : Vl K D A B G p H us es n) (e : Ex (hsd D A noS H) (hsd D A noS H1)) : Vl K D A B G p H1 us es n :=
  ⟨(of_hs (e _ _ (hs_of h.g h.n1 h.n2 rfl))).1, h.n1, h.n2, h.n3, h.e.trans (ex_of_no e), DqA.ex (ex_of_no e) _ _ h.a, h.s, h.l⟩
theorem Vl.no (h : Vl K D A B G p H us es n) : Ex G (hsd D A noS H) := h.e.trans ex_no
theorem Vl.base (h : Vl K D A B G p H us es n) {G' : Hp} (e : Ex G' (hsd D A (sg p (.lst us)) H)) : Vl K D A B G' p H us es n := ⟨h.g, h.n1, h.n2, h.n3, e, h.a, h.s, h.l⟩
theorem sv_app (h1 : ∀ d ∈ es, Sv 100000 20 d) (h2 : ∀ d ∈ ds, Sv 100000 20 d) : ∀ d ∈ es ++ ds, Sv 100000 20 d := fun d hd => (List.mem_append.mp hd).elim (h1 d) (h2 d)
theorem SvA.to (s : SvA W k ds) (hW : W ≤ 100000) (hk : k ≤ 20) : ∀ d ∈ ds, Sv 100000 20 d := fun d hd => (s.sub d hd).mono hW hk
/-- [..] -/
theorem vLst (h : EvQA K D A B noS ta σ G W k n) (dk : Deck D A B H) (e : Ex G (hsd D A noS H)) (hn : n ≤ 1000) (hW : W ≤ 100000) (hk : k ≤ 20) {Q : VK}
    (q : ∀ p us es H', Deck D A B H' → Ex (hsd D A noS H) (hsd D A noS H') → Vl K D A B G p H' us es n → Q (.ref p) H') : tLst ta σ H Q :=
  h H dk.no e _ fun vs ds H1 dk1 e1 ha sa hl => ⟨Nat.le_of_lt (small1000 (by omega)), fun p np => by
    obtain ⟨n1, n2, n3⟩ := dk1.ne np
    have x : Ex (hsd D A noS H1) (hsd D A (sg p (.lst vs)) (upd H1 p (.lst vs))) := ex_new np
    exact q p vs ds _ (dk1.d.new np) (e1.trans (x.trans ex_no)) ⟨upd_same, n1, n2, n3, (e.trans e1).trans x, DqA.ex x _ _ ha, sa.to hW hk, hl⟩⟩
/-- l + m -/
theorem vJoin (va : Vl K D A B G a H us es m) (vb : Vl K D A B G b H vs ds n) (dk : Deck D A B H) (hz : m + n ≤ 1000) {Q : VK}
    (q : ∀ p us' es' H', Deck D A B H' → Ex (hsd D A noS H) (hsd D A noS H') → Vl K D A B G p H' us' es' (m + n) → Q (.ref p) H') : rCat (.ref a) (.ref b) H Q := by
  have h1 := va.l
  have h2 := vb.l
  refine ⟨a, b, us, vs, rfl, rfl, va.g, vb.g, Nat.le_of_lt (small1000 (by omega)), fun p np => ?_⟩
  obtain ⟨n1, n2, n3⟩ := dk.ne np
  have x : Ex (hsd D A noS H) (hsd D A (sg p (.lst (us ++ vs))) (upd H p (.lst (us ++ vs)))) := ex_new np
  refine q p (us ++ vs) (es ++ ds) _ (dk.new np) (x.trans ex_no) ⟨upd_same, n1, n2, n3, va.no.trans x, (DqA.ex (ex_no.trans x) _ _ va.a).app (DqA.ex (ex_no.trans x) _ _ vb.a), sv_app va.s vb.s, ?_⟩
  rw [List.length_append]
  omega
/-- l + [..] -/
theorem vCat {i : Nat} (hv : σ[i]? = some (some (.ref a))) (h : EvQA K D A B noS ta σ G W k n) (va : Vl K D A B G a H us es m) (dk : Deck D A B H) (hz : m + n ≤ 1000) (hW : W ≤ 100000) (hk : k ≤ 20) {Q : VK}
    (q : ∀ p us' es' H', Deck D A B H' → Ex (hsd D A noS H) (hsd D A noS H') → Vl K D A B G p H' us' es' (m + n) → Q (.ref p) H') : tOp rCat (tVar i) (tLst ta) σ H Q :=
  ⟨.ref a, hv, vLst h dk va.no (by omega) hW hk fun b vs ds H1 dk1 e1 vb => vJoin (va.ex e1) vb dk1 hz fun p us' es' H2 dk2 e2 vp => q p us' es' H2 dk2 (e1.trans e2) vp⟩
/-- one more, at the end of the list that grows -/
theorem Vl.push (va : Vl K D A B G p H us es n) {v : V} {d : PyData} (dk' : Dk D A B (sg p (.lst us)) H1) (e' : Ex (hsd D A (sg p (.lst us)) H) (hsd D A (sg p (.lst us)) H1)) (hd : Dq K (hsd D A (sg p (.lst us)) H1) v d) (s : Sv W k d) (hW : W ≤ 100000) (hk : k ≤ 20) :
    Deck D A B (upd H1 p (.lst (us ++ [v]))) ∧ Vl K D A B G p (upd H1 p (.lst (us ++ [v]))) (us ++ [v]) (es ++ [d]) (n + 1) := by
  have g1 : H1 p = some (.lst us) := dk'.s _ _ (if_pos rfl)
  have x : Ex (hsd D A (sg p (.lst us)) H1) (hsd D A (sg p (.lst (us ++ [v]))) (upd H1 p (.lst (us ++ [v])))) := ex_put
  refine ⟨dk'.d.put ⟨_, g1⟩ va.n1 va.n2 va.n3, upd_same, va.n1, va.n2, va.n3, (va.e.trans e').trans x, (DqA.ex (e'.trans x) _ _ va.a).app (.cons (Dq.ex x _ _ hd) .nil), sv_app va.s ?_, ?_⟩
  · intro y hy
    rw [List.mem_singleton.mp hy]
    exact s.mono hW hk
  · rw [List.length_append, va.l]
    rfl
/-- l.extend([..]) -/
theorem vExt {i : Nat} {Q : VK} (hv : σ[i]? = some (some (.ref p))) (va : Vl K D A B G p H us es m) (dk : Deck D A B H) (h : EvQA K D A B (sg p (.lst us)) ta σ G W k n) (hz : m + n ≤ 1000) (hW : W ≤ 100000) (hk : k ≤ 20)
    (q : ∀ us' es' H', Deck D A B H' → Vl K D A B G p H' us' es' (m + n) → Q .non H') : tBM K "list" rExtend (tVar i) (tCons (tLst ta) tNil) σ H Q := by
  refine ⟨.ref p, hv, ?_, ?_⟩
  · exact .inl ⟨rfl, us, SqL.of va.g⟩
  · show tLst ta σ H (fun x H1 => rExtend (.ref p) [x] H1 Q)
    refine h H (dk.sg va.g va.n1 va.n2) va.e _ fun vs ds H1 dk1 e1 ha sa hl => ⟨Nat.le_of_lt (small1000 (by omega)), fun b nb => ?_⟩
    have hm := va.l
    obtain ⟨x, gb⟩ := dk1.hidNew (o := .lst vs) nb
    have dk2 := dk1.new (o := .lst vs) nb
    have gp : upd H1 b (.lst vs) p = some (.lst us) := dk2.s _ _ (if_pos rfl)
    have y : Ex (hsd D A (sg p (.lst us)) (upd H1 b (.lst vs))) (hsd D A (sg p (.lst (us ++ vs))) (upd (upd H1 b (.lst vs)) p (.lst (us ++ vs)))) := ex_put
    refine ⟨p, b, us, vs, rfl, rfl, gp, upd_same, Nat.le_of_lt (small1000 (by omega)), q (us ++ vs) (es ++ ds) _ (dk2.d.put ⟨_, gp⟩ va.n1 va.n2 va.n3) ⟨upd_same, va.n1, va.n2, va.n3, (va.e.trans e1).trans (x.trans y), (DqA.ex ((e1.trans x).trans y) _ _ va.a).app (DqA.ex (x.trans y) _ _ ha), sv_app va.s (sa.to hW hk), ?_⟩⟩
    rw [List.length_append]
    omega
theorem Vl.step (va : Vl K D A B G p H us es n) (dk' : Dk D A B (sg p (.lst us)) H1) (e' : Ex (hsd D A (sg p (.lst us)) H) (hsd D A (sg p (.lst us)) H1)) : Vl K D A B (hsd D A (sg p (.lst us)) H1) p H1 us es n :=
  ⟨dk'.s _ _ (if_pos rfl), va.n1, va.n2, va.n3, Ex.refl _, DqA.ex e' _ _ va.a, va.s, va.l⟩
theorem vNil (dk : Deck D A B H) (np : H p = none) : Deck D A B (upd H p (.lst [])) ∧ Vl K D A B (hsd D A noS H) p (upd H p (.lst [])) [] [] 0 :=
  have ⟨n1, n2, n3⟩ := dk.ne np
  ⟨dk.new np, upd_same, n1, n2, n3, ex_new np, .nil, fun _ h => (nomatch h), rfl⟩
theorem vsLst {i : Nat} {u : TS} {Ed : Ends} (h : EvQA K D A B noS ta σ G W k n) (dk : Deck D A B H) (e : Ex G (hsd D A noS H)) (hn : n ≤ 1000) (hW : W ≤ 100000) (hk : k ≤ 20)
    (q : ∀ p us es H', Deck D A B H' → Ex (hsd D A noS H) (hsd D A noS H') → Vl K D A B G p H' us es n → u Ed (σ.set i (some (.ref p))) H') : tSeq (tAsg (tLst ta) (gName i)) u Ed σ H := by
  show tLst ta σ H (fun x H1 => u Ed (σ.set i (some x)) H1)
  exact vLst h dk e hn hW hk q
theorem vsCat {i l : Nat} {u : TS} {Ed : Ends} (hv : σ[i]? = some (some (.ref a))) (h : EvQA K D A B noS ta σ G W k n) (va : Vl K D A B G a H us es m) (dk : Deck D A B H) (hz : m + n ≤ 1000) (hW : W ≤ 100000) (hk : k ≤ 20)
    (q : ∀ p us' es' H', Deck D A B H' → Ex (hsd D A noS H) (hsd D A noS H') → Vl K D A B G p H' us' es' (m + n) → u Ed (σ.set l (some (.ref p))) H') : tSeq (tAsg (tOp rCat (tVar i) (tLst ta)) (gName l)) u Ed σ H := by
  show tOp rCat (tVar i) (tLst ta) σ H (fun x H1 => u Ed (σ.set l (some x)) H1)
  exact vCat hv h va dk hz hW hk q
theorem qRunT {S : Hp} (h : EvQA K D A B S ta σ G W k n) (dk : Dk D A B S H) (e : Ex G (hsd D A S H)) (hn : n ≤ 1000) {Q : VK} (q : ∀ v d H', Dk D A B S H' → Ex (hsd D A S H) (hsd D A S H') → Dq K (hsd D A S H') v d → Sv W (k + 1) d → Q v H') : tTup ta σ H Q := qT (qtTup h hn) H dk e Q q
theorem Sys.deck (s : Sys H) (e : Ex H H1) (nD : H D = none) (nA : H A = none) : Sys (hsd D A noS H1) := by
  obtain ⟨o, h⟩ := s
  exact ⟨o, hs_of (e _ _ h) (ne_of_none h nD) (ne_of_none h nA) rfl⟩
end
end FF
namespace FF
open PySem PySem.Spec PyProof.Rows L2 Evl
theorem Sv.int12 {k : Nat} {i : Int} (h : i.natAbs < 2 ^ 12) : Sv 12 k (.int i) := by
  have a := Sv.int (k := k) (i := i) (Nat.lt_trans h (by decide))
  refine ⟨a.sh, a.lf, ?_, Nat.zero_le _⟩
  have hl : i.natAbs.log2 < 12 := log2_lt_of (by decide) h
  simp only [PyData.weight]
  split
  · exact Nat.zero_le _
  · omega
def pairD (p : Int × Int) : PyData := .tuple [.int p.1, .int p.2]
def boardD (fs ls : List (Int × Int)) : PyData := .tuple [.tuple (fs.map pairD), .tuple (ls.map pairD)]
theorem PsAt.dqa {K : PySem.W.Frag} {H : Hp} : ∀ {vs : List V} {ps : List (Int × Int)}, PsAt K H vs ps → DqA K H vs (ps.map pairD)
  | [], [], _ => .nil
  | [], _ :: _, h => by have := h.1; simp at this
  | _ :: _, [], h => by have := h.1; simp at this
  | v :: vs, p :: ps, h => by
    obtain ⟨a, e1, e2⟩ := h.2 0 v p rfl rfl
    subst e1
    refine .cons (.tup e2 (.cons (.int _) (.cons (.int _) .nil))) (PsAt.dqa ⟨?_, fun i w q h1 h2 => h.2 (i + 1) w q (by simpa using h1) (by simpa using h2)⟩)
    have := h.1
    simpa using this
theorem svPairs {l : List (Int × Int)} (h : ∀ p ∈ l, p.1.natAbs < 2 ^ 12 ∧ p.2.natAbs < 2 ^ 12) : SvA (27 * l.length) 1 (l.map pairD) := by
  have a : ∀ d ∈ l.map pairD, Sv 26 1 d := fun d hd => by
    obtain ⟨p, hp, rfl⟩ := List.mem_map.mp hd
    obtain ⟨h1, h2⟩ := h p hp
    exact Sv.tup (SvA.cons (Sv.int12 (k := 0) h1) (SvA.cons (Sv.int12 (k := 0) h2) (SvA.nil (k := 0))))
  have q := SvA.all a
  rw [List.length_map] at q
  exact q
theorem WF.get' {ab : List Int} (h : WF ab) {l : List (Int × Int)} (e : ab = l.map (·.1)) {p : Int × Int} (hp : p ∈ l) : -1 ≤ p.1 ∧ p.1 < l.length := by
  obtain ⟨i, hi⟩ := List.getElem?_of_mem hp
  have q := h i p.1 (by rw [e, List.getElem?_map, hi]; rfl)
  have il : i < l.length := (List.getElem?_eq_some_iff.mp hi).1
  omega
theorem WB.svF {fs ls : List (Int × Int)} (h : WB fs ls) : SvA 540 1 (fs.map pairD) := by
  have few := h.few
  refine (svPairs fun p hp => ?_).mono (by omega) (Nat.le_refl _)
  have q := h.wf.get' rfl hp
  have r := h.marks p hp
  omega
theorem WB.svL {fs ls : List (Int × Int)} (h : WB fs ls) : SvA 810 1 (ls.map pairD) := by
  have few := h.few
  have lam := h.lamps
  refine (svPairs fun p hp => ?_).mono (by omega) (Nat.le_refl _)
  have r := h.hung p hp
  omega
theorem onlyPairs : ∀ l : List (Int × Int), onlyTIs (l.map pairD) = true
  | [] => rfl
  | p :: l => by
    rw [List.map_cons]
    simp only [onlyTIs, pairD, onlyTI, onlyPairs l, Bool.and_self]
theorem onlyBoard {fs ls : List (Int × Int)} : onlyTI (boardD fs ls) = true := by
  unfold boardD
  simp only [onlyTI, onlyTIs, onlyPairs, Bool.and_self]
/-- what board_error tells can be shown -/
theorem badD_lt {ok : Int → PyData → Bool} : ∀ {xs : List PyData} {i j : Int}, badD ok i xs = some j → i ≤ j ∧ j < i + xs.length
  | [], _, _, h => by simp [badD] at h
  | x :: xs, i, j, h => by
    unfold badD at h
    split at h
    · have := badD_lt h
      simp only [List.length_cons]
      omega
    · have e : i = j := by simpa using h
      simp only [List.length_cons]
      omega
theorem sv_non {z : Str} (h : (z.cps.toList.all fun c => decide (c < 1000)) = true) (hl : z.length ≤ 40) : Sv 300000 60 (nonD z) :=
  (Sv.tup (SvA.cons (Sv.non (k := 0)) (SvA.cons (Sv.str (k := 0) h hl) (SvA.nil (k := 0))))).mono (by decide) (by decide)
theorem sv_at {z : Str} {i : Int} (hi : 0 ≤ i ∧ i < 100) (h : (z.cps.toList.all fun c => decide (c < 1000)) = true) (hl : z.length ≤ 40) : Sv 300000 60 (atD i z) :=
  (Sv.tup (SvA.cons (Sv.int12 (k := 0) (by omega)) (SvA.cons (Sv.str (k := 0) h hl) (SvA.nil (k := 0))))).mono (by decide) (by decide)
theorem sv_lamps {n : Int} : ∀ d : PyData, Sv 300000 60 (lampsD n d)
  | .tuple ys => by
    simp only [lampsD]
    split
    · next c =>
      split
      · next i e =>
        have := badD_lt e
        exact sv_at (by omega) (by decide +kernel) (by decide +kernel)
      · exact Sv.non.mono (Nat.zero_le _) (Nat.zero_le _)
    · exact sv_non (by decide +kernel) (by decide +kernel)
  | .none => sv_non (by decide +kernel) (by decide +kernel)
  | .bool _ => sv_non (by decide +kernel) (by decide +kernel)
  | .int _ => sv_non (by decide +kernel) (by decide +kernel)
  | .str _ => sv_non (by decide +kernel) (by decide +kernel)
  | .list _ => sv_non (by decide +kernel) (by decide +kernel)
  | .dict _ => sv_non (by decide +kernel) (by decide +kernel)
theorem sv_err (d : PyData) : Sv 300000 60 (errD d) := by
  unfold errD
  split
  · split
    · split
      · next c =>
        split
        · next i e =>
          have := badD_lt e
          exact sv_at (by omega) (by decide +kernel) (by decide +kernel)
        · exact sv_lamps _
      · exact sv_non (by decide +kernel) (by decide +kernel)
    · exact sv_non (by decide +kernel) (by decide +kernel)
  · exact sv_non (by decide +kernel) (by decide +kernel)
end FF
namespace FF
open PySem PySem.Spec PyProof.Rows L2 Evl
abbrev nLaw : List Str := ["_law_script", "_law_deck_here", "_law_turn", "_law_board_here", "_law_fuses", "_law_lamps", "_law_great", "_law_values", "_law_one", "_law_thing", "_law_shown", "_law_many", "_law_k"]
theorem scLaw : FnScope nLaw ["_law_script"] (defScope sLaw) := ⟨rfl, rfl, rfl, by decide +kernel, rfl, by decide +kernel, by decide +kernel⟩
theorem hsdEx {D A : Addr} {S H H1 : Hp} (e : Ex H H1) : Ex (hsd D A S H) (hsd D A S H1) := (Kp.of e).hs
theorem seqForLst {K : PySem.W.Frag} {ta : TA} {g : TG} {tb u : TS} {Ed : Ends} {σ : L2.St} {H : Hp} (h : tLst ta σ H (fun x H1 => tFor (iList K (fun _ H' Q => Q x H')) g tb { Ed with nx := u Ed } σ H1)) : tSeq (tFor (iList K (tLst ta)) g tb) u Ed σ H := h
theorem yesIf {σ : L2.St} {H : Hp} {te : TE} {Q : VK} {R : Hp → Prop} (h : te σ H Q) : tYes σ H (fun b H3 => if b = true then te σ H3 Q else R H3) := by
  show (if true = true then te σ H Q else R H)
  rw [if_pos rfl]
  exact h
section
variable {P : Program} {w : World} {K : PySem.W.Frag} {mg : Str → Option Value} {base : Heap}
theorem ok_law {fDk fP fB fO fT fE fL : Addr} {fdDk fdP fdB fdO fdT fdE fdL : FuncData}
    (GK : FnOk P w K mg base CX0 8 fDk fdDk ["_law_script"] (spDeck K)) (bK : Binds K fdDk ["_law_script"] []) (gK : mg "_law_deck" = some (.ref fDk)) (kK : PySem.W.keepIn K (.ref fDk) = true)
    (GP : FnOk P w K mg base CX0 8 fP fdP ["_law_deck_here", "_law_items"] spPick) (bP : Binds K fdP ["_law_deck_here", "_law_items"] []) (gP : mg "_law_pick" = some (.ref fP)) (kP : PySem.W.keepIn K (.ref fP) = true)
    (GB : FnOk P w K mg base CX0 8 fB fdB ["_law_deck_here", "_law_fuses", "_law_lamps"] (spBoard K)) (bB : Binds K fdB ["_law_deck_here", "_law_fuses", "_law_lamps"] []) (gB : mg "_law_board" = some (.ref fB)) (kB : PySem.W.keepIn K (.ref fB) = true)
    (GO : FnOk P w K mg base CX0 8 fO fdO ["_law_deck_here"] (spOdd K)) (bO : Binds K fdO ["_law_deck_here"] []) (gO : mg "_law_odd" = some (.ref fO)) (kO : PySem.W.keepIn K (.ref fO) = true)
    (GT : FnOk P w K mg base CX0 8 fT fdT pBent (spBent K 4)) (bT : Binds K fdT pBent []) (gT : mg "_law_bent" = some (.ref fT)) (kT : PySem.W.keepIn K (.ref fT) = true)
    (GE : FnOk P w K mg base CX0 8 fE fdE ["value"] (spErr K)) (bE : Binds K fdE ["value"] []) (gE : mg "board_error" = some (.ref fE)) (kE : PySem.W.keepIn K (.ref fE) = true)
    (GL : FnOk P w K mg base CX0 8 fL fdL ["_law_thing"] (spErr K)) (bL : Binds K fdL ["_law_thing"] []) (gL : mg "_law_board_error" = some (.ref fL)) (kL : PySem.W.keepIn K (.ref fL) = true)
    (mr : mg "range" = none) (ml : mg "len" = none) (mp : mg "repr" = none) (mL : mg "list" = none) (f : Addr) : BodyS P w K mg base 8 nLaw sLaw f := by
  intro cdv A' outer s H a ns hg hr hy hS hlen
  refine ⟨_, pss_cons (ps_set (i := 1) scLaw.nd rfl (.inr rfl) (pe_call GK hr (by rfl) gK kK bK .nil pass0 (pa_cons (pv 0) pa_nil)))
    (pss_cons (ps_for PassesOwn.never rfl (pi_range1 (by rfl) mr (pa_cons pe_int pa_nil)) (pg_name (i := 2) scLaw.nd rfl (.inl rfl))
      (pss_cons (ps_set (i := 3) scLaw.nd rfl (.inr rfl) (pe_call GB hr (by rfl) gB kB bB .nil pass0 (pa_cons (pv 1)
          (pa_cons (pe_call GP hr (by rfl) gP kP bP .nil pass0 (pa_cons (pv 1) (pa_cons (pe_lst (pa_cons pe_int (pa_cons pe_int (pa_cons pe_int pa_nil)))) pa_nil)))
          (pa_cons (pe_call GP hr (by rfl) gP kP bP .nil pass0 (pa_cons (pv 1) (pa_cons (pe_lst (pa_cons pe_int (pa_cons pe_int (pa_cons pe_int pa_nil)))) pa_nil))) pa_nil)))))
      (pss_cons (ps_asg (pe_tup (pa_cons (pe_ix ix_tup (pv 3) pe_int (fun _ _ => rfl)) (pa_cons (pe_ix ix_tup (pv 3) pe_int (fun _ _ => rfl))
            (pa_cons (pe_call GP hr (by rfl) gP kP bP .nil pass0 (pa_cons (pv 1) (pa_cons (pe_lst (pa_cons pe_int (pa_cons pe_int (pa_cons (pe_un un_neg pe_int) (pa_cons pe_bl pa_nil))))) pa_nil))) pa_nil))))
          (pg_tup rfl (pgs_cons (pg_name (i := 4) scLaw.nd rfl (.inl rfl)) (pgs_cons (pg_name (i := 5) scLaw.nd rfl (.inr rfl)) (pgs_cons (pg_name (i := 6) scLaw.nd rfl (.inl rfl)) pgs_nil)))))
      (pss_cons (ps_set (i := 7) scLaw.nd rfl (.inl rfl) (pe_lst (pa_cons (pv 3)
          (pa_cons (pe_tup (pa_cons (pe_op op_catA (pv 4) (pe_tup (pa_cons (pe_tup (pa_cons pe_int (pa_cons (pv 6) pa_nil))) pa_nil))) (pa_cons (pv 5) pa_nil)))
          (pa_cons (pe_tup (pa_cons (pe_slice sl_tupA (pe_op op_repT (pv 4) pe_int) po_none (po_some pe_int)) (pa_cons (pv 5) pa_nil)))
          (pa_cons (pe_tup (pa_cons (pe_tup pa_nil) (pa_cons (pv 5) pa_nil))) pa_nil))))))
      (pss_cons (ps_set (i := 7) scLaw.nd rfl (.inl rfl) (pe_op op_cat (pv 7) (pe_lc (own := [("_law_many", 11)]) (g := gName 11) (tt := tYes)
          (te := tTup (tCons (tOp (rCatA K) (tTup (tCons (tTup (tCons (tUn (rU fun i => .int (-i)) (tC (.int 1))) (tCons (tC (.int 5)) tNil))) tNil)) (tOp (rRepT K) (tTup (tCons (tTup (tCons (tC (.int 0)) (tCons (tC (.int 5)) tNil))) tNil)) (tVar 11))) (tCons (tVar 5) tNil)))
          (by rfl) scLaw.nd (pi_list (pe_lst (pa_cons pe_int (pa_cons pe_int pa_nil)))) (blkOk_by (own := [("_law_many", 11)]) (N := nLaw) (sc := defScope sLaw) (by decide +kernel)) (fun _ _ _ _ _ => pg_name (i := 11) scLaw.nd rfl (Or.inl rfl)) (fun _ _ _ _ _ => pts_nil)
          (fun _ _ _ _ _ => pe_tup (pa_cons (pe_op op_catA (pe_tup (pa_cons (pe_tup (pa_cons (pe_un un_neg pe_int) (pa_cons pe_int pa_nil))) pa_nil)) (pe_op op_repT (pe_tup (pa_cons (pe_tup (pa_cons pe_int (pa_cons pe_int pa_nil))) pa_nil)) (pv 11))) (pa_cons (pv 5) pa_nil))))))
      (pss_cons (ps_set (i := 7) scLaw.nd rfl (.inl rfl) (pe_op op_cat (pv 7) (pe_lst
          (pa_cons (pe_tup (pa_cons (pv 4) (pa_cons (pe_op op_repT (pe_tup (pa_cons (pe_tup (pa_cons pe_int (pa_cons pe_int pa_nil))) pa_nil)) pe_int) pa_nil)))
          (pa_cons (pe_tup (pa_cons (pv 4) (pa_cons (pe_op op_repT (pe_tup (pa_cons (pe_tup (pa_cons pe_int (pa_cons pe_int pa_nil))) pa_nil)) pe_int) pa_nil)))
          (pa_cons (pe_tup (pa_cons (pv 4) pa_nil)) (pa_cons (pe_call GO hr (by rfl) gO kO bO .nil pass0 (pa_cons (pv 1) pa_nil)) pa_nil)))))))
      (pss_cons (ps_set (i := 7) scLaw.nd rfl (.inl rfl) (pe_op op_cat (pv 7) (pe_lst
          (pa_cons (pe_tup (pa_cons (pv 4) (pa_cons (pe_tup (pa_cons (pe_tup (pa_cons pe_int (pa_cons pe_int pa_nil))) (pa_cons (pe_tup (pa_cons pe_int (pa_cons pe_int pa_nil))) pa_nil))) pa_nil)))
          (pa_cons (pe_tup (pa_cons (pv 4) (pa_cons (pe_tup (pa_cons (pe_tup (pa_cons (pe_callB call_len_seq (by rfl) ml PySem.boot_len (pa_cons (pv 4) pa_nil)) (pa_cons pe_int pa_nil))) pa_nil)) pa_nil)))
          (pa_cons (pe_tup (pa_cons (pv 4) (pa_cons (pe_tup (pa_cons (pe_tup (pa_cons pe_int (pa_cons pe_int pa_nil))) pa_nil)) pa_nil)))
          (pa_cons (pe_revT (pv 3)) pa_nil)))))))
      (pss_cons (ps_set (i := 7) scLaw.nd rfl (.inl rfl) (pe_op op_cat (pv 7) (pe_lst
          (pa_cons (pe_tup (pa_cons (pe_op op_catA (pv 4) (pe_tup (pa_cons (pe_tup (pa_cons (pe_callB call_len_seq (by rfl) ml PySem.boot_len (pa_cons (pv 4) pa_nil)) (pa_cons pe_int pa_nil))) pa_nil))) (pa_cons (pv 5) pa_nil)))
          (pa_cons (pe_tup (pa_cons (pe_op op_catA (pv 4) (pe_tup (pa_cons (pe_tup (pa_cons (pe_un un_neg pe_int) (pa_cons pe_int pa_nil))) pa_nil))) (pa_cons (pv 5) pa_nil)))
          (pa_cons (pe_tup (pa_cons (pe_tup (pa_cons (pe_tup (pa_cons pe_int (pa_cons pe_int pa_nil))) pa_nil)) (pa_cons (pv 5) pa_nil))) pa_nil))))))
      (pss_cons (ps_set (i := 7) scLaw.nd rfl (.inl rfl) (pe_op op_cat (pv 7) (pe_lst
          (pa_cons (pe_op op_catA (pv 3) (pe_tup (pa_cons (pe_tup pa_nil) pa_nil)))
          (pa_cons (pe_tup (pa_cons (pe_callTy call_list_of (by rfl) mL (by decide +kernel) (pa_cons (pv 4) pa_nil)) (pa_cons (pv 5) pa_nil)))
          (pa_cons (pe_tup (pa_cons (pv 4) (pa_cons (pe_callTy call_list_of (by rfl) mL (by decide +kernel) (pa_cons (pv 5) pa_nil)) pa_nil)))
          (pa_cons (pe_callTy call_list_of (by rfl) mL (by decide +kernel) (pa_cons (pv 3) pa_nil)) pa_nil)))))))
      (pss_cons (ps_for PassesOwn.never rfl (pi_list (pe_lst (pa_cons (pv 4) (pa_cons (pe_op op_catA (pv 4) (pe_tup (pa_cons (pe_tup (pa_cons pe_int (pa_cons (pe_un un_neg pe_int) pa_nil))) pa_nil)))
            (pa_cons (pe_tup (pa_cons (pe_tup (pa_cons pe_int (pa_cons pe_int pa_nil))) pa_nil)) (pa_cons (pe_callTy call_list_of (by rfl) mL (by decide +kernel) (pa_cons (pv 4) pa_nil)) (pa_cons (pe_tup pa_nil) pa_nil))))))) (pg_name (i := 8) scLaw.nd rfl (.inl rfl))
        (pss_one (ps_expr (pe_bm PySem.F.plainAttrs_list PySem.F.slot_list_extend PySem.F.type_list_extend mt_extend (pv 7) (pa_cons (pe_lst
          (pa_cons (pe_tup (pa_cons (pv 8) (pa_cons (pe_callTy call_list_of (by rfl) mL (by decide +kernel) (pa_cons (pv 5) pa_nil)) pa_nil)))
          (pa_cons (pe_tup (pa_cons (pv 8) (pa_cons (pe_op op_repT (pe_tup (pa_cons (pe_tup (pa_cons pe_int (pa_cons pe_int pa_nil))) pa_nil)) pe_int) pa_nil)))
          (pa_cons (pe_tup (pa_cons (pv 8) (pa_cons (pe_tup (pa_cons (pe_tup (pa_cons pe_int (pa_cons pe_int pa_nil))) pa_nil)) pa_nil)))
          (pa_cons (pe_tup (pa_cons (pv 8) (pa_cons pe_non pa_nil))) pa_nil))))) pa_nil)))))
      (pss_one (ps_for PassesOwn.never rfl (pi_list (pe_op op_cat (pv 7) (pe_lc (own := [("_law_k", 12)]) (g := gName 12) (tt := tYes) (te := tCall (spBent K 4) [] E0 (tCons (tVar 1) (tCons (tVar 3) (tCons (tC (.int 3)) tNil))))
            (by rfl) scLaw.nd (pi_range1 (by rfl) mr (pa_cons pe_int pa_nil)) (blkOk_by (own := [("_law_k", 12)]) (N := nLaw) (sc := defScope sLaw) (by decide +kernel)) (fun _ _ _ _ _ => pg_name (i := 12) scLaw.nd rfl (Or.inl rfl)) (fun _ _ _ _ _ => pts_nil)
            (fun _ _ _ _ _ => pe_call GT hr (by rfl) gT kT bT .nil pass0 (pa_cons (pv 1) (pa_cons (pv 3) (pa_cons pe_int pa_nil))))))) (pg_name (i := 9) scLaw.nd rfl (.inl rfl))
        (pss_cons (ps_set (i := 10) scLaw.nd rfl (.inl rfl) (pe_callB (callReprV hg hr.units) (by rfl) mp (by decide +kernel) (pa_cons (pv 9) pa_nil)))
        (pss_one (ps_if (PW.pt (pw_or (pt_cmpR op_ne (pe_callB (callReprV hg hr.units) (by rfl) mp (by decide +kernel) (pa_cons (pe_call GE hr (by rfl) gE kE bE .nil pass0 (pa_cons (pv 9) pa_nil)) pa_nil))
              (pe_callB (callReprV hg hr.units) (by rfl) mp (by decide +kernel) (pa_cons (pe_call GL hr (by rfl) gL kL bL .nil pass0 (pa_cons (pv 9) pa_nil)) pa_nil)) (nomark _))
            (pw_or1 (pt_cmpR op_ne (pe_callB (callReprV hg hr.units) (by rfl) mp (by decide +kernel) (pa_cons (pv 9) pa_nil)) (pv 10) (nomark _)))))
          (pss_one (ps_ret pe_bl)) pss_nil)))))))))))))))
    (pss_one (ps_ret pe_bl))), ?_⟩
  refine ⟨.ref a, rfl, a, ns, rfl, hS, hlen, fun D A B H1 dk1 eH1 nD nA => ?_⟩
  have hy1 : Sys (hsd D A noS H1) := hy.deck eH1 nD nA
  refine ⟨9, rfl, by decide, by decide, for_range (lo := 0) (n := 9) (fun i σ H' => ∃ y2 y3 y4 y5 y6 y7 y8 y9 y10 y11 y12 : Option V, σ = [some (.ref a), some (.ref D), y2, y3, y4, y5, y6, y7, y8, y9, y10, y11, y12] ∧ Deck D A B H' ∧ Sys (hsd D A noS H'))
    ⟨none, none, none, none, none, none, none, none, none, none, none, rfl, dk1, hy1⟩ ?_ ?_⟩
  · rintro i σ H2 hi ⟨y2, y3, y4, y5, y6, y7, y8, y9, y10, y11, y12, rfl, dk2, hy2⟩
    clear dk1 hy1 eH1 nD nA hS
    -- board
    refine ⟨.ref D, rfl, .ref D, rfl, (by show 3 ≤ sizeLine; decide), fun i1 ni1 => ?_⟩
    have dk3 := dk2.new (o := .lst [.int 3, .int 8, .int 20]) ni1
    have x3 : Ex (hsd D A noS H2) (hsd D A noS (upd H2 i1 (.lst [.int 3, .int 8, .int 20]))) := (dk2.no.hidNew ni1).1
    obtain ⟨l1, l2, l3⟩ := dk2.ne ni1
    refine ⟨D, A, B, i1, _, rfl, dk3, upd_same, l1, l2, by simp, by decide, fun v H3 hv dk4 kp4 => ?_⟩
    obtain ⟨n1, rfl, n10, n11⟩ : ∃ n1 : Int, v = .int n1 ∧ 1 ≤ n1 ∧ n1 ≤ 20 := by
      simp at hv
      rcases hv with z | z | z
      · exact ⟨3, z, by decide, by decide⟩
      · exact ⟨8, z, by decide, by decide⟩
      · exact ⟨20, z, by decide, by decide⟩
    have hy3 := hy2.ex (x3.trans kp4.hs)
    refine ⟨.ref D, rfl, (by show 3 ≤ sizeLine; decide), fun i2 ni2 => ?_⟩
    have dk5 := dk4.new (o := .lst [.int 4, .int 12, .int 30]) ni2
    have x5 : Ex (hsd D A noS H3) (hsd D A noS (upd H3 i2 (.lst [.int 4, .int 12, .int 30]))) := (dk4.no.hidNew ni2).1
    obtain ⟨l1, l2, l3⟩ := dk4.ne ni2
    refine ⟨D, A, B, i2, _, rfl, dk5, upd_same, l1, l2, by simp, by decide, fun v H4 hv dk6 kp6 => ?_⟩
    obtain ⟨n2, rfl, n20, n21⟩ : ∃ n2 : Int, v = .int n2 ∧ 0 ≤ n2 ∧ n2 ≤ 30 := by
      simp at hv
      rcases hv with z | z | z
      · exact ⟨4, z, by decide, by decide⟩
      · exact ⟨12, z, by decide, by decide⟩
      · exact ⟨30, z, by decide, by decide⟩
    have hy4 := hy3.ex (x5.trans kp6.hs)
    refine ⟨D, A, B, n1, n2, rfl, dk6, n10, n11, n20, n21, fun bd fs ls H5 wb hb0 dk7 kp7 => ?_⟩
    have hy5 := hy4.ex kp7.hs
    clear dk3 x3 l1 l2 l3 kp4 hy3 dk5 x5 kp6 hy4 kp7 dk4 dk6 ni1 ni2 dk2 hy2 hv
    rw [← hsd_no] at hb0
    obtain ⟨F, L, vf, vl, hb1, hb2, hb3, hb4, hb5⟩ := hb0
    have hvf : vf.length = fs.length := hb3.1
    have hvl : vl.length = ls.length := hb5.1
    have hfew := wb.few
    have hone := wb.one
    have hlam := wb.lamps
    -- fuses, lamps, great
    refine ⟨.ref bd, rfl, bd, _, 0, .ref F, rfl, rfl, ex_t ex_hs hb1, atI_nat (j := 0) rfl, .ref bd, rfl, bd, _, 1, .ref L, rfl, rfl, ex_t ex_hs hb1, atI_nat (j := 1) rfl, .ref D, rfl, 1, rfl, (by show 4 ≤ sizeLine; decide), fun i3 ni3 => ?_⟩
    have dk8 := dk7.new (o := .lst [.int 3000, .int 3001, .int (-1), .bl true]) ni3
    have x8 : Ex (hsd D A noS H5) (hsd D A noS (upd H5 i3 (.lst [.int 3000, .int 3001, .int (-1), .bl true]))) := (dk7.no.hidNew ni3).1
    obtain ⟨l1, l2, l3⟩ := dk7.ne ni3
    refine ⟨D, A, B, i3, _, rfl, dk8, upd_same, l1, l2, by simp, by decide, fun g H6 hg dk9 kp9 => ?_⟩
    obtain ⟨dg, hdg, sdg⟩ : ∃ dg : PyData, (∀ H : Hp, Dq K H g dg) ∧ Sv 110 0 dg := by
      simp at hg
      rcases hg with z | z | z | z
      · exact ⟨.int 3000, fun _ => z ▸ .int _, Sv.int (by decide)⟩
      · exact ⟨.int 3001, fun _ => z ▸ .int _, Sv.int (by decide)⟩
      · exact ⟨.int (-1), fun _ => z ▸ .int _, Sv.int (by decide)⟩
      · exact ⟨.bool true, fun _ => z ▸ .bl _, Sv.bl.mono (Nat.zero_le _) (Nat.zero_le _)⟩
    refine ⟨(by show 3 ≤ sizeLine; decide), fun t nt => ?_⟩
    refine ⟨t, _, rfl, SqT.of upd_same, rfl, .ref F, [.ref L, g], rfl, .ref L, [g], rfl, g, [], rfl, rfl, ?_⟩
    have dk10 := dk9.new (o := .tup [.ref F, .ref L, g]) nt
    have x10 : Ex (hsd D A noS H5) (hsd D A noS (upd H6 t (.tup [.ref F, .ref L, g]))) := (x8.trans kp9.hs).trans (dk9.no.hidNew nt).1
    generalize upd H6 t (.tup [.ref F, .ref L, g]) = H7 at dk10 x10 ⊢
    have hyG := hy5.ex x10
    have hB := ex_t x10 hb1
    have hF := ex_t x10 hb2
    have hFd := hb3.dqa
    have hL := ex_t x10 hb4
    have hLd := hb5.dqa
    replace hFd := DqA.ex x10 _ _ hFd
    replace hLd := DqA.ex x10 _ _ hLd
    clear dk8 x8 l1 l2 l3 kp9 hg ni3 nt dk7 hy5 dk9 hb1 hb2 hb3 hb4 hb5 x10 H6 H5 H4 H3 H2
    obtain ⟨G, hG⟩ : ∃ G, hsd D A noS H7 = G := ⟨_, rfl⟩
    rw [hG] at hyG hB hF hFd hL hLd
    have eG : Ex G (hsd D A noS H7) := by rw [hG]; exact Ex.refl _
    have svF := wb.svF
    have svL := wb.svL
    have sF : Sv 540 2 (.tuple (fs.map pairD)) := Sv.tup svF
    have sL : Sv 810 2 (.tuple (ls.map pairD)) := Sv.tup svL
    have sB2 : SvA 1352 2 [.tuple (fs.map pairD), .tuple (ls.map pairD)] := (SvA.cons sF (SvA.cons sL (SvA.nil (k := 0)))).mono (by decide) (by decide)
    have dF : Dq K G (.ref F) (.tuple (fs.map pairD)) := .tup hF hFd
    have dL : Dq K G (.ref L) (.tuple (ls.map pairD)) := .tup hL hLd
    have dB2 : DqA K G [.ref F, .ref L] [.tuple (fs.map pairD), .tuple (ls.map pairD)] := .cons dF (.cons dL .nil)
    have tF : ∀ {S : Hp} {σ : L2.St} {G' : Hp}, σ[4]? = some (some (.ref F)) → Ex G G' → EvQT K D A B S (tVar 4) σ G' 540 1 1 20 := fun h e => qtVar h (ex_t e hF) (DqA.ex e _ _ hFd) svF (by omega) (by omega)
    have tL : ∀ {S : Hp} {σ : L2.St} {G' : Hp}, σ[5]? = some (some (.ref L)) → Ex G G' → EvQT K D A B S (tVar 5) σ G' 810 1 0 30 := fun h e => qtVar h (ex_t e hL) (DqA.ex e _ _ hLd) svL (by omega) (by omega)
    have tB : ∀ {S : Hp} {σ : L2.St} {G' : Hp}, σ[3]? = some (some (.ref bd)) → Ex G G' → EvQT K D A B S (tVar 3) σ G' 1352 2 2 2 := fun h e => qtVar h (ex_t e hB) (DqA.ex e _ _ dB2) sB2 (Nat.le_refl _) (Nat.le_refl _)
    have qF : ∀ {S : Hp} {σ : L2.St} {G' : Hp}, σ[4]? = some (some (.ref F)) → Ex G G' → EvQ K D A B S (tVar 4) σ G' 540 2 := fun h e => qVar h (Dq.ex e _ _ dF) sF
    have qL : ∀ {S : Hp} {σ : L2.St} {G' : Hp}, σ[5]? = some (some (.ref L)) → Ex G G' → EvQ K D A B S (tVar 5) σ G' 810 2 := fun h e => qVar h (Dq.ex e _ _ dL) sL
    have dB : Dq K G (.ref bd) (boardD fs ls) := .tup hB dB2
    have sB : Sv 1352 3 (boardD fs ls) := Sv.tup sB2
    have rG := Ex.refl G
    -- values
    refine vsLst (K := K) (A := A) (B := B) (G := G) ((qaCons (qVar rfl dB sB)
      (qaCons (qT (qtTup (qaCons (qT (qtCat (tF rfl rG) (qtTup (qaCons (qT (qtTup (qaCons qInt (qaCons (qVar rfl (hdg _) sdg) qaNil)))) qaNil)))) (qaCons (qL rfl rG) qaNil))))
      (qaCons (qT (qtTup (qaCons (qT (qtSl (qtRep (m := 21) (tF rfl rG) (puC (i := 21)) rfl (by decide) (by decide) (by decide) (by decide)) puNone (puSome (puC (i := 20))))) (qaCons (qL rfl rG) qaNil))))
      (qaCons (qT (qtTup (qaCons (qT (qtTup qaNil)) (qaCons (qL rfl rG) qaNil)))) qaNil)))).mono (W' := 100000) (k' := 20) (by decide) (by decide)) dk10 eG (by decide) (Nat.le_refl _) (Nat.le_refl _) fun p1 us1 es1 H8 dk11 e11 V1 => ?_
    -- values + [.. for many in [19, 20]]
    refine ⟨.ref p1, rfl, (by show 2 ≤ sizeLine; decide), fun I nI => ?_⟩
    have V2 := V1.ex (dk11.no.hidNew (o := .lst [.int 19, .int 20]) nI).1
    obtain ⟨xI, gI⟩ := dk11.no.hidNew (o := .lst [.int 19, .int 20]) nI
    have dk12 := dk11.new (o := .lst [.int 19, .int 20]) nI
    generalize upd H8 I (.lst [.int 19, .int 20]) = H9 at V2 xI gI dk12 ⊢
    refine ⟨I, rfl, ⟨_, SqL.of (of_hs gI).1⟩, fun q nq => ?_⟩
    refine lc_list (K := K) (a := I) (xs := [.int 19, .int 20]) (fun i H' => ∃ vs ds, Deck D A B H' ∧ Vl K D A B (hsd D A noS H9) q H' vs ds i) ⟨[], [], vNil dk12 nq⟩ ?_ ?_ ?_
    · rintro j H' _ ⟨vs, ds, dk, V⟩
      exact SqL.of (of_hs (V.e _ _ gI)).1
    · rintro j x H' hx ⟨vs, ds, dk, V⟩
      obtain ⟨m, rfl, m1, m2⟩ : ∃ m : Nat, x = .int (m : Int) ∧ 19 ≤ m ∧ m ≤ 20 := by
        have hm := List.mem_of_getElem? hx
        simp at hm
        rcases hm with z | z
        · exact ⟨19, z, by decide, by decide⟩
        · exact ⟨20, z, by decide, by decide⟩
      have e9 := V2.no.trans V.e
      have hl : vs.length < sizeLine := by
        have := V.l
        have := (List.getElem?_eq_some_iff.mp hx).1
        simp at this
        exact small1000 (by omega)
      refine ⟨rfl, yesIf ?_⟩
      refine qRunT (K := K) (D := D) (A := A) (B := B) (S := sg q (.lst vs)) (G := G) (W := 6000) (k := 10) ((qaCons (qT (qtCat (qtTup (qaCons (qT (qtTup (qaCons qNeg (qaCons qInt qaNil)))) qaNil)) (qtRep (m := m) (qtTup (qaCons (qT (qtTup (qaCons qInt (qaCons qInt qaNil)))) qaNil)) (puV (r := 11) rfl) rfl (by decide) (by omega) (by omega) (by decide)) (by omega))) (qaCons (qL rfl rG) qaNil)).mono (W' := 6000) (k' := 10) (by omega) (by omega)) (dk.sg V.g V.n1 V.n2) e9 (by decide) fun v d H4 dk4 e4 hd s => ?_
      exact ⟨vs, dk4.s _ _ (if_pos rfl), hl, _, _, V.push dk4 e4 hd s (by decide) (by decide)⟩
    rintro H10 ⟨vs2, ds2, dk13, V3⟩
    show rCat (.ref p1) (.ref q) H10 _
    refine vJoin (G := G) (V2.ex V3.no) (V3.base (V2.no.trans V3.e)) dk13 (by decide) fun p2 us2 es2 H11 dk14 e14 V4 => ?_
    have hy0 : ∀ {G' : Hp}, Ex G G' → Sys G' := fun e => hyG.ex e
    refine vsCat (K := K) (A := A) (B := B) (G := G) rfl ((qaCons (qT (qtTup (qaCons (qF rfl rG) (qaCons (qT (qtRep (m := 30) (qtTup (qaCons (qT (qtTup (qaCons qInt (qaCons qInt qaNil)))) qaNil)) (puC (i := 30)) rfl (by decide) (by decide) (by decide) (by decide))) qaNil))))
      (qaCons (qT (qtTup (qaCons (qF rfl rG) (qaCons (qT (qtRep (m := 31) (qtTup (qaCons (qT (qtTup (qaCons qInt (qaCons qInt qaNil)))) qaNil)) (puC (i := 31)) rfl (by decide) (by decide) (by decide) (by decide))) qaNil))))
      (qaCons (qT (qtTup (qaCons (qF rfl rG) qaNil))) (qaCons (qOdd (i := 1) rfl hyG) qaNil)))).mono (W' := 100000) (k' := 20) (by decide) (by decide)) V4 dk14 (by decide) (Nat.le_refl _) (Nat.le_refl _) fun p3 us3 es3 H12 dk15 e15 V5 => ?_
    refine vsCat (K := K) (A := A) (B := B) (G := G) rfl ((qaCons (qT (qtTup (qaCons (qF rfl rG) (qaCons (qT (qtTup (qaCons (qT (qtTup (qaCons qInt (qaCons qInt qaNil)))) (qaCons (qT (qtTup (qaCons qInt (qaCons qInt qaNil)))) qaNil)))) qaNil))))
      (qaCons (qT (qtTup (qaCons (qF rfl rG) (qaCons (qT (qtTup (qaCons (qT (qtTup (qaCons (qLen (tF rfl rG)) (qaCons qInt qaNil)))) qaNil))) qaNil))))
      (qaCons (qT (qtTup (qaCons (qF rfl rG) (qaCons (qT (qtTup (qaCons (qT (qtTup (qaCons qInt (qaCons qInt qaNil)))) qaNil))) qaNil))))
      (qaCons (qT (qtRev (tB rfl rG))) qaNil)))).mono (W' := 100000) (k' := 20) (by decide) (by decide)) V5 dk15 (by decide) (Nat.le_refl _) (Nat.le_refl _) fun p4 us4 es4 H13 dk16 e16 V6 => ?_
    refine vsCat (K := K) (A := A) (B := B) (G := G) rfl ((qaCons (qT (qtTup (qaCons (qT (qtCat (tF rfl rG) (qtTup (qaCons (qT (qtTup (qaCons (qLen (tF rfl rG)) (qaCons qInt qaNil)))) qaNil)))) (qaCons (qL rfl rG) qaNil))))
      (qaCons (qT (qtTup (qaCons (qT (qtCat (tF rfl rG) (qtTup (qaCons (qT (qtTup (qaCons qNeg (qaCons qInt qaNil)))) qaNil)))) (qaCons (qL rfl rG) qaNil))))
      (qaCons (qT (qtTup (qaCons (qT (qtTup (qaCons (qT (qtTup (qaCons qInt (qaCons qInt qaNil)))) qaNil))) (qaCons (qL rfl rG) qaNil)))) qaNil))).mono (W' := 100000) (k' := 20) (by decide) (by decide)) V6 dk16 (by decide) (Nat.le_refl _) (Nat.le_refl _) fun p5 us5 es5 H14 dk17 e17 V7 => ?_
    refine vsCat (K := K) (A := A) (B := B) (G := G) rfl ((qaCons (qT (qtCat (tB rfl rG) (qtTup (qaCons (qT (qtTup qaNil)) qaNil))))
      (qaCons (qT (qtTup (qaCons (qList hyG (tF rfl rG)) (qaCons (qL rfl rG) qaNil))))
      (qaCons (qT (qtTup (qaCons (qF rfl rG) (qaCons (qList hyG (tL rfl rG)) qaNil))))
      (qaCons (qList hyG (tB rfl rG)) qaNil)))).mono (W' := 100000) (k' := 20) (by decide) (by decide)) V7 dk17 (by decide) (Nat.le_refl _) (Nat.le_refl _) fun p us6 es6 H15 dk18 e18 V8 => ?_
    clear e11 V1 V2 xI gI dk11 dk12 dk13 V3 e14 V4 dk14 e15 V5 dk15 e16 V6 dk16 e17 V7 dk17 e18 nI nq
    -- for one in [..]
    have y9 := V8.e
    refine seqForLst ?_
    refine qaLst (K := K) (D := D) (A := A) (B := B) (S := sg p (.lst us6)) (G := G) (W := 5000) (k := 10) ((qaCons (qF rfl rG)
      (qaCons (qT (qtCat (tF rfl rG) (qtTup (qaCons (qT (qtTup (qaCons qInt (qaCons qNeg qaNil)))) qaNil))))
      (qaCons (qT (qtTup (qaCons (qT (qtTup (qaCons qInt (qaCons qInt qaNil)))) qaNil)))
      (qaCons (qList hyG (tF rfl rG)) (qaCons (qT (qtTup qaNil)) qaNil))))).mono (W' := 5000) (k' := 10) (by decide) (by decide)) (dk18.sg V8.g V8.n1 V8.n2) V8.e (by decide) fun J xs dxs H16 dk19 e19 gJ _ _ _ hax sax hlx => ?_
    have V9 := V8.step dk19 e19
    have eG2 := V8.e.trans e19
    have dk20 := dk19.d
    refine ⟨J, rfl, ⟨_, SqL.of (of_hs gJ).1⟩, ?_⟩
    obtain ⟨G2, hG2⟩ : ∃ G2, hsd D A (sg p (.lst us6)) H16 = G2 := ⟨_, rfl⟩
    rw [hG2] at V9 eG2 gJ hax
    refine for_list (K := K) (a := J) (xs := xs) (fun j σ H' => ∃ (z8 z9 z10 z11 z12 : Option V) (us : List V) (es : List PyData), σ = [some (.ref a), some (.ref D), some (.int (0 + (i : Int))), some (.ref bd), some (.ref F), some (.ref L), some g, some (.ref p), z8, z9, z10, z11, z12] ∧ Deck D A B H' ∧ Vl K D A B G2 p H' us es (21 + 4 * j))
      ⟨_, _, _, _, _, _, _, rfl, dk20, V9⟩ ?_ ?_ ?_
    · rintro j σ H' _ ⟨_, _, _, _, _, _, _, _, _, V⟩
      exact SqL.of (of_hs (V.e _ _ gJ)).1
    · rintro j x σ H' hx ⟨z8, z9, z10, z11, z12, us, es, rfl, dk, V⟩
      obtain ⟨dx, hd1, hd2⟩ := hax.get j hx
      have sx := sax.sub dx (List.mem_of_getElem? hd1)
      have hj : j < 5 := by
        have := (List.getElem?_eq_some_iff.mp hx).1
        omega
      have rG2 := Ex.refl G2
      show tBM K "list" rExtend (tVar 7) (tCons (tLst _) tNil) _ _ _
      refine vExt (K := K) (D := D) (A := A) (B := B) (G := G2) rfl V dk ((qaCons (qT (qtTup (qaCons (qVar (i := 8) rfl hd2 sx) (qaCons (qList (hy0 eG2) (tL rfl eG2)) qaNil))))
        (qaCons (qT (qtTup (qaCons (qVar (i := 8) rfl hd2 sx) (qaCons (qT (qtRep (m := 31) (qtTup (qaCons (qT (qtTup (qaCons qInt (qaCons qInt qaNil)))) qaNil)) (puC (i := 31)) rfl (by decide) (by decide) (by decide) (by decide))) qaNil))))
        (qaCons (qT (qtTup (qaCons (qVar (i := 8) rfl hd2 sx) (qaCons (qT (qtTup (qaCons (qT (qtTup (qaCons qInt (qaCons qInt qaNil)))) qaNil))) qaNil))))
        (qaCons (qT (qtTup (qaCons (qVar (i := 8) rfl hd2 sx) (qaCons qNon qaNil)))) qaNil)))).mono (W' := 100000) (k' := 20) (by decide) (by decide)) (by omega) (Nat.le_refl _) (Nat.le_refl _) fun us' es' H'' dk' V' => ?_
      exact ⟨_, _, _, _, _, us', es', rfl, dk', V'⟩
    rintro σ H17 ⟨z8, z9, z10, z11, z12, us7, es7, rfl, dk21, V10⟩
    rw [hlx] at V10
    replace V10 := V10.base (eG2.trans V10.e)
    clear V9 eG2 gJ hax sax hG2 dk20 dk19 e19 V8 y9 dk18
    -- values + [bent ..]
    refine ⟨.ref p, rfl, 8, rfl, by decide, by decide, fun q nq => ?_⟩
    refine lc_range (lo := 0) (n := 8) (fun i H' => ∃ vs ds, Deck D A B H' ∧ Vl K D A B (hsd D A noS H17) q H' vs ds i) ⟨[], [], vNil dk21 nq⟩ ?_ ?_
    · rintro j H' hj ⟨vs, ds, dk, V⟩
      have e9 := V10.no.trans V.e
      have hl : vs.length < sizeLine := by
        have := V.l
        exact small1000 (by omega)
      refine ⟨rfl, yesIf ?_⟩
      refine ⟨.ref D, rfl, .ref bd, rfl, D, A, B, sg q (.lst vs), .ref bd, boardD fs ls, 3, 1352, rfl, dk.sg V.g V.n1 V.n2, hy0 e9, Dq.ex e9 _ _ dB, onlyBoard, sB.mono (Nat.le_refl _) (by decide), by decide, by decide, by decide, fun v d H4 dk4 e4 hd s => ?_⟩
      exact ⟨vs, dk4.s _ _ (if_pos rfl), hl, _, _, V.push dk4 e4 hd s (by decide) (by decide)⟩
    rintro H18 ⟨vs2, ds2, dk22, V11⟩
    show rCat (.ref p) (.ref q) H18 _
    refine vJoin (G := G) (V10.ex V11.no) (V11.base (V10.no.trans V11.e)) dk22 (by decide) fun r us es H19 dk23 e19 V12 => ?_
    -- for thing in ..
    refine ⟨r, rfl, ⟨_, SqL.of V12.g⟩, ?_⟩
    have hda := DqA.ex ex_hs _ _ V12.a
    have hsv := V12.s
    have hgr := V12.g
    have hyE := hy0 V12.no
    clear V12 V11 V10 dk22 dk21 nq e19
    refine for_list (K := K) (a := r) (xs := us) (fun j σ H' => ∃ (z8 z9 z10 z11 z12 : Option V), σ = [some (.ref a), some (.ref D), some (.int (0 + (i : Int))), some (.ref bd), some (.ref F), some (.ref L), some g, some (.ref p), z8, z9, z10, z11, z12] ∧ Ex H19 H')
      ⟨_, _, _, _, _, rfl, Ex.refl _⟩ ?_ ?_ ?_
    · rintro j σ H' _ ⟨_, _, _, _, _, _, e⟩
      exact SqL.of (e _ _ hgr)
    · rintro j x σ H' hx ⟨z8, z9, z10, z11, z12, rfl, e⟩
      obtain ⟨dx, hd1, hd2⟩ := hda.get j hx
      have sx := (hsv dx (List.mem_of_getElem? hd1)).mono (W' := 300000) (k' := 60) (by decide) (by decide)
      have d0 := Dq.ex e _ _ hd2
      have ed : ∀ z : Str, (!decide (V.str z = V.str z)) = false := fun z => by
        rw [decide_eq_true rfl]
        rfl
      refine ⟨x, rfl, x, dx, rfl, d0, sx, x, rfl, x, dx, rfl, d0, fun v1 H20 e20 hv1 => ⟨v1, _, rfl, hv1, sv_err _, x, rfl, x, dx, rfl, Dq.ex e20 _ _ d0, fun v2 H21 e21 hv2 => ⟨v2, _, rfl, hv2, sv_err _, rfl, _, rfl, ?_⟩⟩⟩
      rw [ed]
      refine iteF ⟨x, rfl, x, dx, rfl, Dq.ex (e20.trans e21) _ _ d0, sx, .str dx.shown, rfl, rfl, _, rfl, ?_⟩
      rw [ed]
      exact iteF ⟨_, _, _, _, _, rfl, (e.trans e20).trans e21⟩
    rintro σ H20 ⟨z8', z9', z10', z11', z12', rfl, e20⟩
    exact ⟨_, _, _, _, _, _, _, _, _, _, _, rfl, dk23.ex e20, hyE.ex (hsdEx e20)⟩
  · rintro σ H2 ⟨y2, y3, y4, y5, y6, y7, y8, y9, y10, y11, y12, rfl, _⟩
    exact rfl
end
end FF
namespace FF
open PySem PySem.Spec PyProof.Rows L2 Evl
theorem all_mk {l : PySem.W.OpenLaw} {w : World} {K : PySem.W.Frag} {h : Heap} {tMF tML tMD tMO : Tok} {mg : Str → Option Value} {fa fII fIR fIP fBE fFU fLA fDK fDR fPK fWY fBD fLI fOD fBT fLF fLL fLE fLW : Addr} (X : K.In h) (G : h.Ns mainGlobals mg) (hfa : mg "law" = some (.ref fa))
    {odII anII odIR anIR odIP anIP odBE anBE odFU anFU odLA anLA odDK anDK odDR anDR odPK anPK odWY anWY odBD anBD odLI anLI odOD anOD odBT anBT odLF anLF odLL anLL odLE anLE odLW anLW : Option Addr} {slII slIR slIP slBE slFU slLA slDK slDR slPK slWY slBD slLI slOD slBT slLF slLL slLE slLW : Array (Option Value)} {ocII kVII dcII pmII cdII ctII ocIR kVIR dcIR pmIR cdIR ctIR ocIP kVIP dcIP pmIP cdIP ctIP ocBE kVBE dcBE pmBE cdBE ctBE ocFU kVFU dcFU pmFU cdFU ctFU ocLA kVLA dcLA pmLA cdLA ctLA ocDK kVDK dcDK pmDK cdDK ctDK ocDR kVDR dcDR pmDR cdDR ctDR ocPK kVPK dcPK pmPK cdPK ctPK ocWY kVWY dcWY pmWY cdWY ctWY ocBD kVBD dcBD pmBD cdBD ctBD ocLI kVLI dcLI pmLI cdLI ctLI ocOD kVOD dcOD pmOD cdOD ctOD ocBT kVBT dcBT pmBT cdBT ctBT ocLF kVLF dcLF pmLF cdLF ctLF ocLL kVLL dcLL pmLL cdLL ctLL ocLE kVLE dcLE pmLE cdLE ctLE ocLW kVLW dcLW pmLW cdLW ctLW : Value}
    (aII : PySem.W.nsIn K mainGlobals "is_integer" = some (some (.ref fII))) (lII : K.lookup fII = some ⟨ocII, odII, .func (PySem.W.fnOf "is_integer" "is_integer" (defArgs sIsInt) (defBody sIsInt) (defScope sIsInt) .none kVII dcII pmII anII cdII ctII), slII⟩) (cII : PySem.W.codeIn K cdII "is_integer" = true) (kII : PySem.W.keepIn K (.ref fII) = true)
    (aIR : PySem.W.nsIn K mainGlobals "is_row" = some (some (.ref fIR))) (lIR : K.lookup fIR = some ⟨ocIR, odIR, .func (PySem.W.fnOf "is_row" "is_row" (defArgs sIsRow) (defBody sIsRow) (defScope sIsRow) .none kVIR dcIR pmIR anIR cdIR ctIR), slIR⟩) (cIR : PySem.W.codeIn K cdIR "is_row" = true) (kIR : PySem.W.keepIn K (.ref fIR) = true)
    (aIP : PySem.W.nsIn K mainGlobals "is_pair" = some (some (.ref fIP))) (lIP : K.lookup fIP = some ⟨ocIP, odIP, .func (PySem.W.fnOf "is_pair" "is_pair" (defArgs sIsPair) (defBody sIsPair) (defScope sIsPair) .none kVIP dcIP pmIP anIP cdIP ctIP), slIP⟩) (cIP : PySem.W.codeIn K cdIP "is_pair" = true) (kIP : PySem.W.keepIn K (.ref fIP) = true)
    (aBE : PySem.W.nsIn K mainGlobals "board_error" = some (some (.ref fBE))) (lBE : K.lookup fBE = some ⟨ocBE, odBE, .func (PySem.W.fnOf "board_error" "board_error" (defArgs sErr) (defBody sErr) (defScope sErr) .none kVBE dcBE pmBE anBE cdBE ctBE), slBE⟩) (cBE : PySem.W.codeIn K cdBE "board_error" = true) (kBE : PySem.W.keepIn K (.ref fBE) = true)
    (aFU : PySem.W.nsIn K mainGlobals "_is_fuse" = some (some (.ref fFU))) (lFU : K.lookup fFU = some ⟨ocFU, odFU, .func (PySem.W.fnOf "_is_fuse" "_is_fuse" (defArgs sFu) (defBody sFu) (defScope sFu) .none kVFU dcFU pmFU anFU cdFU ctFU), slFU⟩) (cFU : PySem.W.codeIn K cdFU "_is_fuse" = true) (kFU : PySem.W.keepIn K (.ref fFU) = true)
    (aLA : PySem.W.nsIn K mainGlobals "_is_lamp" = some (some (.ref fLA))) (lLA : K.lookup fLA = some ⟨ocLA, odLA, .func (PySem.W.fnOf "_is_lamp" "_is_lamp" (defArgs sLa) (defBody sLa) (defScope sLa) .none kVLA dcLA pmLA anLA cdLA ctLA), slLA⟩) (cLA : PySem.W.codeIn K cdLA "_is_lamp" = true) (kLA : PySem.W.keepIn K (.ref fLA) = true)
    (aDK : PySem.W.nsIn K mainGlobals "_law_deck" = some (some (.ref fDK))) (lDK : K.lookup fDK = some ⟨ocDK, odDK, .func (PySem.W.fnOf "_law_deck" "_law_deck" (defArgs sDeck) (defBody sDeck) (defScope sDeck) .none kVDK dcDK pmDK anDK cdDK ctDK), slDK⟩) (cDK : PySem.W.codeIn K cdDK "_law_deck" = true) (kDK : PySem.W.keepIn K (.ref fDK) = true)
    (aDR : PySem.W.nsIn K mainGlobals "_law_draw" = some (some (.ref fDR))) (lDR : K.lookup fDR = some ⟨ocDR, odDR, .func (PySem.W.fnOf "_law_draw" "_law_draw" (defArgs sDraw) (defBody sDraw) (defScope sDraw) .none kVDR dcDR pmDR anDR cdDR ctDR), slDR⟩) (cDR : PySem.W.codeIn K cdDR "_law_draw" = true) (kDR : PySem.W.keepIn K (.ref fDR) = true)
    (aPK : PySem.W.nsIn K mainGlobals "_law_pick" = some (some (.ref fPK))) (lPK : K.lookup fPK = some ⟨ocPK, odPK, .func (PySem.W.fnOf "_law_pick" "_law_pick" (defArgs sPick) (defBody sPick) (defScope sPick) .none kVPK dcPK pmPK anPK cdPK ctPK), slPK⟩) (cPK : PySem.W.codeIn K cdPK "_law_pick" = true) (kPK : PySem.W.keepIn K (.ref fPK) = true)
    (aWY : PySem.W.nsIn K mainGlobals "_law_way" = some (some (.ref fWY))) (lWY : K.lookup fWY = some ⟨ocWY, odWY, .func (PySem.W.fnOf "_law_way" "_law_way" (defArgs sWay) (defBody sWay) (defScope sWay) .none kVWY dcWY pmWY anWY cdWY ctWY), slWY⟩) (cWY : PySem.W.codeIn K cdWY "_law_way" = true) (kWY : PySem.W.keepIn K (.ref fWY) = true)
    (aBD : PySem.W.nsIn K mainGlobals "_law_board" = some (some (.ref fBD))) (lBD : K.lookup fBD = some ⟨ocBD, odBD, .func (PySem.W.fnOf "_law_board" "_law_board" (defArgs sBoard) (defBody sBoard) (defScope sBoard) .none kVBD dcBD pmBD anBD cdBD ctBD), slBD⟩) (cBD : PySem.W.codeIn K cdBD "_law_board" = true) (kBD : PySem.W.keepIn K (.ref fBD) = true)
    (aLI : PySem.W.nsIn K mainGlobals "_law_is_int" = some (some (.ref fLI))) (lLI : K.lookup fLI = some ⟨ocLI, odLI, .func (PySem.W.fnOf "_law_is_int" "_law_is_int" (defArgs sLInt) (defBody sLInt) (defScope sLInt) .none kVLI dcLI pmLI anLI cdLI ctLI), slLI⟩) (cLI : PySem.W.codeIn K cdLI "_law_is_int" = true) (kLI : PySem.W.keepIn K (.ref fLI) = true)
    (aOD : PySem.W.nsIn K mainGlobals "_law_odd" = some (some (.ref fOD))) (lOD : K.lookup fOD = some ⟨ocOD, odOD, .func (PySem.W.fnOf "_law_odd" "_law_odd" (defArgs sOdd) (defBody sOdd) (defScope sOdd) .none kVOD dcOD pmOD anOD cdOD ctOD), slOD⟩) (cOD : PySem.W.codeIn K cdOD "_law_odd" = true) (kOD : PySem.W.keepIn K (.ref fOD) = true)
    (aBT : PySem.W.nsIn K mainGlobals "_law_bent" = some (some (.ref fBT))) (lBT : K.lookup fBT = some ⟨ocBT, odBT, .func (PySem.W.fnOf "_law_bent" "_law_bent" (defArgs sBent) (defBody sBent) (defScope sBent) .none kVBT dcBT pmBT anBT cdBT ctBT), slBT⟩) (cBT : PySem.W.codeIn K cdBT "_law_bent" = true) (kBT : PySem.W.keepIn K (.ref fBT) = true)
    (aLF : PySem.W.nsIn K mainGlobals "_law_is_fuse" = some (some (.ref fLF))) (lLF : K.lookup fLF = some ⟨ocLF, odLF, .func (PySem.W.fnOf "_law_is_fuse" "_law_is_fuse" (defArgs sLFu) (defBody sLFu) (defScope sLFu) .none kVLF dcLF pmLF anLF cdLF ctLF), slLF⟩) (cLF : PySem.W.codeIn K cdLF "_law_is_fuse" = true) (kLF : PySem.W.keepIn K (.ref fLF) = true)
    (aLL : PySem.W.nsIn K mainGlobals "_law_is_lamp" = some (some (.ref fLL))) (lLL : K.lookup fLL = some ⟨ocLL, odLL, .func (PySem.W.fnOf "_law_is_lamp" "_law_is_lamp" (defArgs sLLa) (defBody sLLa) (defScope sLLa) .none kVLL dcLL pmLL anLL cdLL ctLL), slLL⟩) (cLL : PySem.W.codeIn K cdLL "_law_is_lamp" = true) (kLL : PySem.W.keepIn K (.ref fLL) = true)
    (aLE : PySem.W.nsIn K mainGlobals "_law_board_error" = some (some (.ref fLE))) (lLE : K.lookup fLE = some ⟨ocLE, odLE, .func (PySem.W.fnOf "_law_board_error" "_law_board_error" (defArgs sLErr) (defBody sLErr) (defScope sLErr) .none kVLE dcLE pmLE anLE cdLE ctLE), slLE⟩) (cLE : PySem.W.codeIn K cdLE "_law_board_error" = true) (kLE : PySem.W.keepIn K (.ref fLE) = true)
    (aLW : PySem.W.nsIn K mainGlobals "law" = some (some (.ref fLW))) (lLW : K.lookup fLW = some ⟨ocLW, odLW, .func (PySem.W.fnOf "law" "law" (defArgs sLaw) (defBody sLaw) (defScope sLaw) .none kVLW dcLW pmLW anLW cdLW ctLW), slLW⟩) (cLW : PySem.W.codeIn K cdLW "law" = true) (kLW : PySem.W.keepIn K (.ref fLW) = true)
    (zlen : PySem.W.nsIn K mainGlobals "len" = some none)
    (zrange : PySem.W.nsIn K mainGlobals "range" = some none)
    (ztuple : PySem.W.nsIn K mainGlobals "tuple" = some none)
    (zenumerate : PySem.W.nsIn K mainGlobals "enumerate" = some none)
    (zint : PySem.W.nsIn K mainGlobals "int" = some none)
    (zabs : PySem.W.nsIn K mainGlobals "abs" = some none)
    (zsum : PySem.W.nsIn K mainGlobals "sum" = some none)
    (zmax : PySem.W.nsIn K mainGlobals "max" = some none)
    (zmin : PySem.W.nsIn K mainGlobals "min" = some none)
    (zrepr : PySem.W.nsIn K mainGlobals "repr" = some none)
    (zisinstance : PySem.W.nsIn K mainGlobals "isinstance" = some none)
    (zbool : PySem.W.nsIn K mainGlobals "bool" = some none)
    (zlist : PySem.W.nsIn K mainGlobals "list" = some none)
    (aMF : PySem.W.nsIn K mainGlobals "MAX_FUSES" = some (some (.int 20 tMF)))
    (aML : PySem.W.nsIn K mainGlobals "MAX_LAMPS" = some (some (.int 30 tML)))
    (aMD : PySem.W.nsIn K mainGlobals "MAX_DRAW" = some (some (.int 100 tMD)))
    (aMO : PySem.W.nsIn K mainGlobals "MAX_LOAD" = some (some (.int 3000 tMO)))
    (zsys : K.lookup sysModules = none)
    : ∃ fd : FuncData, K.lookup sysModules = none ∧ Fun K "law" "law" sLaw fa fd ∧ (∀ (s : Shared) (u : Value), BindsTo s fd ⟨[u], []⟩ [("_law_script", u)]) ∧ ∀ base : Heap, K.In base → base.Ns mainGlobals mg → BodyS l.prog w K mg base 8 nLaw sLaw fa := by
  have gMF := PySem.W.mg_of X G aMF
  have gML := PySem.W.mg_of X G aML
  have gMD := PySem.W.mg_of X G aMD
  have gMO := PySem.W.mg_of X G aMO
  have e := hfa.symm.trans (PySem.W.mg_of X G aLW)
  cases e
  have mlen := PySem.W.mg_none_of X G zlen
  have mrange := PySem.W.mg_none_of X G zrange
  have mtuple := PySem.W.mg_none_of X G ztuple
  have menumerate := PySem.W.mg_none_of X G zenumerate
  have mint := PySem.W.mg_none_of X G zint
  have mabs := PySem.W.mg_none_of X G zabs
  have msum := PySem.W.mg_none_of X G zsum
  have mmax := PySem.W.mg_none_of X G zmax
  have mmin := PySem.W.mg_none_of X G zmin
  have mrepr := PySem.W.mg_none_of X G zrepr
  have misinstance := PySem.W.mg_none_of X G zisinstance
  have mbool := PySem.W.mg_none_of X G zbool
  have mlist := PySem.W.mg_none_of X G zlist
  have FII := fun_mk (st := sIsInt) lII cII kII
  have bII := FII.binds (ps := ["value", "least", "most"]) fun _ _ _ _ _ _ us hl => match us, hl with | [_, _, _], _ => rfl
  have mII := PySem.W.mg_of X G aII
  have FIR := fun_mk (st := sIsRow) lIR cIR kIR
  have bIR := FIR.binds (ps := ["value", "least", "most"]) fun _ _ _ _ _ _ us hl => match us, hl with | [_, _, _], _ => rfl
  have mIR := PySem.W.mg_of X G aIR
  have FIP := fun_mk (st := sIsPair) lIP cIP kIP
  have bIP := FIP.binds (ps := ["value"]) fun _ _ _ _ _ _ us hl => match us, hl with | [_], _ => rfl
  have mIP := PySem.W.mg_of X G aIP
  have FBE := fun_mk (st := sErr) lBE cBE kBE
  have bBE := FBE.binds (ps := ["value"]) fun _ _ _ _ _ _ us hl => match us, hl with | [_], _ => rfl
  have mBE := PySem.W.mg_of X G aBE
  have FFU := fun_mk (st := sFu) lFU cFU kFU
  have bFU := FFU.binds (ps := ["item", "index"]) fun _ _ _ _ _ _ us hl => match us, hl with | [_, _], _ => rfl
  have mFU := PySem.W.mg_of X G aFU
  have FLA := fun_mk (st := sLa) lLA cLA kLA
  have bLA := FLA.binds (ps := ["item", "fuse_count"]) fun _ _ _ _ _ _ us hl => match us, hl with | [_, _], _ => rfl
  have mLA := PySem.W.mg_of X G aLA
  have FDK := fun_mk (st := sDeck) lDK cDK kDK
  have bDK := FDK.binds (ps := ["_law_script"]) fun _ _ _ _ _ _ us hl => match us, hl with | [_], _ => rfl
  have mDK := PySem.W.mg_of X G aDK
  have FDR := fun_mk (st := sDraw) lDR cDR kDR
  have bDR := FDR.binds (ps := ["_law_deck_here", "_law_bound"]) fun _ _ _ _ _ _ us hl => match us, hl with | [_, _], _ => rfl
  have mDR := PySem.W.mg_of X G aDR
  have FPK := fun_mk (st := sPick) lPK cPK kPK
  have bPK := FPK.binds (ps := ["_law_deck_here", "_law_items"]) fun _ _ _ _ _ _ us hl => match us, hl with | [_, _], _ => rfl
  have mPK := PySem.W.mg_of X G aPK
  have FWY := fun_mk (st := sWay) lWY cWY kWY
  have bWY := FWY.binds (ps := ["_law_fuses", "_law_fuse"]) fun _ _ _ _ _ _ us hl => match us, hl with | [_, _], _ => rfl
  have mWY := PySem.W.mg_of X G aWY
  have FBD := fun_mk (st := sBoard) lBD cBD kBD
  have bBD := FBD.binds (ps := ["_law_deck_here", "_law_fuses", "_law_lamps"]) fun _ _ _ _ _ _ us hl => match us, hl with | [_, _, _], _ => rfl
  have mBD := PySem.W.mg_of X G aBD
  have FLI := fun_mk (st := sLInt) lLI cLI kLI
  have bLI := FLI.binds (ps := ["_law_thing", "_law_least", "_law_most"]) fun _ _ _ _ _ _ us hl => match us, hl with | [_, _, _], _ => rfl
  have mLI := PySem.W.mg_of X G aLI
  have FOD := fun_mk (st := sOdd) lOD cOD kOD
  have bOD := FOD.binds (ps := ["_law_deck_here"]) fun _ _ _ _ _ _ us hl => match us, hl with | [_], _ => rfl
  have mOD := PySem.W.mg_of X G aOD
  have FBT := fun_mk (st := sBent) lBT cBT kBT
  have bBT := FBT.binds (ps := ["_law_deck_here", "_law_thing", "_law_deep"]) fun _ _ _ _ _ _ us hl => match us, hl with | [_, _, _], _ => rfl
  have mBT := PySem.W.mg_of X G aBT
  have FLF := fun_mk (st := sLFu) lLF cLF kLF
  have bLF := FLF.binds (ps := ["_law_thing", "_law_at"]) fun _ _ _ _ _ _ us hl => match us, hl with | [_, _], _ => rfl
  have mLF := PySem.W.mg_of X G aLF
  have FLL := fun_mk (st := sLLa) lLL cLL kLL
  have bLL := FLL.binds (ps := ["_law_thing", "_law_many"]) fun _ _ _ _ _ _ us hl => match us, hl with | [_, _], _ => rfl
  have mLL := PySem.W.mg_of X G aLL
  have FLE := fun_mk (st := sLErr) lLE cLE kLE
  have bLE := FLE.binds (ps := ["_law_thing"]) fun _ _ _ _ _ _ us hl => match us, hl with | [_], _ => rfl
  have mLE := PySem.W.mg_of X G aLE
  have FLW := fun_mk (st := sLaw) lLW cLW kLW
  refine ⟨_, zsys, FLW, fun s v => .of_eq rfl, fun base _ _ => ?_⟩
  have GDR : FnOk l.prog w K mg base CX0 1 fDR _ ["_law_deck_here", "_law_bound"] spDraw := ok_draw FDR mint mlen
  have GPK : FnOk l.prog w K mg base CX0 2 fPK _ ["_law_deck_here", "_law_items"] spPick := ok_pick FPK GDR bDR mDR kDR mlen
  have GDK : FnOk l.prog w K mg base CX0 1 fDK _ ["_law_script"] (spDeck K) := ok_deck FDK mabs mlen
  have GWY : FnOk l.prog w K mg base CX0 1 fWY _ ["_law_fuses", "_law_fuse"] (spWay K) := ok_way FWY mrange mlen
  have GBD : FnOk l.prog w K mg base CX0 3 fBD _ ["_law_deck_here", "_law_fuses", "_law_lamps"] (spBoard K) :=
    ok_board FBD (GDR.mono (by decide)) bDR mDR kDR GPK bPK mPK kPK (GWY.mono (by decide)) bWY mWY kWY mrange mlen msum mint mmax mmin mtuple
  have GII : FnOk l.prog w K mg base CX0 1 fII _ ["value", "least", "most"] (spIsInt K) := ok_isInt FII misinstance mint mbool
  have GIR : FnOk l.prog w K mg base CX0 1 fIR _ ["value", "least", "most"] (spIsRow K) := ok_isRow FIR misinstance mtuple mlen
  have GIP : FnOk l.prog w K mg base CX0 2 fIP _ ["value"] (spIsPair K) := ok_isPair FIP GIR bIR mIR kIR
  have GFU : FnOk l.prog w K mg base CX0 3 fFU _ ["item", "index"] (spFu K) := ok_fu FFU GIP bIP mIP kIP (GII.mono (by decide)) bII mII kII gMO
  have GLA : FnOk l.prog w K mg base CX0 3 fLA _ ["item", "fuse_count"] (spLa K) := ok_la FLA GIP bIP mIP kIP (GII.mono (by decide)) bII mII kII gMD
  have GBE : FnOk l.prog w K mg base CX0 4 fBE _ ["value"] (spErr K) := ok_err FBE (GIP.mono (by decide)) bIP mIP kIP (GIR.mono (by decide)) bIR mIR kIR GFU bFU mFU kFU GLA bLA mLA kLA gMF gML menumerate mlen
  have GLI : FnOk l.prog w K mg base CX0 1 fLI _ ["_law_thing", "_law_least", "_law_most"] (spIsInt K) := ok_lInt FLI misinstance mint mbool
  have GLF : FnOk l.prog w K mg base CX0 2 fLF _ ["_law_thing", "_law_at"] (spFu K) := ok_lFu FLF GLI bLI mLI kLI misinstance mtuple mlen
  have GLL : FnOk l.prog w K mg base CX0 2 fLL _ ["_law_thing", "_law_many"] (spLa K) := ok_lLa FLL GLI bLI mLI kLI misinstance mtuple mlen
  have GLE : FnOk l.prog w K mg base CX0 3 fLE _ ["_law_thing"] (spErr K) := ok_lErr FLE GLF bLF mLF kLF GLL bLL mLL kLL misinstance mtuple menumerate mlen
  have GOD : FnOk l.prog w K mg base CX0 3 fOD _ ["_law_deck_here"] (spOdd K) := ok_odd FOD GPK bPK mPK kPK
  have GB1 : FnOk l.prog w K mg base CX0 4 fBT _ ["_law_deck_here", "_law_thing", "_law_deep"] (spBent K 1) := ok_bentS FBT bBT mBT ok_bent0 (GDR.mono (by decide)) bDR mDR kDR (GPK.mono (by decide)) bPK mPK kPK (GOD.mono (by decide)) bOD mOD kOD misinstance mtuple mlen mlist
  have GB2 : FnOk l.prog w K mg base CX0 5 fBT _ ["_law_deck_here", "_law_thing", "_law_deep"] (spBent K 2) := ok_bentS FBT bBT mBT GB1 (GDR.mono (by decide)) bDR mDR kDR (GPK.mono (by decide)) bPK mPK kPK (GOD.mono (by decide)) bOD mOD kOD misinstance mtuple mlen mlist
  have GB3 : FnOk l.prog w K mg base CX0 6 fBT _ ["_law_deck_here", "_law_thing", "_law_deep"] (spBent K 3) := ok_bentS FBT bBT mBT GB2 (GDR.mono (by decide)) bDR mDR kDR (GPK.mono (by decide)) bPK mPK kPK (GOD.mono (by decide)) bOD mOD kOD misinstance mtuple mlen mlist
  have GB4 : FnOk l.prog w K mg base CX0 7 fBT _ ["_law_deck_here", "_law_thing", "_law_deep"] (spBent K 4) := ok_bentS FBT bBT mBT GB3 (GDR.mono (by decide)) bDR mDR kDR (GPK.mono (by decide)) bPK mPK kPK (GOD.mono (by decide)) bOD mOD kOD misinstance mtuple mlen mlist
  exact ok_law (GDK.mono (by decide)) bDK mDK kDK (GPK.mono (by decide)) bPK mPK kPK (GBD.mono (by decide)) bBD mBD kBD (GOD.mono (by decide)) bOD mOD kOD (GB4.mono (by decide)) bBT mBT kBT (GBE.mono (by decide)) bBE mBE kBE (GLE.mono (by decide)) bLE mLE kLE mrange mlen mrepr mlist _
end FF
open PySem PySem.W PyProof.Rows
set_option maxRecDepth 100000 in
set_option maxHeartbeats 0 in
theorem PySem.Challenge.cw_firstfuse_k00_what_is_no_board_holds : PySem.Challenge.rw_firstfuse_k00_what_is_no_board.Holds := by
  w_on; o_law; k_head; (case hw => w_witness2)
  k_fill
  refine FF.walkS (l := PySem.Challenge.rw_firstfuse_k00_what_is_no_board) (k := 8) (N := FF.nLaw) (x := "_law_script") (st := FF.sLaw) rfl rfl ⟨rfl, by decide, by decide⟩ FF.scLaw rfl (fun w h Y => PySem.W.kIn_of Y) ?F
  case F =>
    intro w mg fa h KX G hmg
    refine' FF.all_mk KX G hmg ?aII ?lII ?cII ?kII ?aIR ?lIR ?cIR ?kIR ?aIP ?lIP ?cIP ?kIP ?aBE ?lBE ?cBE ?kBE ?aFU ?lFU ?cFU ?kFU ?aLA ?lLA ?cLA ?kLA ?aDK ?lDK ?cDK ?kDK ?aDR ?lDR ?cDR ?kDR ?aPK ?lPK ?cPK ?kPK ?aWY ?lWY ?cWY ?kWY ?aBD ?lBD ?cBD ?kBD ?aLI ?lLI ?cLI ?kLI ?aOD ?lOD ?cOD ?kOD ?aBT ?lBT ?cBT ?kBT ?aLF ?lLF ?cLF ?kLF ?aLL ?lLL ?cLL ?kLL ?aLE ?lLE ?cLE ?kLE ?aLW ?lLW ?cLW ?kLW ?zlen ?zrange ?ztuple ?zenumerate ?zint ?zabs ?zsum ?zmax ?zmin ?zrepr ?zisinstance ?zbool ?zlist ?aMF ?aML ?aMD ?aMO ?zsys
    (case aII => k_is)
    (case lII => k_is)
    (case cII => k_is)
    (case kII => k_is)
    (case aIR => k_is)
    (case lIR => k_is)
    (case cIR => k_is)
    (case kIR => k_is)
    (case aIP => k_is)
    (case lIP => k_is)
    (case cIP => k_is)
    (case kIP => k_is)
    (case aBE => k_is)
    (case lBE => k_is)
    (case cBE => k_is)
    (case kBE => k_is)
    (case aFU => k_is)
    (case lFU => k_is)
    (case cFU => k_is)
    (case kFU => k_is)
    (case aLA => k_is)
    (case lLA => k_is)
    (case cLA => k_is)
    (case kLA => k_is)
    (case aDK => k_is)
    (case lDK => k_is)
    (case cDK => k_is)
    (case kDK => k_is)
    (case aDR => k_is)
    (case lDR => k_is)
    (case cDR => k_is)
    (case kDR => k_is)
    (case aPK => k_is)
    (case lPK => k_is)
    (case cPK => k_is)
    (case kPK => k_is)
    (case aWY => k_is)
    (case lWY => k_is)
    (case cWY => k_is)
    (case kWY => k_is)
    (case aBD => k_is)
    (case lBD => k_is)
    (case cBD => k_is)
    (case kBD => k_is)
    (case aLI => k_is)
    (case lLI => k_is)
    (case cLI => k_is)
    (case kLI => k_is)
    (case aOD => k_is)
    (case lOD => k_is)
    (case cOD => k_is)
    (case kOD => k_is)
    (case aBT => k_is)
    (case lBT => k_is)
    (case cBT => k_is)
    (case kBT => k_is)
    (case aLF => k_is)
    (case lLF => k_is)
    (case cLF => k_is)
    (case kLF => k_is)
    (case aLL => k_is)
    (case lLL => k_is)
    (case cLL => k_is)
    (case kLL => k_is)
    (case aLE => k_is)
    (case lLE => k_is)
    (case cLE => k_is)
    (case kLE => k_is)
    (case aLW => k_is)
    (case lLW => k_is)
    (case cLW => k_is)
    (case kLW => k_is)
    (case zlen => k_is)
    (case zrange => k_is)
    (case ztuple => k_is)
    (case zenumerate => k_is)
    (case zint => k_is)
    (case zabs => k_is)
    (case zsum => k_is)
    (case zmax => k_is)
    (case zmin => k_is)
    (case zrepr => k_is)
    (case zisinstance => k_is)
    (case zbool => k_is)
    (case zlist => k_is)
    (case aMF => k_is)
    (case aML => k_is)
    (case aMD => k_is)
    (case aMO => k_is)
    (case zsys => rfl)
