import PyProof.Rows.All
import Wide.All
import OpenK.AllK
import Wide.FinOn
import KE.KStateDown
import Lean
import HandS.HeadHook3
import HandS.HeadHook4
import HandS.Base
import HandS.Call
import HandS.Ends
import HandS.Lambda
import HandS.EndBits
import HandS.EndTab
import HandS.ForMost
import HandS.More
import HandS.Exc
import HandS.Star
import HandS.ClsMeth
import HandS.MakeKwOnly
import HandS.Style
import HandS.TupAny
import KE.GoesMore
import KE.GoesEnum
import HandS.Words
import HandS.Property
import HandS.Head0
import HandS.Head1
import HandS.Head2
import HandS.HeadEnd
import HandS.HeadHook1
import HandS.HeadHook2
import KE.KExcIs
import PyProof.CallFns
import HandS.ExcInit
import HandS.ExcField
import HandS.IsInst
import HandS.RaiseMore
import HandS.Walk
import HandS.Iter
import HandS.DictComp
import HandS.Codes
import HandS.ForExc
import HandS.WordsExc
import PyProof.NeKinds
import PyProof.EqAt
import KE.KOpsOwn
import HandS.AnyAll
import PyProof.P3Eq
import HandS.FStr
import KE.KOwnIter
import PyProof.TupleIter
import PyProof.WalksMore
import HandS.IterVal
import HandS.OwnIter
import KE.KCallOwn
import PyProof.SliceList
import PyProof.EqKinds
import HandS.TryOnly
import HandS.ExcValue
import HandS.NoneIn
import HandS.Wide
import KE.KDictList
import PyProof.Rows.StrMeet
import PyProof.ReprBulk
import HandS.Set
import HandS.SetFor
import HandS.Strs
import HandS.Text
import HandS.Dict
import PyProof.Rows.FinIter
import PyProof.StrLawsTight
import PyProof.StrLawsChain
import PyProof.Rows.StrItems
import HandS.List
import HandS.StrMore
import PyProof.Rows.StrAscii2
import KE.IntTextLaws
import HandS.Defaults
import PyProof.StrOps2
import PySem.Challenge.RW_nextkind_k15_rules_written_and_read
set_option Elab.async false
set_option linter.all false
set_option maxRecDepth 100000
set_option maxHeartbeats 0
section
/-! Rules for what an own class defines: o[i] by its __getitem__, a def of a class called off the class, a static method, cls(*xs), an object called by a keyword. -/
namespace OwR
open PySem PySem.Spec PyProof.Rows L2
/-- the class at C has the def at g as its special method nm -/
structure Spc (K : PySem.W.Frag) (C g : Addr) (nm : Str) : Prop where
  at_ : PySem.W.findIn K (.ref C) nm = some (some (.ref g))
  fn : PySem.W.isFn K (.ref g) = true
  fi : PySem.W.fnIn K g = true
section
variable {X : Cx} {CX : CXT} {k i : Nat} {C f g p : Addr} {mc : Value} {sp : Sp} {E : XK} {a b o e : Expr} {es : List Expr} {m x : Str} {ta tb te : TE} {t tk : TA} {pos apos q1 q2 : Pos} {pins : List (Addr × Obj)} {σ : L2.St} {H : Hp} {s : Shared}
/-- a promise kept one step further in -/
theorem run_in {Q : VK} {us : List Value} {vs : List V} (F : FnR X.prog X.w X.K X.mg X.base CX k g sp) (hr : Room (k + 1) X.A) (hx : Passes CX X E) (I : Inv X pins σ H s) (r : Vals vs us) (h : sp vs H Q E) :
    wpAny (model X.prog X.w) X.A.in1 (call (.ref g) us) (EP X pins σ Q) X.xe s := by
  refine wpAny_call (codeAny_mono (F X.A.in1 X.stack s H us vs Q E hr.in1 I.env0.in1 r h) fun r s' hq => ?_)
  cases r with
  | error er => exact hx pins σ H s er s' I hq
  | ok fl =>
    cases fl with
    | ret u => exact I.after hq
    | next => exact False.elim hq
    | brk => exact False.elim hq
    | cont => exact False.elim hq
/-! ### o[i] -/
def tItem (C : Addr) (sp : Sp) (E : XK) (ta tb : TE) : TE := fun σ H Q => ta σ H fun x H1 => tb σ H1 fun y H2 => ∃ p dx fs, x = .ref p ∧ H2 p = some (.ins C dx fs) ∧ sp [.ref p, y] H2 Q E
theorem pe_item (c : Spc X.K C g "__getitem__") (F : FnR X.prog X.w X.K X.mg X.base CX k g sp) (hr : Room (k + 1) X.A) (hx : Passes CX X E) (ha : PE X a ta) (hb : PE X b tb)
    (hsl : ∀ (z : Addr) (v : Value), subscripted b true (.ref z) v = runValue (.builtin "lifetime.subscript" ⟨[.ref z, v], []⟩) := by intros; rfl) : PE X (.Subscript a b pos) (tItem C sp E ta tb) := by
  refine ⟨fun pins s σ H Q I h => ?_⟩
  refine Subscript_ (binT ha hb I h fun v u s2 x y H2 I2 rx ry q => ?_)
  obtain ⟨p, dx, fs, ex, ep, hq⟩ := q
  subst ex
  obtain rfl : v = Value.ref p := rx
  obtain ⟨ox, od, J, _⟩ := StX.insC_at I2 (.inr ⟨dx, fs, ep⟩)
  have KI := I2.kIn
  have hfi := c.fi
  unfold PySem.W.fnIn at hfi
  split at hfi
  · rename_i hg
    unfold subscriptTail getitemInPython
    refine wpAny_bind (wpAny_bind (wpAny_bind (J.type.here ((PySem.W.looks_findIn KI c.at_).here ?_))))
    dsimp only
    refine wpAny_bind (wpAny_load (KI _ _ hg) (wpAny_pure ?_))
    dsimp only
    rw [hsl]
    refine wpAny_bind (wpAny_runValue (codeAny_builtin PySem.W.entry_sub ?_))
    unfold Builtin.«lifetime.subscript»
    refine wpAny_bind (PySem.W.special_fn KI J c.at_ (beq_iff_eq.mp c.fn) (wpAny_mono (run_in (us := [Value.ref p, u]) (vs := [V.ref p, y]) F hr hx I2 (.cons rfl (.cons ry .nil)) hq) (fun v' s' z => ?_) fun _ _ z => z))
    refine wpAny_pure ?_
    show wpAny _ X.A (letTemporaryGo a (.ref p) v' >>= fun _ => pure v') _ _ s'
    exact wpAny_bind (wpAny_letTemporaryGo (wpAny_pure z))
  · cases hfi
/-! ### C.m(e, ..), m a plain def of the class -/
structure CFun (K : PySem.W.Frag) (C : Addr) (mc : Value) (m : Str) (g : Addr) : Prop where
  at_ : PySem.W.findCls K (.ref C) mc m = some (.val (.ref g))
  kp : PySem.W.keepIn K (.ref g) = true
def tCFun (C : Addr) (sp : Sp) (E : XK) (ta : TE) (t : TA) : TE := fun σ H Q => ta σ H fun x H1 => x = .ref C ∧ t σ H1 fun vs H2 => sp vs H2 Q E
theorem pe_cfun {pl : Sem Bool} (he : PE X o ta) (r : ClX.CRead X.K C mc) (c : CFun X.K C mc m g) (F : FnR X.prog X.w X.K X.mg X.base CX k g sp) (hr : Room k X.A) (hx : Passes CX X E) (ha : PA X (e :: es) t)
    (hst : starEach (e :: es) X.env = (false, eval e X.env) :: starEach es X.env := by rfl) (hpl : (backTo pos (starEach es X.env)).any (·.1) = false := by rfl)
    (ht : eval (.Call (.Attribute o m apos) (e :: es) [] pos) X.env = (do
      let ov ← eval o X.env
      standAt apos.atName
      let (f, first) ← holding [ov] (getMethod ov m pl)
      callWith pos f first (backTo pos (starEach (e :: es) X.env)) (backToKw pos (keywordEach [] X.env))) := by rfl) :
    PE X (.Call (.Attribute o m apos) (e :: es) [] pos) (tCFun C sp E ta t) := by
  refine ⟨fun pins s σ H Q I h => ?_⟩
  refine PySem.W.methodCall_KW (pl := pl) (thn (he.run pins s σ H _ I h) fun u s1 ⟨x, H1, I1, rx, ex, q⟩ => ?_) ht
  subst ex
  obtain rfl : u = Value.ref C := rx
  refine PySem.W.method_cls I1.kIn r.ga (PySem.W.cls_value I1.kIn r.rd c.at_ rfl ?_)
  refine PySem.W.callWith_K (first := []) (h₀ := X.base) I1.ok.mod.kin c.kp (thn (ha.run pos pins _ σ H1 _ (I1.tok _) q) fun us s2 ⟨vs, H2, I2, rv, q2⟩ => ⟨I2.kIn, ?_⟩) hst hpl
  exact wpAny_call (run_fnR F hr hx I2 rv q2)
/-! ### C.m(), m a static method -/
structure CSta (K : PySem.W.Frag) (C : Addr) (mc : Value) (m : Str) (p g : Addr) : Prop where
  at_ : PySem.W.findCls K (.ref C) mc m = some (.get (.builtin "staticmethod.__get__") (.ref p) .none (.ref C))
  rc : ∃ rest, PySem.W.recIn K p "staticmethod" = some (.ref g :: rest)
  kp : PySem.W.keepIn K (.ref g) = true
theorem pe_csta0 {pl : Sem Bool} (he : PE X o ta) (r : ClX.CRead X.K C mc) (c : CSta X.K C mc m p g) (F : FnR X.prog X.w X.K X.mg X.base CX k g sp) (hr : Room k X.A) (hx : Passes CX X E)
    (ht : eval (.Call (.Attribute o m apos) [] [] pos) X.env = (do
      let ov ← eval o X.env
      standAt apos.atName
      let (f, first) ← holding [ov] (getMethod ov m pl)
      callWith pos f first (backTo pos (starEach [] X.env)) (backToKw pos (keywordEach [] X.env))) := by rfl) :
    PE X (.Call (.Attribute o m apos) [] [] pos) (tCFun C sp E ta tNil) := by
  refine ⟨fun pins s σ H Q I h => ?_⟩
  refine PySem.W.methodCall_KW (pl := pl) (thn (he.run pins s σ H _ I h) fun u s1 ⟨x, H1, I1, rx, ex, q⟩ => ?_) ht
  subst ex
  obtain rfl : u = Value.ref C := rx
  obtain ⟨rest, hrec⟩ := c.rc
  refine PySem.W.method_cls I1.kIn r.ga (PySem.W.cls_bind I1.kIn r.rd c.at_ ?_)
  refine wpAny_call (PySem.W.sm_get (s := { s1 with toks := s1.toks + 1 }) I1.kIn hrec (PySem.W.handed_on rfl ?_))
  have I2 := I1.tok (s1.toks + 1)
  exact PySem.W.callWith_K0 (first := []) I2.kIn c.kp (wpAny_call (run_fnR (us := []) F hr hx I2 .nil q))
/-! ### cls(*xs), cls a slot that holds the class -/
def tMakeLS (K : PySem.W.Frag) (i : Nat) (C : Addr) (sp : Sp) (E : XK) (te : TE) : TE := fun σ H Q => σ[i]? = some (some (.ref C)) ∧ te σ H fun y H1 => ∃ a xs, y = V.ref a ∧ (SqT K H1 a xs ∨ SqL K H1 a xs) ∧
  ∀ z dz, H1 z = none → H1 dz = none → dz ≠ z → sp (V.ref z :: xs) (upd (upd H1 dz (.own z)) z (.ins C dz [])) (fun v H2 => v = .non ∧ Q (.ref z) H2) E
theorem pe_makeLS (M : Mk X.K C f) (F : FnR X.prog X.w X.K X.mg X.base CX k f sp) (hr : Room (k + 1) X.A) (hN : X.N[i]? = some x) (hv : Vis X.env.scope x) (hx : Passes CX X E) (he : PE X e te)
    (hdb : (x == ("__debug__" : Str)) = false := by decide) (hcd : (x == ("__classdict__" : Str)) = false := by decide) (hst : starEach [.Starred e q1] X.env = [(true, eval e X.env)] := by rfl) :
    PE X (.Call (.Name x q2) [.Starred e q1] [] pos) (tMakeLS X.K i C sp E te) := by
  refine ⟨fun pins s σ H Q I h => ?_⟩
  obtain ⟨hs, ht⟩ := h
  refine wpAny_Call_Name_kw (thn ((pe_var (pos := q2) hN hv hdb hcd).run pins s σ H (fun v H1 => v = .ref C ∧ H1 = H) I ⟨.ref C, hs, rfl, rfl⟩) fun u s1 ⟨v, H1, I1, r1, e1⟩ => ?_)
  obtain ⟨rfl, rfl⟩ := e1
  cases r1
  refine PySem.W.callWith_S (h₀ := X.base) (first := []) I1.ok.mod.kin M.kp (thn (he.run pins s1 σ _ _ I1 ht) fun v s2 ⟨y, H2, I2, ry, a, xs, ey, hxs, q⟩ => ?_) hst
  subst ey
  obtain rfl : v = Value.ref a := ry
  exact StX.star_any I2 hxs fun us s3 I3 rv => ⟨I3.kIn, StX.run_makeR M F hr hx I3 rv q⟩
end
end OwR
end
section
namespace OwR
open PySem PySem.Spec PyProof.Rows L2
open AutoSeq1 (wpAny_loadPart')
/-! ### enumerate(t), t a tuple -/
theorem meets_enumT {v : Value} {o : Obj} {G : Heap → Prop} (B : Begins v o G) :
    Meets (Builtin.«enumerate.__new__» ⟨[.type "enumerate", v], []⟩) (fun _ R s => G s.heap ∧
      R (.ok (.ret (.ref (s.heap.push o).objs.size))) { s with heap := (s.heap.push o).push { cls := .type "enumerate", data := .fields #[.none, .bool false, .ref s.heap.objs.size, rawInt 0, .none, .none] } }) :=
  .of_wp fun prog w A R s h => by
    obtain ⟨hp, g, d, tk, os⟩ := s; obtain ⟨h1, h⟩ := h
    have hsub := sub_enumerate
    have start : ∀ {A' : Around} {E : Value → Shared → Prop} {Q : Value → Shared → Prop}, Q (.ref hp.objs.size) ⟨hp.push o, g, d, tk, os⟩ → wpAny (model prog w) A' (pyIter v) Q E ⟨hp, g, d, tk, os⟩ :=
      fun q => B.iter prog w _ _ ⟨hp, g, d, tk, os⟩ _ h1 q
    wp_walk using start
    refine wpAny_stack_any fun st => wpAny_pure ?_
    split
    · rename_i c _ _ _ _ _
      cases (c == Value.type "enumerate")
      all_goals (wp_walk using start; exact ⟨_, rfl, h⟩)
    · wp_walk using start
      exact ⟨_, rfl, h⟩
section
variable {prog : Program} {w : World} {A : Around} {E : Value → Shared → Prop} {s : Shared}
theorem call_enumT {v : Value} {o : Obj} {G : Heap → Prop} {Q : Value → Shared → Prop} (B : Begins v o G) (h1 : G s.heap)
    (h : ∀ h', IsEnum h' (s.heap.objs.size + 1) s.heap.objs.size 0 .none → h'.get? s.heap.objs.size = some o → (∀ b x, s.heap.get? b = some x → h'.get? b = some x) → Q (.ref (s.heap.objs.size + 1)) { s with heap := h' }) :
    wpAny (model prog w) A (call (.type "enumerate") [v]) Q E s := by
  refine callType_new F.called_enumerate (by decide) (F.typeCall_enumerate_1 _) (F.newCall_enumerate_1 _) (fun obj => F.args_object_init_2 obj _) F.entry_enumerate_new (meets_enumT B) ⟨h1, ?_⟩
  have hz : (s.heap.push o).objs.size = s.heap.objs.size + 1 := Heap.size_push ..
  have he := Heap.get?_push_size (s.heap.push o) (o := { cls := .type "enumerate", data := .fields #[.none, .bool false, .ref s.heap.objs.size, rawInt 0, .none, .none] }) rfl
  rw [hz] at he
  show _ ∧ _
  rw [hz]
  exact ⟨⟨_, he, rfl⟩, h _ he (Heap.get?_push_of_some _ (Heap.get?_push_size _ B.free)) fun b x q => Heap.get?_push_of_some _ (Heap.get?_push_of_some _ q)⟩
end
/-- the tuple at a at each turn: its item in a new pair -/
def IteT (K : PySem.W.Frag) (a : Addr) : It :=
  ⟨fun i H => ∃ (xs : List V) (x : V), SqT K H a xs ∧ xs[i]? = some x, fun i H v H' => ∃ T x, v = .ref T ∧ H T = none ∧ H' = upd H T (.tup [.int (i : Nat), x]) ∧ ∀ xs, SqT K H a xs → xs[i]? = some x, fun i H => ∃ xs : List V, SqT K H a xs ∧ xs.length ≤ i⟩
theorem tup_one {X : Cx} {pins : List (Addr × Obj)} {σ : L2.St} {H : Hp} {s : Shared} {a : Addr} {xs ys : List V} (I : Inv X pins σ H s) (h : SqT X.K H a xs) (h' : SqT X.K H a ys) : xs = ys := by
  first | exact I.tup_inj h h' | exact I.tuple_inj h h'
theorem turn_enumT {P : Program} {w : World} {K : PySem.W.Frag} {elts : List Expr} {kk : Nat} {tpos : Pos} (a e it : Addr) (hane : a ≠ it) :
    Turn P w K (.Tuple elts kk tpos) (IteT K a) [e, it] e (fun i h => (∃ old, IsEnum h e it ((i : Nat) : Int) old) ∧ h.IsTupleIter it a i ∧ e ≠ it ∧ a ≠ e) where
  mem := by simp
  obj := fun i h st b hb => by
    obtain ⟨⟨old, he⟩, ⟨o, ho, hc, hd⟩, _⟩ := st
    rcases List.mem_cons.mp hb with z | z
    · rw [z]; exact ⟨_, he, fun v q => nomatch q⟩
    · rw [List.mem_singleton.mp z]; exact ⟨o, ho, fun v q => by rw [hd] at q; cases q⟩
  keep := fun i h h' st k => let ⟨⟨old, he⟩, hi, hne⟩ := st; ⟨⟨old, k e (by simp) _ he⟩, hi.at fun o q => k it (by simp) o q, hne⟩
  item := by
    intro X hP hw hK hc i pins s σ H E I hf st hg
    subst hP hw hK
    obtain ⟨⟨old, he⟩, hit, hne, hae⟩ := st
    obtain ⟨xs, x, hq, hx⟩ := hg
    obtain ⟨its, rv, p, hz⟩ := I.tuple hq
    obtain ⟨u, hu, ru⟩ := rv.get hx
    have hel : e < s.heap.objs.size := Heap.lt_size he
    have hil : it < s.heap.objs.size := by obtain ⟨_, q, _⟩ := hit; exact Heap.lt_size q
    have hlt : i < its.toArray.size := by
      rw [List.size_toArray]
      exact (List.getElem?_eq_some_iff.mp hu).1
    have D : Draws X.prog X.w X.A.in1 it [it, a] its.toArray.size _ _ := Draws.tuple (A := X.A.in1) (show X.A.in1.handled = none from I.ok.hd hc) it a hane its.toArray
    refine wpAny_pyNext_enum_itemD D he ⟨hit, p⟩ hlt hne (by simp [hne, Ne.symm hae]) fun y h' tk hy ho hst hT hsz hk => ?_
    have ey : y = u := by
      have q : its.toArray[i]? = some u := by simpa using hu
      exact Option.some.inj (hy.symm.trans q)
    subst ey
    refine ⟨_, rfl, wpAny_letOwnedTupleGo_enum (s := { s with heap := h', toks := tk + 1 }) ho fun h'' he' sb => ?_⟩
    have hT2 : h''.get? s.heap.objs.size = some { cls := .type "tuple", data := .seq #[.int i tk, y] } := (sb.2 _ (Nat.ne_of_gt hel)).trans hT
    have new : ObjOk X.prog X.w (upd H s.heap.objs.size (.tup [.int (i : Nat), x])) h'' s.heap.objs.size (.tup [.int (i : Nat), x]) :=
      ⟨by show 2 ≤ sizeLine; decide, [.int i tk, y], .cons ⟨_, rfl⟩ (.cons ru .nil), ⟨_, hT2, rfl, _, rfl⟩⟩
    have I1 : Inv X pins σ (upd H s.heap.objs.size (.tup [.int (i : Nat), x])) { s with heap := h'', toks := tk + 1 } :=
      I.turnedNew (ch := [e, it]) (fun b ob hb q => (sb.2 b (fun z => hb (by simp [z]))).trans (hk b ob (fun z => hb (by simp [z])) (fun z => hb (by simp [z])) q)) hf (Nat.le_refl _) new
    refine ⟨.ref s.heap.objs.size, _, I1, rfl, ⟨_, x, rfl, I.hok.fresh (Nat.le_refl _), rfl, fun ys hy' => by rw [tup_one I hy' hq]; exact hx⟩, ⟨⟨y, ?_⟩, hst.1.at fun o q => (sb.2 it (Ne.symm hne)).trans q, hne, hae⟩, fun b hb => ?_⟩
    · have e1 : ((i + 1 : Nat) : Int) = (i : Int) + 1 := by omega
      rw [e1]; exact he'
    · have hb' : b < s.heap.objs.size := by
        rcases List.mem_cons.mp hb with z | z
        · rw [z]; exact hel
        · rw [List.mem_singleton.mp z]; exact hil
      rw [upd_ne (Nat.ne_of_lt hb')]
      exact (hf b hb).1
  done := by
    intro X hP hw hK hc i pins s σ H E I hf st hg
    subst hP hw hK
    obtain ⟨⟨old, he⟩, hit, hne, hae⟩ := st
    obtain ⟨xs, hq, hx⟩ := hg
    obtain ⟨its, rv, p, hz⟩ := I.tuple hq
    obtain ⟨f0, f1, f2, f3, f4, f5⟩ := hf it (by simp)
    have hl := rv.length
    have hgt : its.toArray[i]? = none := by simp; omega
    unfold pyNext
    refine wpAny_bind (wpAny_attempt (wpAny_callSpecial?_slot (name := Str.ofString "__next__") ⟨_, he, rfl⟩ F.slot_enumerate_next
      (wpAny_call_entry F.slot_enumerate_next ⟨_, he, rfl⟩ F.entry_enumerate_next ?_ (F.args_enumerate_next_1 _))))
    show wpAny _ _ (field (.ref e) 2 >>= _) _ _ _
    refine wpAny_bind (wpAny_field he rfl (x := .ref it) rfl ?_)
    refine wpAny_bind (wpAny_nextOf_tuple_end (I.ok.hd hc) hit p hgt fun h' z he' hz' => ?_)
    obtain ⟨o, ho, hcl⟩ := hz'
    refine wpAny_bind (wpAny_isInstance (T := "StopIteration") (b := true) ⟨o, ho, hcl⟩ isSubtype_stop ?_)
    exact wpAny_pure ⟨rfl, I.turned (t' := s.toks) (fun b o hb q => he' b o hb q) f0 f1 f3 f4 f5⟩
  self := fun A i s Q E st h => let ⟨⟨_, he⟩, _⟩ := st; wpAny_pyIter_enum he h
def iEnumT (K : PySem.W.Frag) (ta : TA) : TI := fun σ H R => ta σ H fun vs H1 => ∃ a xs, vs = [.ref a] ∧ SqT K H1 a xs ∧ R (IteT K a) H1
theorem pi_enumT {X : Cx} {e : Expr} {ta : TA} {p pos tpos : Pos} {elts : List Expr} {kk : Nat} (hg : Gl X "enumerate") (hm : X.mg "enumerate" = none) (ha : PA X [e] ta) (hs : starEach [e] X.env = [(false, eval e X.env)] := by rfl) :
    PI X (.Tuple elts kk tpos) (.Call (.Name "enumerate" p) [e] [] pos) (iEnumT X.K ta) := by
  refine ⟨fun pins s σ H R I h => ?_⟩
  refine Call_ (ld_blt I hg hm boot_enumerate (PyProof.Rows.callWith_type1 (thn (ha.run pos pins s σ H _ I h) fun us s1 ⟨vs, H1, I1, r1, q1⟩ => ?_) hs rfl))
  obtain ⟨a, xs, ex, hq, q⟩ := q1
  subst ex
  cases r1 with
  | cons r rr =>
    cases rr
    cases r
    obtain ⟨its, rv, p', hz⟩ := I1.tuple hq
    have hal : a < s1.heap.objs.size := p'.lt
    refine call_enumT (begins_tuple a its.toArray) p' fun h' he hit hk => wpAny_pyIter_enum he ?_
    have I2 : Inv X pins σ H1 { s1 with heap := h' } := I1.kept (t' := s1.toks) hk
    refine ⟨s1.heap.objs.size + 1, [s1.heap.objs.size + 1, s1.heap.objs.size], _, _, H1, rfl, I2, turn_enumT a (s1.heap.objs.size + 1) s1.heap.objs.size (Nat.ne_of_lt hal),
      ⟨⟨.none, he⟩, ⟨_, hit, rfl, rfl⟩, Nat.succ_ne_self _, Nat.ne_of_lt (Nat.lt_succ_of_lt hal)⟩, fun b hb => ?_, q⟩
    have hle : s1.heap.objs.size ≤ b := by
      rcases List.mem_cons.mp hb with z | z
      · rw [z]; exact Nat.le_add_right _ _
      · rw [List.mem_singleton.mp z]; exact Nat.le_refl _
    exact I1.fpOk hle (I1.hok.fresh hle)
end OwR
end
section
namespace OwR
open PySem PySem.Spec PyProof.Rows L2
/-! ### t[::-1], t a tuple -/
theorem places_back (n : Nat) : Builtin.Slice.slicePlaces ((n : Int) - 1) (-1) (-1) = n := by
  unfold Builtin.Slice.slicePlaces
  rw [if_neg (by decide)]
  split
  · have e : ((n : Int) - 1 - -1 - 1) / (- -1) + 1 = (n : Int) := by
      rw [show (- -1 : Int) = 1 by decide, Int.ediv_one]
      omega
    rw [e]
    exact Int.toNat_natCast n
  · rename_i h
    have : n = 0 := by omega
    subst this
    rfl
theorem fm_same {α β : Type} {f g : α → Option β} : ∀ l : List α, (∀ x ∈ l, f x = g x) → l.filterMap f = l.filterMap g
  | [], _ => rfl
  | x :: l, h => by
    rw [List.filterMap_cons, List.filterMap_cons, h x List.mem_cons_self, fm_same l fun y hy => h y (List.mem_cons_of_mem _ hy)]
theorem pick_back (xs : Array Value) : ((List.range xs.size).filterMap fun (m : Nat) => xs[(((xs.size : Int) - 1) + (m : Int) * (-1)).toNat]?) = xs.toList.reverse := by
  rw [← PySem.W.krv_all xs, ← List.filterMap_reverse, ← PySem.W.krv_range, List.filterMap_map]
  refine fm_same _ fun m hm => ?_
  have hlt := List.mem_range.mp hm
  have e : (((xs.size : Int) - 1) + (m : Int) * (-1)).toNat = xs.size - 1 - m := by omega
  rw [e]
  rfl
section
variable {prog : Program} {w : World} {A : Around} {E : Value → Shared → Prop} {s : Shared}
theorem applied_back {sl : Addr} {vl vu vs : Value} {n : Nat} {Q : Int × Int × Nat → Shared → Prop} (hs : s.heap.IsSliceOf sl vl vu vs) (pl : IsPart vl none) (pu : IsPart vu none) (ps : IsPart vs (some (-1)))
    (h : Q ((n : Int) - 1, -1, n) s) : wpAny (model prog w) A (Builtin.Slice.sliceApplied (.ref sl) (pure (n : Int))) Q E s := by
  obtain ⟨os, hos, hcs, hds⟩ := id hs
  unfold Builtin.Slice.sliceApplied Builtin.Slice.sliceFields
  refine wpAny_bind (wpAny_bind (wpAny_field hos hds (x := vl) rfl (wpAny_bind (wpAny_field hos hds (x := vu) rfl (wpAny_bind (wpAny_field hos hds (x := vs) rfl (wpAny_pure ?_)))))))
  refine wpAny_bind (HT.slicePart_ ps ?_)
  show wpAny _ _ (if ((-1 : Int) == 0) = true then _ else _) _ _ s
  rw [if_neg (by decide)]
  refine wpAny_bind (HT.slicePart_ pl (wpAny_bind (HT.slicePart_ pu (wpAny_bind (wpAny_pure ?_)))))
  show wpAny _ _ (pure ((n : Int) - 1, (-1 : Int), Builtin.Slice.slicePlaces ((n : Int) - 1) (-1) (-1))) _ _ s
  rw [places_back]
  exact wpAny_pure h
theorem getTup_back {t sl : Addr} {items : Array Value} {vl vu vs : Value} {Q : Value → Shared → Prop} (ht : IsTup s.heap t items) (hs : s.heap.IsSliceOf sl vl vu vs) (pl : IsPart vl none) (pu : IsPart vu none) (ps : IsPart vs (some (-1)))
    (hsz : items.size ≤ sizeLine) (h : Q (.ref s.heap.objs.size) { s with heap := s.heap.push { cls := .type "tuple", data := .seq items.toList.reverse.toArray } }) : wpAny (model prog w) A (getItem (.ref t) (.ref sl)) Q E s := by
  obtain ⟨os, hos, hcs, hds⟩ := id hs
  have hTs : s.TypeIs (.ref sl) "slice" := ⟨os, hos, hcs⟩
  have hok : sizeOk (.seq items.toList.reverse.toArray) := by
    show items.toList.reverse.toArray.size ≤ sizeLine
    rw [List.size_toArray, List.length_reverse, Array.length_toList]
    exact hsz
  unfold getItem
  try with_reducible refine wpAny_holding ?_
  first | refine wpAny_bind (wpAny_pure ?_) | skip
  refine wpAny_bind (wpAny_sequenceKey ht.typeIs (by decide) ?_)
  refine wpAny_bind (wpAny_callSpecial?_slot (name := Str.ofString "__getitem__") ht.typeIs PyProof.Rows.slot_tuple_getitem
    (wpAny_call_entry PyProof.Rows.slot_tuple_getitem ht.typeIs entry_tuple_getitem ?_ (args_tuple_getitem _ _)))
  show wpAny _ _ (Builtin.Tuple.tupleItemsOf (.ref t) >>= _) _ _ s
  refine wpAny_bind (tupleItemsOf_ ht (wpAny_bind (wpAny_typeOf hTs ?_)))
  rw [if_pos (by decide)]
  refine wpAny_bind (applied_back hs pl pu ps ?_)
  have hno : ¬ ((((items.size : Int) - 1) == 0 && (-1 : Int) == 1 && items.size == items.size) = true) := by
    intro q
    rw [Bool.and_eq_true, Bool.and_eq_true] at q
    exact absurd q.1.2 (by decide)
  show wpAny _ _ (if ((((items.size : Int) - 1) == 0 && (-1 : Int) == 1 && items.size == items.size) = true) then _ else _) _ _ s
  rw [if_neg hno]
  have e := pick_back items
  first
    | (rw [e]; exact wpAny_bind (m := Builtin.Tuple.tupleExact _) (wpAny_newObj_type (wpAny_pure ⟨_, rfl, wpAny_pure h⟩) hok))
    | (rw [e]; exact wpAny_bind (m := Builtin.Tuple.tupleExact _) (wpAny_newObj_type (wpAny_bind (wpAny_pure (wpAny_pure ⟨_, rfl, wpAny_pure h⟩))) hok))
    | (rw [e]; exact wpAny_bind (wpAny_bind (m := Builtin.Tuple.tupleExact _) (wpAny_newObj_type (wpAny_pure (wpAny_pure ⟨_, rfl, wpAny_pure h⟩)) hok)))
    | (rw [e]; exact wpAny_bind (wpAny_bind (m := Builtin.Tuple.tupleExact _) (wpAny_newObj_type (wpAny_pure ⟨_, rfl, wpAny_pure h⟩) hok)))
end
def tRevT (K : PySem.W.Frag) (te : TE) : TE := fun σ H Q => te σ H fun x H1 => ∃ a xs, x = .ref a ∧ SqT K H1 a xs ∧ ∀ p, H1 p = none → Q (.ref p) (upd H1 p (.tup xs.reverse))
theorem pe_revT {X : Cx} {e : Expr} {te : TE} {k : Nat} {p1 p2 p3 pos : Pos} (he : PE X e te) : PE X (.Subscript e (.Slice none none (some (.UnaryOp .USub (.Constant (.int 1) k p1) p2)) p3) pos) (tRevT X.K te) := by
  refine ⟨fun pins s σ H Q I h => ?_⟩
  refine Subscript_ (thn (he.run pins s σ H _ I h) fun v s1 ⟨x, H1, I1, r1, a, xs, ex, hx, q⟩ => ?_)
  subst ex
  cases r1
  have hst : PO X (some (.UnaryOp .USub (.Constant (.int 1) k p1) p2)) (tPart (tUn (rU fun i => .int (-i)) (tC (.int 1)))) := po_some (pe_un un_neg pe_int)
  refine wpAny_Slice (thn (po_none.run pins s1 σ H1 (fun o H2 => o = none ∧ H2 = H1) I1 ⟨rfl, rfl⟩) fun vl s2 ⟨l, H2, I2, pl, el, e2⟩ => ?_)
  subst el e2
  refine thn (po_none.run pins s2 σ H2 (fun o H3 => o = none ∧ H3 = H2) I2 ⟨rfl, rfl⟩) fun vu s3 ⟨u, H3, I3, pu, eu, e3⟩ => ?_
  subst eu e3
  refine thn (hst.run pins s3 σ H3 (fun o H4 => o = some (-1) ∧ H4 = H3) I3 ⟨1, rfl, -1, rfl, rfl, rfl⟩) fun vs s4 ⟨o, H4, I4, ps, eo, e4⟩ => ?_
  subst eo e4
  have I5 : Inv X pins σ H4 { s4 with heap := s4.heap.push { cls := .type "slice", data := .fields #[vl, vu, vs] } } := I4.kept (t' := s4.toks) fun b ob q => Heap.get?_push_of_some _ q
  obtain ⟨its, r, ht, hz⟩ := I5.tuple hx
  have hlen := r.length
  show wpAny (model X.prog X.w) X.A (subscriptTail e (.Slice none none (some (.UnaryOp .USub (.Constant (.int 1) k p1) p2)) p3) (.ref a) (.ref s4.heap.objs.size)) (EP X pins σ Q) X.xe { s4 with heap := s4.heap.push { cls := .type "slice", data := .fields #[vl, vu, vs] } }
  refine tail_any (ops := [.ref a, .ref s4.heap.objs.size]) ht.typeIs (PyProof.Rows.slot_tuple_getitem.lookup) ?_ (by with_unfolding_all rfl)
  refine getTup_back ht (Heap.IsSliceOf.new _ vl vu vs) pl pu ps (by rw [List.size_toArray]; omega) ?_
  refine ⟨.ref _, _, I5.laid (t' := s4.toks) (o := .tup xs.reverse) (fun b ob q => Heap.get?_push_of_some _ q) (Nat.le_refl _) ?_, rfl, q _ (I5.hok.fresh (Nat.le_refl _))⟩
  exact ⟨by rw [List.length_reverse]; exact hz, its.toArray.toList.reverse, r.reverse, ⟨_, Heap.get?_push_size _ rfl, rfl, 0, rfl⟩⟩
end OwR
end
section
namespace OwR
open PySem PySem.Spec PyProof.Rows L2
/-! ### def f(a, .., **d), called without keywords: an empty dict beside -/
section
variable {CX : CXT} {P : Program} {w : World} {K : PySem.W.Frag} {mg : Str → Option Value} {base : Heap} {k : Nat} {f : Addr} {name qual : Str} {params : Arguments} {body : List Stmt} {scope : Scope} {dV kV doc pm cdv ct oc : Value} {an od : Option Addr}
  {osl : Array (Option Value)} {N ps : List Str} {sp : Sp}
theorem fn_kw {pd : Str} (lk : K.lookup f = some ⟨oc, od, .func (PySem.W.fnOf name qual params body scope dV kV doc pm an cdv ct), osl⟩) (hcd : PySem.W.codeIn K cdv qual = true) (S : FnScope N (ps ++ [pd]) scope) (hCX : StX.CXUp CX)
    (hb : ∀ us : List Value, us.length = ps.length → bindArgs (PySem.W.fnOf name qual params body scope dV kV doc pm an cdv ct) ⟨us, []⟩ = ((alloc ({ cls := .type "dict", data := .dict #[] } : Obj) : Sem Addr) >>= fun d => pure (ps.zip us ++ [(pd, Value.ref d)])))
    (hbody : ∀ (A : Around) (outer : List Env) (s : Shared) (H : Hp) (vs : List V) (Q : VK) (E : XK), Room k (A.deeper (envOfC qual scope s.heap.objs.size f cdv)) → sp vs H Q E →
      ∃ t, PSs (cxOf CX P w K mg base N qual scope f cdv A outer s H E) body t ∧ t { nx := fun _ H' => Q .non H', rt := Q } (start N vs) H) :
    FnR P w K mg base CX (k + 1) f (fun vs H Q E => vs.length = ps.length ∧ ∀ d, H d = Option.none → sp (vs ++ [V.ref d]) (upd H d (.dK [])) Q E) := by
  intro A outer s H us vs Q E hr e0 r hsp
  obtain ⟨hl, hq⟩ := hsp
  have hn : H s.heap.objs.size = Option.none := e0.hok.fresh (Nat.le_refl _)
  have hl1 : us.length = ps.length := by rw [← r.length]; exact hl
  refine StX.run_bnd lk hcd S hr e0 (G := fun xs H2 => ∃ d, H d = Option.none ∧ xs = vs ++ [V.ref d] ∧ H2 = upd H d (.dK [])) (fun A' Ex Q' h => ?_) fun s2 H2 xs ⟨d, hd, ex, eH⟩ hr' => ?_
  · rw [hb us hl1]
    refine wpAny_bind (wpAny_alloc (wpAny_pure ?_))
    have e1 := StX.env0_laid (u := .dK []) (o := ({ cls := .type "dict", data := .dict #[] } : Obj)) e0 (dk_empty _ (StX.env0_big e0))
    have un := StX.un_laid (fs := frs outer) (s := s) (o := ({ cls := .type "dict", data := .dict #[] } : Obj)) (u := .dK []) hn
    have z := h _ _ (vs ++ [V.ref s.heap.objs.size]) (us ++ [Value.ref s.heap.objs.size]) e1 un rfl (fun e s' => hCX outer s H _ _ E e s' un (fun b o q => Heap.get?_push_of_some _ q) rfl) (r.append (.cons rfl .nil))
      (by rw [List.length_append, List.length_append, hl] <;> rfl) ⟨_, hn, rfl, rfl⟩
    rw [List.zip_append hl1.symm] at z
    exact z
  · subst ex eH
    exact hbody A outer s2 _ _ Q E hr' (hq d hd)
/-! ### a def called where no guard stands (repr of lists wants that) -/
def FnG (P : Program) (w : World) (K : PySem.W.Frag) (mg : Str → Option Value) (base : Heap) (CX : CXT) (k : Nat) (f : Addr) (fd : FuncData) (ps : List Str) (sp : Sp) : Prop :=
  ∀ (A : Around) (outer : List Env) (s : Shared) (H : Hp) (args : Args) (us : List Value) (vs : List V) (Q : VK) (E : XK), A.guards = some [] → Room k A → Env0 P w K mg base A outer s H → BindsTo s fd args (ps.zip us) → Vals vs us → sp vs H Q E →
    codeAny (model P w) A (.call (.ref f) args) (CR CX outer P w H s Q E) s
theorem fn_ofG (lk : K.lookup f = some ⟨oc, od, .func (PySem.W.fnOf name qual params body scope dV kV doc pm an cdv ct), osl⟩) (hcd : PySem.W.codeIn K cdv qual = true) (S : FnScope N ps scope)
    (len : ∀ vs H Q E, sp vs H Q E → vs.length = ps.length)
    (hbody : ∀ (A : Around) (outer : List Env) (s : Shared) (H : Hp) (vs : List V) (Q : VK) (E : XK), A.guards = some [] → Room k (A.deeper (envOfC qual scope s.heap.objs.size f cdv)) → sp vs H Q E →
      ∃ t, PSs (cxOf CX P w K mg base N qual scope f cdv A outer s H E) body t ∧ t { nx := fun _ H' => Q .non H', rt := Q } (start N vs) H) :
    FnG P w K mg base CX (k + 1) f (PySem.W.fnOf name qual params body scope dV kV doc pm an cdv ct) ps sp := by
  intro A outer s H args us vs Q E hgd hr e0 hb r hsp
  have hl := len _ _ _ _ hsp
  have KS : K.In s.heap := e0.mod.kin.keeps fun b o e => (e0.bs b o e).1
  have lims : s.heap.NoLimit := e0.mod.nolimit.keeps fun b o e => (e0.bs b o e).1
  have kinds : ∀ y ∈ ps.zip us, scope.names.lookup y.1 = some .local ∨ (scope.names.lookup y.1 = some .cell ∧ ((cellsFrom (s.heap.objs.size + 1) scope.names []).lookup y.1).isSome = true) := fun y hy =>
    (S.par y.1 (List.of_mem_zip hy).1).imp id fun q => ⟨q, PySem.W.cellsFrom_some _ _ _ (.inl q)⟩
  refine codeAny_call_function hr.depth (KS _ _ lk) rfl S.co S.gen rfl (PySem.W.codeRec_of KS hcd) (hb _ _ _ _ ?_)
  refine wpAny_newFunctionEnv_cells S.kind kinds fun env he s1 x => ?_
  subst he
  refine ⟨lims.keeps x.toInCall.keep, codeAny_func ?_⟩
  obtain ⟨t, ht, hq⟩ := hbody A outer s H vs Q E hgd (hr.deeper _) hsp
  have I : Inv (cxOf CX P w K mg base N qual scope f cdv A outer s H E) [] (start N vs) H s1 := inv_start S hr.hd e0 hl r x
  refine wpAny_mono (ht.run [] s1 (start N vs) H _ I hq) (fun fl s' hs => ?_) fun _ _ z => z
  have done : ∀ {σ' : L2.St} {H' : Hp} {v : V} {u : Value}, Inv (cxOf CX P w K mg base N qual scope f cdv A outer s H E) [] σ' H' s' → RelV v u → Q v H' → CE outer P w H s Q u s' :=
    fun {σ' H' v u} J rv q => ⟨v, H', J.os, J.bare, J.base, J.hok, rv, q⟩
  cases fl with
  | ret u =>
    obtain ⟨v, σ', H', J, rv, q⟩ := hs
    exact done J rv q
  | next =>
    obtain ⟨σ', H', J, q⟩ := hs
    exact done (v := V.non) (u := Value.none) J rfl q
  | brk => exact (hs.elim fun _ z => z.elim fun _ z => z.2.elim)
  | cont => exact (hs.elim fun _ z => z.elim fun _ z => z.2.elim)
end
/-! ### repr of data -/
def rReprD (K : PySem.W.Frag) : List V → Hp → VK → Prop := fun vs H Q => ∃ a d, vs = [V.ref a] ∧ Dp K H (.ref a) d ∧ d.showable = true ∧ d.hasDict = false ∧ d.depth ≤ 64 ∧ d.shown.length ≤ sizeLine ∧ Q (.str d.shown) H
theorem cr_reprD {X : Cx} (hg : X.A.guards = some []) (hu : X.A.units + 70 < cLine) : CallR X (.builtin "repr") (rReprD X.K) := by
  intro pins s σ H vs us Q I r h
  obtain ⟨a, d, rfl, hd, hs, hnd, hdp, hsz, q⟩ := h
  rw [Vals.ref1 r]
  obtain ⟨as, R⟩ := Dp.reads I d _ (.ref a) hd rfl
  refine repr_of_reads' R hs (fun z => by rw [hnd] at z; cases z) hg (by omega) (fun _ _ e => e) (fun h' u tk k => ?_) hsz
  exact ⟨.str d.shown, H, I.kept (t' := tk) k, ⟨u, rfl⟩, q⟩
/-! ### an object called with keywords alone -/
theorem callOK_of {M : Model} {A : Around} {E : Value → Shared → Prop} {s : Shared} {a : Addr} {pos : Pos} {Q : Value → Shared → Prop} {args : List (Bool × Sem Value)} {kws : List (Option Str × Sem Value)} (hpl : (args.any (·.1) || kws.any (·.1.isNone)) = false)
    (h : wpAny M A (evalArgs (.ref a) true args kws) (fun z s₁ => (∃ C ox od, PySem.W.InstAt s₁.heap a ox C od ∧ ox.data = .plain) ∧ wpAny M A (call (.ref a) ([] ++ z.pos) z.kw) Q E s₁) E s) : wpAny M A (callWith pos (.ref a) [] args kws) Q E s := by
  unfold callWith
  refine wpAny_bind (wpAny_holding (wpAny_mono h (fun z s₂ h₁ => wpAny_bind (wpAny_standAt ?_)) fun _ _ y => y))
  obtain ⟨⟨C, ox, od, J, hd⟩, h₂⟩ := h₁
  have L := PySem.W.kco_keeper (M := M) J hd
  simp only [hpl]
  refine wpAny_bind (L.here ?_)
  have rest : ∀ {t : Sem Value}, wpAny M A t Q E s₂ → wpAny M A (t >>= fun r => holding [r] point >>= fun _ => pure r) Q E s₂ :=
    fun ht => wpAny_bind (wpAny_mono ht (fun _ _ hr => wpAny_bind (wpAny_holding (wpAny_point (wpAny_pure hr)))) fun _ _ y => y)
  exact rest (wpAny_operateT h₂)
section
variable {X : Cx} {CX : CXT} {k : Nat} {C g : Addr} {fd : FuncData} {ps ks : List Str} {sp : Sp} {E : XK} {fe : Expr} {kws : List Keyword} {tf : TE} {tk : TA} {pos : Pos} {gg : List Value → List Value → List Value} {gV : List V → List V → List V}
def tCallOK (X : Cx) (C : Addr) (sp : Sp) (gV : List V → List V → List V) (E : XK) (tf : TE) (tk : TA) : TE := fun σ H Q => tf σ H fun y H1 => ∃ a, y = V.ref a ∧ tk σ H1 fun zs H2 => StX.InsC X H2 a C ∧ sp (gV [V.ref a] zs) H2 Q E
theorem pe_callOK (hf : PE X fe tf) (c : StX.CallO X.K C g) (F : FnOk X.prog X.w X.K X.mg X.base CX k g fd ps sp) (hr : Room k X.A) (hb : KBinds X.K fd ps ks gg gV) (hx : Passes CX X E) (hkw : PK X kws tk)
    (ht : eval (.Call fe [] kws pos) X.env = (do callWith pos (← eval fe X.env) [] (backTo pos (starEach [] X.env)) (backToKw pos (keywordEach kws X.env))) := by rfl)
    (hall : (backToKw pos (keywordEach kws X.env)).all (·.1.isSome) = true := by rfl) (hks : (backToKw pos (keywordEach kws X.env)).filterMap (·.1) = ks := by rfl)
    (hpl : ((backTo pos (starEach [] X.env)).any (·.1) || (backToKw pos (keywordEach kws X.env)).any (·.1.isNone)) = false := by rfl) : PE X (.Call fe [] kws pos) (tCallOK X C sp gV E tf tk) := by
  refine ⟨fun pins s σ H Q I h => ?_⟩
  rw [ht]
  refine wpAny_bind (thn (hf.run pins s σ H _ I h) fun u s1 ⟨y, H1, I1, ry, a, ey, q⟩ => ?_)
  subst ey
  obtain rfl : u = Value.ref a := ry
  refine callOK_of hpl (evalArgs_kw2_nil hall (thn (hkw.run pos pins s1 σ H1 _ I1 q) fun ws s2 ⟨zs, H2, I2, rz, hi, q2⟩ => ?_))
  obtain ⟨ox, od, J, hd⟩ := StX.insC_at I2 hi
  refine ⟨⟨C, ox, od, J, hd⟩, ?_⟩
  rw [hks]
  have r1 : Vals [V.ref a] [Value.ref a] := .cons rfl .nil
  have r2 := hb.rel r1 rz
  have hl : (gg [Value.ref a] ws).length = ps.length := by rw [← r2.length]; exact F.len _ _ _ _ q2
  refine wpAny_call (PySem.W.kco_code I2.kIn J hd c.at_ c.fn c.fi (codeAny_mono (F.run X.A X.stack s2 H2 ⟨[.ref a], ks.zip ws⟩ (gg [.ref a] ws) (gV [.ref a] zs) Q E hr I2.env0 (hb.to s2 [.ref a] ws I2.kIn hl) r2 q2) fun r s' hq => ?_))
  cases r with
  | error e => exact hx pins σ H2 s2 e s' I2 hq
  | ok fl =>
    cases fl with
    | ret u => exact I2.after hq
    | next => exact False.elim hq
    | brk => exact False.elim hq
    | cont => exact False.elim hq
end
end OwR
end
section
/-! Own: a law by a promise that wants no guard about it, where lambdas are made: with the tables of the code that makes them. -/
namespace OwR
open PySem PySem.Spec PyProof.Rows L2
abbrev tabO : Obj := { cls := .none, data := .fields #[] }
/-- what is followed: the script where the written part does not hold it, the tables -/
def scrT (K : PySem.W.Frag) (a : Addr) (ob : Obj) (xs : List V) (ts : List Addr) : Hp := fun b => if b = a then (if K.lookup a = none then some (.frz ob (.lst xs)) else none) else if b ∈ ts then some (.tbl #[]) else none
theorem scrT_cases (K : PySem.W.Frag) (a : Addr) (ob : Obj) (xs : List V) (ts : List Addr) (b : Addr) : scrT K a ob xs ts b = none ∨ (b = a ∧ K.lookup a = none ∧ scrT K a ob xs ts b = some (.frz ob (.lst xs))) ∨ (b ≠ a ∧ b ∈ ts ∧ scrT K a ob xs ts b = some (.tbl #[])) := by
  unfold scrT
  by_cases c : b = a
  · rw [if_pos c]
    by_cases d : K.lookup a = none
    · rw [if_pos d]
      exact .inr (.inl ⟨c, d, rfl⟩)
    · rw [if_neg d]
      exact .inl rfl
  · rw [if_neg c]
    by_cases d : b ∈ ts
    · rw [if_pos d]
      exact .inr (.inr ⟨c, d, rfl⟩)
    · rw [if_neg d]
      exact .inl rfl
theorem law_callTG {P : Program} {w : World} {K : PySem.W.Frag} {mg mb : Str → Option Value} {k : Nat} {fn a : Addr} {cs : List (Addr × Addr)} {fd : FuncData} {x : Str} {sp : Sp} {t : Shared} {us : List Value} {zs : List Int} (hK : K.In t.heap) (hG : t.heap.Ns mainGlobals mg)
    (hB : t.heap.Ns builtinsNs mb) (hBB : ∀ y : Str, y ≠ "__name__" → mb y = bootBuiltins y) (hL : t.heap.NoLimit) (hN : t.gens = #[]) (hO : t.heap.get? a = some ({ cls := .type "list", data := .seq us.toArray } : Obj)) (hI : IntsAre us zs)
    (hT : ∀ e ∈ cs, t.heap.get? e.2 = some tabO) (hX : ∀ e ∈ cs, K.lookup e.2 = none) (hC : ∀ e ∈ cs, PySem.W.CodeHd t.heap e.1 e.2)
    (hM : ∃ (m : Addr) (mo : Obj), mg "__builtins__" = some (.ref m) ∧ m ≠ builtinsNs ∧ t.heap.get? m = some mo ∧ mo.cls = .type "module" ∧ mo.dict = some builtinsNs ∧ mo.data = .plain)
    (hz : zs.length ≤ sizeLine) (hr : Room k callerA) (F : ∀ base : Heap, K.In base → base.Ns mainGlobals mg → (∀ e ∈ cs, LamX.TabB base mg e.1 e.2) → FnG P w K mg base CX0 k fn fd [x] sp) (hb : ∀ (s : Shared) (u : Value), BindsTo s fd ⟨[u], []⟩ [(x, u)])
    (hS : ∀ G : Hp, (∀ e ∈ cs, G e.2 = some (.tbl #[])) → SqL K G a (zs.map V.int) → sp [.ref a] G (fun v _ => v = .bl true) fun _ _ _ => False) :
    codeAny (model P w) callerA (.call (.ref fn) ⟨[.ref a], []⟩) (fun r s' => r = .ok (.ret (.bool true)) ∧ OldK t.heap s'.heap ∧ s'.os = t.os ∧ AllBare s'.gens) t := by
  have rel := vals_ints hI
  have le := hI.length
  obtain ⟨ts, ets⟩ : ∃ ts, ts = cs.map (·.2) := ⟨_, rfl⟩
  have atT : ∀ b, b ∈ ts → t.heap.get? b = some tabO ∧ K.lookup b = none ∧ ∃ e ∈ cs, e.2 = b := fun b hb => by
    rw [ets] at hb
    obtain ⟨e, he, rfl⟩ := List.mem_map.mp hb
    exact ⟨hT e he, hX e he, e, he, rfl⟩
  have inT : ∀ e ∈ cs, e.2 ∈ ts := fun e he => by
    rw [ets]
    exact List.mem_map.mpr ⟨e, he, rfl⟩
  have aT : ∀ e ∈ cs, e.2 ≠ a := fun e he q => by
    have h := hT e he
    rw [q, hO] at h
    cases h
  obtain ⟨G, eG⟩ : ∃ G, G = scrT K a ({ cls := .type "list", data := .seq us.toArray } : Obj) (zs.map V.int) ts := ⟨_, rfl⟩
  have three : ∀ b, G b = none ∨ (b = a ∧ K.lookup a = none ∧ G b = some (.frz { cls := .type "list", data := .seq us.toArray } (.lst (zs.map V.int)))) ∨ (b ≠ a ∧ b ∈ ts ∧ G b = some (.tbl #[])) := fun b => by
    rw [eG]
    exact scrT_cases K a _ _ ts b
  have GT : ∀ e ∈ cs, G e.2 = some (.tbl #[]) := fun e he => by
    rw [eG]
    unfold scrT
    rw [if_neg (aT e he), if_pos (inT e he)]
  have sq : SqL K G a (zs.map V.int) := by
    cases l : K.lookup a with
    | some ob =>
      have e := (hK a ob l).symm.trans hO
      cases e
      exact .inr ⟨_, us.toArray, _, l, rfl, rfl, rfl, by rw [List.size_toArray, le]; exact hz, by simpa using rel⟩
    | none =>
      refine .inl (.inr ⟨({ cls := .type "list", data := .seq us.toArray } : Obj), ?_⟩)
      rw [eG]
      unfold scrT
      rw [if_pos rfl, if_pos l]
  have gone : ∀ {b : Addr} {ob : Obj}, t.heap.get? b = some ob → (∀ vs n, ob.data ≠ .seq vs n) → ob.data ≠ .fields #[] → G b = none := fun {b ob} e nd nf => by
    rcases three b with c | ⟨rfl, _, _⟩ | ⟨_, hb, _⟩
    · exact c
    · rw [hO] at e
      cases e
      exact absurd rfl (nd us.toArray 0)
    · rw [(atT b hb).1] at e
      cases e
      exact absurd rfl nf
  have nsp : ∀ {b : Addr} {m : Str → Option Value}, t.heap.Ns b m → (hidT t.heap G).Ns b m := fun {b m} h => by
    obtain ⟨ob, es, ep, e1, e2, e3⟩ := h
    exact ⟨ob, es, ep, hidT_get e1 (gone e1 (fun vs n q => by rw [e2] at q; cases q) fun q => by rw [e2] at q; cases q), e2, e3⟩
  have kin : K.In (hidT t.heap G) := fun b ob l => hidT_get (hK b ob l) (by
    rcases three b with c | ⟨rfl, c, _⟩ | ⟨_, hb, _⟩
    · exact c
    · rw [c] at l
      cases l
    · rw [(atT b hb).2.1] at l
      cases l)
  have lim : (hidT t.heap G).NoLimit := by
    obtain ⟨mc, h1, h2⟩ := hL
    exact ⟨mc, nsp h1, h2⟩
  have ok : HOk P w G t.heap := fun b u e => by
    rcases three b with c | ⟨rfl, _, c⟩ | ⟨_, hb, c⟩
    · rw [c] at e
      cases e
    · rw [c] at e
      cases e
      exact ⟨hO, by rw [List.length_map]; exact hz, us, _, rel, hO⟩
    · rw [c] at e
      cases e
      exact (atT b hb).1
  have env : Env0 P w K mg (hidT t.heap G) callerA [] t G := { frames := rfl, mod := ⟨kin, nsp hG, ⟨mb, nsp hB, hBB⟩, lim⟩, bs := fun _ _ e => of_hidT e, bsz := Nat.le_of_eq (hidT_size _ _), funs := True.intro, frf := fun _ h => absurd h List.not_mem_nil, hok := ok, bare := .of_eq hN }
  have TB : ∀ e ∈ cs, LamX.TabB (hidT t.heap G) mg e.1 e.2 := fun e he => by
    have hP := hT e he
    constructor
    · obtain ⟨co, cv, fi, tf, fl, tg, nf, tx, tt, q0, q1, q2, q3, q4, q5, q6, q7, q8, q9⟩ := hC e he
      have gc : G e.1 = none := gone q0 (fun vs n q => by rw [q2] at q; cases q) fun q => by
        rw [q2] at q
        cases q
        simp at q3
      exact ⟨co, cv, fi, tf, fl, tg, nf, tx, tt, hidT_get q0 gc, q1, q2, q3, q4, q5, q6, q7, q8, q9⟩
    · obtain ⟨m, mo, b1, b2, b3, b4, b5, b6⟩ := hM
      have n1 : m ≠ mainGlobals := fun q => by
        obtain ⟨o, es, ep, e1, e2, _⟩ := hG
        rw [q, e1] at b3
        cases b3
        rw [e2] at b6
        cases b6
      have n2 : m ≠ e.2 := fun q => by
        rw [q, hP] at b3
        cases b3
        cases b6
      have gm : G m = none := gone b3 (fun vs n q => by rw [b6] at q; cases q) fun q => by
        rw [b6] at q
        cases q
      exact ⟨m, mo, b1, b2, n1, n2, hidT_get b3 gm, b4, b5, b6⟩
    · intro q
      obtain ⟨o, es, ep, e1, e2, _⟩ := hG
      rw [q, hP] at e1
      cases e1
      cases e2
  have run := F (hidT t.heap G) kin (nsp hG) TB callerA [] t G ⟨[.ref a], []⟩ [.ref a] [.ref a] _ _ rfl hr env (hb t (.ref a)) (.cons rfl .nil) (hS G GT sq)
  refine codeAny_mono run fun r s' h => ?_
  match r, h with
  | .error _, h => exact h.elim
  | .ok (.ret u), h =>
    obtain ⟨v, G', os, br, un, ok', rv, qv⟩ := h
    have ev : v = .bl true := qv
    subst ev
    obtain rfl : u = Value.bool true := rv
    have kept : ∀ b ob, b ∉ ts → t.heap.get? b = some ob → s'.heap.get? b = some ob := fun b ob nb e => by
      rcases three b with c | ⟨rfl, _, c⟩ | ⟨_, hb, _⟩
      · exact un.keep b ob e c List.not_mem_nil List.not_mem_nil
      · have e2 := (ok' b _ (un.frzs b _ _ c)).1
        rw [hO] at e
        cases e
        exact e2
      · exact absurd hb nb
    have more : ∀ e ∈ cs, ∃ vs : Array Value, s'.heap.get? e.2 = some ({ cls := .none, data := .fields vs } : Obj) := fun e he => by
      obtain ⟨vs, q⟩ := un.tbls e.2 #[] (GT e he)
      exact ⟨_, ok' e.2 _ q⟩
    refine ⟨rfl, ⟨fun b ob e => ?_, fun b ob e => ?_⟩, os, br⟩
    · by_cases hb : b ∈ ts
      · obtain ⟨et, _, q, hq, rfl⟩ := atT b hb
        obtain ⟨vs, em⟩ := more q hq
        rw [et] at e
        cases e
        exact .inr (.inl ⟨((hC q hq).tab et).isCodeTable, rfl, #[], vs, rfl, by rw [Array.empty_append]; exact em⟩)
      · exact .inl (kept b ob hb e)
    · by_cases hb : b ∈ ts
      · obtain ⟨_, _, q, hq, rfl⟩ := atT b hb
        obtain ⟨vs, em⟩ := more q hq
        exact ⟨_, em⟩
      · exact ⟨ob, kept b ob hb e⟩
/-- .. as the end of a law over a head by facts -/
theorem walk_ofTG {l : PySem.W.OpenLaw} {n k : Nat} {q : Program} {loose : List Str} {XP : (Str → Option Value) → Heap → Prop} {YP : World → Heap → Prop} {d : DefRec} {x : Str} (most : l.most = some n) (small : n ≤ sizeLine) (nodf : d.params.defaults = []) (room : Room k callerA)
    (F : ∀ (w : World) (mg : Str → Option Value) (fn : Addr) (h : Heap), YP w h → h.Ns mainGlobals mg → mg d.name = some (.ref fn) → ∃ (K : PySem.W.Frag) (fd : FuncData) (cs : List (Addr × Addr)) (sp : Sp), K.In h ∧ (∀ e ∈ cs, h.get? e.2 = some tabO) ∧ (∀ e ∈ cs, K.lookup e.2 = none) ∧ (∀ e ∈ cs, PySem.W.CodeHd h e.1 e.2) ∧
      (∀ (s : Shared) (u : Value), BindsTo s fd ⟨[u], []⟩ [(x, u)]) ∧ (∀ (G : Hp) (a : Addr) (zs : List Int), zs.length ≤ n → (∀ e ∈ cs, G e.2 = some (.tbl #[])) → SqL K G a (zs.map V.int) → sp [.ref a] G (fun v _ => v = .bl true) fun _ _ _ => False) ∧
      ∀ base : Heap, K.In base → base.Ns mainGlobals mg → (∀ e ∈ cs, LamX.TabB base mg e.1 e.2) → FnG l.prog w K mg base CX0 k fn fd [x] sp) :
    PySem.W.WalkO q loose XP YP l.row.toRowW d [] (fun f vs => PySem.call f vs) := by
  refine Att.attach_callB most nodf fun w s0 t mg mb fn o pm cd doc a us zs G Y _ _ _ hmg hO hI hz _ hN => ?_
  obtain ⟨K, fd, cs, sp, hK, hT, hX, hC, hb, hS, hF⟩ := F w mg fn _ Y G.T.g hmg
  exact law_callTG hK G.T.g G.T.b G.T.builtins G.T.nolimit hN hO hI hT hX hC G.T.bmain (Nat.le_trans hz small) room hF hb fun G' g sq => hS G' a zs hz g sq
end OwR
end
section
/-! What the end of the top says of named classes, of the records in them and of their defs. Own. -/
namespace OwH
open PySem PySem.Spec PyProof.Rows L2
/-- the def within a record (a class method, a static one, a property) -/
def inRec (K : PySem.W.Frag) (p : Addr) (kind : String) : Addr := match PySem.W.recIn K p kind with
  | some (.ref g :: _) => g
  | _ => 0
def recOk (K : PySem.W.Frag) (p : Addr) (kind : String) : Bool := match PySem.W.recIn K p kind with
  | some (.ref _ :: _) => true
  | _ => false
theorem recOk_ok {K : PySem.W.Frag} {p : Addr} {kind : String} (h : recOk K p kind = true) : ∃ rest, PySem.W.recIn K p kind = some (.ref (inRec K p kind) :: rest) := by
  unfold recOk at h
  unfold inRec
  cases e : PySem.W.recIn K p kind with
  | none =>
    rw [e] at h
    cases h
  | some l =>
    rw [e] at h
    match l, h with
    | .ref g :: r, _ => exact ⟨r, rfl⟩
def getB (x : Option PySem.W.CFound) (id : String) (p C : Addr) : Bool := match x with
  | some (.get (.builtin i) (.ref q) .none (.ref D)) => decide (i = id) && (decide (q = p) && decide (D = C))
  | _ => false
theorem getB_ok {x : Option PySem.W.CFound} {id : String} {p C : Addr} (h : getB x id p C = true) : x = some (.get (.builtin id) (.ref p) .none (.ref C)) := by
  unfold getB at h
  split at h
  · obtain ⟨h1, h2⟩ := Bool.and_eq_true_iff.mp h
    obtain ⟨h3, h4⟩ := Bool.and_eq_true_iff.mp h2
    rw [of_decide_eq_true h1, of_decide_eq_true h3, of_decide_eq_true h4]
  · cases h
def valB (x : Option PySem.W.CFound) (g : Addr) : Bool := match x with
  | some (.val (.ref q)) => decide (q = g)
  | _ => false
theorem valB_ok {x : Option PySem.W.CFound} {g : Addr} (h : valB x g = true) : x = some (.val (.ref g)) := by
  unfold valB at h
  split at h
  · rw [of_decide_eq_true h]
  · cases h
abbrev ga := He.ga
/-- what the class named x holds under m -/
def mo (K : PySem.W.Frag) (x m : Str) : Addr := He.ma K (ga K x) m
def fRead (x : Str) (K : PySem.W.Frag) : Bool := PySem.W.readsIn K (ga K x) (.type "type") && He.eqO (PySem.W.specialIn K (.ref (ga K x)) "__getattribute__") (some (some (.builtin "type.__getattribute__")))
def fCMet (x m : Str) (K : PySem.W.Frag) : Bool := getB (PySem.W.findCls K (.ref (ga K x)) (.type "type") m) "classmethod.__get__" (mo K x m) (ga K x) && (recOk K (mo K x m) "classmethod" && PySem.W.fnIn K (inRec K (mo K x m) "classmethod"))
def fCSta (x m : Str) (K : PySem.W.Frag) : Bool := getB (PySem.W.findCls K (.ref (ga K x)) (.type "type") m) "staticmethod.__get__" (mo K x m) (ga K x) && (recOk K (mo K x m) "staticmethod" && PySem.W.keepIn K (.ref (inRec K (mo K x m) "staticmethod")))
def fCFun (x m : Str) (K : PySem.W.Frag) : Bool := valB (PySem.W.findCls K (.ref (ga K x)) (.type "type") m) (mo K x m) && PySem.W.keepIn K (.ref (mo K x m))
def fSpc (x m : Str) (K : PySem.W.Frag) : Bool := He.eqO (PySem.W.findIn K (.ref (ga K x)) m) (some (some (.ref (mo K x m)))) && (PySem.W.isFn K (.ref (mo K x m)) && PySem.W.fnIn K (mo K x m))
def fProp (x m : Str) (K : PySem.W.Frag) : Bool := He.eqO (PySem.W.findIn K (.ref (ga K x)) m) (some (some (.ref (mo K x m)))) && (He.eqO (PySem.W.specialIn K (.ref (mo K x m)) "__get__") (some (some (.builtin "property.__get__"))) && (decide (PySem.W.takesIn K (.ref (mo K x m)) = some true) && recOk K (mo K x m) "property"))
section
variable {K : PySem.W.Frag} {x m : Str}
theorem two {a b : Bool} (h : (a && b) = true) : a = true ∧ b = true := Bool.and_eq_true_iff.mp h
theorem read_ok (h : fRead x K = true) : ClX.CRead K (ga K x) (.type "type") := ⟨(two h).1, He.eqO_ok (two h).2⟩
theorem cmet_ok (h : fCMet x m K = true) : ClX.CMet K (ga K x) (.type "type") m (mo K x m) (inRec K (mo K x m) "classmethod") := ⟨getB_ok (two h).1, recOk_ok (two (two h).2).1, (two (two h).2).2⟩
theorem csta_ok (h : fCSta x m K = true) : OwR.CSta K (ga K x) (.type "type") m (mo K x m) (inRec K (mo K x m) "staticmethod") := ⟨getB_ok (two h).1, recOk_ok (two (two h).2).1, (two (two h).2).2⟩
theorem cfun_ok (h : fCFun x m K = true) : OwR.CFun K (ga K x) (.type "type") m (mo K x m) := ⟨valB_ok (two h).1, (two h).2⟩
theorem spc_ok (h : fSpc x m K = true) : OwR.Spc K (ga K x) (mo K x m) m := ⟨He.eqO_ok (two h).1, (two (two h).2).1, (two (two h).2).2⟩
theorem callo_ok (h : fSpc x "__call__" K = true) : StX.CallO K (ga K x) (mo K x "__call__") := ⟨He.eqO_ok (two h).1, (two (two h).2).1, (two (two h).2).2⟩
theorem prop_ok (h : fProp x m K = true) : PropOf K (ga K x) m (mo K x m) (inRec K (mo K x m) "property") := ⟨He.eqO_ok (two h).1, He.eqO_ok (two (two h).2).1, of_decide_eq_true (two (two (two h).2).2).1, recOk_ok (two (two (two h).2).2).2⟩
end
/-! ### defs -/
structure DX where
  adr : PySem.W.Frag → Addr
  name : Str
  qual : Str
  st : Stmt
  dfl : List He.Dv
abbrev FX : Type := Option (Str × Str × Arguments × FuncBody × Scope × Addr × List (Str × Addr) × Value × Addr)
/-- a def; its defaults, where none stand (else they are asked by dflB) -/
def seeF (K : PySem.W.Frag) (a : Addr) (b : Bool) : FX := match K.lookup a with
  | some ⟨_, _, .func fd, _⟩ => some (fd.name, fd.qualname, fd.params, fd.body, fd.scope, fd.globals, fd.closure, (match b with | true => fd.defaults | false => .none), fd.builtins)
  | _ => none
def dflF (K : PySem.W.Frag) (a : Addr) (ds : List He.Dv) : Bool := match ds with
  | [] => true
  | d :: r => (match K.lookup a with
    | some ⟨_, _, .func fd, _⟩ => He.dflB K fd.defaults ((d :: r).map (He.Dv.v K))
    | _ => false)
def codB (K : PySem.W.Frag) (a : Addr) (qual : Str) : Bool := PySem.W.keepIn K (.ref a) && (match K.lookup a with
  | some ⟨_, _, .func fd, _⟩ => PySem.W.codeIn K fd.code qual
  | _ => false)
def DX.val (d : DX) : FX := some (d.name, d.qual, defArgs d.st, .stmts (defBody d.st), defScope d.st, mainGlobals, [], .none, builtinsNs)
def DX.see (K : PySem.W.Frag) (d : DX) : FX := seeF K (d.adr K) d.dfl.isEmpty
def DX.okB (K : PySem.W.Frag) (d : DX) : Bool := codB K (d.adr K) d.qual && dflF K (d.adr K) d.dfl
theorem DX.funD_ {K : PySem.W.Frag} {d : DX} (hd : d.dfl ≠ []) (h1 : d.see K = d.val) (h0 : d.okB K = true) : ∃ fd, FunD K d.name d.qual (defArgs d.st) (defBody d.st) (defScope d.st) (d.dfl.map (He.Dv.v K)) [] (d.adr K) fd := by
  obtain ⟨h2, hf⟩ := two h0
  obtain ⟨kp, cd⟩ := two h2
  unfold DX.see seeF at h1
  unfold dflF at hf
  rw [show d.dfl.isEmpty = false by cases hq : d.dfl <;> first | exact absurd hq hd | rfl] at h1
  cases hdl : d.dfl with
  | nil => exact absurd hdl hd
  | cons x r =>
    rw [hdl] at hf
    cases l : K.lookup (d.adr K) with
    | none =>
      rw [l] at cd
      cases cd
    | some ob =>
      obtain ⟨oc, od, dt, osl⟩ := ob
      dsimp only at hf
      rw [l] at h1 cd hf
      match dt, h1, cd, hf with
      | .func f, h1, cd, hf =>
        obtain ⟨a1, a2, a3, a4, a5, a6, a7, a8, a9, a10, a11, a12, a13, a14, a15⟩ := f
        have e : (some (a1, a2, a3, a4, a5, a6, a7, (.none : Value), a15) : FX) = some (d.name, d.qual, defArgs d.st, .stmts (defBody d.st), defScope d.st, mainGlobals, [], .none, builtinsNs) := h1
        injection e with e
        injection e with e1 e
        injection e with e2 e
        injection e with e3 e
        injection e with e4 e
        injection e with e5 e
        injection e with e6 e
        injection e with e7 e
        injection e with e8 e9
        subst e1 e2 e3 e4 e5 e6 e7 e9
        exact ⟨_, ⟨⟨oc, od, a8, a9, a10, a11, a12, a13, a14, osl, rfl, l, cd, He.dflB_ok hf, .inl rfl⟩, kp⟩⟩
theorem DX.fun_ {K : PySem.W.Frag} {d : DX} (hd : d.dfl = []) (h1 : d.see K = d.val) (h0 : d.okB K = true) : ∃ fd, Fun K d.name d.qual d.st (d.adr K) fd := by
  obtain ⟨h2, _⟩ := two h0
  obtain ⟨kp, cd⟩ := two h2
  unfold DX.see at h1
  rw [hd] at h1
  unfold seeF at h1
  cases l : K.lookup (d.adr K) with
  | none =>
    rw [l] at cd
    cases cd
  | some ob =>
    obtain ⟨oc, od, dt, osl⟩ := ob
    rw [l] at h1 cd
    match dt, h1, cd with
    | .func f, h1, cd =>
      obtain ⟨a1, a2, a3, a4, a5, a6, a7, a8, a9, a10, a11, a12, a13, a14, a15⟩ := f
      have e : (some (a1, a2, a3, a4, a5, a6, a7, a8, a15) : FX) = some (d.name, d.qual, defArgs d.st, .stmts (defBody d.st), defScope d.st, mainGlobals, [], .none, builtinsNs) := h1
      injection e with e
      injection e with e1 e
      injection e with e2 e
      injection e with e3 e
      injection e with e4 e
      injection e with e5 e
      injection e with e6 e
      injection e with e7 e
      injection e with e8 e9
      subst e1 e2 e3 e4 e5 e6 e7 e8 e9
      exact ⟨_, ⟨⟨oc, od, a9, a10, a11, a12, a13, a14, osl, rfl, l, cd⟩, kp⟩⟩
/-! ### the hook -/
abbrev AX : Type := Bool × List FX
def seeX (fa : List (PySem.W.Frag → Bool)) (fn : List DX) (K : PySem.W.Frag) : AX := ((fa.all fun f => f K) && fn.all fun d => d.okB K, fn.map fun d => d.see K)
def wantX (fn : List DX) : AX := (true, fn.map DX.val)
def placesX (xs : List Str) (g : Addr → Option Obj) : Nat → List Addr
  | 0 => (xs.map (ga (He.frG g [mainGlobals])))
  | n + 1 => He.growD g (placesX xs g n)
def partX (xs : List Str) (g : Addr → Option Obj) : PySem.W.Frag := He.frG g (mainGlobals :: PySem.cStatics :: placesX xs g 4)
def hookX (xs : List Str) (fa : List (PySem.W.Frag → Bool)) (fn : List DX) : PySem.W.Hook where
  α := AX
  obs := fun s => seeX fa fn (partX xs s.heap.get?)
  val := fun _ => wantX fn
  says := fun _ h => ∃ K : PySem.W.Frag, K.In h ∧ seeX fa fn K = wantX fn
  of := fun _ _ e => ⟨partX xs _, He.frG_in, e⟩
  keeps := fun _ _ _ p k => match p with
    | ⟨K, hK, c⟩ => ⟨K, PySem.W.Frag.In.keeps hK k, c⟩
theorem seeX_eq {xs : List Str} {fa : List (PySem.W.Frag → Bool)} {fn : List DX} {g : Addr → Option Obj} {s : Shared} (h : ∀ a, g a = s.heap.get? a) : seeX fa fn (partX xs g) = (hookX xs fa fn).obs s := by
  have e : g = s.heap.get? := funext h
  subst e
  rfl
section
variable {fa : List (PySem.W.Frag → Bool)} {fn : List DX} {K : PySem.W.Frag}
theorem fact (c : seeX fa fn K = wantX fn) (i : Nat) {f : PySem.W.Frag → Bool} (h : fa[i]? = some f := by rfl) : f K = true :=
  List.all_eq_true.mp (two (congrArg Prod.fst c)).1 f (List.mem_of_getElem? h)
theorem def_ (c : seeX fa fn K = wantX fn) (i : Nat) {d : DX} (h : fn[i]? = some d := by rfl) (hd : d.dfl = [] := by rfl) : ∃ fd, Fun K d.name d.qual d.st (d.adr K) fd := by
  have h2 : d.okB K = true := List.all_eq_true.mp (two (congrArg Prod.fst c)).2 d (List.mem_of_getElem? h)
  have h3 : (fn.map fun d => d.see K)[i]? = (fn.map DX.val)[i]? := congrArg (fun z : AX => z.2[i]?) c
  rw [List.getElem?_map, List.getElem?_map, h] at h3
  exact DX.fun_ hd (Option.some.inj h3) h2
/-- a def with defaults -/
theorem defD_ (c : seeX fa fn K = wantX fn) (i : Nat) {d : DX} (h : fn[i]? = some d := by rfl) (hd : d.dfl ≠ [] := by simp) : ∃ fd, FunD K d.name d.qual (defArgs d.st) (defBody d.st) (defScope d.st) (d.dfl.map (He.Dv.v K)) [] (d.adr K) fd := by
  have h2 : d.okB K = true := List.all_eq_true.mp (two (congrArg Prod.fst c)).2 d (List.mem_of_getElem? h)
  have h3 : (fn.map fun d => d.see K)[i]? = (fn.map DX.val)[i]? := congrArg (fun z : AX => z.2[i]?) c
  rw [List.getElem?_map, List.getElem?_map, h] at h3
  exact DX.funD_ hd (Option.some.inj h3) h2
end
end OwH
end
section
/-! Own: what a value's repr is; a caught error's class and fields. -/
namespace OwE
open PySem PySem.Spec PyProof.Rows L2
inductive RepV (K : PySem.W.Frag) (H : Hp) : V → Str → Prop where
  | non : RepV K H .non "None"
  | bl (b : Bool) : RepV K H (.bl b) (if b then "True" else "False")
  | int {i : Int} (h : i.natAbs.log2 < 1920) : RepV K H (.int i) (toString i)
  | str {z : Str} (h : (reprText z).length ≤ sizeLine) : RepV K H (.str z) (reprText z)
  | dat {a : Addr} {d : PyData} (h : Dp K H (.ref a) d) (hs : d.showable = true) (hn : d.hasDict = false) (hd : d.depth ≤ 64) (hz : d.shown.length ≤ sizeLine) : RepV K H (.ref a) d.shown
  | dic {a : Addr} (h : H a = some (.dK [])) : RepV K H (.ref a) (PyData.dict []).shown
def rRepr (K : PySem.W.Frag) : List V → Hp → VK → Prop := fun xs H Q => ∃ v r, xs = [v] ∧ RepV K H v r ∧ Q (.str r) H
theorem empty_reads {P : Program} {w : World} {H : Hp} {h : Heap} {a : Addr} (ok : HOk P w H h) (e : H a = some (.dK [])) : Reads h (.ref a) (.dict []) ([a] ++ []) ∧ a ≠ sysModules := by
  obtain ⟨_, ns, vs, kv, o, es, ep, h1, h2, h3, h4⟩ := (show ObjOk P w H h a (.dK []) from ok a _ e)
  refine ⟨?_, fun q => by rw [q] at ns; simp at ns⟩
  have ev : vs = [] := by
    cases kv
    rfl
  subst ev
  have ee : es.toList = [] := by
    have p := h4.2.1
    generalize es.toList = l at p
    cases p
    rfl
  exact Reads.dict h1 h2.1 h3 (by rw [ee]; exact .nil) (by rw [ee]; exact .nil)
theorem cr_repr {X : Cx} (hg : X.A.guards = some []) (hu : X.A.units + 70 < cLine) : CallR X (.builtin "repr") (rRepr X.K) := by
  intro pins s σ H xs us Q I r h
  obtain ⟨v, t, rfl, rep, q⟩ := h
  obtain ⟨u, rfl, rx⟩ := vals1 r
  cases rep with
  | non =>
    cases (show u = Value.none from rx)
    exact PySem.P.repr_of_none ⟨.str _, H, I.tok _, ⟨_, rfl⟩, q⟩
  | bl b =>
    cases (show u = Value.bool b from rx)
    exact PySem.P.repr_of_bool ⟨.str _, H, I.tok _, ⟨_, rfl⟩, q⟩
  | @int i hz =>
    obtain ⟨t, rfl⟩ := (show ∃ t, u = Value.int i t from rx)
    exact PySem.P.repr_of_int hz ⟨.str _, H, I.tok _, ⟨_, rfl⟩, q⟩
  | @str z hz =>
    obtain ⟨t, rfl⟩ := (show ∃ t, u = Value.str z t from rx)
    exact PySem.P.repr_of_str ⟨.str _, H, I.tok _, ⟨_, rfl⟩, q⟩ hz
  | @dat a d hd hs hn hp hz =>
    exact OwR.cr_reprD hg hu pins s σ H _ _ Q I (.cons rx .nil) ⟨a, d, rfl, hd, hs, hn, hp, hz, q⟩
  | @dic a e =>
    cases (show u = Value.ref a from rx)
    obtain ⟨R, ns⟩ := empty_reads I.hok e
    refine repr_of_reads' R (by decide) (fun _ m => ?_) hg (by show X.A.units + (PyData.depth (.dict []) + 1) < cLine; have : PyData.depth (.dict []) ≤ 60 := by decide +kernel
                                                               omega) (fun _ _ z => z) (fun h' u tk k => ?_) (by decide +kernel)
    · rw [List.append_nil, List.mem_singleton] at m
      exact ns m.symm
    · exact ⟨.str _, H, I.kept (t' := tk) k, ⟨u, rfl⟩, q⟩
/-- all that an own error class must say, so that its caught errors are asked -/
structure ErrC (K : PySem.W.Frag) (C : Addr) : Prop where
  ox : OexC K C
  xf : XfC K C
  ha : PySem.W.findIn K (.ref C) "__class__" = some (some (.builtin "object.__class__"))
  hn : PySem.W.specialIn K (.builtin "object.__class__") "__get__" = some (some (.builtin "getset_descriptor.__get__"))
  ht : PySem.W.takesIn K (.builtin "object.__class__") = some true
  hm : PySem.W.mroIn K C (.type "object") = some true
theorem OexC.cl {K : PySem.W.Frag} {C : Addr} (T : OexC K C) : (PySem.W.clsIn K C).isSome = true := by
  obtain ⟨nm, q, N, bs, bm, sn, sub, ab, col, dd, k0, k1, k2, k3, k5, hC, hbm⟩ := T.cls
  unfold PySem.W.clsIn
  rw [hC] <;> rfl
/-- isinstance of the error that the suite holds -/
def rIsE (K : PySem.W.Frag) (a : Addr) (cls : Value) (d : Option Addr) : List V → Hp → VK → Prop := fun xs H Q => ∃ (c : V) (u : Value) (C dd : Addr) (fs : List (Str × V)) (b : Bool), xs = [.ref a, c] ∧ ClsV c u ∧ cls = .ref C ∧ ErrC K C ∧ d = some dd ∧ H dd = some (.xd fs) ∧
  PySem.W.kitOne K (.ref C) u = some b ∧ Q (.bl b) H
theorem call_isE {X : Cx} {a : Addr} {cls : Value} {d : Option Addr} {oe : Obj} {pn : List (Addr × Obj)} (hz : Zc cls d oe) (hf : ∃ vs, oe.data = .fields vs) : CallR (X.suite a ((a, oe) :: pn)) (.builtin "isinstance") (rIsE X.K a cls d) := by
  intro pins s σ H xs us Q I r h
  obtain ⟨c, cv, C, dd, fs, b, rfl, hcv, rfl, T, rfl, ed, e, q⟩ := h
  obtain ⟨u1, u2, rfl, r1, r2⟩ := vals2 r
  cases (show u1 = Value.ref a from r1)
  have e2 := hcv.eq r2
  subst e2
  obtain ⟨hget, _⟩ := I.pin (a, oe) (List.mem_append.mpr (.inl List.mem_cons_self))
  obtain ⟨vs, hv⟩ := hf
  obtain ⟨mA, hns, hr⟩ := (show ObjOk X.prog X.w H s.heap dd (.xd fs) from I.hok dd _ ed)
  obtain ⟨od, ho, hl⟩ := lookIn_ns hns
  have J : PySem.W.InstAt s.heap a oe C (some od) := ⟨hget, hz.1, by unfold PySem.W.notCls; rw [hv] <;> rfl, by rw [hz.2]; exact ho⟩
  exact PySem.W.kia_one (PySem.W.kitx_exc (OexC.cl T.ox) T.xf.ga T.xf.gg T.xf.exC T.ha T.hn T.ht T.hm) I.kIn J e (fun z => nomatch z) fun tk => ⟨.bl b, H, I.tok tk, rfl, q⟩
/-- err.f of the error that the suite holds -/
def tXe (K : PySem.W.Frag) (a : Addr) (cls : Value) (d : Option Addr) (f : Str) (te : TE) : TE := fun σ H Q => te σ H fun x H1 => x = .ref a ∧ ∃ (C dd : Addr) (fs : List (Str × V)) (v : V), cls = .ref C ∧ ErrC K C ∧ PySem.W.findIn K (.ref C) f = some none ∧ d = some dd ∧ H1 dd = some (.xd fs) ∧ fs.lookup f = some v ∧ Q v H1
theorem pe_xe {X : Cx} {a : Addr} {oe : Obj} {cls : Value} {d : Option Addr} {pn : List (Addr × Obj)} {e : Expr} {te : TE} {pos : Pos} {n : Str} (hz : Zc cls d oe) (hf : ∃ vs, oe.data = .fields vs) (he : PE (X.suite a ((a, oe) :: pn)) e te) (hb : attributeBase e n X.env (eval e X.env) = eval e X.env := by rfl) :
    PE (X.suite a ((a, oe) :: pn)) (.Attribute e n pos) (tXe X.K a cls d n te) := by
  refine ⟨fun pins s σ H Q I h => ?_⟩
  refine attr_of hb (thn (he.run pins s σ H _ I h) fun u s1 hh => ?_)
  obtain ⟨x, H1, I1, rx, ex, C, dd, fs, v, ec, T, hno, ed, ea, l, q⟩ := hh
  subst ex ec ed
  obtain rfl : u = Value.ref a := rx
  obtain ⟨ha, _⟩ := I1.pin (a, oe) (List.mem_append_left _ List.mem_cons_self)
  obtain ⟨vs, hd⟩ := hf
  obtain ⟨mA, hns, hr⟩ := (show ObjOk X.prog X.w H1 s1.heap dd (.xd fs) from I1.hok dd _ ea)
  obtain ⟨od, ho, hl⟩ := lookIn_ns hns
  obtain ⟨u, hu, ru⟩ := RelO.some_of (v := v) (o := mA n) (by rw [← l]; exact hr n)
  have J : PySem.W.InstAt s1.heap a oe C (some od) := ⟨ha, hz.1, by unfold PySem.W.notCls; rw [hd] <;> rfl, by rw [hz.2]; exact ho⟩
  exact HandSPX.exc_get I1.kIn J T.xf.ga T.xf.gg T.xf.exC (PySem.W.findObj_own T.xf.hdC hno rfl (by rw [hl, hu])) (handed_of ru) ⟨v, H1, I1.tok _, ru, q⟩
/-! ### an error class with one field, with two -/
def spErr1 (K : PySem.W.Frag) (f : Str) : Sp := fun vs H Q _ => ∃ (a C : Addr) (v : V), vs = [.ref a, v] ∧ OexC K C ∧ PySem.W.findIn K (.ref C) f = some none ∧ H a = some (exo a C none) ∧
  ∀ dx, H dx = none → dx ≠ a → Q .non (upd (upd H dx (exd dx [(f, v)])) a (exo a C (some dx)))
theorem err_heap {H : Hp} {a d C : Addr} {fs : List (Str × V)} (ne : d ≠ a) (ha : H a = none) : upd (del (upd (upd (upd H a (exo a C none)) d (exd d fs)) a (exo a C (some d))) a) d (.xd fs) = upd H d (.xd fs) := by
  funext b
  by_cases h1 : b = d
  · rw [h1, upd_same, upd_same]
  · rw [upd_ne h1, upd_ne h1]
    by_cases h2 : b = a
    · rw [h2, del_same, ha]
    · rw [del_ne h2, upd_ne h2, upd_ne h1, upd_ne h2]
theorem mk_err1 {K : PySem.W.Frag} {C : Addr} {f : Str} {v : V} {H : Hp} {E : XK} (T : OexC K C) (hno : PySem.W.findIn K (.ref C) f = some none) (k : ∀ d, H d = none → E (.ref C) (some d) (upd H d (.xd [(f, v)]))) :
    ([v] : List V).length ≤ 1000 ∧ ∀ a, H a = none → spErr1 K f (.ref a :: ([v] ++ [])) (upd H a (exo a C none)) (fun v H2 => v = .non ∧ ∃ (d : Addr) (fs : List (Str × V)), H2 a = some (exo a C (some d)) ∧ H2 d = some (exd d fs) ∧ H d = none ∧ E (.ref C) (some d) (upd (del H2 a) d (.xd fs))) (fun _ _ _ => False) := by
  refine ⟨by show (1 : Nat) ≤ 1000; decide, fun a ha => ⟨a, C, v, rfl, T, hno, upd_same, fun dx hd ne => ⟨rfl, dx, [(f, v)], upd_same, by rw [upd_ne ne, upd_same], ?_, ?_⟩⟩⟩
  · rw [upd_ne ne] at hd
    exact hd
  · rw [err_heap ne ha]
    rw [upd_ne ne] at hd
    exact k dx hd
end OwE
end
section
/-! Own: what the end of the top says, with the tables of the code of some defs. -/
namespace OwH
open PySem PySem.Spec PyProof.Rows L2
def codA (K : PySem.W.Frag) (f : Addr) : Addr := match K.lookup f with
  | some ⟨_, _, .func fd, _⟩ => (match fd.code with
    | .ref c => c
    | _ => 0)
  | _ => 0
theorem codA_eq {K : PySem.W.Frag} {f c : Addr} {oc : Value} {od : Option Addr} {osl : Array (Option Value)} {fd : FuncData} (lk : K.lookup f = some ⟨oc, od, .func fd, osl⟩) (e : fd.code = .ref c) : codA K f = c := by
  unfold codA
  rw [lk]
  show (match fd.code with | .ref c => c | _ => 0) = c
  rw [e]
/-- the code of the def at f, its table -/
def cTab (K : PySem.W.Frag) (f : Addr) : Addr × Addr := (codA K f, He.tabOf K (codA K f))
def tabsOk (g : Addr → Option Obj) (tf : List (PySem.W.Frag → Addr)) (K : PySem.W.Frag) : Bool := tf.all fun f => PySem.W.codeHdIn K (cTab K (f K)).1 (cTab K (f K)).2 && (match g (cTab K (f K)).2 with
  | some o => He.emptyTab o
  | none => false)
def partT (xs : List Str) (g : Addr → Option Obj) : PySem.W.Frag := He.frT g (mainGlobals :: PySem.cStatics :: placesX xs g 4)
structure SaysT (fa : List (PySem.W.Frag → Bool)) (fn : List DX) (tf : List (PySem.W.Frag → Addr)) (h : Heap) (K : PySem.W.Frag) : Prop where
  see : seeX fa fn K = wantX fn
  hd : ∀ f ∈ tf, PySem.W.codeHdIn K (cTab K (f K)).1 (cTab K (f K)).2 = true
  out : ∀ f ∈ tf, K.lookup (cTab K (f K)).2 = none
  empty : ∀ f ∈ tf, h.get? (cTab K (f K)).2 = some OwR.tabO
abbrev AT : Type := AX × Bool
def obsT (xs : List Str) (fa : List (PySem.W.Frag → Bool)) (fn : List DX) (tf : List (PySem.W.Frag → Addr)) (g : Addr → Option Obj) : AT := (seeX fa fn (partT xs g), tabsOk g tf (partT xs g))
theorem saysT_of {xs : List Str} {fa : List (PySem.W.Frag → Bool)} {fn : List DX} {tf : List (PySem.W.Frag → Addr)} {h : Heap} (e : obsT xs fa fn tf h.get? = (wantX fn, true)) : SaysT fa fn tf h (partT xs h.get?) := by
  have e1 : seeX fa fn (partT xs h.get?) = wantX fn := congrArg Prod.fst e
  have e2 : tabsOk h.get? tf (partT xs h.get?) = true := congrArg Prod.snd e
  have key : ∀ f ∈ tf, PySem.W.codeHdIn (partT xs h.get?) (cTab (partT xs h.get?) (f (partT xs h.get?))).1 (cTab (partT xs h.get?) (f (partT xs h.get?))).2 = true ∧ ∃ o, h.get? (cTab (partT xs h.get?) (f (partT xs h.get?))).2 = some o ∧ He.emptyTab o = true := fun f hf => by
    obtain ⟨h3, h4⟩ := two (List.all_eq_true.mp e2 f hf)
    refine ⟨h3, ?_⟩
    cases q : h.get? (cTab (partT xs h.get?) (f (partT xs h.get?))).2 with
    | none =>
      rw [q] at h4
      cases h4
    | some o =>
      rw [q] at h4
      exact ⟨o, rfl, h4⟩
  refine ⟨e1, fun f hf => (key f hf).1, fun f hf => ?_, fun f hf => ?_⟩
  · obtain ⟨_, o, q, z⟩ := key f hf
    exact He.frT_none q z
  · obtain ⟨_, o, q, z⟩ := key f hf
    rw [q, He.emptyTab_eq z]
def hookT (xs : List Str) (fa : List (PySem.W.Frag → Bool)) (fn : List DX) (tf : List (PySem.W.Frag → Addr)) : PySem.W.Hook where
  α := AT
  obs := fun s => obsT xs fa fn tf s.heap.get?
  val := fun _ => (wantX fn, true)
  says := fun _ h => ∃ K : PySem.W.Frag, K.In h ∧ SaysT fa fn tf h K
  of := fun _ _ e => ⟨_, He.frT_in, saysT_of e⟩
  keeps := fun _ _ _ p k => match p with
    | ⟨K, hK, c⟩ => ⟨K, PySem.W.Frag.In.keeps hK k, ⟨c.see, c.hd, c.out, fun f hf => k _ _ (c.empty f hf)⟩⟩
theorem obsT_eq {xs : List Str} {fa : List (PySem.W.Frag → Bool)} {fn : List DX} {tf : List (PySem.W.Frag → Addr)} {g : Addr → Option Obj} {s : Shared} (h : ∀ a, g a = s.heap.get? a) : obsT xs fa fn tf g = (hookT xs fa fn tf).obs s := by
  have e : g = s.heap.get? := funext h
  rw [e] <;> rfl
/-! ### facts of error classes -/
def oexB (K : PySem.W.Frag) (C : Addr) : Bool := match K.lookup C with
  | some ⟨.type t, _, .cls cd, sl⟩ => decide (t = "type") && (match cd.mro, sl.toList with
    | .ref D :: bm, [_, _, _, _, some (.builtin n), _] => decide (D = C) && (decide (n = "ValueError.__new__") && (cd.hasDict && (!cd.hasDel && PySem.HandSPX.refsVE bm)))
    | _, _ => false)
  | _ => false
theorem oexB_ok {K : PySem.W.Frag} {C : Addr} (h : oexB K C = true) : ∃ nm q N bs bm sn sub ab col dd k0 k1 k2 k3 k5, K.lookup C = some (excClassObj nm q C N bs bm true sn sub ab col dd k0 k1 k2 k3 k5 "ValueError.__new__") ∧ PySem.HandSPX.refsVE bm = true := by
  unfold oexB at h
  split at h
  · rename_i t dd cd sl ho
    obtain ⟨h1, h2⟩ := two h
    split at h2
    · rename_i D bm k0 k1 k2 k3 n k5 hm hs
      obtain ⟨a1, h3⟩ := two h2
      obtain ⟨a2, h4⟩ := two h3
      obtain ⟨a3, h5⟩ := two h4
      obtain ⟨a4, a5⟩ := two h5
      have e1 := of_decide_eq_true h1
      have e2 := of_decide_eq_true a1
      have e3 := of_decide_eq_true a2
      subst e1 e2 e3
      obtain ⟨nm, bs, mro, ns, qn, hd, sn, sub, ab, col, del⟩ := cd
      have esl : sl = #[k0, k1, k2, k3, some (.builtin "ValueError.__new__"), k5] := by
        obtain ⟨l⟩ := sl
        have hs : l = _ := hs
        rw [hs]
      have em : mro = .ref D :: bm := hm
      have ed : hd = true := a3
      have el : del = false := by
        cases del with
        | true => cases a4
        | false => rfl
      subst esl em ed el
      exact ⟨nm, qn, ns, bs, bm, sn, sub, ab, col, dd, k0, k1, k2, k3, k5, ho, a5⟩
    · cases h2
  · cases h
def fErr (x : Str) (K : PySem.W.Frag) : Bool := oexB K (ga K x) && (He.eqO (PySem.W.findIn K (.ref (ga K x)) "__setattr__") (some (some (.builtin "object.__setattr__"))) && (decide (PySem.W.typeIn K (.ref (ga K x)) = some (.type "type")) && (PySem.W.keepIn K (.ref (ga K x)) && (xfB K (ga K x) &&
  (He.eqO (PySem.W.findIn K (.ref (ga K x)) "__class__") (some (some (.builtin "object.__class__"))) && (He.eqO (PySem.W.specialIn K (.builtin "object.__class__") "__get__") (some (some (.builtin "getset_descriptor.__get__"))) &&
  (decide (PySem.W.takesIn K (.builtin "object.__class__") = some true) && decide (PySem.W.mroIn K (ga K x) (.type "object") = some true))))))))
theorem err_ok {x : Str} {K : PySem.W.Frag} (h : fErr x K = true) : OwE.ErrC K (ga K x) := by
  obtain ⟨a1, h⟩ := two h
  obtain ⟨a2, h⟩ := two h
  obtain ⟨a3, h⟩ := two h
  obtain ⟨a4, h⟩ := two h
  obtain ⟨a5, h⟩ := two h
  obtain ⟨a6, h⟩ := two h
  obtain ⟨a7, h⟩ := two h
  obtain ⟨a8, a9⟩ := two h
  have X := xfB_ok a5
  exact ⟨⟨oexB_ok a1, He.eqO_ok a2, X.exC, of_decide_eq_true a3, a4⟩, X, He.eqO_ok a6, He.eqO_ok a7, of_decide_eq_true a8, of_decide_eq_true a9⟩
/-- the class's __init__ is the def at its place -/
def fIni (x : Str) (K : PySem.W.Frag) : Bool := He.eqO (PySem.W.findIn K (.ref (ga K x)) "__init__") (some (some (.ref (mo K x "__init__")))) && decide (PySem.W.typeIn K (.ref (mo K x "__init__")) = some (.type "function"))
theorem ini_ok {x : Str} {K : PySem.W.Frag} (h : fIni x K = true) : PySem.W.findIn K (.ref (ga K x)) "__init__" = some (some (.ref (mo K x "__init__"))) ∧ PySem.W.typeIn K (.ref (mo K x "__init__")) = some (.type "function") := ⟨He.eqO_ok (two h).1, of_decide_eq_true (two h).2⟩
/-- no attribute of that name in the class -/
def fNoF (x n : Str) (K : PySem.W.Frag) : Bool := decide (PySem.W.findIn K (.ref (ga K x)) n = some none)
def fExm (x y : Str) (b : Bool) (K : PySem.W.Frag) : Bool := decide (PySem.W.exmOne K (.ref (ga K x)) (.ref (ga K y)) = some b)
def fKit (x y : Str) (b : Bool) (K : PySem.W.Frag) : Bool := decide (PySem.W.kitOne K (.ref (ga K x)) (.ref (ga K y)) = some b)
/-- what isinstance and the like ask of the objects of the class -/
def fIsC (x : Str) (K : PySem.W.Frag) : Bool := He.eqO (PySem.W.findIn K (.ref (ga K x)) "__class__") (some (some (.builtin "object.__class__"))) && (He.eqO (PySem.W.specialIn K (.builtin "object.__class__") "__get__") (some (some (.builtin "getset_descriptor.__get__"))) &&
  (decide (PySem.W.takesIn K (.builtin "object.__class__") = some true) && decide (PySem.W.mroIn K (ga K x) (.type "object") = some true)))
theorem isC_ok {x : Str} {K : PySem.W.Frag} (h : fIsC x K = true) : PySem.W.findIn K (.ref (ga K x)) "__class__" = some (some (.builtin "object.__class__")) ∧ PySem.W.specialIn K (.builtin "object.__class__") "__get__" = some (some (.builtin "getset_descriptor.__get__")) ∧ PySem.W.takesIn K (.builtin "object.__class__") = some true ∧ PySem.W.mroIn K (ga K x) (.type "object") = some true := by
  obtain ⟨a1, h⟩ := two h
  obtain ⟨a2, h⟩ := two h
  obtain ⟨a3, a4⟩ := two h
  exact ⟨He.eqO_ok a1, He.eqO_ok a2, of_decide_eq_true a3, of_decide_eq_true a4⟩
/-- the class (or one above it) has the def at its place as m -/
def fHas (x m : Str) (K : PySem.W.Frag) : Bool := He.eqO (PySem.W.findIn K (.ref (ga K x)) m) (some (some (.ref (mo K x m)))) && PySem.W.isFn K (.ref (mo K x m))
theorem has_ok {x m : Str} {K : PySem.W.Frag} (h : fHas x m K = true) : PySem.W.findIn K (.ref (ga K x)) m = some (some (.ref (mo K x m))) ∧ PySem.W.isFn K (.ref (mo K x m)) = true := ⟨He.eqO_ok (two h).1, (two h).2⟩
/-- != of the class is object's -/
def fNe (x : Str) (K : PySem.W.Frag) : Bool := He.eqO (PySem.W.findIn K (.ref (ga K x)) "__ne__") (some (some (.builtin "object.__ne__")))
theorem ne_ok {x : Str} {K : PySem.W.Frag} (h : fNe x K = true) : PySem.W.findIn K (.ref (ga K x)) "__ne__" = some (some (.builtin "object.__ne__")) := He.eqO_ok h
def fNot (x : Str) (t : PySem.W.Frag → Value) (K : PySem.W.Frag) : Bool := PySem.W.notFirst K (ga K x) (t K)
end OwH
end
section
/-! Operators and comparisons that an own class defines. -/
namespace OwR
open PySem PySem.Spec PyProof.Rows L2
/-- an own operator between instances of two own classes, neither below the other -/
theorem bin_two {prog : Program} {w : World} {A : Around} {E : Value → Shared → Prop} {s : Shared} {K : PySem.W.Frag} {x C D f f2 : Addr} {ox : Obj} {od : Option Obj} {op : Operator} {b : Value} {rc rd : Option Value} {Q : Value → Shared → Prop} (X : K.In s.heap) (I : PySem.W.InstAt s.heap x ox C od)
    (hb : PySem.W.Looks (model prog w) s.heap (typeOf b) (.ref D)) (ne : (Value.ref C == Value.ref D) = false) (cC : PySem.W.selfFirst K C = true) (cD : PySem.W.selfFirst K D = true) (sC : PySem.W.findIn K (.ref C) (PySem.dunder op.info.2) = some (some (.ref f))) (sD : PySem.W.findIn K (.ref D) (PySem.dunder op.info.2) = some (some (.ref f2)))
    (rC : PySem.W.findIn K (.ref C) (dunderR op.info.2) = some rc) (pC : rc = none ∨ ∃ g : Addr, rc = some (.ref g)) (rD : PySem.W.findIn K (.ref D) (dunderR op.info.2) = some rd) (pD : rd = none ∨ ∃ g : Addr, rd = some (.ref g))
    (sub : PySem.W.subIn K (.ref D) (.ref C) = some false) (hf : PySem.W.isFn K (.ref f) = true) (h : wpAny (model prog w) A (call (.ref f) [.ref x, b]) (PySem.W.CmpBack Q) E s) : wpAny (model prog w) A (binaryOp op (.ref x) b) Q E s := by
  obtain ⟨c1, r1, k1, m1⟩ := PySem.W.ksp_first cC
  obtain ⟨c2, r2, k2, m2⟩ := PySem.W.ksp_first cD
  rcases hi : op.info with ⟨sym, nm⟩
  rw [hi] at sC sD rC rD
  dsimp only at sC sD rC rD
  have one := PySem.W.ksp_try X I sC hf h
  obtain ⟨hp, gs, dr, tk, os⟩ := s
  have L1 : PySem.W.Looks (model prog w) hp (typeOf (.ref x)) (.ref C) := I.type
  have L2 : PySem.W.Looks (model prog w) hp (typeOf b) (.ref D) := hb
  have L3 : PySem.W.Looks (model prog w) hp (fillsNumberSlot (.ref C) nm) true := PySem.W.fills_K X k1 m1 sC
  have L4 : PySem.W.Looks (model prog w) hp (fillsNumberSlot (.ref D) nm) true := PySem.W.fills_K X k2 m2 sD
  have L5 : PySem.W.Looks (model prog w) hp (isSubtype (.ref D) (.ref C)) false := PySem.W.looks_subIn X sub
  have L6 : PySem.W.Looks (model prog w) hp (numberSlotInPython (.ref C) nm) true := PySem.W.ksp_inPy X sC rC pC
  have L7 : PySem.W.Looks (model prog w) hp (numberSlotInPython (.ref D) nm) true := PySem.W.ksp_inPy X sD rD pD
  simp only [binaryOp, hi]
  refine wpAny_holding (wpAny_bind ?_)
  unfold binaryOp1
  refine wpAny_bind (L1.at (wpAny_bind (L2.at (wpAny_bind (L3.at ?_)))))
  simp only [ne, Bool.false_eq_true, if_false]
  ksp_lk
  refine wpAny_mono one (fun r s' q => ?_) fun _ _ e => e
  obtain ⟨v, rfl, hq⟩ := q
  ksp_lk
  exact hq
/-- what a class must have for an operator of its own -/
structure Bin1 (K : PySem.W.Frag) (op : Operator) (C g : Addr) : Prop where
  self : PySem.W.selfFirst K C = true
  at_ : PySem.W.findIn K (.ref C) (PySem.dunder op.info.2) = some (some (.ref g))
  fn : PySem.W.isFn K (.ref g) = true
  refl : ∃ rc, PySem.W.findIn K (.ref C) (dunderR op.info.2) = some rc ∧ (rc = none ∨ ∃ h : Addr, rc = some (.ref h))
/-- .. between two classes: one, or neither above the other -/
def BinP (K : PySem.W.Frag) (op : Operator) (C D g : Addr) : Prop := Bin1 K op C g ∧ (C = D ∨ ((∃ g', Bin1 K op D g') ∧ C ≠ D ∧ PySem.W.subIn K (.ref D) (.ref C) = some false))
structure BinT (K : PySem.W.Frag) (op : Operator) (C : Addr) (T : String) : Prop where
  f : ∃ fo, PySem.W.findIn K (.type T) (PySem.dunder op.info.2) = some fo
  r : ∃ ro, PySem.W.findIn K (.type T) (dunderR op.info.2) = some ro
  sub : PySem.W.subIn K (.type T) (.ref C) = some false
def tyS : V → Option String
  | .non => some "NoneType" | .bl _ => some "bool" | .int _ => some "int" | .str _ => some "str" | _ => none
theorem tyS_of {y : V} {u : Value} {T : String} (r : RelV y u) (h : tyS y = some T) : typeOf u = pure (.type T) := by
  cases y with
  | non => cases (show u = Value.none from r); cases h; rfl
  | bl b => cases (show u = Value.bool b from r); cases h; rfl
  | int i => obtain ⟨t, rfl⟩ := r; cases h; rfl
  | str z => obtain ⟨t, rfl⟩ := r; cases h; rfl
  | _ => cases h
def rOwn2 (K : PySem.W.Frag) (op : Operator) (g : Addr) (sp : Sp) (E : XK) : R2 := fun x y H Q => ∃ (p q C D dx dy : Addr) (fs gs : List (Str × V)), x = .ref p ∧ y = .ref q ∧ H p = some (.ins C dx fs) ∧ H q = some (.ins D dy gs) ∧ BinP K op C D g ∧ sp [.ref p, .ref q] H Q E
def rOwnT (K : PySem.W.Frag) (op : Operator) (g : Addr) (sp : Sp) (E : XK) : R2 := fun x y H Q => ∃ (p C dx : Addr) (fs : List (Str × V)) (T : String), x = .ref p ∧ H p = some (.ins C dx fs) ∧ tyS y = some T ∧ Bin1 K op C g ∧ BinT K op C T ∧ sp [.ref p, y] H Q E
section
variable {X : Cx} {CX : CXT} {k : Nat} {g : Addr} {sp : Sp} {E : XK} {op : Operator}
theorem ep_back {pins : List (Addr × Obj)} {σ : L2.St} {Q : VK} {u : Value} {s : Shared} (h : EP X pins σ Q u s) : PySem.W.CmpBack (EP X pins σ Q) u s := by
  obtain ⟨v, H, I, r, q⟩ := h
  unfold PySem.W.CmpBack
  split
  · cases v with
    | int i => obtain ⟨_, z⟩ := r; cases z
    | str i => obtain ⟨_, z⟩ := r; cases z
    | byt i => obtain ⟨_, z⟩ := r; cases z
    | flt i => obtain ⟨_, z⟩ := r; cases z
    | _ => cases r
  · exact ⟨v, H, I, r, q⟩
theorem run_own {pins : List (Addr × Obj)} {σ : L2.St} {H : Hp} {s : Shared} {Q : VK} {us : List Value} {vs : List V} (F : FnR X.prog X.w X.K X.mg X.base CX k g sp) (hr : Room k X.A) (hx : Passes CX X E) (I : Inv X pins σ H s) (r : Vals vs us) (h : sp vs H Q E) :
    wpAny (model X.prog X.w) X.A (call (.ref g) us) (PySem.W.CmpBack (EP X pins σ Q)) X.xe s := wpAny_mono (wpAny_call (run_fnR F hr hx I r h)) (fun _ _ q => ep_back q) fun _ _ q => q
theorem op_own2 (F : FnR X.prog X.w X.K X.mg X.base CX k g sp) (hr : Room k X.A) (hx : Passes CX X E) : OpR X (binaryOp op) (rOwn2 X.K op g sp E) := by
  intro pins s σ H x y v u Q I rx ry h
  obtain ⟨p, q, C, D, dx, dy, fs, gs, rfl, rfl, ep, eq, ⟨b1, b2⟩, hq⟩ := h
  obtain rfl : v = Value.ref p := rx
  obtain rfl : u = Value.ref q := ry
  obtain ⟨ox, od, J, _⟩ := StX.insC_at I (.inr ⟨dx, fs, ep⟩)
  obtain ⟨oy, oe, J2, _⟩ := StX.insC_at I (.inr ⟨dy, gs, eq⟩)
  have go := run_own F hr hx I (us := [.ref p, .ref q]) (vs := [.ref p, .ref q]) (.cons rfl (.cons rfl .nil)) hq
  obtain ⟨mm, fr⟩ := I.fr
  rcases b2 with rfl | ⟨⟨g', b2⟩, ne, sub⟩
  · exact PySem.W.binop_K fr I.ok.mod.kin J J2.type b1.self b1.at_ b1.fn go
  · obtain ⟨rc, e1, e2⟩ := b1.refl
    obtain ⟨rd, e3, e4⟩ := b2.refl
    exact bin_two I.kIn J J2.type (Bool.eq_false_iff.mpr fun z => ne (by cases beq_iff_eq.mp z; rfl)) b1.self b2.self b1.at_ b2.at_ e1 e2 e3 e4 sub b1.fn go
theorem op_ownT (F : FnR X.prog X.w X.K X.mg X.base CX k g sp) (hr : Room k X.A) (hx : Passes CX X E) : OpR X (binaryOp op) (rOwnT X.K op g sp E) := by
  intro pins s σ H x y v u Q I rx ry h
  obtain ⟨p, C, dx, fs, T, rfl, ep, ty, b1, bT, hq⟩ := h
  obtain rfl : v = Value.ref p := rx
  obtain ⟨ox, od, J, _⟩ := StX.insC_at I (.inr ⟨dx, fs, ep⟩)
  obtain ⟨mm, fr⟩ := I.fr
  obtain ⟨rc, e1, e2⟩ := b1.refl
  obtain ⟨fo, e3⟩ := bT.f
  obtain ⟨ro, e4⟩ := bT.r
  exact PySem.W.ksp_binT fr I.ok.mod.kin J (tyS_of ry ty) b1.self b1.at_ b1.fn e1 e2 e3 e4 bT.sub (run_own F hr hx I (us := [.ref p, u]) (vs := [.ref p, y]) (.cons rfl (.cons ry .nil)) hq)
/-! ### comparisons -/
structure Cmp1 (K : PySem.W.Frag) (op : CmpOp) (C g : Addr) : Prop where
  at_ : PySem.W.findIn K (.ref C) (cmpInfo op).2.1 = some (some (.ref g))
  fn : PySem.W.isFn K (.ref g) = true
def rCmp2 (K : PySem.W.Frag) (op : CmpOp) (g : Addr) (sp : Sp) (E : XK) : R2 := fun x y H Q => ∃ (p q C D dx dy : Addr) (fs gs : List (Str × V)), x = .ref p ∧ y = .ref q ∧ H p = some (.ins C dx fs) ∧ H q = some (.ins D dy gs) ∧ Cmp1 K op C g ∧ PySem.W.notFirst K C (.ref D) = true ∧ sp [.ref p, .ref q] H Q E
theorem rc_own2 {o : CmpOp} (hu : X.A.units < cLine) (F : FnR X.prog X.w X.K X.mg X.base CX k g sp) (hr : Room k X.A) (hx : Passes CX X E) : OpR X (richCompare o) (rCmp2 X.K o g sp E) := by
  intro pins s σ H x y v u Q I rx ry h
  obtain ⟨p, q, C, D, dx, dy, fs, gs, rfl, rfl, ep, eq, c1, nf, hq⟩ := h
  obtain rfl : v = Value.ref p := rx
  obtain rfl : u = Value.ref q := ry
  obtain ⟨ox, od, J, _⟩ := StX.insC_at I (.inr ⟨dx, fs, ep⟩)
  obtain ⟨oy, oe, J2, _⟩ := StX.insC_at I (.inr ⟨dy, gs, eq⟩)
  obtain ⟨mm, fr⟩ := I.fr
  exact PySem.W.cmp_K hu fr I.ok.mod.kin J J2.type nf c1.at_ c1.fn (run_own F hr hx I (us := [.ref p, .ref q]) (vs := [.ref p, .ref q]) (.cons rfl (.cons rfl .nil)) hq)
theorem op_ownEq (hu : X.A.units < cLine) (F : FnR X.prog X.w X.K X.mg X.base CX k g sp) (hr : Room k X.A) (hx : Passes CX X E) : OpR X (compareOp .Eq) (rCmp2 X.K .Eq g sp E) := fun pins s σ H x y v u Q I rx ry h => PySem.W.cmp_ofEq (rc_own2 hu F hr hx pins s σ H x y v u Q I rx ry h)
theorem op_ownLe (hu : X.A.units < cLine) (F : FnR X.prog X.w X.K X.mg X.base CX k g sp) (hr : Room k X.A) (hx : Passes CX X E) : OpR X (compareOp .LtE) (rCmp2 X.K .LtE g sp E) := fun pins s σ H x y v u Q I rx ry h => PySem.W.cmp_ofLtE (rc_own2 hu F hr hx pins s σ H x y v u Q I rx ry h)
theorem op_ownLt (hu : X.A.units < cLine) (F : FnR X.prog X.w X.K X.mg X.base CX k g sp) (hr : Room k X.A) (hx : Passes CX X E) : OpR X (compareOp .Lt) (rCmp2 X.K .Lt g sp E) := fun pins s σ H x y v u Q I rx ry h => PySem.W.cmp_ofLt (rc_own2 hu F hr hx pins s σ H x y v u Q I rx ry h)
theorem op_ownGe (hu : X.A.units < cLine) (F : FnR X.prog X.w X.K X.mg X.base CX k g sp) (hr : Room k X.A) (hx : Passes CX X E) : OpR X (compareOp .GtE) (rCmp2 X.K .GtE g sp E) := fun pins s σ H x y v u Q I rx ry h => PySem.W.cmp_ofGtE (rc_own2 hu F hr hx pins s σ H x y v u Q I rx ry h)
theorem op_ownGt (hu : X.A.units < cLine) (F : FnR X.prog X.w X.K X.mg X.base CX k g sp) (hr : Room k X.A) (hx : Passes CX X E) : OpR X (compareOp .Gt) (rCmp2 X.K .Gt g sp E) := fun pins s σ H x y v u Q I rx ry h => PySem.W.cmp_ofGt (rc_own2 hu F hr hx pins s σ H x y v u Q I rx ry h)
end
end OwR
end
section
/-! a != b of own classes that define == alone. -/
namespace OwR
open PySem PySem.Spec PyProof.Rows L2
theorem slot_ne : Slot "object" "__ne__" "object.__ne__" := Slot.of (T := "object") (name := "__ne__") (owner := "object") (n := "__ne__") (by rw [typeLookup_type, builtinLookup_eq_fast]; kernel_rfl) (by decide +kernel) (by decide +kernel) (by decide +kernel)
  (.inl (by decide +kernel)) (by rw [isSubtype_type]; kernel_rfl)
theorem entry_ne : entryFor table "object.__ne__" = some Builtin.«object.__ne__» := entryFor_of_tree (by kernel_rfl)
theorem args_ne (a b : Value) : argsOk "object.__ne__" ⟨[a, b], []⟩ := by unfold argsOk; kernel_rfl
section
variable {prog : Program} {w : World} {A : Around} {E : Value → Shared → Prop} {s : Shared} {K : PySem.W.Frag} {x C f : Addr} {ox : Obj} {od : Option Obj} {b : Value}
theorem bound_ne {M : Model} {args : List Value} {Q : Option Value → Shared → Prop} (sp : PySem.W.Looks M s.heap (specialOf (.ref x) "__ne__") (some (.builtin "object.__ne__"))) (h : wpAny M A (call (.builtin "object.__ne__") (.ref x :: args)) (fun v => Q (some v)) E s) :
    wpAny M A (callSpecialIfBound? (.ref x) "__ne__" args) Q E s := by
  have fin : wpAny M A (call (.builtin "object.__ne__") ([.ref x] ++ args) >>= fun v => pure (some v)) Q E s := wpAny_bind (wpAny_mono h (fun v s' q => wpAny_pure q) fun _ _ q => q)
  have hb : bindSpecial (.builtin "object.__ne__") (.ref x) = pure (.builtin "object.__ne__", [.ref x]) := slot_ne.bind _
  simp only [callSpecialIfBound?, bindSpecialIfBound?]
  refine wpAny_holding (wpAny_bind (wpAny_bind (sp.here ?_)))
  simp only [hb]
  refine wpAny_bind (wpAny_askSetting (wpAny_ite ?_))
  split
  · exact wpAny_bind (wpAny_pure (wpAny_pure fin))
  · exact wpAny_tryCatch (wpAny_bind (wpAny_pure (wpAny_pure fin)))
theorem ne_K {tb : Value} {Q : Value → Shared → Prop} (hu : A.units + 1 < cLine) (X : K.In s.heap) (I : PySem.W.InstAt s.heap x ox C od) (hb : PySem.W.Looks (model prog w) s.heap (typeOf b) tb) (nf : PySem.W.notFirst K C tb = true) (obj : PySem.W.mroIn K C (.type "object") = some true)
    (ne : PySem.W.findIn K (.ref C) "__ne__" = some (some (.builtin "object.__ne__"))) (eq : PySem.W.findIn K (.ref C) "__eq__" = some (some (.ref f))) (fn : PySem.W.isFn K (.ref f) = true)
    (h : wpAny (model prog w) A.in1 (call (.ref f) [.ref x, b]) (fun v s' => ∃ c, v = .bool c ∧ Q (.bool (!c)) s') E s) : wpAny (model prog w) A (richCompare .NotEq (.ref x) b) Q E s := by
  have sp : PySem.W.Looks (model prog w) s.heap (specialOf (.ref x) "__ne__") (some (.builtin "object.__ne__")) := I.type.andThen (PySem.W.looks_findIn X ne)
  have inst : PySem.W.Looks (model prog w) s.heap (isInstance (.ref x) (.type "object")) true := I.type.andThen (PySem.W.looks_mroIn X obj)
  have hu0 : A.units < cLine := by omega
  have body : wpAny (model prog w) A (call (.builtin "object.__ne__") [.ref x, b]) (fun v s' => ∃ c, v = .bool c ∧ Q (.bool c) s') E s := by
    refine wpAny_call (codeAny_call_builtin slot_ne.plain entry_ne (@PySem.W.check_slot (model prog w) _ _ _ "object.__ne__" "object" "__ne__" (.ref x) [b] [] _ (by decide +kernel) (by decide +kernel) inst (args_ne _ _) ?_))
    show wpAny _ _ (do
      cRoomFor "comparison" [.ref x, b]
      match ← callSpecialIfBound? (.ref x) "__eq__" [b] with
      | some .notImplemented | none => ret .notImplemented
      | some r => ret (.bool (!(← truthy r)))) _ _ s
    refine wpAny_bind (wpAny_cRoomFor hu ?_)
    refine wpAny_bind (PySem.W.ifBound_K X I eq fn (wpAny_mono h (fun v s' q => ?_) fun _ _ q => q))
    obtain ⟨c, rfl, q⟩ := q
    show wpAny _ _ (truthy (.bool c) >>= fun t => ret (.bool (!t))) _ _ s'
    exact wpAny_bind (wpAny_pure (wpAny_pure ⟨!c, rfl, q⟩))
  have one : wpAny (model prog w) A (tryCompare (.ref x) "__ne__" b) (fun r s' => ∃ c, r = some (.bool c) ∧ Q (.bool c) s') E s := by
    unfold tryCompare
    refine wpAny_bind (bound_ne sp (wpAny_mono body (fun v s' q => ?_) fun _ _ q => q))
    obtain ⟨c, rfl, q⟩ := q
    exact wpAny_pure ⟨c, rfl, q⟩
  unfold richCompare
  simp only [oneThing_ref]
  refine wpAny_holding (wpAny_bind (wpAny_cRoomFor hu0 ?_))
  refine wpAny_bind (I.type.here (wpAny_bind (hb.here ?_)))
  have fin : ∀ r s', (∃ c, r = some (Value.bool c) ∧ Q (.bool c) s') → ∃ v, r = some v ∧ Q v s' := fun r s' ⟨c, e, q⟩ => ⟨_, e, q⟩
  split
  · rename_i q
    have e : PySem.W.subIn K tb (.ref C) = some false := by
      rcases Bool.or_eq_true_iff.mp nf with e | e
      · rw [beq_iff_eq.mp e] at q
        simp at q
      · exact beq_iff_eq.mp e
    refine wpAny_bind ((PySem.W.looks_subIn X e).here ?_)
    simp only [if_false, Bool.false_eq_true]
    refine wpAny_bind (wpAny_mono one (fun r s' z => ?_) fun _ _ e => e)
    obtain ⟨c, rfl, hq⟩ := z
    exact wpAny_pure hq
  · refine wpAny_bind (m := pure false) (wpAny_pure ?_)
    simp only [if_false, Bool.false_eq_true]
    refine wpAny_bind (wpAny_mono one (fun r s' z => ?_) fun _ _ e => e)
    obtain ⟨c, rfl, hq⟩ := z
    exact wpAny_pure hq
end
/-- the class has == of its own and object's != -/
structure Ne1 (K : PySem.W.Frag) (C g : Addr) : Prop where
  eq : PySem.W.findIn K (.ref C) "__eq__" = some (some (.ref g))
  fn : PySem.W.isFn K (.ref g) = true
  ne : PySem.W.findIn K (.ref C) "__ne__" = some (some (.builtin "object.__ne__"))
  obj : PySem.W.mroIn K C (.type "object") = some true
/-- a != b: the promise of == with the answer turned -/
def rNe2 (K : PySem.W.Frag) (g : Addr) (sp : Sp) (E : XK) : R2 := fun x y H Q => ∃ (p q C D dx dy : Addr) (fs gs : List (Str × V)), x = .ref p ∧ y = .ref q ∧ H p = some (.ins C dx fs) ∧ H q = some (.ins D dy gs) ∧ Ne1 K C g ∧ PySem.W.notFirst K C (.ref D) = true ∧ sp [.ref p, .ref q] H (fun v H' => ∃ c, v = .bl c ∧ Q (.bl (!c)) H') E
theorem op_ownNe {X : Cx} {CX : CXT} {k : Nat} {g : Addr} {sp : Sp} {E : XK} (hu : X.A.units + 1 < cLine) (F : FnR X.prog X.w X.K X.mg X.base CX k g sp) (hr : Room (k + 1) X.A) (hx : Passes CX X E) : OpR X (compareOp .NotEq) (rNe2 X.K g sp E) := by
  intro pins s σ H x y v u Q I rx ry h
  obtain ⟨p, q, C, D, dx, dy, fs, gs, rfl, rfl, ep, eq, c1, nf, hq⟩ := h
  obtain rfl : v = Value.ref p := rx
  obtain rfl : u = Value.ref q := ry
  obtain ⟨ox, od, J, _⟩ := StX.insC_at I (.inr ⟨dx, fs, ep⟩)
  obtain ⟨oy, oe, J2, _⟩ := StX.insC_at I (.inr ⟨dy, gs, eq⟩)
  refine PySem.W.cmp_ofNotEq (ne_K hu I.kIn J J2.type nf c1.obj c1.ne c1.eq c1.fn ?_)
  refine wpAny_mono (run_in (us := [.ref p, .ref q]) (vs := [.ref p, .ref q]) F hr hx I (.cons rfl (.cons rfl .nil)) hq) (fun v s' z => ?_) fun _ _ z => z
  obtain ⟨x2, H2, I2, r2, c, rfl, z⟩ := z
  exact ⟨c, r2, .bl (!c), H2, I2, rfl, z⟩
/-! ### len(o), o of an own class -/
structure Len1 (K : PySem.W.Frag) (C g : Addr) : Prop where
  at_ : PySem.W.findIn K (.ref C) "__len__" = some (some (.ref g))
  fn : PySem.W.isFn K (.ref g) = true
def rLenO (K : PySem.W.Frag) (g : Addr) (sp : Sp) (E : XK) : List V → Hp → VK → Prop := fun xs H Q => ∃ (a C dx : Addr) (fs : List (Str × V)), xs = [.ref a] ∧ H a = some (.ins C dx fs) ∧ Len1 K C g ∧ sp [.ref a] H (fun v H' => ∃ n : Int, v = .int n ∧ 0 ≤ n ∧ n < 2 ^ 63 ∧ Q (.int n) H') E
theorem call_lenO {X : Cx} {CX : CXT} {k : Nat} {g : Addr} {sp : Sp} {E : XK} (F : FnR X.prog X.w X.K X.mg X.base CX k g sp) (hr : Room (k + 1) X.A) (hx : Passes CX X E) : CallR X (.builtin "len") (rLenO X.K g sp E) := by
  intro pins s σ H xs us Q I r h
  obtain ⟨a, C, dx, fs, rfl, ea, c, hq⟩ := h
  obtain rfl := Vals.ref1 r
  obtain ⟨ox, od, J, _⟩ := StX.insC_at I (.inr ⟨dx, fs, ea⟩)
  obtain ⟨mm, fr⟩ := I.fr
  refine PySem.W.len_K fr I.ok.mod.kin J c.at_ c.fn (wpAny_mono (run_in (us := [.ref a]) (vs := [.ref a]) F hr hx I (.cons rfl .nil) hq) (fun v s' z => ?_) fun _ _ z => z)
  obtain ⟨y, H2, I2, ry, n, rfl, n0, n1, z⟩ := z
  obtain ⟨t, rfl⟩ := ry
  exact ⟨⟨n0, n1⟩, .int n, H2, I2.tok _, ⟨_, rfl⟩, z⟩
end OwR
end
section
/-! Own: operators of own classes beside values of any built-in type; x op= y where the class has no method for it; lists of the same things. -/
namespace OwR
open PySem PySem.Spec PyProof.Rows L2
/-- no class above has the method -/
def noIn (K : PySem.W.Frag) (C : Addr) (i : Str) : Bool := (PySem.W.clsIn K C).any fun cd => cd.mro.all fun c => decide (PySem.W.findIn K c i = some none)
theorem none_fills {M : Model} {K : PySem.W.Frag} {h : Heap} {C : Addr} {nm : String} {add : Bool} (X : K.In h) (n : noIn K C (dunderI nm) = true) : PySem.W.Looks M h (fillsInplaceSlot (.ref C) nm add) false := by
  unfold noIn at n
  cases hc : PySem.W.clsIn K C with
  | none => rw [hc] at n; cases n
  | some cd =>
    rw [hc] at n
    have all : ∀ c ∈ cd.mro, PySem.W.findIn K c (dunderI nm) = some none := fun c m => of_decide_eq_true (List.all_eq_true.mp n c m)
    intro A Q E s k q
    have Lm : PySem.W.Looks M h (mroOf (.ref C)) cd.mro := (PySem.W.looks_clsIn X hc).andThen (f := fun cd => pure cd.mro) .now
    have Lm2 := Lm.keeps k
    have walk : ∀ (l : List Value) (f : Value → Sem Bool) (Q : Bool → Shared → Prop), (∀ c ∈ l, ∀ Q : Bool → Shared → Prop, Q false s → wpAny M A (f c) Q E s) → Q false s → wpAny M A (l.anyM f) Q E s := fun l f => by
      induction l with
      | nil => exact fun Q _ q => wpAny_pure q
      | cons c r ih =>
        intro Q hf q
        rw [List.anyM_cons]
        refine wpAny_bind (hf c List.mem_cons_self _ ?_)
        exact ih _ (fun d m => hf d (List.mem_cons_of_mem _ m)) q
    unfold fillsInplaceSlot
    refine wpAny_bind (Lm2.here ?_)
    refine walk _ _ _ (fun c m Q' q' => ?_) q
    have L1 : PySem.W.Looks M s.heap (typeLookup c (dunderI nm)) none := PySem.W.looks_findIn (X.keeps k) (all c m)
    exact wpAny_bind (L1.here (wpAny_pure q'))
section
variable {prog : Program} {w : World} {A : Around} {E : Value → Shared → Prop} {s : Shared} {K : PySem.W.Frag} {x C f : Addr} {ox : Obj} {od : Option Obj} {nm : String} {b : Value} {Q : Value → Shared → Prop}
/-- the operator's own method, b of the same class -/
theorem bin1_same (X : K.In s.heap) (I : PySem.W.InstAt s.heap x ox C od) (hb : PySem.W.Looks (model prog w) s.heap (typeOf b) (.ref C)) (cC : PySem.W.selfFirst K C = true) (sC : PySem.W.findIn K (.ref C) (PySem.dunder nm) = some (some (.ref f))) (hf : PySem.W.isFn K (.ref f) = true)
    (h : wpAny (model prog w) A (call (.ref f) [.ref x, b]) (PySem.W.CmpBack Q) E s) : wpAny (model prog w) A (binaryOp1 nm (.ref x) b) (fun r s' => ∃ v, r = some v ∧ Q v s') E s := by
  obtain ⟨c1, r1, k1, m1⟩ := PySem.W.ksp_first cC
  have one := PySem.W.ksp_try X I sC hf h
  obtain ⟨hp, gs, dr, tk, os⟩ := s
  have L1 : PySem.W.Looks (model prog w) hp (typeOf (.ref x)) (.ref C) := I.type
  have L2 : PySem.W.Looks (model prog w) hp (typeOf b) (.ref C) := hb
  have L3 : PySem.W.Looks (model prog w) hp (fillsNumberSlot (.ref C) nm) true := PySem.W.fills_K X k1 m1 sC
  unfold binaryOp1
  refine wpAny_bind (L1.at (wpAny_bind (L2.at (wpAny_bind (L3.at ?_)))))
  simp only [BEq.rfl, if_true]
  ksp_lk
  refine wpAny_mono one (fun r s' q => ?_) fun _ _ e => e
  obtain ⟨v, rfl, hq⟩ := q
  ksp_lk
  exact ⟨v, rfl, hq⟩
/-- .. b of another type, which is not below C -/
theorem bin1_other {tb : Value} {right py : Bool} {rc ro : Option Value} (X : K.In s.heap) (I : PySem.W.InstAt s.heap x ox C od) (hb : PySem.W.Looks (model prog w) s.heap (typeOf b) tb) (ne : (Value.ref C == tb) = false) (cC : PySem.W.selfFirst K C = true) (sC : PySem.W.findIn K (.ref C) (PySem.dunder nm) = some (some (.ref f)))
    (rC : PySem.W.findIn K (.ref C) (dunderR nm) = some rc) (pC : rc = none ∨ ∃ g : Addr, rc = some (.ref g)) (fb : PySem.W.Looks (model prog w) s.heap (fillsNumberSlot tb nm) right) (sub : PySem.W.subIn K tb (.ref C) = some false) (pb : PySem.W.Looks (model prog w) s.heap (numberSlotInPython tb nm) py)
    (rb : PySem.W.findIn K tb (dunderR nm) = some ro) (hf : PySem.W.isFn K (.ref f) = true) (h : wpAny (model prog w) A (call (.ref f) [.ref x, b]) (PySem.W.CmpBack Q) E s) : wpAny (model prog w) A (binaryOp1 nm (.ref x) b) (fun r s' => ∃ v, r = some v ∧ Q v s') E s := by
  obtain ⟨c1, r1, k1, m1⟩ := PySem.W.ksp_first cC
  have one := PySem.W.ksp_try X I sC hf h
  obtain ⟨hp, gs, dr, tk, os⟩ := s
  have L1 : PySem.W.Looks (model prog w) hp (typeOf (.ref x)) (.ref C) := I.type
  have L2 : PySem.W.Looks (model prog w) hp (typeOf b) tb := hb
  have L3 : PySem.W.Looks (model prog w) hp (fillsNumberSlot (.ref C) nm) true := PySem.W.fills_K X k1 m1 sC
  have L4 : PySem.W.Looks (model prog w) hp (fillsNumberSlot tb nm) right := fb
  have L5 : PySem.W.Looks (model prog w) hp (isSubtype tb (.ref C)) false := PySem.W.looks_subIn X sub
  have L6 : PySem.W.Looks (model prog w) hp (numberSlotInPython (.ref C) nm) true := PySem.W.ksp_inPy X sC rC pC
  have L7 : PySem.W.Looks (model prog w) hp (numberSlotInPython tb nm) py := pb
  have L8 : PySem.W.Looks (model prog w) hp (typeLookup tb (dunderR nm)) ro := PySem.W.looks_findIn X rb
  unfold binaryOp1
  refine wpAny_bind (L1.at (wpAny_bind (L2.at (wpAny_bind (L3.at ?_)))))
  simp only [ne, Bool.false_eq_true, if_false]
  cases right <;> cases py <;>
    (ksp_lk
     refine wpAny_mono one (fun r s' q => ?_) fun _ _ e => e
     obtain ⟨v, rfl, hq⟩ := q
     ksp_lk
     exact ⟨v, rfl, hq⟩)
/-- a op b by binaryOp1 -/
theorem bin_of1 {op : Operator} (h : wpAny (model prog w) A (binaryOp1 op.info.2 (.ref x) b) (fun r s' => ∃ v, r = some v ∧ Q v s') E s) : wpAny (model prog w) A (binaryOp op (.ref x) b) Q E s := by
  rcases hi : op.info with ⟨sym, n⟩
  rw [hi] at h
  simp only [binaryOp, hi]
  refine wpAny_holding (wpAny_bind (wpAny_mono h (fun r s' q => ?_) fun _ _ e => e))
  obtain ⟨v, rfl, hq⟩ := q
  ksp_lk
  exact hq
/-- a op= b by binaryOp1 -/
theorem iop_of1 {op : Operator} (X : K.In s.heap) (I : PySem.W.InstAt s.heap x ox C od) (n : noIn K C (dunderI op.info.2) = true) (h : wpAny (model prog w) A (binaryOp1 op.info.2 (.ref x) b) (fun r s' => ∃ v, r = some v ∧ Q v s') E s) : wpAny (model prog w) A (inplaceOp op (.ref x) b) Q E s := by
  have L1 : PySem.W.Looks (model prog w) s.heap (typeOf (.ref x)) (.ref C) := I.type
  have L2 : PySem.W.Looks (model prog w) s.heap (fillsInplaceSlot (.ref C) op.info.2 (op == .Add)) false := none_fills X n
  unfold inplaceOp
  refine wpAny_holding (wpAny_bind (L1.here (wpAny_bind (L2.here ?_))))
  simp only [Bool.false_eq_true, if_false]
  refine wpAny_bind (wpAny_mono h (fun r s' q => ?_) fun _ _ e => e)
  obtain ⟨v, rfl, hq⟩ := q
  ksp_lk
  exact hq
end
/-- a value's built-in type -/
inductive TyB (H : Hp) : V → String → Prop where
  | sc {y : V} {T : String} (h : tyS y = some T) : TyB H y T
  | lst {a : Addr} {xs : List V} (e : H a = some (.lst xs)) : TyB H (.ref a) "list"
  | tup {a : Addr} {xs : List V} (e : H a = some (.tup xs)) : TyB H (.ref a) "tuple"
  | dic {a : Addr} {kvs : List (Key × V)} (e : H a = some (.dK kvs)) : TyB H (.ref a) "dict"
section
variable {X : Cx} {CX : CXT} {k : Nat} {g : Addr} {sp : Sp} {E : XK} {op : Operator}
theorem TyB.looks {pins : List (Addr × Obj)} {σ : L2.St} {H : Hp} {s : Shared} {y : V} {u : Value} {T : String} {M : Model} (t : TyB H y T) (I : Inv X pins σ H s) (r : RelV y u) : PySem.W.Looks M s.heap (typeOf u) (.type T) := by
  have byRef : ∀ {a : Addr} {o : Obj}, s.heap.get? a = some o → o.cls = .type T → PySem.W.Looks M s.heap (typeOf (.ref a)) (.type T) := fun {a o} e c A Q E s k q => wpAny_typeOf_ref (k _ _ e) (by rw [c]; exact q)
  cases t with
  | sc h => exact PySem.W.Looks.of_pure (tyS_of r h)
  | @lst a xs e =>
    obtain rfl : u = Value.ref a := r
    obtain ⟨_, its, n, _, h1⟩ := (show ObjOk X.prog X.w H s.heap a (.lst xs) from I.hok a _ e)
    exact byRef h1 rfl
  | @tup a xs e =>
    obtain rfl : u = Value.ref a := r
    obtain ⟨_, its, _, ob, h1, c, _⟩ := (show ObjOk X.prog X.w H s.heap a (.tup xs) from I.hok a _ e)
    exact byRef h1 c
  | @dic a kvs e =>
    obtain rfl : u = Value.ref a := r
    obtain ⟨_, _, vs, _, ob, es, ep, h1, c, _⟩ := (show ObjOk X.prog X.w H s.heap a (.dK kvs) from I.hok a _ e)
    exact byRef h1 c.1
def rOwnB (K : PySem.W.Frag) (op : Operator) (g : Addr) (sp : Sp) (E : XK) : R2 := fun x y H Q => ∃ (p C dx : Addr) (fs : List (Str × V)) (T : String), x = .ref p ∧ H p = some (.ins C dx fs) ∧ TyB H y T ∧ Bin1 K op C g ∧ BinT K op C T ∧ sp [.ref p, y] H Q E
theorem one_B {pins : List (Addr × Obj)} {σ : L2.St} {H : Hp} {s : Shared} {Q : VK} {p C dx : Addr} {fs : List (Str × V)} {T : String} {y : V} {u : Value} (F : FnR X.prog X.w X.K X.mg X.base CX k g sp) (hr : Room k X.A) (hx : Passes CX X E) (I : Inv X pins σ H s) (ep : H p = some (.ins C dx fs)) (ty : TyB H y T) (b1 : Bin1 X.K op C g) (bT : BinT X.K op C T) (ry : RelV y u) (hq : sp [.ref p, y] H Q E) :
    wpAny (model X.prog X.w) X.A (binaryOp1 op.info.2 (.ref p) u) (fun r s' => ∃ v, r = some v ∧ EP X pins σ Q v s') X.xe s := by
  obtain ⟨ox, od, J, _⟩ := StX.insC_at I (.inr ⟨dx, fs, ep⟩)
  obtain ⟨rc, e1, e2⟩ := b1.refl
  obtain ⟨fo, e3⟩ := bT.f
  obtain ⟨ro, e4⟩ := bT.r
  exact bin1_other I.kIn J (ty.looks I ry) (Bool.eq_false_iff.mpr fun q => by cases beq_iff_eq.mp q) b1.self b1.at_ e1 e2 (PySem.W.ksp_fillsT I.kIn e3 e4) bT.sub (PySem.W.Looks.of_pure rfl) e4 b1.fn (run_own F hr hx I (us := [.ref p, u]) (vs := [.ref p, y]) (.cons rfl (.cons ry .nil)) hq)
theorem op_ownB (F : FnR X.prog X.w X.K X.mg X.base CX k g sp) (hr : Room k X.A) (hx : Passes CX X E) : OpR X (binaryOp op) (rOwnB X.K op g sp E) := by
  intro pins s σ H x y v u Q I rx ry h
  obtain ⟨p, C, dx, fs, T, rfl, ep, ty, b1, bT, hq⟩ := h
  obtain rfl : v = Value.ref p := rx
  exact bin_of1 (one_B F hr hx I ep ty b1 bT ry hq)
theorem op_ownBK {K : PySem.W.Frag} (h : X.K = K) (F : FnR X.prog X.w X.K X.mg X.base CX k g sp) (hr : Room k X.A) (hx : Passes CX X E) : OpR X (binaryOp op) (rOwnB K op g sp E) := by
  subst h
  exact op_ownB F hr hx
/-- x op= y, y of a built-in type -/
theorem in_ownB (F : FnR X.prog X.w X.K X.mg X.base CX k g sp) (hr : Room k X.A) (hx : Passes CX X E) : InOp X op (fun x y H Q => (∀ p, x = .ref p → ∀ C dx fs, H p = some (.ins C dx fs) → noIn X.K C (dunderI op.info.2) = true) ∧ rOwnB X.K op g sp E x y H Q) := by
  intro pins s σ H x y u v Q I rx ry ⟨ni, h⟩
  obtain ⟨p, C, dx, fs, T, rfl, ep, ty, b1, bT, hq⟩ := h
  obtain rfl : u = Value.ref p := rx
  obtain ⟨ox, od, J, _⟩ := StX.insC_at I (.inr ⟨dx, fs, ep⟩)
  exact iop_of1 I.kIn J (ni p rfl C dx fs ep) (one_B F hr hx I ep ty b1 bT ry hq)
/-- x op= y, both of own classes -/
theorem in_own2 (F : FnR X.prog X.w X.K X.mg X.base CX k g sp) (hr : Room k X.A) (hx : Passes CX X E) : InOp X op (fun x y H Q => (∀ p, x = .ref p → ∀ C dx fs, H p = some (.ins C dx fs) → noIn X.K C (dunderI op.info.2) = true) ∧ rOwn2 X.K op g sp E x y H Q) := by
  intro pins s σ H x y v u Q I rx ry ⟨ni, h⟩
  obtain ⟨p, q, C, D, dx, dy, fs, gs, rfl, rfl, ep, eq, ⟨b1, b2⟩, hq⟩ := h
  obtain rfl : v = Value.ref p := rx
  obtain rfl : u = Value.ref q := ry
  obtain ⟨ox, od, J, _⟩ := StX.insC_at I (.inr ⟨dx, fs, ep⟩)
  obtain ⟨oy, oe, J2, _⟩ := StX.insC_at I (.inr ⟨dy, gs, eq⟩)
  have go := run_own F hr hx I (us := [.ref p, .ref q]) (vs := [.ref p, .ref q]) (.cons rfl (.cons rfl .nil)) hq
  refine iop_of1 I.kIn J (ni p rfl C dx fs ep) ?_
  rcases b2 with rfl | ⟨⟨g', b2⟩, ne, sub⟩
  · exact bin1_same I.kIn J J2.type b1.self b1.at_ b1.fn go
  · obtain ⟨rc, e1, e2⟩ := b1.refl
    obtain ⟨rd, e3, e4⟩ := b2.refl
    obtain ⟨c2, r2, k2, m2⟩ := PySem.W.ksp_first b2.self
    exact bin1_other I.kIn J J2.type (Bool.eq_false_iff.mpr fun z => ne (by cases beq_iff_eq.mp z; rfl)) b1.self b1.at_ e1 e2 (PySem.W.fills_K I.kIn k2 m2 b2.at_) sub (PySem.W.ksp_inPy I.kIn b2.at_ e3 e4) e3 b1.fn go
end
/-! ### lists of the same things -/
def rNeRefs (K : PySem.W.Frag) : R2 := fun x y H Q => ∃ (a b : Addr) (rs : List Addr), x = .ref a ∧ y = .ref b ∧ SqL K H a (rs.map V.ref) ∧ SqL K H b (rs.map V.ref) ∧ Q (.bl false) H
theorem op_neRefs {X : Cx} (hu : X.A.units < cLine) : OpR X (compareOp .NotEq) (rNeRefs X.K) := by
  intro pins s σ H x y v u Q I rx ry h
  obtain ⟨a, b, rs, rfl, rfl, ha, hb, q⟩ := h
  obtain rfl : v = Value.ref a := rx
  obtain rfl : u = Value.ref b := ry
  obtain ⟨i1, r1, h1, _⟩ := I.list ha
  obtain ⟨i2, r2, h2, _⟩ := I.list hb
  have eqs : ∀ (rs : List Addr) (i1 i2 : List Value), Vals (rs.map V.ref) i1 → Vals (rs.map V.ref) i2 → i1 = i2 := fun rs => by
    induction rs with
    | nil =>
      intro i1 i2 r1 r2
      cases r1
      cases r2
      rfl
    | cons z zs ih =>
      intro i1 i2 r1 r2
      cases r1 with
      | cons e1 t1 =>
        cases r2 with
        | cons e2 t2 =>
          rw [show _ = Value.ref z from e1, show _ = Value.ref z from e2, ih _ _ t1 t2]
  have e := eqs rs i1 i2 r1 r2
  subst e
  refine SeqAt.RcNeAt.lists (e := fun _ => true) h1.isList h2.isList rfl hu (fun j _ _ => SeqAt.EqAt.same _) X.prog X.w X.xe _ ?_
  rw [show (List.range _).all (fun _ => true) = true from List.all_eq_true.mpr fun _ _ => rfl]
  exact ⟨.bl false, H, I, rfl, q⟩
end OwR
end
section
/-! Walks over objects of own classes whose __iter__ gives a tuple's iterator. -/
namespace OwR
open PySem PySem.Spec PyProof.Rows L2
abbrev itTup (l : Addr) (i : Nat) : Obj := { cls := .type "tuple_iterator", data := .fields #[.ref l, .int i 0] }
/-- at it the iterator of the tuple at l, just made -/
def ItT (l it : Addr) : HO := .ext fun h => h.get? it = some (itTup l 0)
theorem itT_ok {P : Program} {w : World} {H : Hp} {h : Heap} {l it : Addr} (e : h.get? it = some (itTup l 0)) : ObjOk P w H h it (ItT l it) := ⟨e, ⟨_, e⟩, fun h1 h2 q k => k _ q⟩
theorem itT_get {X : Cx} {pins : List (Addr × Obj)} {σ : L2.St} {H : Hp} {s : Shared} {l it : Addr} (I : Inv X pins σ H s) (e : H it = some (ItT l it)) : s.heap.get? it = some (itTup l 0) := (I.hok it _ e).1
/-- iter(t), t a tuple -/
def rIterT (K : PySem.W.Frag) : List V → Hp → VK → Prop := fun xs H Q => ∃ (l : Addr) (zs : List V), xs = [.ref l] ∧ SqT K H l zs ∧ ∀ it, H it = none → Q (.ref it) (upd H it (ItT l it))
theorem call_iterT {X : Cx} : CallR X (.builtin "iter") (rIterT X.K) := by
  intro pins s σ H xs us Q I r h
  obtain ⟨l, zs, rfl, hq, q⟩ := h
  obtain rfl := Vals.ref1 r
  obtain ⟨its, rv, pl, hz⟩ := I.tuple hq
  refine Calls.call_function_entry (by decide +kernel) (by decide +kernel) PySem.W.kdk_entry_iter (PySem.W.kdk_args_iter _) ?_
  unfold Builtin.«iter»
  refine wpAny_bind (m := someArgs "iter" 1 2 _) (wpAny_of_eq (a := [Value.ref l]) (by first | rfl | kernel_rfl!) ?_)
  show wpAny _ _ (pyIter (.ref l) >>= fun v => ret v) _ _ _
  refine wpAny_bind (wpAny_pyIter_tuple (show s.heap.IsTuple l its.toArray from pl) ?_)
  exact wpAny_pure ⟨_, rfl, .ref s.heap.objs.size, _, I.laid (t' := s.toks) (fun b u e => Heap.get?_push_of_some _ e) (Nat.le_refl _) (itT_ok (Heap.get?_push_size _ rfl)), rfl, q _ (I.hok.fresh (Nat.le_refl _))⟩
/-- .. as young as the call -/
def rIterTN (K : PySem.W.Frag) (n : Nat) : List V → Hp → VK → Prop := fun xs H Q => ∃ (l : Addr) (zs : List V), xs = [.ref l] ∧ SqT K H l zs ∧ ∀ it, H it = none → n ≤ it → Q (.ref it) (upd H it (ItT l it))
theorem call_iterTN {X : Cx} : CallR X (.builtin "iter") (rIterTN X.K X.s_0.heap.objs.size) := by
  intro pins s σ H xs us Q I r h
  obtain ⟨l, zs, rfl, hq, q⟩ := h
  obtain rfl := Vals.ref1 r
  obtain ⟨its, rv, pl, hz⟩ := I.tuple hq
  refine Calls.call_function_entry (by decide +kernel) (by decide +kernel) PySem.W.kdk_entry_iter (PySem.W.kdk_args_iter _) ?_
  unfold Builtin.«iter»
  refine wpAny_bind (m := someArgs "iter" 1 2 _) (wpAny_of_eq (a := [Value.ref l]) (by first | rfl | kernel_rfl!) ?_)
  show wpAny _ _ (pyIter (.ref l) >>= fun v => ret v) _ _ _
  refine wpAny_bind (wpAny_pyIter_tuple (show s.heap.IsTuple l its.toArray from pl) ?_)
  exact wpAny_pure ⟨_, rfl, .ref s.heap.objs.size, _, I.laid (t' := s.toks) (fun b u e => Heap.get?_push_of_some _ e) (Nat.le_refl _) (itT_ok (Heap.get?_push_size _ rfl)), rfl, q _ (I.hok.fresh (Nat.le_refl _)) I.sz⟩
/-! ### a def whose promise may speak of where the call stands -/
def FnS (P : Program) (w : World) (K : PySem.W.Frag) (mg : Str → Option Value) (base : Heap) (CX : CXT) (k : Nat) (f : Addr) (fd : FuncData) (ps : List Str) (sp : Shared → Sp) : Prop :=
  ∀ (A : Around) (outer : List Env) (s : Shared) (H : Hp) (args : Args) (us : List Value) (vs : List V) (Q : VK) (E : XK), Room k A → Env0 P w K mg base A outer s H → BindsTo s fd args (ps.zip us) → Vals vs us → sp s vs H Q E →
    codeAny (model P w) A (.call (.ref f) args) (CR CX outer P w H s Q E) s
section
variable {CX : CXT} {P : Program} {w : World} {K : PySem.W.Frag} {mg : Str → Option Value} {base : Heap} {k : Nat} {f : Addr} {name qual : Str} {params : Arguments} {body : List Stmt} {scope : Scope} {dV kV doc pm cdv ct oc : Value} {an od : Option Addr}
  {osl : Array (Option Value)} {N ps : List Str} {sp : Shared → Sp}
theorem fn_ofS (lk : K.lookup f = some ⟨oc, od, .func (PySem.W.fnOf name qual params body scope dV kV doc pm an cdv ct), osl⟩) (hcd : PySem.W.codeIn K cdv qual = true) (S : FnScope N ps scope)
    (len : ∀ s vs H Q E, sp s vs H Q E → vs.length = ps.length)
    (hbody : ∀ (A : Around) (outer : List Env) (s : Shared) (H : Hp) (vs : List V) (Q : VK) (E : XK), Room k (A.deeper (envOfC qual scope s.heap.objs.size f cdv)) → sp s vs H Q E →
      ∃ t, PSs (cxOf CX P w K mg base N qual scope f cdv A outer s H E) body t ∧ t { nx := fun _ H' => Q .non H', rt := Q } (start N vs) H) :
    FnS P w K mg base CX (k + 1) f (PySem.W.fnOf name qual params body scope dV kV doc pm an cdv ct) ps sp := by
  intro A outer s H args us vs Q E hr e0 hb r hsp
  have hl := len _ _ _ _ _ hsp
  have KS : K.In s.heap := e0.mod.kin.keeps fun b o e => (e0.bs b o e).1
  have lims : s.heap.NoLimit := e0.mod.nolimit.keeps fun b o e => (e0.bs b o e).1
  have kinds : ∀ y ∈ ps.zip us, scope.names.lookup y.1 = some .local ∨ (scope.names.lookup y.1 = some .cell ∧ ((cellsFrom (s.heap.objs.size + 1) scope.names []).lookup y.1).isSome = true) := fun y hy =>
    (S.par y.1 (List.of_mem_zip hy).1).imp id fun q => ⟨q, PySem.W.cellsFrom_some _ _ _ (.inl q)⟩
  refine codeAny_call_function hr.depth (KS _ _ lk) rfl S.co S.gen rfl (PySem.W.codeRec_of KS hcd) (hb _ _ _ _ ?_)
  refine wpAny_newFunctionEnv_cells S.kind kinds fun env he s1 x => ?_
  subst he
  refine ⟨lims.keeps x.toInCall.keep, codeAny_func ?_⟩
  obtain ⟨t, ht, hq⟩ := hbody A outer s H vs Q E (hr.deeper _) hsp
  have I : Inv (cxOf CX P w K mg base N qual scope f cdv A outer s H E) [] (start N vs) H s1 := inv_start S hr.hd e0 hl r x
  refine wpAny_mono (ht.run [] s1 (start N vs) H _ I hq) (fun fl s' hs => ?_) fun _ _ z => z
  have done : ∀ {σ' : L2.St} {H' : Hp} {v : V} {u : Value}, Inv (cxOf CX P w K mg base N qual scope f cdv A outer s H E) [] σ' H' s' → RelV v u → Q v H' → CE outer P w H s Q u s' :=
    fun {σ' H' v u} J rv q => ⟨v, H', J.os, J.bare, J.base, J.hok, rv, q⟩
  cases fl with
  | ret u =>
    obtain ⟨v, σ', H', J, rv, q⟩ := hs
    exact done J rv q
  | next =>
    obtain ⟨σ', H', J, q⟩ := hs
    exact done (v := V.non) (u := Value.none) J rfl q
  | brk => exact (hs.elim fun _ z => z.elim fun _ z => z.2.elim)
  | cont => exact (hs.elim fun _ z => z.elim fun _ z => z.2.elim)
end
/-- def __iter__(self): return iter(self.fld) -/
def spIt (C : Addr) (K : PySem.W.Frag) (fld : Str) : Shared → Sp := fun s vs H Q _ => ∃ (a dx l : Addr) (fs : List (Str × V)) (zs : List V), vs = [.ref a] ∧ H a = some (.ins C dx fs) ∧ fs.lookup fld = some (.ref l) ∧ SqT K H l zs ∧ ∀ it, H it = none → s.heap.objs.size ≤ it → Q (.ref it) (upd H it (ItT l it))
/-- .. at a call with its arguments by place -/
def FnSR (P : Program) (w : World) (K : PySem.W.Frag) (mg : Str → Option Value) (base : Heap) (CX : CXT) (k : Nat) (f : Addr) (sp : Shared → Sp) : Prop :=
  ∀ (A : Around) (outer : List Env) (s : Shared) (H : Hp) (us : List Value) (vs : List V) (Q : VK) (E : XK), Room k A → Env0 P w K mg base A outer s H → Vals vs us → sp s vs H Q E →
    codeAny (model P w) A (.call (.ref f) ⟨us, []⟩) (CR CX outer P w H s Q E) s
theorem FnS.raw {P : Program} {w : World} {K : PySem.W.Frag} {mg : Str → Option Value} {base : Heap} {CX : CXT} {k : Nat} {f : Addr} {fd : FuncData} {ps : List Str} {sp : Shared → Sp} (F : FnS P w K mg base CX k f fd ps sp) (len : ∀ s vs H Q E, sp s vs H Q E → vs.length = ps.length)
    (hb : Binds K fd ps []) : FnSR P w K mg base CX k f sp := fun A outer s H us vs Q E hr e0 r hs => by
  have hl : (us ++ []).length = ps.length := by
    rw [List.append_nil, ← r.length]
    exact len _ _ _ _ _ hs
  have b := hb s us (e0.mod.kin.keeps fun b o e => (e0.bs b o e).1) hl
  rw [List.append_nil] at b
  exact F A outer s H ⟨us, []⟩ us vs Q E hr e0 b r hs
structure OwnIt (K : PySem.W.Frag) (C f : Addr) (fld : Str) : Prop where
  cls : Cls K C
  na : NoAttr K C fld
  at_ : PySem.W.findIn K (.ref C) "__iter__" = some (some (.ref f))
  fn : PySem.W.isFn K (.ref f) = true
/-- over an object whose __iter__ gives the iterator of the tuple at l -/
def iOwn (K : PySem.W.Frag) (f : Addr) (fld : Str) (te : TE) : TI := fun σ H R => te σ H fun x H1 => ∃ (a C dx l : Addr) (fs : List (Str × V)) (zs : List V), x = .ref a ∧ H1 a = some (.ins C dx fs) ∧ OwnIt K C f fld ∧ fs.lookup fld = some (.ref l) ∧ SqT K H1 l zs ∧ R (Itt K l) H1
theorem tup_next {M : Model} {A : Around} {E : Value → Shared → Prop} {s : Shared} {it l : Addr} {Q : Value → Shared → Prop} (h : s.heap.get? it = some (itTup l 0)) (q : Q (.ref it) s) : PySem.W.OwitIt M A Q E (.ref it) s := by
  unfold PySem.W.OwitIt
  exact wpAny_specialOf (name := Str.ofString "__next__") (⟨_, h, rfl⟩ : s.TypeIs (.ref it) "tuple_iterator") PySem.F.slot_tuple_iterator_next.lookup q
theorem pi_own {X : Cx} {CX : CXT} {k : Nat} {f : Addr} {fld : Str} {E : XK} {tg e : Expr} {te : TE} (he : PE X e te) (F : ∀ C, OwnIt X.K C f fld → FnSR X.prog X.w X.K X.mg X.base CX k f (spIt C X.K fld)) (hr : Room k X.A) (hx : Passes CX X E) : PI X tg e (iOwn X.K f fld te) := by
  refine ⟨fun pins s σ H R I h => ?_⟩
  refine thn (he.run pins s σ H _ I h) fun u s1 ⟨x, H1, I1, rx, a, C, dx, l, fs, zs, ex, ea, c, lk, sq, hq⟩ => ?_
  subst ex
  obtain rfl : u = Value.ref a := rx
  obtain ⟨ox, od, J, _⟩ := StX.insC_at I1 (.inr ⟨dx, fs, ea⟩)
  obtain ⟨mm, fr⟩ := I1.fr
  have sp0 : spIt C X.K fld s1 [.ref a] H1 (fun v H2 => ∃ it, v = .ref it ∧ H1 it = none ∧ s1.heap.objs.size ≤ it ∧ H2 = upd H1 it (ItT l it)) E := ⟨a, dx, l, fs, zs, rfl, ea, lk, sq, fun it e n => ⟨it, rfl, e, n, rfl⟩⟩
  refine PySem.W.owit_iter fr I1.ok.mod.kin J c.at_ c.fn (wpAny_call (codeAny_mono (F C c X.A X.stack s1 H1 [.ref a] [.ref a] _ E hr I1.env0 (.cons rfl .nil) sp0) fun r s' z => ?_))
  match r, z with
  | .error er, z => exact hx pins σ H1 s1 er s' I1 z
  | .ok (.ret v), z =>
    obtain ⟨y, H2, os, br, un, ok, ry, it, ey, e1, hn, eH⟩ := z
    subst ey
    subst eH
    obtain rfl : v = Value.ref it := ry
    have I2 : Inv X pins σ (upd H1 it (ItT l it)) s' := I1.call' os un ok br fun b m => by cases m
    have eo := itT_get I2 upd_same
    refine tup_next eo ?_
    have e2 : upd H1 it (ItT l it) it = some (.ext fun h => h.get? it = some (itTup l 0)) := upd_same
    have I3 := ItX.inv_drop I2 e2
    rw [ItX.dropH_upd e1] at I3
    have fp := ItX.inv_fp I2 e2 (Nat.le_trans I1.sz hn)
    rw [ItX.dropH_upd e1] at fp
    refine ⟨it, [it], _, _, H1, rfl, I3, turn_tuple l it, ⟨_, eo, rfl, rfl⟩, fun b hb => ?_, hq⟩
    obtain rfl : b = it := by simpa using hb
    exact fp
end OwR
end
section
/-! list(o), o an object whose __iter__ gives a tuple's iterator and whose __len__ its length. -/
namespace OwR
open PySem PySem.Spec PyProof.Rows L2
section
variable {X : Cx} {pins : List (Addr × Obj)} {σ : L2.St} {H : Hp} {s : Shared}
/-- a list has been filled, an iterator has turned -/
theorem listed {S it : Addr} {xs ys : List V} {acc : Array Value} {c : Nat} {h' : Heap} {t' : Nat} (I : Inv X pins σ H s) (fp : FpOk X pins H it) (hS : H S = some (.lst ys)) (k : ∀ b o, b ≠ S → b ≠ it → s.heap.get? b = some o → h'.get? b = some o)
    (eS : h'.get? S = some ({ cls := .type "list", dict := none, data := .seq acc c, slots := #[] } : Obj)) (rv : Vals xs acc.toList) (hz : xs.length ≤ sizeLine) : Inv X pins σ (upd H S (.lst xs)) { s with heap := h', toks := t' } := by
  have nS : ∀ {b : Addr} {u : HO}, H b = some u → (∀ zs, u ≠ .lst zs) → b ≠ S := fun {b u} e n z => by
    rw [z, hS] at e
    exact n ys (Option.some.inj e).symm
  have nN : ∀ {b : Addr}, H b = none → b ≠ S := fun {b} e z => by
    rw [z, hS] at e
    cases e
  have nI : ∀ {b : Addr} {u : HO}, H b = some u → b ≠ it := fun {b u} e z => by
    rw [z, fp.1] at e
    cases e
  have ni : ∀ {b : Addr}, b ∉ [it] → b ≠ it := fun {b} m z => m (List.mem_singleton.mpr z)
  refine I.step (g' := s.gens) (d' := s.drawn) (ch := [it]) (fun b m => ?_) (fun b o _ _ m e n => k b o (nN n) (ni m) e) (fun b o _ _ m e n => ⟨o.slots, k b o (nN n) (ni m) e⟩) (fun b o m e n => by rw [upd_ne (nN n)]; exact n) (fun b o m e => ?_)
    (fun b zs e => by rw [upd_ne (nS e fun _ z => by cases z)]; exact e) (fun b o u e => by rw [upd_ne (nS e fun _ z => by cases z)]; exact e) (fun b ps e => ⟨#[], by rw [upd_ne (nS e fun _ z => by cases z), e]; simp⟩) (fun m hm => ?_) (fun b u e => ?_) I.bare
  · obtain rfl : b = it := by simpa using m
    exact ⟨fp.2.2.2.1, fp.2.1, fp.2.2.2.2.1, fp.2.2.2.2.2⟩
  · by_cases c : b = S
    · subst c
      exact ⟨_, eS⟩
    · exact ⟨o, k b o c (ni m) e⟩
  · obtain ⟨o, es, ep, ho, r⟩ := hm
    exact ⟨o, es, ep, k _ o (nN I.free) (Ne.symm fp.2.1) ho, r⟩
  · by_cases c : b = S
    · subst c
      rw [upd_same] at e
      cases e
      exact ⟨hz, acc.toList, _, rv, eS⟩
    · rw [upd_ne c] at e
      refine (I.hok b u e).stay (fun d v hd q => k d v ?_ ?_ q) (fun d z => ?_) fun d zs z => ?_
      · rcases hd with z | z
        · rw [z]
          exact c
        · exact nS z fun _ w => by cases w
      · rcases hd with z | z
        · rw [z]
          exact nI e
        · exact nI z
      · rw [upd_ne (nS z fun _ w => by cases w)]
        exact z
      · rw [upd_ne (nS z fun _ w => by cases w)]
        exact z
end
theorem items_all {its : List Value} {acc : Array Value} (h : ItemsOf (fun i v => its.toArray[i]? = some v) acc its.toArray.size) : acc.toList = its := by
  refine List.ext_getElem? fun i => ?_
  obtain ⟨h1, h2⟩ := h
  have h1' : acc.size = its.length := by simpa using h1
  cases e : acc.toList[i]? with
  | some v =>
    have e2 : acc[i]? = some v := by rw [← Array.getElem?_toList]; exact e
    have e3 : its.toArray[i]? = some v := h2 i v e2
    rw [List.getElem?_toArray] at e3
    exact e3.symm
  | none =>
    have : acc.toList.length ≤ i := List.getElem?_eq_none_iff.mp e
    rw [Array.length_toList, h1'] at this
    exact (List.getElem?_eq_none this).symm
/-- len(self) is len(self.fld) -/
def spLn (C : Addr) (K : PySem.W.Frag) (fld : Str) : Sp := fun vs H Q _ => ∃ (a dx l : Addr) (fs : List (Str × V)) (zs : List V), vs = [.ref a] ∧ H a = some (.ins C dx fs) ∧ fs.lookup fld = some (.ref l) ∧ SqT K H l zs ∧ Q (.int (zs.length : Nat)) H
def rListO (K : PySem.W.Frag) (f g : Addr) (fld : Str) : List V → Hp → VK → Prop := fun xs H Q => ∃ (a C dx l : Addr) (fs : List (Str × V)) (zs : List V), xs = [.ref a] ∧ H a = some (.ins C dx fs) ∧ OwnIt K C f fld ∧ Len1 K C g ∧ fs.lookup fld = some (.ref l) ∧ SqT K H l zs ∧ ∀ q, H q = none → Q (.ref q) (upd H q (.lst zs))
theorem asInt_of (n : Int) (t : Tok) : asInt? (.int n t) = pure (some n) := rfl
/-- the hint of how many there are -/
theorem hint_own {prog : Program} {w : World} {A : Around} {E : Value → Shared → Prop} {s : Shared} {K : PySem.W.Frag} {a C g : Addr} {ox : Obj} {od : Option Obj} {Q : Bool → Shared → Prop} (X : K.In s.heap) (J : PySem.W.InstAt s.heap a ox C od) (c : Len1 K C g)
    (h : ∀ E' : Value → Shared → Prop, wpAny (model prog w) A (call (.builtin "len") [.ref a]) (fun v s' => ∃ (n : Int) (t : Tok), v = .int n t ∧ n.toNat ≤ sizeLine ∧ Q (n != 0) s') E' s) : wpAny (model prog w) A (Builtin.List.listLengthHint (.ref a)) Q E s := by
  unfold Builtin.List.listLengthHint
  refine wpAny_bind (wpAny_bind (J.type.here ((PySem.W.looks_findIn X c.at_).here ?_)))
  refine PySem.W.KFB.if_not rfl ?_
  refine wpAny_ite_split (fun _ => ?_) (fun z => absurd rfl z)
  refine wpAny_bind (wpAny_rule ?_)
  refine wpAny_bind (wpAny_attempt (wpAny_mono (h _) (fun v s' q => ?_) fun _ _ z => z))
  obtain ⟨n, t, rfl, hn, q⟩ := q
  refine wpAny_bind (m := asInt? (.int n t)) (wpAny_pure ?_)
  exact PySem.W.KFB.if_not (notLongL hn) (wpAny_pure q)
theorem call_listO {X : Cx} {k : Nat} {f g : Addr} {fld : Str} (F : ∀ C, OwnIt X.K C f fld → FnSR X.prog X.w X.K X.mg X.base CX0 k f (spIt C X.K fld)) (G : ∀ C, Len1 X.K C g → OwnIt X.K C f fld → FnR X.prog X.w X.K X.mg X.base CX0 k g (spLn C X.K fld)) (hc : X.calm = true) (hr : Room (k + 3) X.A) : CallR X (.type "list") (rListO X.K f g fld) := by
  intro pins s σ H xs us Q I rv h
  obtain ⟨a, C, dx, l, fs, zs, rfl, ha, cI, cL, lk, sq, q⟩ := h
  obtain rfl := Vals.ref1 rv
  have fr0 : H s.heap.objs.size = none := I.hok.fresh (Nat.le_refl _)
  refine callType_codes (Q₁ := fun obj t => obj = .ref s.heap.objs.size ∧ t = { s with heap := s.heap.push { cls := .type "list", data := .seq #[] } }) PySem.F.called_list (PySem.F.typeCall_list_1 _) PySem.F.entry_list_init (code_list_new _ ⟨rfl, rfl⟩) fun obj t ht => ?_
  obtain ⟨rfl, rfl⟩ := ht
  have hS : (s.heap.push { cls := .type "list", data := .seq #[] }).get? s.heap.objs.size = some { cls := .type "list", data := .seq #[] } := Heap.get?_push_size _ rfl
  refine ⟨⟨_, hS, rfl⟩, PySem.F.args_list_init_2 _ _, ?_⟩
  have I1 : Inv X pins σ (upd H s.heap.objs.size (.lst [])) { s with heap := s.heap.push { cls := .type "list", data := .seq #[] } } := I.lnew (its := []) (t' := s.toks) .nil (Nat.zero_le _)
  generalize eSz : s.heap.objs.size = S at *
  show wpAny _ _ (do let old ← Builtin.List.listItems (.ref S); Builtin.List.listUpdate (.ref S) (fun _ => #[]); letGo old.toList.reverse; Builtin.List.listExtendWith (.ref S) (.ref a) .none) _ _ _
  refine wpAny_bind ?_
  unfold Builtin.List.listItems
  refine wpAny_bind (wpAny_seqItems hS rfl (wpAny_pure ?_))
  show wpAny _ _ (updateSeq S (fun _ => #[]) >>= fun _ => letGo (#[] : Array Value).toList.reverse >>= fun _ => Builtin.List.listExtendWith (.ref S) (.ref a) .none) _ _ _
  refine wpAny_bind (wpAny_updateSeq hS rfl ?_)
  have I2 := I1.lset (f := fun _ => #[]) (its := []) (its' := []) (ys := []) (t' := s.toks) upd_same hS rfl .nil (Nat.zero_le _)
  rw [upd_upd] at I2
  refine wpAny_bind (wpAny_letGo ?_)
  have ha2 : upd H S (.lst []) a = some (.ins C dx fs) := by
    rw [upd_ne (ne_of_none ha fr0)]
    exact ha
  have sq2 : SqT X.K (upd H S (.lst [])) l zs := sq.elim (fun r => .inl (r.elim (fun e => .inl (by rw [upd_ne (ne_of_none e fr0)]; exact e)) fun ⟨o, e⟩ => .inr ⟨o, by rw [upd_ne (ne_of_none e fr0)]; exact e⟩)) .inr
  have eS2 : upd H S (.lst []) S = some (.lst []) := upd_same
  have done : ∀ s', Inv X pins σ (upd (upd H S (.lst [])) S (.lst zs)) s' → EP X pins σ Q (.ref S) s' := fun s' J => by
    rw [upd_upd] at J
    exact ⟨.ref S, _, J, rfl, q S fr0⟩
  generalize upd H S (.lst []) = H2 at I2 ha2 sq2 eS2 done
  generalize ({ s with heap := ((s.heap.push { cls := .type "list", data := .seq #[] }).update S (Obj.mapSeq fun _ => #[])), toks := s.toks } : Shared) = s2 at I2 ⊢
  have sz := sizeLine_eq
  have nSa : S ≠ a := fun z => by
    rw [z, ha2] at eS2
    cases eS2
  obtain ⟨ox, od, J, _⟩ := StX.insC_at I2 (.inr ⟨dx, fs, ha2⟩)
  obtain ⟨mm, fr⟩ := I2.fr
  obtain ⟨itz, rvz, plz, hz⟩ := I2.tuple sq2
  unfold Builtin.List.listExtendWith
  refine wpAny_bind (J.type.here ?_)
  have t1 : Builtin.List.listSameRef (.ref S) (.ref a) = false := by simp [Builtin.List.listSameRef, nSa]
  have t2 : (Value.ref C == Value.type "list") = false := rfl
  have t3 : (Value.ref C == Value.type "tuple") = false := rfl
  simp only [t3, t2, t1, Bool.false_eq_true, Bool.or_false, if_false]
  have sp0 : spIt C X.K fld s2 [.ref a] H2 (fun v G2 => ∃ it, v = .ref it ∧ H2 it = none ∧ s2.heap.objs.size ≤ it ∧ G2 = upd H2 it (ItT l it)) E0 := ⟨a, dx, l, fs, zs, rfl, ha2, lk, sq2, fun it e n => ⟨it, rfl, e, n, rfl⟩⟩
  refine wpAny_bind (PySem.W.owit_iter fr I2.ok.mod.kin J cI.at_ cI.fn (wpAny_call (codeAny_mono (F C cI X.A.in1.in1 X.stack s2 H2 [.ref a] [.ref a] _ E0 (hr.in1.in1.mono (Nat.le_succ k)) I2.env0.in1.in1 (.cons rfl .nil) sp0) fun r s' z => ?_)))
  match r, z with
  | .error er, z => exact z.elim
  | .ok (.ret v), z =>
    obtain ⟨y, G3, os, br, un, ok, ry, it, ey, e1, hn, eH⟩ := z
    subst ey
    subst eH
    obtain rfl : v = Value.ref it := ry
    have I3 : Inv X pins σ (upd H2 it (ItT l it)) s' := I2.call' os un ok br fun b m => by cases m
    have nlit : l ≠ it := fun e => by
      obtain ⟨o, eo, _⟩ := plz
      exact absurd (Nat.lt_of_lt_of_le (Heap.lt_size eo) (e ▸ hn)) (Nat.lt_irrefl _)
    have mono : ∀ {b : Addr} {u : HO}, H2 b = some u → upd H2 it (ItT l it) b = some u := fun {b u} e => by
      rw [upd_ne (ne_of_none e e1)]
      exact e
    have ha3 := mono ha2
    have eS3 := mono eS2
    have sq3 : SqT X.K (upd H2 it (ItT l it)) l zs := sq2.elim (fun r => .inl (r.elim (fun e => .inl (mono e)) fun ⟨o, e⟩ => .inr ⟨o, mono e⟩)) .inr
    have e2 : upd H2 it (ItT l it) it = some (.ext fun h => h.get? it = some (itTup l 0)) := upd_same
    have fp0 := ItX.inv_fp I3 e2 (Nat.le_trans I2.sz hn)
    rw [ItX.dropH_upd e1] at fp0
    have loop : ∀ s4, Inv X pins σ (upd H2 it (ItT l it)) s4 → codeAny (model X.prog X.w) X.A.in1 (.builtin "list.extend.loop" ⟨[.ref S, .ref it, .none], []⟩) (wants (fun r t => r = .none ∧ EP X pins σ Q (.ref S) t) X.xe) s4 := fun s4 I4 => by
      have eo := itT_get I4 upd_same
      obtain ⟨iz, rz, pz, lz⟩ := I4.tuple sq3
      obtain ⟨z1, l1, c1, r1, _, f1⟩ := I4.lstM eS3
      cases r1
      have W := Walks.tuple (prog := X.prog) (w := X.w) (A := X.A.in1.in1) (I.ok.hd hc) it l nlit iz.toArray
      have I5 := ItX.inv_drop I4 e2
      rw [ItX.dropH_upd e1] at I5
      have nSf : S ∉ [it, l] := fun m => by
        rcases List.mem_cons.mp m with z | m
        · rw [z, e1] at eS2
          cases eS2
        · obtain ⟨o, e3, c3, d3⟩ := pz
          rw [← List.mem_singleton.mp m, f1] at e3
          cases e3
          exact absurd (show Value.type "list" = Value.type "tuple" from c3) (by decide)
      refine codeAny_extend_loopS W.toS (by rw [List.size_toArray, ← rz.length]; exact lz) S nSf .none iz.toArray.size 0 s4 #[] c1 rfl (Nat.zero_le _) ⟨⟨_, eo, rfl, rfl⟩, pz⟩ f1 (ItemsOf.nil _) fun t acc c2 mv f2 ic => ?_
      refine ⟨rfl, done t ?_⟩
      have J5 := listed (xs := zs) (acc := acc) (c := c2) (h' := t.heap) (t' := t.toks) I5 fp0 eS2 (fun b o n1 n2 e => mv.heap b o (fun m => (List.mem_cons.mp m).elim n1 fun m => n2 (List.mem_singleton.mp m)) e) f2 (by rw [items_all ic]; exact rz) lz
      rw [Moved.eq_with mv]
      exact J5
    refine tup_next (itT_get I3 upd_same) ?_
    obtain ⟨ox3, od3, J3, _⟩ := StX.insC_at I3 (.inr ⟨dx, fs, ha3⟩)
    obtain ⟨m3, fr3⟩ := I3.fr
    refine wpAny_bind (wpAny_holding (hint_own I3.kIn J3 cL fun E' => ?_))
    refine PySem.W.len_K fr3 I3.ok.mod.kin J3 cL.at_ cL.fn (wpAny_call (codeAny_mono (G C cL cI X.A.in1.in1.in1 X.stack s' _ [.ref a] [.ref a] (fun v G4 => v = .int (zs.length : Nat) ∧ G4 = upd H2 it (ItT l it)) E0 hr.in1.in1.in1 I3.env0.in1.in1.in1 (.cons rfl .nil) ⟨a, dx, l, fs, zs, rfl, ha3, lk, sq3, rfl, rfl⟩) fun r2 s5 z2 => ?_))
    match r2, z2 with
    | .error er, z2 => exact z2.elim
    | .ok (.ret v2), z2 =>
      obtain ⟨y2, G5, os2, br2, un2, ok2, ry2, ey2, eG⟩ := z2
      subst ey2
      subst eG
      obtain ⟨tk, rfl⟩ := ry2
      have I5 : Inv X pins σ (upd H2 it (ItT l it)) { s5 with toks := s5.toks + 1 } := (I3.call' os2 un2 ok2 br2 fun b m => by cases m).tok _
      refine ⟨⟨Int.natCast_nonneg _, by have : zs.length ≤ 16777216 := by rw [← sz]; exact hz
                                        omega⟩, _, _, rfl, by rw [Int.toNat_natCast]; exact hz, ?_⟩
      refine wpAny_ite_split (fun _ => ?_) (fun _ => wpAny_pure ⟨plainId_quiet PySem.F.plain_extend_loop _, loop _ I5⟩)
      refine wpAny_bind (wpAny_rule ?_)
      refine wpAny_bind ?_
      show wpAny _ _ (updateSeq S (·.push .none) >>= fun _ => updateSeq S (·.pop)) _ _ _
      obtain ⟨z6, l6, c6, r6, _, f6⟩ := I5.lstM eS3
      cases r6
      refine wpAny_bind (wpAny_updateSeq f6 rfl ?_)
      have I6 := I5.lset (f := (·.push Value.none)) (its := []) (its' := [Value.none]) (ys := [.non]) (t' := s5.toks + 1) eS3 f6 (by simp) (.cons rfl .nil) (by rw [List.length_singleton, sz]; decide)
      obtain ⟨z7, l7, c7, r7, _, f7⟩ := I6.lstM upd_same
      obtain ⟨u7, rfl, ru7⟩ := r7.one
      refine wpAny_updateSeq f7 rfl ?_ (by show 1 ≤ sizeLine; rw [sz]; decide) (by show 0 ≤ sizeLine + 1; exact Nat.zero_le _)
      have I7 := I6.lset (f := (·.pop)) (its := [u7]) (its' := []) (ys := []) (t' := s5.toks + 1) upd_same f7 (by rfl) .nil (Nat.zero_le _)
      rw [upd_upd] at I7
      have back : upd (upd H2 it (ItT l it)) S (.lst []) = upd H2 it (ItT l it) := funext fun b => by
        by_cases e : b = S
        · rw [e, upd_same, eS3]
        · rw [upd_ne e]
      rw [back] at I7
      exact wpAny_pure ⟨plainId_quiet PySem.F.plain_extend_loop _, loop _ I7⟩
end OwR
end
section
/-! def f(a, .., *v, k): called with the keyword; instances made so. -/
namespace OwR
open PySem PySem.Spec PyProof.Rows L2
/-- a promise by places and by the values of given keywords -/
def FnRK (P : Program) (w : World) (K : PySem.W.Frag) (mg : Str → Option Value) (base : Heap) (CX : CXT) (k : Nat) (f : Addr) (ks : List Str) (sp : List V → Sp) : Prop :=
  ∀ (A : Around) (outer : List Env) (s : Shared) (H : Hp) (us ws : List Value) (vs zs : List V) (Q : VK) (E : XK), Room k A → Env0 P w K mg base A outer s H → Vals vs us → Vals zs ws → sp zs vs H Q E →
    codeAny (model P w) A (.call (.ref f) ⟨us, ks.zip ws⟩) (CR CX outer P w H s Q E) s
section
variable {CX : CXT} {P : Program} {w : World} {K : PySem.W.Frag} {mg : Str → Option Value} {base : Heap} {k : Nat} {f : Addr} {name qual : Str} {params : Arguments} {body : List Stmt} {scope : Scope} {dV kV doc pm cdv ct oc : Value} {an od : Option Addr}
  {osl : Array (Option Value)} {N ps : List Str} {sp : Sp}
theorem fn_starko {pv kn : Str} (lk : K.lookup f = some ⟨oc, od, .func (PySem.W.fnOf name qual params body scope dV kV doc pm an cdv ct), osl⟩) (hcd : PySem.W.codeIn K cdv qual = true) (S : FnScope N (ps ++ [kn, pv]) scope) (hCX : StX.CXUp CX)
    (hb : ∀ (us rest : List Value) (y : Value), us.length = ps.length → bindArgs (PySem.W.fnOf name qual params body scope dV kV doc pm an cdv ct) ⟨us ++ rest, [(kn, y)]⟩ = (newTuple rest >>= fun t => pure (ps.zip us ++ [(kn, y), (pv, t)])))
    (hbody : ∀ (A : Around) (outer : List Env) (s : Shared) (H : Hp) (vs : List V) (Q : VK) (E : XK), Room k (A.deeper (envOfC qual scope s.heap.objs.size f cdv)) → sp vs H Q E →
      ∃ t, PSs (cxOf CX P w K mg base N qual scope f cdv A outer s H E) body t ∧ t { nx := fun _ H' => Q .non H', rt := Q } (start N vs) H) :
    FnRK P w K mg base CX (k + 1) f [kn] (fun zs vs H Q E => ∃ as rest y, zs = [y] ∧ vs = as ++ rest ∧ as.length = ps.length ∧ rest.length ≤ sizeLine ∧ ∀ p, H p = none → sp (as ++ [y, V.ref p]) (upd H p (.tup rest)) Q E) := by
  intro A outer s H us ws vs zs Q E hr e0 r rz hsp
  obtain ⟨as, rest, y, rfl, rfl, hl, hz, hq⟩ := hsp
  obtain ⟨u1, u2, rfl, r1, r2⟩ := StX.vals_split r
  obtain ⟨yv, rfl, ry⟩ := rz.one
  have fresh : H s.heap.objs.size = none := e0.hok.fresh (Nat.le_refl _)
  have l1 : u1.length = ps.length := r1.length.symm.trans hl
  have l2 : u2.length ≤ sizeLine := r2.length ▸ hz
  refine StX.run_bnd (args := ⟨u1 ++ u2, [kn].zip [yv]⟩) lk hcd S hr e0 (G := fun xs G2 => ∃ p, H p = none ∧ xs = as ++ [y, V.ref p] ∧ G2 = upd H p (.tup rest)) (fun A' Ex Q' h => ?_) fun s2 G2 xs g hr' => ?_
  · show wpAny _ _ (bindArgs _ ⟨u1 ++ u2, [(kn, yv)]⟩) _ _ _
    rw [hb u1 u2 yv l1]
    refine wpAny_bind (wpAny_newTuple (wpAny_pure ?_) l2)
    have laid : ObjOk P w (upd H s.heap.objs.size (.tup rest)) (s.heap.push ({ cls := .type "tuple", data := .seq u2.toArray } : Obj)) s.heap.objs.size (.tup rest) := ⟨hz, u2, r2, ⟨_, Heap.get?_push_size _ rfl, rfl, _, rfl⟩⟩
    have un := StX.un_laid (fs := frs outer) (s := s) (o := ({ cls := .type "tuple", data := .seq u2.toArray } : Obj)) (u := .tup rest) fresh
    have z := h _ _ (as ++ [y, V.ref s.heap.objs.size]) (u1 ++ [yv, Value.ref s.heap.objs.size]) (StX.env0_laid e0 laid) un rfl (fun e s' => hCX outer s H _ _ E e s' un (fun b o q => Heap.get?_push_of_some _ q) rfl) (r1.append (.cons ry (.cons rfl .nil)))
      (by rw [List.length_append, List.length_append, hl] <;> rfl) ⟨_, fresh, rfl, rfl⟩
    rw [List.zip_append l1.symm] at z
    exact z
  · obtain ⟨p, hp, rfl, rfl⟩ := g
    exact hbody A outer s2 _ _ Q E hr' (hq p hp)
end
section
variable {X : Cx} {CX : CXT} {k : Nat} {f C : Addr} {ks : List Str} {sp : List V → Sp} {E : XK} {x : Str} {p pos : Pos} {e : Expr} {es : List Expr} {kws : List Keyword} {t tk : TA}
theorem run_makeRK {pins : List (Addr × Obj)} {σ : L2.St} {H : Hp} {s : Shared} {Q : VK} {us ws : List Value} {vs zs : List V} (M : Mk X.K C f) (F : FnRK X.prog X.w X.K X.mg X.base CX k f ks sp) (hr : Room (k + 1) X.A) (hx : Passes CX X E) (I : Inv X pins σ H s) (r : Vals vs us) (rz : Vals zs ws)
    (h : ∀ y dy, H y = none → H dy = none → dy ≠ y → sp zs (.ref y :: vs) (upd (upd H dy (.own y)) y (.ins C dy [])) (fun v G => v = .non ∧ Q (.ref y) G) E) : wpAny (model X.prog X.w) X.A (call (.ref C) us (ks.zip ws)) (EP X pins σ Q) X.xe s := by
  have hq := h (s.heap.objs.size + 1) s.heap.objs.size (I.hok.fresh (Nat.le_succ _)) (I.hok.fresh (Nat.le_refl _)) (Nat.ne_of_lt (Nat.lt_succ_self _))
  have J := Inv.made (C := C) I
  have rr : Vals (V.ref (s.heap.objs.size + 1) :: vs) (Value.ref (s.heap.objs.size + 1) :: us) := .cons rfl r
  refine wpAny_call (make_map (f := f) I.kIn M.makes M.init (beq_iff_eq.mp M.fn) (codeAny_mono (F _ X.stack _ _ (Value.ref (s.heap.objs.size + 1) :: us) ws _ zs _ E (hr.make C us (ks.zip ws)) (J.env0.make C us (ks.zip ws)) rr rz hq) fun r s' z => ?_))
  match r, z with
  | .error er, z => exact hx pins σ _ _ er s' J z
  | .ok (.ret u), z =>
    obtain ⟨v, G, I3, rv, ev, q3⟩ := J.after z
    subst ev
    exact ⟨rv, ⟨V.ref (s.heap.objs.size + 1), G, I3, rfl, q3⟩⟩
def tMakeRK (C : Addr) (sp : List V → Sp) (E : XK) (t tk : TA) : TE := fun σ H Q => t σ H fun vs H1 => tk σ H1 fun zs H2 => ∀ y dy, H2 y = none → H2 dy = none → dy ≠ y → sp zs (.ref y :: vs) (upd (upd H2 dy (.own y)) y (.ins C dy [])) (fun v G => v = .non ∧ Q (.ref y) G) E
/-- C(e, .., k = v), __init__ with a starred parameter -/
theorem pe_makeRK (M : Mk X.K C f) (F : FnRK X.prog X.w X.K X.mg X.base CX k f ks sp) (hr : Room (k + 1) X.A) (hg : Gl X x) (hm : X.mg x = some (.ref C)) (hx : Passes CX X E) (ha : PA X (e :: es) t) (hkw : PK X kws tk)
    (hall : (backToKw pos (keywordEach kws X.env)).all (·.1.isSome) = true := by rfl) (hks : (backToKw pos (keywordEach kws X.env)).filterMap (·.1) = ks := by rfl) (hdb : (x == ("__debug__" : Str)) = false := by decide)
    (he : starEach (e :: es) X.env = (false, eval e X.env) :: starEach es X.env := by rfl) (hpl : ((backTo pos (starEach (e :: es) X.env)).any (·.1) || (backToKw pos (keywordEach kws X.env)).any (·.1.isNone)) = false := by rfl) :
    PE X (.Call (.Name x p) (e :: es) kws pos) (tMakeRK C sp E t tk) := by
  refine ⟨fun pins s σ H Q I h => ?_⟩
  refine wpAny_Call_Name_kw (ld_glob I hg hm ?_ hdb)
  refine PySem.W.callWith_KW (h₀ := X.base) I.ok.mod.kin M.kp hall (thn (ha.run pos pins s σ H _ I h) fun us s1 ⟨vs, H1, I1, r, q⟩ => ?_) hpl he
  refine thn (hkw.run pos pins s1 σ H1 _ I1 q) fun ws s2 ⟨zs, H2, I2, rz, q2⟩ => ⟨I2.kIn, ?_⟩
  rw [hks]
  exact run_makeRK M F hr hx I2 r rz q2
end
end OwR
end
section
/-! xs[::k]; an own == asked of any value; str(o) by an own __str__. -/
namespace OwR
open PySem PySem.Spec PyProof.Rows L2
/-! ### xs[::k] -/
theorem vals_pick {xs : List V} {us : List Value} (r : Vals xs us) : ∀ idx : List Nat, Vals (idx.filterMap (xs[·]?)) (idx.filterMap (us[·]?))
  | [] => .nil
  | i :: l => by
    have ih := vals_pick r l
    rw [List.filterMap_cons, List.filterMap_cons]
    cases hx : xs[i]? with
    | none =>
      have e : us[i]? = none := by
        rw [List.getElem?_eq_none_iff] at hx ⊢
        rw [← r.length]
        exact hx
      rw [e]
      exact ih
    | some x =>
      obtain ⟨u, hu, ru⟩ := r.get hx
      rw [hu]
      exact .cons ru ih
theorem pick_mem {α : Type} {xs : List α} : ∀ {idx : List Nat} {y : α}, y ∈ idx.filterMap (xs[·]?) → y ∈ xs := fun {idx y} h => by
  obtain ⟨i, _, e⟩ := List.mem_filterMap.mp h
  exact List.mem_of_getElem? e
def tStepL (K : PySem.W.Frag) (te : TE) : TE := fun σ H Q => te σ H fun x H1 => ∃ a xs, x = .ref a ∧ SqL K H1 a xs ∧ ∀ p ys, H1 p = none → (∀ y ∈ ys, y ∈ xs) → Q (.ref p) (upd H1 p (.lst ys))
theorem pe_stepL {X : Cx} {e : Expr} {te : TE} {n : Nat} {k : Nat} {p1 p3 pos : Pos} (h0 : (n : Int) ≠ 0) (he : PE X e te) : PE X (.Subscript e (.Slice none none (some (.Constant (.int (n : Int)) k p1)) p3) pos) (tStepL X.K te) := by
  refine ⟨fun pins s σ H Q I h => ?_⟩
  refine Subscript_ (thn (he.run pins s σ H _ I h) fun v s1 w => ?_)
  obtain ⟨x, H1, I1, r1, a, xs, rfl, hx, q⟩ := w
  cases r1
  have hst : PO X (some (.Constant (.int (n : Int)) k p1)) (tPart (tC (.int (n : Int)))) := po_some pe_int
  refine wpAny_Slice (thn (po_none.run pins s1 σ H1 (fun o H2 => o = none ∧ H2 = H1) I1 ⟨rfl, rfl⟩) fun vl s2 w2 => ?_)
  obtain ⟨l, H2, I2, pl, rfl, rfl⟩ := w2
  refine thn (po_none.run pins s2 σ H2 (fun o H3 => o = none ∧ H3 = H2) I2 ⟨rfl, rfl⟩) fun vu s3 w3 => ?_
  obtain ⟨u, H3, I3, pu, rfl, rfl⟩ := w3
  refine thn (hst.run pins s3 σ H3 (fun o H4 => o = some (n : Int) ∧ H4 = H3) I3 ⟨(n : Int), rfl, rfl, rfl⟩) fun vs s4 w4 => ?_
  obtain ⟨o, H4, I4, ps, rfl, rfl⟩ := w4
  have I5 : Inv X pins σ H4 { s4 with heap := s4.heap.push { cls := .type "slice", data := .fields #[vl, vu, vs] } } := I4.kept (t' := s4.toks) fun b ob q => Heap.get?_push_of_some _ q
  obtain ⟨its, r, ht, hz⟩ := I5.list hx
  have hlen := r.length
  show wpAny (model X.prog X.w) X.A (subscriptTail e (.Slice none none (some (.Constant (.int (n : Int)) k p1)) p3) (.ref a) (.ref s4.heap.objs.size)) (EP X pins σ Q) X.xe { s4 with heap := s4.heap.push { cls := .type "slice", data := .fields #[vl, vu, vs] } }
  refine tail_any (ops := [.ref a, .ref s4.heap.objs.size]) ht.isList.typeIs (PySem.slot_list_getitem.lookup) ?_ (by with_unfolding_all rfl)
  refine wpAny_getItem_list_slice ht.isList (Heap.IsSliceOf.new _ vl vu vs) pl pu ps (fun z => h0 (Option.some.inj z)) ?_ (by rw [List.size_toArray]; omega)
  have hz2 := slicePick_size_le its.toArray none none (some (n : Int))
  have ep : slicePick its.toArray none none (some (n : Int)) = ((sliceRange (sliceBounds none none (some (n : Int)) its.toArray.size).1 (sliceBounds none none (some (n : Int)) its.toArray.size).2.1 (sliceBounds none none (some (n : Int)) its.toArray.size).2.2).filterMap (its[·]?)).toArray := by
    unfold slicePick
    simp
  rw [ep] at hz2 ⊢
  generalize sliceRange (sliceBounds none none (some (n : Int)) its.toArray.size).1 (sliceBounds none none (some (n : Int)) its.toArray.size).2.1 (sliceBounds none none (some (n : Int)) its.toArray.size).2.2 = idx at hz2 ⊢
  have rv := vals_pick r idx
  rw [List.size_toArray, List.size_toArray] at hz2
  refine ⟨.ref _, _, I5.laid (t' := s4.toks) (o := .lst (idx.filterMap (xs[·]?))) (fun b ob q => Heap.get?_push_of_some _ q) (Nat.le_refl _) ?_, rfl, q _ _ (I5.hok.fresh (Nat.le_refl _)) fun y hy => pick_mem hy⟩
  exact ⟨by rw [rv.length]; omega, _, 0, rv, Heap.get?_push_size _ rfl⟩
/-! ### an own comparison asked of any value -/
def rCmpX (K : PySem.W.Frag) (op : CmpOp) (g : Addr) (sp : Sp) (E : XK) : R2 := fun x y H Q => ∃ (p C dx : Addr) (fs : List (Str × V)) (t : Value), x = .ref p ∧ H p = some (.ins C dx fs) ∧ TyX K H y t ∧ Cmp1 K op C g ∧ PySem.W.notFirst K C t = true ∧ sp [.ref p, y] H Q E
section
variable {X : Cx} {CX : CXT} {k : Nat} {g : Addr} {sp : Sp} {E : XK}
theorem rc_ownX {o : CmpOp} (hu : X.A.units < cLine) (F : FnR X.prog X.w X.K X.mg X.base CX k g sp) (hr : Room k X.A) (hx : Passes CX X E) : OpR X (richCompare o) (rCmpX X.K o g sp E) := by
  intro pins s σ H x y v u Q I rx ry h
  obtain ⟨p, C, dx, fs, t, rfl, ep, ty, c1, nf, hq⟩ := h
  obtain rfl : v = Value.ref p := rx
  obtain ⟨ox, od, J, _⟩ := StX.insC_at I (.inr ⟨dx, fs, ep⟩)
  obtain ⟨P, kx, pS, _⟩ := kit_of I ry ty
  obtain ⟨mm, fr⟩ := I.fr
  exact PySem.W.cmp_K hu fr I.ok.mod.kin J (kx.ty (model X.prog X.w) s.heap I.kIn pS) nf c1.at_ c1.fn (run_own F hr hx I (us := [.ref p, u]) (vs := [.ref p, y]) (.cons rfl (.cons ry .nil)) hq)
theorem op_ownEqX (hu : X.A.units < cLine) (F : FnR X.prog X.w X.K X.mg X.base CX k g sp) (hr : Room k X.A) (hx : Passes CX X E) : OpR X (compareOp .Eq) (rCmpX X.K .Eq g sp E) := fun pins s σ H x y v u Q I rx ry h => PySem.W.cmp_ofEq (rc_ownX hu F hr hx pins s σ H x y v u Q I rx ry h)
theorem op_ownEqXK {K : PySem.W.Frag} (hK : X.K = K) (hu : X.A.units < cLine) (F : FnR X.prog X.w X.K X.mg X.base CX k g sp) (hr : Room k X.A) (hx : Passes CX X E) : OpR X (compareOp .Eq) (rCmpX K .Eq g sp E) := by
  subst hK
  exact op_ownEqX hu F hr hx
/-! ### str(o) -/
structure Str1 (K : PySem.W.Frag) (C g : Addr) : Prop where
  at_ : PySem.W.findIn K (.ref C) "__str__" = some (some (.ref g))
  fn : PySem.W.isFn K (.ref g) = true
def rStrO (K : PySem.W.Frag) (g : Addr) (sp : Sp) (E : XK) : List V → Hp → VK → Prop := fun xs H Q => ∃ (a C dx : Addr) (fs : List (Str × V)), xs = [.ref a] ∧ H a = some (.ins C dx fs) ∧ Str1 K C g ∧ sp [.ref a] H (fun v H' => ∃ z : Str, v = .str z ∧ Q (.str z) H') E
theorem call_strO (hu : X.A.units + 2 < cLine) (F : FnR X.prog X.w X.K X.mg X.base CX k g sp) (hr : Room (k + 2) X.A) (hx : Passes CX X E) : CallR X (.type "str") (rStrO X.K g sp E) := by
  intro pins s σ H xs us Q I r h
  obtain ⟨a, C, dx, fs, rfl, ea, c, hq⟩ := h
  obtain rfl := Vals.ref1 r
  obtain ⟨ox, od, J, _⟩ := StX.insC_at I (.inr ⟨dx, fs, ea⟩)
  refine PySem.W.kso_call (by simpa using hu) I.kIn J c.at_ c.fn ?_
  refine wpAny_call (codeAny_mono (F X.A.in1.in1 X.stack s H [.ref a] [.ref a] _ E hr.in1.in1 I.env0.in1.in1 (.cons rfl .nil) hq) fun r s' hq => ?_)
  cases r with
  | error er => exact hx pins σ H s er s' I hq
  | ok fl =>
    cases fl with
    | ret u =>
      obtain ⟨v, H', I', rv, z, rfl, q2⟩ := I.after hq
      obtain ⟨t, rfl⟩ := rv
      exact ⟨.str z, H', I', ⟨t, rfl⟩, q2⟩
    | next => exact False.elim hq
    | brk => exact False.elim hq
    | cont => exact False.elim hq
end
end OwR
end
section
/-! a text == a dict, == an object with an own ==; x in o by an own __contains__. -/
namespace OwR
open PySem PySem.Spec PyProof.Rows L2
theorem str_no_plain (b : Str) (u : Tok) (l : Addr) (c : Value) (dd : Option Addr) (sl : Array (Option Value)) :
    Meets (Builtin.«str.__eq__» ⟨[.str b u, .ref l], []⟩) (fun _ R s => s.heap.get? l = some { cls := c, dict := dd, data := .plain, slots := sl } ∧ R (.ok (.ret .notImplemented)) s) :=
  .of_wp fun prog w A R s h => by obtain ⟨hp, g, d, tk, os⟩ := s; obtain ⟨hl, h⟩ := h; wp_walk using wpAny_loadPart' hl, wpAny_load hl; exact ⟨_, rfl, h⟩
theorem str_no_dict (b : Str) (u : Tok) (l : Addr) (c : Value) (es : Array DictEntry) (n : Nat) (dd : Option Addr) (sl : Array (Option Value)) :
    Meets (Builtin.«str.__eq__» ⟨[.str b u, .ref l], []⟩) (fun _ R s => s.heap.get? l = some { cls := c, dict := dd, data := .dict es n, slots := sl } ∧ R (.ok (.ret .notImplemented)) s) :=
  .of_wp fun prog w A R s h => by obtain ⟨hp, g, d, tk, os⟩ := s; obtain ⟨hl, h⟩ := h; wp_walk using wpAny_loadPart' hl, wpAny_load hl; exact ⟨_, rfl, h⟩
section
variable {prog : Program} {w : World} {A : Around} {E : Value → Shared → Prop} {s : Shared} {K : PySem.W.Frag} {x C f : Addr} {ox : Obj} {od : Option Obj} {z : Str} {t : Tok}
theorem rc_strOwn {Q : Value → Shared → Prop} (hu : A.units < cLine) (X : K.In s.heap) (I : PySem.W.InstAt s.heap x ox C od) (hd : ox.data = .plain) (sub : PySem.W.subIn K (.ref C) (.type "str") = some false)
    (eq : PySem.W.findIn K (.ref C) "__eq__" = some (some (.ref f))) (fn : PySem.W.isFn K (.ref f) = true) (h : wpAny (model prog w) A (call (.ref f) [.ref x, .str z t]) (PySem.W.CmpBack Q) E s) :
    wpAny (model prog w) A (richCompare .Eq (.str z t) (.ref x)) Q E s := by
  have one : wpAny (model prog w) A (tryCompare (.ref x) "__eq__" (.str z t)) (fun r s' => ∃ v, r = some v ∧ Q v s') E s := by
    unfold tryCompare
    refine wpAny_bind (PySem.W.ifBound_K X I eq fn (wpAny_mono h (fun v s' hv => ?_) fun _ _ e => e))
    cases v <;> first | exact hv.elim | exact wpAny_pure ⟨_, rfl, hv⟩
  have ta : s.TypeIs (.str z t) "str" := typeIs_str s z t
  have no : wpAny (model prog w) A (call (.builtin "str.__eq__") [.str z t, .ref x]) (fun v s' => v = .notImplemented ∧ s' = s) E s := by
    obtain ⟨cls, dd, data, sl⟩ := ox
    have hd : data = .plain := hd
    subst hd
    exact call_meets F.slot_str_eq ta F.entry_str_eq (F.args_str_eq_2 _ _) (str_no_plain z t x cls dd sl) ⟨I.at_, rfl, rfl⟩
  rcases hi : cmpInfo CmpOp.Eq with ⟨sym, f1, r1⟩
  have h1 := F.slot_str_eq
  have e2 : r1 = "__eq__" := by cases hi; rfl
  rw [hi] at h1
  subst e2
  simp only [richCompare, hi, ta.oneThing_none]
  refine wpAny_holding (wpAny_bind (wpAny_cRoomFor hu ?_))
  refine wpAny_bind (wpAny_typeOf ta (wpAny_bind (I.type.here ?_)))
  simp only [show (Value.type "str" != Value.ref C) = true from rfl, if_true]
  refine wpAny_bind ((PySem.W.looks_subIn X sub).here ?_)
  simp only [Bool.false_eq_true, if_false, Bool.not_false, if_true]
  refine wpAny_bind (m := tryCompare (.str z t) _ (.ref x)) (wpAny_tryCompare_declines ta h1 (wpAny_mono no (fun v s1 h1 => ⟨h1.1, ?_⟩) fun _ _ x => x))
  obtain ⟨_, rfl⟩ := h1
  refine wpAny_bind (wpAny_mono one (fun r s' q => ?_) fun _ _ e => e)
  obtain ⟨v, rfl, hq⟩ := q
  exact wpAny_pure hq
theorem sub_str_dict : isSubtype (.type "str") (.type "dict") = pure false := by rw [isSubtype_type]; kernel_rfl
theorem rc_strDict {l : Addr} {o : Obj} {es : Array DictEntry} {n : Nat} {Q : Value → Shared → Prop} (hu : A.units < cLine) (ho : s.heap.get? l = some o) (hc : o.cls = .type "dict") (hd : o.data = .dict es n) (h : Q (.bool false) s) : wpAny (model prog w) A (richCompare .Eq (.str z t) (.ref l)) Q E s := by
  obtain ⟨cls, dd, data, sl⟩ := o
  have hc : cls = .type "dict" := hc
  have hd : data = .dict es n := hd
  subst hc hd
  have tb : s.TypeIs (.ref l) "dict" := ⟨_, ho, rfl⟩
  exact PySem.SeqAt.rc_eq_decline_or (k := false) (typeIs_str s z t) tb (by decide) F.sub_dict_str F.slot_str_eq F.slot_dict_eq_refl
    (fun _ hq => call_meets F.slot_str_eq (typeIs_str s z t) F.entry_str_eq (F.args_str_eq_2 _ _) (str_no_dict z t l (.type "dict") es n dd sl) ⟨ho, hq⟩)
    (fun _ hq => by
      refine wpAny_call_entry F.slot_dict_eq_refl tb F.entry_dict_eq ?_ (F.args_dict_eq_2 _ _)
      show wpAny _ _ (Builtin.Dict.dictSlotArgs "__eq__" ⟨[.ref l, .str z t], []⟩ >>= _) _ _ s
      refine wpAny_bind ?_
      unfold Builtin.Dict.dictSlotArgs
      refine wpAny_bind (wpAny_notOrdered_dict tb ?_)
      show wpAny _ _ (pure (Value.ref l, Value.str z t)) _ _ s
      refine wpAny_pure ?_
      refine wpAny_bind (wpAny_isInstance (T := "str") (typeIs_str s z t) sub_str_dict ?_)
      simp only [Bool.not_false, if_true]
      exact wpAny_bind (wpAny_rule (wpAny_bind (wpAny_pure (wpAny_pure ⟨_, rfl, hq⟩)))))
    (fun _ hq => wpAny_of_eq (rfl : isSame (.str z t) (.ref l) = pure false) hq) (.inr hu) h
end
/-! ### the rules -/
structure StrEq (K : PySem.W.Frag) (C g : Addr) : Prop where
  sub : PySem.W.subIn K (.ref C) (.type "str") = some false
  at_ : PySem.W.findIn K (.ref C) "__eq__" = some (some (.ref g))
  fn : PySem.W.isFn K (.ref g) = true
/-- a text == anything: data, a dict, an object with an own == -/
def rStrAny (K : PySem.W.Frag) (g : Addr) (sp : Sp) (E : XK) : R2 := fun x y H Q => rEqD K x y H Q ∨ (∃ (z : Str) (a : Addr) (kvs : List (Key × V)), x = .str z ∧ y = .ref a ∧ H a = some (.dK kvs) ∧ Q (.bl false) H) ∨
  ∃ (z : Str) (p C dx : Addr) (fs : List (Str × V)), x = .str z ∧ y = .ref p ∧ H p = some (.ins C dx fs) ∧ StrEq K C g ∧ sp [.ref p, x] H Q E
structure In1 (K : PySem.W.Frag) (C g : Addr) : Prop where
  at_ : PySem.W.findIn K (.ref C) "__contains__" = some (some (.ref g))
  fn : PySem.W.isFn K (.ref g) = true
def rInO (K : PySem.W.Frag) (g : Addr) (sp : Sp) (E : XK) : R2 := fun x y H Q => ∃ (p C dx : Addr) (fs : List (Str × V)), y = .ref p ∧ H p = some (.ins C dx fs) ∧ In1 K C g ∧ sp [.ref p, x] H (fun v H' => ∃ c, v = .bl c ∧ Q (.bl c) H') E
section
variable {X : Cx} {CX : CXT} {k : Nat} {g : Addr} {sp : Sp} {E : XK}
theorem op_strAny {K : PySem.W.Frag} (hK : X.K = K) (hu : X.A.units + 64 < cLine) (F : FnR X.prog X.w X.K X.mg X.base CX k g sp) (hr : Room k X.A) (hx : Passes CX X E) : OpR X (compareOp .Eq) (rStrAny K g sp E) := by
  subst hK
  intro pins s σ H x y v u Q I rx ry h
  have hu0 : X.A.units < cLine := by omega
  rcases h with h | ⟨z, a, kvs, rfl, rfl, ea, q⟩ | ⟨z, p, C, dx, fs, rfl, rfl, ep, c, hq⟩
  · exact op_eqD hu pins s σ H x y v u Q I rx ry h
  · obtain ⟨t, rfl⟩ := rx
    obtain rfl : u = Value.ref a := ry
    obtain ⟨_, _, vs, _, o, es, n, e1, e2, e3, _⟩ := (show ObjOk X.prog X.w H s.heap a (.dK kvs) from I.hok a _ ea)
    exact PySem.W.cmp_ofEq (rc_strDict hu0 e1 e2.1 e3 ⟨.bl _, H, I, rfl, q⟩)
  · obtain ⟨t, rfl⟩ := rx
    obtain rfl : u = Value.ref p := ry
    obtain ⟨ox, od, J, hd⟩ := StX.insC_at I (.inr ⟨dx, fs, ep⟩)
    exact PySem.W.cmp_ofEq (rc_strOwn hu0 I.kIn J hd c.sub c.at_ c.fn (run_own F hr hx I (us := [.ref p, .str z t]) (vs := [.ref p, .str z]) (.cons rfl (.cons ⟨t, rfl⟩ .nil)) hq))
theorem op_inO (F : FnR X.prog X.w X.K X.mg X.base CX k g sp) (hr : Room k X.A) (hx : Passes CX X E) : OpR X (compareOp .In) (rInO X.K g sp E) := by
  intro pins s σ H x y v u Q I rx ry h
  obtain ⟨p, C, dx, fs, rfl, ep, c, hq⟩ := h
  obtain rfl : u = Value.ref p := ry
  obtain ⟨ox, od, J, _⟩ := StX.insC_at I (.inr ⟨dx, fs, ep⟩)
  obtain ⟨mm, fr⟩ := I.fr
  refine PySem.W.in_K fr I.ok.mod.kin J c.at_ c.fn (wpAny_mono (wpAny_call (run_fnR F hr hx I (us := [.ref p, v]) (vs := [.ref p, x]) (.cons rfl (.cons rx .nil)) hq)) (fun r s' q => ?_) fun _ _ q => q)
  obtain ⟨y2, H2, I2, r2, b, rfl, q⟩ := q
  cases (show r = Value.bool b from r2)
  exact wpAny_pure ⟨.bl b, H2, I2, rfl, q⟩
end
end OwR
end
section
/-! Own: an error that a name holds behind its except clause. -/
namespace OwE
open PySem PySem.Spec PyProof.Rows L2
/-- the error at a, of the class cls, its dict at d -/
def keptE (a : Addr) (cls : Value) (d : Option Addr) : HO := .ext fun h => ∃ oe vs, h.get? a = some oe ∧ Zc cls d oe ∧ oe.data = .fields vs
theorem keptE_ok {P : Program} {w : World} {H : Hp} {h : Heap} {a : Addr} {cls : Value} {d : Option Addr} {oe : Obj} {vs : Array Value} (e : h.get? a = some oe) (z : Zc cls d oe) (f : oe.data = .fields vs) : ObjOk P w H h a (keptE a cls d) :=
  show (∃ o v, h.get? a = some o ∧ Zc cls d o ∧ o.data = .fields v) ∧ (∃ o, h.get? a = some o) ∧ ∀ h1 h2 : Heap, (∃ o v, h1.get? a = some o ∧ Zc cls d o ∧ o.data = .fields v) → (∀ o, h1.get? a = some o → h2.get? a = some o) → ∃ o v, h2.get? a = some o ∧ Zc cls d o ∧ o.data = .fields v from
  ⟨⟨oe, vs, e, z, f⟩, ⟨oe, e⟩, fun _ _ ⟨o, v, q, r⟩ k => ⟨o, v, k _ q, r⟩⟩
theorem keptE_at {P : Program} {w : World} {H : Hp} {h : Heap} {a : Addr} {cls : Value} {d : Option Addr} (ok : HOk P w H h) (e : H a = some (keptE a cls d)) : ∃ oe vs, h.get? a = some oe ∧ Zc cls d oe ∧ oe.data = .fields vs := by
  have x : ObjOk P w H h a (keptE a cls d) := ok a _ e
  exact x.1
section
variable {X : Cx} {pins : List (Addr × Obj)} {σ : L2.St} {H : Hp} {s : Shared}
/-- an error that stands on the heap is told of from here on -/
theorem keep_it {a : Addr} {cls : Value} {d : Option Addr} {oe : Obj} {vs : Array Value} (I : Inv X ((a, oe) :: pins) σ H s) (z : Zc cls d oe) (f : oe.data = .fields vs) (n0 : X.s_0.heap.get? a = none) (np : ∀ p ∈ X.pn ++ pins, p.1 ≠ a) : Inv X pins σ (upd H a (keptE a cls d)) s := by
  obtain ⟨ea, na, nl, nf, _⟩ := I.pin (a, oe) (List.mem_append_right _ List.mem_cons_self)
  have off : ∀ {b : Addr} {o : HO}, H b = some o → b ≠ a := fun {b o} e q => by
    rw [q, na] at e
    cases e
  have B := I.base
  have U : Un X.fs X.ex X.H_0 (upd H a (keptE a cls d)) X.s_0.heap s.heap := {
    keep := B.keep
    slot := B.slot
    free := fun b o e n x => by
      have nb : b ≠ a := fun q => by
        rw [q, n0] at e
        cases e
      rw [upd_ne nb]
      exact B.free b o e n x
    there := B.there
    tups := fun b xs e => by
      have q := B.tups b xs e
      rw [upd_ne (off q)]
      exact q
    frzs := fun b o u e => by
      have q := B.frzs b o u e
      rw [upd_ne (off q)]
      exact q
    tbls := fun b ps e => by
      obtain ⟨m, q⟩ := B.tbls b ps e
      exact ⟨m, by rw [upd_ne (off q)]; exact q⟩ }
  refine { ok := I.ok, os := I.os, bare := I.bare, base := U, loc := I.loc, cell := I.cell, free := ?_, freeC := fun x c e => ?_, pin := fun p m => ?_, hok := I.hok.laidN (fun _ _ q => q) na (keptE_ok ea z f), len := I.len }
  · rw [upd_ne (Ne.symm nl)]
    exact I.free
  · have nc : c ≠ a := fun q => by
      obtain ⟨v, o, eo, dv⟩ := I.cell x c e
      rw [q, ea] at eo
      cases eo
      rw [f] at dv
      cases dv
    rw [upd_ne nc]
    exact I.freeC x c e
  · have m2 : p ∈ X.pn ++ (a, oe) :: pins := by
      rcases List.mem_append.mp m with q | q
      · exact List.mem_append_left _ q
      · exact List.mem_append_right _ (List.mem_cons_of_mem _ q)
    obtain ⟨q1, q2, q3⟩ := I.pin p m2
    exact ⟨q1, by rw [upd_ne (np p m)]; exact q2, q3⟩
/-- behind a suite the error stands yet -/
theorem behind {a : Addr} {oe : Obj} (I : Inv (X.suite a ((a, oe) :: (X.pn ++ pins))) [] σ H s) (ok : X.Ok) : Inv X ((a, oe) :: pins) σ H s :=
  { ok := ok, os := I.os, bare := I.bare, base := I.base, loc := I.loc, cell := I.cell, free := I.free, freeC := I.freeC, hok := I.hok, len := I.len
    pin := fun p m => I.pin p (by
      rw [List.append_nil]
      rcases List.mem_append.mp m with q | q
      · exact List.mem_cons_of_mem _ (List.mem_append_left _ q)
      · rcases List.mem_cons.mp q with q | q
        · rw [q]
          exact List.mem_cons_self
        · exact List.mem_cons_of_mem _ (List.mem_append_right _ q)) }
end
/-- what 'except x as n' wishes, where the error is kept behind it -/
def wKeep (K : PySem.W.Frag) (c : Value) (i : Nat) (ts : Addr → Value → Option Addr → TS) (D : Ends) : WX := fun cls d σ H =>
  PySem.W.exmOne K cls c = some true ∧ ∀ a, H a = none → ts a cls d { nx := fun σ' H' => D.nx (σ'.set i none) (upd H' a (keptE a cls d)), rt := fun _ _ => False, bk := fun _ _ => False, ct := fun _ _ => False } (σ.set i (some (.ref a))) H
section
variable {X : Cx} {x n : Str} {c : Value} {i : Nat} {body suite : List Stmt} {b₀ : Stmt} {np pos pos' : Pos} {tb : WX → TS} {ts : Addr → Value → Option Addr → TS}
theorem ps_try_keep (hs : X.stack = X.env :: X.outer) (hf : X.env.frame = some X.env.locals) (hex : X.ex = []) (hN : X.N.Nodup) (hi : X.N[i]? = some n) (hln : X.env.kindOf n = some .local) (hc : Names X x c)
    (hb : ∀ (W : WX) (pn : List (Addr × Obj)) (xe : Value → Shared → Prop), Takes (X.tr pn xe) W → PSs (X.tr pn xe) body (tb W))
    (hsu : ∀ (a : Addr) (oe : Obj) (cls : Value) (d : Option Addr) (pn : List (Addr × Obj)), Zc cls d oe → (∃ vs, oe.data = .fields vs) → PSs (X.suite a ((a, oe) :: pn)) (b₀ :: suite) (ts a cls d)) :
    PS X (.Try body [.ExceptHandler (some (.Name x np)) (some n) (b₀ :: suite) pos'] [] [] pos) (fun D σ H => tb (wKeep X.K c i ts D) D σ H) := by
  refine ⟨fun pins s σ H D I h => wpAny_Try_except ?_⟩
  have ok := I.ok
  have heard : Takes (X.tr (X.pn ++ pins) fun e s1 => wpAny (model X.prog X.w) X.A (noteFrame e X.env) (fun _ s2 => wpAny (model X.prog X.w) X.A (setFlight e none) (fun _ s3 => wpAny (model X.prog X.w) X.A (handleBy e X.env [.ExceptHandler (some (.Name x np)) (some n) (b₀ :: suite) pos']) (SP X pins D) X.xe s3) X.xe s2) X.xe s1) (wKeep X.K c i ts D) := by
    rintro u s1 ⟨a, B, sI, _, σ1, H1, cls, d, rfl, J, seen, up, sky, na, os, bare, hx, wish⟩
    have J := J.ofTry ok
    rw [show (X.tr (X.pn ++ pins) _).stack = X.env :: X.outer from hs] at sky
    -- the error is no frame, it stands in nothing that was there before
    refine Sky.land Zc.steady (by rw [ok.frames, hs]) hf sky fun h2 fly up2 => wpAny_handleBy_cons (codeAny_handlers_test ?_) (by intro q; cases q)
    obtain ⟨ob, vb, eb, zb, db⟩ := fly.there
    have isFr : ∀ {b : Addr}, b ∈ frs (X.env :: X.outer) → b ≠ a := fun {b} m q => by
      obtain ⟨_, o, e, k⟩ := fly.2.2.1.mem m
      rw [q, eb] at e
      cases e
      exact k _ db
    have out : ∀ {b : Addr}, b = X.env.locals ∨ b ∈ X.fs → b ∈ frs (X.env :: X.outer) := fun {b} m => by
      rcases m with q | q
      · exact List.mem_filterMap.mpr ⟨X.env, List.mem_cons_self, by rw [hf, q]⟩
      · obtain ⟨e, me, q⟩ := List.mem_filterMap.mp q
        exact List.mem_filterMap.mpr ⟨e, List.mem_cons_of_mem _ me, q⟩
    have nl : a ≠ X.env.locals := fun q => isFr (out (.inl rfl)) q.symm
    have nf : a ∉ X.fs := fun q => isFr (out (.inr q)) rfl
    have aB : B.get? a = none := fly.2.1
    have old : ∀ {b : Addr} {o : Obj}, sI.heap.get? b = some o → b ≠ a := fun {b o} e q => by
      have nb : b ∉ frs X.stack := fun m => isFr (by rw [← hs]; exact m) q
      have e2 := seen b o e nb
      rw [q, aB] at e2
      cases e2
    have n0 : X.s_0.heap.get? a = none := by
      cases q : X.s_0.heap.get? a with
      | none => rfl
      | some o =>
        obtain ⟨o2, e2⟩ := J.base.there a o q (by rw [hex]; exact fun m => nomatch m)
        exact absurd rfl (old e2)
    have first : ∀ {h : Heap} {o : Obj} {vs : Array Value}, s1.heap.UpToSlots h → B.StaysIn h → h.get? a = some o → o.data = .fields vs → Inv (X.suite a ((a, o) :: (X.pn ++ pins))) [] σ1 H1 { s1 with heap := h } := fun {h o vs} u st e dv => (J.landed (s' := { s1 with heap := h }) seen st (up.trans u) os bare).suite e dv na nl nf
    -- the clause's class is asked
    have I2 := first up2 fly.1 eb db
    have kind : PySem.W.Looks (model X.prog X.w) h2 (typeOf (.ref a)) cls := fun A Q E s k q => wpAny_typeOf_ref (k _ _ eb) (by rw [zb.1]; exact q)
    have isOne := PySem.W.exm_one (M := model X.prog X.w) I2.kIn kind hx
    have named : ∀ {Q : Value → Shared → Prop} {E : Value → Shared → Prop}, Q c { s1 with heap := h2 } → wpAny (model X.prog X.w) (X.A.mark (some (.ref a))) (eval (.Name x np) X.env) Q E { s1 with heap := h2 } := fun {Q E} q => by
      rcases hc with ⟨g, nd, m | ⟨m, v, nn⟩⟩
      · exact ld_glob (X := X.suite a ((a, ob) :: (X.pn ++ pins))) I2 g m q nd
      · exact ld_blt (X := X.suite a ((a, ob) :: (X.pn ++ pins))) I2 g m v q nn nd
    refine named (isOne.here (codeAny_handlers_suite_as (HandSPX.lands_againZ fly fun h3 fly3 up3 => ?_)))
    obtain ⟨oc, vc, ec, zc, dc⟩ := fly3.there
    -- the name, the suite
    refine store_ok (X := X.suite a ((a, oc) :: (X.pn ++ pins))) (v := .ref a) (first (up2.trans up3) fly3.1 ec dc) hN hi (.inl hln) rfl (fun s4 I4 => wpAny_mono ((hsu a oc cls d (X.pn ++ pins) zc ⟨_, dc⟩).run [] s4 _ H1 _ I4 (wish a na)) ?_ fun _ _ z => z.elim) (.inr hln)
    rintro fl s5 q5
    cases fl with
    | next =>
      obtain ⟨σ5, H5, I5, q⟩ := q5
      refine gone_ok (behind I5 ok) hN hi hln fun s6 I6 => ⟨_, _, keep_it I6 zc dc n0 fun p m => old (J.pin p m).1, q⟩
    | brk =>
      obtain ⟨_, _, _, q⟩ := q5
      exact q.elim
    | cont =>
      obtain ⟨_, _, _, q⟩ := q5
      exact q.elim
    | ret v =>
      obtain ⟨_, _, _, _, _, q⟩ := q5
      exact q.elim
  refine wpAny_mono ((hb (wKeep X.K c i ts D) (X.pn ++ pins) _ heard).run [] s σ H D (I.toTry _) h) (fun fl s1 q => ?_) fun _ _ z => z
  cases fl with
  | next =>
    obtain ⟨σ1, H1, J, q⟩ := q
    exact wpAny_execs_nil ⟨σ1, H1, J.ofTry ok, q⟩
  | brk =>
    obtain ⟨σ1, H1, J, q⟩ := q
    exact ⟨σ1, H1, J.ofTry ok, q⟩
  | cont =>
    obtain ⟨σ1, H1, J, q⟩ := q
    exact ⟨σ1, H1, J.ofTry ok, q⟩
  | ret v =>
    obtain ⟨v, σ1, H1, J, r, q⟩ := q
    exact ⟨v, σ1, H1, J.ofTry ok, r, q⟩
end
/-- isinstance of an error that is kept -/
def rIsK (K : PySem.W.Frag) : List V → Hp → VK → Prop := fun xs H Q => ∃ (a : Addr) (c : V) (u : Value) (C dd : Addr) (fs : List (Str × V)) (b : Bool), xs = [.ref a, c] ∧ ClsV c u ∧ ErrC K C ∧ H a = some (keptE a (.ref C) (some dd)) ∧ H dd = some (.xd fs) ∧
  PySem.W.kitOne K (.ref C) u = some b ∧ Q (.bl b) H
theorem call_isK {X : Cx} : CallR X (.builtin "isinstance") (rIsK X.K) := by
  intro pins s σ H xs us Q I r h
  obtain ⟨a, c, cv, C, dd, fs, b, rfl, hcv, T, ea, ed, e, q⟩ := h
  obtain ⟨u1, u2, rfl, r1, r2⟩ := vals2 r
  cases (show u1 = Value.ref a from r1)
  have e2 := hcv.eq r2
  subst e2
  obtain ⟨oe, vs, hget, hz, hv⟩ := keptE_at I.hok ea
  obtain ⟨mA, hns, hr⟩ := (show ObjOk X.prog X.w H s.heap dd (.xd fs) from I.hok dd _ ed)
  obtain ⟨od, ho, hl⟩ := lookIn_ns hns
  have J : PySem.W.InstAt s.heap a oe C (some od) := ⟨hget, hz.1, by unfold PySem.W.notCls; rw [hv] <;> rfl, by rw [hz.2]; exact ho⟩
  exact PySem.W.kia_one (PySem.W.kitx_exc (OexC.cl T.ox) T.xf.ga T.xf.gg T.xf.exC T.ha T.hn T.ht T.hm) I.kIn J e (fun z => nomatch z) fun tk => ⟨.bl b, H, I.tok tk, rfl, q⟩
/-- err.f of an error that is kept -/
def tKf (K : PySem.W.Frag) (f : Str) (te : TE) : TE := fun σ H Q => te σ H fun x H1 => ∃ (a C dd : Addr) (fs : List (Str × V)) (v : V), x = .ref a ∧ ErrC K C ∧ PySem.W.findIn K (.ref C) f = some none ∧ H1 a = some (keptE a (.ref C) (some dd)) ∧ H1 dd = some (.xd fs) ∧ fs.lookup f = some v ∧ Q v H1
theorem pe_kf {X : Cx} {e : Expr} {te : TE} {pos : Pos} {n : Str} (he : PE X e te) (hb : attributeBase e n X.env (eval e X.env) = eval e X.env := by rfl) : PE X (.Attribute e n pos) (tKf X.K n te) := by
  refine ⟨fun pins s σ H Q I h => ?_⟩
  refine attr_of hb (thn (he.run pins s σ H _ I h) fun u s1 hh => ?_)
  obtain ⟨x, H1, I1, rx, a, C, dd, fs, v, rfl, T, hno, ea, ed, l, q⟩ := hh
  obtain rfl : u = Value.ref a := rx
  obtain ⟨oe, vs, ha, hz, hd⟩ := keptE_at I1.hok ea
  obtain ⟨mA, hns, hr⟩ := (show ObjOk X.prog X.w H1 s1.heap dd (.xd fs) from I1.hok dd _ ed)
  obtain ⟨od, ho, hl⟩ := lookIn_ns hns
  obtain ⟨u, hu, ru⟩ := RelO.some_of (v := v) (o := mA n) (by rw [← l]; exact hr n)
  have J : PySem.W.InstAt s1.heap a oe C (some od) := ⟨ha, hz.1, by unfold PySem.W.notCls; rw [hd] <;> rfl, by rw [hz.2]; exact ho⟩
  exact HandSPX.exc_get I1.kIn J T.xf.ga T.xf.gg T.xf.exC (PySem.W.findObj_own T.xf.hdC hno rfl (by rw [hl, hu])) (handed_of ru) ⟨v, H1, I1.tok _, ru, q⟩
/-! ### an error class with two fields -/
def spErr2 (K : PySem.W.Frag) (f g : Str) : Sp := fun vs H Q _ => ∃ (a C : Addr) (v u : V), vs = [.ref a, v, u] ∧ OexC K C ∧ PySem.W.findIn K (.ref C) f = some none ∧ PySem.W.findIn K (.ref C) g = some none ∧ H a = some (exo a C none) ∧
  ∀ dx, H dx = none → dx ≠ a → Q .non (upd (upd H dx (exd dx [(g, u), (f, v)])) a (exo a C (some dx)))
theorem mk_err2 {K : PySem.W.Frag} {C : Addr} {f g : Str} {v u : V} {H : Hp} {E : XK} (T : OexC K C) (hf : PySem.W.findIn K (.ref C) f = some none) (hg : PySem.W.findIn K (.ref C) g = some none) (k : ∀ d, H d = none → E (.ref C) (some d) (upd H d (.xd [(g, u), (f, v)]))) :
    ([v, u] : List V).length ≤ 1000 ∧ ∀ a, H a = none → spErr2 K f g (.ref a :: ([v, u] ++ [])) (upd H a (exo a C none)) (fun v H2 => v = .non ∧ ∃ (d : Addr) (fs : List (Str × V)), H2 a = some (exo a C (some d)) ∧ H2 d = some (exd d fs) ∧ H d = none ∧ E (.ref C) (some d) (upd (del H2 a) d (.xd fs))) (fun _ _ _ => False) := by
  refine ⟨by show (2 : Nat) ≤ 1000; decide, fun a ha => ⟨a, C, v, u, rfl, T, hf, hg, upd_same, fun dx hd ne => ⟨rfl, dx, [(g, u), (f, v)], upd_same, by rw [upd_ne ne, upd_same], ?_, ?_⟩⟩⟩
  · rw [upd_ne ne] at hd
    exact hd
  · rw [err_heap ne ha]
    rw [upd_ne ne] at hd
    exact k dx hd
end OwE
end
section
namespace OwD
open PySem PySem.Spec PyProof.Rows L2
theorem lays {α : Type} {f : α → PyData} : ∀ l : List α, (∀ x ∈ l, (f x).canLay0 = true) → PyData.canLayAll0 (l.map f) = true
  | [], _ => by simp [PyData.canLayAll0]
  | x :: l, h => by
    rw [List.map_cons, PyData.canLayAll0, h x List.mem_cons_self, lays l fun y hy => h y (List.mem_cons_of_mem _ hy)]
    rfl
theorem deps {α : Type} {f : α → PyData} {k : Nat} : ∀ l : List α, (∀ x ∈ l, (f x).depth ≤ k) → PyData.depthAll (l.map f) ≤ k
  | [], _ => by simp [PyData.depthAll]
  | x :: l, h => by
    have h1 := h x List.mem_cons_self
    have h2 := deps l fun y hy => h y (List.mem_cons_of_mem _ hy)
    rw [List.map_cons, PyData.depthAll]
    exact Nat.max_le.mpr ⟨h1, h2⟩
theorem shaped_of {d : PyData} (h1 : d.canLay0 = true) (h2 : d.depth ≤ 64) : SeqAt.shaped d = true := by
  show (d.canLay0 && decide (d.depth ≤ 64)) = true
  rw [h1, decide_eq_true h2]
  rfl
theorem shaped_lst {α : Type} {f : α → PyData} {l : List α} {k : Nat} (hk : k ≤ 60) (h1 : ∀ x ∈ l, (f x).canLay0 = true) (h2 : ∀ x ∈ l, (f x).depth ≤ k) : SeqAt.shaped (.list (l.map f)) = true := by
  refine shaped_of (by rw [PyData.canLay0]; exact lays l h1) ?_
  have := deps l h2
  rw [PyData.depth]
  omega
theorem shaped_tup {α : Type} {f : α → PyData} {l : List α} {k : Nat} (hk : k ≤ 60) (h1 : ∀ x ∈ l, (f x).canLay0 = true) (h2 : ∀ x ∈ l, (f x).depth ≤ k) : SeqAt.shaped (.tuple (l.map f)) = true := by
  refine shaped_of (by rw [PyData.canLay0]; exact lays l h1) ?_
  have := deps l h2
  rw [PyData.depth]
  omega
theorem dp_ints {K : PySem.W.Frag} {H : Hp} : ∀ ns : List Int, DpAll K H (ns.map V.int) (ns.map PyData.int)
  | [] => .nil
  | n :: r => .cons (.int n) (dp_ints r)
theorem dp_strs {K : PySem.W.Frag} {H : Hp} : ∀ ns : List Str, DpAll K H (ns.map V.str) (ns.map PyData.str)
  | [] => .nil
  | n :: r => .cons (.str n) (dp_strs r)
theorem shaped_ints (ns : List Int) : SeqAt.shaped (.list (ns.map PyData.int)) = true := shaped_lst (k := 0) (by decide) (fun _ _ => by simp [PyData.canLay0]) fun _ _ => by simp [PyData.depth]
theorem eqv_nil {α : Type} {f : α → PyData} (l : List α) : PyData.eqv (.list (l.map f)) (.list []) = l.isEmpty := by
  cases l <;> simp [PyData.eqv, PyData.eqvAll]
theorem shaped_nil : SeqAt.shaped (.list []) = true := shaped_of (by simp [PyData.canLay0, PyData.canLayAll0]) (by simp [PyData.depth, PyData.depthAll])
end OwD
end
section
namespace OwR
open PySem PySem.Spec PyProof.Rows L2
theorem raw0 {P : Program} {w : World} {K : PySem.W.Frag} {mg : Str → Option Value} {base : Heap} {CX : CXT} {k : Nat} {f : Addr} {fd : FuncData} {ps : List Str} {sp : Sp} (F : FnOk P w K mg base CX k f fd ps sp) (hb : Binds K fd ps []) : FnR P w K mg base CX k f sp :=
  (F.raw hb .nil).imp fun vs H Q E h => by rw [List.append_nil]; exact h
end OwR
namespace K10
open PySem PySem.Spec PyProof.Rows L2
/-- what stands behind the module's names -/
structure Nm (mg : Str → Option Value) : Prop where
  n_int : mg "int" = none
  n_len : mg "len" = none
  n_abs : mg "abs" = none
  n_list : mg "list" = none
/-- the state of the draws at p: the cells at c, how many were taken, what is left of a great one -/
structure PenAt (H : Hp) (p c : Addr) (ns : List Int) (n : Nat) (z : Int) : Prop where
  pen : H p = some (.lst [.ref c, .int n, .int z])
  cells : H c = some (.lst (ns.map V.int))
  few : ns.length ≤ 63
  rest : 0 ≤ z
theorem PenAt.ne {H : Hp} {p c : Addr} {ns : List Int} {n : Nat} {z : Int} (P : PenAt H p c ns n z) : c ≠ p := fun e => by
  have h1 := P.pen
  have h2 := P.cells
  rw [e, h1] at h2
  have h3 := congrArg (fun o : Option HO => match o with | some (.lst xs) => xs | _ => []) h2
  have h4 : ([V.ref c, V.int n, V.int z] : List V) = ns.map V.int := h3
  cases ns with
  | nil => cases h4
  | cons a l => cases h4
/-- all but the pen stands -/
def But (p : Addr) (H H' : Hp) : Prop := ∀ b o, b ≠ p → H b = some o → H' b = some o
theorem But.refl (p : Addr) (H : Hp) : But p H H := fun _ _ _ h => h
theorem But.trans {p : Addr} {H H1 H2 : Hp} (a : But p H H1) (b : But p H1 H2) : But p H H2 := fun c o n h => b c o n (a c o n h)
theorem But.new {p l : Addr} {H : Hp} {o : HO} (h : H l = none) : But p H (upd H l o) := fun b u _ e => by
  rw [upd_ne (ne_of_none e h)]
  exact e
theorem But.at {p : Addr} {H : Hp} {o : HO} : But p H (upd H p o) := fun b u n e => by
  rw [upd_ne n]
  exact e
theorem But.same {p : Addr} {H H' : Hp} (a : But p H H') (s : Same H' H') : But p H H' := a
theorem at_mod (ns : List Int) (n : Int) (h : 0 < ns.length) : ∃ x : Int, atI (ns.map V.int) (n % ((ns.map V.int).length : Int)) = some (V.int x) := by
  have hl : (ns.map V.int).length = ns.length := List.length_map _
  have h1 : 0 ≤ n % ((ns.map V.int).length : Int) := Int.emod_nonneg _ (by omega)
  have h2 : n % ((ns.map V.int).length : Int) < ((ns.map V.int).length : Int) := Int.emod_lt_of_pos _ (by omega)
  generalize n % ((ns.map V.int).length : Int) = j at h1 h2
  obtain ⟨i, rfl⟩ : ∃ i : Nat, j = (i : Int) := ⟨j.toNat, by omega⟩
  have hi : i < ns.length := by omega
  refine ⟨ns[i], atI_nat ?_⟩
  rw [List.getElem?_map, List.getElem?_eq_getElem hi]
  rfl
theorem mix_lt {x n a b c : Int} (x0 : 0 ≤ x) (x1 : x < 2147483648) (n0 : 0 ≤ n) (n1 : n < 100000) (a0 : 0 ≤ a) (a1 : a < 1000000) (b0 : 0 ≤ b) (b1 : b < 1000000) (c0 : 0 ≤ c) (c1 : c < 1000000) :
    (x * (2 * n + a) + b * n * n + c).natAbs < 2 ^ 64 := by
  have h1 : 0 ≤ x * (2 * n + a) := Int.mul_nonneg x0 (by omega)
  have h2 : x * (2 * n + a) ≤ 2147483648 * 1200000 := Int.mul_le_mul (by omega) (by omega) (by omega) (by decide)
  have h3 : 0 ≤ b * n * n := Int.mul_nonneg (Int.mul_nonneg b0 n0) n0
  have h4 : b * n ≤ 1000000 * 100000 := Int.mul_le_mul (by omega) (by omega) n0 (by decide)
  have h5 : b * n * n ≤ 1000000 * 100000 * 100000 := Int.mul_le_mul h4 (by omega) n0 (by decide)
  omega
def spDraw : Sp := fun vs H Q _ => ∃ (p c : Addr) (ns : List Int) (n : Nat) (z m : Int), vs = [.ref p, .int m] ∧ PenAt H p c ns n z ∧ n < 100000 ∧ 0 < m ∧ m.natAbs < 2 ^ 1000 ∧
  ∀ (d : Int) (n' : Nat) (z' : Int) (H' : Hp), 0 ≤ d → d < m → n' ≤ n + 1 → PenAt H' p c ns n' z' → But p H H' → Q (.int d) H'
theorem Same.of_new {H : Hp} {p : Addr} {o : HO} (h : H p = none) : Same H (upd H p o) := fun b u e => by
  rw [upd_ne (ne_of_none e h)]
  exact e
theorem But.rd {p : Addr} {H H' : Hp} (s : But p H H') {a : Addr} {o : HO} (n : a ≠ p) (h : Rd H a o) : Rd H' a o := h.elim (fun e => .inl (s a _ n e)) fun ⟨q, e⟩ => .inr ⟨q, s a _ n e⟩
theorem Same.but {H H' : Hp} (p : Addr) (s : Same H H') : But p H H' := fun b o _ e => s b o e
theorem Same.rd {H H' : Hp} (s : Same H H') {a : Addr} {o : HO} (h : Rd H a o) : Rd H' a o := h.elim (fun e => .inl (s a _ e)) fun ⟨q, e⟩ => .inr ⟨q, s a _ e⟩
theorem made_same {H H' : Hp} {x dx : Addr} {o o' : HO} (hx : H x = none) (hd : H dx = none) (s : But x (upd (upd H dx o) x o') H') : Same H H' := fun b u e => by
  refine s b u (ne_of_none e hx) ?_
  rw [upd_ne (ne_of_none e hx), upd_ne (ne_of_none e hd)]
  exact e
theorem upd_keep2 {H : Hp} {D b : Addr} {o u : HO} (h : H b = some u) (hD : H D = none) : upd H D o b = some u := by
  rw [upd_ne (ne_of_none h hD)]
  exact h
theorem SqL.mono {K : PySem.W.Frag} {H H' : Hp} {a : Addr} {xs : List V} (h : SqL K H a xs) (s : Same H H') : SqL K H' a xs := h.elim (fun r => .inl (Same.rd s r)) .inr
theorem SqT.mono {K : PySem.W.Frag} {H H' : Hp} {a : Addr} {xs : List V} (h : SqT K H a xs) (s : Same H H') : SqT K H' a xs := h.elim (fun r => .inl (Same.rd s r)) .inr
theorem But.free {p l : Addr} {H H' : Hp} (s : But p H H') (hp : H' p ≠ none) (h : H' l = none) : H l = none := by
  cases e : H l with
  | none => rfl
  | some o =>
    by_cases n : l = p
    · rw [n] at h
      exact (hp h).elim
    · rw [s l o n e] at h
      cases h
theorem PenAt.some {H : Hp} {p c : Addr} {ns : List Int} {n : Nat} {z : Int} (P : PenAt H p c ns n z) : H p ≠ none := by
  rw [P.pen]
  exact fun h => by cases h
theorem PenAt.same {H H' : Hp} {p c : Addr} {ns : List Int} {n : Nat} {z : Int} (P : PenAt H p c ns n z) (s : Same H H') : PenAt H' p c ns n z := ⟨s _ _ P.pen, s _ _ P.cells, P.few, P.rest⟩
theorem SqL.but {K : PySem.W.Frag} {p : Addr} {H H' : Hp} {a : Addr} {xs : List V} (h : SqL K H a xs) (n : a ≠ p) (s : But p H H') : SqL K H' a xs := h.elim (fun r => .inl (But.rd s n r)) .inr
theorem nth {α : Type} {xs : List α} {d : Int} (h0 : 0 ≤ d) (h1 : d < xs.length) : ∃ x, x ∈ xs ∧ atI xs d = some x := by
  obtain ⟨j, rfl⟩ : ∃ j : Nat, d = (j : Int) := ⟨d.toNat, by omega⟩
  have hj : j < xs.length := by omega
  exact ⟨xs[j], List.getElem_mem hj, atI_nat (List.getElem?_eq_getElem hj)⟩
theorem cut_63 {ns : List Int} (h : ns.length ≤ 63) : cutV (ns.map V.int) none (some 63) = ns.map V.int := by
  have e : (some 63 : Option Int) = some ((63 : Nat) : Int) := rfl
  unfold cutV
  rw [HT.sIx_none, e, HT.sIx_nat, List.drop_zero]
  exact List.take_of_length_le (by rw [List.length_map]; omega)
theorem PenAt.put {H : Hp} {p c D : Addr} {ns : List Int} {n : Nat} {z : Int} {o : HO} (P : PenAt H p c ns n z) (n1 : p ≠ D) (n2 : c ≠ D) : PenAt (upd H D o) p c ns n z := ⟨by rw [upd_ne n1]; exact P.pen, by rw [upd_ne n2]; exact P.cells, P.few, P.rest⟩
def spPen (K : PySem.W.Frag) : Sp := fun vs H Q _ => ∃ (a : Addr) (ns : List Int), vs = [.ref a] ∧ SqL K H a (ns.map V.int) ∧ ns.length ≤ 63 ∧ ∀ p c H', H p = none → Same H H' → PenAt H' p c ns 0 0 → Q (.ref p) H'
def spPick (K : PySem.W.Frag) : Sp := fun vs H Q _ => ∃ (p c l : Addr) (ns : List Int) (n : Nat) (z : Int) (xs : List V), vs = [.ref p, .ref l] ∧ PenAt H p c ns n z ∧ n < 100000 ∧ l ≠ p ∧ SqL K H l xs ∧ 0 < xs.length ∧ xs.length < 1000 ∧
  ∀ (x : V) (n' : Nat) (z' : Int) (H' : Hp), x ∈ xs → n' ≤ n + 1 → PenAt H' p c ns n' z' → But p H H' → Q x H'
theorem small_int {i : Int} (h0 : 0 ≤ i) (h1 : i < 1000) : i.natAbs < 2 ^ 1000 := Nat.lt_of_lt_of_le (show i.natAbs < 1000 by omega) (by decide +kernel)
def letter (c : Nat) : Bool := decide (97 ≤ c) && decide (c ≤ 122)
def nameB (z : Str) : Bool := (decide (1 ≤ z.length) && decide (z.length ≤ 8)) && z.cps.toList.all letter
theorem one_le (a c : Nat) : (!decide (([c] : List Nat) < [a])) = decide (a ≤ c) := by
  by_cases h : a ≤ c
  · rw [decide_eq_true h, decide_eq_false]
    · rfl
    · intro q
      rcases List.cons_lt_cons_iff.mp q with q | ⟨_, q⟩
      · omega
      · exact absurd q (by simp)
  · rw [decide_eq_false h, decide_eq_true]
    · rfl
    · exact List.cons_lt_cons_iff.mpr (.inl (by omega))
/-- what is no text -/
def NoStr (K : PySem.W.Frag) (H : Hp) (v : V) : Prop := ∃ t, TyX K H v t ∧ PySem.W.kitOne K t (.type "str") = some false
/-- what is no name -/
def NoName (K : PySem.W.Frag) (H : Hp) (v : V) : Prop := (∃ z : Str, v = .str z ∧ z.length ≤ 1000 ∧ nameB z = false) ∨ NoStr K H v
def spName (K : PySem.W.Frag) : Sp := fun vs H Q _ => ∃ v : V, vs = [v] ∧ ((∃ z : Str, v = .str z ∧ z.length ≤ 1000 ∧ ∀ H', Same H H' → Q (.bl (nameB z)) H') ∨ (NoStr K H v ∧ Q (.bl false) H))
def spCheck (K : PySem.W.Frag) (CB : Addr) : Sp := fun vs H Q E => ∃ v : V, vs = [v] ∧ ((∃ z : Str, v = .str z ∧ z.length ≤ 1000 ∧ nameB z = true ∧ ∀ H', Same H H' → Q .non H') ∨ (NoName K H v ∧ ∀ H' d, Same H H' → H' d = none → E (.ref CB) (some d) (upd H' d (.xd [("value", v)]))))
theorem name_short {z : Str} (h : nameB z = true) (B : Nat) : PyData.leavesShort B (.str z) = true := by
  unfold nameB at h
  have h2 := List.all_eq_true.mp (Bool.and_eq_true_iff.mp h).2
  show (z.cps.toList.all fun c => decide (c < 16 ^ 8)) = true
  refine List.all_eq_true.mpr fun c hc => ?_
  have h3 := h2 c hc
  unfold letter at h3
  have h4 := of_decide_eq_true (Bool.and_eq_true_iff.mp h3).2
  exact decide_eq_true (by omega)
theorem name_strOk {z : Str} (h : nameB z = true) : PyData.strOk z = true := by
  have h2 := List.all_eq_true.mp (Bool.and_eq_true_iff.mp (show (_ && _) = true from h)).2
  unfold PyData.strOk
  rw [Array.all_eq_true']
  intro c hc
  have h3 := h2 c (Array.mem_toList_iff.mpr hc)
  unfold letter at h3
  have h4 := of_decide_eq_true (Bool.and_eq_true_iff.mp h3).2
  exact decide_eq_true (by omega)
theorem strOk_app {x y : Str} (hx : PyData.strOk x = true) (hy : PyData.strOk y = true) : PyData.strOk (x ++ y) = true := by
  obtain ⟨c⟩ := x
  obtain ⟨d⟩ := y
  show (c ++ d).all _ = true
  rw [Array.all_append]
  exact Bool.and_eq_true_iff.mpr ⟨hx, hy⟩
theorem shaped_strs {zs : List Str} (h : ∀ z ∈ zs, PyData.strOk z = true) : SeqAt.shaped (.list (zs.map PyData.str)) = true := by
  refine OwD.shaped_lst (k := 0) (by decide) (fun z hz => ?_) fun z hz => ?_
  · rw [PyData.canLay0]
    exact h z hz
  · exact Nat.le_of_ble_eq_true rfl
theorem eqv_strs {zs : List Str} (h : ∀ z ∈ zs, PyData.strOk z = true) : PyData.eqv (.list (zs.map PyData.str)) (.list (zs.map PyData.str)) = true := SeqAt.eqv_refl _ (SeqAt.canLay_of_shaped (shaped_strs h))
theorem shown_fits {d : PyData} (h : d.leavesShort 100 = true) (hb : d.bulk ≤ 1000) : d.shown.length ≤ sizeLine := by
  have := PyData.shown_le_bulk 100 (by decide) d h
  have sz := sizeLine_eq
  have h2 : (100 + 2) * d.bulk ≤ (100 + 2) * 1000 := Nat.mul_le_mul_left _ hb
  omega
/-- the error class at C, as a def that raises it wants it -/
structure ErrT (K : PySem.W.Frag) (mg : Str → Option Value) (x : Str) (C fI : Addr) : Prop where
  er : OwE.ErrC K C
  g : mg x = some (.ref C)
  ini : PySem.W.findIn K (.ref C) "__init__" = some (some (.ref fI))
  ty : PySem.W.typeIn K (.ref fI) = some (.type "function")
theorem joinL_singles : ∀ cs : List Nat, TL.joinL [] (cs.map fun c => [c]) = cs
  | [] => rfl
  | [_] => rfl
  | a :: b :: r => by
    have ih := joinL_singles (b :: r)
    show [a] ++ ([] ++ TL.joinL [] ((b :: r).map fun c => [c])) = a :: b :: r
    rw [ih]
    rfl
theorem join_signs (cs : List Nat) : Txt.join Str.empty (cs.map fun c => (⟨#[c]⟩ : Str)) = ⟨cs.toArray⟩ := by
  rw [← TL.mk_tl (Txt.join Str.empty (cs.map fun c => (⟨#[c]⟩ : Str))), TL.join_eq, TL.tl_join, List.map_map]
  have e : TL.joinL (TL.tl Str.empty) (cs.map (TL.tl ∘ fun c => (⟨#[c]⟩ : Str))) = cs := joinL_singles cs
  rw [e]
def spPickS : Sp := fun vs H Q _ => ∃ (p c : Addr) (ns : List Int) (n : Nat) (z : Int) (t : Str), vs = [.ref p, .str t] ∧ PenAt H p c ns n z ∧ n < 100000 ∧ 0 < t.length ∧ t.length < 1000 ∧
  ∀ (x : Nat) (n' : Nat) (z' : Int) (H' : Hp), x ∈ t.cps.toList → n' ≤ n + 1 → PenAt H' p c ns n' z' → But p H H' → Q (.str ⟨#[x]⟩) H'
theorem letters_name {cs : List Nat} (h1 : 1 ≤ cs.length) (h8 : cs.length ≤ 8) (hc : ∀ c ∈ cs, letter c = true) : nameB ⟨cs.toArray⟩ = true := by
  unfold nameB
  have e : (⟨cs.toArray⟩ : Str).length = cs.length := List.size_toArray
  rw [e, decide_eq_true h1, decide_eq_true h8, Bool.true_and, Bool.true_and]
  exact List.all_eq_true.mpr hc
end K10
end
section
namespace K10
open PySem PySem.Spec PyProof.Rows L2
def top (i : Nat) : Stmt := PySem.Challenge.pw_nextkind_k15_rules_written_and_read.main.body.getD i (.Pass ⟨0, 0, 0, 0⟩)
def mth (c j : Nat) : Stmt := match top c with
  | .ClassDef _ _ _ body _ _ _ _ _ _ _ => body.getD j (.Pass ⟨0, 0, 0, 0⟩)
  | _ => .Pass ⟨0, 0, 0, 0⟩
abbrev sPen : Stmt := top 29
abbrev sDraw : Stmt := top 30
abbrev sPick : Stmt := top 31
section
variable {P : Program} {w : World} {K : PySem.W.Frag} {mg : Str → Option Value} {base : Heap}
theorem scD : FnScope ["_law_pen_here", "_law_many", "_law_digit", "_law_at", "_law_cell", "_law_great", "_law_mixed"] ["_law_pen_here", "_law_many"] (defScope sDraw) := ⟨rfl, rfl, rfl, by decide +kernel, rfl, by decide +kernel, by decide +kernel⟩
theorem ok_draw {f : Addr} {fd : FuncData} (F : Fun K "_law_draw" "_law_draw" sDraw f fd) (T : Nm mg) : FnOk P w K mg base CX0 1 f fd ["_law_pen_here", "_law_many"] spDraw := by
  refine F.ok scD (fun vs H Q E h => ?_) (fun cdv A outer s H vs Q E hr h => ?_)
  · obtain ⟨p, c, ns, n, z, m, rfl, _⟩ := h
    rfl
  · obtain ⟨p, c, ns, n, z, m, rfl, D, hn, hm, hb, k⟩ := h
    have hu := hu_of hr
    obtain ⟨h1, h2, hl, h0⟩ := id D
    refine ⟨_, (pss_cons (ps_if (pt_cmpR op_gt (pe_ix ix_list (pv 0) pe_int (fun _ _ => rfl)) pe_int (nomark _)) (pss_cons (ps_set (i := 2) scD.nd rfl (Or.inl rfl) (pe_op op_mod (pe_callTy call_int1 (by rfl) T.n_int (by decide +kernel) (pa_cons (pe_ix ix_list (pv 0) pe_int (fun _ _ => rfl)) pa_nil)) (pv 1)))
    (pss_cons (ps_asg (pe_op op_fdivW (pe_callTy call_int1 (by rfl) T.n_int (by decide +kernel) (pa_cons (pe_ix ix_list (pv 0) pe_int (fun _ _ => rfl)) pa_nil)) (pv 1)) (pg_sub (pv 0) pe_int set_list))
    (pss_one (ps_ret (pv 2))))) pss_nil)
    (pss_cons (ps_set (i := 3) scD.nd rfl (Or.inl rfl) (pe_ix ix_list (pv 0) pe_int (fun _ _ => rfl)))
    (pss_cons (ps_asg (pe_op op_add (pv 3) pe_int) (pg_sub (pv 0) pe_int set_list))
    (pss_cons (ps_set (i := 4) scD.nd rfl (Or.inl rfl) (pe_op op_add (pe_op op_mul pe_int (pv 3)) pe_int))
    (C8.pss_cut (ps_if (pt_cmpR (op_neD hr.units) (pe_ix ix_list (pv 0) pe_int (fun _ _ => rfl)) (pe_lst pa_nil) (nomark _)) (pss_one (ps_set (i := 4) scD.nd rfl (Or.inl rfl) (pe_ix ix_list (pe_ix ix_list (pv 0) pe_int (fun _ _ => rfl)) (pe_op op_mod (pe_callTy call_int1 (by rfl) T.n_int (by decide +kernel) (pa_cons (pv 3) pa_nil)) (pe_callB call_len_seq (by rfl) T.n_len boot_len (pa_cons (pe_ix ix_list (pv 0) pe_int (fun _ _ => rfl)) pa_nil))) (fun _ _ => rfl)))) pss_nil)
    (C8.pss_cut (ps_if (PW.pt (pw_and (pt_cmpR op_lt (pv 3) (pe_callB call_len_seq (by rfl) T.n_len boot_len (pa_cons (pe_ix ix_list (pv 0) pe_int (fun _ _ => rfl)) pa_nil)) (nomark _)) (pw_and1 (pt_cmpR op_ge (pe_callB call_abs (by rfl) T.n_abs (by decide +kernel) (pa_cons (pv 4) pa_nil)) (pe_op op_pow pe_int pe_int) (nomark _))))) (pss_cons (ps_set (i := 5) scD.nd rfl (Or.inl rfl) (pe_op op_add (pe_op op_mul pe_int (pe_op op_sub (pe_callB call_abs (by rfl) T.n_abs (by decide +kernel) (pa_cons (pv 4) pa_nil)) (pe_op op_pow pe_int pe_int))) (pe_callTy call_int1 (by rfl) T.n_int (by decide +kernel) (pa_cons (pe_cmpR op_lt (pv 4) pe_int (nomark _)) pa_nil))))
    (pss_cons (ps_asg (pe_op op_fdivW (pe_callTy call_int1 (by rfl) T.n_int (by decide +kernel) (pa_cons (pv 5) pa_nil)) (pv 1)) (pg_sub (pv 0) pe_int set_list))
    (pss_one (ps_ret (pe_op op_mod (pe_callTy call_int1 (by rfl) T.n_int (by decide +kernel) (pa_cons (pv 5) pa_nil)) (pv 1)))))) pss_nil)
    (pss_cons (ps_set (i := 6) scD.nd rfl (Or.inl rfl) (pe_op op_mod (pe_callTy call_int1 (by rfl) T.n_int (by decide +kernel) (pa_cons (pe_op op_pow (pe_op op_add (pe_op op_add (pe_op op_mod (pe_callTy call_int1 (by rfl) T.n_int (by decide +kernel) (pa_cons (pv 4) pa_nil)) pe_int) (pe_op op_mul pe_int (pv 3))) pe_int) pe_int) pa_nil)) pe_int))
    (pss_cons (ps_set (i := 6) scD.nd rfl (Or.inl rfl) (pe_op op_mod (pe_callTy call_int1 (by rfl) T.n_int (by decide +kernel) (pa_cons (pe_op op_pow (pe_op op_add (pe_op op_add (pe_op op_mul (pv 6) (pe_op op_add (pe_op op_mul pe_int (pv 3)) pe_int)) (pe_op op_mul (pe_op op_mul pe_int (pv 3)) (pv 3))) pe_int) pe_int) pa_nil)) pe_int))
    (pss_one (ps_ret (pe_op op_mod (pe_callTy call_int1 (by rfl) T.n_int (by decide +kernel) (pa_cons (pe_op op_fdivW (pv 6) pe_int) pa_nil)) (pv 1))))))))))))
, ?_⟩
    refine ⟨_, rfl, p, _, _, _, rfl, rfl, SqL.of h1, rfl, _, _, rfl, rfl, _, rfl, ?_⟩
    refine ite2 (fun c1 => ?_) (fun c1 => ?_)
    · refine ⟨_, rfl, p, _, _, _, rfl, rfl, SqL.of h1, rfl, .inl ⟨_, rfl, _, rfl, _, _, rfl, rfl, hm, ?_⟩⟩
      refine ⟨_, rfl, p, _, _, _, rfl, rfl, SqL.of h1, rfl, .inl ⟨_, rfl, _, rfl, _, _, rfl, rfl, wide_div hm hb (by decide) (by decide), ?_⟩⟩
      refine ⟨_, rfl, p, _, _, 2, rfl, rfl, h1, rfl, _, rfl, ?_⟩
      refine k _ n (z / m) _ (Int.emod_nonneg _ (by omega)) (Int.emod_lt_of_pos _ hm) (Nat.le_succ _) ⟨upd_same, ?_, hl, Int.ediv_nonneg h0 (by omega)⟩ But.at
      rw [upd_ne D.ne]
      exact h2
    · refine ⟨_, rfl, p, _, _, _, rfl, rfl, SqL.of h1, rfl, ?_⟩
      refine ⟨_, rfl, _, _, rfl, rfl, _, rfl, p, _, _, 1, rfl, rfl, h1, rfl, ?_⟩
      -- the cell
      refine ⟨_, rfl, _, _, rfl, rfl, .inl ⟨by decide, by decide⟩, _, _, rfl, rfl, ?_⟩
      have D1 : PenAt (upd H p (.lst [.ref c, .int ((n : Int) + 1), .int z])) p c ns (n + 1) z := ⟨upd_same, by rw [upd_ne D.ne]; exact h2, hl, h0⟩
      have B1 : But p H (upd H p (.lst [.ref c, .int ((n : Int) + 1), .int z])) := But.at
      -- a cell of the script, if there is one
      refine ⟨fun σ' H' => ∃ cell : Int, σ' = [some (.ref p), some (.int m), none, some (.int n), some (.int cell), none, none] ∧ PenAt H' p c ns (n + 1) z ∧ But p H H', ?_, ?_⟩
      · refine ⟨_, rfl, p, _, _, _, rfl, rfl, SqL.of D1.pen, rfl, by show 0 ≤ sizeLine; decide, fun l hl0 => ?_⟩
        have D2 : PenAt (upd (upd H p (.lst [.ref c, .int ((n : Int) + 1), .int z])) l (.lst [])) p c ns (n + 1) z :=
          ⟨by rw [upd_ne (ne_of_none D1.pen hl0)]; exact D1.pen, by rw [upd_ne (ne_of_none D1.cells hl0)]; exact D1.cells, hl, h0⟩
        refine ⟨.list (ns.map PyData.int), .list [], .lst (SqL.of D2.cells) (OwD.dp_ints ns), .lst (SqL.of upd_same) .nil, OwD.shaped_ints ns, OwD.shaped_nil, _, rfl, ?_⟩
        rw [OwD.eqv_nil]
        have B2 := B1.trans (But.new (p := p) (o := .lst []) hl0)
        cases ns with
        | nil =>
          refine iteF ?_
          exact ⟨_, rfl, D2, B2⟩
        | cons a0 rest =>
          refine iteT ?_
          have hpos : 0 < ((a0 :: rest).map V.int).length := by rw [List.length_map]; exact Nat.succ_pos _
          refine ⟨_, rfl, p, _, _, _, rfl, rfl, SqL.of D2.pen, rfl, _, rfl, .inl ⟨_, rfl, _, rfl, p, _, _, _, rfl, rfl, SqL.of D2.pen, rfl, c, _, rfl, .inl (SqL.of D2.cells), _, _, rfl, rfl, by omega, ?_⟩⟩
          obtain ⟨x, hx⟩ := at_mod (a0 :: rest) n (Nat.succ_pos _)
          refine ⟨c, _, _, _, rfl, rfl, SqL.of D2.cells, hx, ?_⟩
          exact ⟨x, rfl, D2, B2⟩
      · rintro σ' H' ⟨cell, rfl, D3, B3⟩
        have C3 := D3.cells
        -- a great cell
        have ret : ∀ (d : Int) (H4 : Hp), 0 ≤ d → d < m → PenAt H4 p c ns (n + 1) z → But p H H4 → Q (.int d) H4 := fun d H4 a1 a2 D4 B4 => k d (n + 1) z H4 a1 a2 (Nat.le_refl _) D4 B4
        refine ⟨fun σ' H' => σ' = [some (.ref p), some (.int m), none, some (.int n), some (.int cell), none, none] ∧ PenAt H' p c ns (n + 1) z ∧ But p H H', ?_, ?_⟩
        · refine ⟨_, rfl, _, rfl, p, _, _, _, rfl, rfl, SqL.of D3.pen, rfl, c, _, rfl, .inl (SqL.of C3), _, _, rfl, rfl, _, rfl, ?_⟩
          refine ite2 (fun c2 => ?_) (fun c2 => ?_)
          · refine ⟨_, rfl, _, rfl, _, _, rfl, rfl, ⟨by decide, by decide, by decide⟩, _, _, rfl, rfl, _, rfl, ?_⟩
            refine ite2 (fun c3 => ?_) (fun c3 => ?_)
            · refine ⟨_, rfl, _, rfl, _, _, rfl, rfl, ⟨by decide, by decide, by decide⟩, _, _, rfl, rfl, _, _, rfl, rfl, .inl ⟨by decide, by decide⟩, ?_⟩
              refine ⟨_, rfl, _, _, rfl, rfl, .inr ⟨_, rfl, _, _, rfl, rfl, ?_⟩⟩
              have gpos : 0 ≤ 2 * ((if cell < 0 then -cell else cell) - (10 : Int) ^ (18 : Int).toNat) + (if decide (cell < 0) = true then 1 else 0) := by
                have h3 : (10 : Int) ^ (18 : Int).toNat ≤ (if cell < 0 then -cell else cell) := of_decide_eq_true c3
                split <;> omega
              refine ⟨_, rfl, .inl ⟨_, rfl, _, rfl, _, _, rfl, rfl, wide_div hm hb (by decide) (by decide), _, rfl, p, _, _, 2, rfl, rfl, D3.pen, rfl, ?_⟩⟩
              refine ⟨_, rfl, .inl ⟨_, rfl, _, rfl, _, _, rfl, rfl, hm, ?_⟩⟩
              refine k _ (n + 1) _ _ (Int.emod_nonneg _ (by omega)) (Int.emod_lt_of_pos _ hm) (Nat.le_refl _) ⟨upd_same, ?_, hl, Int.ediv_nonneg gpos (by omega)⟩ (B3.trans But.at)
              rw [upd_ne D.ne]
              exact C3
            · exact ⟨rfl, D3, B3⟩
          · exact ⟨rfl, D3, B3⟩
        · rintro σ' H4 ⟨rfl, D4, B4⟩
          have a1 := Int.emod_nonneg cell (show (2147483549 : Int) ≠ 0 by decide)
          have a2 := Int.emod_lt_of_pos cell (show (0 : Int) < 2147483549 by decide)
          -- one mixed from the cell
          refine ⟨_, rfl, .inl ⟨_, rfl, _, _, rfl, rfl, (by show (0 : Int) < _; decide), _, rfl, _, _, rfl, rfl, .inl ⟨by decide, by decide⟩, _, _, rfl, rfl, _, _, rfl, rfl, _, _, rfl, rfl, ⟨by decide, by decide, ?_⟩, .inl ⟨_, rfl, _, _, rfl, rfl, (by show (0 : Int) < _; decide), ?_⟩⟩⟩
          · show Int.natAbs _ < 2 ^ 64
            omega
          have b1 := fun x : Int => Int.emod_nonneg x (show (2147483629 : Int) ≠ 0 by decide)
          have b2 := fun x : Int => Int.emod_lt_of_pos x (show (0 : Int) < 2147483629 by decide)
          refine ⟨_, rfl, _, rfl, _, _, rfl, rfl, .inl ⟨by decide, by decide⟩, _, _, rfl, rfl, _, _, rfl, rfl, .inl ⟨Int.lt_of_lt_of_le (by decide) (b1 _), Int.lt_trans (b2 _) (by decide)⟩, ?_⟩
          refine ⟨_, rfl, _, _, rfl, rfl, .inl ⟨by decide, by decide⟩, _, rfl, _, _, rfl, rfl, .inl ⟨by omega, by omega⟩, _, _, rfl, rfl, _, _, rfl, rfl, ?_⟩
          refine ⟨_, _, rfl, rfl, ⟨by decide, by decide, mix_lt (b1 _) (Int.lt_trans (b2 _) (by decide)) (by omega) (by omega) (by decide) (by decide) (by decide) (by decide) (by decide) (by decide)⟩, .inl ⟨_, rfl, _, _, rfl, rfl, (by show (0 : Int) < _; decide), ?_⟩⟩
          refine ⟨_, rfl, _, _, rfl, rfl, wide_div (b := 6) (by decide) (by decide) (by decide) (by decide), .inl ⟨_, rfl, _, rfl, _, _, rfl, rfl, hm, ?_⟩⟩
          exact ret _ _ (Int.emod_nonneg _ (by omega)) (Int.emod_lt_of_pos _ hm) D4 B4
theorem scPe : FnScope ["_law_script"] ["_law_script"] (defScope sPen) := ⟨rfl, rfl, rfl, by decide +kernel, rfl, by decide +kernel, by decide +kernel⟩
theorem ok_pen {f : Addr} {fd : FuncData} (F : Fun K "_law_pen" "_law_pen" sPen f fd) (T : Nm mg) : FnOk P w K mg base CX0 1 f fd ["_law_script"] (spPen K) := by
  refine F.ok scPe (fun vs H Q E h => ?_) (fun cdv A outer s H vs Q E hr h => ?_)
  · obtain ⟨a, ns, rfl, _⟩ := h
    rfl
  · obtain ⟨a, ns, rfl, ha, hl, q⟩ := h
    refine ⟨_, (pss_one (ps_ret (pe_lst (pa_cons (pe_callTy call_list_of (by rfl) T.n_list (by decide +kernel) (pa_cons (pe_slice sl_list (pv 0) po_none (po_some pe_int)) pa_nil)) (pa_cons pe_int (pa_cons pe_int pa_nil)))))), ?_⟩
    have sz := sizeLine_eq
    refine ⟨_, rfl, 63, rfl, a, _, rfl, ha, ?_⟩
    rw [cut_63 hl]
    intro b hb
    refine ⟨b, _, rfl, .inl (SqL.of upd_same), fun c hc => ⟨by show (3 : Nat) ≤ sizeLine; omega, fun p hp => ?_⟩⟩
    have s3 := ((Same.of_new hb).trans (Same.of_new hc)).trans (Same.of_new (o := .lst [.ref c, .int 0, .int 0]) hp)
    exact q p c _ (((Same.of_new hb).trans (Same.of_new hc)).free hp) s3 ⟨upd_same, upd_keep2 upd_same hp, hl, by decide⟩
theorem scPi : FnScope ["_law_pen_here", "_law_some"] ["_law_pen_here", "_law_some"] (defScope sPick) := ⟨rfl, rfl, rfl, by decide +kernel, rfl, by decide +kernel, by decide +kernel⟩
theorem ok_pick {f fD : Addr} {fd fdD : FuncData} (F : Fun K "_law_pick" "_law_pick" sPick f fd) (T : Nm mg) (FD : Fun K "_law_draw" "_law_draw" sDraw fD fdD) (gD : mg "_law_draw" = some (.ref fD)) : FnOk P w K mg base CX0 2 f fd ["_law_pen_here", "_law_some"] (spPick K) := by
  have GD : FnOk P w K mg base CX0 1 fD fdD ["_law_pen_here", "_law_many"] spDraw := ok_draw FD T
  have bD : Binds K fdD ["_law_pen_here", "_law_many"] [] := FD.binds fun _ _ _ _ _ _ us hl => match us, hl with | [_, _], _ => rfl
  refine F.ok scPi (fun vs H Q E h => ?_) (fun cdv A outer s H vs Q E hr h => ?_)
  · obtain ⟨p, c, l, ns, n, z, xs, rfl, _⟩ := h
    rfl
  · obtain ⟨p, c, l, ns, n, z, xs, rfl, hp, hn, nl, hl, h0, h1, q⟩ := h
    refine ⟨_, (pss_one (ps_ret (pe_ix ix_list (pv 1) (pe_call GD hr (by rfl) gD FD.kp bD .nil pass0 (pa_cons (pv 0) (pa_cons (pe_callB call_len_seq (by rfl) T.n_len boot_len (pa_cons (pv 1) pa_nil)) pa_nil))) (fun _ _ => rfl)))), ?_⟩
    refine ⟨_, rfl, _, rfl, _, rfl, l, xs, rfl, .inl hl, p, c, ns, n, z, _, rfl, hp, hn, by omega, ?_, fun d n' z' H' d0 d1 hn' hp' s' => ?_⟩
    · have : (xs.length : Int).natAbs < 1000 := by omega
      exact Nat.lt_of_lt_of_le this (by decide +kernel)
    · obtain ⟨x, hx, ex⟩ := nth d0 d1
      exact ⟨l, xs, d, x, rfl, rfl, SqL.but hl nl s', ex, q x n' z' H' hx hn' hp' s'⟩
theorem ok_pickS {f fD : Addr} {fd fdD : FuncData} (F : Fun K "_law_pick" "_law_pick" sPick f fd) (T : Nm mg) (FD : Fun K "_law_draw" "_law_draw" sDraw fD fdD) (gD : mg "_law_draw" = some (.ref fD)) : FnOk P w K mg base CX0 2 f fd ["_law_pen_here", "_law_some"] spPickS := by
  have GD : FnOk P w K mg base CX0 1 fD fdD ["_law_pen_here", "_law_many"] spDraw := ok_draw FD T
  have bD : Binds K fdD ["_law_pen_here", "_law_many"] [] := FD.binds fun _ _ _ _ _ _ us hl => match us, hl with | [_, _], _ => rfl
  refine F.ok scPi (fun vs H Q E h => ?_) (fun cdv A outer s H vs Q E hr h => ?_)
  · obtain ⟨p, c, ns, n, z, t, rfl, _⟩ := h
    rfl
  · obtain ⟨p, c, ns, n, z, t, rfl, hp, hn, h0, h1, q⟩ := h
    refine ⟨_, (pss_one (ps_ret (pe_ix ix_str (pv 1) (pe_call GD hr (by rfl) gD FD.kp bD .nil pass0 (pa_cons (pv 0) (pa_cons (pe_callB call_len (by rfl) T.n_len boot_len (pa_cons (pv 1) pa_nil)) pa_nil))) (fun _ _ => rfl)))), ?_⟩
    have sz := sizeLine_eq
    have lz : t.length ≤ sizeLine := by omega
    refine ⟨_, rfl, _, rfl, _, rfl, .str t, t.length, rfl, ⟨lz, rfl⟩, p, c, ns, n, z, _, rfl, hp, hn, by omega, small_int (by omega) (by omega), fun d n' z' H' d0 d1 hn' hp' s' => ?_⟩
    have d2 : d < (t.cps.toList.length : Int) := d1
    obtain ⟨x, hx, ex⟩ := nth d0 d2
    exact ⟨t, d, x, rfl, rfl, lz, ex, q x n' z' H' hx hn' hp' s'⟩
end
end K10
end
section
namespace OwR
open PySem PySem.Spec PyProof.Rows L2
/-! ### tuple(d), d a dict: its keys -/
section
variable {prog : Program} {w : World} {A : Around} {E : Value → Shared → Prop} {s : Shared} {T : String} {r d : Addr} {n : Nat} {P : Nat → Value → Prop} {OK : Heap → Prop}
theorem collect_src {Q : List Value → Shared → Prop} (K : PySem.W.KdlSrc prog w T r d n P OK) (hh : A.handled = none) (hok : OK s.heap) (hn : n ≤ sizeLine)
    (hQ : ∀ h' tk (out : List Value), (∀ b o, s.heap.get? b = some o → h'.get? b = some o) → out.length = n → (∀ j v, out[j]? = some v → P j v) → Q out { s with heap := h', toks := tk }) :
    wpAny (model prog w) A (collect (.ref r)) Q E s := by
  unfold collect
  refine wpAny_bind (wpAny_runValue (codeAny_builtin F.entry_proto_collect ?_))
  rw [Around.under_plainId F.plain_proto_collect _]
  show wpAny _ A.in1 (newList [] >>= fun l => again (.builtin "list.__iadd__" ⟨[l, .ref r], []⟩)) _ _ s
  refine wpAny_bind (wpAny_newObj_type ?_)
  refine wpAny_pure ⟨plainId_quiet F.plain_list_iadd _, codeAny_builtin F.entry_list_iadd ?_⟩
  rw [Around.under_plainId F.plain_list_iadd _]
  have there := K.there _ hok
  have hS : (s.heap.push { cls := .type "list", data := .seq ([] : List Value).toArray }).get? s.heap.objs.size = some { cls := .type "list", data := .seq #[] 0 } := Heap.get?_push_size _ rfl
  have fin : ∀ h' tk (acc : Array Value) (c : Nat), (∀ b o, b ≠ s.heap.objs.size → (s.heap.push { cls := .type "list", data := .seq ([] : List Value).toArray }).get? b = some o → h'.get? b = some o) →
      h'.get? s.heap.objs.size = some { cls := .type "list", dict := none, data := .seq acc c, slots := #[] } → ItemsOf P acc n →
      wpAny (model prog w) A (load s.heap.objs.size >>= fun ob => match ob.data with
        | .seq vs _ => pure vs.toList
        | _ => unsupported "internal:collect") Q E { s with heap := h', toks := tk } := fun h' tk acc c k hS' hacc =>
    wpAny_bind (wpAny_load hS' (wpAny_pure (hQ h' tk acc.toList (fun b o e => k b o (Nat.ne_of_lt (Heap.lt_size e)) (Heap.get?_push_of_some _ e)) (by rw [Array.length_toList]; exact hacc.1) fun j v e => hacc.2 j v (by rw [← Array.getElem?_toList]; exact e))))
  refine wpAny_mono (PySem.W.kdl_extend (A := A) (R := fun r s' => r = .ok (.ret (.ref s.heap.objs.size)) ∧ wpAny (model prog w) A (load s.heap.objs.size >>= fun ob => match ob.data with
        | .seq vs _ => pure vs.toList
        | _ => unsupported "internal:collect") Q E s') (s := { s with heap := s.heap.push { cls := .type "list", data := .seq ([] : List Value).toArray } }) K hh (K.keep _ _ hok fun b _ o e => Heap.get?_push_of_some _ e) s.heap.objs.size
    (Nat.ne_of_gt there.1) (Nat.ne_of_gt there.2) (.ref s.heap.objs.size) 0 hS (fun h' tk acc c k hS' hacc => ⟨rfl, fin h' tk acc c k hS' hacc⟩) hn) (fun f s' h => ?_) fun e s' h => ?_
  · cases f with
    | done f =>
      obtain ⟨e, z⟩ := h
      cases e
      exact z
    | again c' => exact ⟨h.1, codeAny_mono h.2 fun r s2 hr => by obtain ⟨rfl, z⟩ := hr; exact z⟩
  · cases h.1
theorem call_tuple_src {Q : Value → Shared → Prop} (K : PySem.W.KdlSrc prog w T r d n P OK) (hok : OK s.heap) (hn : n ≤ sizeLine) (hh : A.handled = none)
    (hQ : ∀ (h' : Heap) (tk : Nat) (out : List Value), (∀ b o, s.heap.get? b = some o → h'.get? b = some o) → out.length = n → (∀ j v, out[j]? = some v → P j v) →
      Q (.ref h'.objs.size) { s with heap := h'.push { cls := .type "tuple", data := .seq out.toArray }, toks := tk }) :
    wpAny (model prog w) A (call (.type "tuple") [.ref r]) Q E s := by
  have M : MeetsIn prog w (Builtin.«tuple.__new__» ⟨[.type "tuple", .ref r], []⟩) (fun (A' : Around) (R : Result → Shared → Prop) (s : Shared) => A'.handled = none ∧ OK s.heap ∧ ∀ (h' : Heap) (tk : Nat) (out : List Value), (∀ b o, s.heap.get? b = some o → h'.get? b = some o) → out.length = n → (∀ j v, out[j]? = some v → P j v) →
      R (.ok (.ret (.ref h'.objs.size))) { s with heap := h'.push { cls := .type "tuple", data := .seq out.toArray }, toks := tk }) := .of_wp fun A R s h => by
    obtain ⟨hp, g, dr, tk, os⟩ := s
    obtain ⟨hh', ht, h⟩ := h
    have hsub := sub_tuple_self
    have hinit := init_tuple_lookup
    have hmh := madeHere_tuple
    have hT : Shared.TypeIs ⟨hp, g, dr, tk, os⟩ (.ref r) T := K.type _ ht
    have col : ∀ {Q : List Value → Shared → Prop} {E : Value → Shared → Prop}, (∀ (h' : Heap) (tk' : Nat) (out : List Value), (∀ b o, hp.get? b = some o → h'.get? b = some o) → out.length = n → (∀ j v, out[j]? = some v → P j v) → Q out ⟨h', g, dr, tk', os⟩) →
        wpAny (model prog w) A.in1 (collect (.ref r)) Q E ⟨hp, g, dr, tk, os⟩ := fun hq => collect_src (s := ⟨hp, g, dr, tk, os⟩) K hh' ht hn hq
    have hnt : (Value.type T == Value.type "tuple") = false := K.notTuple
    wp_walk using wpAny_typeOf hT, col
    intro h' tk' out k l1 l2
    refine wpAny_bind (wpAny_pure ?_)
    show wpAny _ _ (Builtin.Tuple.tupleExact out.toArray >>= fun v => ret v) _ _ _
    unfold Builtin.Tuple.tupleExact
    refine wpAny_bind (wpAny_newObj_type ?_ (by show out.toArray.size ≤ sizeLine; rw [List.size_toArray, l1]; exact hn))
    exact wpAny_pure ⟨_, rfl, h h' tk' out k l1 l2⟩
  exact callType_newIn F.called_tuple (by decide) (F.typeCall_tuple_1 _) (F.newCall_tuple_1 _) (fun obj => F.args_object_init_2 obj _) F.entry_tuple_new M
    ⟨hh, hok, fun h' tk out k l1 l2 => ⟨⟨_, Heap.get?_push_size _ rfl, rfl⟩, hQ h' tk out k l1 l2⟩⟩
end
theorem call_tupleD {X : Cx} (hcalm : X.calm = true) : CallR X (.type "tuple") (fun xs H Q => ∃ (a : Addr) (kvs : List (Key × V)), xs = [.ref a] ∧ Rd H a (.dK kvs) ∧ ∀ p, H p = none → Q (.ref p) (upd H p (.tup (kvs.map fun kv => kV kv.1)))) := by
  intro pins s σ H xs us Q I r q
  obtain ⟨a, kvs, ex, hd, q⟩ := q
  subst ex
  obtain ⟨u, eu, rx⟩ := vals1 r
  subst eu
  cases rx
  obtain ⟨z, lo, vs, rel, dd⟩ := dk_rd I.hok hd
  obtain ⟨ep, hat⟩ := dd.dictAt
  have ek : (kvs.map fun kv => kV kv.1) = vs.map fun p => kV p.1 := by
    have e := congrArg (List.map kV) rel.keys
    rw [List.map_map, List.map_map] at e
    exact e
  refine call_tuple_src (PySem.W.kdl_dict (knd := mixKind X.prog X.w) (kvs := vs) (ep := ep) lo) hat (by rw [← rel.length]; exact z) (I.ok.hd hcalm) fun h' tk out k l1 l2 => ?_
  have hv : Vals (vs.map fun p => kV p.1) out := keys_at l1 fun j v e => l2 j v e
  have I1 : Inv X pins σ H { s with heap := h', toks := tk } := I.kept (t' := tk) k
  exact ⟨.ref h'.objs.size, _, I1.laid (t' := tk) (o := .tup (kvs.map fun kv => kV kv.1)) (fun b o e => Heap.get?_push_of_some _ e) (Nat.le_refl _) ⟨by rw [List.length_map]; exact z, out, by rw [ek]; exact hv, ⟨_, Heap.get?_push_size _ rfl, rfl, 0, rfl⟩⟩, rfl, q _ (I1.hok.fresh (Nat.le_refl _))⟩
end OwR
end
section
namespace TSet
open PySem PySem.Spec PyProof.Rows L2
/-- an entry of a set of texts -/
def TE (w : World) (e : Int × Value) : Prop := ∃ z tk, e = (hashStr w z, Value.str z tk)
def tk1 (e : Int × Value) : Str := strOf e.2
/-- the set object at a holds just the texts L, each once -/
def TS (w : World) (h : Heap) (a : Addr) (L : List Str) : Prop :=
  ∃ ob ents ep tab, h.get? a = some ob ∧ ob.ExactSet ∧ ob.data = .set ents ep tab ∧ (∀ e ∈ ents.toList, TE w e) ∧ (ents.toList.map tk1).Perm L ∧
    L.Nodup ∧ L.length < scanBound ∧ tab.fits ents.size = true ∧ Ris tab.place.toList ∧ (w.params.followText "set-order" = true ∨ tab.led = true)
section
variable {P : Program} {w : World} {h h' : Heap} {a : Addr} {L : List Str}
theorem TS.keep (R : TS w h a L) (k : ∀ o, h.get? a = some o → h'.get? a = some o) : TS w h' a L := by
  obtain ⟨ob, ents, ep, tab, h1, rest⟩ := R
  exact ⟨ob, ents, ep, tab, k ob h1, rest⟩
theorem te_is {e : Int × Value} (g : TE w e) (z : Str) : (strKind P w).is z e.2 = true ↔ tk1 e = z := by
  obtain ⟨y, tk, rfl⟩ := g
  show ((y == z) = true) ↔ y = z
  exact beq_iff_eq
theorem te_elems {l : List (Int × Value)} (g : ∀ e ∈ l, TE w e) : ElemsOf (strKind P w) l := fun e he => by
  obtain ⟨z, tk, rfl⟩ := g e he
  exact ⟨⟨z, strKind_is P w z tk, rfl⟩, rfl⟩
theorem te_mem {l : List (Int × Value)} (g : ∀ e ∈ l, TE w e) (z : Str) : z ∈ l.map tk1 ↔ ∃ e ∈ l, (strKind P w).is z e.2 = true := by
  constructor
  · intro m
    obtain ⟨e, he, q⟩ := List.mem_map.mp m
    exact ⟨e, he, (te_is (g e he) z).2 q⟩
  · rintro ⟨e, he, q⟩
    exact List.mem_map.mpr ⟨e, he, (te_is (g e he) z).1 q⟩
theorem TS.fresh {ob : Obj} (ho : h.get? a = some ob) (e : ob = { cls := .type "set", dict := none, data := .set #[] 0 (.fresh 0 0 (!w.params.followText "set-order")) }) : TS w h a [] := by
  subst e
  refine ⟨_, #[], 0, _, ho, ⟨rfl, rfl, rfl⟩, rfl, fun e he => by simp at he, List.Perm.refl _, List.nodup_nil, by decide, rfl, List.Pairwise.nil, ?_⟩
  show w.params.followText "set-order" = true ∨ (!w.params.followText "set-order") = true
  cases w.params.followText "set-order" <;> simp
end
/-- one more text -/
def put1 (L : List Str) (z : Str) : List Str := if z ∈ L then L else z :: L
theorem put1_len (L : List Str) (z : Str) : (put1 L z).length ≤ L.length + 1 := by
  unfold put1
  split
  · exact Nat.le_succ _
  · exact Nat.le_refl _
section
variable {P : Program} {w : World} {A : Around} {E : Value → Shared → Prop} {s : Shared} {a : Addr} {L : List Str}
theorem ts_add_end {g : Bool → Sem Unit} (hg : ∀ (b : Bool) (s₁ : Shared) (Q' : Unit → Shared → Prop), Q' () s₁ → wpAny (model P w) A (g b) Q' E s₁)
    {ob : Obj} {ents : Array (Int × Value)} {ep : Nat} {tab : SetTable} (ho : s.heap.get? a = some ob) (hex : ob.ExactSet) (hd : ob.data = .set ents ep tab)
    {en1 : Array (Int × Value)} {tb : SetTable} {M : List Str} (g1 : ∀ e ∈ en1.toList, TE w e) (pm1 : (en1.toList.map tk1).Perm M) (nd1 : M.Nodup)
    (hb : M.length < scanBound) (hf : tb.fits en1.size = true) (hr : Ris tb.place.toList) (hl : w.params.followText "set-order" = true ∨ tb.led = true) {dm : Bool} {R : Option Bool → Shared → Prop}
    (hR : ∀ h', Heap.SameBut a s.heap h' → TS w h' a M → R (some true) { s with heap := h' }) :
    wpAny (model P w) A (do
        storeSet a en1 tb
        if (!dm && tb.tooFull) = true then do
            g (relayAll tb en1 (SetTable.grown en1.size)).2.2
            storeSet a (relayAll tb en1 (SetTable.grown en1.size)).1 (relayAll tb en1 (SetTable.grown en1.size)).2.1
            pure (some true)
          else pure (some true)) R E s := by
  have hn1 : en1.size = M.length := by
    have q := pm1.length_eq
    rw [List.length_map, Array.length_toList] at q
    exact q
  refine wpAny_bind (wpAny_storeSet_of ho hd ?_ (fits_of_scanBound (by rw [hn1]; exact hb)))
  have ho1 := store_at (es' := en1) (t' := tb) ho hd
  have sb1 := Heap.SameBut.update s.heap a (Obj.putSet en1 tb)
  split
  · have pm := relayAll_perm tb en1 (SetTable.grown en1.size)
    have hf3 := relayAll_fits tb en1 (SetTable.grown en1.size)
    have hr3 := relayAll_ris tb en1 (SetTable.grown en1.size)
    have hl3 := relayAll_led tb en1 (SetTable.grown en1.size)
    generalize relayAll tb en1 (SetTable.grown en1.size) = Z at pm hf3 hr3 hl3 ⊢
    obtain ⟨en2, tb3, gave⟩ := Z
    dsimp only at pm hf3 hr3 hl3 ⊢
    have hn2 : en2.size = M.length := by rw [← hn1, ← Array.length_toList, pm.length_eq, Array.length_toList]
    refine wpAny_bind (hg _ _ _ ?_)
    refine wpAny_bind (wpAny_storeSet_of ho1 rfl ?_ (fits_of_scanBound (by rw [hn2]; exact hb)))
    have ho2 := store_at (es' := en2) (t' := tb3) ho1 rfl
    exact wpAny_pure (hR _ (sb1.trans (Heap.SameBut.update _ a _)) ⟨_, en2, _, tb3, ho2, hex, rfl, fun e he => g1 e (pm.mem_iff.mp he), (pm.map tk1).trans pm1, nd1, hb, hf3, hr3, by rw [hl3]; exact hl⟩)
  · exact wpAny_pure (hR _ sb1 ⟨_, en1, _, tb, ho1, hex, rfl, g1, pm1, nd1, hb, hf, hr, hl⟩)
theorem ts_add {z : Str} {tk : Tok} {Q : Bool → Shared → Prop} (R : TS w s.heap a L) (room : L.length + 1 < scanBound)
    (hQ : ∀ b h', Heap.SameBut a s.heap h' → TS w h' a (put1 L z) → Q b { s with heap := h' }) :
    wpAny (model P w) A (setAddHashed a (.str z tk) ((strKind P w).hash z)) Q E s := by
  obtain ⟨ob, ents, ep, tab, ho, hex, hd, g, pm0, nd, hb, hf, hr, hl⟩ := R
  have hkey : (strKind P w).is z (.str z tk) = true := strKind_is P w z tk
  have hsc : (Value.str z tk).scannable = true := rfl
  have hel : ElemsOf (strKind P w) ents.toList := te_elems g
  have hn : ents.size = L.length := by
    have q := pm0.length_eq
    rw [List.length_map, Array.length_toList] at q
    exact q
  unfold setAddHashed setAddHashedIn
  refine wpAny_holding (wpAny_bind (wpAny_setState_of ho hd hf ?_))
  dsimp only
  rw [byScan_of hsc (by rw [hn]; exact hb) hel]
  simp only [↓reduceIte]
  unfold setAddByScan
  refine wpAny_bind (wpAny_bind (wpAny_rule (wpAny_bind (wpAny_setScan_of hkey ho hd hf hel ?_))))
  cases hfi : List.findIdx? (fun e => (strKind P w).is z e.2) ents.toList with
  | some j =>
    dsimp only
    obtain ⟨hj, pj, _⟩ := List.findIdx?_eq_some_iff_getElem.mp hfi
    have hz : z ∈ L := pm0.mem_iff.mp ((te_mem (P := P) (w := w) g z).2 ⟨ents.toList[j], List.getElem_mem hj, pj⟩)
    refine wpAny_pure (wpAny_pure ?_)
    refine hQ _ s.heap (Heap.SameBut.refl a s.heap) ?_
    unfold put1
    rw [if_pos hz]
    exact ⟨ob, ents, ep, tab, ho, hex, hd, g, pm0, nd, hb, hf, hr, hl⟩
  | none =>
    dsimp only
    have hz : z ∉ L := fun q => by
      obtain ⟨e, he, c⟩ := (te_mem (P := P) (w := w) g z).1 (pm0.mem_iff.mpr q)
      have d := List.findIdx?_eq_none_iff.mp hfi e he
      rw [c] at d
      cases d
    have hgw : ∀ (b : Bool) {s₁ : Shared} {Q' : Unit → Shared → Prop}, Q' () s₁ → wpAny (model P w) A (match b with | true => rule "set.scan.the-table-gave-way" | false => pure ()) Q' E s₁ :=
      fun b _ _ q => by cases b <;> first | exact wpAny_pure q | exact wpAny_rule q
    have pm := layNew_perm tab ents ((strKind P w).hash z) (.str z tk)
    have hf1 := layNew_fits tab ents ((strKind P w).hash z) (.str z tk)
    have hr1 := layNew_ris tab ents ((strKind P w).hash z) (.str z tk) hr
    have hl1 := layNew_led tab ents ((strKind P w).hash z) (.str z tk)
    generalize layNew tab ents ((strKind P w).hash z) (.str z tk) = Z at pm hf1 hr1 hl1 ⊢
    obtain ⟨en1, tb1, dmy, gave⟩ := Z
    dsimp only at pm hf1 hr1 hl1 ⊢
    rw [Array.toList_push] at pm
    have pc : en1.toList.Perm (((strKind P w).hash z, Value.str z tk) :: ents.toList) := pm.trans (List.perm_append_singleton _ _)
    have pk : (en1.toList.map tk1).Perm (z :: L) := (pc.map tk1).trans (List.Perm.cons z pm0)
    have g1 : ∀ e ∈ en1.toList, TE w e := fun e he => by
      rcases List.mem_cons.mp (pc.mem_iff.mp he) with q | q
      · exact ⟨z, tk, q⟩
      · exact g e q
    have nd1 : (z :: L).Nodup := List.nodup_cons.mpr ⟨hz, nd⟩
    have hled : w.params.followText "set-order" = true ∨ tb1.led = true := by rw [hl1]; exact hl
    have e1 : put1 L z = z :: L := if_neg hz
    rw [e1] at hQ
    refine wpAny_bind (hgw _ ?_)
    split
    · refine wpAny_bind ?_
      rw [hashByValue_scannable 8 hsc]
      refine wpAny_pure ?_
      refine ts_add_end (dm := dmy) ?_ ho hex hd g1 pk nd1 room ?_ ?_ ?_ ?_
      · intro b _ _ q; cases b <;> first | exact wpAny_pure q | exact wpAny_rule q
      · first | (split <;> first | exact hf1 | exact SetTable.fits_plain_off hf1) | exact hf1
      · first | (split <;> exact hr1) | exact hr1
      · first | (split <;> exact hled) | exact hled
      · intro h' sb r; dsimp only; exact wpAny_pure (hQ _ h' sb r)
    · refine wpAny_bind (wpAny_pure ?_)
      simp only [↓reduceIte]
      refine ts_add_end (dm := dmy) ?_ ho hex hd g1 pk nd1 room hf1 hr1 hled ?_
      · intro b _ _ q; cases b <;> first | exact wpAny_pure q | exact wpAny_rule q
      · intro h' sb r; dsimp only; exact wpAny_pure (hQ _ h' sb r)
end
end TSet
end
section
namespace TSet
open PySem PySem.Spec PyProof.Rows L2
/-- the texts of a list, each once -/
def ded (xs : List Str) : List Str := xs.foldl put1 []
theorem put1_mem (L : List Str) (z y : Str) : y ∈ put1 L z ↔ y = z ∨ y ∈ L := by
  unfold put1
  split
  · rename_i h
    exact ⟨.inr, fun q => q.elim (fun e => e ▸ h) id⟩
  · exact List.mem_cons
theorem fold_mem : ∀ (xs L : List Str) (y : Str), y ∈ xs.foldl put1 L ↔ y ∈ L ∨ y ∈ xs
  | [], L, y => by simp
  | x :: xs, L, y => by
    rw [List.foldl_cons, fold_mem xs, put1_mem, List.mem_cons]
    constructor
    · rintro ((q | q) | q)
      · exact .inr (.inl q)
      · exact .inl q
      · exact .inr (.inr q)
    · rintro (q | q | q)
      · exact .inl (.inr q)
      · exact .inl (.inl q)
      · exact .inr q
theorem ded_mem (xs : List Str) (y : Str) : y ∈ ded xs ↔ y ∈ xs := by
  unfold ded
  rw [fold_mem]
  simp
theorem fold_len : ∀ (xs L : List Str), (xs.foldl put1 L).length ≤ L.length + xs.length
  | [], L => Nat.le_refl _
  | x :: xs, L => by
    have q := fold_len xs (put1 L x)
    have r := put1_len L x
    rw [List.foldl_cons, List.length_cons]
    omega
theorem ded_len (xs : List Str) : (ded xs).length ≤ xs.length := by
  have q := fold_len xs []
  unfold ded
  simpa using q
theorem ded_snoc (xs : List Str) (x : Str) : ded (xs ++ [x]) = put1 (ded xs) x := by
  unfold ded
  rw [List.foldl_append]
  rfl
theorem take_snoc {α : Type} {l : List α} {i : Nat} {x : α} (h : l[i]? = some x) : l.take (i + 1) = l.take i ++ [x] := by
  rw [List.take_add_one, h]
  rfl
section
variable {P : Program} {w : World} {A : Around} {E : Value → Shared → Prop} {s : Shared}
theorem upd_loop {I : Addr} {fp wr : List Addr} {G : Array GenState → Array GenState → Prop} {n : Nat} {Pv : Nat → Value → Prop} {St : Nat → Shared → Prop} {R : Result → Shared → Prop}
    (W : WalksS P w A.in1 I fp wr G n Pv St) (S : Addr) (out : S ∉ fp) (xs : List Str) (hn : n = xs.length) (few : xs.length < scanBound) (hval : ∀ i v, Pv i v → ∃ z t, xs[i]? = some z ∧ v = .str z t) :
    ∀ (k i : Nat) (s : Shared), n - i = k → i ≤ n → St i s → TS w s.heap S (ded (xs.take i)) →
      (∀ s', Moved (S :: wr) G s s' → TS w s'.heap S (ded xs) → R (.ok (.ret .none)) s') →
      codeAny (model P w) A (.builtin "set.update.loop" ⟨[.ref S, .ref I], []⟩) R s := by
  have hSw : S ∉ wr := fun h => out (W.sub _ h)
  have hsub : ∀ b ∈ wr, b ∈ S :: wr := fun b hb => List.mem_cons_of_mem _ hb
  intro k
  induction k with
  | zero =>
    intro i s hk hi hst hS hR
    obtain rfl : i = n := by omega
    refine codeAny_builtin F.entry_set_update_loop ?_
    rw [Around.under_plainId F.plain_set_update_loop _]
    refine wpAny_bind (m := pyNext (.ref I)) (W.done s _ _ hst fun s' hm => ?_)
    rw [hn, List.take_length] at hS
    exact wpAny_pure (hR s' (hm.mono hsub) (hS.keep fun o e => hm.heap S o hSw e))
  | succ k ih =>
    intro i s hk hi hst hS hR
    have hlt : i < n := by omega
    refine codeAny_builtin F.entry_set_update_loop ?_
    rw [Around.under_plainId F.plain_set_update_loop _]
    refine wpAny_bind (m := pyNext (.ref I)) (W.item i s _ _ hlt hst fun v s' hP hst' hm => ?_)
    obtain ⟨z, t, hz, rfl⟩ := hval i v hP
    have hS1 : TS w s'.heap S (ded (xs.take i)) := hS.keep fun o e => hm.heap S o hSw e
    have hl : (ded (xs.take i)).length + 1 < scanBound ∨ (ded (xs.take i)).length + 1 ≤ xs.length := by
      have q := ded_len (xs.take i)
      rw [List.length_take] at q
      right
      omega
    have hroom : (ded (xs.take i)).length + 1 < scanBound := hl.elim id fun q => Nat.lt_of_le_of_lt q few
    refine wpAny_bind (m := holding [Value.str z t] (setAdd S (.str z t))) (wpAny_holding ?_)
    unfold setAdd
    refine wpAny_holding (wpAny_bind ((strKind P w).pyHash (k := z) (strKind_is _ _ _ _) ?_))
    refine ts_add (s := { s' with toks := s'.toks + 1 }) hS1 hroom fun b h' sb hS2 => ?_
    rw [← ded_snoc, ← take_snoc hz] at hS2
    refine wpAny_pure ⟨plainId_quiet F.plain_set_update_loop _, ih (i + 1) _ (by omega) hlt (W.frame _ s' _ _ hst' (Nat.le_succ _) fun c hc o e => ?_) hS2 fun s2 hm2 hS3 => ?_⟩
    · rw [sb.2 c fun q => out (q ▸ hc)]; exact e
    · refine hR s2 (Moved.trans W.gtrans ((hm.mono hsub).then_heap (Nat.le_succ _) fun c o hc e => ?_) hm2) hS3
      rw [sb.2 c fun q => hc (by rw [q]; exact List.mem_cons_self)]; exact e
theorem strs_ix : ∀ {us : List Value} {xs : List Str}, StrsAre us xs → ∀ (i : Nat) (v : Value), us[i]? = some v → ∃ z t, xs[i]? = some z ∧ v = .str z t
  | _, _, .nil, i, v, h => by simp at h
  | _, _, .cons z t _, 0, v, h => ⟨z, t, rfl, (Option.some.inj h).symm⟩
  | _, _, .cons _ _ r, i + 1, v, h => by
    rw [List.getElem?_cons_succ] at h
    rw [List.getElem?_cons_succ]
    exact strs_ix r i v h
abbrev nob (w : World) : Obj := { cls := .type "set", dict := none, data := .set #[] 0 (.fresh 0 0 (!w.params.followText "set-order")) }
/-- set(xs), xs a list of texts -/
theorem call_set_texts {l : Addr} {items : Array Value} {xs : List Str} {Q : Value → Shared → Prop} (hh : A.handled = none) (hl : s.heap.IsList l items) (hi : StrsAre items.toList xs) (few : xs.length < scanBound)
    (hq : ∀ (h' : Heap) (tk : Nat), TS w h' s.heap.objs.size (ded xs) → (∀ b o, s.heap.get? b = some o → h'.get? b = some o) → Q (.ref s.heap.objs.size) { s with heap := h', toks := tk }) :
    wpAny (model P w) A (call (.type "set") [.ref l]) Q E s := by
  have hisz : items.size = xs.length := by rw [← Array.length_toList]; exact StrsAre.len_eq hi
  obtain ⟨c, tl, hmro⟩ := F.called_set.mro
  have hmade := F.called_set.made
  have hsub := F.called_set.sub
  refine wpAny_call (codeAny_of_tree ?_)
  show wpAny _ _ (callAny (.type "set") _) _ _ _
  refine wpAny_pure ⟨Code.quiet_builtin _ (by decide +kernel), codeAny_builtin F.entry_type_call ?_⟩
  rw [Around.under_plain (weight_type_call_type "set" [.ref l] []) rfl]
  have h1 := F.called_set.notType
  have h2 := F.called_set.canCreate
  have hct := F.typeCall_set_1 (.ref l)
  repeat (any_goals (first | assumption | wp_step))
  refine codeAny_mono (code_set_led1 (.ref l) (E := E) (Q₁ := fun ov s₁ => ov = .ref s.heap.objs.size ∧ s₁ = { s with heap := s.heap.push { cls := .type "set", dict := none, data := .set #[] 0 (.fresh 0 0 (!w.params.followText "set-order")) } }) ⟨rfl, rfl⟩) fun r s₁ hr => ?_
  cases r with
  | error e => exact hr
  | ok fl =>
    cases fl with
    | ret ov =>
      obtain ⟨rfl, rfl⟩ := hr
      have hS : (s.heap.push (nob w)).get? s.heap.objs.size = some (nob w) := Heap.get?_push_size _ rfl
      have hT : Shared.TypeIs { s with heap := s.heap.push (nob w) } (.ref s.heap.objs.size) "set" := ⟨_, hS, rfl⟩
      have hli := F.called_set.init.lookup
      have hbi := F.called_set.init.bind (.ref s.heap.objs.size)
      repeat (any_goals (first | assumption | wp_step))
      refine codeAny_mono (codeAny_call_builtin (R := wants (fun r s₂ => r = .none ∧ ∃ h' tk, s₂ = { s with heap := h', toks := tk } ∧ TS w h' s.heap.objs.size (ded xs) ∧
          (∀ b o, s.heap.get? b = some o → h'.get? b = some o)) E) F.called_set.init.plain F.entry_set_init (check_set_init_1 hT ?_)) fun r₂ s₂ hr₂ => ?_
      · obtain ⟨ol, hol, hcl, nl, hdl⟩ := hl
        obtain ⟨ocls, odict, odata, oslots⟩ := ol
        simp only at hcl hdl
        subst hcl; subst hdl
        have hol' : (s.heap.push (nob w)).get? l = some { cls := .type "list", dict := odict, data := .seq items nl, slots := oslots } := Heap.get?_push_of_some _ hol
        have hsls := F.sub_list_set
        have hslf := F.sub_list_frozenset
        have hne : (Value.type "list" == Value.type "dict") = false := by decide
        have hl1 : (s.heap.push (nob w)).IsList l items := ⟨_, hol', rfl, nl, rfl⟩
        unfold Builtin.«set.__init__» noKeywords Builtin.Frozenset.updateFrom
        generalize hPI : pyIter = PI
        wp_walk
        subst hPI
        refine wpAny_pyIter_list hl1 ?_
        refine wpAny_bind (wpAny_runValue ?_)
        have hlS : l < s.heap.objs.size := Heap.lt_size hol
        have hz1 : (s.heap.push (nob w)).objs.size = s.heap.objs.size + 1 := Heap.size_push ..
        have hneI : l ≠ (s.heap.push (nob w)).objs.size := by rw [hz1]; exact Nat.ne_of_lt (Nat.lt_succ_of_lt hlS)
        have hSf : s.heap.objs.size ∉ [(s.heap.push (nob w)).objs.size, l] := by
          rw [hz1]
          intro m
          rcases List.mem_cons.mp m with q | q
          · exact absurd q (Nat.ne_of_lt (Nat.lt_succ_self _))
          · exact absurd (List.mem_singleton.mp q) (Nat.ne_of_gt hlS)
        refine upd_loop (A := A.in1.in1) ((Walks.list (by simp [hh]) _ l hneI items).toS) s.heap.objs.size hSf xs hisz few
          (fun i v hv => strs_ix hi i v (by rw [Array.getElem?_toList]; exact hv)) (items.size - 0) 0 _ rfl (Nat.zero_le _)
          ⟨⟨_, Heap.get?_push_size _ rfl, rfl, rfl⟩, (hl1.push _)⟩ ?hS0 ?hR
        case hS0 => exact TS.fresh (Heap.get?_push_of_some _ hS) rfl
        case hR =>
          intro s' hm hS'
          obtain ⟨h', g2, d', tk', os'⟩ := s'
          have eg : g2 = s.gens := hm.gens
          have ed : d' = s.drawn := hm.drawn
          have eo : os' = s.os := hm.os
          subst eg; subst ed; subst eo
          show wpAny _ _ _ _ _ _
          refine wpAny_pure ?_
          show wpAny _ _ (ret Value.none) _ _ _
          refine wpAny_pure ⟨rfl, h', tk', rfl, hS', fun b o e => ?_⟩
          have hlt := Heap.lt_size e
          refine hm.heap b o (fun m => ?_) (Heap.get?_push_of_some _ (Heap.get?_push_of_some _ e))
          rcases List.mem_cons.mp m with q | q
          · exact absurd q (Nat.ne_of_lt hlt)
          · have q := List.mem_singleton.mp q
            rw [hz1] at q
            exact absurd q (Nat.ne_of_lt (Nat.lt_succ_of_lt hlt))
      · cases r₂ with
        | error e => exact hr₂
        | ok fl₂ =>
          cases fl₂ with
          | ret r =>
            obtain ⟨rfl, h', tk, rfl, hS', hk'⟩ := hr₂
            repeat (any_goals (first | assumption | wp_step))
            exact hq _ _ hS' hk'
          | _ => exact hr₂.elim
    | _ => exact hr.elim
end
end TSet
end
section
namespace TSet
open PySem PySem.Spec PyProof.Rows L2
section
variable {P : Program} {w : World} {A : Around} {E : Value → Shared → Prop} {s : Shared} {a : Addr} {L : List Str}
theorem sorted_texts {Q : Value → Shared → Prop} (R : TS w s.heap a L) (hh : A.handled = none) (few : L.length < 64)
    (hQ : ∀ s' p (out : Array Value) (c : Nat) (ys : List Str), (∀ b o, s.heap.get? b = some o → s'.heap.get? b = some o) → s'.gens = s.gens → s'.os = s.os → s.heap.objs.size ≤ p →
      s'.heap.get? p = some (seqObj "list" out c) → StrsAre out.toList ys → ys.Perm L → sortedS ys = true → Q (.ref p) s') :
    wpAny (model P w) A (call (.builtin "sorted") [.ref a]) Q E s := by
  obtain ⟨ob, ents, ep, tab, ho, hex, hd, g, pm0, nd, hb, hf, hr, hl⟩ := R
  have hn : ents.size = L.length := by
    have q := pm0.length_eq
    rw [List.length_map, Array.length_toList] at q
    exact q
  refine Calls.call_function_entry kind_sorted plain_sorted entry_sorted (args_sorted1 _) ?_
  unfold Builtin.«sorted»
  refine wpAny_bind (m := checkCount "sorted" 1 1 _) (wpAny_pure ?_)
  refine wpAny_bind (collect_set (A := A.in1) hh ⟨ob, ho, hex.1, hd⟩ hf (by rw [hn]; exact hb) hr hl fun s1 vs k1 hz g1 o1 pm => ?_)
  have pv : (vs.map strOf).Perm L := by
    have q := pm.map strOf
    rw [List.map_map] at q
    exact q.trans pm0
  have hvl : vs.length = L.length := by
    have q := pv.length_eq
    rw [List.length_map] at q
    exact q
  have hS : StrsAre vs (vs.map strOf) := strsAre_map vs fun v hv => by
    obtain ⟨e, he, q⟩ := List.mem_map.mp (pm.mem_iff.mp hv)
    obtain ⟨z, tk, rfl⟩ := g e he
    exact ⟨z, tk, q.symm⟩
  refine wpAny_bind (wpAny_newList ?_ (by rw [hvl, sizeLine_eq]; omega))
  have hoL : (s1.heap.push (seqObj "list" vs.toArray 0)).get? s1.heap.objs.size = some (seqObj "list" vs.toArray 0) := Heap.get?_push_size _ rfl
  refine wpAny_bind (wpAny_holding (wpAny_call_entry slot_list_sort ⟨_, hoL, rfl⟩ entry_list_sort
    (list_sort_treeK strKind_oneLt hoL hS.keysOf (fun v₁ v₂ rest e => keyKind_strs (by rw [← e]; exact hS)) (by rw [hvl]; exact few) fun st' hp hs => ⟨_, rfl, ?_⟩) (args_list_sort _)))
  obtain ⟨ys, y1, y2, y3⟩ := sorted_out_str hS hp hs
  obtain ⟨c, hc⟩ := sortedHeap_at (vs := vs) (out := (arrOf st').map (·.2)) hoL
  refine wpAny_pure ⟨_, rfl, hQ _ s1.heap.objs.size _ c ys (fun b u e => ?_) g1 o1 hz hc y1 (y2.trans pv) y3⟩
  have q := k1 b u e
  have hlt := Heap.lt_size q
  show (sortedHeap (s1.heap.push (seqObj "list" vs.toArray 0)) s1.heap.objs.size vs ((arrOf st').map (·.2))).get? b = some u
  rw [sortedHeap_old (Nat.ne_of_lt hlt) (by rw [size_push']; exact Nat.lt_succ_of_lt hlt)]
  exact Heap.get?_push_of_some _ q
end
/-! ### over the layer -/
def TSO (w : World) (a : Addr) (L : List Str) : HO := .ext fun h => TS w h a L
theorem tso_new {P : Program} {w : World} {H : Hp} {h : Heap} {a : Addr} {L : List Str} (R : TS w h a L) : ObjOk P w H h a (TSO w a L) := by
  have ⟨ob, _, _, _, ho, _⟩ := R
  exact ⟨R, ⟨ob, ho⟩, fun _ _ p k => p.keep k⟩
section
variable {X : Cx}
/-- set(xs), xs a list of texts, and sorted of it -/
def rSetS (K : PySem.W.Frag) (w : World) : List V → Hp → VK → Prop := fun vs H Q => ∃ (l : Addr) (xs : List Str), vs = [V.ref l] ∧ SqL K H l (xs.map V.str) ∧ xs.length < scanBound ∧
  ∀ a, H a = none → Q (.ref a) (upd H a (TSO w a (ded xs)))
theorem cr_setS (hc : X.calm = true) : CallR X (.type "set") (rSetS X.K X.w) := by
  intro pins s σ H vs us Q I r h
  obtain ⟨l, xs, rfl, hl, few, q⟩ := h
  rw [Vals.ref1 r]
  obtain ⟨its, rv, pl, _⟩ := I.list hl
  have hn : H s.heap.objs.size = none := I.hok.fresh (Nat.le_refl _)
  refine call_set_texts (P := X.prog) (I.ok.hd hc) pl.isList (by simpa using Vals.strs rv) few fun h' tk R k => ?_
  exact ⟨.ref s.heap.objs.size, upd H s.heap.objs.size (TSO X.w s.heap.objs.size (ded xs)), I.laid (t' := tk) k (Nat.le_refl _) (tso_new R), rfl, q _ hn⟩
def rSortedTexts (w : World) : List V → Hp → VK → Prop := fun vs H Q => ∃ (a : Addr) (L : List Str), vs = [V.ref a] ∧ H a = some (TSO w a L) ∧ L.length < 64 ∧
  ∀ (ys : List Str) (p : Addr), ys.Perm L → sortedS ys = true → H p = none → Q (.ref p) (upd H p (.lst (ys.map V.str)))
theorem cr_sortedTexts (hc : X.calm = true) : CallR X (.builtin "sorted") (rSortedTexts X.w) := by
  intro pins s σ H vs us Q I r h
  obtain ⟨a, L, rfl, ha, few, q⟩ := h
  have R : TS X.w s.heap a L := (I.hok a _ ha).1
  rw [Vals.ref1 r]
  refine sorted_texts (P := X.prog) R (I.ok.hd hc) few fun s' p out c ys k g o hp hg hS pm srt => ?_
  have hlen : (ys.map V.str).length ≤ sizeLine := by
    rw [List.length_map, pm.length_eq, sizeLine_eq]
    omega
  have hn : H p = none := I.hok.fresh hp
  have J : Inv X pins σ (upd H p (.lst (ys.map V.str))) { s with heap := s'.heap, gens := s'.gens, drawn := s'.drawn, toks := s'.toks } :=
    I.call (ch := []) (Un.laid k hp hn) (I.hok.laid k hp ⟨hlen, out.toList, c, vals_of_strs hS, hg⟩) (by rw [g]; exact I.bare) (fun _ z => nomatch z)
  have e : s' = { s with heap := s'.heap, gens := s'.gens, drawn := s'.drawn, toks := s'.toks } := by
    cases s'
    cases s
    cases o
    rfl
  rw [e]
  exact ⟨.ref p, _, J, rfl, q ys p pm srt hn⟩
end
end TSet
end
section
/-! Own: what rules choose, their one form; ascending texts; tables. Nothing of a law's text. -/
namespace K10
open PySem PySem.Spec PyProof.Rows L2

abbrev Pk := Str × Int
/-- the bay of the first pick that is open at f -/
def choose (f : Str → Int) : List Pk → Option Str
  | [] => none
  | p :: r => if p.2 < f p.1 then some p.1 else choose f r
def setM (m : Str → Option Int) (b : Str) (k : Int) : Str → Option Int := fun y => if y = b then some k else m y
/-- is it kept behind what was passed? -/
def keeps (m : Str → Option Int) (p : Pk) : Bool := match m p.1 with
  | none => true
  | some k => decide (p.2 < k)
def mAfter (m : Str → Option Int) (p : Pk) : Str → Option Int := if keeps m p = true then setM m p.1 p.2 else m
def kept (m : Str → Option Int) : List Pk → List Pk
  | [] => []
  | p :: r => if keeps m p = true then p :: kept (setM m p.1 p.2) r else kept m r
def mEnd (m : Str → Option Int) : List Pk → (Str → Option Int)
  | [] => m
  | p :: r => mEnd (mAfter m p) r
theorem kept_app (x : Pk) : ∀ (l : List Pk) (m : Str → Option Int), kept m (l ++ [x]) = kept m l ++ (if keeps (mEnd m l) x = true then [x] else [])
  | [], m => by
    show (if keeps m x = true then x :: kept (setM m x.1 x.2) [] else kept m []) = [] ++ (if keeps m x = true then [x] else [])
    split <;> rfl
  | p :: r, m => by
    show (if keeps m p = true then p :: kept (setM m p.1 p.2) (r ++ [x]) else kept m (r ++ [x])) = (if keeps m p = true then p :: kept (setM m p.1 p.2) r else kept m r) ++ (if keeps (mEnd (mAfter m p) r) x = true then [x] else [])
    by_cases h : keeps m p = true
    · rw [if_pos h, if_pos h, kept_app x r, List.cons_append]
      unfold mAfter
      rw [if_pos h]
    · rw [if_neg h, if_neg h, kept_app x r]
      unfold mAfter
      rw [if_neg h]
theorem mEnd_app (x : Pk) : ∀ (l : List Pk) (m : Str → Option Int), mEnd m (l ++ [x]) = mAfter (mEnd m l) x
  | [], _ => rfl
  | p :: r, m => mEnd_app x r (mAfter m p)
theorem kept_len : ∀ (l : List Pk) (m : Str → Option Int), (kept m l).length ≤ l.length
  | [], _ => Nat.le_refl 0
  | p :: r, m => by
    show (if keeps m p = true then p :: kept (setM m p.1 p.2) r else kept m r).length ≤ r.length + 1
    split
    · exact Nat.succ_le_succ (kept_len r _)
    · exact Nat.le_succ_of_le (kept_len r _)
theorem kept_below : ∀ (l : List Pk) (m : Str → Option Int) (p : Pk), p ∈ kept m l → ∀ k, m p.1 = some k → p.2 < k
  | [], _, p, h, _, _ => by cases h
  | q :: r, m, p, h, k, e => by
    have h' : p ∈ (if keeps m q = true then q :: kept (setM m q.1 q.2) r else kept m r) := h
    by_cases c : keeps m q = true
    · rw [if_pos c] at h'
      have c2 := c
      unfold keeps at c2
      rcases List.mem_cons.mp h' with rfl | h2
      · rw [e] at c2
        exact of_decide_eq_true c2
      · by_cases e2 : p.1 = q.1
        · have h3 := kept_below r _ p h2 q.2 (by unfold setM; rw [if_pos e2])
          rw [← e2, e] at c2
          have h4 : q.2 < k := of_decide_eq_true c2
          omega
        · exact kept_below r _ p h2 k (by unfold setM; rw [if_neg e2]; exact e)
    · rw [if_neg c] at h'
      exact kept_below r _ p h' k e
/-- neighbours of one bay have falling keeps -/
def Falls : List Pk → Prop
  | [] => True
  | [_] => True
  | p :: q :: r => (p.1 = q.1 → q.2 < p.2) ∧ Falls (q :: r)
theorem falls_kept : ∀ (l : List Pk) (m : Str → Option Int), Falls (kept m l)
  | [], _ => True.intro
  | p :: r, m => by
    show Falls (if keeps m p = true then p :: kept (setM m p.1 p.2) r else kept m r)
    split
    · have ih := falls_kept r (setM m p.1 p.2)
      have hb := kept_below r (setM m p.1 p.2)
      cases h : kept (setM m p.1 p.2) r with
      | nil => exact True.intro
      | cons q t =>
        rw [h] at ih hb
        exact ⟨fun e => hb q List.mem_cons_self p.2 (by unfold setM; rw [if_pos e.symm]), ih⟩
    · exact falls_kept r m
theorem choose_kept (f : Str → Int) : ∀ (l : List Pk) (m : Str → Option Int), (∀ b k, m b = some k → f b ≤ k) → choose f (kept m l) = choose f l
  | [], _, _ => rfl
  | p :: r, m, h => by
    show choose f (if keeps m p = true then p :: kept (setM m p.1 p.2) r else kept m r) = (if p.2 < f p.1 then some p.1 else choose f r)
    by_cases c : keeps m p = true
    · rw [if_pos c]
      show (if p.2 < f p.1 then some p.1 else choose f (kept (setM m p.1 p.2) r)) = _
      by_cases o : p.2 < f p.1
      · rw [if_pos o, if_pos o]
      · rw [if_neg o, if_neg o]
        refine choose_kept f r _ fun b k e => ?_
        unfold setM at e
        by_cases e2 : b = p.1
        · rw [if_pos e2] at e
          cases e
          rw [e2]
          omega
        · rw [if_neg e2] at e
          exact h b k e
    · rw [if_neg c, choose_kept f r m h, if_neg]
      intro o
      unfold keeps at c
      cases e : m p.1 with
      | none => rw [e] at c; exact c rfl
      | some k =>
        rw [e] at c
        have h1 := h _ _ e
        exact c (decide_eq_true (by omega))
/-- without those behind which the same bay stands -/
def step2 : List Pk → List Pk
  | [] => []
  | [p] => [p]
  | p :: q :: r => if p.1 = q.1 then step2 (q :: r) else p :: step2 (q :: r)
theorem choose_step2 (f : Str → Int) : ∀ l : List Pk, Falls l → choose f (step2 l) = choose f l
  | [], _ => rfl
  | [_], _ => rfl
  | p :: q :: r, h => by
    show choose f (if p.1 = q.1 then step2 (q :: r) else p :: step2 (q :: r)) = (if p.2 < f p.1 then some p.1 else choose f (q :: r))
    have ih := choose_step2 f (q :: r) h.2
    by_cases e : p.1 = q.1
    · rw [if_pos e, ih]
      by_cases o : p.2 < f p.1
      · rw [if_pos o]
        show (if q.2 < f q.1 then some q.1 else choose f r) = some p.1
        have := h.1 e
        rw [if_pos (by rw [← e]; omega), e]
      · rw [if_neg o]
    · rw [if_neg e]
      show (if p.2 < f p.1 then some p.1 else choose f (step2 (q :: r))) = _
      rw [ih]
def oneForm (l : List Pk) : List Pk := step2 (kept (fun _ => none) l)
theorem choose_form (f : Str → Int) (l : List Pk) : choose f (oneForm l) = choose f l :=
  (choose_step2 f _ (falls_kept l _)).trans (choose_kept f l _ fun _ _ e => by cases e)
theorem step2_len : ∀ l : List Pk, (step2 l).length ≤ l.length
  | [] => Nat.le_refl 0
  | [_] => Nat.le_refl 1
  | p :: q :: r => by
    have ih := step2_len (q :: r)
    show (if p.1 = q.1 then step2 (q :: r) else p :: step2 (q :: r)).length ≤ (q :: r).length + 1
    split
    · omega
    · exact Nat.succ_le_succ ih
theorem form_len (l : List Pk) : (oneForm l).length ≤ l.length := Nat.le_trans (step2_len _) (kept_len l _)
/-- the filter by the bays behind -/
def behind (l : List Pk) : List (Option Str) := (l.drop 1).map (fun p => some p.1) ++ [none]
theorem step2_zip : ∀ l : List Pk, step2 l = ((l.zip (behind l)).filter fun e => decide (some e.1.1 ≠ e.2)).map (·.1)
  | [] => rfl
  | [p] => by
    show [p] = (([(p, none)] : List (Pk × Option Str)).filter _).map _
    rfl
  | p :: q :: r => by
    have ih := step2_zip (q :: r)
    have e1 : (p :: q :: r).zip (behind (p :: q :: r)) = (p, some q.1) :: (q :: r).zip (behind (q :: r)) := rfl
    rw [e1, List.filter_cons]
    show (if p.1 = q.1 then step2 (q :: r) else p :: step2 (q :: r)) = _
    by_cases e : p.1 = q.1
    · rw [if_pos e, ih, if_neg (by simp [e])]
    · rw [if_neg e, ih, if_pos (by simp [e]), List.map_cons]
theorem putK_keys {kvs : List (Key × V)} {xs : List Str} (e : kvs.map (·.1) = xs.map Sum.inr) (z : Str) (v : V) : ∃ ys : List Str, (putK kvs (Sum.inr z) v).map (·.1) = ys.map Sum.inr ∧ ys.length ≤ xs.length + 1 := by
  unfold putK
  split
  · refine ⟨xs, ?_, Nat.le_succ _⟩
    rw [← e, List.map_map]
    refine List.map_congr_left fun kv _ => ?_
    show (if kv.1 = Sum.inr z then (kv.1, v) else kv).1 = kv.1
    split <;> rfl
  · refine ⟨xs ++ [z], ?_, by rw [List.length_append]; exact Nat.le_refl _⟩
    rw [List.map_append, List.map_append, e]
    rfl
def Good (p : Pk) : Prop := nameB p.1 = true ∧ p.1.length ≤ 1000 ∧ 0 ≤ p.2 ∧ p.2 ≤ 9
theorem mem_kept : ∀ (l : List Pk) (m : Str → Option Int) (p : Pk), p ∈ kept m l → p ∈ l
  | [], _, _, h => h
  | q :: r, m, p, h => by
    have h' : p ∈ (if keeps m q = true then q :: kept (setM m q.1 q.2) r else kept m r) := h
    split at h'
    · rcases List.mem_cons.mp h' with e | h2
      · exact List.mem_cons.mpr (.inl e)
      · exact List.mem_cons_of_mem _ (mem_kept r _ p h2)
    · exact List.mem_cons_of_mem _ (mem_kept r _ p h')
theorem mem_step2 : ∀ (l : List Pk) (p : Pk), p ∈ step2 l → p ∈ l
  | [], _, h => h
  | [_], _, h => h
  | a :: b :: r, p, h => by
    have h' : p ∈ (if a.1 = b.1 then step2 (b :: r) else a :: step2 (b :: r)) := h
    split at h'
    · exact List.mem_cons_of_mem _ (mem_step2 (b :: r) p h')
    · rcases List.mem_cons.mp h' with e | h2
      · exact List.mem_cons.mpr (.inl e)
      · exact List.mem_cons_of_mem _ (mem_step2 (b :: r) p h2)
theorem mem_form {l : List Pk} {p : Pk} (h : p ∈ oneForm l) : p ∈ l := mem_kept l _ p (mem_step2 _ p h)

/-- one form: the keeps of a bay fall, neighbours are unlike, no keep is below 0 -/
def Norm : List Pk → Prop
  | [] => True
  | p :: r => (∀ q ∈ r, q.1 = p.1 → q.2 < p.2) ∧ (∀ q, r.head? = some q → q.1 ≠ p.1) ∧ 0 ≤ p.2 ∧ Norm r
theorem choose_congr {f g : Str → Int} : ∀ {l : List Pk}, (∀ p ∈ l, (p.2 < f p.1 ↔ p.2 < g p.1)) → choose f l = choose g l
  | [], _ => rfl
  | p :: r, h => by
    have h1 := h p List.mem_cons_self
    have ih := choose_congr (l := r) fun q hq => h q (List.mem_cons_of_mem _ hq)
    show (if p.2 < f p.1 then some p.1 else choose f r) = (if p.2 < g p.1 then some p.1 else choose g r)
    rw [ih]
    by_cases c : p.2 < f p.1
    · rw [if_pos c, if_pos (h1.mp c)]
    · rw [if_neg c, if_neg fun q => c (h1.mpr q)]
theorem choose_head {f : Str → Int} {p : Pk} {r : List Pk} (h : p.2 < f p.1) : choose f (p :: r) = some p.1 := if_pos h
theorem choose_tail {f : Str → Int} {p : Pk} {r : List Pk} (h : ¬ p.2 < f p.1) : choose f (p :: r) = choose f r := if_neg h
/-- the first one of a bay has the smaller keep: the other list chooses otherwise -/
theorem no_less {x : Str} {k m : Int} {a b : List Pk} (ha : Norm ((x, k) :: a)) (h : ∀ f, choose f ((x, k) :: a) = choose f ((x, m) :: b)) (lt : m < k) : False := by
  obtain ⟨h1, h2, h3, h4⟩ := ha
  cases a with
  | nil =>
    have e := h fun z => m + 1
    rw [choose_tail (p := (x, k)) (by show ¬ k < m + 1; omega), choose_head (p := (x, m)) (by show m < m + 1; omega)] at e
    cases e
  | cons q r =>
    have ne : q.1 ≠ x := h2 q rfl
    have e := h fun z => if z = x then m + 1 else q.2 + 1
    rw [choose_tail (p := (x, k)) (by show ¬ k < (if x = x then m + 1 else q.2 + 1); rw [if_pos rfl]; omega), choose_head (p := q) (by rw [if_neg ne]; omega), choose_head (p := (x, m)) (by show m < (if x = x then m + 1 else q.2 + 1); rw [if_pos rfl]; omega)] at e
    exact ne (Option.some.inj e)
theorem uniq : ∀ (a b : List Pk), Norm a → Norm b → (∀ f, choose f a = choose f b) → a = b
  | [], [], _, _, _ => rfl
  | [], (y, m) :: b, _, _, h => by
    have e := h fun _ => m + 1
    rw [choose_head (p := (y, m)) (by show m < m + 1; omega)] at e
    cases e
  | (x, k) :: a, [], _, _, h => by
    have e := h fun _ => k + 1
    rw [choose_head (p := (x, k)) (by show k < k + 1; omega)] at e
    cases e
  | (x, k) :: a, (y, m) :: b, ha, hb, h => by
    have exy : x = y := by
      by_cases c : x = y
      · exact c
      · have e := h fun z => if z = x then k + 1 else m + 1
        rw [choose_head (p := (x, k)) (by show k < (if x = x then k + 1 else m + 1); rw [if_pos rfl]; omega), choose_head (p := (y, m)) (by show m < (if y = x then k + 1 else m + 1); rw [if_neg fun q => c q.symm]; omega)] at e
        exact Option.some.inj e
    subst exy
    have ekm : k = m := by
      rcases Int.lt_trichotomy k m with c | c | c
      · exact (no_less hb (fun f => (h f).symm) c).elim
      · exact c
      · exact (no_less ha h c).elim
    subst ekm
    have cut : ∀ (l : List Pk), (∀ q ∈ l, q.1 = x → q.2 < k) → ∀ f : Str → Int, choose f l = choose (fun z => if z = x then min (f x) k else f z) ((x, k) :: l) := fun l hl f => by
      rw [choose_tail (p := (x, k)) (by show ¬ k < (if x = x then min (f x) k else f x); rw [if_pos rfl]; omega)]
      refine choose_congr fun p hp => ?_
      by_cases c : p.1 = x
      · have := hl p hp c
        rw [if_pos c, c]
        omega
      · rw [if_neg c]
    rw [uniq a b ha.2.2.2 hb.2.2.2 fun f => by rw [cut a ha.1 f, cut b hb.1 f, h]]
def FA : List Pk → Prop
  | [] => True
  | p :: r => (∀ q ∈ r, q.1 = p.1 → q.2 < p.2) ∧ FA r
theorem fa_kept : ∀ (l : List Pk) (m : Str → Option Int), FA (kept m l)
  | [], _ => True.intro
  | p :: r, m => by
    show FA (if keeps m p = true then p :: kept (setM m p.1 p.2) r else kept m r)
    split
    · exact ⟨fun q hq e => kept_below r (setM m p.1 p.2) q hq p.2 (by unfold setM; rw [if_pos e]), fa_kept r _⟩
    · exact fa_kept r m
theorem norm_step2 : ∀ (l : List Pk), FA l → (∀ p ∈ l, 0 ≤ p.2) → Norm (step2 l) ∧ (step2 l).head?.map (·.1) = l.head?.map (·.1)
  | [], _, _ => ⟨True.intro, rfl⟩
  | [p], _, h => ⟨⟨(fun q hq => by cases hq), (fun q hq => by cases hq), h p List.mem_cons_self, True.intro⟩, rfl⟩
  | p :: q :: r, fa, h => by
    have ih := norm_step2 (q :: r) fa.2 fun z hz => h z (List.mem_cons_of_mem _ hz)
    show Norm (if p.1 = q.1 then step2 (q :: r) else p :: step2 (q :: r)) ∧ (if p.1 = q.1 then step2 (q :: r) else p :: step2 (q :: r)).head?.map (·.1) = some p.1
    by_cases c : p.1 = q.1
    · rw [if_pos c, c]
      exact ih
    · rw [if_neg c]
      refine ⟨⟨fun z hz e => fa.1 z (mem_step2 _ z hz) e, fun z hz e => ?_, h p List.mem_cons_self, ih.1⟩, rfl⟩
      have e2 := ih.2
      rw [hz] at e2
      have e3 : z.1 = q.1 := Option.some.inj e2
      exact c (e.symm.trans e3)
theorem norm_form {l : List Pk} (h : ∀ p ∈ l, 0 ≤ p.2) : Norm (oneForm l) := (norm_step2 _ (fa_kept l _) fun p hp => h p (mem_kept l _ p hp)).1
/-- what chooses alike has one form -/
theorem form_eq {a b : List Pk} (ha : ∀ p ∈ a, 0 ≤ p.2) (hb : ∀ p ∈ b, 0 ≤ p.2) (h : ∀ f, choose f a = choose f b) : oneForm a = oneForm b :=
  uniq _ _ (norm_form ha) (norm_form hb) fun f => by rw [choose_form, choose_form, h]
theorem choose_app (f : Str → Int) : ∀ (a b : List Pk), choose f (a ++ b) = (choose f a).or (choose f b)
  | [], b => rfl
  | p :: r, b => by
    show (if p.2 < f p.1 then some p.1 else choose f (r ++ b)) = (if p.2 < f p.1 then some p.1 else choose f r).or (choose f b)
    by_cases c : p.2 < f p.1
    · rw [if_pos c, if_pos c]
      rfl
    · rw [if_neg c, if_neg c]
      exact choose_app f r b

def leS (x y : Str) : Prop := ¬ y.cps.toList < x.cps.toList
theorem leS_trans {x y z : Str} (h1 : leS x y) (h2 : leS y z) : leS x z := List.le_trans (α := Nat) (l₁ := x.cps.toList) (l₂ := y.cps.toList) (l₃ := z.cps.toList) h1 h2
theorem leS_anti {x y : Str} (h1 : leS x y) (h2 : leS y x) : x = y := by
  have e : x.cps.toList = y.cps.toList := List.le_antisymm (α := Nat) h1 h2
  cases x
  cases y
  congr 1
  exact Array.toList_inj.mp e
theorem rising_pw : ∀ (p : Str) (l : List Str), risingS p l = true → (p :: l).Pairwise leS
  | p, [], _ => List.pairwise_singleton _ _
  | p, x :: r, h => by
    obtain ⟨h1, h2⟩ := Bool.and_eq_true_iff.mp (show (!ltCps x.cps.toList p.cps.toList && risingS x r) = true from h)
    have ih := rising_pw x r h2
    have hx : leS p x := by
      rw [ltCps_eq] at h1
      unfold leS
      intro c
      rw [decide_eq_true c] at h1
      cases h1
    refine List.pairwise_cons.mpr ⟨fun y hy => ?_, ih⟩
    rcases List.mem_cons.mp hy with rfl | hy
    · exact hx
    · exact leS_trans hx ((List.pairwise_cons.mp ih).1 y hy)
theorem sorted_pw : ∀ l : List Str, sortedS l = true → l.Pairwise leS
  | [], _ => List.Pairwise.nil
  | x :: r, h => rising_pw x r h
theorem asc_aux : ∀ xs ys : List Str, xs.Pairwise leS → ys.Pairwise leS → xs.Nodup → ys.Nodup → (∀ z, z ∈ xs ↔ z ∈ ys) → xs = ys
  | [], [], _, _, _, _, _ => rfl
  | [], y :: t, _, _, _, _, hm => by have := (hm y).mpr List.mem_cons_self; cases this
  | x :: r, [], _, _, _, _, hm => by have := (hm x).mp List.mem_cons_self; cases this
  | x :: r, y :: t, h1, h2, n1, n2, hm => by
    obtain ⟨a1, a2⟩ := List.pairwise_cons.mp h1
    obtain ⟨b1, b2⟩ := List.pairwise_cons.mp h2
    obtain ⟨c1, c2⟩ := List.nodup_cons.mp n1
    obtain ⟨d1, d2⟩ := List.nodup_cons.mp n2
    have e : x = y := by
      rcases List.mem_cons.mp ((hm x).mp List.mem_cons_self) with e | hx
      · exact e
      · rcases List.mem_cons.mp ((hm y).mpr List.mem_cons_self) with e | hy
        · exact e.symm
        · exact leS_anti (a1 y hy) (b1 x hx)
    subst e
    rw [asc_aux r t a2 b2 c2 d2 fun z => ⟨fun hz => ?_, fun hz => ?_⟩]
    · rcases List.mem_cons.mp ((hm z).mp (List.mem_cons_of_mem _ hz)) with e | h
      · exact (c1 (e ▸ hz)).elim
      · exact h
    · rcases List.mem_cons.mp ((hm z).mpr (List.mem_cons_of_mem _ hz)) with e | h
      · exact (d1 (e ▸ hz)).elim
      · exact h
/-- two ascending lists without doubles of the same members are equal -/
theorem asc_eq {xs ys : List Str} (h1 : sortedS xs = true) (h2 : sortedS ys = true) (n1 : xs.Nodup) (n2 : ys.Nodup) (hm : ∀ z, z ∈ xs ↔ z ∈ ys) : xs = ys := asc_aux xs ys (sorted_pw xs h1) (sorted_pw ys h2) n1 n2 hm
end K10
end
section
/-! Own: picks, tables and rules on the heap. Nothing of a law's text. -/
namespace OwR
open PySem PySem.Spec PyProof.Rows L2
theorem dc_it {J : It} {n : Nat} {G : Hp → Prop} {Y : Nat → Hp → V → Hp → Prop} (w : Walk J n G Y) {g : TG} {tt : TT} {tk tv : TE} {vs : List Nat} {σ : L2.St} {H1 : Hp} {D : Addr} {Qd : Hp → Prop} (Pv : Nat → Hp → Prop)
    (h0 : Pv 0 (upd H1 D (.dK []))) (hG : ∀ i H, i ≤ n → Pv i H → G H)
    (turn : ∀ i x H H', i < n → Pv i H → Y i H x H' → g x (wipe σ vs) H' fun σ2 H2 => wipe σ2 vs = wipe σ vs ∧ tt σ2 H2 fun b H3 =>
      if b = true then tk σ2 H3 fun y H4 => tv σ2 H4 fun z H5 => ∃ kvs k, y = kV k ∧ H5 D = some (.dK kvs) ∧ kvs.length < sizeLine ∧ Pv (i + 1) (upd H5 D (.dK (putK kvs k z))) else Pv (i + 1) H3)
    (fin : ∀ H, Pv n H → Qd H) :
    ∃ W : Nat → Nat → Hp → Prop, (∃ m, W 0 m (upd H1 D (.dK []))) ∧ ∀ i m H, W i m H →
      (J.stop i H ∧ Qd H) ∨ (J.go i H ∧ ∃ Nx : Hp → Prop, (∀ H', Nx H' → ∃ m', m' < m ∧ W (i + 1) m' H') ∧ ∀ x H', J.yld i H x H' → g x (wipe σ vs) H' fun σ2 H2 => wipe σ2 vs = wipe σ vs ∧ tt σ2 H2 fun b H3 =>
        if b = true then tk σ2 H3 fun y H4 => tv σ2 H4 fun z H5 => ∃ kvs k, y = kV k ∧ H5 D = some (.dK kvs) ∧ kvs.length < sizeLine ∧ Nx (upd H5 D (.dK (putK kvs k z))) else Nx H3) := by
  refine ⟨fun i m H => m = n - i ∧ i ≤ n ∧ Pv i H, ⟨n, by simp, Nat.zero_le _, h0⟩, fun i m H ⟨em, hi, p⟩ => ?_⟩
  subst em
  have q := hG i H hi p
  rcases Nat.lt_or_ge i n with hlt | hge
  · exact .inr ⟨w.goes i H hlt q, Pv (i + 1), fun H' p' => ⟨n - (i + 1), by omega, rfl, hlt, p'⟩, fun x H' y => turn i x H H' hlt p (w.yields i H x H' hlt q y)⟩
  · obtain rfl : i = n := by omega
    exact .inl ⟨w.stops H q, fin H p⟩
theorem list_any {X : Cx} (hc : X.calm = true) : CallR X (.type "list") (fun xs H Q => (∃ p ys, xs = [.ref p] ∧ (SqL X.K H p ys ∨ SqT X.K H p ys) ∧ ∀ l, H l = none → Q (.ref l) (upd H l (.lst ys))) ∨
    (∃ (a : Addr) (kvs : List (Key × V)), xs = [.ref a] ∧ Rd H a (.dK kvs) ∧ ∀ p, H p = none → Q (.ref p) (upd H p (.lst (kvs.map fun kv => kV kv.1))))) := by
  intro pins s σ H xs us Q I r h
  rcases h with h | h
  · exact call_list_of pins s σ H xs us Q I r h
  · exact call_listD hc pins s σ H xs us Q I r h
end OwR
namespace TSet
open PySem
theorem put1_nodup {L : List Str} (h : L.Nodup) (z : Str) : (put1 L z).Nodup := by
  unfold put1
  split
  · exact h
  · rename_i q
    exact List.nodup_cons.mpr ⟨q, h⟩
theorem fold_nodup : ∀ (xs L : List Str), L.Nodup → (xs.foldl put1 L).Nodup
  | [], _, h => h
  | x :: xs, L, h => fold_nodup xs (put1 L x) (put1_nodup h x)
theorem ded_nodup (xs : List Str) : (ded xs).Nodup := fold_nodup xs [] List.nodup_nil
theorem ded_perm {xs : List Str} (h : xs.Nodup) : (ded xs).Perm xs := (List.perm_ext_iff_of_nodup (ded_nodup xs) h).mpr fun y => ded_mem xs y
end TSet
namespace OwR
open PySem PySem.Spec PyProof.Rows L2
theorem walk_enumT {K : PySem.W.Frag} {a : Addr} {xs : List V} : Walk (IteT K a) xs.length (fun H => SqT K H a xs) (YPair (fun i => some (.int (i : Nat))) (fun i => xs[i]?)) := by
  refine ⟨fun i _ hi q => ⟨xs, xs[i], q, by simp [hi]⟩, fun _ q => ⟨xs, q, Nat.le_refl _⟩, fun i H v H' _ q y => ?_⟩
  obtain ⟨T, x, h1, h2, h3, h4⟩ := y
  exact ⟨T, .int (i : Nat), x, h1, h2, h3, rfl, h4 xs q⟩
end OwR
namespace OwR
open PySem PySem.Spec PyProof.Rows L2
section
variable {X : Cx} {CX : CXT} {k : Nat} {f C : Addr} {sp : Sp} {E : XK} {x : Str} {p pos : Pos}
/-- C(), __init__ by a positional promise -/
theorem pe_makeR0 (M : Mk X.K C f) (F : FnR X.prog X.w X.K X.mg X.base CX k f sp) (hr : Room (k + 1) X.A) (hg : Gl X x) (hm : X.mg x = some (.ref C)) (hx : Passes CX X E) (hdb : (x == ("__debug__" : Str)) = false := by decide) :
    PE X (.Call (.Name x p) [] [] pos) (StX.tMakeR C sp E tNil) := by
  refine ⟨fun pins s σ H Q I h => ?_⟩
  refine wpAny_Call_Name_kw (ld_glob I hg hm ?_ hdb)
  exact PySem.W.callWith_K0 I.kIn M.kp (StX.run_makeR (us := []) M F hr hx I .nil h)
end
end OwR
namespace K10
open PySem PySem.Spec PyProof.Rows L2
/-- the texts that a list, or a dict's keys, hold -/
def TextsAt (K : PySem.W.Frag) (H : Hp) (a : Addr) (xs : List Str) : Prop := SqL K H a (xs.map V.str) ∨ SqT K H a (xs.map V.str) ∨ ∃ kvs, Rd H a (.dK kvs) ∧ kvs.map (·.1) = xs.map Sum.inr
/-- a table's numbers by its names, and no other key -/
def TabOf (kvs : List (Key × V)) (N : Str → Option Int) : Prop := (∀ z, valV kvs (Sum.inr z) = (N z).map V.int) ∧ ∀ i, valV kvs (Sum.inl i) = none
theorem TabOf.nil : TabOf [] fun _ => none := ⟨fun _ => rfl, fun _ => rfl⟩
theorem TabOf.put {kvs : List (Key × V)} {N : Str → Option Int} (t : TabOf kvs N) (z : Str) (v : Int) : TabOf (putK kvs (Sum.inr z) (.int v)) fun y => if y = z then some v else N y := by
  refine ⟨fun y => ?_, fun i => ?_⟩
  · rw [valV_put, t.1 y]
    by_cases e : y = z
    · dsimp only
      rw [if_pos (congrArg Sum.inr e), if_pos e]
      rfl
    · dsimp only
      rw [if_neg (fun q => e (Sum.inr.inj q)), if_neg e]
  · rw [valV_put, t.2 i, if_neg (fun q => by cases q)]
theorem TabOf.cast {kvs : List (Key × V)} {N M : Str → Option Int} (t : TabOf kvs N) (h : ∀ z, N z = M z) : TabOf kvs M := by
  rw [← funext h]
  exact t
theorem TabOf.get {kvs : List (Key × V)} {N : Str → Option Int} (t : TabOf kvs N) {H : Hp} {a : Addr} (h : Rd H a (.dK kvs)) (z : Str) : DGet H a (.str z) ((N z).map V.int) := .inl ⟨kvs, Sum.inr z, h, rfl, (t.1 z).symm⟩
theorem TabOf.mem {kvs : List (Key × V)} {N : Str → Option Int} (t : TabOf kvs N) {xs : List Str} (e : kvs.map (·.1) = xs.map Sum.inr) (z : Str) : z ∈ xs ↔ (N z).isSome = true := by
  have h1 : (kvs.any fun kv => decide (kv.1 = Sum.inr z)) = (valV kvs (Sum.inr z)).isSome := valV_any _ kvs
  rw [t.1 z, Option.isSome_map] at h1
  rw [← h1, List.any_eq_true]
  refine ⟨fun h => ?_, fun ⟨kv, h, e2⟩ => ?_⟩
  · have h2 : (Sum.inr z : Key) ∈ kvs.map (·.1) := by
      rw [e]
      exact List.mem_map.mpr ⟨z, h, rfl⟩
    obtain ⟨kv, h3, h4⟩ := List.mem_map.mp h2
    exact ⟨kv, h3, decide_eq_true h4⟩
  · have h2 : (Sum.inr z : Key) ∈ kvs.map (·.1) := List.mem_map.mpr ⟨kv, h, of_decide_eq_true e2⟩
    rw [e] at h2
    obtain ⟨y, h3, h4⟩ := List.mem_map.mp h2
    exact Sum.inr.inj h4 ▸ h3
def TupAt (H : Hp) (k : Addr) (p : Pk) : Prop := H k = some (.tup [.str p.1, .int p.2])
/-- picks as tuples of a text and a number -/
structure PicksAt (H : Hp) (ks : List Addr) (ps : List Pk) : Prop where
  len : ks.length = ps.length
  at_ : ∀ (i : Nat) (k : Addr) (p : Pk), ks[i]? = some k → ps[i]? = some p → TupAt H k p
theorem PicksAt.nil {H : Hp} : PicksAt H [] [] := ⟨rfl, fun i k p h => by cases h⟩
theorem PicksAt.get {H : Hp} {ks : List Addr} {ps : List Pk} (h : PicksAt H ks ps) {i : Nat} {v : V} (e : (ks.map V.ref)[i]? = some v) : ∃ k p, v = .ref k ∧ ks[i]? = some k ∧ ps[i]? = some p ∧ TupAt H k p := by
  rw [List.getElem?_map] at e
  obtain ⟨k, hk, rfl⟩ := Option.map_eq_some_iff.mp e
  have hi : i < ps.length := by
    rw [← h.len]
    exact (List.getElem?_eq_some_iff.mp hk).1
  exact ⟨k, ps[i], rfl, hk, List.getElem?_eq_getElem hi, h.at_ i k _ hk (List.getElem?_eq_getElem hi)⟩
theorem PicksAt.mono {H H' : Hp} {ks : List Addr} {ps : List Pk} (h : PicksAt H ks ps) (s : ∀ k xs, H k = some (.tup xs) → H' k = some (.tup xs)) : PicksAt H' ks ps := ⟨h.len, fun i k p e1 e2 => s _ _ (h.at_ i k p e1 e2)⟩
theorem PicksAt.same {H H' : Hp} {ks : List Addr} {ps : List Pk} (h : PicksAt H ks ps) (s : Same H H') : PicksAt H' ks ps := h.mono fun k xs e => s k _ e
theorem PicksAt.upd {H : Hp} {ks : List Addr} {ps : List Pk} (h : PicksAt H ks ps) {D : Addr} {o : HO} (n : ∀ xs, H D ≠ some (.tup xs)) : PicksAt (upd H D o) ks ps := h.mono fun k xs e => by
  have : k ≠ D := fun z => n xs (z ▸ e)
  rw [upd_ne this]
  exact e
theorem PicksAt.snoc {H : Hp} {ks : List Addr} {ps : List Pk} (h : PicksAt H ks ps) {k : Addr} {p : Pk} (e : TupAt H k p) : PicksAt H (ks ++ [k]) (ps ++ [p]) := by
  refine ⟨by rw [List.length_append, List.length_append, h.len]; rfl, fun i k' p' e1 e2 => ?_⟩
  rcases Nat.lt_trichotomy i ks.length with c | c | c
  · rw [List.getElem?_append_left c] at e1
    rw [List.getElem?_append_left (by rw [← h.len]; exact c)] at e2
    exact h.at_ i k' p' e1 e2
  · subst c
    rw [List.getElem?_append_right (Nat.le_refl _), Nat.sub_self] at e1
    rw [h.len, List.getElem?_append_right (Nat.le_refl _), Nat.sub_self] at e2
    cases e1
    cases e2
    exact e
  · rw [List.getElem?_eq_none (by rw [List.length_append]; simp; omega)] at e1
    cases e1
theorem upd_keep {H : Hp} {D b : Addr} {o u w : HO} (hD : H D = some w) (h : H b = some u) (n : u ≠ w) : upd H D o b = some u := by
  have : b ≠ D := fun z => by
    rw [z, hD] at h
    exact n (Option.some.inj h).symm
  rw [upd_ne this]
  exact h
theorem free_of {H : Hp} {D b : Addr} {o : HO} (h : upd H D o b = none) : H b = none := by
  unfold upd at h
  split at h
  · cases h
  · exact h
theorem PicksAt.drop {H : Hp} {ks : List Addr} {ps : List Pk} (h : PicksAt H ks ps) : PicksAt H (ks.drop 1) (ps.drop 1) := by
  refine ⟨by rw [List.length_drop, List.length_drop, h.len], fun i k p e1 e2 => ?_⟩
  rw [List.getElem?_drop] at e1 e2
  exact h.at_ _ k p e1 e2
theorem cut_one (kk : List Addr) : cutV (kk.map V.ref) (some 1) none = (kk.drop 1).map V.ref := by
  have e : (some 1 : Option Int) = some ((1 : Nat) : Int) := rfl
  unfold cutV
  rw [HT.sIx_none, e, HT.sIx_nat]
  cases kk with
  | nil => rfl
  | cons x r =>
    have e2 : min 1 ((x :: r).map V.ref).length = 1 := by
      rw [List.length_map]
      show min 1 (r.length + 1) = 1
      omega
    rw [e2]
    show ((r.map V.ref).take (((x :: r).map V.ref).length - 1)) = r.map V.ref
    exact List.take_of_length_le (by rw [List.length_map, List.length_map]; show r.length ≤ r.length + 1 - 1; omega)
def optV : Option Str → V
  | none => .non
  | some z => .str z
theorem behind_vals (kp : List Pk) : ((kp.drop 1).map fun p => V.str p.1) ++ [V.non] = (behind kp).map optV := by
  unfold behind
  rw [List.map_append, List.map_map]
  rfl
/-- a pick as it is passed: a tuple, or a name alone for a keep of 0 -/
def ValAt (H : Hp) (x : V) (p : Pk) : Prop := (∃ k, x = .ref k ∧ TupAt H k p) ∨ (x = .str p.1 ∧ p.2 = 0)
theorem ValAt.same {H H' : Hp} {x : V} {p : Pk} (h : ValAt H x p) (s : Same H H') : ValAt H' x p := h.elim (fun ⟨k, e, t⟩ => .inl ⟨k, e, s _ _ t⟩) .inr
structure ValsAt (H : Hp) (xs : List V) (ps : List Pk) : Prop where
  len : xs.length = ps.length
  at_ : ∀ (i : Nat) (x : V) (p : Pk), xs[i]? = some x → ps[i]? = some p → ValAt H x p
theorem ValsAt.same {H H' : Hp} {xs : List V} {ps : List Pk} (h : ValsAt H xs ps) (s : Same H H') : ValsAt H' xs ps := ⟨h.len, fun i x p e1 e2 => (h.at_ i x p e1 e2).same s⟩
theorem ValsAt.get {H : Hp} {xs : List V} {ps : List Pk} (h : ValsAt H xs ps) {i : Nat} {x : V} (e : xs[i]? = some x) : ∃ p, ps[i]? = some p ∧ ValAt H x p := by
  have hi : i < ps.length := by
    rw [← h.len]
    exact (List.getElem?_eq_some_iff.mp e).1
  exact ⟨ps[i], List.getElem?_eq_getElem hi, h.at_ i x _ e (List.getElem?_eq_getElem hi)⟩
theorem PicksAt.vals {H : Hp} {ks : List Addr} {ps : List Pk} (h : PicksAt H ks ps) : ValsAt H (ks.map V.ref) ps := by
  refine ⟨by rw [List.length_map, h.len], fun i x p e1 e2 => ?_⟩
  rw [List.getElem?_map] at e1
  obtain ⟨k, hk, rfl⟩ := Option.map_eq_some_iff.mp e1
  exact .inl ⟨k, rfl, h.at_ i k p hk e2⟩
def lookL : List Pk → Str → Option Int
  | [], _ => none
  | p :: r, z => if z = p.1 then some p.2 else lookL r z
theorem lookL_mem : ∀ (l : List Pk) (z : Str), (lookL l z).isSome = true ↔ z ∈ l.map (·.1)
  | [], z => by simp [lookL]
  | p :: r, z => by
    unfold lookL
    rw [List.map_cons, List.mem_cons, ← lookL_mem r z]
    by_cases c : z = p.1
    · rw [if_pos c]; exact ⟨fun _ => .inl c, fun _ => rfl⟩
    · rw [if_neg c]; exact ⟨.inr, fun h => h.elim (fun q => absurd q c) id⟩
/-- what stands behind the picks: the keeps by bays, and the bays ascending -/
structure RuleC (K : PySem.W.Frag) (C : Addr) : Prop where
  cls : Cls K C
  n1 : NoAttr K C "_picks"
  n2 : NoAttr K C "_keeps"
  n3 : NoAttr K C "_bays"
structure More (H : Hp) (fs : List (Str × V)) (ps : List Pk) (D b : Addr) (r : List (Key × V)) (zs : List Str) : Prop where
  lm : fs.lookup ("keep" : Str) = none
  lk : fs.lookup ("_keeps" : Str) = some (.ref D)
  lb : fs.lookup ("_bays" : Str) = some (.ref b)
  eD : H D = some (.dK r)
  tb : TabOf r (lookL ps)
  eb : H b = some (.tup (zs.map V.str))
  nd : zs.Nodup
  mem : ∀ z, z ∈ zs ↔ z ∈ ps.map (·.1)
  srt : sortedS zs = true
def RuleAt (C : Addr) (H : Hp) (a : Addr) (ps : List Pk) : Prop := ∃ (dx : Addr) (fs : List (Str × V)) (p : Addr) (ks : List Addr), H a = some (.ins C dx fs) ∧ fs.lookup ("_picks" : Str) = some (.ref p) ∧ H p = some (.tup (ks.map V.ref)) ∧ PicksAt H ks ps ∧ ∃ D b r zs, More H fs ps D b r zs
theorem RuleAt.same {C : Addr} {H H' : Hp} {a : Addr} {ps : List Pk} (h : RuleAt C H a ps) (s : Same H H') : RuleAt C H' a ps := by
  obtain ⟨dx, fs, p, ks, h1, h2, h3, h4, D, b, r, zs, m⟩ := h
  exact ⟨dx, fs, p, ks, s _ _ h1, h2, s _ _ h3, h4.same s, D, b, r, zs, m.lm, m.lk, m.lb, s _ _ m.eD, m.tb, s _ _ m.eb, m.nd, m.mem, m.srt⟩
def pkD (p : Pk) : PyData := .tuple [.str p.1, .int p.2]
theorem pkD_lay {p : Pk} (h : PyData.strOk p.1 = true) : (pkD p).canLay0 = true := by simp [pkD, PyData.canLay0, PyData.canLayAll0, h]
theorem pkD_dep (p : Pk) : (pkD p).depth ≤ 1 := by simp [pkD, PyData.depth, PyData.depthAll]
theorem PicksAt.dp {K : PySem.W.Frag} {H : Hp} : ∀ {ks : List Addr} {ps : List Pk}, PicksAt H ks ps → DpAll K H (ks.map V.ref) (ps.map pkD)
  | [], [], _ => .nil
  | [], _ :: _, h => by cases h.len
  | _ :: _, [], h => by cases h.len
  | k :: ks, p :: ps, h => .cons (.tup (SqT.of (h.at_ 0 k p rfl rfl)) (.cons (.str p.1) (.cons (.int p.2) .nil))) (PicksAt.dp ⟨Nat.succ.inj h.len, fun i k' p' e1 e2 => h.at_ (i + 1) k' p' e1 e2⟩)
def optI : Option Int → V
  | none => .non
  | some i => .int i
/-- what may be asked with `in` and `keep`: a text, or another value -/
def AskAt (K : PySem.W.Frag) (H : Hp) (x : V) (o : Option Str) : Prop := match o with
  | some z => x = .str z
  | none => ∃ t, TyX K H x t ∧ PySem.W.kitOne K t (.type "str") = some false
def keepAt (ps : List Pk) (o : Option Str) : Option Int := o.elim none (lookL ps)
end K10
end
section
namespace K10
open PySem PySem.Spec PyProof.Rows L2
abbrev sName : Stmt := top 10
abbrev sWithin : Stmt := top 11
abbrev sAsc : Stmt := top 12
structure Nm2 (mg : Str → Option Value) : Prop where
  n_int : mg "int" = none
  n_bool : mg "bool" = none
  n_str : mg "str" = none
  n_len : mg "len" = none
  n_all : mg "all" = none
  n_isinstance : mg "isinstance" = none
structure Nm3 (mg : Str → Option Value) : Prop where
  n_sorted : mg "sorted" = none
  n_set : mg "set" = none
  n_list : mg "list" = none
structure Nm4 (mg : Str → Option Value) : Prop where
  n_tuple : mg "tuple" = none
/-- no integer, or True or False -/
def NoInt (K : PySem.W.Frag) (H : Hp) (v : V) : Prop := (∃ b, v = .bl b) ∨ ∃ t, TyX K H v t ∧ PySem.W.kitOne K t (.type "int") = some false
/-- no integer from a to b -/
def NotIn (K : PySem.W.Frag) (H : Hp) (a b : Int) (v : V) : Prop := (∃ i, v = .int i ∧ ¬ (a ≤ i ∧ i ≤ b)) ∨ NoInt K H v
def spWithin (K : PySem.W.Frag) : Sp := fun vs H Q _ => ∃ (v : V) (a b : Int), vs = [v, .int a, .int b] ∧ ((∃ i, v = .int i ∧ Q (.bl (decide (a ≤ i) && decide (i ≤ b))) H) ∨ (NoInt K H v ∧ Q (.bl false) H))
def spAsc (K : PySem.W.Frag) : Sp := fun vs H Q _ => ∃ (a : Addr) (xs : List Str), vs = [.ref a] ∧ TextsAt K H a xs ∧ xs.length < 64 ∧
  ∀ (ys : List Str) (p : Addr) (H' : Hp), ys.Perm (TSet.ded xs) → sortedS ys = true → H p = none → Same H H' → H' p = some (.lst (ys.map V.str)) → Q (.ref p) H'
section
variable {P : Program} {w : World} {K : PySem.W.Frag} {mg : Str → Option Value} {base : Heap}
abbrev nName : List Str := ["value", "sign"]
theorem scN : FnScope nName ["value"] (defScope sName) := ⟨rfl, rfl, rfl, by decide +kernel, rfl, by decide +kernel, by decide +kernel⟩
theorem ok_name {f : Addr} {fd : FuncData} (F : Fun K "is_name" "is_name" sName f fd) (T : Nm2 mg) : FnOk P w K mg base CX0 1 f fd ["value"] (spName K) := by
  refine F.ok scN (fun vs H Q E h => ?_) (fun cdv A outer s H vs Q E hr h => ?_)
  · obtain ⟨v, rfl, _⟩ := h
    rfl
  · obtain ⟨v, rfl, h⟩ := h
    refine ⟨_, (pss_cons (ps_if (PW.pt (pw_or (pt_not (pt_val (pe_callB call_isi (by rfl) T.n_isinstance (by decide +kernel) (pa_cons (pv 0) (pa_cons (pe_bltn (v := .ty "str") (by rfl) T.n_str (by decide +kernel) rfl) pa_nil))))) (pw_or1 (pt_not (pt_chain op_le op_le pe_int (pe_callB call_len (by rfl) T.n_len boot_len (pa_cons (pv 0) pa_nil)) pe_int))))) (pss_one (ps_ret pe_bl)) pss_nil)
    (pss_one (ps_ret (pe_callB (cr_all rfl) (by rfl) T.n_all (by decide +kernel) (pa_cons (pe_lc (own := [("sign", 1)]) (by rfl) scN.nd (pi_str (pv 0)) (blkOk_by (own := [("sign", 1)]) (N := nName) (sc := defScope sName) (by decide +kernel)) (fun _ _ _ _ _ => (pg_name (i := 1) scN.nd rfl (Or.inl rfl))) (fun _ _ _ _ _ => pts_nil) (fun _ _ _ _ _ => (pe_chain op_le_str op_le_str pe_str (pv 1) pe_str))) pa_nil))))), ?_⟩
    rcases h with ⟨z, rfl, hz, k⟩ | ⟨⟨t, ty, kt⟩, k⟩
    · have hz2 : z.length ≤ sizeLine := Nat.le_trans hz (by decide)
      refine ⟨_, rfl, .str z, .ty "str", _, _, true, rfl, .ty _, .base (by constructor), kit_ty (by decide +kernel), true, rfl, ?_⟩
      refine iteF ?_
      refine ⟨_, rfl, .str z, z.length, rfl, ⟨hz2, rfl⟩, _, _, rfl, rfl, _, rfl, ?_⟩
      refine ite2 (fun c1 => ?_) (fun c1 => ?_)
      · have d1 : 1 ≤ z.length := by
          have := of_decide_eq_true c1
          omega
        refine ⟨_, _, rfl, rfl, _, rfl, ?_⟩
        by_cases d2 : z.length ≤ 8
        · have e2 : decide ((z.length : Int) ≤ 8) = true := decide_eq_true (by omega)
          rw [e2]
          refine iteF ?_
          have rest : ∀ b H', Same H H' → b = z.cps.toList.all letter → Q (.bl b) H' := fun b H' s e => by
            have e' : nameB z = b := by
              unfold nameB
              rw [decide_eq_true d1, decide_eq_true d2, e]
              rfl
            rw [← e']
            exact k H' s
          refine ⟨_, rfl, z, rfl, fun D hD => lc_it (walk_str (z := z)) (fun i H' => H' D = some (.lst (((z.cps.toList.take i).map letter).map V.bl)) ∧ Same H H')
            ⟨upd_same, fun b o e => by rw [upd_ne (ne_of_none e hD)]; exact e⟩ (fun _ _ _ _ => trivial) ?_ ?_⟩
          · rintro i x H1 H2 hi ⟨hl, hs⟩ ⟨rfl, c, hc, rfl⟩
            have step : ∀ b : Bool, b = letter c → ∃ acc : List V, H2 D = some (.lst acc) ∧ acc.length < sizeLine ∧
                (upd H2 D (.lst (acc ++ [V.bl b])) D = some (.lst (((z.cps.toList.take (i + 1)).map letter).map V.bl)) ∧ Same H (upd H2 D (.lst (acc ++ [V.bl b])))) := fun b hb => by
              refine ⟨_, hl, ?_, ?_, fun a o e => ?_⟩
              · rw [List.length_map, List.length_map, List.length_take]
                have h9 : z.cps.toList.length = z.length := by first | rfl | simp [Str.length]
                exact Nat.lt_of_le_of_lt (Nat.min_le_right _ _) (by rw [h9, sizeLine_eq]; omega)
              · rw [upd_same, hb, List.take_add_one, show z.cps.toList[i]? = some c by rw [Array.getElem?_toList]; exact hc]
                simp
              · rw [upd_ne (ne_of_none e hD)]
                exact hs a o e
            refine ⟨rfl, ?_⟩
            refine ⟨_, rfl, _, _, rfl, rfl, _, rfl, ?_⟩
            have l1 : (!decide ((⟨#[c]⟩ : Str).cps.toList < ("a" : Str).cps.toList)) = decide (97 ≤ c) := one_le 97 c
            have l2 : (!decide (("z" : Str).cps.toList < (⟨#[c]⟩ : Str).cps.toList)) = decide (c ≤ 122) := one_le c 122
            by_cases c1 : 97 ≤ c
            · rw [l1, decide_eq_true c1]
              refine iteT ?_
              refine ⟨_, _, rfl, rfl, step _ ?_⟩
              rw [l2]
              unfold letter
              rw [decide_eq_true c1, Bool.true_and]
            · rw [l1, decide_eq_false c1]
              refine iteF ?_
              refine step _ ?_
              unfold letter
              rw [decide_eq_false c1, Bool.false_and]
          · rintro H1 ⟨hl, hs⟩
            refine ⟨D, _, rfl, SqL.of hl, rest _ H1 hs ?_⟩
            rw [show z.cps.size = z.cps.toList.length from rfl, List.take_length, List.all_map]
            rfl
        · have e2 : decide ((z.length : Int) ≤ 8) = false := decide_eq_false (by omega)
          rw [e2]
          refine iteT ?_
          have e : nameB z = false := by
            unfold nameB
            rw [decide_eq_false d2, Bool.and_false, Bool.false_and]
          rw [← e]
          exact k H (Same.refl H)
      · have d1 : ¬ 1 ≤ z.length := fun q => c1 (decide_eq_true (by omega))
        refine ⟨_, rfl, ?_⟩
        have e : nameB z = false := by
          unfold nameB
          rw [decide_eq_false d1, Bool.false_and, Bool.false_and]
        refine iteT ?_
        rw [← e]
        exact k H (Same.refl H)
    · refine ⟨_, rfl, v, .ty "str", _, _, false, rfl, .ty _, ty, kt, false, rfl, ?_⟩
      refine iteT ?_
      exact iteT k
theorem scW : FnScope ["value", "least", "most"] ["value", "least", "most"] (defScope sWithin) := ⟨rfl, rfl, rfl, by decide +kernel, rfl, by decide +kernel, by decide +kernel⟩
theorem ok_within {f : Addr} {fd : FuncData} (F : Fun K "is_within" "is_within" sWithin f fd) (T : Nm2 mg) : FnOk P w K mg base CX0 1 f fd ["value", "least", "most"] (spWithin K) := by
  refine F.ok scW (fun vs H Q E h => ?_) (fun cdv A outer s H vs Q E hr h => ?_)
  · obtain ⟨v, a, b, rfl, _⟩ := h
    rfl
  · obtain ⟨v, a, b, rfl, k⟩ := h
    refine ⟨_, (pss_cons (ps_if (PW.pt (pw_or (pt_not (pt_val (pe_callB call_isi (by rfl) T.n_isinstance (by decide +kernel) (pa_cons (pv 0) (pa_cons (pe_bltn (v := .ty "int") (by rfl) T.n_int (by decide +kernel) rfl) pa_nil))))) (pw_or1 (pt_val (pe_callB call_isi (by rfl) T.n_isinstance (by decide +kernel) (pa_cons (pv 0) (pa_cons (pe_bltn (v := .ty "bool") (by rfl) T.n_bool (by decide +kernel) rfl) pa_nil))))))) (pss_one (ps_ret pe_bl)) pss_nil)
    (pss_one (ps_ret (pe_chain op_le op_le (pv 1) (pv 0) (pv 2))))), ?_⟩
    rcases k with ⟨v, rfl, k⟩ | ⟨⟨c, rfl⟩ | ⟨t, ty, kt⟩, k⟩
    · refine ⟨_, rfl, .int v, .ty "int", _, _, true, rfl, .ty _, .base (.int v), kit_ty (by decide +kernel), true, rfl, ?_⟩
      refine iteF ?_
      refine ⟨_, rfl, .int v, .ty "bool", _, _, false, rfl, .ty _, .base (.int v), kit_ty (by decide +kernel), false, rfl, ?_⟩
      refine iteF ?_
      refine ⟨_, rfl, _, rfl, _, _, rfl, rfl, _, rfl, ?_⟩
      by_cases c : a ≤ v
      · rw [decide_eq_true c] at k ⊢
        refine iteT ?_
        exact ⟨_, rfl, _, _, rfl, rfl, k⟩
      · rw [decide_eq_false c] at k ⊢
        refine iteF ?_
        exact k
    · refine ⟨_, rfl, .bl c, .ty "int", _, _, true, rfl, .ty _, .base (.bl c), kit_ty (by decide +kernel), true, rfl, ?_⟩
      refine iteF ?_
      refine ⟨_, rfl, .bl c, .ty "bool", _, _, true, rfl, .ty _, .base (.bl c), kit_ty (by decide +kernel), true, rfl, ?_⟩
      exact iteT k
    · refine ⟨_, rfl, v, .ty "int", _, _, false, rfl, .ty _, ty, kt, false, rfl, ?_⟩
      refine iteT ?_
      exact iteT k
theorem scA : FnScope ["things"] ["things"] (defScope sAsc) := ⟨rfl, rfl, rfl, by decide +kernel, rfl, by decide +kernel, by decide +kernel⟩
theorem ok_asc {f : Addr} {fd : FuncData} (F : Fun K "ascending" "ascending" sAsc f fd) (T : Nm3 mg) : FnOk P w K mg base CX0 1 f fd ["things"] (spAsc K) := by
  refine F.ok scA (fun vs H Q E h => ?_) (fun cdv A outer s H vs Q E hr h => ?_)
  · obtain ⟨a, xs, rfl, _⟩ := h
    rfl
  · obtain ⟨a, xs, rfl, ha, hl, k⟩ := h
    refine ⟨_, (pss_one (ps_ret (pe_callB (TSet.cr_sortedTexts rfl) (by rfl) T.n_sorted (by decide +kernel) (pa_cons (pe_callTy (TSet.cr_setS rfl) (by rfl) T.n_set (by decide +kernel) (pa_cons (pe_callTy (OwR.list_any rfl) (by rfl) T.n_list (by decide +kernel) (pa_cons (pv 0) pa_nil)) pa_nil)) pa_nil)))), ?_⟩
    have fin : ∀ l, H l = none → ∀ a2, (upd H l (.lst (xs.map V.str))) a2 = none → ∀ (ys : List Str) (p : Addr), ys.Perm (TSet.ded xs) → sortedS ys = true → (upd (upd H l (.lst (xs.map V.str))) a2 (TSet.TSO w a2 (TSet.ded xs))) p = none →
        Q (.ref p) (upd (upd (upd H l (.lst (xs.map V.str))) a2 (TSet.TSO w a2 (TSet.ded xs))) p (.lst (ys.map V.str))) := fun l h1 a2 h2 ys p pm srt h3 => by
      have s1 := Same.of_new (o := .lst (xs.map V.str)) h1
      have s2 := s1.trans (Same.of_new (o := TSet.TSO w a2 (TSet.ded xs)) h2)
      have s3 := s2.trans (Same.of_new (o := .lst (ys.map V.str)) h3)
      exact k ys p _ pm srt (s2.free h3) s3 upd_same
    have hb : xs.length < scanBound := Nat.lt_trans hl (by decide)
    have hd : (TSet.ded xs).length < 64 := Nat.lt_of_le_of_lt (TSet.ded_len xs) hl
    have rest : ∀ l, H l = none → ∃ (l0 : Addr) (zs : List Str), ([V.ref l] : List V) = [V.ref l0] ∧ SqL K (upd H l (.lst (xs.map V.str))) l0 (zs.map V.str) ∧ zs.length < scanBound ∧
        ∀ a2, (upd H l (.lst (xs.map V.str))) a2 = none → ∃ (a3 : Addr) (L : List Str), ([V.ref a2] : List V) = [V.ref a3] ∧ (upd (upd H l (.lst (xs.map V.str))) a2 (TSet.TSO w a2 (TSet.ded zs))) a3 = some (TSet.TSO w a3 L) ∧ L.length < 64 ∧
          ∀ (ys : List Str) (p : Addr), ys.Perm L → sortedS ys = true → (upd (upd H l (.lst (xs.map V.str))) a2 (TSet.TSO w a2 (TSet.ded zs))) p = none →
            Q (.ref p) (upd (upd (upd H l (.lst (xs.map V.str))) a2 (TSet.TSO w a2 (TSet.ded zs))) p (.lst (ys.map V.str))) := fun l h1 =>
      ⟨l, xs, rfl, SqL.of upd_same, hb, fun a2 h2 => ⟨a2, _, rfl, upd_same, hd, fun ys p pm srt h3 => fin l h1 a2 h2 ys p pm srt h3⟩⟩
    refine ⟨_, rfl, ?_⟩
    rcases ha with h | h | ⟨kvs, h, e⟩
    · exact .inl ⟨a, _, rfl, .inl h, rest⟩
    · exact .inl ⟨a, _, rfl, .inr h, rest⟩
    · refine .inr ⟨a, kvs, rfl, h, ?_⟩
      have ek : (kvs.map fun kv => kV kv.1) = xs.map V.str := by
        have q := congrArg (List.map kV) e
        rw [List.map_map, List.map_map] at q
        exact q
      rw [ek]
      exact rest
end
structure Chk (P : Program) (w : World) (K : PySem.W.Frag) (mg : Str → Option Value) (base : Heap) : Prop where
  nm : ∃ f fd, mg "is_name" = some (.ref f) ∧ Fun K "is_name" "is_name" sName f fd
  wi : ∃ f fd, mg "is_within" = some (.ref f) ∧ Fun K "is_within" "is_within" sWithin f fd
  as : ∃ f fd, mg "ascending" = some (.ref f) ∧ Fun K "ascending" "ascending" sAsc f fd
  T : Nm2 mg
  T3 : Nm3 mg
  T4 : Nm4 mg
section
variable {P : Program} {w : World} {K : PySem.W.Frag} {mg : Str → Option Value} {base : Heap}
theorem Chk.name (c : Chk P w K mg base) : ∃ f fd, mg "is_name" = some (.ref f) ∧ PySem.W.keepIn K (.ref f) = true ∧ Binds K fd ["value"] [] ∧ FnOk P w K mg base CX0 1 f fd ["value"] (spName K) := by
  obtain ⟨f, fd, g, F⟩ := c.nm
  exact ⟨f, fd, g, F.kp, F.binds fun _ _ _ _ _ _ us hl => match us, hl with | [_], _ => rfl, ok_name F c.T⟩
theorem Chk.within (c : Chk P w K mg base) : ∃ f fd, mg "is_within" = some (.ref f) ∧ PySem.W.keepIn K (.ref f) = true ∧ Binds K fd ["value", "least", "most"] [] ∧ FnOk P w K mg base CX0 1 f fd ["value", "least", "most"] (spWithin K) := by
  obtain ⟨f, fd, g, F⟩ := c.wi
  exact ⟨f, fd, g, F.kp, F.binds fun _ _ _ _ _ _ us hl => match us, hl with | [_, _, _], _ => rfl, ok_within F c.T⟩
theorem Chk.asc (c : Chk P w K mg base) : ∃ f fd, mg "ascending" = some (.ref f) ∧ PySem.W.keepIn K (.ref f) = true ∧ Binds K fd ["things"] [] ∧ FnOk P w K mg base CX0 1 f fd ["things"] (spAsc K) := by
  obtain ⟨f, fd, g, F⟩ := c.as
  exact ⟨f, fd, g, F.kp, F.binds fun _ _ _ _ _ _ us hl => match us, hl with | [_], _ => rfl, ok_asc F c.T3⟩
end
end K10
end
section
namespace K10
open PySem PySem.Spec PyProof.Rows L2
abbrev sIsPick : Stmt := top 23
abbrev sForm : Stmt := top 24
/-- a value that is no pick -/
def NoPick (K : PySem.W.Frag) (H : Hp) (x : V) : Prop := ((∃ t, TyX K H x t ∧ PySem.W.kitOne K t (.type "tuple") = some false) ∧ NoName K H x) ∨ (∃ k xs, x = .ref k ∧ H k = some (.tup xs) ∧ xs.length ≠ 2) ∨
  ∃ k u v, x = .ref k ∧ H k = some (.tup [u, v]) ∧ (NoName K H u ∨ ∃ z, u = .str z ∧ z.length ≤ 1000 ∧ nameB z = true ∧ ∀ H', Same H H' → NotIn K H' 0 9 v)
def spIsPick (K : PySem.W.Frag) : Sp := fun vs H Q _ => ∃ x : V, vs = [x] ∧ ((∃ p : Pk, ValAt H x p ∧ Good p ∧ ∀ H', Same H H' → Q (.bl true) H') ∨ (NoPick K H x ∧ ∀ H', Same H H' → Q (.bl false) H'))
def spForm (K : PySem.W.Frag) : Sp := fun vs H Q _ => ∃ (a : Addr) (ks : List Addr) (ps : List Pk), vs = [.ref a] ∧ SqL K H a (ks.map V.ref) ∧ PicksAt H ks ps ∧ ps.length ≤ 1000 ∧
  ∀ (p : Addr) (H' : Hp) (ks' : List Addr), H p = none → Same H H' → H' p = some (.tup (ks'.map V.ref)) → PicksAt H' ks' (oneForm ps) → Q (.ref p) H'
section
variable {P : Program} {w : World} {K : PySem.W.Frag} {mg : Str → Option Value} {base : Heap}
abbrev nIP : List Str := ["value"]
theorem scIP : FnScope nIP ["value"] (defScope sIsPick) := ⟨rfl, rfl, rfl, by decide +kernel, rfl, by decide +kernel, by decide +kernel⟩
theorem ok_IsPick {f : Addr} {fd : FuncData} (F : Fun K "is_pick" "is_pick" sIsPick f fd) (c : Chk P w K mg base) : FnOk P w K mg base CX0 2 f fd ["value"] (spIsPick K) := by
  obtain ⟨fM, fdM, gM, kM, bM, GM⟩ := c.name
  obtain ⟨fI, fdI, gI, kI, bI, GI⟩ := c.within
  refine F.ok scIP (fun vs H Q E h => ?_) (fun cdv A outer s H vs Q E hr h => ?_)
  · obtain ⟨k, rfl, _⟩ := h
    rfl
  · obtain ⟨x, rfl, h⟩ := h
    have hr0 : Room 1 _ := hr.mono (by decide)
    refine ⟨_, (pss_cons (ps_if (PW.pt (pw_and (pt_val (pe_callB call_isi (by rfl) c.T.n_isinstance (by decide +kernel) (pa_cons (pv 0) (pa_cons (pe_bltn (v := .ty "tuple") (by rfl) c.T4.n_tuple (by decide +kernel) rfl) pa_nil)))) (pw_and1 (pt_cmpR op_eq (pe_callB call_len_seq (by rfl) c.T.n_len boot_len (pa_cons (pv 0) pa_nil)) pe_int (nomark _))))) (pss_one (ps_ret (pe_and (pe_call GM hr0 (by rfl) gM kM bM .nil pass0 (pa_cons (pe_ix ix_tup (pv 0) pe_int (fun _ _ => rfl)) pa_nil)) (pe_one (pe_call GI hr0 (by rfl) gI kI bI .nil pass0 (pa_cons (pe_ix ix_tup (pv 0) pe_int (fun _ _ => rfl)) (pa_cons pe_int (pa_cons pe_int pa_nil)))))))) pss_nil)
    (pss_one (ps_ret (pe_call GM hr0 (by rfl) gM kM bM .nil pass0 (pa_cons (pv 0) pa_nil))))), ?_⟩
    rcases h with ⟨p, hk, ⟨hn, hl, h0, h9⟩, q⟩ | ⟨⟨⟨t, ty, kt⟩, nn⟩ | ⟨k, xs, rfl, hk, ln⟩ | ⟨k, u, v, rfl, hk, h⟩, q⟩
    · rcases hk with ⟨k, rfl, hk⟩ | ⟨rfl, _⟩
      · refine ⟨_, rfl, .ref k, .ty "tuple", _, _, true, rfl, .ty _, .base (.tup hk), kit_ty (by decide +kernel), true, rfl, ?_⟩
        refine iteT ?_
        refine ⟨_, rfl, k, _, rfl, .inr (.inl (.inl hk)), ?_⟩
        refine ⟨rfl, _, rfl, ?_⟩
        refine iteT ?_
        have st : SqT K H k [.str p.1, .int p.2] := .inl (.inl hk)
        refine ⟨_, rfl, k, _, 0, _, rfl, rfl, st, rfl, _, rfl, .inl ⟨p.1, rfl, hl, fun H1 s1 => ?_⟩⟩
        rw [hn]
        refine ⟨_, rfl, ?_⟩
        refine iteT ?_
        refine ⟨_, rfl, k, _, 1, _, rfl, rfl, .inl (.inl (s1 k _ hk)), rfl, _, 0, 9, rfl, .inl ⟨p.2, rfl, ?_⟩⟩
        rw [decide_eq_true h0, decide_eq_true h9]
        exact q H1 s1
      · refine ⟨_, rfl, .str p.1, .ty "tuple", _, _, false, rfl, .ty _, .base (.str _), kit_ty (by decide +kernel), false, rfl, ?_⟩
        refine iteF ?_
        refine ⟨_, rfl, _, rfl, .inl ⟨p.1, rfl, hl, fun H1 s1 => ?_⟩⟩
        rw [hn]
        exact q H1 s1
    · refine ⟨_, rfl, x, .ty "tuple", _, _, false, rfl, .ty _, ty, kt, false, rfl, ?_⟩
      refine iteF ?_
      rcases nn with ⟨z, rfl, lz, nz⟩ | n
      · exact ⟨_, rfl, _, rfl, .inl ⟨z, rfl, lz, fun H' s => by rw [nz]; exact q H' s⟩⟩
      · exact ⟨_, rfl, _, rfl, .inr ⟨n, q _ (Same.refl _)⟩⟩
    · refine ⟨_, rfl, .ref k, .ty "tuple", _, _, true, rfl, .ty _, .base (.tup hk), kit_ty (by decide +kernel), true, rfl, ?_⟩
      refine iteT ?_
      refine ⟨_, rfl, k, _, rfl, .inr (.inl (.inl hk)), ?_⟩
      refine ⟨rfl, _, rfl, ?_⟩
      rw [decide_eq_false (by
        intro e
        have := V.int.inj e
        omega)]
      refine iteF ?_
      exact ⟨_, rfl, _, rfl, .inr ⟨⟨_, .base (.tup hk), kit_ty (by decide +kernel)⟩, q _ (Same.refl _)⟩⟩
    · refine ⟨_, rfl, .ref k, .ty "tuple", _, _, true, rfl, .ty _, .base (.tup hk), kit_ty (by decide +kernel), true, rfl, ?_⟩
      refine iteT ?_
      refine ⟨_, rfl, k, _, rfl, .inr (.inl (.inl hk)), ?_⟩
      refine ⟨rfl, _, rfl, ?_⟩
      refine iteT ?_
      have st : SqT K H k [u, v] := .inl (.inl hk)
      rcases h with h | ⟨z, rfl, lz, nz, h⟩
      · rcases h with ⟨z, rfl, lz, nz⟩ | n
        · refine ⟨_, rfl, k, _, 0, _, rfl, rfl, st, rfl, _, rfl, .inl ⟨z, rfl, lz, fun H1 s1 => ?_⟩⟩
          rw [nz]
          exact ⟨_, rfl, iteF (q H1 s1)⟩
        · refine ⟨_, rfl, k, _, 0, _, rfl, rfl, st, rfl, _, rfl, .inr ⟨n, _, rfl, ?_⟩⟩
          exact iteF (q H (Same.refl _))
      · refine ⟨_, rfl, k, _, 0, _, rfl, rfl, st, rfl, _, rfl, .inl ⟨z, rfl, lz, fun H1 s1 => ?_⟩⟩
        rw [nz]
        refine ⟨_, rfl, ?_⟩
        refine iteT ?_
        refine ⟨_, rfl, k, _, 1, _, rfl, rfl, .inl (.inl (s1 k _ hk)), rfl, _, 0, 9, rfl, ?_⟩
        rcases h H1 s1 with ⟨i, rfl, ni⟩ | ni
        · refine .inl ⟨i, rfl, ?_⟩
          rw [show (decide (0 ≤ i) && decide (i ≤ 9)) = false by
            rw [← Bool.decide_and]
            exact decide_eq_false ni]
          exact q H1 s1
        · exact .inr ⟨ni, q H1 s1⟩
abbrev nFo : List Str := ["picks", "least", "kept", "bay", "keep", "behind", "pick"]
theorem scFo : FnScope nFo ["picks"] (defScope sForm) := ⟨rfl, rfl, rfl, by decide +kernel, rfl, by decide +kernel, by decide +kernel⟩
theorem ok_form {f : Addr} {fd : FuncData} (F : Fun K "one_form" "one_form" sForm f fd) (c : Chk P w K mg base) (n_zip : mg "zip" = none) : FnOk P w K mg base CX0 1 f fd ["picks"] (spForm K) := by
  refine F.ok scFo (fun vs H Q E h => ?_) (fun cdv A outer s H vs Q E hr h => ?_)
  · obtain ⟨a, ks, ps, rfl, _⟩ := h
    rfl
  · obtain ⟨a, ks, ps, rfl, ha, hp, hl, q⟩ := h
    have hu64 : (A.deeper (envOfC "one_form" (defScope sForm) s.heap.objs.size f cdv)).units + 64 < cLine := hr.units
    have hu : (A.deeper (envOfC "one_form" (defScope sForm) s.heap.objs.size f cdv)).units + 1 < cLine := by omega
    refine ⟨_, (pss_cons (ps_set (i := 1) scFo.nd rfl (Or.inl rfl) pe_dnewK)
    (pss_cons (ps_set (i := 2) scFo.nd rfl (Or.inl rfl) (pe_lst pa_nil))
    (pss_cons (ps_for PassesOwn.never rfl (pi_list (pv 0)) (pg_tup rfl (pgs_cons (pg_name (i := 3) scFo.nd rfl (Or.inl rfl)) (pgs_cons (pg_name (i := 4) scFo.nd rfl (Or.inl rfl)) pgs_nil))) (pss_one (ps_if (PW.pt (pw_or (pt_cmp (pc_dnotin hu (pv 3) (pv 1))) (pw_or1 (pt_cmpR op_lt (pv 4) (pe_dget hu (pv 1) (pv 3) (fun _ _ => rfl)) (nomark _))))) (pss_cons (ps_dput hu (pv 1) (pv 3) (pv 4) rfl)
    (pss_one (ps_expr (pe_bm PySem.F.plainAttrs_list PySem.F.slot_list_append PySem.F.type_list_append mt_append (pv 2) (pa_cons (pe_tup (pa_cons (pv 3) (pa_cons (pv 4) pa_nil))) pa_nil))))) pss_nil)))
    (pss_cons (ps_set (i := 5) scFo.nd rfl (Or.inl rfl) (pe_op op_cat (pe_lc (own := [("bay", 3), ("keep", 4)]) (g := (gTup K 2 (gCons (gName 3) (gCons (gName 4) gNil)))) (by rfl) scFo.nd (pi_list (pe_slice sl_list (pv 2) (po_some pe_int) po_none)) (blkOk_by (own := [("bay", 3), ("keep", 4)]) (N := nFo) (sc := defScope sForm) (by decide +kernel)) (fun _ _ _ _ _ => (pg_tup rfl (pgs_cons (pg_name (i := 3) scFo.nd rfl (Or.inl rfl)) (pgs_cons (pg_name (i := 4) scFo.nd rfl (Or.inl rfl)) pgs_nil)))) (fun _ _ _ _ _ => pts_nil) (fun _ _ _ _ _ => (pv 3))) (pe_lst (pa_cons pe_non pa_nil))))
    (pss_one (ps_ret (pe_callTy call_tuple_of (by rfl) c.T4.n_tuple (by decide +kernel) (pa_cons (pe_lc (own := [("pick", 6), ("bay", 3)]) (g := (gTup K 2 (gCons (gName 6) (gCons (gName 3) gNil)))) (by rfl) scFo.nd (pi_zip (by rfl) n_zip (pa_cons (pv 2) (pa_cons (pv 5) pa_nil))) (blkOk_by (own := [("pick", 6), ("bay", 3)]) (N := nFo) (sc := defScope sForm) (by decide +kernel)) (fun _ _ _ _ _ => (pg_tup rfl (pgs_cons (pg_name (i := 6) scFo.nd rfl (Or.inl rfl)) (pgs_cons (pg_name (i := 3) scFo.nd rfl (Or.inl rfl)) pgs_nil)))) (fun _ _ _ _ _ => pts_one (pt_cmpR op_ne (pe_ix (r := rIxT K) ix_tup (pv 6) pe_int (fun _ _ => rfl)) (pv 3) (nomark _))) (fun _ _ _ _ _ => (pv 6))) pa_nil)))))))), ?_⟩
    refine fun D hD => ⟨Nat.zero_le _, fun L hL => ?_⟩
    have sb : Same H (upd (upd H D (.dK [])) L (.lst [])) := (Same.of_new hD).trans (Same.of_new hL)
    refine ⟨_, rfl, a, rfl, ⟨_, SqL.mono ha sb⟩, ?_⟩
    refine for_it (walk_list (xs := ks.map V.ref)) (fun i σ H' => Same H H' ∧ (∃ x3 x4, σ = [some (.ref a), some (.ref D), some (.ref L), x3, x4, none, none]) ∧ ∃ (lk : List (Key × V)) (kk : List Addr), H' D = some (.dK lk) ∧ lk.length ≤ i ∧ TabOf lk (mEnd (fun _ => none) (ps.take i)) ∧ H' L = some (.lst (kk.map V.ref)) ∧ kk.length ≤ i ∧ PicksAt H' kk (kept (fun _ => none) (ps.take i)))
      ⟨sb, ⟨none, none, rfl⟩, [], [], by rw [upd_ne (ne_of_none upd_same hL)]; exact upd_same, Nat.le_refl 0, TabOf.nil, upd_same, Nat.le_refl 0, PicksAt.nil⟩ (fun i σ H' _ q => SqL.mono ha q.1) (fun i x σ H' H2 hi q0 y => ?_) (fun σ H' q0 => ?_)
    · obtain ⟨s1, ⟨x3, x4, rfl⟩, lk, kk, eD, ll, tb, eL, kl, pk⟩ := q0
      obtain ⟨rfl, hx⟩ := y
      obtain ⟨k, p, rfl, hk, hpi, tk⟩ := (hp.same s1).get hx
      have hi2 : i < ps.length := (List.getElem?_eq_some_iff.mp hpi).1
      have etake : ps.take (i + 1) = ps.take i ++ [p] := by
        rw [List.take_add_one, hpi]
        rfl
      refine ⟨k, _, rfl, .inl (.inl tk), rfl, _, _, rfl, _, _, rfl, rfl, ?_⟩
      refine ⟨_, rfl, _, rfl, D, _, rfl, tb.get (.inl eD) p.1, _, rfl, ?_⟩
      cases em : mEnd (fun _ => none) (ps.take i) p.1 with
      | none =>
        have ck : keeps (mEnd (fun _ => none) (ps.take i)) p = true := by
          unfold keeps
          rw [em]
        refine iteT ?_
        refine iteT ?_
        refine ⟨_, rfl, _, rfl, _, rfl, D, _, rfl, DPut.k (k := Sum.inr p.1) eD (by have := sizeLine_eq; omega), ?_⟩
        have nLD : L ≠ D := fun z => by
          rw [z, eD] at eL
          cases eL
        have eL2 : upd H2 D (.dK (putK lk (Sum.inr p.1) (.int p.2))) L = some (.lst (kk.map V.ref)) := by
          rw [upd_ne nLD]
          exact eL
        refine ⟨_, rfl, .inl ⟨rfl, _, SqL.of eL2⟩, ?_⟩
        refine ⟨_, rfl, _, rfl, by show (2:Nat) ≤ sizeLine; have := sizeLine_eq; omega, fun T hT => ?_⟩
        refine ⟨L, _, _, rfl, rfl, upd_keep2 eL2 hT, by rw [List.length_map]; have := sizeLine_eq; omega, ?_⟩
        have nDT : D ≠ T := fun z => by
          rw [← z, upd_same] at hT
          cases hT
        have nLT : L ≠ T := ne_of_none eL2 hT
        refine ⟨fun b o e => ?_, ⟨_, _, rfl⟩, putK lk (Sum.inr p.1) (.int p.2), kk ++ [T], ?_, ?_, ?_, ?_, ?_, ?_⟩
        · have n1 : b ≠ D := ne_of_none e hD
          have n2 : b ≠ L := ne_of_none e (free_of hL)
          have e3 : upd H2 D (.dK (putK lk (Sum.inr p.1) (.int p.2))) b = some o := by
            rw [upd_ne n1]
            exact s1 b o e
          rw [upd_ne n2, upd_ne (ne_of_none e3 hT)]
          exact e3
        · rw [upd_ne (Ne.symm nLD), upd_ne nDT]
          exact upd_same
        · have := length_putK lk (Sum.inr p.1) (.int p.2)
          omega
        · rw [etake, mEnd_app]
          unfold mAfter
          rw [if_pos ck]
          exact (tb.put p.1 p.2).cast fun y => rfl
        · rw [List.map_append]
          exact upd_same
        · rw [List.length_append]
          show kk.length + 1 ≤ i + 1
          omega
        · rw [etake, kept_app, if_pos ck]
          refine PicksAt.snoc ?_ ?_
          · have pk1 : PicksAt (upd H2 D (.dK (putK lk (Sum.inr p.1) (.int p.2)))) kk (kept (fun _ => none) (ps.take i)) := pk.upd fun xs e => by
              rw [eD] at e
              cases e
            have pk2 : PicksAt (upd (upd H2 D (.dK (putK lk (Sum.inr p.1) (.int p.2)))) T (.tup [.str p.1, .int p.2])) kk (kept (fun _ => none) (ps.take i)) := pk1.mono fun k xs e => upd_keep2 e hT
            exact pk2.upd fun xs e => by
              rw [upd_ne nLT, eL2] at e
              cases e
          · show upd _ _ _ _ = _
            rw [upd_ne (Ne.symm nLT)]
            exact upd_same
      | some k0 =>
        refine iteF ?_
        have g := tb.get (.inl eD) p.1
        rw [em] at g
        refine ⟨_, rfl, _, rfl, _, rfl, D, .int k0, rfl, g, p.2, k0, rfl, rfl, _, rfl, ?_⟩
        by_cases c : p.2 < k0
        · have ck : keeps (mEnd (fun _ => none) (ps.take i)) p = true := by
            unfold keeps
            rw [em]
            exact decide_eq_true c
          rw [decide_eq_true c]
          refine iteT ?_
          refine ⟨_, rfl, _, rfl, _, rfl, D, _, rfl, DPut.k (k := Sum.inr p.1) eD (by have := sizeLine_eq; omega), ?_⟩
          have nLD : L ≠ D := fun z => by
            rw [z, eD] at eL
            cases eL
          have eL2 : upd H2 D (.dK (putK lk (Sum.inr p.1) (.int p.2))) L = some (.lst (kk.map V.ref)) := by
            rw [upd_ne nLD]
            exact eL
          refine ⟨_, rfl, .inl ⟨rfl, _, SqL.of eL2⟩, ?_⟩
          refine ⟨_, rfl, _, rfl, by show (2:Nat) ≤ sizeLine; have := sizeLine_eq; omega, fun T hT => ?_⟩
          refine ⟨L, _, _, rfl, rfl, upd_keep2 eL2 hT, by rw [List.length_map]; have := sizeLine_eq; omega, ?_⟩
          have nDT : D ≠ T := fun z => by
            rw [← z, upd_same] at hT
            cases hT
          have nLT : L ≠ T := ne_of_none eL2 hT
          refine ⟨fun b o e => ?_, ⟨_, _, rfl⟩, putK lk (Sum.inr p.1) (.int p.2), kk ++ [T], ?_, ?_, ?_, ?_, ?_, ?_⟩
          · have n1 : b ≠ D := ne_of_none e hD
            have n2 : b ≠ L := ne_of_none e (free_of hL)
            have e3 : upd H2 D (.dK (putK lk (Sum.inr p.1) (.int p.2))) b = some o := by
              rw [upd_ne n1]
              exact s1 b o e
            rw [upd_ne n2, upd_ne (ne_of_none e3 hT)]
            exact e3
          · rw [upd_ne (Ne.symm nLD), upd_ne nDT]
            exact upd_same
          · have := length_putK lk (Sum.inr p.1) (.int p.2)
            omega
          · rw [etake, mEnd_app]
            unfold mAfter
            rw [if_pos ck]
            exact (tb.put p.1 p.2).cast fun y => rfl
          · rw [List.map_append]
            exact upd_same
          · rw [List.length_append]
            show kk.length + 1 ≤ i + 1
            omega
          · rw [etake, kept_app, if_pos ck]
            refine PicksAt.snoc ?_ ?_
            · have pk1 : PicksAt (upd H2 D (.dK (putK lk (Sum.inr p.1) (.int p.2)))) kk (kept (fun _ => none) (ps.take i)) := pk.upd fun xs e => by
                rw [eD] at e
                cases e
              have pk2 : PicksAt (upd (upd H2 D (.dK (putK lk (Sum.inr p.1) (.int p.2)))) T (.tup [.str p.1, .int p.2])) kk (kept (fun _ => none) (ps.take i)) := pk1.mono fun k xs e => upd_keep2 e hT
              exact pk2.upd fun xs e => by
                rw [upd_ne nLT, eL2] at e
                cases e
            · show upd _ _ _ _ = _
              rw [upd_ne (Ne.symm nLT)]
              exact upd_same
        · have ck : ¬ keeps (mEnd (fun _ => none) (ps.take i)) p = true := by
            unfold keeps
            rw [em]
            exact fun z => c (of_decide_eq_true z)
          rw [decide_eq_false c]
          refine iteF ?_
          refine ⟨s1, ⟨_, _, rfl⟩, lk, kk, eD, by omega, ?_, eL, by omega, ?_⟩
          · rw [etake, mEnd_app]
            unfold mAfter
            rw [if_neg ck]
            exact tb
          · rw [etake, kept_app, if_neg ck, List.append_nil]
            exact pk
    · obtain ⟨s1, ⟨x3, x4, rfl⟩, lk, kk, eD, ll, tb, eL, kl, pk⟩ := q0
      have e0 : ps.take (ks.map V.ref).length = ps := by
        rw [List.length_map, hp.len, List.take_length]
      rw [e0] at pk
      have kl20 : kk.length ≤ 1000 := by
        rw [List.length_map, hp.len] at kl
        omega
      have sz := sizeLine_eq
      generalize ekp : kept (fun _ => none) ps = kp at pk
      refine ⟨_, rfl, 1, rfl, L, _, rfl, SqL.of eL, ?_⟩
      rw [cut_one]
      intro B hB
      refine ⟨B, rfl, ⟨_, SqL.of upd_same⟩, fun C hC => ?_⟩
      have pd := pk.drop
      have lkp : kk.length = kp.length := pk.len
      refine lc_it (walk_list (xs := (kk.drop 1).map V.ref)) (fun i Hx => Same (upd H' B (.lst ((kk.drop 1).map V.ref))) Hx ∧ Hx C = some (.lst (((kp.drop 1).take i).map fun p => V.str p.1))) ⟨Same.of_new hC, upd_same⟩ (fun i Hx _ q => SqL.of (q.1 B _ upd_same)) (fun i x Hx Hy hi q0 y => ?_) (fun Hx q0 => ?_)
      · obtain ⟨s2, eC⟩ := q0
        obtain ⟨rfl, hx⟩ := y
        obtain ⟨k, p, rfl, hk, hpi, tk⟩ := (pd.same ((Same.of_new hB).trans s2)).get hx
        refine ⟨k, _, rfl, .inl (.inl tk), rfl, _, _, rfl, _, _, rfl, rfl, rfl, ?_⟩
        refine ⟨_, rfl, _, eC, ?_, fun b o e => ?_, ?_⟩
        · rw [List.length_map, List.length_take]
          have := (List.getElem?_eq_some_iff.mp hpi).1
          rw [List.length_drop] at *
          omega
        · rw [upd_ne (ne_of_none e hC)]
          exact s2 b o e
        · rw [upd_same, List.take_add_one, hpi, List.map_append]
          rfl
      obtain ⟨s2, eC⟩ := q0
      have e1 : (kp.drop 1).take ((kk.drop 1).map V.ref).length = kp.drop 1 := by
        rw [List.length_map, pd.len, List.take_length]
      rw [e1] at eC
      refine ⟨by show (1:Nat) ≤ sizeLine; omega, fun N hN => ?_⟩
      refine ⟨C, N, _, _, rfl, rfl, upd_keep2 eC hN, upd_same, by rw [List.length_map, List.length_drop]; show _ + 1 ≤ sizeLine; omega, ?_⟩
      rw [behind_vals]
      intro Z hZ
      have s3 : Same H' Hx := (Same.of_new hB).trans s2
      have s4 : Same H' (upd (upd Hx N (.lst [V.non])) Z (.lst ((behind kp).map optV))) := (s3.trans (Same.of_new hN)).trans (Same.of_new hZ)
      have eL4 := s4 L _ eL
      refine ⟨_, rfl, _, rfl, L, Z, _, _, rfl, SqL.of eL4, SqL.of upd_same, fun R hR => ?_⟩
      have pk4 := pk.same s4
      generalize eHz : upd (upd Hx N (.lst [V.non])) Z (.lst ((behind kp).map optV)) = Hz at s4 eL4 hR pk4 ⊢
      have eZ : Hz Z = some (.lst ((behind kp).map optV)) := by
        rw [← eHz]
        exact upd_same
      have hn : kp.length = min (kk.map V.ref).length ((behind kp).map optV).length := by
        unfold behind
        rw [List.length_map, List.length_map, List.length_append, List.length_map, List.length_drop, lkp]
        show kp.length = min kp.length (kp.length - 1 + 1)
        omega
      refine lc_it (walk_zip (xs := kk.map V.ref) (ys := (behind kp).map optV) hn) (fun i Hx => Same Hz Hx ∧ ∃ kr : List Addr, Hx R = some (.lst (kr.map V.ref)) ∧ kr.length ≤ i ∧ PicksAt Hx kr ((((kp.zip (behind kp)).take i).filter fun e => decide (some e.1.1 ≠ e.2)).map (·.1)))
        ⟨Same.of_new hR, [], upd_same, Nat.le_refl 0, PicksAt.nil⟩ (fun i Hx _ q => ⟨SqL.of (q.1 L _ eL4), SqL.of (q.1 Z _ eZ)⟩) (fun i x Hx Hy hi q0 y => ?_) (fun Hx q0 => ?_)
      · obtain ⟨s5, kr, eR, lr, pr⟩ := q0
        obtain ⟨T, x, z, rfl, hT, rfl, hx, hz⟩ := y
        obtain ⟨k, p, rfl, hk, hpi, tk⟩ := (pk4.same s5).get hx
        have hz : ((behind kp).map optV)[i]? = some z := hz
        rw [List.getElem?_map] at hz
        obtain ⟨o, ho, rfl⟩ := Option.map_eq_some_iff.mp hz
        have ez : (kp.zip (behind kp))[i]? = some (p, o) := by
          rw [List.getElem?_zip_eq_some]
          exact ⟨hpi, ho⟩
        have e5 : (((kp.zip (behind kp)).take (i + 1)).filter fun e => decide (some e.1.1 ≠ e.2)).map (·.1) = (((kp.zip (behind kp)).take i).filter fun e => decide (some e.1.1 ≠ e.2)).map (·.1) ++ (if some p.1 ≠ o then [p] else []) := by
          rw [List.take_add_one, ez, List.filter_append, List.map_append]
          congr 1
          show (([(p, o)] : List (Pk × Option Str)).filter _).map _ = _
          by_cases c : some p.1 = o
          · rw [if_neg (fun q => q c)]
            simp [c]
          · rw [if_pos c]
            simp [c]
        refine ⟨T, _, rfl, .inl (.inl upd_same), rfl, _, _, rfl, _, _, rfl, rfl, rfl, ?_⟩
        have tk2 : upd Hx T (.tup [.ref k, optV o]) k = some (.tup [.str p.1, .int p.2]) := upd_keep2 tk hT
        have hsc : scal (.str p.1) (optV o) = true := by cases o <;> rfl
        have hne : (!decide (V.str p.1 = optV o)) = decide (some p.1 ≠ o) := by
          cases o with
          | none => rfl
          | some y =>
            by_cases c : p.1 = y
            · subst c
              simp [optV]
            · have c2 : ¬ V.str p.1 = V.str y := fun q => c (V.str.inj q)
              simp [optV, c, c2]
        refine ⟨_, rfl, k, _, 0, _, rfl, rfl, .inl (.inl tk2), rfl, _, rfl, hsc, _, rfl, ?_⟩
        rw [hne]
        by_cases c : some p.1 ≠ o
        · rw [decide_eq_true c]
          refine iteT ?_
          refine ⟨_, rfl, _, upd_keep2 eR hT, by rw [List.length_map]; have := (List.getElem?_eq_some_iff.mp hpi).1; omega, fun b o2 e => ?_, kr ++ [k], ?_, ?_, ?_⟩
          · have e6 := upd_keep2 (o := .tup [.ref k, optV o]) (s5 b _ e) hT
            rw [upd_ne (ne_of_none e hR)]
            exact e6
          · rw [List.map_append]
            exact upd_same
          · rw [List.length_append]
            show kr.length + 1 ≤ i + 1
            omega
          · rw [e5, if_pos c]
            have p1 : PicksAt (upd Hx T (.tup [.ref k, optV o])) kr _ := pr.mono fun k xs e => upd_keep2 e hT
            have p2 := p1.snoc tk2
            exact p2.upd fun xs e => by
              rw [upd_keep2 eR hT] at e
              cases e
        · rw [decide_eq_false c]
          refine iteF ?_
          refine ⟨s5.trans (Same.of_new hT), kr, upd_keep2 eR hT, by omega, ?_⟩
          rw [e5, if_neg c, List.append_nil]
          exact pr.mono fun k xs e => upd_keep2 e hT
      obtain ⟨s5, kr, eR, lr, pr⟩ := q0
      have e6 : (kp.zip (behind kp)).take kp.length = kp.zip (behind kp) := List.take_of_length_le (by rw [List.length_zip]; omega)
      rw [e6, ← step2_zip, ← ekp] at pr
      have sH : Same H Hx := (s1.trans s4).trans s5
      refine ⟨R, _, rfl, .inl ⟨SqL.of eR, fun l hl2 => ?_⟩⟩
      exact q l _ kr (sH.free hl2) (sH.trans (Same.of_new hl2)) upd_same (pr.mono fun k xs e => upd_keep2 e hl2)
end
end K10
end
section
namespace K10
open PySem PySem.Spec PyProof.Rows L2
abbrev sBadName0 : Stmt := mth 3 0
abbrev sBadNumber0 : Stmt := mth 4 0
abbrev sBadPick0 : Stmt := mth 5 0
abbrev sBadRule0 : Stmt := mth 6 0
abbrev sTooMany0 : Stmt := mth 7 0
/-- an own error class with one field f, as the code that raises it wants it -/
def Err1 (K : PySem.W.Frag) (mg : Str → Option Value) (x f : Str) (C : Addr) (q : Str) (st : Stmt) : Prop := ∃ (fI : Addr) (fd : FuncData), ErrT K mg x C fI ∧ PySem.W.findIn K (.ref C) f = some none ∧ Fun K "__init__" q st fI fd
structure Errs (K : PySem.W.Frag) (mg : Str → Option Value) (CN CM CP CR CT : Addr) : Prop where
  name : Err1 K mg "BadName" "value" CN "BadName.__init__" sBadName0
  number : Err1 K mg "BadNumber" "value" CM "BadNumber.__init__" sBadNumber0
  pick : Err1 K mg "BadPick" "at" CP "BadPick.__init__" sBadPick0
  rule : Err1 K mg "BadRule" "kind" CR "BadRule.__init__" sBadRule0
  many : Err1 K mg "TooMany" "what" CT "TooMany.__init__" sTooMany0
  most : PySem.W.findIn K (.ref CT) "most" = some none
section
variable {P : Program} {w : World} {K : PySem.W.Frag} {mg : Str → Option Value} {base : Heap}
theorem scBadName0 : FnScope ["self", "value"] ["self", "value"] (defScope sBadName0) := ⟨rfl, rfl, rfl, by decide +kernel, rfl, by decide +kernel, by decide +kernel⟩
theorem ok_BadName0 {f : Addr} {fd : FuncData} (F : Fun K "__init__" "BadName.__init__" sBadName0 f fd) : FnOk P w K mg base CX0 1 f fd ["self", "value"] (OwE.spErr1 K "value") := by
  refine F.ok scBadName0 (fun vs H Q E h => ?_) (fun cdv A outer s H vs Q E hr h => ?_)
  · obtain ⟨a, C, v, rfl, _⟩ := h
    rfl
  · obtain ⟨a, C, v, rfl, T, hno, ha, k⟩ := h
    refine ⟨_, (pss_one (ps_ost (pv 0) (pv 1))), ?_⟩
    exact ⟨_, rfl, _, rfl, a, C, rfl, T, hno, .inl ⟨ha, fun dx h1 h2 => k dx h1 h2⟩⟩
theorem scBadNumber0 : FnScope ["self", "value"] ["self", "value"] (defScope sBadNumber0) := ⟨rfl, rfl, rfl, by decide +kernel, rfl, by decide +kernel, by decide +kernel⟩
theorem ok_BadNumber0 {f : Addr} {fd : FuncData} (F : Fun K "__init__" "BadNumber.__init__" sBadNumber0 f fd) : FnOk P w K mg base CX0 1 f fd ["self", "value"] (OwE.spErr1 K "value") := by
  refine F.ok scBadNumber0 (fun vs H Q E h => ?_) (fun cdv A outer s H vs Q E hr h => ?_)
  · obtain ⟨a, C, v, rfl, _⟩ := h
    rfl
  · obtain ⟨a, C, v, rfl, T, hno, ha, k⟩ := h
    refine ⟨_, (pss_one (ps_ost (pv 0) (pv 1))), ?_⟩
    exact ⟨_, rfl, _, rfl, a, C, rfl, T, hno, .inl ⟨ha, fun dx h1 h2 => k dx h1 h2⟩⟩
theorem scBadPick0 : FnScope ["self", "at"] ["self", "at"] (defScope sBadPick0) := ⟨rfl, rfl, rfl, by decide +kernel, rfl, by decide +kernel, by decide +kernel⟩
theorem ok_BadPick0 {f : Addr} {fd : FuncData} (F : Fun K "__init__" "BadPick.__init__" sBadPick0 f fd) : FnOk P w K mg base CX0 1 f fd ["self", "at"] (OwE.spErr1 K "at") := by
  refine F.ok scBadPick0 (fun vs H Q E h => ?_) (fun cdv A outer s H vs Q E hr h => ?_)
  · obtain ⟨a, C, v, rfl, _⟩ := h
    rfl
  · obtain ⟨a, C, v, rfl, T, hno, ha, k⟩ := h
    refine ⟨_, (pss_one (ps_ost (pv 0) (pv 1))), ?_⟩
    exact ⟨_, rfl, _, rfl, a, C, rfl, T, hno, .inl ⟨ha, fun dx h1 h2 => k dx h1 h2⟩⟩
theorem scBadRule0 : FnScope ["self", "kind"] ["self", "kind"] (defScope sBadRule0) := ⟨rfl, rfl, rfl, by decide +kernel, rfl, by decide +kernel, by decide +kernel⟩
theorem ok_BadRule0 {f : Addr} {fd : FuncData} (F : Fun K "__init__" "BadRule.__init__" sBadRule0 f fd) : FnOk P w K mg base CX0 1 f fd ["self", "kind"] (OwE.spErr1 K "kind") := by
  refine F.ok scBadRule0 (fun vs H Q E h => ?_) (fun cdv A outer s H vs Q E hr h => ?_)
  · obtain ⟨a, C, v, rfl, _⟩ := h
    rfl
  · obtain ⟨a, C, v, rfl, T, hno, ha, k⟩ := h
    refine ⟨_, (pss_one (ps_ost (pv 0) (pv 1))), ?_⟩
    exact ⟨_, rfl, _, rfl, a, C, rfl, T, hno, .inl ⟨ha, fun dx h1 h2 => k dx h1 h2⟩⟩
theorem scTooMany0 : FnScope ["self", "what", "most"] ["self", "what", "most"] (defScope sTooMany0) := ⟨rfl, rfl, rfl, by decide +kernel, rfl, by decide +kernel, by decide +kernel⟩
theorem ok_TooMany0 {f : Addr} {fd : FuncData} (F : Fun K "__init__" "TooMany.__init__" sTooMany0 f fd) : FnOk P w K mg base CX0 1 f fd ["self", "what", "most"] (OwE.spErr2 K "what" "most") := by
  refine F.ok scTooMany0 (fun vs H Q E h => ?_) (fun cdv A outer s H vs Q E hr h => ?_)
  · obtain ⟨a, C, v, u, rfl, _⟩ := h
    rfl
  · obtain ⟨a, C, v, u, rfl, T, hf, hg, ha, k⟩ := h
    refine ⟨_, (pss_cons (ps_ost (pv 0) (pv 1)) (pss_one (ps_ost (pv 0) (pv 2)))), ?_⟩
    refine ⟨_, rfl, _, rfl, a, C, rfl, T, hf, .inl ⟨ha, fun dx h1 h2 => ?_⟩⟩
    refine ⟨_, rfl, _, rfl, a, C, rfl, T, hg, .inr ⟨dx, _, upd_same, by rw [upd_ne h2, upd_same], by show (1 : Nat) ≤ 900; decide, ?_⟩⟩
    have e : upd (upd (upd H dx (exd dx [("what", v)])) a (exo a C (some dx))) dx (exd dx [("most", u), ("what", v)]) = upd (upd H dx (exd dx [("most", u), ("what", v)])) a (exo a C (some dx)) := by
      funext b
      by_cases e1 : b = dx
      · rw [e1, upd_same, upd_ne h2, upd_same]
      · rw [upd_ne e1]
        by_cases e2 : b = a
        · rw [e2, upd_same, upd_same]
        · rw [upd_ne e2, upd_ne e1, upd_ne e2, upd_ne e1]
    rw [e]
    exact k dx h1 h2
end
end K10
end
section
namespace K10
open PySem PySem.Spec PyProof.Rows L2
abbrev sRule0 : Stmt := mth 19 0
abbrev sPicks : Stmt := mth 19 2
abbrev sBays : Stmt := mth 19 3
abbrev sFirst0 : Stmt := mth 20 0
abbrev sFirstOf : Stmt := mth 20 1
/-- what is told when a row has more than 15 picks -/
def manyXd : List (Str × V) := [("most", .int 15), ("what", .str "picks")]
/-- all fields but a rule's own are as they were -/
def Keeps0 (C : Addr) (H' : Hp) (a : Addr) (fs0 : List (Str × V)) : Prop := ∃ dx fs, H' a = some (.ins C dx fs) ∧ ∀ f : Str, f ≠ "_picks" → f ≠ "_keeps" → f ≠ "_bays" → fs.lookup f = fs0.lookup f
def RowK (C CT : Addr) (H : Hp) (a : Addr) (fs0 : List (Str × V)) (ps : List Pk) (Q : VK) (E : XK) : Prop := ((oneForm ps).length ≤ 15 → ∀ H', But a H H' → RuleAt C H' a (oneForm ps) → Keeps0 C H' a fs0 → Q .non H') ∧
  (15 < (oneForm ps).length → ∀ H' d, But a H H' → H' d = none → E (.ref CT) (some d) (upd H' d (.xd manyXd)))
def spRule0 (K : PySem.W.Frag) (C CT : Addr) : Sp := fun vs H Q E => ∃ (a l dx : Addr) (fs0 : List (Str × V)) (ks : List Addr) (ps : List Pk), vs = [.ref a, .ref l] ∧ H a = some (.ins C dx fs0) ∧ fs0.length ≤ 10 ∧ fs0.lookup ("keep" : Str) = none ∧ SqL K H l (ks.map V.ref) ∧ PicksAt H ks ps ∧ ps.length ≤ 1000 ∧ RowK C CT H a fs0 ps Q E
section
variable {P : Program} {w : World} {K : PySem.W.Frag} {mg : Str → Option Value} {base : Heap}
abbrev nR0 : List Str := ["self", "picks", "bay", "keep"]
theorem scR0 : FnScope nR0 ["self", "picks"] (defScope sRule0) := ⟨rfl, rfl, rfl, by decide +kernel, rfl, by decide +kernel, by decide +kernel⟩
theorem ok_R0 {C f fF : Addr} {fd fdF : FuncData} (hc : RuleC K C) (F : Fun K "__init__" "Rule.__init__" sRule0 f fd) (c : Chk P w K mg base) (FF : Fun K "one_form" "one_form" sForm fF fdF) (gF : mg "one_form" = some (.ref fF)) (n_zip : mg "zip" = none) {CN CM CP CR CT : Addr} (Er : Errs K mg CN CM CP CR CT) : FnOk P w K mg base (L2.CX P w) 3 f fd ["self", "picks"] (spRule0 K C CT) := by
  obtain ⟨fA, fdA, gA, kA, bA, GA⟩ := c.asc
  have GF : FnOk P w K mg base CX0 1 fF fdF ["picks"] (spForm K) := ok_form FF c n_zip
  have bF : Binds K fdF ["picks"] [] := FF.binds fun _ _ _ _ _ _ us hl => match us, hl with | [_], _ => rfl
  obtain ⟨fT, fdT, T_T, hwhat, F_T⟩ := Er.many
  have hmost := Er.most
  have GT : FnOk P w K mg base CX0 1 fT fdT ["self", "what", "most"] (OwE.spErr2 K "what" "most") := ok_TooMany0 F_T
  have bT : Binds K fdT ["self", "what", "most"] [] := F_T.binds fun _ _ _ _ _ _ us hl => match us, hl with | [_, _, _], _ => rfl
  refine F.okX scR0 (fun vs H Q E h => ?_) (fun cdv A outer s H vs Q E hr h => ?_)
  · obtain ⟨a, l, dx, fs0, ks, ps, rfl, _⟩ := h
    rfl
  · obtain ⟨a, l, dx, fs0, ks, ps, rfl, ha, hf0, lm0, hl, hp, hn, q, qx⟩ := h
    have hr3 : Room 1 _ := hr.mono (by decide)
    have hr2 : Room 1 _ := hr.mono (by decide)
    refine ⟨_, (pss_cons (ps_fld (pv 0) (pe_call GF hr3 (by rfl) gF FF.kp bF .nil pass0 (pa_cons (pv 1) pa_nil)) rfl)
    (pss_cons (ps_if (pt_cmpR op_gt (pe_callB call_len_seq (by rfl) c.T.n_len boot_len (pa_cons (pe_fld (pv 0) rfl) pa_nil)) pe_int (nomark _)) (pss_one (ps_raise rfl (takes_of rfl rfl rfl rfl) (pmk_oex T_T.er.ox T_T.ini T_T.ty GT hr bT .nil pass0 (by rfl) T_T.g (pa_cons pe_str (pa_cons pe_int pa_nil))))) pss_nil)
    (pss_cons (ps_fld (pv 0) (pe_dc (own := [("bay", 2), ("keep", 3)]) (g := (gTup K 2 (gCons (gName 2) (gCons (gName 3) gNil)))) rfl scR0.nd (pi_tup (OwR.pe_revT (pe_fld (pv 0) rfl))) (blkOk_by (own := [("bay", 2), ("keep", 3)]) (N := nR0) (sc := defScope sRule0) (by decide +kernel)) (fun _ _ _ _ _ => (pg_tup rfl (pgs_cons (pg_name (i := 2) scR0.nd rfl (Or.inl rfl)) (pgs_cons (pg_name (i := 3) scR0.nd rfl (Or.inl rfl)) pgs_nil)))) (fun _ _ _ _ _ => pts_nil) (fun _ _ _ _ _ => (pv 2)) (fun _ _ _ _ _ => (pv 3))) rfl)
    (pss_one (ps_fld (pv 0) (pe_callTy call_tuple_of (by rfl) c.T4.n_tuple (by decide +kernel) (pa_cons (pe_call GA hr3 (by rfl) gA kA bA .nil pass0 (pa_cons (pe_fld (pv 0) rfl) pa_nil)) pa_nil)) rfl))))), ?_⟩
    refine ⟨_, rfl, l, ks, ps, rfl, hl, hp, by omega, fun p H1 ks' h1 s1 e1 pk1 => ?_⟩
    have np : p ≠ a := fun z => by
      rw [z, ha] at h1
      cases h1
    have ea := s1 a _ ha
    refine ⟨_, rfl, a, C, dx, fs0, rfl, ea, hc.cls, hc.n1, by omega, ?_⟩
    have st2 : But a H (upd H1 a (.ins C dx (putF ("_picks" : Str) (.ref p) fs0))) := (Same.but a s1).trans But.at
    have ea2 : upd H1 a (.ins C dx (putF ("_picks" : Str) (.ref p) fs0)) a = some (.ins C dx (putF ("_picks" : Str) (.ref p) fs0)) := upd_same
    have ep2 : upd H1 a (.ins C dx (putF ("_picks" : Str) (.ref p) fs0)) p = some (.tup (ks'.map V.ref)) := by
      rw [upd_ne np]
      exact e1
    have pk2 : PicksAt (upd H1 a (.ins C dx (putF ("_picks" : Str) (.ref p) fs0))) ks' (oneForm ps) := pk1.upd fun xs e => by
      rw [ea] at e
      cases e
    generalize upd H1 a (.ins C dx (putF ("_picks" : Str) (.ref p) fs0)) = H2 at st2 ea2 ep2 pk2 ⊢
    have lk2 : (putF ("_picks" : Str) (V.ref p) fs0).lookup ("_picks" : Str) = some (.ref p) := by
      rw [lookup_putF, if_pos rfl]
    have ln2 : (putF ("_picks" : Str) (V.ref p) fs0).length ≤ 11 := Nat.le_trans (length_putF _ _ _) (by omega)
    have lm2 : (putF ("_picks" : Str) (V.ref p) fs0).lookup ("keep" : Str) = none := by
      rw [lookup_putF, if_neg (by decide)]
      exact lm0
    have kp2 : ∀ f : Str, f ≠ "_picks" → f ≠ "_keeps" → f ≠ "_bays" → (putF ("_picks" : Str) (V.ref p) fs0).lookup f = fs0.lookup f := fun f h1 _ _ => by
      rw [lookup_putF, if_neg h1]
    generalize putF ("_picks" : Str) (V.ref p) fs0 = fs2 at ea2 lk2 ln2 lm2 kp2 ⊢
    refine ⟨_, rfl, a, C, dx, fs2, .ref p, rfl, ea2, hc.cls, hc.n1, lk2, p, _, rfl, .inr (SqT.of ep2), _, 15, rfl, rfl, _, rfl, ?_⟩
    by_cases hlen : 15 < (oneForm ps).length
    · rw [decide_eq_true (by rw [List.length_map, pk2.len]; omega)]
      refine iteT ?_
      exact OwE.mk_err2 T_T.er.ox hwhat hmost fun d hd => qx hlen H2 d st2 hd
    have lf : ks'.length ≤ 15 := by
      rw [pk2.len]
      omega
    have q := q (by omega)
    rw [decide_eq_false (by rw [List.length_map]; omega)]
    refine iteF ?_
    refine ⟨_, rfl, a, C, dx, fs2, .ref p, rfl, ea2, hc.cls, hc.n1, lk2, p, _, rfl, SqT.of ep2, fun v hv => ?_⟩
    refine ⟨v, rfl, ⟨_, SqT.of upd_same⟩, fun D hD => ?_⟩
    have sz := sizeLine_eq
    refine OwR.dc_it (walk_tup (xs := (ks'.map V.ref).reverse)) (fun i Hx => Same (upd H2 v (.tup (ks'.map V.ref).reverse)) Hx ∧ ∃ (r : List (Key × V)) (xs : List Str), Hx D = some (.dK r) ∧ r.map (·.1) = xs.map Sum.inr ∧ xs.length ≤ i ∧ TabOf r (lookL ((oneForm ps).drop ((oneForm ps).length - i)))) ⟨Same.of_new hD, [], [], upd_same, rfl, Nat.le_refl 0, by rw [Nat.sub_zero, List.drop_length]; exact TabOf.nil⟩ (fun i Hx _ q => SqT.of (q.1 v _ upd_same)) (fun i x Hx Hy hi q0 y => ?_) (fun Hx q0 => ?_)
    · obtain ⟨s3, r, xs, er, ek, lx, tb⟩ := q0
      obtain ⟨rfl, hx⟩ := y
      obtain ⟨j, hj, ej⟩ : ∃ j, (ks'.map V.ref)[j]? = some x ∧ j = ks'.length - 1 - i := by
        rw [List.length_reverse, List.length_map] at hi
        rw [List.getElem?_reverse (by rw [List.length_map]; exact hi), List.length_map] at hx
        exact ⟨_, hx, rfl⟩
      obtain ⟨k, pq, rfl, hk, hpi, tk⟩ := (pk2.same ((Same.of_new hv).trans s3)).get hj
      rw [List.length_reverse, List.length_map] at hi
      have lr : r.length = xs.length := by
        have := congrArg List.length ek
        rw [List.length_map, List.length_map] at this
        exact this
      refine ⟨k, _, rfl, .inl (.inl tk), rfl, _, _, rfl, _, _, rfl, rfl, rfl, ?_⟩
      refine ⟨_, rfl, _, rfl, r, Sum.inr pq.1, rfl, er, by omega, fun b o e => ?_, ?_⟩
      · rw [upd_ne (ne_of_none e hD)]
        exact s3 b o e
      · obtain ⟨ys, e5, l5⟩ := putK_keys ek pq.1 (.int pq.2)
        refine ⟨_, ys, upd_same, e5, by omega, (tb.put pq.1 pq.2).cast fun z => ?_⟩
        have ln := pk2.len
        obtain ⟨hj2, ejp⟩ := List.getElem?_eq_some_iff.mp hpi
        have ed : (oneForm ps).drop ((oneForm ps).length - (i + 1)) = pq :: (oneForm ps).drop ((oneForm ps).length - i) := by
          have e1 : (oneForm ps).length - (i + 1) = j := by omega
          have e2 : (oneForm ps).length - i = j + 1 := by omega
          rw [e1, e2, ← ejp]
          exact List.drop_eq_getElem_cons hj2
        rw [ed]
        rfl
    obtain ⟨s3, r, xs, er, ek, lx, tb⟩ := q0
    rw [List.length_reverse, List.length_map] at lx
    rw [List.length_reverse, List.length_map, pk2.len, Nat.sub_self, List.drop_zero] at tb
    have st4 : Same H2 Hx := (Same.of_new hv).trans s3
    have ea4 := st4 a _ ea2
    have nD : D ≠ a := fun z => by
      rw [z] at er
      rw [ea4] at er
      cases er
    refine ⟨_, rfl, a, C, dx, fs2, rfl, ea4, hc.cls, hc.n2, by omega, ?_⟩
    have st5 : But a H (upd Hx a (.ins C dx (putF ("_keeps" : Str) (.ref D) fs2))) := (st2.trans (Same.but a st4)).trans But.at
    have ea5 : upd Hx a (.ins C dx (putF ("_keeps" : Str) (.ref D) fs2)) a = some (.ins C dx (putF ("_keeps" : Str) (.ref D) fs2)) := upd_same
    have ep5 : upd Hx a (.ins C dx (putF ("_keeps" : Str) (.ref D) fs2)) p = some (.tup (ks'.map V.ref)) := by
      rw [upd_ne np]
      exact st4 p _ ep2
    have pk5 : PicksAt (upd Hx a (.ins C dx (putF ("_keeps" : Str) (.ref D) fs2))) ks' (oneForm ps) := (pk2.same st4).upd fun xs e => by
      rw [ea4] at e
      cases e
    have er5 : upd Hx a (.ins C dx (putF ("_keeps" : Str) (.ref D) fs2)) D = some (.dK r) := by
      rw [upd_ne nD]
      exact er
    generalize upd Hx a (.ins C dx (putF ("_keeps" : Str) (.ref D) fs2)) = H5 at st5 ea5 ep5 pk5 er5 ⊢
    have lk5 : (putF ("_keeps" : Str) (V.ref D) fs2).lookup ("_picks" : Str) = some (.ref p) := by
      rw [lookup_putF, if_neg (by decide)]
      exact lk2
    have lk6 : (putF ("_keeps" : Str) (V.ref D) fs2).lookup ("_keeps" : Str) = some (.ref D) := by
      rw [lookup_putF, if_pos rfl]
    have ln5 : (putF ("_keeps" : Str) (V.ref D) fs2).length ≤ 12 := Nat.le_trans (length_putF _ _ _) (by omega)
    have lm5 : (putF ("_keeps" : Str) (V.ref D) fs2).lookup ("keep" : Str) = none := by
      rw [lookup_putF, if_neg (by decide)]
      exact lm2
    have kp5 : ∀ f : Str, f ≠ "_picks" → f ≠ "_keeps" → f ≠ "_bays" → (putF ("_keeps" : Str) (V.ref D) fs2).lookup f = fs0.lookup f := fun f h1 h2 h3 => by
      rw [lookup_putF, if_neg h2]
      exact kp2 f h1 h2 h3
    generalize putF ("_keeps" : Str) (V.ref D) fs2 = fs5 at ea5 lk5 lk6 ln5 lm5 kp5 ⊢
    refine ⟨_, rfl, a, C, dx, fs5, .ref D, rfl, ea5, hc.cls, hc.n2, lk6, D, xs, rfl, .inr (.inr ⟨r, .inl er5, ek⟩), by omega, fun ys g H6 pm srt hg s6 e6 => ?_⟩
    refine ⟨g, _, rfl, .inl ⟨SqL.of e6, fun z hz => ?_⟩⟩
    have ea6 := s6 a _ ea5
    have nz : a ≠ z := ne_of_none ea6 hz
    refine ⟨_, rfl, a, C, dx, fs5, rfl, by rw [upd_ne nz]; exact ea6, hc.cls, hc.n3, by omega, ?_⟩
    have s7 : Same H5 (upd H6 z (.tup (ys.map V.str))) := s6.trans (Same.of_new hz)
    refine q _ ((st5.trans (Same.but a s7)).trans But.at) ⟨dx, _, p, ks', upd_same, ?_, ?_, ?_, D, z, r, ys, ?_, ?_, ?_, ?_, tb, ?_, pm.nodup_iff.mpr (TSet.ded_nodup xs), fun v => ?_, srt⟩ ⟨dx, _, upd_same, fun f h1 h2 h3 => by rw [lookup_putF, if_neg h3]; exact kp5 f h1 h2 h3⟩
    · rw [lookup_putF, if_neg (by decide)]
      exact lk5
    · rw [upd_ne np]
      exact s7 p _ ep5
    · exact (pk5.same s7).upd fun xs e => by
        rw [s7 a _ ea5] at e
        cases e
    · rw [lookup_putF, if_neg (by decide)]
      exact lm5
    · rw [lookup_putF, if_neg (by decide)]
      exact lk6
    · rw [lookup_putF, if_pos rfl]
    · rw [upd_ne nD]
      exact s7 D _ er5
    · rw [upd_ne (Ne.symm nz)]
      exact upd_same
    · rw [pm.mem_iff, TSet.ded_mem, tb.mem ek, lookL_mem]
end
end K10
end
section
namespace K10
open PySem PySem.Spec PyProof.Rows L2
/-- the arguments of First: right picks, or one at n that is none behind right ones -/
def FirstRow (K : PySem.W.Frag) (C CP CT : Addr) (H : Hp) (a : Addr) (xs : List V) (Q : VK) (E : XK) : Prop := xs.length ≤ 1000 ∧ ((∃ ps : List Pk, ValsAt H xs ps ∧ (∀ p ∈ ps, Good p) ∧ RowK C CT H a [] ps Q E) ∨
  ∃ (n : Nat) (x : V), xs[n]? = some x ∧ (∀ H', Same H H' → NoPick K H' x) ∧ (∀ i y, i < n → xs[i]? = some y → ∃ p, ValAt H y p ∧ Good p) ∧ ∀ H' d, But a H H' → H' d = none → E (.ref CP) (some d) (upd H' d (.xd [("at", .int (n : Nat))])))
def spFirst0 (K : PySem.W.Frag) (C CP CT : Addr) : Sp := fun vs H Q E => ∃ (a l dx : Addr) (xs : List V), vs = [.ref a, .ref l] ∧ H a = some (.ins C dx []) ∧ SqT K H l xs ∧ FirstRow K C CP CT H a xs Q E
def spFirst (K : PySem.W.Frag) (C CP CT : Addr) : Sp := fun vs H Q E => ∃ (a dx : Addr) (xs : List V), vs = .ref a :: xs ∧ H a = some (.ins C dx []) ∧ FirstRow K C CP CT H a xs Q E
theorem ValsAt.upd2 {H : Hp} {t : Addr} {xs : List V} {ps : List Pk} {o : HO} (h : ValsAt H xs ps) (n : H t = none) : ValsAt (upd H t o) xs ps := h.same (Same.of_new n)
theorem RowK.new {C CT : Addr} {H H' : Hp} {a : Addr} {fs0 : List (Str × V)} {ps : List Pk} {Q : VK} {E : XK} (h : RowK C CT H a fs0 ps Q E) (s : Same H H') : RowK C CT H' a fs0 ps Q E := ⟨fun c H2 b r k => h.1 c H2 ((Same.but a s).trans b) r k, fun c H2 d b n => h.2 c H2 d ((Same.but a s).trans b) n⟩
theorem FirstRow.new {K : PySem.W.Frag} {C CP CT : Addr} {H H' : Hp} {a : Addr} {xs : List V} {Q : VK} {E : XK} (h : FirstRow K C CP CT H a xs Q E) (s : Same H H') : FirstRow K C CP CT H' a xs Q E := by
  obtain ⟨l, ⟨ps, v, g, r⟩ | ⟨n, x, e, np, bf, q⟩⟩ := h
  · exact ⟨l, .inl ⟨ps, v.same s, g, r.new s⟩⟩
  · exact ⟨l, .inr ⟨n, x, e, fun H2 s2 => np H2 (s.trans s2), fun i y hi ey => by
      obtain ⟨p, v, g⟩ := bf i y hi ey
      exact ⟨p, v.same s, g⟩, fun H2 d b nd => q H2 d ((Same.but a s).trans b) nd⟩⟩
/-- a row of picks made: what a new rule of the class C must be given -/
def MadeRow (K : PySem.W.Frag) (C CP CT : Addr) (H : Hp) (xs : List V) (Q : VK) (E : XK) : Prop := xs.length ≤ 1000 ∧ ((∃ ps : List Pk, ValsAt H xs ps ∧ (∀ p ∈ ps, Good p) ∧ ((oneForm ps).length ≤ 15 → ∀ a H', H a = none → Same H H' → RuleAt C H' a (oneForm ps) → Q (.ref a) H') ∧ (15 < (oneForm ps).length → ∀ H' d, Same H H' → H' d = none → E (.ref CT) (some d) (upd H' d (.xd manyXd)))) ∨
  ∃ (n : Nat) (x : V), xs[n]? = some x ∧ (∀ H', Same H H' → NoPick K H' x) ∧ (∀ i y, i < n → xs[i]? = some y → ∃ p, ValAt H y p ∧ Good p) ∧ ∀ H' d, Same H H' → H' d = none → E (.ref CP) (some d) (upd H' d (.xd [("at", .int (n : Nat))])))
theorem MadeRow.row {K : PySem.W.Frag} {C CP CT : Addr} {H H1 : Hp} {xs : List V} {Q Q1 : VK} {E : XK} {z : Addr} (h : MadeRow K C CP CT H xs Q E) (hz : H z = none) (s : Same H H1) (b : ∀ H', But z H1 H' → (Q (.ref z) H' → Q1 .non H') ∧ Same H H') : FirstRow K C CP CT H1 z xs Q1 E := by
  obtain ⟨l, ⟨ps, v, g, q, qx⟩ | ⟨n, x, e, np, bf, q⟩⟩ := h
  · exact ⟨l, .inl ⟨ps, v.same s, g, fun c H' bt r _ => (b H' bt).1 (q c z H' hz (b H' bt).2 r), fun c H' d bt nd => qx c H' d (b H' bt).2 nd⟩⟩
  · exact ⟨l, .inr ⟨n, x, e, fun H2 s2 => np H2 (s.trans s2), fun i y hi ey => by
      obtain ⟨p, v, g⟩ := bf i y hi ey
      exact ⟨p, v.same s, g⟩, fun H2 d bt nd => q H2 d (b H2 bt).2 nd⟩⟩
/-- First.of of a list or a tuple -/
def spFirstOf (K : PySem.W.Frag) (C CP CT : Addr) : Sp := fun vs H Q E => ∃ (l : Addr) (xs : List V), vs = [.ref C, .ref l] ∧ (SqL K H l xs ∨ SqT K H l xs) ∧ MadeRow K C CP CT H xs Q E
section
variable {P : Program} {w : World} {K : PySem.W.Frag} {mg : Str → Option Value} {base : Heap}
abbrev nF0 : List Str := ["self", "picks", "at", "value"]
theorem scF0 : FnScope nF0 ([("self" : Str)] ++ [("picks" : Str)]) (defScope sFirst0) := ⟨rfl, rfl, rfl, by decide +kernel, rfl, by decide +kernel, by decide +kernel⟩
theorem ok_F0 {C CR f fR fF fP : Addr} {mc : Value} {fd fdR fdF fdP : FuncData} (hc : RuleC K C) (F : Fun K "__init__" "First.__init__" sFirst0 f fd) (c : Chk P w K mg base) (FR : Fun K "__init__" "Rule.__init__" sRule0 fR fdR) (FF : Fun K "one_form" "one_form" sForm fF fdF) (gF : mg "one_form" = some (.ref fF)) (n_zip : mg "zip" = none)
    (n_enumerate : mg "enumerate" = none) (FP : Fun K "is_pick" "is_pick" sIsPick fP fdP) (gP : mg "is_pick" = some (.ref fP)) (gR : mg "Rule" = some (.ref CR)) (rR : ClX.CRead K CR mc) (cR : OwR.CFun K CR mc "__init__" fR) {CN CM CP CB CT : Addr} (Er : Errs K mg CN CM CP CB CT) : FnR P w K mg base (L2.CX P w) 4 f (spFirst K C CP CT) := by
  obtain ⟨oc, od, kV, doc, pm, an, cdv, ct, osl, rfl, lk, hcd⟩ := F.ex
  obtain ⟨fK, fdK, T_K, hat, F_K⟩ := Er.pick
  have GK : FnOk P w K mg base CX0 1 fK fdK ["self", "at"] (OwE.spErr1 K "at") := ok_BadPick0 F_K
  have bK : Binds K fdK ["self", "at"] [] := F_K.binds fun _ _ _ _ _ _ us hl => match us, hl with | [_, _], _ => rfl
  have GP : FnOk P w K mg base CX0 2 fP fdP ["value"] (spIsPick K) := ok_IsPick FP c
  have bP : Binds K fdP ["value"] [] := FP.binds fun _ _ _ _ _ _ us hl => match us, hl with | [_], _ => rfl
  have GR : FnR P w K mg base (L2.CX P w) 3 fR (spRule0 K C CT) := OwR.raw0 (ok_R0 hc FR c FF gF n_zip Er) (FR.binds fun _ _ _ _ _ _ us hl => match us, hl with | [_, _], _ => rfl)
  refine FnR.imp (StX.fn_star (k := 3) (ps := ["self"]) (pv := "picks") (sp := spFirst0 K C CP CT) lk hcd scF0 StX.cxUp (fun us rest hl => match us, hl, rest with | [_], _, [] => rfl | [_], _, _ :: _ => rfl) fun A outer s H vs Q E hr h => ?_) fun vs H Q E h => ?_
  · obtain ⟨a, l, dx, ks, rfl, ha, hl, hlen, h⟩ := h
    have hr2 := hr.mono (show 2 ≤ 3 by decide)
    refine ⟨_, (pss_cons (ps_for (passes_of rfl) rfl (OwR.pi_enumT (by rfl) n_enumerate (pa_cons (pv 1) pa_nil)) (pg_tup rfl (pgs_cons (pg_name (i := 2) scF0.nd rfl (Or.inl rfl)) (pgs_cons (pg_name (i := 3) scF0.nd rfl (Or.inl rfl)) pgs_nil))) (pss_one (ps_if (pt_not (pt_val (pe_call GP hr2 (by rfl) gP FP.kp bP .nil pass0 (pa_cons (pv 3) pa_nil))))
      (pss_one (ps_raise rfl (takes_of rfl rfl rfl rfl) (pmk_oex T_K.er.ox T_K.ini T_K.ty GK hr2 bK .nil pass0 (by rfl) T_K.g (pa_cons (pv 2) pa_nil)))) pss_nil)))
    (pss_one (ps_expr (OwR.pe_cfun (pe_glob (v := .ref CR) rfl gR rfl) rR cR GR hr (passes_call (takes_of rfl rfl rfl rfl) (fun _ _ _ _ h => h)) (pa_cons (pv 0) (pa_cons (pe_lc (own := [("value", 3)]) (by rfl) scF0.nd (pi_tup (pv 1)) (blkOk_by (own := [("value", 3)]) (N := nF0) (sc := defScope sFirst0) (by decide +kernel)) (fun _ _ _ _ _ => (pg_name (i := 3) scF0.nd rfl (Or.inl rfl))) (fun _ _ _ _ _ => pts_nil) (fun _ _ _ _ _ => (pe_ifExp (pt_val (pe_callB (r := rIsi K) call_isi (by rfl) c.T.n_isinstance (by decide +kernel) (pa_cons (pv 3) (pa_cons (pe_bltn (v := .ty "str") (by rfl) c.T.n_str (by decide +kernel) rfl) pa_nil)))) (pe_tup (pa_cons (pv 3) (pa_cons pe_int pa_nil))) (pv 3)))) pa_nil)))))), ?_⟩
    refine ⟨_, rfl, l, _, rfl, hl, ?_⟩
    have sz := sizeLine_eq
    rcases h with ⟨ps, hp, hg, qq⟩ | ⟨n, xb, eb, nb, bf, qb⟩
    · have hn : ps.length ≤ 1000 := by
        rw [← hp.len]
        exact hlen
      refine for_it (OwR.walk_enumT (xs := ks)) (fun i σ H' => Same H H' ∧ ∃ x y, σ = [some (.ref a), some (.ref l), x, y]) ⟨Same.refl _, none, none, rfl⟩ (fun i σ H' _ q => SqT.mono hl q.1) (fun i x σ H' H2 hi q0 y => ?_) (fun σ H' q0 => ?_)
      · obtain ⟨s1, x0, y0, rfl⟩ := q0
        obtain ⟨T, x, z, rfl, hT, rfl, hx, hz⟩ := y
        have hz : ks[i]? = some z := hz
        obtain ⟨p, hpi, tk⟩ := (hp.same s1).get hz
        have g := hg p (List.mem_of_getElem? hpi)
        refine ⟨T, _, rfl, .inl (.inl upd_same), rfl, _, _, rfl, _, _, rfl, rfl, ?_⟩
        refine ⟨_, rfl, _, rfl, .inl ⟨p, tk.same (Same.of_new hT), g, fun H3 s3 => ⟨_, rfl, ?_⟩⟩⟩
        refine iteF ?_
        exact ⟨(s1.trans (Same.of_new hT)).trans s3, _, _, rfl⟩
      · obtain ⟨s1, x0, y0, rfl⟩ := q0
        refine ⟨rfl, _, rfl, _, rfl, l, rfl, ⟨_, SqT.mono hl s1⟩, fun D hD => ?_⟩
        refine lc_it (walk_tup (xs := ks)) (fun i Hx => Same H' Hx ∧ ∃ kk : List Addr, Hx D = some (.lst (kk.map V.ref)) ∧ kk.length ≤ i ∧ PicksAt Hx kk (ps.take i)) ⟨Same.of_new hD, [], upd_same, Nat.le_refl 0, PicksAt.nil⟩ (fun i Hx _ q => SqT.mono hl (s1.trans q.1)) (fun i x Hx Hy hi q0 y => ?_) (fun Hx q0 => ?_)
        · obtain ⟨s2, kk, eD, lk, pk⟩ := q0
          obtain ⟨rfl, hx⟩ := y
          obtain ⟨p, hpi, tv⟩ := (hp.same (s1.trans s2)).get hx
          have hi2 : i < ps.length := (List.getElem?_eq_some_iff.mp hpi).1
          have et : ps.take (i + 1) = ps.take i ++ [p] := by
            rw [List.take_add_one, hpi]
            rfl
          rw [et]
          refine ⟨rfl, ?_⟩
          rcases tv with ⟨k, rfl, tk⟩ | ⟨rfl, p0⟩
          · refine ⟨_, rfl, .ref k, .ty "str", _, _, false, rfl, .ty _, .base (.tup tk), kit_ty (by decide +kernel), false, rfl, ?_⟩
            refine iteF ?_
            refine ⟨_, rfl, _, eD, by rw [List.length_map]; omega, fun b o e => ?_, kk ++ [k], ?_, ?_, ?_⟩
            · rw [upd_ne (ne_of_none e hD)]
              exact s2 b o e
            · rw [List.map_append]
              exact upd_same
            · rw [List.length_append]
              show kk.length + 1 ≤ i + 1
              omega
            · exact (pk.snoc tk).upd fun xs e => by
                rw [eD] at e
                cases e
          · refine ⟨_, rfl, .str p.1, .ty "str", _, _, true, rfl, .ty _, .base (.str _), kit_ty (by decide +kernel), true, rfl, ?_⟩
            refine iteT ?_
            refine ⟨_, rfl, by show (2 : Nat) ≤ sizeLine; omega, fun T hT => ?_⟩
            have eD2 := upd_keep2 (o := .tup [.str p.1, .int 0]) eD hT
            refine ⟨_, eD2, by rw [List.length_map]; omega, fun b o e => ?_, kk ++ [T], ?_, ?_, ?_⟩
            · rw [upd_ne (ne_of_none e hD)]
              exact upd_keep2 (s2 b o e) hT
            · rw [List.map_append]
              exact upd_same
            · rw [List.length_append]
              show kk.length + 1 ≤ i + 1
              omega
            · have g1 : PicksAt (L2.upd Hy T (.tup [.str p.1, .int 0])) kk (ps.take i) := pk.same (Same.of_new hT)
              have g2 := g1.snoc (k := T) (p := p) (by show L2.upd _ _ _ _ = _; rw [upd_same, p0])
              exact g2.upd fun xs e => by
                rw [eD2] at e
                cases e
        obtain ⟨s2, kk, eD, lk, pk⟩ := q0
        rw [List.take_of_length_le (by rw [hp.len]; exact Nat.le_refl _)] at pk
        have s3 : Same H Hx := s1.trans s2
        exact ⟨a, D, dx, [], kk, ps, rfl, s3 a _ ha, by decide, rfl, SqL.of eD, pk, hn, qq.new s3⟩
    · have hnb := (List.getElem?_eq_some_iff.mp eb).1
      refine for_it (OwR.walk_enumT (xs := ks)) (fun i σ H' => i ≤ n ∧ Same H H' ∧ ∃ x y, σ = [some (.ref a), some (.ref l), x, y]) ⟨Nat.zero_le _, Same.refl _, none, none, rfl⟩ (fun i σ H' _ q => SqT.mono hl q.2.1) (fun i x σ H' H2 hi q0 y => ?_) (fun σ H' q0 => ?_)
      · obtain ⟨hin, s1, x0, y0, rfl⟩ := q0
        obtain ⟨T, x, z, rfl, hT, rfl, hx, hz⟩ := y
        have hz : ks[i]? = some z := hz
        have sT : ∀ o, Same H (L2.upd H' T o) := fun o => s1.trans (Same.of_new hT)
        refine ⟨T, _, rfl, .inl (.inl upd_same), rfl, _, _, rfl, _, _, rfl, rfl, ?_⟩
        rcases Nat.lt_or_ge i n with lt | ge
        · obtain ⟨p, tk, g⟩ := bf i z lt hz
          refine ⟨_, rfl, _, rfl, .inl ⟨p, tk.same (sT _), g, fun H3 s3 => ⟨_, rfl, ?_⟩⟩⟩
          refine iteF ?_
          exact ⟨lt, (sT _).trans s3, _, _, rfl⟩
        · obtain rfl : i = n := by omega
          rw [eb] at hz
          cases hz
          cases hx
          refine ⟨_, rfl, _, rfl,   .inr ⟨nb _ (sT _), fun H3 s3 => ⟨_, rfl, ?_⟩⟩⟩
          refine iteT ?_
          exact ⟨_, rfl, OwE.mk_err1 T_K.er.ox hat fun d hd => qb H3 d (Same.but a ((sT _).trans s3)) hd⟩
      · obtain ⟨hin, _⟩ := q0
        omega
  · obtain ⟨a, dx, ks, rfl, ha, h⟩ := h
    have sz := sizeLine_eq
    have l := h.1
    exact ⟨[.ref a], ks, rfl, rfl, by omega, fun t ht => ⟨a, t, dx, ks, rfl, upd_keep2 ha ht, SqT.of upd_same, h.new (Same.of_new ht)⟩⟩
abbrev nFO : List Str := ["cls", "picks"]
theorem scFO : FnScope nFO ["cls", "picks"] (defScope sFirstOf) := ⟨rfl, rfl, rfl, by decide +kernel, rfl, by decide +kernel, by decide +kernel⟩
theorem ok_FO {C CP CT f fI : Addr} {fd : FuncData} (F : Fun K "of" "First.of" sFirstOf f fd) (MF : Mk K C fI) (GI : FnR P w K mg base (L2.CX P w) 4 fI (spFirst K C CP CT)) : FnOk P w K mg base (L2.CX P w) 6 f fd ["cls", "picks"] (spFirstOf K C CP CT) := by
  refine F.okX scFO (fun vs H Q E h => ?_) (fun cdv A outer s H vs Q E hr h => ?_)
  · obtain ⟨l, ks, rfl, _⟩ := h
    rfl
  · obtain ⟨l, ks, rfl, hl, h⟩ := h
    refine ⟨_, (pss_one (ps_ret (OwR.pe_makeLS (i := 0) MF GI hr (by rfl) (by first | exact Or.inl rfl | exact Or.inr (Or.inl rfl)) (passes_call (takes_of rfl rfl rfl rfl) (fun _ _ _ _ h => h)) (pv 1)))), ?_⟩
    refine ⟨rfl, _, rfl, l, _, rfl, hl.symm, fun z dz h1 h2 nd => ⟨z, dz, ks, rfl, upd_same, h.row h1 ?_ fun H' s1 => ⟨fun q => ⟨rfl, q⟩, made_same h1 h2 s1⟩⟩⟩
    exact fun b o e => by
      rw [upd_ne (ne_of_none e h1), upd_ne (ne_of_none e h2)]
      exact e
theorem scPk : FnScope ["self"] ["self"] (defScope sPicks) := ⟨rfl, rfl, rfl, by decide +kernel, rfl, by decide +kernel, by decide +kernel⟩
theorem scBa : FnScope ["self"] ["self"] (defScope sBays) := ⟨rfl, rfl, rfl, by decide +kernel, rfl, by decide +kernel, by decide +kernel⟩
theorem ok_bays {C f : Addr} {fd : FuncData} (hc : RuleC K C) (F : Fun K "bays" "Rule.bays" sBays f fd) : FnOk P w K mg base CX0 1 f fd ["self"] (getSp C "_bays") := by
  refine F.ok scBa (fun vs H Q E h => ?_) (fun cdv A outer s H vs Q E hr h => ?_)
  · obtain ⟨a, dx, fs, v, rfl, _⟩ := h
    rfl
  · obtain ⟨a, dx, fs, v, rfl, ha, hl, q⟩ := h
    refine ⟨_, (pss_one (ps_ret (pe_fld (pv 0) rfl))), ?_⟩
    exact ⟨_, rfl, a, C, dx, fs, v, rfl, ha, hc.cls, hc.n3, hl, q⟩
theorem ok_picks {C f : Addr} {fd : FuncData} (hc : RuleC K C) (F : Fun K "picks" "Rule.picks" sPicks f fd) : FnOk P w K mg base CX0 1 f fd ["self"] (getSp C "_picks") := by
  refine F.ok scPk (fun vs H Q E h => ?_) (fun cdv A outer s H vs Q E hr h => ?_)
  · obtain ⟨a, dx, fs, v, rfl, _⟩ := h
    rfl
  · obtain ⟨a, dx, fs, v, rfl, ha, hl, q⟩ := h
    refine ⟨_, (pss_one (ps_ret (pe_fld (pv 0) rfl))), ?_⟩
    exact ⟨_, rfl, a, C, dx, fs, v, rfl, ha, hc.cls, hc.n1, hl, q⟩
end
end K10
end
section
namespace OwR
open PySem PySem.Spec PyProof.Rows L2
/-! ### xs == [], the items of xs of any kind -/
def rEqNil (K : PySem.W.Frag) : R2 := fun x y H Q => ∃ (a b : Addr) (xs : List V), x = .ref a ∧ y = .ref b ∧ SqL K H a xs ∧ SqL K H b [] ∧ Q (.bl xs.isEmpty) H
theorem op_eqNil {X : Cx} (hu : X.A.units + 64 < cLine) : OpR X (compareOp .Eq) (rEqNil X.K) := by
  intro pins s σ H x y v u Q I rx ry h
  obtain ⟨a, b, xs, rfl, rfl, ha, hb, q⟩ := h
  cases xs with
  | nil =>
    refine op_eqD hu pins s σ H _ _ v u Q I rx ry ⟨.list [], .list [], .lst ha .nil, .lst hb .nil, OwD.shaped_nil, OwD.shaped_nil, ?_⟩
    have e : PyData.eqv (.list []) (.list []) = true := by simp [PyData.eqv, PyData.eqvAll]
    rw [e]
    exact q
  | cons z zs =>
    obtain rfl : v = Value.ref a := rx
    obtain rfl : u = Value.ref b := ry
    obtain ⟨i1, r1, h1, _⟩ := I.list ha
    obtain ⟨i2, r2, h2, _⟩ := I.list hb
    cases r2
    refine SeqAt.eq_list_lengthsAt h1.isList h2.isList ?_ (by omega) ⟨.bl false, H, I, rfl, q⟩
    have l1 := r1.length
    cases i1 with
    | nil => cases r1
    | cons _ _ => rfl
end OwR
namespace K10
open PySem PySem.Spec PyProof.Rows L2
abbrev sRIter : Stmt := mth 19 8
abbrev sRLen : Stmt := mth 19 7
abbrev sREq : Stmt := mth 19 12
abbrev sRStr : Stmt := mth 19 13
abbrev sIn : Stmt := mth 19 6
abbrev sKeep : Stmt := mth 19 4
/-- a class of rules: Rule is at CR, its __iter__ at fI, its __len__ at fL, its __contains__ at fN -/
structure RKind (K : PySem.W.Frag) (CR fI fL fN C : Addr) : Prop where
  rc : RuleC K C
  cl : PySem.W.findIn K (.ref C) "__class__" = some (some (.builtin "object.__class__"))
  cg : PySem.W.specialIn K (.builtin "object.__class__") "__get__" = some (some (.builtin "getset_descriptor.__get__"))
  ct : PySem.W.takesIn K (.builtin "object.__class__") = some true
  ob : PySem.W.mroIn K C (.type "object") = some true
  sub : PySem.W.kitOne K (.ref C) (.ref CR) = some true
  it : OwR.OwnIt K C fI "_picks"
  ln : OwR.Len1 K C fL
  in_ : OwR.In1 K C fN
theorem RKind.ty {K : PySem.W.Frag} {CR fI fL fN C : Addr} (k : RKind K CR fI fL fN C) {H : Hp} {a dx : Addr} {fs : List (Str × V)} (e : H a = some (.ins C dx fs)) : TyX K H (.ref a) (.ref C) := .base (.ins e k.rc.cls k.cl k.cg k.ct k.ob)
def AnyRule (K : PySem.W.Frag) (CR fI fL fN : Addr) (H : Hp) (a : Addr) (ps : List Pk) : Prop := ∃ C, RKind K CR fI fL fN C ∧ RuleAt C H a ps
theorem AnyRule.same {K : PySem.W.Frag} {CR fI fL fN : Addr} {H H' : Hp} {a : Addr} {ps : List Pk} (h : AnyRule K CR fI fL fN H a ps) (s : Same H H') : AnyRule K CR fI fL fN H' a ps := by
  obtain ⟨C, k, r⟩ := h
  exact ⟨C, k, r.same s⟩
theorem pk_shaped {ps : List Pk} (h : ∀ p ∈ ps, PyData.strOk p.1 = true) : SeqAt.shaped (.tuple (ps.map pkD)) = true := OwD.shaped_tup (k := 1) (by decide) (fun p q => pkD_lay (h p q)) fun p _ => pkD_dep p
theorem pk_eqv {ps : List Pk} (h : ∀ p ∈ ps, PyData.strOk p.1 = true) : PyData.eqv (.tuple (ps.map pkD)) (.tuple (ps.map pkD)) = true := by
  refine PySem.SeqAt.eqv_refl _ ?_
  rw [PyData.canLay0]
  exact OwD.lays ps fun p q => pkD_lay (h p q)
theorem PicksAt.append {H : Hp} {ks ls : List Addr} {ps qs : List Pk} (h : PicksAt H ks ps) (g : PicksAt H ls qs) : PicksAt H (ks ++ ls) (ps ++ qs) := by
  refine ⟨by rw [List.length_append, List.length_append, h.len, g.len], fun i k p e1 e2 => ?_⟩
  by_cases c : i < ks.length
  · rw [List.getElem?_append_left c] at e1
    rw [List.getElem?_append_left (by rw [← h.len]; exact c)] at e2
    exact h.at_ i k p e1 e2
  · rw [List.getElem?_append_right (by omega)] at e1
    rw [List.getElem?_append_right (by rw [← h.len]; omega), ← h.len] at e2
    exact g.at_ _ k p e1 e2
theorem pkD_eqv (p q : Pk) : PyData.eqv (pkD p) (pkD q) = decide (p = q) := by
  obtain ⟨a, i⟩ := p
  obtain ⟨b, j⟩ := q
  simp only [pkD, PyData.eqv, PyData.eqvAll, Bool.and_true]
  by_cases c : a = b
  · by_cases d : i = j
    · subst c d
      simp
    · simp [d]
  · simp [c]
theorem pk_same : ∀ ps qs : List Pk, PyData.eqvAll (ps.map pkD) (qs.map pkD) = decide (ps = qs)
  | [], [] => by simp [PyData.eqvAll]
  | [], _ :: _ => by simp [PyData.eqvAll]
  | _ :: _, [] => by simp [PyData.eqvAll]
  | p :: ps, q :: qs => by
    rw [List.map_cons, List.map_cons, PyData.eqvAll, pkD_eqv, pk_same ps qs]
    by_cases c : p = q
    · by_cases d : ps = qs
      · simp [c, d]
      · simp [d]
    · simp [c]
/-- the promise of == between rules, alike or not -/
def spEqQ (K : PySem.W.Frag) (CR fI fL fN : Addr) : Sp := fun vs H Q _ => ∃ (a b : Addr) (ps qs : List Pk), vs = [.ref a, .ref b] ∧ AnyRule K CR fI fL fN H a ps ∧ AnyRule K CR fI fL fN H b qs ∧ (∀ p ∈ ps, PyData.strOk p.1 = true) ∧ (∀ p ∈ qs, PyData.strOk p.1 = true) ∧ Q (.bl (decide (ps = qs))) H
/-- .. and with what is no rule -/
def spEqO (K : PySem.W.Frag) (CR : Addr) : Sp := fun vs H Q _ => ∃ (a : Addr) (y : V) (t : Value), vs = [.ref a, y] ∧ TyX K H y t ∧ PySem.W.kitOne K t (.ref CR) = some false ∧ Q (.bl false) H
/-- a pick's text, a rule's text -/
def pickText (p : Pk) : Str := if 0 < p.2 then p.1 ++ (" keep " : Str) ++ (toString p.2 : Str) else p.1
def ruleText (ps : List Pk) : Str := if ps.isEmpty = true then "-" else Txt.join " or " (ps.map pickText)
def spStrR (K : PySem.W.Frag) (CR fI fL fN : Addr) : Sp := fun vs H Q _ => ∃ (a : Addr) (ps : List Pk), vs = [.ref a] ∧ AnyRule K CR fI fL fN H a ps ∧ (∀ p ∈ ps, Good p) ∧ ps.length ≤ 15 ∧ ∀ H', Same H H' → Q (.str (ruleText ps)) H'
theorem keep_text {k : Int} (h0 : 0 ≤ k) (h9 : k ≤ 9) : (toString k : Str).length ≤ 1 ∧ k.natAbs.log2 < 1920 := by
  have h : k = 0 ∨ k = 1 ∨ k = 2 ∨ k = 3 ∨ k = 4 ∨ k = 5 ∨ k = 6 ∨ k = 7 ∨ k = 8 ∨ k = 9 := by omega
  rcases h with rfl | rfl | rfl | rfl | rfl | rfl | rfl | rfl | rfl | rfl <;> exact by decide +kernel
theorem pick_fits {ps : List Pk} (good : ∀ p ∈ ps, Good p) (hl : ps.length ≤ 15) : ((ps.map pickText).map (·.length)).sum + (ps.map pickText).length * (" or " : Str).length ≤ 16777216 := by
  have each : ∀ y ∈ ps.map pickText, y.length ≤ 1007 := fun y hy => by
    obtain ⟨p1, hp, rfl⟩ := List.mem_map.mp hy
    have g := good p1 hp
    have kt := keep_text g.2.2.1 g.2.2.2
    unfold pickText
    split
    · rw [Str.length_append, Str.length_append]
      have := g.2.1
      have : ((" keep " : Str)).length ≤ 6 := by decide +kernel
      have := kt.1
      omega
    · have := g.2.1
      omega
  have sm : ∀ ys : List Str, (∀ y ∈ ys, y.length ≤ 1007) → (ys.map (·.length)).sum ≤ ys.length * 1007 := fun ys => by
    induction ys with
    | nil => intro _; exact Nat.le_refl 0
    | cons y r ih =>
      intro h
      rw [List.map_cons, List.sum_cons, List.length_cons, Nat.succ_mul]
      have := ih fun z hz => h z (List.mem_cons_of_mem _ hz)
      have := h y List.mem_cons_self
      omega
  have s2 := sm _ each
  have e4 : ((" or " : Str)).length = 4 := by decide +kernel
  rw [e4]
  rw [List.length_map] at s2 ⊢
  have : ps.length * 1007 ≤ 15 * 1007 := Nat.mul_le_mul_right _ hl
  omega
def spIn (K : PySem.W.Frag) (CR fI fL fN : Addr) : Sp := fun vs H Q _ => ∃ (a : Addr) (ps : List Pk) (x : V) (o : Option Str), vs = [.ref a, x] ∧ AnyRule K CR fI fL fN H a ps ∧ AskAt K H x o ∧ Q (.bl (keepAt ps o).isSome) H
def spKeep (K : PySem.W.Frag) (CR fI fL fN : Addr) : Sp := fun vs H Q _ => ∃ (a : Addr) (ps : List Pk) (x : V) (o : Option Str), vs = [.ref a, x] ∧ AnyRule K CR fI fL fN H a ps ∧ AskAt K H x o ∧ Q (optI (keepAt ps o)) H
section
variable {P : Program} {w : World} {K : PySem.W.Frag} {mg : Str → Option Value} {base : Heap}
theorem scRI : FnScope ["self"] ["self"] (defScope sRIter) := ⟨rfl, rfl, rfl, by decide +kernel, rfl, by decide +kernel, by decide +kernel⟩
theorem ok_riter {f : Addr} {fd : FuncData} (F : Fun K "__iter__" "Rule.__iter__" sRIter f fd) (n_iter : mg "iter" = none) (C : Addr) (c : OwR.OwnIt K C f "_picks") : OwR.FnSR P w K mg base CX0 1 f (OwR.spIt C K "_picks") := by
  have b : Binds K fd ["self"] [] := F.binds fun _ _ _ _ _ _ us hl => match us, hl with | [_], _ => rfl
  obtain ⟨oc, od, kV, doc, pm, an, cdv, ct, osl, rfl, lk, hcd⟩ := F.ex
  have len : ∀ (s : Shared) (vs : List V) (H : Hp) (Q : VK) (E : XK), OwR.spIt C K "_picks" s vs H Q E → vs.length = ([("self" : Str)]).length := fun s vs H Q E h => by
    obtain ⟨a, dx, l, fs, zs, rfl, _⟩ := h
    rfl
  refine OwR.FnS.raw (OwR.fn_ofS (k := 0) (sp := OwR.spIt C K "_picks") lk hcd scRI len fun A outer s H vs Q E hr h => ?_) len b
  obtain ⟨a, dx, l, fs, zs, rfl, ha, hf, sq, q⟩ := h
  refine ⟨_, (pss_one (ps_ret (pe_callB OwR.call_iterTN (by rfl) n_iter (by decide +kernel) (pa_cons (pe_fld (pv 0) rfl) pa_nil)))), ?_⟩
  exact ⟨_, rfl, a, C, dx, fs, .ref l, rfl, ha, c.cls, c.na, hf, l, zs, rfl, sq, q⟩
theorem scRL : FnScope ["self"] ["self"] (defScope sRLen) := ⟨rfl, rfl, rfl, by decide +kernel, rfl, by decide +kernel, by decide +kernel⟩
theorem ok_rlen {f fI : Addr} {fd : FuncData} (F : Fun K "__len__" "Rule.__len__" sRLen f fd) (T : Nm2 mg) (C : Addr) (c : OwR.OwnIt K C fI "_picks") : FnR P w K mg base CX0 1 f (OwR.spLn C K "_picks") := by
  refine OwR.raw0 (F.ok (k := 0) (ps := ["self"]) scRL (fun vs H Q E h => ?_) (fun cdv A outer s H vs Q E hr h => ?_)) (F.binds fun _ _ _ _ _ _ us hl => match us, hl with | [_], _ => rfl)
  · obtain ⟨a, dx, l, fs, zs, rfl, _⟩ := h
    rfl
  · obtain ⟨a, dx, l, fs, zs, rfl, ha, hf, sq, q⟩ := h
    refine ⟨_, (pss_one (ps_ret (pe_callB call_len_seq (by rfl) T.n_len boot_len (pa_cons (pe_fld (pv 0) rfl) pa_nil)))), ?_⟩
    exact ⟨_, rfl, a, C, dx, fs, .ref l, rfl, ha, c.cls, c.na, hf, l, zs, rfl, .inr sq, q⟩
theorem scRE : FnScope ["self", "other"] ["self", "other"] (defScope sREq) := ⟨rfl, rfl, rfl, by decide +kernel, rfl, by decide +kernel, by decide +kernel⟩
theorem ok_reqQ {CR f fI fL fN : Addr} {fd : FuncData} (F : Fun K "__eq__" "Rule.__eq__" sREq f fd) (T : Nm2 mg) (gR : mg "Rule" = some (.ref CR)) : FnR P w K mg base CX0 1 f (spEqQ K CR fI fL fN) := by
  refine OwR.raw0 (F.ok (k := 0) (ps := ["self", "other"]) scRE (fun vs H Q E h => ?_) (fun cdv A outer s H vs Q E hr h => ?_)) (F.binds fun _ _ _ _ _ _ us hl => match us, hl with | [_, _], _ => rfl)
  · obtain ⟨a, b, ps, qs, rfl, _⟩ := h
    rfl
  · obtain ⟨a, b, ps, qs, rfl, ⟨C, k1, dx, fs, p, ks, ea, lk, ep, pk, _⟩, ⟨D, k2, dy, gs, p2, ks2, eb, lk2, ep2, pk2, _⟩, ok, ok2, q⟩ := h
    refine ⟨_, (pss_one (ps_ret (pe_and (pe_callB call_isi (by rfl) T.n_isinstance (by decide +kernel) (pa_cons (pv 1) (pa_cons (pe_glob (v := .ref CR) rfl gR rfl) pa_nil))) (pe_one (pe_cmpR (op_eqD hr.units) (pe_fld (pv 0) rfl) (pe_fld (pv 1) rfl) (nomark _)))))), ?_⟩
    refine ⟨_, rfl, .ref b, .ref CR, _, _, true, rfl, .own _, k2.ty eb, k2.sub, true, rfl, ?_⟩
    refine iteT ?_
    refine ⟨_, rfl, a, C, dx, fs, .ref p, rfl, ea, k1.rc.cls, k1.rc.n1, lk, _, rfl, b, D, dy, gs, .ref p2, rfl, eb, k2.rc.cls, k2.rc.n1, lk2, ?_⟩
    refine ⟨_, _, .tup (SqT.of ep) pk.dp, .tup (SqT.of ep2) pk2.dp, pk_shaped ok, pk_shaped ok2, ?_⟩
    rw [PyData.eqv, pk_same]
    exact q
theorem ok_reqO {CR f : Addr} {fd : FuncData} (F : Fun K "__eq__" "Rule.__eq__" sREq f fd) (T : Nm2 mg) (gR : mg "Rule" = some (.ref CR)) : FnR P w K mg base CX0 1 f (spEqO K CR) := by
  refine OwR.raw0 (F.ok (k := 0) (ps := ["self", "other"]) scRE (fun vs H Q E h => ?_) (fun cdv A outer s H vs Q E hr h => ?_)) (F.binds fun _ _ _ _ _ _ us hl => match us, hl with | [_, _], _ => rfl)
  · obtain ⟨a, y, t, rfl, _⟩ := h
    rfl
  · obtain ⟨a, y, t, rfl, ty, kt, q⟩ := h
    refine ⟨_, (pss_one (ps_ret (pe_and (pe_callB call_isi (by rfl) T.n_isinstance (by decide +kernel) (pa_cons (pv 1) (pa_cons (pe_glob (v := .ref CR) rfl gR rfl) pa_nil))) (pe_one (pe_cmpR (op_eqD hr.units) (pe_fld (pv 0) rfl) (pe_fld (pv 1) rfl) (nomark _)))))), ?_⟩
    refine ⟨_, rfl, y, .ref CR, t, _, false, rfl, .own _, ty, kt, false, rfl, ?_⟩
    exact iteF q
abbrev nRT : List Str := ["self", "bay", "keep"]
theorem scRT : FnScope nRT ["self"] (defScope sRStr) := ⟨rfl, rfl, rfl, by decide +kernel, rfl, by decide +kernel, by decide +kernel⟩
theorem ok_rstr {CR f fI fL fN : Addr} {fd : FuncData} (F : Fun K "__str__" "Rule.__str__" sRStr f fd) : FnR P w K mg base CX0 1 f (spStrR K CR fI fL fN) := by
  refine OwR.raw0 (F.ok (k := 0) (ps := ["self"]) scRT (fun vs H Q E h => ?_) (fun cdv A outer s H vs Q E hr h => ?_)) (F.binds fun _ _ _ _ _ _ us hl => match us, hl with | [_], _ => rfl)
  · obtain ⟨a, ps, rfl, _⟩ := h
    rfl
  · obtain ⟨a, ps, rfl, ⟨C, kd, dx, fs, p, ks, ea, lk, ep, pk, _⟩, good, hl, q⟩ := h
    refine ⟨_, (pss_cons (ps_if (pt_not (pt_truth (pe_fld (pv 0) rfl) (by intro _; rfl))) (pss_one (ps_ret pe_str)) pss_nil)
    (pss_one (ps_ret (pe_join pe_str (pe_lc (own := [("bay", 1), ("keep", 2)]) (g := (gTup K 2 (gCons (gName 1) (gCons (gName 2) gNil)))) (by rfl) scRT.nd (pi_tup (pe_fld (pv 0) rfl)) (blkOk_by (own := [("bay", 1), ("keep", 2)]) (N := nRT) (sc := defScope sRStr) (by decide +kernel)) (fun _ _ _ _ _ => (pg_tup rfl (pgs_cons (pg_name (i := 1) scRT.nd rfl (Or.inl rfl)) (pgs_cons (pg_name (i := 2) scRT.nd rfl (Or.inl rfl)) pgs_nil)))) (fun _ _ _ _ _ => pts_nil) (fun _ _ _ _ _ => (pe_ifExp (pt_cmpR op_gt (pv 2) pe_int (nomark _)) (pe_joined (PJ.cons (pe_fmt (pv 1)) (PJ.cons pe_str (PJ.cons (pe_fmt (pv 2)) PJ.nil)))) (pv 1)))))))), ?_⟩
    have sz := sizeLine_eq
    refine ⟨_, rfl, a, C, dx, fs, .ref p, rfl, ea, kd.rc.cls, kd.rc.n1, lk, ?_⟩
    refine ⟨!(ks.map V.ref).isEmpty, .inr (.inl ⟨_, SqT.of ep, rfl⟩), ?_⟩
    cases hks : (ks.map V.ref).isEmpty with
    | true =>
      refine iteT ?_
      have e : ruleText ps = "-" := by
        have : ps = [] := by
          have l := pk.len
          cases ks with
          | nil => exact List.length_eq_zero_iff.mp l.symm
          | cons _ _ => cases hks
        rw [this]
        rfl
      rw [← e]
      exact q _ (Same.refl H)
    | false =>
      refine iteF ?_
      refine ⟨⟨_, rfl⟩, _, rfl, a, C, dx, fs, .ref p, rfl, ea, kd.rc.cls, kd.rc.n1, lk, p, rfl, ⟨_, SqT.of ep⟩, fun D hD => ?_⟩
      refine lc_it (walk_tup (xs := ks.map V.ref)) (fun i Hx => Same H Hx ∧ Hx D = some (.lst (((ps.take i).map pickText).map V.str))) ⟨Same.of_new hD, upd_same⟩ (fun i Hx _ q => SqT.of (q.1 p _ ep)) (fun i x Hx Hy hi q0 y => ?_) (fun Hx q0 => ?_)
      · obtain ⟨s1, eD⟩ := q0
        obtain ⟨rfl, hx⟩ := y
        obtain ⟨k1, p1, rfl, hk, hpi, tk⟩ := (pk.same s1).get hx
        have hi2 : i < ps.length := (List.getElem?_eq_some_iff.mp hpi).1
        have g := good p1 (List.mem_of_getElem? hpi)
        have kt := keep_text g.2.2.1 g.2.2.2
        have done : ∀ z : Str, z = pickText p1 → ∃ acc, Hy D = some (.lst acc) ∧ acc.length < sizeLine ∧ Same H (upd Hy D (.lst (acc ++ [V.str z]))) ∧ upd Hy D (.lst (acc ++ [V.str z])) D = some (.lst (((ps.take (i + 1)).map pickText).map V.str)) := fun z hz => by
          refine ⟨_, eD, by rw [List.length_map, List.length_map, List.length_take]; omega, fun b o e => ?_, ?_⟩
          · rw [upd_ne (ne_of_none e hD)]
            exact s1 b o e
          · rw [upd_same, hz, List.take_add_one, hpi, List.map_append, List.map_append]
            rfl
        refine ⟨k1, _, rfl, .inl (.inl tk), rfl, _, _, rfl, _, _, rfl, rfl, rfl, ?_⟩
        refine ⟨_, rfl, _, _, rfl, rfl, _, rfl, ?_⟩
        have l0 : (Str.empty ++ p1.1).length ≤ 1000 := by rw [Str.length_append]; exact (show 0 + p1.1.length ≤ 1000 by have := g.2.1; omega)
        have l1 : (Str.empty ++ p1.1 ++ (" keep " : Str)).length ≤ 1006 := by rw [Str.length_append]; exact Nat.add_le_add l0 (show ((" keep " : Str)).length ≤ 6 by decide +kernel)
        have l2 : (Str.empty ++ p1.1 ++ (" keep " : Str) ++ (toString p1.2 : Str)).length ≤ 1007 := by rw [Str.length_append]; exact Nat.add_le_add l1 kt.1
        refine ite2 (fun c1 => ?_) (fun c1 => ?_)
        · refine ⟨_, rfl, .inl ⟨_, rfl, by have := g.2.1; omega, _, rfl, by omega, _, rfl, by omega, _, rfl, .inr ⟨_, rfl, kt.2, _, rfl, by omega, ?_⟩⟩⟩
          exact done _ (by
            unfold pickText
            rw [if_pos (of_decide_eq_true c1), Str.empty_append])
        · exact ⟨_, rfl, done _ (by
            unfold pickText
            rw [if_neg fun q => c1 (decide_eq_true q)])⟩
      obtain ⟨s1, eD⟩ := q0
      rw [List.length_map, pk.len, List.take_length] at eD
      have e : ruleText ps = Txt.join " or " (ps.map pickText) := by
        unfold ruleText
        rw [if_neg]
        have l := pk.len
        cases ks with
        | nil => cases hks
        | cons _ _ =>
          cases ps with
          | nil => cases l
          | cons _ _ => exact fun q => by cases q
      refine ⟨_, D, ps.map pickText, rfl, rfl, .inl (SqL.of eD), ?_, ?_⟩
      · exact pick_fits good hl
      · rw [← e]
        exact q _ s1
theorem scIn : FnScope ["self", "x"] ["self", "x"] (defScope sIn) := ⟨rfl, rfl, rfl, by decide +kernel, rfl, by decide +kernel, by decide +kernel⟩
theorem ok_in {CR fI fL fN f : Addr} {fd : FuncData} (F : Fun K "__contains__" "Rule.__contains__" sIn f fd) (T : Nm2 mg) : FnR P w K mg base CX0 1 f (spIn K CR fI fL fN) := by
  refine OwR.raw0 (F.ok (k := 0) (ps := ["self", "x"]) scIn (fun vs H Q E h => ?_) (fun cdv A outer s H vs Q E hr h => ?_)) (F.binds fun _ _ _ _ _ _ us hl => match us, hl with | [_, _], _ => rfl)
  · obtain ⟨a, ps, x, o, rfl, _⟩ := h
    rfl
  · obtain ⟨a, ps, x, o, rfl, hR, hx, q⟩ := h
    obtain ⟨C, k, dx, fs, p, ks, ea, lk, ep, pk, D, b, r, zs, m⟩ := hR
    have hu : (A.deeper (envOfC "Rule.__contains__" (defScope sIn) s.heap.objs.size f cdv)).units + 1 < cLine := (by have := hr.units; omega)
    refine ⟨_, (pss_one (ps_ret (pe_and (pe_callB call_isi (by rfl) T.n_isinstance (by decide +kernel) (pa_cons (pv 1) (pa_cons (pe_bltn (v := .ty "str") (by rfl) T.n_str (by decide +kernel) rfl) pa_nil))) (pe_one (pe_cmp (pc_din hu (pv 1) (pe_fld (pv 0) rfl))))))), ?_⟩
    cases o with
    | none =>
      obtain ⟨t, ty, kt⟩ := hx
      refine ⟨_, rfl, x, .ty "str", t, _, false, rfl, .ty _, ty, kt, false, rfl, ?_⟩
      exact iteF q
    | some z =>
      obtain rfl : x = .str z := hx
      refine ⟨_, rfl, .str z, .ty "str", _, _, true, rfl, .ty _, .base (.str z), kit_ty (by decide +kernel), true, rfl, ?_⟩
      refine iteT ?_
      refine ⟨_, rfl, _, rfl, a, C, dx, fs, .ref D, rfl, ea, k.rc.cls, k.rc.n2, m.lk, D, _, rfl, m.tb.get (.inl m.eD) z, ?_⟩
      rw [Option.isSome_map]
      exact q
theorem scKe : FnScope ["self", "bay"] ["self", "bay"] (defScope sKeep) := ⟨rfl, rfl, rfl, by decide +kernel, rfl, by decide +kernel, by decide +kernel⟩
theorem ok_keep {CR fI fL fN f : Addr} {fd fdN : FuncData} (F : Fun K "keep" "Rule.keep" sKeep f fd) (FN : Fun K "__contains__" "Rule.__contains__" sIn fN fdN) (T : Nm2 mg) : FnOk P w K mg base CX0 2 f fd ["self", "bay"] (spKeep K CR fI fL fN) := by
  have GN : FnR P w K mg base CX0 1 fN (spIn K CR fI fL fN) := ok_in FN T
  refine F.ok scKe (fun vs H Q E h => ?_) (fun cdv A outer s H vs Q E hr h => ?_)
  · obtain ⟨a, ps, x, o, rfl, _⟩ := h
    rfl
  · obtain ⟨a, ps, x, o, rfl, hR, hx, q⟩ := h
    obtain ⟨C, k, dx, fs, p, ks, ea, lk, ep, pk, D, b, r, zs, m⟩ := id hR
    have hu : (A.deeper (envOfC "Rule.keep" (defScope sKeep) s.heap.objs.size f cdv)).units + 1 < cLine := (by have := hr.units; omega)
    refine ⟨_, (pss_one (ps_ret (pe_ifExp (pt_cmpR (OwR.op_inO GN hr pass0) (pv 1) (pv 0) (by rfl)) (pe_dget hu (pe_fld (pv 0) rfl) (pv 1) (fun _ _ => rfl)) pe_non))), ?_⟩
    refine ⟨_, rfl, _, rfl, a, C, dx, fs, rfl, ea, k.in_, a, ps, x, o, rfl, hR, hx, _, rfl, _, rfl, ?_⟩
    cases o with
    | none => exact iteF q
    | some z =>
      obtain rfl : x = .str z := hx
      have g := m.tb.get (.inl m.eD) z
      have q : Q (optI (lookL ps z)) H := q
      show if (lookL ps z).isSome = true then _ else _
      cases e : lookL ps z with
      | none =>
        rw [e] at q
        exact iteF q
      | some v =>
        rw [e] at q g
        exact iteT ⟨_, rfl, a, C, dx, fs, .ref D, rfl, ea, k.rc.cls, k.rc.n2, m.lk, _, rfl, D, .int v, rfl, g, q⟩
end
end K10
end
section
namespace OwR
open PySem PySem.Spec PyProof.Rows L2
section
variable {X : Cx} {CX : CXT} {k : Nat} {C f : Addr} {sp : Sp} {E : XK} {x : Str} {e : Expr} {te : TE} {pos q1 q2 : Pos}
/-- C(*xs), C by the module's name -/
def tMakeGS (K : PySem.W.Frag) (C : Addr) (sp : Sp) (E : XK) (te : TE) : TE := fun σ H Q => te σ H fun y H1 => ∃ a xs, y = V.ref a ∧ (SqT K H1 a xs ∨ SqL K H1 a xs) ∧
  ∀ z dz, H1 z = none → H1 dz = none → dz ≠ z → sp (V.ref z :: xs) (upd (upd H1 dz (.own z)) z (.ins C dz [])) (fun v H2 => v = .non ∧ Q (.ref z) H2) E
theorem pe_makeGS (M : Mk X.K C f) (F : FnR X.prog X.w X.K X.mg X.base CX k f sp) (hr : Room (k + 1) X.A) (hg : Gl X x) (hm : X.mg x = some (.ref C)) (hx : Passes CX X E) (he : PE X e te) (hdb : (x == ("__debug__" : Str)) = false := by decide)
    (hst : starEach [.Starred e q1] X.env = [(true, eval e X.env)] := by rfl) : PE X (.Call (.Name x q2) [.Starred e q1] [] pos) (tMakeGS X.K C sp E te) := by
  refine ⟨fun pins s σ H Q I h => ?_⟩
  refine wpAny_Call_Name_kw (ld_glob I hg hm ?_ hdb)
  refine PySem.W.callWith_S (h₀ := X.base) (first := []) I.ok.mod.kin M.kp (thn (he.run pins s σ _ _ I h) fun v s2 ⟨y, H2, I2, ry, a, xs, ey, hxs, q⟩ => ?_) hst
  subst ey
  obtain rfl : v = Value.ref a := ry
  exact StX.star_any I2 hxs fun us s3 I3 rv => ⟨I3.kIn, StX.run_makeR M F hr hx I3 rv q⟩
end
end OwR
namespace K10
open PySem PySem.Spec PyProof.Rows L2
abbrev sROr : Stmt := mth 19 9
abbrev sElse0 : Stmt := mth 22 0
abbrev sPair0 : Stmt := mth 17 0
abbrev sPair1 : Stmt := mth 17 1
abbrev sPair2 : Stmt := mth 17 2
abbrev sRAdd : Stmt := mth 19 10
abbrev sRSub : Stmt := mth 19 11
def spPair0 (K : PySem.W.Frag) : Sp := fun vs H Q _ => ∃ (a C dx : Addr) (x y : V), vs = [.ref a, x, y] ∧ H a = some (.ins C dx []) ∧ Cls K C ∧ NoAttr K C "_first" ∧ NoAttr K C "_second" ∧ ∀ fs, fs.length ≤ 2 → fs.lookup ("_first" : Str) = some x → fs.lookup ("_second" : Str) = some y → fs.lookup ("keep" : Str) = none → Q .non (upd H a (.ins C dx fs))
/-- no rule -/
def NoRule (K : PySem.W.Frag) (CR : Addr) (H : Hp) (x : V) : Prop := ∃ t, TyX K H x t ∧ PySem.W.kitOne K t (.ref CR) = some false
/-- the fields of an Else -/
def PairOf (C : Addr) (H : Hp) (z : Addr) (x y : V) : Prop := ∃ dx fs, H z = some (.ins C dx fs) ∧ fs.lookup ("_first" : Str) = some x ∧ fs.lookup ("_second" : Str) = some y
def ElseRow (K : PySem.W.Frag) (CR fI fL fN C CB CT : Addr) (H : Hp) (z : Addr) (x y : V) (Q : VK) (E : XK) : Prop :=
  (∃ (a b : Addr) (ps qs : List Pk), x = .ref a ∧ y = .ref b ∧ AnyRule K CR fI fL fN H a ps ∧ AnyRule K CR fI fL fN H b qs ∧ ps.length + qs.length ≤ 1000 ∧
    ((oneForm (ps ++ qs)).length ≤ 15 → ∀ H', But z H H' → RuleAt C H' z (oneForm (ps ++ qs)) → PairOf C H' z x y → Q .non H') ∧ (15 < (oneForm (ps ++ qs)).length → ∀ H' d, But z H H' → H' d = none → E (.ref CT) (some d) (upd H' d (.xd manyXd)))) ∨
  ((NoRule K CR H x ∨ ((∃ a ps, x = .ref a ∧ AnyRule K CR fI fL fN H a ps) ∧ NoRule K CR H y)) ∧ ∀ H' d, But z H H' → H' d = none → E (.ref CB) (some d) (upd H' d (.xd [("kind", .non)])))
def spElse0 (K : PySem.W.Frag) (CR fI fL fN C CB CT : Addr) : Sp := fun vs H Q E => ∃ (z dx : Addr) (x y : V), vs = [.ref z, x, y] ∧ H z = some (.ins C dx []) ∧ ElseRow K CR fI fL fN C CB CT H z x y Q E
/-- what a new Else must be given -/
def MadeElse (K : PySem.W.Frag) (CR fI fL fN C CB CT : Addr) (H : Hp) (x y : V) (Q : VK) (E : XK) : Prop :=
  (∃ (a b : Addr) (ps qs : List Pk), x = .ref a ∧ y = .ref b ∧ AnyRule K CR fI fL fN H a ps ∧ AnyRule K CR fI fL fN H b qs ∧ ps.length + qs.length ≤ 1000 ∧
    ((oneForm (ps ++ qs)).length ≤ 15 → ∀ z H', H z = none → Same H H' → RuleAt C H' z (oneForm (ps ++ qs)) → PairOf C H' z x y → Q (.ref z) H') ∧ (15 < (oneForm (ps ++ qs)).length → ∀ H' d, Same H H' → H' d = none → E (.ref CT) (some d) (upd H' d (.xd manyXd)))) ∨
  ((∀ H', Same H H' → NoRule K CR H' x ∨ ((∃ a ps, x = .ref a ∧ AnyRule K CR fI fL fN H' a ps) ∧ NoRule K CR H' y)) ∧ ∀ H' d, Same H H' → H' d = none → E (.ref CB) (some d) (upd H' d (.xd [("kind", .non)])))
theorem MadeElse.row {K : PySem.W.Frag} {CR fI fL fN C CB CT : Addr} {H H1 : Hp} {x y : V} {Q Q1 : VK} {E : XK} {z : Addr} (h : MadeElse K CR fI fL fN C CB CT H x y Q E) (hz : H z = none) (s : Same H H1) (b : ∀ H', But z H1 H' → (Q (.ref z) H' → Q1 .non H') ∧ Same H H') : ElseRow K CR fI fL fN C CB CT H1 z x y Q1 E := by
  rcases h with ⟨a, c, ps, qs, rfl, rfl, h1, h2, l, q, qx⟩ | ⟨n, q⟩
  · exact .inl ⟨a, c, ps, qs, rfl, rfl, h1.same s, h2.same s, l, fun l2 H' bt r p => (b H' bt).1 (q l2 z H' hz (b H' bt).2 r p), fun l2 H' d bt nd => qx l2 H' d (b H' bt).2 nd⟩
  · exact .inr ⟨n H1 s, fun H' d bt nd => q H' d (b H' bt).2 nd⟩
def spOr (K : PySem.W.Frag) (CR fI fL fN C CB CT : Addr) : Sp := fun vs H Q E => ∃ (x y : V), vs = [x, y] ∧ MadeElse K CR fI fL fN C CB CT H x y Q E
section
variable {P : Program} {w : World} {K : PySem.W.Frag} {mg : Str → Option Value} {base : Heap}
theorem scP0 : FnScope ["self", "first", "second"] ["self", "first", "second"] (defScope sPair0) := ⟨rfl, rfl, rfl, by decide +kernel, rfl, by decide +kernel, by decide +kernel⟩
theorem ok_pair0 {f : Addr} {fd : FuncData} (F : Fun K "__init__" "Pair.__init__" sPair0 f fd) : FnR P w K mg base CX0 1 f (spPair0 K) := by
  refine OwR.raw0 (F.ok (k := 0) (ps := ["self", "first", "second"]) scP0 (fun vs H Q E h => ?_) (fun cdv A outer s H vs Q E hr h => ?_)) (F.binds fun _ _ _ _ _ _ us hl => match us, hl with | [_, _, _], _ => rfl)
  · obtain ⟨a, C, dx, x, y, rfl, _⟩ := h
    rfl
  · obtain ⟨a, C, dx, x, y, rfl, ha, c, n1, n2, q⟩ := h
    refine ⟨_, (pss_cons (ps_fld (pv 0) (pv 1) rfl)
    (pss_one (ps_fld (pv 0) (pv 2) rfl))), ?_⟩
    refine ⟨_, rfl, _, rfl, a, C, dx, [], rfl, ha, c, n1, by decide, ?_⟩
    refine ⟨_, rfl, _, rfl, a, C, dx, _, rfl, upd_same, c, n2, by show (1:Nat) < 1000; decide, ?_⟩
    rw [upd_upd]
    exact q _ (by show (2:Nat) ≤ 2; decide) rfl rfl rfl
theorem scP1 : FnScope ["self"] ["self"] (defScope sPair1) := ⟨rfl, rfl, rfl, by decide +kernel, rfl, by decide +kernel, by decide +kernel⟩
theorem scP2 : FnScope ["self"] ["self"] (defScope sPair2) := ⟨rfl, rfl, rfl, by decide +kernel, rfl, by decide +kernel, by decide +kernel⟩
theorem ok_pair1 {C f : Addr} {fd : FuncData} (hc : Cls K C) (n1 : NoAttr K C "_first") (F : Fun K "first" "Pair.first" sPair1 f fd) : FnOk P w K mg base CX0 1 f fd ["self"] (getSp C "_first") := by
  refine F.ok scP1 (fun vs H Q E h => ?_) (fun cdv A outer s H vs Q E hr h => ?_)
  · obtain ⟨a, dx, fs, v, rfl, _⟩ := h
    rfl
  · obtain ⟨a, dx, fs, v, rfl, ha, hl, q⟩ := h
    refine ⟨_, (pss_one (ps_ret (pe_fld (pv 0) rfl))), ?_⟩
    exact ⟨_, rfl, a, C, dx, fs, v, rfl, ha, hc, n1, hl, q⟩
theorem ok_pair2 {C f : Addr} {fd : FuncData} (hc : Cls K C) (n1 : NoAttr K C "_second") (F : Fun K "second" "Pair.second" sPair2 f fd) : FnOk P w K mg base CX0 1 f fd ["self"] (getSp C "_second") := by
  refine F.ok scP2 (fun vs H Q E h => ?_) (fun cdv A outer s H vs Q E hr h => ?_)
  · obtain ⟨a, dx, fs, v, rfl, _⟩ := h
    rfl
  · obtain ⟨a, dx, fs, v, rfl, ha, hl, q⟩ := h
    refine ⟨_, (pss_one (ps_ret (pe_fld (pv 0) rfl))), ?_⟩
    exact ⟨_, rfl, a, C, dx, fs, v, rfl, ha, hc, n1, hl, q⟩
theorem scE0 : FnScope ["self", "one", "other"] ["self", "one", "other"] (defScope sElse0) := ⟨rfl, rfl, rfl, by decide +kernel, rfl, by decide +kernel, by decide +kernel⟩
theorem ok_else0 {CE CR CP f fR fF fP fI fL fN : Addr} {mR mP : Value} {fd fdR fdF fdP fdI fdL : FuncData} (hc : RuleC K CE) (n1 : NoAttr K CE "_first") (n2 : NoAttr K CE "_second") (F : Fun K "__init__" "Else.__init__" sElse0 f fd) (c : Chk P w K mg base) (n_list : mg "list" = none) (n_iter : mg "iter" = none) (n_zip : mg "zip" = none)
    (FR : Fun K "__init__" "Rule.__init__" sRule0 fR fdR) (FF : Fun K "one_form" "one_form" sForm fF fdF) (gF : mg "one_form" = some (.ref fF)) (FP : Fun K "__init__" "Pair.__init__" sPair0 fP fdP) (FI : Fun K "__iter__" "Rule.__iter__" sRIter fI fdI) (FL : Fun K "__len__" "Rule.__len__" sRLen fL fdL)
    (gR : mg "Rule" = some (.ref CR)) (rR : ClX.CRead K CR mR) (cR : OwR.CFun K CR mR "__init__" fR) (gP : mg "Pair" = some (.ref CP)) (rP : ClX.CRead K CP mP) (cP : OwR.CFun K CP mP "__init__" fP) {CN CM CK CB CT : Addr} (Er : Errs K mg CN CM CK CB CT) : FnOk P w K mg base (L2.CX P w) 5 f fd ["self", "one", "other"] (spElse0 K CR fI fL fN CE CB CT) := by
  obtain ⟨fB, fdB, T_B, hkind, F_B⟩ := Er.rule
  have GB : FnOk P w K mg base CX0 1 fB fdB ["self", "kind"] (OwE.spErr1 K "kind") := ok_BadRule0 F_B
  have bB : Binds K fdB ["self", "kind"] [] := F_B.binds fun _ _ _ _ _ _ us hl => match us, hl with | [_, _], _ => rfl
  have GP : FnR P w K mg base CX0 1 fP (spPair0 K) := ok_pair0 FP
  have GR : FnR P w K mg base (L2.CX P w) 3 fR (spRule0 K CE CT) := OwR.raw0 (ok_R0 hc FR c FF gF n_zip Er) (FR.binds fun _ _ _ _ _ _ us hl => match us, hl with | [_, _], _ => rfl)
  have FIt : ∀ C, OwR.OwnIt K C fI "_picks" → OwR.FnSR P w K mg base CX0 1 fI (OwR.spIt C K "_picks") := fun C o => ok_riter FI n_iter C o
  have FLn : ∀ C, OwR.Len1 K C fL → OwR.OwnIt K C fI "_picks" → FnR P w K mg base CX0 1 fL (OwR.spLn C K "_picks") := fun C _ o => ok_rlen FL c.T C o
  refine F.okX scE0 (fun vs H Q E h => ?_) (fun cdv A outer s H vs Q E hr h => ?_)
  · obtain ⟨z, dx, x, y, rfl, _⟩ := h
    rfl
  · obtain ⟨z, dx, x, y, rfl, hz, h⟩ := h
    have hr1 : Room 1 _ := hr.mono (by decide)
    have hr2 : Room 2 _ := hr.mono (by decide)
    have hr3 : Room 3 _ := hr.mono (by decide)
    have hr4 : Room (1 + 3) _ := hr
    refine ⟨_, (pss_cons (ps_if (PW.pt (pw_or (pt_not (pt_val (pe_callB call_isi (by rfl) c.T.n_isinstance (by decide +kernel) (pa_cons (pv 1) (pa_cons (pe_glob (v := .ref CR) rfl gR rfl) pa_nil))))) (pw_or1 (pt_not (pt_val (pe_callB call_isi (by rfl) c.T.n_isinstance (by decide +kernel) (pa_cons (pv 2) (pa_cons (pe_glob (v := .ref CR) rfl gR rfl) pa_nil)))))))) (pss_one (ps_raise rfl (takes_of rfl rfl rfl rfl) (pmk_oex T_B.er.ox T_B.ini T_B.ty GB hr2 bB .nil pass0 (by rfl) T_B.g (pa_cons pe_non pa_nil)))) pss_nil)
    (pss_cons (ps_expr (OwR.pe_cfun (pe_glob (v := .ref CP) rfl gP rfl) rP cP GP hr1 pass0 (pa_cons (pv 0) (pa_cons (pv 1) (pa_cons (pv 2) pa_nil)))))
    (pss_one (ps_expr (OwR.pe_cfun (pe_glob (v := .ref CR) rfl gR rfl) rR cR GR hr3 (passes_call (takes_of rfl rfl rfl rfl) (fun _ _ _ _ h => h)) (pa_cons (pv 0) (pa_cons (pe_op op_cat (pe_callTy (OwR.call_listO FIt FLn rfl hr4) (by rfl) n_list (by decide +kernel) (pa_cons (pv 1) pa_nil)) (pe_callTy (OwR.call_listO FIt FLn rfl hr4) (by rfl) n_list (by decide +kernel) (pa_cons (pv 2) pa_nil))) pa_nil))))))), ?_⟩
    rcases h with ⟨a, b, ps, qs, rfl, rfl, hA, hB, hl, q, qx⟩ | ⟨n, q⟩
    rotate_left
    · have fin : ∀ d, H d = none → E (.ref CB) (some d) (upd H d (.xd [("kind", .non)])) := fun d hd => q H d (But.refl _ _) hd
      rcases n with ⟨t, ty, kt⟩ | ⟨⟨a, ps, rfl, C, k1, dxa, fsa, pa, ksa, ea, _⟩, t, ty, kt⟩
      · refine ⟨_, rfl, x, .ref CR, t, _, false, rfl, .own _, ty, kt, false, rfl, ?_⟩
        refine iteT ?_
        refine iteT ?_
        exact OwE.mk_err1 T_B.er.ox hkind fin
      · refine ⟨_, rfl, .ref a, .ref CR, _, _, true, rfl, .own _, k1.ty ea, k1.sub, true, rfl, ?_⟩
        refine iteF ?_
        refine ⟨_, rfl, y, .ref CR, t, _, false, rfl, .own _, ty, kt, false, rfl, ?_⟩
        refine iteT ?_
        exact OwE.mk_err1 T_B.er.ox hkind fin
    have na : z ≠ a := fun e => by
      obtain ⟨C, _, dx2, fs, p, ks, ea, e2, _⟩ := hA
      rw [← e, hz] at ea
      cases ea
      cases e2
    have nb : z ≠ b := fun e => by
      obtain ⟨C, _, dx2, fs, p, ks, ea, e2, _⟩ := hB
      rw [← e, hz] at ea
      cases ea
      cases e2
    obtain ⟨C, k1, dxa, fsa, pa, ksa, ea, lka, epa, pka, _⟩ := hA
    obtain ⟨D, k2, dxb, fsb, pb, ksb, eb, lkb, epb, pkb, _⟩ := hB
    refine ⟨_, rfl, .ref a, .ref CR, _, _, true, rfl, .own _, k1.ty ea, k1.sub, true, rfl, ?_⟩
    refine iteF ?_
    refine ⟨_, rfl, .ref b, .ref CR, _, _, true, rfl, .own _, k2.ty eb, k2.sub, true, rfl, ?_⟩
    refine iteF ?_
    refine ⟨rfl, _, rfl, _, rfl, _, rfl, z, CE, dx, .ref a, .ref b, rfl, hz, hc.cls, n1, n2, fun fs2 l2 lf1 lf2 lf3 => ?_⟩
    have b1 : But z H (upd H z (.ins CE dx fs2)) := But.at
    have notz : ∀ {y : Addr} {xs : List V}, H y = some (.tup xs) → y ≠ z := fun {y xs} e w => by
      rw [w, hz] at e
      cases e
    have ea1 := b1 a _ (Ne.symm na) ea
    have eb1 := b1 b _ (Ne.symm nb) eb
    have epa1 := b1 pa _ (notz epa) epa
    have epb1 := b1 pb _ (notz epb) epb
    have ez1 : upd H z (.ins CE dx fs2) z = some (.ins CE dx fs2) := upd_same
    have pka1 : PicksAt (upd H z (.ins CE dx fs2)) ksa ps := pka.mono fun k xs e => b1 k _ (notz e) e
    have pkb1 : PicksAt (upd H z (.ins CE dx fs2)) ksb qs := pkb.mono fun k xs e => b1 k _ (notz e) e
    generalize upd H z (.ins CE dx fs2) = H1 at *
    have sz := sizeLine_eq
    refine ⟨rfl, _, rfl, _, rfl, a, C, dxa, pa, fsa, ksa.map V.ref, rfl, ea1, k1.it, k1.ln, lka, SqT.of epa1, fun y1 h1 => ?_⟩
    have s1 := Same.of_new (o := .lst (ksa.map V.ref)) h1
    refine ⟨_, rfl, b, D, dxb, pb, fsb, ksb.map V.ref, rfl, s1 b _ eb1, k2.it, k2.ln, lkb, SqT.of (s1 pb _ epb1), fun y2 h2 => ?_⟩
    have s2 := Same.of_new (o := .lst (ksb.map V.ref)) h2
    refine ⟨y1, y2, _, _, rfl, rfl, s2 y1 _ upd_same, upd_same, by rw [List.length_map, List.length_map, pka.len, pkb.len]; omega, fun y3 h3 => ?_⟩
    have s3 := Same.of_new (o := .lst (ksa.map V.ref ++ ksb.map V.ref)) h3
    have s4 := (s1.trans s2).trans s3
    refine ⟨z, y3, dx, fs2, ksa ++ ksb, ps ++ qs, rfl, s4 z _ ez1, by omega, lf3, by rw [List.map_append]; exact SqL.of upd_same, (pka1.same s4).append (pkb1.same s4), by rw [List.length_append]; exact hl, fun l H' sb r kp => q l H' ((b1.trans (Same.but z s4)).trans sb) r ?_, fun l H' d sb hd => qx l H' d ((b1.trans (Same.but z s4)).trans sb) hd⟩
    obtain ⟨dz, fz, e1, e2⟩ := kp
    exact ⟨dz, fz, e1, by rw [e2 _ (by decide) (by decide) (by decide)]; exact lf1, by rw [e2 _ (by decide) (by decide) (by decide)]; exact lf2⟩
theorem scOr : FnScope ["self", "other"] ["self", "other"] (defScope sROr) := ⟨rfl, rfl, rfl, by decide +kernel, rfl, by decide +kernel, by decide +kernel⟩
theorem ok_or {CE CR CB CT f fE fI fL fN : Addr} {fd : FuncData} (F : Fun K "__or__" "Rule.__or__" sROr f fd) (ME : Mk K CE fE) (gE : mg "Else" = some (.ref CE)) (GE : FnR P w K mg base (L2.CX P w) 5 fE (spElse0 K CR fI fL fN CE CB CT)) : FnR P w K mg base (L2.CX P w) 7 f (spOr K CR fI fL fN CE CB CT) := by
  refine OwR.raw0 (F.okX (k := 6) (ps := ["self", "other"]) scOr (fun vs H Q E h => ?_) (fun cdv A outer s H vs Q E hr h => ?_)) (F.binds fun _ _ _ _ _ _ us hl => match us, hl with | [_, _], _ => rfl)
  · obtain ⟨x, y, rfl, _⟩ := h
    rfl
  · obtain ⟨x, y, rfl, h⟩ := h
    refine ⟨_, (pss_one (ps_ret (StX.pe_makeR ME GE hr (by rfl) gE (passes_call (takes_of rfl rfl rfl rfl) (fun _ _ _ _ h => h)) (pa_cons (pv 0) (pa_cons (pv 1) pa_nil))))), ?_⟩
    refine ⟨_, rfl, _, rfl, fun z dz h1 h2 nd => ?_⟩
    have s0 : Same H (upd (upd H dz (.own z)) z (.ins CE dz [])) := fun b o e => by
      rw [upd_ne (ne_of_none e h1), upd_ne (ne_of_none e h2)]
      exact e
    exact ⟨z, dz, x, y, rfl, upd_same, h.row h1 s0 fun H' sb => ⟨fun q => ⟨rfl, q⟩, made_same h1 h2 sb⟩⟩
end
end K10
end
section
namespace K10
open PySem PySem.Spec PyProof.Rows L2
def plus (k : Int) (ps : List Pk) : List Pk := ps.map fun p => (p.1, p.2 + k)
def keepXd : List (Str × V) := [("most", .int 9), ("what", .str "keep")]
def spAdd (K : PySem.W.Frag) (CR fI fL fN C CM CT : Addr) : Sp := fun vs H Q E => ∃ (a : Addr) (v : V) (ps : List Pk), vs = [.ref a, v] ∧ AnyRule K CR fI fL fN H a ps ∧ (∀ p ∈ ps, Good p) ∧ ps.length ≤ 15 ∧
  ((∃ k : Int, v = .int k ∧ 0 ≤ k ∧ k ≤ 9 ∧ (∀ p ∈ plus k ps, p.2 ≤ 9) ∧ ∀ z H', H z = none → Same H H' → RuleAt C H' z (oneForm (plus k ps)) → Q (.ref z) H') ∨
   (∃ k : Int, v = .int k ∧ 0 ≤ k ∧ k ≤ 9 ∧ (∃ p ∈ plus k ps, 9 < p.2) ∧ ∀ H' d, Same H H' → H' d = none → E (.ref CT) (some d) (upd H' d (.xd keepXd))) ∨
   (NotIn K H 0 9 v ∧ ∀ d, H d = none → E (.ref CM) (some d) (upd H d (.xd [("value", v)]))))
def spSub (K : PySem.W.Frag) (CR fI fL fN C CN : Addr) : Sp := fun vs H Q E => ∃ (a : Addr) (v : V) (ps : List Pk), vs = [.ref a, v] ∧ AnyRule K CR fI fL fN H a ps ∧ (∀ p ∈ ps, Good p) ∧ ps.length ≤ 15 ∧
  ((∃ b : Str, v = .str b ∧ nameB b = true ∧ b.length ≤ 1000 ∧ ∀ z H', H z = none → Same H H' → RuleAt C H' z (oneForm (ps.filter fun p => !decide (p.1 = b))) → Q (.ref z) H') ∨
   (NoName K H v ∧ ∀ H' d, Same H H' → H' d = none → E (.ref CN) (some d) (upd H' d (.xd [("value", v)]))))
theorem plus_get {k : Int} {ps : List Pk} {i : Nat} {p : Pk} (h : ps[i]? = some p) : (plus k ps).take (i + 1) = (plus k ps).take i ++ [(p.1, p.2 + k)] := by
  unfold plus
  rw [List.take_add_one, List.getElem?_map, h]
  rfl
section
variable {P : Program} {w : World} {K : PySem.W.Frag} {mg : Str → Option Value} {base : Heap}
abbrev nRA : List Str := ["self", "other", "picks", "bay", "keep"]
theorem scRA : FnScope nRA ["self", "other"] (defScope sRAdd) := ⟨rfl, rfl, rfl, by decide +kernel, rfl, by decide +kernel, by decide +kernel⟩
theorem ok_radd {CF CR CN CM CP CB CT f fF fI fL fN : Addr} {fd : FuncData} (F : Fun K "__add__" "Rule.__add__" sRAdd f fd) (c : Chk P w K mg base) (n_any : mg "any" = none) (MF : Mk K CF fF) (gF : mg "First" = some (.ref CF)) (GF : FnR P w K mg base (L2.CX P w) 4 fF (spFirst K CF CP CT)) (Er : Errs K mg CN CM CP CB CT) : FnR P w K mg base (L2.CX P w) 6 f (spAdd K CR fI fL fN CF CM CT) := by
  obtain ⟨fB, fdB, T_B, hval, F_B⟩ := Er.number
  obtain ⟨fT, fdT, T_T, hwhat, F_T⟩ := Er.many
  have hmost := Er.most
  have GB : FnOk P w K mg base CX0 1 fB fdB ["self", "value"] (OwE.spErr1 K "value") := ok_BadNumber0 F_B
  have bB : Binds K fdB ["self", "value"] [] := F_B.binds fun _ _ _ _ _ _ us hl => match us, hl with | [_, _], _ => rfl
  have GT : FnOk P w K mg base CX0 1 fT fdT ["self", "what", "most"] (OwE.spErr2 K "what" "most") := ok_TooMany0 F_T
  have bT : Binds K fdT ["self", "what", "most"] [] := F_T.binds fun _ _ _ _ _ _ us hl => match us, hl with | [_, _, _], _ => rfl
  obtain ⟨fI2, fdI, gI, kI, bI, GI⟩ := c.within
  refine OwR.raw0 (F.okX (k := 5) (ps := ["self", "other"]) scRA (fun vs H Q E h => ?_) (fun cdv A outer s H vs Q E hr h => ?_)) (F.binds fun _ _ _ _ _ _ us hl => match us, hl with | [_, _], _ => rfl)
  · obtain ⟨a, v, ps, rfl, _⟩ := h
    rfl
  · obtain ⟨a, v, ps, rfl, ⟨C, kd, dx, fs, p, ks, ea, lk, ep, pk, _⟩, good0, hl, h⟩ := h
    have hr1 : Room 1 _ := hr.mono (by decide)
    have hr2 : Room 2 _ := hr.mono (by decide)
    refine ⟨_, (pss_cons (ps_if (pt_not (pt_val (pe_call GI hr1 (by rfl) gI kI bI .nil pass0 (pa_cons (pv 1) (pa_cons pe_int (pa_cons pe_int pa_nil)))))) (pss_one (ps_raise rfl (takes_of rfl rfl rfl rfl) (pmk_oex T_B.er.ox T_B.ini T_B.ty GB hr2 bB .nil pass0 (by rfl) T_B.g (pa_cons (pv 1) pa_nil)))) pss_nil)
    (pss_cons (ps_setLc (i := 2) (own := [("bay", 3), ("keep", 4)]) (g := (gTup K 2 (gCons (gName 3) (gCons (gName 4) gNil)))) (by rfl) scRA.nd rfl rfl (sw_true rfl rfl rfl (by decide +kernel)) (pi_tup (pe_fld (pv 0) rfl)) (blkOk_by (own := [("bay", 3), ("keep", 4)]) (N := nRA) (sc := defScope sRAdd) (by decide +kernel)) (fun _ _ _ _ _ => (pg_tup rfl (pgs_cons (pg_name (i := 3) scRA.nd rfl (Or.inl rfl)) (pgs_cons (pg_name (i := 4) scRA.nd rfl (Or.inl rfl)) pgs_nil)))) (fun _ _ _ _ _ => pts_nil) (fun _ _ _ _ _ => (pe_tup (pa_cons (pv 3) (pa_cons (pe_op op_add (pv 4) (pv 1)) pa_nil)))))
    (pss_cons (ps_if (pt_val (pe_callB (cr_any rfl) (by rfl) n_any (by decide +kernel) (pa_cons (pe_lc (own := [("bay", 3), ("keep", 4)]) (g := (gTup K 2 (gCons (gName 3) (gCons (gName 4) gNil)))) (by rfl) scRA.nd (pi_list (pv 2)) (blkOk_by (own := [("bay", 3), ("keep", 4)]) (N := nRA) (sc := defScope sRAdd) (by decide +kernel)) (fun _ _ _ _ _ => (pg_tup rfl (pgs_cons (pg_name (i := 3) scRA.nd rfl (Or.inl rfl)) (pgs_cons (pg_name (i := 4) scRA.nd rfl (Or.inl rfl)) pgs_nil)))) (fun _ _ _ _ _ => pts_nil) (fun _ _ _ _ _ => (pe_cmpR op_gt (pv 4) pe_int (nomark _)))) pa_nil))) (pss_one (ps_raise rfl (takes_of rfl rfl rfl rfl) (pmk_oex T_T.er.ox T_T.ini T_T.ty GT hr2 bT .nil pass0 (by rfl) T_T.g (pa_cons pe_str (pa_cons pe_int pa_nil))))) pss_nil)
    (pss_one (ps_ret (OwR.pe_makeGS MF GF hr (by rfl) gF (passes_call (takes_of rfl rfl rfl rfl) (fun _ _ _ _ h => h)) (pv 2))))))), ?_⟩
    obtain ⟨k, rfl, k0, k9, h⟩ | ⟨n, qb⟩ : (∃ k : Int, v = .int k ∧ 0 ≤ k ∧ k ≤ 9 ∧ (((∀ p ∈ plus k ps, p.2 ≤ 9) ∧ ∀ z H', H z = none → Same H H' → RuleAt CF H' z (oneForm (plus k ps)) → Q (.ref z) H') ∨ ((∃ p ∈ plus k ps, 9 < p.2) ∧ ∀ H' d, Same H H' → H' d = none → E (.ref CT) (some d) (upd H' d (.xd keepXd))))) ∨ (NotIn K H 0 9 v ∧ ∀ d, H d = none → E (.ref CM) (some d) (upd H d (.xd [("value", v)]))) := by
      rcases h with ⟨k, e, k0, k9, g⟩ | ⟨k, e, k0, k9, g⟩ | g
      · exact .inl ⟨k, e, k0, k9, .inl g⟩
      · exact .inl ⟨k, e, k0, k9, .inr g⟩
      · exact .inr g
    rotate_left
    · refine ⟨_, rfl, _, 0, 9, rfl, ?_⟩
      rcases n with ⟨i, rfl, ni⟩ | ni
      · refine .inl ⟨i, rfl, _, rfl, ?_⟩
        rw [show (decide (0 ≤ i) && decide (i ≤ 9)) = false by
          rw [← Bool.decide_and]
          exact decide_eq_false ni]
        refine iteT ?_
        exact ⟨_, rfl, OwE.mk_err1 T_B.er.ox hval qb⟩
      · refine .inr ⟨ni, _, rfl, ?_⟩
        refine iteT ?_
        exact ⟨_, rfl, OwE.mk_err1 T_B.er.ox hval qb⟩
    refine ⟨_, rfl, _, 0, 9, rfl, .inl ⟨k, rfl, _, rfl, ?_⟩⟩
    rw [decide_eq_true k0, decide_eq_true k9]
    refine iteF ?_
    have sz := sizeLine_eq
    refine ⟨_, rfl, a, C, dx, fs, .ref p, rfl, ea, kd.rc.cls, kd.rc.n1, lk, p, rfl, ⟨_, SqT.of ep⟩, fun D hD => ?_⟩
    refine lc_it (walk_tup (xs := ks.map V.ref)) (fun i Hx => Same H Hx ∧ ∃ kk : List Addr, Hx D = some (.lst (kk.map V.ref)) ∧ kk.length ≤ i ∧ PicksAt Hx kk ((plus k ps).take i)) ⟨Same.of_new hD, [], upd_same, Nat.le_refl 0, PicksAt.nil⟩ (fun i Hx _ q => SqT.of (q.1 p _ ep)) (fun i x Hx Hy hi q0 y => ?_) (fun Hx q0 => ?_)
    · obtain ⟨s1, kk, eD, lkk, pkk⟩ := q0
      obtain ⟨rfl, hx⟩ := y
      obtain ⟨k1, p1, rfl, hk, hpi, tk⟩ := (pk.same s1).get hx
      have hi2 : i < ps.length := (List.getElem?_eq_some_iff.mp hpi).1
      refine ⟨k1, _, rfl, .inl (.inl tk), rfl, _, _, rfl, _, _, rfl, rfl, rfl, ?_⟩
      refine ⟨_, rfl, _, rfl, _, rfl, _, _, rfl, rfl, by show (2 : Nat) ≤ sizeLine; omega, fun T hT => ?_⟩
      have eD2 := upd_keep2 (o := .tup [.str p1.1, .int (p1.2 + k)]) eD hT
      refine ⟨_, eD2, by rw [List.length_map]; omega, fun b o e => ?_, kk ++ [T], ?_, ?_, ?_⟩
      · rw [upd_ne (ne_of_none e hD)]
        exact upd_keep2 (s1 b o e) hT
      · rw [List.map_append]
        exact upd_same
      · rw [List.length_append]
        show kk.length + 1 ≤ i + 1
        omega
      · rw [plus_get hpi]
        have g1 : PicksAt (upd Hy T (.tup [.str p1.1, .int (p1.2 + k)])) kk ((plus k ps).take i) := pkk.same (Same.of_new hT)
        have g2 := g1.snoc (k := T) (p := (p1.1, p1.2 + k)) upd_same
        exact g2.upd fun xs e => by
          rw [eD2] at e
          cases e
    obtain ⟨s1, kk, eD, lkk, pkk⟩ := q0
    have lp : (plus k ps).length = ps.length := List.length_map _
    rw [List.take_of_length_le (by rw [List.length_map, pk.len, lp]; exact Nat.le_refl _)] at pkk
    rw [List.length_map, pk.len] at lkk
    refine ⟨_, rfl, D, rfl, ⟨_, SqL.of eD⟩, fun B hB => ?_⟩
    refine lc_it (walk_list (xs := kk.map V.ref)) (fun i Hx => Same Hx Hx ∧ Same H Hx ∧ Hx D = some (.lst (kk.map V.ref)) ∧ PicksAt Hx kk (plus k ps) ∧ Hx B = some (.lst ((((plus k ps).take i).map fun p => decide (9 < p.2)).map V.bl))) ⟨Same.refl _, s1.trans (Same.of_new hB), upd_keep2 eD hB, pkk.same (Same.of_new hB), upd_same⟩ (fun i Hx _ q => SqL.of q.2.2.1) (fun i x Hx2 Hy hi q0 y => ?_) (fun Hx2 q0 => ?_)
    · obtain ⟨_, s2, eD2, pk2, eB⟩ := q0
      obtain ⟨rfl, hx⟩ := y
      obtain ⟨k1, p1, rfl, hk, hpi, tk⟩ := pk2.get hx
      have nBD : D ≠ B := fun z => by
        rw [z] at eD
        rw [eD] at hB
        cases hB
      refine ⟨k1, _, rfl, .inl (.inl tk), rfl, _, _, rfl, _, _, rfl, rfl, rfl, ?_⟩
      refine ⟨_, rfl, _, _, rfl, rfl, _, eB, by rw [List.length_map, List.length_map, List.length_take]; rw [List.length_map] at hi; omega, Same.refl _, fun b o e => ?_, by rw [upd_ne nBD]; exact eD2, pk2.upd (fun xs e => by rw [eB] at e; cases e), ?_⟩
      · have : b ≠ B := fun z => by
          have e2 := s1 b o e
          rw [z, hB] at e2
          cases e2
        rw [upd_ne this]
        exact s2 b o e
      · rw [upd_same, List.take_add_one, hpi, List.map_append, List.map_append]
        rfl
    obtain ⟨_, s2, eD2, pk2, eB⟩ := q0
    rw [List.length_map, pk2.len, List.take_length] at eB
    refine ⟨B, _, rfl, SqL.of eB, _, rfl, ?_⟩
    rcases h with ⟨le9, q⟩ | ⟨⟨p9, m9, g9⟩, qT⟩
    rotate_left
    · rw [show ((plus k ps).map fun p => decide (9 < p.2)).any id = true from List.any_eq_true.mpr ⟨true, List.mem_map.mpr ⟨p9, m9, decide_eq_true g9⟩, rfl⟩]
      refine iteT ?_
      exact OwE.mk_err2 T_T.er.ox hwhat hmost fun d hd => qT Hx2 d s2 hd
    rw [show ((plus k ps).map fun p => decide (9 < p.2)).any id = false from List.any_eq_false.mpr fun b m => by
      obtain ⟨p1, hp, rfl⟩ := List.mem_map.mp m
      rw [decide_eq_false (by have := le9 p1 hp; omega)]
      exact Bool.false_ne_true]
    refine iteF ?_
    have good : ∀ p ∈ plus k ps, Good p := fun p hp => by
      obtain ⟨p1, h1, rfl⟩ := List.mem_map.mp hp
      obtain ⟨g1, g2, g3, g4⟩ := good0 p1 h1
      exact ⟨g1, g2, by show 0 ≤ p1.2 + k; omega, le9 _ hp⟩
    have fl : (oneForm (plus k ps)).length ≤ 15 := Nat.le_trans (form_len _) (by rw [lp]; exact hl)
    refine ⟨_, rfl, D, kk.map V.ref, rfl, .inr (SqL.of eD2), fun z dz h1 h2 nd => ⟨z, dz, kk.map V.ref, rfl, upd_same, by rw [List.length_map, pk2.len, lp]; omega, .inl ⟨plus k ps, ?_, good, fun _ H' sb r _ => ⟨rfl, q z H' (s2.free h1) (s2.trans (made_same h1 h2 sb)) r⟩, fun c => by omega⟩⟩⟩
    refine PicksAt.vals (pk2.mono fun k xs e => ?_)
    · rw [upd_ne (ne_of_none e h1), upd_ne (ne_of_none e h2)]
      exact e
abbrev nRS : List Str := ["self", "other", "picks", "bay", "keep"]
theorem scRS : FnScope nRS ["self", "other"] (defScope sRSub) := ⟨rfl, rfl, rfl, by decide +kernel, rfl, by decide +kernel, by decide +kernel⟩
theorem ok_rsub {CF CR CN CM CP CB CT f fF fI fL fN : Addr} {fd : FuncData} (F : Fun K "__sub__" "Rule.__sub__" sRSub f fd) (c : Chk P w K mg base) (MF : Mk K CF fF) (gF : mg "First" = some (.ref CF)) (GF : FnR P w K mg base (L2.CX P w) 4 fF (spFirst K CF CP CT)) (Er : Errs K mg CN CM CP CB CT) : FnR P w K mg base (L2.CX P w) 6 f (spSub K CR fI fL fN CF CN) := by
  obtain ⟨fB, fdB, T_B, hval, F_B⟩ := Er.name
  have GB : FnOk P w K mg base CX0 1 fB fdB ["self", "value"] (OwE.spErr1 K "value") := ok_BadName0 F_B
  have bB : Binds K fdB ["self", "value"] [] := F_B.binds fun _ _ _ _ _ _ us hl => match us, hl with | [_, _], _ => rfl
  obtain ⟨fM, fdM, gM, kM, bM, GM⟩ := c.name
  refine OwR.raw0 (F.okX (k := 5) (ps := ["self", "other"]) scRS (fun vs H Q E h => ?_) (fun cdv A outer s H vs Q E hr h => ?_)) (F.binds fun _ _ _ _ _ _ us hl => match us, hl with | [_, _], _ => rfl)
  · obtain ⟨a, v, ps, rfl, _⟩ := h
    rfl
  · obtain ⟨a, v, ps, rfl, ⟨C, kd, dx, fs, p, ks, ea, lk, ep, pk, _⟩, good, hl, h⟩ := h
    have hr1 : Room 1 _ := hr.mono (by decide)
    have hr2 : Room 2 _ := hr.mono (by decide)
    refine ⟨_, (pss_cons (ps_if (pt_not (pt_val (pe_call GM hr1 (by rfl) gM kM bM .nil pass0 (pa_cons (pv 1) pa_nil)))) (pss_one (ps_raise rfl (takes_of rfl rfl rfl rfl) (pmk_oex T_B.er.ox T_B.ini T_B.ty GB hr2 bB .nil pass0 (by rfl) T_B.g (pa_cons (pv 1) pa_nil)))) pss_nil)
    (pss_cons (ps_setLc (i := 2) (own := [("bay", 3), ("keep", 4)]) (g := (gTup K 2 (gCons (gName 3) (gCons (gName 4) gNil)))) (by rfl) scRS.nd rfl rfl (sw_true rfl rfl rfl (by decide +kernel)) (pi_tup (pe_fld (pv 0) rfl)) (blkOk_by (own := [("bay", 3), ("keep", 4)]) (N := nRS) (sc := defScope sRSub) (by decide +kernel)) (fun _ _ _ _ _ => (pg_tup rfl (pgs_cons (pg_name (i := 3) scRS.nd rfl (Or.inl rfl)) (pgs_cons (pg_name (i := 4) scRS.nd rfl (Or.inl rfl)) pgs_nil)))) (fun _ _ _ _ _ => pts_one (pt_cmpR op_ne (pv 3) (pv 1) (nomark _))) (fun _ _ _ _ _ => (pe_tup (pa_cons (pv 3) (pa_cons (pv 4) pa_nil)))))
    (pss_one (ps_ret (OwR.pe_makeGS MF GF hr (by rfl) gF (passes_call (takes_of rfl rfl rfl rfl) (fun _ _ _ _ h => h)) (pv 2)))))), ?_⟩
    rcases h with ⟨b, rfl, hb1, hb2, q⟩ | ⟨⟨z, rfl, lz, nz⟩ | n, qb⟩
    rotate_left
    · refine ⟨_, rfl, _, rfl, .inl ⟨z, rfl, lz, fun H1 s1 => ⟨_, rfl, ?_⟩⟩⟩
      rw [nz]
      refine iteT ?_
      exact ⟨_, rfl, OwE.mk_err1 T_B.er.ox hval fun d hd => qb H1 d s1 hd⟩
    · refine ⟨_, rfl, _, rfl, .inr ⟨n, _, rfl, ?_⟩⟩
      refine iteT ?_
      exact ⟨_, rfl, OwE.mk_err1 T_B.er.ox hval fun d hd => qb H d (Same.refl _) hd⟩
    refine ⟨_, rfl, _, rfl, .inl ⟨b, rfl, hb2, fun H1 s1 => ⟨_, rfl, ?_⟩⟩⟩
    rw [hb1]
    refine iteF ?_
    have sz := sizeLine_eq
    have pk1 := pk.same s1
    refine ⟨_, rfl, a, C, dx, fs, .ref p, rfl, s1 a _ ea, kd.rc.cls, kd.rc.n1, lk, p, rfl, ⟨_, SqT.of (s1 p _ ep)⟩, fun D hD => ?_⟩
    refine lc_it (walk_tup (xs := ks.map V.ref)) (fun i Hx => Same H1 Hx ∧ ∃ kk : List Addr, Hx D = some (.lst (kk.map V.ref)) ∧ kk.length ≤ i ∧ PicksAt Hx kk ((ps.take i).filter fun p => !decide (p.1 = b))) ⟨Same.of_new hD, [], upd_same, Nat.le_refl 0, PicksAt.nil⟩ (fun i Hx _ q => SqT.of (q.1 p _ (s1 p _ ep))) (fun i x Hx Hy hi q0 y => ?_) (fun Hx q0 => ?_)
    · obtain ⟨s2, kk, eD, lkk, pkk⟩ := q0
      obtain ⟨rfl, hx⟩ := y
      obtain ⟨k1, p1, rfl, hk, hpi, tk⟩ := (pk1.same s2).get hx
      have hi2 : i < ps.length := (List.getElem?_eq_some_iff.mp hpi).1
      have e5 : (ps.take (i + 1)).filter (fun p => !decide (p.1 = b)) = (ps.take i).filter (fun p => !decide (p.1 = b)) ++ (if p1.1 = b then [] else [p1]) := by
        rw [List.take_add_one, hpi, List.filter_append]
        congr 1
        show [p1].filter _ = _
        by_cases c : p1.1 = b
        · rw [if_pos c]
          simp [c]
        · rw [if_neg c]
          simp [c]
      refine ⟨k1, _, rfl, .inl (.inl tk), rfl, _, _, rfl, _, _, rfl, rfl, rfl, ?_⟩
      refine ⟨_, rfl, _, rfl, rfl, _, rfl, ?_⟩
      have ed : decide (V.str p1.1 = V.str b) = decide (p1.1 = b) := by
        by_cases c : p1.1 = b
        · rw [c, decide_eq_true rfl, decide_eq_true rfl]
        · rw [decide_eq_false c, decide_eq_false fun q => c (V.str.inj q)]
      rw [ed]
      by_cases c : p1.1 = b
      · rw [decide_eq_true c]
        refine iteF ?_
        refine ⟨s2, kk, eD, by omega, ?_⟩
        rw [e5, if_pos c, List.append_nil]
        exact pkk
      · rw [decide_eq_false c]
        refine iteT ?_
        refine ⟨_, rfl, _, rfl, by show (2 : Nat) ≤ sizeLine; omega, fun T hT => ?_⟩
        have eD2 := upd_keep2 (o := .tup [.str p1.1, .int p1.2]) eD hT
        refine ⟨_, eD2, by rw [List.length_map]; omega, fun y o e => ?_, kk ++ [T], ?_, ?_, ?_⟩
        · rw [upd_ne (ne_of_none e hD)]
          exact upd_keep2 (s2 y o e) hT
        · rw [List.map_append]
          exact upd_same
        · rw [List.length_append]
          show kk.length + 1 ≤ i + 1
          omega
        · rw [e5, if_neg c]
          have g1 : PicksAt (upd Hy T (.tup [.str p1.1, .int p1.2])) kk ((ps.take i).filter fun p => !decide (p.1 = b)) := pkk.same (Same.of_new hT)
          have g2 := g1.snoc (k := T) (p := p1) upd_same
          exact g2.upd fun xs e => by
            rw [eD2] at e
            cases e
    obtain ⟨s2, kk, eD, lkk, pkk⟩ := q0
    rw [List.take_of_length_le (by rw [List.length_map, pk.len]; exact Nat.le_refl _)] at pkk
    have lf : (ps.filter fun p => !decide (p.1 = b)).length ≤ 15 := Nat.le_trans (List.length_filter_le _ _) hl
    have fl : (oneForm (ps.filter fun p => !decide (p.1 = b))).length ≤ 15 := Nat.le_trans (form_len _) lf
    refine ⟨_, rfl, D, kk.map V.ref, rfl, .inr (SqL.of eD), fun z dz h1 h2 nd => ⟨z, dz, kk.map V.ref, rfl, upd_same, by rw [List.length_map, pkk.len]; omega, .inl ⟨_, ?_, fun y m => good y (List.mem_filter.mp m).1, fun _ H' sb r _ => ⟨rfl, q z H' ((s1.trans s2).free h1) ((s1.trans s2).trans (made_same h1 h2 sb)) r⟩, fun c => by omega⟩⟩⟩
    refine PicksAt.vals (pkk.mono fun k xs e => ?_)
    · rw [upd_ne (ne_of_none e h1), upd_ne (ne_of_none e h2)]
      exact e
end
end K10
end
section
namespace K10
open PySem PySem.Spec PyProof.Rows L2
/-- where the classes of the rules, their methods and the defs around them stand -/
structure RAd where
  CR : Addr
  CF : Addr
  CE : Addr
  CP : Addr
  CN : Addr
  CM : Addr
  CK : Addr
  CB : Addr
  CT : Addr
  fI : Addr
  fL : Addr
  fN : Addr
  fE : Addr
  fS : Addr
  fO : Addr
  fA : Addr
  fU : Addr
  fR0 : Addr
  fF0 : Addr
  fE0 : Addr
  fP0 : Addr
  fOf : Addr
  pOf : Addr
  fForm : Addr
  fIsP : Addr
  pPk : Addr
  fPk : Addr
  pBa : Addr
  fBa : Addr
  fKe : Addr
  p1 : Addr
  f1 : Addr
  p2 : Addr
  f2 : Addr
/-- the built-in types that a rule is added to, or joined with -/
def tyNames : List String := ["NoneType", "bool", "int", "str", "tuple", "list", "dict"]
/-- a class of rules, with all that the laws ask of one -/
structure RCls (K : PySem.W.Frag) (a : RAd) (C : Addr) : Prop where
  k : RKind K a.CR a.fI a.fL a.fN C
  eq : OwR.Cmp1 K .Eq C a.fE
  ne : OwR.Ne1 K C a.fE
  str : OwR.Str1 K C a.fS
  bor : OwR.Bin1 K .BitOr C a.fO
  add : OwR.Bin1 K .Add C a.fA
  sub : OwR.Bin1 K .Sub C a.fU
  ty : ∀ T ∈ tyNames, OwR.BinT K .BitOr C T ∧ OwR.BinT K .Add C T ∧ OwR.BinT K .Sub C T ∧ PySem.W.notFirst K C (.type T) = true ∧ PySem.W.kitOne K (.type T) (.ref a.CR) = some false
  ior : OwR.noIn K C (dunderI Operator.BitOr.info.2) = true
  iadd : OwR.noIn K C (dunderI Operator.Add.info.2) = true
  isub : OwR.noIn K C (dunderI Operator.Sub.info.2) = true
  pk : PropOf K C "picks" a.pPk a.fPk
  ba : PropOf K C "bays" a.pBa a.fBa
  ke : Meth K C "keep" a.fKe
  own : PySem.W.notFirst K C (.ref C) = true
/-- neither of two classes is above the other -/
def Apart (K : PySem.W.Frag) (C D : Addr) : Prop := C ≠ D ∧ PySem.W.subIn K (.ref D) (.ref C) = some false ∧ PySem.W.notFirst K C (.ref D) = true
structure RF (P : Program) (w : World) (K : PySem.W.Frag) (mg : Str → Option Value) (base : Heap) (a : RAd) : Prop where
  chk : Chk P w K mg base
  er : Errs K mg a.CN a.CM a.CK a.CB a.CT
  n_zip : mg "zip" = none
  n_enumerate : mg "enumerate" = none
  n_iter : mg "iter" = none
  n_any : mg "any" = none
  gR : mg "Rule" = some (.ref a.CR)
  gF : mg "First" = some (.ref a.CF)
  gE : mg "Else" = some (.ref a.CE)
  gP : mg "Pair" = some (.ref a.CP)
  gForm : mg "one_form" = some (.ref a.fForm)
  gIsP : mg "is_pick" = some (.ref a.fIsP)
  cF : RCls K a a.CF
  cE : RCls K a a.CE
  apFE : Apart K a.CF a.CE
  apEF : Apart K a.CE a.CF
  nE1 : NoAttr K a.CE "_first"
  nE2 : NoAttr K a.CE "_second"
  fst : PropOf K a.CE "first" a.p1 a.f1
  snd : PropOf K a.CE "second" a.p2 a.f2
  rR : ClX.CRead K a.CR (.type "type")
  iR : OwR.CFun K a.CR (.type "type") "__init__" a.fR0
  rP : ClX.CRead K a.CP (.type "type")
  iP : OwR.CFun K a.CP (.type "type") "__init__" a.fP0
  rF : ClX.CRead K a.CF (.type "type")
  mOf : ClX.CMet K a.CF (.type "type") "of" a.pOf a.fOf
  mkF : Mk K a.CF a.fF0
  mkE : Mk K a.CE a.fE0
  dR0 : ∃ fd, Fun K "__init__" "Rule.__init__" sRule0 a.fR0 fd
  dF0 : ∃ fd, Fun K "__init__" "First.__init__" sFirst0 a.fF0 fd
  dE0 : ∃ fd, Fun K "__init__" "Else.__init__" sElse0 a.fE0 fd
  dP0 : ∃ fd, Fun K "__init__" "Pair.__init__" sPair0 a.fP0 fd
  dForm : ∃ fd, Fun K "one_form" "one_form" sForm a.fForm fd
  dIsP : ∃ fd, Fun K "is_pick" "is_pick" sIsPick a.fIsP fd
  dOf : ∃ fd, Fun K "of" "First.of" sFirstOf a.fOf fd
  dI : ∃ fd, Fun K "__iter__" "Rule.__iter__" sRIter a.fI fd
  dL : ∃ fd, Fun K "__len__" "Rule.__len__" sRLen a.fL fd
  dN : ∃ fd, Fun K "__contains__" "Rule.__contains__" sIn a.fN fd
  dEq : ∃ fd, Fun K "__eq__" "Rule.__eq__" sREq a.fE fd
  dS : ∃ fd, Fun K "__str__" "Rule.__str__" sRStr a.fS fd
  dO : ∃ fd, Fun K "__or__" "Rule.__or__" sROr a.fO fd
  dA : ∃ fd, Fun K "__add__" "Rule.__add__" sRAdd a.fA fd
  dU : ∃ fd, Fun K "__sub__" "Rule.__sub__" sRSub a.fU fd
  dPk : ∃ fd, Fun K "picks" "Rule.picks" sPicks a.fPk fd
  dBa : ∃ fd, Fun K "bays" "Rule.bays" sBays a.fBa fd
  dKe : ∃ fd, Fun K "keep" "Rule.keep" sKeep a.fKe fd
  d1 : ∃ fd, Fun K "first" "Pair.first" sPair1 a.f1 fd
  d2 : ∃ fd, Fun K "second" "Pair.second" sPair2 a.f2 fd
section
variable {P : Program} {w : World} {K : PySem.W.Frag} {mg : Str → Option Value} {base : Heap} {a : RAd}
theorem RF.first (R : RF P w K mg base a) : FnR P w K mg base (L2.CX P w) 4 a.fF0 (spFirst K a.CF a.CK a.CT) := by
  obtain ⟨_, d⟩ := R.dF0
  obtain ⟨_, d1⟩ := R.dR0
  obtain ⟨_, d2⟩ := R.dForm
  obtain ⟨_, d3⟩ := R.dIsP
  exact ok_F0 R.cF.k.rc d R.chk d1 d2 R.gForm R.n_zip R.n_enumerate d3 R.gIsP R.gR R.rR R.iR R.er
theorem RF.of (R : RF P w K mg base a) : FnR P w K mg base (L2.CX P w) 6 a.fOf (spFirstOf K a.CF a.CK a.CT) := by
  obtain ⟨_, d⟩ := R.dOf
  exact OwR.raw0 (ok_FO d R.mkF R.first) (d.binds fun _ _ _ _ _ _ us hl => match us, hl with | [_, _], _ => rfl)
theorem RF.els (R : RF P w K mg base a) : ∃ fd, Fun K "__init__" "Else.__init__" sElse0 a.fE0 fd ∧ FnOk P w K mg base (L2.CX P w) 5 a.fE0 fd ["self", "one", "other"] (spElse0 K a.CR a.fI a.fL a.fN a.CE a.CB a.CT) := by
  obtain ⟨_, d⟩ := R.dE0
  obtain ⟨_, d1⟩ := R.dR0
  obtain ⟨_, d2⟩ := R.dForm
  obtain ⟨_, d3⟩ := R.dP0
  obtain ⟨_, d4⟩ := R.dI
  obtain ⟨_, d5⟩ := R.dL
  exact ⟨_, d, ok_else0 R.cE.k.rc R.nE1 R.nE2 d R.chk R.chk.T3.n_list R.n_iter R.n_zip d1 d2 R.gForm d3 d4 d5 R.gR R.rR R.iR R.gP R.rP R.iP R.er⟩
theorem RF.or_ (R : RF P w K mg base a) : FnR P w K mg base (L2.CX P w) 7 a.fO (spOr K a.CR a.fI a.fL a.fN a.CE a.CB a.CT) := by
  obtain ⟨_, d⟩ := R.dO
  obtain ⟨_, d1, G⟩ := R.els
  exact ok_or d R.mkE R.gE (OwR.raw0 G (d1.binds fun _ _ _ _ _ _ us hl => match us, hl with | [_, _, _], _ => rfl))
theorem RF.add (R : RF P w K mg base a) : FnR P w K mg base (L2.CX P w) 6 a.fA (spAdd K a.CR a.fI a.fL a.fN a.CF a.CM a.CT) := by
  obtain ⟨_, d⟩ := R.dA
  exact ok_radd d R.chk R.n_any R.mkF R.gF R.first R.er
theorem RF.sub (R : RF P w K mg base a) : FnR P w K mg base (L2.CX P w) 6 a.fU (spSub K a.CR a.fI a.fL a.fN a.CF a.CN) := by
  obtain ⟨_, d⟩ := R.dU
  exact ok_rsub d R.chk R.mkF R.gF R.first R.er
theorem RF.eqQ (R : RF P w K mg base a) : FnR P w K mg base CX0 1 a.fE (spEqQ K a.CR a.fI a.fL a.fN) := by
  obtain ⟨_, d⟩ := R.dEq
  exact ok_reqQ d R.chk.T R.gR
theorem RF.str (R : RF P w K mg base a) : FnR P w K mg base CX0 1 a.fS (spStrR K a.CR a.fI a.fL a.fN) := by
  obtain ⟨_, d⟩ := R.dS
  exact ok_rstr d
end
end K10
end
section
/-! What the end of the top says of the rules' classes. Own. -/
namespace OwH
open PySem PySem.Spec PyProof.Rows L2
def hasF (K : PySem.W.Frag) (C : Value) (m : Str) (f : Addr) : Bool := He.eqO (PySem.W.findIn K C m) (some (some (.ref f))) && PySem.W.isFn K (.ref f)
theorem hasF_ok {K : PySem.W.Frag} {C : Value} {m : Str} {f : Addr} (h : hasF K C m f = true) : PySem.W.findIn K C m = some (some (.ref f)) ∧ PySem.W.isFn K (.ref f) = true := ⟨He.eqO_ok (two h).1, (two h).2⟩
def noneOrRef : Option (Option Value) → Bool
  | some none => true
  | some (some (.ref _)) => true
  | _ => false
theorem noneOrRef_ok {x : Option (Option Value)} (h : noneOrRef x = true) : ∃ rc, x = some rc ∧ (rc = none ∨ ∃ g : Addr, rc = some (.ref g)) := by
  match x, h with
  | some none, _ => exact ⟨none, rfl, .inl rfl⟩
  | some (some (.ref g)), _ => exact ⟨_, rfl, .inr ⟨g, rfl⟩⟩
def fBin (op : Operator) (K : PySem.W.Frag) (C f : Addr) : Bool := PySem.W.selfFirst K C && (hasF K (.ref C) (PySem.dunder op.info.2) f && noneOrRef (PySem.W.findIn K (.ref C) (dunderR op.info.2)))
theorem fBin_ok {op : Operator} {K : PySem.W.Frag} {C f : Addr} (h : fBin op K C f = true) : OwR.Bin1 K op C f :=
  ⟨(two h).1, (hasF_ok (two (two h).2).1).1, (hasF_ok (two (two h).2).1).2, noneOrRef_ok (two (two h).2).2⟩
def fBinT (op : Operator) (K : PySem.W.Frag) (C : Addr) (T : String) : Bool := (PySem.W.findIn K (.type T) (PySem.dunder op.info.2)).isSome && ((PySem.W.findIn K (.type T) (dunderR op.info.2)).isSome && decide (PySem.W.subIn K (.type T) (.ref C) = some false))
theorem fBinT_ok {op : Operator} {K : PySem.W.Frag} {C : Addr} {T : String} (h : fBinT op K C T = true) : OwR.BinT K op C T :=
  ⟨Option.isSome_iff_exists.mp (two h).1, Option.isSome_iff_exists.mp (two (two h).2).1, of_decide_eq_true (two (two h).2).2⟩
def fPropAt (K : PySem.W.Frag) (C : Addr) (m : Str) (p : Addr) : Bool := He.eqO (PySem.W.findIn K (.ref C) m) (some (some (.ref p))) && (He.eqO (PySem.W.specialIn K (.ref p) "__get__") (some (some (.builtin "property.__get__"))) && (decide (PySem.W.takesIn K (.ref p) = some true) && recOk K p "property"))
theorem propAt_ok {K : PySem.W.Frag} {C p : Addr} {m : Str} (h : fPropAt K C m p = true) : PropOf K C m p (inRec K p "property") := ⟨He.eqO_ok (two h).1, He.eqO_ok (two (two h).2).1, of_decide_eq_true (two (two (two h).2).2).1, recOk_ok (two (two (two h).2).2).2⟩
def fMethAt (K : PySem.W.Frag) (C : Addr) (m : Str) (f : Addr) : Bool := hasF K (.ref C) m f && PySem.W.keepIn K (.ref f)
theorem methAt_ok {K : PySem.W.Frag} {C f : Addr} {m : Str} (h : fMethAt K C m f = true) : Meth K C m f := ⟨(hasF_ok (two h).1).1, (hasF_ok (two h).1).2, (two h).2⟩
end OwH
namespace K10
open PySem PySem.Spec PyProof.Rows L2
/-- where the parts of rules stand, read off the class First -/
def ra (K : PySem.W.Frag) : RAd where
  CR := OwH.ga K "Rule"
  CF := OwH.ga K "First"
  CE := OwH.ga K "Else"
  CP := OwH.ga K "Pair"
  CN := OwH.ga K "BadName"
  CM := OwH.ga K "BadNumber"
  CK := OwH.ga K "BadPick"
  CB := OwH.ga K "BadRule"
  CT := OwH.ga K "TooMany"
  fI := OwH.mo K "First" "__iter__"
  fL := OwH.mo K "First" "__len__"
  fN := OwH.mo K "First" "__contains__"
  fE := OwH.mo K "First" "__eq__"
  fS := OwH.mo K "First" "__str__"
  fO := OwH.mo K "First" "__or__"
  fA := OwH.mo K "First" "__add__"
  fU := OwH.mo K "First" "__sub__"
  fR0 := OwH.mo K "Rule" "__init__"
  fF0 := OwH.mo K "First" "__init__"
  fE0 := OwH.mo K "Else" "__init__"
  fP0 := OwH.mo K "Pair" "__init__"
  fOf := OwH.inRec K (OwH.mo K "First" "of") "classmethod"
  pOf := OwH.mo K "First" "of"
  fForm := OwH.ga K "one_form"
  fIsP := OwH.ga K "is_pick"
  pPk := OwH.mo K "First" "picks"
  fPk := OwH.inRec K (OwH.mo K "First" "picks") "property"
  pBa := OwH.mo K "First" "bays"
  fBa := OwH.inRec K (OwH.mo K "First" "bays") "property"
  fKe := OwH.mo K "First" "keep"
  p1 := OwH.mo K "Else" "first"
  f1 := OwH.inRec K (OwH.mo K "Else" "first") "property"
  p2 := OwH.mo K "Else" "second"
  f2 := OwH.inRec K (OwH.mo K "Else" "second") "property"
def fRc (x : Str) (K : PySem.W.Frag) : Bool := (He.Fa.cls x).ok K && ((He.Fa.noat x "_picks").ok K && ((He.Fa.noat x "_keeps").ok K && (He.Fa.noat x "_bays").ok K))
def fTys (K : PySem.W.Frag) (C : Addr) : Bool := tyNames.all fun T => OwH.fBinT .BitOr K C T && (OwH.fBinT .Add K C T && (OwH.fBinT .Sub K C T && (PySem.W.notFirst K C (.type T) && decide (PySem.W.kitOne K (.type T) (.ref (ra K).CR) = some false))))
/-- all that the laws ask of a class of rules -/
def fRule (x : Str) (K : PySem.W.Frag) : Bool := fRc x K && (OwH.fIsC x K && (decide (PySem.W.kitOne K (.ref (OwH.ga K x)) (.ref (ra K).CR) = some true) && (OwH.hasF K (.ref (OwH.ga K x)) "__iter__" (ra K).fI && (OwH.hasF K (.ref (OwH.ga K x)) "__len__" (ra K).fL && (OwH.hasF K (.ref (OwH.ga K x)) "__contains__" (ra K).fN &&
  (OwH.hasF K (.ref (OwH.ga K x)) "__eq__" (ra K).fE && (OwH.fNe x K && (OwH.hasF K (.ref (OwH.ga K x)) "__str__" (ra K).fS && (OwH.fBin .BitOr K (OwH.ga K x) (ra K).fO && (OwH.fBin .Add K (OwH.ga K x) (ra K).fA && (OwH.fBin .Sub K (OwH.ga K x) (ra K).fU && (fTys K (OwH.ga K x) &&
  (OwR.noIn K (OwH.ga K x) (dunderI Operator.BitOr.info.2) && (OwR.noIn K (OwH.ga K x) (dunderI Operator.Add.info.2) && (OwR.noIn K (OwH.ga K x) (dunderI Operator.Sub.info.2) && (OwH.fPropAt K (OwH.ga K x) "picks" (ra K).pPk && (OwH.fPropAt K (OwH.ga K x) "bays" (ra K).pBa && (OwH.fMethAt K (OwH.ga K x) "keep" (ra K).fKe &&
  PySem.W.notFirst K (OwH.ga K x) (.ref (OwH.ga K x))))))))))))))))))))
theorem rule_ok {x : Str} {K : PySem.W.Frag} (h : fRule x K = true) : RCls K (ra K) (OwH.ga K x) := by
  obtain ⟨a1, h⟩ := OwH.two h
  obtain ⟨a2, h⟩ := OwH.two h
  obtain ⟨a3, h⟩ := OwH.two h
  obtain ⟨a4, h⟩ := OwH.two h
  obtain ⟨a5, h⟩ := OwH.two h
  obtain ⟨a6, h⟩ := OwH.two h
  obtain ⟨a7, h⟩ := OwH.two h
  obtain ⟨a8, h⟩ := OwH.two h
  obtain ⟨a9, h⟩ := OwH.two h
  obtain ⟨b1, h⟩ := OwH.two h
  obtain ⟨b2, h⟩ := OwH.two h
  obtain ⟨b3, h⟩ := OwH.two h
  obtain ⟨b4, h⟩ := OwH.two h
  obtain ⟨b5, h⟩ := OwH.two h
  obtain ⟨b6, h⟩ := OwH.two h
  obtain ⟨b7, h⟩ := OwH.two h
  obtain ⟨b8, h⟩ := OwH.two h
  obtain ⟨b9, h⟩ := OwH.two h
  obtain ⟨c1, c2⟩ := OwH.two h
  obtain ⟨d1, d2⟩ := OwH.two a1
  obtain ⟨d2, d3⟩ := OwH.two d2
  obtain ⟨d3, d4⟩ := OwH.two d3
  have rc : RuleC K (OwH.ga K x) := ⟨He.cls_ok d1, He.noat_ok d2, He.noat_ok d3, He.noat_ok d4⟩
  obtain ⟨e1, e2, e3, e4⟩ := OwH.isC_ok a2
  exact {
    k := ⟨rc, e1, e2, e3, e4, of_decide_eq_true a3, ⟨rc.cls, rc.n1, (OwH.hasF_ok a4).1, (OwH.hasF_ok a4).2⟩, ⟨(OwH.hasF_ok a5).1, (OwH.hasF_ok a5).2⟩, ⟨(OwH.hasF_ok a6).1, (OwH.hasF_ok a6).2⟩⟩
    eq := ⟨(OwH.hasF_ok a7).1, (OwH.hasF_ok a7).2⟩
    ne := ⟨(OwH.hasF_ok a7).1, (OwH.hasF_ok a7).2, OwH.ne_ok a8, e4⟩
    str := ⟨(OwH.hasF_ok a9).1, (OwH.hasF_ok a9).2⟩
    bor := OwH.fBin_ok b1
    add := OwH.fBin_ok b2
    sub := OwH.fBin_ok b3
    ty := fun T hT => by
      have h := List.all_eq_true.mp b4 T hT
      obtain ⟨g1, h⟩ := OwH.two h
      obtain ⟨g2, h⟩ := OwH.two h
      obtain ⟨g3, h⟩ := OwH.two h
      obtain ⟨g4, g5⟩ := OwH.two h
      exact ⟨OwH.fBinT_ok g1, OwH.fBinT_ok g2, OwH.fBinT_ok g3, g4, of_decide_eq_true g5⟩
    ior := b5
    iadd := b6
    isub := b7
    pk := OwH.propAt_ok b8
    ba := OwH.propAt_ok b9
    ke := OwH.methAt_ok c1
    own := c2 }
def fApart (x y : Str) (K : PySem.W.Frag) : Bool := !decide (OwH.ga K x = OwH.ga K y) && (decide (PySem.W.subIn K (.ref (OwH.ga K y)) (.ref (OwH.ga K x)) = some false) && PySem.W.notFirst K (OwH.ga K x) (.ref (OwH.ga K y)))
theorem apart_ok {x y : Str} {K : PySem.W.Frag} (h : fApart x y K = true) : Apart K (OwH.ga K x) (OwH.ga K y) := by
  obtain ⟨h1, h⟩ := OwH.two h
  obtain ⟨h2, h3⟩ := OwH.two h
  exact ⟨(fun e => by rw [decide_eq_true e] at h1; cases h1), of_decide_eq_true h2, h3⟩
end K10
end
section
/-! a def that wants no guard, called by name; repr of a number or None. -/
namespace OwR
open PySem PySem.Spec PyProof.Rows L2
section
variable {X : Cx} {CX : CXT} {k : Nat} {f : Addr} {fd : FuncData} {ps : List Str} {sp : Sp} {E : XK} {x : Str} {p pos : Pos} {e : Expr} {es : List Expr} {t : TA}
theorem run_fnG {pins : List (Addr × Obj)} {σ : L2.St} {H : Hp} {s : Shared} {Q : VK} {us : List Value} {vs : List V} (F : FnG X.prog X.w X.K X.mg X.base CX k f fd ps sp) (len : ∀ vs H Q E, sp vs H Q E → vs.length = ps.length) (hgd : X.A.guards = some []) (hr : Room k X.A) (hb : Binds X.K fd ps []) (hx : Passes CX X E)
    (I : Inv X pins σ H s) (r : Vals vs us) (h : sp vs H Q E) : wpAny (model X.prog X.w) X.A (call (.ref f) us) (EP X pins σ Q) X.xe s := by
  have hl : us.length = ps.length := by rw [← r.length]; exact len _ _ _ _ h
  have b := hb s us I.kIn (by rw [List.append_nil]; exact hl)
  rw [List.append_nil] at b
  refine wpAny_call (codeAny_mono (F X.A X.stack s H ⟨us, []⟩ us vs Q E hgd hr I.env0 b r h) fun r s' hq => ?_)
  cases r with
  | error e => exact hx pins σ H s e s' I hq
  | ok fl =>
    cases fl with
    | ret u => exact I.after hq
    | next => exact False.elim hq
    | brk => exact False.elim hq
    | cont => exact False.elim hq
theorem pe_callG (F : FnG X.prog X.w X.K X.mg X.base CX k f fd ps sp) (len : ∀ vs H Q E, sp vs H Q E → vs.length = ps.length) (hgd : X.A.guards = some []) (hr : Room k X.A) (hg : Gl X x) (hm : X.mg x = some (.ref f)) (hk : PySem.W.keepIn X.K (.ref f) = true) (hb : Binds X.K fd ps []) (hx : Passes CX X E)
    (ha : PA X (e :: es) t) (hdb : (x == ("__debug__" : Str)) = false := by decide) (he : starEach (e :: es) X.env = (false, eval e X.env) :: starEach es X.env := by rfl) (hpl : (backTo pos (starEach es X.env)).any (·.1) = false := by rfl) :
    PE X (.Call (.Name x p) (e :: es) [] pos) (tCall sp [] E t) := by
  refine ⟨fun pins s σ H Q I h => ?_⟩
  refine wpAny_Call_Name_kw (ld_glob I hg hm ?_ hdb)
  refine PySem.W.callWith_K (h₀ := X.base) I.ok.mod.kin hk (thn (ha.run pos pins s σ H _ I h) fun us s1 ⟨vs, H1, I1, r, q⟩ => ⟨I1.kIn, ?_⟩) he hpl
  have q : sp (vs ++ []) H1 Q E := q
  rw [List.append_nil] at q
  exact run_fnG F len hgd hr hb hx I1 r q
end
def reprI : Option Int → Str
  | none => "None"
  | some i => toString i
def rReprI : List V → Hp → VK → Prop := fun xs H Q => ∃ o : Option Int, xs = [match o with | none => V.non | some i => V.int i] ∧ (∀ i, o = some i → i.natAbs.log2 < 1920) ∧ Q (.str (reprI o)) H
/-- repr of a number or of None -/
theorem cr_reprI {X : Cx} : CallR X (.builtin "repr") rReprI := by
  intro pins s σ H xs us Q I r h
  obtain ⟨o, rfl, hz, q⟩ := h
  cases o with
  | none =>
    obtain ⟨u, rfl, rx⟩ := vals1 r
    cases (show u = Value.none from rx)
    exact call_repr_gives (typeIs_none s) F.slot_NoneType_repr F.entry_NoneType_repr (F.args_NoneType_repr_1 _) gives_none_repr ⟨.str _, H, I.tok _, ⟨_, rfl⟩, q⟩
  | some i => exact SkE.call_repr_int pins s σ H _ us Q I r ⟨i, rfl, hz i rfl, q⟩
end OwR
end
section
namespace K10
open PySem PySem.Spec PyProof.Rows L2
/-- of the picks of one bay the first one has the greatest keep -/
def Desc (ps : List Pk) : Prop := ps.Pairwise fun p q => p.1 = q.1 → q.2 < p.2
theorem kept_desc : ∀ (l : List Pk) (m : Str → Option Int), Desc (kept m l)
  | [], _ => List.Pairwise.nil
  | p :: r, m => by
    show Desc (if keeps m p = true then p :: kept (setM m p.1 p.2) r else kept m r)
    split
    · refine List.Pairwise.cons (fun q hq e => kept_below r _ q hq p.2 ?_) (kept_desc r _)
      unfold setM
      rw [if_pos e.symm]
    · exact kept_desc r m
theorem step2_sub : ∀ l : List Pk, (step2 l).Sublist l
  | [] => List.Sublist.refl _
  | [p] => List.Sublist.refl _
  | p :: q :: r => by
    show (if p.1 = q.1 then step2 (q :: r) else p :: step2 (q :: r)).Sublist (p :: q :: r)
    split
    · exact (step2_sub (q :: r)).cons p
    · exact (step2_sub (q :: r)).cons₂ p
theorem form_desc (l : List Pk) : Desc (oneForm l) := (kept_desc l _).sublist (step2_sub _)
/-- the keeps of a bay -/
def keepsOf (z : Str) (ps : List Pk) : List Int := (ps.filter fun p => decide (p.1 = z)).map (·.2)
theorem keepsOf_look : ∀ (ps : List Pk) (z : Str), Desc ps → (keepsOf z ps).isEmpty = (lookL ps z).isNone ∧ ∀ v, lookL ps z = some v → v ∈ keepsOf z ps ∧ ∀ y ∈ keepsOf z ps, y ≤ v
  | [], z, _ => ⟨rfl, fun v h => by cases h⟩
  | p :: r, z, h => by
    obtain ⟨h1, h2⟩ := List.pairwise_cons.mp h
    obtain ⟨i1, i2⟩ := keepsOf_look r z h2
    unfold lookL keepsOf
    by_cases c : z = p.1
    · rw [if_pos c, List.filter_cons, if_pos (decide_eq_true c.symm)]
      refine ⟨rfl, fun v e => ?_⟩
      cases e
      refine ⟨List.mem_cons_self, fun y hy => ?_⟩
      rcases List.mem_cons.mp hy with e | hy
      · exact Int.le_of_eq e
      · obtain ⟨q, hq, rfl⟩ := List.mem_map.mp hy
        obtain ⟨hq, e⟩ := List.mem_filter.mp hq
        exact Int.le_of_lt (h1 q hq (by rw [of_decide_eq_true e, c]))
    · rw [if_neg c, List.filter_cons, if_neg (fun e => c (of_decide_eq_true e).symm)]
      exact ⟨i1, i2⟩
/-- what the law's picks are: short names, small keeps -/
def PkS (p : Pk) : Prop := PyData.strOk p.1 = true ∧ (PyData.leavesShort 13 (.str p.1)) = true ∧ p.1.cps.size ≤ 8 ∧ 0 ≤ p.2 ∧ p.2 ≤ 9
theorem lays_ok : ∀ {ps : List Pk}, (∀ p ∈ ps, PkS p) → PyData.leavesShortAll 13 (ps.map pkD) = true ∧ PyData.bulkAll (ps.map pkD) ≤ 11 * ps.length
  | [], _ => ⟨rfl, Nat.le_refl _⟩
  | p :: r, h => by
    obtain ⟨i1, i2⟩ := lays_ok (ps := r) fun q hq => h q (List.mem_cons_of_mem _ hq)
    obtain ⟨o1, o2, o3, o4, o5⟩ := h p List.mem_cons_self
    have sh : ∀ v : Int, 0 ≤ v → v ≤ 9 → decide ((PyData.shown (.int v)).length ≤ 13) = true := fun v v0 v1 => by
      have key : ∀ n : Nat, n < 10 → decide ((PyData.shown (.int (n : Int))).length ≤ 13) = true := by decide +kernel
      have := key v.toNat (by omega)
      rw [Int.toNat_of_nonneg v0] at this
      exact this
    refine ⟨?_, ?_⟩
    · show ((PyData.leavesShort 13 (.str p.1) && (decide ((PyData.shown (.int p.2)).length ≤ 13) && true)) && PyData.leavesShortAll 13 (r.map pkD)) = true
      rw [o2, sh p.2 o4 o5, i1]
      rfl
    · show (p.1.cps.size + 1 + (0 + 1 + 0)) + 1 + PyData.bulkAll (r.map pkD) ≤ 11 * (r.length + 1)
      omega
theorem show_all {ps : List Pk} (h : ∀ p ∈ ps, PkS p) : PyData.showableAll (ps.map pkD) = true ∧ PyData.hasDictAll (ps.map pkD) = false := by
  induction ps with
  | nil => exact ⟨rfl, rfl⟩
  | cons p r ih =>
    obtain ⟨i1, i2⟩ := ih fun q hq => h q (List.mem_cons_of_mem _ hq)
    obtain ⟨_, _, _, o4, o5⟩ := h p List.mem_cons_self
    have lg : p.2.natAbs.log2 < 1920 := Nat.lt_of_le_of_lt (Nat.log2_le_self _) (by omega)
    refine ⟨?_, ?_⟩
    · show ((true && (decide (p.2.natAbs.log2 < 1920) && true)) && PyData.showableAll (r.map pkD)) = true
      rw [i1, decide_eq_true lg]
      rfl
    · show ((false || (false || false)) || PyData.hasDictAll (r.map pkD)) = false
      rw [i2]
      rfl
theorem show_picks {ps : List Pk} (h : ∀ p ∈ ps, PkS p) (hn : ps.length ≤ 20) : (PyData.tuple (ps.map pkD)).showable = true ∧ (PyData.tuple (ps.map pkD)).hasDict = false ∧ (PyData.tuple (ps.map pkD)).depth ≤ 64 ∧ (PyData.tuple (ps.map pkD)).shown.length ≤ sizeLine := by
  obtain ⟨a1, a2⟩ := show_all h
  obtain ⟨b1, b2⟩ := lays_ok h
  have dp : (PyData.tuple (ps.map pkD)).depth ≤ 64 := by
    have := OwD.deps (f := pkD) (k := 1) ps fun q _ => pkD_dep q
    rw [PyData.depth]
    omega
  refine ⟨a1, a2, dp, PyData.shown_fits_bulk (B := 13) (by decide) (by decide) b1 ?_⟩
  show PyData.bulkAll (ps.map pkD) ≤ 2 ^ 20
  omega
theorem show_strs {zs : List Str} (h : ∀ z ∈ zs, PyData.strOk z = true ∧ PyData.leavesShort 13 (.str z) = true ∧ z.cps.size ≤ 8) : PyData.showableAll (zs.map PyData.str) = true ∧ PyData.hasDictAll (zs.map PyData.str) = false ∧ PyData.leavesShortAll 13 (zs.map PyData.str) = true ∧ PyData.bulkAll (zs.map PyData.str) ≤ 9 * zs.length := by
  induction zs with
  | nil => exact ⟨rfl, rfl, rfl, Nat.le_refl _⟩
  | cons z r ih =>
    obtain ⟨i1, i2, i3, i4⟩ := ih fun q hq => h q (List.mem_cons_of_mem _ hq)
    obtain ⟨_, o2, o3⟩ := h z List.mem_cons_self
    refine ⟨?_, ?_, ?_, ?_⟩
    · show (true && PyData.showableAll (r.map PyData.str)) = true
      rw [i1]
      rfl
    · show (false || PyData.hasDictAll (r.map PyData.str)) = false
      rw [i2]
      rfl
    · show (PyData.leavesShort 13 (.str z) && PyData.leavesShortAll 13 (r.map PyData.str)) = true
      rw [o2, i3]
      rfl
    · show z.cps.size + 1 + PyData.bulkAll (r.map PyData.str) ≤ 9 * (r.length + 1)
      omega
theorem show_bays {zs : List Str} (h : ∀ z ∈ zs, PyData.strOk z = true ∧ PyData.leavesShort 13 (.str z) = true ∧ z.cps.size ≤ 8) (hn : zs.length ≤ 20) : (PyData.tuple (zs.map PyData.str)).showable = true ∧ (PyData.tuple (zs.map PyData.str)).hasDict = false ∧ (PyData.tuple (zs.map PyData.str)).depth ≤ 64 ∧ (PyData.tuple (zs.map PyData.str)).shown.length ≤ sizeLine := by
  obtain ⟨a1, a2, b1, b2⟩ := show_strs h
  have dp : (PyData.tuple (zs.map PyData.str)).depth ≤ 64 := by
    have := OwD.deps (f := PyData.str) (k := 0) zs fun q _ => by simp [PyData.depth]
    rw [PyData.depth]
    omega
  refine ⟨a1, a2, dp, PyData.shown_fits_bulk (B := 13) (by decide) (by decide) b1 ?_⟩
  show PyData.bulkAll (zs.map PyData.str) ≤ 2 ^ 20
  omega
theorem log_small {i : Int} (h : i.natAbs < 1000) : i.natAbs.log2 < 1920 := Nat.lt_of_le_of_lt (Nat.log2_le_self _) (by omega)
theorem dp_ix {K : PySem.W.Frag} {H : Hp} : ∀ {xs : List V} {ds : List PyData}, xs.length = ds.length → (∀ (i : Nat) (x : V) (d : PyData), xs[i]? = some x → ds[i]? = some d → Dp K H x d) → DpAll K H xs ds
  | [], [], _, _ => .nil
  | [], _ :: _, h, _ => by cases h
  | _ :: _, [], h, _ => by cases h
  | x :: xs, d :: ds, h, f => .cons (f 0 x d rfl rfl) (dp_ix (Nat.succ.inj h) fun i y e h1 h2 => f (i + 1) y e h1 h2)
theorem pks_shaped {ps : List Pk} (h : ∀ p ∈ ps, PyData.strOk p.1 = true) : SeqAt.shaped (.list (ps.map pkD)) = true := OwD.shaped_lst (k := 1) (by decide) (fun p q => pkD_lay (h p q)) fun p _ => pkD_dep p
theorem pks_eqv {ps : List Pk} (h : ∀ p ∈ ps, PyData.strOk p.1 = true) : PyData.eqv (.list (ps.map pkD)) (.list (ps.map pkD)) = true := by
  refine PySem.SeqAt.eqv_refl _ ?_
  rw [PyData.canLay0]
  exact OwD.lays ps fun p q => pkD_lay (h p q)
def strO : V → Option Str
  | .str z => some z
  | _ => none
def keepsO (o : Option Str) (ps : List Pk) : List Int := (ps.filter fun p => decide (o = some p.1)).map (·.2)
theorem keepsO_some (z : Str) (ps : List Pk) : keepsO (some z) ps = keepsOf z ps := by
  unfold keepsO keepsOf
  congr 1
  refine List.filter_congr fun p _ => ?_
  rw [Bool.eq_iff_iff, decide_eq_true_eq, decide_eq_true_eq, Option.some.injEq]
  exact eq_comm
theorem keepsO_none (ps : List Pk) : keepsO none ps = [] := by
  unfold keepsO
  rw [List.filter_eq_nil_iff.mpr fun p _ h => by cases of_decide_eq_true h]
  rfl
theorem keepsO_is {ps : List Pk} (h : Desc ps) (o : Option Str) : (keepAt ps o).isSome = !(keepsO o ps).isEmpty ∧ ∀ v, keepAt ps o = some v → v ∈ keepsO o ps ∧ ∀ y ∈ keepsO o ps, y ≤ v := by
  cases o with
  | none =>
    rw [keepsO_none]
    exact ⟨rfl, fun v e => by cases e⟩
  | some z =>
    rw [keepsO_some]
    obtain ⟨h1, h2⟩ := keepsOf_look ps z h
    refine ⟨?_, h2⟩
    rw [h1]
    show (lookL ps z).isSome = !(lookL ps z).isNone
    cases lookL ps z <;> rfl
end K10
end
section
namespace OwR
open PySem PySem.Spec PyProof.Rows L2
def rLenK (K : PySem.W.Frag) : List V → Hp → VK → Prop := fun xs H Q => ∃ p ys, xs = [.ref p] ∧ (SqL K H p ys ∨ SqT K H p ys) ∧ Q (.int (ys.length : Nat)) H
theorem cr_lenK {X : Cx} {K : PySem.W.Frag} (h : X.K = K) : CallR X (.builtin "len") (rLenK K) := by
  subst h
  exact call_len_seq
end OwR
namespace K10
open PySem PySem.Spec PyProof.Rows L2
abbrev sLForm : Stmt := top 33
/-- what is kept, and the least keep of each bay so far -/
def KInv (m : Str → Option Int) (t : List Pk) : Prop := (∀ q ∈ t, ∃ k, m q.1 = some k ∧ k ≤ q.2) ∧ ∀ z k, m z = some k → ∃ q ∈ t, q.1 = z ∧ q.2 = k
theorem kinv (l : List Pk) : KInv (mEnd (fun _ => none) l) (kept (fun _ => none) l) := by
  refine PyProof.Rows.FinIter.snoc_ind (P := fun l => KInv (mEnd (fun _ => none) l) (kept (fun _ => none) l)) ?_ ?_ l
  · exact ⟨fun q h => (nomatch h), fun z k h => (nomatch h)⟩
  · intro l x ih
    show KInv (mEnd (fun _ => none) (l ++ [x])) (kept (fun _ => none) (l ++ [x]))
    rw [kept_app, mEnd_app]
    unfold mAfter
    by_cases c : keeps (mEnd (fun _ => none) l) x = true
    · rw [if_pos c, if_pos c]
      refine ⟨fun q h => ?_, fun z k h => ?_⟩
      · rcases List.mem_append.mp h with h | h
        · obtain ⟨k, e, le⟩ := ih.1 q h
          unfold setM
          by_cases e2 : q.1 = x.1
          · rw [if_pos e2]
            unfold keeps at c
            rw [← e2, e] at c
            have := of_decide_eq_true c
            exact ⟨x.2, rfl, by omega⟩
          · rw [if_neg e2]
            exact ⟨k, e, le⟩
        · cases List.mem_singleton.mp h
          exact ⟨x.2, by unfold setM; rw [if_pos rfl], Int.le_refl _⟩
      · unfold setM at h
        by_cases e2 : z = x.1
        · rw [if_pos e2] at h
          cases h
          exact ⟨x, List.mem_append.mpr (.inr (List.mem_singleton.mpr rfl)), e2.symm, rfl⟩
        · rw [if_neg e2] at h
          obtain ⟨q, hq, e3⟩ := ih.2 z k h
          exact ⟨q, List.mem_append.mpr (.inl hq), e3⟩
    · rw [if_neg c, if_neg c, List.append_nil]
      exact ih
/-- the law's own test: is a pick of this bay with no greater keep there? -/
def hitsB (b : Str) (k : Int) (q : Pk) : Bool := decide (q.1 = b) && decide (q.2 ≤ k)
theorem keeps_hits (l : List Pk) (p : Pk) : ((kept (fun _ => none) l).filter (hitsB p.1 p.2)).isEmpty = keeps (mEnd (fun _ => none) l) p := by
  obtain ⟨h1, h2⟩ := kinv l
  rw [Bool.eq_iff_iff, List.isEmpty_iff, List.filter_eq_nil_iff]
  unfold keeps
  refine ⟨fun h => ?_, fun h q hq c => ?_⟩
  · cases e : mEnd (fun _ => none) l p.1 with
    | none => rfl
    | some k =>
      obtain ⟨q, hq, e1, e2⟩ := h2 _ _ e
      refine decide_eq_true ?_
      have := h q hq
      unfold hitsB at this
      rw [decide_eq_true e1, Bool.true_and, decide_eq_true_eq] at this
      omega
  · unfold hitsB at c
    rw [Bool.and_eq_true, decide_eq_true_eq, decide_eq_true_eq] at c
    obtain ⟨k, e, le⟩ := h1 q hq
    rw [c.1] at e
    rw [e] at h
    have := of_decide_eq_true h
    omega
def spLForm (K : PySem.W.Frag) : Sp := fun vs H Q _ => ∃ (a : Addr) (ks : List Addr) (ps : List Pk), vs = [.ref a] ∧ SqL K H a (ks.map V.ref) ∧ PicksAt H ks ps ∧ ps.length ≤ 20 ∧
  ∀ (p : Addr) (H' : Hp) (ks' : List Addr), H p = none → Same H H' → H' p = some (.lst (ks'.map V.ref)) → PicksAt H' ks' (oneForm ps) → Q (.ref p) H'
theorem step2_split {l : List Pk} {i : Nat} {p : Pk} (h : l[i]? = some p) : step2 (l.drop i) = if i + 1 = l.length ∨ (l[i + 1]?).map (·.1) ≠ some p.1 then p :: step2 (l.drop (i + 1)) else step2 (l.drop (i + 1)) := by
  obtain ⟨hi, ep⟩ := List.getElem?_eq_some_iff.mp h
  have ed : l.drop i = p :: l.drop (i + 1) := by
    rw [← ep]
    exact List.drop_eq_getElem_cons hi
  rw [ed]
  by_cases c : i + 1 = l.length
  · rw [if_pos (.inl c), List.drop_of_length_le (by omega)]
    rfl
  · have hi2 : i + 1 < l.length := by omega
    have e2 : l.drop (i + 1) = l[i + 1] :: l.drop (i + 1 + 1) := List.drop_eq_getElem_cons hi2
    rw [e2, List.getElem?_eq_getElem hi2]
    show (if p.1 = l[i + 1].1 then _ else _) = _
    by_cases d : p.1 = l[i + 1].1
    · rw [if_pos d, if_neg fun q => q.elim c fun q => q (by rw [d]; rfl)]
    · rw [if_neg d, if_pos (.inr fun q => d (Option.some.inj q).symm)]
section
variable {P : Program} {w : World} {K : PySem.W.Frag} {mg : Str → Option Value} {base : Heap}
abbrev nLF : List Str := ["_law_picks_so", "_law_first", "_law_bay", "_law_keep", "_law_pair", "_law_k"]
theorem scLF : FnScope nLF ["_law_picks_so"] (defScope sLForm) := ⟨rfl, rfl, rfl, by decide +kernel, rfl, by decide +kernel, by decide +kernel⟩
theorem ok_lform {f : Addr} {fd : FuncData} (F : Fun K "_law_form" "_law_form" sLForm f fd) (n_len : mg "len" = none) (n_range : mg "range" = none) : FnOk P w K mg base CX0 1 f fd ["_law_picks_so"] (spLForm K) := by
  refine F.ok scLF (fun vs H Q E h => ?_) (fun cdv A outer s H vs Q E hr h => ?_)
  · obtain ⟨a, ks, ps, rfl, _⟩ := h
    rfl
  · obtain ⟨a, ks, ps, rfl, ha, hp, hn, q⟩ := h
    refine ⟨_, (pss_cons (ps_set (i := 1) scLF.nd rfl (Or.inr rfl) (pe_lst pa_nil))
    (pss_cons (ps_for PassesOwn.never rfl (pi_list (pv 0)) (pg_tup rfl (pgs_cons (pg_name (i := 2) scLF.nd rfl (Or.inr rfl)) (pgs_cons (pg_name (i := 3) scLF.nd rfl (Or.inr rfl)) pgs_nil))) (pss_one (ps_if (pt_cmpR (OwR.op_eqNil hr.units) (pe_lc (own := [("_law_pair", 4)]) (by rfl) scLF.nd (pi_list (pv 1)) (blkOk_by (own := [("_law_pair", 4)]) (N := nLF) (sc := defScope sLForm) (by decide +kernel)) (fun _ _ _ _ _ => (pg_name (i := 4) scLF.nd rfl (Or.inl rfl))) (fun _ _ _ _ _ => pts_one (PW.pt (pw_and (pt_cmpR op_eq (pe_ix (r := rIxT K) ix_tup (pv 4) pe_int (fun _ _ => rfl)) (pv 2) (nomark _)) (pw_and1 (pt_cmpR op_le (pe_ix (r := rIxT K) ix_tup (pv 4) pe_int (fun _ _ => rfl)) (pv 3) (nomark _)))))) (fun _ _ _ _ _ => (pv 4))) (pe_lst pa_nil) (nomark _)) (pss_one (ps_expr (pe_bm PySem.F.plainAttrs_list PySem.F.slot_list_append PySem.F.type_list_append mt_append (pv 1) (pa_cons (pe_tup (pa_cons (pv 2) (pa_cons (pv 3) pa_nil))) pa_nil)))) pss_nil)))
    (pss_one (ps_ret (pe_lc (own := [("_law_k", 5)]) (by rfl) scLF.nd (pi_range1 rfl n_range (pa_cons (pe_callB call_len_seq (by rfl) n_len boot_len (pa_cons (pv 1) pa_nil)) pa_nil)) (blkOk_by (own := [("_law_k", 5)]) (N := nLF) (sc := defScope sLForm) (by decide +kernel)) (fun _ _ _ _ _ => (pg_name (i := 5) scLF.nd rfl (Or.inl rfl))) (fun _ _ _ _ _ => pts_one (PW.pt (pw_or (pt_cmpR op_eq (pe_op op_add (pv 5) pe_int) (pe_callB (OwR.cr_lenK (K := K) rfl) (by rfl) n_len boot_len (pa_cons (pv 1) pa_nil)) (nomark _)) (pw_or1 (pt_cmpR op_ne (pe_ix (r := rIxT K) ix_tup (pe_ix (r := rIxL K) ix_list (pv 1) (pe_op op_add (pv 5) pe_int) (fun _ _ => rfl)) pe_int (fun _ _ => rfl)) (pe_ix (r := rIxT K) ix_tup (pe_ix (r := rIxL K) ix_list (pv 1) (pv 5) (fun _ _ => rfl)) pe_int (fun _ _ => rfl)) (nomark _)))))) (fun _ _ _ _ _ => (pe_ix (r := rIxL K) ix_list (pv 1) (pv 5) (fun _ _ => rfl)))))))), ?_⟩
    have sz := sizeLine_eq
    refine ⟨Nat.zero_le _, fun L hL => ?_⟩
    have s0 := Same.of_new (o := .lst []) hL
    refine ⟨_, rfl, a, rfl, ⟨_, SqL.mono ha s0⟩, ?_⟩
    refine for_it (walk_list (xs := ks.map V.ref)) (fun i σ H' => Same H H' ∧ (∃ x2 x3, σ = [some (.ref a), some (.ref L), x2, x3, none, none]) ∧ ∃ kk : List Addr, H' L = some (.lst (kk.map V.ref)) ∧ kk.length ≤ i ∧ PicksAt H' kk (kept (fun _ => none) (ps.take i)))
      ⟨s0, ⟨none, none, rfl⟩, [], upd_same, Nat.le_refl 0, PicksAt.nil⟩ (fun i σ H' _ q => SqL.mono ha q.1) (fun i x σ H' H2 hi q0 y => ?_) (fun σ H' q0 => ?_)
    · obtain ⟨s1, ⟨x2, x3, rfl⟩, kk, eL, kl, pk⟩ := q0
      obtain ⟨rfl, hx⟩ := y
      obtain ⟨k, p, rfl, hk, hpi, tk⟩ := (hp.same s1).get hx
      have hi2 : i < ps.length := (List.getElem?_eq_some_iff.mp hpi).1
      have etake : ps.take (i + 1) = ps.take i ++ [p] := by
        rw [List.take_add_one, hpi]
        rfl
      refine ⟨k, _, rfl, .inl (.inl tk), rfl, _, _, rfl, _, _, rfl, rfl, ?_⟩
      refine ⟨_, rfl, L, rfl, ⟨_, SqL.of eL⟩, fun D hD => ?_⟩
      have nLD : L ≠ D := ne_of_none eL hD
      refine lc_it (walk_list (xs := kk.map V.ref)) (fun j Hx => Same H2 Hx ∧ ∃ hh : List Addr, Hx D = some (.lst (hh.map V.ref)) ∧ hh.length ≤ j ∧ hh.length = (((kept (fun _ => none) (ps.take i)).take j).filter (hitsB p.1 p.2)).length) ⟨Same.of_new hD, [], upd_same, Nat.le_refl 0, rfl⟩ (fun j Hx _ q => SqL.of (q.1 L _ eL)) (fun j x Hx Hy hj q1 y => ?_) (fun Hx q1 => ?_)
      · obtain ⟨s2, hh, eD, ll, lf⟩ := q1
        obtain ⟨rfl, hx⟩ := y
        obtain ⟨k2, p2, rfl, hk2, hp2, tk2⟩ := (pk.same s2).get hx
        have et2 : (kept (fun _ => none) (ps.take i)).take (j + 1) = (kept (fun _ => none) (ps.take i)).take j ++ [p2] := by
          rw [List.take_add_one, hp2]
          rfl
        rw [List.length_map] at hj
        refine ⟨rfl, ?_⟩
        refine ⟨_, rfl, k2, _, 0, _, rfl, rfl, SqT.of tk2, rfl, ?_⟩
        refine ⟨_, rfl, rfl, _, rfl, ?_⟩
        have snoc : ∀ b : Bool, hitsB p.1 p.2 p2 = b → (((kept (fun _ => none) (ps.take i)).take (j + 1)).filter (hitsB p.1 p.2)).length = (((kept (fun _ => none) (ps.take i)).take j).filter (hitsB p.1 p.2)).length + b.toNat := fun b e => by
          rw [et2, List.filter_append, List.length_append, List.filter_cons, e]
          cases b <;> rfl
        by_cases c : p2.1 = p.1
        · rw [show decide (V.str p2.1 = V.str p.1) = true from decide_eq_true (by rw [c])]
          refine iteT ?_
          refine ⟨_, rfl, k2, _, 1, _, rfl, rfl, SqT.of tk2, rfl, ?_⟩
          refine ⟨_, rfl, _, _, rfl, rfl, _, rfl, ?_⟩
          by_cases d : p2.2 ≤ p.2
          · rw [decide_eq_true d]
            refine iteT ?_
            have sn := snoc true (by unfold hitsB; rw [decide_eq_true c, decide_eq_true d]; rfl)
            refine ⟨_, rfl, _, eD, by rw [List.length_map]; omega, fun b o e => ?_, hh ++ [k2], ?_, ?_, ?_⟩
            · rw [upd_ne (ne_of_none e hD)]
              exact s2 b o e
            · rw [List.map_append]
              exact upd_same
            · rw [List.length_append]
              show hh.length + 1 ≤ j + 1
              omega
            · rw [List.length_append, sn, lf]
              rfl
          · rw [decide_eq_false d]
            refine iteF ?_
            have sn := snoc false (by unfold hitsB; rw [decide_eq_false d, Bool.and_false])
            exact ⟨s2, hh, eD, by omega, by rw [sn]; exact lf⟩
        · rw [show decide (V.str p2.1 = V.str p.1) = false from decide_eq_false (fun e => c (by injection e))]
          refine iteF ?_
          refine iteF ?_
          have sn := snoc false (by unfold hitsB; rw [decide_eq_false c, Bool.false_and])
          exact ⟨s2, hh, eD, by omega, by rw [sn]; exact lf⟩
      · obtain ⟨s2, hh, eD, ll, lf⟩ := q1
        rw [List.length_map, List.take_of_length_le (by rw [pk.len]; exact Nat.le_refl _)] at lf
        refine ⟨Nat.zero_le _, fun N hN => ?_⟩
        have s3 := Same.of_new (o := .lst []) hN
        refine ⟨D, N, hh.map V.ref, rfl, rfl, SqL.of (s3 D _ eD), SqL.of upd_same, ?_⟩
        have eb : (hh.map V.ref).isEmpty = keeps (mEnd (fun _ => none) (ps.take i)) p := by
          rw [← keeps_hits, Bool.eq_iff_iff, List.isEmpty_iff, List.isEmpty_iff, ← List.length_eq_zero_iff, ← List.length_eq_zero_iff, List.length_map, lf]
        rw [eb]
        have s4 : Same H (upd Hx N (.lst [])) := (s1.trans s2).trans s3
        have eL4 : upd Hx N (.lst []) L = some (.lst (kk.map V.ref)) := s3 L _ (s2 L _ eL)
        have pk4 : PicksAt (upd Hx N (.lst [])) kk (kept (fun _ => none) (ps.take i)) := (pk.same s2).same s3
        by_cases c : keeps (mEnd (fun _ => none) (ps.take i)) p = true
        · rw [c]
          refine ⟨true, rfl, iteT ?_⟩
          refine ⟨_, rfl, .inl ⟨rfl, _, SqL.of eL4⟩, ?_⟩
          refine ⟨_, rfl, _, rfl, by show (2:Nat) ≤ sizeLine; omega, fun T hT => ?_⟩
          refine ⟨L, _, _, rfl, rfl, upd_keep2 eL4 hT, by rw [List.length_map]; omega, ?_⟩
          have nLT : L ≠ T := ne_of_none eL4 hT
          refine ⟨fun b o e => ?_, ⟨_, _, rfl⟩, kk ++ [T], ?_, ?_, ?_⟩
          · rw [upd_ne (ne_of_none e hL), upd_ne (ne_of_none (s4 b o e) hT)]
            exact s4 b o e
          · rw [List.map_append]
            exact upd_same
          · rw [List.length_append]
            show kk.length + 1 ≤ i + 1
            omega
          · rw [etake, kept_app, if_pos c]
            have g1 : PicksAt (upd (upd Hx N (.lst [])) T (.tup [.str p.1, .int p.2])) kk (kept (fun _ => none) (ps.take i)) := pk4.same (Same.of_new hT)
            exact (g1.snoc (k := T) (p := p) (by show upd _ _ _ _ = _; exact upd_same)).upd fun xs e => by
              rw [upd_keep2 eL4 hT] at e
              cases e
        · rw [Bool.eq_false_iff.mpr c]
          refine ⟨false, rfl, iteF ?_⟩
          refine ⟨s4, ⟨_, _, rfl⟩, kk, eL4, by omega, ?_⟩
          rw [etake, kept_app, if_neg c, List.append_nil]
          exact pk4
    · obtain ⟨s1, ⟨x2, x3, rfl⟩, kk, eL, kl, pk⟩ := q0
      rw [List.length_map, hp.len, List.take_length] at pk
      rw [List.length_map] at kl
      have lk := pk.len
      have lks := hp.len
      refine ⟨_, rfl, L, _, rfl, .inl (SqL.of eL), ?_⟩
      rw [List.length_map]
      refine ⟨_, rfl, by omega, by omega, fun D hD => ?_⟩
      refine lc_it walk_range (fun j Hx => Same H' Hx ∧ ∃ (hh : List Addr) (ss : List Pk), Hx D = some (.lst (hh.map V.ref)) ∧ hh.length ≤ j ∧ PicksAt Hx hh ss ∧ ss ++ step2 ((kept (fun _ => none) ps).drop j) = oneForm ps) ⟨Same.of_new hD, [], [], upd_same, Nat.le_refl 0, PicksAt.nil, rfl⟩ (fun _ _ _ _ => True.intro) (fun j x Hx Hy hj q1 y => ?_) (fun Hx q1 => ?_)
      · obtain ⟨s2, hh, ss, eD, ll, ph, es⟩ := q1
        obtain ⟨rfl, rfl⟩ := y
        have hj2 : j < kk.length := by omega
        obtain ⟨k0, hk0⟩ : ∃ k0, kk[j]? = some k0 := ⟨_, List.getElem?_eq_getElem hj2⟩
        obtain ⟨p0, hp0⟩ : ∃ p0, (kept (fun _ => none) ps)[j]? = some p0 := ⟨_, List.getElem?_eq_getElem (by omega)⟩
        have t0 := (pk.same s2).at_ j k0 p0 hk0 hp0
        have sp := step2_split hp0
        have i0 : atI (kk.map V.ref) (0 + (j : Int)) = some (.ref k0) := by
          rw [Int.zero_add]
          exact atI_nat (by rw [List.getElem?_map, hk0]; rfl)
        refine ⟨rfl, ?_⟩
        have eL2 := s2 L _ eL
        refine ⟨_, rfl, _, _, rfl, rfl, _, rfl, L, _, rfl, .inl (SqL.of eL2), rfl, _, rfl, ?_⟩
        rw [List.length_map]
        have put : j + 1 = (kept (fun _ => none) ps).length ∨ ((kept (fun _ => none) ps)[j + 1]?).map (·.1) ≠ some p0.1 → ∃ acc, Hy D = some (.lst acc) ∧ acc.length < sizeLine ∧ (Same H' (upd Hy D (.lst (acc ++ [.ref k0]))) ∧ ∃ (hh : List Addr) (ss : List Pk), upd Hy D (.lst (acc ++ [.ref k0])) D = some (.lst (hh.map V.ref)) ∧ hh.length ≤ j + 1 ∧ PicksAt (upd Hy D (.lst (acc ++ [.ref k0]))) hh ss ∧ ss ++ step2 ((kept (fun _ => none) ps).drop (j + 1)) = oneForm ps) := fun c => by
          rw [if_pos c] at sp
          refine ⟨_, eD, by rw [List.length_map]; omega, fun b o e => ?_, hh ++ [k0], ss ++ [p0], ?_, ?_, ?_, ?_⟩
          · rw [upd_ne (ne_of_none e hD)]
            exact s2 b o e
          · rw [List.map_append]
            exact upd_same
          · rw [List.length_append]
            show hh.length + 1 ≤ j + 1
            omega
          · exact (ph.snoc t0).upd fun xs e => by
              rw [eD] at e
              cases e
          · rw [List.append_assoc, ← es, sp]
            rfl
        by_cases c : j + 1 = (kept (fun _ => none) ps).length
        · rw [show decide (V.int (0 + (j : Nat) + 1) = V.int ((kk.length : Nat) : Int)) = true from decide_eq_true (by rw [lk, ← c]; congr 1; omega)]
          refine iteT ?_
          refine iteT ?_
          exact ⟨_, rfl, _, rfl, L, _, _, _, rfl, rfl, SqL.of eL2, i0, put (.inl c)⟩
        · rw [show decide (V.int (0 + (j : Nat) + 1) = V.int ((kk.length : Nat) : Int)) = false from decide_eq_false (fun e => c (by injection e; omega))]
          refine iteF ?_
          obtain ⟨k1, hk1⟩ : ∃ k1, kk[j + 1]? = some k1 := ⟨_, List.getElem?_eq_getElem (by omega)⟩
          obtain ⟨p1, hp1⟩ : ∃ p1, (kept (fun _ => none) ps)[j + 1]? = some p1 := ⟨_, List.getElem?_eq_getElem (by omega)⟩
          have t1 := (pk.same s2).at_ (j + 1) k1 p1 hk1 hp1
          have i1 : atI (kk.map V.ref) (0 + (j : Int) + 1) = some (.ref k1) := by
            rw [show 0 + (j : Int) + 1 = ((j + 1 : Nat) : Int) by omega]
            exact atI_nat (by rw [List.getElem?_map, hk1]; rfl)
          refine ⟨_, rfl, _, rfl, _, _, rfl, rfl, L, _, _, _, rfl, rfl, SqL.of eL2, i1, ?_⟩
          refine ⟨k1, _, 0, _, rfl, rfl, SqT.of t1, rfl, ?_⟩
          refine ⟨_, rfl, _, rfl, L, _, _, _, rfl, rfl, SqL.of eL2, i0, ?_⟩
          refine ⟨k0, _, 0, _, rfl, rfl, SqT.of t0, rfl, rfl, _, rfl, ?_⟩
          by_cases d : p1.1 = p0.1
          · rw [show (!decide (V.str p1.1 = V.str p0.1)) = false by rw [decide_eq_true (by rw [d])]; rfl]
            refine iteF ?_
            rw [if_neg (fun z => z.elim c fun z => z (by rw [hp1]; exact congrArg some d))] at sp
            exact ⟨s2, hh, ss, eD, by omega, ph, by rw [← es, sp]⟩
          · rw [show (!decide (V.str p1.1 = V.str p0.1)) = true by rw [decide_eq_false (fun e => d (by injection e))]; rfl]
            refine iteT ?_
            exact ⟨_, rfl, _, rfl, L, _, _, _, rfl, rfl, SqL.of eL2, i0, put (.inr (by rw [hp1]; exact fun e => d (Option.some.inj e)))⟩
      · obtain ⟨s2, hh, ss, eD, ll, ph, es⟩ := q1
        rw [lk, Int.toNat_natCast, List.drop_length] at es
        have es : ss = oneForm ps := by rw [← es]; exact (List.append_nil ss).symm
        subst es
        exact q D Hx hh (s1.free hD) (s1.trans s2) eD ph
end
end K10
end
section
namespace K10
open PySem PySem.Spec PyProof.Rows L2
abbrev sRow : Stmt := top 32
theorem PicksAt.but {H H' : Hp} {p c : Addr} {ns : List Int} {n : Nat} {z : Int} {ks : List Addr} {ps : List Pk} (h : PicksAt H ks ps) (P : PenAt H p c ns n z) (s : But p H H') : PicksAt H' ks ps := h.mono fun k xs e => by
  refine s k _ (fun q => ?_) e
  rw [q, P.pen] at e
  cases e
def spRow (K : PySem.W.Frag) : Sp := fun vs H Q _ => ∃ (p c b l : Addr) (ns : List Int) (n : Nat) (z : Int) (bs : List Str) (ms : List Int) (m : Nat), vs = [.ref p, .ref b, .ref l, .int m] ∧ m ≤ 12 ∧ PenAt H p c ns n z ∧ n + 30 < 100000 ∧ b ≠ p ∧ l ≠ p ∧
  SqL K H b (bs.map V.str) ∧ 0 < bs.length ∧ bs.length < 1000 ∧ SqL K H l (ms.map V.int) ∧ 0 < ms.length ∧ ms.length < 1000 ∧
  ∀ (r : Addr) (ks : List Addr) (ps : List Pk) (n' : Nat) (z' : Int) (H' : Hp), r ≠ p → H' r = some (.lst (ks.map V.ref)) → PicksAt H' ks ps → ps.length ≤ m → (∀ q ∈ ps, q.1 ∈ bs ∧ q.2 ∈ ms) → n' ≤ n + 30 → PenAt H' p c ns n' z' → But p H H' → Q (.ref r) H'
section
variable {P : Program} {w : World} {K : PySem.W.Frag} {mg : Str → Option Value} {base : Heap}
abbrev nRo : List Str := ["_law_pen_here", "_law_bays", "_law_keeps", "_law_top", "_law_k"]
theorem scRo : FnScope nRo ["_law_pen_here", "_law_bays", "_law_keeps", "_law_top"] (defScope sRow) := ⟨rfl, rfl, rfl, by decide +kernel, rfl, by decide +kernel, by decide +kernel⟩
theorem ok_row {f fD fP : Addr} {fd fdD fdP : FuncData} (F : Fun K "_law_row" "_law_row" sRow f fd) (T : Nm mg) (n_range : mg "range" = none) (FD : Fun K "_law_draw" "_law_draw" sDraw fD fdD) (gD : mg "_law_draw" = some (.ref fD)) (FP : Fun K "_law_pick" "_law_pick" sPick fP fdP) (gP : mg "_law_pick" = some (.ref fP)) : FnOk P w K mg base CX0 3 f fd ["_law_pen_here", "_law_bays", "_law_keeps", "_law_top"] (spRow K) := by
  have GD : FnOk P w K mg base CX0 2 fD fdD ["_law_pen_here", "_law_many"] spDraw := (ok_draw FD T).mono (by decide)
  have bD : Binds K fdD ["_law_pen_here", "_law_many"] [] := FD.binds fun _ _ _ _ _ _ us hl => match us, hl with | [_, _], _ => rfl
  have GP : FnOk P w K mg base CX0 2 fP fdP ["_law_pen_here", "_law_some"] (spPick K) := ok_pick FP T FD gD
  have bP : Binds K fdP ["_law_pen_here", "_law_some"] [] := FP.binds fun _ _ _ _ _ _ us hl => match us, hl with | [_, _], _ => rfl
  refine F.ok scRo (fun vs H Q E h => ?_) (fun cdv A outer s H vs Q E hr h => ?_)
  · obtain ⟨p, c, b, l, ns, n, z, bs, ms, m, rfl, _⟩ := h
    rfl
  · obtain ⟨p, c, b, l, ns, n, z, bs, ms, m, rfl, hm10, hp, hn, nb, nl, hb, b0, b1, hm, m0, m1, q⟩ := h
    refine ⟨_, (pss_one (ps_ret (pe_lc (own := [("_law_k", 4)]) (by rfl) scRo.nd (pi_range1 rfl n_range (pa_cons (pe_call GD hr (by rfl) gD FD.kp bD .nil pass0 (pa_cons (pv 0) (pa_cons (pe_op op_add (pv 3) pe_int) pa_nil))) pa_nil)) (blkOk_by (own := [("_law_k", 4)]) (N := nRo) (sc := defScope sRow) (by decide +kernel)) (fun _ _ _ _ _ => (pg_name (i := 4) scRo.nd rfl (Or.inl rfl))) (fun _ _ _ _ _ => pts_nil) (fun _ _ _ _ _ => (pe_tup (pa_cons (pe_call GP hr (by rfl) gP FP.kp bP .nil pass0 (pa_cons (pv 0) (pa_cons (pv 1) pa_nil))) (pa_cons (pe_call GP hr (by rfl) gP FP.kp bP .nil pass0 (pa_cons (pv 0) (pa_cons (pv 2) pa_nil))) pa_nil))))))), ?_⟩
    have sz := sizeLine_eq
    refine ⟨_, rfl, _, rfl, m, 1, rfl, rfl, p, c, ns, n, z, _, rfl, hp, by omega, by omega, small_int (by omega) (by omega), fun d n1 z1 H1 d0 d1 hn1 hp1 s1 => ⟨d, rfl, by omega, by omega, fun R hR => ?_⟩⟩
    have nR : R ≠ p := fun e => hp1.some (e ▸ hR)
    have nRc : c ≠ R := ne_of_none hp1.cells hR
    refine lc_it walk_range (fun i Hx => But p H1 Hx ∧ ∃ (n' : Nat) (z' : Int) (ks : List Addr) (ps : List Pk), PenAt Hx p c ns n' z' ∧ n' ≤ n + 1 + 2 * i ∧ Hx R = some (.lst (ks.map V.ref)) ∧ ks.length ≤ i ∧ PicksAt Hx ks ps ∧ ∀ q ∈ ps, q.1 ∈ bs ∧ q.2 ∈ ms)
      ⟨But.new hR, n1, z1, [], [], hp1.same (Same.of_new hR), by omega, upd_same, Nat.le_refl 0, PicksAt.nil, fun q h => by cases h⟩ (fun _ _ _ _ => True.intro) (fun i x Hx Hy hi q0 y => ?_) (fun Hx q0 => ?_)
    · obtain ⟨sB, n', z', ks, ps, pn, ln, eR, lk, pk, mem⟩ := q0
      obtain ⟨rfl, rfl⟩ := y
      refine ⟨rfl, ?_⟩
      have s2 : But p H Hy := s1.trans sB
      refine ⟨_, rfl, _, rfl, p, c, b, ns, n', z', _, rfl, pn, by omega, nb, SqL.but hb nb s2, by rw [List.length_map]; exact b0, by rw [List.length_map]; exact b1, fun x1 n2 z2 H2 hx1 hn2 hp2 s3 => ?_⟩
      obtain ⟨bq, hbq, rfl⟩ := List.mem_map.mp hx1
      have s4 : But p H H2 := s2.trans s3
      refine ⟨_, rfl, _, rfl, p, c, l, ns, n2, z2, _, rfl, hp2, by omega, nl, SqL.but hm nl s4, by rw [List.length_map]; exact m0, by rw [List.length_map]; exact m1, fun x2 n3 z3 H3 hx2 hn3 hp3 s5 => ?_⟩
      obtain ⟨mq, hmq, rfl⟩ := List.mem_map.mp hx2
      refine ⟨by show (2 : Nat) ≤ sizeLine; omega, fun T hT => ?_⟩
      have s6 : But p Hy H3 := s3.trans s5
      have eR3 := s6 R _ nR eR
      have nRT : R ≠ T := ne_of_none eR3 hT
      refine ⟨_, upd_keep2 eR3 hT, by rw [List.length_map]; omega, ?_, n3, z3, ks ++ [T], ps ++ [(bq, mq)], ?_, by omega, ?_, ?_, ?_, ?_⟩
      · intro a o na e
        rw [upd_ne (ne_of_none e hR)]
        exact upd_keep2 (s6 a o na (sB a o na e)) hT
      · exact (hp3.same (Same.of_new hT)).put (Ne.symm nR) nRc
      · rw [List.map_append]
        exact upd_same
      · rw [List.length_append]
        show ks.length + 1 ≤ i + 1
        omega
      · have p1 : PicksAt (upd H3 T (.tup [.str bq, .int mq])) ks ps := (pk.but pn s6).same (Same.of_new hT)
        have p2 := p1.snoc (k := T) (p := (bq, mq)) upd_same
        exact p2.upd fun xs e => by
          rw [upd_keep2 eR3 hT] at e
          cases e
      · intro q hq
        rcases List.mem_append.mp hq with h | h
        · exact mem q h
        · cases List.mem_singleton.mp h
          exact ⟨hbq, hmq⟩
    · obtain ⟨sB, n', z', ks, ps, pn, ln, eR, lk, pk, mem⟩ := q0
      have hd : d.toNat ≤ m := by omega
      exact q R ks ps n' z' Hx nR eR pk (by rw [← pk.len]; omega) mem (by omega) pn (s1.trans sB)
end
end K10
end
section
/-! Texts and their words. Own. -/
namespace K10
open PySem PySem.Spec PyProof.Rows L2
/-- the words of a text -/
abbrev wordsOf (z : Str) : List Str := Txt.split z " "
theorem sp_tl : TL.tl (" " : Str) = [32] := by decide +kernel
theorem words_ne (z : Str) : wordsOf z ≠ [] := fun e => by
  have := PyProof.Rows.split_pos z " "
  rw [show Txt.split z " " = [] from e] at this
  exact absurd this (by decide)
theorem words_free {z w : Str} (h : w ∈ wordsOf z) : 32 ∉ TL.tl w := by
  have e : (" " : Str) = ⟨#[32]⟩ := by decide +kernel
  have h : w ∈ Txt.split z " " := h
  rw [e] at h
  exact StrLaws.split_free z 32 w h
theorem words_join (z : Str) : Txt.join " " (wordsOf z) = z := by
  rw [TL.join_eq]
  exact StrLaws.join_split z " "
theorem words_of {ps : List Str} (hne : ps ≠ []) (hp : ∀ p ∈ ps, 32 ∉ TL.tl p) : wordsOf (Txt.join " " ps) = ps := TL.split_join sp_tl (by decide +kernel) hne hp
theorem joinL_app (S : List Nat) : ∀ A B : List (List Nat), A ≠ [] → B ≠ [] → TL.joinL S (A ++ B) = TL.joinL S A ++ (S ++ TL.joinL S B)
  | [], _, h, _ => absurd rfl h
  | [a], [], _, h => absurd rfl h
  | [a], b :: B, _, _ => rfl
  | a :: c :: A, B, _, h => by
    show a ++ (S ++ TL.joinL S (c :: A ++ B)) = a ++ (S ++ TL.joinL S (c :: A)) ++ (S ++ TL.joinL S B)
    rw [joinL_app S (c :: A) B (by simp) h]
    simp only [List.append_assoc]
theorem tlj (ps : List Str) : TL.tl (Txt.join " " ps) = TL.joinL [32] (ps.map TL.tl) := by
  rw [TL.join_eq, TL.tl_join, sp_tl]
theorem flat_ne {ps : List Str} (h : ps ≠ []) : ps.flatMap wordsOf ≠ [] := fun e => by
  match ps, h with
  | p :: r, _ =>
    rw [List.flatMap_cons] at e
    exact words_ne p (List.append_eq_nil_iff.mp e).1
theorem flat_tl : ∀ ps : List Str, ps ≠ [] → TL.joinL [32] ((ps.flatMap wordsOf).map TL.tl) = TL.joinL [32] (ps.map TL.tl)
  | [], h => absurd rfl h
  | [p], _ => by
    rw [List.flatMap_cons, List.flatMap_nil, List.append_nil, ← tlj, words_join]
    rfl
  | p :: q :: r, _ => by
    rw [List.flatMap_cons, List.map_append, joinL_app _ _ _ (fun e => words_ne p (List.map_eq_nil_iff.mp e)) (fun e => flat_ne (ps := q :: r) (by simp) (List.map_eq_nil_iff.mp e)), flat_tl (q :: r) (by simp), ← tlj, words_join]
    rfl
/-- the words of joined pieces -/
theorem words_flat {ps : List Str} (h : ps ≠ []) : wordsOf (Txt.join " " ps) = ps.flatMap wordsOf := by
  have e : Txt.join " " ps = Txt.join " " (ps.flatMap wordsOf) := by
    refine TL.ext_tl ?_
    rw [tlj, tlj, flat_tl ps h]
  rw [e]
  refine words_of (flat_ne h) fun p hp => ?_
  obtain ⟨z, _, hz⟩ := List.mem_flatMap.mp hp
  exact words_free hz
theorem words_one {w : Str} (h : 32 ∉ TL.tl w) : wordsOf w = [w] := by
  have := words_of (ps := [w]) (by simp) fun p hp => by
    rw [List.mem_singleton.mp hp]
    exact h
  have e : Txt.join " " [w] = w := by
    refine TL.ext_tl ?_
    rw [tlj]
    rfl
  rw [e] at this
  exact this
theorem flat_free : ∀ {ps : List Str}, (∀ p ∈ ps, 32 ∉ TL.tl p) → ps.flatMap wordsOf = ps
  | [], _ => rfl
  | p :: r, h => by
    rw [List.flatMap_cons, words_one (h p List.mem_cons_self), flat_free fun q hq => h q (List.mem_cons_of_mem _ hq)]
    rfl
theorem joinL_len (S : List Nat) (b : Nat) : ∀ A : List (List Nat), (∀ a ∈ A, a.length ≤ b) → (TL.joinL S A).length ≤ (b + S.length) * A.length
  | [], _ => Nat.zero_le _
  | [a], h => by
    show a.length ≤ (b + S.length) * 1
    have := h a List.mem_cons_self
    omega
  | a :: c :: A, h => by
    have i := joinL_len S b (c :: A) fun q hq => h q (List.mem_cons_of_mem _ hq)
    have i1 := h a List.mem_cons_self
    show (a ++ (S ++ TL.joinL S (c :: A))).length ≤ _
    rw [List.length_append, List.length_append, List.length_cons (a := a), Nat.mul_succ]
    omega
theorem join_len {ps : List Str} {b : Nat} (h : ∀ p ∈ ps, p.length ≤ b) : (Txt.join " " ps).length ≤ (b + 1) * ps.length := by
  have := joinL_len [32] b (ps.map TL.tl) fun a ha => by
    obtain ⟨p, hp, rfl⟩ := List.mem_map.mp ha
    rw [← TL.len_tl]
    exact h p hp
  rw [TL.len_tl, tlj]
  rw [List.length_map] at this
  exact this
theorem text_len {z : Str} {b : Nat} (h : ∀ p ∈ wordsOf z, p.length ≤ b) : z.length ≤ (b + 1) * (wordsOf z).length := by
  have := join_len h
  rw [words_join] at this
  exact this
end K10
end
section
set_option pp.maxSteps 400
set_option pp.deepTerms.threshold 6
/-! The words of a text, taken one by one. -/
namespace K10
open PySem PySem.Spec PyProof.Rows L2
abbrev sBadText0 : Stmt := mth 8 0
abbrev sWMore : Stmt := mth 15 1
abbrev sWPeek : Stmt := mth 15 2
abbrev sWCheck : Stmt := mth 15 4
abbrev sWStep : Stmt := mth 15 5
abbrev sWTw : Stmt := mth 15 6
abbrev sWTn : Stmt := mth 15 7
abbrev sWEnd : Stmt := mth 15 9
/-- the names of the methods: none is an attribute of an object -/
def wNames : List Str := ["more", "peek", "check", "step", "take_word", "take_name", "take_number", "alone", "end"]
/-- the word at a place, the empty one behind the last -/
def pk (ws : List Str) (at_ : Nat) : Str := ws.getD at_ ""
/-- words at o: the next one is at_ -/
def WAt (C : Addr) (H : Hp) (o : Addr) (ws : List Str) (ln at_ : Nat) : Prop := ∃ (dx : Addr) (fs : List (Str × V)) (l : Addr), H o = some (.ins C dx fs) ∧ fs.lookup ("_words" : Str) = some (.ref l) ∧ fs.lookup ("_line" : Str) = some (.int (ln : Nat)) ∧ fs.lookup ("_at" : Str) = some (.int (at_ : Nat)) ∧ H l = some (.lst (ws.map V.str)) ∧ (∀ m ∈ wNames, fs.lookup m = none) ∧ fs.length ≤ 900
theorem WAt.same {C : Addr} {H H' : Hp} {o : Addr} {ws : List Str} {ln at_ : Nat} (h : WAt C H o ws ln at_) (s : Same H H') : WAt C H' o ws ln at_ := by
  obtain ⟨dx, fs, l, h1, h2, h3, h4, h5, h6, h7⟩ := h
  exact ⟨dx, fs, l, s _ _ h1, h2, h3, h4, s _ _ h5, h6, h7⟩
theorem putF_len {f : Str} {v x : V} : ∀ {fs : List (Str × V)}, fs.lookup f = some x → (putF f v fs).length = fs.length
  | [], h => by cases h
  | (g, y) :: r, h => by
    show (if g = f then (g, v) :: r else (g, y) :: putF f v r).length = _
    split
    · rfl
    · rename_i c
      have h2 : (match f == g with | true => some y | false => r.lookup f) = some x := h
      rw [show (f == g) = false from Bool.eq_false_iff.mpr fun q => c (beq_iff_eq.mp q).symm] at h2
      rw [List.length_cons, List.length_cons, putF_len h2]
/-- the next word is another -/
theorem WAt.moved {C : Addr} {H : Hp} {o dx l : Addr} {fs : List (Str × V)} {ws : List Str} {ln n m : Nat} (h2 : fs.lookup ("_words" : Str) = some (.ref l)) (h3 : fs.lookup ("_line" : Str) = some (.int (ln : Nat))) (h4 : fs.lookup ("_at" : Str) = some (.int (n : Nat))) (h5 : H l = some (.lst (ws.map V.str))) (h6 : ∀ m ∈ wNames, fs.lookup m = none) (h7 : fs.length ≤ 900) (ne : l ≠ o) : WAt C (upd H o (.ins C dx (putF "_at" (.int (m : Nat)) fs))) o ws ln m := by
  have k1 : ("_words" : Str) ≠ "_at" := by decide +kernel
  have k2 : ("_line" : Str) ≠ "_at" := by decide +kernel
  refine ⟨dx, _, l, upd_same, ?_, ?_, ?_, ?_, fun q hq => ?_, ?_⟩
  · rw [lookup_putF, if_neg k1]
    exact h2
  · rw [lookup_putF, if_neg k2]
    exact h3
  · rw [lookup_putF, if_pos rfl]
  · rw [upd_ne ne]
    exact h5
  · have k3 : ∀ q ∈ wNames, q ≠ "_at" := by decide +kernel
    rw [lookup_putF, if_neg (k3 q hq)]
    exact h6 q hq
  · rw [putF_len h4]
    exact h7
theorem in_strs (z : Str) : ∀ ys : List Str, inV (.str z) (ys.map V.str) = decide (z ∈ ys)
  | [] => rfl
  | x :: r => by
    show (eqV (.str x) (.str z) || inV (.str z) (r.map V.str)) = _
    rw [in_strs z r]
    show ((x == z) || decide (z ∈ r)) = _
    rw [Bool.eq_iff_iff, Bool.or_eq_true, beq_iff_eq, decide_eq_true_eq, decide_eq_true_eq, List.mem_cons]
    exact ⟨fun h => h.imp Eq.symm id, fun h => h.imp Eq.symm id⟩
theorem flat_strs (ys : List Str) : (ys.map V.str).all flatV = true := List.all_eq_true.mpr fun v hv => by
  obtain ⟨z, _, rfl⟩ := List.mem_map.mp hv
  rfl
theorem name_above {z : Str} (h : nameB z = true) : decide ((Str.ofString "").cps.toList < z.cps.toList) = true := by
  unfold nameB at h
  have h1 := of_decide_eq_true (Bool.and_eq_true_iff.mp (Bool.and_eq_true_iff.mp h).1).1
  have e : (Str.ofString "").cps.toList = [] := by decide +kernel
  rw [e]
  have h2 : 1 ≤ z.cps.toList.length := h1
  match h3 : z.cps.toList, h2 with
  | c :: r, _ => exact decide_eq_true (List.nil_lt_cons c r)
def spMore (C : Addr) : Sp := fun vs H Q _ => ∃ (o : Addr) (ws : List Str) (ln n : Nat), vs = [.ref o] ∧ WAt C H o ws ln n ∧ Q (.bl (decide (n < ws.length))) H
def spPeek (C : Addr) : Sp := fun vs H Q _ => ∃ (o : Addr) (ws : List Str) (ln n : Nat), vs = [.ref o] ∧ WAt C H o ws ln n ∧ Q (.str (pk ws n)) H
def TextErr (CT : Addr) (H : Hp) (E : XK) (ln n : Nat) : Prop := ∀ d, H d = none → E (.ref CT) (some d) (upd H d (.xd [("word", .int (n : Nat)), ("line", .int (ln : Nat))]))
def spCk (C CT : Addr) : Sp := fun vs H Q E => ∃ (o : Addr) (ws : List Str) (ln n : Nat) (b : Bool), vs = [.ref o, .bl b] ∧ WAt C H o ws ln n ∧ ((b = true ∧ Q .non H) ∨ (b = false ∧ TextErr CT H E ln n))
def spStep (C : Addr) : Sp := fun vs H Q _ => ∃ (o : Addr) (ws : List Str) (ln n : Nat), vs = [.ref o] ∧ WAt C H o ws ln n ∧ ∀ H', But o H H' → WAt C H' o ws ln (n + 1) → Q (.str (pk ws n)) H'
def spTw (K : PySem.W.Frag) (C CT : Addr) : Sp := fun vs H Q E => ∃ (o t : Addr) (cs ws : List Str) (ln n : Nat), vs = [.ref o, .ref t] ∧ SqT K H t (cs.map V.str) ∧ WAt C H o ws ln n ∧ ((pk ws n ∈ cs ∧ ∀ H', But o H H' → WAt C H' o ws ln (n + 1) → Q (.str (pk ws n)) H') ∨ (pk ws n ∉ cs ∧ TextErr CT H E ln n))
def spTn (C CT : Addr) : Sp := fun vs H Q E => ∃ (o : Addr) (ws : List Str) (ln n : Nat), vs = [.ref o, .str ""] ∧ WAt C H o ws ln n ∧ (pk ws n).length ≤ 1000 ∧ ((nameB (pk ws n) = true ∧ ∀ H', But o H H' → WAt C H' o ws ln (n + 1) → Q (.str (pk ws n)) H') ∨ (nameB (pk ws n) = false ∧ ∀ H' d, Same H H' → H' d = none → E (.ref CT) (some d) (upd H' d (.xd [("word", .int (n : Nat)), ("line", .int (ln : Nat))]))))
def spEnd (C CT : Addr) : Sp := fun vs H Q E => ∃ (o : Addr) (ws : List Str) (ln n : Nat), vs = [.ref o] ∧ WAt C H o ws ln n ∧ ((ws.length ≤ n ∧ Q .non H) ∨ (n < ws.length ∧ TextErr CT H E ln n))
/-- the class of words -/
structure WC (K : PySem.W.Frag) (C : Addr) (fMo fPk fCk fSt fTw fTn fEn : Addr) : Prop where
  cls : Cls K C
  nW : NoAttr K C "_words"
  nL : NoAttr K C "_line"
  nA : NoAttr K C "_at"
  m_more : Meth K C "more" fMo
  m_peek : Meth K C "peek" fPk
  m_check : Meth K C "check" fCk
  m_step : Meth K C "step" fSt
  m_take_word : Meth K C "take_word" fTw
  m_take_name : Meth K C "take_name" fTn
  m_end : Meth K C "end" fEn
section
variable {P : Program} {w : World} {K : PySem.W.Frag} {mg : Str → Option Value} {base : Heap} {C CT fMo fPk fCk fSt fTw fTn fEn : Addr}
theorem scBT : FnScope ["self", "line", "word"] ["self", "line", "word"] (defScope sBadText0) := ⟨rfl, rfl, rfl, by decide +kernel, rfl, by decide +kernel, by decide +kernel⟩
theorem ok_badtext {f : Addr} {fd : FuncData} (F : Fun K "__init__" "BadText.__init__" sBadText0 f fd) : FnOk P w K mg base CX0 1 f fd ["self", "line", "word"] (OwE.spErr2 K "line" "word") := by
  refine F.ok scBT (fun vs H Q E h => ?_) (fun cdv A outer s H vs Q E hr h => ?_)
  · obtain ⟨a, C, v, u, rfl, _⟩ := h
    rfl
  · obtain ⟨a, C, v, u, rfl, T, hf, hg, ha, k⟩ := h
    refine ⟨_, (pss_cons (ps_ost (pv 0) (pv 1)) (pss_one (ps_ost (pv 0) (pv 2)))), ?_⟩
    refine ⟨_, rfl, _, rfl, a, C, rfl, T, hf, .inl ⟨ha, fun dx h1 h2 => ?_⟩⟩
    refine ⟨_, rfl, _, rfl, a, C, rfl, T, hg, .inr ⟨dx, _, upd_same, by rw [upd_ne h2, upd_same], by show (1 : Nat) ≤ 900; decide, ?_⟩⟩
    have e : upd (upd (upd H dx (exd dx [("line", v)])) a (exo a C (some dx))) dx (exd dx [("word", u), ("line", v)]) = upd (upd H dx (exd dx [("word", u), ("line", v)])) a (exo a C (some dx)) := by
      funext b
      by_cases e1 : b = dx
      · rw [e1, upd_same, upd_ne h2, upd_same]
      · rw [upd_ne e1]
        by_cases e2 : b = a
        · rw [e2, upd_same, upd_same]
        · rw [upd_ne e2, upd_ne e1, upd_ne e2, upd_ne e1]
    rw [e]
    exact k dx h1 h2
abbrev nWMo : List Str := ["self"]
theorem scWMo : FnScope nWMo ["self"] (defScope sWMore) := ⟨rfl, rfl, rfl, by decide +kernel, rfl, by decide +kernel, by decide +kernel⟩
theorem ok_WMore {fd : FuncData} (W : WC K C fMo fPk fCk fSt fTw fTn fEn) (F : Fun K "more" "Words.more" sWMore fMo fd) (n_len : mg "len" = none) : FnOk P w K mg base CX0 1 fMo fd ["self"] (spMore C) := by
  refine F.ok scWMo (fun vs H Q E h => ?_) (fun cdv A outer s H vs Q E hr h => ?_)
  · obtain ⟨o, ws, ln, n, rfl, _⟩ := h
    rfl
  · obtain ⟨o, ws, ln, n, rfl, ⟨dx, fs, l, h1, h2, h3, h4, h5, h6, h7⟩, q⟩ := h
    refine ⟨_, (pss_one (ps_ret (pe_cmpR op_lt (pe_fld (pv 0) rfl) (pe_callB call_len_seq (by rfl) n_len boot_len (pa_cons (pe_fld (pv 0) rfl) pa_nil)) (nomark _)))), ?_⟩
    refine ⟨_, rfl, o, C, dx, fs, _, rfl, h1, W.cls, W.nA, h4, _, rfl, o, C, dx, fs, _, rfl, h1, W.cls, W.nW, h2, l, _, rfl, .inl (SqL.of h5), ?_⟩
    rw [List.length_map]
    refine ⟨_, _, rfl, rfl, ?_⟩
    show Q (.bl (decide (((n : Nat) : Int) < ((ws.length : Nat) : Int)))) H
    rw [show decide (((n : Nat) : Int) < ((ws.length : Nat) : Int)) = decide (n < ws.length) from decide_eq_decide.mpr (by omega)]
    exact q
abbrev nWPk : List Str := ["self"]
theorem scWPk : FnScope nWPk ["self"] (defScope sWPeek) := ⟨rfl, rfl, rfl, by decide +kernel, rfl, by decide +kernel, by decide +kernel⟩
theorem ok_WPeek {fd fdMo : FuncData} (W : WC K C fMo fPk fCk fSt fTw fTn fEn) (F : Fun K "peek" "Words.peek" sWPeek fPk fd) (FM : Fun K "more" "Words.more" sWMore fMo fdMo) (n_len : mg "len" = none) : FnOk P w K mg base CX0 2 fPk fd ["self"] (spPeek C) := by
  have G_more : FnOk P w K mg base CX0 1 fMo fdMo ["self"] (spMore C) := ok_WMore W FM n_len
  have b_more : Binds K fdMo ["self"] [] := FM.binds fun _ _ _ _ _ _ us hl => match us, hl with | [_], _ => rfl
  refine F.ok scWPk (fun vs H Q E h => ?_) (fun cdv A outer s H vs Q E hr h => ?_)
  · obtain ⟨o, ws, ln, n, rfl, _⟩ := h
    rfl
  · obtain ⟨o, ws, ln, n, rfl, wa, q⟩ := h
    have h_more : Room 1 _ := hr
    obtain ⟨dx, fs, l, h1, h2, h3, h4, h5, h6, h7⟩ := id wa
    refine ⟨_, (pss_one (ps_ret (pe_ifExp (pt_val (pe_meth0 (pv 0) W.cls W.m_more G_more h_more b_more .nil pass0)) (pe_ix ix_list (pe_fld (pv 0) rfl) (pe_fld (pv 0) rfl) (fun _ _ => rfl)) pe_str))), ?_⟩
    refine ⟨_, rfl, o, dx, fs, rfl, h1, h6 _ (by decide), o, ws, ln, n, rfl, wa, _, rfl, ?_⟩
    refine ite2 (fun c => ?_) (fun c => ?_)
    · have c : n < ws.length := of_decide_eq_true c
      refine ⟨_, rfl, o, C, dx, fs, _, rfl, h1, W.cls, W.nW, h2, _, rfl, o, C, dx, fs, _, rfl, h1, W.cls, W.nA, h4, l, _, _, _, rfl, rfl, SqL.of h5, atI_nat (j := n) (by rw [List.getElem?_map, List.getElem?_eq_getElem c]; rfl), ?_⟩
      have e : pk ws n = ws[n] := by
        unfold pk
        rw [List.getD_eq_getElem?_getD, List.getElem?_eq_getElem c]
        rfl
      rw [← e]
      exact q
    · have c : ws.length ≤ n := by
        rcases Nat.lt_or_ge n ws.length with h | h
        · exact absurd (decide_eq_true h) c
        · exact h
      have e : pk ws n = "" := by
        unfold pk
        rw [List.getD_eq_getElem?_getD, List.getElem?_eq_none c]
        rfl
      rw [e] at q
      exact q
abbrev nWCk : List Str := ["self", "good"]
theorem scWCk : FnScope nWCk ["self", "good"] (defScope sWCheck) := ⟨rfl, rfl, rfl, by decide +kernel, rfl, by decide +kernel, by decide +kernel⟩
theorem ok_WCheck {fK : Addr} {fd fdK : FuncData} (W : WC K C fMo fPk fCk fSt fTw fTn fEn) (F : Fun K "check" "Words.check" sWCheck fCk fd) (TK : ErrT K mg "BadText" CT fK) (hl : PySem.W.findIn K (.ref CT) "line" = some none) (hw : PySem.W.findIn K (.ref CT) "word" = some none) (FK : Fun K "__init__" "BadText.__init__" sBadText0 fK fdK) : FnOk P w K mg base (L2.CX P w) 3 fCk fd ["self", "good"] (spCk C CT) := by
  have GK : FnOk P w K mg base CX0 1 fK fdK ["self", "line", "word"] (OwE.spErr2 K "line" "word") := ok_badtext FK
  have bK : Binds K fdK ["self", "line", "word"] [] := FK.binds fun _ _ _ _ _ _ us hl => match us, hl with | [_, _, _], _ => rfl
  refine F.okX scWCk (fun vs H Q E h => ?_) (fun cdv A outer s H vs Q E hr h => ?_)
  · obtain ⟨o, ws, ln, n, b, rfl, _⟩ := h
    rfl
  · obtain ⟨o, ws, ln, n, b, rfl, ⟨dx, fs, l, h1, h2, h3, h4, h5, h6, h7⟩, h⟩ := h
    have hr2 : Room 2 _ := hr
    refine ⟨_, (pss_one (ps_if (pt_not (pt_val (pv 1))) (pss_one (ps_raise rfl (takes_of rfl rfl rfl rfl) (pmk_oex TK.er.ox TK.ini TK.ty GK hr2 bK .nil pass0 (by rfl) TK.g (pa_cons (pe_fld (pv 0) rfl) (pa_cons (pe_fld (pv 0) rfl) pa_nil))))) pss_nil)), ?_⟩
    rcases h with ⟨rfl, q⟩ | ⟨rfl, q⟩
    · exact ⟨_, rfl, _, rfl, iteF q⟩
    · refine ⟨_, rfl, _, rfl, iteT ?_⟩
      refine ⟨_, rfl, o, C, dx, fs, _, rfl, h1, W.cls, W.nL, h3, _, rfl, o, C, dx, fs, _, rfl, h1, W.cls, W.nA, h4, OwE.mk_err2 TK.er.ox hl hw fun d hd => q d hd⟩
abbrev nWSt : List Str := ["self", "word"]
theorem scWSt : FnScope nWSt ["self"] (defScope sWStep) := ⟨rfl, rfl, rfl, by decide +kernel, rfl, by decide +kernel, by decide +kernel⟩
theorem ok_WStep {fd fdPk : FuncData} (W : WC K C fMo fPk fCk fSt fTw fTn fEn) (F : Fun K "step" "Words.step" sWStep fSt fd) (FP : Fun K "peek" "Words.peek" sWPeek fPk fdPk) (G_peek : FnOk P w K mg base CX0 2 fPk fdPk ["self"] (spPeek C)) : FnOk P w K mg base CX0 3 fSt fd ["self"] (spStep C) := by
  have b_peek : Binds K fdPk ["self"] [] := FP.binds fun _ _ _ _ _ _ us hl => match us, hl with | [_], _ => rfl
  refine F.ok scWSt (fun vs H Q E h => ?_) (fun cdv A outer s H vs Q E hr h => ?_)
  · obtain ⟨o, ws, ln, n, rfl, _⟩ := h
    rfl
  · obtain ⟨o, ws, ln, n, rfl, wa, q⟩ := h
    have h_peek : Room 2 _ := hr
    obtain ⟨dx, fs, l, h1, h2, h3, h4, h5, h6, h7⟩ := id wa
    refine ⟨_, (pss_cons (ps_set (i := 1) scWSt.nd rfl (Or.inl rfl) (pe_meth0 (pv 0) W.cls W.m_peek G_peek h_peek b_peek .nil pass0))
    (pss_cons (ps_fld (pv 0) (pe_op op_add (pe_fld (pv 0) rfl) pe_int) rfl)
    (pss_one (ps_ret (pv 1))))), ?_⟩
    refine ⟨_, rfl, o, dx, fs, rfl, h1, h6 _ (by decide), o, ws, ln, n, rfl, wa, ?_⟩
    refine ⟨_, rfl, o, C, dx, fs, _, rfl, h1, W.cls, W.nA, h4, _, _, rfl, rfl, ?_⟩
    refine ⟨_, rfl, o, C, dx, fs, rfl, h1, W.cls, W.nA, by omega, ?_⟩
    refine ⟨_, rfl, q _ But.at ?_⟩
    have ne : l ≠ o := fun e => by
      rw [e, h1] at h5
      cases h5
    exact WAt.moved (m := n + 1) h2 h3 h4 h5 h6 h7 ne
abbrev nWTw : List Str := ["self", "choices"]
theorem scWTw : FnScope nWTw ["self", "choices"] (defScope sWTw) := ⟨rfl, rfl, rfl, by decide +kernel, rfl, by decide +kernel, by decide +kernel⟩
theorem ok_WTw {fd fdPk fdCk fdSt : FuncData} (W : WC K C fMo fPk fCk fSt fTw fTn fEn) (F : Fun K "take_word" "Words.take_word" sWTw fTw fd) (FP : Fun K "peek" "Words.peek" sWPeek fPk fdPk) (G_peek : FnOk P w K mg base CX0 2 fPk fdPk ["self"] (spPeek C)) (FC : Fun K "check" "Words.check" sWCheck fCk fdCk) (G_check : FnOk P w K mg base (L2.CX P w) 3 fCk fdCk ["self", "good"] (spCk C CT)) (FS : Fun K "step" "Words.step" sWStep fSt fdSt) (G_step : FnOk P w K mg base CX0 3 fSt fdSt ["self"] (spStep C)) :
    FnOk P w K mg base (L2.CX P w) 4 fTw fd ["self", "choices"] (spTw K C CT) := by
  have b_peek : Binds K fdPk ["self"] [] := FP.binds fun _ _ _ _ _ _ us hl => match us, hl with | [_], _ => rfl
  have b_check : Binds K fdCk ["self", "good"] [] := FC.binds fun _ _ _ _ _ _ us hl => match us, hl with | [_, _], _ => rfl
  have b_step : Binds K fdSt ["self"] [] := FS.binds fun _ _ _ _ _ _ us hl => match us, hl with | [_], _ => rfl
  refine F.okX scWTw (fun vs H Q E h => ?_) (fun cdv A outer s H vs Q E hr h => ?_)
  · obtain ⟨o, t, cs, ws, ln, n, rfl, _⟩ := h
    rfl
  · obtain ⟨o, t, cs, ws, ln, n, rfl, ht, wa, h⟩ := h
    have h_check : Room 3 _ := hr
    have h_step : Room 3 _ := hr
    have h_peek := h_step.mono (show 2 ≤ 3 by decide)
    obtain ⟨dx, fs, l, h1, h2, h3, h4, h5, h6, h7⟩ := id wa
    refine ⟨_, (pss_cons (ps_expr (pe_meth (pv 0) W.cls W.m_check G_check h_check b_check .nil (passes_call (takes_of rfl rfl rfl rfl) (fun _ _ _ _ h => h)) (pa_cons (pe_cmpR op_in_seq (pe_meth0 (pv 0) W.cls W.m_peek G_peek h_peek b_peek .nil pass0) (pv 1) (by rfl)) pa_nil)))
    (pss_one (ps_ret (pe_meth0 (pv 0) W.cls W.m_step G_step h_step b_step .nil pass0)))), ?_⟩
    refine ⟨_, rfl, o, dx, fs, rfl, h1, h6 _ (by decide), _, rfl, o, dx, fs, rfl, h1, h6 _ (by decide), o, ws, ln, n, rfl, wa, _, rfl, ?_⟩
    have iv : inV (.str (pk ws n)) (cs.map V.str) = decide (pk ws n ∈ cs) := in_strs _ _
    refine ⟨t, _, rfl, .inr ht, rfl, flat_strs cs, ?_⟩
    show ∃ o1 ws1 ln1 n1 b, _ ∧ _
    rcases h with ⟨m, q⟩ | ⟨m, q⟩
    · refine ⟨o, ws, ln, n, true, ?_, wa, .inl ⟨rfl, ?_⟩⟩
      · show [V.ref o, V.bl (inV (.str (pk ws n)) (cs.map V.str))] = _
        rw [iv, decide_eq_true m]
      refine ⟨_, rfl, o, dx, fs, rfl, h1, h6 _ (by decide), o, ws, ln, n, rfl, wa, q⟩
    · refine ⟨o, ws, ln, n, false, ?_, wa, .inr ⟨rfl, q⟩⟩
      show [V.ref o, V.bl (inV (.str (pk ws n)) (cs.map V.str))] = _
      rw [iv, decide_eq_false m]
abbrev nWEn : List Str := ["self"]
theorem scWEn : FnScope nWEn ["self"] (defScope sWEnd) := ⟨rfl, rfl, rfl, by decide +kernel, rfl, by decide +kernel, by decide +kernel⟩
theorem ok_WEnd {fd fdMo fdCk : FuncData} (W : WC K C fMo fPk fCk fSt fTw fTn fEn) (F : Fun K "end" "Words.end" sWEnd fEn fd) (FM : Fun K "more" "Words.more" sWMore fMo fdMo) (n_len : mg "len" = none) (FC : Fun K "check" "Words.check" sWCheck fCk fdCk) (G_check : FnOk P w K mg base (L2.CX P w) 3 fCk fdCk ["self", "good"] (spCk C CT)) :
    FnOk P w K mg base (L2.CX P w) 4 fEn fd ["self"] (spEnd C CT) := by
  have G_more : FnOk P w K mg base CX0 1 fMo fdMo ["self"] (spMore C) := ok_WMore W FM n_len
  have b_more : Binds K fdMo ["self"] [] := FM.binds fun _ _ _ _ _ _ us hl => match us, hl with | [_], _ => rfl
  have b_check : Binds K fdCk ["self", "good"] [] := FC.binds fun _ _ _ _ _ _ us hl => match us, hl with | [_, _], _ => rfl
  refine F.okX scWEn (fun vs H Q E h => ?_) (fun cdv A outer s H vs Q E hr h => ?_)
  · obtain ⟨o, ws, ln, n, rfl, _⟩ := h
    rfl
  · obtain ⟨o, ws, ln, n, rfl, wa, h⟩ := h
    have h_check : Room 3 _ := hr
    have h_more := h_check.mono (show 1 ≤ 3 by decide)
    obtain ⟨dx, fs, l, h1, h2, h3, h4, h5, h6, h7⟩ := id wa
    refine ⟨_, (pss_one (ps_expr (pe_meth (pv 0) W.cls W.m_check G_check h_check b_check .nil (passes_call (takes_of rfl rfl rfl rfl) (fun _ _ _ _ h => h)) (pa_cons (pe_not (pe_meth0 (pv 0) W.cls W.m_more G_more h_more b_more .nil pass0)) pa_nil)))), ?_⟩
    refine ⟨_, rfl, o, dx, fs, rfl, h1, h6 _ (by decide), _, rfl, o, dx, fs, rfl, h1, h6 _ (by decide), o, ws, ln, n, rfl, wa, _, rfl, ?_⟩
    rcases h with ⟨m, q⟩ | ⟨m, q⟩
    · rw [decide_eq_false (Nat.not_lt.mpr m)]
      exact ⟨o, ws, ln, n, true, rfl, wa, .inl ⟨rfl, q⟩⟩
    · rw [decide_eq_true m]
      exact ⟨o, ws, ln, n, false, rfl, wa, .inr ⟨rfl, q⟩⟩
abbrev nWTn : List Str := ["self", "above"]
theorem scWTn : FnScope nWTn ["self", "above"] (defScope sWTn) := ⟨rfl, rfl, rfl, by decide +kernel, rfl, by decide +kernel, by decide +kernel⟩
theorem ok_WTn {fN : Addr} {fd fdPk fdCk fdSt fdN : FuncData} (W : WC K C fMo fPk fCk fSt fTw fTn fEn) (F : FunD K "take_name" "Words.take_name" (defArgs sWTn) (defBody sWTn) (defScope sWTn) [.str ""] [] fTn fd) (FP : Fun K "peek" "Words.peek" sWPeek fPk fdPk) (G_peek : FnOk P w K mg base CX0 2 fPk fdPk ["self"] (spPeek C)) (FC : Fun K "check" "Words.check" sWCheck fCk fdCk) (G_check : FnOk P w K mg base (L2.CX P w) 3 fCk fdCk ["self", "good"] (spCk C CT)) (FS : Fun K "step" "Words.step" sWStep fSt fdSt) (G_step : FnOk P w K mg base CX0 3 fSt fdSt ["self"] (spStep C))
    (FN : Fun K "is_name" "is_name" sName fN fdN) (gN : mg "is_name" = some (.ref fN)) (N2 : Nm2 mg) : FnOk P w K mg base (L2.CX P w) 4 fTn fd ["self", "above"] (spTn C CT) := by
  have GN : FnOk P w K mg base CX0 1 fN fdN ["value"] (spName K) := ok_name FN N2
  have bN : Binds K fdN ["value"] [] := FN.binds fun _ _ _ _ _ _ us hl => match us, hl with | [_], _ => rfl
  have b_peek : Binds K fdPk ["self"] [] := FP.binds fun _ _ _ _ _ _ us hl => match us, hl with | [_], _ => rfl
  have b_check : Binds K fdCk ["self", "good"] [] := FC.binds fun _ _ _ _ _ _ us hl => match us, hl with | [_, _], _ => rfl
  have b_step : Binds K fdSt ["self"] [] := FS.binds fun _ _ _ _ _ _ us hl => match us, hl with | [_], _ => rfl
  refine F.ok (CX := L2.CX P w) scWTn (fun vs H Q E h => ?_) (fun cdv A outer s H vs Q E hr h => ?_)
  · obtain ⟨o, ws, ln, n, rfl, _⟩ := h
    rfl
  · obtain ⟨o, ws, ln, n, rfl, wa, lw, h⟩ := h
    have h_check : Room 3 _ := hr
    have h_step : Room 3 _ := hr
    have h_peek := h_step.mono (show 2 ≤ 3 by decide)
    have hr1 := h_step.mono (show 1 ≤ 3 by decide)
    obtain ⟨dx, fs, l, h1, h2, h3, h4, h5, h6, h7⟩ := id wa
    refine ⟨_, (pss_cons (ps_expr (pe_meth (pv 0) W.cls W.m_check G_check h_check b_check .nil (passes_call (takes_of rfl rfl rfl rfl) (fun _ _ _ _ h => h)) (pa_cons (pe_and (pe_call GN hr1 (by rfl) gN FN.kp bN .nil pass0 (pa_cons (pe_meth0 (pv 0) W.cls W.m_peek G_peek h_peek b_peek .nil pass0) pa_nil)) (pe_one (pe_cmpR op_gt_str (pe_meth0 (pv 0) W.cls W.m_peek G_peek h_peek b_peek .nil pass0) (pv 1) (nomark _)))) pa_nil)))
    (pss_one (ps_ret (pe_meth0 (pv 0) W.cls W.m_step G_step h_step b_step .nil pass0)))), ?_⟩
    refine ⟨_, rfl, o, dx, fs, rfl, h1, h6 _ (by decide), _, rfl, o, dx, fs, rfl, h1, h6 _ (by decide), o, ws, ln, n, rfl, wa, _, rfl, .inl ⟨_, rfl, lw, fun H1 s1 => ?_⟩⟩
    rcases h with ⟨m, q⟩ | ⟨m, q⟩
    · rw [m]
      refine ⟨true, rfl, iteT ?_⟩
      refine ⟨_, rfl, o, dx, fs, rfl, s1 _ _ h1, h6 _ (by decide), o, ws, ln, n, rfl, wa.same s1, _, rfl, _, _, rfl, rfl, ?_⟩
      have ab : decide ((Str.ofString "").cps.toList < (pk ws n).cps.toList) = true := name_above m
      rw [ab]
      refine ⟨o, ws, ln, n, true, rfl, wa.same s1, .inl ⟨rfl, ?_⟩⟩
      exact ⟨_, rfl, o, dx, fs, rfl, s1 _ _ h1, h6 _ (by decide), o, ws, ln, n, rfl, wa.same s1, fun H' b w => q H' ((Same.but o s1).trans b) w⟩
    · rw [m]
      refine ⟨false, rfl, iteF ?_⟩
      exact ⟨o, ws, ln, n, false, rfl, wa.same s1, .inr ⟨rfl, fun d hd => q _ d s1 hd⟩⟩
end
end K10
end
section
set_option pp.maxSteps 400
set_option pp.deepTerms.threshold 6
/-! Numbers among words. -/
namespace K10
open PySem PySem.Spec PyProof.Rows L2
abbrev sNum : Stmt := top 14
abbrev sWNu : Stmt := mth 15 8
/-- a number without signs and needless zeros, of at most 60 digits -/
def numB (z : Str) : Bool := (Txt.isascii z && Txt.isdigit z) && (decide (z.length ≤ 60) && !(decide (z.cps.toList.head? = some 48) && decide (1 < z.length)))
def numN (z : Str) : Nat := NumText.digitsVal z.cps.toList
def numO (z : Str) : Option Nat := if numB z = true then some (numN z) else none
def optN (o : Option Nat) : V := match o with
  | none => .non
  | some n => .int (n : Nat)
theorem digit_codes : ∀ c : Nat, c < 128 → Unicode.isDigit c = (decide (48 ≤ c) && decide (c ≤ 57)) := by decide +kernel
theorem ascii_digits {z : Str} (h : (Txt.isascii z && Txt.isdigit z) = true) : (z.cps.toList.all fun c => decide (48 ≤ c) && decide (c ≤ 57)) = true ∧ z.cps.toList ≠ [] := by
  obtain ⟨h1, h2⟩ := Bool.and_eq_true_iff.mp h
  unfold Txt.isdigit at h2
  obtain ⟨h3, h4⟩ := Bool.and_eq_true_iff.mp h2
  have h1 : z.cps.all (· < 128) = true := h1
  rw [← Array.all_toList] at h1 h4
  refine ⟨List.all_eq_true.mpr fun c hc => ?_, fun e => ?_⟩
  · rw [← digit_codes c (of_decide_eq_true (List.all_eq_true.mp h1 c hc))]
    exact List.all_eq_true.mp h4 c hc
  · have := of_decide_eq_true h3
    have l : z.length = z.cps.toList.length := by simp [Str.length]
    rw [l, e] at this
    exact absurd this (Nat.lt_irrefl 0)
theorem int_of_num {z : Str} (h : (Txt.isascii z && Txt.isdigit z) = true) (l : z.length ≤ 60) : intText? z = some ((numN z : Nat) : Int) := by
  obtain ⟨a, b⟩ := ascii_digits h
  have l2 : z.length = z.cps.toList.length := by simp [Str.length]
  have := SX.int_S a b (by omega)
  rw [SX.S_tl] at this
  exact this
def spNum : Sp := fun vs H Q _ => ∃ z : Str, vs = [.str z] ∧ z.length ≤ 1000 ∧ Q (optN (numO z)) H
/-- from a on, to b if there is one -/
def inB (a : Int) (b : Option Int) (k : Nat) : Bool := decide (a ≤ k) && (match b with | none => true | some b => decide ((k : Int) ≤ b))
def optI2 (b : Option Int) : V := match b with
  | none => .non
  | some b => .int b
def spNu (C CT : Addr) : Sp := fun vs H Q E => ∃ (o : Addr) (ws : List Str) (ln n : Nat) (a : Int) (b : Option Int), vs = [.ref o, .int a, optI2 b] ∧ WAt C H o ws ln n ∧ (pk ws n).length ≤ 1000 ∧
  ((∃ k : Nat, numO (pk ws n) = some k ∧ inB a b k = true ∧ ∀ H', But o H H' → WAt C H' o ws ln (n + 1) → Q (.int (k : Nat)) H') ∨ ((∀ k, numO (pk ws n) = some k → inB a b k = false) ∧ TextErr CT H E ln n))
section
variable {P : Program} {w : World} {K : PySem.W.Frag} {mg : Str → Option Value} {base : Heap} {C CT fMo fPk fCk fSt fTw fTn fEn : Addr}
abbrev nNum : List Str := ["word"]
theorem scNum : FnScope nNum ["word"] (defScope sNum) := ⟨rfl, rfl, rfl, by decide +kernel, rfl, by decide +kernel, by decide +kernel⟩
theorem ok_num {f : Addr} {fd : FuncData} (F : Fun K "number_of" "number_of" sNum f fd) (n_len : mg "len" = none) (n_int : mg "int" = none) : FnOk P w K mg base CX0 1 f fd ["word"] spNum := by
  refine F.ok scNum (fun vs H Q E h => ?_) (fun cdv A outer s H vs Q E hr h => ?_)
  · obtain ⟨z, rfl, _⟩ := h
    rfl
  · obtain ⟨z, rfl, lz, q⟩ := h
    refine ⟨_, (pss_cons (ps_if (PW.pt (pw_or (pt_not (PW.pt (pw_and (pt_val (pe_m0 PySem.F.slot_str_isascii PySem.F.type_str_isascii mt_isascii (pv 0))) (pw_and1 (pt_val (pe_m0 PySem.F.slot_str_isdigit PySem.F.type_str_isdigit mt_isdigit (pv 0))))))) (pw_or1 (pt_cmpR op_gt (pe_callB call_len (by rfl) n_len boot_len (pa_cons (pv 0) pa_nil)) pe_int (nomark _))))) (pss_one (ps_ret pe_non)) pss_nil)
    (pss_cons (ps_if (PW.pt (pw_and (pt_cmpR op_eq (pe_ix ix_str (pv 0) pe_int (fun _ _ => rfl)) pe_str (nomark _)) (pw_and1 (pt_cmpR op_gt (pe_callB call_len (by rfl) n_len boot_len (pa_cons (pv 0) pa_nil)) pe_int (nomark _))))) (pss_one (ps_ret pe_non)) pss_nil)
    (pss_one (ps_ret (pe_callTy call_int_str (by rfl) n_int (by decide +kernel) (pa_cons (pv 0) pa_nil)))))), ?_⟩
    have sz := sizeLine_eq
    have hz2 : z.length ≤ sizeLine := by omega
    have bad : numB z = false → Q .non H := fun e => by
      have e2 : optN (numO z) = .non := by
        unfold numO
        rw [if_neg (by rw [e]; decide)]
        rfl
      rw [← e2]
      exact q
    refine ⟨_, rfl, ⟨_, rfl⟩, z, rfl, rfl, trivial, _, rfl, ?_⟩
    cases c1 : Txt.isascii z with
    | false => exact iteF (iteT (iteT (bad (by unfold numB; rw [c1]; rfl))))
    | true =>
      refine iteT ?_
      refine ⟨_, rfl, ⟨_, rfl⟩, z, rfl, rfl, trivial, _, rfl, ?_⟩
      cases c2 : Txt.isdigit z with
      | false => exact iteT (iteT (bad (by unfold numB; rw [c1, c2]; rfl)))
      | true =>
        refine iteF ?_
        refine ⟨_, rfl, .str z, z.length, rfl, ⟨hz2, rfl⟩, _, _, rfl, rfl, _, rfl, ?_⟩
        have c12 : (Txt.isascii z && Txt.isdigit z) = true := by rw [c1, c2]; rfl
        refine ite2 (fun c3 => ?_) (fun c3 => ?_)
        · refine bad ?_
          unfold numB
          have c3 := of_decide_eq_true c3
          rw [show decide (z.length ≤ 60) = false from decide_eq_false (by omega), Bool.false_and, Bool.and_false]
        · have c3 : z.length ≤ 60 := by
            rcases Nat.lt_or_ge 60 z.length with h | h
            · exact absurd (decide_eq_true (show (60 : Int) < ((z.length : Nat) : Int) by omega)) c3
            · exact h
          obtain ⟨a1, a2⟩ := ascii_digits c12
          obtain ⟨d, r, el⟩ : ∃ d r, z.cps.toList = d :: r := by
            match h : z.cps.toList, a2 with
            | d :: r, _ => exact ⟨d, r, rfl⟩
          have la : z.length = z.cps.toList.length := by simp [Str.length]
          refine ⟨_, rfl, z, 0, d, rfl, rfl, hz2, by rw [el]; exact atI_nat (j := 0) rfl, ?_⟩
          refine ⟨rfl, _, rfl, ?_⟩
          have eh : decide (V.str ⟨#[d]⟩ = V.str (Str.ofString "0")) = decide (z.cps.toList.head? = some 48) := by
            rw [el]
            refine decide_eq_decide.mpr ⟨fun e => ?_, fun e => ?_⟩
            · have e := V.str.inj e
              have : (⟨#[d]⟩ : Str).cps.toList = (Str.ofString "0").cps.toList := congrArg (fun x : Str => x.cps.toList) e
              have e0 : (Str.ofString "0").cps.toList = [48] := by decide +kernel
              rw [e0] at this
              exact congrArg List.head? this
            · have e : d = 48 := Option.some.inj e
              rw [e]
              exact congrArg V.str (by decide +kernel)
          rw [eh]
          have fin : numB z = true → tRet (tCB (fun xs H Q => ∃ a n, xs = [.str a] ∧ intText? a = some n ∧ a.length ≤ 640 ∧ Q (.int n) H) (tCons (tVar 0) tNil)) { nx := fun x H' => Q V.non H', rt := Q } (L2.start nNum [V.str z]) H := fun e => by
            refine ⟨_, rfl, z, _, rfl, int_of_num c12 c3, by omega, ?_⟩
            have e2 : optN (numO z) = .int ((numN z : Nat) : Int) := by
              unfold numO
              rw [if_pos e]
              rfl
            show Q (.int ((numN z : Nat) : Int)) H
            rw [← e2]
            exact q
          cases c4 : decide (z.cps.toList.head? = some 48) with
          | false =>
            refine iteF ?_
            refine iteF (fin ?_)
            unfold numB
            rw [c12, c4, decide_eq_true c3]
            rfl
          | true =>
            refine iteT ?_
            refine ⟨_, rfl, .str z, z.length, rfl, ⟨hz2, rfl⟩, _, _, rfl, rfl, _, rfl, ?_⟩
            refine ite2 (fun c5 => ?_) (fun c5 => ?_)
            · refine bad ?_
              have c5 : 1 < z.length := by
                have := of_decide_eq_true c5
                omega
              unfold numB
              rw [c12, c4, decide_eq_true c3, decide_eq_true c5]
              rfl
            · refine fin ?_
              have c5 : ¬ 1 < z.length := fun h => c5 (decide_eq_true (show (1 : Int) < ((z.length : Nat) : Int) by omega))
              unfold numB
              rw [c12, c4, decide_eq_true c3, decide_eq_false c5]
              rfl
abbrev nNu : List Str := ["self", "least", "most", "number"]
theorem scNu : FnScope nNu ["self", "least", "most"] (defScope sWNu) := ⟨rfl, rfl, rfl, by decide +kernel, rfl, by decide +kernel, by decide +kernel⟩
theorem ok_WNu {f : Addr} {fd fdPk fdCk fdSt fdN : FuncData} {fN : Addr} (W : WC K C fMo fPk fCk fSt fTw fTn fEn) (F : FunD K "take_number" "Words.take_number" (defArgs sWNu) (defBody sWNu) (defScope sWNu) [.non] [] f fd) (FP : Fun K "peek" "Words.peek" sWPeek fPk fdPk) (G_peek : FnOk P w K mg base CX0 2 fPk fdPk ["self"] (spPeek C)) (FC : Fun K "check" "Words.check" sWCheck fCk fdCk) (G_check : FnOk P w K mg base (L2.CX P w) 3 fCk fdCk ["self", "good"] (spCk C CT)) (FS : Fun K "step" "Words.step" sWStep fSt fdSt) (G_step : FnOk P w K mg base CX0 3 fSt fdSt ["self"] (spStep C))
    (F_num : Fun K "number_of" "number_of" sNum fN fdN) (g_num : mg "number_of" = some (.ref fN)) (n_len : mg "len" = none) (n_int : mg "int" = none) : FnOk P w K mg base (L2.CX P w) 4 f fd ["self", "least", "most"] (spNu C CT) := by
  have G_num : FnOk P w K mg base CX0 1 fN fdN ["word"] spNum := ok_num F_num n_len n_int
  have b_num : Binds K fdN ["word"] [] := F_num.binds fun _ _ _ _ _ _ us hl => match us, hl with | [_], _ => rfl
  have b_peek : Binds K fdPk ["self"] [] := FP.binds fun _ _ _ _ _ _ us hl => match us, hl with | [_], _ => rfl
  have b_check : Binds K fdCk ["self", "good"] [] := FC.binds fun _ _ _ _ _ _ us hl => match us, hl with | [_, _], _ => rfl
  have b_step : Binds K fdSt ["self"] [] := FS.binds fun _ _ _ _ _ _ us hl => match us, hl with | [_], _ => rfl
  refine F.ok (CX := L2.CX P w) scNu (fun vs H Q E h => ?_) (fun cdv A outer s H vs Q E hr h => ?_)
  · obtain ⟨o, ws, ln, n, a, b, rfl, _⟩ := h
    rfl
  · obtain ⟨o, ws, ln, n, a, b, rfl, wa, lw, h⟩ := h
    have h_check : Room 3 _ := hr
    have h_step : Room 3 _ := hr
    have h_peek := h_step.mono (show 2 ≤ 3 by decide)
    have hr1 := h_step.mono (show 1 ≤ 3 by decide)
    obtain ⟨dx, fs, l, h1, h2, h3, h4, h5, h6, h7⟩ := id wa
    refine ⟨_, (pss_cons (ps_set (i := 3) scNu.nd rfl (Or.inl rfl) (pe_call G_num hr1 (by rfl) g_num F_num.kp b_num .nil pass0 (pa_cons (pe_meth0 (pv 0) W.cls W.m_peek G_peek h_peek b_peek .nil pass0) pa_nil)))
    (pss_cons (ps_expr (pe_meth (pv 0) W.cls W.m_check G_check h_check b_check .nil (passes_call (takes_of rfl rfl rfl rfl) (fun _ _ _ _ h => h)) (pa_cons (pe_and (pe_cmpR op_notN (pv 3) pe_non (nomark _)) (pe_and (pe_cmpR op_le (pv 1) (pv 3) (nomark _)) (pe_one (pe_or (pe_cmpR op_isN (pv 2) pe_non (nomark _)) (pe_one (pe_cmpR op_le (pv 3) (pv 2) (nomark _))))))) pa_nil)))
    (pss_cons (ps_expr (pe_meth0 (pv 0) W.cls W.m_step G_step h_step b_step .nil pass0))
    (pss_one (ps_ret (pv 3)))))), ?_⟩
    refine ⟨_, rfl, o, dx, fs, rfl, h1, h6 _ (by decide), o, ws, ln, n, rfl, wa, _, rfl, lw, ?_⟩
    have opt : numO (pk ws n) = none ∨ ∃ k, numO (pk ws n) = some k := by
      cases numO (pk ws n) with
      | none => exact .inl rfl
      | some k => exact .inr ⟨k, rfl⟩
    rcases opt with e | ⟨k, e⟩
    · rw [e]
      have te : TextErr CT H E ln n := by
        rcases h with ⟨k, e2, _⟩ | ⟨_, q⟩
        · rw [e] at e2
          cases e2
        · exact q
      refine ⟨_, rfl, o, dx, fs, rfl, h1, h6 _ (by decide), ?_⟩
      refine ⟨_, rfl, rfl, _, rfl, ?_⟩
      refine iteF ?_
      exact ⟨o, ws, ln, n, false, rfl, wa, .inr ⟨rfl, te⟩⟩
    · rw [e]
      refine ⟨_, rfl, o, dx, fs, rfl, h1, h6 _ (by decide), ?_⟩
      refine ⟨_, rfl, rfl, _, rfl, ?_⟩
      refine iteT ?_
      refine ⟨_, rfl, _, rfl, _, _, rfl, rfl, _, rfl, ?_⟩
      have go : ∀ {σ : L2.St}, σ[0]? = some (some (.ref o)) → σ[3]? = some (some (.int (k : Nat))) → inB a b k = true → tSeq (tDrop (tMeth C "step" (spStep C) [] (fun _ _ _ => False) (tVar 0) tNil)) (tRet (tVar 3)) { nx := fun _ H' => Q V.non H', rt := Q } σ H := fun {σ} s0 s3 ib => by
        rcases h with ⟨k2, e2, _, q⟩ | ⟨q, _⟩
        · rw [e] at e2
          cases e2
          exact ⟨_, s0, o, dx, fs, rfl, h1, h6 _ (by decide), o, ws, ln, n, rfl, wa, fun H' b w => ⟨_, s3, q H' b w⟩⟩
        · rw [q k e] at ib
          cases ib
      have te : inB a b k = false → TextErr CT H E ln n := fun ib => by
        rcases h with ⟨k2, e2, ib2, q⟩ | ⟨_, q⟩
        · rw [e] at e2
          cases e2
          rw [ib] at ib2
          cases ib2
        · exact q
      refine ite2 (fun c1 => ?_) (fun c1 => ?_)
      · have c1 : decide (a ≤ ((k : Nat) : Int)) = true := c1
        cases b with
        | none =>
          refine ⟨_, rfl, rfl, _, rfl, ?_⟩
          refine iteT ?_
          refine ⟨o, ws, ln, n, true, rfl, wa, .inl ⟨rfl, ?_⟩⟩
          exact go rfl rfl (by unfold inB; rw [c1]; rfl)
        | some b =>
          refine ⟨_, rfl, rfl, _, rfl, ?_⟩
          refine iteF ?_
          refine ⟨_, rfl, _, rfl, _, _, rfl, rfl, ?_⟩
          cases c2 : decide (((k : Nat) : Int) ≤ b) with
          | true =>
            refine ⟨o, ws, ln, n, true, congrArg (fun c => [V.ref o, V.bl c]) c2, wa, .inl ⟨rfl, ?_⟩⟩
            exact go rfl rfl (by unfold inB; rw [c1]; exact c2)
          | false =>
            refine ⟨o, ws, ln, n, false, congrArg (fun c => [V.ref o, V.bl c]) c2, wa, .inr ⟨rfl, te ?_⟩⟩
            unfold inB
            rw [c1]
            exact c2
      · have c1 : decide (a ≤ ((k : Nat) : Int)) = false := Bool.eq_false_iff.mpr c1
        refine ⟨o, ws, ln, n, false, rfl, wa, .inr ⟨rfl, te ?_⟩⟩
        unfold inB
        rw [c1]
        rfl
theorem nu_binds {f : Addr} {fd : FuncData} (F : FunD K "take_number" "Words.take_number" (defArgs sWNu) (defBody sWNu) (defScope sWNu) [.non] [] f fd) : Binds K fd ["self", "least", "most"] [] := by
  obtain ⟨ds, hv, hb⟩ := F.binds1 (ps := ["self", "least", "most"]) 3 1 (by simp) rfl fun T kV doc pm an cdv ct us its hu hi => match us, its, hu, hi with | [_, _, _], [_], _, _ => ⟨_, rfl, rfl⟩
  cases hv
  exact hb
end
end K10
end
section
set_option pp.maxSteps 400
set_option pp.deepTerms.threshold 6
/-! Picks read from words: what a reading tells. -/
namespace K10
open PySem PySem.Spec PyProof.Rows L2
def digL : List Str := ["1", "2", "3", "4", "5", "6", "7", "8", "9"]
/-- a digit from 1 to 9 -/
def digO (z : Str) : Option Nat := match numO z with
  | none => none
  | some k => if inB 1 (some 9) k = true then some k else none
theorem fold_ge : ∀ (l : List Nat) (a : Nat), a ≤ l.foldl (fun acc c => acc * 10 + (c - 48)) a
  | [], a => Nat.le_refl a
  | c :: r, a => by
    rw [List.foldl_cons]
    exact Nat.le_trans (by omega) (fold_ge r _)
theorem dig_in {z : Str} {k : Nat} (h : digO z = some k) : z ∈ digL ∧ k = numN z := by
  unfold digO numO at h
  by_cases c : numB z = true
  · rw [if_pos c] at h
    dsimp only at h
    by_cases d : inB 1 (some 9) (numN z) = true
    · rw [if_pos d] at h
      have ek : numN z = k := Option.some.inj h
      refine ⟨?_, ek.symm⟩
      obtain ⟨d1, d2⟩ := Bool.and_eq_true_iff.mp d
      have d1 : (1 : Int) ≤ (numN z : Nat) := of_decide_eq_true d1
      have d2 : ((numN z : Nat) : Int) ≤ 9 := of_decide_eq_true d2
      obtain ⟨c1, c2⟩ := Bool.and_eq_true_iff.mp c
      obtain ⟨c3, c4⟩ := Bool.and_eq_true_iff.mp c2
      obtain ⟨a1, a2⟩ := ascii_digits c1
      have el : z.length = z.cps.toList.length := by simp [Str.length]
      have ez : SX.S z.cps.toList = z := SX.S_tl z
      unfold numN at d1 d2
      generalize z.cps.toList = l at *
      match l, a2 with
      | [c], _ =>
        have e : NumText.digitsVal [c] = c - 48 := by simp [NumText.digitsVal]
        rw [e] at d1 d2
        have hc : c = 49 ∨ c = 50 ∨ c = 51 ∨ c = 52 ∨ c = 53 ∨ c = 54 ∨ c = 55 ∨ c = 56 ∨ c = 57 := by omega
        rw [← ez]
        rcases hc with rfl | rfl | rfl | rfl | rfl | rfl | rfl | rfl | rfl <;> decide +kernel
      | c :: d :: r, _ =>
        exfalso
        rw [el] at c4
        have hl : decide (1 < (c :: d :: r).length) = true := decide_eq_true (by simp)
        rw [hl, Bool.and_true] at c4
        have hc : c ≠ 48 := fun e => by
          rw [e, show decide ((48 :: d :: r).head? = some 48) = true from decide_eq_true rfl] at c4
          cases c4
        have hc2 : 48 ≤ c := by
          have := List.all_eq_true.mp a1 c List.mem_cons_self
          exact of_decide_eq_true (Bool.and_eq_true_iff.mp this).1
        have e : NumText.digitsVal (c :: d :: r) = r.foldl (fun acc c => acc * 10 + (c - 48)) ((0 * 10 + (c - 48)) * 10 + (d - 48)) := rfl
        rw [e] at d2
        have := fold_ge r ((0 * 10 + (c - 48)) * 10 + (d - 48))
        omega
    · rw [if_neg d] at h
      cases h
  · rw [if_neg c] at h
    cases h
theorem dig_of : ∀ z ∈ digL, digO z = some (numN z) := by decide +kernel
theorem dig_num : ∀ z ∈ digL, (Txt.isascii z && Txt.isdigit z) = true ∧ z.length ≤ 60 ∧ 1 ≤ numN z ∧ numN z ≤ 9 := by decide +kernel
/-- a pick read at a place: the pick and the next place, or the first wrong word -/
def pickRead (ws : List Str) (n : Nat) : Except Nat (Pk × Nat) :=
  if nameB (pk ws n) = true then (if pk ws (n + 1) = "keep" then (if pk ws (n + 2) ∈ digL then .ok ((pk ws n, ((numN (pk ws (n + 2)) : Nat) : Int)), n + 3) else .error (n + 2)) else .ok ((pk ws n, 0), n + 1)) else .error n
/-- the picks behind the first one, from a place on -/
def restPicks (ws : List Str) : Nat → Nat → Except Nat (List Pk)
  | 0, _ => .ok []
  | f + 1, n => if n < ws.length then (if pk ws n = "or" then (match pickRead ws (n + 1) with
      | .ok (d, m) => (match restPicks ws f m with
        | .ok r => .ok (d :: r)
        | .error e => .error e)
      | .error e => .error e) else .error n) else .ok []
/-- all picks of a text, or the first word that cannot stand -/
def picksRead (ws : List Str) : Except Nat (List Pk) :=
  if pk ws 0 = "-" then (if ws.length ≤ 1 then .ok [] else .error 1) else (match pickRead ws 0 with
    | .ok (d, m) => (match restPicks ws (ws.length + 1) m with
      | .ok r => .ok (d :: r)
      | .error e => .error e)
    | .error e => .error e)
theorem pickRead_next {ws : List Str} {n m : Nat} {d : Pk} (h : pickRead ws n = .ok (d, m)) : n < m := by
  unfold pickRead at h
  split at h
  · split at h
    · split at h
      · cases h
        omega
      · cases h
    · cases h
      omega
  · cases h
theorem pk_out {ws : List Str} {i : Nat} (h : ws.length ≤ i) : pk ws i = "" := by
  unfold pk
  rw [List.getD_eq_getElem?_getD, List.getElem?_eq_none h]
  rfl
theorem pk_in {ws : List Str} {i : Nat} (h : pk ws i ≠ "") : i < ws.length := by
  rcases Nat.lt_or_ge i ws.length with c | c
  · exact c
  · exact absurd (pk_out c) h
theorem name_in {ws : List Str} {i : Nat} (h : nameB (pk ws i) = true) : i < ws.length := pk_in fun e => by
  rw [e] at h
  exact absurd h (by decide +kernel)
theorem pickRead_le {ws : List Str} {n m : Nat} {d : Pk} (h : pickRead ws n = .ok (d, m)) : m ≤ ws.length := by
  unfold pickRead at h
  split at h
  · rename_i c
    split at h
    · split at h
      · rename_i e
        cases h
        exact pk_in fun q => by
          rw [q] at e
          exact absurd e (by decide +kernel)
      · cases h
    · cases h
      exact name_in c
  · cases h
theorem pickRead_good {ws : List Str} {n m : Nat} {d : Pk} (h : pickRead ws n = .ok (d, m)) (lw : ∀ i, (pk ws i).length ≤ 1000) : Good d := by
  unfold pickRead at h
  split at h
  · rename_i c
    split at h
    · split at h
      · rename_i e
        cases h
        obtain ⟨_, _, a, b⟩ := dig_num _ e
        exact ⟨c, lw _, by show (0 : Int) ≤ ((numN _ : Nat) : Int); omega, by show ((numN _ : Nat) : Int) ≤ 9; omega⟩
      · cases h
    · cases h
      exact ⟨c, lw _, Int.le_refl 0, by show (0 : Int) ≤ 9; decide⟩
  · cases h
theorem restPicks_good {ws : List Str} (lw : ∀ i, (pk ws i).length ≤ 1000) : ∀ {f n : Nat} {r : List Pk}, restPicks ws f n = .ok r → ∀ p ∈ r, Good p
  | 0, n, r, h => by
    cases h
    exact fun p hp => by cases hp
  | f + 1, n, r, h => by
    unfold restPicks at h
    split at h
    · split at h
      · split at h
        · split at h
          · rename_i e1 _ _ e2
            cases h
            intro p hp
            rcases List.mem_cons.mp hp with rfl | hp
            · exact pickRead_good e1 lw
            · exact restPicks_good lw e2 p hp
          · cases h
        · cases h
      · cases h
    · cases h
      exact fun p hp => by cases hp
theorem picksRead_good {ws : List Str} (lw : ∀ i, (pk ws i).length ≤ 1000) {r : List Pk} (h : picksRead ws = .ok r) : ∀ p ∈ r, Good p := by
  unfold picksRead at h
  split at h
  · split at h
    · cases h
      exact fun p hp => by cases hp
    · cases h
  · split at h
    · split at h
      · rename_i e1 _ _ e2
        cases h
        intro p hp
        rcases List.mem_cons.mp hp with rfl | hp
        · exact pickRead_good e1 lw
        · exact restPicks_good lw e2 p hp
      · cases h
    · cases h
/-! ### how many: a word weighs 1, a digit takes 1 away -/
def wt (z : Str) : Int := if z ∈ digL then -1 else 1
def wtL (ws : List Str) : Int := (ws.map wt).sum
theorem wt_name {z : Str} (h : nameB z = true) : wt z = 1 := by
  unfold wt
  rw [if_neg]
  intro m
  have : ∀ z ∈ digL, nameB z = false := by decide +kernel
  rw [this z m] at h
  cases h
theorem drop_pk {ws : List Str} {n : Nat} (h : n < ws.length) : ws.drop n = pk ws n :: ws.drop (n + 1) := by
  rw [List.drop_eq_getElem_cons h]
  congr 1
  unfold pk
  rw [List.getD_eq_getElem?_getD, List.getElem?_eq_getElem h]
  rfl
theorem wtL_drop {ws : List Str} {n : Nat} (h : n < ws.length) : wtL (ws.drop n) = wt (pk ws n) + wtL (ws.drop (n + 1)) := by
  rw [drop_pk h]
  unfold wtL
  rw [List.map_cons, List.sum_cons]
theorem pickRead_wt {ws : List Str} {n m : Nat} {d : Pk} (h : pickRead ws n = .ok (d, m)) : wtL (ws.drop n) = 1 + wtL (ws.drop m) := by
  unfold pickRead at h
  split at h
  · rename_i c
    have i1 := name_in c
    rw [wtL_drop i1, wt_name c]
    split at h
    · rename_i k
      have i2 : n + 1 < ws.length := pk_in (by rw [k]; decide +kernel)
      have w2 : wt (pk ws (n + 1)) = 1 := by
        rw [k]
        decide +kernel
      split at h
      · rename_i e
        cases h
        have i3 : n + 2 < ws.length := pk_in fun q => by
          rw [q] at e
          exact absurd e (by decide +kernel)
        have w3 : wt (pk ws (n + 2)) = -1 := by
          unfold wt
          rw [if_pos e]
        rw [wtL_drop i2, w2, wtL_drop i3, w3]
        show (1 : Int) + (1 + (-1 + wtL (ws.drop (n + 3)))) = 1 + wtL (ws.drop (n + 3))
        omega
      · cases h
    · cases h
      rfl
  · cases h
theorem restPicks_wt {ws : List Str} : ∀ {f n : Nat} {r : List Pk}, restPicks ws f n = .ok r → ws.length < f + n → wtL (ws.drop n) = 2 * (r.length : Int)
  | 0, n, r, h, hf => by
    cases h
    rw [List.drop_of_length_le (by omega)]
    rfl
  | f + 1, n, r, h, hf => by
    unfold restPicks at h
    split at h
    · rename_i i1
      split at h
      · rename_i k
        have w1 : wt (pk ws n) = 1 := by
          rw [k]
          decide +kernel
        split at h
        · rename_i e1
          split at h
          · rename_i e2
            cases h
            have := restPicks_wt e2 (by have := pickRead_next e1; omega)
            rw [wtL_drop i1, w1, pickRead_wt e1, this, List.length_cons]
            omega
          · cases h
        · cases h
      · cases h
    · cases h
      rw [List.drop_of_length_le (by omega)]
      rfl
theorem picksRead_wt {ws : List Str} {r : List Pk} (h : picksRead ws = .ok r) : 2 * (r.length : Int) ≤ wtL ws + 1 ∨ r = [] := by
  unfold picksRead at h
  split at h
  · split at h
    · cases h
      exact .inr rfl
    · cases h
  · split at h
    · rename_i e1
      split at h
      · rename_i e2
        cases h
        have := restPicks_wt e2 (by omega)
        have e := pickRead_wt e1
        rw [this, List.drop_zero] at e
        rw [List.length_cons]
        omega
      · cases h
    · cases h
end K10
end
section
set_option pp.maxSteps 400
set_option pp.deepTerms.threshold 6
/-! Texts of rules, and texts bent: what they tell. -/
namespace K10
open PySem PySem.Spec PyProof.Rows L2
theorem wt_le (z : Str) : -1 ≤ wt z ∧ wt z ≤ 1 := by
  unfold wt
  split <;> omega
theorem wtL_app (a b : List Str) : wtL (a ++ b) = wtL a + wtL b := by
  unfold wtL
  rw [List.map_append, List.sum_append]
theorem wtL_one (z : Str) : wtL [z] = wt z := by
  unfold wtL
  simp
structure TxtOk (z : Str) (n : Nat) (b : Int) : Prop where
  many : (wordsOf z).length ≤ n
  short : ∀ w ∈ wordsOf z, w.length ≤ 61
  wt : wtL (wordsOf z) ≤ b
theorem TxtOk.mono {z : Str} {n m : Nat} {b c : Int} (h : TxtOk z n b) (h1 : n ≤ m) (h2 : b ≤ c) : TxtOk z m c := ⟨Nat.le_trans h.many h1, h.short, Int.le_trans h.wt h2⟩
def nines : Str := ⟨(List.replicate 61 57).toArray⟩
def oddA : List Str := ["", "-", "or", "keep", "s", "S", "0", "1", "9", "10", "01", "+1", "-1", "s,", "abcdefgh", "abcdefghi", "s\n"]
def oddB : List Str := ["1\n", "or or", "keep 3", "3 keep", nines]
def oddL : List Str := oddA ++ oddB
theorem odd_ok : ∀ w ∈ oddL, (wordsOf w).length ≤ 2 ∧ wtL (wordsOf w) ≤ 2 ∧ ∀ q ∈ wordsOf w, q.length ≤ 61 := by decide +kernel
theorem empty_words : wordsOf (Txt.join " " []) = [("" : Str)] := by decide +kernel
/-- pieces: the words of a text and odd ones -/
theorem pieces_ok {ps : List Str} {n : Nat} {b : Int} (h1 : (ps.flatMap wordsOf).length ≤ n) (h2 : ∀ w ∈ ps.flatMap wordsOf, w.length ≤ 61) (h3 : wtL (ps.flatMap wordsOf) ≤ b) (n1 : 1 ≤ n) (b1 : ps = [] → 1 ≤ b) : TxtOk (Txt.join " " ps) n b := by
  by_cases c : ps = []
  · subst c
    exact ⟨by rw [empty_words]; exact n1, fun w hw => by rw [empty_words] at hw; rw [List.mem_singleton.mp hw]; decide +kernel, by rw [empty_words, wtL_one]; exact Int.le_trans (wt_le _).2 (b1 rfl)⟩
  · exact ⟨by rw [words_flat c]; exact h1, by rw [words_flat c]; exact h2, by rw [words_flat c]; exact h3⟩
section
variable {z : Str} {n : Nat} {b : Int}
theorem free_take (z : Str) (s : Nat) : ((wordsOf z).take s).flatMap wordsOf = (wordsOf z).take s := flat_free fun p hp => words_free (List.mem_of_mem_take hp)
theorem free_drop (z : Str) (s : Nat) : ((wordsOf z).drop s).flatMap wordsOf = (wordsOf z).drop s := flat_free fun p hp => words_free (List.mem_of_mem_drop hp)
theorem wt_cut (ws : List Str) (s : Nat) : wtL ws = wtL (ws.take s) + wtL (ws.drop s) := by
  rw [← wtL_app, List.take_append_drop]
theorem wt_skip (ws : List Str) (s : Nat) : wtL (ws.drop (s + 1)) ≤ wtL (ws.drop s) + 1 ∧ wtL (ws.drop s) ≤ wtL (ws.drop (s + 1)) + 1 := by
  by_cases h : s < ws.length
  · rw [wtL_drop h]
    have := wt_le (pk ws s)
    omega
  · rw [List.drop_of_length_le (by omega), List.drop_of_length_le (by omega)]
    omega
theorem bend_out (h : TxtOk z n b) (s : Nat) (n1 : 1 ≤ n) (b1 : 0 ≤ b) : TxtOk (Txt.join " " ((wordsOf z).take s ++ (wordsOf z).drop (s + 1))) (n + 2) (b + 3) := by
  have e : (((wordsOf z).take s ++ (wordsOf z).drop (s + 1)).flatMap wordsOf) = (wordsOf z).take s ++ (wordsOf z).drop (s + 1) := by rw [List.flatMap_append, free_take, free_drop]
  have m := h.many
  have w := h.wt
  rw [wt_cut _ s] at w
  have k := wt_skip (wordsOf z) s
  refine pieces_ok ?_ (fun q hq => ?_) ?_ (by omega) (fun _ => by omega)
  · rw [e, List.length_append, List.length_take, List.length_drop]
    omega
  · rw [e] at hq
    rcases List.mem_append.mp hq with hq | hq
    · exact h.short q (List.mem_of_mem_take hq)
    · exact h.short q (List.mem_of_mem_drop hq)
  · rw [e, wtL_app]
    omega
theorem bend_twice (h : TxtOk z n b) (s : Nat) (n1 : 1 ≤ n) (b1 : 0 ≤ b) : TxtOk (Txt.join " " ((wordsOf z).take (s + 1) ++ (wordsOf z).drop s)) (n + 2) (b + 3) := by
  have e : (((wordsOf z).take (s + 1) ++ (wordsOf z).drop s).flatMap wordsOf) = (wordsOf z).take (s + 1) ++ (wordsOf z).drop s := by rw [List.flatMap_append, free_take, free_drop]
  have m := h.many
  have w := h.wt
  rw [wt_cut _ (s + 1)] at w
  have k := wt_skip (wordsOf z) s
  refine pieces_ok ?_ (fun q hq => ?_) ?_ (by omega) (fun _ => by omega)
  · rw [e, List.length_append, List.length_take, List.length_drop]
    omega
  · rw [e] at hq
    rcases List.mem_append.mp hq with hq | hq
    · exact h.short q (List.mem_of_mem_take hq)
    · exact h.short q (List.mem_of_mem_drop hq)
  · rw [e, wtL_app]
    omega
theorem bend_in (h : TxtOk z n b) (s t : Nat) (ht : t = s ∨ t = s + 1) {o : Str} (ho : o ∈ oddL) (n1 : 1 ≤ n) (b1 : 0 ≤ b) : TxtOk (Txt.join " " (((wordsOf z).take s ++ [o]) ++ (wordsOf z).drop t)) (n + 2) (b + 3) := by
  obtain ⟨o1, o2, o3⟩ := odd_ok o ho
  have e : ((((wordsOf z).take s ++ [o]) ++ (wordsOf z).drop t).flatMap wordsOf) = ((wordsOf z).take s ++ wordsOf o) ++ (wordsOf z).drop t := by
    rw [List.flatMap_append, List.flatMap_append, free_take, free_drop]
    congr 2
    rw [List.flatMap_cons, List.flatMap_nil, List.append_nil]
  have m := h.many
  have w := h.wt
  rw [wt_cut _ s] at w
  have k := wt_skip (wordsOf z) s
  refine pieces_ok ?_ (fun q hq => ?_) ?_ (by omega) (fun _ => by omega)
  · rw [e, List.length_append, List.length_append, List.length_take, List.length_drop]
    omega
  · rw [e] at hq
    rcases List.mem_append.mp hq with hq | hq
    · rcases List.mem_append.mp hq with hq | hq
      · exact h.short q (List.mem_of_mem_take hq)
      · exact o3 q hq
    · exact h.short q (List.mem_of_mem_drop hq)
  · rw [e, wtL_app, wtL_app]
    rcases ht with rfl | rfl <;> omega
end
/-! ### the text of a rule -/
def wordsP (p : Pk) : List Str := if 0 < p.2 then [p.1, "keep", (toString p.2 : Str)] else [p.1]
def wordsR : List Pk → List Str
  | [] => ["-"]
  | p :: r => wordsP p ++ r.flatMap fun q => ("or" : Str) :: wordsP q
def GoodP (p : Pk) : Prop := nameB p.1 = true ∧ 0 ≤ p.2 ∧ p.2 ≤ 9
theorem name_free {z : Str} (h : nameB z = true) : 32 ∉ TL.tl z := fun m => by
  unfold nameB at h
  have h := List.all_eq_true.mp (Bool.and_eq_true_iff.mp h).2 32 m
  exact absurd h (by decide)
theorem name_len {z : Str} (h : nameB z = true) : z.length ≤ 8 := by
  unfold nameB at h
  exact of_decide_eq_true (Bool.and_eq_true_iff.mp (Bool.and_eq_true_iff.mp h).1).2
theorem keep_dig {k : Int} (h0 : 0 < k) (h9 : k ≤ 9) : (toString k : Str) ∈ digL ∧ ((numN (toString k : Str) : Nat) : Int) = k ∧ 32 ∉ TL.tl (toString k : Str) ∧ (toString k : Str).length ≤ 61 := by
  have h : k = 1 ∨ k = 2 ∨ k = 3 ∨ k = 4 ∨ k = 5 ∨ k = 6 ∨ k = 7 ∨ k = 8 ∨ k = 9 := by omega
  rcases h with rfl | rfl | rfl | rfl | rfl | rfl | rfl | rfl | rfl <;> exact by decide +kernel
theorem pair_words {p : Pk} (g : GoodP p) : (∀ w ∈ wordsP p, 32 ∉ TL.tl w ∧ w.length ≤ 61) ∧ wtL (wordsP p) = 1 ∧ (wordsP p).length ≤ 3 ∧ wordsP p ≠ [] := by
  obtain ⟨g1, g2, g3⟩ := g
  have nf := name_free g1
  have nl := name_len g1
  have w1 := wt_name g1
  unfold wordsP
  by_cases c : 0 < p.2
  · rw [if_pos c]
    obtain ⟨d1, d2, d3, d4⟩ := keep_dig c g3
    refine ⟨fun w hw => ?_, ?_, Nat.le_refl 3, by simp⟩
    · simp only [List.mem_cons, List.not_mem_nil, or_false] at hw
      rcases hw with rfl | rfl | rfl
      · exact ⟨nf, by omega⟩
      · exact by decide +kernel
      · exact ⟨d3, d4⟩
    · have k1 : wt "keep" = 1 := by decide +kernel
      have k2 : wt (toString p.2 : Str) = -1 := by
        unfold wt
        rw [if_pos d1]
      unfold wtL
      simp only [List.map_cons, List.map_nil, List.sum_cons, List.sum_nil]
      rw [w1, k1, k2]
      decide
  · rw [if_neg c]
    refine ⟨fun w hw => ?_, ?_, by show (1 : Nat) ≤ 3; decide, by simp⟩
    · rw [List.mem_singleton.mp hw]
      exact ⟨nf, by omega⟩
    · rw [wtL_one, w1]
theorem rule_words : ∀ {ps : List Pk}, (∀ p ∈ ps, GoodP p) → (∀ w ∈ wordsR ps, 32 ∉ TL.tl w ∧ w.length ≤ 61) ∧ wordsR ps ≠ [] ∧ ((ps = [] ∧ wtL (wordsR ps) = 1 ∧ (wordsR ps).length = 1) ∨ (wtL (wordsR ps) = 2 * (ps.length : Int) - 1 ∧ (wordsR ps).length + 1 ≤ 4 * ps.length))
  | [], _ => ⟨by decide +kernel, by decide +kernel, .inl ⟨rfl, by decide +kernel, rfl⟩⟩
  | p :: r, h => by
    obtain ⟨a1, a2, a3, a4⟩ := pair_words (h p List.mem_cons_self)
    have rest : ∀ r : List Pk, (∀ p ∈ r, GoodP p) → (∀ w ∈ r.flatMap (fun q => ("or" : Str) :: wordsP q), 32 ∉ TL.tl w ∧ w.length ≤ 61) ∧ wtL (r.flatMap fun q => ("or" : Str) :: wordsP q) = 2 * (r.length : Int) ∧ (r.flatMap fun q => ("or" : Str) :: wordsP q).length ≤ 4 * r.length := fun r => by
      induction r with
      | nil => exact fun _ => ⟨fun w hw => (by cases hw), rfl, Nat.le_refl 0⟩
      | cons q r ih =>
        intro h
        obtain ⟨i1, i2, i3⟩ := ih fun p hp => h p (List.mem_cons_of_mem _ hp)
        obtain ⟨b1, b2, b3, b4⟩ := pair_words (h q List.mem_cons_self)
        rw [List.flatMap_cons]
        refine ⟨fun w hw => ?_, ?_, ?_⟩
        · rcases List.mem_append.mp hw with hw | hw
          · rcases List.mem_cons.mp hw with rfl | hw
            · exact by decide +kernel
            · exact b1 w hw
          · exact i1 w hw
        · have o1 : wt "or" = 1 := by decide +kernel
          rw [wtL_app, i2, show (("or" : Str) :: wordsP q) = [("or" : Str)] ++ wordsP q from rfl, wtL_app, wtL_one, o1, b2, List.length_cons]
          omega
        · rw [List.length_append, List.length_cons, List.length_cons]
          omega
    obtain ⟨i1, i2, i3⟩ := rest r fun p hp => h p (List.mem_cons_of_mem _ hp)
    refine ⟨fun w hw => ?_, ?_, .inr ⟨?_, ?_⟩⟩
    · rcases List.mem_append.mp hw with hw | hw
      · exact a1 w hw
      · exact i1 w hw
    · exact fun e => a4 (List.append_eq_nil_iff.mp e).1
    · show wtL (wordsP p ++ r.flatMap fun q => ("or" : Str) :: wordsP q) = _
      rw [wtL_app, a2, i2, List.length_cons]
      omega
    · show (wordsP p ++ r.flatMap fun q => ("or" : Str) :: wordsP q).length + 1 ≤ _
      rw [List.length_append, List.length_cons]
      omega
theorem pair_text {p : Pk} : TL.tl (pickText p) = TL.joinL [32] ((wordsP p).map TL.tl) := by
  unfold pickText wordsP
  by_cases c : 0 < p.2
  · rw [if_pos c, if_pos c, TL.tl_append, TL.tl_append, show TL.tl (" keep " : Str) = [32] ++ TL.tl ("keep" : Str) ++ [32] by decide +kernel]
    show _ = TL.tl p.1 ++ ([32] ++ (TL.tl "keep" ++ ([32] ++ TL.tl (toString p.2 : Str))))
    simp only [List.append_assoc]
  · rw [if_neg c, if_neg c]
    rfl
theorem rule_tl : ∀ (p : Pk) (r : List Pk), (∀ q ∈ p :: r, wordsP q ≠ []) → TL.joinL (TL.tl (" or " : Str)) (((p :: r).map pickText).map TL.tl) = TL.joinL [32] ((wordsP p ++ r.flatMap fun q => ("or" : Str) :: wordsP q).map TL.tl)
  | p, [], _ => by
    rw [List.flatMap_nil, List.append_nil]
    exact pair_text
  | p, q :: r, h => by
    have i := rule_tl q r fun x hx => h x (List.mem_cons_of_mem _ hx)
    show TL.tl (pickText p) ++ (TL.tl (" or " : Str) ++ TL.joinL (TL.tl (" or " : Str)) (((q :: r).map pickText).map TL.tl)) = _
    have e : (wordsP p ++ (q :: r).flatMap fun q => ("or" : Str) :: wordsP q).map TL.tl = (wordsP p).map TL.tl ++ ([TL.tl ("or" : Str)] ++ (wordsP q ++ r.flatMap fun q => ("or" : Str) :: wordsP q).map TL.tl) := by
      rw [List.map_append, List.flatMap_cons, List.cons_append, List.map_cons]
      rfl
    rw [i, pair_text, e, joinL_app _ _ _ (fun e => h p List.mem_cons_self (List.map_eq_nil_iff.mp e)) (by simp), joinL_app _ _ _ (by simp) (fun e => h q (List.mem_cons_of_mem _ List.mem_cons_self) (List.append_eq_nil_iff.mp (List.map_eq_nil_iff.mp e)).1), show TL.tl (" or " : Str) = [32] ++ TL.tl ("or" : Str) ++ [32] by decide +kernel]
    show _ = TL.joinL [32] ((wordsP p).map TL.tl) ++ ([32] ++ (TL.tl "or" ++ ([32] ++ _)))
    simp only [List.append_assoc]
theorem rule_split {ps : List Pk} (h : ∀ p ∈ ps, GoodP p) : wordsOf (ruleText ps) = wordsR ps := by
  obtain ⟨w1, w2, _⟩ := rule_words h
  have e : ruleText ps = Txt.join " " (wordsR ps) := by
    refine TL.ext_tl ?_
    cases ps with
    | nil => decide +kernel
    | cons p r =>
      rw [tlj]
      unfold ruleText
      rw [if_neg (by simp), TL.join_eq, TL.tl_join]
      exact rule_tl p r fun q hq => (pair_words (h q hq)).2.2.2
  rw [e]
  exact words_of w2 fun p hp => (w1 p hp).1
theorem ruleT_ok {ps : List Pk} (h : ∀ p ∈ ps, GoodP p) (l : ps.length ≤ 6) : TxtOk (ruleText ps) 23 11 := by
  obtain ⟨w1, w2, w3⟩ := rule_words h
  have e := rule_split h
  refine ⟨?_, fun w hw => ?_, ?_⟩
  · rw [e]
    rcases w3 with ⟨_, _, c⟩ | ⟨_, c⟩ <;> omega
  · rw [e] at hw
    exact (w1 w hw).2
  · rw [e]
    rcases w3 with ⟨_, c, _⟩ | ⟨c, _⟩ <;> omega
end K10
end
section
set_option pp.maxSteps 400
set_option pp.deepTerms.threshold 6
/-! The text of a rule, read. -/
namespace K10
open PySem PySem.Spec PyProof.Rows L2
theorem pk_drop (ws : List Str) (n i : Nat) : pk ws (n + i) = pk (ws.drop n) i := by
  unfold pk
  rw [List.getD_eq_getElem?_getD, List.getD_eq_getElem?_getD, List.getElem?_drop]
theorem pickRead_of {ws rest : List Str} {n : Nat} {p : Pk} (h : ws.drop n = wordsP p ++ rest) (g : GoodP p) (hr : pk rest 0 ≠ "keep") : pickRead ws n = .ok (p, n + (wordsP p).length) := by
  obtain ⟨g1, g2, g3⟩ := g
  obtain ⟨z, k⟩ := p
  have g1 : nameB z = true := g1
  have g2 : 0 ≤ k := g2
  have g3 : k ≤ 9 := g3
  have e0 := pk_drop ws n 0
  have e1 := pk_drop ws n 1
  have e2 := pk_drop ws n 2
  rw [h] at e0 e1 e2
  unfold wordsP at *
  by_cases c : 0 < k
  · rw [if_pos c] at *
    obtain ⟨d1, d2, _⟩ := keep_dig c g3
    have e0 : pk ws n = z := e0
    have e1 : pk ws (n + 1) = "keep" := e1
    have e2 : pk ws (n + 2) = (toString k : Str) := e2
    unfold pickRead
    rw [e0, e1, e2, if_pos g1, if_pos rfl, if_pos d1]
    show Except.ok ((z, ((numN (toString k : Str) : Nat) : Int)), n + 3) = _
    rw [d2]
    rfl
  · rw [if_neg c] at *
    have e0 : pk ws n = z := e0
    have e1 : pk ws (n + 1) = pk rest 0 := e1
    have ek : k = 0 := by omega
    unfold pickRead
    rw [e0, e1, if_pos g1, if_neg hr, ek]
    rfl
theorem rest_head (r : List Pk) : pk (r.flatMap fun q => ("or" : Str) :: wordsP q) 0 ≠ "keep" := by
  cases r with
  | nil => exact by decide +kernel
  | cons q r =>
    rw [List.flatMap_cons]
    show ("or" : Str) ≠ "keep"
    decide +kernel
theorem restPicks_of {ws : List Str} : ∀ (r : List Pk) (f n : Nat), (∀ q ∈ r, GoodP q) → (ws.drop n = r.flatMap fun q => ("or" : Str) :: wordsP q) → r.length < f → restPicks ws f n = .ok r
  | [], 0, n, _, _, hf => by omega
  | _ :: _, 0, n, _, _, hf => by omega
  | [], f + 1, n, _, h, _ => by
    have hl := congrArg List.length h
    rw [List.length_drop] at hl
    have hl : ws.length - n = 0 := hl
    unfold restPicks
    rw [if_neg (by omega)]
  | q :: r, f + 1, n, g, h, hf => by
    have hl := congrArg List.length h
    rw [List.length_drop, List.flatMap_cons, List.length_append, List.length_cons] at hl
    have e0 := pk_drop ws n 0
    rw [h, List.flatMap_cons] at e0
    have e0 : pk ws n = "or" := e0
    have hd : ws.drop (n + 1) = wordsP q ++ r.flatMap fun q => ("or" : Str) :: wordsP q := by
      rw [← List.drop_drop, h, List.flatMap_cons]
      rfl
    have e1 := pickRead_of hd (g q List.mem_cons_self) (rest_head r)
    have hd2 : ws.drop (n + 1 + (wordsP q).length) = r.flatMap fun q => ("or" : Str) :: wordsP q := by
      rw [← List.drop_drop, hd, List.drop_left]
    have e2 := restPicks_of r f (n + 1 + (wordsP q).length) (fun x hx => g x (List.mem_cons_of_mem _ hx)) hd2 (by rw [List.length_cons] at hf; omega)
    unfold restPicks
    rw [if_pos (by omega), if_pos e0, e1]
    dsimp only
    rw [e2]
theorem read_rule {ps : List Pk} (h : ∀ p ∈ ps, GoodP p) : picksRead (wordsR ps) = .ok ps := by
  cases ps with
  | nil =>
    unfold picksRead
    rw [if_pos (by decide +kernel), if_pos (by decide +kernel)]
  | cons p r =>
    have g := h p List.mem_cons_self
    have e1 := pickRead_of (ws := wordsR (p :: r)) (n := 0) (p := p) rfl g (rest_head r)
    have hd : (wordsR (p :: r)).drop (0 + (wordsP p).length) = r.flatMap fun q => ("or" : Str) :: wordsP q := by
      rw [Nat.zero_add]
      exact List.drop_left
    have hl : r.length < (wordsR (p :: r)).length + 1 := by
      have : ∀ r : List Pk, r.length ≤ (r.flatMap fun q => ("or" : Str) :: wordsP q).length := fun r => by
        induction r with
        | nil => exact Nat.le_refl 0
        | cons q r ih =>
          rw [List.flatMap_cons, List.length_append, List.length_cons, List.length_cons]
          omega
      have := this r
      show r.length < (wordsP p ++ r.flatMap fun q => ("or" : Str) :: wordsP q).length + 1
      rw [List.length_append]
      omega
    have e2 := restPicks_of r ((wordsR (p :: r)).length + 1) _ (fun x hx => h x (List.mem_cons_of_mem _ hx)) hd hl
    have n0 : pk (wordsR (p :: r)) 0 ≠ "-" := by
      have e : pk (wordsR (p :: r)) 0 = p.1 := by
        show pk (wordsP p ++ _) 0 = p.1
        unfold wordsP
        split <;> rfl
      rw [e]
      intro q
      have := g.1
      rw [q] at this
      exact absurd this (by decide +kernel)
    unfold picksRead
    rw [if_neg n0, e1]
    dsimp only
    rw [e2]
theorem form_again {ps : List Pk} (h : ∀ p ∈ ps, 0 ≤ p.2) : oneForm (oneForm ps) = oneForm ps := form_eq (fun p hp => h p (mem_form hp)) h fun f => choose_form f ps
/-- a text that is read tells good picks, few enough -/
theorem few_read {z : Str} {n : Nat} {b : Int} (h : TxtOk z n b) (hb : b ≤ 23) {ps : List Pk} (e : picksRead (wordsOf z) = .ok ps) : ps.length ≤ 12 := by
  have w := h.wt
  rcases picksRead_wt e with c | rfl
  · omega
  · exact Nat.zero_le _
theorem pk_short {z : Str} {n : Nat} {b : Int} (h : TxtOk z n b) (i : Nat) : (pk (wordsOf z) i).length ≤ 61 := by
  rcases Nat.lt_or_ge i (wordsOf z).length with c | c
  · refine h.short _ ?_
    unfold pk
    rw [List.getD_eq_getElem?_getD, List.getElem?_eq_getElem c]
    exact List.getElem_mem c
  · rw [pk_out c]
    exact by decide +kernel
end K10
end
section
set_option pp.maxSteps 400
set_option pp.deepTerms.threshold 6
namespace K10
open PySem PySem.Spec PyProof.Rows L2
abbrev sLi : Stmt := top 34
abbrev sIn15 : Stmt := top 35
def spLi : Sp := fun vs H Q _ => ∃ (l : Addr) (ks : List Addr) (ps : List Pk), vs = [.ref l] ∧ H l = some (.lst (ks.map V.ref)) ∧ PicksAt H ks ps ∧ (∀ p ∈ ps, GoodP p) ∧ ps.length ≤ 15 ∧ ∀ H', Same H H' → Q (.str (ruleText ps)) H'
def spIn15 : Sp := fun vs H Q _ => ∃ z : Str, vs = [.str z] ∧ z.length ≤ 1000 ∧ ∀ H', Same H H' → Q (.bl (nameB z)) H'
theorem told_text (p : Pk) : (if decide ((0 : Int) < p.2) = true then (p.1 ++ (" keep " : Str)) ++ (toString p.2 : Str) else p.1) = pickText p := by
  unfold pickText
  by_cases c : 0 < p.2
  · rw [if_pos (decide_eq_true c), if_pos c]
  · rw [if_neg (fun e => c (of_decide_eq_true e)), if_neg c]
theorem keep_ok {k : Int} (h0 : 0 ≤ k) (h9 : k ≤ 9) : PyData.strOk (toString k : Str) = true := by
  have h : k = 0 ∨ k = 1 ∨ k = 2 ∨ k = 3 ∨ k = 4 ∨ k = 5 ∨ k = 6 ∨ k = 7 ∨ k = 8 ∨ k = 9 := by omega
  rcases h with rfl | rfl | rfl | rfl | rfl | rfl | rfl | rfl | rfl | rfl <;> exact by decide +kernel
theorem GoodP.good {p : Pk} (g : GoodP p) : Good p := ⟨g.1, by have := name_len g.1; omega, g.2.1, g.2.2⟩
theorem Good.goodP {p : Pk} (g : Good p) : GoodP p := ⟨g.1, g.2.2.1, g.2.2.2⟩
section
variable {P : Program} {w : World} {K : PySem.W.Frag} {mg : Str → Option Value} {base : Heap}
abbrev nLi : List Str := ["_law_picks_so", "_law_told", "_law_bay", "_law_keep"]
theorem scLi : FnScope nLi ["_law_picks_so"] (defScope sLi) := ⟨rfl, rfl, rfl, by decide +kernel, rfl, by decide +kernel, by decide +kernel⟩
theorem ok_Li {f : Addr} {fd : FuncData} (F : Fun K "_law_line" "_law_line" sLi f fd) (n_str : mg "str" = none) : FnOk P w K mg base CX0 1 f fd ["_law_picks_so"] spLi := by
  refine F.ok scLi (fun vs H Q E h => ?_) (fun cdv A outer s H vs Q E hr h => ?_)
  · obtain ⟨l, ks, ps, rfl, _⟩ := h
    rfl
  · obtain ⟨d, ds, ps, rfl, hd0, pd, good, hn, q⟩ := h
    have hud := hr.units
    have hd : SqL K H d (ds.map V.ref) := SqL.of hd0
    refine ⟨_, (pss_cons (ps_setLc (i := 1) (own := [("_law_bay", 2), ("_law_keep", 3)]) (g := (gTup K 2 (gCons (gName 2) (gCons (gName 3) gNil)))) (by rfl) scLi.nd rfl rfl (sw_true rfl rfl rfl (by decide +kernel)) (pi_list (pv 0)) (blkOk_by (own := [("_law_bay", 2), ("_law_keep", 3)]) (N := nLi) (sc := defScope sLi) (by decide +kernel)) (fun _ _ _ _ _ => (pg_tup rfl (pgs_cons (pg_name (i := 2) scLi.nd rfl (Or.inl rfl)) (pgs_cons (pg_name (i := 3) scLi.nd rfl (Or.inl rfl)) pgs_nil)))) (fun _ _ _ _ _ => pts_nil) (fun _ _ _ _ _ => (pe_ifExp (pt_cmpR op_gt (pv 3) pe_int (nomark _)) (pe_op op_add_str (pe_op op_add_str (pv 2) pe_str) (pe_callTy call_str_int (by rfl) n_str (by decide +kernel) (pa_cons (pv 3) pa_nil))) (pv 2))))
    (pss_one (ps_ret (pe_ifExp (pt_cmpR (op_neD hud) (pv 1) (pe_lst pa_nil) (nomark _)) (pe_join pe_str (pv 1)) pe_str)))), ?_⟩
    have sz := sizeLine_eq
    refine ⟨_, rfl, d, rfl, ⟨_, hd⟩, fun L hL => ?_⟩
    refine lc_it (walk_list (xs := ds.map V.ref)) (fun i Hx => Same H Hx ∧ Hx L = some (.lst (((ps.take i).map pickText).map V.str))) ⟨Same.of_new hL, upd_same⟩ (fun i Hx _ q => SqL.mono hd q.1) (fun i x Hx Hy hi q0 y => ?_) (fun Hx q0 => ?_)
    · obtain ⟨s1, eL⟩ := q0
      obtain ⟨rfl, hx⟩ := y
      obtain ⟨k1, p1, rfl, hk, hpi, tk⟩ := (pd.same s1).get hx
      have hi2 : i < ps.length := (List.getElem?_eq_some_iff.mp hpi).1
      have g := (good p1 (List.mem_of_getElem? hpi)).good
      have kt := keep_text g.2.2.1 g.2.2.2
      have done : ∀ z : Str, z = pickText p1 → ∃ acc, Hy L = some (.lst acc) ∧ acc.length < sizeLine ∧ Same H (upd Hy L (.lst (acc ++ [V.str z]))) ∧ upd Hy L (.lst (acc ++ [V.str z])) L = some (.lst (((ps.take (i + 1)).map pickText).map V.str)) := fun z hz => by
        refine ⟨_, eL, by rw [List.length_map, List.length_map, List.length_take]; omega, fun b o e => ?_, ?_⟩
        · rw [upd_ne (ne_of_none e hL)]
          exact s1 b o e
        · rw [upd_same, hz, List.take_add_one, hpi, List.map_append, List.map_append]
          rfl
      refine ⟨k1, _, rfl, .inl (.inl tk), rfl, _, _, rfl, _, _, rfl, rfl, rfl, ?_⟩
      refine ⟨_, rfl, _, _, rfl, rfl, _, rfl, ?_⟩
      have e6 : ((" keep " : Str)).length = 6 := by decide +kernel
      refine ite2 (fun c1 => ?_) (fun c1 => ?_)
      · refine ⟨_, rfl, _, _, rfl, rfl, by have := g.2.1; omega, _, rfl, _, rfl, kt.2, _, _, rfl, rfl, by rw [Str.length_append]; have := g.2.1; have := kt.1; omega, done _ ?_⟩
        rw [← told_text, if_pos c1]
      · refine ⟨_, rfl, done _ ?_⟩
        rw [← told_text, if_neg c1]
    obtain ⟨s1, eL⟩ := q0
    rw [List.length_map, pd.len, List.take_length] at eL
    refine ⟨_, rfl, Nat.zero_le _, fun N hN => ?_⟩
    have s3 := Same.of_new (o := .lst []) hN
    have okT : ∀ y ∈ ps.map pickText, PyData.strOk y = true := fun y hy => by
      obtain ⟨p1, hp1, rfl⟩ := List.mem_map.mp hy
      have g := good p1 hp1
      unfold pickText
      split
      · exact strOk_app (strOk_app (name_strOk g.1) (by decide +kernel)) (keep_ok g.2.1 g.2.2)
      · exact name_strOk g.1
    have dT : DpAll K (upd Hx N (.lst [])) ((ps.map pickText).map V.str) ((ps.map pickText).map PyData.str) := OwD.dp_strs _
    refine ⟨.list ((ps.map pickText).map PyData.str), .list [], .lst (SqL.of (s3 L _ eL)) dT, .lst (SqL.of upd_same) .nil, shaped_strs okT, OwD.shaped_nil, ?_⟩
    rw [show PyData.eqv (.list ((ps.map pickText).map PyData.str)) (.list []) = ps.isEmpty by cases ps <;> simp [PyData.eqv, PyData.eqvAll]]
    refine ⟨_, rfl, ?_⟩
    have s13 := s1.trans s3
    cases he : ps.isEmpty with
    | true =>
      refine iteF ?_
      have e : ruleText ps = "-" := by
        unfold ruleText
        rw [if_pos he]
      rw [← e]
      exact q _ s13
    | false =>
      refine iteT ?_
      refine ⟨⟨_, rfl⟩, _, rfl, _, L, ps.map pickText, rfl, rfl, .inl (SqL.of (s3 L _ eL)), pick_fits (fun p hp => (good p hp).good) hn, ?_⟩
      have e : ruleText ps = Txt.join " or " (ps.map pickText) := by
        unfold ruleText
        rw [if_neg (by rw [he]; decide)]
      rw [← e]
      exact q _ s13
abbrev nIs : List Str := ["_law_word_so", "_law_sign"]
theorem scIs : FnScope nIs ["_law_word_so"] (defScope sIn15) := ⟨rfl, rfl, rfl, by decide +kernel, rfl, by decide +kernel, by decide +kernel⟩
theorem abc_letter (c : Nat) : decide (c ∈ ("abcdefghijklmnopqrstuvwxyz" : Str).cps.toList) = letter c := by
  have e : ("abcdefghijklmnopqrstuvwxyz" : Str).cps.toList = (List.range 26).map (· + 97) := by decide +kernel
  rw [e]
  unfold letter
  rw [Bool.eq_iff_iff, decide_eq_true_eq, Bool.and_eq_true, decide_eq_true_eq, decide_eq_true_eq, List.mem_map]
  refine ⟨fun ⟨a, h1, h2⟩ => ?_, fun ⟨h1, h2⟩ => ⟨c - 97, List.mem_range.mpr (by omega), by omega⟩⟩
  have := List.mem_range.mp h1
  omega
theorem ok_In15 {f : Addr} {fd : FuncData} (F : Fun K "_law_is_name" "_law_is_name" sIn15 f fd) (n_len : mg "len" = none) : FnOk P w K mg base CX0 1 f fd ["_law_word_so"] spIn15 := by
  refine F.ok scIs (fun vs H Q E h => ?_) (fun cdv A outer s H vs Q E hr h => ?_)
  · obtain ⟨z, rfl, _⟩ := h
    rfl
  · obtain ⟨z, rfl, lz, q⟩ := h
    have hud := hr.units
    refine ⟨_, (pss_one (ps_ret (pe_and (pe_chain op_le op_le pe_int (pe_callB call_len (by rfl) n_len boot_len (pa_cons (pv 0) pa_nil)) pe_int) (pe_one (pe_cmpR (OwR.op_eqNil hud) (pe_lc (own := [("_law_sign", 1)]) (by rfl) scIs.nd (pi_str (pv 0)) (blkOk_by (own := [("_law_sign", 1)]) (N := nIs) (sc := defScope sIn15) (by decide +kernel)) (fun _ _ _ _ _ => (pg_name (i := 1) scIs.nd rfl (Or.inl rfl))) (fun _ _ _ _ _ => pts_one (pt_cmpR op_notIn_sign (pv 1) pe_str (by rfl))) (fun _ _ _ _ _ => (pv 1))) (pe_lst pa_nil) (nomark _)))))), ?_⟩
    have sz := sizeLine_eq
    have hz2 : z.length ≤ sizeLine := by omega
    refine ⟨_, rfl, .str z, z.length, rfl, ⟨hz2, rfl⟩, _, _, rfl, rfl, ?_⟩
    refine ⟨_, rfl, ?_⟩
    have e9 : z.cps.toList.length = z.length := by first | rfl | simp [Str.length]
    have e8 : z.cps.size = z.length := rfl
    have fls : nameB z = false → Q (.bl false) H := fun e => by
      rw [← e]
      exact q H (Same.refl H)
    refine ite2 (fun c1 => ?_) (fun c1 => ?_)
    · have d1 : 1 ≤ z.length := by
        have := of_decide_eq_true c1
        omega
      refine ⟨_, _, rfl, rfl, _, rfl, ?_⟩
      refine ite2 (fun c2 => ?_) (fun c2 => ?_)
      · have d2 : z.length ≤ 8 := by
          have := of_decide_eq_true c2
          omega
        refine ⟨_, rfl, z, rfl, fun D hD => lc_it (walk_str (z := z)) (fun i Hx => Same H Hx ∧ ∃ xs : List V, Hx D = some (.lst xs) ∧ xs.length ≤ i ∧ xs.isEmpty = (z.cps.toList.take i).all letter) ⟨Same.of_new hD, [], upd_same, Nat.le_refl 0, rfl⟩ (fun _ _ _ _ => trivial) ?_ ?_⟩
        · rintro i x H1 H2 hi ⟨s1, xs, eD, lx, ex⟩ ⟨rfl, c, hc, rfl⟩
          have et : z.cps.toList.take (i + 1) = z.cps.toList.take i ++ [c] := by
            rw [List.take_add_one, show z.cps.toList[i]? = some c by rw [Array.getElem?_toList]; exact hc]
            rfl
          refine ⟨rfl, ?_⟩
          refine ⟨_, rfl, c, _, rfl, rfl, _, rfl, ?_⟩
          rw [abc_letter c]
          cases cl : letter c with
          | true =>
            refine iteF ?_
            refine ⟨s1, xs, eD, by omega, ?_⟩
            rw [et, List.all_append, ex, List.all_cons, List.all_nil, cl, Bool.and_self, Bool.and_true]
          | false =>
            refine iteT ?_
            refine ⟨_, rfl, xs, eD, by omega, fun b o e => ?_, _, upd_same, by rw [List.length_append, List.length_singleton]; omega, ?_⟩
            · rw [upd_ne (ne_of_none e hD)]
              exact s1 b o e
            · rw [et, List.all_append, List.all_cons, cl, Bool.false_and, Bool.and_false]
              cases xs <;> rfl
        · rintro Hx ⟨s1, xs, eD, lx, ex⟩
          refine ⟨Nat.zero_le _, fun N hN => ?_⟩
          have s3 := Same.of_new (o := .lst []) hN
          refine ⟨D, N, xs, rfl, rfl, SqL.of (s3 _ _ eD), SqL.of upd_same, ?_⟩
          rw [List.take_of_length_le (by rw [e9]; exact Nat.le_refl _)] at ex
          have en : nameB z = xs.isEmpty := by
            unfold nameB
            rw [decide_eq_true d1, decide_eq_true d2, ex]
            rfl
          rw [← en]
          exact q _ (s1.trans s3)
      · refine fls ?_
        unfold nameB
        rw [show decide (z.length ≤ 8) = false from decide_eq_false fun h => c2 (decide_eq_true (by omega)), Bool.and_false, Bool.false_and]
    · refine ⟨_, rfl, iteF (fls ?_)⟩
      unfold nameB
      rw [show decide (1 ≤ z.length) = false from decide_eq_false fun h => c1 (decide_eq_true (by omega)), Bool.false_and, Bool.false_and]
end
end K10
end
section
set_option pp.maxSteps 400
set_option pp.deepTerms.threshold 6
/-! The law's own reading. -/
namespace K10
open PySem PySem.Spec PyProof.Rows L2
abbrev sRh : Stmt := top 36
/-- what is read from a place on -/
def stepR (ws : List Str) (f n : Nat) : Except Nat (List Pk) := if n = 0 then (match pickRead ws 0 with
    | .ok (d, m) => (match restPicks ws (f - 1) m with
      | .ok r => .ok (d :: r)
      | .error e => .error e)
    | .error e => .error e) else restPicks ws f n
theorem stepR_or {ws : List Str} {f n : Nat} (h : 0 < n) (h2 : n < ws.length) (h3 : pk ws n ≠ "or") : stepR ws (f + 1) n = .error n := by
  unfold stepR
  rw [if_neg (by omega), restPicks, if_pos h2, if_neg h3]
theorem stepR_end {ws : List Str} {f n : Nat} (h : 0 < n) (h2 : ws.length ≤ n) : stepR ws f n = .ok [] := by
  unfold stepR
  rw [if_neg (by omega)]
  cases f with
  | zero => rfl
  | succ f =>
    rw [restPicks, if_neg (by omega)]
theorem stepR_bad {ws : List Str} {f n j e : Nat} (hj : (n = 0 ∧ j = 0) ∨ (0 < n ∧ n < ws.length ∧ pk ws n = "or" ∧ j = n + 1)) (h : pickRead ws j = .error e) : stepR ws (f + 1) n = .error e := by
  unfold stepR
  rcases hj with ⟨rfl, rfl⟩ | ⟨h1, h2, h3, rfl⟩
  · rw [if_pos rfl, h]
  · rw [if_neg (by omega), restPicks, if_pos h2, if_pos h3, h]
theorem stepR_go {ws : List Str} {f n j m : Nat} {d : Pk} (hj : (n = 0 ∧ j = 0) ∨ (0 < n ∧ n < ws.length ∧ pk ws n = "or" ∧ j = n + 1)) (h : pickRead ws j = .ok (d, m)) : stepR ws (f + 1) n = (match stepR ws f m with | .ok r => .ok (d :: r) | .error e => .error e) := by
  have m0 := pickRead_next h
  have e : stepR ws f m = restPicks ws f m := by
    unfold stepR
    rw [if_neg (by omega)]
  rw [e]
  unfold stepR
  rcases hj with ⟨rfl, rfl⟩ | ⟨h1, h2, h3, rfl⟩
  · rw [if_pos rfl, h] <;> rfl
  · rw [if_neg (by omega), restPicks, if_pos h2, if_pos h3, h] <;> rfl
theorem stepR_all {ws : List Str} (h : pk ws 0 ≠ "-") : picksRead ws = stepR ws (ws.length + 2) 0 := by
  unfold picksRead stepR
  rw [if_neg h, if_pos rfl]
  rfl
theorem row_at {ws : List Str} {n : Nat} (h : n ≤ ws.length) : atI ((ws ++ [("" : Str)]).map V.str) ((n : Nat) : Int) = some (.str (pk ws n)) := by
  refine atI_nat ?_
  rw [List.getElem?_map]
  unfold pk
  rw [List.getD_eq_getElem?_getD]
  rcases Nat.lt_or_ge n ws.length with c | c
  · rw [List.getElem?_append_left c, List.getElem?_eq_getElem c]
    rfl
  · obtain rfl : n = ws.length := by omega
    rw [List.getElem?_append_right (Nat.le_refl _), Nat.sub_self, List.getElem?_eq_none (Nat.le_refl _)]
    rfl
theorem or_turn {c d : Bool} {A B W : Prop} (hw : (if d = true then A else B) → W) (hA : c = true ∨ d = true → A) (hB : c = false → d = false → B) : if c = true then (if true = true then A else B) else W := by
  cases c with
  | true => exact iteT (iteT (hA (.inl rfl)))
  | false =>
    refine iteF (hw ?_)
    cases d with
    | true => exact iteT (hA (.inr rfl))
    | false => exact iteF (hB rfl rfl)
theorem and_turn {c d : Bool} {A B W : Prop} (hw : (if d = true then A else B) → W) (hA : c = true → d = true → A) (hB : c = false ∨ d = false → B) : if c = true then W else (if false = true then A else B) := by
  cases c with
  | false => exact iteF (iteF (hB (.inl rfl)))
  | true =>
    refine iteT (hw ?_)
    cases d with
    | true => exact iteT (hA rfl rfl)
    | false => exact iteF (hB (.inr rfl))
def RhEnd (H : Hp) (Q : VK) (pre : List Pk) : Except Nat (List Pk) → Prop
  | .ok ps => ∀ L ks H', Same H H' → H' L = some (.lst (ks.map V.ref)) → PicksAt H' ks (pre ++ ps) → Q (.ref L) H'
  | .error e => ∀ H', Same H H' → Q (.int (e : Nat)) H'
def spRh : Sp := fun vs H Q _ => ∃ (l : Addr) (ws : List Str), vs = [.ref l] ∧ H l = some (.lst (ws.map V.str)) ∧ ws ≠ [] ∧ (∀ i, (pk ws i).length ≤ 1000) ∧ ws.length ≤ 1000 ∧ RhEnd H Q [] (picksRead ws)
/-- what stands at each turn -/
def RhInv (l F R : Addr) (ws : List Str) (H : Hp) (Q : VK) (f : Nat) (σ : L2.St) (Hx : Hp) : Prop := ∃ (n : Nat) (ks : List Addr) (done : List Pk) (x4 x5 : Option V), σ = [some (.ref l), some (.ref F), some (.int (n : Nat)), some (.ref R), x4, x5] ∧ ws.length + 1 < f + n ∧ Same H Hx ∧ Hx F = some (.lst (ks.map V.ref)) ∧ Hx R = some (.lst ((ws ++ [("" : Str)]).map V.str)) ∧ PicksAt Hx ks done ∧ done.length ≤ n ∧ n ≤ ws.length ∧ RhEnd H Q done (stepR ws f n)
section
variable {P : Program} {w : World} {K : PySem.W.Frag} {mg : Str → Option Value} {base : Heap}
abbrev nRh : List Str := ["_law_words_so", "_law_found", "_law_at", "_law_row_here", "_law_bay", "_law_keep"]
theorem scRh : FnScope nRh ["_law_words_so"] (defScope sRh) := ⟨rfl, rfl, rfl, by decide +kernel, rfl, by decide +kernel, by decide +kernel⟩
theorem ok_Rh {f fI : Addr} {fd fdI : FuncData} (F : Fun K "_law_read_here" "_law_read_here" sRh f fd) (F_isn : Fun K "_law_is_name" "_law_is_name" sIn15 fI fdI) (g_isn : mg "_law_is_name" = some (.ref fI)) (n_len : mg "len" = none) (n_int : mg "int" = none) : FnOk P w K mg base CX0 2 f fd ["_law_words_so"] spRh := by
  have G_isn : FnOk P w K mg base CX0 1 fI fdI ["_law_word_so"] spIn15 := ok_In15 F_isn n_len
  have b_isn : Binds K fdI ["_law_word_so"] [] := F_isn.binds fun _ _ _ _ _ _ us hl => match us, hl with | [_], _ => rfl
  refine F.ok scRh (fun vs H Q E h => ?_) (fun cdv A outer s H vs Q E hr h => ?_)
  · obtain ⟨l, ws, rfl, _⟩ := h
    rfl
  · obtain ⟨l, ws, rfl, el, wne, lw, lws, q⟩ := h
    have hr1 : Room 1 _ := hr
    refine ⟨_, (pss_cons (ps_if (pt_cmpR op_eq (pe_ix ix_list (pv 0) pe_int (fun _ _ => rfl)) pe_str (nomark _)) (pss_one (ps_ret (pe_ifExp (pt_cmpR op_eq (pe_callB call_len_seq (by rfl) n_len boot_len (pa_cons (pv 0) pa_nil)) pe_int (nomark _)) (pe_lst pa_nil) pe_int))) pss_nil)
    (pss_cons (ps_par3 (i := 1) (j := 2) (l := 3) (by rfl) scRh.nd rfl rfl rfl (by decide) (by decide) (by decide) rfl rfl rfl (pa_cons (pe_lst pa_nil) (pa_cons pe_int (pa_cons (pe_op op_cat (pv 0) (pe_lst (pa_cons pe_str pa_nil))) pa_nil))) (by rfl))
    (pss_cons (ps_while PassesOwn.never (PW.pt (pw_or (pt_cmpR op_eq (pv 2) pe_int (nomark _)) (pw_or1 (pt_cmpR op_lt (pv 2) (pe_callB call_len_seq (by rfl) n_len boot_len (pa_cons (pv 0) pa_nil)) (nomark _))))) (pss_cons (ps_if (PW.pt (pw_and (pt_cmpR op_gt (pv 2) pe_int (nomark _)) (pw_and1 (pt_cmpR op_ne (pe_ix ix_list (pv 3) (pv 2) (fun _ _ => rfl)) pe_str (nomark _))))) (pss_one (ps_ret (pv 2))) pss_nil)
    (pss_cons (ps_set (i := 2) scRh.nd rfl (Or.inl rfl) (pe_op op_add (pv 2) (pe_callTy call_int1 (by rfl) n_int (by decide +kernel) (pa_cons (pe_cmpR op_gt (pv 2) pe_int (nomark _)) pa_nil))))
    (pss_cons (ps_if (pt_not (pt_val (pe_call G_isn hr1 (by rfl) g_isn F_isn.kp b_isn .nil pass0 (pa_cons (pe_ix ix_list (pv 3) (pv 2) (fun _ _ => rfl)) pa_nil)))) (pss_one (ps_ret (pv 2))) pss_nil)
    (pss_cons (ps_par3 (i := 4) (j := 5) (l := 2) (by rfl) scRh.nd rfl rfl rfl (by decide) (by decide) (by decide) rfl rfl rfl (pa_cons (pe_ix ix_list (pv 3) (pv 2) (fun _ _ => rfl)) (pa_cons pe_int (pa_cons (pe_op op_add (pv 2) pe_int) pa_nil))) (by rfl))
    (pss_cons (ps_if (PW.pt (pw_and (pt_cmpR op_eq (pe_ix ix_list (pv 3) (pv 2) (fun _ _ => rfl)) pe_str (nomark _)) (pw_and1 (pt_cmpR op_lt (pv 2) (pe_callB call_len_seq (by rfl) n_len boot_len (pa_cons (pv 0) pa_nil)) (nomark _))))) (pss_cons (ps_if (pt_cmpR op_notIn_seq (pe_ix ix_list (pv 3) (pe_op op_add (pv 2) pe_int) (fun _ _ => rfl)) (pe_lst (pa_cons pe_str (pa_cons pe_str (pa_cons pe_str (pa_cons pe_str (pa_cons pe_str (pa_cons pe_str (pa_cons pe_str (pa_cons pe_str (pa_cons pe_str pa_nil)))))))))) (by rfl)) (pss_one (ps_ret (pe_op op_add (pv 2) pe_int))) pss_nil)
    (pss_one (ps_par (i := 5) (j := 2) (by rfl) scRh.nd rfl rfl (by decide) rfl rfl (pa_cons (pe_callTy call_int_str (by rfl) n_int (by decide +kernel) (pa_cons (pe_ix ix_list (pv 3) (pe_op op_add (pv 2) pe_int) (fun _ _ => rfl)) pa_nil)) (pa_cons (pe_op op_add (pv 2) pe_int) pa_nil)) (by rfl)))) pss_nil)
    (pss_one (ps_expr (pe_bm PySem.F.plainAttrs_list PySem.F.slot_list_append PySem.F.type_list_append mt_append (pv 1) (pa_cons (pe_tup (pa_cons (pv 4) (pa_cons (pv 5) pa_nil))) pa_nil))))))))))
    (pss_one (ps_ret (pv 1)))))), ?_⟩
    have sz := sizeLine_eq
    have l0 : 0 < ws.length := List.length_pos_iff.mpr wne
    have at0 : atI (ws.map V.str) 0 = some (.str (pk ws 0)) := by
      refine atI_nat (j := 0) ?_
      rw [List.getElem?_map, List.getElem?_eq_getElem l0]
      unfold pk
      rw [List.getD_eq_getElem?_getD, List.getElem?_eq_getElem l0]
      rfl
    refine ⟨_, rfl, l, _, 0, _, rfl, rfl, SqL.of el, at0, ?_⟩
    refine ⟨rfl, _, rfl, ?_⟩
    by_cases c0 : pk ws 0 = "-"
    · rw [show decide (V.str (pk ws 0) = V.str (Str.ofString "-")) = true from decide_eq_true (by rw [c0])]
      refine iteT ?_
      refine ⟨_, rfl, l, _, rfl, .inl (SqL.of el), rfl, _, rfl, ?_⟩
      rw [List.length_map]
      by_cases c1 : ws.length = 1
      · rw [show decide (V.int ((ws.length : Nat) : Int) = V.int 1) = true from decide_eq_true (by rw [c1]; rfl)]
        refine iteT ?_
        refine ⟨Nat.zero_le _, fun L hL => ?_⟩
        have e : picksRead ws = .ok [] := by
          unfold picksRead
          rw [if_pos c0, if_pos (by omega)]
        rw [e] at q
        exact q L [] _ (Same.of_new hL) upd_same PicksAt.nil
      · rw [show decide (V.int ((ws.length : Nat) : Int) = V.int 1) = false from decide_eq_false (fun h => c1 (by injection h; omega))]
        refine iteF ?_
        have e : picksRead ws = .error 1 := by
          unfold picksRead
          rw [if_pos c0, if_neg (by omega)]
        rw [e] at q
        exact q H (Same.refl H)
    · rw [show decide (V.str (pk ws 0) = V.str (Str.ofString "-")) = false from decide_eq_false (fun q => c0 (V.str.inj q))]
      refine iteF ?_
      rw [stepR_all c0] at q
      refine ⟨Nat.zero_le _, fun F0 hF => ?_⟩
      have u1 := Same.of_new (o := .lst []) hF
      refine ⟨_, rfl, by show (1 : Nat) ≤ sizeLine; omega, fun W1 hW => ?_⟩
      have u2 := Same.of_new (o := .lst [.str ""]) hW
      refine ⟨l, W1, _, _, rfl, rfl, u2 _ _ (u1 _ _ el), upd_same, by rw [List.length_map]; show _ + 1 ≤ _; omega, fun R hR => ?_⟩
      have u3 := Same.of_new (o := .lst (ws.map V.str ++ [V.str ""])) hR
      have uA := (u1.trans u2).trans u3
      have eF : upd (upd (upd H F0 (.lst [])) W1 (.lst [.str ""])) R (.lst (ws.map V.str ++ [V.str ""])) F0 = some (.lst []) := u3 _ _ (u2 _ _ upd_same)
      have hHF := hF
      refine ⟨_, _, _, rfl, ?_⟩
      refine ⟨RhInv l F0 R ws H Q, ⟨_, 0, [], [], none, none, rfl, by omega, uA, eF, by rw [List.map_append]; exact upd_same, PicksAt.nil, Nat.le_refl 0, Nat.zero_le _, q⟩, fun μ σ Hx ⟨n, ks, done, x4, x5, e2, hf, sx, eFx, eRx, pk1, ld, ln, hk⟩ => ?_⟩
      subst e2
      have elx := sx _ _ el
      obtain ⟨f', rfl⟩ : ∃ f', μ = f' + 1 := ⟨μ - 1, by omega⟩
      refine ⟨_, rfl, rfl, _, rfl, ?_⟩
      refine or_turn (c := decide (V.int ((n : Nat) : Int) = V.int 0)) (d := decide (((n : Nat) : Int) < ((ws.length : Nat) : Int))) (fun h => ⟨_, rfl, _, rfl, l, _, rfl, .inl (SqL.of elx), _, _, rfl, rfl, _, rfl, by rw [List.length_map]; exact h⟩) (fun c => ?_) (fun c1 c2 => ?_)
      · have c : n = 0 ∨ n < ws.length := by
          rcases c with c | c
          · have := of_decide_eq_true c
            injection this
            exact .inl (by omega)
          · have := of_decide_eq_true c
            exact .inr (by omega)
        refine ⟨RhInv l F0 R ws H Q f', fun σ' H' h => ⟨f', Nat.lt_succ_self _, h⟩, ?_⟩
        refine ⟨_, rfl, _, _, rfl, rfl, _, rfl, ?_⟩
        refine and_turn (c := decide ((0 : Int) < ((n : Nat) : Int))) (d := !decide (V.str (pk ws n) = V.str (Str.ofString "or"))) (fun h => ⟨_, rfl, _, rfl, R, _, _, _, rfl, rfl, SqL.of eRx, row_at ln, rfl, _, rfl, h⟩) (fun c1 c2 => ?_) (fun c1 => ?_)
        · have n0 : 0 < n := by
            have := of_decide_eq_true c1
            omega
          have no : pk ws n ≠ "or" := fun e => by
            rw [e] at c2
            exact absurd c2 (by decide +kernel)
          rw [stepR_or n0 (by omega) no] at hk
          exact ⟨_, rfl, hk Hx sx⟩
        · obtain ⟨j, hj, lj⟩ : ∃ j, ((n = 0 ∧ j = 0) ∨ (0 < n ∧ n < ws.length ∧ pk ws n = "or" ∧ j = n + 1)) ∧ j ≤ ws.length := by
            by_cases n0 : n = 0
            · exact ⟨0, .inl ⟨n0, rfl⟩, Nat.zero_le _⟩
            · have h1 : n < ws.length := c.resolve_left n0
              refine ⟨n + 1, .inr ⟨by omega, h1, ?_, rfl⟩, h1⟩
              rcases c1 with c1 | c1
              · have := of_decide_eq_false c1
                omega
              · have c1 : decide (V.str (pk ws n) = V.str (Str.ofString "or")) = true := by
                  cases h : decide (V.str (pk ws n) = V.str (Str.ofString "or")) with
                  | true => rfl
                  | false =>
                    rw [h] at c1
                    cases c1
                exact V.str.inj (of_decide_eq_true c1)
          have ej : ((n : Nat) : Int) + (if decide ((0 : Int) < ((n : Nat) : Int)) = true then 1 else 0) = ((j : Nat) : Int) := by
            rcases hj with ⟨rfl, rfl⟩ | ⟨h1, _, _, rfl⟩
            · rfl
            · rw [decide_eq_true (show (0 : Int) < ((n : Nat) : Int) by omega), if_pos rfl]
              omega
          refine ⟨_, rfl, _, rfl, _, _, rfl, rfl, .inr ⟨_, rfl, _, _, rfl, rfl, ?_⟩⟩
          have ejv : (fun (i j : Int) => V.int (i + j)) ((n : Nat) : Int) (if decide ((0 : Int) < ((n : Nat) : Int)) = true then 1 else 0) = V.int ((j : Nat) : Int) := congrArg V.int ej
          rw [ejv]
          refine ⟨_, rfl, _, rfl, R, _, _, _, rfl, rfl, SqL.of eRx, row_at lj, _, rfl, lw _, fun H1 s1 => ⟨_, rfl, ?_⟩⟩
          have sx1 := sx.trans s1
          cases cn : nameB (pk ws j) with
          | false =>
            refine iteT ?_
            have e : pickRead ws j = .error j := by
              unfold pickRead
              rw [if_neg (by rw [cn]; decide)]
            rw [stepR_bad hj e] at hk
            exact ⟨_, rfl, hk H1 sx1⟩
          | true =>
            refine iteF ?_
            have jl := name_in cn
            have inv : ∀ (m : Nat) (k : Int) (T : Addr) (H2 : Hp), pickRead ws j = .ok ((pk ws j, k), m) → Same H1 H2 → H2 T = none → RhInv l F0 R ws H Q f' [some (.ref l), some (.ref F0), some (.int (m : Nat)), some (.ref R), some (.str (pk ws j)), some (.int k)] (upd (upd H2 T (.tup [.str (pk ws j), .int k])) F0 (.lst (ks.map V.ref ++ [.ref T]))) := fun m k T H2 e s2 hT => by
              have m1 := pickRead_next e
              have m2 := pickRead_le e
              have sT := Same.of_new (o := .tup [.str (pk ws j), .int k]) hT
              have s12 := (s1.trans s2).trans sT
              have eF2 := s12 _ _ eFx
              have eR2 := s12 _ _ eRx
              have nRF : R ≠ F0 := fun e => by
                rw [e, eFx] at eRx
                have q5 := HO.lst.inj (Option.some.inj eRx)
                have q6 := congrArg (fun l => l[0]?) q5
                have q7 : ((ws ++ [("" : Str)]).map V.str)[0]? = some (.str (ws ++ [("" : Str)])[0]) := by
                  rw [List.getElem?_map, List.getElem?_eq_getElem (by rw [List.length_append]; omega)]
                  rfl
                have q8 := q6.trans q7
                have q8 : (ks.map V.ref)[0]? = _ := q8
                rw [List.getElem?_map] at q8
                obtain ⟨_, _, h⟩ := Option.map_eq_some_iff.mp q8
                cases h
              have hjn : n ≤ j := by
                rcases hj with ⟨rfl, rfl⟩ | ⟨_, _, _, rfl⟩ <;> omega
              refine ⟨m, ks ++ [T], done ++ [(pk ws j, k)], _, _, rfl, by omega, fun b o e => ?_, by rw [List.map_append]; exact upd_same, ?_, ?_, by rw [List.length_append, List.length_singleton]; omega, m2, ?_⟩
              · rw [upd_ne (ne_of_none e hHF)]
                exact sT _ _ (s2 _ _ (s1 _ _ (sx _ _ e)))
              · rw [upd_ne nRF]
                exact eR2
              · exact ((pk1.same (s1.trans s2)).same sT |>.snoc (k := T) (p := (pk ws j, k)) upd_same).upd fun xs e => by
                  rw [eF2] at e
                  cases e
              · rw [stepR_go hj e] at hk
                cases es : stepR ws f' m with
                | error e =>
                  rw [es] at hk
                  exact hk
                | ok r =>
                  rw [es] at hk
                  intro L' ks' H' q1 q2 q3
                  exact hk L' ks' H' q1 q2 (by rw [List.append_assoc] at q3; exact q3)
            have lks : ks.length = done.length := pk1.len
            have eR1 := s1 _ _ eRx
            refine ⟨_, rfl, _, rfl, R, _, _, _, rfl, rfl, SqL.of eR1, row_at lj, _, rfl, _, _, rfl, rfl, _, _, _, rfl, ?_⟩
            have app : ∀ (m : Nat) (k : Int) (H2 : Hp), pickRead ws j = .ok ((pk ws j, k), m) → Same H1 H2 → ∀ {D : L2.Ends}, (∀ H3, RhInv l F0 R ws H Q f' [some (.ref l), some (.ref F0), some (.int (m : Nat)), some (.ref R), some (.str (pk ws j)), some (.int k)] H3 → D.nx [some (.ref l), some (.ref F0), some (.int (m : Nat)), some (.ref R), some (.str (pk ws j)), some (.int k)] H3) → tDrop (tBM K "list" rAppend (tVar 1) (tCons (tTup (tCons (tVar 4) (tCons (tVar 5) tNil))) tNil)) D [some (.ref l), some (.ref F0), some (.int (m : Nat)), some (.ref R), some (.str (pk ws j)), some (.int k)] H2 := fun m k H2 e s2 D hD => by
              have eF2 := s2 _ _ (s1 _ _ eFx)
              refine ⟨_, rfl, .inl ⟨rfl, _, SqL.of eF2⟩, ?_⟩
              refine ⟨_, rfl, _, rfl, by show (2 : Nat) ≤ sizeLine; omega, fun T hT => ?_⟩
              refine ⟨F0, _, _, rfl, rfl, upd_keep2 eF2 hT, by rw [List.length_map]; omega, ?_⟩
              exact hD _ (inv m k T H2 e s2 hT)
            have ivd : ∀ z : Str, inV (.str z) (digL.map V.str) = decide (z ∈ digL) := fun z => in_strs _ _
            by_cases ck : pk ws (j + 1) = "keep"
            · have j1 : j + 1 < ws.length := pk_in (by rw [ck]; decide +kernel)
              have el1 := s1 _ _ elx
              refine ⟨_, rfl, _, rfl, R, _, _, _, rfl, rfl, SqL.of eR1, row_at (Nat.le_of_lt j1), rfl, _, rfl, ?_⟩
              rw [show decide (V.str (pk ws (j + 1)) = V.str (Str.ofString "keep")) = true from decide_eq_true (by rw [ck])]
              refine iteT ?_
              refine ⟨_, rfl, _, rfl, l, _, rfl, .inl (SqL.of el1), _, _, rfl, rfl, _, rfl, ?_⟩
              rw [List.length_map, show decide (((j : Nat) : Int) + 1 < ((ws.length : Nat) : Int)) = true from decide_eq_true (by omega)]
              refine iteT ?_
              have rj : atI ((ws ++ [("" : Str)]).map V.str) (((j : Nat) : Int) + 1 + 1) = some (.str (pk ws (j + 2))) := row_at (n := j + 2) (by omega)
              refine ⟨_, rfl, _, rfl, _, _, rfl, rfl, R, _, _, _, rfl, rfl, SqL.of eR1, rj, ?_⟩
              refine ⟨by show (9 : Nat) ≤ sizeLine; omega, fun L9 h9 => ?_⟩
              have s9 := Same.of_new (o := .lst (digL.map V.str)) h9
              refine ⟨L9, _, rfl, .inl (SqL.of upd_same), rfl, rfl, _, rfl, ?_⟩
              by_cases cd : pk ws (j + 2) ∈ digL
              · rw [show inV (.str (pk ws (j + 2))) [V.str "1", V.str "2", V.str "3", V.str "4", V.str "5", V.str "6", V.str "7", V.str "8", V.str "9"] = true from (ivd _).trans (decide_eq_true cd)]
                refine iteF ?_
                obtain ⟨d1, d2, d3, d4⟩ := dig_num _ cd
                have e : pickRead ws j = .ok ((pk ws j, ((numN (pk ws (j + 2)) : Nat) : Int)), j + 3) := by
                  unfold pickRead
                  rw [if_pos cn, if_pos ck, if_pos cd]
                refine ⟨_, rfl, _, rfl, _, _, rfl, rfl, R, _, _, _, rfl, rfl, SqL.of (s9 _ _ eR1), rj, _, _, rfl, int_of_num d1 d2, by omega, _, rfl, _, _, rfl, rfl, _, _, rfl, ?_⟩
                exact app (j + 3) _ _ e s9 fun H3 h => h
              · rw [show inV (.str (pk ws (j + 2))) [V.str "1", V.str "2", V.str "3", V.str "4", V.str "5", V.str "6", V.str "7", V.str "8", V.str "9"] = false from (ivd _).trans (decide_eq_false cd)]
                refine iteT ?_
                have e : pickRead ws j = .error (j + 2) := by
                  unfold pickRead
                  rw [if_pos cn, if_pos ck, if_neg cd]
                rw [stepR_bad hj e] at hk
                exact ⟨_, rfl, _, _, rfl, rfl, hk _ (sx1.trans s9)⟩
            · have e : pickRead ws j = .ok ((pk ws j, 0), j + 1) := by
                unfold pickRead
                rw [if_pos cn, if_neg ck]
              refine ⟨_, rfl, _, rfl, R, _, _, _, rfl, rfl, SqL.of eR1, row_at jl, rfl, _, rfl, ?_⟩
              rw [show decide (V.str (pk ws (j + 1)) = V.str (Str.ofString "keep")) = false from decide_eq_false (fun q => ck (V.str.inj q))]
              refine iteF ?_
              refine iteF ?_
              exact app (j + 1) 0 H1 e (Same.refl _) fun H3 h => h
      · have n0 : 0 < n := by
          have := of_decide_eq_false c1
          rcases Nat.eq_zero_or_pos n with e | e
          · exact absurd (by rw [e]; rfl) this
          · exact e
        have n1 : ws.length ≤ n := by
          have := of_decide_eq_false c2
          omega
        rw [stepR_end n0 n1] at hk
        exact ⟨_, rfl, hk F0 ks Hx sx eFx (by rw [List.append_nil]; exact pk1)⟩
end
end K10
end
section
/-! Own: a lambda handed to a def of the text by its name; what stays meanwhile. -/
namespace OwE
open PySem PySem.Spec PyProof.Rows L2
theorem pe_lam {X : Cx} {x a q : Str} {sH : Stmt} {g c Pt : Addr} {gd : FuncData} {Ng : List Str} {TT : (XK → Hp → VK → Prop) → Hp → VK → Prop} {k : Nat} {params : Arguments} {body : Expr} {scope : Scope} {t : XK → TE} {p lpos pos : Pos}
    (hg : Gl X x) (F : Fun X.K x x sH g gd) (hm : X.mg x = some (.ref g)) (hb : L2.Binds X.K gd [a] []) (Sg : FnScope Ng [a] (defScope sH)) (hNg : Ng[0]? = some a) (hva : Vis (defScope sH) a) (hq : X.env.qual ++ "<lambda>" = q)
    (hG : ∀ cdv, LamX.GivesTo X Ng x (defScope sH) g cdv (defBody sH) a q TT) (TB : LamX.TabB X.base X.mg c Pt) (hcode : X.env.code = .ref c) (hr : Room (k + 2) X.A) (L : LamX.LamS X.env.scope scope)
    (hbody : ∀ (A : Around) (outer : List Env) (s : Shared) (H : Hp) (E : XK) (f c' : Addr), Room k (A.deeper (LamX.lamEnv X scope s.heap.objs.size f c')) → PE (LamX.lamCx X A outer s H E scope f c') body (t E))
    (hdef : defaultsOf params X.env = ([], []) := by rfl) (hbind : ∀ (q : Str) (cl : List (Str × Addr)) (pm cv ctv : Value), bindArgs (PySem.W.kla_fn "<lambda>" q params body scope cl pm cv ctv) ⟨[], []⟩ = pure [] := by intros; rfl)
    (hdb : (x == ("__debug__" : Str)) = false := by decide) (hd : (a == ("__debug__" : Str)) = false := by decide) (hcd : (a == ("__classdict__" : Str)) = false := by decide) :
    PE X (.Call (.Name x p) [.Lambda params body scope lpos] [] pos) (LamX.tLam [(Pt, q)] TT t) := by
  subst hq
  obtain ⟨oc, od, kV, doc, pm, an, cdv, ct, osl, rfl, lk, hcdv⟩ := F.ex
  exact LamX.pe_lamcall hg hm F.kp lk hcdv hb Sg hNg hva (hG cdv) TB hcode (List.mem_singleton.mpr rfl) (fun p hp _ => by rw [List.mem_singleton.mp hp]) hr L hdef hbind hbody hdb hd hcd
/-- what is wished may lean on the number of slots -/
theorem takes_len {X : Cx} {W : WX} (t : Takes X W) : Takes X (fun c d σ H => σ.length = X.N.length → W c d σ H) := fun u s' ⟨a, B, sI, pins, σ, H, cls, d, e, I, nb, up, sky, na, os, ag, w⟩ =>
  t u s' ⟨a, B, sI, pins, σ, H, cls, d, e, I, nb, up, sky, na, os, ag, w I.len⟩
theorem set_get {σ : L2.St} {n i : Nat} {v : Option V} (h : σ.length = n) (hi : i < n) : (σ.set i v)[i]? = some v := by
  rw [List.getElem?_set_self (by omega)]
end OwE
namespace K10
open PySem PySem.Spec PyProof.Rows L2
/-- all but the pen and the tables of code stay -/
def Lo (p : Addr) (H H' : Hp) : Prop := ∀ b o, b ≠ p → (∀ ps, o ≠ .tbl ps) → H b = some o → H' b = some o
theorem Lo.refl (p : Addr) (H : Hp) : Lo p H H := fun _ _ _ _ h => h
theorem Lo.trans {p : Addr} {H H1 H2 : Hp} (a : Lo p H H1) (b : Lo p H1 H2) : Lo p H H2 := fun c o n t h => b c o n t (a c o n t h)
theorem But.lo {p : Addr} {H H' : Hp} (s : But p H H') : Lo p H H' := fun b o n _ h => s b o n h
theorem Same.lo {H H' : Hp} (p : Addr) (s : Same H H') : Lo p H H' := fun b o _ _ h => s b o h
theorem extN_lo {H H' : Hp} (p : Addr) (s : LamX.ExtN H H') : Lo p H H' := fun b o _ t h => s b o h t
theorem PenAt.ext {H H' : Hp} {p c : Addr} {ns : List Int} {n : Nat} {z : Int} (P : PenAt H p c ns n z) (s : LamX.ExtN H H') : PenAt H' p c ns n z := ⟨s _ _ P.pen (fun ps h => by cases h), s _ _ P.cells (fun ps h => by cases h), P.few, P.rest⟩
theorem PenAt.lo {H H' : Hp} {p c : Addr} {ns : List Int} {n : Nat} {z : Int} (P : PenAt H p c ns n z) (s : Lo p H H') (hp : H' p = H p) : PenAt H' p c ns n z := ⟨hp.trans P.pen, s _ _ P.ne (fun ps h => by cases h) P.cells, P.few, P.rest⟩
theorem PenAt.ne_of {H : Hp} {p c : Addr} {ns : List Int} {n : Nat} {z : Int} (P : PenAt H p c ns n z) {b : Addr} {o : HO} (h : H b = Option.some o) (d : ∀ (c : Addr) (n z : Int), o ≠ .lst [.ref c, .int n, .int z]) : b ≠ p := fun q => by
  rw [q, P.pen] at h
  exact d _ _ _ (Option.some.inj h).symm
theorem tabs_but {T : List (Addr × Str)} {H H' : Hp} {p c : Addr} {ns : List Int} {n : Nat} {z : Int} (t : LamX.Tabs T H) (P : PenAt H p c ns n z) (s : But p H H') : LamX.Tabs T H' := fun e he => by
  obtain ⟨ps, h1, h2, h3⟩ := t e he
  have np : ∀ {b : Addr} {o : HO}, H b = some o → (∀ xs, o ≠ .lst xs) → b ≠ p := fun {b o} h d q => by
    rw [q, P.pen] at h
    exact d _ (Option.some.inj h).symm
  refine ⟨ps, s _ _ (np h1 fun xs h => by cases h) h1, h2, fun pos cv hc => ?_⟩
  obtain ⟨c2, e1, e2⟩ := h3 pos cv hc
  exact ⟨c2, e1, s _ _ (np e2 fun xs h => by
    unfold LamX.CodeO at h
    cases h) e2⟩
theorem tabs_put {T : List (Addr × Str)} {H : Hp} {l : Addr} {xs : List V} {o : HO} (t : LamX.Tabs T H) (h : H l = some (.lst xs)) : LamX.Tabs T (upd H l o) := fun e he => by
  obtain ⟨ps, h1, h2, h3⟩ := t e he
  have np : ∀ {b : Addr} {o : HO}, H b = some o → (∀ xs, o ≠ .lst xs) → b ≠ l := fun {b o} e d q => by
    rw [q, h] at e
    exact d _ (Option.some.inj e).symm
  refine ⟨ps, by rw [upd_ne (np h1 fun xs h => by cases h)]; exact h1, h2, fun pos cv hc => ?_⟩
  obtain ⟨c2, e1, e2⟩ := h3 pos cv hc
  have n2 : c2 ≠ l := np e2 fun xs h => by
    unfold LamX.CodeO at h
    cases h
  exact ⟨c2, e1, by rw [upd_ne n2]; exact e2⟩
theorem PenAt.lput {H : Hp} {p c l : Addr} {ns : List Int} {n : Nat} {z : Int} {s : Str} {xs : List V} {o : HO} (P : PenAt H p c ns n z) (nl : l ≠ p) (h : H l = Option.some (.lst (.str s :: xs))) : PenAt (upd H l o) p c ns n z := by
  refine P.put (Ne.symm nl) fun q => ?_
  rw [← q, P.cells] at h
  cases ns with
  | nil => cases h
  | cons a r => cases h
theorem tabs_same {T : List (Addr × Str)} {H H' : Hp} (t : LamX.Tabs T H) (s : Same H H') : LamX.Tabs T H' := t.ext fun b o h => s b o h
end K10
end
section
/-! Own: lambdas of several defs, each with its table; rules and rows where the pen moves. -/
namespace OwE
open PySem PySem.Spec PyProof.Rows L2
theorem pe_lamT {X : Cx} {T : List (Addr × Str)} {x a q : Str} {sH : Stmt} {g c Pt : Addr} {gd : FuncData} {Ng : List Str} {TT : (XK → Hp → VK → Prop) → Hp → VK → Prop} {k : Nat} {params : Arguments} {body : Expr} {scope : Scope} {t : XK → TE} {p lpos pos : Pos}
    (hg : Gl X x) (F : Fun X.K x x sH g gd) (hm : X.mg x = some (.ref g)) (hb : L2.Binds X.K gd [a] []) (Sg : FnScope Ng [a] (defScope sH)) (hNg : Ng[0]? = some a) (hva : Vis (defScope sH) a) (hq : X.env.qual ++ "<lambda>" = q)
    (hG : ∀ cdv, LamX.GivesTo X Ng x (defScope sH) g cdv (defBody sH) a q TT) (TB : LamX.TabB X.base X.mg c Pt) (hcode : X.env.code = .ref c) (mem : (Pt, q) ∈ T) (one : ∀ p ∈ T, p.1 = Pt → p.2 = q) (hr : Room (k + 2) X.A) (L : LamX.LamS X.env.scope scope)
    (hbody : ∀ (A : Around) (outer : List Env) (s : Shared) (H : Hp) (E : XK) (f c' : Addr), Room k (A.deeper (LamX.lamEnv X scope s.heap.objs.size f c')) → PE (LamX.lamCx X A outer s H E scope f c') body (t E))
    (hdef : defaultsOf params X.env = ([], []) := by rfl) (hbind : ∀ (q : Str) (cl : List (Str × Addr)) (pm cv ctv : Value), bindArgs (PySem.W.kla_fn "<lambda>" q params body scope cl pm cv ctv) ⟨[], []⟩ = pure [] := by intros; rfl)
    (hdb : (x == ("__debug__" : Str)) = false := by decide) (hd : (a == ("__debug__" : Str)) = false := by decide) (hcd : (a == ("__classdict__" : Str)) = false := by decide) :
    PE X (.Call (.Name x p) [.Lambda params body scope lpos] [] pos) (LamX.tLam T TT t) := by
  subst hq
  obtain ⟨oc, od, kV, doc, pm, an, cdv, ct, osl, rfl, lk, hcdv⟩ := F.ex
  exact LamX.pe_lamcall hg hm F.kp lk hcdv hb Sg hNg hva (hG cdv) TB hcode mem one hr L hdef hbind hbody hdb hd hcd
end OwE
namespace K10
open PySem PySem.Spec PyProof.Rows L2
section
variable {H H' : Hp} {p c : Addr} {ns : List Int} {n : Nat} {z : Int}
theorem lo_tup (P : PenAt H p c ns n z) (s : Lo p H H') {k : Addr} {xs : List V} (e : H k = some (.tup xs)) : H' k = some (.tup xs) := s k _ (fun q => by rw [q, P.pen] at e; cases e) (fun ps h => by cases h) e
theorem lo_ins (P : PenAt H p c ns n z) (s : Lo p H H') {k C dx : Addr} {fs : List (Str × V)} (e : H k = some (.ins C dx fs)) : H' k = some (.ins C dx fs) := s k _ (fun q => by rw [q, P.pen] at e; cases e) (fun ps h => by cases h) e
theorem lo_dK (P : PenAt H p c ns n z) (s : Lo p H H') {k : Addr} {kvs : List (Key × V)} (e : H k = some (.dK kvs)) : H' k = some (.dK kvs) := s k _ (fun q => by rw [q, P.pen] at e; cases e) (fun ps h => by cases h) e
theorem lo_refs (P : PenAt H p c ns n z) (s : Lo p H H') {k : Addr} {ks : List Addr} (e : H k = some (.lst (ks.map V.ref))) : H' k = some (.lst (ks.map V.ref)) := s k _ (P.ne_of e fun c n z h => by
  have h := HO.lst.inj h
  match ks, h with
  | [_, _, _], h => cases h) (fun ps h => by cases h) e
theorem PicksAt.lo {ks : List Addr} {ps : List Pk} (h : PicksAt H ks ps) (P : PenAt H p c ns n z) (s : Lo p H H') : PicksAt H' ks ps := h.mono fun k xs e => lo_tup P s e
theorem RuleAt.lo {C a : Addr} {ps : List Pk} (h : RuleAt C H a ps) (P : PenAt H p c ns n z) (s : Lo p H H') : RuleAt C H' a ps := by
  obtain ⟨dx, fs, q, ks, h1, h2, h3, h4, D, b, r, zs, m⟩ := h
  exact ⟨dx, fs, q, ks, lo_ins P s h1, h2, lo_tup P s h3, h4.lo P s, D, b, r, zs, m.lm, m.lk, m.lb, lo_dK P s m.eD, m.tb, lo_tup P s m.eb, m.nd, m.mem, m.srt⟩
end
end K10
end
section
/-! Own: a class method called by keywords alone. -/
namespace OwR
open PySem PySem.Spec PyProof.Rows L2 ClX
def tCMethK (C : Addr) (sp : List V → Sp) (E : XK) (ta : TE) (tk : TA) : TE := fun σ H Q => ta σ H fun x H1 => x = .ref C ∧ tk σ H1 fun zs H2 => sp zs [.ref C] H2 Q E
theorem pe_cmethK {X : Cx} {CX : CXT} {k : Nat} {C p g : Addr} {mc : Value} {ks : List Str} {sp : List V → Sp} {E : XK} {o : Expr} {m : Str} {pos apos : Pos} {ta : TE} {tk : TA} {kws : List Keyword} {pl : Sem Bool} (he : PE X o ta) (r : CRead X.K C mc) (c : CMet X.K C mc m p g) (F : FnRK X.prog X.w X.K X.mg X.base CX k g ks sp) (hr : Room k X.A) (hx : Passes CX X E) (hkw : PK X kws tk)
    (hall : (backToKw pos (keywordEach kws X.env)).all (·.1.isSome) = true := by rfl) (hks : (backToKw pos (keywordEach kws X.env)).filterMap (·.1) = ks := by rfl) (hpl : ((backTo pos (starEach [] X.env)).any (·.1) || (backToKw pos (keywordEach kws X.env)).any (·.1.isNone)) = false := by rfl)
    (ht : eval (.Call (.Attribute o m apos) [] kws pos) X.env = (do
      let ov ← eval o X.env
      standAt apos.atName
      let (f, first) ← holding [ov] (getMethod ov m pl)
      callWith pos f first (backTo pos (starEach [] X.env)) (backToKw pos (keywordEach kws X.env))) := by rfl) :
    PE X (.Call (.Attribute o m apos) [] kws pos) (tCMethK C sp E ta tk) := by
  refine ⟨fun pins s σ H Q I h => ?_⟩
  refine PySem.W.methodCall_KW (pl := pl) (thn (he.run pins s σ H _ I h) fun u s1 ⟨x, H1, I1, rx, ex, q⟩ => ?_) ht
  subst ex
  obtain rfl : u = Value.ref C := rx
  refine getmethcm_ok I1 r c fun s2 I2 => ?_
  show wpAny (model X.prog X.w) X.A (callWith pos (.ref s1.heap.objs.size) [] (backTo pos (starEach [] X.env)) (backToKw pos (keywordEach kws X.env))) (EP X pins σ Q) X.xe s2
  refine PySem.W.callWith_of (P := PySem.W.MethP X.K s1.heap.objs.size g (.ref C)) hpl (PySem.W.keeps_M c.fi) (PyProof.Rows.evalArgs_kw2_nil hall (thn (hkw.run pos _ s2 σ H1 _ I2 q) fun ws s3 ⟨zs, H2, I3, rz, q2⟩ => ⟨⟨pin_at I3, I3.kIn⟩, ?_⟩))
  rw [hks]
  have z : wpAny (model X.prog X.w) X.A (call (.ref s1.heap.objs.size) [] (ks.zip ws)) (EP X ((s1.heap.objs.size, PySem.W.methodObj (.ref g) (.ref C)) :: pins) σ Q) X.xe s3 := by
    refine wpAny_call (PySem.W.method_call (pin_at I3) (codeAny_mono (F X.A X.stack s3 H2 [.ref C] ws [.ref C] zs Q E hr I3.env0 (.cons rfl .nil) rz q2) fun r s' hq => ?_))
    cases r with
    | error er => exact hx _ σ H2 s3 er s' I3 hq
    | ok fl =>
      cases fl with
      | ret u => exact I3.after hq
      | next => exact False.elim hq
      | brk => exact False.elim hq
      | cont => exact False.elim hq
  exact thn z fun _ _ y => unpinE y
end OwR
end
section
set_option pp.maxSteps 400
set_option pp.deepTerms.threshold 6
/-! Words made, and what their methods do. -/
namespace K10
open PySem PySem.Spec PyProof.Rows L2
abbrev sWInit : Stmt := mth 15 0
def spWI (K : PySem.W.Frag) (C CT : Addr) : Sp := fun vs H Q E => ∃ (o dx : Addr) (v : V) (ln : Nat), vs = [.ref o, v, .int (ln : Nat)] ∧ H o = some (.ins C dx []) ∧ ((∃ z : Str, v = .str z ∧ z.length + 2 ≤ sizeLine ∧ ∀ H', But o H H' → WAt C H' o (Txt.split z " ") ln 0 → Q .non H') ∨ (NoStr K H v ∧ TextErr CT H E 0 0))
section
variable {P : Program} {w : World} {K : PySem.W.Frag} {mg : Str → Option Value} {base : Heap} {C CT fMo fPk fCk fSt fTw fTn fEn : Addr}
abbrev nWI : List Str := ["self", "text", "line"]
theorem scWI : FnScope nWI ["self", "text", "line"] (defScope sWInit) := ⟨rfl, rfl, rfl, by decide +kernel, rfl, by decide +kernel, by decide +kernel⟩
theorem ok_WI {f fK : Addr} {fd fdK : FuncData} (W : WC K C fMo fPk fCk fSt fTw fTn fEn) (F : FunD K "__init__" "Words.__init__" (defArgs sWInit) (defBody sWInit) (defScope sWInit) [.int 0] [] f fd) (TK : ErrT K mg "BadText" CT fK) (hl : PySem.W.findIn K (.ref CT) "line" = some none) (hw : PySem.W.findIn K (.ref CT) "word" = some none) (FK : Fun K "__init__" "BadText.__init__" sBadText0 fK fdK) (N2 : Nm2 mg) : FnOk P w K mg base (L2.CX P w) 3 f fd ["self", "text", "line"] (spWI K C CT) := by
  have n_isinstance := N2.n_isinstance
  have n_str := N2.n_str
  have GK : FnOk P w K mg base CX0 1 fK fdK ["self", "line", "word"] (OwE.spErr2 K "line" "word") := ok_badtext FK
  have bK : Binds K fdK ["self", "line", "word"] [] := FK.binds fun _ _ _ _ _ _ us hl => match us, hl with | [_, _, _], _ => rfl
  refine F.ok (CX := L2.CX P w) scWI (fun vs H Q E h => ?_) (fun cdv A outer s H vs Q E hr h => ?_)
  · obtain ⟨o, dx, v, ln, rfl, _⟩ := h
    rfl
  · obtain ⟨o, dx, v, ln, rfl, ho, h⟩ := h
    have hr2 : Room 2 _ := hr
    refine ⟨_, (pss_cons (ps_if (pt_not (pt_val (pe_callB call_isi (by rfl) n_isinstance (by decide +kernel) (pa_cons (pv 1) (pa_cons (pe_bltn (v := .ty "str") (by rfl) n_str (by decide +kernel) rfl) pa_nil))))) (pss_one (ps_raise rfl (takes_of rfl rfl rfl rfl) (pmk_oex TK.er.ox TK.ini TK.ty GK hr2 bK .nil pass0 (by rfl) TK.g (pa_cons pe_int (pa_cons pe_int pa_nil))))) pss_nil)
    (pss_cons (ps_fld (pv 0) (pe_split (pv 1) pe_str) rfl)
    (pss_cons (ps_fld (pv 0) (pv 2) rfl)
    (pss_one (ps_fld (pv 0) pe_int rfl))))), ?_⟩
    rcases h with ⟨z, rfl, lz, q⟩ | ⟨⟨t, ty, kt⟩, q⟩
    · refine ⟨_, rfl, .str z, .ty "str", _, _, true, rfl, .ty _, .base (.str z), kit_ty (by decide +kernel), true, rfl, ?_⟩
      refine iteF ?_
      refine ⟨_, rfl, ⟨_, rfl⟩, z, " ", rfl, rfl, by decide +kernel, lz, fun l hl0 => ?_⟩
      have no : l ≠ o := fun e => by
        rw [e, ho] at hl0
        cases hl0
      have u1 := Same.of_new (o := .lst ((Txt.split z " ").map V.str)) hl0
      refine ⟨_, rfl, o, C, dx, [], rfl, u1 _ _ ho, W.cls, W.nW, by show (0 : Nat) < 1000; decide, ?_⟩
      refine ⟨_, rfl, _, rfl, o, C, dx, _, rfl, upd_same, W.cls, W.nL, by show (1 : Nat) < 1000; decide, ?_⟩
      refine ⟨_, rfl, o, C, dx, _, rfl, upd_same, W.cls, W.nA, by show (2 : Nat) < 1000; decide, ?_⟩
      refine q _ (fun b u nb e => ?_) ⟨dx, _, l, upd_same, rfl, rfl, rfl, ?_, fun m hm => ?_, by show (3 : Nat) ≤ 900; decide⟩
      · rw [upd_ne nb, upd_ne nb, upd_ne nb]
        exact u1 _ _ e
      · rw [upd_ne no, upd_ne no, upd_ne no]
        exact upd_same
      · have k : ∀ m ∈ wNames, m ≠ "_at" ∧ m ≠ "_line" ∧ m ≠ "_words" := by decide +kernel
        obtain ⟨k1, k2, k3⟩ := k m hm
        rw [lookup_putF, if_neg k1, lookup_putF, if_neg k2, lookup_putF, if_neg k3]
        rfl
    · refine ⟨_, rfl, v, .ty "str", _, _, false, rfl, .ty _, ty, kt, false, rfl, ?_⟩
      refine iteT ?_
      exact OwE.mk_err2 TK.er.ox hl hw fun d hd => q d hd
/-- what the methods of words do -/
structure WF (P : Program) (w : World) (K : PySem.W.Frag) (mg : Str → Option Value) (base : Heap) (C CT fMo fPk fCk fSt fTw fTn fEn : Addr) : Prop where
  W : WC K C fMo fPk fCk fSt fTw fTn fEn
  g_more : ∃ fd, FnOk P w K mg base CX0 1 fMo fd ["self"] (spMore C) ∧ Binds K fd ["self"] []
  g_peek : ∃ fd, FnOk P w K mg base CX0 2 fPk fd ["self"] (spPeek C) ∧ Binds K fd ["self"] []
  g_step : ∃ fd, FnOk P w K mg base CX0 3 fSt fd ["self"] (spStep C) ∧ Binds K fd ["self"] []
  g_tw : ∃ fd, FnOk P w K mg base (L2.CX P w) 4 fTw fd ["self", "choices"] (spTw K C CT) ∧ Binds K fd ["self", "choices"] []
  g_tn : ∃ fd ds, FnOk P w K mg base (L2.CX P w) 4 fTn fd ["self", "above"] (spTn C CT) ∧ Binds K fd ["self", "above"] ds ∧ Vals [.str ""] ds
  g_en : ∃ fd, FnOk P w K mg base (L2.CX P w) 4 fEn fd ["self"] (spEnd C CT) ∧ Binds K fd ["self"] []
theorem tn_binds {fd : FuncData} (F : FunD K "take_name" "Words.take_name" (defArgs sWTn) (defBody sWTn) (defScope sWTn) [.str ""] [] fTn fd) : ∃ ds, Vals [.str ""] ds ∧ Binds K fd ["self", "above"] ds :=
  F.binds1 (ps := ["self", "above"]) 1 0 (by simp) rfl fun T kV doc pm an cdv ct us its hu hi => match us, its, hu, hi with | [_], [_], _, _ => ⟨_, rfl, rfl⟩
def ErrB (CT o : Addr) (H : Hp) (E : XK) (ln n : Nat) : Prop := ∀ H' d, But o H H' → H' d = none → E (.ref CT) (some d) (upd H' d (.xd [("word", .int (n : Nat)), ("line", .int (ln : Nat))]))
end
end K10
end
section
set_option pp.maxSteps 400
set_option pp.deepTerms.threshold 6
/-! Rules read from words. -/
namespace K10
open PySem PySem.Spec PyProof.Rows L2
abbrev sPf : Stmt := top 27
abbrev sPs : Stmt := top 26
abbrev sRt : Stmt := top 25
/-- with the numbers -/
structure WFN (P : Program) (w : World) (K : PySem.W.Frag) (mg : Str → Option Value) (base : Heap) (C CT fMo fPk fCk fSt fTw fTn fEn fNu : Addr) : Prop where
  f : WF P w K mg base C CT fMo fPk fCk fSt fTw fTn fEn
  m_nu : Meth K C "take_number" fNu
  g_nu : ∃ fd, FnOk P w K mg base (L2.CX P w) 4 fNu fd ["self", "least", "most"] (spNu C CT) ∧ Binds K fd ["self", "least", "most"] []
def spPf (C CT : Addr) : Sp := fun vs H Q E => ∃ (o : Addr) (ws : List Str) (ln n : Nat), vs = [.ref o] ∧ WAt C H o ws ln n ∧ (∀ i, (pk ws i).length ≤ 1000) ∧ (match pickRead ws n with
  | .ok (p, m) => ∀ t H', But o H H' → WAt C H' o ws ln m → TupAt H' t p → Q (.ref t) H'
  | .error e => ErrB CT o H E ln e)
theorem num_dig (z : Str) : (∃ k : Nat, numO z = some k ∧ inB 1 (some 9) k = true ∧ z ∈ digL ∧ k = numN z) ∨ ((∀ k, numO z = some k → inB 1 (some 9) k = false) ∧ z ∉ digL) := by
  cases e : digO z with
  | some k =>
    obtain ⟨a, b⟩ := dig_in e
    unfold digO at e
    cases e2 : numO z with
    | none =>
      rw [e2] at e
      cases e
    | some j =>
      rw [e2] at e
      dsimp only at e
      by_cases c : inB 1 (some 9) j = true
      · rw [if_pos c] at e
        cases e
        exact .inl ⟨_, rfl, c, a, b⟩
      · rw [if_neg c] at e
        cases e
  | none =>
    refine .inr ⟨fun k hk => ?_, fun m => ?_⟩
    · unfold digO at e
      rw [hk] at e
      dsimp only at e
      by_cases c : inB 1 (some 9) k = true
      · rw [if_pos c] at e
        cases e
      · exact Bool.eq_false_iff.mpr c
    · rw [dig_of z m] at e
      cases e
section
variable {P : Program} {w : World} {K : PySem.W.Frag} {mg : Str → Option Value} {base : Heap} {C CT fMo fPk fCk fSt fTw fTn fEn fNu : Addr}
abbrev nPf : List Str := ["words", "bay"]
theorem scPf : FnScope nPf ["words"] (defScope sPf) := ⟨rfl, rfl, rfl, by decide +kernel, rfl, by decide +kernel, by decide +kernel⟩
theorem ok_Pf {f : Addr} {fd : FuncData} (F : Fun K "pick_from" "pick_from" sPf f fd) (WN : WFN P w K mg base C CT fMo fPk fCk fSt fTw fTn fEn fNu) : FnOk P w K mg base (L2.CX P w) 6 f fd ["words"] (spPf C CT) := by
  have WW := WN.f
  have W := WW.W
  have m_take_number := WN.m_nu
  obtain ⟨_, G_take_number, b_take_number⟩ := WN.g_nu
  obtain ⟨_, G_peek, b_peek⟩ := WW.g_peek
  obtain ⟨_, G_step, b_step⟩ := WW.g_step
  obtain ⟨_, ds, G_take_name, b_take_name, d_take_name⟩ := WW.g_tn
  refine F.okX scPf (fun vs H Q E h => ?_) (fun cdv A outer s H vs Q E hr h => ?_)
  · obtain ⟨o, ws, ln, n, rfl, _⟩ := h
    rfl
  · obtain ⟨o, ws, ln, n, rfl, wa, lw, h⟩ := h
    have hr5 : Room 5 _ := hr
    have h_take_name := hr5.mono (show 4 ≤ 5 by decide)
    have h_take_number := hr5.mono (show 4 ≤ 5 by decide)
    have h_peek := hr5.mono (show 2 ≤ 5 by decide)
    have h_step := hr5.mono (show 3 ≤ 5 by decide)
    have sz := sizeLine_eq
    obtain ⟨dx, fs, l, h1, h2, h3, h4, h5, h6, h7⟩ := id wa
    refine ⟨_, (pss_cons (ps_set (i := 1) scPf.nd rfl (Or.inl rfl) (pe_meth0 (pv 0) W.cls W.m_take_name G_take_name h_take_name b_take_name d_take_name (passes_call (takes_of rfl rfl rfl rfl) (fun _ _ _ _ h => h))))
    (pss_cons (ps_if (pt_cmpR op_ne (pe_meth0 (pv 0) W.cls W.m_peek G_peek h_peek b_peek .nil pass0) pe_str (nomark _)) (pss_one (ps_ret (pe_tup (pa_cons (pv 1) (pa_cons pe_int pa_nil))))) pss_nil)
    (pss_cons (ps_expr (pe_meth0 (pv 0) W.cls W.m_step G_step h_step b_step .nil pass0))
    (pss_one (ps_ret (pe_tup (pa_cons (pv 1) (pa_cons (pe_meth (pv 0) W.cls m_take_number G_take_number h_take_number b_take_number .nil (passes_call (takes_of rfl rfl rfl rfl) (fun _ _ _ _ h => h)) (pa_cons pe_int (pa_cons pe_int pa_nil))) pa_nil)))))))), ?_⟩
    refine ⟨_, rfl, o, dx, fs, rfl, h1, h6 _ (by decide), o, ws, ln, n, rfl, wa, lw _, ?_⟩
    cases c : nameB (pk ws n) with
    | false =>
      have e : pickRead ws n = .error n := by
        unfold pickRead
        rw [if_neg (by rw [c]; decide)]
      rw [e] at h
      exact .inr ⟨rfl, fun H' d s' nd => h H' d (Same.but o s') nd⟩
    | true =>
      refine .inl ⟨rfl, fun H1 b1 wa1 => ?_⟩
      obtain ⟨dx1, fs1, l1, k1, k2, k3, k4, k5, k6, k7⟩ := id wa1
      refine ⟨_, rfl, o, dx1, fs1, rfl, k1, k6 _ (by decide), o, ws, ln, n + 1, rfl, wa1, ?_⟩
      refine ⟨rfl, _, rfl, ?_⟩
      by_cases ck : pk ws (n + 1) = "keep"
      · rw [show (!decide (V.str (pk ws (n + 1)) = V.str (Str.ofString "keep"))) = false by rw [decide_eq_true (by rw [ck])]; rfl]
        refine iteF ?_
        refine ⟨_, rfl, o, dx1, fs1, rfl, k1, k6 _ (by decide), o, ws, ln, n + 1, rfl, wa1, fun H2 b2 wa2 => ?_⟩
        obtain ⟨dx2, fs2, l2, j1, j2, j3, j4, j5, j6, j7⟩ := id wa2
        refine ⟨_, rfl, _, rfl, o, dx2, fs2, rfl, j1, j6 _ (by decide), o, ws, ln, n + 2, 1, some 9, rfl, wa2, lw _, ?_⟩
        rcases num_dig (pk ws (n + 2)) with ⟨k, e1, e2, e3, e4⟩ | ⟨e1, e3⟩
        · have e : pickRead ws n = .ok ((pk ws n, ((numN (pk ws (n + 2)) : Nat) : Int)), n + 3) := by
            unfold pickRead
            rw [if_pos c, if_pos ck, if_pos e3]
          rw [e] at h
          refine .inl ⟨k, e1, e2, fun H3 b3 wa3 => ?_⟩
          refine ⟨by show (2 : Nat) ≤ sizeLine; omega, fun T hT => ?_⟩
          have u1 := Same.of_new (o := .tup [.str (pk ws n), .int ((k : Nat) : Int)]) hT
          refine h T _ (((b1.trans b2).trans b3).trans (Same.but o u1)) (wa3.same u1) ?_
          rw [e4]
          exact upd_same
        · have e : pickRead ws n = .error (n + 2) := by
            unfold pickRead
            rw [if_pos c, if_pos ck, if_neg e3]
          rw [e] at h
          exact .inr ⟨e1, fun d nd => h _ d (b1.trans b2) nd⟩
      · rw [show (!decide (V.str (pk ws (n + 1)) = V.str (Str.ofString "keep"))) = true by rw [decide_eq_false (fun q => ck (V.str.inj q))]; rfl]
        refine iteT ?_
        have e : pickRead ws n = .ok ((pk ws n, 0), n + 1) := by
          unfold pickRead
          rw [if_pos c, if_neg ck]
        rw [e] at h
        refine ⟨_, rfl, by show (2 : Nat) ≤ sizeLine; omega, fun T hT => ?_⟩
        have u1 := Same.of_new (o := .tup [.str (pk ws n), .int 0]) hT
        exact h T _ (b1.trans (Same.but o u1)) (wa1.same u1) upd_same
def spPs (C CT : Addr) : Sp := fun vs H Q E => ∃ (o : Addr) (ws : List Str) (ln : Nat), vs = [.ref o] ∧ WAt C H o ws ln 0 ∧ (∀ i, (pk ws i).length ≤ 1000) ∧ ws.length ≤ 100000 ∧
  ((pk ws 0 = "-" ∧ ∀ L H', But o H H' → WAt C H' o ws ln 1 → H' L = some (.lst []) → Q (.ref L) H') ∨
   (pk ws 0 ≠ "-" ∧ match pickRead ws 0 with
    | .ok (d, m) => (match restPicks ws (ws.length + 1) m with
      | .ok r => ∀ L ks j H', But o H H' → ws.length ≤ j → WAt C H' o ws ln j → H' L = some (.lst (ks.map V.ref)) → PicksAt H' ks (d :: r) → Q (.ref L) H'
      | .error e => ErrB CT o H E ln e)
    | .error e => ErrB CT o H E ln e))
/-- what stands at each turn of the reading -/
def PsInv (C CT o L : Addr) (ws : List Str) (ln : Nat) (H : Hp) (Q : VK) (E : XK) (f : Nat) (σ : L2.St) (Hx : Hp) : Prop := ∃ (n : Nat) (ks : List Addr) (done : List Pk), σ = [some (.ref o), some (.ref L)] ∧ ws.length < f + n ∧ But o H Hx ∧ WAt C Hx o ws ln n ∧ Hx L = some (.lst (ks.map V.ref)) ∧ PicksAt Hx ks done ∧ done.length ≤ n ∧ n ≤ ws.length ∧
  (match restPicks ws f n with
    | .ok r => ∀ L ks j H', But o H H' → ws.length ≤ j → WAt C H' o ws ln j → H' L = some (.lst (ks.map V.ref)) → PicksAt H' ks (done ++ r) → Q (.ref L) H'
    | .error e => ErrB CT o H E ln e)
theorem PicksAt.off {C : Addr} {H : Hp} {o : Addr} {ws : List Str} {ln n : Nat} {ks : List Addr} {ps : List Pk} (h : PicksAt H ks ps) (wa : WAt C H o ws ln n) {H' : Hp} (b : But o H H') : PicksAt H' ks ps := h.mono fun k xs e => by
  obtain ⟨_, _, _, q, _⟩ := wa
  exact b _ _ (fun z => by rw [z, q] at e; cases e) e
abbrev nPs : List Str := ["words", "picks"]
theorem scPs : FnScope nPs ["words"] (defScope sPs) := ⟨rfl, rfl, rfl, by decide +kernel, rfl, by decide +kernel, by decide +kernel⟩
theorem ok_Ps {f fPf : Addr} {fd fdPf : FuncData} (F : Fun K "picks_from" "picks_from" sPs f fd) (WN : WFN P w K mg base C CT fMo fPk fCk fSt fTw fTn fEn fNu) (F_pf : Fun K "pick_from" "pick_from" sPf fPf fdPf) (g_pf : mg "pick_from" = some (.ref fPf)) : FnOk P w K mg base (L2.CX P w) 7 f fd ["words"] (spPs C CT) := by
  have WW := WN.f
  have W := WW.W
  have G_pf : FnOk P w K mg base (L2.CX P w) 6 fPf fdPf ["words"] (spPf C CT) := ok_Pf F_pf WN
  have b_pf : Binds K fdPf ["words"] [] := F_pf.binds fun _ _ _ _ _ _ us hl => match us, hl with | [_], _ => rfl
  obtain ⟨_, G_take_word, b_take_word⟩ := WW.g_tw
  obtain ⟨_, G_peek, b_peek⟩ := WW.g_peek
  obtain ⟨_, G_step, b_step⟩ := WW.g_step
  obtain ⟨_, G_more, b_more⟩ := WW.g_more
  refine F.okX scPs (fun vs H Q E h => ?_) (fun cdv A outer s H vs Q E hr h => ?_)
  · obtain ⟨o, ws, ln, rfl, _⟩ := h
    rfl
  · obtain ⟨o, ws, ln, rfl, wa, lw, lws, h⟩ := h
    have hr6 : Room 6 _ := hr
    have h_take_word := hr6.mono (show 4 ≤ 6 by decide)
    have h_peek := hr6.mono (show 2 ≤ 6 by decide)
    have h_step := hr6.mono (show 3 ≤ 6 by decide)
    have h_more := hr6.mono (show 1 ≤ 6 by decide)
    have sz := sizeLine_eq
    obtain ⟨dx, fs, l, h1, h2, h3, h4, h5, h6, h7⟩ := id wa
    refine ⟨_, (pss_cons (ps_if (pt_cmpR op_eq (pe_meth0 (pv 0) W.cls W.m_peek G_peek h_peek b_peek .nil pass0) pe_str (nomark _)) (pss_cons (ps_expr (pe_meth0 (pv 0) W.cls W.m_step G_step h_step b_step .nil pass0))
    (pss_one (ps_ret (pe_lst pa_nil)))) pss_nil)
    (pss_cons (ps_set (i := 1) scPs.nd rfl (Or.inl rfl) (pe_lst (pa_cons (pe_call G_pf hr6 (by rfl) g_pf F_pf.kp b_pf .nil (passes_call (takes_of rfl rfl rfl rfl) (fun _ _ _ _ h => h)) (pa_cons (pv 0) pa_nil)) pa_nil)))
    (pss_cons (ps_while (passes_of rfl) (pt_val (pe_meth0 (pv 0) W.cls W.m_more G_more h_more b_more .nil pass0)) (pss_cons (ps_expr (pe_meth (pv 0) W.cls W.m_take_word G_take_word h_take_word b_take_word .nil (passes_call (takes_of rfl rfl rfl rfl) (fun _ _ _ _ h => h)) (pa_cons (pe_tup (pa_cons pe_str pa_nil)) pa_nil)))
    (pss_one (ps_expr (pe_bm PySem.F.plainAttrs_list PySem.F.slot_list_append PySem.F.type_list_append mt_append (pv 1) (pa_cons (pe_call G_pf hr6 (by rfl) g_pf F_pf.kp b_pf .nil (passes_call (takes_of rfl rfl rfl rfl) (fun _ _ _ _ h => h)) (pa_cons (pv 0) pa_nil)) pa_nil))))))
    (pss_one (ps_ret (pv 1)))))), ?_⟩
    refine ⟨_, rfl, o, dx, fs, rfl, h1, h6 _ (by decide), o, ws, ln, 0, rfl, wa, ?_⟩
    refine ⟨rfl, _, rfl, ?_⟩
    rcases h with ⟨c0, q⟩ | ⟨c0, h⟩
    · rw [show decide (V.str (pk ws 0) = V.str (Str.ofString "-")) = true from decide_eq_true (by rw [c0])]
      refine iteT ?_
      refine ⟨_, rfl, o, dx, fs, rfl, h1, h6 _ (by decide), o, ws, ln, 0, rfl, wa, fun H1 b1 wa1 => ?_⟩
      refine ⟨by show (0 : Nat) ≤ sizeLine; omega, fun L hL => ?_⟩
      have u1 := Same.of_new (o := .lst []) hL
      exact q L _ (b1.trans (Same.but o u1)) (wa1.same u1) upd_same
    · rw [show decide (V.str (pk ws 0) = V.str (Str.ofString "-")) = false from decide_eq_false (fun q => c0 (V.str.inj q))]
      refine iteF ?_
      refine ⟨_, rfl, o, ws, ln, 0, rfl, wa, lw, ?_⟩
      cases e0 : pickRead ws 0 with
      | error e =>
        rw [e0] at h
        exact h
      | ok dm =>
        obtain ⟨d, m⟩ := dm
        rw [e0] at h
        intro k1 H1 b1 wa1 dk1
        refine ⟨by show (1 : Nat) ≤ sizeLine; omega, fun L hL => ?_⟩
        have nLo : L ≠ o := fun e => by
          obtain ⟨_, _, _, q, _⟩ := wa1
          rw [e, q] at hL
          cases hL
        have hHL : H L = none := by
          cases q : H L with
          | none => rfl
          | some u =>
            have := b1 _ _ nLo q
            rw [hL] at this
            cases this
        have u1 := Same.of_new (o := .lst [.ref k1]) hL
        have m0 := pickRead_next e0
        refine ⟨PsInv C CT o L ws ln H Q E, ⟨_, m, [k1], [d], rfl, by omega, b1.trans (Same.but o u1), wa1.same u1, upd_same, (PicksAt.nil.snoc (k := k1) (p := d) dk1).same u1, by show 1 ≤ m; omega, pickRead_le e0, h⟩, fun μ σ Hx ⟨n, ks, done, e2, hf, bx, wx, eL, dx2, ld, ln10, hk⟩ => ?_⟩
        subst e2
        obtain ⟨dx1, fs1, l1, k1, k2, k3, k4, k5, k6, k7⟩ := id wx
        refine ⟨_, rfl, o, dx1, fs1, rfl, k1, k6 _ (by decide), o, ws, ln, n, rfl, wx, _, rfl, ?_⟩
        refine ite2 (fun c => ?_) (fun c => ?_)
        · have c : n < ws.length := of_decide_eq_true c
          obtain ⟨f', rfl⟩ : ∃ f', μ = f' + 1 := ⟨μ - 1, by omega⟩
          refine ⟨PsInv C CT o L ws ln H Q E f', fun σ' H' h => ⟨f', Nat.lt_succ_self _, h⟩, ?_⟩
          refine ⟨_, rfl, o, dx1, fs1, rfl, k1, k6 _ (by decide), by show (1 : Nat) ≤ sizeLine; omega, fun t ht => ?_⟩
          have u2 := Same.of_new (o := .tup [.str "or"]) ht
          refine ⟨o, t, ["or"], ws, ln, n, rfl, SqT.of upd_same, wx.same u2, ?_⟩
          by_cases c1 : pk ws n = "or"
          · refine .inl ⟨by rw [c1]; exact List.mem_cons_self, fun H2 b2 wa2 => ?_⟩
            have bx2 := (bx.trans (Same.but o u2)).trans b2
            have eL2 := b2 _ _ nLo (u2 _ _ eL)
            have dx3 := (dx2.same u2).off (wx.same u2) b2
            refine ⟨_, rfl, .inl ⟨rfl, _, SqL.of eL2⟩, _, rfl, o, ws, ln, n + 1, rfl, wa2, lw, ?_⟩
            cases ed : pickRead ws (n + 1) with
            | error e =>
              have e1 : restPicks ws (f' + 1) n = .error e := by
                rw [restPicks, if_pos c, if_pos c1, ed]
              rw [e1] at hk
              exact fun H' d b nd => hk H' d (bx2.trans b) nd
            | ok dm =>
              obtain ⟨d2, m2⟩ := dm
              intro k3 H3 b3 wa3 dk3
              have m3 := pickRead_next ed
              have eL3 := b3 _ _ nLo eL2
              have dx4 := dx3.off wa2 b3
              have lks : ks.length = done.length := dx2.len
              refine ⟨L, _, _, rfl, rfl, eL3, by rw [List.length_map]; omega, m2, ks ++ [k3], done ++ [d2], rfl, by omega, fun b u nb e => ?_, ?_, by rw [List.map_append]; exact upd_same, ?_, by rw [List.length_append, List.length_singleton]; omega, pickRead_le ed, ?_⟩
              · rw [upd_ne (ne_of_none e hHL)]
                exact b3 b u nb (bx2 b u nb e)
              · obtain ⟨dy, fy, ly, q1, q2, q3, q4, q5, q6, q7⟩ := wa3
                refine ⟨dy, fy, ly, ?_, q2, q3, q4, ?_, q6, q7⟩
                · rw [upd_ne (Ne.symm nLo)]
                  exact q1
                · rw [upd_ne (fun e => ?_)]
                  · exact q5
                  · rw [e, eL3] at q5
                    have q5 := HO.lst.inj (Option.some.inj q5)
                    have q6 := congrArg (fun l => l[0]?) q5
                    have q7 : (ws.map V.str)[0]? = some (.str ws[0]) := by
                      rw [List.getElem?_map, List.getElem?_eq_getElem (by omega)]
                      rfl
                    have q8 : (ks.map V.ref)[0]? = some (.str ws[0]) := q6.trans q7
                    rw [List.getElem?_map] at q8
                    obtain ⟨_, _, h⟩ := Option.map_eq_some_iff.mp q8
                    cases h
              · exact (dx4.snoc (k := k3) (p := d2) dk3).upd fun xs e => by
                  rw [eL3] at e
                  cases e
              · have e1 : restPicks ws (f' + 1) n = (match restPicks ws f' m2 with | .ok r => .ok (d2 :: r) | .error e => .error e) := by
                  rw [restPicks, if_pos c, if_pos c1, ed] <;> rfl
                rw [e1] at hk
                cases er : restPicks ws f' m2 with
                | error e =>
                  rw [er] at hk
                  exact hk
                | ok r =>
                  rw [er] at hk
                  intro L' ks' j' H' q1 q2 q3 q4 q5
                  exact hk L' ks' j' H' q1 q2 q3 q4 (by rw [List.append_assoc] at q5; exact q5)
          · have e : restPicks ws (f' + 1) n = .error n := by
              rw [restPicks, if_pos c, if_neg c1]
            rw [e] at hk
            exact .inr ⟨fun m => c1 (List.mem_singleton.mp m), fun d hd => hk _ d (bx.trans (Same.but o u2)) hd⟩
        · have c : ws.length ≤ n := by
            rcases Nat.lt_or_ge n ws.length with h | h
            · exact absurd (decide_eq_true h) c
            · exact h
          have e : restPicks ws μ n = .ok [] := by
            cases μ with
            | zero => rfl
            | succ f' =>
              unfold restPicks
              rw [if_neg (by omega)]
          rw [e] at hk
          exact ⟨_, rfl, hk L ks n Hx bx c wx eL (by rw [List.append_nil]; exact dx2)⟩
/-- the rule of a text: what is read, or the first wrong word -/
def ReadMade (K : PySem.W.Frag) (CF CT CM : Addr) (H : Hp) (v : V) (Q : VK) (E : XK) : Prop :=
  (∃ z : Str, v = .str z ∧ z.length ≤ 100000 ∧ (∀ i, (pk (Txt.split z " ") i).length ≤ 1000) ∧ (Txt.split z " ").length ≤ 900 ∧ (match picksRead (Txt.split z " ") with
    | .ok ps => (oneForm ps).length ≤ 15 ∧ ps.length ≤ 1000 ∧ ∀ r H', Same H H' → RuleAt CF H' r (oneForm ps) → Q (.ref r) H'
    | .error e => ∀ H' d, Same H H' → H' d = none → E (.ref CT) (some d) (upd H' d (.xd [("word", .int (e : Nat)), ("line", .int 0)])))) ∨
   ((∀ H', Same H H' → NoStr K H' v) ∧ ∀ H' d, Same H H' → H' d = none → E (.ref CT) (some d) (upd H' d (.xd [("word", .int 0), ("line", .int 0)])))
def spRt (K : PySem.W.Frag) (CF CT CM : Addr) : Sp := fun vs H Q E => ∃ v : V, vs = [v] ∧ ReadMade K CF CT CM H v Q E
def spRr (K : PySem.W.Frag) (CC CF CT CM : Addr) : Sp := fun vs H Q E => ∃ v : V, vs = [.ref CC, v] ∧ ReadMade K CF CT CM H v Q E
abbrev nRt : List Str := ["text", "words", "picks"]
theorem scRt : FnScope nRt ["text"] (defScope sRt) := ⟨rfl, rfl, rfl, by decide +kernel, rfl, by decide +kernel, by decide +kernel⟩
theorem ok_Rt {a : RAd} {f fPs fWI : Addr} {fd fdPs fdWI : FuncData} {dsI : List Value} (R : RF P w K mg base a) (MW : Mk K C fWI) (gW : mg "Words" = some (.ref C)) (F : Fun K "rule_of_text" "rule_of_text" sRt f fd) (WN : WFN P w K mg base C CT fMo fPk fCk fSt fTw fTn fEn fNu) (G_init : FnOk P w K mg base (L2.CX P w) 3 fWI fdWI ["self", "text", "line"] (spWI K C CT)) (b_init : Binds K fdWI ["self", "text", "line"] dsI) (d_init : Vals [.int 0] dsI)
    (F_ps : Fun K "picks_from" "picks_from" sPs fPs fdPs) (g_ps : mg "picks_from" = some (.ref fPs)) (G_ps : FnOk P w K mg base (L2.CX P w) 7 fPs fdPs ["words"] (spPs C CT)) : FnOk P w K mg base (L2.CX P w) 8 f fd ["text"] (spRt K a.CF CT a.CT) := by
  have W := WN.f.W
  have b_ps : Binds K fdPs ["words"] [] := F_ps.binds fun _ _ _ _ _ _ us hl => match us, hl with | [_], _ => rfl
  obtain ⟨_, G_end, b_end⟩ := WN.f.g_en
  refine F.okX scRt (fun vs H Q E h => ?_) (fun cdv A outer s H vs Q E hr h => ?_)
  · obtain ⟨v, rfl, _⟩ := h
    rfl
  · obtain ⟨v, rfl, h⟩ := h
    have hr7 : Room 7 _ := hr
    have hr5 := hr7.mono (show 5 ≤ 7 by decide)
    have hr4 := hr7.mono (show 4 ≤ 7 by decide)
    have h_end := hr7.mono (show 4 ≤ 7 by decide)
    have sz := sizeLine_eq
    refine ⟨_, (pss_cons (ps_set (i := 1) scRt.nd rfl (Or.inl rfl) (pe_make MW G_init hr4 (by rfl) gW b_init d_init (passes_call (takes_of rfl rfl rfl rfl) (fun _ _ _ _ h => h)) (pa_cons (pv 0) pa_nil)))
    (pss_cons (ps_set (i := 2) scRt.nd rfl (Or.inl rfl) (pe_call G_ps hr7 (by rfl) g_ps F_ps.kp b_ps .nil (passes_call (takes_of rfl rfl rfl rfl) (fun _ _ _ _ h => h)) (pa_cons (pv 1) pa_nil)))
    (pss_cons (ps_expr (pe_meth0 (pv 1) W.cls W.m_end G_end h_end b_end .nil (passes_call (takes_of rfl rfl rfl rfl) (fun _ _ _ _ h => h))))
    (pss_one (ps_ret (OwR.pe_makeGS R.mkF R.first hr5 (by rfl) R.gF (passes_call (takes_of rfl rfl rfl rfl) (fun _ _ _ _ h => h)) (pv 2))))))), ?_⟩
    rcases h with ⟨z, rfl, lz, lw, lws, h⟩ | ⟨ns, h⟩
    · refine ⟨_, rfl, fun o dxo k1 k2 nd => ⟨o, dxo, _, 0, rfl, upd_same, .inl ⟨z, rfl, by omega, fun H1 b1 wa => ⟨rfl, ?_⟩⟩⟩⟩
      have s1 := made_same k1 k2 b1
      generalize Txt.split z " " = ws at *
      have sB : ∀ {H'}, But o H1 H' → Same H H' := fun {H'} b x u e => b x u (ne_of_none e k1) (s1 x u e)
      refine ⟨_, rfl, o, ws, 0, rfl, wa, lw, by omega, ?_⟩
      have fin : ∀ (L : Addr) (ks : List Addr) (ps : List Pk) (j : Nat) (H2 : Hp), picksRead ws = .ok ps → But o H1 H2 → ws.length ≤ j → WAt C H2 o ws 0 j → H2 L = some (.lst (ks.map V.ref)) → PicksAt H2 ks ps → ((oneForm ps).length ≤ 15 ∧ ps.length ≤ 1000 ∧ ∀ r H', Same H H' → RuleAt a.CF H' r (oneForm ps) → Q (.ref r) H') → tSeq (tDrop (tMeth C "end" (spEnd C CT) [] E (tVar 1) tNil)) (tRet (OwR.tMakeGS K a.CF (spFirst K a.CF a.CK a.CT) E (tVar 2))) { nx := fun _ H' => Q .non H', rt := Q } [some (.str z), some (.ref o), some (.ref L)] H2 := fun L ks ps j H2 er b2 lj wa2 eL dks q => by
        obtain ⟨dx1, fs1, l1, q1, q2, q3, q4, q5, q6, q7⟩ := id wa2
        obtain ⟨m1, m2, m3⟩ := q
        have gd := picksRead_good lw er
        have lk := dks.len
        refine ⟨_, rfl, o, dx1, fs1, rfl, q1, q6 _ (by decide), o, ws, 0, j, rfl, wa2, .inl ⟨lj, ?_⟩⟩
        have mr : MadeRow K a.CF a.CK a.CT H2 (ks.map V.ref) Q E := ⟨by rw [List.length_map]; omega, .inl ⟨ps, dks.vals, gd, fun _ r H' nr s2 ra => m3 r H' ((sB b2).trans s2) ra, fun lt => absurd m1 (by omega)⟩⟩
        refine ⟨_, rfl, L, _, rfl, .inr (SqL.of eL), fun z1 dz n1 n2 nd2 => ⟨z1, dz, _, rfl, upd_same, mr.row n1 ?_ fun H' s1 => ⟨fun q => ⟨rfl, q⟩, made_same n1 n2 s1⟩⟩⟩
        exact fun b o e => by
          rw [upd_ne (ne_of_none e n1), upd_ne (ne_of_none e n2)]
          exact e
      have fin2 := fin
      unfold picksRead at h fin
      by_cases c0 : pk ws 0 = "-"
      · rw [if_pos c0] at h fin
        refine .inl ⟨c0, fun L H2 b2 wa2 eL => ?_⟩
        obtain ⟨dx1, fs1, l1, q1, q2, q3, q4, q5, q6, q7⟩ := id wa2
        by_cases l1 : ws.length ≤ 1
        · rw [if_pos l1] at h fin
          exact fin L [] [] 1 H2 rfl b2 l1 wa2 eL PicksAt.nil h
        · rw [if_neg l1] at h
          exact ⟨_, rfl, o, dx1, fs1, rfl, q1, q6 _ (by decide), o, ws, 0, 1, rfl, wa2, .inr ⟨by omega, fun d hd => h _ d (sB b2) hd⟩⟩
      · rw [if_neg c0] at h fin
        refine .inr ⟨c0, ?_⟩
        cases e0 : pickRead ws 0 with
        | error e =>
          rw [e0] at h
          exact fun H' d b nd2 => h H' d (sB b) nd2
        | ok dm =>
          obtain ⟨d, m⟩ := dm
          rw [e0] at h fin
          dsimp only at h fin ⊢
          cases er : restPicks ws (ws.length + 1) m with
          | error e =>
            rw [er] at h
            exact fun H' d b nd2 => h H' d (sB b) nd2
          | ok r =>
            rw [er] at h fin
            exact fun L ks j H2 b2 lj wa2 eL dks => fin L ks _ j H2 rfl b2 lj wa2 eL dks h
    · refine ⟨_, rfl, fun o dxo k1 k2 nd => ⟨o, dxo, _, 0, rfl, upd_same, .inr ⟨?_, fun d hd => ?_⟩⟩⟩
      · exact ns _ (made_same k1 k2 (But.refl _ _))
      · exact h _ d (made_same k1 k2 (But.refl _ _)) hd
end
end K10
end
section
set_option pp.maxSteps 400
set_option pp.deepTerms.threshold 6
namespace K10
open PySem PySem.Spec PyProof.Rows L2
abbrev sHeard : Stmt := top 37
abbrev nH : List Str := ["_law_ask", "_law_caught", "_law_found", "error"]
theorem scH : FnScope nH ["_law_ask"] (defScope sHeard) := ⟨rfl, rfl, rfl, by decide +kernel, rfl, by decide +kernel, by decide +kernel⟩
/-- what the ear answers to a rule that was read -/
def HearRule (CF : Addr) (Q : VK) (v : V) (H : Hp) : Prop := ∃ (z : Addr) (ps : List Pk), v = .ref z ∧ RuleAt CF H z ps ∧ ∀ (t p : Addr) (ks : List Addr) (H' : Hp), Same H H' → H' t = some (.tup [.str "told", .ref p]) → H' p = some (.tup (ks.map V.ref)) → PicksAt H' ks ps → Q (.ref t) H'
/-- .. to an error -/
def HearErr (CB : Addr) (Q : VK) (cls : Value) (d : Option Addr) (H : Hp) : Prop := ∃ (dd : Addr) (e : Nat), d = some dd ∧ cls = .ref CB ∧ H dd = some (.xd [("word", .int (e : Nat)), ("line", .int 0)]) ∧ ∀ (t : Addr) (H' : Hp), Same H H' → H' t = some (.tup [.str "text", .int 0, .int (e : Nat)]) → Q (.ref t) H'
def TTh (CF CB : Addr) : (XK → Hp → VK → Prop) → Hp → VK → Prop := fun tl H Q => ∀ (H1 : Hp) (E' : XK) (Q' : VK), Same H H1 → (∀ cls d H', HearErr CB Q cls d H' → E' cls d H') → (∀ v H', HearRule CF Q v H' → Q' v H') → tl E' H1 Q'
structure EarC (K : PySem.W.Frag) (mg : Str → Option Value) (CB CX : Addr) : Prop where
  e : OwE.ErrC K CB
  s : PySem.W.exmOne K (.ref CB) (.ref CX) = some true
  k : PySem.W.kitOne K (.ref CB) (.ref CB) = some true
  v1 : PySem.W.findIn K (.ref CB) "line" = some none
  v2 : PySem.W.findIn K (.ref CB) "word" = some none
  gB : mg "BadText" = some (.ref CB)
  gX : mg "NextError" = some (.ref CX)
theorem heard_gives {X : Cx} {a : RAd} {g CB CX : Addr} {cdg : Value} {q : Str} (hr : Room 3 X.A) (R : RF X.prog X.w X.K X.mg X.base a) (c : EarC X.K X.mg CB CX) : LamX.GivesTo X nH "_law_heard" (defScope sHeard) g cdg (defBody sHeard) "_law_ask" q (TTh a.CF CB) := by
  have n_isi := R.chk.T.n_isinstance
  obtain ⟨fdPk, F_pk⟩ := R.dPk
  have GPk : FnOk X.prog X.w X.K X.mg X.base CX0 1 a.fPk fdPk ["self"] (getSp a.CF "_picks") := ok_picks R.cF.k.rc F_pk
  have bPk : Binds X.K fdPk ["self"] [] := F_pk.binds fun _ _ _ _ _ _ us hl => match us, hl with | [_], _ => rfl
  intro f c' s H Q tl act hcc h
  have hr2 := hr.deeper (envOfC "_law_heard" (defScope sHeard) s.heap.objs.size g cdg)
  have sz := sizeLine_eq
  have szl : ∀ n : Nat, n ≤ 20 → n ≤ sizeLine := fun n h => by omega
  refine ⟨_, pss_cons (ps_asg (pe_tup (pa_cons pe_non (pa_cons pe_non pa_nil))) (pg_tup rfl (pgs_cons (pg_name (i := 1) scH.nd rfl (Or.inl rfl)) (pgs_cons (pg_name (i := 2) scH.nd rfl (Or.inl rfl)) pgs_nil))))
    (pss_cons (OwE.ps_try_keep (X := (cxOf C8.CX0 X.prog X.w X.K X.mg X.base nH "_law_heard" (defScope sHeard) g cdg X.A X.stack s H C8.E0).nox) (i := 3) (c := .ref CX)
      (tb := fun W D σ H => ∃ Ech : XK, (∀ cls d σ' H', Ech cls d H' → σ'.length = 4 → W cls d σ' H') ∧ σ[0]? = some (some (.ref f)) ∧ H c' = some (LamX.CodeO c' q) ∧ tl Ech H (fun v H' => D.nx (σ.set 2 (some v)) H'))
      rfl rfl rfl scH.nd rfl rfl ⟨rfl, by decide, .inl c.gX⟩ (fun W pn xe tk => ?_)
      (fun a oe cls d pn hz hf => pss_one (ps_set (i := 1) scH.nd rfl (Or.inl rfl) (pv 3))))
    (pss_cons (ps_if (pt_cmpR op_isN (pv 1) pe_non (nomark _)) (pss_one (ps_ret (pe_ifExp (pt_val (pe_callB call_isi (by rfl) n_isi (by decide +kernel) (pa_cons (pv 2) (pa_cons (pe_glob (v := .ref a.CR) rfl R.gR rfl) pa_nil)))) (pe_tup (pa_cons pe_str (pa_cons (pe_prop (pv 2) R.cF.k.rc.cls R.cF.pk GPk (hr2.mono (by decide)) bPk .nil pass0 rfl) pa_nil))) (pe_tup (pa_cons pe_str pa_nil))))) pss_nil)
    (pss_one (ps_ret (pe_ifExp (pt_val (pe_callB OwE.call_isK (by rfl) n_isi (by decide +kernel) (pa_cons (pv 1) (pa_cons (pe_glob (v := .ref CB) rfl c.gB rfl) pa_nil)))) (pe_tup (pa_cons pe_str (pa_cons (OwE.pe_kf (pv 1)) (pa_cons (OwE.pe_kf (pv 1)) pa_nil)))) (pe_tup (pa_cons pe_str pa_nil))))))), ?_⟩
  · refine ⟨fun pins s' σ H' D I h' => ?_⟩
    obtain ⟨Ech, hW, h1, h2, h3⟩ := h'
    exact (pss_one (ps_set (i := 2) scH.nd rfl (Or.inl rfl) (act (fun c d σ H => σ.length = 4 → W c d σ H) pn xe Ech _ _ (OwE.takes_len tk) hW))).run pins s' σ H' D I ⟨h1, h2, h3⟩
  · refine ⟨by show (2 : Nat) ≤ sizeLine; omega, fun T0 hT0 => ⟨T0, _, rfl, .inl (.inl upd_same), rfl, _, _, rfl, _, _, rfl, rfl, ?_⟩⟩
    have s0 := Same.of_new (o := .tup [.non, .non]) hT0
    refine ⟨HearErr CB Q, fun cls d σ' H' he hl => ?_, rfl, s0 _ _ hcc, h _ _ _ s0 (fun _ _ _ q => q) fun v H' q => ?_⟩
    · obtain ⟨x0, x1, x2, x3, rfl⟩ : ∃ x0 x1 x2 x3, σ' = [x0, x1, x2, x3] := by
        match σ', hl with
        | [x0, x1, x2, x3], _ => exact ⟨_, _, _, _, rfl⟩
      obtain ⟨dd, e, rfl, rfl, ed, q⟩ := he
      refine ⟨c.s, fun a na => ⟨_, rfl, ?_⟩⟩
      have sa := Same.of_new (o := OwE.keptE a (.ref CB) (some dd)) na
      have ea : L2.upd H' a (OwE.keptE a (.ref CB) (some dd)) a = some (OwE.keptE a (.ref CB) (some dd)) := upd_same
      have ed2 := sa _ _ ed
      refine ⟨_, rfl, rfl, _, rfl, ?_⟩
      refine iteF ?_
      refine ⟨_, rfl, a, .ref CB, .ref CB, CB, dd, _, true, rfl, .own CB, c.e, ea, ed2, c.k, true, rfl, iteT ?_⟩
      exact ⟨_, rfl, a, CB, dd, _, _, rfl, c.e, c.v1, ea, ed2, rfl, _, rfl, a, CB, dd, _, _, rfl, c.e, c.v2, ea, ed2, rfl, szl 3 (by decide), fun t ht => q t _ (sa.trans (Same.of_new ht)) upd_same⟩
    · obtain ⟨z, ps, rfl, hR, q⟩ := q
      obtain ⟨dx, fs, p, ks, e1, l1, e2, pk, _⟩ := hR
      refine ⟨_, rfl, rfl, _, rfl, ?_⟩
      refine iteT ?_
      refine ⟨_, rfl, .ref z, .ref a.CR, _, _, true, rfl, .own _, R.cF.k.ty e1, R.cF.k.sub, true, rfl, iteT ?_⟩
      refine ⟨_, rfl, z, dx, fs, rfl, e1, z, dx, fs, _, rfl, e1, l1, szl 2 (by decide), fun t ht => ?_⟩
      have st := Same.of_new (o := .tup [.str "told", .ref p]) ht
      exact q t p ks _ st upd_same (st _ _ e2) (pk.same st)
end K10
end
section
set_option pp.maxSteps 400
set_option pp.deepTerms.threshold 6
/-! read, of each class of rules. -/
namespace K10
open PySem PySem.Spec PyProof.Rows L2
abbrev sReadRule : Stmt := mth 19 1
abbrev sReadFirst : Stmt := mth 20 2
abbrev sReadEven : Stmt := mth 21 1
abbrev sReadElse : Stmt := mth 22 1
def spRrK (K : PySem.W.Frag) (CC CF CT CM : Addr) : List V → Sp := fun zs vs H Q E => ∃ v, vs = [.ref CC] ∧ zs = [v] ∧ spRr K CC CF CT CM [.ref CC, v] H Q E
section
variable {P : Program} {w : World} {K : PySem.W.Frag} {mg : Str → Option Value} {base : Heap} {CC CF CT CM : Addr}
abbrev nRrRu : List Str := ["cls", "text"]
theorem scRrRu : FnScope nRrRu ["cls", "text"] (defScope sReadRule) := ⟨rfl, rfl, rfl, by decide +kernel, rfl, by decide +kernel, by decide +kernel⟩
theorem ok_RrRu {f fRt : Addr} {fd fdRt : FuncData} (F : Fun K "read" "Rule.read" sReadRule f fd) (F_rt : Fun K "rule_of_text" "rule_of_text" sRt fRt fdRt) (g_rt : mg "rule_of_text" = some (.ref fRt)) (G_rt : FnOk P w K mg base (L2.CX P w) 8 fRt fdRt ["text"] (spRt K CF CT CM)) : FnOk P w K mg base (L2.CX P w) 9 f fd ["cls", "text"] (spRr K CC CF CT CM) := by
  have b_rt : Binds K fdRt ["text"] [] := F_rt.binds fun _ _ _ _ _ _ us hl => match us, hl with | [_], _ => rfl
  refine F.okX scRrRu (fun vs H Q E h => ?_) (fun cdv A outer s H vs Q E hr h => ?_)
  · obtain ⟨v, rfl, _⟩ := h
    rfl
  · obtain ⟨v, rfl, h⟩ := h
    have hr8 : Room 8 _ := hr
    refine ⟨_, (pss_one (ps_ret (pe_call G_rt hr8 (by rfl) g_rt F_rt.kp b_rt .nil (passes_call (takes_of rfl rfl rfl rfl) (fun _ _ _ _ h => h)) (pa_cons (pv 1) pa_nil)))), ?_⟩
    exact ⟨_, rfl, v, rfl, h⟩
theorem rd_Ru {f : Addr} {fd : FuncData} (F : Fun K "read" "Rule.read" sReadRule f fd) (G : FnOk P w K mg base (L2.CX P w) 9 f fd ["cls", "text"] (spRr K CC CF CT CM)) : FnR P w K mg base (L2.CX P w) 9 f (spRr K CC CF CT CM) ∧ OwR.FnRK P w K mg base (L2.CX P w) 9 f ["text"] (spRrK K CC CF CT CM) := by
  refine ⟨OwR.raw0 G (F.binds fun _ _ _ _ _ _ us hl => match us, hl with | [_, _], _ => rfl), ?_⟩
  obtain ⟨oc, od, kV, doc, pm, an, cdv, ct, osl, rfl, lk, hcd⟩ := F.ex
  intro A outer s H us ws vs zs Q E hr e0 r rz ⟨x, ev, ez, hj⟩
  subst ev ez
  match us, ws, r, rz with
  | [u1], [w1], .cons r1 .nil, .cons r2 .nil => exact G.run A outer s H ⟨[u1], [("text", w1)]⟩ [u1, w1] [.ref CC, x] Q E hr e0 (.of_eq rfl) (.cons r1 (.cons r2 .nil)) hj
abbrev nRrFi : List Str := ["cls", "text"]
theorem scRrFi : FnScope nRrFi ["cls", "text"] (defScope sReadFirst) := ⟨rfl, rfl, rfl, by decide +kernel, rfl, by decide +kernel, by decide +kernel⟩
theorem ok_RrFi {f fRt : Addr} {fd fdRt : FuncData} (F : Fun K "read" "First.read" sReadFirst f fd) (F_rt : Fun K "rule_of_text" "rule_of_text" sRt fRt fdRt) (g_rt : mg "rule_of_text" = some (.ref fRt)) (G_rt : FnOk P w K mg base (L2.CX P w) 8 fRt fdRt ["text"] (spRt K CF CT CM)) : FnOk P w K mg base (L2.CX P w) 9 f fd ["cls", "text"] (spRr K CC CF CT CM) := by
  have b_rt : Binds K fdRt ["text"] [] := F_rt.binds fun _ _ _ _ _ _ us hl => match us, hl with | [_], _ => rfl
  refine F.okX scRrFi (fun vs H Q E h => ?_) (fun cdv A outer s H vs Q E hr h => ?_)
  · obtain ⟨v, rfl, _⟩ := h
    rfl
  · obtain ⟨v, rfl, h⟩ := h
    have hr8 : Room 8 _ := hr
    refine ⟨_, (pss_one (ps_ret (pe_call G_rt hr8 (by rfl) g_rt F_rt.kp b_rt .nil (passes_call (takes_of rfl rfl rfl rfl) (fun _ _ _ _ h => h)) (pa_cons (pv 1) pa_nil)))), ?_⟩
    exact ⟨_, rfl, v, rfl, h⟩
theorem rd_Fi {f : Addr} {fd : FuncData} (F : Fun K "read" "First.read" sReadFirst f fd) (G : FnOk P w K mg base (L2.CX P w) 9 f fd ["cls", "text"] (spRr K CC CF CT CM)) : FnR P w K mg base (L2.CX P w) 9 f (spRr K CC CF CT CM) ∧ OwR.FnRK P w K mg base (L2.CX P w) 9 f ["text"] (spRrK K CC CF CT CM) := by
  refine ⟨OwR.raw0 G (F.binds fun _ _ _ _ _ _ us hl => match us, hl with | [_, _], _ => rfl), ?_⟩
  obtain ⟨oc, od, kV, doc, pm, an, cdv, ct, osl, rfl, lk, hcd⟩ := F.ex
  intro A outer s H us ws vs zs Q E hr e0 r rz ⟨x, ev, ez, hj⟩
  subst ev ez
  match us, ws, r, rz with
  | [u1], [w1], .cons r1 .nil, .cons r2 .nil => exact G.run A outer s H ⟨[u1], [("text", w1)]⟩ [u1, w1] [.ref CC, x] Q E hr e0 (.of_eq rfl) (.cons r1 (.cons r2 .nil)) hj
abbrev nRrEv : List Str := ["cls", "text"]
theorem scRrEv : FnScope nRrEv ["cls", "text"] (defScope sReadEven) := ⟨rfl, rfl, rfl, by decide +kernel, rfl, by decide +kernel, by decide +kernel⟩
theorem ok_RrEv {f fRt : Addr} {fd fdRt : FuncData} (F : Fun K "read" "Even.read" sReadEven f fd) (F_rt : Fun K "rule_of_text" "rule_of_text" sRt fRt fdRt) (g_rt : mg "rule_of_text" = some (.ref fRt)) (G_rt : FnOk P w K mg base (L2.CX P w) 8 fRt fdRt ["text"] (spRt K CF CT CM)) : FnOk P w K mg base (L2.CX P w) 9 f fd ["cls", "text"] (spRr K CC CF CT CM) := by
  have b_rt : Binds K fdRt ["text"] [] := F_rt.binds fun _ _ _ _ _ _ us hl => match us, hl with | [_], _ => rfl
  refine F.okX scRrEv (fun vs H Q E h => ?_) (fun cdv A outer s H vs Q E hr h => ?_)
  · obtain ⟨v, rfl, _⟩ := h
    rfl
  · obtain ⟨v, rfl, h⟩ := h
    have hr8 : Room 8 _ := hr
    refine ⟨_, (pss_one (ps_ret (pe_call G_rt hr8 (by rfl) g_rt F_rt.kp b_rt .nil (passes_call (takes_of rfl rfl rfl rfl) (fun _ _ _ _ h => h)) (pa_cons (pv 1) pa_nil)))), ?_⟩
    exact ⟨_, rfl, v, rfl, h⟩
theorem rd_Ev {f : Addr} {fd : FuncData} (F : Fun K "read" "Even.read" sReadEven f fd) (G : FnOk P w K mg base (L2.CX P w) 9 f fd ["cls", "text"] (spRr K CC CF CT CM)) : FnR P w K mg base (L2.CX P w) 9 f (spRr K CC CF CT CM) ∧ OwR.FnRK P w K mg base (L2.CX P w) 9 f ["text"] (spRrK K CC CF CT CM) := by
  refine ⟨OwR.raw0 G (F.binds fun _ _ _ _ _ _ us hl => match us, hl with | [_, _], _ => rfl), ?_⟩
  obtain ⟨oc, od, kV, doc, pm, an, cdv, ct, osl, rfl, lk, hcd⟩ := F.ex
  intro A outer s H us ws vs zs Q E hr e0 r rz ⟨x, ev, ez, hj⟩
  subst ev ez
  match us, ws, r, rz with
  | [u1], [w1], .cons r1 .nil, .cons r2 .nil => exact G.run A outer s H ⟨[u1], [("text", w1)]⟩ [u1, w1] [.ref CC, x] Q E hr e0 (.of_eq rfl) (.cons r1 (.cons r2 .nil)) hj
abbrev nRrEl : List Str := ["cls", "text"]
theorem scRrEl : FnScope nRrEl ["cls", "text"] (defScope sReadElse) := ⟨rfl, rfl, rfl, by decide +kernel, rfl, by decide +kernel, by decide +kernel⟩
theorem ok_RrEl {f fRt : Addr} {fd fdRt : FuncData} (F : Fun K "read" "Else.read" sReadElse f fd) (F_rt : Fun K "rule_of_text" "rule_of_text" sRt fRt fdRt) (g_rt : mg "rule_of_text" = some (.ref fRt)) (G_rt : FnOk P w K mg base (L2.CX P w) 8 fRt fdRt ["text"] (spRt K CF CT CM)) : FnOk P w K mg base (L2.CX P w) 9 f fd ["cls", "text"] (spRr K CC CF CT CM) := by
  have b_rt : Binds K fdRt ["text"] [] := F_rt.binds fun _ _ _ _ _ _ us hl => match us, hl with | [_], _ => rfl
  refine F.okX scRrEl (fun vs H Q E h => ?_) (fun cdv A outer s H vs Q E hr h => ?_)
  · obtain ⟨v, rfl, _⟩ := h
    rfl
  · obtain ⟨v, rfl, h⟩ := h
    have hr8 : Room 8 _ := hr
    refine ⟨_, (pss_one (ps_ret (pe_call G_rt hr8 (by rfl) g_rt F_rt.kp b_rt .nil (passes_call (takes_of rfl rfl rfl rfl) (fun _ _ _ _ h => h)) (pa_cons (pv 1) pa_nil)))), ?_⟩
    exact ⟨_, rfl, v, rfl, h⟩
theorem rd_El {f : Addr} {fd : FuncData} (F : Fun K "read" "Else.read" sReadElse f fd) (G : FnOk P w K mg base (L2.CX P w) 9 f fd ["cls", "text"] (spRr K CC CF CT CM)) : FnR P w K mg base (L2.CX P w) 9 f (spRr K CC CF CT CM) ∧ OwR.FnRK P w K mg base (L2.CX P w) 9 f ["text"] (spRrK K CC CF CT CM) := by
  refine ⟨OwR.raw0 G (F.binds fun _ _ _ _ _ _ us hl => match us, hl with | [_, _], _ => rfl), ?_⟩
  obtain ⟨oc, od, kV, doc, pm, an, cdv, ct, osl, rfl, lk, hcd⟩ := F.ex
  intro A outer s H us ws vs zs Q E hr e0 r rz ⟨x, ev, ez, hj⟩
  subst ev ez
  match us, ws, r, rz with
  | [u1], [w1], .cons r1 .nil, .cons r2 .nil => exact G.run A outer s H ⟨[u1], [("text", w1)]⟩ [u1, w1] [.ref CC, x] Q E hr e0 (.of_eq rfl) (.cons r1 (.cons r2 .nil)) hj
end
end K10
end
section
set_option pp.maxSteps 400
set_option pp.deepTerms.threshold 6
/-! A text read off one of the classes, heard. -/
namespace K10
open PySem PySem.Spec PyProof.Rows L2
abbrev sRd : Stmt := top 38
def qRd : Str := "_law_read.<locals>.<lambda>"
theorem qRd_eq : (("_law_read" : Str) ++ ".<locals>.") ++ "<lambda>" = qRd := by decide +kernel
/-- read of a class -/
structure RdC (P : Program) (w : World) (K : PySem.W.Frag) (mg : Str → Option Value) (base : Heap) (CC CF CT CM p g : Addr) : Prop where
  r : ClX.CRead K CC (.type "type")
  m : ClX.CMet K CC (.type "type") "read" p g
  f : FnR P w K mg base (L2.CX P w) 9 g (spRr K CC CF CT CM)
  fk : OwR.FnRK P w K mg base (L2.CX P w) 9 g ["text"] (spRrK K CC CF CT CM)
/-- what is heard of a text -/
def ToldAt (H : Hp) (t : Addr) : Except Nat (List Pk) → Prop
  | .ok ps => ∃ q ks, H t = some (.tup [.str "told", .ref q]) ∧ H q = some (.tup (ks.map V.ref)) ∧ PicksAt H ks (oneForm ps)
  | .error e => H t = some (.tup [.str "text", .int 0, .int (e : Nat)])
/-- a text short enough to be read -/
structure ReadOk (z : Str) : Prop where
  len : z.length ≤ 100000
  word : ∀ i, (pk (wordsOf z) i).length ≤ 1000
  many : (wordsOf z).length ≤ 900
  few : ∀ ps, picksRead (wordsOf z) = .ok ps → ps.length ≤ 15
theorem TxtOk.read {z : Str} {n : Nat} {b : Int} (h : TxtOk z n b) (hn : n ≤ 100) (hb : b ≤ 23) : ReadOk z := by
  have l := text_len h.short
  have m := h.many
  refine ⟨?_, fun i => Nat.le_trans (pk_short h i) (by decide), by omega, fun ps e => Nat.le_trans (few_read h hb e) (by decide)⟩
  have : (61 + 1) * (wordsOf z).length ≤ 62 * 100 := Nat.mul_le_mul_left 62 (by omega)
  omega
def spRd15 (T : List (Addr × Str)) : Sp := fun vs H Q _ => ∃ (p c : Addr) (ns : List Int) (n : Nat) (z : Int) (t : Str), vs = [.ref p, .str t] ∧ PenAt H p c ns n z ∧ n + 1 < 100000 ∧ LamX.Tabs T H ∧ ReadOk t ∧ ∀ (u : Addr) (n' : Nat) (z' : Int) (H' : Hp), n' ≤ n + 1 → PenAt H' p c ns n' z' → Lo p H H' → LamX.Tabs T H' → ToldAt H' u (picksRead (wordsOf t)) → Q (.ref u) H'
section
variable {P : Program} {w : World} {K : PySem.W.Frag} {mg : Str → Option Value} {base : Heap}
/-- the reading of a text, heard -/
theorem read_heard {CF CM CB : Addr} {H1 : Hp} {t : Str} {Q : VK} {Q' : VK} {E' : XK} (ok : ReadOk t) (hE : ∀ cls d H', HearErr CB Q cls d H' → E' cls d H') (hR : ∀ v H', HearRule CF Q v H' → Q' v H') (q : ∀ u H', Same H1 H' → ToldAt H' u (picksRead (wordsOf t)) → Q (.ref u) H') : ReadMade K CF CB CM H1 (.str t) Q' E' := by
  refine .inl ⟨t, rfl, ok.len, ok.word, ok.many, ?_⟩
  cases e : picksRead (wordsOf t) with
  | ok ps =>
    rw [e] at q
    have fw := ok.few ps e
    refine ⟨Nat.le_trans (form_len ps) fw, by omega, fun r H2 s2 hr => hR _ _ ⟨r, _, rfl, hr, fun u p ks H3 s3 e1 e2 pk => q u H3 (s2.trans s3) ⟨p, ks, e1, e2, pk⟩⟩⟩
  | error n =>
    rw [e] at q
    exact fun H2 d s2 nd => hE _ _ _ ⟨d, n, rfl, rfl, upd_same, fun u H3 s3 e1 => q u H3 ((s2.trans (Same.of_new nd)).trans s3) e1⟩
abbrev nRd : List Str := ["_law_pen_here", "_law_line_so", "_law_way"]
theorem scRd : FnScope nRd ["_law_pen_here", "_law_line_so"] (defScope sRd) := ⟨rfl, rfl, rfl, by decide +kernel, rfl, by decide +kernel, by decide +kernel⟩
theorem ok_Rd15 {a : RAd} {CB CX CV f c0 Pt fH fDr pR gR pF gF pV gV' pE gE : Addr} {fdH fdDr : FuncData} {T : List (Addr × Str)} {oc kV doc pm ct : Value} {od an : Option Addr} {osl : Array (Option Value)} (lk : K.lookup f = some ⟨oc, od, .func (PySem.W.fnOf "_law_read" "_law_read" (defArgs sRd) (defBody sRd) (defScope sRd) .none kV doc pm an (.ref c0) ct), osl⟩) (hcd : PySem.W.codeIn K (.ref c0) "_law_read" = true)
    (R : RF P w K mg base a) (ear : EarC K mg CB CX) (Nn : Nm mg) (F_heard : Fun K "_law_heard" "_law_heard" sHeard fH fdH) (g_heard : mg "_law_heard" = some (.ref fH)) (F_draw : Fun K "_law_draw" "_law_draw" sDraw fDr fdDr) (g_draw : mg "_law_draw" = some (.ref fDr)) (gV : mg "Even" = some (.ref CV))
    (rdRule : RdC P w K mg base a.CR a.CF CB a.CT pR gR) (rdFirst : RdC P w K mg base a.CF a.CF CB a.CT pF gF) (rdEven : RdC P w K mg base CV a.CF CB a.CT pV gV') (rdElse : RdC P w K mg base a.CE a.CF CB a.CT pE gE)
    (TB : LamX.TabB base mg c0 Pt) (memT : (Pt, qRd) ∈ T) (oneT : ∀ p ∈ T, p.1 = Pt → p.2 = qRd) :
    FnOk P w K mg base CX0 12 f (PySem.W.fnOf "_law_read" "_law_read" (defArgs sRd) (defBody sRd) (defScope sRd) .none kV doc pm an (.ref c0) ct) ["_law_pen_here", "_law_line_so"] (spRd15 T) := by
  have b_heard : Binds K fdH ["_law_ask"] [] := F_heard.binds fun _ _ _ _ _ _ us hl => match us, hl with | [_], _ => rfl
  have G_draw : FnOk P w K mg base CX0 1 fDr fdDr ["_law_pen_here", "_law_many"] spDraw := ok_draw F_draw Nn
  have b_draw : Binds K fdDr ["_law_pen_here", "_law_many"] [] := F_draw.binds fun _ _ _ _ _ _ us hl => match us, hl with | [_, _], _ => rfl
  refine fn_of (k := 11) lk hcd scRd (fun vs H Q E h => ?_) fun A outer s H vs Q E hr h => ?_
  · obtain ⟨p, c, ns, n, z, t, rfl, _⟩ := h
    rfl
  · obtain ⟨p, c, ns, n, z, t, rfl, hp, hn, hT, ok, q⟩ := h
    have hr11 : Room 11 (A.deeper (envOfC "_law_read" (defScope sRd) s.heap.objs.size f (.ref c0))) := hr
    have hr3 := hr11.mono (show 3 ≤ 11 by decide)
    have hr1 := hr11.mono (show 1 ≤ 11 by decide)
    refine ⟨_, PSs.nox (pss_cons (ps_set (i := 2) scRd.nd rfl (Or.inl rfl) (pe_call G_draw hr1 (by rfl) g_draw F_draw.kp b_draw .nil pass0 (pa_cons (pv 0) (pa_cons pe_int pa_nil))))
    (pss_cons (ps_if (pt_cmpR op_eq (pv 2) pe_int (nomark _)) (pss_one (ps_ret (OwE.pe_lamT (T := T) (k := 9) (q := qRd) (by rfl) F_heard g_heard b_heard scH rfl (Or.inl rfl) qRd_eq (fun cdv => heard_gives (hr3) R ear) TB rfl memT oneT hr11 (LamX.lamS_by (sc := defScope sRd) (by decide +kernel)) (fun A outer s H E f c2 hr => (ClX.pe_cmeth (pe_glob (v := .ref a.CF) rfl R.gF rfl) rdFirst.r rdFirst.m rdFirst.f hr (passes_call (takes_of rfl rfl rfl rfl) (fun _ _ _ _ h => h)) (pa_cons (pv 1) pa_nil)))))) pss_nil)
    (pss_cons (ps_if (pt_cmpR op_eq (pv 2) pe_int (nomark _)) (pss_one (ps_ret (OwE.pe_lamT (T := T) (k := 9) (q := qRd) (by rfl) F_heard g_heard b_heard scH rfl (Or.inl rfl) qRd_eq (fun cdv => heard_gives (hr3) R ear) TB rfl memT oneT hr11 (LamX.lamS_by (sc := defScope sRd) (by decide +kernel)) (fun A outer s H E f c2 hr => (OwR.pe_cmethK (pe_glob (v := .ref CV) rfl gV rfl) rdEven.r rdEven.m rdEven.fk hr (passes_call (takes_of rfl rfl rfl rfl) (fun _ _ _ _ h => h)) (pk_cons (pv 1) pk_nil)))))) pss_nil)
    (pss_cons (ps_if (pt_cmpR op_eq (pv 2) pe_int (nomark _)) (pss_one (ps_ret (OwE.pe_lamT (T := T) (k := 9) (q := qRd) (by rfl) F_heard g_heard b_heard scH rfl (Or.inl rfl) qRd_eq (fun cdv => heard_gives (hr3) R ear) TB rfl memT oneT hr11 (LamX.lamS_by (sc := defScope sRd) (by decide +kernel)) (fun A outer s H E f c2 hr => (ClX.pe_cmeth (pe_glob (v := .ref a.CE) rfl R.gE rfl) rdElse.r rdElse.m rdElse.f hr (passes_call (takes_of rfl rfl rfl rfl) (fun _ _ _ _ h => h)) (pa_cons (pv 1) pa_nil)))))) pss_nil)
    (pss_one (ps_ret (OwE.pe_lamT (T := T) (k := 9) (q := qRd) (by rfl) F_heard g_heard b_heard scH rfl (Or.inl rfl) qRd_eq (fun cdv => heard_gives (hr3) R ear) TB rfl memT oneT hr11 (LamX.lamS_by (sc := defScope sRd) (by decide +kernel)) (fun A outer s H E f c2 hr => (ClX.pe_cmeth (pe_glob (v := .ref a.CR) rfl R.gR rfl) rdRule.r rdRule.m rdRule.f hr (passes_call (takes_of rfl rfl rfl rfl) (fun _ _ _ _ h => h)) (pa_cons (pv 1) pa_nil)))))))))), ?_⟩
    have sz := sizeLine_eq
    refine ⟨_, rfl, p, c, ns, n, z, 5, rfl, hp, by omega, by decide, by decide +kernel, fun d1 n1 z1 H1 d10 d11 hn1 hp1 s1 => ?_⟩
    have tb := tabs_but hT hp s1
    refine ⟨_, rfl, rfl, _, rfl, ?_⟩
    have rm : ∀ {H4 H5 : Hp} {E' : XK} {Q' : VK}, LamX.ExtN H1 H4 → LamX.Tabs T H4 → Same H4 H5 → (∀ cls d H', HearErr CB Q cls d H' → E' cls d H') → (∀ v H', HearRule a.CF Q v H' → Q' v H') → ReadMade K a.CF CB a.CT H5 (.str t) Q' E' := fun {H4 H5 E' Q'} eN tb4 s45 hE hR => read_heard ok hE hR fun u H6 s6 e => by
      have s46 := s45.trans s6
      have lo4 := (extN_lo p eN).trans (Same.lo p s46)
      have hp6 := hp1.lo lo4 (by rw [s46 _ _ ((hp1.ext eN).pen)]; exact hp1.pen.symm)
      exact q u n1 z1 H6 (by omega) hp6 (s1.lo.trans lo4) (tabs_same tb4 s46) e
    refine ite2 (fun c => ?_) (fun c => ?_)
    · exact ⟨tb, fun H4 eN tb4 H5 E' Q' s45 hE hR => ⟨rfl, _, rfl, _, rfl, rm eN tb4 s45 hE hR⟩⟩
    · refine ⟨_, rfl, rfl, _, rfl, ?_⟩
      refine ite2 (fun c => ?_) (fun c => ?_)
      · exact ⟨tb, fun H4 eN tb4 H5 E' Q' s45 hE hR => ⟨rfl, _, rfl, _, rfl, rfl, _, rfl, rm eN tb4 s45 hE hR⟩⟩
      · refine ⟨_, rfl, rfl, _, rfl, ?_⟩
        refine ite2 (fun c => ?_) (fun c => ?_)
        · exact ⟨tb, fun H4 eN tb4 H5 E' Q' s45 hE hR => ⟨rfl, _, rfl, _, rfl, rm eN tb4 s45 hE hR⟩⟩
        · exact ⟨tb, fun H4 eN tb4 H5 E' Q' s45 hE hR => ⟨rfl, _, rfl, _, rfl, rm eN tb4 s45 hE hR⟩⟩
end
end K10
end
section
/-! A text, so many times. Own. -/
namespace OwR
open PySem PySem.Spec PyProof.Rows L2
def repS (z : Str) (n : Nat) : Str := ⟨(List.replicate n z.cps).foldl (· ++ ·) #[]⟩
theorem fold_size : ∀ (l : List (Array Nat)) (a : Array Nat) (b : Nat), (∀ x ∈ l, x.size ≤ b) → (l.foldl (· ++ ·) a).size ≤ a.size + b * l.length
  | [], a, b, _ => Nat.le_refl _
  | x :: r, a, b, h => by
    have i := fold_size r (a ++ x) b fun y hy => h y (List.mem_cons_of_mem _ hy)
    have i1 := h x List.mem_cons_self
    rw [Array.size_append] at i
    rw [List.foldl_cons, List.length_cons, Nat.mul_succ]
    omega
def rMulS : R2 := fun x y H Q => ∃ (z : Str) (n : Nat), x = .str z ∧ y = .int (n : Nat) ∧ 2 ≤ n ∧ n ≤ 1000 ∧ 1 ≤ z.length ∧ z.length ≤ 1000 ∧ Q (.str (repS z n)) H
theorem op_mul_str {X : Cx} : OpR X (binaryOp .Mult) rMulS := by
  intro pins s σ H x y v u Q I rx ry h
  obtain ⟨z, n, rfl, rfl, n2, n1, z1, z2, q⟩ := h
  obtain ⟨t, rfl⟩ := rx
  obtain ⟨t', rfl⟩ := ry
  have sz := sizeLine_eq
  have hm : z.length * n ≤ 1000 * 1000 := Nat.mul_le_mul z2 n1
  refine PySem.P.mul_str ?_ (fun _ _ => ?_) (fun _ _ => ?_) ?_
  · rw [decide_eq_false (by omega), decide_eq_false (by omega)]
    rfl
  · have : (1000 : Int) ≤ (2 ^ 63 - 1) / (n : Int) := by
      rw [Int.le_ediv_iff_mul_le (by omega)]
      omega
    omega
  · rw [Int.toNat_natCast]
    unfold Builtin.Str.tooLong
    rw [decide_eq_false]
    omega
  · rw [if_neg (by omega), if_neg (by
      rw [Bool.or_eq_true, beq_iff_eq, beq_iff_eq]
      omega), Int.toNat_natCast]
    have len : (repS z n).length ≤ 1000 * 1000 := by
      have := fold_size (List.replicate n z.cps) #[] z.length fun x hx => by
        rw [(List.mem_replicate.mp hx).2]
        exact Nat.le_refl _
      rw [List.length_replicate] at this
      show (List.foldl (· ++ ·) #[] (List.replicate n z.cps)).size ≤ _
      have e : (#[] : Array Nat).size = 0 := rfl
      omega
    exact ⟨by show (repS z n).length ≤ sizeLine; omega, .str (repS z n), H, I.tok _, ⟨_, rfl⟩, q⟩
end OwR
end
section
set_option pp.maxSteps 400
set_option pp.deepTerms.threshold 6
/-! A text bent. -/
namespace K10
open PySem PySem.Spec PyProof.Rows L2
abbrev sBe : Stmt := top 39
theorem cutS_to (ws : List Str) (k : Nat) : cutV (ws.map V.str) none (some ((k : Nat) : Int)) = (ws.take k).map V.str := by
  unfold cutV
  rw [HT.sIx_none, HT.sIx_nat, List.drop_zero, Nat.sub_zero, List.length_map, List.map_take]
  rcases Nat.le_total k ws.length with h | h
  · rw [Nat.min_eq_left h]
  · rw [Nat.min_eq_right h, List.take_of_length_le (by rw [List.length_map]; exact Nat.le_refl _), List.take_of_length_le (by rw [List.length_map]; exact h)]
theorem cutS_from (ws : List Str) (k : Nat) : cutV (ws.map V.str) (some ((k : Nat) : Int)) none = (ws.drop k).map V.str := by
  unfold cutV
  rw [HT.sIx_none, HT.sIx_nat, List.length_map, List.map_drop, List.take_of_length_le (by rw [List.length_drop, List.length_map]; exact Nat.le_refl _)]
  rcases Nat.le_total k ws.length with h | h
  · rw [Nat.min_eq_left h]
  · rw [Nat.min_eq_right h, List.drop_of_length_le (by rw [List.length_map]; exact Nat.le_refl _), List.drop_of_length_le (by rw [List.length_map]; exact h)]
theorem sum_leB (b : Nat) : ∀ zs : List Str, (∀ z ∈ zs, z.length ≤ b) → (zs.map (·.length)).sum ≤ b * zs.length
  | [], _ => Nat.zero_le _
  | z :: r, h => by
    have i1 := sum_leB b r fun y hy => h y (List.mem_cons_of_mem _ hy)
    have i2 := h z List.mem_cons_self
    rw [List.map_cons, List.sum_cons, List.length_cons, Nat.mul_succ]
    omega
theorem join_fits {zs : List Str} (h : ∀ z ∈ zs, z.length ≤ 61) (l : zs.length ≤ 300) : (zs.map (·.length)).sum + zs.length * (" " : Str).length ≤ 16777216 := by
  have := sum_leB 61 zs h
  have e1 : (" " : Str).length = 1 := by decide +kernel
  rw [e1]
  omega
theorem odd_len : ∀ w ∈ oddL, w.length ≤ 61 := by decide +kernel
theorem nines_eq : OwR.repS "9" 61 = nines := by decide +kernel
def spBe : Sp := fun vs H Q _ => ∃ (p c : Addr) (ns : List Int) (n : Nat) (z : Int) (t : Str) (m : Nat) (b : Int), vs = [.ref p, .str t] ∧ PenAt H p c ns n z ∧ n + 5 < 100000 ∧ TxtOk t m b ∧ 1 ≤ m ∧ m ≤ 100 ∧ 0 ≤ b ∧ ∀ (t' : Str) (n' : Nat) (z' : Int) (H' : Hp), n' ≤ n + 3 → PenAt H' p c ns n' z' → But p H H' → TxtOk t' (m + 2) (b + 3) → Q (.str t') H'
section
variable {P : Program} {w : World} {K : PySem.W.Frag} {mg : Str → Option Value} {base : Heap}
abbrev nBe : List Str := ["_law_pen_here", "_law_line_so", "_law_words_so", "_law_spot", "_law_way", "_law_odd"]
theorem scBe : FnScope nBe ["_law_pen_here", "_law_line_so"] (defScope sBe) := ⟨rfl, rfl, rfl, by decide +kernel, rfl, by decide +kernel, by decide +kernel⟩
theorem ok_Be {f fDr fPi : Addr} {fd fdDr fdPi : FuncData} (F : Fun K "_law_bent" "_law_bent" sBe f fd) (Nn : Nm mg) (F_draw : Fun K "_law_draw" "_law_draw" sDraw fDr fdDr) (g_draw : mg "_law_draw" = some (.ref fDr)) (F_pick : Fun K "_law_pick" "_law_pick" sPick fPi fdPi) (g_pick : mg "_law_pick" = some (.ref fPi)) (n_len : mg "len" = none) :
    FnOk P w K mg base CX0 3 f fd ["_law_pen_here", "_law_line_so"] spBe := by
  have G_draw : FnOk P w K mg base CX0 1 fDr fdDr ["_law_pen_here", "_law_many"] spDraw := ok_draw F_draw Nn
  have b_draw : Binds K fdDr ["_law_pen_here", "_law_many"] [] := F_draw.binds fun _ _ _ _ _ _ us hl => match us, hl with | [_, _], _ => rfl
  have G_pick : FnOk P w K mg base CX0 2 fPi fdPi ["_law_pen_here", "_law_some"] (spPick K) := ok_pick F_pick Nn F_draw g_draw
  have b_pick : Binds K fdPi ["_law_pen_here", "_law_some"] [] := F_pick.binds fun _ _ _ _ _ _ us hl => match us, hl with | [_, _], _ => rfl
  refine F.ok scBe (fun vs H Q E h => ?_) (fun cdv A outer s H vs Q E hr h => ?_)
  · obtain ⟨p, c, ns, n, z, t, m, b, rfl, _⟩ := h
    rfl
  · obtain ⟨p, c, ns, n, z, t, m, b, rfl, hp, hn, ok, m1, m100, b0, q⟩ := h
    have hr2 : Room 2 _ := hr
    have hr1 := hr2.mono (show 1 ≤ 2 by decide)
    refine ⟨_, (pss_cons (ps_set (i := 2) scBe.nd rfl (Or.inl rfl) (pe_split (pv 1) pe_str))
    (pss_cons (ps_par (i := 3) (j := 4) (by rfl) scBe.nd rfl rfl (by decide) rfl rfl (pa_cons (pe_call G_draw hr1 (by rfl) g_draw F_draw.kp b_draw .nil pass0 (pa_cons (pv 0) (pa_cons (pe_op op_add (pe_callB call_len_seq (by rfl) n_len boot_len (pa_cons (pv 2) pa_nil)) pe_int) pa_nil))) (pa_cons (pe_call G_draw hr1 (by rfl) g_draw F_draw.kp b_draw .nil pass0 (pa_cons (pv 0) (pa_cons pe_int pa_nil))) pa_nil)) (by rfl))
    (pss_cons (ps_set (i := 5) scBe.nd rfl (Or.inl rfl) (pe_lst (pa_cons pe_str (pa_cons pe_str (pa_cons pe_str (pa_cons pe_str (pa_cons pe_str (pa_cons pe_str (pa_cons pe_str (pa_cons pe_str (pa_cons pe_str (pa_cons pe_str (pa_cons pe_str (pa_cons pe_str (pa_cons pe_str (pa_cons pe_str (pa_cons pe_str (pa_cons pe_str (pa_cons pe_str pa_nil)))))))))))))))))))
    (pss_cons (ps_set (i := 5) scBe.nd rfl (Or.inl rfl) (pe_op op_cat (pv 5) (pe_lst (pa_cons pe_str (pa_cons pe_str (pa_cons pe_str (pa_cons pe_str (pa_cons (pe_op OwR.op_mul_str pe_str pe_int) pa_nil))))))))
    (pss_cons (ps_if (pt_cmpR op_eq (pv 4) pe_int (nomark _)) (pss_one (ps_ret (pe_join pe_str (pe_op op_cat (pe_slice sl_list (pv 2) po_none (po_some (pv 3))) (pe_slice sl_list (pv 2) (po_some (pe_op op_add (pv 3) pe_int)) po_none))))) pss_nil)
    (pss_cons (ps_if (pt_cmpR op_eq (pv 4) pe_int (nomark _)) (pss_one (ps_ret (pe_join pe_str (pe_op op_cat (pe_slice sl_list (pv 2) po_none (po_some (pe_op op_add (pv 3) pe_int))) (pe_slice sl_list (pv 2) (po_some (pv 3)) po_none))))) pss_nil)
    (pss_cons (ps_if (pt_cmpR op_eq (pv 4) pe_int (nomark _)) (pss_one (ps_ret (pe_join pe_str (pe_op op_cat (pe_op op_cat (pe_slice sl_list (pv 2) po_none (po_some (pv 3))) (pe_lst (pa_cons (pe_call G_pick hr2 (by rfl) g_pick F_pick.kp b_pick .nil pass0 (pa_cons (pv 0) (pa_cons (pv 5) pa_nil))) pa_nil))) (pe_slice sl_list (pv 2) (po_some (pv 3)) po_none))))) pss_nil)
    (pss_one (ps_ret (pe_join pe_str (pe_op op_cat (pe_op op_cat (pe_slice sl_list (pv 2) po_none (po_some (pv 3))) (pe_lst (pa_cons (pe_call G_pick hr2 (by rfl) g_pick F_pick.kp b_pick .nil pass0 (pa_cons (pv 0) (pa_cons (pv 5) pa_nil))) pa_nil))) (pe_slice sl_list (pv 2) (po_some (pe_op op_add (pv 3) pe_int)) po_none)))))))))))), ?_⟩
    have sz := sizeLine_eq
    have l1 := text_len ok.short
    have l2 := ok.many
    have l3 : (61 + 1) * (wordsOf t).length ≤ 62 * 100 := Nat.mul_le_mul_left 62 (by omega)
    refine ⟨_, rfl, ⟨_, rfl⟩, t, " ", rfl, rfl, by decide +kernel, by omega, fun W1 hW => ?_⟩
    have s0 := Same.of_new (o := .lst ((Txt.split t " ").map V.str)) hW
    have eW0 : upd H W1 (.lst ((Txt.split t " ").map V.str)) W1 = some (.lst ((wordsOf t).map V.str)) := upd_same
    have hp0 := hp.same s0
    have nW : W1 ≠ p := fun e => hp.some (e ▸ hW)
    have ncW : W1 ≠ c := fun e => by
      rw [e, hp.cells] at hW
      cases hW
    refine ⟨_, rfl, _, rfl, W1, _, rfl, .inl (SqL.of eW0), _, _, rfl, rfl, ?_⟩
    refine ⟨p, c, ns, n, z, _, rfl, hp0, by omega, by rw [List.length_map]; omega, small_int (by rw [List.length_map]; omega) (by rw [List.length_map]; omega), fun d1 n1 z1 H1 d10 d11 hn1 hp1 s1 => ?_⟩
    rw [List.length_map] at d11
    obtain ⟨sp, rfl⟩ := Int.eq_ofNat_of_zero_le d10
    have hsp : sp ≤ (wordsOf t).length := by omega
    refine ⟨_, rfl, p, c, ns, n1, z1, 6, rfl, hp1, by omega, by decide, by decide +kernel, fun d2 n2 z2 H2 d20 d21 hn2 hp2 s2 => ?_⟩
    refine ⟨_, _, rfl, ?_⟩
    have b02 := (Same.but p s0).trans (s1.trans s2)
    have eW2 := s2 _ _ nW (s1 _ _ nW eW0)
    refine ⟨by show (17 : Nat) ≤ sizeLine; omega, fun L1 hL1 => ?_⟩
    have t1 := Same.of_new (o := .lst (oddA.map V.str)) hL1
    refine ⟨_, rfl, "9", 61, rfl, rfl, by decide, by decide, by decide +kernel, by decide +kernel, by show (5 : Nat) ≤ sizeLine; omega, fun L2 hL2 => ?_⟩
    have t2 := Same.of_new (o := .lst [.str "1\n", .str "or or", .str "keep 3", .str "3 keep", .str (OwR.repS "9" 61)]) hL2
    refine ⟨L1, L2, _, _, rfl, rfl, t2 _ _ upd_same, upd_same, by show (17 : Nat) + 5 ≤ sizeLine; omega, fun L3 hL3 => ?_⟩
    have eo : (oddA.map V.str) ++ [V.str "1\n", V.str "or or", V.str "keep 3", V.str "3 keep", V.str (OwR.repS "9" 61)] = oddL.map V.str := by
      rw [nines_eq]
      rfl
    have t3 := Same.of_new (o := .lst ((oddA.map V.str) ++ [V.str "1\n", V.str "or or", V.str "keep 3", V.str "3 keep", V.str (OwR.repS "9" 61)])) hL3
    have t123 := (t1.trans t2).trans t3
    have eL : upd (upd (upd H2 L1 (.lst (oddA.map V.str))) L2 (.lst [.str "1\n", .str "or or", .str "keep 3", .str "3 keep", .str (OwR.repS "9" 61)])) L3 (.lst ((oddA.map V.str) ++ [V.str "1\n", V.str "or or", V.str "keep 3", V.str "3 keep", V.str (OwR.repS "9" 61)])) L3 = some (.lst (oddL.map V.str)) := by
      rw [upd_same]
      exact congrArg (fun l => some (HO.lst l)) eo
    have hp3 := hp2.same t123
    have eW3 := t123 _ _ eW2
    have b03 := b02.trans (Same.but p t123)
    have nL3 : L3 ≠ p := fun e => (hp2.same (t1.trans t2)).some (by rw [← e]; exact hL3)
    have ws61 := ok.short
    have tk : ∀ k : Nat, ∀ q ∈ (wordsOf t).take k, q.length ≤ 61 := fun k q hq => ws61 q (List.mem_of_mem_take hq)
    have dr : ∀ k : Nat, ∀ q ∈ (wordsOf t).drop k, q.length ≤ 61 := fun k q hq => ws61 q (List.mem_of_mem_drop hq)
    refine ⟨_, rfl, rfl, _, rfl, ?_⟩
    refine ite2 (fun _ => ?_) (fun _ => ?_)
    · have e1 := cutS_to (wordsOf t) sp
      have e2 : cutV ((wordsOf t).map V.str) (some (((sp : Nat) : Int) + 1)) none = ((wordsOf t).drop (sp + 1)).map V.str := cutS_from _ (sp + 1)
      refine ⟨⟨_, rfl⟩, _, rfl, _, rfl, _, rfl, W1, _, rfl, SqL.of eW3, fun A1 hA => ?_⟩
      have sA := Same.of_new (o := .lst (cutV ((wordsOf t).map V.str) none (some ((sp : Nat) : Int)))) hA
      refine ⟨_, rfl, _, rfl, _, _, rfl, rfl, _, rfl, W1, _, rfl, SqL.of (sA _ _ eW3), fun A2 hA2 => ?_⟩
      have sA2 := Same.of_new (o := .lst (cutV ((wordsOf t).map V.str) (some (((sp : Nat) : Int) + 1)) none)) hA2
      refine ⟨A1, A2, _, _, rfl, rfl, sA2 _ _ upd_same, upd_same, by rw [e1, e2, List.length_map, List.length_map, List.length_take, List.length_drop]; omega, fun R hR => ?_⟩
      have sR := Same.of_new (o := .lst (cutV ((wordsOf t).map V.str) none (some ((sp : Nat) : Int)) ++ cutV ((wordsOf t).map V.str) (some (((sp : Nat) : Int) + 1)) none)) hR
      refine ⟨_, R, (wordsOf t).take sp ++ (wordsOf t).drop (sp + 1), rfl, rfl, .inl (SqL.of (by rw [upd_same, e1, e2, List.map_append])), join_fits (fun q hq => ?_) (by rw [List.length_append, List.length_take, List.length_drop]; omega), ?_⟩
      · rcases List.mem_append.mp hq with hq | hq
        · exact tk _ q hq
        · exact dr _ q hq
      · exact q _ n2 z2 _ (by omega) (hp3.same ((sA.trans sA2).trans sR)) (b03.trans (Same.but p ((sA.trans sA2).trans sR))) (bend_out ok sp m1 b0)
    · refine ⟨_, rfl, rfl, _, rfl, ?_⟩
      refine ite2 (fun _ => ?_) (fun _ => ?_)
      · have e1 : cutV ((wordsOf t).map V.str) none (some (((sp : Nat) : Int) + 1)) = ((wordsOf t).take (sp + 1)).map V.str := cutS_to _ (sp + 1)
        have e2 := cutS_from (wordsOf t) sp
        refine ⟨⟨_, rfl⟩, _, rfl, _, rfl, _, _, rfl, rfl, _, rfl, W1, _, rfl, SqL.of eW3, fun A1 hA => ?_⟩
        have sA := Same.of_new (o := .lst (cutV ((wordsOf t).map V.str) none (some (((sp : Nat) : Int) + 1)))) hA
        refine ⟨_, rfl, _, rfl, _, rfl, W1, _, rfl, SqL.of (sA _ _ eW3), fun A2 hA2 => ?_⟩
        have sA2 := Same.of_new (o := .lst (cutV ((wordsOf t).map V.str) (some ((sp : Nat) : Int)) none)) hA2
        refine ⟨A1, A2, _, _, rfl, rfl, sA2 _ _ upd_same, upd_same, by rw [e1, e2, List.length_map, List.length_map, List.length_take, List.length_drop]; omega, fun R hR => ?_⟩
        have sR := Same.of_new (o := .lst (cutV ((wordsOf t).map V.str) none (some (((sp : Nat) : Int) + 1)) ++ cutV ((wordsOf t).map V.str) (some ((sp : Nat) : Int)) none)) hR
        refine ⟨_, R, (wordsOf t).take (sp + 1) ++ (wordsOf t).drop sp, rfl, rfl, .inl (SqL.of (by rw [upd_same, e1, e2, List.map_append])), join_fits (fun q hq => ?_) (by rw [List.length_append, List.length_take, List.length_drop]; omega), ?_⟩
        · rcases List.mem_append.mp hq with hq | hq
          · exact tk _ q hq
          · exact dr _ q hq
        · exact q _ n2 z2 _ (by omega) (hp3.same ((sA.trans sA2).trans sR)) (b03.trans (Same.but p ((sA.trans sA2).trans sR))) (bend_twice ok sp m1 b0)
      · have e1 := cutS_to (wordsOf t) sp
        have e2 : ∀ k : Nat, cutV ((wordsOf t).map V.str) (some ((k : Nat) : Int)) none = ((wordsOf t).drop k).map V.str := cutS_from _
        refine ⟨_, rfl, rfl, _, rfl, ?_⟩
        refine ite2 (fun _ => ?_) (fun _ => ?_)
        · refine ⟨⟨_, rfl⟩, _, rfl, _, rfl, _, rfl, W1, _, rfl, SqL.of eW3, fun A1 hA => ?_⟩
          have sA := Same.of_new (o := .lst (cutV ((wordsOf t).map V.str) none (some ((sp : Nat) : Int)))) hA
          have hpA := hp3.same sA
          have nA1 : A1 ≠ p := fun e => hp3.some (e ▸ hA)
          refine ⟨_, rfl, _, rfl, p, c, L3, ns, n2, z2, _, rfl, hpA, by omega, nL3, SqL.of (sA _ _ eL), by show (0 : Nat) < 22; decide, by show (22 : Nat) < 1000; decide, fun x n3 z3 H4 hx hn3 hp4 s4 => ?_⟩
          obtain ⟨o, ho, rfl⟩ := List.mem_map.mp hx
          refine ⟨by show (1 : Nat) ≤ sizeLine; omega, fun B1 hB => ?_⟩
          have sB := Same.of_new (o := .lst [.str o]) hB
          have eA4 := sB _ _ (s4 _ _ nA1 upd_same)
          refine ⟨A1, B1, _, _, rfl, rfl, eA4, upd_same, by rw [e1, List.length_map, List.length_take]; show _ + 1 ≤ _; omega, fun C1 hC => ?_⟩
          have sC := Same.of_new (o := .lst (cutV ((wordsOf t).map V.str) none (some ((sp : Nat) : Int)) ++ [.str o])) hC
          have eW5 := sC _ _ (sB _ _ (s4 _ _ nW (sA _ _ eW3)))
          refine ⟨_, rfl, _, rfl, _, rfl, W1, _, rfl, SqL.of eW5, fun D1 hD => ?_⟩
          have e3 : cutV ((wordsOf t).map V.str) (some (((sp : Nat) : Int))) none = ((wordsOf t).drop sp).map V.str := e2 sp
          have sD := Same.of_new (o := .lst (cutV ((wordsOf t).map V.str) (some (((sp : Nat) : Int))) none)) hD
          refine ⟨C1, D1, _, _, rfl, rfl, sD _ _ upd_same, upd_same, by rw [e1, e3, List.length_append, List.length_map, List.length_map, List.length_take, List.length_drop]; show _ + 1 + _ ≤ _; omega, fun R hR => ?_⟩
          have sR := Same.of_new (o := .lst ((cutV ((wordsOf t).map V.str) none (some ((sp : Nat) : Int)) ++ [.str o]) ++ cutV ((wordsOf t).map V.str) (some (((sp : Nat) : Int))) none)) hR
          have sAll := ((sB.trans sC).trans sD).trans sR
          refine ⟨_, R, ((wordsOf t).take sp ++ [o]) ++ (wordsOf t).drop sp, rfl, rfl, .inl (SqL.of (by rw [upd_same, e1, e3, List.map_append, List.map_append]; rfl)), join_fits (fun q hq => ?_) (by rw [List.length_append, List.length_append, List.length_take, List.length_drop]; show _ + 1 + _ ≤ _; omega), ?_⟩
          · rcases List.mem_append.mp hq with hq | hq
            · rcases List.mem_append.mp hq with hq | hq
              · exact tk _ q hq
              · rw [List.mem_singleton.mp hq]
                exact odd_len o ho
            · exact dr _ q hq
          · exact q _ n3 z3 _ (by omega) (hp4.same sAll) (((b03.trans (Same.but p sA)).trans s4).trans (Same.but p sAll)) (bend_in ok sp sp (.inl rfl) ho m1 b0)
        · refine ⟨⟨_, rfl⟩, _, rfl, _, rfl, _, rfl, W1, _, rfl, SqL.of eW3, fun A1 hA => ?_⟩
          have sA := Same.of_new (o := .lst (cutV ((wordsOf t).map V.str) none (some ((sp : Nat) : Int)))) hA
          have hpA := hp3.same sA
          have nA1 : A1 ≠ p := fun e => hp3.some (e ▸ hA)
          refine ⟨_, rfl, _, rfl, p, c, L3, ns, n2, z2, _, rfl, hpA, by omega, nL3, SqL.of (sA _ _ eL), by show (0 : Nat) < 22; decide, by show (22 : Nat) < 1000; decide, fun x n3 z3 H4 hx hn3 hp4 s4 => ?_⟩
          obtain ⟨o, ho, rfl⟩ := List.mem_map.mp hx
          refine ⟨by show (1 : Nat) ≤ sizeLine; omega, fun B1 hB => ?_⟩
          have sB := Same.of_new (o := .lst [.str o]) hB
          have eA4 := sB _ _ (s4 _ _ nA1 upd_same)
          refine ⟨A1, B1, _, _, rfl, rfl, eA4, upd_same, by rw [e1, List.length_map, List.length_take]; show _ + 1 ≤ _; omega, fun C1 hC => ?_⟩
          have sC := Same.of_new (o := .lst (cutV ((wordsOf t).map V.str) none (some ((sp : Nat) : Int)) ++ [.str o])) hC
          have eW5 := sC _ _ (sB _ _ (s4 _ _ nW (sA _ _ eW3)))
          refine ⟨_, rfl, _, rfl, _, _, rfl, rfl, _, rfl, W1, _, rfl, SqL.of eW5, fun D1 hD => ?_⟩
          have e3 : cutV ((wordsOf t).map V.str) (some (((sp : Nat) : Int) + 1)) none = ((wordsOf t).drop (sp + 1)).map V.str := e2 (sp + 1)
          have sD := Same.of_new (o := .lst (cutV ((wordsOf t).map V.str) (some (((sp : Nat) : Int) + 1)) none)) hD
          refine ⟨C1, D1, _, _, rfl, rfl, sD _ _ upd_same, upd_same, by rw [e1, e3, List.length_append, List.length_map, List.length_map, List.length_take, List.length_drop]; show _ + 1 + _ ≤ _; omega, fun R hR => ?_⟩
          have sR := Same.of_new (o := .lst ((cutV ((wordsOf t).map V.str) none (some ((sp : Nat) : Int)) ++ [.str o]) ++ cutV ((wordsOf t).map V.str) (some (((sp : Nat) : Int) + 1)) none)) hR
          have sAll := ((sB.trans sC).trans sD).trans sR
          refine ⟨_, R, ((wordsOf t).take sp ++ [o]) ++ (wordsOf t).drop (sp + 1), rfl, rfl, .inl (SqL.of (by rw [upd_same, e1, e3, List.map_append, List.map_append]; rfl)), join_fits (fun q hq => ?_) (by rw [List.length_append, List.length_append, List.length_take, List.length_drop]; show _ + 1 + _ ≤ _; omega), ?_⟩
          · rcases List.mem_append.mp hq with hq | hq
            · rcases List.mem_append.mp hq with hq | hq
              · exact tk _ q hq
              · rw [List.mem_singleton.mp hq]
                exact odd_len o ho
            · exact dr _ q hq
          · exact q _ n3 z3 _ (by omega) (hp4.same sAll) (((b03.trans (Same.but p sA)).trans s4).trans (Same.but p sAll)) (bend_in ok sp (sp + 1) (.inr rfl) ho m1 b0)
end
end K10
end
section
set_option pp.maxSteps 400
set_option pp.deepTerms.threshold 6
/-! The law. -/
namespace K10
open PySem PySem.Spec PyProof.Rows L2
abbrev sLaw : Stmt := top 40
def qLaw : Str := "law.<locals>.<lambda>"
theorem qLaw_eq : (("law" : Str) ++ ".<locals>.") ++ "<lambda>" = qLaw := by decide +kernel
theorem told_sh {ps : List Pk} (h : ∀ p ∈ ps, PyData.strOk p.1 = true) : SeqAt.shaped (.tuple [.str "told", .tuple (ps.map pkD)]) = true := by
  have l : ∀ ps : List Pk, (∀ p ∈ ps, PyData.strOk p.1 = true) → PyData.canLayAll0 (ps.map pkD) = true := fun ps => by
    induction ps with
    | nil => exact fun _ => rfl
    | cons p r ih =>
      intro h
      rw [List.map_cons, PyData.canLayAll0, pkD_lay (h p List.mem_cons_self), ih fun q hq => h q (List.mem_cons_of_mem _ hq)]
      rfl
  have o : PyData.strOk ("told" : Str) = true := by decide +kernel
  refine OwD.shaped_of (by simp [PyData.canLay0, PyData.canLayAll0, o, l ps h]) ?_
  have := OwD.deps (f := pkD) (k := 1) ps fun q _ => pkD_dep q
  simp only [PyData.depth, PyData.depthAll]
  omega
theorem text_sh (e : Nat) : SeqAt.shaped (.tuple [.str "text", .int 0, .int (e : Nat)]) = true := by
  have o : PyData.strOk ("text" : Str) = true := by decide +kernel
  exact OwD.shaped_of (by simp [PyData.canLay0, PyData.canLayAll0, o]) (by simp [PyData.depth, PyData.depthAll])
/-- what is due, as data -/
def dueD : Except Nat (List Pk) → PyData
  | .ok ps => .tuple [.str "told", .tuple ((oneForm ps).map pkD)]
  | .error e => .tuple [.str "text", .int 0, .int (e : Nat)]
theorem due_sh {r : Except Nat (List Pk)} (h : ∀ ps, r = .ok ps → ∀ p ∈ ps, PyData.strOk p.1 = true) : SeqAt.shaped (dueD r) = true ∧ PyData.eqv (dueD r) (dueD r) = true := by
  have sh : SeqAt.shaped (dueD r) = true := by
    cases r with
    | ok ps => exact told_sh fun p hp => h ps rfl p (mem_form hp)
    | error e => exact text_sh e
  exact ⟨sh, SeqAt.eqv_refl _ (SeqAt.canLay_of_shaped sh)⟩
theorem ToldAt.dp {K : PySem.W.Frag} {H : Hp} {t : Addr} {r : Except Nat (List Pk)} (h : ToldAt H t r) : Dp K H (.ref t) (dueD r) := by
  cases r with
  | ok ps =>
    obtain ⟨q, ks, e1, e2, pk⟩ := h
    exact .tup (SqT.of e1) (.cons (.str _) (.cons (.tup (SqT.of e2) pk.dp) .nil))
  | error e => exact .tup (SqT.of h) (.cons (.str _) (.cons (.int _) (.cons (.int _) .nil)))
theorem ToldAt.same {H H' : Hp} {t : Addr} {r : Except Nat (List Pk)} (h : ToldAt H t r) (s : Same H H') : ToldAt H' t r := by
  cases r with
  | ok ps =>
    obtain ⟨q, ks, e1, e2, pk⟩ := h
    exact ⟨q, ks, s _ _ e1, s _ _ e2, pk.same s⟩
  | error e => exact s _ _ h
theorem ToldAt.lo {H H' : Hp} {p c : Addr} {ns : List Int} {n : Nat} {z : Int} {t : Addr} {r : Except Nat (List Pk)} (h : ToldAt H t r) (P : PenAt H p c ns n z) (s : Lo p H H') : ToldAt H' t r := by
  cases r with
  | ok ps =>
    obtain ⟨q, ks, e1, e2, pk⟩ := h
    exact ⟨q, ks, lo_tup P s e1, lo_tup P s e2, pk.lo P s⟩
  | error e => exact lo_tup P s h
/-- the odd values -/
inductive OddT (CF : Addr) (H : Hp) : V → Prop where
  | non : OddT CF H .non
  | int (i : Int) : OddT CF H (.int i)
  | bl (b : Bool) : OddT CF H (.bl b)
  | emp : OddT CF H (.str "")
  | lst {l : Addr} (e : H l = some (.lst [.str "s"])) : OddT CF H (.ref l)
  | tup {l : Addr} {xs : List V} (e : H l = some (.tup xs)) : OddT CF H (.ref l)
  | dic {l : Addr} {kvs : List (Key × V)} (e : H l = some (.dK kvs)) : OddT CF H (.ref l)
  | obj {l dx : Addr} {fs : List (Str × V)} (e : H l = some (.ins CF dx fs)) : OddT CF H (.ref l)
theorem OddT.lo {CF : Addr} {H H' : Hp} {x : V} {p c : Addr} {ns : List Int} {n : Nat} {z : Int} (h : OddT CF H x) (P : PenAt H p c ns n z) (s : Lo p H H') : OddT CF H' x := by
  cases h with
  | non => exact .non
  | int i => exact .int i
  | bl b => exact .bl b
  | emp => exact .emp
  | lst e => exact .lst (s _ _ (fun q => by rw [q, P.pen] at e; cases e) (fun ps h => by cases h) e)
  | tup e => exact .tup (lo_tup P s e)
  | dic e => exact .dic (lo_dK P s e)
  | obj e => exact .obj (lo_ins P s e)
theorem OddT.same {CF : Addr} {H H' : Hp} {x : V} (h : OddT CF H x) (s : Same H H') : OddT CF H' x := by
  cases h with
  | non => exact .non
  | int i => exact .int i
  | bl b => exact .bl b
  | emp => exact .emp
  | lst e => exact .lst (s _ _ e)
  | tup e => exact .tup (s _ _ e)
  | dic e => exact .dic (s _ _ e)
  | obj e => exact .obj (s _ _ e)
theorem OddT.read {K : PySem.W.Frag} {a : RAd} {CB CM : Addr} {H : Hp} {x : V} {Q : VK} {E : XK} (h : OddT a.CF H x) (k : RKind K a.CR a.fI a.fL a.fN a.CF) (noS : PySem.W.kitOne K (.ref a.CF) (.type "str") = some false) (er : ∀ H' d, Same H H' → H' d = none → E (.ref CB) (some d) (upd H' d (.xd [("word", .int 0), ("line", .int 0)]))) : ReadMade K a.CF CB CM H x Q E := by
  have ns : ∀ H', Same H H' → OddT a.CF H' x := fun H' s => h.same s
  cases h with
  | emp =>
    refine .inl ⟨"", rfl, by decide +kernel, fun i => ?_, by decide +kernel, ?_⟩
    · have e : Txt.split ("" : Str) " " = [("" : Str)] := by decide +kernel
      rw [e]
      cases i with
      | zero => exact by decide +kernel
      | succ i =>
        rw [pk_out (by show 1 ≤ i + 1; omega)]
        decide +kernel
    · have e : picksRead (Txt.split ("" : Str) " ") = .error 0 := by
        have e1 : Txt.split ("" : Str) " " = [("" : Str)] := by decide +kernel
        rw [e1]
        unfold picksRead pickRead
        rw [if_neg (by decide +kernel), if_neg (by decide +kernel)]
      rw [e]
      exact er
  | non => exact .inr ⟨fun H' s => ⟨_, .base .non, kit_ty (by decide +kernel)⟩, er⟩
  | int i => exact .inr ⟨fun H' s => ⟨_, .base (.int i), kit_ty (by decide +kernel)⟩, er⟩
  | bl b => exact .inr ⟨fun H' s => ⟨_, .base (.bl b), kit_ty (by decide +kernel)⟩, er⟩
  | lst e => exact .inr ⟨fun H' s => ⟨_, .base (.lst (s _ _ e)), kit_ty (by decide +kernel)⟩, er⟩
  | tup e => exact .inr ⟨fun H' s => ⟨_, .base (.tup (s _ _ e)), kit_ty (by decide +kernel)⟩, er⟩
  | dic e => exact .inr ⟨fun H' s => ⟨_, .base (.dK (s _ _ e)), kit_ty (by decide +kernel)⟩, er⟩
  | obj e => exact .inr ⟨fun H' s => ⟨_, k.ty (s _ _ e), noS⟩, er⟩
theorem fixed_ok : TxtOk "s keep 0" 3 3 ∧ TxtOk "-" 1 1 := ⟨⟨by decide +kernel, by decide +kernel, by decide +kernel⟩, ⟨by decide +kernel, by decide +kernel, by decide +kernel⟩⟩
theorem fixed_read : picksRead (wordsOf "s keep 0") = .error 2 ∧ picksRead (wordsOf "-") = .ok [] := by
  have e1 : wordsOf "s keep 0" = [("s" : Str), "keep", "0"] := by decide +kernel
  have e2 : wordsOf "-" = [("-" : Str)] := by decide +kernel
  rw [e1, e2]
  refine ⟨?_, ?_⟩
  · unfold picksRead pickRead
    rw [if_neg (by decide +kernel), if_pos (by decide +kernel), if_pos (by decide +kernel), if_neg (by decide +kernel)]
  · unfold picksRead
    rw [if_pos (by decide +kernel), if_pos (by decide)]
theorem read_bad {K : PySem.W.Frag} {CF CB CM : Addr} {H : Hp} {t : Str} {n : Nat} {Q : VK} {E : XK} (ok : ReadOk t) (e : picksRead (wordsOf t) = .error n) (k : ∀ H' d, Same H H' → H' d = none → E (.ref CB) (some d) (upd H' d (.xd [("word", .int (n : Nat)), ("line", .int 0)]))) : ReadMade K CF CB CM H (.str t) Q E := by
  refine .inl ⟨t, rfl, ok.len, ok.word, ok.many, ?_⟩
  rw [e]
  exact k
theorem read_made {K : PySem.W.Frag} {CF CB CM : Addr} {H : Hp} {t : Str} {ps : List Pk} {Q : VK} {E : XK} (ok : ReadOk t) (e : picksRead (wordsOf t) = .ok ps) (k : ∀ r H', Same H H' → RuleAt CF H' r (oneForm ps) → Q (.ref r) H') : ReadMade K CF CB CM H (.str t) Q E := by
  have fw := ok.few ps e
  refine .inl ⟨t, rfl, ok.len, ok.word, ok.many, ?_⟩
  rw [e]
  exact ⟨Nat.le_trans (form_len ps) fw, by omega, k⟩
def spLaw (K : PySem.W.Frag) (T : List (Addr × Str)) : Sp := fun vs H Q _ => ∃ (a : Addr) (ns : List Int), vs = [.ref a] ∧ SqL K H a (ns.map V.int) ∧ ns.length ≤ 63 ∧ LamX.Tabs T H ∧ ∀ H', Q (.bl true) H'
section
variable {P : Program} {w : World} {K : PySem.W.Frag} {mg : Str → Option Value} {base : Heap}
abbrev nLaw : List Str := ["_law_script", "_law_pen_here", "_law_turn", "_law_bays", "_law_picks_so", "_law_made", "_law_form_here", "_law_line_so", "_law_wide", "_law_again", "_law_told", "_law_due", "_law_odd"]
theorem scLaw : FnScope nLaw ["_law_script"] (defScope sLaw) := ⟨rfl, rfl, rfl, by decide +kernel, rfl, by decide +kernel, by decide +kernel⟩
theorem ok_law {a : RAd} {CB CX f c0 Pt fH fDr fPi fPe fRo fFo fLi fBe fRh fIs fRd pR gR : Addr} {fdH fdDr fdPi fdPe fdRo fdFo fdLi fdBe fdRh fdIs fdRd : FuncData} {T : List (Addr × Str)} {oc kV doc pm ct : Value} {od an : Option Addr} {osl : Array (Option Value)} (lk : K.lookup f = some ⟨oc, od, .func (PySem.W.fnOf "law" "law" (defArgs sLaw) (defBody sLaw) (defScope sLaw) .none kV doc pm an (.ref c0) ct), osl⟩) (hcd : PySem.W.codeIn K (.ref c0) "law" = true)
    (R : RF P w K mg base a) (ear : EarC K mg CB CX) (Nn : Nm mg) (F_heard : Fun K "_law_heard" "_law_heard" sHeard fH fdH) (g_heard : mg "_law_heard" = some (.ref fH)) (F_draw : Fun K "_law_draw" "_law_draw" sDraw fDr fdDr) (g_draw : mg "_law_draw" = some (.ref fDr)) (F_pick : Fun K "_law_pick" "_law_pick" sPick fPi fdPi) (g_pick : mg "_law_pick" = some (.ref fPi)) (F_pen : Fun K "_law_pen" "_law_pen" sPen fPe fdPe) (g_pen : mg "_law_pen" = some (.ref fPe))
    (F_row : Fun K "_law_row" "_law_row" sRow fRo fdRo) (g_row : mg "_law_row" = some (.ref fRo)) (F_form : Fun K "_law_form" "_law_form" sLForm fFo fdFo) (g_form : mg "_law_form" = some (.ref fFo)) (F_line : Fun K "_law_line" "_law_line" sLi fLi fdLi) (g_line : mg "_law_line" = some (.ref fLi)) (F_bent : Fun K "_law_bent" "_law_bent" sBe fBe fdBe) (g_bent : mg "_law_bent" = some (.ref fBe))
    (F_rh : Fun K "_law_read_here" "_law_read_here" sRh fRh fdRh) (g_rh : mg "_law_read_here" = some (.ref fRh)) (F_isn : Fun K "_law_is_name" "_law_is_name" sIn15 fIs fdIs) (g_isn : mg "_law_is_name" = some (.ref fIs)) (n_range : mg "range" = none) (rdRule : RdC P w K mg base a.CR a.CF CB a.CT pR gR)
    (G_rd : FnOk P w K mg base CX0 12 fRd fdRd ["_law_pen_here", "_law_line_so"] (spRd15 T)) (kp_rd : PySem.W.keepIn K (.ref fRd) = true) (g_rd : mg "_law_read" = some (.ref fRd)) (b_rd : Binds K fdRd ["_law_pen_here", "_law_line_so"] []) (noS : PySem.W.kitOne K (.ref a.CF) (.type "str") = some false)
    (TB : LamX.TabB base mg c0 Pt) (memT : (Pt, qLaw) ∈ T) (oneT : ∀ p ∈ T, p.1 = Pt → p.2 = qLaw) :
    OwR.FnG P w K mg base CX0 13 f (PySem.W.fnOf "law" "law" (defArgs sLaw) (defBody sLaw) (defScope sLaw) .none kV doc pm an (.ref c0) ct) ["_law_script"] (spLaw K T) := by
  have n_str := R.chk.T.n_str
  have n_len := R.chk.T.n_len
  have n_int := R.chk.T.n_int
  have n_isinstance := R.chk.T.n_isinstance
  have n_list := R.chk.T3.n_list
  have n_tuple := R.chk.T4.n_tuple
  have b_heard : Binds K fdH ["_law_ask"] [] := F_heard.binds fun _ _ _ _ _ _ us hl => match us, hl with | [_], _ => rfl
  have G_draw : FnOk P w K mg base CX0 1 fDr fdDr ["_law_pen_here", "_law_many"] spDraw := ok_draw F_draw Nn
  have b_draw : Binds K fdDr ["_law_pen_here", "_law_many"] [] := F_draw.binds fun _ _ _ _ _ _ us hl => match us, hl with | [_, _], _ => rfl
  have G_pen : FnOk P w K mg base CX0 1 fPe fdPe ["_law_script"] (spPen K) := ok_pen F_pen Nn
  have b_pen : Binds K fdPe ["_law_script"] [] := F_pen.binds fun _ _ _ _ _ _ us hl => match us, hl with | [_], _ => rfl
  have G_pick : FnOk P w K mg base CX0 2 fPi fdPi ["_law_pen_here", "_law_some"] (spPick K) := ok_pick F_pick Nn F_draw g_draw
  have b_pick : Binds K fdPi ["_law_pen_here", "_law_some"] [] := F_pick.binds fun _ _ _ _ _ _ us hl => match us, hl with | [_, _], _ => rfl
  have G_row : FnOk P w K mg base CX0 3 fRo fdRo ["_law_pen_here", "_law_bays", "_law_keeps", "_law_top"] (spRow K) := ok_row F_row Nn n_range F_draw g_draw F_pick g_pick
  have b_row : Binds K fdRo ["_law_pen_here", "_law_bays", "_law_keeps", "_law_top"] [] := F_row.binds fun _ _ _ _ _ _ us hl => match us, hl with | [_, _, _, _], _ => rfl
  have G_form : FnOk P w K mg base CX0 1 fFo fdFo ["_law_picks_so"] (spLForm K) := ok_lform F_form n_len n_range
  have b_form : Binds K fdFo ["_law_picks_so"] [] := F_form.binds fun _ _ _ _ _ _ us hl => match us, hl with | [_], _ => rfl
  have G_line : FnOk P w K mg base CX0 1 fLi fdLi ["_law_picks_so"] spLi := ok_Li F_line n_str
  have b_line : Binds K fdLi ["_law_picks_so"] [] := F_line.binds fun _ _ _ _ _ _ us hl => match us, hl with | [_], _ => rfl
  have G_bent : FnOk P w K mg base CX0 3 fBe fdBe ["_law_pen_here", "_law_line_so"] spBe := ok_Be F_bent Nn F_draw g_draw F_pick g_pick n_len
  have b_bent : Binds K fdBe ["_law_pen_here", "_law_line_so"] [] := F_bent.binds fun _ _ _ _ _ _ us hl => match us, hl with | [_, _], _ => rfl
  have G_rh : FnOk P w K mg base CX0 2 fRh fdRh ["_law_words_so"] spRh := ok_Rh F_rh F_isn g_isn n_len n_int
  have b_rh : Binds K fdRh ["_law_words_so"] [] := F_rh.binds fun _ _ _ _ _ _ us hl => match us, hl with | [_], _ => rfl
  refine OwR.fn_ofG (k := 12) lk hcd scLaw (fun vs H Q E h => ?_) fun A outer s H vs Q E hgd0 hr h => ?_
  · obtain ⟨x, ns, rfl, _⟩ := h
    rfl
  · obtain ⟨x, ns, rfl, hx, hl, hT, q⟩ := h
    have hr12 : Room 12 (A.deeper (envOfC "law" (defScope sLaw) s.heap.objs.size f (.ref c0))) := hr
    have hr11 := hr12.mono (show 11 ≤ 12 by decide)
    have hr9 := hr12.mono (show 9 ≤ 12 by decide)
    have hr6 := hr12.mono (show 6 ≤ 12 by decide)
    have hr5 := hr12.mono (show 5 ≤ 12 by decide)
    have hr3 := hr12.mono (show 3 ≤ 12 by decide)
    have hr2 := hr12.mono (show 2 ≤ 12 by decide)
    have hr1 := hr12.mono (show 1 ≤ 12 by decide)
    have hud := hr12.units
    have hu0 : (A.deeper (envOfC "law" (defScope sLaw) s.heap.objs.size f (.ref c0))).units < cLine := by omega
    have hu1 : (A.deeper (envOfC "law" (defScope sLaw) s.heap.objs.size f (.ref c0))).units + 1 < cLine := by omega
    have hu2 : (A.deeper (envOfC "law" (defScope sLaw) s.heap.objs.size f (.ref c0))).units + 2 < cLine := by omega
    refine ⟨_, PSs.nox (pss_cons (ps_set (i := 1) scLaw.nd rfl (Or.inl rfl) (pe_call G_pen hr1 (by rfl) g_pen F_pen.kp b_pen .nil pass0 (pa_cons (pv 0) pa_nil)))
    (pss_cons (ps_for PassesOwn.never rfl (pi_range1 rfl n_range (pa_cons pe_int pa_nil)) (pg_name (i := 2) scLaw.nd rfl (Or.inl rfl)) (pss_cons (ps_set (i := 3) scLaw.nd rfl (Or.inl rfl) (pe_call G_pick hr2 (by rfl) g_pick F_pick.kp b_pick .nil pass0 (pa_cons (pv 1) (pa_cons (pe_lst (pa_cons (pe_lst (pa_cons pe_str (pa_cons pe_str pa_nil))) (pa_cons (pe_lst (pa_cons pe_str (pa_cons pe_str (pa_cons pe_str pa_nil)))) (pa_cons (pe_lst (pa_cons pe_str pa_nil)) (pa_cons (pe_lst (pa_cons pe_str pa_nil)) (pa_cons (pe_lst (pa_cons pe_str (pa_cons pe_str (pa_cons pe_str pa_nil)))) pa_nil)))))) pa_nil))))
    (pss_cons (ps_set (i := 4) scLaw.nd rfl (Or.inl rfl) (pe_call G_row hr3 (by rfl) g_row F_row.kp b_row .nil pass0 (pa_cons (pv 1) (pa_cons (pv 3) (pa_cons (pe_call G_pick hr2 (by rfl) g_pick F_pick.kp b_pick .nil pass0 (pa_cons (pv 1) (pa_cons (pe_lst (pa_cons (pe_lst (pa_cons pe_int pa_nil)) (pa_cons (pe_lst (pa_cons pe_int (pa_cons pe_int (pa_cons pe_int pa_nil)))) (pa_cons (pe_lst (pa_cons pe_int (pa_cons pe_int (pa_cons pe_int (pa_cons pe_int pa_nil))))) pa_nil)))) pa_nil))) (pa_cons pe_int pa_nil))))))
    (pss_cons (ps_par (i := 5) (j := 6) (by rfl) scLaw.nd rfl rfl (by decide) rfl rfl (pa_cons (ClX.pe_cmeth (pe_glob (v := .ref a.CF) rfl R.gF rfl) R.rF R.mOf R.of hr6 passL (pa_cons (pv 4) pa_nil)) (pa_cons (pe_call G_form hr1 (by rfl) g_form F_form.kp b_form .nil pass0 (pa_cons (pv 4) pa_nil)) pa_nil)) (by rfl))
    (pss_cons (ps_par (i := 7) (j := 8) (by rfl) scLaw.nd rfl rfl (by decide) rfl rfl (pa_cons (pe_call G_line hr1 (by rfl) g_line F_line.kp b_line .nil pass0 (pa_cons (pv 6) pa_nil)) (pa_cons (pe_call G_line hr1 (by rfl) g_line F_line.kp b_line .nil pass0 (pa_cons (pv 4) pa_nil)) pa_nil)) (by rfl))
    (pss_cons (ps_if (PW.pt (pw_or (pt_cmpR op_ne (pe_callTy (OwR.call_strO hu2 R.str hr3 pass0) (by rfl) n_str (by decide +kernel) (pa_cons (pv 5) pa_nil)) (pv 7) (nomark _)) (pw_or (pt_cmpR (OwR.op_ownNe hu1 R.eqQ hr2 pass0) (ClX.pe_cmeth (pe_glob (v := .ref a.CR) rfl R.gR rfl) rdRule.r rdRule.m rdRule.f hr9 passL (pa_cons (pv 7) pa_nil)) (pv 5) (nomark _)) (pw_or1 (pt_cmpR (op_neD hud) (pe_call G_rd hr12 (by rfl) g_rd kp_rd b_rd .nil pass0 (pa_cons (pv 1) (pa_cons (pv 8) pa_nil))) (pe_tup (pa_cons pe_str (pa_cons (pe_callTy call_tuple_of (by rfl) n_tuple (by decide +kernel) (pa_cons (pv 6) pa_nil)) pa_nil))) (nomark _)))))) (pss_one (ps_ret pe_bl)) pss_nil)
    (pss_one (ps_for PassesOwn.never rfl (pi_range1 rfl n_range (pa_cons pe_int pa_nil)) (pg_name (i := 9) scLaw.nd rfl (Or.inl rfl)) (pss_cons (ps_set (i := 7) scLaw.nd rfl (Or.inl rfl) (pe_call G_bent hr3 (by rfl) g_bent F_bent.kp b_bent .nil pass0 (pa_cons (pv 1) (pa_cons (pe_call G_pick hr2 (by rfl) g_pick F_pick.kp b_pick .nil pass0 (pa_cons (pv 1) (pa_cons (pe_lst (pa_cons (pv 7) (pa_cons (pv 8) pa_nil))) pa_nil))) pa_nil))))
    (pss_cons (ps_set (i := 10) scLaw.nd rfl (Or.inl rfl) (pe_call G_rh hr2 (by rfl) g_rh F_rh.kp b_rh .nil pass0 (pa_cons (pe_split (pv 7) pe_str) pa_nil)))
    (pss_cons (ps_set (i := 11) scLaw.nd rfl (Or.inl rfl) (pe_ifExp (pt_val (pe_callB call_isi (by rfl) n_isinstance (by decide +kernel) (pa_cons (pv 10) (pa_cons (pe_bltn (v := .ty "list") (by rfl) n_list (by decide +kernel) rfl) pa_nil)))) (pe_tup (pa_cons pe_str (pa_cons (pe_callTy call_tuple_of (by rfl) n_tuple (by decide +kernel) (pa_cons (pe_call G_form hr1 (by rfl) g_form F_form.kp b_form .nil pass0 (pa_cons (pv 10) pa_nil)) pa_nil)) pa_nil))) (pe_tup (pa_cons pe_str (pa_cons pe_int (pa_cons (pv 10) pa_nil))))))
    (pss_one (ps_if (pt_cmpR (op_neD hud) (pe_call G_rd hr12 (by rfl) g_rd kp_rd b_rd .nil pass0 (pa_cons (pv 1) (pa_cons (pv 7) pa_nil))) (pv 11) (nomark _)) (pss_one (ps_ret pe_bl)) pss_nil)))))))))))))
    (pss_cons (ps_set (i := 12) scLaw.nd rfl (Or.inr rfl) (pe_call G_pick hr2 (by rfl) g_pick F_pick.kp b_pick .nil pass0 (pa_cons (pv 1) (pa_cons (pe_lst (pa_cons pe_non (pa_cons pe_int (pa_cons pe_bl (pa_cons (pe_lst (pa_cons pe_str pa_nil)) (pa_cons (pe_tup (pa_cons pe_str pa_nil)) (pa_cons pe_dnewK (pa_cons (StX.pe_makeR R.mkF R.first hr5 (by rfl) R.gF passL (pa_cons pe_str pa_nil)) (pa_cons (pe_op op_pow pe_int pe_int) (pa_cons pe_str pa_nil)))))))))) pa_nil))))
    (pss_cons (ps_if (pt_cmpR (op_neD hud) (OwE.pe_lamT (T := T) (k := 9) (q := qLaw) (by rfl) F_heard g_heard b_heard scH rfl (Or.inl rfl) qLaw_eq (fun cdv => heard_gives (hr3) R ear) TB rfl memT oneT hr11 (LamX.lamS_by (sc := defScope sLaw) (by decide +kernel)) (fun A outer s H E f c2 hr => (ClX.pe_cmeth (pe_glob (v := .ref a.CR) rfl R.gR rfl) rdRule.r rdRule.m rdRule.f hr (passes_call (takes_of rfl rfl rfl rfl) (fun _ _ _ _ h => h)) (pa_cons (pv 12) pa_nil)))) (pe_tup (pa_cons pe_str (pa_cons pe_int (pa_cons pe_int pa_nil)))) (nomark _)) (pss_one (ps_ret pe_bl)) pss_nil)
    (pss_one (ps_ret (pe_and (pe_cmpR (op_eqD hud) (OwE.pe_lamT (T := T) (k := 9) (q := qLaw) (by rfl) F_heard g_heard b_heard scH rfl (Or.inl rfl) qLaw_eq (fun cdv => heard_gives (hr3) R ear) TB rfl memT oneT hr11 (LamX.lamS_by (sc := defScope sLaw) (by decide +kernel)) (fun A outer s H E f c2 hr => (ClX.pe_cmeth (pe_glob (v := .ref a.CR) rfl R.gR rfl) rdRule.r rdRule.m rdRule.f hr (passes_call (takes_of rfl rfl rfl rfl) (fun _ _ _ _ h => h)) (pa_cons pe_str pa_nil)))) (pe_tup (pa_cons pe_str (pa_cons pe_int (pa_cons pe_int pa_nil)))) (nomark _)) (pe_one (pe_cmpR (OwR.op_ownEq hu0 R.eqQ hr1 pass0) (ClX.pe_cmeth (pe_glob (v := .ref a.CR) rfl R.gR rfl) rdRule.r rdRule.m rdRule.f hr9 passL (pa_cons pe_str pa_nil)) (OwR.pe_makeR0 R.mkF R.first hr5 (by rfl) R.gF passL) (nomark _)))))))))), ?_⟩
    have sz := sizeLine_eq
    have szl : ∀ n : Nat, n ≤ 30 → n ≤ sizeLine := fun n h => by omega
    refine ⟨_, rfl, x, ns, rfl, hx, hl, fun p c H1 hp0 s1 pn1 => ?_⟩
    have tb1 := tabs_same hT s1
    refine ⟨12, rfl, by decide, by decide, ?_⟩
    refine for_it walk_range (fun i σ Hx => (∃ x2 x3 x4 x5 x6 x7 x8 x9 x10 x11, σ = [some (.ref x), some (.ref p), x2, x3, x4, x5, x6, x7, x8, x9, x10, x11, none]) ∧ LamX.Tabs T Hx ∧ ∃ (n : Nat) (z : Int), PenAt Hx p c ns n z ∧ n ≤ 100 * i)
      ⟨⟨_, _, _, _, _, _, _, _, _, _, rfl⟩, tb1, 0, 0, pn1, Nat.le_refl 0⟩ (fun _ _ _ _ _ => True.intro) (fun i y0 σ Hx Hy hi q0 y => ?_) (fun σ Hx q0 => ?_)
    · obtain ⟨⟨x2, x3, x4, x5, x6, x7, x8, x9, x10, x11, rfl⟩, tb2, n0, z0, pn2, ln0⟩ := q0
      obtain ⟨rfl, rfl⟩ := y
      have hi12 : i < 12 := hi
      -- the bays
      refine ⟨_, rfl, szl 2 (by decide), fun k1 hk1 => ⟨szl 3 (by decide), fun k2 hk2 => ⟨szl 1 (by decide), fun k3 hk3 => ⟨szl 1 (by decide), fun k4 hk4 => ⟨szl 3 (by decide), fun k5 hk5 => ⟨szl 5 (by decide), fun L hL => ?_⟩⟩⟩⟩⟩⟩
      have u1 := Same.of_new (o := .lst [.str "s", .str "b"]) hk1
      have u2 := Same.of_new (o := .lst [.str "or", .str "keep", .str "s"]) hk2
      have u3 := Same.of_new (o := .lst [.str "keep"]) hk3
      have u4 := Same.of_new (o := .lst [.str "or"]) hk4
      have u5 := Same.of_new (o := .lst [.str "abcdefgh", .str "z", .str "go"]) hk5
      have u6 := Same.of_new (o := .lst [.ref k1, .ref k2, .ref k3, .ref k4, .ref k5]) hL
      have w1 := ((((u2.trans u3).trans u4).trans u5).trans u6) k1 _ upd_same
      have w2 := (((u3.trans u4).trans u5).trans u6) k2 _ upd_same
      have w3 := ((u4.trans u5).trans u6) k3 _ upd_same
      have w4 := (u5.trans u6) k4 _ upd_same
      have w5 := u6 k5 _ upd_same
      have uu := ((((u1.trans u2).trans u3).trans u4).trans u5).trans u6
      have n1 : k1 ≠ p := fun e => pn2.some (e ▸ hk1)
      have n2 : k2 ≠ p := fun e => (pn2.same u1).some (e ▸ hk2)
      have n3 : k3 ≠ p := fun e => (pn2.same (u1.trans u2)).some (e ▸ hk3)
      have n4 : k4 ≠ p := fun e => (pn2.same ((u1.trans u2).trans u3)).some (e ▸ hk4)
      have n5 : k5 ≠ p := fun e => (pn2.same (((u1.trans u2).trans u3).trans u4)).some (e ▸ hk5)
      have nL : L ≠ p := fun e => (pn2.same ((((u1.trans u2).trans u3).trans u4).trans u5)).some (e ▸ hL)
      have pn3 := pn2.same uu
      have tb3 := tabs_same tb2 uu
      have eL : upd (upd (upd (upd (upd (upd Hy k1 (.lst [.str "s", .str "b"])) k2 (.lst [.str "or", .str "keep", .str "s"])) k3 (.lst [.str "keep"])) k4 (.lst [.str "or"])) k5 (.lst [.str "abcdefgh", .str "z", .str "go"])) L (.lst [.ref k1, .ref k2, .ref k3, .ref k4, .ref k5]) L = some (.lst [.ref k1, .ref k2, .ref k3, .ref k4, .ref k5]) := upd_same
      generalize upd (upd (upd (upd (upd (upd Hy k1 (.lst [.str "s", .str "b"])) k2 (.lst [.str "or", .str "keep", .str "s"])) k3 (.lst [.str "keep"])) k4 (.lst [.str "or"])) k5 (.lst [.str "abcdefgh", .str "z", .str "go"])) L (.lst [.ref k1, .ref k2, .ref k3, .ref k4, .ref k5]) = H2 at w1 w2 w3 w4 w5 pn3 tb3 eL ⊢
      clear u1 u2 u3 u4 u5 u6 uu hk1 hk2 hk3 hk4 hk5 hL tb2 pn2
      refine ⟨p, c, L, ns, n0, z0, _, rfl, pn3, by omega, nL, SqL.of eL, by show (0 : Nat) < 5; decide, by show (5 : Nat) < 1000; decide, fun y n6 z6 H3 hy hn6 pn6 s3 => ?_⟩
      have tb6 := tabs_but tb3 pn3 s3
      obtain ⟨ky, bs, rfl, eky, nky, hbs, l0, l1⟩ : ∃ (ky : Addr) (bs : List Str), y = .ref ky ∧ H3 ky = some (.lst (bs.map V.str)) ∧ ky ≠ p ∧ (∀ b ∈ bs, nameB b = true) ∧ 0 < bs.length ∧ bs.length < 1000 := by
        simp only [List.mem_cons, List.not_mem_nil, or_false] at hy
        rcases hy with rfl | rfl | rfl | rfl | rfl
        · exact ⟨k1, ["s", "b"], rfl, s3 _ _ n1 w1, n1, by decide +kernel, by decide, by decide⟩
        · exact ⟨k2, ["or", "keep", "s"], rfl, s3 _ _ n2 w2, n2, by decide +kernel, by decide, by decide⟩
        · exact ⟨k3, ["keep"], rfl, s3 _ _ n3 w3, n3, by decide +kernel, by decide, by decide⟩
        · exact ⟨k4, ["or"], rfl, s3 _ _ n4 w4, n4, by decide +kernel, by decide, by decide⟩
        · exact ⟨k5, ["abcdefgh", "z", "go"], rfl, s3 _ _ n5 w5, n5, by decide +kernel, by decide, by decide⟩
      clear w1 w2 w3 w4 w5 eL s3 pn3 tb3 n1 n2 n3 n4 n5 nL hy
      -- the picks
      refine ⟨_, rfl, _, rfl, _, rfl, szl 1 (by decide), fun g1 hg1 => ⟨szl 3 (by decide), fun g2 hg2 => ⟨szl 4 (by decide), fun g3 hg3 => ⟨szl 3 (by decide), fun M hM => ?_⟩⟩⟩⟩
      have u1 := Same.of_new (o := .lst [.int 0]) hg1
      have u2 := Same.of_new (o := .lst [.int 0, .int 1, .int 9]) hg2
      have u3 := Same.of_new (o := .lst [.int 0, .int 0, .int 2, .int 5]) hg3
      have u4 := Same.of_new (o := .lst [.ref g1, .ref g2, .ref g3]) hM
      have w1 := ((u2.trans u3).trans u4) g1 _ upd_same
      have w2 := (u3.trans u4) g2 _ upd_same
      have w3 := u4 g3 _ upd_same
      have uu := ((u1.trans u2).trans u3).trans u4
      have n1 : g1 ≠ p := fun e => pn6.some (e ▸ hg1)
      have n2 : g2 ≠ p := fun e => (pn6.same u1).some (e ▸ hg2)
      have n3 : g3 ≠ p := fun e => (pn6.same (u1.trans u2)).some (e ▸ hg3)
      have nM : M ≠ p := fun e => (pn6.same ((u1.trans u2).trans u3)).some (e ▸ hM)
      have pn7 := pn6.same uu
      have tb7 := tabs_same tb6 uu
      have eky7 := uu _ _ eky
      have eM : upd (upd (upd (upd H3 g1 (.lst [.int 0])) g2 (.lst [.int 0, .int 1, .int 9])) g3 (.lst [.int 0, .int 0, .int 2, .int 5])) M (.lst [.ref g1, .ref g2, .ref g3]) M = some (.lst [.ref g1, .ref g2, .ref g3]) := upd_same
      generalize upd (upd (upd (upd H3 g1 (.lst [.int 0])) g2 (.lst [.int 0, .int 1, .int 9])) g3 (.lst [.int 0, .int 0, .int 2, .int 5])) M (.lst [.ref g1, .ref g2, .ref g3]) = H4 at w1 w2 w3 pn7 tb7 eky7 eM ⊢
      clear u1 u2 u3 u4 uu hg1 hg2 hg3 hM tb6 pn6 eky
      refine ⟨p, c, M, ns, n6, z6, _, rfl, pn7, by omega, nM, SqL.of eM, by show (0 : Nat) < 3; decide, by show (3 : Nat) < 1000; decide, fun y n8 z8 H5 hy hn8 pn8 s5 => ?_⟩
      have tb8 := tabs_but tb7 pn7 s5
      have eky8 := s5 _ _ nky eky7
      obtain ⟨gy, ms, rfl, egy, ngy, hms, m0, m1⟩ : ∃ (gy : Addr) (ms : List Int), y = .ref gy ∧ H5 gy = some (.lst (ms.map V.int)) ∧ gy ≠ p ∧ (∀ k ∈ ms, 0 ≤ k ∧ k ≤ 9) ∧ 0 < ms.length ∧ ms.length < 1000 := by
        simp only [List.mem_cons, List.not_mem_nil, or_false] at hy
        rcases hy with rfl | rfl | rfl
        · exact ⟨g1, [0], rfl, s5 _ _ n1 w1, n1, by decide, by decide, by decide⟩
        · exact ⟨g2, [0, 1, 9], rfl, s5 _ _ n2 w2, n2, by decide, by decide, by decide⟩
        · exact ⟨g3, [0, 0, 2, 5], rfl, s5 _ _ n3 w3, n3, by decide, by decide, by decide⟩
      clear w1 w2 w3 eM s5 pn7 tb7 n1 n2 n3 nM hy eky7
      refine ⟨p, c, ky, gy, ns, n8, z8, bs, ms, 6, rfl, by decide, pn8, by omega, nky, ngy, SqL.of eky8, l0, l1, SqL.of egy, m0, m1, fun r e1 ps n9 z9 H6 nr er pk lp mem hn9 pn9 s6 => ?_⟩
      have tb9 := tabs_but tb8 pn8 s6
      have gp : ∀ p ∈ ps, GoodP p := fun p hp => ⟨hbs _ (mem p hp).1, hms _ (mem p hp).2⟩
      have gd : ∀ p ∈ ps, Good p := fun p hp => (gp p hp).good
      have gf : ∀ p ∈ oneForm ps, GoodP p := fun p hp => gp p (mem_form hp)
      have gfd : ∀ p ∈ oneForm ps, Good p := fun p hp => (gf p hp).good
      have of : ∀ p ∈ oneForm ps, PyData.strOk p.1 = true := fun p hp => name_strOk (gf p hp).1
      have lf : (oneForm ps).length ≤ 6 := Nat.le_trans (form_len ps) lp
      have le1 : e1.length ≤ 6 := by rw [pk.len]; exact lp
      clear s6 mem hms hbs egy eky8 tb8 pn8
      -- the rule, its form
      refine ⟨rfl, _, rfl, r, _, rfl, .inl (SqL.of er), by rw [List.length_map]; omega, .inl ⟨ps, pk.vals, gd, fun _ m H7 hm s7 hM => ?_, fun c => by omega⟩⟩
      have er := s7 _ _ er
      have pk := pk.same s7
      refine ⟨_, rfl, r, e1, ps, rfl, SqL.of er, pk, by omega, fun fl H8 ds hf0 s8 ef pf => ?_⟩
      refine ⟨_, _, rfl, ?_⟩
      have er := s8 _ _ er
      have pk := pk.same s8
      have hM := hM.same s8
      refine ⟨_, rfl, fl, ds, oneForm ps, rfl, ef, pf, gf, by omega, fun H9 s9 => ⟨_, rfl, r, e1, ps, rfl, s9 _ _ er, pk.same s9, gp, by omega, fun H10 s10 => ⟨_, _, rfl, ?_⟩⟩⟩
      have s910 := s9.trans s10
      have hM := hM.same s910
      have ef := s910 _ _ ef
      have pf := pf.same s910
      have sAll := (s7.trans s8).trans s910
      have pn10 := pn9.same sAll
      have tb10 := tabs_same tb9 sAll
      clear s7 s8 s9 s10 s910 sAll pn9 tb9 er pk hm hf0 nr
      obtain ⟨dxm, fsm, pm, km, em, _⟩ := id hM
      refine ⟨_, rfl, m, a.CF, dxm, fsm, rfl, em, R.cF.str, m, oneForm ps, rfl, ⟨a.CF, R.cF.k, hM⟩, gfd, by omega, fun H11 s11 => ⟨_, rfl, ?_⟩⟩
      refine ⟨_, rfl, rfl, _, rfl, ?_⟩
      rw [decide_eq_true rfl]
      refine iteF ?_
      have hM := hM.same s11
      have ef := s11 _ _ ef
      have pf := pf.same s11
      have pn11 := pn10.same s11
      have tb11 := tabs_same tb10 s11
      have tL := ruleT_ok gf lf
      have tW := ruleT_ok gp lp
      have okL := tL.read (by decide) (by decide)
      have okW := tW.read (by decide) (by decide)
      have eL : picksRead (wordsOf (ruleText (oneForm ps))) = .ok (oneForm ps) := by rw [rule_split gf, read_rule gf]
      have eW : picksRead (wordsOf (ruleText ps)) = .ok ps := by rw [rule_split gp, read_rule gp]
      have again := form_again fun p hp => (gp p hp).2.1
      refine ⟨rfl, _, rfl, _, rfl, read_made okL eL fun r2 H12 s12 hr2 => ?_⟩
      rw [again] at hr2
      have hM := hM.same s12
      obtain ⟨dxm, fsm, pm, km, em, _⟩ := id hM
      obtain ⟨dx2, fs2, p2, km2, em2, _⟩ := id hr2
      refine ⟨_, rfl, r2, m, a.CF, a.CF, dx2, dxm, fs2, fsm, rfl, rfl, em2, em, R.cF.ne, R.cF.own, r2, m, _, _, rfl, ⟨a.CF, R.cF.k, hr2⟩, ⟨a.CF, R.cF.k, hM⟩, of, of, _, rfl, _, rfl, ?_⟩
      rw [decide_eq_true rfl]
      refine iteF ?_
      have ef := s12 _ _ ef
      have pf := pf.same s12
      have pn12 := pn11.same s12
      have tb12 := tabs_same tb11 s12
      clear s11 s12 pn10 pn11 tb10 tb11 hM em em2 hr2
      refine ⟨_, rfl, _, rfl, p, c, ns, n9, z9, _, rfl, pn12, by omega, tb12, okW, fun u n10 z10 H13 hn10 pn13 lo13 tb13 told => ?_⟩
      rw [eW] at told
      have ef := lo_refs pn12 lo13 ef
      have pf := pf.lo pn12 lo13
      refine ⟨_, rfl, fl, _, rfl, .inl ⟨SqL.of ef, fun tp htp => ?_⟩⟩
      have v1 := Same.of_new (o := .tup (ds.map V.ref)) htp
      refine ⟨szl 2 (by decide), fun tt htt => ?_⟩
      have v2 := Same.of_new (o := .tup [.str "told", .ref tp]) htt
      obtain ⟨sh, eqv⟩ := due_sh (r := .ok ps) fun qs e q hq => by
        cases e
        exact name_strOk (gp q hq).1
      refine ⟨dueD (.ok ps), dueD (.ok ps), ((told.same v1).same v2).dp, .tup (SqT.of upd_same) (.cons (.str _) (.cons (.tup (SqT.of (v2 _ _ upd_same)) ((pf.same v1).same v2).dp) .nil)), sh, sh, ?_⟩
      refine ⟨_, rfl, ?_⟩
      rw [eqv]
      refine iteF ?_
      have pn14 := (pn13.same v1).same v2
      have tb14 := tabs_same (tabs_same tb13 v1) v2
      clear v1 v2 htp htt told pn12 pn13 lo13 tb12 tb13 ef pf sh eqv
      refine ⟨4, rfl, by decide, by decide, ?_⟩
      refine for_it walk_range (fun j σ Hx => (∃ t x9 x10 x11, σ = [some (.ref x), some (.ref p), some (.int (0 + (i : Nat))), some (.ref ky), some (.ref r), some (.ref m), some (.ref fl), some (.str t), some (.str (ruleText ps)), x9, x10, x11, none] ∧ TxtOk t (23 + 2 * j) (11 + 3 * (j : Int))) ∧ LamX.Tabs T Hx ∧ ∃ (n : Nat) (z : Int), PenAt Hx p c ns n z ∧ n ≤ n0 + 50 + 8 * j)
        ⟨⟨_, _, _, _, rfl, tL.mono (by omega) (by omega)⟩, tb14, n10, z10, pn14, by omega⟩ (fun _ _ _ _ _ => True.intro) (fun j y0 σ Hx Hy hj q0 y => ?_) (fun σ Hx q0 => ?_)
      · obtain ⟨⟨t, x9, x10, x11, rfl, tok⟩, tb15, n11, z11, pn15, ln11⟩ := q0
        obtain ⟨rfl, rfl⟩ := y
        have hj4 : j < 4 := hj
        refine ⟨_, rfl, _, rfl, _, rfl, _, rfl, szl 2 (by decide), fun L hL => ?_⟩
        have v1 := Same.of_new (o := .lst [.str t, .str (ruleText ps)]) hL
        have nL : L ≠ p := fun e => pn15.some (e ▸ hL)
        have pn16 := pn15.same v1
        have tb16 := tabs_same tb15 v1
        refine ⟨p, c, L, ns, n11, z11, _, rfl, pn16, by omega, nL, SqL.of upd_same, by show (0 : Nat) < 2; decide, by show (2 : Nat) < 1000; decide, fun y n12 z12 H14 hy hn12 pn17 s14 => ?_⟩
        have tb17 := tabs_but tb16 pn16 s14
        obtain ⟨y, rfl, yok⟩ : ∃ t' : Str, y = .str t' ∧ TxtOk t' (23 + 2 * j) (11 + 3 * (j : Int)) := by
          simp only [List.mem_cons, List.not_mem_nil, or_false] at hy
          rcases hy with rfl | rfl
          · exact ⟨_, rfl, tok⟩
          · exact ⟨_, rfl, tW.mono (by omega) (by omega)⟩
        refine ⟨p, c, ns, n12, z12, y, _, _, rfl, pn17, by omega, yok, by omega, by omega, by omega, fun t' n13 z13 H15 hn13 pn18 s15 tok' => ?_⟩
        have tb18 := tabs_but tb17 pn17 s15
        have rok := tok'.read (by omega) (by omega)
        have rlen := rok.len
        have rmany := rok.many
        clear s14 s15 v1 hL nL hy pn16 tb16 pn17 tb17 pn15 tb15
        refine ⟨_, rfl, ⟨_, rfl⟩, t', " ", rfl, rfl, by decide +kernel, by omega, fun W1 hW => ?_⟩
        have v2 := Same.of_new (o := .lst ((Txt.split t' " ").map V.str)) hW
        refine ⟨W1, wordsOf t', rfl, upd_same, words_ne t', rok.word, by omega, ?_⟩
        have pn19 := pn18.same v2
        have tb19 := tabs_same tb18 v2
        have step : TxtOk t' (23 + 2 * (j + 1)) (11 + 3 * ((j + 1 : Nat) : Int)) := tok'.mono (by omega) (by omega)
        cases er : picksRead (wordsOf t') with
        | ok qs =>
          intro L2 ks2 H16 s16 e2 pk2
          have pk2 : PicksAt H16 ks2 qs := pk2
          have fq := rok.few qs er
          have gq := picksRead_good rok.word er
          refine ⟨_, rfl, .ref L2, .ty "list", _, _, true, rfl, .ty _, .base (.lst e2), kit_ty (by decide +kernel), true, rfl, iteT ?_⟩
          refine ⟨_, rfl, L2, ks2, qs, rfl, SqL.of e2, pk2, by omega, fun fl2 H17 ds2 hf2 s17 ef2 pf2 => ⟨fl2, _, rfl, .inl ⟨SqL.of ef2, fun tp htp => ⟨szl 2 (by decide), fun tt htt => ?_⟩⟩⟩⟩
          have v3 := Same.of_new (o := .tup (ds2.map V.ref)) htp
          have v4 := Same.of_new (o := .tup [.str "told", .ref tp]) htt
          have sA := (s16.trans s17).trans (v3.trans v4)
          have pn20 := pn19.same sA
          have tb20 := tabs_same tb19 sA
          have etp := v4 _ _ (upd_same : upd H17 tp (.tup (ds2.map V.ref)) tp = _)
          have pf3 := (pf2.same v3).same v4
          have ett : upd (upd H17 tp (.tup (ds2.map V.ref))) tt (.tup [.str "told", .ref tp]) tt = some (.tup [.str "told", .ref tp]) := upd_same
          refine ⟨_, rfl, _, rfl, p, c, ns, n13, z13, t', rfl, pn20, by omega, tb20, rok, fun u n14 z14 H18 hn14 pn21 lo21 tb21 told => ?_⟩
          rw [er] at told
          obtain ⟨sh, eqv⟩ := due_sh (r := .ok qs) fun qs' e q hq => by
            cases e
            exact name_strOk (gq q hq).1
          refine ⟨_, rfl, dueD (.ok qs), dueD (.ok qs), told.dp, .tup (SqT.of (lo_tup pn20 lo21 ett)) (.cons (.str _) (.cons (.tup (SqT.of (lo_tup pn20 lo21 etp)) (pf3.lo pn20 lo21).dp) .nil)), sh, sh, ?_⟩
          refine ⟨_, rfl, ?_⟩
          rw [eqv]
          exact iteF ⟨⟨t', _, _, _, rfl, step⟩, tb21, n14, z14, pn21, by omega⟩
        | error e =>
          intro H16 s16
          refine ⟨_, rfl, .int (e : Nat), .ty "list", _, _, false, rfl, .ty _, .base (.int _), kit_ty (by decide +kernel), false, rfl, iteF ?_⟩
          refine ⟨_, rfl, szl 3 (by decide), fun tt htt => ?_⟩
          have v4 := Same.of_new (o := .tup [.str "text", .int 0, .int (e : Nat)]) htt
          have sA := s16.trans v4
          have pn20 := pn19.same sA
          have tb20 := tabs_same tb19 sA
          have ett : upd H16 tt (.tup [.str "text", .int 0, .int (e : Nat)]) tt = some (.tup [.str "text", .int 0, .int (e : Nat)]) := upd_same
          refine ⟨_, rfl, _, rfl, p, c, ns, n13, z13, t', rfl, pn20, by omega, tb20, rok, fun u n14 z14 H18 hn14 pn21 lo21 tb21 told => ?_⟩
          rw [er] at told
          obtain ⟨sh, eqv⟩ := due_sh (r := .error e) fun qs' e q hq => by cases e
          refine ⟨_, rfl, dueD (.error e), dueD (.error e), told.dp, .tup (SqT.of (lo_tup pn20 lo21 ett)) (.cons (.str _) (.cons (.int _) (.cons (.int _) .nil))), sh, sh, ?_⟩
          refine ⟨_, rfl, ?_⟩
          rw [eqv]
          exact iteF ⟨⟨t', _, _, _, rfl, step⟩, tb21, n14, z14, pn21, by omega⟩
      · obtain ⟨⟨t, x9, x10, x11, rfl, _⟩, tb15, n11, z11, pn15, ln11⟩ := q0
        have ln11 : n11 ≤ n0 + 50 + 8 * 4 := ln11
        exact ⟨⟨_, _, _, _, _, _, _, _, _, _, rfl⟩, tb15, n11, z11, pn15, by omega⟩
    · obtain ⟨⟨x2, x3, x4, x5, x6, x7, x8, x9, x10, x11, rfl⟩, tb2, n0, z0, pn2, ln0⟩ := q0
      have ln0 : n0 ≤ 100 * 12 := ln0
      refine ⟨_, rfl, szl 1 (by decide), fun a1 h1 => ⟨szl 1 (by decide), fun a2 h2 => fun a3 h3 => ?_⟩⟩
      refine fun z dz k1 k2 nd => ⟨z, dz, [.str "s"], rfl, upd_same, by decide, .inl ⟨[("s", 0)], ⟨rfl, fun i x p e1 e2 => ?_⟩, fun p hp => ?_, fun _ HF bt ru _ => ⟨rfl, ?_⟩, fun c => absurd c (by decide)⟩⟩
      · match i, e1, e2 with
        | 0, rfl, rfl => exact .inr ⟨rfl, rfl⟩
        | _ + 1, e1, _ => simp at e1
      · rw [List.mem_singleton.mp hp]
        exact ⟨by decide +kernel, by decide +kernel, by decide, by decide⟩
      have v1 := Same.of_new (o := .lst [.str "s"]) h1
      have v2 := Same.of_new (o := .tup [.str "s"]) h2
      have v3 := Same.of_new (o := .dK []) h3
      have sR := made_same k1 k2 bt
      refine ⟨_, _, rfl, rfl, ⟨by decide, by decide, by decide +kernel⟩, szl 9 (by decide), fun L hL => ?_⟩
      have b1 := sR _ _ (v3 _ _ (v2 _ _ (upd_same : upd _ a1 (.lst [.str "s"]) a1 = _)))
      have b2 := sR _ _ (v3 _ _ (upd_same : upd _ a2 (.tup [.str "s"]) a2 = _))
      have b3 := sR _ _ (upd_same : upd _ a3 (.dK []) a3 = _)
      have sA := ((v1.trans v2).trans v3).trans sR
      have pn3 := pn2.same sA
      have tb3 := tabs_same tb2 sA
      obtain ⟨dz4, fz4, _, _, ez4, _⟩ := id ru
      clear v1 v2 v3 sR sA h1 h2 h3 k1 k2 nd bt tb2 pn2
      have v4 := Same.of_new (o := .lst [.non, .int 0, .bl true, .ref a1, .ref a2, .ref a3, .ref z, .int (10 ^ (60 : Int).toNat), .str ""]) hL
      have nL : L ≠ p := fun e => pn3.some (e ▸ hL)
      have pn4 := pn3.same v4
      have tb4 := tabs_same tb3 v4
      refine ⟨p, c, L, ns, n0, z0, _, rfl, pn4, by omega, nL, SqL.of upd_same, by show (0 : Nat) < 9; decide, by show (9 : Nat) < 1000; decide, fun w n1 z1 H3 hw hn1 pn5 s3 => ?_⟩
      have tb5 := tabs_but tb4 pn4 s3
      have ov : OddT a.CF (upd HF L (.lst [.non, .int 0, .bl true, .ref a1, .ref a2, .ref a3, .ref z, .int (10 ^ (60 : Int).toNat), .str ""])) w := by
        simp only [List.mem_cons, List.not_mem_nil, or_false] at hw
        rcases hw with rfl | rfl | rfl | rfl | rfl | rfl | rfl | rfl | rfl
        · exact .non
        · exact .int _
        · exact .bl _
        · exact .lst (v4 _ _ b1)
        · exact .tup (v4 _ _ b2)
        · exact .dic (v4 _ _ b3)
        · exact .obj (v4 _ _ ez4)
        · exact .int _
        · exact .emp
      have ov := ov.lo pn4 s3.lo
      clear s3 v4 hL hw b1 b2 b3 ez4 pn4 tb4 pn3 tb3 ru
      -- odd values are refused
      refine ⟨tb5, fun H4 eN tb6 H5 E' Q' s45 hE hR => ?_⟩
      have lo5 := (extN_lo p eN).trans (Same.lo p s45)
      refine ⟨rfl, _, rfl, _, rfl, (ov.lo pn5 lo5).read R.cF.k noS fun H6 d s6 nd => hE _ _ _ ⟨d, 0, rfl, rfl, upd_same, fun t H7 s7 et => ?_⟩⟩
      have s57 := (s6.trans (Same.of_new nd)).trans s7
      have tb7 := tabs_same (tabs_same tb6 s45) s57
      clear hE hR ov lo5 s6 s7 s57 eN s45 tb5 tb6 pn5
      refine ⟨szl 3 (by decide), fun t2 ht2 => ?_⟩
      have v5 := Same.of_new (o := .tup [.str "text", .int 0, .int 0]) ht2
      obtain ⟨sh, eqv⟩ := due_sh (r := .error 0) fun qs' e q hq => by cases e
      refine ⟨dueD (.error 0), dueD (.error 0), .tup (SqT.of (v5 _ _ et)) (.cons (.str _) (.cons (.int _) (.cons (.int _) .nil))), .tup (SqT.of upd_same) (.cons (.str _) (.cons (.int _) (.cons (.int _) .nil))), sh, sh, ?_⟩
      refine ⟨_, rfl, ?_⟩
      rw [eqv]
      refine iteF ?_
      have tb8 := tabs_same tb7 v5
      clear tb7 v5 ht2 et sh eqv
      have ok1 := fixed_ok.1.read (by decide) (by decide)
      have ok2 := fixed_ok.2.read (by decide) (by decide)
      refine ⟨tb8, fun H4 eN tb6 H5 E' Q' s45 hE hR => ?_⟩
      refine ⟨rfl, _, rfl, read_bad ok1 fixed_read.1 fun H6 d s6 nd => hE _ _ _ ⟨d, 2, rfl, rfl, upd_same, fun t H7 s7 et => ?_⟩⟩
      refine ⟨szl 3 (by decide), fun t2 ht2 => ?_⟩
      have v5 := Same.of_new (o := .tup [.str "text", .int 0, .int 2]) ht2
      obtain ⟨sh, eqv⟩ := due_sh (r := .error 2) fun qs' e q hq => by cases e
      refine ⟨dueD (.error 2), dueD (.error 2), .tup (SqT.of (v5 _ _ et)) (.cons (.str _) (.cons (.int _) (.cons (.int _) .nil))), .tup (SqT.of upd_same) (.cons (.str _) (.cons (.int _) (.cons (.int _) .nil))), sh, sh, ?_⟩
      refine ⟨_, rfl, ?_⟩
      rw [eqv]
      refine iteT ?_
      refine ⟨rfl, _, rfl, read_made ok2 fixed_read.2 fun r H8 s8 hr => ?_⟩
      refine fun z2 dz2 k1 k2 nd2 => ⟨z2, dz2, [], rfl, upd_same, by decide, .inl ⟨[], ⟨rfl, fun i x p e1 e2 => (by cases e1)⟩, fun p hp => (by cases hp), fun _ HF2 bt ru2 _ => ⟨rfl, ?_⟩, fun c => absurd c (by decide)⟩⟩
      have sR := made_same k1 k2 bt
      have hr := hr.same sR
      obtain ⟨dxr, fsr, _, _, er, _⟩ := id hr
      obtain ⟨dxz, fsz, _, _, ez, _⟩ := id ru2
      refine ⟨r, z2, a.CF, a.CF, dxr, dxz, fsr, fsz, rfl, rfl, er, ez, R.cF.eq, R.cF.own, r, z2, oneForm [], oneForm [], rfl, ⟨a.CF, R.cF.k, hr⟩, ⟨a.CF, R.cF.k, ru2⟩, fun p hp => (by cases hp), fun p hp => (by cases hp), ?_⟩
      rw [decide_eq_true rfl]
      exact q _
end
end K10
end
section
namespace K10
open PySem PySem.Spec PyProof.Rows L2
/-- where words stand -/
structure WAd where
  (C CB CX CV fBT fWI fMo fPk fCk fSt fTw fTn fEn fNu pR gR pF gF pV gV pE gE : Addr)
/-- all that the law wants of what stands behind the top -/
structure Facts (P : Program) (w : World) (K : PySem.W.Frag) (mg : Str → Option Value) (base : Heap) (a : RAd) (b : WAd) : Prop where
  R : RF P w K mg base a
  ear : EarC K mg b.CB b.CX
  nm : Nm mg
  n_range : mg "range" = none
  W : WC K b.C b.fMo b.fPk b.fCk b.fSt b.fTw b.fTn b.fEn
  m_nu : Meth K b.C "take_number" b.fNu
  MW : Mk K b.C b.fWI
  gW : mg "Words" = some (.ref b.C)
  TK : ErrT K mg "BadText" b.CB b.fBT
  dBT : ∃ fd, Fun K "__init__" "BadText.__init__" sBadText0 b.fBT fd
  dMo : ∃ fd, Fun K "more" "Words.more" sWMore b.fMo fd
  dPk : ∃ fd, Fun K "peek" "Words.peek" sWPeek b.fPk fd
  dCk : ∃ fd, Fun K "check" "Words.check" sWCheck b.fCk fd
  dSt : ∃ fd, Fun K "step" "Words.step" sWStep b.fSt fd
  dTw : ∃ fd, Fun K "take_word" "Words.take_word" sWTw b.fTw fd
  dEn : ∃ fd, Fun K "end" "Words.end" sWEnd b.fEn fd
  dTn : ∃ fd, FunD K "take_name" "Words.take_name" (defArgs sWTn) (defBody sWTn) (defScope sWTn) [.str ""] [] b.fTn fd
  dNu : ∃ fd, FunD K "take_number" "Words.take_number" (defArgs sWNu) (defBody sWNu) (defScope sWNu) [.non] [] b.fNu fd
  dWI : ∃ fd, FunD K "__init__" "Words.__init__" (defArgs sWInit) (defBody sWInit) (defScope sWInit) [.int 0] [] b.fWI fd
  gV : mg "Even" = some (.ref b.CV)
  rR : ClX.CRead K a.CR (.type "type")
  rF : ClX.CRead K a.CF (.type "type")
  rV : ClX.CRead K b.CV (.type "type")
  rE : ClX.CRead K a.CE (.type "type")
  mR : ClX.CMet K a.CR (.type "type") "read" b.pR b.gR
  mF : ClX.CMet K a.CF (.type "type") "read" b.pF b.gF
  mV : ClX.CMet K b.CV (.type "type") "read" b.pV b.gV
  mE : ClX.CMet K a.CE (.type "type") "read" b.pE b.gE
  dR : ∃ fd, Fun K "read" "Rule.read" sReadRule b.gR fd
  dF : ∃ fd, Fun K "read" "First.read" sReadFirst b.gF fd
  dV : ∃ fd, Fun K "read" "Even.read" sReadEven b.gV fd
  dE : ∃ fd, Fun K "read" "Else.read" sReadElse b.gE fd
  noS : PySem.W.kitOne K (.ref a.CF) (.type "str") = some false
  num : ∃ f fd, mg "number_of" = some (.ref f) ∧ Fun K "number_of" "number_of" sNum f fd
  pf : ∃ f fd, mg "pick_from" = some (.ref f) ∧ Fun K "pick_from" "pick_from" sPf f fd
  ps : ∃ f fd, mg "picks_from" = some (.ref f) ∧ Fun K "picks_from" "picks_from" sPs f fd
  rt : ∃ f fd, mg "rule_of_text" = some (.ref f) ∧ Fun K "rule_of_text" "rule_of_text" sRt f fd
  pen : ∃ f fd, mg "_law_pen" = some (.ref f) ∧ Fun K "_law_pen" "_law_pen" sPen f fd
  draw : ∃ f fd, mg "_law_draw" = some (.ref f) ∧ Fun K "_law_draw" "_law_draw" sDraw f fd
  pick : ∃ f fd, mg "_law_pick" = some (.ref f) ∧ Fun K "_law_pick" "_law_pick" sPick f fd
  row : ∃ f fd, mg "_law_row" = some (.ref f) ∧ Fun K "_law_row" "_law_row" sRow f fd
  form : ∃ f fd, mg "_law_form" = some (.ref f) ∧ Fun K "_law_form" "_law_form" sLForm f fd
  line : ∃ f fd, mg "_law_line" = some (.ref f) ∧ Fun K "_law_line" "_law_line" sLi f fd
  isn : ∃ f fd, mg "_law_is_name" = some (.ref f) ∧ Fun K "_law_is_name" "_law_is_name" sIn15 f fd
  rh : ∃ f fd, mg "_law_read_here" = some (.ref f) ∧ Fun K "_law_read_here" "_law_read_here" sRh f fd
  heard : ∃ f fd, mg "_law_heard" = some (.ref f) ∧ Fun K "_law_heard" "_law_heard" sHeard f fd
  bent : ∃ f fd, mg "_law_bent" = some (.ref f) ∧ Fun K "_law_bent" "_law_bent" sBe f fd
/-- a def that holds lambdas: its code, its table -/
structure Lam1 (K : PySem.W.Frag) (mg : Str → Option Value) (base : Heap) (T : List (Addr × Str)) (x : Str) (st : Stmt) (q : Str) (f c0 Pt : Addr) (oc kV doc pm ct : Value) (od an : Option Addr) (osl : Array (Option Value)) : Prop where
  g : mg x = some (.ref f)
  kp : PySem.W.keepIn K (.ref f) = true
  lk : K.lookup f = some ⟨oc, od, .func (PySem.W.fnOf x x (defArgs st) (defBody st) (defScope st) .none kV doc pm an (.ref c0) ct), osl⟩
  hc : PySem.W.codeIn K (.ref c0) x = true
  tb : LamX.TabB base mg c0 Pt
  mem : (Pt, q) ∈ T
  one : ∀ p ∈ T, p.1 = Pt → p.2 = q
section
variable {P : Program} {w : World} {K : PySem.W.Frag} {mg : Str → Option Value} {base : Heap}
theorem ok_all {a : RAd} {b : WAd} {T : List (Addr × Str)} (Fa : Facts P w K mg base a b)
    {f1 c1 P1 f2 c2 P2 : Addr} {oc1 kV1 doc1 pm1 ct1 oc2 kV2 doc2 pm2 ct2 : Value} {od1 an1 od2 an2 : Option Addr} {osl1 osl2 : Array (Option Value)}
    (L1 : Lam1 K mg base T "_law_read" sRd qRd f1 c1 P1 oc1 kV1 doc1 pm1 ct1 od1 an1 osl1) (L2' : Lam1 K mg base T "law" sLaw qLaw f2 c2 P2 oc2 kV2 doc2 pm2 ct2 od2 an2 osl2) :
    OwR.FnG P w K mg base CX0 13 f2 (PySem.W.fnOf "law" "law" (defArgs sLaw) (defBody sLaw) (defScope sLaw) .none kV2 doc2 pm2 an2 (.ref c2) ct2) ["_law_script"] (spLaw K T) := by
  have R := Fa.R
  have W := Fa.W
  obtain ⟨fN, fdN, gN, FN⟩ := R.chk.nm
  obtain ⟨_, FBT⟩ := Fa.dBT
  obtain ⟨_, FMo⟩ := Fa.dMo
  obtain ⟨_, FPk⟩ := Fa.dPk
  obtain ⟨_, FCk⟩ := Fa.dCk
  obtain ⟨_, FSt⟩ := Fa.dSt
  obtain ⟨_, FTw⟩ := Fa.dTw
  obtain ⟨_, FEn⟩ := Fa.dEn
  obtain ⟨_, FTn⟩ := Fa.dTn
  obtain ⟨_, FNu⟩ := Fa.dNu
  obtain ⟨_, FWI⟩ := Fa.dWI
  obtain ⟨_, _, g_num, F_num⟩ := Fa.num
  obtain ⟨_, _, g_pf, F_pf⟩ := Fa.pf
  obtain ⟨_, _, g_ps, F_ps⟩ := Fa.ps
  obtain ⟨_, _, g_rt, F_rt⟩ := Fa.rt
  obtain ⟨_, _, g_pen, F_pen⟩ := Fa.pen
  obtain ⟨_, _, g_draw, F_draw⟩ := Fa.draw
  obtain ⟨_, _, g_pick, F_pick⟩ := Fa.pick
  obtain ⟨_, _, g_row, F_row⟩ := Fa.row
  obtain ⟨_, _, g_form, F_form⟩ := Fa.form
  obtain ⟨_, _, g_line, F_line⟩ := Fa.line
  obtain ⟨_, _, g_isn, F_isn⟩ := Fa.isn
  obtain ⟨_, _, g_rh, F_rh⟩ := Fa.rh
  obtain ⟨_, _, g_heard, F_heard⟩ := Fa.heard
  obtain ⟨_, _, g_bent, F_bent⟩ := Fa.bent
  have n_len := R.chk.T.n_len
  have n_int := R.chk.T.n_int
  have G_more := ok_WMore (P := P) (w := w) (mg := mg) (base := base) W FMo n_len
  have G_peek := ok_WPeek (P := P) (w := w) (mg := mg) (base := base) W FPk FMo n_len
  have G_check := ok_WCheck (P := P) (w := w) (base := base) W FCk Fa.TK Fa.ear.v1 Fa.ear.v2 FBT
  have G_step := ok_WStep (P := P) (w := w) (mg := mg) (base := base) W FSt FPk G_peek
  have WW : WF P w K mg base b.C b.CB b.fMo b.fPk b.fCk b.fSt b.fTw b.fTn b.fEn := {
    W := W
    g_more := ⟨_, G_more, FMo.binds fun _ _ _ _ _ _ us hl => match us, hl with | [_], _ => rfl⟩
    g_peek := ⟨_, G_peek, FPk.binds fun _ _ _ _ _ _ us hl => match us, hl with | [_], _ => rfl⟩
    g_step := ⟨_, G_step, FSt.binds fun _ _ _ _ _ _ us hl => match us, hl with | [_], _ => rfl⟩
    g_tw := ⟨_, ok_WTw W FTw FPk G_peek FCk G_check FSt G_step, FTw.binds fun _ _ _ _ _ _ us hl => match us, hl with | [_, _], _ => rfl⟩
    g_tn := by
      obtain ⟨ds, d1, d2⟩ := tn_binds FTn
      exact ⟨_, ds, ok_WTn W FTn FPk G_peek FCk G_check FSt G_step FN gN R.chk.T, d2, d1⟩
    g_en := ⟨_, ok_WEnd W FEn FMo n_len FCk G_check, FEn.binds fun _ _ _ _ _ _ us hl => match us, hl with | [_], _ => rfl⟩ }
  have WN : WFN P w K mg base b.C b.CB b.fMo b.fPk b.fCk b.fSt b.fTw b.fTn b.fEn b.fNu := ⟨WW, Fa.m_nu, ⟨_, ok_WNu W FNu FPk G_peek FCk G_check FSt G_step F_num g_num n_len n_int, nu_binds FNu⟩⟩
  have G_init := ok_WI (P := P) (w := w) (base := base) W FWI Fa.TK Fa.ear.v1 Fa.ear.v2 FBT R.chk.T
  obtain ⟨dsI, d_init, b_init⟩ := FWI.binds1 (ps := ["self", "text", "line"]) 2 0 (by simp) rfl fun T kV doc pm an cdv ct us its hu hi => match us, its, hu, hi with | [_, _], [_], _, _ => ⟨_, rfl, rfl⟩
  have G_ps := ok_Ps F_ps WN F_pf g_pf
  have G_rt := ok_Rt R Fa.MW Fa.gW F_rt WN G_init b_init d_init F_ps g_ps G_ps
  obtain ⟨_, dR⟩ := Fa.dR
  obtain ⟨_, dF⟩ := Fa.dF
  obtain ⟨_, dV⟩ := Fa.dV
  obtain ⟨_, dE⟩ := Fa.dE
  have hR := rd_Ru dR (ok_RrRu (CC := a.CR) dR F_rt g_rt G_rt)
  have hF := rd_Fi dF (ok_RrFi (CC := a.CF) dF F_rt g_rt G_rt)
  have hV := rd_Ev dV (ok_RrEv (CC := b.CV) dV F_rt g_rt G_rt)
  have hE := rd_El dE (ok_RrEl (CC := a.CE) dE F_rt g_rt G_rt)
  have rdR : RdC P w K mg base a.CR a.CF b.CB a.CT b.pR b.gR := ⟨Fa.rR, Fa.mR, hR.1, hR.2⟩
  have rdF : RdC P w K mg base a.CF a.CF b.CB a.CT b.pF b.gF := ⟨Fa.rF, Fa.mF, hF.1, hF.2⟩
  have rdV : RdC P w K mg base b.CV a.CF b.CB a.CT b.pV b.gV := ⟨Fa.rV, Fa.mV, hV.1, hV.2⟩
  have rdE : RdC P w K mg base a.CE a.CF b.CB a.CT b.pE b.gE := ⟨Fa.rE, Fa.mE, hE.1, hE.2⟩
  exact ok_law L2'.lk L2'.hc R Fa.ear Fa.nm F_heard g_heard F_draw g_draw F_pick g_pick F_pen g_pen F_row g_row F_form g_form F_line g_line F_bent g_bent F_rh g_rh F_isn g_isn Fa.n_range rdR
    (ok_Rd15 L1.lk L1.hc R Fa.ear Fa.nm F_heard g_heard F_draw g_draw Fa.gV rdR rdF rdV rdE L1.tb L1.mem L1.one) L1.kp L1.g (fun s us _ hl => match us, hl with | [_, _], _ => .of_eq rfl) Fa.noS L2'.tb L2'.mem L2'.one
end
end K10
end
section
namespace K10
open PySem PySem.Spec PyProof.Rows L2
def theDefs : List OwH.DX :=
  [⟨fun K => OwH.ga K "is_name", "is_name", "is_name", sName, []⟩,
   ⟨fun K => OwH.ga K "is_within", "is_within", "is_within", sWithin, []⟩,
   ⟨fun K => OwH.ga K "ascending", "ascending", "ascending", sAsc, []⟩,
   ⟨fun K => OwH.ga K "is_pick", "is_pick", "is_pick", sIsPick, []⟩,
   ⟨fun K => OwH.ga K "one_form", "one_form", "one_form", sForm, []⟩,
   ⟨fun K => OwH.ga K "number_of", "number_of", "number_of", sNum, []⟩,
   ⟨fun K => OwH.ga K "pick_from", "pick_from", "pick_from", sPf, []⟩,
   ⟨fun K => OwH.ga K "picks_from", "picks_from", "picks_from", sPs, []⟩,
   ⟨fun K => OwH.ga K "rule_of_text", "rule_of_text", "rule_of_text", sRt, []⟩,
   ⟨fun K => OwH.ga K "_law_pen", "_law_pen", "_law_pen", sPen, []⟩,
   ⟨fun K => OwH.ga K "_law_draw", "_law_draw", "_law_draw", sDraw, []⟩,
   ⟨fun K => OwH.ga K "_law_pick", "_law_pick", "_law_pick", sPick, []⟩,
   ⟨fun K => OwH.ga K "_law_row", "_law_row", "_law_row", sRow, []⟩,
   ⟨fun K => OwH.ga K "_law_form", "_law_form", "_law_form", sLForm, []⟩,
   ⟨fun K => OwH.ga K "_law_line", "_law_line", "_law_line", sLi, []⟩,
   ⟨fun K => OwH.ga K "_law_is_name", "_law_is_name", "_law_is_name", sIn15, []⟩,
   ⟨fun K => OwH.ga K "_law_read_here", "_law_read_here", "_law_read_here", sRh, []⟩,
   ⟨fun K => OwH.ga K "_law_heard", "_law_heard", "_law_heard", sHeard, []⟩,
   ⟨fun K => OwH.ga K "_law_read", "_law_read", "_law_read", sRd, []⟩,
   ⟨fun K => OwH.ga K "_law_bent", "_law_bent", "_law_bent", sBe, []⟩,
   ⟨fun K => OwH.ga K "law", "law", "law", sLaw, []⟩,
   ⟨fun K => OwH.mo K "BadName" "__init__", "__init__", "BadName.__init__", sBadName0, []⟩,
   ⟨fun K => OwH.mo K "BadNumber" "__init__", "__init__", "BadNumber.__init__", sBadNumber0, []⟩,
   ⟨fun K => OwH.mo K "BadPick" "__init__", "__init__", "BadPick.__init__", sBadPick0, []⟩,
   ⟨fun K => OwH.mo K "BadRule" "__init__", "__init__", "BadRule.__init__", sBadRule0, []⟩,
   ⟨fun K => OwH.mo K "TooMany" "__init__", "__init__", "TooMany.__init__", sTooMany0, []⟩,
   ⟨fun K => OwH.mo K "BadText" "__init__", "__init__", "BadText.__init__", sBadText0, []⟩,
   ⟨fun K => OwH.mo K "Rule" "__init__", "__init__", "Rule.__init__", sRule0, []⟩,
   ⟨fun K => OwH.mo K "First" "__init__", "__init__", "First.__init__", sFirst0, []⟩,
   ⟨fun K => OwH.mo K "Else" "__init__", "__init__", "Else.__init__", sElse0, []⟩,
   ⟨fun K => OwH.mo K "Pair" "__init__", "__init__", "Pair.__init__", sPair0, []⟩,
   ⟨fun K => OwH.inRec K (OwH.mo K "First" "of") "classmethod", "of", "First.of", sFirstOf, []⟩,
   ⟨fun K => OwH.mo K "First" "__iter__", "__iter__", "Rule.__iter__", sRIter, []⟩,
   ⟨fun K => OwH.mo K "First" "__len__", "__len__", "Rule.__len__", sRLen, []⟩,
   ⟨fun K => OwH.mo K "First" "__contains__", "__contains__", "Rule.__contains__", sIn, []⟩,
   ⟨fun K => OwH.mo K "First" "__eq__", "__eq__", "Rule.__eq__", sREq, []⟩,
   ⟨fun K => OwH.mo K "First" "__str__", "__str__", "Rule.__str__", sRStr, []⟩,
   ⟨fun K => OwH.mo K "First" "__or__", "__or__", "Rule.__or__", sROr, []⟩,
   ⟨fun K => OwH.mo K "First" "__add__", "__add__", "Rule.__add__", sRAdd, []⟩,
   ⟨fun K => OwH.mo K "First" "__sub__", "__sub__", "Rule.__sub__", sRSub, []⟩,
   ⟨fun K => OwH.inRec K (OwH.mo K "First" "picks") "property", "picks", "Rule.picks", sPicks, []⟩,
   ⟨fun K => OwH.inRec K (OwH.mo K "First" "bays") "property", "bays", "Rule.bays", sBays, []⟩,
   ⟨fun K => OwH.mo K "First" "keep", "keep", "Rule.keep", sKeep, []⟩,
   ⟨fun K => OwH.inRec K (OwH.mo K "Else" "first") "property", "first", "Pair.first", sPair1, []⟩,
   ⟨fun K => OwH.inRec K (OwH.mo K "Else" "second") "property", "second", "Pair.second", sPair2, []⟩,
   ⟨fun K => OwH.mo K "Words" "more", "more", "Words.more", sWMore, []⟩,
   ⟨fun K => OwH.mo K "Words" "peek", "peek", "Words.peek", sWPeek, []⟩,
   ⟨fun K => OwH.mo K "Words" "check", "check", "Words.check", sWCheck, []⟩,
   ⟨fun K => OwH.mo K "Words" "step", "step", "Words.step", sWStep, []⟩,
   ⟨fun K => OwH.mo K "Words" "take_word", "take_word", "Words.take_word", sWTw, []⟩,
   ⟨fun K => OwH.mo K "Words" "end", "end", "Words.end", sWEnd, []⟩,
   ⟨fun K => OwH.mo K "Words" "take_name", "take_name", "Words.take_name", sWTn, [.str ""]⟩,
   ⟨fun K => OwH.mo K "Words" "take_number", "take_number", "Words.take_number", sWNu, [.non]⟩,
   ⟨fun K => OwH.mo K "Words" "__init__", "__init__", "Words.__init__", sWInit, [.int 0]⟩,
   ⟨fun K => OwH.inRec K (OwH.mo K "Rule" "read") "classmethod", "read", "Rule.read", sReadRule, []⟩,
   ⟨fun K => OwH.inRec K (OwH.mo K "First" "read") "classmethod", "read", "First.read", sReadFirst, []⟩,
   ⟨fun K => OwH.inRec K (OwH.mo K "Even" "read") "classmethod", "read", "Even.read", sReadEven, []⟩,
   ⟨fun K => OwH.inRec K (OwH.mo K "Else" "read") "classmethod", "read", "Else.read", sReadElse, []⟩]
def theFacts : List (PySem.W.Frag → Bool) :=
  [(He.Fa.glo "is_name").ok,
   (He.Fa.glo "is_within").ok,
   (He.Fa.glo "ascending").ok,
   (He.Fa.glo "is_pick").ok,
   (He.Fa.glo "one_form").ok,
   (He.Fa.glo "number_of").ok,
   (He.Fa.glo "pick_from").ok,
   (He.Fa.glo "picks_from").ok,
   (He.Fa.glo "rule_of_text").ok,
   (He.Fa.glo "_law_pen").ok,
   (He.Fa.glo "_law_draw").ok,
   (He.Fa.glo "_law_pick").ok,
   (He.Fa.glo "_law_row").ok,
   (He.Fa.glo "_law_form").ok,
   (He.Fa.glo "_law_line").ok,
   (He.Fa.glo "_law_is_name").ok,
   (He.Fa.glo "_law_read_here").ok,
   (He.Fa.glo "_law_heard").ok,
   (He.Fa.glo "_law_read").ok,
   (He.Fa.glo "_law_bent").ok,
   (He.Fa.glo "law").ok,
   (He.Fa.glo "Rule").ok,
   (He.Fa.glo "First").ok,
   (He.Fa.glo "Else").ok,
   (He.Fa.glo "Even").ok,
   (He.Fa.glo "Pair").ok,
   (He.Fa.glo "Words").ok,
   (He.Fa.glo "NextError").ok,
   (He.Fa.glo "BadText").ok,
   (He.Fa.glo "BadName").ok,
   (He.Fa.glo "BadNumber").ok,
   (He.Fa.glo "BadPick").ok,
   (He.Fa.glo "BadRule").ok,
   (He.Fa.glo "TooMany").ok,
   (He.Fa.free "int").ok,
   (He.Fa.free "bool").ok,
   (He.Fa.free "str").ok,
   (He.Fa.free "len").ok,
   (He.Fa.free "all").ok,
   (He.Fa.free "isinstance").ok,
   (He.Fa.free "sorted").ok,
   (He.Fa.free "set").ok,
   (He.Fa.free "list").ok,
   (He.Fa.free "tuple").ok,
   (He.Fa.free "abs").ok,
   (He.Fa.free "range").ok,
   (He.Fa.free "zip").ok,
   (He.Fa.free "enumerate").ok,
   (He.Fa.free "iter").ok,
   (He.Fa.free "any").ok,
   OwH.fErr "BadName",
   OwH.fIni "BadName",
   OwH.fNoF "BadName" "value",
   OwH.fErr "BadNumber",
   OwH.fIni "BadNumber",
   OwH.fNoF "BadNumber" "value",
   OwH.fErr "BadPick",
   OwH.fIni "BadPick",
   OwH.fNoF "BadPick" "at",
   OwH.fErr "BadRule",
   OwH.fIni "BadRule",
   OwH.fNoF "BadRule" "kind",
   OwH.fErr "TooMany",
   OwH.fIni "TooMany",
   OwH.fNoF "TooMany" "what",
   OwH.fNoF "TooMany" "most",
   OwH.fErr "BadText",
   OwH.fIni "BadText",
   OwH.fNoF "BadText" "line",
   OwH.fNoF "BadText" "word",
   OwH.fExm "BadText" "NextError" true,
   OwH.fKit "BadText" "BadText" true,
   fRule "First",
   (He.Fa.mkr "First").ok,
   fRule "Else",
   (He.Fa.mkr "Else").ok,
   fApart "First" "Else",
   fApart "Else" "First",
   (He.Fa.noat "Else" "_first").ok,
   (He.Fa.noat "Else" "_second").ok,
   OwH.fProp "Else" "first",
   OwH.fProp "Else" "second",
   OwH.fRead "Rule",
   OwH.fRead "Pair",
   OwH.fRead "First",
   OwH.fRead "Even",
   OwH.fRead "Else",
   OwH.fCFun "Rule" "__init__",
   OwH.fCFun "Pair" "__init__",
   OwH.fCMet "First" "of",
   OwH.fCMet "Rule" "read",
   OwH.fCMet "First" "read",
   OwH.fCMet "Even" "read",
   OwH.fCMet "Else" "read",
   (He.Fa.cls "Words").ok,
   (He.Fa.mkr "Words").ok,
   (He.Fa.noat "Words" "_words").ok,
   (He.Fa.noat "Words" "_line").ok,
   (He.Fa.noat "Words" "_at").ok,
   fun K => OwH.fMethAt K (OwH.ga K "Words") "more" (OwH.mo K "Words" "more"),
   fun K => OwH.fMethAt K (OwH.ga K "Words") "peek" (OwH.mo K "Words" "peek"),
   fun K => OwH.fMethAt K (OwH.ga K "Words") "check" (OwH.mo K "Words" "check"),
   fun K => OwH.fMethAt K (OwH.ga K "Words") "step" (OwH.mo K "Words" "step"),
   fun K => OwH.fMethAt K (OwH.ga K "Words") "take_word" (OwH.mo K "Words" "take_word"),
   fun K => OwH.fMethAt K (OwH.ga K "Words") "take_name" (OwH.mo K "Words" "take_name"),
   fun K => OwH.fMethAt K (OwH.ga K "Words") "end" (OwH.mo K "Words" "end"),
   fun K => OwH.fMethAt K (OwH.ga K "Words") "take_number" (OwH.mo K "Words" "take_number"),
   fun K => decide (PySem.W.kitOne K (.ref (OwH.ga K "First")) (.type "str") = some false),
   fun K => decide ((OwH.cTab K (OwH.ga K "_law_read")).2 ≠ (OwH.cTab K (OwH.ga K "law")).2)]
def theTabs : List (PySem.W.Frag → Addr) := [fun K => OwH.ga K "_law_read", fun K => OwH.ga K "law"]
def roots : List Str := ([("is_name" : Str), ("is_within" : Str), ("ascending" : Str), ("is_pick" : Str), ("one_form" : Str), ("number_of" : Str), ("pick_from" : Str), ("picks_from" : Str)] : List Str) ++ ([("rule_of_text" : Str), ("_law_pen" : Str), ("_law_draw" : Str), ("_law_pick" : Str), ("_law_row" : Str), ("_law_form" : Str), ("_law_line" : Str), ("_law_is_name" : Str)] : List Str) ++ ([("_law_read_here" : Str), ("_law_heard" : Str), ("_law_read" : Str), ("_law_bent" : Str), ("law" : Str), ("Rule" : Str), ("First" : Str), ("Else" : Str)] : List Str) ++ ([("Even" : Str), ("Pair" : Str), ("Words" : Str), ("NextError" : Str), ("BadText" : Str), ("BadName" : Str), ("BadNumber" : Str), ("BadPick" : Str)] : List Str) ++ ([("BadRule" : Str), ("TooMany" : Str)] : List Str)
def names : List Str := ([("_wall" : Str), ("NextError" : Str), ("BadName" : Str), ("BadNumber" : Str), ("BadPick" : Str), ("BadRule" : Str), ("TooMany" : Str), ("BadText" : Str)] : List Str) ++ ([("is_name" : Str), ("is_within" : Str), ("ascending" : Str), ("number_of" : Str), ("Words" : Str), ("Pair" : Str), ("Rule" : Str), ("First" : Str)] : List Str) ++ ([("Even" : Str), ("Else" : Str), ("is_pick" : Str), ("one_form" : Str), ("rule_of_text" : Str), ("picks_from" : Str), ("pick_from" : Str), ("_law_pen" : Str)] : List Str) ++ ([("_law_draw" : Str), ("_law_pick" : Str), ("_law_row" : Str), ("_law_form" : Str), ("_law_line" : Str), ("_law_is_name" : Str), ("_law_read_here" : Str), ("_law_heard" : Str)] : List Str) ++ ([("_law_read" : Str), ("_law_bent" : Str)] : List Str)
abbrev Rw : PySem.W.OpenRow := PySem.W.OpenLaw.row PySem.Challenge.rw_nextkind_k15_rules_written_and_read
abbrev hk : PySem.W.Hook := OwH.hookT roots theFacts theDefs theTabs
def ob (s : PySem.W.SharedT) : OwH.AT := OwH.obsT roots theFacts theDefs theTabs (HandSHeadRun.getT s)
theorem ob_eq (s : PySem.W.SharedT) : ob s = hk.obs s.abs := OwH.obsT_eq (HandSHeadRun.getT_eq s)
theorem run (w : World) : HandSHeadRun.RunEq Rw (PySem.W.view Rw.prog [40]) hk ob 14000 names w := by
  intro os
  kernel_rfl
def wa (K : PySem.W.Frag) : WAd := ⟨OwH.ga K "Words", OwH.ga K "BadText", OwH.ga K "NextError", OwH.ga K "Even", OwH.mo K "BadText" "__init__", OwH.mo K "Words" "__init__", OwH.mo K "Words" "more", OwH.mo K "Words" "peek", OwH.mo K "Words" "check", OwH.mo K "Words" "step", OwH.mo K "Words" "take_word", OwH.mo K "Words" "take_name", OwH.mo K "Words" "end", OwH.mo K "Words" "take_number", OwH.mo K "Rule" "read", OwH.inRec K (OwH.mo K "Rule" "read") "classmethod", OwH.mo K "First" "read", OwH.inRec K (OwH.mo K "First" "read") "classmethod", OwH.mo K "Even" "read", OwH.inRec K (OwH.mo K "Even" "read") "classmethod", OwH.mo K "Else" "read", OwH.inRec K (OwH.mo K "Else" "read") "classmethod"⟩
theorem facts {P : Program} {w : World} {K : PySem.W.Frag} {h base : Heap} {mg : Str → Option Value} (X : K.In h) (G : h.Ns mainGlobals mg) (c : OwH.seeX theFacts theDefs K = OwH.wantX theDefs) : Facts P w K mg base (ra K) (wa K) := by
  obtain ⟨fd0, F0⟩ := OwH.def_ c 0 rfl
  obtain ⟨fd1, F1⟩ := OwH.def_ c 1 rfl
  obtain ⟨fd2, F2⟩ := OwH.def_ c 2 rfl
  obtain ⟨fd3, F3⟩ := OwH.def_ c 3 rfl
  obtain ⟨fd4, F4⟩ := OwH.def_ c 4 rfl
  obtain ⟨fd5, F5⟩ := OwH.def_ c 5 rfl
  obtain ⟨fd6, F6⟩ := OwH.def_ c 6 rfl
  obtain ⟨fd7, F7⟩ := OwH.def_ c 7 rfl
  obtain ⟨fd8, F8⟩ := OwH.def_ c 8 rfl
  obtain ⟨fd9, F9⟩ := OwH.def_ c 9 rfl
  obtain ⟨fd10, F10⟩ := OwH.def_ c 10 rfl
  obtain ⟨fd11, F11⟩ := OwH.def_ c 11 rfl
  obtain ⟨fd12, F12⟩ := OwH.def_ c 12 rfl
  obtain ⟨fd13, F13⟩ := OwH.def_ c 13 rfl
  obtain ⟨fd14, F14⟩ := OwH.def_ c 14 rfl
  obtain ⟨fd15, F15⟩ := OwH.def_ c 15 rfl
  obtain ⟨fd16, F16⟩ := OwH.def_ c 16 rfl
  obtain ⟨fd17, F17⟩ := OwH.def_ c 17 rfl
  obtain ⟨fd18, F18⟩ := OwH.def_ c 18 rfl
  obtain ⟨fd19, F19⟩ := OwH.def_ c 19 rfl
  obtain ⟨fd21, F21⟩ := OwH.def_ c 21 rfl
  obtain ⟨fd22, F22⟩ := OwH.def_ c 22 rfl
  obtain ⟨fd23, F23⟩ := OwH.def_ c 23 rfl
  obtain ⟨fd24, F24⟩ := OwH.def_ c 24 rfl
  obtain ⟨fd25, F25⟩ := OwH.def_ c 25 rfl
  obtain ⟨fd26, F26⟩ := OwH.def_ c 26 rfl
  obtain ⟨fd27, F27⟩ := OwH.def_ c 27 rfl
  obtain ⟨fd28, F28⟩ := OwH.def_ c 28 rfl
  obtain ⟨fd29, F29⟩ := OwH.def_ c 29 rfl
  obtain ⟨fd30, F30⟩ := OwH.def_ c 30 rfl
  obtain ⟨fd31, F31⟩ := OwH.def_ c 31 rfl
  obtain ⟨fd32, F32⟩ := OwH.def_ c 32 rfl
  obtain ⟨fd33, F33⟩ := OwH.def_ c 33 rfl
  obtain ⟨fd34, F34⟩ := OwH.def_ c 34 rfl
  obtain ⟨fd35, F35⟩ := OwH.def_ c 35 rfl
  obtain ⟨fd36, F36⟩ := OwH.def_ c 36 rfl
  obtain ⟨fd37, F37⟩ := OwH.def_ c 37 rfl
  obtain ⟨fd38, F38⟩ := OwH.def_ c 38 rfl
  obtain ⟨fd39, F39⟩ := OwH.def_ c 39 rfl
  obtain ⟨fd40, F40⟩ := OwH.def_ c 40 rfl
  obtain ⟨fd41, F41⟩ := OwH.def_ c 41 rfl
  obtain ⟨fd42, F42⟩ := OwH.def_ c 42 rfl
  obtain ⟨fd43, F43⟩ := OwH.def_ c 43 rfl
  obtain ⟨fd44, F44⟩ := OwH.def_ c 44 rfl
  obtain ⟨fd45, F45⟩ := OwH.def_ c 45 rfl
  obtain ⟨fd46, F46⟩ := OwH.def_ c 46 rfl
  obtain ⟨fd47, F47⟩ := OwH.def_ c 47 rfl
  obtain ⟨fd48, F48⟩ := OwH.def_ c 48 rfl
  obtain ⟨fd49, F49⟩ := OwH.def_ c 49 rfl
  obtain ⟨fd50, F50⟩ := OwH.def_ c 50 rfl
  obtain ⟨fd51, F51⟩ := OwH.defD_ c 51 rfl (by simp)
  obtain ⟨fd52, F52⟩ := OwH.defD_ c 52 rfl (by simp)
  obtain ⟨fd53, F53⟩ := OwH.defD_ c 53 rfl (by simp)
  obtain ⟨fd54, F54⟩ := OwH.def_ c 54 rfl
  obtain ⟨fd55, F55⟩ := OwH.def_ c 55 rfl
  obtain ⟨fd56, F56⟩ := OwH.def_ c 56 rfl
  obtain ⟨fd57, F57⟩ := OwH.def_ c 57 rfl
  exact ⟨⟨⟨⟨_, _, (He.glo_ok X G (OwH.fact c 0 rfl)), F0⟩, ⟨_, _, (He.glo_ok X G (OwH.fact c 1 rfl)), F1⟩, ⟨_, _, (He.glo_ok X G (OwH.fact c 2 rfl)), F2⟩, ⟨(He.free_ok X G (OwH.fact c 34 rfl)), (He.free_ok X G (OwH.fact c 35 rfl)), (He.free_ok X G (OwH.fact c 36 rfl)), (He.free_ok X G (OwH.fact c 37 rfl)), (He.free_ok X G (OwH.fact c 38 rfl)), (He.free_ok X G (OwH.fact c 39 rfl))⟩, ⟨(He.free_ok X G (OwH.fact c 40 rfl)), (He.free_ok X G (OwH.fact c 41 rfl)), (He.free_ok X G (OwH.fact c 42 rfl))⟩, ⟨(He.free_ok X G (OwH.fact c 43 rfl))⟩⟩,
    ⟨⟨_, _, ⟨OwH.err_ok (OwH.fact c 50 rfl), (He.glo_ok X G (OwH.fact c 29 rfl)), (OwH.ini_ok (OwH.fact c 51 rfl)).1, (OwH.ini_ok (OwH.fact c 51 rfl)).2⟩, of_decide_eq_true (OwH.fact c 52 rfl), F21⟩, ⟨_, _, ⟨OwH.err_ok (OwH.fact c 53 rfl), (He.glo_ok X G (OwH.fact c 30 rfl)), (OwH.ini_ok (OwH.fact c 54 rfl)).1, (OwH.ini_ok (OwH.fact c 54 rfl)).2⟩, of_decide_eq_true (OwH.fact c 55 rfl), F22⟩, ⟨_, _, ⟨OwH.err_ok (OwH.fact c 56 rfl), (He.glo_ok X G (OwH.fact c 31 rfl)), (OwH.ini_ok (OwH.fact c 57 rfl)).1, (OwH.ini_ok (OwH.fact c 57 rfl)).2⟩, of_decide_eq_true (OwH.fact c 58 rfl), F23⟩, ⟨_, _, ⟨OwH.err_ok (OwH.fact c 59 rfl), (He.glo_ok X G (OwH.fact c 32 rfl)), (OwH.ini_ok (OwH.fact c 60 rfl)).1, (OwH.ini_ok (OwH.fact c 60 rfl)).2⟩, of_decide_eq_true (OwH.fact c 61 rfl), F24⟩, ⟨_, _, ⟨OwH.err_ok (OwH.fact c 62 rfl), (He.glo_ok X G (OwH.fact c 33 rfl)), (OwH.ini_ok (OwH.fact c 63 rfl)).1, (OwH.ini_ok (OwH.fact c 63 rfl)).2⟩, of_decide_eq_true (OwH.fact c 64 rfl), F25⟩, of_decide_eq_true (OwH.fact c 65 rfl)⟩,
    (He.free_ok X G (OwH.fact c 46 rfl)), (He.free_ok X G (OwH.fact c 47 rfl)), (He.free_ok X G (OwH.fact c 48 rfl)), (He.free_ok X G (OwH.fact c 49 rfl)), (He.glo_ok X G (OwH.fact c 21 rfl)), (He.glo_ok X G (OwH.fact c 22 rfl)), (He.glo_ok X G (OwH.fact c 23 rfl)), (He.glo_ok X G (OwH.fact c 25 rfl)), (He.glo_ok X G (OwH.fact c 4 rfl)), (He.glo_ok X G (OwH.fact c 3 rfl)),
    rule_ok (OwH.fact c 72 rfl), rule_ok (OwH.fact c 74 rfl), apart_ok (OwH.fact c 76 rfl), apart_ok (OwH.fact c 77 rfl), He.noat_ok (OwH.fact c 78 rfl), He.noat_ok (OwH.fact c 79 rfl), OwH.prop_ok (OwH.fact c 80 rfl), OwH.prop_ok (OwH.fact c 81 rfl),
    OwH.read_ok (OwH.fact c 82 rfl), OwH.cfun_ok (OwH.fact c 87 rfl), OwH.read_ok (OwH.fact c 83 rfl), OwH.cfun_ok (OwH.fact c 88 rfl), OwH.read_ok (OwH.fact c 84 rfl), OwH.cmet_ok (OwH.fact c 89 rfl), He.mkr_ok (OwH.fact c 73 rfl), He.mkr_ok (OwH.fact c 75 rfl),
    ⟨_, F27⟩, ⟨_, F28⟩, ⟨_, F29⟩, ⟨_, F30⟩, ⟨_, F4⟩, ⟨_, F3⟩, ⟨_, F31⟩, ⟨_, F32⟩, ⟨_, F33⟩, ⟨_, F34⟩, ⟨_, F35⟩, ⟨_, F36⟩, ⟨_, F37⟩, ⟨_, F38⟩, ⟨_, F39⟩, ⟨_, F40⟩, ⟨_, F41⟩, ⟨_, F42⟩, ⟨_, F43⟩, ⟨_, F44⟩⟩,
    ⟨OwH.err_ok (OwH.fact c 66 rfl), of_decide_eq_true (OwH.fact c 70 rfl), of_decide_eq_true (OwH.fact c 71 rfl), of_decide_eq_true (OwH.fact c 68 rfl), of_decide_eq_true (OwH.fact c 69 rfl), (He.glo_ok X G (OwH.fact c 28 rfl)), (He.glo_ok X G (OwH.fact c 27 rfl))⟩,
    ⟨(He.free_ok X G (OwH.fact c 34 rfl)), (He.free_ok X G (OwH.fact c 37 rfl)), (He.free_ok X G (OwH.fact c 44 rfl)), (He.free_ok X G (OwH.fact c 42 rfl))⟩, (He.free_ok X G (OwH.fact c 45 rfl)), ⟨He.cls_ok (OwH.fact c 94 rfl), He.noat_ok (OwH.fact c 96 rfl), He.noat_ok (OwH.fact c 97 rfl), He.noat_ok (OwH.fact c 98 rfl), OwH.methAt_ok (OwH.fact c 99 rfl), OwH.methAt_ok (OwH.fact c 100 rfl), OwH.methAt_ok (OwH.fact c 101 rfl), OwH.methAt_ok (OwH.fact c 102 rfl), OwH.methAt_ok (OwH.fact c 103 rfl), OwH.methAt_ok (OwH.fact c 104 rfl), OwH.methAt_ok (OwH.fact c 105 rfl)⟩, OwH.methAt_ok (OwH.fact c 106 rfl), He.mkr_ok (OwH.fact c 95 rfl), (He.glo_ok X G (OwH.fact c 26 rfl)), ⟨OwH.err_ok (OwH.fact c 66 rfl), (He.glo_ok X G (OwH.fact c 28 rfl)), (OwH.ini_ok (OwH.fact c 67 rfl)).1, (OwH.ini_ok (OwH.fact c 67 rfl)).2⟩, ⟨_, F26⟩,
    ⟨_, F45⟩, ⟨_, F46⟩, ⟨_, F47⟩, ⟨_, F48⟩, ⟨_, F49⟩, ⟨_, F50⟩, ⟨_, F51⟩, ⟨_, F52⟩, ⟨_, F53⟩, (He.glo_ok X G (OwH.fact c 24 rfl)),
    OwH.read_ok (OwH.fact c 82 rfl), OwH.read_ok (OwH.fact c 84 rfl), OwH.read_ok (OwH.fact c 85 rfl), OwH.read_ok (OwH.fact c 86 rfl), OwH.cmet_ok (OwH.fact c 90 rfl), OwH.cmet_ok (OwH.fact c 91 rfl), OwH.cmet_ok (OwH.fact c 92 rfl), OwH.cmet_ok (OwH.fact c 93 rfl), ⟨_, F54⟩, ⟨_, F55⟩, ⟨_, F56⟩, ⟨_, F57⟩, of_decide_eq_true (OwH.fact c 107 rfl),
    ⟨_, _, (He.glo_ok X G (OwH.fact c 5 rfl)), F5⟩, ⟨_, _, (He.glo_ok X G (OwH.fact c 6 rfl)), F6⟩, ⟨_, _, (He.glo_ok X G (OwH.fact c 7 rfl)), F7⟩, ⟨_, _, (He.glo_ok X G (OwH.fact c 8 rfl)), F8⟩, ⟨_, _, (He.glo_ok X G (OwH.fact c 9 rfl)), F9⟩, ⟨_, _, (He.glo_ok X G (OwH.fact c 10 rfl)), F10⟩, ⟨_, _, (He.glo_ok X G (OwH.fact c 11 rfl)), F11⟩, ⟨_, _, (He.glo_ok X G (OwH.fact c 12 rfl)), F12⟩, ⟨_, _, (He.glo_ok X G (OwH.fact c 13 rfl)), F13⟩, ⟨_, _, (He.glo_ok X G (OwH.fact c 14 rfl)), F14⟩, ⟨_, _, (He.glo_ok X G (OwH.fact c 15 rfl)), F15⟩, ⟨_, _, (He.glo_ok X G (OwH.fact c 16 rfl)), F16⟩, ⟨_, _, (He.glo_ok X G (OwH.fact c 17 rfl)), F17⟩, ⟨_, _, (He.glo_ok X G (OwH.fact c 19 rfl)), F19⟩⟩
theorem ends {P : Program} {w : World} {K : PySem.W.Frag} {h : Heap} {mg : Str → Option Value} {f : Addr} (X : K.In h) (G : h.Ns mainGlobals mg) (hf : mg ("law" : Str) = some (.ref f)) (c : OwH.SaysT theFacts theDefs theTabs h K) :
    ∃ (K : PySem.W.Frag) (fd : FuncData) (cs : List (Addr × Addr)) (sp : Sp), K.In h ∧ (∀ e ∈ cs, h.get? e.2 = some OwR.tabO) ∧ (∀ e ∈ cs, K.lookup e.2 = none) ∧ (∀ e ∈ cs, PySem.W.CodeHd h e.1 e.2) ∧
      (∀ (s : Shared) (u : Value), BindsTo s fd ⟨[u], []⟩ [("_law_script", u)]) ∧ (∀ (G : Hp) (a : Addr) (zs : List Int), zs.length ≤ 63 → (∀ e ∈ cs, G e.2 = some (.tbl #[])) → SqL K G a (zs.map V.int) → sp [.ref a] G (fun v _ => v = .bl true) fun _ _ _ => False) ∧
      ∀ base : Heap, K.In base → base.Ns mainGlobals mg → (∀ e ∈ cs, LamX.TabB base mg e.1 e.2) → OwR.FnG P w K mg base CX0 13 f fd ["_law_script"] sp := by
  obtain ⟨fdM, FM⟩ := OwH.def_ c.see 18 rfl
  obtain ⟨fdL, FL⟩ := OwH.def_ c.see 20 rfl
  have e := hf.symm.trans (He.glo_ok X G (OwH.fact c.see 20 rfl))
  cases e
  have kpM := FM.kp
  have kpL := FL.kp
  obtain ⟨ocM, odM, kVM, docM, pmM, anM, cdvM, ctM, oslM, rfl, lkM, hcdM⟩ := FM.ex
  obtain ⟨ocL, odL, kVL, docL, pmL, anL, cdvL, ctL, oslL, rfl, lkL, hcdL⟩ := FL.ex
  obtain ⟨cM, rfl⟩ := He.codeIn_ref hcdM
  obtain ⟨cL, rfl⟩ := He.codeIn_ref hcdL
  have ecM : (OwH.cTab K (OwH.ga K "_law_read")).1 = cM := OwH.codA_eq lkM rfl
  have ecL : (OwH.cTab K (OwH.ga K "law")).1 = cL := OwH.codA_eq lkL rfl
  have ne : (OwH.cTab K (OwH.ga K "_law_read")).2 ≠ (OwH.cTab K (OwH.ga K "law")).2 := of_decide_eq_true (OwH.fact c.see 108 rfl)
  have memM : (fun K => OwH.ga K "_law_read") ∈ theTabs := List.mem_cons_self
  have memL : (fun K => OwH.ga K "law") ∈ theTabs := List.mem_cons_of_mem _ List.mem_cons_self
  have two : ∀ {p : Addr × Addr → Prop}, p (OwH.cTab K (OwH.ga K "_law_read")) → p (OwH.cTab K (OwH.ga K "law")) → ∀ e ∈ [OwH.cTab K (OwH.ga K "_law_read"), OwH.cTab K (OwH.ga K "law")], p e := fun {p} h1 h2 e he => by
    simp only [List.mem_cons, List.not_mem_nil, or_false] at he
    rcases he with rfl | rfl
    · exact h1
    · exact h2
  refine ⟨K, PySem.W.fnOf "law" "law" (defArgs sLaw) (defBody sLaw) (defScope sLaw) .none kVL docL pmL anL (.ref cL) ctL, [OwH.cTab K (OwH.ga K "_law_read"), OwH.cTab K (OwH.ga K "law")], spLaw K [((OwH.cTab K (OwH.ga K "_law_read")).2, qRd), ((OwH.cTab K (OwH.ga K "law")).2, qLaw)], X, two (c.empty _ memM) (c.empty _ memL), two (c.out _ memM) (c.out _ memL), two (PySem.W.codeHd_of_K X (c.hd _ memM)) (PySem.W.codeHd_of_K X (c.hd _ memL)), fun s v => .of_eq rfl, fun G a zs hz ht sq => ⟨a, zs, rfl, sq, hz, fun e he => ?_, fun _ => rfl⟩, fun base hK hN hT => ?_⟩
  · simp only [List.mem_cons, List.not_mem_nil, or_false] at he
    rcases he with rfl | rfl
    · exact LamX.TabS.nil (ht _ List.mem_cons_self)
    · exact LamX.TabS.nil (ht _ (List.mem_cons_of_mem _ List.mem_cons_self))
  · have TBM := hT _ List.mem_cons_self
    have TBL := hT _ (List.mem_cons_of_mem _ List.mem_cons_self)
    rw [ecM] at TBM
    rw [ecL] at TBL
    refine ok_all (facts (P := P) (w := w) (base := base) X G c.see) ⟨He.glo_ok X G (OwH.fact c.see 18 rfl), kpM, lkM, hcdM, TBM, List.mem_cons_self, fun e he h => ?_⟩ ⟨He.glo_ok X G (OwH.fact c.see 20 rfl), kpL, lkL, hcdL, TBL, List.mem_cons_of_mem _ List.mem_cons_self, fun e he h => ?_⟩
    · simp only [List.mem_cons, List.not_mem_nil, or_false] at he
      rcases he with rfl | rfl
      · rfl
      · exact absurd h.symm ne
    · simp only [List.mem_cons, List.not_mem_nil, or_false] at he
      rcases he with rfl | rfl
      · exact absurd h ne
      · rfl

end K10
open PySem PySem.W PySem.Calls PyProof.Rows
theorem PySem.Challenge.cw_nextkind_k15_rules_written_and_read_holds : PySem.Challenge.rw_nextkind_k15_rules_written_and_read.Holds := by
  w_on; o_law
  refine HandSHeadRun.head_any (r := K10.Rw) (q := view K10.Rw.prog [40]) (H := K10.hk) (ob := K10.ob) (M := 14000) (loose := K10.names) (d := HandSHeadRun.topDef K10.Rw.prog 40) (kwd := []) K10.ob_eq
    (by kernel_rfl) (fun s => by kernel_rfl) K10.run (by kernel_rfl) (by kernel_rfl) (by kernel_rfl) (by rfl) (by first | assumption | decide +kernel) (by decide +kernel) ⟨rfl, rfl, rfl, rfl, rfl, by decide +kernel⟩ ?hw ?hc
  case hw => w_witness2
  case hc =>
    refine OwR.walk_ofTG (l := PySem.Challenge.rw_nextkind_k15_rules_written_and_read) (n := 63) (k := 13) (x := "_law_script") rfl (by decide) (by kernel_rfl) ⟨rfl, by decide, by decide⟩ ?_
    intro w mg fn h Y G hmg
    obtain ⟨K, X, c⟩ := Y
    have en : (HandSHeadRun.topDef K10.Rw.prog 40).name = ("law" : PySem.Str) := by kernel_rfl
    rw [en] at hmg
    exact K10.ends (P := PySem.Challenge.rw_nextkind_k15_rules_written_and_read.prog) (w := w) X G hmg c
end
