import PyProof.Rows.All
import Wide.All
import OpenK.AllK
import Wide.FinOn
import KE.KStateDown
import Lean
import HandS.HeadHook3
import HandS.HeadHook4
import HandS.Base
import HandS.Call
import HandS.Ends
import HandS.Lambda
import HandS.EndBits
import HandS.EndTab
import HandS.ForMost
import HandS.More
import HandS.Exc
import HandS.Star
import HandS.ClsMeth
import HandS.MakeKwOnly
import HandS.Style
import HandS.TupAny
import KE.GoesMore
import KE.GoesEnum
import HandS.Words
import HandS.Property
import HandS.Head0
import HandS.Head1
import HandS.Head2
import HandS.HeadEnd
import HandS.HeadHook1
import HandS.HeadHook2
import KE.KExcIs
import PyProof.CallFns
import HandS.ExcInit
import HandS.ExcField
import HandS.IsInst
import HandS.RaiseMore
import HandS.Walk
import HandS.Iter
import HandS.Codes
import HandS.Text
import KE.KOpsOwn
import KE.KOwnIter
import PyProof.TupleIter
import PyProof.WalksMore
import HandS.IterVal
import HandS.OwnIter
import KE.KCallOwn
import PyProof.SliceList
import PyProof.P3Eq
import PyProof.EqKinds
import PyProof.StrBlockL
import HandS.FStr
import HandS.ForExc
import HandS.WordsExc
import KE.KDictList
import KE.KFmtOwn
import HandS.List
import PyProof.ZipIter
import HandS.Zip0
import PyProof.Rows.StrMeet
import PyProof.ReprBulk
import HandS.DictComp
import HandS.Set
import HandS.SetFor
import HandS.Strs
import HandS.Wide
import HandS.NoneIn
import HandS.TryOnly
import HandS.ExcValue
import HandS.Dict
import PyProof.NeKinds
import PyProof.EqAt
import HandS.TryMany
import PySem.Challenge.RW_nextkind_k18_quotas_joined
set_option Elab.async false
set_option linter.all false
set_option maxRecDepth 100000
set_option maxHeartbeats 0
section
/-! Rules for what an own class defines: o[i] by its __getitem__, a def of a class called off the class, a static method, cls(*xs), an object called by a keyword. -/
namespace OwR
open PySem PySem.Spec PyProof.Rows L2
/-- the class at C has the def at g as its special method nm -/
structure Spc (K : PySem.W.Frag) (C g : Addr) (nm : Str) : Prop where
  at_ : PySem.W.findIn K (.ref C) nm = some (some (.ref g))
  fn : PySem.W.isFn K (.ref g) = true
  fi : PySem.W.fnIn K g = true
section
variable {X : Cx} {CX : CXT} {k i : Nat} {C f g p : Addr} {mc : Value} {sp : Sp} {E : XK} {a b o e : Expr} {es : List Expr} {m x : Str} {ta tb te : TE} {t tk : TA} {pos apos q1 q2 : Pos} {pins : List (Addr × Obj)} {σ : L2.St} {H : Hp} {s : Shared}
/-- a promise kept one step further in -/
theorem run_in {Q : VK} {us : List Value} {vs : List V} (F : FnR X.prog X.w X.K X.mg X.base CX k g sp) (hr : Room (k + 1) X.A) (hx : Passes CX X E) (I : Inv X pins σ H s) (r : Vals vs us) (h : sp vs H Q E) :
    wpAny (model X.prog X.w) X.A.in1 (call (.ref g) us) (EP X pins σ Q) X.xe s := by
  refine wpAny_call (codeAny_mono (F X.A.in1 X.stack s H us vs Q E hr.in1 I.env0.in1 r h) fun r s' hq => ?_)
  cases r with
  | error er => exact hx pins σ H s er s' I hq
  | ok fl =>
    cases fl with
    | ret u => exact I.after hq
    | next => exact False.elim hq
    | brk => exact False.elim hq
    | cont => exact False.elim hq
/-! ### o[i] -/
def tItem (C : Addr) (sp : Sp) (E : XK) (ta tb : TE) : TE := fun σ H Q => ta σ H fun x H1 => tb σ H1 fun y H2 => ∃ p dx fs, x = .ref p ∧ H2 p = some (.ins C dx fs) ∧ sp [.ref p, y] H2 Q E
theorem pe_item (c : Spc X.K C g "__getitem__") (F : FnR X.prog X.w X.K X.mg X.base CX k g sp) (hr : Room (k + 1) X.A) (hx : Passes CX X E) (ha : PE X a ta) (hb : PE X b tb)
    (hsl : ∀ (z : Addr) (v : Value), subscripted b true (.ref z) v = runValue (.builtin "lifetime.subscript" ⟨[.ref z, v], []⟩) := by intros; rfl) : PE X (.Subscript a b pos) (tItem C sp E ta tb) := by
  refine ⟨fun pins s σ H Q I h => ?_⟩
  refine Subscript_ (binT ha hb I h fun v u s2 x y H2 I2 rx ry q => ?_)
  obtain ⟨p, dx, fs, ex, ep, hq⟩ := q
  subst ex
  obtain rfl : v = Value.ref p := rx
  obtain ⟨ox, od, J, _⟩ := StX.insC_at I2 (.inr ⟨dx, fs, ep⟩)
  have KI := I2.kIn
  have hfi := c.fi
  unfold PySem.W.fnIn at hfi
  split at hfi
  · rename_i hg
    unfold subscriptTail getitemInPython
    refine wpAny_bind (wpAny_bind (wpAny_bind (J.type.here ((PySem.W.looks_findIn KI c.at_).here ?_))))
    dsimp only
    refine wpAny_bind (wpAny_load (KI _ _ hg) (wpAny_pure ?_))
    dsimp only
    rw [hsl]
    refine wpAny_bind (wpAny_runValue (codeAny_builtin PySem.W.entry_sub ?_))
    unfold Builtin.«lifetime.subscript»
    refine wpAny_bind (PySem.W.special_fn KI J c.at_ (beq_iff_eq.mp c.fn) (wpAny_mono (run_in (us := [Value.ref p, u]) (vs := [V.ref p, y]) F hr hx I2 (.cons rfl (.cons ry .nil)) hq) (fun v' s' z => ?_) fun _ _ z => z))
    refine wpAny_pure ?_
    show wpAny _ X.A (letTemporaryGo a (.ref p) v' >>= fun _ => pure v') _ _ s'
    exact wpAny_bind (wpAny_letTemporaryGo (wpAny_pure z))
  · cases hfi
/-! ### C.m(e, ..), m a plain def of the class -/
structure CFun (K : PySem.W.Frag) (C : Addr) (mc : Value) (m : Str) (g : Addr) : Prop where
  at_ : PySem.W.findCls K (.ref C) mc m = some (.val (.ref g))
  kp : PySem.W.keepIn K (.ref g) = true
def tCFun (C : Addr) (sp : Sp) (E : XK) (ta : TE) (t : TA) : TE := fun σ H Q => ta σ H fun x H1 => x = .ref C ∧ t σ H1 fun vs H2 => sp vs H2 Q E
theorem pe_cfun {pl : Sem Bool} (he : PE X o ta) (r : ClX.CRead X.K C mc) (c : CFun X.K C mc m g) (F : FnR X.prog X.w X.K X.mg X.base CX k g sp) (hr : Room k X.A) (hx : Passes CX X E) (ha : PA X (e :: es) t)
    (hst : starEach (e :: es) X.env = (false, eval e X.env) :: starEach es X.env := by rfl) (hpl : (backTo pos (starEach es X.env)).any (·.1) = false := by rfl)
    (ht : eval (.Call (.Attribute o m apos) (e :: es) [] pos) X.env = (do
      let ov ← eval o X.env
      standAt apos.atName
      let (f, first) ← holding [ov] (getMethod ov m pl)
      callWith pos f first (backTo pos (starEach (e :: es) X.env)) (backToKw pos (keywordEach [] X.env))) := by rfl) :
    PE X (.Call (.Attribute o m apos) (e :: es) [] pos) (tCFun C sp E ta t) := by
  refine ⟨fun pins s σ H Q I h => ?_⟩
  refine PySem.W.methodCall_KW (pl := pl) (thn (he.run pins s σ H _ I h) fun u s1 ⟨x, H1, I1, rx, ex, q⟩ => ?_) ht
  subst ex
  obtain rfl : u = Value.ref C := rx
  refine PySem.W.method_cls I1.kIn r.ga (PySem.W.cls_value I1.kIn r.rd c.at_ rfl ?_)
  refine PySem.W.callWith_K (first := []) (h₀ := X.base) I1.ok.mod.kin c.kp (thn (ha.run pos pins _ σ H1 _ (I1.tok _) q) fun us s2 ⟨vs, H2, I2, rv, q2⟩ => ⟨I2.kIn, ?_⟩) hst hpl
  exact wpAny_call (run_fnR F hr hx I2 rv q2)
/-! ### C.m(), m a static method -/
structure CSta (K : PySem.W.Frag) (C : Addr) (mc : Value) (m : Str) (p g : Addr) : Prop where
  at_ : PySem.W.findCls K (.ref C) mc m = some (.get (.builtin "staticmethod.__get__") (.ref p) .none (.ref C))
  rc : ∃ rest, PySem.W.recIn K p "staticmethod" = some (.ref g :: rest)
  kp : PySem.W.keepIn K (.ref g) = true
theorem pe_csta0 {pl : Sem Bool} (he : PE X o ta) (r : ClX.CRead X.K C mc) (c : CSta X.K C mc m p g) (F : FnR X.prog X.w X.K X.mg X.base CX k g sp) (hr : Room k X.A) (hx : Passes CX X E)
    (ht : eval (.Call (.Attribute o m apos) [] [] pos) X.env = (do
      let ov ← eval o X.env
      standAt apos.atName
      let (f, first) ← holding [ov] (getMethod ov m pl)
      callWith pos f first (backTo pos (starEach [] X.env)) (backToKw pos (keywordEach [] X.env))) := by rfl) :
    PE X (.Call (.Attribute o m apos) [] [] pos) (tCFun C sp E ta tNil) := by
  refine ⟨fun pins s σ H Q I h => ?_⟩
  refine PySem.W.methodCall_KW (pl := pl) (thn (he.run pins s σ H _ I h) fun u s1 ⟨x, H1, I1, rx, ex, q⟩ => ?_) ht
  subst ex
  obtain rfl : u = Value.ref C := rx
  obtain ⟨rest, hrec⟩ := c.rc
  refine PySem.W.method_cls I1.kIn r.ga (PySem.W.cls_bind I1.kIn r.rd c.at_ ?_)
  refine wpAny_call (PySem.W.sm_get (s := { s1 with toks := s1.toks + 1 }) I1.kIn hrec (PySem.W.handed_on rfl ?_))
  have I2 := I1.tok (s1.toks + 1)
  exact PySem.W.callWith_K0 (first := []) I2.kIn c.kp (wpAny_call (run_fnR (us := []) F hr hx I2 .nil q))
/-! ### cls(*xs), cls a slot that holds the class -/
def tMakeLS (K : PySem.W.Frag) (i : Nat) (C : Addr) (sp : Sp) (E : XK) (te : TE) : TE := fun σ H Q => σ[i]? = some (some (.ref C)) ∧ te σ H fun y H1 => ∃ a xs, y = V.ref a ∧ (SqT K H1 a xs ∨ SqL K H1 a xs) ∧
  ∀ z dz, H1 z = none → H1 dz = none → dz ≠ z → sp (V.ref z :: xs) (upd (upd H1 dz (.own z)) z (.ins C dz [])) (fun v H2 => v = .non ∧ Q (.ref z) H2) E
theorem pe_makeLS (M : Mk X.K C f) (F : FnR X.prog X.w X.K X.mg X.base CX k f sp) (hr : Room (k + 1) X.A) (hN : X.N[i]? = some x) (hv : Vis X.env.scope x) (hx : Passes CX X E) (he : PE X e te)
    (hdb : (x == ("__debug__" : Str)) = false := by decide) (hcd : (x == ("__classdict__" : Str)) = false := by decide) (hst : starEach [.Starred e q1] X.env = [(true, eval e X.env)] := by rfl) :
    PE X (.Call (.Name x q2) [.Starred e q1] [] pos) (tMakeLS X.K i C sp E te) := by
  refine ⟨fun pins s σ H Q I h => ?_⟩
  obtain ⟨hs, ht⟩ := h
  refine wpAny_Call_Name_kw (thn ((pe_var (pos := q2) hN hv hdb hcd).run pins s σ H (fun v H1 => v = .ref C ∧ H1 = H) I ⟨.ref C, hs, rfl, rfl⟩) fun u s1 ⟨v, H1, I1, r1, e1⟩ => ?_)
  obtain ⟨rfl, rfl⟩ := e1
  cases r1
  refine PySem.W.callWith_S (h₀ := X.base) (first := []) I1.ok.mod.kin M.kp (thn (he.run pins s1 σ _ _ I1 ht) fun v s2 ⟨y, H2, I2, ry, a, xs, ey, hxs, q⟩ => ?_) hst
  subst ey
  obtain rfl : v = Value.ref a := ry
  exact StX.star_any I2 hxs fun us s3 I3 rv => ⟨I3.kIn, StX.run_makeR M F hr hx I3 rv q⟩
end
end OwR
end
section
namespace OwR
open PySem PySem.Spec PyProof.Rows L2
open AutoSeq1 (wpAny_loadPart')
/-! ### enumerate(t), t a tuple -/
theorem meets_enumT {v : Value} {o : Obj} {G : Heap → Prop} (B : Begins v o G) :
    Meets (Builtin.«enumerate.__new__» ⟨[.type "enumerate", v], []⟩) (fun _ R s => G s.heap ∧
      R (.ok (.ret (.ref (s.heap.push o).objs.size))) { s with heap := (s.heap.push o).push { cls := .type "enumerate", data := .fields #[.none, .bool false, .ref s.heap.objs.size, rawInt 0, .none, .none] } }) :=
  .of_wp fun prog w A R s h => by
    obtain ⟨hp, g, d, tk, os⟩ := s; obtain ⟨h1, h⟩ := h
    have hsub := sub_enumerate
    have start : ∀ {A' : Around} {E : Value → Shared → Prop} {Q : Value → Shared → Prop}, Q (.ref hp.objs.size) ⟨hp.push o, g, d, tk, os⟩ → wpAny (model prog w) A' (pyIter v) Q E ⟨hp, g, d, tk, os⟩ :=
      fun q => B.iter prog w _ _ ⟨hp, g, d, tk, os⟩ _ h1 q
    wp_walk using start
    refine wpAny_stack_any fun st => wpAny_pure ?_
    split
    · rename_i c _ _ _ _ _
      cases (c == Value.type "enumerate")
      all_goals (wp_walk using start; exact ⟨_, rfl, h⟩)
    · wp_walk using start
      exact ⟨_, rfl, h⟩
section
variable {prog : Program} {w : World} {A : Around} {E : Value → Shared → Prop} {s : Shared}
theorem call_enumT {v : Value} {o : Obj} {G : Heap → Prop} {Q : Value → Shared → Prop} (B : Begins v o G) (h1 : G s.heap)
    (h : ∀ h', IsEnum h' (s.heap.objs.size + 1) s.heap.objs.size 0 .none → h'.get? s.heap.objs.size = some o → (∀ b x, s.heap.get? b = some x → h'.get? b = some x) → Q (.ref (s.heap.objs.size + 1)) { s with heap := h' }) :
    wpAny (model prog w) A (call (.type "enumerate") [v]) Q E s := by
  refine callType_new F.called_enumerate (by decide) (F.typeCall_enumerate_1 _) (F.newCall_enumerate_1 _) (fun obj => F.args_object_init_2 obj _) F.entry_enumerate_new (meets_enumT B) ⟨h1, ?_⟩
  have hz : (s.heap.push o).objs.size = s.heap.objs.size + 1 := Heap.size_push ..
  have he := Heap.get?_push_size (s.heap.push o) (o := { cls := .type "enumerate", data := .fields #[.none, .bool false, .ref s.heap.objs.size, rawInt 0, .none, .none] }) rfl
  rw [hz] at he
  show _ ∧ _
  rw [hz]
  exact ⟨⟨_, he, rfl⟩, h _ he (Heap.get?_push_of_some _ (Heap.get?_push_size _ B.free)) fun b x q => Heap.get?_push_of_some _ (Heap.get?_push_of_some _ q)⟩
end
/-- the tuple at a at each turn: its item in a new pair -/
def IteT (K : PySem.W.Frag) (a : Addr) : It :=
  ⟨fun i H => ∃ (xs : List V) (x : V), SqT K H a xs ∧ xs[i]? = some x, fun i H v H' => ∃ T x, v = .ref T ∧ H T = none ∧ H' = upd H T (.tup [.int (i : Nat), x]) ∧ ∀ xs, SqT K H a xs → xs[i]? = some x, fun i H => ∃ xs : List V, SqT K H a xs ∧ xs.length ≤ i⟩
theorem tup_one {X : Cx} {pins : List (Addr × Obj)} {σ : L2.St} {H : Hp} {s : Shared} {a : Addr} {xs ys : List V} (I : Inv X pins σ H s) (h : SqT X.K H a xs) (h' : SqT X.K H a ys) : xs = ys := by
  first | exact I.tup_inj h h' | exact I.tuple_inj h h'
theorem turn_enumT {P : Program} {w : World} {K : PySem.W.Frag} {elts : List Expr} {kk : Nat} {tpos : Pos} (a e it : Addr) (hane : a ≠ it) :
    Turn P w K (.Tuple elts kk tpos) (IteT K a) [e, it] e (fun i h => (∃ old, IsEnum h e it ((i : Nat) : Int) old) ∧ h.IsTupleIter it a i ∧ e ≠ it ∧ a ≠ e) where
  mem := by simp
  obj := fun i h st b hb => by
    obtain ⟨⟨old, he⟩, ⟨o, ho, hc, hd⟩, _⟩ := st
    rcases List.mem_cons.mp hb with z | z
    · rw [z]; exact ⟨_, he, fun v q => nomatch q⟩
    · rw [List.mem_singleton.mp z]; exact ⟨o, ho, fun v q => by rw [hd] at q; cases q⟩
  keep := fun i h h' st k => let ⟨⟨old, he⟩, hi, hne⟩ := st; ⟨⟨old, k e (by simp) _ he⟩, hi.at fun o q => k it (by simp) o q, hne⟩
  item := by
    intro X hP hw hK hc i pins s σ H E I hf st hg
    subst hP hw hK
    obtain ⟨⟨old, he⟩, hit, hne, hae⟩ := st
    obtain ⟨xs, x, hq, hx⟩ := hg
    obtain ⟨its, rv, p, hz⟩ := I.tuple hq
    obtain ⟨u, hu, ru⟩ := rv.get hx
    have hel : e < s.heap.objs.size := Heap.lt_size he
    have hil : it < s.heap.objs.size := by obtain ⟨_, q, _⟩ := hit; exact Heap.lt_size q
    have hlt : i < its.toArray.size := by
      rw [List.size_toArray]
      exact (List.getElem?_eq_some_iff.mp hu).1
    have D : Draws X.prog X.w X.A.in1 it [it, a] its.toArray.size _ _ := Draws.tuple (A := X.A.in1) (show X.A.in1.handled = none from I.ok.hd hc) it a hane its.toArray
    refine wpAny_pyNext_enum_itemD D he ⟨hit, p⟩ hlt hne (by simp [hne, Ne.symm hae]) fun y h' tk hy ho hst hT hsz hk => ?_
    have ey : y = u := by
      have q : its.toArray[i]? = some u := by simpa using hu
      exact Option.some.inj (hy.symm.trans q)
    subst ey
    refine ⟨_, rfl, wpAny_letOwnedTupleGo_enum (s := { s with heap := h', toks := tk + 1 }) ho fun h'' he' sb => ?_⟩
    have hT2 : h''.get? s.heap.objs.size = some { cls := .type "tuple", data := .seq #[.int i tk, y] } := (sb.2 _ (Nat.ne_of_gt hel)).trans hT
    have new : ObjOk X.prog X.w (upd H s.heap.objs.size (.tup [.int (i : Nat), x])) h'' s.heap.objs.size (.tup [.int (i : Nat), x]) :=
      ⟨by show 2 ≤ sizeLine; decide, [.int i tk, y], .cons ⟨_, rfl⟩ (.cons ru .nil), ⟨_, hT2, rfl, _, rfl⟩⟩
    have I1 : Inv X pins σ (upd H s.heap.objs.size (.tup [.int (i : Nat), x])) { s with heap := h'', toks := tk + 1 } :=
      I.turnedNew (ch := [e, it]) (fun b ob hb q => (sb.2 b (fun z => hb (by simp [z]))).trans (hk b ob (fun z => hb (by simp [z])) (fun z => hb (by simp [z])) q)) hf (Nat.le_refl _) new
    refine ⟨.ref s.heap.objs.size, _, I1, rfl, ⟨_, x, rfl, I.hok.fresh (Nat.le_refl _), rfl, fun ys hy' => by rw [tup_one I hy' hq]; exact hx⟩, ⟨⟨y, ?_⟩, hst.1.at fun o q => (sb.2 it (Ne.symm hne)).trans q, hne, hae⟩, fun b hb => ?_⟩
    · have e1 : ((i + 1 : Nat) : Int) = (i : Int) + 1 := by omega
      rw [e1]; exact he'
    · have hb' : b < s.heap.objs.size := by
        rcases List.mem_cons.mp hb with z | z
        · rw [z]; exact hel
        · rw [List.mem_singleton.mp z]; exact hil
      rw [upd_ne (Nat.ne_of_lt hb')]
      exact (hf b hb).1
  done := by
    intro X hP hw hK hc i pins s σ H E I hf st hg
    subst hP hw hK
    obtain ⟨⟨old, he⟩, hit, hne, hae⟩ := st
    obtain ⟨xs, hq, hx⟩ := hg
    obtain ⟨its, rv, p, hz⟩ := I.tuple hq
    obtain ⟨f0, f1, f2, f3, f4, f5⟩ := hf it (by simp)
    have hl := rv.length
    have hgt : its.toArray[i]? = none := by simp; omega
    unfold pyNext
    refine wpAny_bind (wpAny_attempt (wpAny_callSpecial?_slot (name := Str.ofString "__next__") ⟨_, he, rfl⟩ F.slot_enumerate_next
      (wpAny_call_entry F.slot_enumerate_next ⟨_, he, rfl⟩ F.entry_enumerate_next ?_ (F.args_enumerate_next_1 _))))
    show wpAny _ _ (field (.ref e) 2 >>= _) _ _ _
    refine wpAny_bind (wpAny_field he rfl (x := .ref it) rfl ?_)
    refine wpAny_bind (wpAny_nextOf_tuple_end (I.ok.hd hc) hit p hgt fun h' z he' hz' => ?_)
    obtain ⟨o, ho, hcl⟩ := hz'
    refine wpAny_bind (wpAny_isInstance (T := "StopIteration") (b := true) ⟨o, ho, hcl⟩ isSubtype_stop ?_)
    exact wpAny_pure ⟨rfl, I.turned (t' := s.toks) (fun b o hb q => he' b o hb q) f0 f1 f3 f4 f5⟩
  self := fun A i s Q E st h => let ⟨⟨_, he⟩, _⟩ := st; wpAny_pyIter_enum he h
def iEnumT (K : PySem.W.Frag) (ta : TA) : TI := fun σ H R => ta σ H fun vs H1 => ∃ a xs, vs = [.ref a] ∧ SqT K H1 a xs ∧ R (IteT K a) H1
theorem pi_enumT {X : Cx} {e : Expr} {ta : TA} {p pos tpos : Pos} {elts : List Expr} {kk : Nat} (hg : Gl X "enumerate") (hm : X.mg "enumerate" = none) (ha : PA X [e] ta) (hs : starEach [e] X.env = [(false, eval e X.env)] := by rfl) :
    PI X (.Tuple elts kk tpos) (.Call (.Name "enumerate" p) [e] [] pos) (iEnumT X.K ta) := by
  refine ⟨fun pins s σ H R I h => ?_⟩
  refine Call_ (ld_blt I hg hm boot_enumerate (PyProof.Rows.callWith_type1 (thn (ha.run pos pins s σ H _ I h) fun us s1 ⟨vs, H1, I1, r1, q1⟩ => ?_) hs rfl))
  obtain ⟨a, xs, ex, hq, q⟩ := q1
  subst ex
  cases r1 with
  | cons r rr =>
    cases rr
    cases r
    obtain ⟨its, rv, p', hz⟩ := I1.tuple hq
    have hal : a < s1.heap.objs.size := p'.lt
    refine call_enumT (begins_tuple a its.toArray) p' fun h' he hit hk => wpAny_pyIter_enum he ?_
    have I2 : Inv X pins σ H1 { s1 with heap := h' } := I1.kept (t' := s1.toks) hk
    refine ⟨s1.heap.objs.size + 1, [s1.heap.objs.size + 1, s1.heap.objs.size], _, _, H1, rfl, I2, turn_enumT a (s1.heap.objs.size + 1) s1.heap.objs.size (Nat.ne_of_lt hal),
      ⟨⟨.none, he⟩, ⟨_, hit, rfl, rfl⟩, Nat.succ_ne_self _, Nat.ne_of_lt (Nat.lt_succ_of_lt hal)⟩, fun b hb => ?_, q⟩
    have hle : s1.heap.objs.size ≤ b := by
      rcases List.mem_cons.mp hb with z | z
      · rw [z]; exact Nat.le_add_right _ _
      · rw [List.mem_singleton.mp z]; exact Nat.le_refl _
    exact I1.fpOk hle (I1.hok.fresh hle)
end OwR
end
section
namespace OwR
open PySem PySem.Spec PyProof.Rows L2
/-! ### t[::-1], t a tuple -/
theorem places_back (n : Nat) : Builtin.Slice.slicePlaces ((n : Int) - 1) (-1) (-1) = n := by
  unfold Builtin.Slice.slicePlaces
  rw [if_neg (by decide)]
  split
  · have e : ((n : Int) - 1 - -1 - 1) / (- -1) + 1 = (n : Int) := by
      rw [show (- -1 : Int) = 1 by decide, Int.ediv_one]
      omega
    rw [e]
    exact Int.toNat_natCast n
  · rename_i h
    have : n = 0 := by omega
    subst this
    rfl
theorem fm_same {α β : Type} {f g : α → Option β} : ∀ l : List α, (∀ x ∈ l, f x = g x) → l.filterMap f = l.filterMap g
  | [], _ => rfl
  | x :: l, h => by
    rw [List.filterMap_cons, List.filterMap_cons, h x List.mem_cons_self, fm_same l fun y hy => h y (List.mem_cons_of_mem _ hy)]
theorem pick_back (xs : Array Value) : ((List.range xs.size).filterMap fun (m : Nat) => xs[(((xs.size : Int) - 1) + (m : Int) * (-1)).toNat]?) = xs.toList.reverse := by
  rw [← PySem.W.krv_all xs, ← List.filterMap_reverse, ← PySem.W.krv_range, List.filterMap_map]
  refine fm_same _ fun m hm => ?_
  have hlt := List.mem_range.mp hm
  have e : (((xs.size : Int) - 1) + (m : Int) * (-1)).toNat = xs.size - 1 - m := by omega
  rw [e]
  rfl
section
variable {prog : Program} {w : World} {A : Around} {E : Value → Shared → Prop} {s : Shared}
theorem applied_back {sl : Addr} {vl vu vs : Value} {n : Nat} {Q : Int × Int × Nat → Shared → Prop} (hs : s.heap.IsSliceOf sl vl vu vs) (pl : IsPart vl none) (pu : IsPart vu none) (ps : IsPart vs (some (-1)))
    (h : Q ((n : Int) - 1, -1, n) s) : wpAny (model prog w) A (Builtin.Slice.sliceApplied (.ref sl) (pure (n : Int))) Q E s := by
  obtain ⟨os, hos, hcs, hds⟩ := id hs
  unfold Builtin.Slice.sliceApplied Builtin.Slice.sliceFields
  refine wpAny_bind (wpAny_bind (wpAny_field hos hds (x := vl) rfl (wpAny_bind (wpAny_field hos hds (x := vu) rfl (wpAny_bind (wpAny_field hos hds (x := vs) rfl (wpAny_pure ?_)))))))
  refine wpAny_bind (HT.slicePart_ ps ?_)
  show wpAny _ _ (if ((-1 : Int) == 0) = true then _ else _) _ _ s
  rw [if_neg (by decide)]
  refine wpAny_bind (HT.slicePart_ pl (wpAny_bind (HT.slicePart_ pu (wpAny_bind (wpAny_pure ?_)))))
  show wpAny _ _ (pure ((n : Int) - 1, (-1 : Int), Builtin.Slice.slicePlaces ((n : Int) - 1) (-1) (-1))) _ _ s
  rw [places_back]
  exact wpAny_pure h
theorem getTup_back {t sl : Addr} {items : Array Value} {vl vu vs : Value} {Q : Value → Shared → Prop} (ht : IsTup s.heap t items) (hs : s.heap.IsSliceOf sl vl vu vs) (pl : IsPart vl none) (pu : IsPart vu none) (ps : IsPart vs (some (-1)))
    (hsz : items.size ≤ sizeLine) (h : Q (.ref s.heap.objs.size) { s with heap := s.heap.push { cls := .type "tuple", data := .seq items.toList.reverse.toArray } }) : wpAny (model prog w) A (getItem (.ref t) (.ref sl)) Q E s := by
  obtain ⟨os, hos, hcs, hds⟩ := id hs
  have hTs : s.TypeIs (.ref sl) "slice" := ⟨os, hos, hcs⟩
  have hok : sizeOk (.seq items.toList.reverse.toArray) := by
    show items.toList.reverse.toArray.size ≤ sizeLine
    rw [List.size_toArray, List.length_reverse, Array.length_toList]
    exact hsz
  unfold getItem
  try with_reducible refine wpAny_holding ?_
  first | refine wpAny_bind (wpAny_pure ?_) | skip
  refine wpAny_bind (wpAny_sequenceKey ht.typeIs (by decide) ?_)
  refine wpAny_bind (wpAny_callSpecial?_slot (name := Str.ofString "__getitem__") ht.typeIs PyProof.Rows.slot_tuple_getitem
    (wpAny_call_entry PyProof.Rows.slot_tuple_getitem ht.typeIs entry_tuple_getitem ?_ (args_tuple_getitem _ _)))
  show wpAny _ _ (Builtin.Tuple.tupleItemsOf (.ref t) >>= _) _ _ s
  refine wpAny_bind (tupleItemsOf_ ht (wpAny_bind (wpAny_typeOf hTs ?_)))
  rw [if_pos (by decide)]
  refine wpAny_bind (applied_back hs pl pu ps ?_)
  have hno : ¬ ((((items.size : Int) - 1) == 0 && (-1 : Int) == 1 && items.size == items.size) = true) := by
    intro q
    rw [Bool.and_eq_true, Bool.and_eq_true] at q
    exact absurd q.1.2 (by decide)
  show wpAny _ _ (if ((((items.size : Int) - 1) == 0 && (-1 : Int) == 1 && items.size == items.size) = true) then _ else _) _ _ s
  rw [if_neg hno]
  have e := pick_back items
  first
    | (rw [e]; exact wpAny_bind (m := Builtin.Tuple.tupleExact _) (wpAny_newObj_type (wpAny_pure ⟨_, rfl, wpAny_pure h⟩) hok))
    | (rw [e]; exact wpAny_bind (m := Builtin.Tuple.tupleExact _) (wpAny_newObj_type (wpAny_bind (wpAny_pure (wpAny_pure ⟨_, rfl, wpAny_pure h⟩))) hok))
    | (rw [e]; exact wpAny_bind (wpAny_bind (m := Builtin.Tuple.tupleExact _) (wpAny_newObj_type (wpAny_pure (wpAny_pure ⟨_, rfl, wpAny_pure h⟩)) hok)))
    | (rw [e]; exact wpAny_bind (wpAny_bind (m := Builtin.Tuple.tupleExact _) (wpAny_newObj_type (wpAny_pure ⟨_, rfl, wpAny_pure h⟩) hok)))
end
def tRevT (K : PySem.W.Frag) (te : TE) : TE := fun σ H Q => te σ H fun x H1 => ∃ a xs, x = .ref a ∧ SqT K H1 a xs ∧ ∀ p, H1 p = none → Q (.ref p) (upd H1 p (.tup xs.reverse))
theorem pe_revT {X : Cx} {e : Expr} {te : TE} {k : Nat} {p1 p2 p3 pos : Pos} (he : PE X e te) : PE X (.Subscript e (.Slice none none (some (.UnaryOp .USub (.Constant (.int 1) k p1) p2)) p3) pos) (tRevT X.K te) := by
  refine ⟨fun pins s σ H Q I h => ?_⟩
  refine Subscript_ (thn (he.run pins s σ H _ I h) fun v s1 ⟨x, H1, I1, r1, a, xs, ex, hx, q⟩ => ?_)
  subst ex
  cases r1
  have hst : PO X (some (.UnaryOp .USub (.Constant (.int 1) k p1) p2)) (tPart (tUn (rU fun i => .int (-i)) (tC (.int 1)))) := po_some (pe_un un_neg pe_int)
  refine wpAny_Slice (thn (po_none.run pins s1 σ H1 (fun o H2 => o = none ∧ H2 = H1) I1 ⟨rfl, rfl⟩) fun vl s2 ⟨l, H2, I2, pl, el, e2⟩ => ?_)
  subst el e2
  refine thn (po_none.run pins s2 σ H2 (fun o H3 => o = none ∧ H3 = H2) I2 ⟨rfl, rfl⟩) fun vu s3 ⟨u, H3, I3, pu, eu, e3⟩ => ?_
  subst eu e3
  refine thn (hst.run pins s3 σ H3 (fun o H4 => o = some (-1) ∧ H4 = H3) I3 ⟨1, rfl, -1, rfl, rfl, rfl⟩) fun vs s4 ⟨o, H4, I4, ps, eo, e4⟩ => ?_
  subst eo e4
  have I5 : Inv X pins σ H4 { s4 with heap := s4.heap.push { cls := .type "slice", data := .fields #[vl, vu, vs] } } := I4.kept (t' := s4.toks) fun b ob q => Heap.get?_push_of_some _ q
  obtain ⟨its, r, ht, hz⟩ := I5.tuple hx
  have hlen := r.length
  show wpAny (model X.prog X.w) X.A (subscriptTail e (.Slice none none (some (.UnaryOp .USub (.Constant (.int 1) k p1) p2)) p3) (.ref a) (.ref s4.heap.objs.size)) (EP X pins σ Q) X.xe { s4 with heap := s4.heap.push { cls := .type "slice", data := .fields #[vl, vu, vs] } }
  refine tail_any (ops := [.ref a, .ref s4.heap.objs.size]) ht.typeIs (PyProof.Rows.slot_tuple_getitem.lookup) ?_ (by with_unfolding_all rfl)
  refine getTup_back ht (Heap.IsSliceOf.new _ vl vu vs) pl pu ps (by rw [List.size_toArray]; omega) ?_
  refine ⟨.ref _, _, I5.laid (t' := s4.toks) (o := .tup xs.reverse) (fun b ob q => Heap.get?_push_of_some _ q) (Nat.le_refl _) ?_, rfl, q _ (I5.hok.fresh (Nat.le_refl _))⟩
  exact ⟨by rw [List.length_reverse]; exact hz, its.toArray.toList.reverse, r.reverse, ⟨_, Heap.get?_push_size _ rfl, rfl, 0, rfl⟩⟩
end OwR
end
section
namespace OwR
open PySem PySem.Spec PyProof.Rows L2
/-! ### def f(a, .., **d), called without keywords: an empty dict beside -/
section
variable {CX : CXT} {P : Program} {w : World} {K : PySem.W.Frag} {mg : Str → Option Value} {base : Heap} {k : Nat} {f : Addr} {name qual : Str} {params : Arguments} {body : List Stmt} {scope : Scope} {dV kV doc pm cdv ct oc : Value} {an od : Option Addr}
  {osl : Array (Option Value)} {N ps : List Str} {sp : Sp}
theorem fn_kw {pd : Str} (lk : K.lookup f = some ⟨oc, od, .func (PySem.W.fnOf name qual params body scope dV kV doc pm an cdv ct), osl⟩) (hcd : PySem.W.codeIn K cdv qual = true) (S : FnScope N (ps ++ [pd]) scope) (hCX : StX.CXUp CX)
    (hb : ∀ us : List Value, us.length = ps.length → bindArgs (PySem.W.fnOf name qual params body scope dV kV doc pm an cdv ct) ⟨us, []⟩ = ((alloc ({ cls := .type "dict", data := .dict #[] } : Obj) : Sem Addr) >>= fun d => pure (ps.zip us ++ [(pd, Value.ref d)])))
    (hbody : ∀ (A : Around) (outer : List Env) (s : Shared) (H : Hp) (vs : List V) (Q : VK) (E : XK), Room k (A.deeper (envOfC qual scope s.heap.objs.size f cdv)) → sp vs H Q E →
      ∃ t, PSs (cxOf CX P w K mg base N qual scope f cdv A outer s H E) body t ∧ t { nx := fun _ H' => Q .non H', rt := Q } (start N vs) H) :
    FnR P w K mg base CX (k + 1) f (fun vs H Q E => vs.length = ps.length ∧ ∀ d, H d = Option.none → sp (vs ++ [V.ref d]) (upd H d (.dK [])) Q E) := by
  intro A outer s H us vs Q E hr e0 r hsp
  obtain ⟨hl, hq⟩ := hsp
  have hn : H s.heap.objs.size = Option.none := e0.hok.fresh (Nat.le_refl _)
  have hl1 : us.length = ps.length := by rw [← r.length]; exact hl
  refine StX.run_bnd lk hcd S hr e0 (G := fun xs H2 => ∃ d, H d = Option.none ∧ xs = vs ++ [V.ref d] ∧ H2 = upd H d (.dK [])) (fun A' Ex Q' h => ?_) fun s2 H2 xs ⟨d, hd, ex, eH⟩ hr' => ?_
  · rw [hb us hl1]
    refine wpAny_bind (wpAny_alloc (wpAny_pure ?_))
    have e1 := StX.env0_laid (u := .dK []) (o := ({ cls := .type "dict", data := .dict #[] } : Obj)) e0 (dk_empty _ (StX.env0_big e0))
    have un := StX.un_laid (fs := frs outer) (s := s) (o := ({ cls := .type "dict", data := .dict #[] } : Obj)) (u := .dK []) hn
    have z := h _ _ (vs ++ [V.ref s.heap.objs.size]) (us ++ [Value.ref s.heap.objs.size]) e1 un rfl (fun e s' => hCX outer s H _ _ E e s' un (fun b o q => Heap.get?_push_of_some _ q) rfl) (r.append (.cons rfl .nil))
      (by rw [List.length_append, List.length_append, hl] <;> rfl) ⟨_, hn, rfl, rfl⟩
    rw [List.zip_append hl1.symm] at z
    exact z
  · subst ex eH
    exact hbody A outer s2 _ _ Q E hr' (hq d hd)
/-! ### a def called where no guard stands (repr of lists wants that) -/
def FnG (P : Program) (w : World) (K : PySem.W.Frag) (mg : Str → Option Value) (base : Heap) (CX : CXT) (k : Nat) (f : Addr) (fd : FuncData) (ps : List Str) (sp : Sp) : Prop :=
  ∀ (A : Around) (outer : List Env) (s : Shared) (H : Hp) (args : Args) (us : List Value) (vs : List V) (Q : VK) (E : XK), A.guards = some [] → Room k A → Env0 P w K mg base A outer s H → BindsTo s fd args (ps.zip us) → Vals vs us → sp vs H Q E →
    codeAny (model P w) A (.call (.ref f) args) (CR CX outer P w H s Q E) s
theorem fn_ofG (lk : K.lookup f = some ⟨oc, od, .func (PySem.W.fnOf name qual params body scope dV kV doc pm an cdv ct), osl⟩) (hcd : PySem.W.codeIn K cdv qual = true) (S : FnScope N ps scope)
    (len : ∀ vs H Q E, sp vs H Q E → vs.length = ps.length)
    (hbody : ∀ (A : Around) (outer : List Env) (s : Shared) (H : Hp) (vs : List V) (Q : VK) (E : XK), A.guards = some [] → Room k (A.deeper (envOfC qual scope s.heap.objs.size f cdv)) → sp vs H Q E →
      ∃ t, PSs (cxOf CX P w K mg base N qual scope f cdv A outer s H E) body t ∧ t { nx := fun _ H' => Q .non H', rt := Q } (start N vs) H) :
    FnG P w K mg base CX (k + 1) f (PySem.W.fnOf name qual params body scope dV kV doc pm an cdv ct) ps sp := by
  intro A outer s H args us vs Q E hgd hr e0 hb r hsp
  have hl := len _ _ _ _ hsp
  have KS : K.In s.heap := e0.mod.kin.keeps fun b o e => (e0.bs b o e).1
  have lims : s.heap.NoLimit := e0.mod.nolimit.keeps fun b o e => (e0.bs b o e).1
  have kinds : ∀ y ∈ ps.zip us, scope.names.lookup y.1 = some .local ∨ (scope.names.lookup y.1 = some .cell ∧ ((cellsFrom (s.heap.objs.size + 1) scope.names []).lookup y.1).isSome = true) := fun y hy =>
    (S.par y.1 (List.of_mem_zip hy).1).imp id fun q => ⟨q, PySem.W.cellsFrom_some _ _ _ (.inl q)⟩
  refine codeAny_call_function hr.depth (KS _ _ lk) rfl S.co S.gen rfl (PySem.W.codeRec_of KS hcd) (hb _ _ _ _ ?_)
  refine wpAny_newFunctionEnv_cells S.kind kinds fun env he s1 x => ?_
  subst he
  refine ⟨lims.keeps x.toInCall.keep, codeAny_func ?_⟩
  obtain ⟨t, ht, hq⟩ := hbody A outer s H vs Q E hgd (hr.deeper _) hsp
  have I : Inv (cxOf CX P w K mg base N qual scope f cdv A outer s H E) [] (start N vs) H s1 := inv_start S hr.hd e0 hl r x
  refine wpAny_mono (ht.run [] s1 (start N vs) H _ I hq) (fun fl s' hs => ?_) fun _ _ z => z
  have done : ∀ {σ' : L2.St} {H' : Hp} {v : V} {u : Value}, Inv (cxOf CX P w K mg base N qual scope f cdv A outer s H E) [] σ' H' s' → RelV v u → Q v H' → CE outer P w H s Q u s' :=
    fun {σ' H' v u} J rv q => ⟨v, H', J.os, J.bare, J.base, J.hok, rv, q⟩
  cases fl with
  | ret u =>
    obtain ⟨v, σ', H', J, rv, q⟩ := hs
    exact done J rv q
  | next =>
    obtain ⟨σ', H', J, q⟩ := hs
    exact done (v := V.non) (u := Value.none) J rfl q
  | brk => exact (hs.elim fun _ z => z.elim fun _ z => z.2.elim)
  | cont => exact (hs.elim fun _ z => z.elim fun _ z => z.2.elim)
end
/-! ### repr of data -/
def rReprD (K : PySem.W.Frag) : List V → Hp → VK → Prop := fun vs H Q => ∃ a d, vs = [V.ref a] ∧ Dp K H (.ref a) d ∧ d.showable = true ∧ d.hasDict = false ∧ d.depth ≤ 64 ∧ d.shown.length ≤ sizeLine ∧ Q (.str d.shown) H
theorem cr_reprD {X : Cx} (hg : X.A.guards = some []) (hu : X.A.units + 70 < cLine) : CallR X (.builtin "repr") (rReprD X.K) := by
  intro pins s σ H vs us Q I r h
  obtain ⟨a, d, rfl, hd, hs, hnd, hdp, hsz, q⟩ := h
  rw [Vals.ref1 r]
  obtain ⟨as, R⟩ := Dp.reads I d _ (.ref a) hd rfl
  refine repr_of_reads' R hs (fun z => by rw [hnd] at z; cases z) hg (by omega) (fun _ _ e => e) (fun h' u tk k => ?_) hsz
  exact ⟨.str d.shown, H, I.kept (t' := tk) k, ⟨u, rfl⟩, q⟩
/-! ### an object called with keywords alone -/
theorem callOK_of {M : Model} {A : Around} {E : Value → Shared → Prop} {s : Shared} {a : Addr} {pos : Pos} {Q : Value → Shared → Prop} {args : List (Bool × Sem Value)} {kws : List (Option Str × Sem Value)} (hpl : (args.any (·.1) || kws.any (·.1.isNone)) = false)
    (h : wpAny M A (evalArgs (.ref a) true args kws) (fun z s₁ => (∃ C ox od, PySem.W.InstAt s₁.heap a ox C od ∧ ox.data = .plain) ∧ wpAny M A (call (.ref a) ([] ++ z.pos) z.kw) Q E s₁) E s) : wpAny M A (callWith pos (.ref a) [] args kws) Q E s := by
  unfold callWith
  refine wpAny_bind (wpAny_holding (wpAny_mono h (fun z s₂ h₁ => wpAny_bind (wpAny_standAt ?_)) fun _ _ y => y))
  obtain ⟨⟨C, ox, od, J, hd⟩, h₂⟩ := h₁
  have L := PySem.W.kco_keeper (M := M) J hd
  simp only [hpl]
  refine wpAny_bind (L.here ?_)
  have rest : ∀ {t : Sem Value}, wpAny M A t Q E s₂ → wpAny M A (t >>= fun r => holding [r] point >>= fun _ => pure r) Q E s₂ :=
    fun ht => wpAny_bind (wpAny_mono ht (fun _ _ hr => wpAny_bind (wpAny_holding (wpAny_point (wpAny_pure hr)))) fun _ _ y => y)
  exact rest (wpAny_operateT h₂)
section
variable {X : Cx} {CX : CXT} {k : Nat} {C g : Addr} {fd : FuncData} {ps ks : List Str} {sp : Sp} {E : XK} {fe : Expr} {kws : List Keyword} {tf : TE} {tk : TA} {pos : Pos} {gg : List Value → List Value → List Value} {gV : List V → List V → List V}
def tCallOK (X : Cx) (C : Addr) (sp : Sp) (gV : List V → List V → List V) (E : XK) (tf : TE) (tk : TA) : TE := fun σ H Q => tf σ H fun y H1 => ∃ a, y = V.ref a ∧ tk σ H1 fun zs H2 => StX.InsC X H2 a C ∧ sp (gV [V.ref a] zs) H2 Q E
theorem pe_callOK (hf : PE X fe tf) (c : StX.CallO X.K C g) (F : FnOk X.prog X.w X.K X.mg X.base CX k g fd ps sp) (hr : Room k X.A) (hb : KBinds X.K fd ps ks gg gV) (hx : Passes CX X E) (hkw : PK X kws tk)
    (ht : eval (.Call fe [] kws pos) X.env = (do callWith pos (← eval fe X.env) [] (backTo pos (starEach [] X.env)) (backToKw pos (keywordEach kws X.env))) := by rfl)
    (hall : (backToKw pos (keywordEach kws X.env)).all (·.1.isSome) = true := by rfl) (hks : (backToKw pos (keywordEach kws X.env)).filterMap (·.1) = ks := by rfl)
    (hpl : ((backTo pos (starEach [] X.env)).any (·.1) || (backToKw pos (keywordEach kws X.env)).any (·.1.isNone)) = false := by rfl) : PE X (.Call fe [] kws pos) (tCallOK X C sp gV E tf tk) := by
  refine ⟨fun pins s σ H Q I h => ?_⟩
  rw [ht]
  refine wpAny_bind (thn (hf.run pins s σ H _ I h) fun u s1 ⟨y, H1, I1, ry, a, ey, q⟩ => ?_)
  subst ey
  obtain rfl : u = Value.ref a := ry
  refine callOK_of hpl (evalArgs_kw2_nil hall (thn (hkw.run pos pins s1 σ H1 _ I1 q) fun ws s2 ⟨zs, H2, I2, rz, hi, q2⟩ => ?_))
  obtain ⟨ox, od, J, hd⟩ := StX.insC_at I2 hi
  refine ⟨⟨C, ox, od, J, hd⟩, ?_⟩
  rw [hks]
  have r1 : Vals [V.ref a] [Value.ref a] := .cons rfl .nil
  have r2 := hb.rel r1 rz
  have hl : (gg [Value.ref a] ws).length = ps.length := by rw [← r2.length]; exact F.len _ _ _ _ q2
  refine wpAny_call (PySem.W.kco_code I2.kIn J hd c.at_ c.fn c.fi (codeAny_mono (F.run X.A X.stack s2 H2 ⟨[.ref a], ks.zip ws⟩ (gg [.ref a] ws) (gV [.ref a] zs) Q E hr I2.env0 (hb.to s2 [.ref a] ws I2.kIn hl) r2 q2) fun r s' hq => ?_))
  cases r with
  | error e => exact hx pins σ H2 s2 e s' I2 hq
  | ok fl =>
    cases fl with
    | ret u => exact I2.after hq
    | next => exact False.elim hq
    | brk => exact False.elim hq
    | cont => exact False.elim hq
end
end OwR
end
section
/-! Own: a law by a promise that wants no guard about it, where lambdas are made: with the tables of the code that makes them. -/
namespace OwR
open PySem PySem.Spec PyProof.Rows L2
abbrev tabO : Obj := { cls := .none, data := .fields #[] }
/-- what is followed: the script where the written part does not hold it, the tables -/
def scrT (K : PySem.W.Frag) (a : Addr) (ob : Obj) (xs : List V) (ts : List Addr) : Hp := fun b => if b = a then (if K.lookup a = none then some (.frz ob (.lst xs)) else none) else if b ∈ ts then some (.tbl #[]) else none
theorem scrT_cases (K : PySem.W.Frag) (a : Addr) (ob : Obj) (xs : List V) (ts : List Addr) (b : Addr) : scrT K a ob xs ts b = none ∨ (b = a ∧ K.lookup a = none ∧ scrT K a ob xs ts b = some (.frz ob (.lst xs))) ∨ (b ≠ a ∧ b ∈ ts ∧ scrT K a ob xs ts b = some (.tbl #[])) := by
  unfold scrT
  by_cases c : b = a
  · rw [if_pos c]
    by_cases d : K.lookup a = none
    · rw [if_pos d]
      exact .inr (.inl ⟨c, d, rfl⟩)
    · rw [if_neg d]
      exact .inl rfl
  · rw [if_neg c]
    by_cases d : b ∈ ts
    · rw [if_pos d]
      exact .inr (.inr ⟨c, d, rfl⟩)
    · rw [if_neg d]
      exact .inl rfl
theorem law_callTG {P : Program} {w : World} {K : PySem.W.Frag} {mg mb : Str → Option Value} {k : Nat} {fn a : Addr} {cs : List (Addr × Addr)} {fd : FuncData} {x : Str} {sp : Sp} {t : Shared} {us : List Value} {zs : List Int} (hK : K.In t.heap) (hG : t.heap.Ns mainGlobals mg)
    (hB : t.heap.Ns builtinsNs mb) (hBB : ∀ y : Str, y ≠ "__name__" → mb y = bootBuiltins y) (hL : t.heap.NoLimit) (hN : t.gens = #[]) (hO : t.heap.get? a = some ({ cls := .type "list", data := .seq us.toArray } : Obj)) (hI : IntsAre us zs)
    (hT : ∀ e ∈ cs, t.heap.get? e.2 = some tabO) (hX : ∀ e ∈ cs, K.lookup e.2 = none) (hC : ∀ e ∈ cs, PySem.W.CodeHd t.heap e.1 e.2)
    (hM : ∃ (m : Addr) (mo : Obj), mg "__builtins__" = some (.ref m) ∧ m ≠ builtinsNs ∧ t.heap.get? m = some mo ∧ mo.cls = .type "module" ∧ mo.dict = some builtinsNs ∧ mo.data = .plain)
    (hz : zs.length ≤ sizeLine) (hr : Room k callerA) (F : ∀ base : Heap, K.In base → base.Ns mainGlobals mg → (∀ e ∈ cs, LamX.TabB base mg e.1 e.2) → FnG P w K mg base CX0 k fn fd [x] sp) (hb : ∀ (s : Shared) (u : Value), BindsTo s fd ⟨[u], []⟩ [(x, u)])
    (hS : ∀ G : Hp, (∀ e ∈ cs, G e.2 = some (.tbl #[])) → SqL K G a (zs.map V.int) → sp [.ref a] G (fun v _ => v = .bl true) fun _ _ _ => False) :
    codeAny (model P w) callerA (.call (.ref fn) ⟨[.ref a], []⟩) (fun r s' => r = .ok (.ret (.bool true)) ∧ OldK t.heap s'.heap ∧ s'.os = t.os ∧ AllBare s'.gens) t := by
  have rel := vals_ints hI
  have le := hI.length
  obtain ⟨ts, ets⟩ : ∃ ts, ts = cs.map (·.2) := ⟨_, rfl⟩
  have atT : ∀ b, b ∈ ts → t.heap.get? b = some tabO ∧ K.lookup b = none ∧ ∃ e ∈ cs, e.2 = b := fun b hb => by
    rw [ets] at hb
    obtain ⟨e, he, rfl⟩ := List.mem_map.mp hb
    exact ⟨hT e he, hX e he, e, he, rfl⟩
  have inT : ∀ e ∈ cs, e.2 ∈ ts := fun e he => by
    rw [ets]
    exact List.mem_map.mpr ⟨e, he, rfl⟩
  have aT : ∀ e ∈ cs, e.2 ≠ a := fun e he q => by
    have h := hT e he
    rw [q, hO] at h
    cases h
  obtain ⟨G, eG⟩ : ∃ G, G = scrT K a ({ cls := .type "list", data := .seq us.toArray } : Obj) (zs.map V.int) ts := ⟨_, rfl⟩
  have three : ∀ b, G b = none ∨ (b = a ∧ K.lookup a = none ∧ G b = some (.frz { cls := .type "list", data := .seq us.toArray } (.lst (zs.map V.int)))) ∨ (b ≠ a ∧ b ∈ ts ∧ G b = some (.tbl #[])) := fun b => by
    rw [eG]
    exact scrT_cases K a _ _ ts b
  have GT : ∀ e ∈ cs, G e.2 = some (.tbl #[]) := fun e he => by
    rw [eG]
    unfold scrT
    rw [if_neg (aT e he), if_pos (inT e he)]
  have sq : SqL K G a (zs.map V.int) := by
    cases l : K.lookup a with
    | some ob =>
      have e := (hK a ob l).symm.trans hO
      cases e
      exact .inr ⟨_, us.toArray, _, l, rfl, rfl, rfl, by rw [List.size_toArray, le]; exact hz, by simpa using rel⟩
    | none =>
      refine .inl (.inr ⟨({ cls := .type "list", data := .seq us.toArray } : Obj), ?_⟩)
      rw [eG]
      unfold scrT
      rw [if_pos rfl, if_pos l]
  have gone : ∀ {b : Addr} {ob : Obj}, t.heap.get? b = some ob → (∀ vs n, ob.data ≠ .seq vs n) → ob.data ≠ .fields #[] → G b = none := fun {b ob} e nd nf => by
    rcases three b with c | ⟨rfl, _, _⟩ | ⟨_, hb, _⟩
    · exact c
    · rw [hO] at e
      cases e
      exact absurd rfl (nd us.toArray 0)
    · rw [(atT b hb).1] at e
      cases e
      exact absurd rfl nf
  have nsp : ∀ {b : Addr} {m : Str → Option Value}, t.heap.Ns b m → (hidT t.heap G).Ns b m := fun {b m} h => by
    obtain ⟨ob, es, ep, e1, e2, e3⟩ := h
    exact ⟨ob, es, ep, hidT_get e1 (gone e1 (fun vs n q => by rw [e2] at q; cases q) fun q => by rw [e2] at q; cases q), e2, e3⟩
  have kin : K.In (hidT t.heap G) := fun b ob l => hidT_get (hK b ob l) (by
    rcases three b with c | ⟨rfl, c, _⟩ | ⟨_, hb, _⟩
    · exact c
    · rw [c] at l
      cases l
    · rw [(atT b hb).2.1] at l
      cases l)
  have lim : (hidT t.heap G).NoLimit := by
    obtain ⟨mc, h1, h2⟩ := hL
    exact ⟨mc, nsp h1, h2⟩
  have ok : HOk P w G t.heap := fun b u e => by
    rcases three b with c | ⟨rfl, _, c⟩ | ⟨_, hb, c⟩
    · rw [c] at e
      cases e
    · rw [c] at e
      cases e
      exact ⟨hO, by rw [List.length_map]; exact hz, us, _, rel, hO⟩
    · rw [c] at e
      cases e
      exact (atT b hb).1
  have env : Env0 P w K mg (hidT t.heap G) callerA [] t G := { frames := rfl, mod := ⟨kin, nsp hG, ⟨mb, nsp hB, hBB⟩, lim⟩, bs := fun _ _ e => of_hidT e, bsz := Nat.le_of_eq (hidT_size _ _), funs := True.intro, frf := fun _ h => absurd h List.not_mem_nil, hok := ok, bare := .of_eq hN }
  have TB : ∀ e ∈ cs, LamX.TabB (hidT t.heap G) mg e.1 e.2 := fun e he => by
    have hP := hT e he
    constructor
    · obtain ⟨co, cv, fi, tf, fl, tg, nf, tx, tt, q0, q1, q2, q3, q4, q5, q6, q7, q8, q9⟩ := hC e he
      have gc : G e.1 = none := gone q0 (fun vs n q => by rw [q2] at q; cases q) fun q => by
        rw [q2] at q
        cases q
        simp at q3
      exact ⟨co, cv, fi, tf, fl, tg, nf, tx, tt, hidT_get q0 gc, q1, q2, q3, q4, q5, q6, q7, q8, q9⟩
    · obtain ⟨m, mo, b1, b2, b3, b4, b5, b6⟩ := hM
      have n1 : m ≠ mainGlobals := fun q => by
        obtain ⟨o, es, ep, e1, e2, _⟩ := hG
        rw [q, e1] at b3
        cases b3
        rw [e2] at b6
        cases b6
      have n2 : m ≠ e.2 := fun q => by
        rw [q, hP] at b3
        cases b3
        cases b6
      have gm : G m = none := gone b3 (fun vs n q => by rw [b6] at q; cases q) fun q => by
        rw [b6] at q
        cases q
      exact ⟨m, mo, b1, b2, n1, n2, hidT_get b3 gm, b4, b5, b6⟩
    · intro q
      obtain ⟨o, es, ep, e1, e2, _⟩ := hG
      rw [q, hP] at e1
      cases e1
      cases e2
  have run := F (hidT t.heap G) kin (nsp hG) TB callerA [] t G ⟨[.ref a], []⟩ [.ref a] [.ref a] _ _ rfl hr env (hb t (.ref a)) (.cons rfl .nil) (hS G GT sq)
  refine codeAny_mono run fun r s' h => ?_
  match r, h with
  | .error _, h => exact h.elim
  | .ok (.ret u), h =>
    obtain ⟨v, G', os, br, un, ok', rv, qv⟩ := h
    have ev : v = .bl true := qv
    subst ev
    obtain rfl : u = Value.bool true := rv
    have kept : ∀ b ob, b ∉ ts → t.heap.get? b = some ob → s'.heap.get? b = some ob := fun b ob nb e => by
      rcases three b with c | ⟨rfl, _, c⟩ | ⟨_, hb, _⟩
      · exact un.keep b ob e c List.not_mem_nil List.not_mem_nil
      · have e2 := (ok' b _ (un.frzs b _ _ c)).1
        rw [hO] at e
        cases e
        exact e2
      · exact absurd hb nb
    have more : ∀ e ∈ cs, ∃ vs : Array Value, s'.heap.get? e.2 = some ({ cls := .none, data := .fields vs } : Obj) := fun e he => by
      obtain ⟨vs, q⟩ := un.tbls e.2 #[] (GT e he)
      exact ⟨_, ok' e.2 _ q⟩
    refine ⟨rfl, ⟨fun b ob e => ?_, fun b ob e => ?_⟩, os, br⟩
    · by_cases hb : b ∈ ts
      · obtain ⟨et, _, q, hq, rfl⟩ := atT b hb
        obtain ⟨vs, em⟩ := more q hq
        rw [et] at e
        cases e
        exact .inr (.inl ⟨((hC q hq).tab et).isCodeTable, rfl, #[], vs, rfl, by rw [Array.empty_append]; exact em⟩)
      · exact .inl (kept b ob hb e)
    · by_cases hb : b ∈ ts
      · obtain ⟨_, _, q, hq, rfl⟩ := atT b hb
        obtain ⟨vs, em⟩ := more q hq
        exact ⟨_, em⟩
      · exact ⟨ob, kept b ob hb e⟩
/-- .. as the end of a law over a head by facts -/
theorem walk_ofTG {l : PySem.W.OpenLaw} {n k : Nat} {q : Program} {loose : List Str} {XP : (Str → Option Value) → Heap → Prop} {YP : World → Heap → Prop} {d : DefRec} {x : Str} (most : l.most = some n) (small : n ≤ sizeLine) (nodf : d.params.defaults = []) (room : Room k callerA)
    (F : ∀ (w : World) (mg : Str → Option Value) (fn : Addr) (h : Heap), YP w h → h.Ns mainGlobals mg → mg d.name = some (.ref fn) → ∃ (K : PySem.W.Frag) (fd : FuncData) (cs : List (Addr × Addr)) (sp : Sp), K.In h ∧ (∀ e ∈ cs, h.get? e.2 = some tabO) ∧ (∀ e ∈ cs, K.lookup e.2 = none) ∧ (∀ e ∈ cs, PySem.W.CodeHd h e.1 e.2) ∧
      (∀ (s : Shared) (u : Value), BindsTo s fd ⟨[u], []⟩ [(x, u)]) ∧ (∀ (G : Hp) (a : Addr) (zs : List Int), zs.length ≤ n → (∀ e ∈ cs, G e.2 = some (.tbl #[])) → SqL K G a (zs.map V.int) → sp [.ref a] G (fun v _ => v = .bl true) fun _ _ _ => False) ∧
      ∀ base : Heap, K.In base → base.Ns mainGlobals mg → (∀ e ∈ cs, LamX.TabB base mg e.1 e.2) → FnG l.prog w K mg base CX0 k fn fd [x] sp) :
    PySem.W.WalkO q loose XP YP l.row.toRowW d [] (fun f vs => PySem.call f vs) := by
  refine Att.attach_callB most nodf fun w s0 t mg mb fn o pm cd doc a us zs G Y _ _ _ hmg hO hI hz _ hN => ?_
  obtain ⟨K, fd, cs, sp, hK, hT, hX, hC, hb, hS, hF⟩ := F w mg fn _ Y G.T.g hmg
  exact law_callTG hK G.T.g G.T.b G.T.builtins G.T.nolimit hN hO hI hT hX hC G.T.bmain (Nat.le_trans hz small) room hF hb fun G' g sq => hS G' a zs hz g sq
end OwR
end
section
/-! What the end of the top says of named classes, of the records in them and of their defs. Own. -/
namespace OwH
open PySem PySem.Spec PyProof.Rows L2
/-- the def within a record (a class method, a static one, a property) -/
def inRec (K : PySem.W.Frag) (p : Addr) (kind : String) : Addr := match PySem.W.recIn K p kind with
  | some (.ref g :: _) => g
  | _ => 0
def recOk (K : PySem.W.Frag) (p : Addr) (kind : String) : Bool := match PySem.W.recIn K p kind with
  | some (.ref _ :: _) => true
  | _ => false
theorem recOk_ok {K : PySem.W.Frag} {p : Addr} {kind : String} (h : recOk K p kind = true) : ∃ rest, PySem.W.recIn K p kind = some (.ref (inRec K p kind) :: rest) := by
  unfold recOk at h
  unfold inRec
  cases e : PySem.W.recIn K p kind with
  | none =>
    rw [e] at h
    cases h
  | some l =>
    rw [e] at h
    match l, h with
    | .ref g :: r, _ => exact ⟨r, rfl⟩
def getB (x : Option PySem.W.CFound) (id : String) (p C : Addr) : Bool := match x with
  | some (.get (.builtin i) (.ref q) .none (.ref D)) => decide (i = id) && (decide (q = p) && decide (D = C))
  | _ => false
theorem getB_ok {x : Option PySem.W.CFound} {id : String} {p C : Addr} (h : getB x id p C = true) : x = some (.get (.builtin id) (.ref p) .none (.ref C)) := by
  unfold getB at h
  split at h
  · obtain ⟨h1, h2⟩ := Bool.and_eq_true_iff.mp h
    obtain ⟨h3, h4⟩ := Bool.and_eq_true_iff.mp h2
    rw [of_decide_eq_true h1, of_decide_eq_true h3, of_decide_eq_true h4]
  · cases h
def valB (x : Option PySem.W.CFound) (g : Addr) : Bool := match x with
  | some (.val (.ref q)) => decide (q = g)
  | _ => false
theorem valB_ok {x : Option PySem.W.CFound} {g : Addr} (h : valB x g = true) : x = some (.val (.ref g)) := by
  unfold valB at h
  split at h
  · rw [of_decide_eq_true h]
  · cases h
abbrev ga := He.ga
/-- what the class named x holds under m -/
def mo (K : PySem.W.Frag) (x m : Str) : Addr := He.ma K (ga K x) m
def fRead (x : Str) (K : PySem.W.Frag) : Bool := PySem.W.readsIn K (ga K x) (.type "type") && He.eqO (PySem.W.specialIn K (.ref (ga K x)) "__getattribute__") (some (some (.builtin "type.__getattribute__")))
def fCMet (x m : Str) (K : PySem.W.Frag) : Bool := getB (PySem.W.findCls K (.ref (ga K x)) (.type "type") m) "classmethod.__get__" (mo K x m) (ga K x) && (recOk K (mo K x m) "classmethod" && PySem.W.fnIn K (inRec K (mo K x m) "classmethod"))
def fCSta (x m : Str) (K : PySem.W.Frag) : Bool := getB (PySem.W.findCls K (.ref (ga K x)) (.type "type") m) "staticmethod.__get__" (mo K x m) (ga K x) && (recOk K (mo K x m) "staticmethod" && PySem.W.keepIn K (.ref (inRec K (mo K x m) "staticmethod")))
def fCFun (x m : Str) (K : PySem.W.Frag) : Bool := valB (PySem.W.findCls K (.ref (ga K x)) (.type "type") m) (mo K x m) && PySem.W.keepIn K (.ref (mo K x m))
def fSpc (x m : Str) (K : PySem.W.Frag) : Bool := He.eqO (PySem.W.findIn K (.ref (ga K x)) m) (some (some (.ref (mo K x m)))) && (PySem.W.isFn K (.ref (mo K x m)) && PySem.W.fnIn K (mo K x m))
def fProp (x m : Str) (K : PySem.W.Frag) : Bool := He.eqO (PySem.W.findIn K (.ref (ga K x)) m) (some (some (.ref (mo K x m)))) && (He.eqO (PySem.W.specialIn K (.ref (mo K x m)) "__get__") (some (some (.builtin "property.__get__"))) && (decide (PySem.W.takesIn K (.ref (mo K x m)) = some true) && recOk K (mo K x m) "property"))
section
variable {K : PySem.W.Frag} {x m : Str}
theorem two {a b : Bool} (h : (a && b) = true) : a = true ∧ b = true := Bool.and_eq_true_iff.mp h
theorem read_ok (h : fRead x K = true) : ClX.CRead K (ga K x) (.type "type") := ⟨(two h).1, He.eqO_ok (two h).2⟩
theorem cmet_ok (h : fCMet x m K = true) : ClX.CMet K (ga K x) (.type "type") m (mo K x m) (inRec K (mo K x m) "classmethod") := ⟨getB_ok (two h).1, recOk_ok (two (two h).2).1, (two (two h).2).2⟩
theorem csta_ok (h : fCSta x m K = true) : OwR.CSta K (ga K x) (.type "type") m (mo K x m) (inRec K (mo K x m) "staticmethod") := ⟨getB_ok (two h).1, recOk_ok (two (two h).2).1, (two (two h).2).2⟩
theorem cfun_ok (h : fCFun x m K = true) : OwR.CFun K (ga K x) (.type "type") m (mo K x m) := ⟨valB_ok (two h).1, (two h).2⟩
theorem spc_ok (h : fSpc x m K = true) : OwR.Spc K (ga K x) (mo K x m) m := ⟨He.eqO_ok (two h).1, (two (two h).2).1, (two (two h).2).2⟩
theorem callo_ok (h : fSpc x "__call__" K = true) : StX.CallO K (ga K x) (mo K x "__call__") := ⟨He.eqO_ok (two h).1, (two (two h).2).1, (two (two h).2).2⟩
theorem prop_ok (h : fProp x m K = true) : PropOf K (ga K x) m (mo K x m) (inRec K (mo K x m) "property") := ⟨He.eqO_ok (two h).1, He.eqO_ok (two (two h).2).1, of_decide_eq_true (two (two (two h).2).2).1, recOk_ok (two (two (two h).2).2).2⟩
end
/-! ### defs -/
structure DX where
  adr : PySem.W.Frag → Addr
  name : Str
  qual : Str
  st : Stmt
abbrev FX : Type := Option (Str × Str × Arguments × FuncBody × Scope × Addr × List (Str × Addr) × Value × Addr)
def seeF (K : PySem.W.Frag) (a : Addr) : FX := match K.lookup a with
  | some ⟨_, _, .func fd, _⟩ => some (fd.name, fd.qualname, fd.params, fd.body, fd.scope, fd.globals, fd.closure, fd.defaults, fd.builtins)
  | _ => none
def codB (K : PySem.W.Frag) (a : Addr) (qual : Str) : Bool := PySem.W.keepIn K (.ref a) && (match K.lookup a with
  | some ⟨_, _, .func fd, _⟩ => PySem.W.codeIn K fd.code qual
  | _ => false)
def DX.val (d : DX) : FX := some (d.name, d.qual, defArgs d.st, .stmts (defBody d.st), defScope d.st, mainGlobals, [], .none, builtinsNs)
theorem DX.fun_ {K : PySem.W.Frag} {d : DX} (h1 : seeF K (d.adr K) = d.val) (h2 : codB K (d.adr K) d.qual = true) : ∃ fd, Fun K d.name d.qual d.st (d.adr K) fd := by
  obtain ⟨kp, cd⟩ := two h2
  unfold seeF at h1
  cases l : K.lookup (d.adr K) with
  | none =>
    rw [l] at cd
    cases cd
  | some ob =>
    obtain ⟨oc, od, dt, osl⟩ := ob
    rw [l] at h1 cd
    match dt, h1, cd with
    | .func f, h1, cd =>
      obtain ⟨a1, a2, a3, a4, a5, a6, a7, a8, a9, a10, a11, a12, a13, a14, a15⟩ := f
      have e : (some (a1, a2, a3, a4, a5, a6, a7, a8, a15) : FX) = some (d.name, d.qual, defArgs d.st, .stmts (defBody d.st), defScope d.st, mainGlobals, [], .none, builtinsNs) := h1
      injection e with e
      injection e with e1 e
      injection e with e2 e
      injection e with e3 e
      injection e with e4 e
      injection e with e5 e
      injection e with e6 e
      injection e with e7 e
      injection e with e8 e9
      subst e1 e2 e3 e4 e5 e6 e7 e8 e9
      exact ⟨_, ⟨⟨oc, od, a9, a10, a11, a12, a13, a14, osl, rfl, l, cd⟩, kp⟩⟩
/-! ### the hook -/
abbrev AX : Type := Bool × List FX
def seeX (fa : List (PySem.W.Frag → Bool)) (fn : List DX) (K : PySem.W.Frag) : AX := ((fa.all fun f => f K) && fn.all fun d => codB K (d.adr K) d.qual, fn.map fun d => seeF K (d.adr K))
def wantX (fn : List DX) : AX := (true, fn.map DX.val)
def placesX (xs : List Str) (g : Addr → Option Obj) : Nat → List Addr
  | 0 => (xs.map (ga (He.frG g [mainGlobals])))
  | n + 1 => He.growD g (placesX xs g n)
def partX (xs : List Str) (g : Addr → Option Obj) : PySem.W.Frag := He.frG g (mainGlobals :: PySem.cStatics :: placesX xs g 4)
def hookX (xs : List Str) (fa : List (PySem.W.Frag → Bool)) (fn : List DX) : PySem.W.Hook where
  α := AX
  obs := fun s => seeX fa fn (partX xs s.heap.get?)
  val := fun _ => wantX fn
  says := fun _ h => ∃ K : PySem.W.Frag, K.In h ∧ seeX fa fn K = wantX fn
  of := fun _ _ e => ⟨partX xs _, He.frG_in, e⟩
  keeps := fun _ _ _ p k => match p with
    | ⟨K, hK, c⟩ => ⟨K, PySem.W.Frag.In.keeps hK k, c⟩
theorem seeX_eq {xs : List Str} {fa : List (PySem.W.Frag → Bool)} {fn : List DX} {g : Addr → Option Obj} {s : Shared} (h : ∀ a, g a = s.heap.get? a) : seeX fa fn (partX xs g) = (hookX xs fa fn).obs s := by
  have e : g = s.heap.get? := funext h
  subst e
  rfl
section
variable {fa : List (PySem.W.Frag → Bool)} {fn : List DX} {K : PySem.W.Frag}
theorem fact (c : seeX fa fn K = wantX fn) (i : Nat) {f : PySem.W.Frag → Bool} (h : fa[i]? = some f := by rfl) : f K = true :=
  List.all_eq_true.mp (two (congrArg Prod.fst c)).1 f (List.mem_of_getElem? h)
theorem def_ (c : seeX fa fn K = wantX fn) (i : Nat) {d : DX} (h : fn[i]? = some d := by rfl) : ∃ fd, Fun K d.name d.qual d.st (d.adr K) fd := by
  have h2 : codB K (d.adr K) d.qual = true := List.all_eq_true.mp (two (congrArg Prod.fst c)).2 d (List.mem_of_getElem? h)
  have h3 : (fn.map fun d => seeF K (d.adr K))[i]? = (fn.map DX.val)[i]? := congrArg (fun z : AX => z.2[i]?) c
  rw [List.getElem?_map, List.getElem?_map, h] at h3
  exact DX.fun_ (Option.some.inj h3) h2
end
end OwH
end
section
/-! Own: what a value's repr is; a caught error's class and fields. -/
namespace OwE
open PySem PySem.Spec PyProof.Rows L2
inductive RepV (K : PySem.W.Frag) (H : Hp) : V → Str → Prop where
  | non : RepV K H .non "None"
  | bl (b : Bool) : RepV K H (.bl b) (if b then "True" else "False")
  | int {i : Int} (h : i.natAbs.log2 < 1920) : RepV K H (.int i) (toString i)
  | str {z : Str} (h : (reprText z).length ≤ sizeLine) : RepV K H (.str z) (reprText z)
  | dat {a : Addr} {d : PyData} (h : Dp K H (.ref a) d) (hs : d.showable = true) (hn : d.hasDict = false) (hd : d.depth ≤ 64) (hz : d.shown.length ≤ sizeLine) : RepV K H (.ref a) d.shown
  | dic {a : Addr} (h : H a = some (.dK [])) : RepV K H (.ref a) (PyData.dict []).shown
def rRepr (K : PySem.W.Frag) : List V → Hp → VK → Prop := fun xs H Q => ∃ v r, xs = [v] ∧ RepV K H v r ∧ Q (.str r) H
theorem empty_reads {P : Program} {w : World} {H : Hp} {h : Heap} {a : Addr} (ok : HOk P w H h) (e : H a = some (.dK [])) : Reads h (.ref a) (.dict []) ([a] ++ []) ∧ a ≠ sysModules := by
  obtain ⟨_, ns, vs, kv, o, es, ep, h1, h2, h3, h4⟩ := (show ObjOk P w H h a (.dK []) from ok a _ e)
  refine ⟨?_, fun q => by rw [q] at ns; simp at ns⟩
  have ev : vs = [] := by
    cases kv
    rfl
  subst ev
  have ee : es.toList = [] := by
    have p := h4.2.1
    generalize es.toList = l at p
    cases p
    rfl
  exact Reads.dict h1 h2.1 h3 (by rw [ee]; exact .nil) (by rw [ee]; exact .nil)
theorem cr_repr {X : Cx} (hg : X.A.guards = some []) (hu : X.A.units + 70 < cLine) : CallR X (.builtin "repr") (rRepr X.K) := by
  intro pins s σ H xs us Q I r h
  obtain ⟨v, t, rfl, rep, q⟩ := h
  obtain ⟨u, rfl, rx⟩ := vals1 r
  cases rep with
  | non =>
    cases (show u = Value.none from rx)
    exact PySem.P.repr_of_none ⟨.str _, H, I.tok _, ⟨_, rfl⟩, q⟩
  | bl b =>
    cases (show u = Value.bool b from rx)
    exact PySem.P.repr_of_bool ⟨.str _, H, I.tok _, ⟨_, rfl⟩, q⟩
  | @int i hz =>
    obtain ⟨t, rfl⟩ := (show ∃ t, u = Value.int i t from rx)
    exact PySem.P.repr_of_int hz ⟨.str _, H, I.tok _, ⟨_, rfl⟩, q⟩
  | @str z hz =>
    obtain ⟨t, rfl⟩ := (show ∃ t, u = Value.str z t from rx)
    exact PySem.P.repr_of_str ⟨.str _, H, I.tok _, ⟨_, rfl⟩, q⟩ hz
  | @dat a d hd hs hn hp hz =>
    exact OwR.cr_reprD hg hu pins s σ H _ _ Q I (.cons rx .nil) ⟨a, d, rfl, hd, hs, hn, hp, hz, q⟩
  | @dic a e =>
    cases (show u = Value.ref a from rx)
    obtain ⟨R, ns⟩ := empty_reads I.hok e
    refine repr_of_reads' R (by decide) (fun _ m => ?_) hg (by show X.A.units + (PyData.depth (.dict []) + 1) < cLine; have : PyData.depth (.dict []) ≤ 60 := by decide +kernel
                                                               omega) (fun _ _ z => z) (fun h' u tk k => ?_) (by decide +kernel)
    · rw [List.append_nil, List.mem_singleton] at m
      exact ns m.symm
    · exact ⟨.str _, H, I.kept (t' := tk) k, ⟨u, rfl⟩, q⟩
/-- all that an own error class must say, so that its caught errors are asked -/
structure ErrC (K : PySem.W.Frag) (C : Addr) : Prop where
  ox : OexC K C
  xf : XfC K C
  ha : PySem.W.findIn K (.ref C) "__class__" = some (some (.builtin "object.__class__"))
  hn : PySem.W.specialIn K (.builtin "object.__class__") "__get__" = some (some (.builtin "getset_descriptor.__get__"))
  ht : PySem.W.takesIn K (.builtin "object.__class__") = some true
  hm : PySem.W.mroIn K C (.type "object") = some true
theorem OexC.cl {K : PySem.W.Frag} {C : Addr} (T : OexC K C) : (PySem.W.clsIn K C).isSome = true := by
  obtain ⟨nm, q, N, bs, bm, sn, sub, ab, col, dd, k0, k1, k2, k3, k5, hC, hbm⟩ := T.cls
  unfold PySem.W.clsIn
  rw [hC] <;> rfl
/-- isinstance of the error that the suite holds -/
def rIsE (K : PySem.W.Frag) (a : Addr) (cls : Value) (d : Option Addr) : List V → Hp → VK → Prop := fun xs H Q => ∃ (c : V) (u : Value) (C dd : Addr) (fs : List (Str × V)) (b : Bool), xs = [.ref a, c] ∧ ClsV c u ∧ cls = .ref C ∧ ErrC K C ∧ d = some dd ∧ H dd = some (.xd fs) ∧
  PySem.W.kitOne K (.ref C) u = some b ∧ Q (.bl b) H
theorem call_isE {X : Cx} {a : Addr} {cls : Value} {d : Option Addr} {oe : Obj} {pn : List (Addr × Obj)} (hz : Zc cls d oe) (hf : ∃ vs, oe.data = .fields vs) : CallR (X.suite a ((a, oe) :: pn)) (.builtin "isinstance") (rIsE X.K a cls d) := by
  intro pins s σ H xs us Q I r h
  obtain ⟨c, cv, C, dd, fs, b, rfl, hcv, rfl, T, rfl, ed, e, q⟩ := h
  obtain ⟨u1, u2, rfl, r1, r2⟩ := vals2 r
  cases (show u1 = Value.ref a from r1)
  have e2 := hcv.eq r2
  subst e2
  obtain ⟨hget, _⟩ := I.pin (a, oe) (List.mem_append.mpr (.inl List.mem_cons_self))
  obtain ⟨vs, hv⟩ := hf
  obtain ⟨mA, hns, hr⟩ := (show ObjOk X.prog X.w H s.heap dd (.xd fs) from I.hok dd _ ed)
  obtain ⟨od, ho, hl⟩ := lookIn_ns hns
  have J : PySem.W.InstAt s.heap a oe C (some od) := ⟨hget, hz.1, by unfold PySem.W.notCls; rw [hv] <;> rfl, by rw [hz.2]; exact ho⟩
  exact PySem.W.kia_one (PySem.W.kitx_exc (OexC.cl T.ox) T.xf.ga T.xf.gg T.xf.exC T.ha T.hn T.ht T.hm) I.kIn J e (fun z => nomatch z) fun tk => ⟨.bl b, H, I.tok tk, rfl, q⟩
/-- err.f of the error that the suite holds -/
def tXe (K : PySem.W.Frag) (a : Addr) (cls : Value) (d : Option Addr) (f : Str) (te : TE) : TE := fun σ H Q => te σ H fun x H1 => x = .ref a ∧ ∃ (C dd : Addr) (fs : List (Str × V)) (v : V), cls = .ref C ∧ ErrC K C ∧ PySem.W.findIn K (.ref C) f = some none ∧ d = some dd ∧ H1 dd = some (.xd fs) ∧ fs.lookup f = some v ∧ Q v H1
theorem pe_xe {X : Cx} {a : Addr} {oe : Obj} {cls : Value} {d : Option Addr} {pn : List (Addr × Obj)} {e : Expr} {te : TE} {pos : Pos} {n : Str} (hz : Zc cls d oe) (hf : ∃ vs, oe.data = .fields vs) (he : PE (X.suite a ((a, oe) :: pn)) e te) (hb : attributeBase e n X.env (eval e X.env) = eval e X.env := by rfl) :
    PE (X.suite a ((a, oe) :: pn)) (.Attribute e n pos) (tXe X.K a cls d n te) := by
  refine ⟨fun pins s σ H Q I h => ?_⟩
  refine attr_of hb (thn (he.run pins s σ H _ I h) fun u s1 hh => ?_)
  obtain ⟨x, H1, I1, rx, ex, C, dd, fs, v, ec, T, hno, ed, ea, l, q⟩ := hh
  subst ex ec ed
  obtain rfl : u = Value.ref a := rx
  obtain ⟨ha, _⟩ := I1.pin (a, oe) (List.mem_append_left _ List.mem_cons_self)
  obtain ⟨vs, hd⟩ := hf
  obtain ⟨mA, hns, hr⟩ := (show ObjOk X.prog X.w H1 s1.heap dd (.xd fs) from I1.hok dd _ ea)
  obtain ⟨od, ho, hl⟩ := lookIn_ns hns
  obtain ⟨u, hu, ru⟩ := RelO.some_of (v := v) (o := mA n) (by rw [← l]; exact hr n)
  have J : PySem.W.InstAt s1.heap a oe C (some od) := ⟨ha, hz.1, by unfold PySem.W.notCls; rw [hd] <;> rfl, by rw [hz.2]; exact ho⟩
  exact HandSPX.exc_get I1.kIn J T.xf.ga T.xf.gg T.xf.exC (PySem.W.findObj_own T.xf.hdC hno rfl (by rw [hl, hu])) (handed_of ru) ⟨v, H1, I1.tok _, ru, q⟩
/-! ### an error class with one field, with two -/
def spErr1 (K : PySem.W.Frag) (f : Str) : Sp := fun vs H Q _ => ∃ (a C : Addr) (v : V), vs = [.ref a, v] ∧ OexC K C ∧ PySem.W.findIn K (.ref C) f = some none ∧ H a = some (exo a C none) ∧
  ∀ dx, H dx = none → dx ≠ a → Q .non (upd (upd H dx (exd dx [(f, v)])) a (exo a C (some dx)))
theorem err_heap {H : Hp} {a d C : Addr} {fs : List (Str × V)} (ne : d ≠ a) (ha : H a = none) : upd (del (upd (upd (upd H a (exo a C none)) d (exd d fs)) a (exo a C (some d))) a) d (.xd fs) = upd H d (.xd fs) := by
  funext b
  by_cases h1 : b = d
  · rw [h1, upd_same, upd_same]
  · rw [upd_ne h1, upd_ne h1]
    by_cases h2 : b = a
    · rw [h2, del_same, ha]
    · rw [del_ne h2, upd_ne h2, upd_ne h1, upd_ne h2]
theorem mk_err1 {K : PySem.W.Frag} {C : Addr} {f : Str} {v : V} {H : Hp} {E : XK} (T : OexC K C) (hno : PySem.W.findIn K (.ref C) f = some none) (k : ∀ d, H d = none → E (.ref C) (some d) (upd H d (.xd [(f, v)]))) :
    ([v] : List V).length ≤ 1000 ∧ ∀ a, H a = none → spErr1 K f (.ref a :: ([v] ++ [])) (upd H a (exo a C none)) (fun v H2 => v = .non ∧ ∃ (d : Addr) (fs : List (Str × V)), H2 a = some (exo a C (some d)) ∧ H2 d = some (exd d fs) ∧ H d = none ∧ E (.ref C) (some d) (upd (del H2 a) d (.xd fs))) (fun _ _ _ => False) := by
  refine ⟨by show (1 : Nat) ≤ 1000; decide, fun a ha => ⟨a, C, v, rfl, T, hno, upd_same, fun dx hd ne => ⟨rfl, dx, [(f, v)], upd_same, by rw [upd_ne ne, upd_same], ?_, ?_⟩⟩⟩
  · rw [upd_ne ne] at hd
    exact hd
  · rw [err_heap ne ha]
    rw [upd_ne ne] at hd
    exact k dx hd
end OwE
end
section
/-! Own: what the end of the top says, with the tables of the code of some defs. -/
namespace OwH
open PySem PySem.Spec PyProof.Rows L2
def codA (K : PySem.W.Frag) (f : Addr) : Addr := match K.lookup f with
  | some ⟨_, _, .func fd, _⟩ => (match fd.code with
    | .ref c => c
    | _ => 0)
  | _ => 0
theorem codA_eq {K : PySem.W.Frag} {f c : Addr} {oc : Value} {od : Option Addr} {osl : Array (Option Value)} {fd : FuncData} (lk : K.lookup f = some ⟨oc, od, .func fd, osl⟩) (e : fd.code = .ref c) : codA K f = c := by
  unfold codA
  rw [lk]
  show (match fd.code with | .ref c => c | _ => 0) = c
  rw [e]
/-- the code of the def at f, its table -/
def cTab (K : PySem.W.Frag) (f : Addr) : Addr × Addr := (codA K f, He.tabOf K (codA K f))
def tabsOk (g : Addr → Option Obj) (tf : List (PySem.W.Frag → Addr)) (K : PySem.W.Frag) : Bool := tf.all fun f => PySem.W.codeHdIn K (cTab K (f K)).1 (cTab K (f K)).2 && (match g (cTab K (f K)).2 with
  | some o => He.emptyTab o
  | none => false)
def partT (xs : List Str) (g : Addr → Option Obj) : PySem.W.Frag := He.frT g (mainGlobals :: PySem.cStatics :: placesX xs g 4)
structure SaysT (fa : List (PySem.W.Frag → Bool)) (fn : List DX) (tf : List (PySem.W.Frag → Addr)) (h : Heap) (K : PySem.W.Frag) : Prop where
  see : seeX fa fn K = wantX fn
  hd : ∀ f ∈ tf, PySem.W.codeHdIn K (cTab K (f K)).1 (cTab K (f K)).2 = true
  out : ∀ f ∈ tf, K.lookup (cTab K (f K)).2 = none
  empty : ∀ f ∈ tf, h.get? (cTab K (f K)).2 = some OwR.tabO
abbrev AT : Type := AX × Bool
def obsT (xs : List Str) (fa : List (PySem.W.Frag → Bool)) (fn : List DX) (tf : List (PySem.W.Frag → Addr)) (g : Addr → Option Obj) : AT := (seeX fa fn (partT xs g), tabsOk g tf (partT xs g))
theorem saysT_of {xs : List Str} {fa : List (PySem.W.Frag → Bool)} {fn : List DX} {tf : List (PySem.W.Frag → Addr)} {h : Heap} (e : obsT xs fa fn tf h.get? = (wantX fn, true)) : SaysT fa fn tf h (partT xs h.get?) := by
  have e1 : seeX fa fn (partT xs h.get?) = wantX fn := congrArg Prod.fst e
  have e2 : tabsOk h.get? tf (partT xs h.get?) = true := congrArg Prod.snd e
  have key : ∀ f ∈ tf, PySem.W.codeHdIn (partT xs h.get?) (cTab (partT xs h.get?) (f (partT xs h.get?))).1 (cTab (partT xs h.get?) (f (partT xs h.get?))).2 = true ∧ ∃ o, h.get? (cTab (partT xs h.get?) (f (partT xs h.get?))).2 = some o ∧ He.emptyTab o = true := fun f hf => by
    obtain ⟨h3, h4⟩ := two (List.all_eq_true.mp e2 f hf)
    refine ⟨h3, ?_⟩
    cases q : h.get? (cTab (partT xs h.get?) (f (partT xs h.get?))).2 with
    | none =>
      rw [q] at h4
      cases h4
    | some o =>
      rw [q] at h4
      exact ⟨o, rfl, h4⟩
  refine ⟨e1, fun f hf => (key f hf).1, fun f hf => ?_, fun f hf => ?_⟩
  · obtain ⟨_, o, q, z⟩ := key f hf
    exact He.frT_none q z
  · obtain ⟨_, o, q, z⟩ := key f hf
    rw [q, He.emptyTab_eq z]
def hookT (xs : List Str) (fa : List (PySem.W.Frag → Bool)) (fn : List DX) (tf : List (PySem.W.Frag → Addr)) : PySem.W.Hook where
  α := AT
  obs := fun s => obsT xs fa fn tf s.heap.get?
  val := fun _ => (wantX fn, true)
  says := fun _ h => ∃ K : PySem.W.Frag, K.In h ∧ SaysT fa fn tf h K
  of := fun _ _ e => ⟨_, He.frT_in, saysT_of e⟩
  keeps := fun _ _ _ p k => match p with
    | ⟨K, hK, c⟩ => ⟨K, PySem.W.Frag.In.keeps hK k, ⟨c.see, c.hd, c.out, fun f hf => k _ _ (c.empty f hf)⟩⟩
theorem obsT_eq {xs : List Str} {fa : List (PySem.W.Frag → Bool)} {fn : List DX} {tf : List (PySem.W.Frag → Addr)} {g : Addr → Option Obj} {s : Shared} (h : ∀ a, g a = s.heap.get? a) : obsT xs fa fn tf g = (hookT xs fa fn tf).obs s := by
  have e : g = s.heap.get? := funext h
  rw [e] <;> rfl
/-! ### facts of error classes -/
def oexB (K : PySem.W.Frag) (C : Addr) : Bool := match K.lookup C with
  | some ⟨.type t, _, .cls cd, sl⟩ => decide (t = "type") && (match cd.mro, sl.toList with
    | .ref D :: bm, [_, _, _, _, some (.builtin n), _] => decide (D = C) && (decide (n = "ValueError.__new__") && (cd.hasDict && (!cd.hasDel && PySem.HandSPX.refsVE bm)))
    | _, _ => false)
  | _ => false
theorem oexB_ok {K : PySem.W.Frag} {C : Addr} (h : oexB K C = true) : ∃ nm q N bs bm sn sub ab col dd k0 k1 k2 k3 k5, K.lookup C = some (excClassObj nm q C N bs bm true sn sub ab col dd k0 k1 k2 k3 k5 "ValueError.__new__") ∧ PySem.HandSPX.refsVE bm = true := by
  unfold oexB at h
  split at h
  · rename_i t dd cd sl ho
    obtain ⟨h1, h2⟩ := two h
    split at h2
    · rename_i D bm k0 k1 k2 k3 n k5 hm hs
      obtain ⟨a1, h3⟩ := two h2
      obtain ⟨a2, h4⟩ := two h3
      obtain ⟨a3, h5⟩ := two h4
      obtain ⟨a4, a5⟩ := two h5
      have e1 := of_decide_eq_true h1
      have e2 := of_decide_eq_true a1
      have e3 := of_decide_eq_true a2
      subst e1 e2 e3
      obtain ⟨nm, bs, mro, ns, qn, hd, sn, sub, ab, col, del⟩ := cd
      have esl : sl = #[k0, k1, k2, k3, some (.builtin "ValueError.__new__"), k5] := by
        obtain ⟨l⟩ := sl
        have hs : l = _ := hs
        rw [hs]
      have em : mro = .ref D :: bm := hm
      have ed : hd = true := a3
      have el : del = false := by
        cases del with
        | true => cases a4
        | false => rfl
      subst esl em ed el
      exact ⟨nm, qn, ns, bs, bm, sn, sub, ab, col, dd, k0, k1, k2, k3, k5, ho, a5⟩
    · cases h2
  · cases h
def fErr (x : Str) (K : PySem.W.Frag) : Bool := oexB K (ga K x) && (He.eqO (PySem.W.findIn K (.ref (ga K x)) "__setattr__") (some (some (.builtin "object.__setattr__"))) && (decide (PySem.W.typeIn K (.ref (ga K x)) = some (.type "type")) && (PySem.W.keepIn K (.ref (ga K x)) && (xfB K (ga K x) &&
  (He.eqO (PySem.W.findIn K (.ref (ga K x)) "__class__") (some (some (.builtin "object.__class__"))) && (He.eqO (PySem.W.specialIn K (.builtin "object.__class__") "__get__") (some (some (.builtin "getset_descriptor.__get__"))) &&
  (decide (PySem.W.takesIn K (.builtin "object.__class__") = some true) && decide (PySem.W.mroIn K (ga K x) (.type "object") = some true))))))))
theorem err_ok {x : Str} {K : PySem.W.Frag} (h : fErr x K = true) : OwE.ErrC K (ga K x) := by
  obtain ⟨a1, h⟩ := two h
  obtain ⟨a2, h⟩ := two h
  obtain ⟨a3, h⟩ := two h
  obtain ⟨a4, h⟩ := two h
  obtain ⟨a5, h⟩ := two h
  obtain ⟨a6, h⟩ := two h
  obtain ⟨a7, h⟩ := two h
  obtain ⟨a8, a9⟩ := two h
  have X := xfB_ok a5
  exact ⟨⟨oexB_ok a1, He.eqO_ok a2, X.exC, of_decide_eq_true a3, a4⟩, X, He.eqO_ok a6, He.eqO_ok a7, of_decide_eq_true a8, of_decide_eq_true a9⟩
/-- the class's __init__ is the def at its place -/
def fIni (x : Str) (K : PySem.W.Frag) : Bool := He.eqO (PySem.W.findIn K (.ref (ga K x)) "__init__") (some (some (.ref (mo K x "__init__")))) && decide (PySem.W.typeIn K (.ref (mo K x "__init__")) = some (.type "function"))
theorem ini_ok {x : Str} {K : PySem.W.Frag} (h : fIni x K = true) : PySem.W.findIn K (.ref (ga K x)) "__init__" = some (some (.ref (mo K x "__init__"))) ∧ PySem.W.typeIn K (.ref (mo K x "__init__")) = some (.type "function") := ⟨He.eqO_ok (two h).1, of_decide_eq_true (two h).2⟩
/-- no attribute of that name in the class -/
def fNoF (x n : Str) (K : PySem.W.Frag) : Bool := decide (PySem.W.findIn K (.ref (ga K x)) n = some none)
def fExm (x y : Str) (b : Bool) (K : PySem.W.Frag) : Bool := decide (PySem.W.exmOne K (.ref (ga K x)) (.ref (ga K y)) = some b)
def fKit (x y : Str) (b : Bool) (K : PySem.W.Frag) : Bool := decide (PySem.W.kitOne K (.ref (ga K x)) (.ref (ga K y)) = some b)
/-- what isinstance and the like ask of the objects of the class -/
def fIsC (x : Str) (K : PySem.W.Frag) : Bool := He.eqO (PySem.W.findIn K (.ref (ga K x)) "__class__") (some (some (.builtin "object.__class__"))) && (He.eqO (PySem.W.specialIn K (.builtin "object.__class__") "__get__") (some (some (.builtin "getset_descriptor.__get__"))) &&
  (decide (PySem.W.takesIn K (.builtin "object.__class__") = some true) && decide (PySem.W.mroIn K (ga K x) (.type "object") = some true)))
theorem isC_ok {x : Str} {K : PySem.W.Frag} (h : fIsC x K = true) : PySem.W.findIn K (.ref (ga K x)) "__class__" = some (some (.builtin "object.__class__")) ∧ PySem.W.specialIn K (.builtin "object.__class__") "__get__" = some (some (.builtin "getset_descriptor.__get__")) ∧ PySem.W.takesIn K (.builtin "object.__class__") = some true ∧ PySem.W.mroIn K (ga K x) (.type "object") = some true := by
  obtain ⟨a1, h⟩ := two h
  obtain ⟨a2, h⟩ := two h
  obtain ⟨a3, a4⟩ := two h
  exact ⟨He.eqO_ok a1, He.eqO_ok a2, of_decide_eq_true a3, of_decide_eq_true a4⟩
/-- the class (or one above it) has the def at its place as m -/
def fHas (x m : Str) (K : PySem.W.Frag) : Bool := He.eqO (PySem.W.findIn K (.ref (ga K x)) m) (some (some (.ref (mo K x m)))) && PySem.W.isFn K (.ref (mo K x m))
theorem has_ok {x m : Str} {K : PySem.W.Frag} (h : fHas x m K = true) : PySem.W.findIn K (.ref (ga K x)) m = some (some (.ref (mo K x m))) ∧ PySem.W.isFn K (.ref (mo K x m)) = true := ⟨He.eqO_ok (two h).1, (two h).2⟩
/-- != of the class is object's -/
def fNe (x : Str) (K : PySem.W.Frag) : Bool := He.eqO (PySem.W.findIn K (.ref (ga K x)) "__ne__") (some (some (.builtin "object.__ne__")))
theorem ne_ok {x : Str} {K : PySem.W.Frag} (h : fNe x K = true) : PySem.W.findIn K (.ref (ga K x)) "__ne__" = some (some (.builtin "object.__ne__")) := He.eqO_ok h
def fNot (x : Str) (t : PySem.W.Frag → Value) (K : PySem.W.Frag) : Bool := PySem.W.notFirst K (ga K x) (t K)
end OwH
end
section
/-! Operators and comparisons that an own class defines. -/
namespace OwR
open PySem PySem.Spec PyProof.Rows L2
/-- an own operator between instances of two own classes, neither below the other -/
theorem bin_two {prog : Program} {w : World} {A : Around} {E : Value → Shared → Prop} {s : Shared} {K : PySem.W.Frag} {x C D f f2 : Addr} {ox : Obj} {od : Option Obj} {op : Operator} {b : Value} {rc rd : Option Value} {Q : Value → Shared → Prop} (X : K.In s.heap) (I : PySem.W.InstAt s.heap x ox C od)
    (hb : PySem.W.Looks (model prog w) s.heap (typeOf b) (.ref D)) (ne : (Value.ref C == Value.ref D) = false) (cC : PySem.W.selfFirst K C = true) (cD : PySem.W.selfFirst K D = true) (sC : PySem.W.findIn K (.ref C) (PySem.dunder op.info.2) = some (some (.ref f))) (sD : PySem.W.findIn K (.ref D) (PySem.dunder op.info.2) = some (some (.ref f2)))
    (rC : PySem.W.findIn K (.ref C) (dunderR op.info.2) = some rc) (pC : rc = none ∨ ∃ g : Addr, rc = some (.ref g)) (rD : PySem.W.findIn K (.ref D) (dunderR op.info.2) = some rd) (pD : rd = none ∨ ∃ g : Addr, rd = some (.ref g))
    (sub : PySem.W.subIn K (.ref D) (.ref C) = some false) (hf : PySem.W.isFn K (.ref f) = true) (h : wpAny (model prog w) A (call (.ref f) [.ref x, b]) (PySem.W.CmpBack Q) E s) : wpAny (model prog w) A (binaryOp op (.ref x) b) Q E s := by
  obtain ⟨c1, r1, k1, m1⟩ := PySem.W.ksp_first cC
  obtain ⟨c2, r2, k2, m2⟩ := PySem.W.ksp_first cD
  rcases hi : op.info with ⟨sym, nm⟩
  rw [hi] at sC sD rC rD
  dsimp only at sC sD rC rD
  have one := PySem.W.ksp_try X I sC hf h
  obtain ⟨hp, gs, dr, tk, os⟩ := s
  have L1 : PySem.W.Looks (model prog w) hp (typeOf (.ref x)) (.ref C) := I.type
  have L2 : PySem.W.Looks (model prog w) hp (typeOf b) (.ref D) := hb
  have L3 : PySem.W.Looks (model prog w) hp (fillsNumberSlot (.ref C) nm) true := PySem.W.fills_K X k1 m1 sC
  have L4 : PySem.W.Looks (model prog w) hp (fillsNumberSlot (.ref D) nm) true := PySem.W.fills_K X k2 m2 sD
  have L5 : PySem.W.Looks (model prog w) hp (isSubtype (.ref D) (.ref C)) false := PySem.W.looks_subIn X sub
  have L6 : PySem.W.Looks (model prog w) hp (numberSlotInPython (.ref C) nm) true := PySem.W.ksp_inPy X sC rC pC
  have L7 : PySem.W.Looks (model prog w) hp (numberSlotInPython (.ref D) nm) true := PySem.W.ksp_inPy X sD rD pD
  simp only [binaryOp, hi]
  refine wpAny_holding (wpAny_bind ?_)
  unfold binaryOp1
  refine wpAny_bind (L1.at (wpAny_bind (L2.at (wpAny_bind (L3.at ?_)))))
  simp only [ne, Bool.false_eq_true, if_false]
  ksp_lk
  refine wpAny_mono one (fun r s' q => ?_) fun _ _ e => e
  obtain ⟨v, rfl, hq⟩ := q
  ksp_lk
  exact hq
/-- what a class must have for an operator of its own -/
structure Bin1 (K : PySem.W.Frag) (op : Operator) (C g : Addr) : Prop where
  self : PySem.W.selfFirst K C = true
  at_ : PySem.W.findIn K (.ref C) (PySem.dunder op.info.2) = some (some (.ref g))
  fn : PySem.W.isFn K (.ref g) = true
  refl : ∃ rc, PySem.W.findIn K (.ref C) (dunderR op.info.2) = some rc ∧ (rc = none ∨ ∃ h : Addr, rc = some (.ref h))
/-- .. between two classes: one, or neither above the other -/
def BinP (K : PySem.W.Frag) (op : Operator) (C D g : Addr) : Prop := Bin1 K op C g ∧ (C = D ∨ ((∃ g', Bin1 K op D g') ∧ C ≠ D ∧ PySem.W.subIn K (.ref D) (.ref C) = some false))
structure BinT (K : PySem.W.Frag) (op : Operator) (C : Addr) (T : String) : Prop where
  f : ∃ fo, PySem.W.findIn K (.type T) (PySem.dunder op.info.2) = some fo
  r : ∃ ro, PySem.W.findIn K (.type T) (dunderR op.info.2) = some ro
  sub : PySem.W.subIn K (.type T) (.ref C) = some false
def tyS : V → Option String
  | .non => some "NoneType" | .bl _ => some "bool" | .int _ => some "int" | .str _ => some "str" | _ => none
theorem tyS_of {y : V} {u : Value} {T : String} (r : RelV y u) (h : tyS y = some T) : typeOf u = pure (.type T) := by
  cases y with
  | non => cases (show u = Value.none from r); cases h; rfl
  | bl b => cases (show u = Value.bool b from r); cases h; rfl
  | int i => obtain ⟨t, rfl⟩ := r; cases h; rfl
  | str z => obtain ⟨t, rfl⟩ := r; cases h; rfl
  | _ => cases h
def rOwn2 (K : PySem.W.Frag) (op : Operator) (g : Addr) (sp : Sp) (E : XK) : R2 := fun x y H Q => ∃ (p q C D dx dy : Addr) (fs gs : List (Str × V)), x = .ref p ∧ y = .ref q ∧ H p = some (.ins C dx fs) ∧ H q = some (.ins D dy gs) ∧ BinP K op C D g ∧ sp [.ref p, .ref q] H Q E
def rOwnT (K : PySem.W.Frag) (op : Operator) (g : Addr) (sp : Sp) (E : XK) : R2 := fun x y H Q => ∃ (p C dx : Addr) (fs : List (Str × V)) (T : String), x = .ref p ∧ H p = some (.ins C dx fs) ∧ tyS y = some T ∧ Bin1 K op C g ∧ BinT K op C T ∧ sp [.ref p, y] H Q E
section
variable {X : Cx} {CX : CXT} {k : Nat} {g : Addr} {sp : Sp} {E : XK} {op : Operator}
theorem ep_back {pins : List (Addr × Obj)} {σ : L2.St} {Q : VK} {u : Value} {s : Shared} (h : EP X pins σ Q u s) : PySem.W.CmpBack (EP X pins σ Q) u s := by
  obtain ⟨v, H, I, r, q⟩ := h
  unfold PySem.W.CmpBack
  split
  · cases v with
    | int i => obtain ⟨_, z⟩ := r; cases z
    | str i => obtain ⟨_, z⟩ := r; cases z
    | byt i => obtain ⟨_, z⟩ := r; cases z
    | flt i => obtain ⟨_, z⟩ := r; cases z
    | _ => cases r
  · exact ⟨v, H, I, r, q⟩
theorem run_own {pins : List (Addr × Obj)} {σ : L2.St} {H : Hp} {s : Shared} {Q : VK} {us : List Value} {vs : List V} (F : FnR X.prog X.w X.K X.mg X.base CX k g sp) (hr : Room k X.A) (hx : Passes CX X E) (I : Inv X pins σ H s) (r : Vals vs us) (h : sp vs H Q E) :
    wpAny (model X.prog X.w) X.A (call (.ref g) us) (PySem.W.CmpBack (EP X pins σ Q)) X.xe s := wpAny_mono (wpAny_call (run_fnR F hr hx I r h)) (fun _ _ q => ep_back q) fun _ _ q => q
theorem op_own2 (F : FnR X.prog X.w X.K X.mg X.base CX k g sp) (hr : Room k X.A) (hx : Passes CX X E) : OpR X (binaryOp op) (rOwn2 X.K op g sp E) := by
  intro pins s σ H x y v u Q I rx ry h
  obtain ⟨p, q, C, D, dx, dy, fs, gs, rfl, rfl, ep, eq, ⟨b1, b2⟩, hq⟩ := h
  obtain rfl : v = Value.ref p := rx
  obtain rfl : u = Value.ref q := ry
  obtain ⟨ox, od, J, _⟩ := StX.insC_at I (.inr ⟨dx, fs, ep⟩)
  obtain ⟨oy, oe, J2, _⟩ := StX.insC_at I (.inr ⟨dy, gs, eq⟩)
  have go := run_own F hr hx I (us := [.ref p, .ref q]) (vs := [.ref p, .ref q]) (.cons rfl (.cons rfl .nil)) hq
  obtain ⟨mm, fr⟩ := I.fr
  rcases b2 with rfl | ⟨⟨g', b2⟩, ne, sub⟩
  · exact PySem.W.binop_K fr I.ok.mod.kin J J2.type b1.self b1.at_ b1.fn go
  · obtain ⟨rc, e1, e2⟩ := b1.refl
    obtain ⟨rd, e3, e4⟩ := b2.refl
    exact bin_two I.kIn J J2.type (Bool.eq_false_iff.mpr fun z => ne (by cases beq_iff_eq.mp z; rfl)) b1.self b2.self b1.at_ b2.at_ e1 e2 e3 e4 sub b1.fn go
theorem op_ownT (F : FnR X.prog X.w X.K X.mg X.base CX k g sp) (hr : Room k X.A) (hx : Passes CX X E) : OpR X (binaryOp op) (rOwnT X.K op g sp E) := by
  intro pins s σ H x y v u Q I rx ry h
  obtain ⟨p, C, dx, fs, T, rfl, ep, ty, b1, bT, hq⟩ := h
  obtain rfl : v = Value.ref p := rx
  obtain ⟨ox, od, J, _⟩ := StX.insC_at I (.inr ⟨dx, fs, ep⟩)
  obtain ⟨mm, fr⟩ := I.fr
  obtain ⟨rc, e1, e2⟩ := b1.refl
  obtain ⟨fo, e3⟩ := bT.f
  obtain ⟨ro, e4⟩ := bT.r
  exact PySem.W.ksp_binT fr I.ok.mod.kin J (tyS_of ry ty) b1.self b1.at_ b1.fn e1 e2 e3 e4 bT.sub (run_own F hr hx I (us := [.ref p, u]) (vs := [.ref p, y]) (.cons rfl (.cons ry .nil)) hq)
/-! ### comparisons -/
structure Cmp1 (K : PySem.W.Frag) (op : CmpOp) (C g : Addr) : Prop where
  at_ : PySem.W.findIn K (.ref C) (cmpInfo op).2.1 = some (some (.ref g))
  fn : PySem.W.isFn K (.ref g) = true
def rCmp2 (K : PySem.W.Frag) (op : CmpOp) (g : Addr) (sp : Sp) (E : XK) : R2 := fun x y H Q => ∃ (p q C D dx dy : Addr) (fs gs : List (Str × V)), x = .ref p ∧ y = .ref q ∧ H p = some (.ins C dx fs) ∧ H q = some (.ins D dy gs) ∧ Cmp1 K op C g ∧ PySem.W.notFirst K C (.ref D) = true ∧ sp [.ref p, .ref q] H Q E
theorem rc_own2 {o : CmpOp} (hu : X.A.units < cLine) (F : FnR X.prog X.w X.K X.mg X.base CX k g sp) (hr : Room k X.A) (hx : Passes CX X E) : OpR X (richCompare o) (rCmp2 X.K o g sp E) := by
  intro pins s σ H x y v u Q I rx ry h
  obtain ⟨p, q, C, D, dx, dy, fs, gs, rfl, rfl, ep, eq, c1, nf, hq⟩ := h
  obtain rfl : v = Value.ref p := rx
  obtain rfl : u = Value.ref q := ry
  obtain ⟨ox, od, J, _⟩ := StX.insC_at I (.inr ⟨dx, fs, ep⟩)
  obtain ⟨oy, oe, J2, _⟩ := StX.insC_at I (.inr ⟨dy, gs, eq⟩)
  obtain ⟨mm, fr⟩ := I.fr
  exact PySem.W.cmp_K hu fr I.ok.mod.kin J J2.type nf c1.at_ c1.fn (run_own F hr hx I (us := [.ref p, .ref q]) (vs := [.ref p, .ref q]) (.cons rfl (.cons rfl .nil)) hq)
theorem op_ownEq (hu : X.A.units < cLine) (F : FnR X.prog X.w X.K X.mg X.base CX k g sp) (hr : Room k X.A) (hx : Passes CX X E) : OpR X (compareOp .Eq) (rCmp2 X.K .Eq g sp E) := fun pins s σ H x y v u Q I rx ry h => PySem.W.cmp_ofEq (rc_own2 hu F hr hx pins s σ H x y v u Q I rx ry h)
theorem op_ownLe (hu : X.A.units < cLine) (F : FnR X.prog X.w X.K X.mg X.base CX k g sp) (hr : Room k X.A) (hx : Passes CX X E) : OpR X (compareOp .LtE) (rCmp2 X.K .LtE g sp E) := fun pins s σ H x y v u Q I rx ry h => PySem.W.cmp_ofLtE (rc_own2 hu F hr hx pins s σ H x y v u Q I rx ry h)
theorem op_ownLt (hu : X.A.units < cLine) (F : FnR X.prog X.w X.K X.mg X.base CX k g sp) (hr : Room k X.A) (hx : Passes CX X E) : OpR X (compareOp .Lt) (rCmp2 X.K .Lt g sp E) := fun pins s σ H x y v u Q I rx ry h => PySem.W.cmp_ofLt (rc_own2 hu F hr hx pins s σ H x y v u Q I rx ry h)
theorem op_ownGe (hu : X.A.units < cLine) (F : FnR X.prog X.w X.K X.mg X.base CX k g sp) (hr : Room k X.A) (hx : Passes CX X E) : OpR X (compareOp .GtE) (rCmp2 X.K .GtE g sp E) := fun pins s σ H x y v u Q I rx ry h => PySem.W.cmp_ofGtE (rc_own2 hu F hr hx pins s σ H x y v u Q I rx ry h)
theorem op_ownGt (hu : X.A.units < cLine) (F : FnR X.prog X.w X.K X.mg X.base CX k g sp) (hr : Room k X.A) (hx : Passes CX X E) : OpR X (compareOp .Gt) (rCmp2 X.K .Gt g sp E) := fun pins s σ H x y v u Q I rx ry h => PySem.W.cmp_ofGt (rc_own2 hu F hr hx pins s σ H x y v u Q I rx ry h)
end
end OwR
end
section
/-! a != b of own classes that define == alone. -/
namespace OwR
open PySem PySem.Spec PyProof.Rows L2
theorem slot_ne : Slot "object" "__ne__" "object.__ne__" := Slot.of (T := "object") (name := "__ne__") (owner := "object") (n := "__ne__") (by rw [typeLookup_type, builtinLookup_eq_fast]; kernel_rfl) (by decide +kernel) (by decide +kernel) (by decide +kernel)
  (.inl (by decide +kernel)) (by rw [isSubtype_type]; kernel_rfl)
theorem entry_ne : entryFor table "object.__ne__" = some Builtin.«object.__ne__» := entryFor_of_tree (by kernel_rfl)
theorem args_ne (a b : Value) : argsOk "object.__ne__" ⟨[a, b], []⟩ := by unfold argsOk; kernel_rfl
section
variable {prog : Program} {w : World} {A : Around} {E : Value → Shared → Prop} {s : Shared} {K : PySem.W.Frag} {x C f : Addr} {ox : Obj} {od : Option Obj} {b : Value}
theorem bound_ne {M : Model} {args : List Value} {Q : Option Value → Shared → Prop} (sp : PySem.W.Looks M s.heap (specialOf (.ref x) "__ne__") (some (.builtin "object.__ne__"))) (h : wpAny M A (call (.builtin "object.__ne__") (.ref x :: args)) (fun v => Q (some v)) E s) :
    wpAny M A (callSpecialIfBound? (.ref x) "__ne__" args) Q E s := by
  have fin : wpAny M A (call (.builtin "object.__ne__") ([.ref x] ++ args) >>= fun v => pure (some v)) Q E s := wpAny_bind (wpAny_mono h (fun v s' q => wpAny_pure q) fun _ _ q => q)
  have hb : bindSpecial (.builtin "object.__ne__") (.ref x) = pure (.builtin "object.__ne__", [.ref x]) := slot_ne.bind _
  simp only [callSpecialIfBound?, bindSpecialIfBound?]
  refine wpAny_holding (wpAny_bind (wpAny_bind (sp.here ?_)))
  simp only [hb]
  refine wpAny_bind (wpAny_askSetting (wpAny_ite ?_))
  split
  · exact wpAny_bind (wpAny_pure (wpAny_pure fin))
  · exact wpAny_tryCatch (wpAny_bind (wpAny_pure (wpAny_pure fin)))
theorem ne_K {tb : Value} {Q : Value → Shared → Prop} (hu : A.units + 1 < cLine) (X : K.In s.heap) (I : PySem.W.InstAt s.heap x ox C od) (hb : PySem.W.Looks (model prog w) s.heap (typeOf b) tb) (nf : PySem.W.notFirst K C tb = true) (obj : PySem.W.mroIn K C (.type "object") = some true)
    (ne : PySem.W.findIn K (.ref C) "__ne__" = some (some (.builtin "object.__ne__"))) (eq : PySem.W.findIn K (.ref C) "__eq__" = some (some (.ref f))) (fn : PySem.W.isFn K (.ref f) = true)
    (h : wpAny (model prog w) A.in1 (call (.ref f) [.ref x, b]) (fun v s' => ∃ c, v = .bool c ∧ Q (.bool (!c)) s') E s) : wpAny (model prog w) A (richCompare .NotEq (.ref x) b) Q E s := by
  have sp : PySem.W.Looks (model prog w) s.heap (specialOf (.ref x) "__ne__") (some (.builtin "object.__ne__")) := I.type.andThen (PySem.W.looks_findIn X ne)
  have inst : PySem.W.Looks (model prog w) s.heap (isInstance (.ref x) (.type "object")) true := I.type.andThen (PySem.W.looks_mroIn X obj)
  have hu0 : A.units < cLine := by omega
  have body : wpAny (model prog w) A (call (.builtin "object.__ne__") [.ref x, b]) (fun v s' => ∃ c, v = .bool c ∧ Q (.bool c) s') E s := by
    refine wpAny_call (codeAny_call_builtin slot_ne.plain entry_ne (@PySem.W.check_slot (model prog w) _ _ _ "object.__ne__" "object" "__ne__" (.ref x) [b] [] _ (by decide +kernel) (by decide +kernel) inst (args_ne _ _) ?_))
    show wpAny _ _ (do
      cRoomFor "comparison" [.ref x, b]
      match ← callSpecialIfBound? (.ref x) "__eq__" [b] with
      | some .notImplemented | none => ret .notImplemented
      | some r => ret (.bool (!(← truthy r)))) _ _ s
    refine wpAny_bind (wpAny_cRoomFor hu ?_)
    refine wpAny_bind (PySem.W.ifBound_K X I eq fn (wpAny_mono h (fun v s' q => ?_) fun _ _ q => q))
    obtain ⟨c, rfl, q⟩ := q
    show wpAny _ _ (truthy (.bool c) >>= fun t => ret (.bool (!t))) _ _ s'
    exact wpAny_bind (wpAny_pure (wpAny_pure ⟨!c, rfl, q⟩))
  have one : wpAny (model prog w) A (tryCompare (.ref x) "__ne__" b) (fun r s' => ∃ c, r = some (.bool c) ∧ Q (.bool c) s') E s := by
    unfold tryCompare
    refine wpAny_bind (bound_ne sp (wpAny_mono body (fun v s' q => ?_) fun _ _ q => q))
    obtain ⟨c, rfl, q⟩ := q
    exact wpAny_pure ⟨c, rfl, q⟩
  unfold richCompare
  simp only [oneThing_ref]
  refine wpAny_holding (wpAny_bind (wpAny_cRoomFor hu0 ?_))
  refine wpAny_bind (I.type.here (wpAny_bind (hb.here ?_)))
  have fin : ∀ r s', (∃ c, r = some (Value.bool c) ∧ Q (.bool c) s') → ∃ v, r = some v ∧ Q v s' := fun r s' ⟨c, e, q⟩ => ⟨_, e, q⟩
  split
  · rename_i q
    have e : PySem.W.subIn K tb (.ref C) = some false := by
      rcases Bool.or_eq_true_iff.mp nf with e | e
      · rw [beq_iff_eq.mp e] at q
        simp at q
      · exact beq_iff_eq.mp e
    refine wpAny_bind ((PySem.W.looks_subIn X e).here ?_)
    simp only [if_false, Bool.false_eq_true]
    refine wpAny_bind (wpAny_mono one (fun r s' z => ?_) fun _ _ e => e)
    obtain ⟨c, rfl, hq⟩ := z
    exact wpAny_pure hq
  · refine wpAny_bind (m := pure false) (wpAny_pure ?_)
    simp only [if_false, Bool.false_eq_true]
    refine wpAny_bind (wpAny_mono one (fun r s' z => ?_) fun _ _ e => e)
    obtain ⟨c, rfl, hq⟩ := z
    exact wpAny_pure hq
end
/-- the class has == of its own and object's != -/
structure Ne1 (K : PySem.W.Frag) (C g : Addr) : Prop where
  eq : PySem.W.findIn K (.ref C) "__eq__" = some (some (.ref g))
  fn : PySem.W.isFn K (.ref g) = true
  ne : PySem.W.findIn K (.ref C) "__ne__" = some (some (.builtin "object.__ne__"))
  obj : PySem.W.mroIn K C (.type "object") = some true
/-- a != b: the promise of == with the answer turned -/
def rNe2 (K : PySem.W.Frag) (g : Addr) (sp : Sp) (E : XK) : R2 := fun x y H Q => ∃ (p q C D dx dy : Addr) (fs gs : List (Str × V)), x = .ref p ∧ y = .ref q ∧ H p = some (.ins C dx fs) ∧ H q = some (.ins D dy gs) ∧ Ne1 K C g ∧ PySem.W.notFirst K C (.ref D) = true ∧ sp [.ref p, .ref q] H (fun v H' => ∃ c, v = .bl c ∧ Q (.bl (!c)) H') E
theorem op_ownNe {X : Cx} {CX : CXT} {k : Nat} {g : Addr} {sp : Sp} {E : XK} (hu : X.A.units + 1 < cLine) (F : FnR X.prog X.w X.K X.mg X.base CX k g sp) (hr : Room (k + 1) X.A) (hx : Passes CX X E) : OpR X (compareOp .NotEq) (rNe2 X.K g sp E) := by
  intro pins s σ H x y v u Q I rx ry h
  obtain ⟨p, q, C, D, dx, dy, fs, gs, rfl, rfl, ep, eq, c1, nf, hq⟩ := h
  obtain rfl : v = Value.ref p := rx
  obtain rfl : u = Value.ref q := ry
  obtain ⟨ox, od, J, _⟩ := StX.insC_at I (.inr ⟨dx, fs, ep⟩)
  obtain ⟨oy, oe, J2, _⟩ := StX.insC_at I (.inr ⟨dy, gs, eq⟩)
  refine PySem.W.cmp_ofNotEq (ne_K hu I.kIn J J2.type nf c1.obj c1.ne c1.eq c1.fn ?_)
  refine wpAny_mono (run_in (us := [.ref p, .ref q]) (vs := [.ref p, .ref q]) F hr hx I (.cons rfl (.cons rfl .nil)) hq) (fun v s' z => ?_) fun _ _ z => z
  obtain ⟨x2, H2, I2, r2, c, rfl, z⟩ := z
  exact ⟨c, r2, .bl (!c), H2, I2, rfl, z⟩
/-! ### len(o), o of an own class -/
structure Len1 (K : PySem.W.Frag) (C g : Addr) : Prop where
  at_ : PySem.W.findIn K (.ref C) "__len__" = some (some (.ref g))
  fn : PySem.W.isFn K (.ref g) = true
def rLenO (K : PySem.W.Frag) (g : Addr) (sp : Sp) (E : XK) : List V → Hp → VK → Prop := fun xs H Q => ∃ (a C dx : Addr) (fs : List (Str × V)), xs = [.ref a] ∧ H a = some (.ins C dx fs) ∧ Len1 K C g ∧ sp [.ref a] H (fun v H' => ∃ n : Int, v = .int n ∧ 0 ≤ n ∧ n < 2 ^ 63 ∧ Q (.int n) H') E
theorem call_lenO {X : Cx} {CX : CXT} {k : Nat} {g : Addr} {sp : Sp} {E : XK} (F : FnR X.prog X.w X.K X.mg X.base CX k g sp) (hr : Room (k + 1) X.A) (hx : Passes CX X E) : CallR X (.builtin "len") (rLenO X.K g sp E) := by
  intro pins s σ H xs us Q I r h
  obtain ⟨a, C, dx, fs, rfl, ea, c, hq⟩ := h
  obtain rfl := Vals.ref1 r
  obtain ⟨ox, od, J, _⟩ := StX.insC_at I (.inr ⟨dx, fs, ea⟩)
  obtain ⟨mm, fr⟩ := I.fr
  refine PySem.W.len_K fr I.ok.mod.kin J c.at_ c.fn (wpAny_mono (run_in (us := [.ref a]) (vs := [.ref a]) F hr hx I (.cons rfl .nil) hq) (fun v s' z => ?_) fun _ _ z => z)
  obtain ⟨y, H2, I2, ry, n, rfl, n0, n1, z⟩ := z
  obtain ⟨t, rfl⟩ := ry
  exact ⟨⟨n0, n1⟩, .int n, H2, I2.tok _, ⟨_, rfl⟩, z⟩
end OwR
end
section
/-! Walks over objects of own classes whose __iter__ gives a tuple's iterator. -/
namespace OwR
open PySem PySem.Spec PyProof.Rows L2
abbrev itTup (l : Addr) (i : Nat) : Obj := { cls := .type "tuple_iterator", data := .fields #[.ref l, .int i 0] }
/-- at it the iterator of the tuple at l, just made -/
def ItT (l it : Addr) : HO := .ext fun h => h.get? it = some (itTup l 0)
theorem itT_ok {P : Program} {w : World} {H : Hp} {h : Heap} {l it : Addr} (e : h.get? it = some (itTup l 0)) : ObjOk P w H h it (ItT l it) := ⟨e, ⟨_, e⟩, fun h1 h2 q k => k _ q⟩
theorem itT_get {X : Cx} {pins : List (Addr × Obj)} {σ : L2.St} {H : Hp} {s : Shared} {l it : Addr} (I : Inv X pins σ H s) (e : H it = some (ItT l it)) : s.heap.get? it = some (itTup l 0) := (I.hok it _ e).1
/-- iter(t), t a tuple -/
def rIterT (K : PySem.W.Frag) : List V → Hp → VK → Prop := fun xs H Q => ∃ (l : Addr) (zs : List V), xs = [.ref l] ∧ SqT K H l zs ∧ ∀ it, H it = none → Q (.ref it) (upd H it (ItT l it))
theorem call_iterT {X : Cx} : CallR X (.builtin "iter") (rIterT X.K) := by
  intro pins s σ H xs us Q I r h
  obtain ⟨l, zs, rfl, hq, q⟩ := h
  obtain rfl := Vals.ref1 r
  obtain ⟨its, rv, pl, hz⟩ := I.tuple hq
  refine Calls.call_function_entry (by decide +kernel) (by decide +kernel) PySem.W.kdk_entry_iter (PySem.W.kdk_args_iter _) ?_
  unfold Builtin.«iter»
  refine wpAny_bind (m := someArgs "iter" 1 2 _) (wpAny_of_eq (a := [Value.ref l]) (by first | rfl | kernel_rfl!) ?_)
  show wpAny _ _ (pyIter (.ref l) >>= fun v => ret v) _ _ _
  refine wpAny_bind (wpAny_pyIter_tuple (show s.heap.IsTuple l its.toArray from pl) ?_)
  exact wpAny_pure ⟨_, rfl, .ref s.heap.objs.size, _, I.laid (t' := s.toks) (fun b u e => Heap.get?_push_of_some _ e) (Nat.le_refl _) (itT_ok (Heap.get?_push_size _ rfl)), rfl, q _ (I.hok.fresh (Nat.le_refl _))⟩
/-- .. as young as the call -/
def rIterTN (K : PySem.W.Frag) (n : Nat) : List V → Hp → VK → Prop := fun xs H Q => ∃ (l : Addr) (zs : List V), xs = [.ref l] ∧ SqT K H l zs ∧ ∀ it, H it = none → n ≤ it → Q (.ref it) (upd H it (ItT l it))
theorem call_iterTN {X : Cx} : CallR X (.builtin "iter") (rIterTN X.K X.s_0.heap.objs.size) := by
  intro pins s σ H xs us Q I r h
  obtain ⟨l, zs, rfl, hq, q⟩ := h
  obtain rfl := Vals.ref1 r
  obtain ⟨its, rv, pl, hz⟩ := I.tuple hq
  refine Calls.call_function_entry (by decide +kernel) (by decide +kernel) PySem.W.kdk_entry_iter (PySem.W.kdk_args_iter _) ?_
  unfold Builtin.«iter»
  refine wpAny_bind (m := someArgs "iter" 1 2 _) (wpAny_of_eq (a := [Value.ref l]) (by first | rfl | kernel_rfl!) ?_)
  show wpAny _ _ (pyIter (.ref l) >>= fun v => ret v) _ _ _
  refine wpAny_bind (wpAny_pyIter_tuple (show s.heap.IsTuple l its.toArray from pl) ?_)
  exact wpAny_pure ⟨_, rfl, .ref s.heap.objs.size, _, I.laid (t' := s.toks) (fun b u e => Heap.get?_push_of_some _ e) (Nat.le_refl _) (itT_ok (Heap.get?_push_size _ rfl)), rfl, q _ (I.hok.fresh (Nat.le_refl _)) I.sz⟩
/-! ### a def whose promise may speak of where the call stands -/
def FnS (P : Program) (w : World) (K : PySem.W.Frag) (mg : Str → Option Value) (base : Heap) (CX : CXT) (k : Nat) (f : Addr) (fd : FuncData) (ps : List Str) (sp : Shared → Sp) : Prop :=
  ∀ (A : Around) (outer : List Env) (s : Shared) (H : Hp) (args : Args) (us : List Value) (vs : List V) (Q : VK) (E : XK), Room k A → Env0 P w K mg base A outer s H → BindsTo s fd args (ps.zip us) → Vals vs us → sp s vs H Q E →
    codeAny (model P w) A (.call (.ref f) args) (CR CX outer P w H s Q E) s
section
variable {CX : CXT} {P : Program} {w : World} {K : PySem.W.Frag} {mg : Str → Option Value} {base : Heap} {k : Nat} {f : Addr} {name qual : Str} {params : Arguments} {body : List Stmt} {scope : Scope} {dV kV doc pm cdv ct oc : Value} {an od : Option Addr}
  {osl : Array (Option Value)} {N ps : List Str} {sp : Shared → Sp}
theorem fn_ofS (lk : K.lookup f = some ⟨oc, od, .func (PySem.W.fnOf name qual params body scope dV kV doc pm an cdv ct), osl⟩) (hcd : PySem.W.codeIn K cdv qual = true) (S : FnScope N ps scope)
    (len : ∀ s vs H Q E, sp s vs H Q E → vs.length = ps.length)
    (hbody : ∀ (A : Around) (outer : List Env) (s : Shared) (H : Hp) (vs : List V) (Q : VK) (E : XK), Room k (A.deeper (envOfC qual scope s.heap.objs.size f cdv)) → sp s vs H Q E →
      ∃ t, PSs (cxOf CX P w K mg base N qual scope f cdv A outer s H E) body t ∧ t { nx := fun _ H' => Q .non H', rt := Q } (start N vs) H) :
    FnS P w K mg base CX (k + 1) f (PySem.W.fnOf name qual params body scope dV kV doc pm an cdv ct) ps sp := by
  intro A outer s H args us vs Q E hr e0 hb r hsp
  have hl := len _ _ _ _ _ hsp
  have KS : K.In s.heap := e0.mod.kin.keeps fun b o e => (e0.bs b o e).1
  have lims : s.heap.NoLimit := e0.mod.nolimit.keeps fun b o e => (e0.bs b o e).1
  have kinds : ∀ y ∈ ps.zip us, scope.names.lookup y.1 = some .local ∨ (scope.names.lookup y.1 = some .cell ∧ ((cellsFrom (s.heap.objs.size + 1) scope.names []).lookup y.1).isSome = true) := fun y hy =>
    (S.par y.1 (List.of_mem_zip hy).1).imp id fun q => ⟨q, PySem.W.cellsFrom_some _ _ _ (.inl q)⟩
  refine codeAny_call_function hr.depth (KS _ _ lk) rfl S.co S.gen rfl (PySem.W.codeRec_of KS hcd) (hb _ _ _ _ ?_)
  refine wpAny_newFunctionEnv_cells S.kind kinds fun env he s1 x => ?_
  subst he
  refine ⟨lims.keeps x.toInCall.keep, codeAny_func ?_⟩
  obtain ⟨t, ht, hq⟩ := hbody A outer s H vs Q E (hr.deeper _) hsp
  have I : Inv (cxOf CX P w K mg base N qual scope f cdv A outer s H E) [] (start N vs) H s1 := inv_start S hr.hd e0 hl r x
  refine wpAny_mono (ht.run [] s1 (start N vs) H _ I hq) (fun fl s' hs => ?_) fun _ _ z => z
  have done : ∀ {σ' : L2.St} {H' : Hp} {v : V} {u : Value}, Inv (cxOf CX P w K mg base N qual scope f cdv A outer s H E) [] σ' H' s' → RelV v u → Q v H' → CE outer P w H s Q u s' :=
    fun {σ' H' v u} J rv q => ⟨v, H', J.os, J.bare, J.base, J.hok, rv, q⟩
  cases fl with
  | ret u =>
    obtain ⟨v, σ', H', J, rv, q⟩ := hs
    exact done J rv q
  | next =>
    obtain ⟨σ', H', J, q⟩ := hs
    exact done (v := V.non) (u := Value.none) J rfl q
  | brk => exact (hs.elim fun _ z => z.elim fun _ z => z.2.elim)
  | cont => exact (hs.elim fun _ z => z.elim fun _ z => z.2.elim)
end
/-- def __iter__(self): return iter(self.fld) -/
def spIt (C : Addr) (K : PySem.W.Frag) (fld : Str) : Shared → Sp := fun s vs H Q _ => ∃ (a dx l : Addr) (fs : List (Str × V)) (zs : List V), vs = [.ref a] ∧ H a = some (.ins C dx fs) ∧ fs.lookup fld = some (.ref l) ∧ SqT K H l zs ∧ ∀ it, H it = none → s.heap.objs.size ≤ it → Q (.ref it) (upd H it (ItT l it))
/-- .. at a call with its arguments by place -/
def FnSR (P : Program) (w : World) (K : PySem.W.Frag) (mg : Str → Option Value) (base : Heap) (CX : CXT) (k : Nat) (f : Addr) (sp : Shared → Sp) : Prop :=
  ∀ (A : Around) (outer : List Env) (s : Shared) (H : Hp) (us : List Value) (vs : List V) (Q : VK) (E : XK), Room k A → Env0 P w K mg base A outer s H → Vals vs us → sp s vs H Q E →
    codeAny (model P w) A (.call (.ref f) ⟨us, []⟩) (CR CX outer P w H s Q E) s
theorem FnS.raw {P : Program} {w : World} {K : PySem.W.Frag} {mg : Str → Option Value} {base : Heap} {CX : CXT} {k : Nat} {f : Addr} {fd : FuncData} {ps : List Str} {sp : Shared → Sp} (F : FnS P w K mg base CX k f fd ps sp) (len : ∀ s vs H Q E, sp s vs H Q E → vs.length = ps.length)
    (hb : Binds K fd ps []) : FnSR P w K mg base CX k f sp := fun A outer s H us vs Q E hr e0 r hs => by
  have hl : (us ++ []).length = ps.length := by
    rw [List.append_nil, ← r.length]
    exact len _ _ _ _ _ hs
  have b := hb s us (e0.mod.kin.keeps fun b o e => (e0.bs b o e).1) hl
  rw [List.append_nil] at b
  exact F A outer s H ⟨us, []⟩ us vs Q E hr e0 b r hs
structure OwnIt (K : PySem.W.Frag) (C f : Addr) (fld : Str) : Prop where
  cls : Cls K C
  na : NoAttr K C fld
  at_ : PySem.W.findIn K (.ref C) "__iter__" = some (some (.ref f))
  fn : PySem.W.isFn K (.ref f) = true
/-- over an object whose __iter__ gives the iterator of the tuple at l -/
def iOwn (K : PySem.W.Frag) (f : Addr) (fld : Str) (te : TE) : TI := fun σ H R => te σ H fun x H1 => ∃ (a C dx l : Addr) (fs : List (Str × V)) (zs : List V), x = .ref a ∧ H1 a = some (.ins C dx fs) ∧ OwnIt K C f fld ∧ fs.lookup fld = some (.ref l) ∧ SqT K H1 l zs ∧ R (Itt K l) H1
theorem tup_next {M : Model} {A : Around} {E : Value → Shared → Prop} {s : Shared} {it l : Addr} {Q : Value → Shared → Prop} (h : s.heap.get? it = some (itTup l 0)) (q : Q (.ref it) s) : PySem.W.OwitIt M A Q E (.ref it) s := by
  unfold PySem.W.OwitIt
  exact wpAny_specialOf (name := Str.ofString "__next__") (⟨_, h, rfl⟩ : s.TypeIs (.ref it) "tuple_iterator") PySem.F.slot_tuple_iterator_next.lookup q
theorem pi_own {X : Cx} {CX : CXT} {k : Nat} {f : Addr} {fld : Str} {E : XK} {tg e : Expr} {te : TE} (he : PE X e te) (F : ∀ C, OwnIt X.K C f fld → FnSR X.prog X.w X.K X.mg X.base CX k f (spIt C X.K fld)) (hr : Room k X.A) (hx : Passes CX X E) : PI X tg e (iOwn X.K f fld te) := by
  refine ⟨fun pins s σ H R I h => ?_⟩
  refine thn (he.run pins s σ H _ I h) fun u s1 ⟨x, H1, I1, rx, a, C, dx, l, fs, zs, ex, ea, c, lk, sq, hq⟩ => ?_
  subst ex
  obtain rfl : u = Value.ref a := rx
  obtain ⟨ox, od, J, _⟩ := StX.insC_at I1 (.inr ⟨dx, fs, ea⟩)
  obtain ⟨mm, fr⟩ := I1.fr
  have sp0 : spIt C X.K fld s1 [.ref a] H1 (fun v H2 => ∃ it, v = .ref it ∧ H1 it = none ∧ s1.heap.objs.size ≤ it ∧ H2 = upd H1 it (ItT l it)) E := ⟨a, dx, l, fs, zs, rfl, ea, lk, sq, fun it e n => ⟨it, rfl, e, n, rfl⟩⟩
  refine PySem.W.owit_iter fr I1.ok.mod.kin J c.at_ c.fn (wpAny_call (codeAny_mono (F C c X.A X.stack s1 H1 [.ref a] [.ref a] _ E hr I1.env0 (.cons rfl .nil) sp0) fun r s' z => ?_))
  match r, z with
  | .error er, z => exact hx pins σ H1 s1 er s' I1 z
  | .ok (.ret v), z =>
    obtain ⟨y, H2, os, br, un, ok, ry, it, ey, e1, hn, eH⟩ := z
    subst ey
    subst eH
    obtain rfl : v = Value.ref it := ry
    have I2 : Inv X pins σ (upd H1 it (ItT l it)) s' := I1.call' os un ok br fun b m => by cases m
    have eo := itT_get I2 upd_same
    refine tup_next eo ?_
    have e2 : upd H1 it (ItT l it) it = some (.ext fun h => h.get? it = some (itTup l 0)) := upd_same
    have I3 := ItX.inv_drop I2 e2
    rw [ItX.dropH_upd e1] at I3
    have fp := ItX.inv_fp I2 e2 (Nat.le_trans I1.sz hn)
    rw [ItX.dropH_upd e1] at fp
    refine ⟨it, [it], _, _, H1, rfl, I3, turn_tuple l it, ⟨_, eo, rfl, rfl⟩, fun b hb => ?_, hq⟩
    obtain rfl : b = it := by simpa using hb
    exact fp
end OwR
end
section
/-! list(o), o an object whose __iter__ gives a tuple's iterator and whose __len__ its length. -/
namespace OwR
open PySem PySem.Spec PyProof.Rows L2
section
variable {X : Cx} {pins : List (Addr × Obj)} {σ : L2.St} {H : Hp} {s : Shared}
/-- a list has been filled, an iterator has turned -/
theorem listed {S it : Addr} {xs ys : List V} {acc : Array Value} {c : Nat} {h' : Heap} {t' : Nat} (I : Inv X pins σ H s) (fp : FpOk X pins H it) (hS : H S = some (.lst ys)) (k : ∀ b o, b ≠ S → b ≠ it → s.heap.get? b = some o → h'.get? b = some o)
    (eS : h'.get? S = some ({ cls := .type "list", dict := none, data := .seq acc c, slots := #[] } : Obj)) (rv : Vals xs acc.toList) (hz : xs.length ≤ sizeLine) : Inv X pins σ (upd H S (.lst xs)) { s with heap := h', toks := t' } := by
  have nS : ∀ {b : Addr} {u : HO}, H b = some u → (∀ zs, u ≠ .lst zs) → b ≠ S := fun {b u} e n z => by
    rw [z, hS] at e
    exact n ys (Option.some.inj e).symm
  have nN : ∀ {b : Addr}, H b = none → b ≠ S := fun {b} e z => by
    rw [z, hS] at e
    cases e
  have nI : ∀ {b : Addr} {u : HO}, H b = some u → b ≠ it := fun {b u} e z => by
    rw [z, fp.1] at e
    cases e
  have ni : ∀ {b : Addr}, b ∉ [it] → b ≠ it := fun {b} m z => m (List.mem_singleton.mpr z)
  refine I.step (g' := s.gens) (d' := s.drawn) (ch := [it]) (fun b m => ?_) (fun b o _ _ m e n => k b o (nN n) (ni m) e) (fun b o _ _ m e n => ⟨o.slots, k b o (nN n) (ni m) e⟩) (fun b o m e n => by rw [upd_ne (nN n)]; exact n) (fun b o m e => ?_)
    (fun b zs e => by rw [upd_ne (nS e fun _ z => by cases z)]; exact e) (fun b o u e => by rw [upd_ne (nS e fun _ z => by cases z)]; exact e) (fun b ps e => ⟨#[], by rw [upd_ne (nS e fun _ z => by cases z), e]; simp⟩) (fun m hm => ?_) (fun b u e => ?_) I.bare
  · obtain rfl : b = it := by simpa using m
    exact ⟨fp.2.2.2.1, fp.2.1, fp.2.2.2.2.1, fp.2.2.2.2.2⟩
  · by_cases c : b = S
    · subst c
      exact ⟨_, eS⟩
    · exact ⟨o, k b o c (ni m) e⟩
  · obtain ⟨o, es, ep, ho, r⟩ := hm
    exact ⟨o, es, ep, k _ o (nN I.free) (Ne.symm fp.2.1) ho, r⟩
  · by_cases c : b = S
    · subst c
      rw [upd_same] at e
      cases e
      exact ⟨hz, acc.toList, _, rv, eS⟩
    · rw [upd_ne c] at e
      refine (I.hok b u e).stay (fun d v hd q => k d v ?_ ?_ q) (fun d z => ?_) fun d zs z => ?_
      · rcases hd with z | z
        · rw [z]
          exact c
        · exact nS z fun _ w => by cases w
      · rcases hd with z | z
        · rw [z]
          exact nI e
        · exact nI z
      · rw [upd_ne (nS z fun _ w => by cases w)]
        exact z
      · rw [upd_ne (nS z fun _ w => by cases w)]
        exact z
end
theorem items_all {its : List Value} {acc : Array Value} (h : ItemsOf (fun i v => its.toArray[i]? = some v) acc its.toArray.size) : acc.toList = its := by
  refine List.ext_getElem? fun i => ?_
  obtain ⟨h1, h2⟩ := h
  have h1' : acc.size = its.length := by simpa using h1
  cases e : acc.toList[i]? with
  | some v =>
    have e2 : acc[i]? = some v := by rw [← Array.getElem?_toList]; exact e
    have e3 : its.toArray[i]? = some v := h2 i v e2
    rw [List.getElem?_toArray] at e3
    exact e3.symm
  | none =>
    have : acc.toList.length ≤ i := List.getElem?_eq_none_iff.mp e
    rw [Array.length_toList, h1'] at this
    exact (List.getElem?_eq_none this).symm
/-- len(self) is len(self.fld) -/
def spLn (C : Addr) (K : PySem.W.Frag) (fld : Str) : Sp := fun vs H Q _ => ∃ (a dx l : Addr) (fs : List (Str × V)) (zs : List V), vs = [.ref a] ∧ H a = some (.ins C dx fs) ∧ fs.lookup fld = some (.ref l) ∧ SqT K H l zs ∧ Q (.int (zs.length : Nat)) H
def rListO (K : PySem.W.Frag) (f g : Addr) (fld : Str) : List V → Hp → VK → Prop := fun xs H Q => ∃ (a C dx l : Addr) (fs : List (Str × V)) (zs : List V), xs = [.ref a] ∧ H a = some (.ins C dx fs) ∧ OwnIt K C f fld ∧ Len1 K C g ∧ fs.lookup fld = some (.ref l) ∧ SqT K H l zs ∧ ∀ q, H q = none → Q (.ref q) (upd H q (.lst zs))
theorem asInt_of (n : Int) (t : Tok) : asInt? (.int n t) = pure (some n) := rfl
/-- the hint of how many there are -/
theorem hint_own {prog : Program} {w : World} {A : Around} {E : Value → Shared → Prop} {s : Shared} {K : PySem.W.Frag} {a C g : Addr} {ox : Obj} {od : Option Obj} {Q : Bool → Shared → Prop} (X : K.In s.heap) (J : PySem.W.InstAt s.heap a ox C od) (c : Len1 K C g)
    (h : ∀ E' : Value → Shared → Prop, wpAny (model prog w) A (call (.builtin "len") [.ref a]) (fun v s' => ∃ (n : Int) (t : Tok), v = .int n t ∧ n.toNat ≤ sizeLine ∧ Q (n != 0) s') E' s) : wpAny (model prog w) A (Builtin.List.listLengthHint (.ref a)) Q E s := by
  unfold Builtin.List.listLengthHint
  refine wpAny_bind (wpAny_bind (J.type.here ((PySem.W.looks_findIn X c.at_).here ?_)))
  refine PySem.W.KFB.if_not rfl ?_
  refine wpAny_ite_split (fun _ => ?_) (fun z => absurd rfl z)
  refine wpAny_bind (wpAny_rule ?_)
  refine wpAny_bind (wpAny_attempt (wpAny_mono (h _) (fun v s' q => ?_) fun _ _ z => z))
  obtain ⟨n, t, rfl, hn, q⟩ := q
  refine wpAny_bind (m := asInt? (.int n t)) (wpAny_pure ?_)
  exact PySem.W.KFB.if_not (notLongL hn) (wpAny_pure q)
theorem call_listO {X : Cx} {k : Nat} {f g : Addr} {fld : Str} (F : ∀ C, OwnIt X.K C f fld → FnSR X.prog X.w X.K X.mg X.base CX0 k f (spIt C X.K fld)) (G : ∀ C, Len1 X.K C g → OwnIt X.K C f fld → FnR X.prog X.w X.K X.mg X.base CX0 k g (spLn C X.K fld)) (hc : X.calm = true) (hr : Room (k + 3) X.A) : CallR X (.type "list") (rListO X.K f g fld) := by
  intro pins s σ H xs us Q I rv h
  obtain ⟨a, C, dx, l, fs, zs, rfl, ha, cI, cL, lk, sq, q⟩ := h
  obtain rfl := Vals.ref1 rv
  have fr0 : H s.heap.objs.size = none := I.hok.fresh (Nat.le_refl _)
  refine callType_codes (Q₁ := fun obj t => obj = .ref s.heap.objs.size ∧ t = { s with heap := s.heap.push { cls := .type "list", data := .seq #[] } }) PySem.F.called_list (PySem.F.typeCall_list_1 _) PySem.F.entry_list_init (code_list_new _ ⟨rfl, rfl⟩) fun obj t ht => ?_
  obtain ⟨rfl, rfl⟩ := ht
  have hS : (s.heap.push { cls := .type "list", data := .seq #[] }).get? s.heap.objs.size = some { cls := .type "list", data := .seq #[] } := Heap.get?_push_size _ rfl
  refine ⟨⟨_, hS, rfl⟩, PySem.F.args_list_init_2 _ _, ?_⟩
  have I1 : Inv X pins σ (upd H s.heap.objs.size (.lst [])) { s with heap := s.heap.push { cls := .type "list", data := .seq #[] } } := I.lnew (its := []) (t' := s.toks) .nil (Nat.zero_le _)
  generalize eSz : s.heap.objs.size = S at *
  show wpAny _ _ (do let old ← Builtin.List.listItems (.ref S); Builtin.List.listUpdate (.ref S) (fun _ => #[]); letGo old.toList.reverse; Builtin.List.listExtendWith (.ref S) (.ref a) .none) _ _ _
  refine wpAny_bind ?_
  unfold Builtin.List.listItems
  refine wpAny_bind (wpAny_seqItems hS rfl (wpAny_pure ?_))
  show wpAny _ _ (updateSeq S (fun _ => #[]) >>= fun _ => letGo (#[] : Array Value).toList.reverse >>= fun _ => Builtin.List.listExtendWith (.ref S) (.ref a) .none) _ _ _
  refine wpAny_bind (wpAny_updateSeq hS rfl ?_)
  have I2 := I1.lset (f := fun _ => #[]) (its := []) (its' := []) (ys := []) (t' := s.toks) upd_same hS rfl .nil (Nat.zero_le _)
  rw [upd_upd] at I2
  refine wpAny_bind (wpAny_letGo ?_)
  have ha2 : upd H S (.lst []) a = some (.ins C dx fs) := by
    rw [upd_ne (ne_of_none ha fr0)]
    exact ha
  have sq2 : SqT X.K (upd H S (.lst [])) l zs := sq.elim (fun r => .inl (r.elim (fun e => .inl (by rw [upd_ne (ne_of_none e fr0)]; exact e)) fun ⟨o, e⟩ => .inr ⟨o, by rw [upd_ne (ne_of_none e fr0)]; exact e⟩)) .inr
  have eS2 : upd H S (.lst []) S = some (.lst []) := upd_same
  have done : ∀ s', Inv X pins σ (upd (upd H S (.lst [])) S (.lst zs)) s' → EP X pins σ Q (.ref S) s' := fun s' J => by
    rw [upd_upd] at J
    exact ⟨.ref S, _, J, rfl, q S fr0⟩
  generalize upd H S (.lst []) = H2 at I2 ha2 sq2 eS2 done
  generalize ({ s with heap := ((s.heap.push { cls := .type "list", data := .seq #[] }).update S (Obj.mapSeq fun _ => #[])), toks := s.toks } : Shared) = s2 at I2 ⊢
  have sz := sizeLine_eq
  have nSa : S ≠ a := fun z => by
    rw [z, ha2] at eS2
    cases eS2
  obtain ⟨ox, od, J, _⟩ := StX.insC_at I2 (.inr ⟨dx, fs, ha2⟩)
  obtain ⟨mm, fr⟩ := I2.fr
  obtain ⟨itz, rvz, plz, hz⟩ := I2.tuple sq2
  unfold Builtin.List.listExtendWith
  refine wpAny_bind (J.type.here ?_)
  have t1 : Builtin.List.listSameRef (.ref S) (.ref a) = false := by simp [Builtin.List.listSameRef, nSa]
  have t2 : (Value.ref C == Value.type "list") = false := rfl
  have t3 : (Value.ref C == Value.type "tuple") = false := rfl
  simp only [t3, t2, t1, Bool.false_eq_true, Bool.or_false, if_false]
  have sp0 : spIt C X.K fld s2 [.ref a] H2 (fun v G2 => ∃ it, v = .ref it ∧ H2 it = none ∧ s2.heap.objs.size ≤ it ∧ G2 = upd H2 it (ItT l it)) E0 := ⟨a, dx, l, fs, zs, rfl, ha2, lk, sq2, fun it e n => ⟨it, rfl, e, n, rfl⟩⟩
  refine wpAny_bind (PySem.W.owit_iter fr I2.ok.mod.kin J cI.at_ cI.fn (wpAny_call (codeAny_mono (F C cI X.A.in1.in1 X.stack s2 H2 [.ref a] [.ref a] _ E0 (hr.in1.in1.mono (Nat.le_succ k)) I2.env0.in1.in1 (.cons rfl .nil) sp0) fun r s' z => ?_)))
  match r, z with
  | .error er, z => exact z.elim
  | .ok (.ret v), z =>
    obtain ⟨y, G3, os, br, un, ok, ry, it, ey, e1, hn, eH⟩ := z
    subst ey
    subst eH
    obtain rfl : v = Value.ref it := ry
    have I3 : Inv X pins σ (upd H2 it (ItT l it)) s' := I2.call' os un ok br fun b m => by cases m
    have nlit : l ≠ it := fun e => by
      obtain ⟨o, eo, _⟩ := plz
      exact absurd (Nat.lt_of_lt_of_le (Heap.lt_size eo) (e ▸ hn)) (Nat.lt_irrefl _)
    have mono : ∀ {b : Addr} {u : HO}, H2 b = some u → upd H2 it (ItT l it) b = some u := fun {b u} e => by
      rw [upd_ne (ne_of_none e e1)]
      exact e
    have ha3 := mono ha2
    have eS3 := mono eS2
    have sq3 : SqT X.K (upd H2 it (ItT l it)) l zs := sq2.elim (fun r => .inl (r.elim (fun e => .inl (mono e)) fun ⟨o, e⟩ => .inr ⟨o, mono e⟩)) .inr
    have e2 : upd H2 it (ItT l it) it = some (.ext fun h => h.get? it = some (itTup l 0)) := upd_same
    have fp0 := ItX.inv_fp I3 e2 (Nat.le_trans I2.sz hn)
    rw [ItX.dropH_upd e1] at fp0
    have loop : ∀ s4, Inv X pins σ (upd H2 it (ItT l it)) s4 → codeAny (model X.prog X.w) X.A.in1 (.builtin "list.extend.loop" ⟨[.ref S, .ref it, .none], []⟩) (wants (fun r t => r = .none ∧ EP X pins σ Q (.ref S) t) X.xe) s4 := fun s4 I4 => by
      have eo := itT_get I4 upd_same
      obtain ⟨iz, rz, pz, lz⟩ := I4.tuple sq3
      obtain ⟨z1, l1, c1, r1, _, f1⟩ := I4.lstM eS3
      cases r1
      have W := Walks.tuple (prog := X.prog) (w := X.w) (A := X.A.in1.in1) (I.ok.hd hc) it l nlit iz.toArray
      have I5 := ItX.inv_drop I4 e2
      rw [ItX.dropH_upd e1] at I5
      have nSf : S ∉ [it, l] := fun m => by
        rcases List.mem_cons.mp m with z | m
        · rw [z, e1] at eS2
          cases eS2
        · obtain ⟨o, e3, c3, d3⟩ := pz
          rw [← List.mem_singleton.mp m, f1] at e3
          cases e3
          exact absurd (show Value.type "list" = Value.type "tuple" from c3) (by decide)
      refine codeAny_extend_loopS W.toS (by rw [List.size_toArray, ← rz.length]; exact lz) S nSf .none iz.toArray.size 0 s4 #[] c1 rfl (Nat.zero_le _) ⟨⟨_, eo, rfl, rfl⟩, pz⟩ f1 (ItemsOf.nil _) fun t acc c2 mv f2 ic => ?_
      refine ⟨rfl, done t ?_⟩
      have J5 := listed (xs := zs) (acc := acc) (c := c2) (h' := t.heap) (t' := t.toks) I5 fp0 eS2 (fun b o n1 n2 e => mv.heap b o (fun m => (List.mem_cons.mp m).elim n1 fun m => n2 (List.mem_singleton.mp m)) e) f2 (by rw [items_all ic]; exact rz) lz
      rw [Moved.eq_with mv]
      exact J5
    refine tup_next (itT_get I3 upd_same) ?_
    obtain ⟨ox3, od3, J3, _⟩ := StX.insC_at I3 (.inr ⟨dx, fs, ha3⟩)
    obtain ⟨m3, fr3⟩ := I3.fr
    refine wpAny_bind (wpAny_holding (hint_own I3.kIn J3 cL fun E' => ?_))
    refine PySem.W.len_K fr3 I3.ok.mod.kin J3 cL.at_ cL.fn (wpAny_call (codeAny_mono (G C cL cI X.A.in1.in1.in1 X.stack s' _ [.ref a] [.ref a] (fun v G4 => v = .int (zs.length : Nat) ∧ G4 = upd H2 it (ItT l it)) E0 hr.in1.in1.in1 I3.env0.in1.in1.in1 (.cons rfl .nil) ⟨a, dx, l, fs, zs, rfl, ha3, lk, sq3, rfl, rfl⟩) fun r2 s5 z2 => ?_))
    match r2, z2 with
    | .error er, z2 => exact z2.elim
    | .ok (.ret v2), z2 =>
      obtain ⟨y2, G5, os2, br2, un2, ok2, ry2, ey2, eG⟩ := z2
      subst ey2
      subst eG
      obtain ⟨tk, rfl⟩ := ry2
      have I5 : Inv X pins σ (upd H2 it (ItT l it)) { s5 with toks := s5.toks + 1 } := (I3.call' os2 un2 ok2 br2 fun b m => by cases m).tok _
      refine ⟨⟨Int.natCast_nonneg _, by have : zs.length ≤ 16777216 := by rw [← sz]; exact hz
                                        omega⟩, _, _, rfl, by rw [Int.toNat_natCast]; exact hz, ?_⟩
      refine wpAny_ite_split (fun _ => ?_) (fun _ => wpAny_pure ⟨plainId_quiet PySem.F.plain_extend_loop _, loop _ I5⟩)
      refine wpAny_bind (wpAny_rule ?_)
      refine wpAny_bind ?_
      show wpAny _ _ (updateSeq S (·.push .none) >>= fun _ => updateSeq S (·.pop)) _ _ _
      obtain ⟨z6, l6, c6, r6, _, f6⟩ := I5.lstM eS3
      cases r6
      refine wpAny_bind (wpAny_updateSeq f6 rfl ?_)
      have I6 := I5.lset (f := (·.push Value.none)) (its := []) (its' := [Value.none]) (ys := [.non]) (t' := s5.toks + 1) eS3 f6 (by simp) (.cons rfl .nil) (by rw [List.length_singleton, sz]; decide)
      obtain ⟨z7, l7, c7, r7, _, f7⟩ := I6.lstM upd_same
      obtain ⟨u7, rfl, ru7⟩ := r7.one
      refine wpAny_updateSeq f7 rfl ?_ (by show 1 ≤ sizeLine; rw [sz]; decide) (by show 0 ≤ sizeLine + 1; exact Nat.zero_le _)
      have I7 := I6.lset (f := (·.pop)) (its := [u7]) (its' := []) (ys := []) (t' := s5.toks + 1) upd_same f7 (by rfl) .nil (Nat.zero_le _)
      rw [upd_upd] at I7
      have back : upd (upd H2 it (ItT l it)) S (.lst []) = upd H2 it (ItT l it) := funext fun b => by
        by_cases e : b = S
        · rw [e, upd_same, eS3]
        · rw [upd_ne e]
      rw [back] at I7
      exact wpAny_pure ⟨plainId_quiet PySem.F.plain_extend_loop _, loop _ I7⟩
end OwR
end
section
/-! def f(a, .., *v, k): called with the keyword; instances made so. -/
namespace OwR
open PySem PySem.Spec PyProof.Rows L2
/-- a promise by places and by the values of given keywords -/
def FnRK (P : Program) (w : World) (K : PySem.W.Frag) (mg : Str → Option Value) (base : Heap) (CX : CXT) (k : Nat) (f : Addr) (ks : List Str) (sp : List V → Sp) : Prop :=
  ∀ (A : Around) (outer : List Env) (s : Shared) (H : Hp) (us ws : List Value) (vs zs : List V) (Q : VK) (E : XK), Room k A → Env0 P w K mg base A outer s H → Vals vs us → Vals zs ws → sp zs vs H Q E →
    codeAny (model P w) A (.call (.ref f) ⟨us, ks.zip ws⟩) (CR CX outer P w H s Q E) s
section
variable {CX : CXT} {P : Program} {w : World} {K : PySem.W.Frag} {mg : Str → Option Value} {base : Heap} {k : Nat} {f : Addr} {name qual : Str} {params : Arguments} {body : List Stmt} {scope : Scope} {dV kV doc pm cdv ct oc : Value} {an od : Option Addr}
  {osl : Array (Option Value)} {N ps : List Str} {sp : Sp}
theorem fn_starko {pv kn : Str} (lk : K.lookup f = some ⟨oc, od, .func (PySem.W.fnOf name qual params body scope dV kV doc pm an cdv ct), osl⟩) (hcd : PySem.W.codeIn K cdv qual = true) (S : FnScope N (ps ++ [kn, pv]) scope) (hCX : StX.CXUp CX)
    (hb : ∀ (us rest : List Value) (y : Value), us.length = ps.length → bindArgs (PySem.W.fnOf name qual params body scope dV kV doc pm an cdv ct) ⟨us ++ rest, [(kn, y)]⟩ = (newTuple rest >>= fun t => pure (ps.zip us ++ [(kn, y), (pv, t)])))
    (hbody : ∀ (A : Around) (outer : List Env) (s : Shared) (H : Hp) (vs : List V) (Q : VK) (E : XK), Room k (A.deeper (envOfC qual scope s.heap.objs.size f cdv)) → sp vs H Q E →
      ∃ t, PSs (cxOf CX P w K mg base N qual scope f cdv A outer s H E) body t ∧ t { nx := fun _ H' => Q .non H', rt := Q } (start N vs) H) :
    FnRK P w K mg base CX (k + 1) f [kn] (fun zs vs H Q E => ∃ as rest y, zs = [y] ∧ vs = as ++ rest ∧ as.length = ps.length ∧ rest.length ≤ sizeLine ∧ ∀ p, H p = none → sp (as ++ [y, V.ref p]) (upd H p (.tup rest)) Q E) := by
  intro A outer s H us ws vs zs Q E hr e0 r rz hsp
  obtain ⟨as, rest, y, rfl, rfl, hl, hz, hq⟩ := hsp
  obtain ⟨u1, u2, rfl, r1, r2⟩ := StX.vals_split r
  obtain ⟨yv, rfl, ry⟩ := rz.one
  have fresh : H s.heap.objs.size = none := e0.hok.fresh (Nat.le_refl _)
  have l1 : u1.length = ps.length := r1.length.symm.trans hl
  have l2 : u2.length ≤ sizeLine := r2.length ▸ hz
  refine StX.run_bnd (args := ⟨u1 ++ u2, [kn].zip [yv]⟩) lk hcd S hr e0 (G := fun xs G2 => ∃ p, H p = none ∧ xs = as ++ [y, V.ref p] ∧ G2 = upd H p (.tup rest)) (fun A' Ex Q' h => ?_) fun s2 G2 xs g hr' => ?_
  · show wpAny _ _ (bindArgs _ ⟨u1 ++ u2, [(kn, yv)]⟩) _ _ _
    rw [hb u1 u2 yv l1]
    refine wpAny_bind (wpAny_newTuple (wpAny_pure ?_) l2)
    have laid : ObjOk P w (upd H s.heap.objs.size (.tup rest)) (s.heap.push ({ cls := .type "tuple", data := .seq u2.toArray } : Obj)) s.heap.objs.size (.tup rest) := ⟨hz, u2, r2, ⟨_, Heap.get?_push_size _ rfl, rfl, _, rfl⟩⟩
    have un := StX.un_laid (fs := frs outer) (s := s) (o := ({ cls := .type "tuple", data := .seq u2.toArray } : Obj)) (u := .tup rest) fresh
    have z := h _ _ (as ++ [y, V.ref s.heap.objs.size]) (u1 ++ [yv, Value.ref s.heap.objs.size]) (StX.env0_laid e0 laid) un rfl (fun e s' => hCX outer s H _ _ E e s' un (fun b o q => Heap.get?_push_of_some _ q) rfl) (r1.append (.cons ry (.cons rfl .nil)))
      (by rw [List.length_append, List.length_append, hl] <;> rfl) ⟨_, fresh, rfl, rfl⟩
    rw [List.zip_append l1.symm] at z
    exact z
  · obtain ⟨p, hp, rfl, rfl⟩ := g
    exact hbody A outer s2 _ _ Q E hr' (hq p hp)
end
section
variable {X : Cx} {CX : CXT} {k : Nat} {f C : Addr} {ks : List Str} {sp : List V → Sp} {E : XK} {x : Str} {p pos : Pos} {e : Expr} {es : List Expr} {kws : List Keyword} {t tk : TA}
theorem run_makeRK {pins : List (Addr × Obj)} {σ : L2.St} {H : Hp} {s : Shared} {Q : VK} {us ws : List Value} {vs zs : List V} (M : Mk X.K C f) (F : FnRK X.prog X.w X.K X.mg X.base CX k f ks sp) (hr : Room (k + 1) X.A) (hx : Passes CX X E) (I : Inv X pins σ H s) (r : Vals vs us) (rz : Vals zs ws)
    (h : ∀ y dy, H y = none → H dy = none → dy ≠ y → sp zs (.ref y :: vs) (upd (upd H dy (.own y)) y (.ins C dy [])) (fun v G => v = .non ∧ Q (.ref y) G) E) : wpAny (model X.prog X.w) X.A (call (.ref C) us (ks.zip ws)) (EP X pins σ Q) X.xe s := by
  have hq := h (s.heap.objs.size + 1) s.heap.objs.size (I.hok.fresh (Nat.le_succ _)) (I.hok.fresh (Nat.le_refl _)) (Nat.ne_of_lt (Nat.lt_succ_self _))
  have J := Inv.made (C := C) I
  have rr : Vals (V.ref (s.heap.objs.size + 1) :: vs) (Value.ref (s.heap.objs.size + 1) :: us) := .cons rfl r
  refine wpAny_call (make_map (f := f) I.kIn M.makes M.init (beq_iff_eq.mp M.fn) (codeAny_mono (F _ X.stack _ _ (Value.ref (s.heap.objs.size + 1) :: us) ws _ zs _ E (hr.make C us (ks.zip ws)) (J.env0.make C us (ks.zip ws)) rr rz hq) fun r s' z => ?_))
  match r, z with
  | .error er, z => exact hx pins σ _ _ er s' J z
  | .ok (.ret u), z =>
    obtain ⟨v, G, I3, rv, ev, q3⟩ := J.after z
    subst ev
    exact ⟨rv, ⟨V.ref (s.heap.objs.size + 1), G, I3, rfl, q3⟩⟩
def tMakeRK (C : Addr) (sp : List V → Sp) (E : XK) (t tk : TA) : TE := fun σ H Q => t σ H fun vs H1 => tk σ H1 fun zs H2 => ∀ y dy, H2 y = none → H2 dy = none → dy ≠ y → sp zs (.ref y :: vs) (upd (upd H2 dy (.own y)) y (.ins C dy [])) (fun v G => v = .non ∧ Q (.ref y) G) E
/-- C(e, .., k = v), __init__ with a starred parameter -/
theorem pe_makeRK (M : Mk X.K C f) (F : FnRK X.prog X.w X.K X.mg X.base CX k f ks sp) (hr : Room (k + 1) X.A) (hg : Gl X x) (hm : X.mg x = some (.ref C)) (hx : Passes CX X E) (ha : PA X (e :: es) t) (hkw : PK X kws tk)
    (hall : (backToKw pos (keywordEach kws X.env)).all (·.1.isSome) = true := by rfl) (hks : (backToKw pos (keywordEach kws X.env)).filterMap (·.1) = ks := by rfl) (hdb : (x == ("__debug__" : Str)) = false := by decide)
    (he : starEach (e :: es) X.env = (false, eval e X.env) :: starEach es X.env := by rfl) (hpl : ((backTo pos (starEach (e :: es) X.env)).any (·.1) || (backToKw pos (keywordEach kws X.env)).any (·.1.isNone)) = false := by rfl) :
    PE X (.Call (.Name x p) (e :: es) kws pos) (tMakeRK C sp E t tk) := by
  refine ⟨fun pins s σ H Q I h => ?_⟩
  refine wpAny_Call_Name_kw (ld_glob I hg hm ?_ hdb)
  refine PySem.W.callWith_KW (h₀ := X.base) I.ok.mod.kin M.kp hall (thn (ha.run pos pins s σ H _ I h) fun us s1 ⟨vs, H1, I1, r, q⟩ => ?_) hpl he
  refine thn (hkw.run pos pins s1 σ H1 _ I1 q) fun ws s2 ⟨zs, H2, I2, rz, q2⟩ => ⟨I2.kIn, ?_⟩
  rw [hks]
  exact run_makeRK M F hr hx I2 r rz q2
end
end OwR
end
section
/-! xs[::k]; an own == asked of any value; str(o) by an own __str__. -/
namespace OwR
open PySem PySem.Spec PyProof.Rows L2
/-! ### xs[::k] -/
theorem vals_pick {xs : List V} {us : List Value} (r : Vals xs us) : ∀ idx : List Nat, Vals (idx.filterMap (xs[·]?)) (idx.filterMap (us[·]?))
  | [] => .nil
  | i :: l => by
    have ih := vals_pick r l
    rw [List.filterMap_cons, List.filterMap_cons]
    cases hx : xs[i]? with
    | none =>
      have e : us[i]? = none := by
        rw [List.getElem?_eq_none_iff] at hx ⊢
        rw [← r.length]
        exact hx
      rw [e]
      exact ih
    | some x =>
      obtain ⟨u, hu, ru⟩ := r.get hx
      rw [hu]
      exact .cons ru ih
theorem pick_mem {α : Type} {xs : List α} : ∀ {idx : List Nat} {y : α}, y ∈ idx.filterMap (xs[·]?) → y ∈ xs := fun {idx y} h => by
  obtain ⟨i, _, e⟩ := List.mem_filterMap.mp h
  exact List.mem_of_getElem? e
def tStepL (K : PySem.W.Frag) (te : TE) : TE := fun σ H Q => te σ H fun x H1 => ∃ a xs, x = .ref a ∧ SqL K H1 a xs ∧ ∀ p ys, H1 p = none → (∀ y ∈ ys, y ∈ xs) → Q (.ref p) (upd H1 p (.lst ys))
theorem pe_stepL {X : Cx} {e : Expr} {te : TE} {n : Nat} {k : Nat} {p1 p3 pos : Pos} (h0 : (n : Int) ≠ 0) (he : PE X e te) : PE X (.Subscript e (.Slice none none (some (.Constant (.int (n : Int)) k p1)) p3) pos) (tStepL X.K te) := by
  refine ⟨fun pins s σ H Q I h => ?_⟩
  refine Subscript_ (thn (he.run pins s σ H _ I h) fun v s1 w => ?_)
  obtain ⟨x, H1, I1, r1, a, xs, rfl, hx, q⟩ := w
  cases r1
  have hst : PO X (some (.Constant (.int (n : Int)) k p1)) (tPart (tC (.int (n : Int)))) := po_some pe_int
  refine wpAny_Slice (thn (po_none.run pins s1 σ H1 (fun o H2 => o = none ∧ H2 = H1) I1 ⟨rfl, rfl⟩) fun vl s2 w2 => ?_)
  obtain ⟨l, H2, I2, pl, rfl, rfl⟩ := w2
  refine thn (po_none.run pins s2 σ H2 (fun o H3 => o = none ∧ H3 = H2) I2 ⟨rfl, rfl⟩) fun vu s3 w3 => ?_
  obtain ⟨u, H3, I3, pu, rfl, rfl⟩ := w3
  refine thn (hst.run pins s3 σ H3 (fun o H4 => o = some (n : Int) ∧ H4 = H3) I3 ⟨(n : Int), rfl, rfl, rfl⟩) fun vs s4 w4 => ?_
  obtain ⟨o, H4, I4, ps, rfl, rfl⟩ := w4
  have I5 : Inv X pins σ H4 { s4 with heap := s4.heap.push { cls := .type "slice", data := .fields #[vl, vu, vs] } } := I4.kept (t' := s4.toks) fun b ob q => Heap.get?_push_of_some _ q
  obtain ⟨its, r, ht, hz⟩ := I5.list hx
  have hlen := r.length
  show wpAny (model X.prog X.w) X.A (subscriptTail e (.Slice none none (some (.Constant (.int (n : Int)) k p1)) p3) (.ref a) (.ref s4.heap.objs.size)) (EP X pins σ Q) X.xe { s4 with heap := s4.heap.push { cls := .type "slice", data := .fields #[vl, vu, vs] } }
  refine tail_any (ops := [.ref a, .ref s4.heap.objs.size]) ht.isList.typeIs (PySem.slot_list_getitem.lookup) ?_ (by with_unfolding_all rfl)
  refine wpAny_getItem_list_slice ht.isList (Heap.IsSliceOf.new _ vl vu vs) pl pu ps (fun z => h0 (Option.some.inj z)) ?_ (by rw [List.size_toArray]; omega)
  have hz2 := slicePick_size_le its.toArray none none (some (n : Int))
  have ep : slicePick its.toArray none none (some (n : Int)) = ((sliceRange (sliceBounds none none (some (n : Int)) its.toArray.size).1 (sliceBounds none none (some (n : Int)) its.toArray.size).2.1 (sliceBounds none none (some (n : Int)) its.toArray.size).2.2).filterMap (its[·]?)).toArray := by
    unfold slicePick
    simp
  rw [ep] at hz2 ⊢
  generalize sliceRange (sliceBounds none none (some (n : Int)) its.toArray.size).1 (sliceBounds none none (some (n : Int)) its.toArray.size).2.1 (sliceBounds none none (some (n : Int)) its.toArray.size).2.2 = idx at hz2 ⊢
  have rv := vals_pick r idx
  rw [List.size_toArray, List.size_toArray] at hz2
  refine ⟨.ref _, _, I5.laid (t' := s4.toks) (o := .lst (idx.filterMap (xs[·]?))) (fun b ob q => Heap.get?_push_of_some _ q) (Nat.le_refl _) ?_, rfl, q _ _ (I5.hok.fresh (Nat.le_refl _)) fun y hy => pick_mem hy⟩
  exact ⟨by rw [rv.length]; omega, _, 0, rv, Heap.get?_push_size _ rfl⟩
/-! ### an own comparison asked of any value -/
def rCmpX (K : PySem.W.Frag) (op : CmpOp) (g : Addr) (sp : Sp) (E : XK) : R2 := fun x y H Q => ∃ (p C dx : Addr) (fs : List (Str × V)) (t : Value), x = .ref p ∧ H p = some (.ins C dx fs) ∧ TyX K H y t ∧ Cmp1 K op C g ∧ PySem.W.notFirst K C t = true ∧ sp [.ref p, y] H Q E
section
variable {X : Cx} {CX : CXT} {k : Nat} {g : Addr} {sp : Sp} {E : XK}
theorem rc_ownX {o : CmpOp} (hu : X.A.units < cLine) (F : FnR X.prog X.w X.K X.mg X.base CX k g sp) (hr : Room k X.A) (hx : Passes CX X E) : OpR X (richCompare o) (rCmpX X.K o g sp E) := by
  intro pins s σ H x y v u Q I rx ry h
  obtain ⟨p, C, dx, fs, t, rfl, ep, ty, c1, nf, hq⟩ := h
  obtain rfl : v = Value.ref p := rx
  obtain ⟨ox, od, J, _⟩ := StX.insC_at I (.inr ⟨dx, fs, ep⟩)
  obtain ⟨P, kx, pS, _⟩ := kit_of I ry ty
  obtain ⟨mm, fr⟩ := I.fr
  exact PySem.W.cmp_K hu fr I.ok.mod.kin J (kx.ty (model X.prog X.w) s.heap I.kIn pS) nf c1.at_ c1.fn (run_own F hr hx I (us := [.ref p, u]) (vs := [.ref p, y]) (.cons rfl (.cons ry .nil)) hq)
theorem op_ownEqX (hu : X.A.units < cLine) (F : FnR X.prog X.w X.K X.mg X.base CX k g sp) (hr : Room k X.A) (hx : Passes CX X E) : OpR X (compareOp .Eq) (rCmpX X.K .Eq g sp E) := fun pins s σ H x y v u Q I rx ry h => PySem.W.cmp_ofEq (rc_ownX hu F hr hx pins s σ H x y v u Q I rx ry h)
theorem op_ownEqXK {K : PySem.W.Frag} (hK : X.K = K) (hu : X.A.units < cLine) (F : FnR X.prog X.w X.K X.mg X.base CX k g sp) (hr : Room k X.A) (hx : Passes CX X E) : OpR X (compareOp .Eq) (rCmpX K .Eq g sp E) := by
  subst hK
  exact op_ownEqX hu F hr hx
/-! ### str(o) -/
structure Str1 (K : PySem.W.Frag) (C g : Addr) : Prop where
  at_ : PySem.W.findIn K (.ref C) "__str__" = some (some (.ref g))
  fn : PySem.W.isFn K (.ref g) = true
def rStrO (K : PySem.W.Frag) (g : Addr) (sp : Sp) (E : XK) : List V → Hp → VK → Prop := fun xs H Q => ∃ (a C dx : Addr) (fs : List (Str × V)), xs = [.ref a] ∧ H a = some (.ins C dx fs) ∧ Str1 K C g ∧ sp [.ref a] H (fun v H' => ∃ z : Str, v = .str z ∧ Q (.str z) H') E
theorem call_strO (hu : X.A.units + 2 < cLine) (F : FnR X.prog X.w X.K X.mg X.base CX k g sp) (hr : Room (k + 2) X.A) (hx : Passes CX X E) : CallR X (.type "str") (rStrO X.K g sp E) := by
  intro pins s σ H xs us Q I r h
  obtain ⟨a, C, dx, fs, rfl, ea, c, hq⟩ := h
  obtain rfl := Vals.ref1 r
  obtain ⟨ox, od, J, _⟩ := StX.insC_at I (.inr ⟨dx, fs, ea⟩)
  refine PySem.W.kso_call (by simpa using hu) I.kIn J c.at_ c.fn ?_
  refine wpAny_call (codeAny_mono (F X.A.in1.in1 X.stack s H [.ref a] [.ref a] _ E hr.in1.in1 I.env0.in1.in1 (.cons rfl .nil) hq) fun r s' hq => ?_)
  cases r with
  | error er => exact hx pins σ H s er s' I hq
  | ok fl =>
    cases fl with
    | ret u =>
      obtain ⟨v, H', I', rv, z, rfl, q2⟩ := I.after hq
      obtain ⟨t, rfl⟩ := rv
      exact ⟨.str z, H', I', ⟨t, rfl⟩, q2⟩
    | next => exact False.elim hq
    | brk => exact False.elim hq
    | cont => exact False.elim hq
end
end OwR
end
section
/-! a text == a dict, == an object with an own ==; x in o by an own __contains__. -/
namespace OwR
open PySem PySem.Spec PyProof.Rows L2
theorem str_no_plain (b : Str) (u : Tok) (l : Addr) (c : Value) (dd : Option Addr) (sl : Array (Option Value)) :
    Meets (Builtin.«str.__eq__» ⟨[.str b u, .ref l], []⟩) (fun _ R s => s.heap.get? l = some { cls := c, dict := dd, data := .plain, slots := sl } ∧ R (.ok (.ret .notImplemented)) s) :=
  .of_wp fun prog w A R s h => by obtain ⟨hp, g, d, tk, os⟩ := s; obtain ⟨hl, h⟩ := h; wp_walk using wpAny_loadPart' hl, wpAny_load hl; exact ⟨_, rfl, h⟩
theorem str_no_dict (b : Str) (u : Tok) (l : Addr) (c : Value) (es : Array DictEntry) (n : Nat) (dd : Option Addr) (sl : Array (Option Value)) :
    Meets (Builtin.«str.__eq__» ⟨[.str b u, .ref l], []⟩) (fun _ R s => s.heap.get? l = some { cls := c, dict := dd, data := .dict es n, slots := sl } ∧ R (.ok (.ret .notImplemented)) s) :=
  .of_wp fun prog w A R s h => by obtain ⟨hp, g, d, tk, os⟩ := s; obtain ⟨hl, h⟩ := h; wp_walk using wpAny_loadPart' hl, wpAny_load hl; exact ⟨_, rfl, h⟩
section
variable {prog : Program} {w : World} {A : Around} {E : Value → Shared → Prop} {s : Shared} {K : PySem.W.Frag} {x C f : Addr} {ox : Obj} {od : Option Obj} {z : Str} {t : Tok}
theorem rc_strOwn {Q : Value → Shared → Prop} (hu : A.units < cLine) (X : K.In s.heap) (I : PySem.W.InstAt s.heap x ox C od) (hd : ox.data = .plain) (sub : PySem.W.subIn K (.ref C) (.type "str") = some false)
    (eq : PySem.W.findIn K (.ref C) "__eq__" = some (some (.ref f))) (fn : PySem.W.isFn K (.ref f) = true) (h : wpAny (model prog w) A (call (.ref f) [.ref x, .str z t]) (PySem.W.CmpBack Q) E s) :
    wpAny (model prog w) A (richCompare .Eq (.str z t) (.ref x)) Q E s := by
  have one : wpAny (model prog w) A (tryCompare (.ref x) "__eq__" (.str z t)) (fun r s' => ∃ v, r = some v ∧ Q v s') E s := by
    unfold tryCompare
    refine wpAny_bind (PySem.W.ifBound_K X I eq fn (wpAny_mono h (fun v s' hv => ?_) fun _ _ e => e))
    cases v <;> first | exact hv.elim | exact wpAny_pure ⟨_, rfl, hv⟩
  have ta : s.TypeIs (.str z t) "str" := typeIs_str s z t
  have no : wpAny (model prog w) A (call (.builtin "str.__eq__") [.str z t, .ref x]) (fun v s' => v = .notImplemented ∧ s' = s) E s := by
    obtain ⟨cls, dd, data, sl⟩ := ox
    have hd : data = .plain := hd
    subst hd
    exact call_meets F.slot_str_eq ta F.entry_str_eq (F.args_str_eq_2 _ _) (str_no_plain z t x cls dd sl) ⟨I.at_, rfl, rfl⟩
  rcases hi : cmpInfo CmpOp.Eq with ⟨sym, f1, r1⟩
  have h1 := F.slot_str_eq
  have e2 : r1 = "__eq__" := by cases hi; rfl
  rw [hi] at h1
  subst e2
  simp only [richCompare, hi, ta.oneThing_none]
  refine wpAny_holding (wpAny_bind (wpAny_cRoomFor hu ?_))
  refine wpAny_bind (wpAny_typeOf ta (wpAny_bind (I.type.here ?_)))
  simp only [show (Value.type "str" != Value.ref C) = true from rfl, if_true]
  refine wpAny_bind ((PySem.W.looks_subIn X sub).here ?_)
  simp only [Bool.false_eq_true, if_false, Bool.not_false, if_true]
  refine wpAny_bind (m := tryCompare (.str z t) _ (.ref x)) (wpAny_tryCompare_declines ta h1 (wpAny_mono no (fun v s1 h1 => ⟨h1.1, ?_⟩) fun _ _ x => x))
  obtain ⟨_, rfl⟩ := h1
  refine wpAny_bind (wpAny_mono one (fun r s' q => ?_) fun _ _ e => e)
  obtain ⟨v, rfl, hq⟩ := q
  exact wpAny_pure hq
theorem sub_str_dict : isSubtype (.type "str") (.type "dict") = pure false := by rw [isSubtype_type]; kernel_rfl
theorem rc_strDict {l : Addr} {o : Obj} {es : Array DictEntry} {n : Nat} {Q : Value → Shared → Prop} (hu : A.units < cLine) (ho : s.heap.get? l = some o) (hc : o.cls = .type "dict") (hd : o.data = .dict es n) (h : Q (.bool false) s) : wpAny (model prog w) A (richCompare .Eq (.str z t) (.ref l)) Q E s := by
  obtain ⟨cls, dd, data, sl⟩ := o
  have hc : cls = .type "dict" := hc
  have hd : data = .dict es n := hd
  subst hc hd
  have tb : s.TypeIs (.ref l) "dict" := ⟨_, ho, rfl⟩
  exact PySem.SeqAt.rc_eq_decline_or (k := false) (typeIs_str s z t) tb (by decide) F.sub_dict_str F.slot_str_eq F.slot_dict_eq_refl
    (fun _ hq => call_meets F.slot_str_eq (typeIs_str s z t) F.entry_str_eq (F.args_str_eq_2 _ _) (str_no_dict z t l (.type "dict") es n dd sl) ⟨ho, hq⟩)
    (fun _ hq => by
      refine wpAny_call_entry F.slot_dict_eq_refl tb F.entry_dict_eq ?_ (F.args_dict_eq_2 _ _)
      show wpAny _ _ (Builtin.Dict.dictSlotArgs "__eq__" ⟨[.ref l, .str z t], []⟩ >>= _) _ _ s
      refine wpAny_bind ?_
      unfold Builtin.Dict.dictSlotArgs
      refine wpAny_bind (wpAny_notOrdered_dict tb ?_)
      show wpAny _ _ (pure (Value.ref l, Value.str z t)) _ _ s
      refine wpAny_pure ?_
      refine wpAny_bind (wpAny_isInstance (T := "str") (typeIs_str s z t) sub_str_dict ?_)
      simp only [Bool.not_false, if_true]
      exact wpAny_bind (wpAny_rule (wpAny_bind (wpAny_pure (wpAny_pure ⟨_, rfl, hq⟩)))))
    (fun _ hq => wpAny_of_eq (rfl : isSame (.str z t) (.ref l) = pure false) hq) (.inr hu) h
end
/-! ### the rules -/
structure StrEq (K : PySem.W.Frag) (C g : Addr) : Prop where
  sub : PySem.W.subIn K (.ref C) (.type "str") = some false
  at_ : PySem.W.findIn K (.ref C) "__eq__" = some (some (.ref g))
  fn : PySem.W.isFn K (.ref g) = true
/-- a text == anything: data, a dict, an object with an own == -/
def rStrAny (K : PySem.W.Frag) (g : Addr) (sp : Sp) (E : XK) : R2 := fun x y H Q => rEqD K x y H Q ∨ (∃ (z : Str) (a : Addr) (kvs : List (Key × V)), x = .str z ∧ y = .ref a ∧ H a = some (.dK kvs) ∧ Q (.bl false) H) ∨
  ∃ (z : Str) (p C dx : Addr) (fs : List (Str × V)), x = .str z ∧ y = .ref p ∧ H p = some (.ins C dx fs) ∧ StrEq K C g ∧ sp [.ref p, x] H Q E
structure In1 (K : PySem.W.Frag) (C g : Addr) : Prop where
  at_ : PySem.W.findIn K (.ref C) "__contains__" = some (some (.ref g))
  fn : PySem.W.isFn K (.ref g) = true
def rInO (K : PySem.W.Frag) (g : Addr) (sp : Sp) (E : XK) : R2 := fun x y H Q => ∃ (p C dx : Addr) (fs : List (Str × V)), y = .ref p ∧ H p = some (.ins C dx fs) ∧ In1 K C g ∧ sp [.ref p, x] H (fun v H' => ∃ c, v = .bl c ∧ Q (.bl c) H') E
section
variable {X : Cx} {CX : CXT} {k : Nat} {g : Addr} {sp : Sp} {E : XK}
theorem op_strAny {K : PySem.W.Frag} (hK : X.K = K) (hu : X.A.units + 64 < cLine) (F : FnR X.prog X.w X.K X.mg X.base CX k g sp) (hr : Room k X.A) (hx : Passes CX X E) : OpR X (compareOp .Eq) (rStrAny K g sp E) := by
  subst hK
  intro pins s σ H x y v u Q I rx ry h
  have hu0 : X.A.units < cLine := by omega
  rcases h with h | ⟨z, a, kvs, rfl, rfl, ea, q⟩ | ⟨z, p, C, dx, fs, rfl, rfl, ep, c, hq⟩
  · exact op_eqD hu pins s σ H x y v u Q I rx ry h
  · obtain ⟨t, rfl⟩ := rx
    obtain rfl : u = Value.ref a := ry
    obtain ⟨_, _, vs, _, o, es, n, e1, e2, e3, _⟩ := (show ObjOk X.prog X.w H s.heap a (.dK kvs) from I.hok a _ ea)
    exact PySem.W.cmp_ofEq (rc_strDict hu0 e1 e2.1 e3 ⟨.bl _, H, I, rfl, q⟩)
  · obtain ⟨t, rfl⟩ := rx
    obtain rfl : u = Value.ref p := ry
    obtain ⟨ox, od, J, hd⟩ := StX.insC_at I (.inr ⟨dx, fs, ep⟩)
    exact PySem.W.cmp_ofEq (rc_strOwn hu0 I.kIn J hd c.sub c.at_ c.fn (run_own F hr hx I (us := [.ref p, .str z t]) (vs := [.ref p, .str z]) (.cons rfl (.cons ⟨t, rfl⟩ .nil)) hq))
theorem op_inO (F : FnR X.prog X.w X.K X.mg X.base CX k g sp) (hr : Room k X.A) (hx : Passes CX X E) : OpR X (compareOp .In) (rInO X.K g sp E) := by
  intro pins s σ H x y v u Q I rx ry h
  obtain ⟨p, C, dx, fs, rfl, ep, c, hq⟩ := h
  obtain rfl : u = Value.ref p := ry
  obtain ⟨ox, od, J, _⟩ := StX.insC_at I (.inr ⟨dx, fs, ep⟩)
  obtain ⟨mm, fr⟩ := I.fr
  refine PySem.W.in_K fr I.ok.mod.kin J c.at_ c.fn (wpAny_mono (wpAny_call (run_fnR F hr hx I (us := [.ref p, v]) (vs := [.ref p, x]) (.cons rfl (.cons rx .nil)) hq)) (fun r s' q => ?_) fun _ _ q => q)
  obtain ⟨y2, H2, I2, r2, b, rfl, q⟩ := q
  cases (show r = Value.bool b from r2)
  exact wpAny_pure ⟨.bl b, H2, I2, rfl, q⟩
end
end OwR
end
section
namespace OwR
open PySem PySem.Spec PyProof.Rows L2
/-! ### tuple(d), d a dict: its keys -/
section
variable {prog : Program} {w : World} {A : Around} {E : Value → Shared → Prop} {s : Shared} {T : String} {r d : Addr} {n : Nat} {P : Nat → Value → Prop} {OK : Heap → Prop}
theorem collect_src {Q : List Value → Shared → Prop} (K : PySem.W.KdlSrc prog w T r d n P OK) (hh : A.handled = none) (hok : OK s.heap) (hn : n ≤ sizeLine)
    (hQ : ∀ h' tk (out : List Value), (∀ b o, s.heap.get? b = some o → h'.get? b = some o) → out.length = n → (∀ j v, out[j]? = some v → P j v) → Q out { s with heap := h', toks := tk }) :
    wpAny (model prog w) A (collect (.ref r)) Q E s := by
  unfold collect
  refine wpAny_bind (wpAny_runValue (codeAny_builtin F.entry_proto_collect ?_))
  rw [Around.under_plainId F.plain_proto_collect _]
  show wpAny _ A.in1 (newList [] >>= fun l => again (.builtin "list.__iadd__" ⟨[l, .ref r], []⟩)) _ _ s
  refine wpAny_bind (wpAny_newObj_type ?_)
  refine wpAny_pure ⟨plainId_quiet F.plain_list_iadd _, codeAny_builtin F.entry_list_iadd ?_⟩
  rw [Around.under_plainId F.plain_list_iadd _]
  have there := K.there _ hok
  have hS : (s.heap.push { cls := .type "list", data := .seq ([] : List Value).toArray }).get? s.heap.objs.size = some { cls := .type "list", data := .seq #[] 0 } := Heap.get?_push_size _ rfl
  have fin : ∀ h' tk (acc : Array Value) (c : Nat), (∀ b o, b ≠ s.heap.objs.size → (s.heap.push { cls := .type "list", data := .seq ([] : List Value).toArray }).get? b = some o → h'.get? b = some o) →
      h'.get? s.heap.objs.size = some { cls := .type "list", dict := none, data := .seq acc c, slots := #[] } → ItemsOf P acc n →
      wpAny (model prog w) A (load s.heap.objs.size >>= fun ob => match ob.data with
        | .seq vs _ => pure vs.toList
        | _ => unsupported "internal:collect") Q E { s with heap := h', toks := tk } := fun h' tk acc c k hS' hacc =>
    wpAny_bind (wpAny_load hS' (wpAny_pure (hQ h' tk acc.toList (fun b o e => k b o (Nat.ne_of_lt (Heap.lt_size e)) (Heap.get?_push_of_some _ e)) (by rw [Array.length_toList]; exact hacc.1) fun j v e => hacc.2 j v (by rw [← Array.getElem?_toList]; exact e))))
  refine wpAny_mono (PySem.W.kdl_extend (A := A) (R := fun r s' => r = .ok (.ret (.ref s.heap.objs.size)) ∧ wpAny (model prog w) A (load s.heap.objs.size >>= fun ob => match ob.data with
        | .seq vs _ => pure vs.toList
        | _ => unsupported "internal:collect") Q E s') (s := { s with heap := s.heap.push { cls := .type "list", data := .seq ([] : List Value).toArray } }) K hh (K.keep _ _ hok fun b _ o e => Heap.get?_push_of_some _ e) s.heap.objs.size
    (Nat.ne_of_gt there.1) (Nat.ne_of_gt there.2) (.ref s.heap.objs.size) 0 hS (fun h' tk acc c k hS' hacc => ⟨rfl, fin h' tk acc c k hS' hacc⟩) hn) (fun f s' h => ?_) fun e s' h => ?_
  · cases f with
    | done f =>
      obtain ⟨e, z⟩ := h
      cases e
      exact z
    | again c' => exact ⟨h.1, codeAny_mono h.2 fun r s2 hr => by obtain ⟨rfl, z⟩ := hr; exact z⟩
  · cases h.1
theorem call_tuple_src {Q : Value → Shared → Prop} (K : PySem.W.KdlSrc prog w T r d n P OK) (hok : OK s.heap) (hn : n ≤ sizeLine) (hh : A.handled = none)
    (hQ : ∀ (h' : Heap) (tk : Nat) (out : List Value), (∀ b o, s.heap.get? b = some o → h'.get? b = some o) → out.length = n → (∀ j v, out[j]? = some v → P j v) →
      Q (.ref h'.objs.size) { s with heap := h'.push { cls := .type "tuple", data := .seq out.toArray }, toks := tk }) :
    wpAny (model prog w) A (call (.type "tuple") [.ref r]) Q E s := by
  have M : MeetsIn prog w (Builtin.«tuple.__new__» ⟨[.type "tuple", .ref r], []⟩) (fun (A' : Around) (R : Result → Shared → Prop) (s : Shared) => A'.handled = none ∧ OK s.heap ∧ ∀ (h' : Heap) (tk : Nat) (out : List Value), (∀ b o, s.heap.get? b = some o → h'.get? b = some o) → out.length = n → (∀ j v, out[j]? = some v → P j v) →
      R (.ok (.ret (.ref h'.objs.size))) { s with heap := h'.push { cls := .type "tuple", data := .seq out.toArray }, toks := tk }) := .of_wp fun A R s h => by
    obtain ⟨hp, g, dr, tk, os⟩ := s
    obtain ⟨hh', ht, h⟩ := h
    have hsub := sub_tuple_self
    have hinit := init_tuple_lookup
    have hmh := madeHere_tuple
    have hT : Shared.TypeIs ⟨hp, g, dr, tk, os⟩ (.ref r) T := K.type _ ht
    have col : ∀ {Q : List Value → Shared → Prop} {E : Value → Shared → Prop}, (∀ (h' : Heap) (tk' : Nat) (out : List Value), (∀ b o, hp.get? b = some o → h'.get? b = some o) → out.length = n → (∀ j v, out[j]? = some v → P j v) → Q out ⟨h', g, dr, tk', os⟩) →
        wpAny (model prog w) A.in1 (collect (.ref r)) Q E ⟨hp, g, dr, tk, os⟩ := fun hq => collect_src (s := ⟨hp, g, dr, tk, os⟩) K hh' ht hn hq
    have hnt : (Value.type T == Value.type "tuple") = false := K.notTuple
    wp_walk using wpAny_typeOf hT, col
    intro h' tk' out k l1 l2
    refine wpAny_bind (wpAny_pure ?_)
    show wpAny _ _ (Builtin.Tuple.tupleExact out.toArray >>= fun v => ret v) _ _ _
    unfold Builtin.Tuple.tupleExact
    refine wpAny_bind (wpAny_newObj_type ?_ (by show out.toArray.size ≤ sizeLine; rw [List.size_toArray, l1]; exact hn))
    exact wpAny_pure ⟨_, rfl, h h' tk' out k l1 l2⟩
  exact callType_newIn F.called_tuple (by decide) (F.typeCall_tuple_1 _) (F.newCall_tuple_1 _) (fun obj => F.args_object_init_2 obj _) F.entry_tuple_new M
    ⟨hh, hok, fun h' tk out k l1 l2 => ⟨⟨_, Heap.get?_push_size _ rfl, rfl⟩, hQ h' tk out k l1 l2⟩⟩
end
theorem call_tupleD {X : Cx} (hcalm : X.calm = true) : CallR X (.type "tuple") (fun xs H Q => ∃ (a : Addr) (kvs : List (Key × V)), xs = [.ref a] ∧ Rd H a (.dK kvs) ∧ ∀ p, H p = none → Q (.ref p) (upd H p (.tup (kvs.map fun kv => kV kv.1)))) := by
  intro pins s σ H xs us Q I r q
  obtain ⟨a, kvs, ex, hd, q⟩ := q
  subst ex
  obtain ⟨u, eu, rx⟩ := vals1 r
  subst eu
  cases rx
  obtain ⟨z, lo, vs, rel, dd⟩ := dk_rd I.hok hd
  obtain ⟨ep, hat⟩ := dd.dictAt
  have ek : (kvs.map fun kv => kV kv.1) = vs.map fun p => kV p.1 := by
    have e := congrArg (List.map kV) rel.keys
    rw [List.map_map, List.map_map] at e
    exact e
  refine call_tuple_src (PySem.W.kdl_dict (knd := mixKind X.prog X.w) (kvs := vs) (ep := ep) lo) hat (by rw [← rel.length]; exact z) (I.ok.hd hcalm) fun h' tk out k l1 l2 => ?_
  have hv : Vals (vs.map fun p => kV p.1) out := keys_at l1 fun j v e => l2 j v e
  have I1 : Inv X pins σ H { s with heap := h', toks := tk } := I.kept (t' := tk) k
  exact ⟨.ref h'.objs.size, _, I1.laid (t' := tk) (o := .tup (kvs.map fun kv => kV kv.1)) (fun b o e => Heap.get?_push_of_some _ e) (Nat.le_refl _) ⟨by rw [List.length_map]; exact z, out, by rw [ek]; exact hv, ⟨_, Heap.get?_push_size _ rfl, rfl, 0, rfl⟩⟩, rfl, q _ (I1.hok.fresh (Nat.le_refl _))⟩
end OwR
end
section
/-! Own: {x} in an f-string, x of an own class with an own str. -/
namespace OwR
open PySem PySem.Spec PyProof.Rows L2
structure Fmt1 (K : PySem.W.Frag) (C g : Addr) : Prop where
  fmt : PySem.W.findIn K (.ref C) "__format__" = some (some (.builtin "object.__format__"))
  obj : PySem.W.mroIn K C (.type "object") = some true
  at_ : PySem.W.findIn K (.ref C) "__str__" = some (some (.ref g))
  fn : PySem.W.isFn K (.ref g) = true
def tFmtO (K : PySem.W.Frag) (g : Addr) (sp : Sp) (E : XK) (te : TE) : TE := fun σ H Q => te σ H fun x H1 => ∃ (p C dx : Addr) (fs : List (Str × V)), x = .ref p ∧ H1 p = some (.ins C dx fs) ∧ Fmt1 K C g ∧ sp [.ref p] H1 (fun v H' => ∃ z : Str, v = .str z ∧ Q (.str z) H') E
theorem pe_fmtO {X : Cx} {CX : CXT} {k : Nat} {g : Addr} {sp : Sp} {E : XK} {e : Expr} {te : TE} {pos : Pos} (he : PE X e te) (hu : X.A.units + 2 < cLine) (F : FnR X.prog X.w X.K X.mg X.base CX k g sp) (hr : Room (k + 1) X.A) (hx : Passes CX X E) : PE X (.FormattedValue e (-1) none pos) (tFmtO X.K g sp E te) := by
  refine ⟨fun pins s σ H Q I h => ?_⟩
  refine wpAny_FormattedValue_plain (thn (he.run pins s σ H _ I h) fun v s1 hv => ?_)
  obtain ⟨x, H1, I1, r1, p, C, dx, fs, rfl, ep, c, hq⟩ := hv
  obtain rfl : v = Value.ref p := r1
  obtain ⟨ox, od, J, _⟩ := StX.insC_at I1 (.inr ⟨dx, fs, ep⟩)
  refine PySem.W.kfo_fieldS (by simp; omega) I1.kIn J c.fmt c.obj c.at_ c.fn ?_
  have I2 := I1.tok (s1.toks + 1)
  refine wpAny_call (codeAny_mono (F X.A.in1 X.stack { s1 with toks := s1.toks + 1 } H1 [.ref p] [.ref p] _ E hr.in1 I2.env0.in1 (.cons rfl .nil) hq) fun r s' hq => ?_)
  cases r with
  | error er => exact hx pins σ H1 _ er s' I2 hq
  | ok fl =>
    cases fl with
    | ret u =>
      obtain ⟨v, H', I', rv, z, rfl, q2⟩ := I2.after hq
      obtain ⟨t, rfl⟩ := rv
      exact ⟨.str z, H', I', ⟨t, rfl⟩, q2⟩
    | next => exact False.elim hq
    | brk => exact False.elim hq
    | cont => exact False.elim hq
end OwR
end
section
/-! Own: zip of a list and a tuple. -/
namespace OwZ
open PySem PySem.Spec PyProof.Rows L2
/-- all but the zip's own four objects stand -/
def Stay (z TO i1 i2 : Addr) (h h' : Heap) : Prop := ∀ c o, c ≠ z → c ≠ TO → c ≠ i1 → c ≠ i2 → h.get? c = some o → h'.get? c = some o
section
variable {prog : Program} {w : World} {A : Around} {E : Value → Shared → Prop} {s : Shared} {z TI TO i1 i2 l1 l2 : Addr} {k1 k2 : Nat} {xs ys : Array Value} {a b : Value}
/-- one step: a new pair, or the end -/
theorem step {Q : Fin → Shared → Prop} (hh : A.handled = none) (D : ZipApart z TI TO i1 i2 l1 l2) (hz : IsZip s.heap z TI TO .none) (hTI : IsPair s.heap TI (.ref i1) (.ref i2)) (hTO : IsPair s.heap TO a b)
    (h1 : s.heap.IsListIter i1 l1 k1) (h2 : s.heap.IsTupleIter i2 l2 k2) (hl1 : s.heap.IsList l1 xs) (hl2 : s.heap.IsTuple l2 ys)
    (item : ∀ x y, xs[k1]? = some x → ys[k2]? = some y → ∀ h', IsZip h' z TI TO (rawInt s.heap.objs.size) → IsPair h' TO x y → h'.IsListIter i1 l1 (k1 + 1) → h'.IsTupleIter i2 l2 (k2 + 1) → IsPair h' s.heap.objs.size x y → h'.objs.size = s.heap.objs.size + 1 → Stay z TO i1 i2 s.heap h' → Q (.done (.ret (.ref s.heap.objs.size))) { s with heap := h' })
    (stop : xs[k1]? = none ∨ ys[k2]? = none → ∀ h' e, Stay z TO i1 i2 s.heap h' → (∃ o, h'.get? e = some o ∧ o.cls = .type "StopIteration") → E (.ref e) { s with heap := h' }) :
    wpAny (model prog w) A (Builtin.«zip.__next__» ⟨[.ref z], []⟩) Q E s := by
  show wpAny _ _ (field (.ref z) 2 >>= _) _ _ _
  refine wpAny_bind (wpAny_field hz rfl (x := .bool false) rfl ?_)
  show wpAny _ _ (field (.ref z) 3 >>= _) _ _ _
  refine wpAny_bind (wpAny_field hz rfl (x := .ref TI) rfl (wpAny_bind (wpAny_seqItems hTI rfl ?_)))
  show wpAny _ _ (Builtin.SmallTypes.ownedTupleIsFree (.ref z) >>= _) _ _ _
  refine wpAny_bind ?_
  unfold Builtin.SmallTypes.ownedTupleIsFree
  refine wpAny_bind (wpAny_field hz rfl (x := .none) rfl (wpAny_pure ?_))
  simp only [if_true]
  refine wpAny_bind (wpAny_rule (wpAny_bind (wpAny_field hz rfl (x := .ref TO) rfl (wpAny_bind (wpAny_setField_rec hz (by simp) fun g1 gz1 e1 => ?_)))))
  replace gz1 : IsZip g1 z TI TO .ellipsis := gz1
  refine wpAny_bind ?_
  simp only [List.zipIdx_cons, List.zipIdx_nil, List.forIn_cons, List.forIn_nil]
  refine wpAny_bind (wpAny_bind (wpAny_onRaise ?_))
  show wpAny _ _ (Builtin.SmallTypes.nextOf (.ref i1) >>= _) _ _ _
  have it1 := h1.extBut e1.extBut D.i1z
  have sq1 := hl1.extBut e1.extBut D.l1z
  cases hx : xs[k1]? with
  | none =>
    refine wpAny_bind (wpAny_nextOf_list_end hh it1 sq1 hx fun g2 e s2 he => ?_)
    obtain ⟨oe, hoe, hce⟩ := he
    have gz2 : IsZip g2 z TI TO .ellipsis := s2 _ _ D.i1z.symm gz1
    have ne : e ≠ z := fun q => by
      rw [q, gz2] at hoe
      cases hoe
      simp at hce
    exact wpAny_setField_rec gz2 (by simp) fun g3 _ s3 => stop (.inl hx) g3 e (fun c o c1 _ c3 _ q => s3.extBut _ _ c1 (s2 _ _ c3 (e1.extBut _ _ c1 q))) ⟨oe, s3.extBut _ _ ne hoe, hce⟩
  | some x =>
    refine wpAny_bind (wpAny_nextOf_list_item it1 sq1 hx fun g2 it1 e2 => wpAny_pure ?_)
    have pr2 : IsPair g2 TO a b := e2.extBut _ _ D.TOi1 (e1.extBut _ _ D.TOz hTO)
    refine wpAny_bind (wpAny_seqItems pr2 rfl (wpAny_bind (wpAny_updateSeq_pair pr2 fun g3 pr3 e3 => wpAny_bind (wpAny_letGo (wpAny_pure ?_)))))
    replace pr3 : IsPair g3 TO x b := pr3
    refine wpAny_bind (wpAny_bind (wpAny_onRaise ?_))
    show wpAny _ _ (Builtin.SmallTypes.nextOf (.ref i2) >>= _) _ _ _
    have it2 := ((h2.extBut e1.extBut D.i2z).extBut e2.extBut D.i12.symm).extBut e3.extBut D.TOi2.symm
    have sq2 := ((hl2.extBut e1.extBut D.l2z).extBut e2.extBut D.l2i1).extBut e3.extBut D.l2TO
    have gz3 : IsZip g3 z TI TO .ellipsis := e3.extBut _ _ D.TOz.symm (e2.extBut _ _ D.i1z.symm gz1)
    have st3 : ∀ c o, c ≠ z → c ≠ TO → c ≠ i1 → s.heap.get? c = some o → g3.get? c = some o := fun c o c1 c2 c3 q => e3.extBut _ _ c2 (e2.extBut _ _ c3 (e1.extBut _ _ c1 q))
    cases hy : ys[k2]? with
    | none =>
      refine wpAny_bind (RZ.nextOf_tuple_end hh it2 sq2 hy fun g4 e s4 he => ?_)
      obtain ⟨oe, hoe, hce⟩ := he
      have gz4 : IsZip g4 z TI TO .ellipsis := s4 _ _ D.i2z.symm gz3
      have ne : e ≠ z := fun q => by
        rw [q, gz4] at hoe
        cases hoe
        simp at hce
      exact wpAny_setField_rec gz4 (by simp) fun g5 _ s5 => stop (.inr hy) g5 e (fun c o c1 c2 c3 c4 q => s5.extBut _ _ c1 (s4 _ _ c4 (st3 c o c1 c2 c3 q))) ⟨oe, s5.extBut _ _ ne hoe, hce⟩
    | some y =>
      refine wpAny_bind (RZ.nextOf_tuple_item it2 sq2 hy fun g4 it2 e4 => wpAny_pure ?_)
      have pr4 : IsPair g4 TO x b := e4.extBut _ _ D.TOi2 pr3
      refine wpAny_bind (wpAny_seqItems pr4 rfl (wpAny_bind (wpAny_updateSeq_pair pr4 fun g5 pr5 e5 => wpAny_bind (wpAny_letGo (wpAny_pure (wpAny_pure ?_))))))
      replace pr5 : IsPair g5 TO x y := pr5
      refine wpAny_bind (wpAny_seqItems pr5 rfl (wpAny_bind (wpAny_newTuple ?_)))
      have size : g5.objs.size = s.heap.objs.size := by rw [e5.1, e4.1, e3.1, e2.1, e1.1]
      have gz5 : IsZip g5 z TI TO .ellipsis := e5.extBut _ _ D.TOz.symm (e4.extBut _ _ D.i2z.symm gz3)
      have st5 : Stay z TO i1 i2 s.heap g5 := fun c o c1 c2 c3 c4 q => e5.extBut _ _ c2 (e4.extBut _ _ c4 (st3 c o c1 c2 c3 q))
      have j1 := ((it1.extBut e3.extBut D.TOi1.symm).extBut e4.extBut D.i12).extBut e5.extBut D.TOi1.symm
      have j2 := it2.extBut e5.extBut D.TOi2.symm
      have lt : z < g5.objs.size := Heap.lt_size gz5
      show wpAny _ _ (Builtin.SmallTypes.ownedTupleHandOut (.ref z) (.ref g5.objs.size) >>= _) _ _ _
      refine wpAny_bind ?_
      unfold Builtin.SmallTypes.ownedTupleHandOut
      have gz6 : IsZip (g5.push { cls := .type "tuple", data := .seq #[x, y] }) z TI TO .ellipsis := Heap.get?_push_of_some _ gz5
      refine wpAny_bind (wpAny_setField_rec gz6 (by simp) fun g7 gz7 e7 => ?_)
      replace gz7 : IsZip g7 z TI TO (rawInt g5.objs.size) := gz7
      refine wpAny_setField_rec gz7 (by simp) fun g8 gz8 e8 => ?_
      replace gz8 : IsZip g8 z TI TO (rawInt g5.objs.size) := gz8
      have up : ∀ c o, c ≠ z → g5.get? c = some o → g8.get? c = some o := fun c o c1 q => e8.extBut _ _ c1 (e7.extBut _ _ c1 (Heap.get?_push_of_some _ q))
      have new : IsPair g8 g5.objs.size x y := e8.extBut _ _ (Nat.ne_of_gt lt) (e7.extBut _ _ (Nat.ne_of_gt lt) (Heap.get?_push_size _ rfl))
      have more : g8.objs.size = g5.objs.size + 1 := by rw [e8.1, e7.1, Heap.size_push]
      rw [size] at gz8 new more
      refine wpAny_pure ?_
      show Q (.done (.ret (.ref g5.objs.size))) _
      rw [size]
      exact item x y hx hy g8 gz8 (up _ _ D.TOz pr5) (j1.at fun o q => up _ o D.i1z q) (j2.at fun o q => up _ o D.i2z q) new more fun c o c1 c2 c3 c4 q => up c o c1 (st5 c o c1 c2 c3 c4 q)
theorem drawn {Q : Option Value → Shared → Prop} (hh : A.handled = none) (D : ZipApart z TI TO i1 i2 l1 l2) (hz : IsZip s.heap z TI TO .none) (hTI : IsPair s.heap TI (.ref i1) (.ref i2)) (hTO : IsPair s.heap TO a b)
    (h1 : s.heap.IsListIter i1 l1 k1) (h2 : s.heap.IsTupleIter i2 l2 k2) (hl1 : s.heap.IsList l1 xs) (hl2 : s.heap.IsTuple l2 ys)
    (item : ∀ x y, xs[k1]? = some x → ys[k2]? = some y → ∀ h', IsZip h' z TI TO (rawInt s.heap.objs.size) → IsPair h' TO x y → h'.IsListIter i1 l1 (k1 + 1) → h'.IsTupleIter i2 l2 (k2 + 1) → IsPair h' s.heap.objs.size x y → h'.objs.size = s.heap.objs.size + 1 → Stay z TO i1 i2 s.heap h' → Q (some (.ref s.heap.objs.size)) { s with heap := h' })
    (stop : xs[k1]? = none ∨ ys[k2]? = none → ∀ h', Stay z TO i1 i2 s.heap h' → Q none { s with heap := h' }) : wpAny (model prog w) A (pyNext (.ref z)) Q E s := by
  have T : s.TypeIs (.ref z) "zip" := ⟨_, hz, rfl⟩
  unfold pyNext
  refine wpAny_bind (wpAny_attempt (wpAny_callSpecial?_slot (name := Str.ofString "__next__") T F.slot_zip_next (wpAny_call_entry F.slot_zip_next T F.entry_zip_next (step hh D hz hTI hTO h1 h2 hl1 hl2 (fun x y hx hy h' a1 a2 a3 a4 a5 a6 a7 => ⟨_, rfl, wpAny_pure (item x y hx hy h' a1 a2 a3 a4 a5 a6 a7)⟩) fun e h' q st he => ?_) (F.args_zip_next_1 _))))
  obtain ⟨o, ho, hc⟩ := he
  exact wpAny_bind (wpAny_isInstance (T := "StopIteration") (b := true) ⟨o, ho, hc⟩ isSubtype_stop (wpAny_pure (stop e _ st)))
abbrev m1 (h : Heap) (l1 : Addr) : Heap := h.push { cls := .type "list_iterator", data := .fields #[.ref l1, .int 0 0] }
abbrev m2 (h : Heap) (l1 l2 : Addr) : Heap := (m1 h l1).push { cls := .type "tuple_iterator", data := .fields #[.ref l2, .int 0 0] }
abbrev m3 (h : Heap) (l1 l2 : Addr) : Heap := (m2 h l1 l2).push { cls := .type "tuple", data := .seq #[.ref h.objs.size, .ref (m1 h l1).objs.size] }
abbrev m4 (h : Heap) (l1 l2 : Addr) : Heap := (m3 h l1 l2).push { cls := .type "tuple", data := .seq #[.none, .none] }
abbrev m5 (h : Heap) (l1 l2 : Addr) : Heap := (m4 h l1 l2).push { cls := .type "zip", data := .fields #[.none, .bool false, .bool false, .ref (m2 h l1 l2).objs.size, .ref (m3 h l1 l2).objs.size] }
theorem new_meets (l1 l2 : Addr) (xs ys : Array Value) : Meets (Builtin.«zip.__new__» ⟨[.type "zip", .ref l1, .ref l2], []⟩) (fun _ R s => s.heap.IsList l1 xs ∧ s.heap.IsTuple l2 ys ∧ R (.ok (.ret (.ref (m4 s.heap l1 l2).objs.size))) { s with heap := m5 s.heap l1 l2 }) :=
  .of_wp fun prog w A R s ⟨q1, q2, h⟩ => by
    obtain ⟨hp, g, d, tk, os⟩ := s
    have hsub := sub_zip
    have hL1 : Heap.IsList (Shared.heap ⟨hp, g, d, tk, os⟩) l1 xs := q1
    have hL2 : Heap.IsTuple (Shared.heap ⟨hp.push { cls := .type "list_iterator", data := .fields #[.ref l1, .int 0 0] }, g, d, tk, os⟩) l2 ys := Heap.IsTuple.push q2 _
    wp_walk using wpAny_pyIter_list hL1, wpAny_pyIter_tuple hL2
    exact ⟨_, rfl, h⟩
theorem made {Q : Value → Shared → Prop} (q1 : s.heap.IsList l1 xs) (q2 : s.heap.IsTuple l2 ys)
    (h : ∀ h', IsZip h' (s.heap.objs.size + 4) (s.heap.objs.size + 2) (s.heap.objs.size + 3) .none → IsPair h' (s.heap.objs.size + 2) (.ref s.heap.objs.size) (.ref (s.heap.objs.size + 1)) → IsPair h' (s.heap.objs.size + 3) .none .none →
      h'.IsListIter s.heap.objs.size l1 0 → h'.IsTupleIter (s.heap.objs.size + 1) l2 0 → (∀ c o, s.heap.get? c = some o → h'.get? c = some o) → Q (.ref (s.heap.objs.size + 4)) { s with heap := h' }) :
    wpAny (model prog w) A (call (.type "zip") [.ref l1, .ref l2]) Q E s := by
  refine callType_new F.called_zip (by decide) (F.typeCall_zip_2 _ _) (F.newCall_zip_2 _ _) (fun obj => F.args_object_init_3 obj _ _) F.entry_zip_new (new_meets l1 l2 xs ys) ⟨q1, q2, ?_⟩
  have n1 : (m1 s.heap l1).objs.size = s.heap.objs.size + 1 := Heap.size_push ..
  have n2 : (m2 s.heap l1 l2).objs.size = s.heap.objs.size + 2 := by rw [Heap.size_push, n1]
  have n3 : (m3 s.heap l1 l2).objs.size = s.heap.objs.size + 3 := by rw [Heap.size_push, n2]
  have n4 : (m4 s.heap l1 l2).objs.size = s.heap.objs.size + 4 := by rw [Heap.size_push, n3]
  have old : ∀ {h : Heap} {c : Addr} {o o2 : Obj}, h.get? c = some o → (h.push o2).get? c = some o := fun q => Heap.get?_push_of_some _ q
  have f5 : (m5 s.heap l1 l2).get? (m4 s.heap l1 l2).objs.size = some _ := Heap.get?_push_size _ rfl
  have f4 : (m5 s.heap l1 l2).get? (m3 s.heap l1 l2).objs.size = some _ := old (Heap.get?_push_size _ rfl)
  have f3 : (m5 s.heap l1 l2).get? (m2 s.heap l1 l2).objs.size = some _ := old (old (Heap.get?_push_size _ rfl))
  have f2 : (m5 s.heap l1 l2).get? (m1 s.heap l1).objs.size = some _ := old (old (old (Heap.get?_push_size _ rfl)))
  have f1 : (m5 s.heap l1 l2).get? s.heap.objs.size = some _ := old (old (old (old (Heap.get?_push_size _ rfl))))
  show _ ∧ _
  rw [n2, n3, n4] at f5
  rw [n1, n2] at f3
  rw [n3] at f4
  rw [n1] at f2
  rw [n4]
  exact ⟨⟨_, f5, rfl⟩, h _ f5 f3 f4 ⟨_, f1, rfl, rfl⟩ ⟨_, f2, rfl, rfl⟩ fun c o q => old (old (old (old (old q))))⟩
end
/-- the list at a and the tuple at b as they stand at each turn, the items in new pairs -/
def ItM (K : PySem.W.Frag) (a b : Addr) : It :=
  ⟨fun i H => ∃ (xs ys : List V) (x y : V), SqL K H a xs ∧ SqT K H b ys ∧ xs[i]? = some x ∧ ys[i]? = some y,
    fun i H v H' => ∃ T x y, v = .ref T ∧ H T = none ∧ H' = upd H T (.tup [x, y]) ∧ (∀ xs, SqL K H a xs → xs[i]? = some x) ∧ ∀ ys, SqT K H b ys → ys[i]? = some y,
    fun i H => ∃ xs ys : List V, SqL K H a xs ∧ SqT K H b ys ∧ (xs.length ≤ i ∨ ys.length ≤ i)⟩
theorem five {c z TI TO i1 i2 : Addr} (h : c ∈ [z, TI, TO, i1, i2]) : c = z ∨ c = TI ∨ c = TO ∨ c = i1 ∨ c = i2 := by simpa using h
theorem turnM {P : Program} {w : World} {K : PySem.W.Frag} {elts : List Expr} {kk : Nat} {tpos : Pos} {a b z TI TO i1 i2 : Addr} (D : ZipApart z TI TO i1 i2 a b) :
    Turn P w K (.Tuple elts kk tpos) (ItM K a b) [z, TI, TO, i1, i2] z (fun i h => IsZip h z TI TO .none ∧ IsPair h TI (.ref i1) (.ref i2) ∧ (∃ x y, IsPair h TO x y) ∧ h.IsListIter i1 a i ∧ h.IsTupleIter i2 b i) where
  mem := by simp
  obj := fun i h ⟨q1, q2, ⟨x, y, q3⟩, ⟨o1, e1, _, d1⟩, ⟨o2, e2, _, d2⟩⟩ c hc => by
    rcases five hc with rfl | rfl | rfl | rfl | rfl
    · exact ⟨_, q1, fun v q => nomatch q⟩
    · exact ⟨_, q2, fun v q => nomatch q⟩
    · exact ⟨_, q3, fun v q => nomatch q⟩
    · exact ⟨o1, e1, fun v q => by rw [d1] at q; cases q⟩
    · exact ⟨o2, e2, fun v q => by rw [d2] at q; cases q⟩
  keep := fun i h h' ⟨q1, q2, ⟨x, y, q3⟩, q4, q5⟩ k =>
    ⟨k z (by simp) _ q1, k TI (by simp) _ q2, ⟨x, y, k TO (by simp) _ q3⟩, q4.at fun o q => k i1 (by simp) o q, q5.at fun o q => k i2 (by simp) o q⟩
  item := by
    intro X hP hw hK hc i pins s σ H E I hf ⟨hz, hTI, ⟨x0, y0, hTO⟩, h1, h2⟩ ⟨xs, ys, x, y, hqx, hqy, hx, hy⟩
    subst hP hw hK
    obtain ⟨its, rv, p, _⟩ := I.list hqx
    obtain ⟨its2, rv2, p2, _⟩ := I.tuple hqy
    obtain ⟨u, hu, ru⟩ := rv.get hx
    obtain ⟨u2, hu2, ru2⟩ := rv2.get hy
    have lt : ∀ c ∈ [z, TI, TO, i1, i2], c < s.heap.objs.size := fun c hcm => by
      rcases five hcm with rfl | rfl | rfl | rfl | rfl
      · exact Heap.lt_size hz
      · exact Heap.lt_size hTI
      · exact Heap.lt_size hTO
      · obtain ⟨_, e1, _⟩ := h1
        exact Heap.lt_size e1
      · obtain ⟨_, e2, _⟩ := h2
        exact Heap.lt_size e2
    have hu : its.toArray[i]? = some u := by simpa using hu
    have hu2 : its2.toArray[i]? = some u2 := by simpa using hu2
    refine drawn (I.ok.hd hc) D hz hTI hTO h1 h2 p.isList p2 (fun x' y' ex ey h' z' TO' h1' h2' hT hsz hk => ?_) fun e => ?_
    · cases hu.symm.trans ex
      cases hu2.symm.trans ey
      refine ⟨_, rfl, wpAny_letOwnedTupleGo_zip (s := { s with heap := h' }) z' fun g z'' sb => ?_⟩
      have hT2 : g.get? s.heap.objs.size = some { cls := .type "tuple", data := .seq #[u, u2] } := (sb.2 _ (Nat.ne_of_gt (lt z (by simp)))).trans hT
      have off : ∀ {c : Addr}, c ∉ [z, TI, TO, i1, i2] → c ≠ z ∧ c ≠ TO ∧ c ≠ i1 ∧ c ≠ i2 := fun {c} n => ⟨fun q => n (by simp [q]), fun q => n (by simp [q]), fun q => n (by simp [q]), fun q => n (by simp [q])⟩
      have I1 : Inv X pins σ (upd H s.heap.objs.size (.tup [x, y])) { s with heap := g } :=
        I.turnedNew (t' := s.toks) (ch := [z, TI, TO, i1, i2]) (fun c o hb q => (sb.2 c (off hb).1).trans (hk c o (off hb).1 (off hb).2.1 (off hb).2.2.1 (off hb).2.2.2 q)) hf (Nat.le_refl _) ⟨by show 2 ≤ sizeLine; decide, [u, u2], .cons ru (.cons ru2 .nil), ⟨_, hT2, rfl, _, rfl⟩⟩
      refine ⟨.ref s.heap.objs.size, _, I1, rfl, ⟨_, x, y, rfl, I.hok.fresh (Nat.le_refl _), rfl, fun l hl => by rw [I.list_inj hl hqx]; exact hx, fun l hl => by rw [I.tuple_inj hl hqy]; exact hy⟩, ⟨z'', (sb.2 _ D.TIz).trans (hk _ _ D.TIz D.TITO D.TIi1 D.TIi2 hTI), ⟨u, u2, (sb.2 _ D.TOz).trans TO'⟩, h1'.at fun o q => (sb.2 _ D.i1z).trans q, h2'.at fun o q => (sb.2 _ D.i2z).trans q⟩, fun c hcm => ?_⟩
      rw [upd_ne (Nat.ne_of_lt (lt c hcm))]
      exact (hf c hcm).1
    · rcases e with e | e
      · rw [hu] at e
        cases e
      · rw [hu2] at e
        cases e
  done := by
    intro X hP hw hK hc i pins s σ H E I hf ⟨hz, hTI, ⟨x0, y0, hTO⟩, h1, h2⟩ ⟨xs, ys, hqx, hqy, hend⟩
    subst hP hw hK
    obtain ⟨its, rv, p, _⟩ := I.list hqx
    obtain ⟨its2, rv2, p2, _⟩ := I.tuple hqy
    have l1 := rv.length
    have l2 := rv2.length
    have over : its.toArray[i]? = none ∨ its2.toArray[i]? = none := hend.imp (fun q => by simp; omega) fun q => by simp; omega
    refine drawn (I.ok.hd hc) D hz hTI hTO h1 h2 p.isList p2 (fun x y ex ey => ?_) fun _ h' hk => ⟨rfl, I.turnedL (t' := s.toks) (ch := [z, TI, TO, i1, i2]) (fun c o hb q => hk c o (fun e => hb (by simp [e])) (fun e => hb (by simp [e])) (fun e => hb (by simp [e])) (fun e => hb (by simp [e])) q) hf⟩
    rcases over with q | q
    · rw [q] at ex
      cases ex
    · rw [q] at ey
      cases ey
  self := fun A i s Q E st h => wpAny_pyIter_zip st.1 h
def iZipM (K : PySem.W.Frag) (ta : TA) : TI := fun σ H R => ta σ H fun vs H1 => ∃ a b xs ys, vs = [.ref a, .ref b] ∧ SqL K H1 a xs ∧ SqT K H1 b ys ∧ R (ItM K a b) H1
theorem pi_zipM {X : Cx} {e e2 : Expr} {ta : TA} {p pos tpos : Pos} {elts : List Expr} {kk : Nat} (hg : Gl X "zip") (hm : X.mg "zip" = none) (ha : PA X [e, e2] ta)
    (hs : starEach [e, e2] X.env = (false, eval e X.env) :: starEach [e2] X.env := by rfl) (hpl : (backTo pos (starEach [e2] X.env)).any (·.1) = false := by rfl) : PI X (.Tuple elts kk tpos) (.Call (.Name "zip" p) [e, e2] [] pos) (iZipM X.K ta) := by
  refine ⟨fun pins s σ H R I h => Call_ (ld_blt I hg hm PyProof.Rows.boot_zip (PyProof.Rows.callWith_type1 (thn (ha.run pos pins s σ H _ I h) fun us s1 ⟨vs, H1, I1, r1, a, b, xs, ys, ex, hqx, hqy, q⟩ => ?_) hs hpl))⟩
  subst ex
  obtain ⟨u1, u2, eu, ra, rb⟩ := vals2 r1
  subst eu
  obtain rfl : u1 = Value.ref a := ra
  obtain rfl : u2 = Value.ref b := rb
  obtain ⟨its, rv, p1, _⟩ := I1.list hqx
  obtain ⟨its2, rv2, p2, _⟩ := I1.tuple hqy
  obtain ⟨o2, ho2, _⟩ := id p2
  have le : ∀ c ∈ [s1.heap.objs.size + 4, s1.heap.objs.size + 2, s1.heap.objs.size + 3, s1.heap.objs.size, s1.heap.objs.size + 1], s1.heap.objs.size ≤ c := fun c hcm => by
    rcases five hcm with e | e | e | e | e <;> rw [e]
    · exact Nat.le_add_right _ _
    · exact Nat.le_add_right _ _
    · exact Nat.le_add_right _ _
    · exact Nat.le_refl _
    · exact Nat.le_add_right _ _
  have ap := PySem.W.ktu_apart s1.heap.objs.size a b p1.lt (Heap.lt_size ho2)
  refine made p1.isList (show s1.heap.IsTuple b its2.toArray from p2) fun h' hz hTI hTO h1 h2 hk => wpAny_pyIter_zip hz ?_
  have I2 : Inv X pins σ H1 { s1 with heap := h' } := I1.kept (t' := s1.toks) hk
  exact ⟨s1.heap.objs.size + 4, [s1.heap.objs.size + 4, s1.heap.objs.size + 2, s1.heap.objs.size + 3, s1.heap.objs.size, s1.heap.objs.size + 1], _, _, H1, rfl, I2, turnM ap, ⟨hz, hTI, ⟨_, _, hTO⟩, h1, h2⟩, fun c hcm => I1.fpOk (le c hcm) (I1.hok.fresh (le c hcm)), q⟩
theorem walkM {K : PySem.W.Frag} {a b : Addr} {xs ys : List V} {n : Nat} (hn : n = min xs.length ys.length) : Walk (ItM K a b) n (fun H => SqL K H a xs ∧ SqT K H b ys) (YPair (fun i => xs[i]?) (fun i => ys[i]?)) := by
  subst hn
  refine ⟨fun i _ hi q => ?_, fun _ q => ⟨xs, ys, q.1, q.2, by omega⟩, fun i H v H' _ q ⟨T, x, z, h1, h2, h3, h4, h5⟩ => ⟨T, x, z, h1, h2, h3, h4 xs q.1, h5 ys q.2⟩⟩
  have h1 : i < xs.length := by omega
  have h2 : i < ys.length := by omega
  exact ⟨xs, ys, xs[i], ys[i], q.1, q.2, by simp [h1], by simp [h2]⟩
end OwZ
end
section
namespace TSet
open PySem PySem.Spec PyProof.Rows L2
/-- an entry of a set of texts -/
def TE (w : World) (e : Int × Value) : Prop := ∃ z tk, e = (hashStr w z, Value.str z tk)
def tk1 (e : Int × Value) : Str := strOf e.2
/-- the set object at a holds just the texts L, each once -/
def TS (w : World) (h : Heap) (a : Addr) (L : List Str) : Prop :=
  ∃ ob ents ep tab, h.get? a = some ob ∧ ob.ExactSet ∧ ob.data = .set ents ep tab ∧ (∀ e ∈ ents.toList, TE w e) ∧ (ents.toList.map tk1).Perm L ∧
    L.Nodup ∧ L.length < scanBound ∧ tab.fits ents.size = true ∧ Ris tab.place.toList ∧ (w.params.followText "set-order" = true ∨ tab.led = true)
section
variable {P : Program} {w : World} {h h' : Heap} {a : Addr} {L : List Str}
theorem TS.keep (R : TS w h a L) (k : ∀ o, h.get? a = some o → h'.get? a = some o) : TS w h' a L := by
  obtain ⟨ob, ents, ep, tab, h1, rest⟩ := R
  exact ⟨ob, ents, ep, tab, k ob h1, rest⟩
theorem te_is {e : Int × Value} (g : TE w e) (z : Str) : (strKind P w).is z e.2 = true ↔ tk1 e = z := by
  obtain ⟨y, tk, rfl⟩ := g
  show ((y == z) = true) ↔ y = z
  exact beq_iff_eq
theorem te_elems {l : List (Int × Value)} (g : ∀ e ∈ l, TE w e) : ElemsOf (strKind P w) l := fun e he => by
  obtain ⟨z, tk, rfl⟩ := g e he
  exact ⟨⟨z, strKind_is P w z tk, rfl⟩, rfl⟩
theorem te_mem {l : List (Int × Value)} (g : ∀ e ∈ l, TE w e) (z : Str) : z ∈ l.map tk1 ↔ ∃ e ∈ l, (strKind P w).is z e.2 = true := by
  constructor
  · intro m
    obtain ⟨e, he, q⟩ := List.mem_map.mp m
    exact ⟨e, he, (te_is (g e he) z).2 q⟩
  · rintro ⟨e, he, q⟩
    exact List.mem_map.mpr ⟨e, he, (te_is (g e he) z).1 q⟩
theorem TS.fresh {ob : Obj} (ho : h.get? a = some ob) (e : ob = { cls := .type "set", dict := none, data := .set #[] 0 (.fresh 0 0 (!w.params.followText "set-order")) }) : TS w h a [] := by
  subst e
  refine ⟨_, #[], 0, _, ho, ⟨rfl, rfl, rfl⟩, rfl, fun e he => by simp at he, List.Perm.refl _, List.nodup_nil, by decide, rfl, List.Pairwise.nil, ?_⟩
  show w.params.followText "set-order" = true ∨ (!w.params.followText "set-order") = true
  cases w.params.followText "set-order" <;> simp
end
/-- one more text -/
def put1 (L : List Str) (z : Str) : List Str := if z ∈ L then L else z :: L
theorem put1_len (L : List Str) (z : Str) : (put1 L z).length ≤ L.length + 1 := by
  unfold put1
  split
  · exact Nat.le_succ _
  · exact Nat.le_refl _
section
variable {P : Program} {w : World} {A : Around} {E : Value → Shared → Prop} {s : Shared} {a : Addr} {L : List Str}
theorem ts_add_end {g : Bool → Sem Unit} (hg : ∀ (b : Bool) (s₁ : Shared) (Q' : Unit → Shared → Prop), Q' () s₁ → wpAny (model P w) A (g b) Q' E s₁)
    {ob : Obj} {ents : Array (Int × Value)} {ep : Nat} {tab : SetTable} (ho : s.heap.get? a = some ob) (hex : ob.ExactSet) (hd : ob.data = .set ents ep tab)
    {en1 : Array (Int × Value)} {tb : SetTable} {M : List Str} (g1 : ∀ e ∈ en1.toList, TE w e) (pm1 : (en1.toList.map tk1).Perm M) (nd1 : M.Nodup)
    (hb : M.length < scanBound) (hf : tb.fits en1.size = true) (hr : Ris tb.place.toList) (hl : w.params.followText "set-order" = true ∨ tb.led = true) {dm : Bool} {R : Option Bool → Shared → Prop}
    (hR : ∀ h', Heap.SameBut a s.heap h' → TS w h' a M → R (some true) { s with heap := h' }) :
    wpAny (model P w) A (do
        storeSet a en1 tb
        if (!dm && tb.tooFull) = true then do
            g (relayAll tb en1 (SetTable.grown en1.size)).2.2
            storeSet a (relayAll tb en1 (SetTable.grown en1.size)).1 (relayAll tb en1 (SetTable.grown en1.size)).2.1
            pure (some true)
          else pure (some true)) R E s := by
  have hn1 : en1.size = M.length := by
    have q := pm1.length_eq
    rw [List.length_map, Array.length_toList] at q
    exact q
  refine wpAny_bind (wpAny_storeSet_of ho hd ?_ (fits_of_scanBound (by rw [hn1]; exact hb)))
  have ho1 := store_at (es' := en1) (t' := tb) ho hd
  have sb1 := Heap.SameBut.update s.heap a (Obj.putSet en1 tb)
  split
  · have pm := relayAll_perm tb en1 (SetTable.grown en1.size)
    have hf3 := relayAll_fits tb en1 (SetTable.grown en1.size)
    have hr3 := relayAll_ris tb en1 (SetTable.grown en1.size)
    have hl3 := relayAll_led tb en1 (SetTable.grown en1.size)
    generalize relayAll tb en1 (SetTable.grown en1.size) = Z at pm hf3 hr3 hl3 ⊢
    obtain ⟨en2, tb3, gave⟩ := Z
    dsimp only at pm hf3 hr3 hl3 ⊢
    have hn2 : en2.size = M.length := by rw [← hn1, ← Array.length_toList, pm.length_eq, Array.length_toList]
    refine wpAny_bind (hg _ _ _ ?_)
    refine wpAny_bind (wpAny_storeSet_of ho1 rfl ?_ (fits_of_scanBound (by rw [hn2]; exact hb)))
    have ho2 := store_at (es' := en2) (t' := tb3) ho1 rfl
    exact wpAny_pure (hR _ (sb1.trans (Heap.SameBut.update _ a _)) ⟨_, en2, _, tb3, ho2, hex, rfl, fun e he => g1 e (pm.mem_iff.mp he), (pm.map tk1).trans pm1, nd1, hb, hf3, hr3, by rw [hl3]; exact hl⟩)
  · exact wpAny_pure (hR _ sb1 ⟨_, en1, _, tb, ho1, hex, rfl, g1, pm1, nd1, hb, hf, hr, hl⟩)
theorem ts_add {z : Str} {tk : Tok} {Q : Bool → Shared → Prop} (R : TS w s.heap a L) (room : L.length + 1 < scanBound)
    (hQ : ∀ b h', Heap.SameBut a s.heap h' → TS w h' a (put1 L z) → Q b { s with heap := h' }) :
    wpAny (model P w) A (setAddHashed a (.str z tk) ((strKind P w).hash z)) Q E s := by
  obtain ⟨ob, ents, ep, tab, ho, hex, hd, g, pm0, nd, hb, hf, hr, hl⟩ := R
  have hkey : (strKind P w).is z (.str z tk) = true := strKind_is P w z tk
  have hsc : (Value.str z tk).scannable = true := rfl
  have hel : ElemsOf (strKind P w) ents.toList := te_elems g
  have hn : ents.size = L.length := by
    have q := pm0.length_eq
    rw [List.length_map, Array.length_toList] at q
    exact q
  unfold setAddHashed setAddHashedIn
  refine wpAny_holding (wpAny_bind (wpAny_setState_of ho hd hf ?_))
  dsimp only
  rw [byScan_of hsc (by rw [hn]; exact hb) hel]
  simp only [↓reduceIte]
  unfold setAddByScan
  refine wpAny_bind (wpAny_bind (wpAny_rule (wpAny_bind (wpAny_setScan_of hkey ho hd hf hel ?_))))
  cases hfi : List.findIdx? (fun e => (strKind P w).is z e.2) ents.toList with
  | some j =>
    dsimp only
    obtain ⟨hj, pj, _⟩ := List.findIdx?_eq_some_iff_getElem.mp hfi
    have hz : z ∈ L := pm0.mem_iff.mp ((te_mem (P := P) (w := w) g z).2 ⟨ents.toList[j], List.getElem_mem hj, pj⟩)
    refine wpAny_pure (wpAny_pure ?_)
    refine hQ _ s.heap (Heap.SameBut.refl a s.heap) ?_
    unfold put1
    rw [if_pos hz]
    exact ⟨ob, ents, ep, tab, ho, hex, hd, g, pm0, nd, hb, hf, hr, hl⟩
  | none =>
    dsimp only
    have hz : z ∉ L := fun q => by
      obtain ⟨e, he, c⟩ := (te_mem (P := P) (w := w) g z).1 (pm0.mem_iff.mpr q)
      have d := List.findIdx?_eq_none_iff.mp hfi e he
      rw [c] at d
      cases d
    have hgw : ∀ (b : Bool) {s₁ : Shared} {Q' : Unit → Shared → Prop}, Q' () s₁ → wpAny (model P w) A (match b with | true => rule "set.scan.the-table-gave-way" | false => pure ()) Q' E s₁ :=
      fun b _ _ q => by cases b <;> first | exact wpAny_pure q | exact wpAny_rule q
    have pm := layNew_perm tab ents ((strKind P w).hash z) (.str z tk)
    have hf1 := layNew_fits tab ents ((strKind P w).hash z) (.str z tk)
    have hr1 := layNew_ris tab ents ((strKind P w).hash z) (.str z tk) hr
    have hl1 := layNew_led tab ents ((strKind P w).hash z) (.str z tk)
    generalize layNew tab ents ((strKind P w).hash z) (.str z tk) = Z at pm hf1 hr1 hl1 ⊢
    obtain ⟨en1, tb1, dmy, gave⟩ := Z
    dsimp only at pm hf1 hr1 hl1 ⊢
    rw [Array.toList_push] at pm
    have pc : en1.toList.Perm (((strKind P w).hash z, Value.str z tk) :: ents.toList) := pm.trans (List.perm_append_singleton _ _)
    have pk : (en1.toList.map tk1).Perm (z :: L) := (pc.map tk1).trans (List.Perm.cons z pm0)
    have g1 : ∀ e ∈ en1.toList, TE w e := fun e he => by
      rcases List.mem_cons.mp (pc.mem_iff.mp he) with q | q
      · exact ⟨z, tk, q⟩
      · exact g e q
    have nd1 : (z :: L).Nodup := List.nodup_cons.mpr ⟨hz, nd⟩
    have hled : w.params.followText "set-order" = true ∨ tb1.led = true := by rw [hl1]; exact hl
    have e1 : put1 L z = z :: L := if_neg hz
    rw [e1] at hQ
    refine wpAny_bind (hgw _ ?_)
    split
    · refine wpAny_bind ?_
      rw [hashByValue_scannable 8 hsc]
      refine wpAny_pure ?_
      refine ts_add_end (dm := dmy) ?_ ho hex hd g1 pk nd1 room ?_ ?_ ?_ ?_
      · intro b _ _ q; cases b <;> first | exact wpAny_pure q | exact wpAny_rule q
      · first | (split <;> first | exact hf1 | exact SetTable.fits_plain_off hf1) | exact hf1
      · first | (split <;> exact hr1) | exact hr1
      · first | (split <;> exact hled) | exact hled
      · intro h' sb r; dsimp only; exact wpAny_pure (hQ _ h' sb r)
    · refine wpAny_bind (wpAny_pure ?_)
      simp only [↓reduceIte]
      refine ts_add_end (dm := dmy) ?_ ho hex hd g1 pk nd1 room hf1 hr1 hled ?_
      · intro b _ _ q; cases b <;> first | exact wpAny_pure q | exact wpAny_rule q
      · intro h' sb r; dsimp only; exact wpAny_pure (hQ _ h' sb r)
end
end TSet
end
section
namespace TSet
open PySem PySem.Spec PyProof.Rows L2
/-- the texts of a list, each once -/
def ded (xs : List Str) : List Str := xs.foldl put1 []
theorem put1_mem (L : List Str) (z y : Str) : y ∈ put1 L z ↔ y = z ∨ y ∈ L := by
  unfold put1
  split
  · rename_i h
    exact ⟨.inr, fun q => q.elim (fun e => e ▸ h) id⟩
  · exact List.mem_cons
theorem fold_mem : ∀ (xs L : List Str) (y : Str), y ∈ xs.foldl put1 L ↔ y ∈ L ∨ y ∈ xs
  | [], L, y => by simp
  | x :: xs, L, y => by
    rw [List.foldl_cons, fold_mem xs, put1_mem, List.mem_cons]
    constructor
    · rintro ((q | q) | q)
      · exact .inr (.inl q)
      · exact .inl q
      · exact .inr (.inr q)
    · rintro (q | q | q)
      · exact .inl (.inr q)
      · exact .inl (.inl q)
      · exact .inr q
theorem ded_mem (xs : List Str) (y : Str) : y ∈ ded xs ↔ y ∈ xs := by
  unfold ded
  rw [fold_mem]
  simp
theorem fold_len : ∀ (xs L : List Str), (xs.foldl put1 L).length ≤ L.length + xs.length
  | [], L => Nat.le_refl _
  | x :: xs, L => by
    have q := fold_len xs (put1 L x)
    have r := put1_len L x
    rw [List.foldl_cons, List.length_cons]
    omega
theorem ded_len (xs : List Str) : (ded xs).length ≤ xs.length := by
  have q := fold_len xs []
  unfold ded
  simpa using q
theorem ded_snoc (xs : List Str) (x : Str) : ded (xs ++ [x]) = put1 (ded xs) x := by
  unfold ded
  rw [List.foldl_append]
  rfl
theorem take_snoc {α : Type} {l : List α} {i : Nat} {x : α} (h : l[i]? = some x) : l.take (i + 1) = l.take i ++ [x] := by
  rw [List.take_add_one, h]
  rfl
section
variable {P : Program} {w : World} {A : Around} {E : Value → Shared → Prop} {s : Shared}
theorem upd_loop {I : Addr} {fp wr : List Addr} {G : Array GenState → Array GenState → Prop} {n : Nat} {Pv : Nat → Value → Prop} {St : Nat → Shared → Prop} {R : Result → Shared → Prop}
    (W : WalksS P w A.in1 I fp wr G n Pv St) (S : Addr) (out : S ∉ fp) (xs : List Str) (hn : n = xs.length) (few : xs.length < scanBound) (hval : ∀ i v, Pv i v → ∃ z t, xs[i]? = some z ∧ v = .str z t) :
    ∀ (k i : Nat) (s : Shared), n - i = k → i ≤ n → St i s → TS w s.heap S (ded (xs.take i)) →
      (∀ s', Moved (S :: wr) G s s' → TS w s'.heap S (ded xs) → R (.ok (.ret .none)) s') →
      codeAny (model P w) A (.builtin "set.update.loop" ⟨[.ref S, .ref I], []⟩) R s := by
  have hSw : S ∉ wr := fun h => out (W.sub _ h)
  have hsub : ∀ b ∈ wr, b ∈ S :: wr := fun b hb => List.mem_cons_of_mem _ hb
  intro k
  induction k with
  | zero =>
    intro i s hk hi hst hS hR
    obtain rfl : i = n := by omega
    refine codeAny_builtin F.entry_set_update_loop ?_
    rw [Around.under_plainId F.plain_set_update_loop _]
    refine wpAny_bind (m := pyNext (.ref I)) (W.done s _ _ hst fun s' hm => ?_)
    rw [hn, List.take_length] at hS
    exact wpAny_pure (hR s' (hm.mono hsub) (hS.keep fun o e => hm.heap S o hSw e))
  | succ k ih =>
    intro i s hk hi hst hS hR
    have hlt : i < n := by omega
    refine codeAny_builtin F.entry_set_update_loop ?_
    rw [Around.under_plainId F.plain_set_update_loop _]
    refine wpAny_bind (m := pyNext (.ref I)) (W.item i s _ _ hlt hst fun v s' hP hst' hm => ?_)
    obtain ⟨z, t, hz, rfl⟩ := hval i v hP
    have hS1 : TS w s'.heap S (ded (xs.take i)) := hS.keep fun o e => hm.heap S o hSw e
    have hl : (ded (xs.take i)).length + 1 < scanBound ∨ (ded (xs.take i)).length + 1 ≤ xs.length := by
      have q := ded_len (xs.take i)
      rw [List.length_take] at q
      right
      omega
    have hroom : (ded (xs.take i)).length + 1 < scanBound := hl.elim id fun q => Nat.lt_of_le_of_lt q few
    refine wpAny_bind (m := holding [Value.str z t] (setAdd S (.str z t))) (wpAny_holding ?_)
    unfold setAdd
    refine wpAny_holding (wpAny_bind ((strKind P w).pyHash (k := z) (strKind_is _ _ _ _) ?_))
    refine ts_add (s := { s' with toks := s'.toks + 1 }) hS1 hroom fun b h' sb hS2 => ?_
    rw [← ded_snoc, ← take_snoc hz] at hS2
    refine wpAny_pure ⟨plainId_quiet F.plain_set_update_loop _, ih (i + 1) _ (by omega) hlt (W.frame _ s' _ _ hst' (Nat.le_succ _) fun c hc o e => ?_) hS2 fun s2 hm2 hS3 => ?_⟩
    · rw [sb.2 c fun q => out (q ▸ hc)]; exact e
    · refine hR s2 (Moved.trans W.gtrans ((hm.mono hsub).then_heap (Nat.le_succ _) fun c o hc e => ?_) hm2) hS3
      rw [sb.2 c fun q => hc (by rw [q]; exact List.mem_cons_self)]; exact e
theorem strs_ix : ∀ {us : List Value} {xs : List Str}, StrsAre us xs → ∀ (i : Nat) (v : Value), us[i]? = some v → ∃ z t, xs[i]? = some z ∧ v = .str z t
  | _, _, .nil, i, v, h => by simp at h
  | _, _, .cons z t _, 0, v, h => ⟨z, t, rfl, (Option.some.inj h).symm⟩
  | _, _, .cons _ _ r, i + 1, v, h => by
    rw [List.getElem?_cons_succ] at h
    rw [List.getElem?_cons_succ]
    exact strs_ix r i v h
abbrev nob (w : World) : Obj := { cls := .type "set", dict := none, data := .set #[] 0 (.fresh 0 0 (!w.params.followText "set-order")) }
/-- set(xs), xs a list of texts -/
theorem call_set_texts {l : Addr} {items : Array Value} {xs : List Str} {Q : Value → Shared → Prop} (hh : A.handled = none) (hl : s.heap.IsList l items) (hi : StrsAre items.toList xs) (few : xs.length < scanBound)
    (hq : ∀ (h' : Heap) (tk : Nat), TS w h' s.heap.objs.size (ded xs) → (∀ b o, s.heap.get? b = some o → h'.get? b = some o) → Q (.ref s.heap.objs.size) { s with heap := h', toks := tk }) :
    wpAny (model P w) A (call (.type "set") [.ref l]) Q E s := by
  have hisz : items.size = xs.length := by rw [← Array.length_toList]; exact StrsAre.len_eq hi
  obtain ⟨c, tl, hmro⟩ := F.called_set.mro
  have hmade := F.called_set.made
  have hsub := F.called_set.sub
  refine wpAny_call (codeAny_of_tree ?_)
  show wpAny _ _ (callAny (.type "set") _) _ _ _
  refine wpAny_pure ⟨Code.quiet_builtin _ (by decide +kernel), codeAny_builtin F.entry_type_call ?_⟩
  rw [Around.under_plain (weight_type_call_type "set" [.ref l] []) rfl]
  have h1 := F.called_set.notType
  have h2 := F.called_set.canCreate
  have hct := F.typeCall_set_1 (.ref l)
  repeat (any_goals (first | assumption | wp_step))
  refine codeAny_mono (code_set_led1 (.ref l) (E := E) (Q₁ := fun ov s₁ => ov = .ref s.heap.objs.size ∧ s₁ = { s with heap := s.heap.push { cls := .type "set", dict := none, data := .set #[] 0 (.fresh 0 0 (!w.params.followText "set-order")) } }) ⟨rfl, rfl⟩) fun r s₁ hr => ?_
  cases r with
  | error e => exact hr
  | ok fl =>
    cases fl with
    | ret ov =>
      obtain ⟨rfl, rfl⟩ := hr
      have hS : (s.heap.push (nob w)).get? s.heap.objs.size = some (nob w) := Heap.get?_push_size _ rfl
      have hT : Shared.TypeIs { s with heap := s.heap.push (nob w) } (.ref s.heap.objs.size) "set" := ⟨_, hS, rfl⟩
      have hli := F.called_set.init.lookup
      have hbi := F.called_set.init.bind (.ref s.heap.objs.size)
      repeat (any_goals (first | assumption | wp_step))
      refine codeAny_mono (codeAny_call_builtin (R := wants (fun r s₂ => r = .none ∧ ∃ h' tk, s₂ = { s with heap := h', toks := tk } ∧ TS w h' s.heap.objs.size (ded xs) ∧
          (∀ b o, s.heap.get? b = some o → h'.get? b = some o)) E) F.called_set.init.plain F.entry_set_init (check_set_init_1 hT ?_)) fun r₂ s₂ hr₂ => ?_
      · obtain ⟨ol, hol, hcl, nl, hdl⟩ := hl
        obtain ⟨ocls, odict, odata, oslots⟩ := ol
        simp only at hcl hdl
        subst hcl; subst hdl
        have hol' : (s.heap.push (nob w)).get? l = some { cls := .type "list", dict := odict, data := .seq items nl, slots := oslots } := Heap.get?_push_of_some _ hol
        have hsls := F.sub_list_set
        have hslf := F.sub_list_frozenset
        have hne : (Value.type "list" == Value.type "dict") = false := by decide
        have hl1 : (s.heap.push (nob w)).IsList l items := ⟨_, hol', rfl, nl, rfl⟩
        unfold Builtin.«set.__init__» noKeywords Builtin.Frozenset.updateFrom
        generalize hPI : pyIter = PI
        wp_walk
        subst hPI
        refine wpAny_pyIter_list hl1 ?_
        refine wpAny_bind (wpAny_runValue ?_)
        have hlS : l < s.heap.objs.size := Heap.lt_size hol
        have hz1 : (s.heap.push (nob w)).objs.size = s.heap.objs.size + 1 := Heap.size_push ..
        have hneI : l ≠ (s.heap.push (nob w)).objs.size := by rw [hz1]; exact Nat.ne_of_lt (Nat.lt_succ_of_lt hlS)
        have hSf : s.heap.objs.size ∉ [(s.heap.push (nob w)).objs.size, l] := by
          rw [hz1]
          intro m
          rcases List.mem_cons.mp m with q | q
          · exact absurd q (Nat.ne_of_lt (Nat.lt_succ_self _))
          · exact absurd (List.mem_singleton.mp q) (Nat.ne_of_gt hlS)
        refine upd_loop (A := A.in1.in1) ((Walks.list (by simp [hh]) _ l hneI items).toS) s.heap.objs.size hSf xs hisz few
          (fun i v hv => strs_ix hi i v (by rw [Array.getElem?_toList]; exact hv)) (items.size - 0) 0 _ rfl (Nat.zero_le _)
          ⟨⟨_, Heap.get?_push_size _ rfl, rfl, rfl⟩, (hl1.push _)⟩ ?hS0 ?hR
        case hS0 => exact TS.fresh (Heap.get?_push_of_some _ hS) rfl
        case hR =>
          intro s' hm hS'
          obtain ⟨h', g2, d', tk', os'⟩ := s'
          have eg : g2 = s.gens := hm.gens
          have ed : d' = s.drawn := hm.drawn
          have eo : os' = s.os := hm.os
          subst eg; subst ed; subst eo
          show wpAny _ _ _ _ _ _
          refine wpAny_pure ?_
          show wpAny _ _ (ret Value.none) _ _ _
          refine wpAny_pure ⟨rfl, h', tk', rfl, hS', fun b o e => ?_⟩
          have hlt := Heap.lt_size e
          refine hm.heap b o (fun m => ?_) (Heap.get?_push_of_some _ (Heap.get?_push_of_some _ e))
          rcases List.mem_cons.mp m with q | q
          · exact absurd q (Nat.ne_of_lt hlt)
          · have q := List.mem_singleton.mp q
            rw [hz1] at q
            exact absurd q (Nat.ne_of_lt (Nat.lt_succ_of_lt hlt))
      · cases r₂ with
        | error e => exact hr₂
        | ok fl₂ =>
          cases fl₂ with
          | ret r =>
            obtain ⟨rfl, h', tk, rfl, hS', hk'⟩ := hr₂
            repeat (any_goals (first | assumption | wp_step))
            exact hq _ _ hS' hk'
          | _ => exact hr₂.elim
    | _ => exact hr.elim
end
end TSet
end
section
namespace TSet
open PySem PySem.Spec PyProof.Rows L2
section
variable {P : Program} {w : World} {A : Around} {E : Value → Shared → Prop} {s : Shared} {a : Addr} {L : List Str}
theorem sorted_texts {Q : Value → Shared → Prop} (R : TS w s.heap a L) (hh : A.handled = none) (few : L.length < 64)
    (hQ : ∀ s' p (out : Array Value) (c : Nat) (ys : List Str), (∀ b o, s.heap.get? b = some o → s'.heap.get? b = some o) → s'.gens = s.gens → s'.os = s.os → s.heap.objs.size ≤ p →
      s'.heap.get? p = some (seqObj "list" out c) → StrsAre out.toList ys → ys.Perm L → sortedS ys = true → Q (.ref p) s') :
    wpAny (model P w) A (call (.builtin "sorted") [.ref a]) Q E s := by
  obtain ⟨ob, ents, ep, tab, ho, hex, hd, g, pm0, nd, hb, hf, hr, hl⟩ := R
  have hn : ents.size = L.length := by
    have q := pm0.length_eq
    rw [List.length_map, Array.length_toList] at q
    exact q
  refine Calls.call_function_entry kind_sorted plain_sorted entry_sorted (args_sorted1 _) ?_
  unfold Builtin.«sorted»
  refine wpAny_bind (m := checkCount "sorted" 1 1 _) (wpAny_pure ?_)
  refine wpAny_bind (collect_set (A := A.in1) hh ⟨ob, ho, hex.1, hd⟩ hf (by rw [hn]; exact hb) hr hl fun s1 vs k1 hz g1 o1 pm => ?_)
  have pv : (vs.map strOf).Perm L := by
    have q := pm.map strOf
    rw [List.map_map] at q
    exact q.trans pm0
  have hvl : vs.length = L.length := by
    have q := pv.length_eq
    rw [List.length_map] at q
    exact q
  have hS : StrsAre vs (vs.map strOf) := strsAre_map vs fun v hv => by
    obtain ⟨e, he, q⟩ := List.mem_map.mp (pm.mem_iff.mp hv)
    obtain ⟨z, tk, rfl⟩ := g e he
    exact ⟨z, tk, q.symm⟩
  refine wpAny_bind (wpAny_newList ?_ (by rw [hvl, sizeLine_eq]; omega))
  have hoL : (s1.heap.push (seqObj "list" vs.toArray 0)).get? s1.heap.objs.size = some (seqObj "list" vs.toArray 0) := Heap.get?_push_size _ rfl
  refine wpAny_bind (wpAny_holding (wpAny_call_entry slot_list_sort ⟨_, hoL, rfl⟩ entry_list_sort
    (list_sort_treeK strKind_oneLt hoL hS.keysOf (fun v₁ v₂ rest e => keyKind_strs (by rw [← e]; exact hS)) (by rw [hvl]; exact few) fun st' hp hs => ⟨_, rfl, ?_⟩) (args_list_sort _)))
  obtain ⟨ys, y1, y2, y3⟩ := sorted_out_str hS hp hs
  obtain ⟨c, hc⟩ := sortedHeap_at (vs := vs) (out := (arrOf st').map (·.2)) hoL
  refine wpAny_pure ⟨_, rfl, hQ _ s1.heap.objs.size _ c ys (fun b u e => ?_) g1 o1 hz hc y1 (y2.trans pv) y3⟩
  have q := k1 b u e
  have hlt := Heap.lt_size q
  show (sortedHeap (s1.heap.push (seqObj "list" vs.toArray 0)) s1.heap.objs.size vs ((arrOf st').map (·.2))).get? b = some u
  rw [sortedHeap_old (Nat.ne_of_lt hlt) (by rw [size_push']; exact Nat.lt_succ_of_lt hlt)]
  exact Heap.get?_push_of_some _ q
end
/-! ### over the layer -/
def TSO (w : World) (a : Addr) (L : List Str) : HO := .ext fun h => TS w h a L
theorem tso_new {P : Program} {w : World} {H : Hp} {h : Heap} {a : Addr} {L : List Str} (R : TS w h a L) : ObjOk P w H h a (TSO w a L) := by
  have ⟨ob, _, _, _, ho, _⟩ := R
  exact ⟨R, ⟨ob, ho⟩, fun _ _ p k => p.keep k⟩
section
variable {X : Cx}
/-- set(xs), xs a list of texts, and sorted of it -/
def rSetS (K : PySem.W.Frag) (w : World) : List V → Hp → VK → Prop := fun vs H Q => ∃ (l : Addr) (xs : List Str), vs = [V.ref l] ∧ SqL K H l (xs.map V.str) ∧ xs.length < scanBound ∧
  ∀ a, H a = none → Q (.ref a) (upd H a (TSO w a (ded xs)))
theorem cr_setS (hc : X.calm = true) : CallR X (.type "set") (rSetS X.K X.w) := by
  intro pins s σ H vs us Q I r h
  obtain ⟨l, xs, rfl, hl, few, q⟩ := h
  rw [Vals.ref1 r]
  obtain ⟨its, rv, pl, _⟩ := I.list hl
  have hn : H s.heap.objs.size = none := I.hok.fresh (Nat.le_refl _)
  refine call_set_texts (P := X.prog) (I.ok.hd hc) pl.isList (by simpa using Vals.strs rv) few fun h' tk R k => ?_
  exact ⟨.ref s.heap.objs.size, upd H s.heap.objs.size (TSO X.w s.heap.objs.size (ded xs)), I.laid (t' := tk) k (Nat.le_refl _) (tso_new R), rfl, q _ hn⟩
def rSortedTexts (w : World) : List V → Hp → VK → Prop := fun vs H Q => ∃ (a : Addr) (L : List Str), vs = [V.ref a] ∧ H a = some (TSO w a L) ∧ L.length < 64 ∧
  ∀ (ys : List Str) (p : Addr), ys.Perm L → sortedS ys = true → H p = none → Q (.ref p) (upd H p (.lst (ys.map V.str)))
theorem cr_sortedTexts (hc : X.calm = true) : CallR X (.builtin "sorted") (rSortedTexts X.w) := by
  intro pins s σ H vs us Q I r h
  obtain ⟨a, L, rfl, ha, few, q⟩ := h
  have R : TS X.w s.heap a L := (I.hok a _ ha).1
  rw [Vals.ref1 r]
  refine sorted_texts (P := X.prog) R (I.ok.hd hc) few fun s' p out c ys k g o hp hg hS pm srt => ?_
  have hlen : (ys.map V.str).length ≤ sizeLine := by
    rw [List.length_map, pm.length_eq, sizeLine_eq]
    omega
  have hn : H p = none := I.hok.fresh hp
  have J : Inv X pins σ (upd H p (.lst (ys.map V.str))) { s with heap := s'.heap, gens := s'.gens, drawn := s'.drawn, toks := s'.toks } :=
    I.call (ch := []) (Un.laid k hp hn) (I.hok.laid k hp ⟨hlen, out.toList, c, vals_of_strs hS, hg⟩) (by rw [g]; exact I.bare) (fun _ z => nomatch z)
  have e : s' = { s with heap := s'.heap, gens := s'.gens, drawn := s'.drawn, toks := s'.toks } := by
    cases s'
    cases s
    cases o
    rfl
  rw [e]
  exact ⟨.ref p, _, J, rfl, q ys p pm srt hn⟩
end
end TSet
end
section
namespace OwD
open PySem PySem.Spec PyProof.Rows L2
theorem lays {α : Type} {f : α → PyData} : ∀ l : List α, (∀ x ∈ l, (f x).canLay0 = true) → PyData.canLayAll0 (l.map f) = true
  | [], _ => by simp [PyData.canLayAll0]
  | x :: l, h => by
    rw [List.map_cons, PyData.canLayAll0, h x List.mem_cons_self, lays l fun y hy => h y (List.mem_cons_of_mem _ hy)]
    rfl
theorem deps {α : Type} {f : α → PyData} {k : Nat} : ∀ l : List α, (∀ x ∈ l, (f x).depth ≤ k) → PyData.depthAll (l.map f) ≤ k
  | [], _ => by simp [PyData.depthAll]
  | x :: l, h => by
    have h1 := h x List.mem_cons_self
    have h2 := deps l fun y hy => h y (List.mem_cons_of_mem _ hy)
    rw [List.map_cons, PyData.depthAll]
    exact Nat.max_le.mpr ⟨h1, h2⟩
theorem shaped_of {d : PyData} (h1 : d.canLay0 = true) (h2 : d.depth ≤ 64) : SeqAt.shaped d = true := by
  show (d.canLay0 && decide (d.depth ≤ 64)) = true
  rw [h1, decide_eq_true h2]
  rfl
theorem shaped_lst {α : Type} {f : α → PyData} {l : List α} {k : Nat} (hk : k ≤ 60) (h1 : ∀ x ∈ l, (f x).canLay0 = true) (h2 : ∀ x ∈ l, (f x).depth ≤ k) : SeqAt.shaped (.list (l.map f)) = true := by
  refine shaped_of (by rw [PyData.canLay0]; exact lays l h1) ?_
  have := deps l h2
  rw [PyData.depth]
  omega
theorem shaped_tup {α : Type} {f : α → PyData} {l : List α} {k : Nat} (hk : k ≤ 60) (h1 : ∀ x ∈ l, (f x).canLay0 = true) (h2 : ∀ x ∈ l, (f x).depth ≤ k) : SeqAt.shaped (.tuple (l.map f)) = true := by
  refine shaped_of (by rw [PyData.canLay0]; exact lays l h1) ?_
  have := deps l h2
  rw [PyData.depth]
  omega
theorem dp_ints {K : PySem.W.Frag} {H : Hp} : ∀ ns : List Int, DpAll K H (ns.map V.int) (ns.map PyData.int)
  | [] => .nil
  | n :: r => .cons (.int n) (dp_ints r)
theorem dp_strs {K : PySem.W.Frag} {H : Hp} : ∀ ns : List Str, DpAll K H (ns.map V.str) (ns.map PyData.str)
  | [] => .nil
  | n :: r => .cons (.str n) (dp_strs r)
theorem shaped_ints (ns : List Int) : SeqAt.shaped (.list (ns.map PyData.int)) = true := shaped_lst (k := 0) (by decide) (fun _ _ => by simp [PyData.canLay0]) fun _ _ => by simp [PyData.depth]
theorem eqv_nil {α : Type} {f : α → PyData} (l : List α) : PyData.eqv (.list (l.map f)) (.list []) = l.isEmpty := by
  cases l <;> simp [PyData.eqv, PyData.eqvAll]
theorem shaped_nil : SeqAt.shaped (.list []) = true := shaped_of (by simp [PyData.canLay0, PyData.canLayAll0]) (by simp [PyData.depth, PyData.depthAll])
end OwD
end
section
namespace OwR
open PySem PySem.Spec PyProof.Rows L2
theorem raw0 {P : Program} {w : World} {K : PySem.W.Frag} {mg : Str → Option Value} {base : Heap} {CX : CXT} {k : Nat} {f : Addr} {fd : FuncData} {ps : List Str} {sp : Sp} (F : FnOk P w K mg base CX k f fd ps sp) (hb : Binds K fd ps []) : FnR P w K mg base CX k f sp :=
  (F.raw hb .nil).imp fun vs H Q E h => by rw [List.append_nil]; exact h
end OwR
namespace K10
open PySem PySem.Spec PyProof.Rows L2
/-- what stands behind the module's names -/
structure Nm (mg : Str → Option Value) : Prop where
  n_int : mg "int" = none
  n_len : mg "len" = none
  n_abs : mg "abs" = none
  n_list : mg "list" = none
/-- the state of the draws at p: the cells at c, how many were taken, what is left of a great one -/
structure PenAt (H : Hp) (p c : Addr) (ns : List Int) (n : Nat) (z : Int) : Prop where
  pen : H p = some (.lst [.ref c, .int n, .int z])
  cells : H c = some (.lst (ns.map V.int))
  few : ns.length ≤ 63
  rest : 0 ≤ z
theorem PenAt.ne {H : Hp} {p c : Addr} {ns : List Int} {n : Nat} {z : Int} (P : PenAt H p c ns n z) : c ≠ p := fun e => by
  have h1 := P.pen
  have h2 := P.cells
  rw [e, h1] at h2
  have h3 := congrArg (fun o : Option HO => match o with | some (.lst xs) => xs | _ => []) h2
  have h4 : ([V.ref c, V.int n, V.int z] : List V) = ns.map V.int := h3
  cases ns with
  | nil => cases h4
  | cons a l => cases h4
/-- all but the pen stands -/
def But (p : Addr) (H H' : Hp) : Prop := ∀ b o, b ≠ p → H b = some o → H' b = some o
theorem But.refl (p : Addr) (H : Hp) : But p H H := fun _ _ _ h => h
theorem But.trans {p : Addr} {H H1 H2 : Hp} (a : But p H H1) (b : But p H1 H2) : But p H H2 := fun c o n h => b c o n (a c o n h)
theorem But.new {p l : Addr} {H : Hp} {o : HO} (h : H l = none) : But p H (upd H l o) := fun b u _ e => by
  rw [upd_ne (ne_of_none e h)]
  exact e
theorem But.at {p : Addr} {H : Hp} {o : HO} : But p H (upd H p o) := fun b u n e => by
  rw [upd_ne n]
  exact e
theorem But.same {p : Addr} {H H' : Hp} (a : But p H H') (s : Same H' H') : But p H H' := a
theorem at_mod (ns : List Int) (n : Int) (h : 0 < ns.length) : ∃ x : Int, atI (ns.map V.int) (n % ((ns.map V.int).length : Int)) = some (V.int x) := by
  have hl : (ns.map V.int).length = ns.length := List.length_map _
  have h1 : 0 ≤ n % ((ns.map V.int).length : Int) := Int.emod_nonneg _ (by omega)
  have h2 : n % ((ns.map V.int).length : Int) < ((ns.map V.int).length : Int) := Int.emod_lt_of_pos _ (by omega)
  generalize n % ((ns.map V.int).length : Int) = j at h1 h2
  obtain ⟨i, rfl⟩ : ∃ i : Nat, j = (i : Int) := ⟨j.toNat, by omega⟩
  have hi : i < ns.length := by omega
  refine ⟨ns[i], atI_nat ?_⟩
  rw [List.getElem?_map, List.getElem?_eq_getElem hi]
  rfl
theorem mix_lt {x n a b c : Int} (x0 : 0 ≤ x) (x1 : x < 2147483648) (n0 : 0 ≤ n) (n1 : n < 100000) (a0 : 0 ≤ a) (a1 : a < 1000000) (b0 : 0 ≤ b) (b1 : b < 1000000) (c0 : 0 ≤ c) (c1 : c < 1000000) :
    (x * (2 * n + a) + b * n * n + c).natAbs < 2 ^ 64 := by
  have h1 : 0 ≤ x * (2 * n + a) := Int.mul_nonneg x0 (by omega)
  have h2 : x * (2 * n + a) ≤ 2147483648 * 1200000 := Int.mul_le_mul (by omega) (by omega) (by omega) (by decide)
  have h3 : 0 ≤ b * n * n := Int.mul_nonneg (Int.mul_nonneg b0 n0) n0
  have h4 : b * n ≤ 1000000 * 100000 := Int.mul_le_mul (by omega) (by omega) n0 (by decide)
  have h5 : b * n * n ≤ 1000000 * 100000 * 100000 := Int.mul_le_mul h4 (by omega) n0 (by decide)
  omega
def spDraw : Sp := fun vs H Q _ => ∃ (p c : Addr) (ns : List Int) (n : Nat) (z m : Int), vs = [.ref p, .int m] ∧ PenAt H p c ns n z ∧ n < 100000 ∧ 0 < m ∧ m.natAbs < 2 ^ 1000 ∧
  ∀ (d : Int) (n' : Nat) (z' : Int) (H' : Hp), 0 ≤ d → d < m → n' ≤ n + 1 → PenAt H' p c ns n' z' → But p H H' → Q (.int d) H'
theorem Same.of_new {H : Hp} {p : Addr} {o : HO} (h : H p = none) : Same H (upd H p o) := fun b u e => by
  rw [upd_ne (ne_of_none e h)]
  exact e
theorem But.rd {p : Addr} {H H' : Hp} (s : But p H H') {a : Addr} {o : HO} (n : a ≠ p) (h : Rd H a o) : Rd H' a o := h.elim (fun e => .inl (s a _ n e)) fun ⟨q, e⟩ => .inr ⟨q, s a _ n e⟩
theorem Same.but {H H' : Hp} (p : Addr) (s : Same H H') : But p H H' := fun b o _ e => s b o e
theorem Same.rd {H H' : Hp} (s : Same H H') {a : Addr} {o : HO} (h : Rd H a o) : Rd H' a o := h.elim (fun e => .inl (s a _ e)) fun ⟨q, e⟩ => .inr ⟨q, s a _ e⟩
theorem made_same {H H' : Hp} {x dx : Addr} {o o' : HO} (hx : H x = none) (hd : H dx = none) (s : But x (upd (upd H dx o) x o') H') : Same H H' := fun b u e => by
  refine s b u (ne_of_none e hx) ?_
  rw [upd_ne (ne_of_none e hx), upd_ne (ne_of_none e hd)]
  exact e
theorem upd_keep2 {H : Hp} {D b : Addr} {o u : HO} (h : H b = some u) (hD : H D = none) : upd H D o b = some u := by
  rw [upd_ne (ne_of_none h hD)]
  exact h
theorem SqL.mono {K : PySem.W.Frag} {H H' : Hp} {a : Addr} {xs : List V} (h : SqL K H a xs) (s : Same H H') : SqL K H' a xs := h.elim (fun r => .inl (Same.rd s r)) .inr
theorem SqT.mono {K : PySem.W.Frag} {H H' : Hp} {a : Addr} {xs : List V} (h : SqT K H a xs) (s : Same H H') : SqT K H' a xs := h.elim (fun r => .inl (Same.rd s r)) .inr
theorem But.free {p l : Addr} {H H' : Hp} (s : But p H H') (hp : H' p ≠ none) (h : H' l = none) : H l = none := by
  cases e : H l with
  | none => rfl
  | some o =>
    by_cases n : l = p
    · rw [n] at h
      exact (hp h).elim
    · rw [s l o n e] at h
      cases h
theorem PenAt.some {H : Hp} {p c : Addr} {ns : List Int} {n : Nat} {z : Int} (P : PenAt H p c ns n z) : H p ≠ none := by
  rw [P.pen]
  exact fun h => by cases h
theorem PenAt.same {H H' : Hp} {p c : Addr} {ns : List Int} {n : Nat} {z : Int} (P : PenAt H p c ns n z) (s : Same H H') : PenAt H' p c ns n z := ⟨s _ _ P.pen, s _ _ P.cells, P.few, P.rest⟩
theorem SqL.but {K : PySem.W.Frag} {p : Addr} {H H' : Hp} {a : Addr} {xs : List V} (h : SqL K H a xs) (n : a ≠ p) (s : But p H H') : SqL K H' a xs := h.elim (fun r => .inl (But.rd s n r)) .inr
theorem nth {α : Type} {xs : List α} {d : Int} (h0 : 0 ≤ d) (h1 : d < xs.length) : ∃ x, x ∈ xs ∧ atI xs d = some x := by
  obtain ⟨j, rfl⟩ : ∃ j : Nat, d = (j : Int) := ⟨d.toNat, by omega⟩
  have hj : j < xs.length := by omega
  exact ⟨xs[j], List.getElem_mem hj, atI_nat (List.getElem?_eq_getElem hj)⟩
theorem cut_63 {ns : List Int} (h : ns.length ≤ 63) : cutV (ns.map V.int) none (some 63) = ns.map V.int := by
  have e : (some 63 : Option Int) = some ((63 : Nat) : Int) := rfl
  unfold cutV
  rw [HT.sIx_none, e, HT.sIx_nat, List.drop_zero]
  exact List.take_of_length_le (by rw [List.length_map]; omega)
theorem PenAt.put {H : Hp} {p c D : Addr} {ns : List Int} {n : Nat} {z : Int} {o : HO} (P : PenAt H p c ns n z) (n1 : p ≠ D) (n2 : c ≠ D) : PenAt (upd H D o) p c ns n z := ⟨by rw [upd_ne n1]; exact P.pen, by rw [upd_ne n2]; exact P.cells, P.few, P.rest⟩
def spPen (K : PySem.W.Frag) : Sp := fun vs H Q _ => ∃ (a : Addr) (ns : List Int), vs = [.ref a] ∧ SqL K H a (ns.map V.int) ∧ ns.length ≤ 63 ∧ ∀ p c H', H p = none → Same H H' → PenAt H' p c ns 0 0 → Q (.ref p) H'
def spPick (K : PySem.W.Frag) : Sp := fun vs H Q _ => ∃ (p c l : Addr) (ns : List Int) (n : Nat) (z : Int) (xs : List V), vs = [.ref p, .ref l] ∧ PenAt H p c ns n z ∧ n < 100000 ∧ l ≠ p ∧ SqL K H l xs ∧ 0 < xs.length ∧ xs.length < 1000 ∧
  ∀ (x : V) (n' : Nat) (z' : Int) (H' : Hp), x ∈ xs → n' ≤ n + 1 → PenAt H' p c ns n' z' → But p H H' → Q x H'
theorem small_int {i : Int} (h0 : 0 ≤ i) (h1 : i < 1000) : i.natAbs < 2 ^ 1000 := Nat.lt_of_lt_of_le (show i.natAbs < 1000 by omega) (by decide +kernel)
def letter (c : Nat) : Bool := decide (97 ≤ c) && decide (c ≤ 122)
def nameB (z : Str) : Bool := (decide (1 ≤ z.length) && decide (z.length ≤ 8)) && z.cps.toList.all letter
theorem one_le (a c : Nat) : (!decide (([c] : List Nat) < [a])) = decide (a ≤ c) := by
  by_cases h : a ≤ c
  · rw [decide_eq_true h, decide_eq_false]
    · rfl
    · intro q
      rcases List.cons_lt_cons_iff.mp q with q | ⟨_, q⟩
      · omega
      · exact absurd q (by simp)
  · rw [decide_eq_false h, decide_eq_true]
    · rfl
    · exact List.cons_lt_cons_iff.mpr (.inl (by omega))
/-- what is no text -/
def NoStr (K : PySem.W.Frag) (H : Hp) (v : V) : Prop := ∃ t, TyX K H v t ∧ PySem.W.kitOne K t (.type "str") = some false
/-- what is no name -/
def NoName (K : PySem.W.Frag) (H : Hp) (v : V) : Prop := (∃ z : Str, v = .str z ∧ z.length ≤ 1000 ∧ nameB z = false) ∨ NoStr K H v
def spName (K : PySem.W.Frag) : Sp := fun vs H Q _ => ∃ v : V, vs = [v] ∧ ((∃ z : Str, v = .str z ∧ z.length ≤ 1000 ∧ ∀ H', Same H H' → Q (.bl (nameB z)) H') ∨ (NoStr K H v ∧ Q (.bl false) H))
def spCheck (K : PySem.W.Frag) (CB : Addr) : Sp := fun vs H Q E => ∃ v : V, vs = [v] ∧ ((∃ z : Str, v = .str z ∧ z.length ≤ 1000 ∧ nameB z = true ∧ ∀ H', Same H H' → Q .non H') ∨ (NoName K H v ∧ ∀ H' d, Same H H' → H' d = none → E (.ref CB) (some d) (upd H' d (.xd [("value", v)]))))
theorem name_short {z : Str} (h : nameB z = true) (B : Nat) : PyData.leavesShort B (.str z) = true := by
  unfold nameB at h
  have h2 := List.all_eq_true.mp (Bool.and_eq_true_iff.mp h).2
  show (z.cps.toList.all fun c => decide (c < 16 ^ 8)) = true
  refine List.all_eq_true.mpr fun c hc => ?_
  have h3 := h2 c hc
  unfold letter at h3
  have h4 := of_decide_eq_true (Bool.and_eq_true_iff.mp h3).2
  exact decide_eq_true (by omega)
theorem name_strOk {z : Str} (h : nameB z = true) : PyData.strOk z = true := by
  have h2 := List.all_eq_true.mp (Bool.and_eq_true_iff.mp (show (_ && _) = true from h)).2
  unfold PyData.strOk
  rw [Array.all_eq_true']
  intro c hc
  have h3 := h2 c (Array.mem_toList_iff.mpr hc)
  unfold letter at h3
  have h4 := of_decide_eq_true (Bool.and_eq_true_iff.mp h3).2
  exact decide_eq_true (by omega)
theorem strOk_app {x y : Str} (hx : PyData.strOk x = true) (hy : PyData.strOk y = true) : PyData.strOk (x ++ y) = true := by
  obtain ⟨c⟩ := x
  obtain ⟨d⟩ := y
  show (c ++ d).all _ = true
  rw [Array.all_append]
  exact Bool.and_eq_true_iff.mpr ⟨hx, hy⟩
theorem shaped_strs {zs : List Str} (h : ∀ z ∈ zs, PyData.strOk z = true) : SeqAt.shaped (.list (zs.map PyData.str)) = true := by
  refine OwD.shaped_lst (k := 0) (by decide) (fun z hz => ?_) fun z hz => ?_
  · rw [PyData.canLay0]
    exact h z hz
  · exact Nat.le_of_ble_eq_true rfl
theorem eqv_strs {zs : List Str} (h : ∀ z ∈ zs, PyData.strOk z = true) : PyData.eqv (.list (zs.map PyData.str)) (.list (zs.map PyData.str)) = true := SeqAt.eqv_refl _ (SeqAt.canLay_of_shaped (shaped_strs h))
theorem shown_fits {d : PyData} (h : d.leavesShort 100 = true) (hb : d.bulk ≤ 1000) : d.shown.length ≤ sizeLine := by
  have := PyData.shown_le_bulk 100 (by decide) d h
  have sz := sizeLine_eq
  have h2 : (100 + 2) * d.bulk ≤ (100 + 2) * 1000 := Nat.mul_le_mul_left _ hb
  omega
/-- the error class at C, as a def that raises it wants it -/
structure ErrT (K : PySem.W.Frag) (mg : Str → Option Value) (x : Str) (C fI : Addr) : Prop where
  er : OwE.ErrC K C
  g : mg x = some (.ref C)
  ini : PySem.W.findIn K (.ref C) "__init__" = some (some (.ref fI))
  ty : PySem.W.typeIn K (.ref fI) = some (.type "function")
theorem joinL_singles : ∀ cs : List Nat, TL.joinL [] (cs.map fun c => [c]) = cs
  | [] => rfl
  | [_] => rfl
  | a :: b :: r => by
    have ih := joinL_singles (b :: r)
    show [a] ++ ([] ++ TL.joinL [] ((b :: r).map fun c => [c])) = a :: b :: r
    rw [ih]
    rfl
theorem join_signs (cs : List Nat) : Txt.join Str.empty (cs.map fun c => (⟨#[c]⟩ : Str)) = ⟨cs.toArray⟩ := by
  rw [← TL.mk_tl (Txt.join Str.empty (cs.map fun c => (⟨#[c]⟩ : Str))), TL.join_eq, TL.tl_join, List.map_map]
  have e : TL.joinL (TL.tl Str.empty) (cs.map (TL.tl ∘ fun c => (⟨#[c]⟩ : Str))) = cs := joinL_singles cs
  rw [e]
def spPickS : Sp := fun vs H Q _ => ∃ (p c : Addr) (ns : List Int) (n : Nat) (z : Int) (t : Str), vs = [.ref p, .str t] ∧ PenAt H p c ns n z ∧ n < 100000 ∧ 0 < t.length ∧ t.length < 1000 ∧
  ∀ (x : Nat) (n' : Nat) (z' : Int) (H' : Hp), x ∈ t.cps.toList → n' ≤ n + 1 → PenAt H' p c ns n' z' → But p H H' → Q (.str ⟨#[x]⟩) H'
theorem letters_name {cs : List Nat} (h1 : 1 ≤ cs.length) (h8 : cs.length ≤ 8) (hc : ∀ c ∈ cs, letter c = true) : nameB ⟨cs.toArray⟩ = true := by
  unfold nameB
  have e : (⟨cs.toArray⟩ : Str).length = cs.length := List.size_toArray
  rw [e, decide_eq_true h1, decide_eq_true h8, Bool.true_and, Bool.true_and]
  exact List.all_eq_true.mpr hc
end K10
end
section
/-! Own: what rules choose, their one form; ascending texts; tables. Nothing of a law's text. -/
namespace K10
open PySem PySem.Spec PyProof.Rows L2

abbrev Pk := Str × Int
/-- the bay of the first pick that is open at f -/
def choose (f : Str → Int) : List Pk → Option Str
  | [] => none
  | p :: r => if p.2 < f p.1 then some p.1 else choose f r
def setM (m : Str → Option Int) (b : Str) (k : Int) : Str → Option Int := fun y => if y = b then some k else m y
/-- is it kept behind what was passed? -/
def keeps (m : Str → Option Int) (p : Pk) : Bool := match m p.1 with
  | none => true
  | some k => decide (p.2 < k)
def mAfter (m : Str → Option Int) (p : Pk) : Str → Option Int := if keeps m p = true then setM m p.1 p.2 else m
def kept (m : Str → Option Int) : List Pk → List Pk
  | [] => []
  | p :: r => if keeps m p = true then p :: kept (setM m p.1 p.2) r else kept m r
def mEnd (m : Str → Option Int) : List Pk → (Str → Option Int)
  | [] => m
  | p :: r => mEnd (mAfter m p) r
theorem kept_app (x : Pk) : ∀ (l : List Pk) (m : Str → Option Int), kept m (l ++ [x]) = kept m l ++ (if keeps (mEnd m l) x = true then [x] else [])
  | [], m => by
    show (if keeps m x = true then x :: kept (setM m x.1 x.2) [] else kept m []) = [] ++ (if keeps m x = true then [x] else [])
    split <;> rfl
  | p :: r, m => by
    show (if keeps m p = true then p :: kept (setM m p.1 p.2) (r ++ [x]) else kept m (r ++ [x])) = (if keeps m p = true then p :: kept (setM m p.1 p.2) r else kept m r) ++ (if keeps (mEnd (mAfter m p) r) x = true then [x] else [])
    by_cases h : keeps m p = true
    · rw [if_pos h, if_pos h, kept_app x r, List.cons_append]
      unfold mAfter
      rw [if_pos h]
    · rw [if_neg h, if_neg h, kept_app x r]
      unfold mAfter
      rw [if_neg h]
theorem mEnd_app (x : Pk) : ∀ (l : List Pk) (m : Str → Option Int), mEnd m (l ++ [x]) = mAfter (mEnd m l) x
  | [], _ => rfl
  | p :: r, m => mEnd_app x r (mAfter m p)
theorem kept_len : ∀ (l : List Pk) (m : Str → Option Int), (kept m l).length ≤ l.length
  | [], _ => Nat.le_refl 0
  | p :: r, m => by
    show (if keeps m p = true then p :: kept (setM m p.1 p.2) r else kept m r).length ≤ r.length + 1
    split
    · exact Nat.succ_le_succ (kept_len r _)
    · exact Nat.le_succ_of_le (kept_len r _)
theorem kept_below : ∀ (l : List Pk) (m : Str → Option Int) (p : Pk), p ∈ kept m l → ∀ k, m p.1 = some k → p.2 < k
  | [], _, p, h, _, _ => by cases h
  | q :: r, m, p, h, k, e => by
    have h' : p ∈ (if keeps m q = true then q :: kept (setM m q.1 q.2) r else kept m r) := h
    by_cases c : keeps m q = true
    · rw [if_pos c] at h'
      have c2 := c
      unfold keeps at c2
      rcases List.mem_cons.mp h' with rfl | h2
      · rw [e] at c2
        exact of_decide_eq_true c2
      · by_cases e2 : p.1 = q.1
        · have h3 := kept_below r _ p h2 q.2 (by unfold setM; rw [if_pos e2])
          rw [← e2, e] at c2
          have h4 : q.2 < k := of_decide_eq_true c2
          omega
        · exact kept_below r _ p h2 k (by unfold setM; rw [if_neg e2]; exact e)
    · rw [if_neg c] at h'
      exact kept_below r _ p h' k e
/-- neighbours of one bay have falling keeps -/
def Falls : List Pk → Prop
  | [] => True
  | [_] => True
  | p :: q :: r => (p.1 = q.1 → q.2 < p.2) ∧ Falls (q :: r)
theorem falls_kept : ∀ (l : List Pk) (m : Str → Option Int), Falls (kept m l)
  | [], _ => True.intro
  | p :: r, m => by
    show Falls (if keeps m p = true then p :: kept (setM m p.1 p.2) r else kept m r)
    split
    · have ih := falls_kept r (setM m p.1 p.2)
      have hb := kept_below r (setM m p.1 p.2)
      cases h : kept (setM m p.1 p.2) r with
      | nil => exact True.intro
      | cons q t =>
        rw [h] at ih hb
        exact ⟨fun e => hb q List.mem_cons_self p.2 (by unfold setM; rw [if_pos e.symm]), ih⟩
    · exact falls_kept r m
theorem choose_kept (f : Str → Int) : ∀ (l : List Pk) (m : Str → Option Int), (∀ b k, m b = some k → f b ≤ k) → choose f (kept m l) = choose f l
  | [], _, _ => rfl
  | p :: r, m, h => by
    show choose f (if keeps m p = true then p :: kept (setM m p.1 p.2) r else kept m r) = (if p.2 < f p.1 then some p.1 else choose f r)
    by_cases c : keeps m p = true
    · rw [if_pos c]
      show (if p.2 < f p.1 then some p.1 else choose f (kept (setM m p.1 p.2) r)) = _
      by_cases o : p.2 < f p.1
      · rw [if_pos o, if_pos o]
      · rw [if_neg o, if_neg o]
        refine choose_kept f r _ fun b k e => ?_
        unfold setM at e
        by_cases e2 : b = p.1
        · rw [if_pos e2] at e
          cases e
          rw [e2]
          omega
        · rw [if_neg e2] at e
          exact h b k e
    · rw [if_neg c, choose_kept f r m h, if_neg]
      intro o
      unfold keeps at c
      cases e : m p.1 with
      | none => rw [e] at c; exact c rfl
      | some k =>
        rw [e] at c
        have h1 := h _ _ e
        exact c (decide_eq_true (by omega))
/-- without those behind which the same bay stands -/
def step2 : List Pk → List Pk
  | [] => []
  | [p] => [p]
  | p :: q :: r => if p.1 = q.1 then step2 (q :: r) else p :: step2 (q :: r)
theorem choose_step2 (f : Str → Int) : ∀ l : List Pk, Falls l → choose f (step2 l) = choose f l
  | [], _ => rfl
  | [_], _ => rfl
  | p :: q :: r, h => by
    show choose f (if p.1 = q.1 then step2 (q :: r) else p :: step2 (q :: r)) = (if p.2 < f p.1 then some p.1 else choose f (q :: r))
    have ih := choose_step2 f (q :: r) h.2
    by_cases e : p.1 = q.1
    · rw [if_pos e, ih]
      by_cases o : p.2 < f p.1
      · rw [if_pos o]
        show (if q.2 < f q.1 then some q.1 else choose f r) = some p.1
        have := h.1 e
        rw [if_pos (by rw [← e]; omega), e]
      · rw [if_neg o]
    · rw [if_neg e]
      show (if p.2 < f p.1 then some p.1 else choose f (step2 (q :: r))) = _
      rw [ih]
def oneForm (l : List Pk) : List Pk := step2 (kept (fun _ => none) l)
theorem choose_form (f : Str → Int) (l : List Pk) : choose f (oneForm l) = choose f l :=
  (choose_step2 f _ (falls_kept l _)).trans (choose_kept f l _ fun _ _ e => by cases e)
theorem step2_len : ∀ l : List Pk, (step2 l).length ≤ l.length
  | [] => Nat.le_refl 0
  | [_] => Nat.le_refl 1
  | p :: q :: r => by
    have ih := step2_len (q :: r)
    show (if p.1 = q.1 then step2 (q :: r) else p :: step2 (q :: r)).length ≤ (q :: r).length + 1
    split
    · omega
    · exact Nat.succ_le_succ ih
theorem form_len (l : List Pk) : (oneForm l).length ≤ l.length := Nat.le_trans (step2_len _) (kept_len l _)
/-- the filter by the bays behind -/
def behind (l : List Pk) : List (Option Str) := (l.drop 1).map (fun p => some p.1) ++ [none]
theorem step2_zip : ∀ l : List Pk, step2 l = ((l.zip (behind l)).filter fun e => decide (some e.1.1 ≠ e.2)).map (·.1)
  | [] => rfl
  | [p] => by
    show [p] = (([(p, none)] : List (Pk × Option Str)).filter _).map _
    rfl
  | p :: q :: r => by
    have ih := step2_zip (q :: r)
    have e1 : (p :: q :: r).zip (behind (p :: q :: r)) = (p, some q.1) :: (q :: r).zip (behind (q :: r)) := rfl
    rw [e1, List.filter_cons]
    show (if p.1 = q.1 then step2 (q :: r) else p :: step2 (q :: r)) = _
    by_cases e : p.1 = q.1
    · rw [if_pos e, ih, if_neg (by simp [e])]
    · rw [if_neg e, ih, if_pos (by simp [e]), List.map_cons]
theorem putK_keys {kvs : List (Key × V)} {xs : List Str} (e : kvs.map (·.1) = xs.map Sum.inr) (z : Str) (v : V) : ∃ ys : List Str, (putK kvs (Sum.inr z) v).map (·.1) = ys.map Sum.inr ∧ ys.length ≤ xs.length + 1 := by
  unfold putK
  split
  · refine ⟨xs, ?_, Nat.le_succ _⟩
    rw [← e, List.map_map]
    refine List.map_congr_left fun kv _ => ?_
    show (if kv.1 = Sum.inr z then (kv.1, v) else kv).1 = kv.1
    split <;> rfl
  · refine ⟨xs ++ [z], ?_, by rw [List.length_append]; exact Nat.le_refl _⟩
    rw [List.map_append, List.map_append, e]
    rfl
def Good (p : Pk) : Prop := nameB p.1 = true ∧ p.1.length ≤ 1000 ∧ 0 ≤ p.2 ∧ p.2 ≤ 9
theorem mem_kept : ∀ (l : List Pk) (m : Str → Option Int) (p : Pk), p ∈ kept m l → p ∈ l
  | [], _, _, h => h
  | q :: r, m, p, h => by
    have h' : p ∈ (if keeps m q = true then q :: kept (setM m q.1 q.2) r else kept m r) := h
    split at h'
    · rcases List.mem_cons.mp h' with e | h2
      · exact List.mem_cons.mpr (.inl e)
      · exact List.mem_cons_of_mem _ (mem_kept r _ p h2)
    · exact List.mem_cons_of_mem _ (mem_kept r _ p h')
theorem mem_step2 : ∀ (l : List Pk) (p : Pk), p ∈ step2 l → p ∈ l
  | [], _, h => h
  | [_], _, h => h
  | a :: b :: r, p, h => by
    have h' : p ∈ (if a.1 = b.1 then step2 (b :: r) else a :: step2 (b :: r)) := h
    split at h'
    · exact List.mem_cons_of_mem _ (mem_step2 (b :: r) p h')
    · rcases List.mem_cons.mp h' with e | h2
      · exact List.mem_cons.mpr (.inl e)
      · exact List.mem_cons_of_mem _ (mem_step2 (b :: r) p h2)
theorem mem_form {l : List Pk} {p : Pk} (h : p ∈ oneForm l) : p ∈ l := mem_kept l _ p (mem_step2 _ p h)

/-- one form: the keeps of a bay fall, neighbours are unlike, no keep is below 0 -/
def Norm : List Pk → Prop
  | [] => True
  | p :: r => (∀ q ∈ r, q.1 = p.1 → q.2 < p.2) ∧ (∀ q, r.head? = some q → q.1 ≠ p.1) ∧ 0 ≤ p.2 ∧ Norm r
theorem choose_congr {f g : Str → Int} : ∀ {l : List Pk}, (∀ p ∈ l, (p.2 < f p.1 ↔ p.2 < g p.1)) → choose f l = choose g l
  | [], _ => rfl
  | p :: r, h => by
    have h1 := h p List.mem_cons_self
    have ih := choose_congr (l := r) fun q hq => h q (List.mem_cons_of_mem _ hq)
    show (if p.2 < f p.1 then some p.1 else choose f r) = (if p.2 < g p.1 then some p.1 else choose g r)
    rw [ih]
    by_cases c : p.2 < f p.1
    · rw [if_pos c, if_pos (h1.mp c)]
    · rw [if_neg c, if_neg fun q => c (h1.mpr q)]
theorem choose_head {f : Str → Int} {p : Pk} {r : List Pk} (h : p.2 < f p.1) : choose f (p :: r) = some p.1 := if_pos h
theorem choose_tail {f : Str → Int} {p : Pk} {r : List Pk} (h : ¬ p.2 < f p.1) : choose f (p :: r) = choose f r := if_neg h
/-- the first one of a bay has the smaller keep: the other list chooses otherwise -/
theorem no_less {x : Str} {k m : Int} {a b : List Pk} (ha : Norm ((x, k) :: a)) (h : ∀ f, choose f ((x, k) :: a) = choose f ((x, m) :: b)) (lt : m < k) : False := by
  obtain ⟨h1, h2, h3, h4⟩ := ha
  cases a with
  | nil =>
    have e := h fun z => m + 1
    rw [choose_tail (p := (x, k)) (by show ¬ k < m + 1; omega), choose_head (p := (x, m)) (by show m < m + 1; omega)] at e
    cases e
  | cons q r =>
    have ne : q.1 ≠ x := h2 q rfl
    have e := h fun z => if z = x then m + 1 else q.2 + 1
    rw [choose_tail (p := (x, k)) (by show ¬ k < (if x = x then m + 1 else q.2 + 1); rw [if_pos rfl]; omega), choose_head (p := q) (by rw [if_neg ne]; omega), choose_head (p := (x, m)) (by show m < (if x = x then m + 1 else q.2 + 1); rw [if_pos rfl]; omega)] at e
    exact ne (Option.some.inj e)
theorem uniq : ∀ (a b : List Pk), Norm a → Norm b → (∀ f, choose f a = choose f b) → a = b
  | [], [], _, _, _ => rfl
  | [], (y, m) :: b, _, _, h => by
    have e := h fun _ => m + 1
    rw [choose_head (p := (y, m)) (by show m < m + 1; omega)] at e
    cases e
  | (x, k) :: a, [], _, _, h => by
    have e := h fun _ => k + 1
    rw [choose_head (p := (x, k)) (by show k < k + 1; omega)] at e
    cases e
  | (x, k) :: a, (y, m) :: b, ha, hb, h => by
    have exy : x = y := by
      by_cases c : x = y
      · exact c
      · have e := h fun z => if z = x then k + 1 else m + 1
        rw [choose_head (p := (x, k)) (by show k < (if x = x then k + 1 else m + 1); rw [if_pos rfl]; omega), choose_head (p := (y, m)) (by show m < (if y = x then k + 1 else m + 1); rw [if_neg fun q => c q.symm]; omega)] at e
        exact Option.some.inj e
    subst exy
    have ekm : k = m := by
      rcases Int.lt_trichotomy k m with c | c | c
      · exact (no_less hb (fun f => (h f).symm) c).elim
      · exact c
      · exact (no_less ha h c).elim
    subst ekm
    have cut : ∀ (l : List Pk), (∀ q ∈ l, q.1 = x → q.2 < k) → ∀ f : Str → Int, choose f l = choose (fun z => if z = x then min (f x) k else f z) ((x, k) :: l) := fun l hl f => by
      rw [choose_tail (p := (x, k)) (by show ¬ k < (if x = x then min (f x) k else f x); rw [if_pos rfl]; omega)]
      refine choose_congr fun p hp => ?_
      by_cases c : p.1 = x
      · have := hl p hp c
        rw [if_pos c, c]
        omega
      · rw [if_neg c]
    rw [uniq a b ha.2.2.2 hb.2.2.2 fun f => by rw [cut a ha.1 f, cut b hb.1 f, h]]
def FA : List Pk → Prop
  | [] => True
  | p :: r => (∀ q ∈ r, q.1 = p.1 → q.2 < p.2) ∧ FA r
theorem fa_kept : ∀ (l : List Pk) (m : Str → Option Int), FA (kept m l)
  | [], _ => True.intro
  | p :: r, m => by
    show FA (if keeps m p = true then p :: kept (setM m p.1 p.2) r else kept m r)
    split
    · exact ⟨fun q hq e => kept_below r (setM m p.1 p.2) q hq p.2 (by unfold setM; rw [if_pos e]), fa_kept r _⟩
    · exact fa_kept r m
theorem norm_step2 : ∀ (l : List Pk), FA l → (∀ p ∈ l, 0 ≤ p.2) → Norm (step2 l) ∧ (step2 l).head?.map (·.1) = l.head?.map (·.1)
  | [], _, _ => ⟨True.intro, rfl⟩
  | [p], _, h => ⟨⟨(fun q hq => by cases hq), (fun q hq => by cases hq), h p List.mem_cons_self, True.intro⟩, rfl⟩
  | p :: q :: r, fa, h => by
    have ih := norm_step2 (q :: r) fa.2 fun z hz => h z (List.mem_cons_of_mem _ hz)
    show Norm (if p.1 = q.1 then step2 (q :: r) else p :: step2 (q :: r)) ∧ (if p.1 = q.1 then step2 (q :: r) else p :: step2 (q :: r)).head?.map (·.1) = some p.1
    by_cases c : p.1 = q.1
    · rw [if_pos c, c]
      exact ih
    · rw [if_neg c]
      refine ⟨⟨fun z hz e => fa.1 z (mem_step2 _ z hz) e, fun z hz e => ?_, h p List.mem_cons_self, ih.1⟩, rfl⟩
      have e2 := ih.2
      rw [hz] at e2
      have e3 : z.1 = q.1 := Option.some.inj e2
      exact c (e.symm.trans e3)
theorem norm_form {l : List Pk} (h : ∀ p ∈ l, 0 ≤ p.2) : Norm (oneForm l) := (norm_step2 _ (fa_kept l _) fun p hp => h p (mem_kept l _ p hp)).1
/-- what chooses alike has one form -/
theorem form_eq {a b : List Pk} (ha : ∀ p ∈ a, 0 ≤ p.2) (hb : ∀ p ∈ b, 0 ≤ p.2) (h : ∀ f, choose f a = choose f b) : oneForm a = oneForm b :=
  uniq _ _ (norm_form ha) (norm_form hb) fun f => by rw [choose_form, choose_form, h]
theorem choose_app (f : Str → Int) : ∀ (a b : List Pk), choose f (a ++ b) = (choose f a).or (choose f b)
  | [], b => rfl
  | p :: r, b => by
    show (if p.2 < f p.1 then some p.1 else choose f (r ++ b)) = (if p.2 < f p.1 then some p.1 else choose f r).or (choose f b)
    by_cases c : p.2 < f p.1
    · rw [if_pos c, if_pos c]
      rfl
    · rw [if_neg c, if_neg c]
      exact choose_app f r b

def leS (x y : Str) : Prop := ¬ y.cps.toList < x.cps.toList
theorem leS_trans {x y z : Str} (h1 : leS x y) (h2 : leS y z) : leS x z := List.le_trans (α := Nat) (l₁ := x.cps.toList) (l₂ := y.cps.toList) (l₃ := z.cps.toList) h1 h2
theorem leS_anti {x y : Str} (h1 : leS x y) (h2 : leS y x) : x = y := by
  have e : x.cps.toList = y.cps.toList := List.le_antisymm (α := Nat) h1 h2
  cases x
  cases y
  congr 1
  exact Array.toList_inj.mp e
theorem rising_pw : ∀ (p : Str) (l : List Str), risingS p l = true → (p :: l).Pairwise leS
  | p, [], _ => List.pairwise_singleton _ _
  | p, x :: r, h => by
    obtain ⟨h1, h2⟩ := Bool.and_eq_true_iff.mp (show (!ltCps x.cps.toList p.cps.toList && risingS x r) = true from h)
    have ih := rising_pw x r h2
    have hx : leS p x := by
      rw [ltCps_eq] at h1
      unfold leS
      intro c
      rw [decide_eq_true c] at h1
      cases h1
    refine List.pairwise_cons.mpr ⟨fun y hy => ?_, ih⟩
    rcases List.mem_cons.mp hy with rfl | hy
    · exact hx
    · exact leS_trans hx ((List.pairwise_cons.mp ih).1 y hy)
theorem sorted_pw : ∀ l : List Str, sortedS l = true → l.Pairwise leS
  | [], _ => List.Pairwise.nil
  | x :: r, h => rising_pw x r h
theorem asc_aux : ∀ xs ys : List Str, xs.Pairwise leS → ys.Pairwise leS → xs.Nodup → ys.Nodup → (∀ z, z ∈ xs ↔ z ∈ ys) → xs = ys
  | [], [], _, _, _, _, _ => rfl
  | [], y :: t, _, _, _, _, hm => by have := (hm y).mpr List.mem_cons_self; cases this
  | x :: r, [], _, _, _, _, hm => by have := (hm x).mp List.mem_cons_self; cases this
  | x :: r, y :: t, h1, h2, n1, n2, hm => by
    obtain ⟨a1, a2⟩ := List.pairwise_cons.mp h1
    obtain ⟨b1, b2⟩ := List.pairwise_cons.mp h2
    obtain ⟨c1, c2⟩ := List.nodup_cons.mp n1
    obtain ⟨d1, d2⟩ := List.nodup_cons.mp n2
    have e : x = y := by
      rcases List.mem_cons.mp ((hm x).mp List.mem_cons_self) with e | hx
      · exact e
      · rcases List.mem_cons.mp ((hm y).mpr List.mem_cons_self) with e | hy
        · exact e.symm
        · exact leS_anti (a1 y hy) (b1 x hx)
    subst e
    rw [asc_aux r t a2 b2 c2 d2 fun z => ⟨fun hz => ?_, fun hz => ?_⟩]
    · rcases List.mem_cons.mp ((hm z).mp (List.mem_cons_of_mem _ hz)) with e | h
      · exact (c1 (e ▸ hz)).elim
      · exact h
    · rcases List.mem_cons.mp ((hm z).mpr (List.mem_cons_of_mem _ hz)) with e | h
      · exact (d1 (e ▸ hz)).elim
      · exact h
/-- two ascending lists without doubles of the same members are equal -/
theorem asc_eq {xs ys : List Str} (h1 : sortedS xs = true) (h2 : sortedS ys = true) (n1 : xs.Nodup) (n2 : ys.Nodup) (hm : ∀ z, z ∈ xs ↔ z ∈ ys) : xs = ys := asc_aux xs ys (sorted_pw xs h1) (sorted_pw ys h2) n1 n2 hm
end K10
end
section
/-! Own: quotas as trees; what they let; nothing of the heap. -/
namespace K10
open PySem PySem.Spec PyProof.Rows L2
inductive QT where
  | cap (m : Int) (ks : List Str)
  | both (a b : QT)
  | either (a b : QT)
def QT.caps : QT → List (Int × List Str)
  | .cap m ks => [(m, ks)]
  | .both a b => a.caps ++ b.caps
  | .either a b => a.caps ++ b.caps
def QT.joints : QT → List Str
  | .cap _ _ => ["cap"]
  | .both a b => a.joints ++ b.joints ++ [("both" : Str)]
  | .either a b => a.joints ++ b.joints ++ [("either" : Str)]
/-- what a quota says where its caps say f -/
def QT.say (f : Int × List Str → Bool) : QT → Bool
  | .cap m ks => f (m, ks)
  | .both a b => a.say f && b.say f
  | .either a b => a.say f || b.say f
/-- the joints worked off: the answers held, the next mark -/
def runJ (marks : List Bool) : List Str → List Bool → Nat → Option (List Bool)
  | [], held, _ => some held
  | j :: r, held, at_ => if j = "cap" then
      match marks[at_]? with
      | some b => runJ marks r (held ++ [b]) (at_ + 1)
      | none => none
    else match held.reverse with
      | y :: x :: rest => runJ marks r (rest.reverse ++ [if j = "both" then x && y else x || y]) at_
      | _ => none
theorem runJ_cap {marks : List Bool} {r : List Str} {held : List Bool} {n : Nat} {b : Bool} (h : marks[n]? = some b) : runJ marks (("cap" : Str) :: r) held n = runJ marks r (held ++ [b]) (n + 1) := by
  rw [runJ, if_pos rfl, h]
theorem runJ_join {marks : List Bool} {r : List Str} {held : List Bool} {n : Nat} {x y : Bool} {j : Str} (nj : j ≠ "cap") : runJ marks (j :: r) (held ++ [x] ++ [y]) n = runJ marks r (held ++ [if j = "both" then x && y else x || y]) n := by
  rw [runJ, if_neg nj]
  simp
theorem ne_caps : ("both" : Str) ≠ "cap" ∧ ("either" : Str) ≠ "cap" ∧ ("either" : Str) ≠ "both" := by decide +kernel
/-- a tree's joints leave its answer -/
theorem run_tree (f : Int × List Str → Bool) : ∀ (t : QT) (pre post : List (Int × List Str)) (r : List Str) (held : List Bool), runJ ((pre ++ t.caps ++ post).map f) (t.joints ++ r) held pre.length = runJ ((pre ++ t.caps ++ post).map f) r (held ++ [t.say f]) (pre.length + t.caps.length)
  | .cap m ks, pre, post, r, held => by
    show runJ ((pre ++ [(m, ks)] ++ post).map f) (("cap" : Str) :: r) held pre.length = runJ ((pre ++ [(m, ks)] ++ post).map f) r (held ++ [f (m, ks)]) (pre.length + 1)
    rw [runJ_cap (b := f (m, ks))]
    rw [List.getElem?_map, List.append_assoc, List.getElem?_append_right (Nat.le_refl _), Nat.sub_self]
    rfl
  | .both a b, pre, post, r, held => by
    have e1 : pre ++ (QT.both a b).caps ++ post = pre ++ a.caps ++ (b.caps ++ post) := by simp [QT.caps]
    have e2 : pre ++ (QT.both a b).caps ++ post = (pre ++ a.caps) ++ b.caps ++ post := by simp [QT.caps]
    show runJ _ (a.joints ++ b.joints ++ [("both" : Str)] ++ r) held pre.length = _
    have e3 : a.joints ++ b.joints ++ [("both" : Str)] ++ r = a.joints ++ (b.joints ++ (("both" : Str) :: r)) := by simp
    rw [e3, e1, run_tree f a pre (b.caps ++ post), ← e1, e2]
    have e4 : pre.length + a.caps.length = (pre ++ a.caps).length := by rw [List.length_append]
    rw [e4, run_tree f b (pre ++ a.caps) post, runJ_join ne_caps.1, if_pos rfl]
    have e5 : (pre ++ a.caps).length + b.caps.length = pre.length + (QT.both a b).caps.length := by simp [QT.caps, Nat.add_assoc]
    rw [e5]
    rfl
  | .either a b, pre, post, r, held => by
    have e1 : pre ++ (QT.either a b).caps ++ post = pre ++ a.caps ++ (b.caps ++ post) := by simp [QT.caps]
    have e2 : pre ++ (QT.either a b).caps ++ post = (pre ++ a.caps) ++ b.caps ++ post := by simp [QT.caps]
    show runJ _ (a.joints ++ b.joints ++ [("either" : Str)] ++ r) held pre.length = _
    have e3 : a.joints ++ b.joints ++ [("either" : Str)] ++ r = a.joints ++ (b.joints ++ (("either" : Str) :: r)) := by simp
    rw [e3, e1, run_tree f a pre (b.caps ++ post), ← e1, e2]
    have e4 : pre.length + a.caps.length = (pre ++ a.caps).length := by rw [List.length_append]
    rw [e4, run_tree f b (pre ++ a.caps) post, runJ_join ne_caps.2.1, if_neg ne_caps.2.2]
    have e5 : (pre ++ a.caps).length + b.caps.length = pre.length + (QT.either a b).caps.length := by simp [QT.caps, Nat.add_assoc]
    rw [e5]
    rfl
theorem run_all (f : Int × List Str → Bool) (t : QT) : runJ (t.caps.map f) t.joints [] 0 = some [t.say f] := by
  have h := run_tree f t [] [] [] []
  simp only [List.nil_append, List.append_nil, List.length_nil, Nat.zero_add] at h
  rw [h]
  rfl
/-! ### what a quota lets -/
/-- the things of some kinds together -/
def sumOf (N : Str → Option Int) (ks : List Str) : Int := (ks.map fun z => (N z).getD 0).sum
def QT.lets (N : Str → Option Int) (t : QT) : Bool := t.say fun c => decide (sumOf N c.2 ≤ c.1)
/-- it bounds a kind just if it does not let endlessly many -/
def QT.bounds (z : Str) (t : QT) : Bool := !t.say fun c => !decide (z ∈ c.2)
def QT.kinds (t : QT) : List Str := t.caps.flatMap (·.2)
/-! ### texts -/
def capWords (m : Int) (ks : List Str) : List Str := ([("cap" : Str), (toString m : Str), (toString (ks.length : Int) : Str)] : List Str) ++ ks
def QT.text : QT → Str
  | .cap m ks => Txt.join " " (capWords m ks)
  | .both a b => "both " ++ a.text ++ " " ++ b.text
  | .either a b => "either " ++ a.text ++ " " ++ b.text
/-! ### a cap's text tells its most and its kinds -/
theorem sp_tl : TL.tl (" " : Str) = [32] := by decide +kernel
theorem join_tl (xs : List Str) : TL.tl (Txt.join " " xs) = TL.joinL [32] (xs.map TL.tl) := by
  rw [TL.join_eq, TL.tl_join, sp_tl]
theorem join_inj {xs ys : List Str} (nx : xs ≠ []) (ny : ys ≠ []) (hx : ∀ x ∈ xs, 32 ∉ TL.tl x) (hy : ∀ y ∈ ys, 32 ∉ TL.tl y) (h : Txt.join " " xs = Txt.join " " ys) : xs = ys := by
  have e : TL.joinL [32] (xs.map TL.tl) = TL.joinL [32] (ys.map TL.tl) := by rw [← join_tl, ← join_tl, h]
  have sx := TL.spl_join (s := 32) (S := []) (parts := xs.map TL.tl) (fun q => nx (List.map_eq_nil_iff.mp q)) fun p hp => by
    obtain ⟨x, m, rfl⟩ := List.mem_map.mp hp
    exact hx x m
  have sy := TL.spl_join (s := 32) (S := []) (parts := ys.map TL.tl) (fun q => ny (List.map_eq_nil_iff.mp q)) fun p hp => by
    obtain ⟨y, m, rfl⟩ := List.mem_map.mp hp
    exact hy y m
  rw [e, sy] at sx
  exact (TL.map_tl_inj sx).symm
theorem name_sp {z : Str} (h : nameB z = true) : 32 ∉ TL.tl z := fun m => by
  unfold nameB at h
  obtain ⟨_, h⟩ := Bool.and_eq_true_iff.mp h
  have := List.all_eq_true.mp h 32 m
  revert this
  decide
theorem most_sp : ∀ m : Fin 13, 32 ∉ TL.tl (toString ((m.val : Nat) : Int) : Str) := by decide +kernel
theorem most_inj : ∀ m k : Fin 13, (toString ((m.val : Nat) : Int) : Str) = (toString ((k.val : Nat) : Int) : Str) → m = k := by decide +kernel
theorem cap_sp : 32 ∉ TL.tl ("cap" : Str) := by decide +kernel
theorem cap_words {m : Int} {ks : List Str} (m0 : 0 ≤ m) (m1 : m ≤ 12) (l : ks.length ≤ 12) (g : ∀ z ∈ ks, nameB z = true) : ∀ x ∈ capWords m ks, 32 ∉ TL.tl x := fun x hx => by
  rcases List.mem_append.mp hx with h | h
  · simp only [List.mem_cons, List.not_mem_nil, or_false] at h
    rcases h with rfl | rfl | rfl
    · exact cap_sp
    · have := most_sp ⟨m.toNat, by omega⟩
      rw [show (((⟨m.toNat, by omega⟩ : Fin 13).val : Nat) : Int) = m from Int.toNat_of_nonneg m0] at this
      exact this
    · exact most_sp ⟨ks.length, by omega⟩
  · exact name_sp (g x h)
theorem cap_inj {m k : Int} {ks ls : List Str} (m0 : 0 ≤ m) (m1 : m ≤ 12) (k0 : 0 ≤ k) (k1 : k ≤ 12) (l : ks.length ≤ 12) (l2 : ls.length ≤ 12) (g : ∀ z ∈ ks, nameB z = true) (g2 : ∀ z ∈ ls, nameB z = true) (h : (QT.cap m ks).text = (QT.cap k ls).text) : m = k ∧ ks = ls := by
  have e := join_inj (by simp [capWords]) (by simp [capWords]) (cap_words m0 m1 l g) (cap_words k0 k1 l2 g2) h
  unfold capWords at e
  have e2 := List.cons.inj e
  have e3 := List.cons.inj e2.2
  have e4 := List.cons.inj e3.2
  refine ⟨?_, e4.2⟩
  have q := most_inj ⟨m.toNat, by omega⟩ ⟨k.toNat, by omega⟩ (by
    show (toString ((m.toNat : Nat) : Int) : Str) = (toString ((k.toNat : Nat) : Int) : Str)
    rw [Int.toNat_of_nonneg m0, Int.toNat_of_nonneg k0]
    exact e3.1)
  have := Fin.mk.inj q
  omega
end K10
end
section
/-! Own: an error that a name holds behind its except clause. -/
namespace OwE
open PySem PySem.Spec PyProof.Rows L2
/-- the error at a, of the class cls, its dict at d -/
def keptE (a : Addr) (cls : Value) (d : Option Addr) : HO := .ext fun h => ∃ oe vs, h.get? a = some oe ∧ Zc cls d oe ∧ oe.data = .fields vs
theorem keptE_ok {P : Program} {w : World} {H : Hp} {h : Heap} {a : Addr} {cls : Value} {d : Option Addr} {oe : Obj} {vs : Array Value} (e : h.get? a = some oe) (z : Zc cls d oe) (f : oe.data = .fields vs) : ObjOk P w H h a (keptE a cls d) :=
  show (∃ o v, h.get? a = some o ∧ Zc cls d o ∧ o.data = .fields v) ∧ (∃ o, h.get? a = some o) ∧ ∀ h1 h2 : Heap, (∃ o v, h1.get? a = some o ∧ Zc cls d o ∧ o.data = .fields v) → (∀ o, h1.get? a = some o → h2.get? a = some o) → ∃ o v, h2.get? a = some o ∧ Zc cls d o ∧ o.data = .fields v from
  ⟨⟨oe, vs, e, z, f⟩, ⟨oe, e⟩, fun _ _ ⟨o, v, q, r⟩ k => ⟨o, v, k _ q, r⟩⟩
theorem keptE_at {P : Program} {w : World} {H : Hp} {h : Heap} {a : Addr} {cls : Value} {d : Option Addr} (ok : HOk P w H h) (e : H a = some (keptE a cls d)) : ∃ oe vs, h.get? a = some oe ∧ Zc cls d oe ∧ oe.data = .fields vs := by
  have x : ObjOk P w H h a (keptE a cls d) := ok a _ e
  exact x.1
section
variable {X : Cx} {pins : List (Addr × Obj)} {σ : L2.St} {H : Hp} {s : Shared}
/-- an error that stands on the heap is told of from here on -/
theorem keep_it {a : Addr} {cls : Value} {d : Option Addr} {oe : Obj} {vs : Array Value} (I : Inv X ((a, oe) :: pins) σ H s) (z : Zc cls d oe) (f : oe.data = .fields vs) (n0 : X.s_0.heap.get? a = none) (np : ∀ p ∈ X.pn ++ pins, p.1 ≠ a) : Inv X pins σ (upd H a (keptE a cls d)) s := by
  obtain ⟨ea, na, nl, nf, _⟩ := I.pin (a, oe) (List.mem_append_right _ List.mem_cons_self)
  have off : ∀ {b : Addr} {o : HO}, H b = some o → b ≠ a := fun {b o} e q => by
    rw [q, na] at e
    cases e
  have B := I.base
  have U : Un X.fs X.ex X.H_0 (upd H a (keptE a cls d)) X.s_0.heap s.heap := {
    keep := B.keep
    slot := B.slot
    free := fun b o e n x => by
      have nb : b ≠ a := fun q => by
        rw [q, n0] at e
        cases e
      rw [upd_ne nb]
      exact B.free b o e n x
    there := B.there
    tups := fun b xs e => by
      have q := B.tups b xs e
      rw [upd_ne (off q)]
      exact q
    frzs := fun b o u e => by
      have q := B.frzs b o u e
      rw [upd_ne (off q)]
      exact q
    tbls := fun b ps e => by
      obtain ⟨m, q⟩ := B.tbls b ps e
      exact ⟨m, by rw [upd_ne (off q)]; exact q⟩ }
  refine { ok := I.ok, os := I.os, bare := I.bare, base := U, loc := I.loc, cell := I.cell, free := ?_, freeC := fun x c e => ?_, pin := fun p m => ?_, hok := I.hok.laidN (fun _ _ q => q) na (keptE_ok ea z f), len := I.len }
  · rw [upd_ne (Ne.symm nl)]
    exact I.free
  · have nc : c ≠ a := fun q => by
      obtain ⟨v, o, eo, dv⟩ := I.cell x c e
      rw [q, ea] at eo
      cases eo
      rw [f] at dv
      cases dv
    rw [upd_ne nc]
    exact I.freeC x c e
  · have m2 : p ∈ X.pn ++ (a, oe) :: pins := by
      rcases List.mem_append.mp m with q | q
      · exact List.mem_append_left _ q
      · exact List.mem_append_right _ (List.mem_cons_of_mem _ q)
    obtain ⟨q1, q2, q3⟩ := I.pin p m2
    exact ⟨q1, by rw [upd_ne (np p m)]; exact q2, q3⟩
/-- behind a suite the error stands yet -/
theorem behind {a : Addr} {oe : Obj} (I : Inv (X.suite a ((a, oe) :: (X.pn ++ pins))) [] σ H s) (ok : X.Ok) : Inv X ((a, oe) :: pins) σ H s :=
  { ok := ok, os := I.os, bare := I.bare, base := I.base, loc := I.loc, cell := I.cell, free := I.free, freeC := I.freeC, hok := I.hok, len := I.len
    pin := fun p m => I.pin p (by
      rw [List.append_nil]
      rcases List.mem_append.mp m with q | q
      · exact List.mem_cons_of_mem _ (List.mem_append_left _ q)
      · rcases List.mem_cons.mp q with q | q
        · rw [q]
          exact List.mem_cons_self
        · exact List.mem_cons_of_mem _ (List.mem_append_right _ q)) }
end
/-- what 'except x as n' wishes, where the error is kept behind it -/
def wKeep (K : PySem.W.Frag) (c : Value) (i : Nat) (ts : Addr → Value → Option Addr → TS) (D : Ends) : WX := fun cls d σ H =>
  PySem.W.exmOne K cls c = some true ∧ ∀ a, H a = none → ts a cls d { nx := fun σ' H' => D.nx (σ'.set i none) (upd H' a (keptE a cls d)), rt := fun _ _ => False, bk := fun _ _ => False, ct := fun _ _ => False } (σ.set i (some (.ref a))) H
section
variable {X : Cx} {x n : Str} {c : Value} {i : Nat} {body suite : List Stmt} {b₀ : Stmt} {np pos pos' : Pos} {tb : WX → TS} {ts : Addr → Value → Option Addr → TS}
theorem ps_try_keep (hs : X.stack = X.env :: X.outer) (hf : X.env.frame = some X.env.locals) (hex : X.ex = []) (hN : X.N.Nodup) (hi : X.N[i]? = some n) (hln : X.env.kindOf n = some .local) (hc : Names X x c)
    (hb : ∀ (W : WX) (pn : List (Addr × Obj)) (xe : Value → Shared → Prop), Takes (X.tr pn xe) W → PSs (X.tr pn xe) body (tb W))
    (hsu : ∀ (a : Addr) (oe : Obj) (cls : Value) (d : Option Addr) (pn : List (Addr × Obj)), Zc cls d oe → (∃ vs, oe.data = .fields vs) → PSs (X.suite a ((a, oe) :: pn)) (b₀ :: suite) (ts a cls d)) :
    PS X (.Try body [.ExceptHandler (some (.Name x np)) (some n) (b₀ :: suite) pos'] [] [] pos) (fun D σ H => tb (wKeep X.K c i ts D) D σ H) := by
  refine ⟨fun pins s σ H D I h => wpAny_Try_except ?_⟩
  have ok := I.ok
  have heard : Takes (X.tr (X.pn ++ pins) fun e s1 => wpAny (model X.prog X.w) X.A (noteFrame e X.env) (fun _ s2 => wpAny (model X.prog X.w) X.A (setFlight e none) (fun _ s3 => wpAny (model X.prog X.w) X.A (handleBy e X.env [.ExceptHandler (some (.Name x np)) (some n) (b₀ :: suite) pos']) (SP X pins D) X.xe s3) X.xe s2) X.xe s1) (wKeep X.K c i ts D) := by
    rintro u s1 ⟨a, B, sI, _, σ1, H1, cls, d, rfl, J, seen, up, sky, na, os, bare, hx, wish⟩
    have J := J.ofTry ok
    rw [show (X.tr (X.pn ++ pins) _).stack = X.env :: X.outer from hs] at sky
    -- the error is no frame, it stands in nothing that was there before
    refine Sky.land Zc.steady (by rw [ok.frames, hs]) hf sky fun h2 fly up2 => wpAny_handleBy_cons (codeAny_handlers_test ?_) (by intro q; cases q)
    obtain ⟨ob, vb, eb, zb, db⟩ := fly.there
    have isFr : ∀ {b : Addr}, b ∈ frs (X.env :: X.outer) → b ≠ a := fun {b} m q => by
      obtain ⟨_, o, e, k⟩ := fly.2.2.1.mem m
      rw [q, eb] at e
      cases e
      exact k _ db
    have out : ∀ {b : Addr}, b = X.env.locals ∨ b ∈ X.fs → b ∈ frs (X.env :: X.outer) := fun {b} m => by
      rcases m with q | q
      · exact List.mem_filterMap.mpr ⟨X.env, List.mem_cons_self, by rw [hf, q]⟩
      · obtain ⟨e, me, q⟩ := List.mem_filterMap.mp q
        exact List.mem_filterMap.mpr ⟨e, List.mem_cons_of_mem _ me, q⟩
    have nl : a ≠ X.env.locals := fun q => isFr (out (.inl rfl)) q.symm
    have nf : a ∉ X.fs := fun q => isFr (out (.inr q)) rfl
    have aB : B.get? a = none := fly.2.1
    have old : ∀ {b : Addr} {o : Obj}, sI.heap.get? b = some o → b ≠ a := fun {b o} e q => by
      have nb : b ∉ frs X.stack := fun m => isFr (by rw [← hs]; exact m) q
      have e2 := seen b o e nb
      rw [q, aB] at e2
      cases e2
    have n0 : X.s_0.heap.get? a = none := by
      cases q : X.s_0.heap.get? a with
      | none => rfl
      | some o =>
        obtain ⟨o2, e2⟩ := J.base.there a o q (by rw [hex]; exact fun m => nomatch m)
        exact absurd rfl (old e2)
    have first : ∀ {h : Heap} {o : Obj} {vs : Array Value}, s1.heap.UpToSlots h → B.StaysIn h → h.get? a = some o → o.data = .fields vs → Inv (X.suite a ((a, o) :: (X.pn ++ pins))) [] σ1 H1 { s1 with heap := h } := fun {h o vs} u st e dv => (J.landed (s' := { s1 with heap := h }) seen st (up.trans u) os bare).suite e dv na nl nf
    -- the clause's class is asked
    have I2 := first up2 fly.1 eb db
    have kind : PySem.W.Looks (model X.prog X.w) h2 (typeOf (.ref a)) cls := fun A Q E s k q => wpAny_typeOf_ref (k _ _ eb) (by rw [zb.1]; exact q)
    have isOne := PySem.W.exm_one (M := model X.prog X.w) I2.kIn kind hx
    have named : ∀ {Q : Value → Shared → Prop} {E : Value → Shared → Prop}, Q c { s1 with heap := h2 } → wpAny (model X.prog X.w) (X.A.mark (some (.ref a))) (eval (.Name x np) X.env) Q E { s1 with heap := h2 } := fun {Q E} q => by
      rcases hc with ⟨g, nd, m | ⟨m, v, nn⟩⟩
      · exact ld_glob (X := X.suite a ((a, ob) :: (X.pn ++ pins))) I2 g m q nd
      · exact ld_blt (X := X.suite a ((a, ob) :: (X.pn ++ pins))) I2 g m v q nn nd
    refine named (isOne.here (codeAny_handlers_suite_as (HandSPX.lands_againZ fly fun h3 fly3 up3 => ?_)))
    obtain ⟨oc, vc, ec, zc, dc⟩ := fly3.there
    -- the name, the suite
    refine store_ok (X := X.suite a ((a, oc) :: (X.pn ++ pins))) (v := .ref a) (first (up2.trans up3) fly3.1 ec dc) hN hi (.inl hln) rfl (fun s4 I4 => wpAny_mono ((hsu a oc cls d (X.pn ++ pins) zc ⟨_, dc⟩).run [] s4 _ H1 _ I4 (wish a na)) ?_ fun _ _ z => z.elim) (.inr hln)
    rintro fl s5 q5
    cases fl with
    | next =>
      obtain ⟨σ5, H5, I5, q⟩ := q5
      refine gone_ok (behind I5 ok) hN hi hln fun s6 I6 => ⟨_, _, keep_it I6 zc dc n0 fun p m => old (J.pin p m).1, q⟩
    | brk =>
      obtain ⟨_, _, _, q⟩ := q5
      exact q.elim
    | cont =>
      obtain ⟨_, _, _, q⟩ := q5
      exact q.elim
    | ret v =>
      obtain ⟨_, _, _, _, _, q⟩ := q5
      exact q.elim
  refine wpAny_mono ((hb (wKeep X.K c i ts D) (X.pn ++ pins) _ heard).run [] s σ H D (I.toTry _) h) (fun fl s1 q => ?_) fun _ _ z => z
  cases fl with
  | next =>
    obtain ⟨σ1, H1, J, q⟩ := q
    exact wpAny_execs_nil ⟨σ1, H1, J.ofTry ok, q⟩
  | brk =>
    obtain ⟨σ1, H1, J, q⟩ := q
    exact ⟨σ1, H1, J.ofTry ok, q⟩
  | cont =>
    obtain ⟨σ1, H1, J, q⟩ := q
    exact ⟨σ1, H1, J.ofTry ok, q⟩
  | ret v =>
    obtain ⟨v, σ1, H1, J, r, q⟩ := q
    exact ⟨v, σ1, H1, J.ofTry ok, r, q⟩
end
/-- isinstance of an error that is kept -/
def rIsK (K : PySem.W.Frag) : List V → Hp → VK → Prop := fun xs H Q => ∃ (a : Addr) (c : V) (u : Value) (C dd : Addr) (fs : List (Str × V)) (b : Bool), xs = [.ref a, c] ∧ ClsV c u ∧ ErrC K C ∧ H a = some (keptE a (.ref C) (some dd)) ∧ H dd = some (.xd fs) ∧
  PySem.W.kitOne K (.ref C) u = some b ∧ Q (.bl b) H
theorem call_isK {X : Cx} : CallR X (.builtin "isinstance") (rIsK X.K) := by
  intro pins s σ H xs us Q I r h
  obtain ⟨a, c, cv, C, dd, fs, b, rfl, hcv, T, ea, ed, e, q⟩ := h
  obtain ⟨u1, u2, rfl, r1, r2⟩ := vals2 r
  cases (show u1 = Value.ref a from r1)
  have e2 := hcv.eq r2
  subst e2
  obtain ⟨oe, vs, hget, hz, hv⟩ := keptE_at I.hok ea
  obtain ⟨mA, hns, hr⟩ := (show ObjOk X.prog X.w H s.heap dd (.xd fs) from I.hok dd _ ed)
  obtain ⟨od, ho, hl⟩ := lookIn_ns hns
  have J : PySem.W.InstAt s.heap a oe C (some od) := ⟨hget, hz.1, by unfold PySem.W.notCls; rw [hv] <;> rfl, by rw [hz.2]; exact ho⟩
  exact PySem.W.kia_one (PySem.W.kitx_exc (OexC.cl T.ox) T.xf.ga T.xf.gg T.xf.exC T.ha T.hn T.ht T.hm) I.kIn J e (fun z => nomatch z) fun tk => ⟨.bl b, H, I.tok tk, rfl, q⟩
/-- err.f of an error that is kept -/
def tKf (K : PySem.W.Frag) (f : Str) (te : TE) : TE := fun σ H Q => te σ H fun x H1 => ∃ (a C dd : Addr) (fs : List (Str × V)) (v : V), x = .ref a ∧ ErrC K C ∧ PySem.W.findIn K (.ref C) f = some none ∧ H1 a = some (keptE a (.ref C) (some dd)) ∧ H1 dd = some (.xd fs) ∧ fs.lookup f = some v ∧ Q v H1
theorem pe_kf {X : Cx} {e : Expr} {te : TE} {pos : Pos} {n : Str} (he : PE X e te) (hb : attributeBase e n X.env (eval e X.env) = eval e X.env := by rfl) : PE X (.Attribute e n pos) (tKf X.K n te) := by
  refine ⟨fun pins s σ H Q I h => ?_⟩
  refine attr_of hb (thn (he.run pins s σ H _ I h) fun u s1 hh => ?_)
  obtain ⟨x, H1, I1, rx, a, C, dd, fs, v, rfl, T, hno, ea, ed, l, q⟩ := hh
  obtain rfl : u = Value.ref a := rx
  obtain ⟨oe, vs, ha, hz, hd⟩ := keptE_at I1.hok ea
  obtain ⟨mA, hns, hr⟩ := (show ObjOk X.prog X.w H1 s1.heap dd (.xd fs) from I1.hok dd _ ed)
  obtain ⟨od, ho, hl⟩ := lookIn_ns hns
  obtain ⟨u, hu, ru⟩ := RelO.some_of (v := v) (o := mA n) (by rw [← l]; exact hr n)
  have J : PySem.W.InstAt s1.heap a oe C (some od) := ⟨ha, hz.1, by unfold PySem.W.notCls; rw [hd] <;> rfl, by rw [hz.2]; exact ho⟩
  exact HandSPX.exc_get I1.kIn J T.xf.ga T.xf.gg T.xf.exC (PySem.W.findObj_own T.xf.hdC hno rfl (by rw [hl, hu])) (handed_of ru) ⟨v, H1, I1.tok _, ru, q⟩
/-! ### an error class with two fields -/
def spErr2 (K : PySem.W.Frag) (f g : Str) : Sp := fun vs H Q _ => ∃ (a C : Addr) (v u : V), vs = [.ref a, v, u] ∧ OexC K C ∧ PySem.W.findIn K (.ref C) f = some none ∧ PySem.W.findIn K (.ref C) g = some none ∧ H a = some (exo a C none) ∧
  ∀ dx, H dx = none → dx ≠ a → Q .non (upd (upd H dx (exd dx [(g, u), (f, v)])) a (exo a C (some dx)))
theorem mk_err2 {K : PySem.W.Frag} {C : Addr} {f g : Str} {v u : V} {H : Hp} {E : XK} (T : OexC K C) (hf : PySem.W.findIn K (.ref C) f = some none) (hg : PySem.W.findIn K (.ref C) g = some none) (k : ∀ d, H d = none → E (.ref C) (some d) (upd H d (.xd [(g, u), (f, v)]))) :
    ([v, u] : List V).length ≤ 1000 ∧ ∀ a, H a = none → spErr2 K f g (.ref a :: ([v, u] ++ [])) (upd H a (exo a C none)) (fun v H2 => v = .non ∧ ∃ (d : Addr) (fs : List (Str × V)), H2 a = some (exo a C (some d)) ∧ H2 d = some (exd d fs) ∧ H d = none ∧ E (.ref C) (some d) (upd (del H2 a) d (.xd fs))) (fun _ _ _ => False) := by
  refine ⟨by show (2 : Nat) ≤ 1000; decide, fun a ha => ⟨a, C, v, u, rfl, T, hf, hg, upd_same, fun dx hd ne => ⟨rfl, dx, [(g, u), (f, v)], upd_same, by rw [upd_ne ne, upd_same], ?_, ?_⟩⟩⟩
  · rw [upd_ne ne] at hd
    exact hd
  · rw [err_heap ne ha]
    rw [upd_ne ne] at hd
    exact k dx hd
end OwE
end
section
namespace K10
open PySem PySem.Spec PyProof.Rows L2
def top (i : Nat) : Stmt := PySem.Challenge.pw_nextkind_k18_quotas_joined.main.body.getD i (.Pass ⟨0, 0, 0, 0⟩)
def mth (c j : Nat) : Stmt := match top c with
  | .ClassDef _ _ _ body _ _ _ _ _ _ _ => body.getD j (.Pass ⟨0, 0, 0, 0⟩)
  | _ => .Pass ⟨0, 0, 0, 0⟩
abbrev sPen : Stmt := top 31
abbrev sDraw : Stmt := top 32
abbrev sPick : Stmt := top 33
section
variable {P : Program} {w : World} {K : PySem.W.Frag} {mg : Str → Option Value} {base : Heap}
theorem scD : FnScope ["_law_pen_here", "_law_many", "_law_digit", "_law_begun", "_law_cell", "_law_great", "_law_mixed"] ["_law_pen_here", "_law_many"] (defScope sDraw) := ⟨rfl, rfl, rfl, by decide +kernel, rfl, by decide +kernel, by decide +kernel⟩
theorem ok_draw {f : Addr} {fd : FuncData} (F : Fun K "_law_draw" "_law_draw" sDraw f fd) (T : Nm mg) : FnOk P w K mg base CX0 1 f fd ["_law_pen_here", "_law_many"] spDraw := by
  refine F.ok scD (fun vs H Q E h => ?_) (fun cdv A outer s H vs Q E hr h => ?_)
  · obtain ⟨p, c, ns, n, z, m, rfl, _⟩ := h
    rfl
  · obtain ⟨p, c, ns, n, z, m, rfl, D, hn, hm, hb, k⟩ := h
    have hu := hu_of hr
    obtain ⟨h1, h2, hl, h0⟩ := id D
    refine ⟨_, (pss_cons (ps_if (pt_cmpR op_gt (pe_ix ix_list (pv 0) pe_int (fun _ _ => rfl)) pe_int (nomark _)) (pss_cons (ps_set (i := 2) scD.nd rfl (Or.inl rfl) (pe_op op_mod (pe_callTy call_int1 (by rfl) T.n_int (by decide +kernel) (pa_cons (pe_ix ix_list (pv 0) pe_int (fun _ _ => rfl)) pa_nil)) (pv 1)))
    (pss_cons (ps_asg (pe_op op_fdivW (pe_callTy call_int1 (by rfl) T.n_int (by decide +kernel) (pa_cons (pe_ix ix_list (pv 0) pe_int (fun _ _ => rfl)) pa_nil)) (pv 1)) (pg_sub (pv 0) pe_int set_list))
    (pss_one (ps_ret (pv 2))))) pss_nil)
    (pss_cons (ps_set (i := 3) scD.nd rfl (Or.inl rfl) (pe_ix ix_list (pv 0) pe_int (fun _ _ => rfl)))
    (pss_cons (ps_asg (pe_op op_add (pv 3) pe_int) (pg_sub (pv 0) pe_int set_list))
    (pss_cons (ps_set (i := 4) scD.nd rfl (Or.inl rfl) (pe_op op_add (pe_op op_mul pe_int (pv 3)) pe_int))
    (C8.pss_cut (ps_if (pt_cmpR (op_neD hr.units) (pe_ix ix_list (pv 0) pe_int (fun _ _ => rfl)) (pe_lst pa_nil) (nomark _)) (pss_one (ps_set (i := 4) scD.nd rfl (Or.inl rfl) (pe_ix ix_list (pe_ix ix_list (pv 0) pe_int (fun _ _ => rfl)) (pe_op op_mod (pe_callTy call_int1 (by rfl) T.n_int (by decide +kernel) (pa_cons (pv 3) pa_nil)) (pe_callB call_len_seq (by rfl) T.n_len boot_len (pa_cons (pe_ix ix_list (pv 0) pe_int (fun _ _ => rfl)) pa_nil))) (fun _ _ => rfl)))) pss_nil)
    (C8.pss_cut (ps_if (PW.pt (pw_and (pt_cmpR op_lt (pv 3) (pe_callB call_len_seq (by rfl) T.n_len boot_len (pa_cons (pe_ix ix_list (pv 0) pe_int (fun _ _ => rfl)) pa_nil)) (nomark _)) (pw_and1 (pt_cmpR op_ge (pe_callB call_abs (by rfl) T.n_abs (by decide +kernel) (pa_cons (pv 4) pa_nil)) (pe_op op_pow pe_int pe_int) (nomark _))))) (pss_cons (ps_set (i := 5) scD.nd rfl (Or.inl rfl) (pe_op op_add (pe_op op_mul pe_int (pe_op op_sub (pe_callB call_abs (by rfl) T.n_abs (by decide +kernel) (pa_cons (pv 4) pa_nil)) (pe_op op_pow pe_int pe_int))) (pe_callTy call_int1 (by rfl) T.n_int (by decide +kernel) (pa_cons (pe_cmpR op_lt (pv 4) pe_int (nomark _)) pa_nil))))
    (pss_cons (ps_asg (pe_op op_fdivW (pe_callTy call_int1 (by rfl) T.n_int (by decide +kernel) (pa_cons (pv 5) pa_nil)) (pv 1)) (pg_sub (pv 0) pe_int set_list))
    (pss_one (ps_ret (pe_op op_mod (pe_callTy call_int1 (by rfl) T.n_int (by decide +kernel) (pa_cons (pv 5) pa_nil)) (pv 1)))))) pss_nil)
    (pss_cons (ps_set (i := 6) scD.nd rfl (Or.inl rfl) (pe_op op_mod (pe_callTy call_int1 (by rfl) T.n_int (by decide +kernel) (pa_cons (pe_op op_pow (pe_op op_add (pe_op op_add (pe_op op_mod (pe_callTy call_int1 (by rfl) T.n_int (by decide +kernel) (pa_cons (pv 4) pa_nil)) pe_int) (pe_op op_mul pe_int (pv 3))) pe_int) pe_int) pa_nil)) pe_int))
    (pss_cons (ps_set (i := 6) scD.nd rfl (Or.inl rfl) (pe_op op_mod (pe_callTy call_int1 (by rfl) T.n_int (by decide +kernel) (pa_cons (pe_op op_pow (pe_op op_add (pe_op op_add (pe_op op_mul (pv 6) (pe_op op_add (pe_op op_mul pe_int (pv 3)) pe_int)) (pe_op op_mul (pe_op op_mul pe_int (pv 3)) (pv 3))) pe_int) pe_int) pa_nil)) pe_int))
    (pss_one (ps_ret (pe_op op_mod (pe_callTy call_int1 (by rfl) T.n_int (by decide +kernel) (pa_cons (pe_op op_fdivW (pv 6) pe_int) pa_nil)) (pv 1))))))))))))
, ?_⟩
    refine ⟨_, rfl, p, _, _, _, rfl, rfl, SqL.of h1, rfl, _, _, rfl, rfl, _, rfl, ?_⟩
    refine ite2 (fun c1 => ?_) (fun c1 => ?_)
    · refine ⟨_, rfl, p, _, _, _, rfl, rfl, SqL.of h1, rfl, .inl ⟨_, rfl, _, rfl, _, _, rfl, rfl, hm, ?_⟩⟩
      refine ⟨_, rfl, p, _, _, _, rfl, rfl, SqL.of h1, rfl, .inl ⟨_, rfl, _, rfl, _, _, rfl, rfl, wide_div hm hb (by decide) (by decide), ?_⟩⟩
      refine ⟨_, rfl, p, _, _, 2, rfl, rfl, h1, rfl, _, rfl, ?_⟩
      refine k _ n (z / m) _ (Int.emod_nonneg _ (by omega)) (Int.emod_lt_of_pos _ hm) (Nat.le_succ _) ⟨upd_same, ?_, hl, Int.ediv_nonneg h0 (by omega)⟩ But.at
      rw [upd_ne D.ne]
      exact h2
    · refine ⟨_, rfl, p, _, _, _, rfl, rfl, SqL.of h1, rfl, ?_⟩
      refine ⟨_, rfl, _, _, rfl, rfl, _, rfl, p, _, _, 1, rfl, rfl, h1, rfl, ?_⟩
      -- the cell
      refine ⟨_, rfl, _, _, rfl, rfl, .inl ⟨by decide, by decide⟩, _, _, rfl, rfl, ?_⟩
      have D1 : PenAt (upd H p (.lst [.ref c, .int ((n : Int) + 1), .int z])) p c ns (n + 1) z := ⟨upd_same, by rw [upd_ne D.ne]; exact h2, hl, h0⟩
      have B1 : But p H (upd H p (.lst [.ref c, .int ((n : Int) + 1), .int z])) := But.at
      -- a cell of the script, if there is one
      refine ⟨fun σ' H' => ∃ cell : Int, σ' = [some (.ref p), some (.int m), none, some (.int n), some (.int cell), none, none] ∧ PenAt H' p c ns (n + 1) z ∧ But p H H', ?_, ?_⟩
      · refine ⟨_, rfl, p, _, _, _, rfl, rfl, SqL.of D1.pen, rfl, by show 0 ≤ sizeLine; decide, fun l hl0 => ?_⟩
        have D2 : PenAt (upd (upd H p (.lst [.ref c, .int ((n : Int) + 1), .int z])) l (.lst [])) p c ns (n + 1) z :=
          ⟨by rw [upd_ne (ne_of_none D1.pen hl0)]; exact D1.pen, by rw [upd_ne (ne_of_none D1.cells hl0)]; exact D1.cells, hl, h0⟩
        refine ⟨.list (ns.map PyData.int), .list [], .lst (SqL.of D2.cells) (OwD.dp_ints ns), .lst (SqL.of upd_same) .nil, OwD.shaped_ints ns, OwD.shaped_nil, _, rfl, ?_⟩
        rw [OwD.eqv_nil]
        have B2 := B1.trans (But.new (p := p) (o := .lst []) hl0)
        cases ns with
        | nil =>
          refine iteF ?_
          exact ⟨_, rfl, D2, B2⟩
        | cons a0 rest =>
          refine iteT ?_
          have hpos : 0 < ((a0 :: rest).map V.int).length := by rw [List.length_map]; exact Nat.succ_pos _
          refine ⟨_, rfl, p, _, _, _, rfl, rfl, SqL.of D2.pen, rfl, _, rfl, .inl ⟨_, rfl, _, rfl, p, _, _, _, rfl, rfl, SqL.of D2.pen, rfl, c, _, rfl, .inl (SqL.of D2.cells), _, _, rfl, rfl, by omega, ?_⟩⟩
          obtain ⟨x, hx⟩ := at_mod (a0 :: rest) n (Nat.succ_pos _)
          refine ⟨c, _, _, _, rfl, rfl, SqL.of D2.cells, hx, ?_⟩
          exact ⟨x, rfl, D2, B2⟩
      · rintro σ' H' ⟨cell, rfl, D3, B3⟩
        have C3 := D3.cells
        -- a great cell
        have ret : ∀ (d : Int) (H4 : Hp), 0 ≤ d → d < m → PenAt H4 p c ns (n + 1) z → But p H H4 → Q (.int d) H4 := fun d H4 a1 a2 D4 B4 => k d (n + 1) z H4 a1 a2 (Nat.le_refl _) D4 B4
        refine ⟨fun σ' H' => σ' = [some (.ref p), some (.int m), none, some (.int n), some (.int cell), none, none] ∧ PenAt H' p c ns (n + 1) z ∧ But p H H', ?_, ?_⟩
        · refine ⟨_, rfl, _, rfl, p, _, _, _, rfl, rfl, SqL.of D3.pen, rfl, c, _, rfl, .inl (SqL.of C3), _, _, rfl, rfl, _, rfl, ?_⟩
          refine ite2 (fun c2 => ?_) (fun c2 => ?_)
          · refine ⟨_, rfl, _, rfl, _, _, rfl, rfl, ⟨by decide, by decide, by decide⟩, _, _, rfl, rfl, _, rfl, ?_⟩
            refine ite2 (fun c3 => ?_) (fun c3 => ?_)
            · refine ⟨_, rfl, _, rfl, _, _, rfl, rfl, ⟨by decide, by decide, by decide⟩, _, _, rfl, rfl, _, _, rfl, rfl, .inl ⟨by decide, by decide⟩, ?_⟩
              refine ⟨_, rfl, _, _, rfl, rfl, .inr ⟨_, rfl, _, _, rfl, rfl, ?_⟩⟩
              have gpos : 0 ≤ 2 * ((if cell < 0 then -cell else cell) - (10 : Int) ^ (18 : Int).toNat) + (if decide (cell < 0) = true then 1 else 0) := by
                have h3 : (10 : Int) ^ (18 : Int).toNat ≤ (if cell < 0 then -cell else cell) := of_decide_eq_true c3
                split <;> omega
              refine ⟨_, rfl, .inl ⟨_, rfl, _, rfl, _, _, rfl, rfl, wide_div hm hb (by decide) (by decide), _, rfl, p, _, _, 2, rfl, rfl, D3.pen, rfl, ?_⟩⟩
              refine ⟨_, rfl, .inl ⟨_, rfl, _, rfl, _, _, rfl, rfl, hm, ?_⟩⟩
              refine k _ (n + 1) _ _ (Int.emod_nonneg _ (by omega)) (Int.emod_lt_of_pos _ hm) (Nat.le_refl _) ⟨upd_same, ?_, hl, Int.ediv_nonneg gpos (by omega)⟩ (B3.trans But.at)
              rw [upd_ne D.ne]
              exact C3
            · exact ⟨rfl, D3, B3⟩
          · exact ⟨rfl, D3, B3⟩
        · rintro σ' H4 ⟨rfl, D4, B4⟩
          have a1 := Int.emod_nonneg cell (show (2147483563 : Int) ≠ 0 by decide)
          have a2 := Int.emod_lt_of_pos cell (show (0 : Int) < 2147483563 by decide)
          -- one mixed from the cell
          refine ⟨_, rfl, .inl ⟨_, rfl, _, _, rfl, rfl, (by show (0 : Int) < _; decide), _, rfl, _, _, rfl, rfl, .inl ⟨by decide, by decide⟩, _, _, rfl, rfl, _, _, rfl, rfl, _, _, rfl, rfl, ⟨by decide, by decide, ?_⟩, .inl ⟨_, rfl, _, _, rfl, rfl, (by show (0 : Int) < _; decide), ?_⟩⟩⟩
          · show Int.natAbs _ < 2 ^ 64
            omega
          have b1 := fun x : Int => Int.emod_nonneg x (show (2147483629 : Int) ≠ 0 by decide)
          have b2 := fun x : Int => Int.emod_lt_of_pos x (show (0 : Int) < 2147483629 by decide)
          refine ⟨_, rfl, _, rfl, _, _, rfl, rfl, .inl ⟨by decide, by decide⟩, _, _, rfl, rfl, _, _, rfl, rfl, .inl ⟨Int.lt_of_lt_of_le (by decide) (b1 _), Int.lt_trans (b2 _) (by decide)⟩, ?_⟩
          refine ⟨_, rfl, _, _, rfl, rfl, .inl ⟨by decide, by decide⟩, _, rfl, _, _, rfl, rfl, .inl ⟨by omega, by omega⟩, _, _, rfl, rfl, _, _, rfl, rfl, ?_⟩
          refine ⟨_, _, rfl, rfl, ⟨by decide, by decide, mix_lt (b1 _) (Int.lt_trans (b2 _) (by decide)) (by omega) (by omega) (by decide) (by decide) (by decide) (by decide) (by decide) (by decide)⟩, .inl ⟨_, rfl, _, _, rfl, rfl, (by show (0 : Int) < _; decide), ?_⟩⟩
          refine ⟨_, rfl, _, _, rfl, rfl, wide_div (b := 6) (by decide) (by decide) (by decide) (by decide), .inl ⟨_, rfl, _, rfl, _, _, rfl, rfl, hm, ?_⟩⟩
          exact ret _ _ (Int.emod_nonneg _ (by omega)) (Int.emod_lt_of_pos _ hm) D4 B4
theorem scPe : FnScope ["_law_script"] ["_law_script"] (defScope sPen) := ⟨rfl, rfl, rfl, by decide +kernel, rfl, by decide +kernel, by decide +kernel⟩
theorem ok_pen {f : Addr} {fd : FuncData} (F : Fun K "_law_pen" "_law_pen" sPen f fd) (T : Nm mg) : FnOk P w K mg base CX0 1 f fd ["_law_script"] (spPen K) := by
  refine F.ok scPe (fun vs H Q E h => ?_) (fun cdv A outer s H vs Q E hr h => ?_)
  · obtain ⟨a, ns, rfl, _⟩ := h
    rfl
  · obtain ⟨a, ns, rfl, ha, hl, q⟩ := h
    refine ⟨_, (pss_one (ps_ret (pe_lst (pa_cons (pe_callTy call_list_of (by rfl) T.n_list (by decide +kernel) (pa_cons (pe_slice sl_list (pv 0) po_none (po_some pe_int)) pa_nil)) (pa_cons pe_int (pa_cons pe_int pa_nil)))))), ?_⟩
    have sz := sizeLine_eq
    refine ⟨_, rfl, 63, rfl, a, _, rfl, ha, ?_⟩
    rw [cut_63 hl]
    intro b hb
    refine ⟨b, _, rfl, .inl (SqL.of upd_same), fun c hc => ⟨by show (3 : Nat) ≤ sizeLine; omega, fun p hp => ?_⟩⟩
    have s3 := ((Same.of_new hb).trans (Same.of_new hc)).trans (Same.of_new (o := .lst [.ref c, .int 0, .int 0]) hp)
    exact q p c _ (((Same.of_new hb).trans (Same.of_new hc)).free hp) s3 ⟨upd_same, upd_keep2 upd_same hp, hl, by decide⟩
theorem scPi : FnScope ["_law_pen_here", "_law_some"] ["_law_pen_here", "_law_some"] (defScope sPick) := ⟨rfl, rfl, rfl, by decide +kernel, rfl, by decide +kernel, by decide +kernel⟩
theorem ok_pick {f fD : Addr} {fd fdD : FuncData} (F : Fun K "_law_pick" "_law_pick" sPick f fd) (T : Nm mg) (FD : Fun K "_law_draw" "_law_draw" sDraw fD fdD) (gD : mg "_law_draw" = some (.ref fD)) : FnOk P w K mg base CX0 2 f fd ["_law_pen_here", "_law_some"] (spPick K) := by
  have GD : FnOk P w K mg base CX0 1 fD fdD ["_law_pen_here", "_law_many"] spDraw := ok_draw FD T
  have bD : Binds K fdD ["_law_pen_here", "_law_many"] [] := FD.binds fun _ _ _ _ _ _ us hl => match us, hl with | [_, _], _ => rfl
  refine F.ok scPi (fun vs H Q E h => ?_) (fun cdv A outer s H vs Q E hr h => ?_)
  · obtain ⟨p, c, l, ns, n, z, xs, rfl, _⟩ := h
    rfl
  · obtain ⟨p, c, l, ns, n, z, xs, rfl, hp, hn, nl, hl, h0, h1, q⟩ := h
    refine ⟨_, (pss_one (ps_ret (pe_ix ix_list (pv 1) (pe_call GD hr (by rfl) gD FD.kp bD .nil pass0 (pa_cons (pv 0) (pa_cons (pe_callB call_len_seq (by rfl) T.n_len boot_len (pa_cons (pv 1) pa_nil)) pa_nil))) (fun _ _ => rfl)))), ?_⟩
    refine ⟨_, rfl, _, rfl, _, rfl, l, xs, rfl, .inl hl, p, c, ns, n, z, _, rfl, hp, hn, by omega, ?_, fun d n' z' H' d0 d1 hn' hp' s' => ?_⟩
    · have : (xs.length : Int).natAbs < 1000 := by omega
      exact Nat.lt_of_lt_of_le this (by decide +kernel)
    · obtain ⟨x, hx, ex⟩ := nth d0 d1
      exact ⟨l, xs, d, x, rfl, rfl, SqL.but hl nl s', ex, q x n' z' H' hx hn' hp' s'⟩
theorem ok_pickS {f fD : Addr} {fd fdD : FuncData} (F : Fun K "_law_pick" "_law_pick" sPick f fd) (T : Nm mg) (FD : Fun K "_law_draw" "_law_draw" sDraw fD fdD) (gD : mg "_law_draw" = some (.ref fD)) : FnOk P w K mg base CX0 2 f fd ["_law_pen_here", "_law_some"] spPickS := by
  have GD : FnOk P w K mg base CX0 1 fD fdD ["_law_pen_here", "_law_many"] spDraw := ok_draw FD T
  have bD : Binds K fdD ["_law_pen_here", "_law_many"] [] := FD.binds fun _ _ _ _ _ _ us hl => match us, hl with | [_, _], _ => rfl
  refine F.ok scPi (fun vs H Q E h => ?_) (fun cdv A outer s H vs Q E hr h => ?_)
  · obtain ⟨p, c, ns, n, z, t, rfl, _⟩ := h
    rfl
  · obtain ⟨p, c, ns, n, z, t, rfl, hp, hn, h0, h1, q⟩ := h
    refine ⟨_, (pss_one (ps_ret (pe_ix ix_str (pv 1) (pe_call GD hr (by rfl) gD FD.kp bD .nil pass0 (pa_cons (pv 0) (pa_cons (pe_callB call_len (by rfl) T.n_len boot_len (pa_cons (pv 1) pa_nil)) pa_nil))) (fun _ _ => rfl)))), ?_⟩
    have sz := sizeLine_eq
    have lz : t.length ≤ sizeLine := by omega
    refine ⟨_, rfl, _, rfl, _, rfl, .str t, t.length, rfl, ⟨lz, rfl⟩, p, c, ns, n, z, _, rfl, hp, hn, by omega, small_int (by omega) (by omega), fun d n' z' H' d0 d1 hn' hp' s' => ?_⟩
    have d2 : d < (t.cps.toList.length : Int) := d1
    obtain ⟨x, hx, ex⟩ := nth d0 d2
    exact ⟨t, d, x, rfl, rfl, lz, ex, q x n' z' H' hx hn' hp' s'⟩
end
end K10
end
section
/-! Own: picks, tables and rules on the heap. Nothing of a law's text. -/
namespace OwR
open PySem PySem.Spec PyProof.Rows L2
theorem dc_it {J : It} {n : Nat} {G : Hp → Prop} {Y : Nat → Hp → V → Hp → Prop} (w : Walk J n G Y) {g : TG} {tt : TT} {tk tv : TE} {vs : List Nat} {σ : L2.St} {H1 : Hp} {D : Addr} {Qd : Hp → Prop} (Pv : Nat → Hp → Prop)
    (h0 : Pv 0 (upd H1 D (.dK []))) (hG : ∀ i H, i ≤ n → Pv i H → G H)
    (turn : ∀ i x H H', i < n → Pv i H → Y i H x H' → g x (wipe σ vs) H' fun σ2 H2 => wipe σ2 vs = wipe σ vs ∧ tt σ2 H2 fun b H3 =>
      if b = true then tk σ2 H3 fun y H4 => tv σ2 H4 fun z H5 => ∃ kvs k, y = kV k ∧ H5 D = some (.dK kvs) ∧ kvs.length < sizeLine ∧ Pv (i + 1) (upd H5 D (.dK (putK kvs k z))) else Pv (i + 1) H3)
    (fin : ∀ H, Pv n H → Qd H) :
    ∃ W : Nat → Nat → Hp → Prop, (∃ m, W 0 m (upd H1 D (.dK []))) ∧ ∀ i m H, W i m H →
      (J.stop i H ∧ Qd H) ∨ (J.go i H ∧ ∃ Nx : Hp → Prop, (∀ H', Nx H' → ∃ m', m' < m ∧ W (i + 1) m' H') ∧ ∀ x H', J.yld i H x H' → g x (wipe σ vs) H' fun σ2 H2 => wipe σ2 vs = wipe σ vs ∧ tt σ2 H2 fun b H3 =>
        if b = true then tk σ2 H3 fun y H4 => tv σ2 H4 fun z H5 => ∃ kvs k, y = kV k ∧ H5 D = some (.dK kvs) ∧ kvs.length < sizeLine ∧ Nx (upd H5 D (.dK (putK kvs k z))) else Nx H3) := by
  refine ⟨fun i m H => m = n - i ∧ i ≤ n ∧ Pv i H, ⟨n, by simp, Nat.zero_le _, h0⟩, fun i m H ⟨em, hi, p⟩ => ?_⟩
  subst em
  have q := hG i H hi p
  rcases Nat.lt_or_ge i n with hlt | hge
  · exact .inr ⟨w.goes i H hlt q, Pv (i + 1), fun H' p' => ⟨n - (i + 1), by omega, rfl, hlt, p'⟩, fun x H' y => turn i x H H' hlt p (w.yields i H x H' hlt q y)⟩
  · obtain rfl : i = n := by omega
    exact .inl ⟨w.stops H q, fin H p⟩
theorem list_any {X : Cx} (hc : X.calm = true) : CallR X (.type "list") (fun xs H Q => (∃ p ys, xs = [.ref p] ∧ (SqL X.K H p ys ∨ SqT X.K H p ys) ∧ ∀ l, H l = none → Q (.ref l) (upd H l (.lst ys))) ∨
    (∃ (a : Addr) (kvs : List (Key × V)), xs = [.ref a] ∧ Rd H a (.dK kvs) ∧ ∀ p, H p = none → Q (.ref p) (upd H p (.lst (kvs.map fun kv => kV kv.1))))) := by
  intro pins s σ H xs us Q I r h
  rcases h with h | h
  · exact call_list_of pins s σ H xs us Q I r h
  · exact call_listD hc pins s σ H xs us Q I r h
end OwR
namespace TSet
open PySem
theorem put1_nodup {L : List Str} (h : L.Nodup) (z : Str) : (put1 L z).Nodup := by
  unfold put1
  split
  · exact h
  · rename_i q
    exact List.nodup_cons.mpr ⟨q, h⟩
theorem fold_nodup : ∀ (xs L : List Str), L.Nodup → (xs.foldl put1 L).Nodup
  | [], _, h => h
  | x :: xs, L, h => fold_nodup xs (put1 L x) (put1_nodup h x)
theorem ded_nodup (xs : List Str) : (ded xs).Nodup := fold_nodup xs [] List.nodup_nil
theorem ded_perm {xs : List Str} (h : xs.Nodup) : (ded xs).Perm xs := (List.perm_ext_iff_of_nodup (ded_nodup xs) h).mpr fun y => ded_mem xs y
end TSet
namespace OwR
open PySem PySem.Spec PyProof.Rows L2
theorem walk_enumT {K : PySem.W.Frag} {a : Addr} {xs : List V} : Walk (IteT K a) xs.length (fun H => SqT K H a xs) (YPair (fun i => some (.int (i : Nat))) (fun i => xs[i]?)) := by
  refine ⟨fun i _ hi q => ⟨xs, xs[i], q, by simp [hi]⟩, fun _ q => ⟨xs, q, Nat.le_refl _⟩, fun i H v H' _ q y => ?_⟩
  obtain ⟨T, x, h1, h2, h3, h4⟩ := y
  exact ⟨T, .int (i : Nat), x, h1, h2, h3, rfl, h4 xs q⟩
end OwR
namespace OwR
open PySem PySem.Spec PyProof.Rows L2
section
variable {X : Cx} {CX : CXT} {k : Nat} {f C : Addr} {sp : Sp} {E : XK} {x : Str} {p pos : Pos}
/-- C(), __init__ by a positional promise -/
theorem pe_makeR0 (M : Mk X.K C f) (F : FnR X.prog X.w X.K X.mg X.base CX k f sp) (hr : Room (k + 1) X.A) (hg : Gl X x) (hm : X.mg x = some (.ref C)) (hx : Passes CX X E) (hdb : (x == ("__debug__" : Str)) = false := by decide) :
    PE X (.Call (.Name x p) [] [] pos) (StX.tMakeR C sp E tNil) := by
  refine ⟨fun pins s σ H Q I h => ?_⟩
  refine wpAny_Call_Name_kw (ld_glob I hg hm ?_ hdb)
  exact PySem.W.callWith_K0 I.kIn M.kp (StX.run_makeR (us := []) M F hr hx I .nil h)
end
end OwR
namespace K10
open PySem PySem.Spec PyProof.Rows L2
/-- the texts that a list, or a dict's keys, hold -/
def TextsAt (K : PySem.W.Frag) (H : Hp) (a : Addr) (xs : List Str) : Prop := SqL K H a (xs.map V.str) ∨ SqT K H a (xs.map V.str) ∨ ∃ kvs, Rd H a (.dK kvs) ∧ kvs.map (·.1) = xs.map Sum.inr
/-- a table's numbers by its names, and no other key -/
def TabOf (kvs : List (Key × V)) (N : Str → Option Int) : Prop := (∀ z, valV kvs (Sum.inr z) = (N z).map V.int) ∧ ∀ i, valV kvs (Sum.inl i) = none
theorem TabOf.nil : TabOf [] fun _ => none := ⟨fun _ => rfl, fun _ => rfl⟩
theorem TabOf.put {kvs : List (Key × V)} {N : Str → Option Int} (t : TabOf kvs N) (z : Str) (v : Int) : TabOf (putK kvs (Sum.inr z) (.int v)) fun y => if y = z then some v else N y := by
  refine ⟨fun y => ?_, fun i => ?_⟩
  · rw [valV_put, t.1 y]
    by_cases e : y = z
    · dsimp only
      rw [if_pos (congrArg Sum.inr e), if_pos e]
      rfl
    · dsimp only
      rw [if_neg (fun q => e (Sum.inr.inj q)), if_neg e]
  · rw [valV_put, t.2 i, if_neg (fun q => by cases q)]
theorem TabOf.cast {kvs : List (Key × V)} {N M : Str → Option Int} (t : TabOf kvs N) (h : ∀ z, N z = M z) : TabOf kvs M := by
  rw [← funext h]
  exact t
theorem TabOf.get {kvs : List (Key × V)} {N : Str → Option Int} (t : TabOf kvs N) {H : Hp} {a : Addr} (h : Rd H a (.dK kvs)) (z : Str) : DGet H a (.str z) ((N z).map V.int) := .inl ⟨kvs, Sum.inr z, h, rfl, (t.1 z).symm⟩
theorem TabOf.mem {kvs : List (Key × V)} {N : Str → Option Int} (t : TabOf kvs N) {xs : List Str} (e : kvs.map (·.1) = xs.map Sum.inr) (z : Str) : z ∈ xs ↔ (N z).isSome = true := by
  have h1 : (kvs.any fun kv => decide (kv.1 = Sum.inr z)) = (valV kvs (Sum.inr z)).isSome := valV_any _ kvs
  rw [t.1 z, Option.isSome_map] at h1
  rw [← h1, List.any_eq_true]
  refine ⟨fun h => ?_, fun ⟨kv, h, e2⟩ => ?_⟩
  · have h2 : (Sum.inr z : Key) ∈ kvs.map (·.1) := by
      rw [e]
      exact List.mem_map.mpr ⟨z, h, rfl⟩
    obtain ⟨kv, h3, h4⟩ := List.mem_map.mp h2
    exact ⟨kv, h3, decide_eq_true h4⟩
  · have h2 : (Sum.inr z : Key) ∈ kvs.map (·.1) := List.mem_map.mpr ⟨kv, h, of_decide_eq_true e2⟩
    rw [e] at h2
    obtain ⟨y, h3, h4⟩ := List.mem_map.mp h2
    exact Sum.inr.inj h4 ▸ h3
def TupAt (H : Hp) (k : Addr) (p : Pk) : Prop := H k = some (.tup [.str p.1, .int p.2])
/-- picks as tuples of a text and a number -/
structure PicksAt (H : Hp) (ks : List Addr) (ps : List Pk) : Prop where
  len : ks.length = ps.length
  at_ : ∀ (i : Nat) (k : Addr) (p : Pk), ks[i]? = some k → ps[i]? = some p → TupAt H k p
theorem PicksAt.nil {H : Hp} : PicksAt H [] [] := ⟨rfl, fun i k p h => by cases h⟩
theorem PicksAt.get {H : Hp} {ks : List Addr} {ps : List Pk} (h : PicksAt H ks ps) {i : Nat} {v : V} (e : (ks.map V.ref)[i]? = some v) : ∃ k p, v = .ref k ∧ ks[i]? = some k ∧ ps[i]? = some p ∧ TupAt H k p := by
  rw [List.getElem?_map] at e
  obtain ⟨k, hk, rfl⟩ := Option.map_eq_some_iff.mp e
  have hi : i < ps.length := by
    rw [← h.len]
    exact (List.getElem?_eq_some_iff.mp hk).1
  exact ⟨k, ps[i], rfl, hk, List.getElem?_eq_getElem hi, h.at_ i k _ hk (List.getElem?_eq_getElem hi)⟩
theorem PicksAt.mono {H H' : Hp} {ks : List Addr} {ps : List Pk} (h : PicksAt H ks ps) (s : ∀ k xs, H k = some (.tup xs) → H' k = some (.tup xs)) : PicksAt H' ks ps := ⟨h.len, fun i k p e1 e2 => s _ _ (h.at_ i k p e1 e2)⟩
theorem PicksAt.same {H H' : Hp} {ks : List Addr} {ps : List Pk} (h : PicksAt H ks ps) (s : Same H H') : PicksAt H' ks ps := h.mono fun k xs e => s k _ e
theorem PicksAt.upd {H : Hp} {ks : List Addr} {ps : List Pk} (h : PicksAt H ks ps) {D : Addr} {o : HO} (n : ∀ xs, H D ≠ some (.tup xs)) : PicksAt (upd H D o) ks ps := h.mono fun k xs e => by
  have : k ≠ D := fun z => n xs (z ▸ e)
  rw [upd_ne this]
  exact e
theorem PicksAt.snoc {H : Hp} {ks : List Addr} {ps : List Pk} (h : PicksAt H ks ps) {k : Addr} {p : Pk} (e : TupAt H k p) : PicksAt H (ks ++ [k]) (ps ++ [p]) := by
  refine ⟨by rw [List.length_append, List.length_append, h.len]; rfl, fun i k' p' e1 e2 => ?_⟩
  rcases Nat.lt_trichotomy i ks.length with c | c | c
  · rw [List.getElem?_append_left c] at e1
    rw [List.getElem?_append_left (by rw [← h.len]; exact c)] at e2
    exact h.at_ i k' p' e1 e2
  · subst c
    rw [List.getElem?_append_right (Nat.le_refl _), Nat.sub_self] at e1
    rw [h.len, List.getElem?_append_right (Nat.le_refl _), Nat.sub_self] at e2
    cases e1
    cases e2
    exact e
  · rw [List.getElem?_eq_none (by rw [List.length_append]; simp; omega)] at e1
    cases e1
theorem upd_keep {H : Hp} {D b : Addr} {o u w : HO} (hD : H D = some w) (h : H b = some u) (n : u ≠ w) : upd H D o b = some u := by
  have : b ≠ D := fun z => by
    rw [z, hD] at h
    exact n (Option.some.inj h).symm
  rw [upd_ne this]
  exact h
theorem free_of {H : Hp} {D b : Addr} {o : HO} (h : upd H D o b = none) : H b = none := by
  unfold upd at h
  split at h
  · cases h
  · exact h
theorem PicksAt.drop {H : Hp} {ks : List Addr} {ps : List Pk} (h : PicksAt H ks ps) : PicksAt H (ks.drop 1) (ps.drop 1) := by
  refine ⟨by rw [List.length_drop, List.length_drop, h.len], fun i k p e1 e2 => ?_⟩
  rw [List.getElem?_drop] at e1 e2
  exact h.at_ _ k p e1 e2
theorem cut_one (kk : List Addr) : cutV (kk.map V.ref) (some 1) none = (kk.drop 1).map V.ref := by
  have e : (some 1 : Option Int) = some ((1 : Nat) : Int) := rfl
  unfold cutV
  rw [HT.sIx_none, e, HT.sIx_nat]
  cases kk with
  | nil => rfl
  | cons x r =>
    have e2 : min 1 ((x :: r).map V.ref).length = 1 := by
      rw [List.length_map]
      show min 1 (r.length + 1) = 1
      omega
    rw [e2]
    show ((r.map V.ref).take (((x :: r).map V.ref).length - 1)) = r.map V.ref
    exact List.take_of_length_le (by rw [List.length_map, List.length_map]; show r.length ≤ r.length + 1 - 1; omega)
def optV : Option Str → V
  | none => .non
  | some z => .str z
theorem behind_vals (kp : List Pk) : ((kp.drop 1).map fun p => V.str p.1) ++ [V.non] = (behind kp).map optV := by
  unfold behind
  rw [List.map_append, List.map_map]
  rfl
/-- a pick as it is passed: a tuple, or a name alone for a keep of 0 -/
def ValAt (H : Hp) (x : V) (p : Pk) : Prop := (∃ k, x = .ref k ∧ TupAt H k p) ∨ (x = .str p.1 ∧ p.2 = 0)
theorem ValAt.same {H H' : Hp} {x : V} {p : Pk} (h : ValAt H x p) (s : Same H H') : ValAt H' x p := h.elim (fun ⟨k, e, t⟩ => .inl ⟨k, e, s _ _ t⟩) .inr
structure ValsAt (H : Hp) (xs : List V) (ps : List Pk) : Prop where
  len : xs.length = ps.length
  at_ : ∀ (i : Nat) (x : V) (p : Pk), xs[i]? = some x → ps[i]? = some p → ValAt H x p
theorem ValsAt.same {H H' : Hp} {xs : List V} {ps : List Pk} (h : ValsAt H xs ps) (s : Same H H') : ValsAt H' xs ps := ⟨h.len, fun i x p e1 e2 => (h.at_ i x p e1 e2).same s⟩
theorem ValsAt.get {H : Hp} {xs : List V} {ps : List Pk} (h : ValsAt H xs ps) {i : Nat} {x : V} (e : xs[i]? = some x) : ∃ p, ps[i]? = some p ∧ ValAt H x p := by
  have hi : i < ps.length := by
    rw [← h.len]
    exact (List.getElem?_eq_some_iff.mp e).1
  exact ⟨ps[i], List.getElem?_eq_getElem hi, h.at_ i x _ e (List.getElem?_eq_getElem hi)⟩
theorem PicksAt.vals {H : Hp} {ks : List Addr} {ps : List Pk} (h : PicksAt H ks ps) : ValsAt H (ks.map V.ref) ps := by
  refine ⟨by rw [List.length_map, h.len], fun i x p e1 e2 => ?_⟩
  rw [List.getElem?_map] at e1
  obtain ⟨k, hk, rfl⟩ := Option.map_eq_some_iff.mp e1
  exact .inl ⟨k, rfl, h.at_ i k p hk e2⟩
def lookL : List Pk → Str → Option Int
  | [], _ => none
  | p :: r, z => if z = p.1 then some p.2 else lookL r z
theorem lookL_mem : ∀ (l : List Pk) (z : Str), (lookL l z).isSome = true ↔ z ∈ l.map (·.1)
  | [], z => by simp [lookL]
  | p :: r, z => by
    unfold lookL
    rw [List.map_cons, List.mem_cons, ← lookL_mem r z]
    by_cases c : z = p.1
    · rw [if_pos c]; exact ⟨fun _ => .inl c, fun _ => rfl⟩
    · rw [if_neg c]; exact ⟨.inr, fun h => h.elim (fun q => absurd q c) id⟩
/-- what stands behind the picks: the keeps by bays, and the bays ascending -/
structure RuleC (K : PySem.W.Frag) (C : Addr) : Prop where
  cls : Cls K C
  n1 : NoAttr K C "_picks"
  n2 : NoAttr K C "_keeps"
  n3 : NoAttr K C "_bays"
structure More (H : Hp) (fs : List (Str × V)) (ps : List Pk) (D b : Addr) (r : List (Key × V)) (zs : List Str) : Prop where
  lm : fs.lookup ("keep" : Str) = none
  lk : fs.lookup ("_keeps" : Str) = some (.ref D)
  lb : fs.lookup ("_bays" : Str) = some (.ref b)
  eD : H D = some (.dK r)
  tb : TabOf r (lookL ps)
  eb : H b = some (.tup (zs.map V.str))
  nd : zs.Nodup
  mem : ∀ z, z ∈ zs ↔ z ∈ ps.map (·.1)
  srt : sortedS zs = true
def RuleAt (C : Addr) (H : Hp) (a : Addr) (ps : List Pk) : Prop := ∃ (dx : Addr) (fs : List (Str × V)) (p : Addr) (ks : List Addr), H a = some (.ins C dx fs) ∧ fs.lookup ("_picks" : Str) = some (.ref p) ∧ H p = some (.tup (ks.map V.ref)) ∧ PicksAt H ks ps ∧ ∃ D b r zs, More H fs ps D b r zs
theorem RuleAt.same {C : Addr} {H H' : Hp} {a : Addr} {ps : List Pk} (h : RuleAt C H a ps) (s : Same H H') : RuleAt C H' a ps := by
  obtain ⟨dx, fs, p, ks, h1, h2, h3, h4, D, b, r, zs, m⟩ := h
  exact ⟨dx, fs, p, ks, s _ _ h1, h2, s _ _ h3, h4.same s, D, b, r, zs, m.lm, m.lk, m.lb, s _ _ m.eD, m.tb, s _ _ m.eb, m.nd, m.mem, m.srt⟩
def pkD (p : Pk) : PyData := .tuple [.str p.1, .int p.2]
theorem pkD_lay {p : Pk} (h : PyData.strOk p.1 = true) : (pkD p).canLay0 = true := by simp [pkD, PyData.canLay0, PyData.canLayAll0, h]
theorem pkD_dep (p : Pk) : (pkD p).depth ≤ 1 := by simp [pkD, PyData.depth, PyData.depthAll]
theorem PicksAt.dp {K : PySem.W.Frag} {H : Hp} : ∀ {ks : List Addr} {ps : List Pk}, PicksAt H ks ps → DpAll K H (ks.map V.ref) (ps.map pkD)
  | [], [], _ => .nil
  | [], _ :: _, h => by cases h.len
  | _ :: _, [], h => by cases h.len
  | k :: ks, p :: ps, h => .cons (.tup (SqT.of (h.at_ 0 k p rfl rfl)) (.cons (.str p.1) (.cons (.int p.2) .nil))) (PicksAt.dp ⟨Nat.succ.inj h.len, fun i k' p' e1 e2 => h.at_ (i + 1) k' p' e1 e2⟩)
def optI : Option Int → V
  | none => .non
  | some i => .int i
/-- what may be asked with `in` and `keep`: a text, or another value -/
def AskAt (K : PySem.W.Frag) (H : Hp) (x : V) (o : Option Str) : Prop := match o with
  | some z => x = .str z
  | none => ∃ t, TyX K H x t ∧ PySem.W.kitOne K t (.type "str") = some false
def keepAt (ps : List Pk) (o : Option Str) : Option Int := o.elim none (lookL ps)
end K10
end
section
namespace K10
open PySem PySem.Spec PyProof.Rows L2
abbrev sName : Stmt := top 9
abbrev sWithin : Stmt := top 10
abbrev sAsc : Stmt := top 11
structure Nm2 (mg : Str → Option Value) : Prop where
  n_int : mg "int" = none
  n_bool : mg "bool" = none
  n_str : mg "str" = none
  n_len : mg "len" = none
  n_all : mg "all" = none
  n_isinstance : mg "isinstance" = none
structure Nm3 (mg : Str → Option Value) : Prop where
  n_sorted : mg "sorted" = none
  n_set : mg "set" = none
  n_list : mg "list" = none
structure Nm4 (mg : Str → Option Value) : Prop where
  n_tuple : mg "tuple" = none
/-- no integer, or True or False -/
def NoInt (K : PySem.W.Frag) (H : Hp) (v : V) : Prop := (∃ b, v = .bl b) ∨ ∃ t, TyX K H v t ∧ PySem.W.kitOne K t (.type "int") = some false
/-- no integer from a to b -/
def NotIn (K : PySem.W.Frag) (H : Hp) (a b : Int) (v : V) : Prop := (∃ i, v = .int i ∧ ¬ (a ≤ i ∧ i ≤ b)) ∨ NoInt K H v
def spWithin (K : PySem.W.Frag) : Sp := fun vs H Q _ => ∃ (v : V) (a b : Int), vs = [v, .int a, .int b] ∧ ((∃ i, v = .int i ∧ Q (.bl (decide (a ≤ i) && decide (i ≤ b))) H) ∨ (NoInt K H v ∧ Q (.bl false) H))
def spAsc (K : PySem.W.Frag) : Sp := fun vs H Q _ => ∃ (a : Addr) (xs : List Str), vs = [.ref a] ∧ TextsAt K H a xs ∧ xs.length < 64 ∧
  ∀ (ys : List Str) (p : Addr) (H' : Hp), ys.Perm (TSet.ded xs) → sortedS ys = true → H p = none → Same H H' → H' p = some (.lst (ys.map V.str)) → Q (.ref p) H'
section
variable {P : Program} {w : World} {K : PySem.W.Frag} {mg : Str → Option Value} {base : Heap}
abbrev nName : List Str := ["value", "sign"]
theorem scN : FnScope nName ["value"] (defScope sName) := ⟨rfl, rfl, rfl, by decide +kernel, rfl, by decide +kernel, by decide +kernel⟩
theorem ok_name {f : Addr} {fd : FuncData} (F : Fun K "is_name" "is_name" sName f fd) (T : Nm2 mg) : FnOk P w K mg base CX0 1 f fd ["value"] (spName K) := by
  refine F.ok scN (fun vs H Q E h => ?_) (fun cdv A outer s H vs Q E hr h => ?_)
  · obtain ⟨v, rfl, _⟩ := h
    rfl
  · obtain ⟨v, rfl, h⟩ := h
    refine ⟨_, (pss_cons (ps_if (PW.pt (pw_or (pt_not (pt_val (pe_callB call_isi (by rfl) T.n_isinstance (by decide +kernel) (pa_cons (pv 0) (pa_cons (pe_bltn (v := .ty "str") (by rfl) T.n_str (by decide +kernel) rfl) pa_nil))))) (pw_or1 (pt_not (pt_chain op_le op_le pe_int (pe_callB call_len (by rfl) T.n_len boot_len (pa_cons (pv 0) pa_nil)) pe_int))))) (pss_one (ps_ret pe_bl)) pss_nil)
    (pss_one (ps_ret (pe_callB (cr_all rfl) (by rfl) T.n_all (by decide +kernel) (pa_cons (pe_lc (own := [("sign", 1)]) (by rfl) scN.nd (pi_str (pv 0)) (blkOk_by (own := [("sign", 1)]) (N := nName) (sc := defScope sName) (by decide +kernel)) (fun _ _ _ _ _ => (pg_name (i := 1) scN.nd rfl (Or.inl rfl))) (fun _ _ _ _ _ => pts_nil) (fun _ _ _ _ _ => (pe_chain op_le_str op_le_str pe_str (pv 1) pe_str))) pa_nil))))), ?_⟩
    rcases h with ⟨z, rfl, hz, k⟩ | ⟨⟨t, ty, kt⟩, k⟩
    · have hz2 : z.length ≤ sizeLine := Nat.le_trans hz (by decide)
      refine ⟨_, rfl, .str z, .ty "str", _, _, true, rfl, .ty _, .base (by constructor), kit_ty (by decide +kernel), true, rfl, ?_⟩
      refine iteF ?_
      refine ⟨_, rfl, .str z, z.length, rfl, ⟨hz2, rfl⟩, _, _, rfl, rfl, _, rfl, ?_⟩
      refine ite2 (fun c1 => ?_) (fun c1 => ?_)
      · have d1 : 1 ≤ z.length := by
          have := of_decide_eq_true c1
          omega
        refine ⟨_, _, rfl, rfl, _, rfl, ?_⟩
        by_cases d2 : z.length ≤ 8
        · have e2 : decide ((z.length : Int) ≤ 8) = true := decide_eq_true (by omega)
          rw [e2]
          refine iteF ?_
          have rest : ∀ b H', Same H H' → b = z.cps.toList.all letter → Q (.bl b) H' := fun b H' s e => by
            have e' : nameB z = b := by
              unfold nameB
              rw [decide_eq_true d1, decide_eq_true d2, e]
              rfl
            rw [← e']
            exact k H' s
          refine ⟨_, rfl, z, rfl, fun D hD => lc_it (walk_str (z := z)) (fun i H' => H' D = some (.lst (((z.cps.toList.take i).map letter).map V.bl)) ∧ Same H H')
            ⟨upd_same, fun b o e => by rw [upd_ne (ne_of_none e hD)]; exact e⟩ (fun _ _ _ _ => trivial) ?_ ?_⟩
          · rintro i x H1 H2 hi ⟨hl, hs⟩ ⟨rfl, c, hc, rfl⟩
            have step : ∀ b : Bool, b = letter c → ∃ acc : List V, H2 D = some (.lst acc) ∧ acc.length < sizeLine ∧
                (upd H2 D (.lst (acc ++ [V.bl b])) D = some (.lst (((z.cps.toList.take (i + 1)).map letter).map V.bl)) ∧ Same H (upd H2 D (.lst (acc ++ [V.bl b])))) := fun b hb => by
              refine ⟨_, hl, ?_, ?_, fun a o e => ?_⟩
              · rw [List.length_map, List.length_map, List.length_take]
                have h9 : z.cps.toList.length = z.length := by first | rfl | simp [Str.length]
                exact Nat.lt_of_le_of_lt (Nat.min_le_right _ _) (by rw [h9, sizeLine_eq]; omega)
              · rw [upd_same, hb, List.take_add_one, show z.cps.toList[i]? = some c by rw [Array.getElem?_toList]; exact hc]
                simp
              · rw [upd_ne (ne_of_none e hD)]
                exact hs a o e
            refine ⟨rfl, ?_⟩
            refine ⟨_, rfl, _, _, rfl, rfl, _, rfl, ?_⟩
            have l1 : (!decide ((⟨#[c]⟩ : Str).cps.toList < ("a" : Str).cps.toList)) = decide (97 ≤ c) := one_le 97 c
            have l2 : (!decide (("z" : Str).cps.toList < (⟨#[c]⟩ : Str).cps.toList)) = decide (c ≤ 122) := one_le c 122
            by_cases c1 : 97 ≤ c
            · rw [l1, decide_eq_true c1]
              refine iteT ?_
              refine ⟨_, _, rfl, rfl, step _ ?_⟩
              rw [l2]
              unfold letter
              rw [decide_eq_true c1, Bool.true_and]
            · rw [l1, decide_eq_false c1]
              refine iteF ?_
              refine step _ ?_
              unfold letter
              rw [decide_eq_false c1, Bool.false_and]
          · rintro H1 ⟨hl, hs⟩
            refine ⟨D, _, rfl, SqL.of hl, rest _ H1 hs ?_⟩
            rw [show z.cps.size = z.cps.toList.length from rfl, List.take_length, List.all_map]
            rfl
        · have e2 : decide ((z.length : Int) ≤ 8) = false := decide_eq_false (by omega)
          rw [e2]
          refine iteT ?_
          have e : nameB z = false := by
            unfold nameB
            rw [decide_eq_false d2, Bool.and_false, Bool.false_and]
          rw [← e]
          exact k H (Same.refl H)
      · have d1 : ¬ 1 ≤ z.length := fun q => c1 (decide_eq_true (by omega))
        refine ⟨_, rfl, ?_⟩
        have e : nameB z = false := by
          unfold nameB
          rw [decide_eq_false d1, Bool.false_and, Bool.false_and]
        refine iteT ?_
        rw [← e]
        exact k H (Same.refl H)
    · refine ⟨_, rfl, v, .ty "str", _, _, false, rfl, .ty _, ty, kt, false, rfl, ?_⟩
      refine iteT ?_
      exact iteT k
theorem scW : FnScope ["value", "least", "most"] ["value", "least", "most"] (defScope sWithin) := ⟨rfl, rfl, rfl, by decide +kernel, rfl, by decide +kernel, by decide +kernel⟩
theorem ok_within {f : Addr} {fd : FuncData} (F : Fun K "is_within" "is_within" sWithin f fd) (T : Nm2 mg) : FnOk P w K mg base CX0 1 f fd ["value", "least", "most"] (spWithin K) := by
  refine F.ok scW (fun vs H Q E h => ?_) (fun cdv A outer s H vs Q E hr h => ?_)
  · obtain ⟨v, a, b, rfl, _⟩ := h
    rfl
  · obtain ⟨v, a, b, rfl, k⟩ := h
    refine ⟨_, (pss_cons (ps_if (PW.pt (pw_or (pt_not (pt_val (pe_callB call_isi (by rfl) T.n_isinstance (by decide +kernel) (pa_cons (pv 0) (pa_cons (pe_bltn (v := .ty "int") (by rfl) T.n_int (by decide +kernel) rfl) pa_nil))))) (pw_or1 (pt_val (pe_callB call_isi (by rfl) T.n_isinstance (by decide +kernel) (pa_cons (pv 0) (pa_cons (pe_bltn (v := .ty "bool") (by rfl) T.n_bool (by decide +kernel) rfl) pa_nil))))))) (pss_one (ps_ret pe_bl)) pss_nil)
    (pss_one (ps_ret (pe_chain op_le op_le (pv 1) (pv 0) (pv 2))))), ?_⟩
    rcases k with ⟨v, rfl, k⟩ | ⟨⟨c, rfl⟩ | ⟨t, ty, kt⟩, k⟩
    · refine ⟨_, rfl, .int v, .ty "int", _, _, true, rfl, .ty _, .base (.int v), kit_ty (by decide +kernel), true, rfl, ?_⟩
      refine iteF ?_
      refine ⟨_, rfl, .int v, .ty "bool", _, _, false, rfl, .ty _, .base (.int v), kit_ty (by decide +kernel), false, rfl, ?_⟩
      refine iteF ?_
      refine ⟨_, rfl, _, rfl, _, _, rfl, rfl, _, rfl, ?_⟩
      by_cases c : a ≤ v
      · rw [decide_eq_true c] at k ⊢
        refine iteT ?_
        exact ⟨_, rfl, _, _, rfl, rfl, k⟩
      · rw [decide_eq_false c] at k ⊢
        refine iteF ?_
        exact k
    · refine ⟨_, rfl, .bl c, .ty "int", _, _, true, rfl, .ty _, .base (.bl c), kit_ty (by decide +kernel), true, rfl, ?_⟩
      refine iteF ?_
      refine ⟨_, rfl, .bl c, .ty "bool", _, _, true, rfl, .ty _, .base (.bl c), kit_ty (by decide +kernel), true, rfl, ?_⟩
      exact iteT k
    · refine ⟨_, rfl, v, .ty "int", _, _, false, rfl, .ty _, ty, kt, false, rfl, ?_⟩
      refine iteT ?_
      exact iteT k
theorem scA : FnScope ["things"] ["things"] (defScope sAsc) := ⟨rfl, rfl, rfl, by decide +kernel, rfl, by decide +kernel, by decide +kernel⟩
theorem ok_asc {f : Addr} {fd : FuncData} (F : Fun K "ascending" "ascending" sAsc f fd) (T : Nm3 mg) : FnOk P w K mg base CX0 1 f fd ["things"] (spAsc K) := by
  refine F.ok scA (fun vs H Q E h => ?_) (fun cdv A outer s H vs Q E hr h => ?_)
  · obtain ⟨a, xs, rfl, _⟩ := h
    rfl
  · obtain ⟨a, xs, rfl, ha, hl, k⟩ := h
    refine ⟨_, (pss_one (ps_ret (pe_callB (TSet.cr_sortedTexts rfl) (by rfl) T.n_sorted (by decide +kernel) (pa_cons (pe_callTy (TSet.cr_setS rfl) (by rfl) T.n_set (by decide +kernel) (pa_cons (pe_callTy (OwR.list_any rfl) (by rfl) T.n_list (by decide +kernel) (pa_cons (pv 0) pa_nil)) pa_nil)) pa_nil)))), ?_⟩
    have fin : ∀ l, H l = none → ∀ a2, (upd H l (.lst (xs.map V.str))) a2 = none → ∀ (ys : List Str) (p : Addr), ys.Perm (TSet.ded xs) → sortedS ys = true → (upd (upd H l (.lst (xs.map V.str))) a2 (TSet.TSO w a2 (TSet.ded xs))) p = none →
        Q (.ref p) (upd (upd (upd H l (.lst (xs.map V.str))) a2 (TSet.TSO w a2 (TSet.ded xs))) p (.lst (ys.map V.str))) := fun l h1 a2 h2 ys p pm srt h3 => by
      have s1 := Same.of_new (o := .lst (xs.map V.str)) h1
      have s2 := s1.trans (Same.of_new (o := TSet.TSO w a2 (TSet.ded xs)) h2)
      have s3 := s2.trans (Same.of_new (o := .lst (ys.map V.str)) h3)
      exact k ys p _ pm srt (s2.free h3) s3 upd_same
    have hb : xs.length < scanBound := Nat.lt_trans hl (by decide)
    have hd : (TSet.ded xs).length < 64 := Nat.lt_of_le_of_lt (TSet.ded_len xs) hl
    have rest : ∀ l, H l = none → ∃ (l0 : Addr) (zs : List Str), ([V.ref l] : List V) = [V.ref l0] ∧ SqL K (upd H l (.lst (xs.map V.str))) l0 (zs.map V.str) ∧ zs.length < scanBound ∧
        ∀ a2, (upd H l (.lst (xs.map V.str))) a2 = none → ∃ (a3 : Addr) (L : List Str), ([V.ref a2] : List V) = [V.ref a3] ∧ (upd (upd H l (.lst (xs.map V.str))) a2 (TSet.TSO w a2 (TSet.ded zs))) a3 = some (TSet.TSO w a3 L) ∧ L.length < 64 ∧
          ∀ (ys : List Str) (p : Addr), ys.Perm L → sortedS ys = true → (upd (upd H l (.lst (xs.map V.str))) a2 (TSet.TSO w a2 (TSet.ded zs))) p = none →
            Q (.ref p) (upd (upd (upd H l (.lst (xs.map V.str))) a2 (TSet.TSO w a2 (TSet.ded zs))) p (.lst (ys.map V.str))) := fun l h1 =>
      ⟨l, xs, rfl, SqL.of upd_same, hb, fun a2 h2 => ⟨a2, _, rfl, upd_same, hd, fun ys p pm srt h3 => fin l h1 a2 h2 ys p pm srt h3⟩⟩
    refine ⟨_, rfl, ?_⟩
    rcases ha with h | h | ⟨kvs, h, e⟩
    · exact .inl ⟨a, _, rfl, .inl h, rest⟩
    · exact .inl ⟨a, _, rfl, .inr h, rest⟩
    · refine .inr ⟨a, kvs, rfl, h, ?_⟩
      have ek : (kvs.map fun kv => kV kv.1) = xs.map V.str := by
        have q := congrArg (List.map kV) e
        rw [List.map_map, List.map_map] at q
        exact q
      rw [ek]
      exact rest
end
structure Chk (P : Program) (w : World) (K : PySem.W.Frag) (mg : Str → Option Value) (base : Heap) : Prop where
  nm : ∃ f fd, mg "is_name" = some (.ref f) ∧ Fun K "is_name" "is_name" sName f fd
  wi : ∃ f fd, mg "is_within" = some (.ref f) ∧ Fun K "is_within" "is_within" sWithin f fd
  as : ∃ f fd, mg "ascending" = some (.ref f) ∧ Fun K "ascending" "ascending" sAsc f fd
  T : Nm2 mg
  T3 : Nm3 mg
  T4 : Nm4 mg
section
variable {P : Program} {w : World} {K : PySem.W.Frag} {mg : Str → Option Value} {base : Heap}
theorem Chk.name (c : Chk P w K mg base) : ∃ f fd, mg "is_name" = some (.ref f) ∧ PySem.W.keepIn K (.ref f) = true ∧ Binds K fd ["value"] [] ∧ FnOk P w K mg base CX0 1 f fd ["value"] (spName K) := by
  obtain ⟨f, fd, g, F⟩ := c.nm
  exact ⟨f, fd, g, F.kp, F.binds fun _ _ _ _ _ _ us hl => match us, hl with | [_], _ => rfl, ok_name F c.T⟩
theorem Chk.within (c : Chk P w K mg base) : ∃ f fd, mg "is_within" = some (.ref f) ∧ PySem.W.keepIn K (.ref f) = true ∧ Binds K fd ["value", "least", "most"] [] ∧ FnOk P w K mg base CX0 1 f fd ["value", "least", "most"] (spWithin K) := by
  obtain ⟨f, fd, g, F⟩ := c.wi
  exact ⟨f, fd, g, F.kp, F.binds fun _ _ _ _ _ _ us hl => match us, hl with | [_, _, _], _ => rfl, ok_within F c.T⟩
theorem Chk.asc (c : Chk P w K mg base) : ∃ f fd, mg "ascending" = some (.ref f) ∧ PySem.W.keepIn K (.ref f) = true ∧ Binds K fd ["things"] [] ∧ FnOk P w K mg base CX0 1 f fd ["things"] (spAsc K) := by
  obtain ⟨f, fd, g, F⟩ := c.as
  exact ⟨f, fd, g, F.kp, F.binds fun _ _ _ _ _ _ us hl => match us, hl with | [_], _ => rfl, ok_asc F c.T3⟩
end
end K10
end
section
namespace K10
open PySem PySem.Spec PyProof.Rows L2
abbrev sBadName0 : Stmt := mth 3 0
abbrev sBadNumber0 : Stmt := mth 4 0
abbrev sBadQuota0 : Stmt := mth 5 0
abbrev sTooMany0 : Stmt := mth 6 0
/-- an own error class with one field f, as the code that raises it wants it -/
def Err1 (K : PySem.W.Frag) (mg : Str → Option Value) (x f : Str) (C : Addr) (q : Str) (st : Stmt) : Prop := ∃ (fI : Addr) (fd : FuncData), ErrT K mg x C fI ∧ PySem.W.findIn K (.ref C) f = some none ∧ Fun K "__init__" q st fI fd
structure QErrs (K : PySem.W.Frag) (mg : Str → Option Value) (CN CM CQ CT : Addr) : Prop where
  name : Err1 K mg "BadName" "value" CN "BadName.__init__" sBadName0
  number : Err1 K mg "BadNumber" "value" CM "BadNumber.__init__" sBadNumber0
  quota : Err1 K mg "BadQuota" "part" CQ "BadQuota.__init__" sBadQuota0
  many : Err1 K mg "TooMany" "what" CT "TooMany.__init__" sTooMany0
  most : PySem.W.findIn K (.ref CT) "most" = some none
section
variable {P : Program} {w : World} {K : PySem.W.Frag} {mg : Str → Option Value} {base : Heap}
theorem scBadName0 : FnScope ["self", "value"] ["self", "value"] (defScope sBadName0) := ⟨rfl, rfl, rfl, by decide +kernel, rfl, by decide +kernel, by decide +kernel⟩
theorem ok_BadName0 {f : Addr} {fd : FuncData} (F : Fun K "__init__" "BadName.__init__" sBadName0 f fd) : FnOk P w K mg base CX0 1 f fd ["self", "value"] (OwE.spErr1 K "value") := by
  refine F.ok scBadName0 (fun vs H Q E h => ?_) (fun cdv A outer s H vs Q E hr h => ?_)
  · obtain ⟨a, C, v, rfl, _⟩ := h
    rfl
  · obtain ⟨a, C, v, rfl, T, hno, ha, k⟩ := h
    refine ⟨_, (pss_one (ps_ost (pv 0) (pv 1))), ?_⟩
    exact ⟨_, rfl, _, rfl, a, C, rfl, T, hno, .inl ⟨ha, fun dx h1 h2 => k dx h1 h2⟩⟩
theorem scBadNumber0 : FnScope ["self", "value"] ["self", "value"] (defScope sBadNumber0) := ⟨rfl, rfl, rfl, by decide +kernel, rfl, by decide +kernel, by decide +kernel⟩
theorem ok_BadNumber0 {f : Addr} {fd : FuncData} (F : Fun K "__init__" "BadNumber.__init__" sBadNumber0 f fd) : FnOk P w K mg base CX0 1 f fd ["self", "value"] (OwE.spErr1 K "value") := by
  refine F.ok scBadNumber0 (fun vs H Q E h => ?_) (fun cdv A outer s H vs Q E hr h => ?_)
  · obtain ⟨a, C, v, rfl, _⟩ := h
    rfl
  · obtain ⟨a, C, v, rfl, T, hno, ha, k⟩ := h
    refine ⟨_, (pss_one (ps_ost (pv 0) (pv 1))), ?_⟩
    exact ⟨_, rfl, _, rfl, a, C, rfl, T, hno, .inl ⟨ha, fun dx h1 h2 => k dx h1 h2⟩⟩
theorem scBadQuota0 : FnScope ["self", "part"] ["self", "part"] (defScope sBadQuota0) := ⟨rfl, rfl, rfl, by decide +kernel, rfl, by decide +kernel, by decide +kernel⟩
theorem ok_BadQuota0 {f : Addr} {fd : FuncData} (F : Fun K "__init__" "BadQuota.__init__" sBadQuota0 f fd) : FnOk P w K mg base CX0 1 f fd ["self", "part"] (OwE.spErr1 K "part") := by
  refine F.ok scBadQuota0 (fun vs H Q E h => ?_) (fun cdv A outer s H vs Q E hr h => ?_)
  · obtain ⟨a, C, v, rfl, _⟩ := h
    rfl
  · obtain ⟨a, C, v, rfl, T, hno, ha, k⟩ := h
    refine ⟨_, (pss_one (ps_ost (pv 0) (pv 1))), ?_⟩
    exact ⟨_, rfl, _, rfl, a, C, rfl, T, hno, .inl ⟨ha, fun dx h1 h2 => k dx h1 h2⟩⟩
theorem scTooMany0 : FnScope ["self", "what", "most"] ["self", "what", "most"] (defScope sTooMany0) := ⟨rfl, rfl, rfl, by decide +kernel, rfl, by decide +kernel, by decide +kernel⟩
theorem ok_TooMany0 {f : Addr} {fd : FuncData} (F : Fun K "__init__" "TooMany.__init__" sTooMany0 f fd) : FnOk P w K mg base CX0 1 f fd ["self", "what", "most"] (OwE.spErr2 K "what" "most") := by
  refine F.ok scTooMany0 (fun vs H Q E h => ?_) (fun cdv A outer s H vs Q E hr h => ?_)
  · obtain ⟨a, C, v, u, rfl, _⟩ := h
    rfl
  · obtain ⟨a, C, v, u, rfl, T, hf, hg, ha, k⟩ := h
    refine ⟨_, (pss_cons (ps_ost (pv 0) (pv 1)) (pss_one (ps_ost (pv 0) (pv 2)))), ?_⟩
    refine ⟨_, rfl, _, rfl, a, C, rfl, T, hf, .inl ⟨ha, fun dx h1 h2 => ?_⟩⟩
    refine ⟨_, rfl, _, rfl, a, C, rfl, T, hg, .inr ⟨dx, _, upd_same, by rw [upd_ne h2, upd_same], by show (1 : Nat) ≤ 900; decide, ?_⟩⟩
    have e : upd (upd (upd H dx (exd dx [("what", v)])) a (exo a C (some dx))) dx (exd dx [("most", u), ("what", v)]) = upd (upd H dx (exd dx [("most", u), ("what", v)])) a (exo a C (some dx)) := by
      funext b
      by_cases e1 : b = dx
      · rw [e1, upd_same, upd_ne h2, upd_same]
      · rw [upd_ne e1]
        by_cases e2 : b = a
        · rw [e2, upd_same, upd_same]
        · rw [upd_ne e2, upd_ne e1, upd_ne e2, upd_ne e1]
    rw [e]
    exact k dx h1 h2
end
end K10
end
section
set_option pp.maxSteps 400
set_option pp.deepTerms.threshold 6
/-! Quotas: is_let, lets_sums, in, bounds, ==, len, kinds. -/
namespace K10
open PySem PySem.Spec PyProof.Rows L2
abbrev sIsLet : Stmt := top 24
abbrev sLets : Stmt := top 25
abbrev sQIn : Stmt := mth 18 6
abbrev sQBounds : Stmt := mth 18 3
abbrev sQEq : Stmt := mth 18 10
abbrev sQLen : Stmt := mth 18 7
abbrev sQKinds : Stmt := mth 18 2
/-- caps as tuples of a number and a tuple of texts -/
def CapAt1 (H : Hp) (k : Addr) (c : Int × List Str) : Prop := ∃ kp, H k = some (.tup [.int c.1, .ref kp]) ∧ H kp = some (.tup (c.2.map V.str))
structure CapsAt (H : Hp) (ks : List Addr) (cs : List (Int × List Str)) : Prop where
  len : ks.length = cs.length
  at_ : ∀ (i : Nat) (k : Addr) (c : Int × List Str), ks[i]? = some k → cs[i]? = some c → CapAt1 H k c
theorem CapsAt.get {H : Hp} {ks : List Addr} {cs : List (Int × List Str)} (h : CapsAt H ks cs) {i : Nat} {v : V} (e : (ks.map V.ref)[i]? = some v) : ∃ k c, v = .ref k ∧ ks[i]? = some k ∧ cs[i]? = some c ∧ CapAt1 H k c := by
  rw [List.getElem?_map] at e
  obtain ⟨k, hk, rfl⟩ := Option.map_eq_some_iff.mp e
  have hi : i < cs.length := by
    rw [← h.len]
    exact (List.getElem?_eq_some_iff.mp hk).1
  exact ⟨k, cs[i], rfl, hk, List.getElem?_eq_getElem hi, h.at_ i k _ hk (List.getElem?_eq_getElem hi)⟩
theorem CapAt1.mono {H H' : Hp} {k : Addr} {c : Int × List Str} (h : CapAt1 H k c) (s : ∀ k xs, H k = some (.tup xs) → H' k = some (.tup xs)) : CapAt1 H' k c := by
  obtain ⟨kp, e1, e2⟩ := h
  exact ⟨kp, s _ _ e1, s _ _ e2⟩
theorem CapsAt.mono {H H' : Hp} {ks : List Addr} {cs : List (Int × List Str)} (h : CapsAt H ks cs) (s : ∀ k xs, H k = some (.tup xs) → H' k = some (.tup xs)) : CapsAt H' ks cs := ⟨h.len, fun i k c e1 e2 => (h.at_ i k c e1 e2).mono s⟩
theorem CapsAt.same {H H' : Hp} {ks : List Addr} {cs : List (Int × List Str)} (h : CapsAt H ks cs) (s : Same H H') : CapsAt H' ks cs := h.mono fun _ _ e => s _ _ e
structure QuotaC (K : PySem.W.Frag) (C : Addr) : Prop where
  cls : Cls K C
  n1 : NoAttr K C "_text"
  n2 : NoAttr K C "_caps"
  n3 : NoAttr K C "_joints"
  n4 : NoAttr K C "_kinds"
/-- what a quota of this tree holds; other fields may stand beside -/
def QAt (C : Addr) (H : Hp) (a : Addr) (t : QT) : Prop := ∃ (dx : Addr) (fs : List (Str × V)) (cp jp kp : Addr) (cks : List Addr) (zs : List Str), H a = some (.ins C dx fs) ∧ fs.lookup ("_text" : Str) = some (.str t.text) ∧
  fs.lookup ("_caps" : Str) = some (.ref cp) ∧ H cp = some (.tup (cks.map V.ref)) ∧ CapsAt H cks t.caps ∧ fs.lookup ("_joints" : Str) = some (.ref jp) ∧ H jp = some (.tup (t.joints.map V.str)) ∧
  fs.lookup ("_kinds" : Str) = some (.ref kp) ∧ H kp = some (.tup (zs.map V.str)) ∧ zs.Nodup ∧ sortedS zs = true ∧ (∀ z, z ∈ zs ↔ z ∈ t.kinds) ∧ fs.lookup ("bounds" : Str) = none
theorem QAt.mono {C : Addr} {H H' : Hp} {a : Addr} {t : QT} (h : QAt C H a t) (s : ∀ k xs, H k = some (.tup xs) → H' k = some (.tup xs)) (s2 : ∀ k dx fs, H k = some (.ins C dx fs) → H' k = some (.ins C dx fs)) : QAt C H' a t := by
  obtain ⟨dx, fs, cp, jp, kp, cks, zs, h1, h2, h3, h4, h5, h6, h7, h8, h9, h10⟩ := h
  exact ⟨dx, fs, cp, jp, kp, cks, zs, s2 _ _ _ h1, h2, h3, s _ _ h4, h5.mono s, h6, s _ _ h7, h8, s _ _ h9, h10⟩
theorem QAt.same {C : Addr} {H H' : Hp} {a : Addr} {t : QT} (h : QAt C H a t) (s : Same H H') : QAt C H' a t := h.mono (fun _ _ e => s _ _ e) fun _ _ _ e => s _ _ e
theorem in_texts (z : Str) : ∀ xs : List Str, inV (.str z) (xs.map V.str) = decide (z ∈ xs)
  | [] => rfl
  | x :: r => by
    have ih := in_texts z r
    show (eqV (.str x) (.str z) || inV (.str z) (r.map V.str)) = _
    rw [ih]
    have e : eqV (.str x) (.str z) = decide (x = z) := by
      show (x == z) = _
      by_cases c : x = z
      · subst c
        simp
      · simp [c]
    rw [e]
    by_cases c : x = z
    · subst c
      simp
    · have : z ≠ x := fun q => c q.symm
      simp [c, this]
theorem flat_texts (xs : List Str) : (xs.map V.str).all flatV = true := by
  rw [List.all_map]
  exact List.all_eq_true.mpr fun x _ => rfl
/-! ### promises -/
def spIsLet (K : PySem.W.Frag) : Sp := fun vs H Q _ => ∃ (m j : Addr) (marks : List Bool) (joints : List Str) (b : Bool) (rest : List Bool), vs = [.ref m, .ref j] ∧ SqL K H m (marks.map V.bl) ∧ SqT K H j (joints.map V.str) ∧ joints.length ≤ 1000 ∧ runJ marks joints [] 0 = some (b :: rest) ∧ ∀ H', Same H H' → Q (.bl b) H'
def spLets (K : PySem.W.Frag) (C : Addr) : Sp := fun vs H Q _ => ∃ (q l : Addr) (t : QT) (ns : List Int) (b : Bool) (rest : List Bool), vs = [.ref q, .ref l] ∧ QAt C H q t ∧ SqL K H l (ns.map V.int) ∧ ns.length = t.caps.length ∧ t.caps.length ≤ 100 ∧ t.joints.length ≤ 1000 ∧ runJ ((ns.zip t.caps).map fun p => decide (p.1 ≤ p.2.1)) t.joints [] 0 = some (b :: rest) ∧ ∀ H', Same H H' → Q (.bl b) H'
def spQIn (K : PySem.W.Frag) (C : Addr) : Sp := fun vs H Q _ => ∃ (q x : Addr) (t : QT) (kvs : List (Key × V)) (N : Str → Option Int), vs = [.ref q, .ref x] ∧ QAt C H q t ∧ Rd H x (.dK kvs) ∧ TabOf kvs N ∧ t.caps.length ≤ 100 ∧ t.joints.length ≤ 1000 ∧ (∀ c ∈ t.caps, c.2.length ≤ 1000) ∧ ∀ H', Same H H' → Q (.bl (t.lets N)) H'
def spQBounds (C : Addr) : Sp := fun vs H Q _ => ∃ (q : Addr) (z : Str) (t : QT), vs = [.ref q, .str z] ∧ QAt C H q t ∧ t.caps.length ≤ 100 ∧ t.joints.length ≤ 1000 ∧ ∀ H', Same H H' → Q (.bl (t.bounds z)) H'
section
variable {P : Program} {w : World} {K : PySem.W.Frag} {mg : Str → Option Value} {base : Heap}
abbrev nIL : List Str := ["marks", "joints", "held", "at", "word", "second", "first"]
theorem scIL : FnScope nIL ["marks", "joints"] (defScope sIsLet) := ⟨rfl, rfl, rfl, by decide +kernel, rfl, by decide +kernel, by decide +kernel⟩
theorem ok_islet {f : Addr} {fd : FuncData} (F : Fun K "is_let" "is_let" sIsLet f fd) : FnOk P w K mg base CX0 1 f fd ["marks", "joints"] (spIsLet K) := by
  refine F.ok scIL (fun vs H Q E h => ?_) (fun cdv A outer s H vs Q E hr h => ?_)
  · obtain ⟨m, j, _, _, _, _, rfl, _⟩ := h
    rfl
  · obtain ⟨m, j, marks, joints, b, rest, rfl, sm, sj, lj, run, q⟩ := h
    refine ⟨_, (pss_cons (ps_set (i := 2) scIL.nd rfl (Or.inl rfl) (pe_lst pa_nil))
    (pss_cons (ps_set (i := 3) scIL.nd rfl (Or.inl rfl) pe_int)
    (pss_cons (ps_for PassesOwn.never rfl (pi_tup (pv 1)) (pg_name (i := 4) scIL.nd rfl (Or.inl rfl)) (pss_one (ps_if (pt_cmpR op_eq (pv 4) pe_str (nomark _)) (pss_cons (ps_expr (pe_bm PySem.F.plainAttrs_list PySem.F.slot_list_append PySem.F.type_list_append mt_append (pv 2) (pa_cons (pe_ix ix_list (pv 0) (pv 3) (fun _ _ => rfl)) pa_nil)))
    (pss_one (ps_set (i := 3) scIL.nd rfl (Or.inl rfl) (pe_op op_add (pv 3) pe_int)))) (pss_cons (ps_set (i := 5) scIL.nd rfl (Or.inl rfl) (pe_bm0 PySem.F.plainAttrs_list PySem.F.slot_list_pop PySem.F.type_list_pop mt_pop (pv 2)))
    (pss_cons (ps_set (i := 6) scIL.nd rfl (Or.inl rfl) (pe_bm0 PySem.F.plainAttrs_list PySem.F.slot_list_pop PySem.F.type_list_pop mt_pop (pv 2)))
    (pss_one (ps_expr (pe_bm PySem.F.plainAttrs_list PySem.F.slot_list_append PySem.F.type_list_append mt_append (pv 2) (pa_cons (pe_ifExp (pt_cmpR op_eq (pv 4) pe_str (nomark _)) (pe_and (pv 6) (pe_one (pv 5))) (pe_or (pv 6) (pe_one (pv 5)))) pa_nil)))))))))
    (pss_one (ps_ret (pe_ix ix_list (pv 2) pe_int (fun _ _ => rfl))))))), ?_⟩
    have sz := sizeLine_eq
    refine ⟨Nat.zero_le _, fun D hD => ?_⟩
    refine ⟨_, rfl, j, rfl, ⟨_, SqT.mono sj (Same.of_new hD)⟩, ?_⟩
    refine for_it (walk_tup (xs := joints.map V.str)) (fun i σ Hx => ∃ (held : List Bool) (at_ : Nat) (x4 x5 x6 : Option V), σ = [some (.ref m), some (.ref j), some (.ref D), some (.int (at_ : Nat)), x4, x5, x6] ∧ Same H Hx ∧ Hx D = some (.lst (held.map V.bl)) ∧ held.length ≤ i ∧ runJ marks (joints.drop i) held at_ = some (b :: rest))
      ⟨[], 0, none, none, none, rfl, Same.of_new hD, upd_same, Nat.le_refl 0, run⟩ (fun i σ Hx _ q => by obtain ⟨_, _, _, _, _, _, s1, _⟩ := q; exact SqT.mono sj s1) (fun i x σ Hx Hy hi q0 y => ?_) (fun σ Hx q0 => ?_)
    · obtain ⟨held, at_, x4, x5, x6, rfl, s1, eD, lh, run⟩ := q0
      obtain ⟨rfl, hx⟩ := y
      rw [List.getElem?_map] at hx
      obtain ⟨w, hw, rfl⟩ := Option.map_eq_some_iff.mp hx
      obtain ⟨hi2, ew⟩ := List.getElem?_eq_some_iff.mp hw
      have ed : joints.drop i = w :: joints.drop (i + 1) := by
        rw [← ew]
        exact List.drop_eq_getElem_cons hi2
      rw [ed] at run
      have kept : ∀ (l : List V), Same H (upd Hy D (.lst l)) := fun l y o e => by
        rw [upd_ne (ne_of_none e hD)]
        exact s1 y o e
      refine ⟨_, rfl, rfl, _, rfl, ?_⟩
      refine ite2 (fun c => ?_) (fun c => ?_)
      · have c := V.str.inj (of_decide_eq_true c)
        subst c
        rw [runJ, if_pos rfl] at run
        cases hm : marks[at_]? with
        | none =>
          rw [hm] at run
          cases run
        | some b1 =>
          rw [hm] at run
          refine ⟨_, rfl, .inl ⟨rfl, _, SqL.of eD⟩, _, rfl, _, rfl, m, _, ((at_ : Nat) : Int), .bl b1, rfl, rfl, SqL.mono sm s1, atI_nat (j := at_) (by rw [List.getElem?_map, hm]; rfl), D, _, _, rfl, rfl, eD, by rw [List.length_map]; omega, ?_⟩
          refine ⟨_, rfl, _, _, rfl, rfl, held ++ [b1], at_ + 1, _, _, _, rfl, kept _, by rw [List.map_append]; exact upd_same, by rw [List.length_append]; show held.length + 1 ≤ i + 1; omega, run⟩
      · have nw : w ≠ "cap" := fun e => c (by rw [e]; exact decide_eq_true rfl)
        rw [runJ, if_neg nw] at run
        match hh : held.reverse with
        | [] =>
          rw [hh] at run
          cases run
        | [_] =>
          rw [hh] at run
          cases run
        | y :: x :: r2 =>
          rw [hh] at run
          have eh : held = r2.reverse ++ [x] ++ [y] := by
            have := congrArg List.reverse hh
            rw [List.reverse_reverse] at this
            rw [this]
            simp
          subst eh
          have e1 : (List.map V.bl (r2.reverse ++ [x] ++ [y]))[(List.map V.bl (r2.reverse ++ [x] ++ [y])).length - 1]? = some (.bl y) := by simp
          have d1 : (List.map V.bl (r2.reverse ++ [x] ++ [y])).dropLast = List.map V.bl (r2.reverse ++ [x]) := by
            rw [List.map_append (l₁ := r2.reverse ++ [x])]
            exact List.dropLast_concat
          have e2 : (List.map V.bl (r2.reverse ++ [x]))[(List.map V.bl (r2.reverse ++ [x])).length - 1]? = some (.bl x) := by simp
          have d2 : (List.map V.bl (r2.reverse ++ [x])).dropLast = List.map V.bl r2.reverse := by
            rw [List.map_append]
            exact List.dropLast_concat
          have le : r2.length + 2 ≤ i := by simp at lh; omega
          refine ⟨_, rfl, .inl ⟨rfl, _, SqL.of eD⟩, D, _, .bl y, rfl, rfl, eD, e1, ?_⟩
          rw [d1]
          refine ⟨_, rfl, .inl ⟨rfl, _, SqL.of upd_same⟩, D, _, .bl x, rfl, rfl, upd_same, e2, ?_⟩
          rw [d2]
          have fin : ∀ b2 : Bool, b2 = (if w = "both" then x && y else x || y) → ∃ l xs v, V.ref D = .ref l ∧ [V.bl b2] = [v] ∧ upd (upd Hy D (.lst (List.map V.bl (r2.reverse ++ [x])))) D (.lst (List.map V.bl r2.reverse)) l = some (.lst xs) ∧ xs.length < sizeLine ∧ ∃ (held : List Bool) (at_' : Nat) (x4 x5 x6 : Option V), [some (.ref m), some (.ref j), some (.ref D), some (.int (at_ : Nat)), some (.str w), some (.bl y), some (.bl x)] = [some (.ref m), some (.ref j), some (.ref D), some (.int (at_' : Nat)), x4, x5, x6] ∧ Same H (upd (upd (upd Hy D (.lst (List.map V.bl (r2.reverse ++ [x])))) D (.lst (List.map V.bl r2.reverse))) l (.lst (xs ++ [v]))) ∧ upd (upd (upd Hy D (.lst (List.map V.bl (r2.reverse ++ [x])))) D (.lst (List.map V.bl r2.reverse))) l (.lst (xs ++ [v])) D = some (.lst (held.map V.bl)) ∧ held.length ≤ i + 1 ∧ runJ marks (joints.drop (i + 1)) held at_' = some (b :: rest) := fun b2 e => by
            refine ⟨D, _, _, rfl, rfl, upd_same, by rw [List.length_map, List.length_reverse]; omega, r2.reverse ++ [b2], at_, _, _, _, rfl, fun y o e => ?_, by rw [show List.map V.bl (r2.reverse ++ [b2]) = List.map V.bl r2.reverse ++ [V.bl b2] from List.map_append]; exact upd_same, by rw [List.length_append, List.length_reverse]; show r2.length + 1 ≤ i + 1; omega, by rw [e]; exact run⟩
            have ny := ne_of_none e hD
            rw [upd_ne ny, upd_ne ny, upd_ne ny]
            exact s1 y o e
          refine ⟨_, rfl, .inl ⟨rfl, _, SqL.of upd_same⟩, _, rfl, rfl, _, rfl, ?_⟩
          refine ite2 (fun c2 => ?_) (fun c2 => ?_)
          · have c2 := V.str.inj (of_decide_eq_true c2)
            refine ⟨_, rfl, x, rfl, ?_⟩
            cases x with
            | true => exact iteT ⟨_, rfl, fin y (by rw [if_pos c2]; rfl)⟩
            | false => exact iteF (fin false (by rw [if_pos c2]; rfl))
          · have c2 : w ≠ "both" := fun e => c2 (by rw [e]; exact decide_eq_true rfl)
            refine ⟨_, rfl, x, rfl, ?_⟩
            cases x with
            | true => exact iteT (fin true (by rw [if_neg c2]; rfl))
            | false => exact iteF ⟨_, rfl, fin y (by rw [if_neg c2]; rfl)⟩
    · obtain ⟨held, at_, x4, x5, x6, rfl, s1, eD, lh, run⟩ := q0
      rw [List.length_map, List.drop_length, runJ] at run
      have e := Option.some.inj run
      subst e
      exact ⟨_, rfl, D, _, 0, .bl b, rfl, rfl, SqL.of eD, atI_nat (j := 0) rfl, q _ s1⟩
abbrev nLS : List Str := ["quota", "sums", "number", "most", "kinds"]
theorem scLS : FnScope nLS ["quota", "sums"] (defScope sLets) := ⟨rfl, rfl, rfl, by decide +kernel, rfl, by decide +kernel, by decide +kernel⟩
theorem ok_lets {C f fL : Addr} {fd fdL : FuncData} (hc : QuotaC K C) (F : Fun K "lets_sums" "lets_sums" sLets f fd) (FL : Fun K "is_let" "is_let" sIsLet fL fdL) (gL : mg "is_let" = some (.ref fL)) (n_zip : mg "zip" = none) : FnOk P w K mg base CX0 2 f fd ["quota", "sums"] (spLets K C) := by
  have GL : FnOk P w K mg base CX0 1 fL fdL ["marks", "joints"] (spIsLet K) := ok_islet FL
  have bL : Binds K fdL ["marks", "joints"] [] := FL.binds fun _ _ _ _ _ _ us hl => match us, hl with | [_, _], _ => rfl
  refine F.ok scLS (fun vs H Q E h => ?_) (fun cdv A outer s H vs Q E hr h => ?_)
  · obtain ⟨q, l, _, _, _, _, rfl, _⟩ := h
    rfl
  · obtain ⟨q, l, t, ns, b, rest, rfl, hq, sl, ln, lc, lj, run, k⟩ := h
    obtain ⟨dx, fs, cp, jp, kp, cks, zs, h1, h2, h3, h4, h5, h6, h7, h8, h9, h10⟩ := hq
    refine ⟨_, (pss_one (ps_ret (pe_call GL hr (by rfl) gL FL.kp bL .nil pass0 (pa_cons (pe_lc (own := [("number", 2), ("most", 3), ("kinds", 4)]) (g := (gTup K 2 (gCons (gName 2) (gCons (gTup K 2 (gCons (gName 3) (gCons (gName 4) gNil))) gNil)))) (by rfl) scLS.nd (OwZ.pi_zipM (by rfl) n_zip (pa_cons (pv 1) (pa_cons (pe_fld (pv 0) rfl) pa_nil))) (blkOk_by (own := [("number", 2), ("most", 3), ("kinds", 4)]) (N := nLS) (sc := defScope sLets) (by decide +kernel)) (fun _ _ _ _ _ => (pg_tup rfl (pgs_cons (pg_name (i := 2) scLS.nd rfl (Or.inl rfl)) (pgs_cons (pg_tup rfl (pgs_cons (pg_name (i := 3) scLS.nd rfl (Or.inl rfl)) (pgs_cons (pg_name (i := 4) scLS.nd rfl (Or.inl rfl)) pgs_nil))) pgs_nil)))) (fun _ _ _ _ _ => pts_nil) (fun _ _ _ _ _ => (pe_cmpR op_le (pv 2) (pv 3) (nomark _)))) (pa_cons (pe_fld (pv 0) rfl) pa_nil))))), ?_⟩
    have sz := sizeLine_eq
    refine ⟨_, rfl, _, rfl, q, C, dx, fs, .ref cp, rfl, h1, hc.cls, hc.n2, h3, l, cp, ns.map V.int, cks.map V.ref, rfl, sl, SqT.of h4, fun D hD => ?_⟩
    have lk := h5.len
    refine lc_it (OwZ.walkM (K := K) (a := l) (b := cp) (xs := ns.map V.int) (ys := cks.map V.ref) (n := t.caps.length) (by rw [List.length_map, List.length_map, lk, ln, Nat.min_self])) (fun i Hx => Same H Hx ∧ Hx D = some (.lst ((((ns.zip t.caps).take i).map fun p => decide (p.1 ≤ p.2.1)).map V.bl))) ⟨Same.of_new hD, upd_same⟩ (fun i Hx _ q => ⟨SqL.mono sl q.1, SqT.of (q.1 _ _ h4)⟩) (fun i x Hx Hy hi q0 y => ?_) (fun Hx q0 => ?_)
    · obtain ⟨s1, eD⟩ := q0
      obtain ⟨T, x1, y1, rfl, hT, rfl, hx, hy⟩ := y
      have hx : (ns.map V.int)[i]? = some x1 := hx
      have hy : (cks.map V.ref)[i]? = some y1 := hy
      rw [List.getElem?_map] at hx
      obtain ⟨n1, hn, rfl⟩ := Option.map_eq_some_iff.mp hx
      obtain ⟨k1, c1, rfl, hk, hci, kp1, t1, t2⟩ := (h5.same s1).get hy
      have sT := Same.of_new (o := .tup [.int n1, .ref k1]) hT
      have ez : (ns.zip t.caps)[i]? = some (n1, c1) := by
        rw [List.getElem?_zip_eq_some]
        exact ⟨hn, hci⟩
      refine ⟨T, _, rfl, .inl (.inl upd_same), rfl, _, _, rfl, _, _, rfl, ⟨k1, _, rfl, .inl (.inl (sT _ _ t1)), rfl, _, _, rfl, _, _, rfl, ?_⟩⟩
      refine ⟨rfl, rfl, rfl, ?_⟩
      refine ⟨_, rfl, _, rfl, _, _, rfl, rfl, ?_⟩
      have eD2 := upd_keep2 (o := .tup [.int n1, .ref k1]) eD hT
      refine ⟨_, eD2, ?_, fun y o e => ?_, ?_⟩
      · rw [List.length_map, List.length_map, List.length_take]
        omega
      · rw [upd_ne (ne_of_none e hD)]
        exact upd_keep2 (s1 y o e) hT
      · rw [List.take_add_one, ez, List.map_append, List.map_append]
        exact upd_same
    · obtain ⟨s1, eD⟩ := q0
      have el : (ns.zip t.caps).length = t.caps.length := by rw [List.length_zip, ln, Nat.min_self]
      rw [← el, List.take_length] at eD
      refine ⟨_, rfl, q, C, dx, fs, .ref jp, rfl, s1 _ _ h1, hc.cls, hc.n3, h6, D, jp, _, t.joints, b, rest, rfl, SqL.of eD, SqT.of (s1 _ _ h7), lj, run, fun H' s2 => k H' (s1.trans s2)⟩
abbrev nQI : List Str := ["self", "x", "kind", "most", "kinds"]
theorem scQI : FnScope nQI ["self", "x"] (defScope sQIn) := ⟨rfl, rfl, rfl, by decide +kernel, rfl, by decide +kernel, by decide +kernel⟩
theorem sums_lets (N : Str → Option Int) (cs : List (Int × List Str)) : ((cs.map fun c => sumOf N c.2).zip cs).map (fun p => decide (p.1 ≤ p.2.1)) = cs.map fun c => decide (sumOf N c.2 ≤ c.1) := by
  induction cs with
  | nil => rfl
  | cons c r ih =>
    rw [List.map_cons, List.zip_cons_cons, List.map_cons, List.map_cons, ih]
theorem sum_snoc (a : List Int) (b : Int) : (a ++ [b]).sum = a.sum + b := by simp
/-- the counts of the kinds that a table tells -/
def toldOf (N : Str → Option Int) (ks : List Str) : List Int := ks.filterMap N
theorem told_sum (N : Str → Option Int) : ∀ ks : List Str, (toldOf N ks).sum = sumOf N ks
  | [] => rfl
  | z :: r => by
    have ih := told_sum N r
    unfold toldOf sumOf at *
    rw [List.filterMap_cons, List.map_cons, List.sum_cons]
    cases e : N z with
    | none =>
      simp only [Option.getD_none, Int.zero_add]
      exact ih
    | some v =>
      simp only [Option.getD_some, List.sum_cons]
      rw [ih]
theorem ok_qin {C f fS fL : Addr} {fd fdS fdL : FuncData} (hc : QuotaC K C) (F : Fun K "__contains__" "Quota.__contains__" sQIn f fd) (FS : Fun K "lets_sums" "lets_sums" sLets fS fdS) (gS : mg "lets_sums" = some (.ref fS)) (FL : Fun K "is_let" "is_let" sIsLet fL fdL) (gL : mg "is_let" = some (.ref fL)) (n_zip : mg "zip" = none) (n_sum : mg "sum" = none) : FnR P w K mg base CX0 3 f (spQIn K C) := by
  have GS : FnOk P w K mg base CX0 2 fS fdS ["quota", "sums"] (spLets K C) := ok_lets hc FS FL gL n_zip
  have bS : Binds K fdS ["quota", "sums"] [] := FS.binds fun _ _ _ _ _ _ us hl => match us, hl with | [_, _], _ => rfl
  refine OwR.raw0 (F.ok (k := 2) (ps := ["self", "x"]) scQI (fun vs H Q E h => ?_) (fun cdv A outer s H vs Q E hr h => ?_)) (F.binds fun _ _ _ _ _ _ us hl => match us, hl with | [_, _], _ => rfl)
  · obtain ⟨q, x, _, _, _, rfl, _⟩ := h
    rfl
  · obtain ⟨q, x, t, kvs, N, rfl, hq, hx, tb, lc, lj, lks, k⟩ := h
    obtain ⟨dx, fs, cp, jp, kp, cks, zs, h1, h2, h3, h4, h5, h6, h7, h8, h9, h10⟩ := id hq
    have hu : (A.deeper (envOfC "Quota.__contains__" (defScope sQIn) s.heap.objs.size f cdv)).units + 1 < cLine := by have := hr.units; omega
    refine ⟨_, (pss_one (ps_ret (pe_call GS hr (by rfl) gS FS.kp bS .nil pass0 (pa_cons (pv 0) (pa_cons (pe_lc (own := [("most", 3), ("kinds", 4)]) (g := (gTup K 2 (gCons (gName 3) (gCons (gName 4) gNil)))) (by rfl) scQI.nd (pi_tup (pe_fld (pv 0) rfl)) (blkOk_by (own := [("most", 3), ("kinds", 4)]) (N := nQI) (sc := defScope sQIn) (by decide +kernel)) (fun _ _ _ _ _ => (pg_tup rfl (pgs_cons (pg_name (i := 3) scQI.nd rfl (Or.inl rfl)) (pgs_cons (pg_name (i := 4) scQI.nd rfl (Or.inl rfl)) pgs_nil)))) (fun _ _ _ _ _ => pts_nil) (fun _ _ _ _ _ => (pe_callB (id := "sum") (r := rSum K) (cr_sum rfl) (by rfl) n_sum (by decide +kernel) (pa_cons (pe_lc (own := [("kind", 2)]) (wi := iTup K (tVar 4)) (by rfl) scQI.nd (pi_tup (pv 4)) (blkOk_by (own := [("kind", 2)]) (N := nQI) (by rfl)) (fun _ _ _ _ _ => (pg_name (i := 2) scQI.nd rfl (Or.inl rfl))) (fun _ _ _ _ _ => pts_one (pt_cmp (pc_din hu (pv 2) (pv 1)))) (fun _ _ _ _ _ => (pe_dget hu (pv 1) (pv 2) (fun _ _ => rfl)))) pa_nil)))) pa_nil))))), ?_⟩
    have sz := sizeLine_eq
    have lk := h5.len
    refine ⟨_, rfl, _, rfl, q, C, dx, fs, .ref cp, rfl, h1, hc.cls, hc.n2, h3, cp, rfl, ⟨_, SqT.of h4⟩, fun D hD => ?_⟩
    refine lc_it (walk_tup (xs := cks.map V.ref)) (fun i Hx => Same H Hx ∧ Hx D = some (.lst (((t.caps.take i).map fun c => sumOf N c.2).map V.int))) ⟨Same.of_new hD, upd_same⟩ (fun i Hx _ q => SqT.of (q.1 _ _ h4)) (fun i x1 Hx Hy hi q0 y => ?_) (fun Hx q0 => ?_)
    · obtain ⟨s1, eD⟩ := q0
      obtain ⟨rfl, hx1⟩ := y
      obtain ⟨k1, c1, rfl, hk, hci, kp1, t1, t2⟩ := (h5.same s1).get hx1
      have mc := List.mem_of_getElem? hci
      have lz := lks c1 mc
      refine ⟨k1, _, rfl, .inl (.inl t1), rfl, _, _, rfl, _, _, rfl, rfl, rfl, ?_⟩
      refine ⟨_, rfl, kp1, rfl, ⟨_, SqT.of t2⟩, fun D2 hD2 => ?_⟩
      refine lc_it (walk_tup (xs := c1.2.map V.str)) (fun j Hz => Same Hy Hz ∧ Hz D2 = some (.lst ((toldOf N (c1.2.take j)).map V.int)) ∧ (toldOf N (c1.2.take j)).length ≤ j) ⟨Same.of_new hD2, upd_same, Nat.le_refl 0⟩ (fun j Hz _ q => SqT.of (q.1 _ _ t2)) (fun j x2 Hz Hw hj q1 y => ?_) (fun Hz q1 => ?_)
      · obtain ⟨s2, eD2, l2⟩ := q1
        obtain ⟨rfl, hx2⟩ := y
        rw [List.getElem?_map] at hx2
        obtain ⟨z, hz, rfl⟩ := Option.map_eq_some_iff.mp hx2
        rw [List.length_map] at hj
        have g := tb.get (Same.rd (s1.trans s2) hx) z
        have et : toldOf N (c1.2.take (j + 1)) = toldOf N (c1.2.take j) ++ (N z).toList := by
          unfold toldOf
          rw [List.take_add_one, hz, List.filterMap_append]
          cases hN : N z <;> simp [hN]
        refine ⟨rfl, ?_⟩
        refine ⟨_, rfl, _, rfl, x, _, rfl, g, _, rfl, ?_⟩
        cases hN : N z with
        | none =>
          rw [hN] at et
          refine iteF ⟨s2, ?_, ?_⟩
          · rw [et]
            simp only [Option.toList_none, List.append_nil]
            exact eD2
          · rw [et]
            simp only [Option.toList_none, List.append_nil]
            omega
        | some v =>
          rw [hN] at et g
          refine iteT ⟨_, rfl, _, rfl, x, .int v, rfl, g, ?_⟩
          refine ⟨_, eD2, by rw [List.length_map]; omega, fun y o e => ?_, ?_, ?_⟩
          · rw [upd_ne (ne_of_none e hD2)]
            exact s2 y o e
          · rw [et, List.map_append]
            exact upd_same
          · rw [et, List.length_append]
            show _ + 1 ≤ j + 1
            omega
      · obtain ⟨s2, eD2, l2⟩ := q1
        rw [List.length_map, List.take_length] at eD2
        refine ⟨D2, toldOf N c1.2, rfl, SqL.of eD2, ?_⟩
        rw [told_sum]
        have eD3 := s2 _ _ eD
        refine ⟨_, eD3, ?_, fun y o e => ?_, ?_⟩
        · rw [List.length_map, List.length_map, List.length_take]
          omega
        · rw [upd_ne (ne_of_none e hD)]
          exact s2 y o (s1 y o e)
        · rw [List.take_add_one, hci, List.map_append, List.map_append]
          exact upd_same
    · obtain ⟨s1, eD⟩ := q0
      rw [List.length_map, lk, List.take_length] at eD
      refine ⟨q, D, t, t.caps.map (fun c => sumOf N c.2), t.lets N, [], rfl, hq.same s1, SqL.of eD, by rw [List.length_map], lc, lj, ?_, fun H' s2 => k H' (s1.trans s2)⟩
      rw [sums_lets]
      exact run_all (fun c => decide (sumOf N c.2 ≤ c.1)) t
abbrev nQB : List Str := ["self", "kind", "most", "kinds"]
theorem scQB : FnScope nQB ["self", "kind"] (defScope sQBounds) := ⟨rfl, rfl, rfl, by decide +kernel, rfl, by decide +kernel, by decide +kernel⟩
theorem ok_qbounds {C f fL : Addr} {fd fdL : FuncData} (hc : QuotaC K C) (F : Fun K "bounds" "Quota.bounds" sQBounds f fd) (FL : Fun K "is_let" "is_let" sIsLet fL fdL) (gL : mg "is_let" = some (.ref fL)) : FnOk P w K mg base CX0 2 f fd ["self", "kind"] (spQBounds C) := by
  have GL : FnOk P w K mg base CX0 1 fL fdL ["marks", "joints"] (spIsLet K) := ok_islet FL
  have bL : Binds K fdL ["marks", "joints"] [] := FL.binds fun _ _ _ _ _ _ us hl => match us, hl with | [_, _], _ => rfl
  refine F.ok scQB (fun vs H Q E h => ?_) (fun cdv A outer s H vs Q E hr h => ?_)
  · obtain ⟨q, z, _, rfl, _⟩ := h
    rfl
  · obtain ⟨q, z, t, rfl, hq, lc, lj, k⟩ := h
    obtain ⟨dx, fs, cp, jp, kp, cks, zs, h1, h2, h3, h4, h5, h6, h7, h8, h9, h10⟩ := id hq
    refine ⟨_, (pss_one (ps_ret (pe_not (pe_call GL hr (by rfl) gL FL.kp bL .nil pass0 (pa_cons (pe_lc (own := [("most", 2), ("kinds", 3)]) (g := (gTup K 2 (gCons (gName 2) (gCons (gName 3) gNil)))) (by rfl) scQB.nd (pi_tup (pe_fld (pv 0) rfl)) (blkOk_by (own := [("most", 2), ("kinds", 3)]) (N := nQB) (sc := defScope sQBounds) (by decide +kernel)) (fun _ _ _ _ _ => (pg_tup rfl (pgs_cons (pg_name (i := 2) scQB.nd rfl (Or.inl rfl)) (pgs_cons (pg_name (i := 3) scQB.nd rfl (Or.inl rfl)) pgs_nil)))) (fun _ _ _ _ _ => pts_nil) (fun _ _ _ _ _ => (pe_cmpR (r := rIn K true) op_notIn_seq (pv 1) (pv 3) (by rfl)))) (pa_cons (pe_fld (pv 0) rfl) pa_nil)))))), ?_⟩
    have sz := sizeLine_eq
    have lk := h5.len
    refine ⟨_, rfl, q, C, dx, fs, .ref cp, rfl, h1, hc.cls, hc.n2, h3, cp, rfl, ⟨_, SqT.of h4⟩, fun D hD => ?_⟩
    refine lc_it (walk_tup (xs := cks.map V.ref)) (fun i Hx => Same H Hx ∧ Hx D = some (.lst (((t.caps.take i).map fun c => !decide (z ∈ c.2)).map V.bl))) ⟨Same.of_new hD, upd_same⟩ (fun i Hx _ q => SqT.of (q.1 _ _ h4)) (fun i x1 Hx Hy hi q0 y => ?_) (fun Hx q0 => ?_)
    · obtain ⟨s1, eD⟩ := q0
      obtain ⟨rfl, hx1⟩ := y
      obtain ⟨k1, c1, rfl, hk, hci, kp1, t1, t2⟩ := (h5.same s1).get hx1
      refine ⟨k1, _, rfl, .inl (.inl t1), rfl, _, _, rfl, _, _, rfl, rfl, rfl, ?_⟩
      refine ⟨_, rfl, _, rfl, kp1, _, rfl, .inr (SqT.of t2), rfl, flat_texts _, ?_⟩
      rw [if_pos rfl, in_texts]
      refine ⟨_, eD, ?_, fun y o e => ?_, ?_⟩
      · rw [List.length_map, List.length_map, List.length_take]
        omega
      · rw [upd_ne (ne_of_none e hD)]
        exact s1 y o e
      · rw [List.take_add_one, hci, List.map_append, List.map_append]
        exact upd_same
    · obtain ⟨s1, eD⟩ := q0
      rw [List.length_map, lk, List.take_length] at eD
      refine ⟨_, rfl, q, C, dx, fs, .ref jp, rfl, s1 _ _ h1, hc.cls, hc.n3, h6, D, jp, _, t.joints, _, [], rfl, SqL.of eD, SqT.of (s1 _ _ h7), lj, run_all (fun c => !decide (z ∈ c.2)) t, fun H' s2 => ⟨_, rfl, k H' (s1.trans s2)⟩⟩
/-- a class of quotas -/
structure QKind (K : PySem.W.Frag) (CQ C : Addr) : Prop where
  qc : QuotaC K C
  cl : PySem.W.findIn K (.ref C) "__class__" = some (some (.builtin "object.__class__"))
  cg : PySem.W.specialIn K (.builtin "object.__class__") "__get__" = some (some (.builtin "getset_descriptor.__get__"))
  ct : PySem.W.takesIn K (.builtin "object.__class__") = some true
  ob : PySem.W.mroIn K C (.type "object") = some true
  sub : PySem.W.kitOne K (.ref C) (.ref CQ) = some true
theorem QKind.ty {K : PySem.W.Frag} {CQ C : Addr} (k : QKind K CQ C) {H : Hp} {a dx : Addr} {fs : List (Str × V)} (e : H a = some (.ins C dx fs)) : TyX K H (.ref a) (.ref C) := .base (.ins e k.qc.cls k.cl k.cg k.ct k.ob)
def AnyQ (K : PySem.W.Frag) (CQ : Addr) (H : Hp) (a : Addr) (t : QT) : Prop := ∃ C, QKind K CQ C ∧ QAt C H a t
def spQEq (K : PySem.W.Frag) (CQ : Addr) : Sp := fun vs H Q _ => ∃ (a b : Addr) (t u : QT), vs = [.ref a, .ref b] ∧ AnyQ K CQ H a t ∧ AnyQ K CQ H b u ∧ Q (.bl (decide (t.text = u.text))) H
def spQEqO (K : PySem.W.Frag) (CQ : Addr) : Sp := fun vs H Q _ => ∃ (a : Addr) (y : V) (t : Value), vs = [.ref a, y] ∧ TyX K H y t ∧ PySem.W.kitOne K t (.ref CQ) = some false ∧ Q (.bl false) H
theorem scQE : FnScope ["self", "other"] ["self", "other"] (defScope sQEq) := ⟨rfl, rfl, rfl, by decide +kernel, rfl, by decide +kernel, by decide +kernel⟩
theorem ok_qeq {CQ f : Addr} {fd : FuncData} (F : Fun K "__eq__" "Quota.__eq__" sQEq f fd) (T : Nm2 mg) (gQ : mg "Quota" = some (.ref CQ)) : FnR P w K mg base CX0 1 f (spQEq K CQ) := by
  refine OwR.raw0 (F.ok (k := 0) (ps := ["self", "other"]) scQE (fun vs H Q E h => ?_) (fun cdv A outer s H vs Q E hr h => ?_)) (F.binds fun _ _ _ _ _ _ us hl => match us, hl with | [_, _], _ => rfl)
  · obtain ⟨a, b, t, u, rfl, _⟩ := h
    rfl
  · obtain ⟨a, b, t, u, rfl, ⟨C, k1, dx, fs, _, _, _, _, _, ea, lk, _⟩, ⟨D, k2, dy, gs, _, _, _, _, _, eb, lk2, _⟩, q⟩ := h
    refine ⟨_, (pss_one (ps_ret (pe_and (pe_callB call_isi (by rfl) T.n_isinstance (by decide +kernel) (pa_cons (pv 1) (pa_cons (pe_glob (v := .ref CQ) rfl gQ rfl) pa_nil))) (pe_one (pe_cmpR op_eq (pe_fld (pv 0) rfl) (pe_fld (pv 1) rfl) (nomark _)))))), ?_⟩
    refine ⟨_, rfl, .ref b, .ref CQ, _, _, true, rfl, .own _, k2.ty eb, k2.sub, true, rfl, ?_⟩
    refine iteT ?_
    refine ⟨_, rfl, a, C, dx, fs, _, rfl, ea, k1.qc.cls, k1.qc.n1, lk, _, rfl, b, D, dy, gs, _, rfl, eb, k2.qc.cls, k2.qc.n1, lk2, rfl, ?_⟩
    rw [show (decide (V.str t.text = V.str u.text)) = decide (t.text = u.text) from decide_eq_decide.mpr ⟨fun h => V.str.inj h, fun h => h ▸ rfl⟩]
    exact q
theorem ok_qeqO {CQ f : Addr} {fd : FuncData} (F : Fun K "__eq__" "Quota.__eq__" sQEq f fd) (T : Nm2 mg) (gQ : mg "Quota" = some (.ref CQ)) : FnR P w K mg base CX0 1 f (spQEqO K CQ) := by
  refine OwR.raw0 (F.ok (k := 0) (ps := ["self", "other"]) scQE (fun vs H Q E h => ?_) (fun cdv A outer s H vs Q E hr h => ?_)) (F.binds fun _ _ _ _ _ _ us hl => match us, hl with | [_, _], _ => rfl)
  · obtain ⟨a, y, t, rfl, _⟩ := h
    rfl
  · obtain ⟨a, y, t, rfl, ty, kt, q⟩ := h
    refine ⟨_, (pss_one (ps_ret (pe_and (pe_callB call_isi (by rfl) T.n_isinstance (by decide +kernel) (pa_cons (pv 1) (pa_cons (pe_glob (v := .ref CQ) rfl gQ rfl) pa_nil))) (pe_one (pe_cmpR op_eq (pe_fld (pv 0) rfl) (pe_fld (pv 1) rfl) (nomark _)))))), ?_⟩
    refine ⟨_, rfl, y, .ref CQ, t, _, false, rfl, .own _, ty, kt, false, rfl, ?_⟩
    exact iteF q
theorem scQL : FnScope ["self"] ["self"] (defScope sQLen) := ⟨rfl, rfl, rfl, by decide +kernel, rfl, by decide +kernel, by decide +kernel⟩
theorem ok_qlen {C f : Addr} {fd : FuncData} (hc : QuotaC K C) (F : Fun K "__len__" "Quota.__len__" sQLen f fd) (T : Nm2 mg) : FnR P w K mg base CX0 1 f (OwR.spLn C K "_caps") := by
  refine OwR.raw0 (F.ok (k := 0) (ps := ["self"]) scQL (fun vs H Q E h => ?_) (fun cdv A outer s H vs Q E hr h => ?_)) (F.binds fun _ _ _ _ _ _ us hl => match us, hl with | [_], _ => rfl)
  · obtain ⟨a, dx, l, fs, zs, rfl, _⟩ := h
    rfl
  · obtain ⟨a, dx, l, fs, zs, rfl, ha, hf, sq, q⟩ := h
    refine ⟨_, (pss_one (ps_ret (pe_callB call_len_seq (by rfl) T.n_len boot_len (pa_cons (pe_fld (pv 0) rfl) pa_nil)))), ?_⟩
    exact ⟨_, rfl, a, C, dx, fs, .ref l, rfl, ha, hc.cls, hc.n2, hf, l, zs, rfl, .inr sq, q⟩
theorem scQK : FnScope ["self"] ["self"] (defScope sQKinds) := ⟨rfl, rfl, rfl, by decide +kernel, rfl, by decide +kernel, by decide +kernel⟩
theorem ok_qkinds {C f : Addr} {fd : FuncData} (hc : QuotaC K C) (F : Fun K "kinds" "Quota.kinds" sQKinds f fd) : FnOk P w K mg base CX0 1 f fd ["self"] (getSp C "_kinds") := by
  refine F.ok scQK (fun vs H Q E h => ?_) (fun cdv A outer s H vs Q E hr h => ?_)
  · obtain ⟨a, dx, fs, v, rfl, _⟩ := h
    rfl
  · obtain ⟨a, dx, fs, v, rfl, ha, hl, q⟩ := h
    refine ⟨_, (pss_one (ps_ret (pe_fld (pv 0) rfl))), ?_⟩
    exact ⟨_, rfl, a, C, dx, fs, v, rfl, ha, hc.cls, hc.n4, hl, q⟩
end
end K10
end
section
set_option pp.maxSteps 400
set_option pp.deepTerms.threshold 6
/-! Quota.__init__, check_names, Cap.__init__ with what it refuses. -/
namespace OwR
open PySem PySem.Spec PyProof.Rows L2
/-- a walk, whatever is done at a turn -/
theorem any_itQ {J : It} {n : Nat} {G : Hp → Prop} {Y : Nat → Hp → V → Hp → Prop} (w : Walk J n G Y) {B : (Hp → Prop) → V → Hp → Prop} {H0 : Hp} {Qd : Hp → Prop} (Pv : Nat → Hp → Prop) (h0 : Pv 0 H0) (hG : ∀ i H, i ≤ n → Pv i H → G H)
    (turn : ∀ i x H H', i < n → Pv i H → Y i H x H' → B (Pv (i + 1)) x H') (fin : ∀ H, Pv n H → Qd H) :
    ∃ W : Nat → Nat → Hp → Prop, (∃ m, W 0 m H0) ∧ ∀ i m H, W i m H → (J.stop i H ∧ Qd H) ∨ (J.go i H ∧ ∃ Nx : Hp → Prop, (∀ H', Nx H' → ∃ m', m' < m ∧ W (i + 1) m' H') ∧ ∀ x H', J.yld i H x H' → B Nx x H') := by
  refine ⟨fun i m H => m = n - i ∧ i ≤ n ∧ Pv i H, ⟨n, by simp, Nat.zero_le _, h0⟩, fun i m H ⟨em, hi, p⟩ => ?_⟩
  subst em
  have q := hG i H hi p
  rcases Nat.lt_or_ge i n with lt | ge
  · exact .inr ⟨w.goes i H lt q, Pv (i + 1), fun H' p' => ⟨n - (i + 1), by omega, rfl, lt, p'⟩, fun x H' y => turn i x H H' lt p (w.yields i H x H' lt q y)⟩
  · obtain rfl : i = n := by omega
    exact .inl ⟨w.stops H q, fin H p⟩
end OwR
namespace K10
open PySem PySem.Spec PyProof.Rows L2
abbrev sQuota0 : Stmt := mth 18 0
abbrev sChkN : Stmt := top 23
abbrev sCap0 : Stmt := mth 19 0
/-- all fields but a quota's own are as they were -/
def KeepsQ (C : Addr) (H' : Hp) (a : Addr) (fs0 : List (Str × V)) : Prop := ∃ dx fs, H' a = some (.ins C dx fs) ∧ ∀ f : Str, f ≠ "_text" → f ≠ "_caps" → f ≠ "_joints" → f ≠ "_kinds" → fs.lookup f = fs0.lookup f
def spQuota0 (C : Addr) : Sp := fun vs H Q _ => ∃ (a cp jp dx : Addr) (fs0 : List (Str × V)) (cks : List Addr) (t : QT), vs = [.ref a, .str t.text, .ref cp, .ref jp] ∧ H a = some (.ins C dx fs0) ∧ fs0.length ≤ 20 ∧ fs0.lookup ("bounds" : Str) = none ∧
  H cp = some (.tup (cks.map V.ref)) ∧ CapsAt H cks t.caps ∧ H jp = some (.tup (t.joints.map V.str)) ∧ t.kinds.length < 64 ∧ ∀ H', But a H H' → QAt C H' a t → KeepsQ C H' a fs0 → Q .non H'
/-- the first of some values that is no name, or a name that has stood before -/
def NameBad (K : PySem.W.Frag) (H : Hp) (xs : List V) (bs : List Str) (x : V) (rest : List V) : Prop := xs = bs.map V.str ++ x :: rest ∧ bs.Nodup ∧ (∀ b ∈ bs, nameB b = true ∧ b.length ≤ 1000) ∧ bs.length ≤ 20 ∧ ((∀ H', Same H H' → NoName K H' x) ∨ ∃ b, x = .str b ∧ b ∈ bs)
theorem NameBad.new {K : PySem.W.Frag} {H H' : Hp} {xs rest : List V} {bs : List Str} {x : V} (h : NameBad K H xs bs x rest) (s : Same H H') : NameBad K H' xs bs x rest := by
  obtain ⟨e, nd, g, l, nn⟩ := h
  exact ⟨e, nd, g, l, nn.imp (fun n H2 s2 => n H2 (s.trans s2)) id⟩
def spChkN (K : PySem.W.Frag) (CN : Addr) : Sp := fun vs H Q E => ∃ (t : Addr) (xs : List V), vs = [.ref t] ∧ SqT K H t xs ∧
  ((∃ bs : List Str, xs = bs.map V.str ∧ bs.Nodup ∧ (∀ b ∈ bs, nameB b = true ∧ b.length ≤ 1000) ∧ bs.length ≤ 20 ∧ ∀ H', Same H H' → Q .non H') ∨
   ∃ bs x rest, NameBad K H xs bs x rest ∧ ∀ H' d, Same H H' → H' d = none → E (.ref CN) (some d) (upd H' d (.xd [("value", x)])))
/-- a cap of m over these kinds, ascending -/
def CapAt (C : Addr) (H : Hp) (a : Addr) (m : Int) (zs : List Str) : Prop := QAt C H a (.cap m zs) ∧ ∃ dx fs, H a = some (.ins C dx fs) ∧ fs.lookup ("most" : Str) = some (.int m)
theorem CapAt.same {C : Addr} {H H' : Hp} {a : Addr} {m : Int} {zs : List Str} (h : CapAt C H a m zs) (s : Same H H') : CapAt C H' a m zs := by
  obtain ⟨q, dx, fs, e, l⟩ := h
  exact ⟨q.same s, dx, fs, s _ _ e, l⟩
/-- the arguments of Cap -/
def CapRow (K : PySem.W.Frag) (C CN CM : Addr) (H : Hp) (a : Addr) (y : V) (xs : List V) (Q : VK) (E : XK) : Prop := xs.length ≤ 1000 ∧
  ((∃ (m : Int) (bs : List Str), y = .int m ∧ 0 ≤ m ∧ m ≤ 12 ∧ xs = bs.map V.str ∧ bs.Nodup ∧ (∀ b ∈ bs, nameB b = true ∧ b.length ≤ 1000) ∧ bs.length ≤ 12 ∧ ∀ H' zs, But a H H' → zs.Perm bs → sortedS zs = true → CapAt C H' a m zs → Q .non H') ∨
   ((∀ H', Same H H' → NotIn K H' 0 12 y) ∧ ∀ H' d, But a H H' → H' d = none → E (.ref CM) (some d) (upd H' d (.xd [("value", y)]))) ∨
   ∃ (m : Int) (bs : List Str) (x : V) (rest : List V), y = .int m ∧ 0 ≤ m ∧ m ≤ 12 ∧ NameBad K H xs bs x rest ∧ ∀ H' d, But a H H' → H' d = none → E (.ref CN) (some d) (upd H' d (.xd [("value", x)])))
theorem CapRow.new {K : PySem.W.Frag} {C CN CM : Addr} {H H' : Hp} {a : Addr} {y : V} {xs : List V} {Q : VK} {E : XK} (h : CapRow K C CN CM H a y xs Q E) (s : Same H H') : CapRow K C CN CM H' a y xs Q E := by
  obtain ⟨l, ⟨m, bs, ey, m0, m1, ex, nd, g, lb, q⟩ | ⟨ni, q⟩ | ⟨m, bs, x, rest, ey, m0, m1, nb, q⟩⟩ := h
  · exact ⟨l, .inl ⟨m, bs, ey, m0, m1, ex, nd, g, lb, fun H2 zs b => q H2 zs ((Same.but a s).trans b)⟩⟩
  · exact ⟨l, .inr (.inl ⟨fun H2 s2 => ni H2 (s.trans s2), fun H2 d b => q H2 d ((Same.but a s).trans b)⟩)⟩
  · exact ⟨l, .inr (.inr ⟨m, bs, x, rest, ey, m0, m1, nb.new s, fun H2 d b => q H2 d ((Same.but a s).trans b)⟩)⟩
def spCap0 (K : PySem.W.Frag) (C CN CM : Addr) : Sp := fun vs H Q E => ∃ (a t dx : Addr) (y : V) (xs : List V), vs = [.ref a, y, .ref t] ∧ H a = some (.ins C dx []) ∧ H t = some (.tup xs) ∧ CapRow K C CN CM H a y xs Q E
def spCap (K : PySem.W.Frag) (C CN CM : Addr) : Sp := fun vs H Q E => ∃ (a dx : Addr) (y : V) (xs : List V), vs = .ref a :: y :: xs ∧ H a = some (.ins C dx []) ∧ CapRow K C CN CM H a y xs Q E
/-- a new cap -/
def MadeCap (K : PySem.W.Frag) (C CN CM : Addr) (H : Hp) (y : V) (xs : List V) (Q : VK) (E : XK) : Prop := xs.length ≤ 1000 ∧
  ((∃ (m : Int) (bs : List Str), y = .int m ∧ 0 ≤ m ∧ m ≤ 12 ∧ xs = bs.map V.str ∧ bs.Nodup ∧ (∀ b ∈ bs, nameB b = true ∧ b.length ≤ 1000) ∧ bs.length ≤ 12 ∧ ∀ a H' zs, H a = none → Same H H' → zs.Perm bs → sortedS zs = true → CapAt C H' a m zs → Q (.ref a) H') ∨
   ((∀ H', Same H H' → NotIn K H' 0 12 y) ∧ ∀ H' d, Same H H' → H' d = none → E (.ref CM) (some d) (upd H' d (.xd [("value", y)]))) ∨
   ∃ (m : Int) (bs : List Str) (x : V) (rest : List V), y = .int m ∧ 0 ≤ m ∧ m ≤ 12 ∧ NameBad K H xs bs x rest ∧ ∀ H' d, Same H H' → H' d = none → E (.ref CN) (some d) (upd H' d (.xd [("value", x)])))
theorem MadeCap.row {K : PySem.W.Frag} {C CN CM : Addr} {H H1 : Hp} {y : V} {xs : List V} {Q Q1 : VK} {E : XK} {z : Addr} (h : MadeCap K C CN CM H y xs Q E) (hz : H z = none) (s : Same H H1) (b : ∀ H', But z H1 H' → (Q (.ref z) H' → Q1 .non H') ∧ Same H H') : CapRow K C CN CM H1 z y xs Q1 E := by
  obtain ⟨l, ⟨m, bs, ey, m0, m1, ex, nd, g, lb, q⟩ | ⟨ni, q⟩ | ⟨m, bs, x, rest, ey, m0, m1, nb, q⟩⟩ := h
  · exact ⟨l, .inl ⟨m, bs, ey, m0, m1, ex, nd, g, lb, fun H2 zs bt pm srt c => (b H2 bt).1 (q z H2 zs hz (b H2 bt).2 pm srt c)⟩⟩
  · exact ⟨l, .inr (.inl ⟨fun H2 s2 => ni H2 (s.trans s2), fun H2 d bt => q H2 d (b H2 bt).2⟩)⟩
  · exact ⟨l, .inr (.inr ⟨m, bs, x, rest, ey, m0, m1, nb.new s, fun H2 d bt => q H2 d (b H2 bt).2⟩)⟩
theorem made_cap {K : PySem.W.Frag} {C CN CM z dz : Addr} {H : Hp} {y : V} {xs : List V} {Q : VK} {E : XK} (h : MadeCap K C CN CM H y xs Q E) (h1 : H z = none) (h2 : H dz = none) :
    spCap K C CN CM (.ref z :: y :: xs) (upd (upd H dz (.own z)) z (.ins C dz [])) (fun v G => v = .non ∧ Q (.ref z) G) E := by
  have s0 : Same H (upd (upd H dz (.own z)) z (.ins C dz [])) := fun b o e => by
    rw [upd_ne (ne_of_none e h1), upd_ne (ne_of_none e h2)]
    exact e
  exact ⟨z, dz, y, xs, rfl, upd_same, h.row h1 s0 fun H' sb => ⟨fun q => ⟨rfl, q⟩, made_same h1 h2 sb⟩⟩
theorem cap_fits {ws : List Str} (h : ∀ w ∈ ws, w.length ≤ 1000) (l : ws.length ≤ 20) : (ws.map (·.length)).sum + ws.length * (" " : Str).length ≤ 16777216 := by
  have sm : ∀ ys : List Str, (∀ y ∈ ys, y.length ≤ 1000) → (ys.map (·.length)).sum ≤ ys.length * 1000 := fun ys => by
    induction ys with
    | nil => intro _; exact Nat.le_refl 0
    | cons y r ih =>
      intro h
      rw [List.map_cons, List.sum_cons, List.length_cons, Nat.succ_mul]
      have := ih fun z hz => h z (List.mem_cons_of_mem _ hz)
      have := h y List.mem_cons_self
      omega
  have := sm ws h
  have e1 : ((" " : Str)).length = 1 := by decide +kernel
  rw [e1]
  have : ws.length * 1000 ≤ 20 * 1000 := Nat.mul_le_mul_right _ l
  omega
theorem most_text {m : Int} (m0 : 0 ≤ m) (m1 : m ≤ 12) : m.natAbs.log2 < 1920 ∧ (toString m : Str).length ≤ 1000 := by
  have key : ∀ k : Fin 13, (((k.val : Nat) : Int)).natAbs.log2 < 1920 ∧ (toString ((k.val : Nat) : Int) : Str).length ≤ 1000 := by decide +kernel
  have := key ⟨m.toNat, by omega⟩
  rw [show (((⟨m.toNat, by omega⟩ : Fin 13).val : Nat) : Int) = m from Int.toNat_of_nonneg m0] at this
  exact this
section
variable {P : Program} {w : World} {K : PySem.W.Frag} {mg : Str → Option Value} {base : Heap}
abbrev nQ0 : List Str := ["self", "text", "caps", "joints", "most", "kinds", "kind"]
theorem scQ0 : FnScope nQ0 ["self", "text", "caps", "joints"] (defScope sQuota0) := ⟨rfl, rfl, rfl, by decide +kernel, rfl, by decide +kernel, by decide +kernel⟩
theorem ok_quota0 {C f : Addr} {fd : FuncData} (hc : QuotaC K C) (F : Fun K "__init__" "Quota.__init__" sQuota0 f fd) (c : Chk P w K mg base) : FnR P w K mg base CX0 2 f (spQuota0 C) := by
  obtain ⟨fA, fdA, gA, kA, bA, GA⟩ := c.asc
  refine OwR.raw0 (F.ok (k := 1) (ps := ["self", "text", "caps", "joints"]) scQ0 (fun vs H Q E h => ?_) (fun cdv A outer s H vs Q E hr h => ?_)) (F.binds fun _ _ _ _ _ _ us hl => match us, hl with | [_, _, _, _], _ => rfl)
  · obtain ⟨a, cp, jp, dx, fs0, cks, t, rfl, _⟩ := h
    rfl
  · obtain ⟨a, cp, jp, dx, fs0, cks, t, rfl, ha, l0, lb, hcp, hck, hjp, lk, q⟩ := h
    refine ⟨_, (pss_cons (ps_fld (pv 0) (pv 1) rfl)
    (pss_cons (ps_fld (pv 0) (pv 2) rfl)
    (pss_cons (ps_fld (pv 0) (pv 3) rfl)
    (pss_one (ps_fld (pv 0) (pe_callTy call_tuple_of (by rfl) c.T4.n_tuple (by decide +kernel) (pa_cons (pe_call GA hr (by rfl) gA kA bA .nil pass0 (pa_cons (pe_lc2 (own := [("most", 4), ("kinds", 5), ("kind", 6)]) (vs1 := [6]) (g := gTup K 2 (gCons (gName 4) (gCons (gName 5) gNil))) (wi1 := iTup K (tVar 5)) (by rfl) scQ0.nd (pi_tup (pv 2)) (blkOk_by (own := [("most", 4), ("kinds", 5), ("kind", 6)]) (N := nQ0) (sc := defScope sQuota0) (by decide +kernel)) (by decide) (fun _ _ _ _ _ => (pg_tup rfl (pgs_cons (pg_name (i := 4) scQ0.nd rfl (Or.inl rfl)) (pgs_cons (pg_name (i := 5) scQ0.nd rfl (Or.inl rfl)) pgs_nil)))) (fun _ _ _ _ _ => pts_nil) (fun _ _ _ _ _ => (pi_tup (pv 5))) (fun _ _ _ _ _ => (pg_name (i := 6) scQ0.nd rfl (Or.inl rfl))) (fun _ _ _ _ _ => pts_nil) (fun _ _ _ _ _ => (pv 6))) pa_nil)) pa_nil)) rfl))))), ?_⟩
    have sz := sizeLine_eq
    refine ⟨_, rfl, _, rfl, a, C, dx, fs0, rfl, ha, hc.cls, hc.n1, by omega, ?_⟩
    refine ⟨_, rfl, _, rfl, a, C, dx, _, rfl, upd_same, hc.cls, hc.n2, by have := length_putF ("_text" : Str) (V.str t.text) fs0; omega, ?_⟩
    refine ⟨_, rfl, _, rfl, a, C, dx, _, rfl, upd_same, hc.cls, hc.n3, by have := length_putF ("_text" : Str) (V.str t.text) fs0; have := length_putF ("_caps" : Str) (V.ref cp) (putF ("_text" : Str) (V.str t.text) fs0); omega, ?_⟩
    have st3 : But a H (upd (upd (upd H a (.ins C dx (putF ("_text" : Str) (V.str t.text) fs0))) a (.ins C dx (putF ("_caps" : Str) (V.ref cp) (putF ("_text" : Str) (V.str t.text) fs0)))) a (.ins C dx (putF ("_joints" : Str) (V.ref jp) (putF ("_caps" : Str) (V.ref cp) (putF ("_text" : Str) (V.str t.text) fs0))))) := fun b o n e => by
      rw [upd_ne n, upd_ne n, upd_ne n]
      exact e
    have ea3 : upd (upd (upd H a (.ins C dx (putF ("_text" : Str) (V.str t.text) fs0))) a (.ins C dx (putF ("_caps" : Str) (V.ref cp) (putF ("_text" : Str) (V.str t.text) fs0)))) a (.ins C dx (putF ("_joints" : Str) (V.ref jp) (putF ("_caps" : Str) (V.ref cp) (putF ("_text" : Str) (V.str t.text) fs0)))) a = some (.ins C dx (putF ("_joints" : Str) (V.ref jp) (putF ("_caps" : Str) (V.ref cp) (putF ("_text" : Str) (V.str t.text) fs0)))) := upd_same
    have lk1 : (putF ("_joints" : Str) (V.ref jp) (putF ("_caps" : Str) (V.ref cp) (putF ("_text" : Str) (V.str t.text) fs0))).lookup ("_text" : Str) = some (.str t.text) := by
      rw [lookup_putF, if_neg (by decide), lookup_putF, if_neg (by decide), lookup_putF, if_pos rfl]
    have lk2 : (putF ("_joints" : Str) (V.ref jp) (putF ("_caps" : Str) (V.ref cp) (putF ("_text" : Str) (V.str t.text) fs0))).lookup ("_caps" : Str) = some (.ref cp) := by
      rw [lookup_putF, if_neg (by decide), lookup_putF, if_pos rfl]
    have lk3 : (putF ("_joints" : Str) (V.ref jp) (putF ("_caps" : Str) (V.ref cp) (putF ("_text" : Str) (V.str t.text) fs0))).lookup ("_joints" : Str) = some (.ref jp) := by
      rw [lookup_putF, if_pos rfl]
    have lkf : ∀ f : Str, f ≠ "_text" → f ≠ "_caps" → f ≠ "_joints" → (putF ("_joints" : Str) (V.ref jp) (putF ("_caps" : Str) (V.ref cp) (putF ("_text" : Str) (V.str t.text) fs0))).lookup f = fs0.lookup f := fun f n1 n2 n3 => by
      rw [lookup_putF, if_neg n3, lookup_putF, if_neg n2, lookup_putF, if_neg n1]
    have l3 : (putF ("_joints" : Str) (V.ref jp) (putF ("_caps" : Str) (V.ref cp) (putF ("_text" : Str) (V.str t.text) fs0))).length ≤ 30 := by
      have := length_putF ("_text" : Str) (V.str t.text) fs0
      have := length_putF ("_caps" : Str) (V.ref cp) (putF ("_text" : Str) (V.str t.text) fs0)
      have := length_putF ("_joints" : Str) (V.ref jp) (putF ("_caps" : Str) (V.ref cp) (putF ("_text" : Str) (V.str t.text) fs0))
      omega
    generalize upd (upd (upd H a (.ins C dx (putF ("_text" : Str) (V.str t.text) fs0))) a (.ins C dx (putF ("_caps" : Str) (V.ref cp) (putF ("_text" : Str) (V.str t.text) fs0)))) a (.ins C dx (putF ("_joints" : Str) (V.ref jp) (putF ("_caps" : Str) (V.ref cp) (putF ("_text" : Str) (V.str t.text) fs0)))) = H3 at st3 ea3 ⊢
    generalize putF ("_joints" : Str) (V.ref jp) (putF ("_caps" : Str) (V.ref cp) (putF ("_text" : Str) (V.str t.text) fs0)) = fs3 at ea3 lk1 lk2 lk3 lkf l3
    have tup : ∀ k xs, H k = some (.tup xs) → H3 k = some (.tup xs) := fun k xs e => st3 k _ (fun q => by rw [q, ha] at e; cases e) e
    have hcp3 := tup _ _ hcp
    have hck3 := hck.mono tup
    have hjp3 := tup _ _ hjp
    have lck := hck.len
    -- the kinds
    refine ⟨_, rfl, cp, rfl, ⟨_, SqT.of hcp3⟩, fun D hD => ?_⟩
    have small : ∀ i, ((t.caps.take i).flatMap (·.2)).length ≤ t.kinds.length := fun i => by
      have e : t.kinds = (t.caps.take i).flatMap (·.2) ++ (t.caps.drop i).flatMap (·.2) := by
        unfold QT.kinds
        rw [← List.flatMap_append, List.take_append_drop]
      rw [e, List.length_append]
      omega
    refine OwR.any_itQ (walk_tup (xs := cks.map V.ref)) (fun i Hx => Same H3 Hx ∧ Hx D = some (.lst (((t.caps.take i).flatMap (·.2)).map V.str))) ⟨Same.of_new hD, upd_same⟩ (fun i Hx _ q => SqT.of (q.1 _ _ hcp3)) (fun i x Hx Hy hi q0 y => ?_) (fun Hx q0 => ?_)
    · obtain ⟨s1, eD⟩ := q0
      obtain ⟨rfl, hx⟩ := y
      obtain ⟨k1, c1, rfl, hk, hci, kp1, t1, t2⟩ := hck3.get hx
      have ei : (t.caps.take (i + 1)).flatMap (·.2) = (t.caps.take i).flatMap (·.2) ++ c1.2 := by
        rw [List.take_add_one, hci, List.flatMap_append]
        simp
      refine ⟨k1, _, rfl, .inl (.inl (s1 _ _ t1)), rfl, _, _, rfl, _, _, rfl, rfl, rfl, ?_⟩
      refine ⟨_, rfl, kp1, rfl, ⟨_, SqT.of (s1 _ _ t2)⟩, ?_⟩
      refine OwR.any_itQ (walk_tup (xs := c1.2.map V.str)) (fun j Hz => Same H3 Hz ∧ Hz D = some (.lst (((t.caps.take i).flatMap (·.2) ++ c1.2.take j).map V.str))) ⟨s1, by rw [List.take_zero, List.append_nil]; exact eD⟩ (fun j Hz _ q => SqT.of (q.1 _ _ t2)) (fun j x2 Hz Hw hj q1 y => ?_) (fun Hz q1 => ?_)
      · obtain ⟨s2, eD2⟩ := q1
        obtain ⟨rfl, hx2⟩ := y
        rw [List.getElem?_map] at hx2
        obtain ⟨z, hz, rfl⟩ := Option.map_eq_some_iff.mp hx2
        rw [List.length_map] at hj
        refine ⟨rfl, ?_⟩
        refine ⟨_, rfl, _, eD2, ?_, fun y o e => ?_, ?_⟩
        · have := small (i + 1)
          rw [ei, List.length_append] at this
          rw [List.length_map, List.length_append, List.length_take]
          omega
        · rw [upd_ne (ne_of_none e hD)]
          exact s2 y o e
        · rw [List.take_add_one, hz, ← List.append_assoc, List.map_append (l₁ := (t.caps.take i).flatMap (·.2) ++ c1.2.take j)]
          exact upd_same
      · obtain ⟨s2, eD2⟩ := q1
        rw [List.length_map, List.take_length, ← ei] at eD2
        exact ⟨s2, eD2⟩
    obtain ⟨s1, eD⟩ := q0
    rw [List.length_map, lck, List.take_length] at eD
    refine ⟨D, t.kinds, rfl, .inl (SqL.of eD), lk, fun ys g H6 pm srt hg s6 e6 => ?_⟩
    refine ⟨g, _, rfl, .inl ⟨SqL.of e6, fun z hz => ?_⟩⟩
    have s36 := s1.trans s6
    have s7 := s36.trans (Same.of_new (o := .tup (ys.map V.str)) hz)
    have ea7 := s7 _ _ ea3
    have ez7 : upd H6 z (.tup (ys.map V.str)) z = some (.tup (ys.map V.str)) := upd_same
    generalize upd H6 z (.tup (ys.map V.str)) = H7 at s7 ea7 ez7 ⊢
    refine ⟨_, rfl, a, C, dx, fs3, rfl, ea7, hc.cls, hc.n4, by omega, ?_⟩
    have tup8 : ∀ k xs, H7 k = some (.tup xs) → upd H7 a (.ins C dx (putF ("_kinds" : Str) (.ref z) fs3)) k = some (.tup xs) := fun k xs e => by
      rw [upd_ne (fun q => by rw [q, ea7] at e; cases e)]
      exact e
    have nm : ("bounds" : Str) ≠ "_text" ∧ ("bounds" : Str) ≠ "_caps" ∧ ("bounds" : Str) ≠ "_joints" := by decide +kernel
    refine q _ ((st3.trans (Same.but a s7)).trans But.at) ⟨dx, _, cp, jp, z, cks, ys, upd_same, ?_, ?_, tup8 _ _ (s7 _ _ hcp3), (hck3.same s7).mono tup8, ?_, tup8 _ _ (s7 _ _ hjp3), ?_, tup8 _ _ ez7, pm.nodup_iff.mpr (TSet.ded_nodup _), srt, fun y => by rw [pm.mem_iff, TSet.ded_mem], ?_⟩ ⟨dx, _, upd_same, fun f n1 n2 n3 n4 => ?_⟩
    · rw [lookup_putF, if_neg (by decide)]
      exact lk1
    · rw [lookup_putF, if_neg (by decide)]
      exact lk2
    · rw [lookup_putF, if_neg (by decide)]
      exact lk3
    · rw [lookup_putF, if_pos rfl]
    · rw [lookup_putF, if_neg (by decide), lkf _ nm.1 nm.2.1 nm.2.2]
      exact lb
    · rw [lookup_putF, if_neg n4]
      exact lkf f n1 n2 n3
abbrev nCN : List Str := ["kinds", "seen", "kind"]
theorem scCN : FnScope nCN ["kinds"] (defScope sChkN) := ⟨rfl, rfl, rfl, by decide +kernel, rfl, by decide +kernel, by decide +kernel⟩
theorem ok_chkN {CN CM CQ CT f : Addr} {fd : FuncData} (F : Fun K "check_names" "check_names" sChkN f fd) (c : Chk P w K mg base) (Er : QErrs K mg CN CM CQ CT) : FnOk P w K mg base (L2.CX P w) 3 f fd ["kinds"] (spChkN K CN) := by
  obtain ⟨fM, fdM, gM, kM, bM, GM⟩ := c.name
  obtain ⟨fK, fdK, T_K, hat, F_K⟩ := Er.name
  have GK : FnOk P w K mg base CX0 1 fK fdK ["self", "value"] (OwE.spErr1 K "value") := ok_BadName0 F_K
  have bK : Binds K fdK ["self", "value"] [] := F_K.binds fun _ _ _ _ _ _ us hl => match us, hl with | [_, _], _ => rfl
  refine F.okX scCN (fun vs H Q E h => ?_) (fun cdv A outer s H vs Q E hr h => ?_)
  · obtain ⟨t, xs, rfl, _⟩ := h
    rfl
  · obtain ⟨t, xs, rfl, hq, h⟩ := h
    have hr1 : Room 1 _ := hr.mono (by decide)
    have hu : (A.deeper (envOfC "check_names" (defScope sChkN) s.heap.objs.size f cdv)).units + 1 < cLine := by have := hr.units; omega
    refine ⟨_, (pss_cons (ps_set (i := 1) scCN.nd rfl (Or.inl rfl) pe_dnewK)
    (pss_one (ps_for (passes_of rfl) rfl (pi_tup (pv 0)) (pg_name (i := 2) scCN.nd rfl (Or.inl rfl)) (pss_cons (ps_if (PW.pt (pw_or (pt_not (pt_val (pe_call GM hr1 (by rfl) gM kM bM .nil pass0 (pa_cons (pv 2) pa_nil)))) (pw_or1 (pt_cmp (pc_din hu (pv 2) (pv 1)))))) (pss_one (ps_raise rfl (takes_of rfl rfl rfl rfl) (pmk_oex T_K.er.ox T_K.ini T_K.ty GK hr bK .nil pass0 (by rfl) T_K.g (pa_cons (pv 2) pa_nil)))) pss_nil)
    (pss_one (ps_dput hu (pv 1) (pv 2) pe_bl rfl)))))), ?_⟩
    have sz := sizeLine_eq
    refine fun S hS => ?_
    have h1 : Same H (upd H S (.dK [])) := Same.of_new hS
    -- the right names ahead
    have all : ∃ bs : List Str, bs.Nodup ∧ (∀ b ∈ bs, nameB b = true ∧ b.length ≤ 1000) ∧ bs.length ≤ 20 ∧ ((xs = bs.map V.str ∧ ∀ H', Same H H' → Q .non H') ∨ ∃ x rest, xs = bs.map V.str ++ x :: rest ∧ ((∀ H', Same H H' → NoName K H' x) ∨ ∃ b, x = .str b ∧ b ∈ bs) ∧ ∀ H' d, Same H H' → H' d = none → E (.ref CN) (some d) (upd H' d (.xd [("value", x)]))) := by
      rcases h with ⟨bs, e, nd, g, l, q⟩ | ⟨bs, x, rest, ⟨e, nd, g, l, nn⟩, q⟩
      · exact ⟨bs, nd, g, l, .inl ⟨e, q⟩⟩
      · exact ⟨bs, nd, g, l, .inr ⟨x, rest, e, nn, q⟩⟩
    clear h
    obtain ⟨bs, nd, gd, bl, h⟩ := all
    have pre : ∀ i z, i < bs.length → xs[i]? = some z → ∃ b, bs[i]? = some b ∧ z = .str b := fun i z hi e => by
      have e2 : (bs.map V.str)[i]? = some z := by
        rcases h with ⟨rfl, _⟩ | ⟨x, rest, rfl, _⟩
        · exact e
        · rw [List.getElem?_append_left (by rw [List.length_map]; exact hi)] at e
          exact e
      rw [List.getElem?_map] at e2
      obtain ⟨b, hb, rfl⟩ := Option.map_eq_some_iff.mp e2
      exact ⟨b, hb, rfl⟩
    refine ⟨_, rfl, t, rfl, ⟨_, SqT.mono hq h1⟩, ?_⟩
    refine for_it (walk_tup (xs := xs)) (fun i σ Hx => i ≤ bs.length ∧ Same H Hx ∧ (∃ x2, σ = [some (.ref t), some (.ref S), x2]) ∧ ∃ (kvs : List (Key × V)), Hx S = some (.dK kvs) ∧ kvs.length ≤ i ∧ ∀ z, valV kvs (Sum.inr z) = if z ∈ bs.take i then some (.bl true) else none)
      ⟨Nat.zero_le _, h1, ⟨none, rfl⟩, [], upd_same, Nat.le_refl 0, fun z => by rw [if_neg (by simp)]; rfl⟩ (fun i σ Hx _ q => SqT.mono hq q.2.1) (fun i x σ Hx Hy hi q0 y1 => ?_) (fun σ Hx q0 => ?_)
    · obtain ⟨hib, s1, ⟨x0, rfl⟩, kvs, eS, lk, tv⟩ := q0
      obtain ⟨rfl, hz⟩ := y1
      rcases Nat.lt_or_ge i bs.length with lt | ge
      · obtain ⟨b, hb, rfl⟩ := pre i x lt hz
        have g := gd b (List.mem_of_getElem? hb)
        refine ⟨_, rfl, _, rfl, .inl ⟨b, rfl, g.2, fun H3 s3 => ⟨_, rfl, ?_⟩⟩⟩
        rw [g.1]
        refine iteF ?_
        have eS3 := s3 S _ eS
        have nb : b ∉ bs.take i := fun m => by
          have e3 : bs.take (i + 1) = bs.take i ++ [b] := by
            rw [List.take_add_one, hb]
            rfl
          have h5 : (bs.take (i + 1)).Nodup := nd.sublist (List.take_sublist _ _)
          rw [e3] at h5
          exact (List.nodup_append.mp h5).2.2 b m b (by simp) rfl
        have gv := tv b
        rw [if_neg nb] at gv
        refine ⟨_, rfl, _, rfl, S, none, rfl, .inl ⟨kvs, Sum.inr b, .inl eS3, rfl, gv.symm⟩, _, rfl, ?_⟩
        refine iteF ?_
        refine ⟨_, rfl, _, rfl, S, _, rfl, DPut.k (k := Sum.inr b) eS3 (by omega), ?_⟩
        refine ⟨lt, fun y o e => ?_, ⟨_, rfl⟩, putK kvs (Sum.inr b) (.bl true), upd_same, ?_, fun z => ?_⟩
        · rw [upd_ne (ne_of_none e hS)]
          exact s3 y o (s1 y o e)
        · have := length_putK kvs (Sum.inr b) (V.bl true)
          omega
        · rw [valV_put, tv z, List.take_add_one, hb]
          by_cases e : z = b
          · subst e
            rw [if_pos rfl, if_pos (by simp)]
          · rw [if_neg (fun q => e (Sum.inr.inj q))]
            by_cases c : z ∈ bs.take i
            · rw [if_pos c, if_pos (List.mem_append_left _ c)]
            · rw [if_neg c, if_neg fun q => (List.mem_append.mp q).elim c fun q => e (by simpa using q)]
      · obtain rfl : i = bs.length := by omega
        obtain ⟨z2, rest, ex, nn, qe⟩ : ∃ x rest, xs = bs.map V.str ++ x :: rest ∧ ((∀ H', Same H H' → NoName K H' x) ∨ ∃ b, x = .str b ∧ b ∈ bs) ∧ ∀ H' d, Same H H' → H' d = none → E (.ref CN) (some d) (upd H' d (.xd [("value", x)])) := by
          rcases h with ⟨rfl, _⟩ | h
          · rw [List.getElem?_eq_none (by rw [List.length_map]; exact Nat.le_refl _)] at hz
            cases hz
          · exact h
        obtain rfl : x = z2 := by
          rw [ex, List.getElem?_append_right (by rw [List.length_map]; exact Nat.le_refl _), List.length_map, Nat.sub_self] at hz
          exact (Option.some.inj hz).symm
        rcases nn with nn | ⟨b, rfl, mb⟩
        · rcases nn _ s1 with ⟨z, rfl, lz, nz⟩ | n
          · refine ⟨_, rfl, _, rfl, .inl ⟨z, rfl, lz, fun H3 s3 => ⟨_, rfl, ?_⟩⟩⟩
            rw [nz]
            refine iteT (iteT ?_)
            exact ⟨_, rfl, OwE.mk_err1 T_K.er.ox hat fun d hd => qe H3 d (s1.trans s3) hd⟩
          · refine ⟨_, rfl, _, rfl, .inr ⟨n, _, rfl, ?_⟩⟩
            refine iteT (iteT ?_)
            exact ⟨_, rfl, OwE.mk_err1 T_K.er.ox hat fun d hd => qe _ d s1 hd⟩
        · have g := gd b mb
          refine ⟨_, rfl, _, rfl, .inl ⟨b, rfl, g.2, fun H3 s3 => ⟨_, rfl, ?_⟩⟩⟩
          rw [g.1]
          refine iteF ?_
          have eS3 := s3 S _ eS
          have gv := tv b
          rw [List.take_length, if_pos mb] at gv
          refine ⟨_, rfl, _, rfl, S, some (.bl true), rfl, .inl ⟨kvs, Sum.inr b, .inl eS3, rfl, gv.symm⟩, _, rfl, ?_⟩
          refine iteT ?_
          exact ⟨_, rfl, OwE.mk_err1 T_K.er.ox hat fun d hd => qe H3 d (s1.trans s3) hd⟩
    · obtain ⟨hib, s1, ⟨x0, rfl⟩, _⟩ := q0
      rcases h with ⟨rfl, q⟩ | ⟨x, rest, rfl, _⟩
      · exact q _ s1
      · rw [List.length_append, List.length_map, List.length_cons] at hib
        omega
abbrev nC0 : List Str := ["self", "most", "kinds", "names", "text"]
theorem scC0 : FnScope nC0 ([("self" : Str), ("most" : Str)] ++ [("kinds" : Str)]) (defScope sCap0) := ⟨rfl, rfl, rfl, by decide +kernel, rfl, by decide +kernel, by decide +kernel⟩
theorem ok_cap0 {C CQ CN CM CU CT f fQ fK : Addr} {mQ : Value} {fd fdQ fdK : FuncData} (hc : QuotaC K C) (hm : NoAttr K C "most") (F : Fun K "__init__" "Cap.__init__" sCap0 f fd) (FQ : Fun K "__init__" "Quota.__init__" sQuota0 fQ fdQ) (gQ : mg "Quota" = some (.ref CQ)) (rQ : ClX.CRead K CQ mQ) (cQ : OwR.CFun K CQ mQ "__init__" fQ)
    (FK : Fun K "check_names" "check_names" sChkN fK fdK) (gK : mg "check_names" = some (.ref fK)) (c : Chk P w K mg base) (Er : QErrs K mg CN CM CU CT) : FnR P w K mg base (L2.CX P w) 4 f (spCap K C CN CM) := by
  obtain ⟨oc, od, kV, doc, pm, an, cdv, ct, osl, rfl, lk, hcd⟩ := F.ex
  obtain ⟨fI, fdI, gI, kI, bI, GI⟩ := c.within
  obtain ⟨fA, fdA, gA, kA, bA, GA⟩ := c.asc
  have GK : FnOk P w K mg base (L2.CX P w) 3 fK fdK ["kinds"] (spChkN K CN) := ok_chkN FK c Er
  have bK : Binds K fdK ["kinds"] [] := FK.binds fun _ _ _ _ _ _ us hl => match us, hl with | [_], _ => rfl
  have GQ : FnR P w K mg base CX0 2 fQ (spQuota0 C) := ok_quota0 hc FQ c
  obtain ⟨fB, fdB, T_B, hval, F_B⟩ := Er.number
  have GB : FnOk P w K mg base CX0 1 fB fdB ["self", "value"] (OwE.spErr1 K "value") := ok_BadNumber0 F_B
  have bB : Binds K fdB ["self", "value"] [] := F_B.binds fun _ _ _ _ _ _ us hl => match us, hl with | [_, _], _ => rfl
  refine FnR.imp (StX.fn_star (k := 3) (ps := ["self", "most"]) (pv := "kinds") (sp := spCap0 K C CN CM) lk hcd scC0 StX.cxUp (fun us rest hl => match us, hl, rest with | [_, _], _, [] => rfl | [_, _], _, _ :: _ => rfl) fun A outer s H vs Q E hr h => ?_) fun vs H Q E h => ?_
  · obtain ⟨a, tk, dx, y, xs, rfl, ha, hq, lx, h⟩ := h
    have hr2 : Room 2 _ := hr.mono (by decide)
    have hr1 : Room 1 _ := hr.mono (by decide)
    refine ⟨_, (pss_cons (ps_if (pt_not (pt_val (pe_call GI hr1 (by rfl) gI kI bI .nil pass0 (pa_cons (pv 1) (pa_cons pe_int (pa_cons pe_int pa_nil)))))) (pss_one (ps_raise rfl (takes_of rfl rfl rfl rfl) (pmk_oex T_B.er.ox T_B.ini T_B.ty GB hr2 bB .nil pass0 (by rfl) T_B.g (pa_cons (pv 1) pa_nil)))) pss_nil)
    (pss_cons (ps_expr (pe_call GK hr (by rfl) gK FK.kp bK .nil (passes_call (takes_of rfl rfl rfl rfl) (fun _ _ _ _ h => h)) (pa_cons (pv 2) pa_nil)))
    (pss_cons (ps_fld (pv 0) (pv 1) rfl)
    (pss_cons (ps_set (i := 3) scC0.nd rfl (Or.inl rfl) (pe_call GA hr1 (by rfl) gA kA bA .nil pass0 (pa_cons (pv 2) pa_nil)))
    (pss_cons (ps_set (i := 4) scC0.nd rfl (Or.inl rfl) (pe_join pe_str (pe_lst (pa_cons pe_str (pa_cons (pe_callTy call_str_int (by rfl) c.T.n_str (by decide +kernel) (pa_cons (pv 1) pa_nil)) (pa_cons (pe_callTy call_str_int (by rfl) c.T.n_str (by decide +kernel) (pa_cons (pe_callB call_len_seq (by rfl) c.T.n_len boot_len (pa_cons (pv 3) pa_nil)) pa_nil)) (StX.pa_star (pv 3) pa_nil)))))))
    (pss_one (ps_expr (OwR.pe_cfun (pe_glob (v := .ref CQ) rfl gQ rfl) rQ cQ GQ hr2 pass0 (pa_cons (pv 0) (pa_cons (pv 4) (pa_cons (pe_tup (pa_cons (pe_tup (pa_cons (pv 1) (pa_cons (pe_callTy call_tuple_of (by rfl) c.T4.n_tuple (by decide +kernel) (pa_cons (pv 3) pa_nil)) pa_nil))) pa_nil)) (pa_cons (pe_tup (pa_cons pe_str pa_nil)) pa_nil)))))))))))), ?_⟩
    have sz := sizeLine_eq
    have b0 : But a H H := Same.but a (Same.refl H)
    refine ⟨_, rfl, _, 0, 12, rfl, ?_⟩
    rcases h with ⟨m, bs, rfl, m0, m1, rfl, nd, gd, lb, q⟩ | ⟨ni, qb⟩ | ⟨m, bs, x, rest, rfl, m0, m1, nb, qb⟩
    rotate_left
    · rcases ni _ (Same.refl H) with ⟨i, rfl, nr⟩ | n
      · refine .inl ⟨i, rfl, _, rfl, ?_⟩
        rw [show (decide (0 ≤ i) && decide (i ≤ 12)) = false by
          rw [← Bool.decide_and]
          exact decide_eq_false nr]
        refine iteT ?_
        exact ⟨_, rfl, OwE.mk_err1 T_B.er.ox hval fun d hd => qb H d b0 hd⟩
      · refine .inr ⟨n, _, rfl, ?_⟩
        refine iteT ?_
        exact ⟨_, rfl, OwE.mk_err1 T_B.er.ox hval fun d hd => qb H d b0 hd⟩
    · refine .inl ⟨m, rfl, _, rfl, ?_⟩
      rw [decide_eq_true m0, decide_eq_true m1]
      refine iteF ?_
      exact ⟨_, rfl, tk, xs, rfl, SqT.of hq, .inr ⟨bs, x, rest, nb, fun H' d s nd => qb H' d (Same.but a s) nd⟩⟩
    refine .inl ⟨m, rfl, _, rfl, ?_⟩
    rw [decide_eq_true m0, decide_eq_true m1]
    refine iteF ?_
    refine ⟨_, rfl, tk, _, rfl, SqT.of hq, .inl ⟨bs, rfl, nd, gd, by omega, fun H1 s1 => ?_⟩⟩
    refine ⟨_, rfl, _, rfl, a, C, dx, [], rfl, s1 a _ ha, hc.cls, hm, by decide, ?_⟩
    have st2 : But a H (upd H1 a (.ins C dx (putF ("most" : Str) (.int m) []))) := (Same.but a s1).trans But.at
    have ea2 : upd H1 a (.ins C dx (putF ("most" : Str) (.int m) [])) a = some (.ins C dx (putF ("most" : Str) (.int m) [])) := upd_same
    have hq2 := st2 tk _ (fun e => by rw [e, ha] at hq; cases hq) hq
    generalize upd H1 a (.ins C dx (putF ("most" : Str) (.int m) [])) = H2 at st2 ea2 hq2 ⊢
    refine ⟨_, rfl, tk, bs, rfl, .inr (.inl (SqT.of hq2)), by omega, fun ys g H3 pm srt hg s3 e3 => ?_⟩
    have pm : ys.Perm bs := pm.trans (TSet.ded_perm nd)
    have ly : ys.length ≤ 12 := by rw [pm.length_eq]; exact lb
    have gy : ∀ z ∈ ys, nameB z = true ∧ z.length ≤ 1000 := fun z hz => gd z (pm.mem_iff.mp hz)
    have mt := most_text m0 m1
    have lt := most_text (m := ((ys.length : Nat) : Int)) (by omega) (by omega)
    have ea3 := s3 _ _ ea2
    have st3 := st2.trans (Same.but a s3)
    -- the text
    refine ⟨⟨_, rfl⟩, _, rfl, _, rfl, mt.1, _, rfl, g, _, rfl, .inl (SqL.of e3), _, rfl, by rw [List.length_map]; exact lt.1, _, rfl, g, _, rfl, .inr (SqL.of e3), by simp; omega, fun L hL => ?_⟩
    have ew : (V.str "cap" :: V.str (toString m : Str) :: V.str (toString (((ys.map V.str).length : Nat) : Int) : Str) :: (ys.map V.str ++ [])) = (capWords m ys).map V.str := by simp [capWords]
    have eL : upd H3 L (.lst (V.str "cap" :: V.str (toString m : Str) :: V.str (toString (((ys.map V.str).length : Nat) : Int) : Str) :: (ys.map V.str ++ []))) L = some (.lst ((capWords m ys).map V.str)) := by
      rw [ew]
      exact upd_same
    have s4 := Same.of_new (o := .lst (V.str "cap" :: V.str (toString m : Str) :: V.str (toString (((ys.map V.str).length : Nat) : Int) : Str) :: (ys.map V.str ++ []))) hL
    refine ⟨_, L, capWords m ys, rfl, rfl, .inl (SqL.of eL), cap_fits (fun w hw => ?_) (by simp [capWords]; omega), ?_⟩
    · rcases List.mem_append.mp hw with h | h
      · simp only [List.mem_cons, List.not_mem_nil, or_false] at h
        rcases h with rfl | rfl | rfl
        · decide +kernel
        · exact mt.2
        · exact lt.2
      · exact (gy w h).2
    have ea4 := s4 _ _ ea3
    have e4 := s4 _ _ e3
    have st4 := st3.trans (Same.but a s4)
    generalize upd H3 L _ = H4 at ea4 e4 st4 ⊢
    clear eL ew s4 hL
    -- the base
    refine ⟨rfl, _, rfl, _, rfl, _, rfl, _, rfl, g, _, rfl, .inl ⟨SqL.of e4, fun z hz => ⟨by show (2 : Nat) ≤ sizeLine; omega, fun k1 hk1 => ⟨by show (1 : Nat) ≤ sizeLine; omega, fun cp hcp => ⟨by show (1 : Nat) ≤ sizeLine; omega, fun jp hjp => ?_⟩⟩⟩⟩⟩
    have u1 := Same.of_new (o := .tup (ys.map V.str)) hz
    have u2 := Same.of_new (o := .tup [.int m, .ref z]) hk1
    have u3 := Same.of_new (o := .tup [.ref k1]) hcp
    have u4 := Same.of_new (o := .tup [.str "cap"]) hjp
    have u24 := (u2.trans u3).trans u4
    have u14 := u1.trans u24
    refine ⟨a, cp, jp, dx, _, [k1], .cap m ys, rfl, u14 _ _ ea4, by show (1 : Nat) ≤ 20; decide, rfl, u4 _ _ upd_same, ⟨rfl, fun i k2 c2 e1 e2 => ?_⟩, upd_same, by simp [QT.kinds, QT.caps]; omega, fun H' bt qa kq => ?_⟩
    · match i, e1, e2 with
      | 0, rfl, rfl => exact ⟨z, (u3.trans u4) _ _ upd_same, u24 _ _ upd_same⟩
      | _ + 1, e1, _ => simp at e1
    · obtain ⟨dx2, fs2, e2, kf⟩ := kq
      refine q H' ys ((st4.trans (Same.but a u14)).trans bt) pm srt ⟨qa, dx2, fs2, e2, ?_⟩
      rw [kf "most" (by decide +kernel) (by decide +kernel) (by decide +kernel) (by decide +kernel)]
      rfl
  · obtain ⟨a, dx, y, xs, rfl, ha, h⟩ := h
    have sz := sizeLine_eq
    have lx := h.1
    exact ⟨[.ref a, y], xs, rfl, rfl, by omega, fun t ht => ⟨a, t, dx, y, xs, rfl, upd_keep2 ha ht, upd_same, h.new (Same.of_new ht)⟩⟩
end
end K10
end
section
set_option pp.maxSteps 400
set_option pp.deepTerms.threshold 6
/-! Quotas joined: joined_caps, Pair, Both and Either with what they refuse, & and |, str, the parts. -/
namespace K10
open PySem PySem.Spec PyProof.Rows L2
abbrev sJoined : Stmt := top 22
abbrev sBoth0 : Stmt := mth 20 0
abbrev sEither0 : Stmt := mth 21 0
abbrev sPair0 : Stmt := mth 13 0
abbrev sPair1 : Stmt := mth 13 1
abbrev sPair2 : Stmt := mth 13 2
abbrev sQAnd : Stmt := mth 18 8
abbrev sQOr : Stmt := mth 18 9
abbrev sQStr : Stmt := mth 18 11
theorem caps_pos : ∀ t : QT, 1 ≤ t.caps.length
  | .cap _ _ => Nat.le_refl 1
  | .both a b => by
    have := caps_pos a
    show 1 ≤ (a.caps ++ b.caps).length
    rw [List.length_append]
    omega
  | .either a b => by
    have := caps_pos a
    show 1 ≤ (a.caps ++ b.caps).length
    rw [List.length_append]
    omega
theorem joints_len : ∀ t : QT, t.joints.length + 1 = 2 * t.caps.length
  | .cap _ _ => rfl
  | .both a b => by
    have := joints_len a
    have := joints_len b
    show (a.joints ++ b.joints ++ [("both" : Str)]).length + 1 = 2 * (a.caps ++ b.caps).length
    simp only [List.length_append, List.length_cons, List.length_nil]
    omega
  | .either a b => by
    have := joints_len a
    have := joints_len b
    show (a.joints ++ b.joints ++ [("either" : Str)]).length + 1 = 2 * (a.caps ++ b.caps).length
    simp only [List.length_append, List.length_cons, List.length_nil]
    omega
/-- a quota of any class, with what its joints ask of the class -/
def AnyP (K : PySem.W.Frag) (CQ fL fS : Addr) (H : Hp) (a : Addr) (t : QT) : Prop := ∃ C, QKind K CQ C ∧ OwR.Len1 K C fL ∧ OwR.Fmt1 K C fS ∧ QAt C H a t
theorem AnyP.any {K : PySem.W.Frag} {CQ fL fS : Addr} {H : Hp} {a : Addr} {t : QT} (h : AnyP K CQ fL fS H a t) : AnyQ K CQ H a t := by
  obtain ⟨C, k, _, _, q⟩ := h
  exact ⟨C, k, q⟩
theorem AnyP.same {K : PySem.W.Frag} {CQ fL fS : Addr} {H H' : Hp} {a : Addr} {t : QT} (h : AnyP K CQ fL fS H a t) (s : Same H H') : AnyP K CQ fL fS H' a t := by
  obtain ⟨C, k, l, f, q⟩ := h
  exact ⟨C, k, l, f, q.same s⟩
theorem AnyP.but {K : PySem.W.Frag} {CQ fL fS z C dx : Addr} {H H' : Hp} {a : Addr} {t : QT} (h : AnyP K CQ fL fS H a t) (hz : H z = some (.ins C dx [])) (s : But z H H') : AnyP K CQ fL fS H' a t ∧ a ≠ z := by
  obtain ⟨D, k, l, f, q⟩ := h
  have na : a ≠ z := fun e => by
    obtain ⟨dy, fs, _, _, _, _, _, ea, e2, _⟩ := q
    rw [e, hz] at ea
    cases ea
    cases e2
  obtain ⟨dy, fs, cp, jp, kp, cks, zs, ea, r1, r2, r3, r4, r5, r6, r7, r8, r9⟩ := q
  have tp : ∀ k xs, H k = some (.tup xs) → H' k = some (.tup xs) := fun k xs e => s k _ (fun q => by rw [q, hz] at e; cases e) e
  exact ⟨⟨D, k, l, f, dy, fs, cp, jp, kp, cks, zs, s a _ na ea, r1, r2, tp _ _ r3, r4.mono tp, r5, tp _ _ r6, r7, tp _ _ r8, r9⟩, na⟩
/-- no quota -/
def NoQ (K : PySem.W.Frag) (CQ : Addr) (H : Hp) (x : V) : Prop := ∃ t, TyX K H x t ∧ PySem.W.kitOne K t (.ref CQ) = some false
def PairOf (C : Addr) (H : Hp) (z : Addr) (x y : V) : Prop := ∃ dx fs, H z = some (.ins C dx fs) ∧ fs.lookup ("_first" : Str) = some x ∧ fs.lookup ("_second" : Str) = some y
/-- the fields of TooMany("caps", 20) -/
def manyXd : List (Str × V) := [("most", .int 20), ("what", .str "caps")]
/-- the caps of two values, or what is refused -/
def spJC (K : PySem.W.Frag) (CQ fL fS CU CT : Addr) : Sp := fun vs H Q E => ∃ x y : V, vs = [x, y] ∧
  ((∃ (a b : Addr) (t u : QT), x = .ref a ∧ y = .ref b ∧ AnyP K CQ fL fS H a t ∧ AnyP K CQ fL fS H b u ∧ t.caps.length ≤ 20 ∧ u.caps.length ≤ 20 ∧
    (t.caps.length + u.caps.length ≤ 20 → ∀ p cks H', Same H H' → H' p = some (.tup (cks.map V.ref)) → CapsAt H' cks (t.caps ++ u.caps) → Q (.ref p) H') ∧
    (20 < t.caps.length + u.caps.length → ∀ H' d, Same H H' → H' d = none → E (.ref CT) (some d) (upd H' d (.xd manyXd)))) ∨
   (NoQ K CQ H x ∧ ∀ H' d, Same H H' → H' d = none → E (.ref CU) (some d) (upd H' d (.xd [("part", .str "first")]))) ∨
   ((∃ a t, x = .ref a ∧ AnyP K CQ fL fS H a t) ∧ NoQ K CQ H y ∧ ∀ H' d, Same H H' → H' d = none → E (.ref CU) (some d) (upd H' d (.xd [("part", .str "second")]))))
def spPair0 (K : PySem.W.Frag) : Sp := fun vs H Q _ => ∃ (a C dx : Addr) (x y : V), vs = [.ref a, x, y] ∧ H a = some (.ins C dx []) ∧ Cls K C ∧ NoAttr K C "_first" ∧ NoAttr K C "_second" ∧ ∀ fs, fs.length ≤ 2 → fs.lookup ("_first" : Str) = some x → fs.lookup ("_second" : Str) = some y → fs.lookup ("bounds" : Str) = none → Q .non (upd H a (.ins C dx fs))
def spQStr (K : PySem.W.Frag) (CQ : Addr) : Sp := fun vs H Q _ => ∃ (a : Addr) (t : QT), vs = [.ref a] ∧ AnyQ K CQ H a t ∧ t.text.length ≤ sizeLine ∧ Q (.str t.text) H
def spLnQ (K : PySem.W.Frag) (CQ : Addr) : Sp := fun vs H Q E => ∃ C, QKind K CQ C ∧ OwR.spLn C K "_caps" vs H Q E
section
variable {P : Program} {w : World} {K : PySem.W.Frag} {mg : Str → Option Value} {base : Heap}
theorem ok_qlenA {CQ f : Addr} {fd : FuncData} (F : Fun K "__len__" "Quota.__len__" sQLen f fd) (T : Nm2 mg) : FnR P w K mg base CX0 1 f (spLnQ K CQ) := by
  intro A outer s H us vs Q E hr e0 r ⟨C, k, h⟩
  exact ok_qlen k.qc F T A outer s H us vs Q E hr e0 r h
theorem scQS : FnScope ["self"] ["self"] (defScope sQStr) := ⟨rfl, rfl, rfl, by decide +kernel, rfl, by decide +kernel, by decide +kernel⟩
theorem ok_qstr {CQ f : Addr} {fd : FuncData} (F : Fun K "__str__" "Quota.__str__" sQStr f fd) : FnR P w K mg base CX0 1 f (spQStr K CQ) := by
  refine OwR.raw0 (F.ok (k := 0) (ps := ["self"]) scQS (fun vs H Q E h => ?_) (fun cdv A outer s H vs Q E hr h => ?_)) (F.binds fun _ _ _ _ _ _ us hl => match us, hl with | [_], _ => rfl)
  · obtain ⟨a, t, rfl, _⟩ := h
    rfl
  · obtain ⟨a, t, rfl, ⟨C, k, dx, fs, _, _, _, _, _, ea, lk, _⟩, l, q⟩ := h
    refine ⟨_, (pss_one (ps_ret (pe_joined1 (pe_fmt (pe_fld (pv 0) rfl))))), ?_⟩
    exact ⟨_, rfl, a, C, dx, fs, _, rfl, ea, k.qc.cls, k.qc.n1, lk, .inl ⟨_, rfl, l, q⟩⟩
theorem scP0 : FnScope ["self", "first", "second"] ["self", "first", "second"] (defScope sPair0) := ⟨rfl, rfl, rfl, by decide +kernel, rfl, by decide +kernel, by decide +kernel⟩
theorem ok_pair0 {f : Addr} {fd : FuncData} (F : Fun K "__init__" "Pair.__init__" sPair0 f fd) : FnR P w K mg base CX0 1 f (spPair0 K) := by
  refine OwR.raw0 (F.ok (k := 0) (ps := ["self", "first", "second"]) scP0 (fun vs H Q E h => ?_) (fun cdv A outer s H vs Q E hr h => ?_)) (F.binds fun _ _ _ _ _ _ us hl => match us, hl with | [_, _, _], _ => rfl)
  · obtain ⟨a, C, dx, x, y, rfl, _⟩ := h
    rfl
  · obtain ⟨a, C, dx, x, y, rfl, ha, c, n1, n2, q⟩ := h
    refine ⟨_, (pss_cons (ps_fld (pv 0) (pv 1) rfl)
    (pss_one (ps_fld (pv 0) (pv 2) rfl))), ?_⟩
    refine ⟨_, rfl, _, rfl, a, C, dx, [], rfl, ha, c, n1, by decide, ?_⟩
    refine ⟨_, rfl, _, rfl, a, C, dx, _, rfl, upd_same, c, n2, by show (1:Nat) < 1000; decide, ?_⟩
    rw [upd_upd]
    exact q _ (by show (2:Nat) ≤ 2; decide) rfl rfl rfl
theorem scP1 : FnScope ["self"] ["self"] (defScope sPair1) := ⟨rfl, rfl, rfl, by decide +kernel, rfl, by decide +kernel, by decide +kernel⟩
theorem scP2 : FnScope ["self"] ["self"] (defScope sPair2) := ⟨rfl, rfl, rfl, by decide +kernel, rfl, by decide +kernel, by decide +kernel⟩
theorem ok_pair1 {C f : Addr} {fd : FuncData} (hc : Cls K C) (n1 : NoAttr K C "_first") (F : Fun K "first" "Pair.first" sPair1 f fd) : FnOk P w K mg base CX0 1 f fd ["self"] (getSp C "_first") := by
  refine F.ok scP1 (fun vs H Q E h => ?_) (fun cdv A outer s H vs Q E hr h => ?_)
  · obtain ⟨a, dx, fs, v, rfl, _⟩ := h
    rfl
  · obtain ⟨a, dx, fs, v, rfl, ha, hl, q⟩ := h
    refine ⟨_, (pss_one (ps_ret (pe_fld (pv 0) rfl))), ?_⟩
    exact ⟨_, rfl, a, C, dx, fs, v, rfl, ha, hc, n1, hl, q⟩
theorem ok_pair2 {C f : Addr} {fd : FuncData} (hc : Cls K C) (n1 : NoAttr K C "_second") (F : Fun K "second" "Pair.second" sPair2 f fd) : FnOk P w K mg base CX0 1 f fd ["self"] (getSp C "_second") := by
  refine F.ok scP2 (fun vs H Q E h => ?_) (fun cdv A outer s H vs Q E hr h => ?_)
  · obtain ⟨a, dx, fs, v, rfl, _⟩ := h
    rfl
  · obtain ⟨a, dx, fs, v, rfl, ha, hl, q⟩ := h
    refine ⟨_, (pss_one (ps_ret (pe_fld (pv 0) rfl))), ?_⟩
    exact ⟨_, rfl, a, C, dx, fs, v, rfl, ha, hc, n1, hl, q⟩
theorem caps_app {H : Hp} {ks ls : List Addr} {cs ds : List (Int × List Str)} (h1 : CapsAt H ks cs) (h2 : CapsAt H ls ds) : CapsAt H (ks ++ ls) (cs ++ ds) := by
  refine ⟨by rw [List.length_append, List.length_append, h1.len, h2.len], fun i k c e1 e2 => ?_⟩
  rcases Nat.lt_or_ge i ks.length with lt | ge
  · rw [List.getElem?_append_left lt] at e1
    rw [List.getElem?_append_left (by rw [← h1.len]; exact lt)] at e2
    exact h1.at_ i k c e1 e2
  · rw [List.getElem?_append_right ge] at e1
    rw [List.getElem?_append_right (by rw [← h1.len]; exact ge), ← h1.len] at e2
    exact h2.at_ _ k c e1 e2
theorem scJC : FnScope ["first", "second"] ["first", "second"] (defScope sJoined) := ⟨rfl, rfl, rfl, by decide +kernel, rfl, by decide +kernel, by decide +kernel⟩
theorem ok_jc {CQ fL fS CN CM CU CT f : Addr} {fd fdL : FuncData} (F : Fun K "joined_caps" "joined_caps" sJoined f fd) (FL : Fun K "__len__" "Quota.__len__" sQLen fL fdL) (T : Nm2 mg) (gQ : mg "Quota" = some (.ref CQ)) (Er : QErrs K mg CN CM CU CT) : FnOk P w K mg base (L2.CX P w) 3 f fd ["first", "second"] (spJC K CQ fL fS CU CT) := by
  have GL : FnR P w K mg base CX0 1 fL (spLnQ K CQ) := ok_qlenA FL T
  obtain ⟨fB, fdB, T_B, hpart, F_B⟩ := Er.quota
  have GB : FnOk P w K mg base CX0 1 fB fdB ["self", "part"] (OwE.spErr1 K "part") := ok_BadQuota0 F_B
  have bB : Binds K fdB ["self", "part"] [] := F_B.binds fun _ _ _ _ _ _ us hl => match us, hl with | [_, _], _ => rfl
  obtain ⟨fM, fdM, T_M, hwhat, F_M⟩ := Er.many
  have GM : FnOk P w K mg base CX0 1 fM fdM ["self", "what", "most"] (OwE.spErr2 K "what" "most") := ok_TooMany0 F_M
  have bM : Binds K fdM ["self", "what", "most"] [] := F_M.binds fun _ _ _ _ _ _ us hl => match us, hl with | [_, _, _], _ => rfl
  refine F.okX scJC (fun vs H Q E h => ?_) (fun cdv A outer s H vs Q E hr h => ?_)
  · obtain ⟨x, y, rfl, _⟩ := h
    rfl
  · obtain ⟨x, y, rfl, h⟩ := h
    refine ⟨_, (pss_cons (ps_if (pt_not (pt_val (pe_callB call_isi (by rfl) T.n_isinstance (by decide +kernel) (pa_cons (pv 0) (pa_cons (pe_glob (v := .ref CQ) rfl gQ rfl) pa_nil))))) (pss_one (ps_raise rfl (takes_of rfl rfl rfl rfl) (pmk_oex T_B.er.ox T_B.ini T_B.ty GB hr bB .nil pass0 (by rfl) T_B.g (pa_cons pe_str pa_nil)))) pss_nil)
    (pss_cons (ps_if (pt_not (pt_val (pe_callB call_isi (by rfl) T.n_isinstance (by decide +kernel) (pa_cons (pv 1) (pa_cons (pe_glob (v := .ref CQ) rfl gQ rfl) pa_nil))))) (pss_one (ps_raise rfl (takes_of rfl rfl rfl rfl) (pmk_oex T_B.er.ox T_B.ini T_B.ty GB hr bB .nil pass0 (by rfl) T_B.g (pa_cons pe_str pa_nil)))) pss_nil)
    (pss_cons (ps_if (pt_cmpR op_gt (pe_op op_add (pe_callB (OwR.call_lenO GL hr pass0) (by rfl) T.n_len boot_len (pa_cons (pv 0) pa_nil)) (pe_callB (OwR.call_lenO GL hr pass0) (by rfl) T.n_len boot_len (pa_cons (pv 1) pa_nil))) pe_int (nomark _)) (pss_one (ps_raise rfl (takes_of rfl rfl rfl rfl) (pmk_oex T_M.er.ox T_M.ini T_M.ty GM hr bM .nil pass0 (by rfl) T_M.g (pa_cons pe_str (pa_cons pe_int pa_nil))))) pss_nil)
    (pss_one (ps_ret (pe_op op_catT (pe_fld (pv 0) rfl) (pe_fld (pv 1) rfl))))))), ?_⟩
    have sz := sizeLine_eq
    rcases h with ⟨a, b, t, u, rfl, rfl, hA, hB, lt, lu, q, qx⟩ | ⟨⟨ty, ht, kt⟩, qb⟩ | ⟨⟨a, t, rfl, C, k1, _, _, qa⟩, ⟨ty, ht, kt⟩, qb⟩
    · obtain ⟨C, k1, l1, _, dx, fs, cp, jp, kp, cks, zs, ea, _, ec, hcp, hck, _⟩ := hA
      obtain ⟨D, k2, l2, _, dy, gs, cp2, jp2, kp2, cks2, zs2, eb, _, ec2, hcp2, hck2, _⟩ := hB
      have n1 := hck.len
      have n2 := hck2.len
      refine ⟨_, rfl, .ref a, .ref CQ, _, _, true, rfl, .own _, k1.ty ea, k1.sub, true, rfl, iteF ?_⟩
      refine ⟨_, rfl, .ref b, .ref CQ, _, _, true, rfl, .own _, k2.ty eb, k2.sub, true, rfl, iteF ?_⟩
      refine ⟨_, rfl, a, C, dx, fs, rfl, ea, l1, C, k1, a, dx, cp, fs, _, rfl, ea, ec, SqT.of hcp, _, rfl, by omega, by rw [List.length_map]; omega, ?_⟩
      refine ⟨_, rfl, b, D, dy, gs, rfl, eb, l2, D, k2, b, dy, cp2, gs, _, rfl, eb, ec2, SqT.of hcp2, _, rfl, by omega, by rw [List.length_map]; omega, ?_⟩
      refine ⟨_, _, rfl, rfl, _, _, rfl, rfl, _, rfl, ?_⟩
      rw [List.length_map, List.length_map, n1, n2]
      refine ite2 (fun c => ?_) (fun c => ?_)
      · have c : (20 : Int) < (t.caps.length : Int) + (u.caps.length : Int) := of_decide_eq_true c
        exact OwE.mk_err2 T_M.er.ox hwhat Er.most fun d hd => qx (by omega) H d (Same.refl _) hd
      · have c : t.caps.length + u.caps.length ≤ 20 := Nat.le_of_not_lt fun h => c (decide_eq_true (by show (20 : Int) < (t.caps.length : Int) + (u.caps.length : Int); omega))
        refine ⟨_, rfl, a, C, dx, fs, .ref cp, rfl, ea, k1.qc.cls, k1.qc.n2, ec, _, rfl, b, D, dy, gs, .ref cp2, rfl, eb, k2.qc.cls, k2.qc.n2, ec2, cp, cp2, _, _, rfl, rfl, SqT.of hcp, SqT.of hcp2, fun e => ?_, by rw [List.length_map, List.length_map]; omega, fun e => ?_, fun _ p hp => ?_⟩
        · have := caps_pos t
          have := congrArg List.length e
          rw [List.length_map] at this
          simp at this
          rw [this] at n1
          simp at n1
          omega
        · have := caps_pos u
          have := congrArg List.length e
          rw [List.length_map] at this
          simp at this
          rw [this] at n2
          simp at n2
          omega
        have s1 := Same.of_new (o := .tup (cks.map V.ref ++ cks2.map V.ref)) hp
        exact q c p (cks ++ cks2) _ s1 (by rw [List.map_append]; exact upd_same) (caps_app (hck.same s1) (hck2.same s1))
    · refine ⟨_, rfl, x, .ref CQ, ty, _, false, rfl, .own _, ht, kt, false, rfl, iteT ?_⟩
      exact OwE.mk_err1 T_B.er.ox hpart fun d hd => qb H d (Same.refl _) hd
    · obtain ⟨dx, fs, _, _, _, _, _, ea, _⟩ := qa
      refine ⟨_, rfl, .ref a, .ref CQ, _, _, true, rfl, .own _, k1.ty ea, k1.sub, true, rfl, iteF ?_⟩
      refine ⟨_, rfl, y, .ref CQ, ty, _, false, rfl, .own _, ht, kt, false, rfl, iteT ?_⟩
      exact OwE.mk_err1 T_B.er.ox hpart fun d hd => qb H d (Same.refl _) hd
end
end K10
end
section
set_option pp.maxSteps 400
set_option pp.deepTerms.threshold 6
/-! Both and Either made, & and |. -/
namespace K10
open PySem PySem.Spec PyProof.Rows L2
def JoinRow (K : PySem.W.Frag) (CQ fL fS C CU CT : Addr) (mk : QT → QT → QT) (H : Hp) (z : Addr) (x y : V) (Q : VK) (E : XK) : Prop :=
  (∃ (a b : Addr) (t u : QT), x = .ref a ∧ y = .ref b ∧ AnyP K CQ fL fS H a t ∧ AnyP K CQ fL fS H b u ∧ t.caps.length ≤ 20 ∧ u.caps.length ≤ 20 ∧ (t.kinds ++ u.kinds).length < 64 ∧ t.text.length ≤ 100000 ∧ u.text.length ≤ 100000 ∧
    (t.caps.length + u.caps.length ≤ 20 → ∀ H', But z H H' → QAt C H' z (mk t u) → PairOf C H' z x y → Q .non H') ∧
    (20 < t.caps.length + u.caps.length → ∀ H' d, But z H H' → H' d = none → E (.ref CT) (some d) (upd H' d (.xd manyXd)))) ∨
  (NoQ K CQ H x ∧ ∀ H' d, But z H H' → H' d = none → E (.ref CU) (some d) (upd H' d (.xd [("part", .str "first")]))) ∨
  ((∃ a t, x = .ref a ∧ AnyP K CQ fL fS H a t) ∧ NoQ K CQ H y ∧ ∀ H' d, But z H H' → H' d = none → E (.ref CU) (some d) (upd H' d (.xd [("part", .str "second")])))
def spJoin0 (K : PySem.W.Frag) (CQ fL fS C CU CT : Addr) (mk : QT → QT → QT) : Sp := fun vs H Q E => ∃ (z dx : Addr) (x y : V), vs = [.ref z, x, y] ∧ H z = some (.ins C dx []) ∧ JoinRow K CQ fL fS C CU CT mk H z x y Q E
/-- a new joint -/
def MadeJoin (K : PySem.W.Frag) (CQ fL fS C CU CT : Addr) (mk : QT → QT → QT) (H : Hp) (x y : V) (Q : VK) (E : XK) : Prop :=
  (∃ (a b : Addr) (t u : QT), x = .ref a ∧ y = .ref b ∧ AnyP K CQ fL fS H a t ∧ AnyP K CQ fL fS H b u ∧ t.caps.length ≤ 20 ∧ u.caps.length ≤ 20 ∧ (t.kinds ++ u.kinds).length < 64 ∧ t.text.length ≤ 100000 ∧ u.text.length ≤ 100000 ∧
    (t.caps.length + u.caps.length ≤ 20 → ∀ z H', H z = none → Same H H' → QAt C H' z (mk t u) → PairOf C H' z x y → Q (.ref z) H') ∧
    (20 < t.caps.length + u.caps.length → ∀ H' d, Same H H' → H' d = none → E (.ref CT) (some d) (upd H' d (.xd manyXd)))) ∨
  ((∀ H', Same H H' → NoQ K CQ H' x) ∧ ∀ H' d, Same H H' → H' d = none → E (.ref CU) (some d) (upd H' d (.xd [("part", .str "first")]))) ∨
  ((∃ a t, x = .ref a ∧ AnyP K CQ fL fS H a t) ∧ (∀ H', Same H H' → NoQ K CQ H' y) ∧ ∀ H' d, Same H H' → H' d = none → E (.ref CU) (some d) (upd H' d (.xd [("part", .str "second")])))
theorem MadeJoin.row {K : PySem.W.Frag} {CQ fL fS C CU CT : Addr} {mk : QT → QT → QT} {H H1 : Hp} {x y : V} {Q Q1 : VK} {E : XK} {z : Addr} (h : MadeJoin K CQ fL fS C CU CT mk H x y Q E) (hz : H z = none) (s : Same H H1) (b : ∀ H', But z H1 H' → (Q (.ref z) H' → Q1 .non H') ∧ Same H H') : JoinRow K CQ fL fS C CU CT mk H1 z x y Q1 E := by
  rcases h with ⟨a, c, t, u, rfl, rfl, h1, h2, l1, l2, lk, lt, lu, q, qx⟩ | ⟨n, q⟩ | ⟨⟨a, t, rfl, h1⟩, n, q⟩
  · exact .inl ⟨a, c, t, u, rfl, rfl, h1.same s, h2.same s, l1, l2, lk, lt, lu, fun e H' bt r p => (b H' bt).1 (q e z H' hz (b H' bt).2 r p), fun e H' d bt nd => qx e H' d (b H' bt).2 nd⟩
  · exact .inr (.inl ⟨n H1 s, fun H' d bt nd => q H' d (b H' bt).2 nd⟩)
  · exact .inr (.inr ⟨⟨a, t, rfl, h1.same s⟩, n H1 s, fun H' d bt nd => q H' d (b H' bt).2 nd⟩)
theorem made_join {K : PySem.W.Frag} {CQ fL fS C CU CT z dz : Addr} {mk : QT → QT → QT} {H : Hp} {x y : V} {Q : VK} {E : XK} (h : MadeJoin K CQ fL fS C CU CT mk H x y Q E) (h1 : H z = none) (h2 : H dz = none) :
    spJoin0 K CQ fL fS C CU CT mk [.ref z, x, y] (upd (upd H dz (.own z)) z (.ins C dz [])) (fun v G => v = .non ∧ Q (.ref z) G) E := by
  have s0 : Same H (upd (upd H dz (.own z)) z (.ins C dz [])) := fun b o e => by
    rw [upd_ne (ne_of_none e h1), upd_ne (ne_of_none e h2)]
    exact e
  exact ⟨z, dz, x, y, rfl, upd_same, h.row h1 s0 fun H' sb => ⟨fun q => ⟨rfl, q⟩, made_same h1 h2 sb⟩⟩
def spJoin (K : PySem.W.Frag) (CQ fL fS C CU CT : Addr) (mk : QT → QT → QT) : Sp := fun vs H Q E => ∃ x y : V, vs = [x, y] ∧ MadeJoin K CQ fL fS C CU CT mk H x y Q E
theorem spJoin0_len {K : PySem.W.Frag} {CQ fL fS C CU CT : Addr} {mk : QT → QT → QT} : ∀ vs H Q E, spJoin0 K CQ fL fS C CU CT mk vs H Q E → vs.length = (["self", "first", "second"] : List Str).length := fun vs H Q E h => by
  obtain ⟨z, dx, x, y, rfl, _⟩ := h
  rfl
section
variable {P : Program} {w : World} {K : PySem.W.Frag} {mg : Str → Option Value} {base : Heap}
abbrev nJ0 : List Str := ["self", "first", "second", "caps"]
theorem scBoth0 : FnScope nJ0 ["self", "first", "second"] (defScope sBoth0) := ⟨rfl, rfl, rfl, by decide +kernel, rfl, by decide +kernel, by decide +kernel⟩
theorem begin_both : (Str.empty ++ ("both " : Str)) = ("both " : Str) ∧ ("both " : Str).length ≤ 10 ∧ (" " : Str).length = 1 := by decide +kernel
theorem ok_both0 {C CQ CP fL fS CN CM CU CT f fJ fQ0 fP : Addr} {mQ mP : Value} {fd fdL fdS fdJ fdQ0 fdP : FuncData} (qk : QKind K CQ C) (n1 : NoAttr K C "_first") (n2 : NoAttr K C "_second") (F : Fun K "__init__" "Both.__init__" sBoth0 f fd) (FL : Fun K "__len__" "Quota.__len__" sQLen fL fdL) (FS : Fun K "__str__" "Quota.__str__" sQStr fS fdS)
    (FJ : Fun K "joined_caps" "joined_caps" sJoined fJ fdJ) (gJ : mg "joined_caps" = some (.ref fJ)) (FQ0 : Fun K "__init__" "Quota.__init__" sQuota0 fQ0 fdQ0) (gQ : mg "Quota" = some (.ref CQ)) (rQ : ClX.CRead K CQ mQ) (cQ : OwR.CFun K CQ mQ "__init__" fQ0)
    (FP : Fun K "__init__" "Pair.__init__" sPair0 fP fdP) (gP : mg "Pair" = some (.ref CP)) (rP : ClX.CRead K CP mP) (cP : OwR.CFun K CP mP "__init__" fP) (c : Chk P w K mg base) (Er : QErrs K mg CN CM CU CT) : FnOk P w K mg base (L2.CX P w) 4 f fd ["self", "first", "second"] (spJoin0 K CQ fL fS C CU CT QT.both) := by
  have GJ : FnOk P w K mg base (L2.CX P w) 3 fJ fdJ ["first", "second"] (spJC K CQ fL fS CU CT) := ok_jc FJ FL c.T gQ Er
  have bJ : Binds K fdJ ["first", "second"] [] := FJ.binds fun _ _ _ _ _ _ us hl => match us, hl with | [_, _], _ => rfl
  have GP : FnR P w K mg base CX0 1 fP (spPair0 K) := ok_pair0 FP
  have GQ : FnR P w K mg base CX0 2 fQ0 (spQuota0 C) := ok_quota0 qk.qc FQ0 c
  have GS : FnR P w K mg base CX0 1 fS (spQStr K CQ) := ok_qstr FS
  refine F.okX scBoth0 (fun vs H Q E h => ?_) (fun cdv A outer s H vs Q E hr h => ?_)
  · exact spJoin0_len vs H Q E h
  · obtain ⟨z, dx, x, y, rfl, hz, h⟩ := h
    have hr2 : Room 2 _ := hr.mono (by decide)
    have hr1 : Room 1 _ := hr.mono (by decide)
    have hu2 : (A.deeper (envOfC "Both.__init__" (defScope sBoth0) s.heap.objs.size f cdv)).units + 2 < cLine := by have := hr.units; omega
    refine ⟨_, (pss_cons (ps_set (i := 3) scBoth0.nd rfl (Or.inl rfl) (pe_call GJ hr (by rfl) gJ FJ.kp bJ .nil (passes_call (takes_of rfl rfl rfl rfl) (fun _ _ _ _ h => h)) (pa_cons (pv 1) (pa_cons (pv 2) pa_nil))))
    (pss_cons (ps_expr (OwR.pe_cfun (pe_glob (v := .ref CP) rfl gP rfl) rP cP GP hr1 pass0 (pa_cons (pv 0) (pa_cons (pv 1) (pa_cons (pv 2) pa_nil)))))
    (pss_one (ps_expr (OwR.pe_cfun (pe_glob (v := .ref CQ) rfl gQ rfl) rQ cQ GQ hr2 pass0 (pa_cons (pv 0) (pa_cons (pe_joined (PJ.cons pe_str (PJ.cons (OwR.pe_fmtO (pv 1) hu2 GS hr2 pass0) (PJ.cons pe_str (PJ.cons (OwR.pe_fmtO (pv 2) hu2 GS hr2 pass0) PJ.nil))))) (pa_cons (pv 3) (pa_cons (pe_op op_catT (pe_op op_catT (pe_fld (pv 1) rfl) (pe_fld (pv 2) rfl)) (pe_tup (pa_cons pe_str pa_nil))) pa_nil))))))))), ?_⟩
    have sz := sizeLine_eq
    rcases h with ⟨a, b, t, u, rfl, rfl, hA, hB, lt, lu, lk, tt, tu, q, qx⟩ | ⟨n, q⟩ | ⟨⟨a, t, rfl, hA⟩, n, q⟩
    rotate_left
    · exact ⟨_, rfl, _, rfl, x, y, rfl, .inr (.inl ⟨n, fun H' d s nd => q H' d (Same.but z s) nd⟩)⟩
    · exact ⟨_, rfl, _, rfl, _, y, rfl, .inr (.inr ⟨⟨a, t, rfl, hA⟩, n, fun H' d s nd => q H' d (Same.but z s) nd⟩)⟩
    refine ⟨_, rfl, _, rfl, _, _, rfl, .inl ⟨a, b, t, u, rfl, rfl, hA, hB, lt, lu, fun e p cks H1 s1 ep ck => ?_, fun e H' d s nd => qx e H' d (Same.but z s) nd⟩⟩
    refine ⟨rfl, _, rfl, _, rfl, _, rfl, z, C, dx, _, _, rfl, s1 _ _ hz, qk.qc.cls, n1, n2, fun fs l2 f1 f2 fb => ?_⟩
    have st2 : But z H (upd H1 z (.ins C dx fs)) := (Same.but z s1).trans But.at
    have ez2 : upd H1 z (.ins C dx fs) z = some (.ins C dx fs) := upd_same
    have ep2 : upd H1 z (.ins C dx fs) p = some (.tup (cks.map V.ref)) := by
      rw [upd_ne (fun q => by rw [q, s1 _ _ hz] at ep; cases ep)]
      exact ep
    have ck2 : CapsAt (upd H1 z (.ins C dx fs)) cks (t.caps ++ u.caps) := ck.mono fun k xs e => by
      rw [upd_ne (fun q => by rw [q, s1 _ _ hz] at e; cases e)]
      exact e
    obtain ⟨pa2, naz⟩ := hA.but hz st2
    obtain ⟨pb2, nbz⟩ := hB.but hz st2
    generalize upd H1 z (.ins C dx fs) = H2 at st2 ez2 ep2 ck2 pa2 pb2 ⊢
    obtain ⟨A1, k1, _, m1, dxa, fsa, cpa, jpa, kpa, cka, zsa, ea, tea, _, _, _, eja, hja, _⟩ := id pa2
    obtain ⟨B1, k2, _, m2, dxb, fsb, cpb, jpb, kpb, ckb, zsb, eb, teb, _, _, _, ejb, hjb, _⟩ := id pb2
    obtain ⟨b1, b2, b3⟩ := begin_both
    have lx : ∀ x y : Str, (x ++ y).length = x.length + y.length := fun x y => Str.length_append x y
    refine ⟨rfl, _, rfl, "both ", rfl, by rw [b1]; omega, ?_⟩
    rw [b1]
    refine ⟨_, rfl, a, A1, dxa, fsa, rfl, ea, m1, a, t, rfl, pa2.any, by omega, t.text, rfl, t.text, rfl, by rw [lx]; omega, " ", rfl, by rw [lx, lx]; omega, ?_⟩
    refine ⟨_, rfl, b, B1, dxb, fsb, rfl, eb, m2, b, u, rfl, pb2.any, by omega, u.text, rfl, u.text, rfl, by rw [lx, lx, lx]; omega, ?_⟩
    have ja := joints_len t
    have jb := joints_len u
    have ca := caps_pos t
    have cb := caps_pos u
    have nea : t.joints.map V.str ≠ [] := fun e => by
      have := congrArg List.length e
      rw [List.length_map, List.length_nil] at this
      omega
    have neb : u.joints.map V.str ≠ [] := fun e => by
      have := congrArg List.length e
      rw [List.length_map, List.length_nil] at this
      omega
    refine ⟨_, rfl, _, rfl, a, A1, dxa, fsa, .ref jpa, rfl, ea, k1.qc.cls, k1.qc.n3, eja, _, rfl, b, B1, dxb, fsb, .ref jpb, rfl, eb, k2.qc.cls, k2.qc.n3, ejb, jpa, jpb, _, _, rfl, rfl, SqT.of hja, SqT.of hjb, nea, by rw [List.length_map, List.length_map]; omega, fun e => absurd e neb, fun _ p3 hp3 => ?_⟩
    have s3 := Same.of_new (o := .tup (t.joints.map V.str ++ u.joints.map V.str)) hp3
    refine ⟨by show (1 : Nat) ≤ sizeLine; omega, fun p4 hp4 => ?_⟩
    have s4 := Same.of_new (o := .tup [.str "both"]) hp4
    refine ⟨p3, p4, _, _, rfl, rfl, SqT.of (s4 _ _ upd_same), SqT.of upd_same, fun e => nea (List.append_eq_nil_iff.mp e).1, by rw [List.length_append, List.length_map, List.length_map]; show t.joints.length + u.joints.length + 1 ≤ sizeLine; omega, fun e => (by cases e), fun _ p5 hp5 => ?_⟩
    have s5 := Same.of_new (o := .tup (t.joints.map V.str ++ u.joints.map V.str ++ [.str "both"])) hp5
    have s35 := (s3.trans s4).trans s5
    refine ⟨z, p, p5, dx, fs, cks, .both t u, rfl, s35 _ _ ez2, by omega, fb, s35 _ _ ep2, ck2.same s35, ?_, ?_, fun H' bt qa kq => ?_⟩
    · rw [upd_same]
      show _ = some (HO.tup ((t.joints ++ u.joints ++ [("both" : Str)]).map V.str))
      rw [List.map_append, List.map_append]
      rfl
    · show ((t.caps ++ u.caps).flatMap (·.2)).length < 64
      rw [List.flatMap_append]
      exact lk
    · obtain ⟨dx2, fs2, e2, kf⟩ := kq
      refine q e H' ((st2.trans (Same.but z s35)).trans bt) qa ⟨dx2, fs2, e2, ?_, ?_⟩
      · rw [kf "_first" (by decide +kernel) (by decide +kernel) (by decide +kernel) (by decide +kernel)]
        exact f1
      · rw [kf "_second" (by decide +kernel) (by decide +kernel) (by decide +kernel) (by decide +kernel)]
        exact f2
theorem scBothJ : FnScope ["self", "other"] ["self", "other"] (defScope sQAnd) := ⟨rfl, rfl, rfl, by decide +kernel, rfl, by decide +kernel, by decide +kernel⟩
theorem ok_bothJ {C CQ fL fS CU CT f fI : Addr} {fd : FuncData} (F : Fun K "__and__" "Quota.__and__" sQAnd f fd) (M : Mk K C fI) (gC : mg "Both" = some (.ref C)) (G0 : FnR P w K mg base (L2.CX P w) 4 fI (spJoin0 K CQ fL fS C CU CT QT.both)) : FnR P w K mg base (L2.CX P w) 6 f (spJoin K CQ fL fS C CU CT QT.both) := by
  refine OwR.raw0 (F.okX (k := 5) (ps := ["self", "other"]) scBothJ (fun vs H Q E h => ?_) (fun cdv A outer s H vs Q E hr h => ?_)) (F.binds fun _ _ _ _ _ _ us hl => match us, hl with | [_, _], _ => rfl)
  · obtain ⟨x, y, rfl, _⟩ := h
    rfl
  · obtain ⟨x, y, rfl, h⟩ := h
    refine ⟨_, (pss_one (ps_ret (StX.pe_makeR M G0 hr (by rfl) gC (passes_call (takes_of rfl rfl rfl rfl) (fun _ _ _ _ h => h)) (pa_cons (pv 0) (pa_cons (pv 1) pa_nil))))), ?_⟩
    exact ⟨_, rfl, _, rfl, fun z dz h1 h2 _ => made_join h h1 h2⟩
theorem scEither0 : FnScope nJ0 ["self", "first", "second"] (defScope sEither0) := ⟨rfl, rfl, rfl, by decide +kernel, rfl, by decide +kernel, by decide +kernel⟩
theorem begin_either : (Str.empty ++ ("either " : Str)) = ("either " : Str) ∧ ("either " : Str).length ≤ 10 ∧ (" " : Str).length = 1 := by decide +kernel
theorem ok_either0 {C CQ CP fL fS CN CM CU CT f fJ fQ0 fP : Addr} {mQ mP : Value} {fd fdL fdS fdJ fdQ0 fdP : FuncData} (qk : QKind K CQ C) (n1 : NoAttr K C "_first") (n2 : NoAttr K C "_second") (F : Fun K "__init__" "Either.__init__" sEither0 f fd) (FL : Fun K "__len__" "Quota.__len__" sQLen fL fdL) (FS : Fun K "__str__" "Quota.__str__" sQStr fS fdS)
    (FJ : Fun K "joined_caps" "joined_caps" sJoined fJ fdJ) (gJ : mg "joined_caps" = some (.ref fJ)) (FQ0 : Fun K "__init__" "Quota.__init__" sQuota0 fQ0 fdQ0) (gQ : mg "Quota" = some (.ref CQ)) (rQ : ClX.CRead K CQ mQ) (cQ : OwR.CFun K CQ mQ "__init__" fQ0)
    (FP : Fun K "__init__" "Pair.__init__" sPair0 fP fdP) (gP : mg "Pair" = some (.ref CP)) (rP : ClX.CRead K CP mP) (cP : OwR.CFun K CP mP "__init__" fP) (c : Chk P w K mg base) (Er : QErrs K mg CN CM CU CT) : FnOk P w K mg base (L2.CX P w) 4 f fd ["self", "first", "second"] (spJoin0 K CQ fL fS C CU CT QT.either) := by
  have GJ : FnOk P w K mg base (L2.CX P w) 3 fJ fdJ ["first", "second"] (spJC K CQ fL fS CU CT) := ok_jc FJ FL c.T gQ Er
  have bJ : Binds K fdJ ["first", "second"] [] := FJ.binds fun _ _ _ _ _ _ us hl => match us, hl with | [_, _], _ => rfl
  have GP : FnR P w K mg base CX0 1 fP (spPair0 K) := ok_pair0 FP
  have GQ : FnR P w K mg base CX0 2 fQ0 (spQuota0 C) := ok_quota0 qk.qc FQ0 c
  have GS : FnR P w K mg base CX0 1 fS (spQStr K CQ) := ok_qstr FS
  refine F.okX scEither0 (fun vs H Q E h => ?_) (fun cdv A outer s H vs Q E hr h => ?_)
  · exact spJoin0_len vs H Q E h
  · obtain ⟨z, dx, x, y, rfl, hz, h⟩ := h
    have hr2 : Room 2 _ := hr.mono (by decide)
    have hr1 : Room 1 _ := hr.mono (by decide)
    have hu2 : (A.deeper (envOfC "Either.__init__" (defScope sEither0) s.heap.objs.size f cdv)).units + 2 < cLine := by have := hr.units; omega
    refine ⟨_, (pss_cons (ps_set (i := 3) scEither0.nd rfl (Or.inl rfl) (pe_call GJ hr (by rfl) gJ FJ.kp bJ .nil (passes_call (takes_of rfl rfl rfl rfl) (fun _ _ _ _ h => h)) (pa_cons (pv 1) (pa_cons (pv 2) pa_nil))))
    (pss_cons (ps_expr (OwR.pe_cfun (pe_glob (v := .ref CP) rfl gP rfl) rP cP GP hr1 pass0 (pa_cons (pv 0) (pa_cons (pv 1) (pa_cons (pv 2) pa_nil)))))
    (pss_one (ps_expr (OwR.pe_cfun (pe_glob (v := .ref CQ) rfl gQ rfl) rQ cQ GQ hr2 pass0 (pa_cons (pv 0) (pa_cons (pe_joined (PJ.cons pe_str (PJ.cons (OwR.pe_fmtO (pv 1) hu2 GS hr2 pass0) (PJ.cons pe_str (PJ.cons (OwR.pe_fmtO (pv 2) hu2 GS hr2 pass0) PJ.nil))))) (pa_cons (pv 3) (pa_cons (pe_op op_catT (pe_op op_catT (pe_fld (pv 1) rfl) (pe_fld (pv 2) rfl)) (pe_tup (pa_cons pe_str pa_nil))) pa_nil))))))))), ?_⟩
    have sz := sizeLine_eq
    rcases h with ⟨a, b, t, u, rfl, rfl, hA, hB, lt, lu, lk, tt, tu, q, qx⟩ | ⟨n, q⟩ | ⟨⟨a, t, rfl, hA⟩, n, q⟩
    rotate_left
    · exact ⟨_, rfl, _, rfl, x, y, rfl, .inr (.inl ⟨n, fun H' d s nd => q H' d (Same.but z s) nd⟩)⟩
    · exact ⟨_, rfl, _, rfl, _, y, rfl, .inr (.inr ⟨⟨a, t, rfl, hA⟩, n, fun H' d s nd => q H' d (Same.but z s) nd⟩)⟩
    refine ⟨_, rfl, _, rfl, _, _, rfl, .inl ⟨a, b, t, u, rfl, rfl, hA, hB, lt, lu, fun e p cks H1 s1 ep ck => ?_, fun e H' d s nd => qx e H' d (Same.but z s) nd⟩⟩
    refine ⟨rfl, _, rfl, _, rfl, _, rfl, z, C, dx, _, _, rfl, s1 _ _ hz, qk.qc.cls, n1, n2, fun fs l2 f1 f2 fb => ?_⟩
    have st2 : But z H (upd H1 z (.ins C dx fs)) := (Same.but z s1).trans But.at
    have ez2 : upd H1 z (.ins C dx fs) z = some (.ins C dx fs) := upd_same
    have ep2 : upd H1 z (.ins C dx fs) p = some (.tup (cks.map V.ref)) := by
      rw [upd_ne (fun q => by rw [q, s1 _ _ hz] at ep; cases ep)]
      exact ep
    have ck2 : CapsAt (upd H1 z (.ins C dx fs)) cks (t.caps ++ u.caps) := ck.mono fun k xs e => by
      rw [upd_ne (fun q => by rw [q, s1 _ _ hz] at e; cases e)]
      exact e
    obtain ⟨pa2, naz⟩ := hA.but hz st2
    obtain ⟨pb2, nbz⟩ := hB.but hz st2
    generalize upd H1 z (.ins C dx fs) = H2 at st2 ez2 ep2 ck2 pa2 pb2 ⊢
    obtain ⟨A1, k1, _, m1, dxa, fsa, cpa, jpa, kpa, cka, zsa, ea, tea, _, _, _, eja, hja, _⟩ := id pa2
    obtain ⟨B1, k2, _, m2, dxb, fsb, cpb, jpb, kpb, ckb, zsb, eb, teb, _, _, _, ejb, hjb, _⟩ := id pb2
    obtain ⟨b1, b2, b3⟩ := begin_either
    have lx : ∀ x y : Str, (x ++ y).length = x.length + y.length := fun x y => Str.length_append x y
    refine ⟨rfl, _, rfl, "either ", rfl, by rw [b1]; omega, ?_⟩
    rw [b1]
    refine ⟨_, rfl, a, A1, dxa, fsa, rfl, ea, m1, a, t, rfl, pa2.any, by omega, t.text, rfl, t.text, rfl, by rw [lx]; omega, " ", rfl, by rw [lx, lx]; omega, ?_⟩
    refine ⟨_, rfl, b, B1, dxb, fsb, rfl, eb, m2, b, u, rfl, pb2.any, by omega, u.text, rfl, u.text, rfl, by rw [lx, lx, lx]; omega, ?_⟩
    have ja := joints_len t
    have jb := joints_len u
    have ca := caps_pos t
    have cb := caps_pos u
    have nea : t.joints.map V.str ≠ [] := fun e => by
      have := congrArg List.length e
      rw [List.length_map, List.length_nil] at this
      omega
    have neb : u.joints.map V.str ≠ [] := fun e => by
      have := congrArg List.length e
      rw [List.length_map, List.length_nil] at this
      omega
    refine ⟨_, rfl, _, rfl, a, A1, dxa, fsa, .ref jpa, rfl, ea, k1.qc.cls, k1.qc.n3, eja, _, rfl, b, B1, dxb, fsb, .ref jpb, rfl, eb, k2.qc.cls, k2.qc.n3, ejb, jpa, jpb, _, _, rfl, rfl, SqT.of hja, SqT.of hjb, nea, by rw [List.length_map, List.length_map]; omega, fun e => absurd e neb, fun _ p3 hp3 => ?_⟩
    have s3 := Same.of_new (o := .tup (t.joints.map V.str ++ u.joints.map V.str)) hp3
    refine ⟨by show (1 : Nat) ≤ sizeLine; omega, fun p4 hp4 => ?_⟩
    have s4 := Same.of_new (o := .tup [.str "either"]) hp4
    refine ⟨p3, p4, _, _, rfl, rfl, SqT.of (s4 _ _ upd_same), SqT.of upd_same, fun e => nea (List.append_eq_nil_iff.mp e).1, by rw [List.length_append, List.length_map, List.length_map]; show t.joints.length + u.joints.length + 1 ≤ sizeLine; omega, fun e => (by cases e), fun _ p5 hp5 => ?_⟩
    have s5 := Same.of_new (o := .tup (t.joints.map V.str ++ u.joints.map V.str ++ [.str "either"])) hp5
    have s35 := (s3.trans s4).trans s5
    refine ⟨z, p, p5, dx, fs, cks, .either t u, rfl, s35 _ _ ez2, by omega, fb, s35 _ _ ep2, ck2.same s35, ?_, ?_, fun H' bt qa kq => ?_⟩
    · rw [upd_same]
      show _ = some (HO.tup ((t.joints ++ u.joints ++ [("either" : Str)]).map V.str))
      rw [List.map_append, List.map_append]
      rfl
    · show ((t.caps ++ u.caps).flatMap (·.2)).length < 64
      rw [List.flatMap_append]
      exact lk
    · obtain ⟨dx2, fs2, e2, kf⟩ := kq
      refine q e H' ((st2.trans (Same.but z s35)).trans bt) qa ⟨dx2, fs2, e2, ?_, ?_⟩
      · rw [kf "_first" (by decide +kernel) (by decide +kernel) (by decide +kernel) (by decide +kernel)]
        exact f1
      · rw [kf "_second" (by decide +kernel) (by decide +kernel) (by decide +kernel) (by decide +kernel)]
        exact f2
theorem scEitherJ : FnScope ["self", "other"] ["self", "other"] (defScope sQOr) := ⟨rfl, rfl, rfl, by decide +kernel, rfl, by decide +kernel, by decide +kernel⟩
theorem ok_eitherJ {C CQ fL fS CU CT f fI : Addr} {fd : FuncData} (F : Fun K "__or__" "Quota.__or__" sQOr f fd) (M : Mk K C fI) (gC : mg "Either" = some (.ref C)) (G0 : FnR P w K mg base (L2.CX P w) 4 fI (spJoin0 K CQ fL fS C CU CT QT.either)) : FnR P w K mg base (L2.CX P w) 6 f (spJoin K CQ fL fS C CU CT QT.either) := by
  refine OwR.raw0 (F.okX (k := 5) (ps := ["self", "other"]) scEitherJ (fun vs H Q E h => ?_) (fun cdv A outer s H vs Q E hr h => ?_)) (F.binds fun _ _ _ _ _ _ us hl => match us, hl with | [_, _], _ => rfl)
  · obtain ⟨x, y, rfl, _⟩ := h
    rfl
  · obtain ⟨x, y, rfl, h⟩ := h
    refine ⟨_, (pss_one (ps_ret (StX.pe_makeR M G0 hr (by rfl) gC (passes_call (takes_of rfl rfl rfl rfl) (fun _ _ _ _ h => h)) (pa_cons (pv 0) (pa_cons (pv 1) pa_nil))))), ?_⟩
    exact ⟨_, rfl, _, rfl, fun z dz h1 h2 _ => made_join h h1 h2⟩
end
end K10
end
section
set_option pp.maxSteps 400
set_option pp.deepTerms.threshold 6
/-! All that quotas of the three classes are known by; their trees on the heap. -/
namespace OwR
open PySem PySem.Spec PyProof.Rows L2
section
variable {X : Cx} {CX : CXT} {k : Nat} {f C : Addr} {ks : List Str} {sp : List V → Sp} {E : XK} {x : Str} {p pos : Pos} {kws : List Keyword} {tk : TA}
/-- C(k = v), no positional argument -/
theorem pe_makeRK0 (M : Mk X.K C f) (F : FnRK X.prog X.w X.K X.mg X.base CX k f ks sp) (hr : Room (k + 1) X.A) (hg : Gl X x) (hm : X.mg x = some (.ref C)) (hx : Passes CX X E) (hkw : PK X kws tk)
    (hall : (backToKw pos (keywordEach kws X.env)).all (·.1.isSome) = true := by rfl) (hks : (backToKw pos (keywordEach kws X.env)).filterMap (·.1) = ks := by rfl) (hdb : (x == ("__debug__" : Str)) = false := by decide)
    (hpl : ((backTo pos (starEach [] X.env)).any (·.1) || (backToKw pos (keywordEach kws X.env)).any (·.1.isNone)) = false := by rfl) :
    PE X (.Call (.Name x p) [] kws pos) (tMakeRK C sp E tNil tk) := by
  refine ⟨fun pins s σ H Q I h => ?_⟩
  refine wpAny_Call_Name_kw (ld_glob I hg hm ?_ hdb)
  refine PySem.W.callWith_KW0 (h₀ := X.base) I.ok.mod.kin M.kp hall ?_ hpl
  refine thn (hkw.run pos pins s σ H _ I h) fun ws s2 ⟨zs, H2, I2, rz, q2⟩ => ⟨I2.kIn, ?_⟩
  rw [hks]
  exact run_makeRK (us := []) M F hr hx I2 .nil rz q2
end
end OwR
namespace K10
open PySem PySem.Spec PyProof.Rows L2
/-- where the parts of quotas stand -/
structure QAd where
  (CQ CC CB CE CP CN CM CU CT fL fS fA fO fE fK pK fBo gI fC fB0 fE0 fQ0 fP0 p1 f1 p2 f2 : Addr)
structure QOne (K : PySem.W.Frag) (a : QAd) (C : Addr) : Prop where
  qk : QKind K a.CQ C
  ln : OwR.Len1 K C a.fL
  fm : OwR.Fmt1 K C a.fS
  st : OwR.Str1 K C a.fS
  eq : OwR.Cmp1 K .Eq C a.fE
  ne : OwR.Ne1 K C a.fE
  inn : OwR.In1 K C a.gI
  pk : PropOf K C "kinds" a.pK a.fK
  mb : Meth K C "bounds" a.fBo
  an : OwR.Bin1 K .BitAnd C a.fA
  or_ : OwR.Bin1 K .BitOr C a.fO
/-- two classes of quotas: one, or neither above the other -/
structure QTwo (K : PySem.W.Frag) (C D : Addr) : Prop where
  bin : C = D ∨ (C ≠ D ∧ PySem.W.subIn K (.ref D) (.ref C) = some false)
  cmp : PySem.W.notFirst K C (.ref D) = true
structure QF (P : Program) (w : World) (K : PySem.W.Frag) (mg : Str → Option Value) (base : Heap) (a : QAd) : Prop where
  chk : Chk P w K mg base
  er : QErrs K mg a.CN a.CM a.CU a.CT
  one : ∀ C ∈ [a.CC, a.CB, a.CE], QOne K a C
  two : ∀ C ∈ [a.CC, a.CB, a.CE], ∀ D ∈ [a.CC, a.CB, a.CE], QTwo K C D
  hm : NoAttr K a.CC "most"
  n1B : NoAttr K a.CB "_first"
  n2B : NoAttr K a.CB "_second"
  n1E : NoAttr K a.CE "_first"
  n2E : NoAttr K a.CE "_second"
  gQ : mg "Quota" = some (.ref a.CQ)
  gC : mg "Cap" = some (.ref a.CC)
  gB : mg "Both" = some (.ref a.CB)
  gE : mg "Either" = some (.ref a.CE)
  gP : mg "Pair" = some (.ref a.CP)
  mkC : Mk K a.CC a.fC
  mkB : Mk K a.CB a.fB0
  mkE : Mk K a.CE a.fE0
  p1B : PropOf K a.CB "first" a.p1 a.f1
  p2B : PropOf K a.CB "second" a.p2 a.f2
  p1E : PropOf K a.CE "first" a.p1 a.f1
  p2E : PropOf K a.CE "second" a.p2 a.f2
  rQ : ClX.CRead K a.CQ (.type "type")
  cQ : OwR.CFun K a.CQ (.type "type") "__init__" a.fQ0
  rP : ClX.CRead K a.CP (.type "type")
  cP : OwR.CFun K a.CP (.type "type") "__init__" a.fP0
  dC : ∃ fd, Fun K "__init__" "Cap.__init__" sCap0 a.fC fd
  dB : ∃ fd, Fun K "__init__" "Both.__init__" sBoth0 a.fB0 fd
  dE : ∃ fd, Fun K "__init__" "Either.__init__" sEither0 a.fE0 fd
  dQ : ∃ fd, Fun K "__init__" "Quota.__init__" sQuota0 a.fQ0 fd
  dP : ∃ fd, Fun K "__init__" "Pair.__init__" sPair0 a.fP0 fd
  dL : ∃ fd, Fun K "__len__" "Quota.__len__" sQLen a.fL fd
  dS : ∃ fd, Fun K "__str__" "Quota.__str__" sQStr a.fS fd
  dA : ∃ fd, Fun K "__and__" "Quota.__and__" sQAnd a.fA fd
  dO : ∃ fd, Fun K "__or__" "Quota.__or__" sQOr a.fO fd
  dEq : ∃ fd, Fun K "__eq__" "Quota.__eq__" sQEq a.fE fd
  dK : ∃ fd, Fun K "kinds" "Quota.kinds" sQKinds a.fK fd
  dBo : ∃ fd, Fun K "bounds" "Quota.bounds" sQBounds a.fBo fd
  dI : ∃ fd, Fun K "__contains__" "Quota.__contains__" sQIn a.gI fd
  d1 : ∃ fd, Fun K "first" "Pair.first" sPair1 a.f1 fd
  d2 : ∃ fd, Fun K "second" "Pair.second" sPair2 a.f2 fd
  jc : ∃ f fd, mg "joined_caps" = some (.ref f) ∧ Fun K "joined_caps" "joined_caps" sJoined f fd
  cn : ∃ f fd, mg "check_names" = some (.ref f) ∧ Fun K "check_names" "check_names" sChkN f fd
  il : ∃ f fd, mg "is_let" = some (.ref f) ∧ Fun K "is_let" "is_let" sIsLet f fd
  ls : ∃ f fd, mg "lets_sums" = some (.ref f) ∧ Fun K "lets_sums" "lets_sums" sLets f fd
  n_zip : mg "zip" = none
  n_sum : mg "sum" = none
section
variable {P : Program} {w : World} {K : PySem.W.Frag} {mg : Str → Option Value} {base : Heap} {a : QAd}
theorem QF.cap (h : QF P w K mg base a) : QOne K a a.CC := h.one _ (by simp)
theorem QF.both (h : QF P w K mg base a) : QOne K a a.CB := h.one _ (by simp)
theorem QF.either (h : QF P w K mg base a) : QOne K a a.CE := h.one _ (by simp)
theorem QF.GC (h : QF P w K mg base a) : FnR P w K mg base (L2.CX P w) 4 a.fC (spCap K a.CC a.CN a.CM) := by
  obtain ⟨_, F⟩ := h.dC
  obtain ⟨_, FQ⟩ := h.dQ
  obtain ⟨_, _, g, FN⟩ := h.cn
  exact ok_cap0 h.cap.qk.qc h.hm F FQ h.gQ h.rQ h.cQ FN g h.chk h.er
theorem QF.GB (h : QF P w K mg base a) : FnR P w K mg base (L2.CX P w) 4 a.fB0 (spJoin0 K a.CQ a.fL a.fS a.CB a.CU a.CT QT.both) := by
  obtain ⟨_, F⟩ := h.dB
  obtain ⟨_, FQ⟩ := h.dQ
  obtain ⟨_, FP⟩ := h.dP
  obtain ⟨_, FL⟩ := h.dL
  obtain ⟨_, FS⟩ := h.dS
  obtain ⟨_, _, g, FJ⟩ := h.jc
  exact OwR.raw0 (ok_both0 h.both.qk h.n1B h.n2B F FL FS FJ g FQ h.gQ h.rQ h.cQ FP h.gP h.rP h.cP h.chk h.er) (F.binds fun _ _ _ _ _ _ us hl => match us, hl with | [_, _, _], _ => rfl)
theorem QF.GEk (h : QF P w K mg base a) : ∃ fd, Fun K "__init__" "Either.__init__" sEither0 a.fE0 fd ∧ FnOk P w K mg base (L2.CX P w) 4 a.fE0 fd ["self", "first", "second"] (spJoin0 K a.CQ a.fL a.fS a.CE a.CU a.CT QT.either) := by
  obtain ⟨_, F⟩ := h.dE
  obtain ⟨_, FQ⟩ := h.dQ
  obtain ⟨_, FP⟩ := h.dP
  obtain ⟨_, FL⟩ := h.dL
  obtain ⟨_, FS⟩ := h.dS
  obtain ⟨_, _, g, FJ⟩ := h.jc
  exact ⟨_, F, ok_either0 h.either.qk h.n1E h.n2E F FL FS FJ g FQ h.gQ h.rQ h.cQ FP h.gP h.rP h.cP h.chk h.er⟩
theorem QF.GE (h : QF P w K mg base a) : FnR P w K mg base (L2.CX P w) 4 a.fE0 (spJoin0 K a.CQ a.fL a.fS a.CE a.CU a.CT QT.either) := by
  obtain ⟨fd, F, G⟩ := h.GEk
  exact OwR.raw0 G (F.binds fun _ _ _ _ _ _ us hl => match us, hl with | [_, _, _], _ => rfl)
def spEitherK (K : PySem.W.Frag) (a : QAd) : List V → Sp := fun zs vs H Q E => ∃ (z : Addr) (x y : V), vs = [.ref z] ∧ zs = [y, x] ∧ spJoin0 K a.CQ a.fL a.fS a.CE a.CU a.CT QT.either [.ref z, x, y] H Q E
theorem QF.GEK (h : QF P w K mg base a) : OwR.FnRK P w K mg base (L2.CX P w) 4 a.fE0 ["second", "first"] (spEitherK K a) := by
  obtain ⟨fd, F, G⟩ := h.GEk
  obtain ⟨oc, od, kV, doc, pm, an, cdv, ct, osl, rfl, lk, hcd⟩ := F.ex
  intro A outer s H us ws vs zs Q E hr e0 r rz ⟨z, x, y, ev, ez, hj⟩
  subst ev ez
  match us, ws, r, rz with
  | [u1], [w1, w2], .cons r1 .nil, .cons r2 (.cons r3 .nil) => exact G.run A outer s H ⟨[u1], [("second", w1), ("first", w2)]⟩ [u1, w2, w1] [.ref z, x, y] Q E hr e0 (.of_eq rfl) (.cons r1 (.cons r3 (.cons r2 .nil))) hj
theorem QF.and_ (h : QF P w K mg base a) : FnR P w K mg base (L2.CX P w) 6 a.fA (spJoin K a.CQ a.fL a.fS a.CB a.CU a.CT QT.both) := by
  obtain ⟨_, F⟩ := h.dA
  exact ok_bothJ F h.mkB h.gB h.GB
theorem QF.or_ (h : QF P w K mg base a) : FnR P w K mg base (L2.CX P w) 6 a.fO (spJoin K a.CQ a.fL a.fS a.CE a.CU a.CT QT.either) := by
  obtain ⟨_, F⟩ := h.dO
  exact ok_eitherJ F h.mkE h.gE h.GE
theorem QF.len (h : QF P w K mg base a) : FnR P w K mg base CX0 1 a.fL (spLnQ K a.CQ) := by
  obtain ⟨_, F⟩ := h.dL
  exact ok_qlenA F h.chk.T
theorem QF.str (h : QF P w K mg base a) : FnR P w K mg base CX0 1 a.fS (spQStr K a.CQ) := by
  obtain ⟨_, F⟩ := h.dS
  exact ok_qstr F
theorem QF.eqQ (h : QF P w K mg base a) : FnR P w K mg base CX0 1 a.fE (spQEq K a.CQ) := by
  obtain ⟨_, F⟩ := h.dEq
  exact ok_qeq F h.chk.T h.gQ
theorem QF.eqO (h : QF P w K mg base a) : FnR P w K mg base CX0 1 a.fE (spQEqO K a.CQ) := by
  obtain ⟨_, F⟩ := h.dEq
  exact ok_qeqO F h.chk.T h.gQ
def spQInA (K : PySem.W.Frag) (CQ : Addr) : Sp := fun vs H Q E => ∃ C, QKind K CQ C ∧ spQIn K C vs H Q E
theorem QF.in_ (h : QF P w K mg base a) : FnR P w K mg base CX0 3 a.gI (spQInA K a.CQ) := by
  obtain ⟨_, F⟩ := h.dI
  obtain ⟨_, _, g1, F1⟩ := h.il
  obtain ⟨_, _, g2, F2⟩ := h.ls
  intro A outer s H us vs Q E hr e0 r ⟨C, k, hq⟩
  exact ok_qin k.qc F F2 g2 F1 g1 h.n_zip h.n_sum A outer s H us vs Q E hr e0 r hq
end
/-! ### trees -/
/-- the same tree, its kinds ascending -/
def SortOf : QT → QT → Prop
  | .cap m ks, .cap m' zs => m' = m ∧ zs.Perm ks ∧ sortedS zs = true
  | .both t u, .both t' u' => SortOf t t' ∧ SortOf u u'
  | .either t u, .either t' u' => SortOf t t' ∧ SortOf u u'
  | _, _ => False
/-- a quota of this tree, with all its parts -/
def QTr (a : QAd) (H : Hp) : QT → Addr → Prop
  | .cap m zs, q => CapAt a.CC H q m zs
  | .both t u, q => QAt a.CB H q (.both t u) ∧ ∃ f g, PairOf a.CB H q (.ref f) (.ref g) ∧ QTr a H t f ∧ QTr a H u g
  | .either t u, q => QAt a.CE H q (.either t u) ∧ ∃ f g, PairOf a.CE H q (.ref f) (.ref g) ∧ QTr a H t f ∧ QTr a H u g
theorem CapAt.mono {C q : Addr} {H H' : Hp} {m : Int} {zs : List Str} (h : CapAt C H q m zs) (s : ∀ k xs, H k = some (.tup xs) → H' k = some (.tup xs)) (s2 : ∀ k C dx fs, H k = some (.ins C dx fs) → H' k = some (.ins C dx fs)) : CapAt C H' q m zs := by
  obtain ⟨qa, dx, fs, e, l⟩ := h
  exact ⟨qa.mono s fun k dx fs e => s2 k _ dx fs e, dx, fs, s2 _ _ _ _ e, l⟩
theorem PairOf.mono {C q : Addr} {H H' : Hp} {x y : V} (h : PairOf C H q x y) (s2 : ∀ k C dx fs, H k = some (.ins C dx fs) → H' k = some (.ins C dx fs)) : PairOf C H' q x y := by
  obtain ⟨dx, fs, e, l⟩ := h
  exact ⟨dx, fs, s2 _ _ _ _ e, l⟩
theorem QTr.mono {a : QAd} {H H' : Hp} (s : ∀ k xs, H k = some (.tup xs) → H' k = some (.tup xs)) (s2 : ∀ k C dx fs, H k = some (.ins C dx fs) → H' k = some (.ins C dx fs)) : ∀ {t : QT} {q : Addr}, QTr a H t q → QTr a H' t q
  | .cap m zs, q, h => CapAt.mono h s s2
  | .both t u, q, ⟨h, f, g, p, h1, h2⟩ => ⟨h.mono s fun k dx fs e => s2 k _ dx fs e, f, g, p.mono s2, QTr.mono s s2 h1, QTr.mono s s2 h2⟩
  | .either t u, q, ⟨h, f, g, p, h1, h2⟩ => ⟨h.mono s fun k dx fs e => s2 k _ dx fs e, f, g, p.mono s2, QTr.mono s s2 h1, QTr.mono s s2 h2⟩
theorem QTr.same {a : QAd} {H H' : Hp} {t : QT} {q : Addr} (h : QTr a H t q) (s : Same H H') : QTr a H' t q := h.mono (fun _ _ e => s _ _ e) fun _ _ _ _ e => s _ _ e
/-- its class -/
def clsT (a : QAd) : QT → Addr
  | .cap _ _ => a.CC
  | .both _ _ => a.CB
  | .either _ _ => a.CE
theorem clsT_mem (a : QAd) : ∀ t : QT, clsT a t ∈ [a.CC, a.CB, a.CE]
  | .cap _ _ => by simp [clsT]
  | .both _ _ => by simp [clsT]
  | .either _ _ => by simp [clsT]
theorem QTr.qat {a : QAd} {H : Hp} : ∀ {t : QT} {q : Addr}, QTr a H t q → QAt (clsT a t) H q t
  | .cap m zs, q, h => h.1
  | .both t u, q, h => h.1
  | .either t u, q, h => h.1
theorem QTr.any {P : Program} {w : World} {K : PySem.W.Frag} {mg : Str → Option Value} {base : Heap} {a : QAd} {H : Hp} {t : QT} {q : Addr} (f : QF P w K mg base a) (h : QTr a H t q) : AnyP K a.CQ a.fL a.fS H q t :=
  ⟨_, (f.one _ (clsT_mem a t)).qk, (f.one _ (clsT_mem a t)).ln, (f.one _ (clsT_mem a t)).fm, h.qat⟩
/-! ### sizes -/
def SmallC (c : Int × List Str) : Prop := 0 ≤ c.1 ∧ c.1 ≤ 12 ∧ c.2.length ≤ 3 ∧ ∀ z ∈ c.2, z.length ≤ 8
theorem two_signs : ∀ m : Fin 13, (toString ((m.val : Nat) : Int) : Str).length ≤ 2 := by decide +kernel
theorem cap_text {c : Int × List Str} (h : SmallC c) : (QT.cap c.1 c.2).text.length ≤ 60 := by
  obtain ⟨m0, m1, l, g⟩ := h
  show (Txt.join " " (capWords c.1 c.2)).length ≤ 60
  rw [TL.join_eq]
  refine Nat.le_trans (StrLaws.join_length_le " " (capWords c.1 c.2)) ?_
  have e1 : ((" " : Str)).length = 1 := by decide +kernel
  have e2 : (("cap" : Str)).length = 3 := by decide +kernel
  have k1 := two_signs ⟨c.1.toNat, by omega⟩
  rw [show (((⟨c.1.toNat, by omega⟩ : Fin 13).val : Nat) : Int) = c.1 from Int.toNat_of_nonneg m0] at k1
  have k2 := two_signs ⟨c.2.length, by omega⟩
  have sm : ∀ ys : List Str, (∀ y ∈ ys, y.length ≤ 8) → (ys.map (·.length)).sum ≤ ys.length * 8 := fun ys => by
    induction ys with
    | nil => intro _; exact Nat.le_refl 0
    | cons y r ih =>
      intro h
      rw [List.map_cons, List.sum_cons, List.length_cons, Nat.succ_mul]
      have := ih fun z hz => h z (List.mem_cons_of_mem _ hz)
      have := h y List.mem_cons_self
      omega
  have := sm c.2 g
  have el : (capWords c.1 c.2).length = 3 + c.2.length := by simp [capWords]; omega
  have es : ((capWords c.1 c.2).map (·.length)).sum = 3 + ((toString c.1 : Str).length + ((toString ((c.2.length : Nat) : Int) : Str).length + (c.2.map (·.length)).sum)) := by
    simp [capWords, e2]
  rw [es, el, e1]
  have : (toString ((c.2.length : Nat) : Int) : Str).length ≤ 2 := k2
  omega
theorem joint_signs : ("both " : Str).length = 5 ∧ ("either " : Str).length = 7 ∧ (" " : Str).length = 1 := by decide +kernel
theorem text_len : ∀ t : QT, (∀ c ∈ t.caps, SmallC c) → t.text.length + 10 ≤ 70 * t.caps.length
  | .cap m ks, h => by
    have := cap_text (h (m, ks) (List.mem_singleton.mpr rfl))
    show (QT.cap m ks).text.length + 10 ≤ 70 * 1
    have : (QT.cap m ks).text.length ≤ 60 := this
    omega
  | .both t u, h => by
    have h1 := text_len t fun c hc => h c (List.mem_append_left _ hc)
    have h2 := text_len u fun c hc => h c (List.mem_append_right _ hc)
    obtain ⟨e1, e2, e3⟩ := joint_signs
    show ("both " ++ t.text ++ " " ++ u.text : Str).length + 10 ≤ 70 * (t.caps ++ u.caps).length
    rw [Str.length_append, Str.length_append, Str.length_append, List.length_append, e1, e3]
    omega
  | .either t u, h => by
    have h1 := text_len t fun c hc => h c (List.mem_append_left _ hc)
    have h2 := text_len u fun c hc => h c (List.mem_append_right _ hc)
    obtain ⟨e1, e2, e3⟩ := joint_signs
    show ("either " ++ t.text ++ " " ++ u.text : Str).length + 10 ≤ 70 * (t.caps ++ u.caps).length
    rw [Str.length_append, Str.length_append, Str.length_append, List.length_append, e2, e3]
    omega
theorem kinds_len (t : QT) (h : ∀ c ∈ t.caps, SmallC c) : t.kinds.length ≤ 3 * t.caps.length := by
  have key : ∀ cs : List (Int × List Str), (∀ c ∈ cs, SmallC c) → (cs.flatMap (·.2)).length ≤ 3 * cs.length := fun cs => by
    induction cs with
    | nil => intro _; exact Nat.le_refl 0
    | cons c r ih =>
      intro h
      have := ih fun d hd => h d (List.mem_cons_of_mem _ hd)
      have := (h c List.mem_cons_self).2.2.1
      rw [List.flatMap_cons, List.length_append, List.length_cons]
      omega
  exact key t.caps h
theorem SortOf.caps : ∀ {t t' : QT}, SortOf t t' → t'.caps.length = t.caps.length ∧ ((∀ c ∈ t.caps, SmallC c) → ∀ c ∈ t'.caps, SmallC c)
  | .cap m ks, .cap m' zs, ⟨e, pm, _⟩ => ⟨rfl, fun h c hc => by
    obtain ⟨h1, h2, h3, h4⟩ := h (m, ks) (List.mem_singleton.mpr rfl)
    have ec : c = (m', zs) := List.mem_singleton.mp hc
    subst ec e
    exact ⟨h1, h2, by rw [pm.length_eq]; exact h3, fun z hz => h4 z (pm.mem_iff.mp hz)⟩⟩
  | .both t u, .both t' u', ⟨h1, h2⟩ => by
    obtain ⟨a1, a2⟩ := SortOf.caps h1
    obtain ⟨b1, b2⟩ := SortOf.caps h2
    refine ⟨by show (t'.caps ++ u'.caps).length = (t.caps ++ u.caps).length; rw [List.length_append, List.length_append, a1, b1], fun h c hc => ?_⟩
    exact (List.mem_append.mp hc).elim (a2 (fun c hc => h c (List.mem_append_left _ hc)) c) (b2 (fun c hc => h c (List.mem_append_right _ hc)) c)
  | .either t u, .either t' u', ⟨h1, h2⟩ => by
    obtain ⟨a1, a2⟩ := SortOf.caps h1
    obtain ⟨b1, b2⟩ := SortOf.caps h2
    refine ⟨by show (t'.caps ++ u'.caps).length = (t.caps ++ u.caps).length; rw [List.length_append, List.length_append, a1, b1], fun h c hc => ?_⟩
    exact (List.mem_append.mp hc).elim (a2 (fun c hc => h c (List.mem_append_left _ hc)) c) (b2 (fun c hc => h c (List.mem_append_right _ hc)) c)
end K10
end
section
/-! Own: operators of own classes beside values of any built-in type; x op= y where the class has no method for it; lists of the same things. -/
namespace OwR
open PySem PySem.Spec PyProof.Rows L2
/-- no class above has the method -/
def noIn (K : PySem.W.Frag) (C : Addr) (i : Str) : Bool := (PySem.W.clsIn K C).any fun cd => cd.mro.all fun c => decide (PySem.W.findIn K c i = some none)
theorem none_fills {M : Model} {K : PySem.W.Frag} {h : Heap} {C : Addr} {nm : String} {add : Bool} (X : K.In h) (n : noIn K C (dunderI nm) = true) : PySem.W.Looks M h (fillsInplaceSlot (.ref C) nm add) false := by
  unfold noIn at n
  cases hc : PySem.W.clsIn K C with
  | none => rw [hc] at n; cases n
  | some cd =>
    rw [hc] at n
    have all : ∀ c ∈ cd.mro, PySem.W.findIn K c (dunderI nm) = some none := fun c m => of_decide_eq_true (List.all_eq_true.mp n c m)
    intro A Q E s k q
    have Lm : PySem.W.Looks M h (mroOf (.ref C)) cd.mro := (PySem.W.looks_clsIn X hc).andThen (f := fun cd => pure cd.mro) .now
    have Lm2 := Lm.keeps k
    have walk : ∀ (l : List Value) (f : Value → Sem Bool) (Q : Bool → Shared → Prop), (∀ c ∈ l, ∀ Q : Bool → Shared → Prop, Q false s → wpAny M A (f c) Q E s) → Q false s → wpAny M A (l.anyM f) Q E s := fun l f => by
      induction l with
      | nil => exact fun Q _ q => wpAny_pure q
      | cons c r ih =>
        intro Q hf q
        rw [List.anyM_cons]
        refine wpAny_bind (hf c List.mem_cons_self _ ?_)
        exact ih _ (fun d m => hf d (List.mem_cons_of_mem _ m)) q
    unfold fillsInplaceSlot
    refine wpAny_bind (Lm2.here ?_)
    refine walk _ _ _ (fun c m Q' q' => ?_) q
    have L1 : PySem.W.Looks M s.heap (typeLookup c (dunderI nm)) none := PySem.W.looks_findIn (X.keeps k) (all c m)
    exact wpAny_bind (L1.here (wpAny_pure q'))
section
variable {prog : Program} {w : World} {A : Around} {E : Value → Shared → Prop} {s : Shared} {K : PySem.W.Frag} {x C f : Addr} {ox : Obj} {od : Option Obj} {nm : String} {b : Value} {Q : Value → Shared → Prop}
/-- the operator's own method, b of the same class -/
theorem bin1_same (X : K.In s.heap) (I : PySem.W.InstAt s.heap x ox C od) (hb : PySem.W.Looks (model prog w) s.heap (typeOf b) (.ref C)) (cC : PySem.W.selfFirst K C = true) (sC : PySem.W.findIn K (.ref C) (PySem.dunder nm) = some (some (.ref f))) (hf : PySem.W.isFn K (.ref f) = true)
    (h : wpAny (model prog w) A (call (.ref f) [.ref x, b]) (PySem.W.CmpBack Q) E s) : wpAny (model prog w) A (binaryOp1 nm (.ref x) b) (fun r s' => ∃ v, r = some v ∧ Q v s') E s := by
  obtain ⟨c1, r1, k1, m1⟩ := PySem.W.ksp_first cC
  have one := PySem.W.ksp_try X I sC hf h
  obtain ⟨hp, gs, dr, tk, os⟩ := s
  have L1 : PySem.W.Looks (model prog w) hp (typeOf (.ref x)) (.ref C) := I.type
  have L2 : PySem.W.Looks (model prog w) hp (typeOf b) (.ref C) := hb
  have L3 : PySem.W.Looks (model prog w) hp (fillsNumberSlot (.ref C) nm) true := PySem.W.fills_K X k1 m1 sC
  unfold binaryOp1
  refine wpAny_bind (L1.at (wpAny_bind (L2.at (wpAny_bind (L3.at ?_)))))
  simp only [BEq.rfl, if_true]
  ksp_lk
  refine wpAny_mono one (fun r s' q => ?_) fun _ _ e => e
  obtain ⟨v, rfl, hq⟩ := q
  ksp_lk
  exact ⟨v, rfl, hq⟩
/-- .. b of another type, which is not below C -/
theorem bin1_other {tb : Value} {right py : Bool} {rc ro : Option Value} (X : K.In s.heap) (I : PySem.W.InstAt s.heap x ox C od) (hb : PySem.W.Looks (model prog w) s.heap (typeOf b) tb) (ne : (Value.ref C == tb) = false) (cC : PySem.W.selfFirst K C = true) (sC : PySem.W.findIn K (.ref C) (PySem.dunder nm) = some (some (.ref f)))
    (rC : PySem.W.findIn K (.ref C) (dunderR nm) = some rc) (pC : rc = none ∨ ∃ g : Addr, rc = some (.ref g)) (fb : PySem.W.Looks (model prog w) s.heap (fillsNumberSlot tb nm) right) (sub : PySem.W.subIn K tb (.ref C) = some false) (pb : PySem.W.Looks (model prog w) s.heap (numberSlotInPython tb nm) py)
    (rb : PySem.W.findIn K tb (dunderR nm) = some ro) (hf : PySem.W.isFn K (.ref f) = true) (h : wpAny (model prog w) A (call (.ref f) [.ref x, b]) (PySem.W.CmpBack Q) E s) : wpAny (model prog w) A (binaryOp1 nm (.ref x) b) (fun r s' => ∃ v, r = some v ∧ Q v s') E s := by
  obtain ⟨c1, r1, k1, m1⟩ := PySem.W.ksp_first cC
  have one := PySem.W.ksp_try X I sC hf h
  obtain ⟨hp, gs, dr, tk, os⟩ := s
  have L1 : PySem.W.Looks (model prog w) hp (typeOf (.ref x)) (.ref C) := I.type
  have L2 : PySem.W.Looks (model prog w) hp (typeOf b) tb := hb
  have L3 : PySem.W.Looks (model prog w) hp (fillsNumberSlot (.ref C) nm) true := PySem.W.fills_K X k1 m1 sC
  have L4 : PySem.W.Looks (model prog w) hp (fillsNumberSlot tb nm) right := fb
  have L5 : PySem.W.Looks (model prog w) hp (isSubtype tb (.ref C)) false := PySem.W.looks_subIn X sub
  have L6 : PySem.W.Looks (model prog w) hp (numberSlotInPython (.ref C) nm) true := PySem.W.ksp_inPy X sC rC pC
  have L7 : PySem.W.Looks (model prog w) hp (numberSlotInPython tb nm) py := pb
  have L8 : PySem.W.Looks (model prog w) hp (typeLookup tb (dunderR nm)) ro := PySem.W.looks_findIn X rb
  unfold binaryOp1
  refine wpAny_bind (L1.at (wpAny_bind (L2.at (wpAny_bind (L3.at ?_)))))
  simp only [ne, Bool.false_eq_true, if_false]
  cases right <;> cases py <;>
    (ksp_lk
     refine wpAny_mono one (fun r s' q => ?_) fun _ _ e => e
     obtain ⟨v, rfl, hq⟩ := q
     ksp_lk
     exact ⟨v, rfl, hq⟩)
/-- a op b by binaryOp1 -/
theorem bin_of1 {op : Operator} (h : wpAny (model prog w) A (binaryOp1 op.info.2 (.ref x) b) (fun r s' => ∃ v, r = some v ∧ Q v s') E s) : wpAny (model prog w) A (binaryOp op (.ref x) b) Q E s := by
  rcases hi : op.info with ⟨sym, n⟩
  rw [hi] at h
  simp only [binaryOp, hi]
  refine wpAny_holding (wpAny_bind (wpAny_mono h (fun r s' q => ?_) fun _ _ e => e))
  obtain ⟨v, rfl, hq⟩ := q
  ksp_lk
  exact hq
/-- a op= b by binaryOp1 -/
theorem iop_of1 {op : Operator} (X : K.In s.heap) (I : PySem.W.InstAt s.heap x ox C od) (n : noIn K C (dunderI op.info.2) = true) (h : wpAny (model prog w) A (binaryOp1 op.info.2 (.ref x) b) (fun r s' => ∃ v, r = some v ∧ Q v s') E s) : wpAny (model prog w) A (inplaceOp op (.ref x) b) Q E s := by
  have L1 : PySem.W.Looks (model prog w) s.heap (typeOf (.ref x)) (.ref C) := I.type
  have L2 : PySem.W.Looks (model prog w) s.heap (fillsInplaceSlot (.ref C) op.info.2 (op == .Add)) false := none_fills X n
  unfold inplaceOp
  refine wpAny_holding (wpAny_bind (L1.here (wpAny_bind (L2.here ?_))))
  simp only [Bool.false_eq_true, if_false]
  refine wpAny_bind (wpAny_mono h (fun r s' q => ?_) fun _ _ e => e)
  obtain ⟨v, rfl, hq⟩ := q
  ksp_lk
  exact hq
end
/-- a value's built-in type -/
inductive TyB (H : Hp) : V → String → Prop where
  | sc {y : V} {T : String} (h : tyS y = some T) : TyB H y T
  | lst {a : Addr} {xs : List V} (e : H a = some (.lst xs)) : TyB H (.ref a) "list"
  | tup {a : Addr} {xs : List V} (e : H a = some (.tup xs)) : TyB H (.ref a) "tuple"
  | dic {a : Addr} {kvs : List (Key × V)} (e : H a = some (.dK kvs)) : TyB H (.ref a) "dict"
section
variable {X : Cx} {CX : CXT} {k : Nat} {g : Addr} {sp : Sp} {E : XK} {op : Operator}
theorem TyB.looks {pins : List (Addr × Obj)} {σ : L2.St} {H : Hp} {s : Shared} {y : V} {u : Value} {T : String} {M : Model} (t : TyB H y T) (I : Inv X pins σ H s) (r : RelV y u) : PySem.W.Looks M s.heap (typeOf u) (.type T) := by
  have byRef : ∀ {a : Addr} {o : Obj}, s.heap.get? a = some o → o.cls = .type T → PySem.W.Looks M s.heap (typeOf (.ref a)) (.type T) := fun {a o} e c A Q E s k q => wpAny_typeOf_ref (k _ _ e) (by rw [c]; exact q)
  cases t with
  | sc h => exact PySem.W.Looks.of_pure (tyS_of r h)
  | @lst a xs e =>
    obtain rfl : u = Value.ref a := r
    obtain ⟨_, its, n, _, h1⟩ := (show ObjOk X.prog X.w H s.heap a (.lst xs) from I.hok a _ e)
    exact byRef h1 rfl
  | @tup a xs e =>
    obtain rfl : u = Value.ref a := r
    obtain ⟨_, its, _, ob, h1, c, _⟩ := (show ObjOk X.prog X.w H s.heap a (.tup xs) from I.hok a _ e)
    exact byRef h1 c
  | @dic a kvs e =>
    obtain rfl : u = Value.ref a := r
    obtain ⟨_, _, vs, _, ob, es, ep, h1, c, _⟩ := (show ObjOk X.prog X.w H s.heap a (.dK kvs) from I.hok a _ e)
    exact byRef h1 c.1
def rOwnB (K : PySem.W.Frag) (op : Operator) (g : Addr) (sp : Sp) (E : XK) : R2 := fun x y H Q => ∃ (p C dx : Addr) (fs : List (Str × V)) (T : String), x = .ref p ∧ H p = some (.ins C dx fs) ∧ TyB H y T ∧ Bin1 K op C g ∧ BinT K op C T ∧ sp [.ref p, y] H Q E
theorem one_B {pins : List (Addr × Obj)} {σ : L2.St} {H : Hp} {s : Shared} {Q : VK} {p C dx : Addr} {fs : List (Str × V)} {T : String} {y : V} {u : Value} (F : FnR X.prog X.w X.K X.mg X.base CX k g sp) (hr : Room k X.A) (hx : Passes CX X E) (I : Inv X pins σ H s) (ep : H p = some (.ins C dx fs)) (ty : TyB H y T) (b1 : Bin1 X.K op C g) (bT : BinT X.K op C T) (ry : RelV y u) (hq : sp [.ref p, y] H Q E) :
    wpAny (model X.prog X.w) X.A (binaryOp1 op.info.2 (.ref p) u) (fun r s' => ∃ v, r = some v ∧ EP X pins σ Q v s') X.xe s := by
  obtain ⟨ox, od, J, _⟩ := StX.insC_at I (.inr ⟨dx, fs, ep⟩)
  obtain ⟨rc, e1, e2⟩ := b1.refl
  obtain ⟨fo, e3⟩ := bT.f
  obtain ⟨ro, e4⟩ := bT.r
  exact bin1_other I.kIn J (ty.looks I ry) (Bool.eq_false_iff.mpr fun q => by cases beq_iff_eq.mp q) b1.self b1.at_ e1 e2 (PySem.W.ksp_fillsT I.kIn e3 e4) bT.sub (PySem.W.Looks.of_pure rfl) e4 b1.fn (run_own F hr hx I (us := [.ref p, u]) (vs := [.ref p, y]) (.cons rfl (.cons ry .nil)) hq)
theorem op_ownB (F : FnR X.prog X.w X.K X.mg X.base CX k g sp) (hr : Room k X.A) (hx : Passes CX X E) : OpR X (binaryOp op) (rOwnB X.K op g sp E) := by
  intro pins s σ H x y v u Q I rx ry h
  obtain ⟨p, C, dx, fs, T, rfl, ep, ty, b1, bT, hq⟩ := h
  obtain rfl : v = Value.ref p := rx
  exact bin_of1 (one_B F hr hx I ep ty b1 bT ry hq)
theorem op_ownBK {K : PySem.W.Frag} (h : X.K = K) (F : FnR X.prog X.w X.K X.mg X.base CX k g sp) (hr : Room k X.A) (hx : Passes CX X E) : OpR X (binaryOp op) (rOwnB K op g sp E) := by
  subst h
  exact op_ownB F hr hx
/-- x op= y, y of a built-in type -/
theorem in_ownB (F : FnR X.prog X.w X.K X.mg X.base CX k g sp) (hr : Room k X.A) (hx : Passes CX X E) : InOp X op (fun x y H Q => (∀ p, x = .ref p → ∀ C dx fs, H p = some (.ins C dx fs) → noIn X.K C (dunderI op.info.2) = true) ∧ rOwnB X.K op g sp E x y H Q) := by
  intro pins s σ H x y u v Q I rx ry ⟨ni, h⟩
  obtain ⟨p, C, dx, fs, T, rfl, ep, ty, b1, bT, hq⟩ := h
  obtain rfl : u = Value.ref p := rx
  obtain ⟨ox, od, J, _⟩ := StX.insC_at I (.inr ⟨dx, fs, ep⟩)
  exact iop_of1 I.kIn J (ni p rfl C dx fs ep) (one_B F hr hx I ep ty b1 bT ry hq)
/-- x op= y, both of own classes -/
theorem in_own2 (F : FnR X.prog X.w X.K X.mg X.base CX k g sp) (hr : Room k X.A) (hx : Passes CX X E) : InOp X op (fun x y H Q => (∀ p, x = .ref p → ∀ C dx fs, H p = some (.ins C dx fs) → noIn X.K C (dunderI op.info.2) = true) ∧ rOwn2 X.K op g sp E x y H Q) := by
  intro pins s σ H x y v u Q I rx ry ⟨ni, h⟩
  obtain ⟨p, q, C, D, dx, dy, fs, gs, rfl, rfl, ep, eq, ⟨b1, b2⟩, hq⟩ := h
  obtain rfl : v = Value.ref p := rx
  obtain rfl : u = Value.ref q := ry
  obtain ⟨ox, od, J, _⟩ := StX.insC_at I (.inr ⟨dx, fs, ep⟩)
  obtain ⟨oy, oe, J2, _⟩ := StX.insC_at I (.inr ⟨dy, gs, eq⟩)
  have go := run_own F hr hx I (us := [.ref p, .ref q]) (vs := [.ref p, .ref q]) (.cons rfl (.cons rfl .nil)) hq
  refine iop_of1 I.kIn J (ni p rfl C dx fs ep) ?_
  rcases b2 with rfl | ⟨⟨g', b2⟩, ne, sub⟩
  · exact bin1_same I.kIn J J2.type b1.self b1.at_ b1.fn go
  · obtain ⟨rc, e1, e2⟩ := b1.refl
    obtain ⟨rd, e3, e4⟩ := b2.refl
    obtain ⟨c2, r2, k2, m2⟩ := PySem.W.ksp_first b2.self
    exact bin1_other I.kIn J J2.type (Bool.eq_false_iff.mpr fun z => ne (by cases beq_iff_eq.mp z; rfl)) b1.self b1.at_ e1 e2 (PySem.W.fills_K I.kIn k2 m2 b2.at_) sub (PySem.W.ksp_inPy I.kIn b2.at_ e3 e4) e3 b1.fn go
end
/-! ### lists of the same things -/
def rNeRefs (K : PySem.W.Frag) : R2 := fun x y H Q => ∃ (a b : Addr) (rs : List Addr), x = .ref a ∧ y = .ref b ∧ SqL K H a (rs.map V.ref) ∧ SqL K H b (rs.map V.ref) ∧ Q (.bl false) H
theorem op_neRefs {X : Cx} (hu : X.A.units < cLine) : OpR X (compareOp .NotEq) (rNeRefs X.K) := by
  intro pins s σ H x y v u Q I rx ry h
  obtain ⟨a, b, rs, rfl, rfl, ha, hb, q⟩ := h
  obtain rfl : v = Value.ref a := rx
  obtain rfl : u = Value.ref b := ry
  obtain ⟨i1, r1, h1, _⟩ := I.list ha
  obtain ⟨i2, r2, h2, _⟩ := I.list hb
  have eqs : ∀ (rs : List Addr) (i1 i2 : List Value), Vals (rs.map V.ref) i1 → Vals (rs.map V.ref) i2 → i1 = i2 := fun rs => by
    induction rs with
    | nil =>
      intro i1 i2 r1 r2
      cases r1
      cases r2
      rfl
    | cons z zs ih =>
      intro i1 i2 r1 r2
      cases r1 with
      | cons e1 t1 =>
        cases r2 with
        | cons e2 t2 =>
          rw [show _ = Value.ref z from e1, show _ = Value.ref z from e2, ih _ _ t1 t2]
  have e := eqs rs i1 i2 r1 r2
  subst e
  refine SeqAt.RcNeAt.lists (e := fun _ => true) h1.isList h2.isList rfl hu (fun j _ _ => SeqAt.EqAt.same _) X.prog X.w X.xe _ ?_
  rw [show (List.range _).all (fun _ => true) = true from List.all_eq_true.mpr fun _ _ => rfl]
  exact ⟨.bl false, H, I, rfl, q⟩
end OwR
end
section
/-! Own: a lambda handed to a def of the text by its name; what stays meanwhile. -/
namespace OwE
open PySem PySem.Spec PyProof.Rows L2
theorem pe_lam {X : Cx} {x a q : Str} {sH : Stmt} {g c Pt : Addr} {gd : FuncData} {Ng : List Str} {TT : (XK → Hp → VK → Prop) → Hp → VK → Prop} {k : Nat} {params : Arguments} {body : Expr} {scope : Scope} {t : XK → TE} {p lpos pos : Pos}
    (hg : Gl X x) (F : Fun X.K x x sH g gd) (hm : X.mg x = some (.ref g)) (hb : L2.Binds X.K gd [a] []) (Sg : FnScope Ng [a] (defScope sH)) (hNg : Ng[0]? = some a) (hva : Vis (defScope sH) a) (hq : X.env.qual ++ "<lambda>" = q)
    (hG : ∀ cdv, LamX.GivesTo X Ng x (defScope sH) g cdv (defBody sH) a q TT) (TB : LamX.TabB X.base X.mg c Pt) (hcode : X.env.code = .ref c) (hr : Room (k + 2) X.A) (L : LamX.LamS X.env.scope scope)
    (hbody : ∀ (A : Around) (outer : List Env) (s : Shared) (H : Hp) (E : XK) (f c' : Addr), Room k (A.deeper (LamX.lamEnv X scope s.heap.objs.size f c')) → PE (LamX.lamCx X A outer s H E scope f c') body (t E))
    (hdef : defaultsOf params X.env = ([], []) := by rfl) (hbind : ∀ (q : Str) (cl : List (Str × Addr)) (pm cv ctv : Value), bindArgs (PySem.W.kla_fn "<lambda>" q params body scope cl pm cv ctv) ⟨[], []⟩ = pure [] := by intros; rfl)
    (hdb : (x == ("__debug__" : Str)) = false := by decide) (hd : (a == ("__debug__" : Str)) = false := by decide) (hcd : (a == ("__classdict__" : Str)) = false := by decide) :
    PE X (.Call (.Name x p) [.Lambda params body scope lpos] [] pos) (LamX.tLam [(Pt, q)] TT t) := by
  subst hq
  obtain ⟨oc, od, kV, doc, pm, an, cdv, ct, osl, rfl, lk, hcdv⟩ := F.ex
  exact LamX.pe_lamcall hg hm F.kp lk hcdv hb Sg hNg hva (hG cdv) TB hcode (List.mem_singleton.mpr rfl) (fun p hp _ => by rw [List.mem_singleton.mp hp]) hr L hdef hbind hbody hdb hd hcd
/-- what is wished may lean on the number of slots -/
theorem takes_len {X : Cx} {W : WX} (t : Takes X W) : Takes X (fun c d σ H => σ.length = X.N.length → W c d σ H) := fun u s' ⟨a, B, sI, pins, σ, H, cls, d, e, I, nb, up, sky, na, os, ag, w⟩ =>
  t u s' ⟨a, B, sI, pins, σ, H, cls, d, e, I, nb, up, sky, na, os, ag, w I.len⟩
theorem set_get {σ : L2.St} {n i : Nat} {v : Option V} (h : σ.length = n) (hi : i < n) : (σ.set i v)[i]? = some v := by
  rw [List.getElem?_set_self (by omega)]
end OwE
namespace K10
open PySem PySem.Spec PyProof.Rows L2
/-- all but the pen and the tables of code stay -/
def Lo (p : Addr) (H H' : Hp) : Prop := ∀ b o, b ≠ p → (∀ ps, o ≠ .tbl ps) → H b = some o → H' b = some o
theorem Lo.refl (p : Addr) (H : Hp) : Lo p H H := fun _ _ _ _ h => h
theorem Lo.trans {p : Addr} {H H1 H2 : Hp} (a : Lo p H H1) (b : Lo p H1 H2) : Lo p H H2 := fun c o n t h => b c o n t (a c o n t h)
theorem But.lo {p : Addr} {H H' : Hp} (s : But p H H') : Lo p H H' := fun b o n _ h => s b o n h
theorem Same.lo {H H' : Hp} (p : Addr) (s : Same H H') : Lo p H H' := fun b o _ _ h => s b o h
theorem extN_lo {H H' : Hp} (p : Addr) (s : LamX.ExtN H H') : Lo p H H' := fun b o _ t h => s b o h t
theorem PenAt.ext {H H' : Hp} {p c : Addr} {ns : List Int} {n : Nat} {z : Int} (P : PenAt H p c ns n z) (s : LamX.ExtN H H') : PenAt H' p c ns n z := ⟨s _ _ P.pen (fun ps h => by cases h), s _ _ P.cells (fun ps h => by cases h), P.few, P.rest⟩
theorem PenAt.lo {H H' : Hp} {p c : Addr} {ns : List Int} {n : Nat} {z : Int} (P : PenAt H p c ns n z) (s : Lo p H H') (hp : H' p = H p) : PenAt H' p c ns n z := ⟨hp.trans P.pen, s _ _ P.ne (fun ps h => by cases h) P.cells, P.few, P.rest⟩
theorem PenAt.ne_of {H : Hp} {p c : Addr} {ns : List Int} {n : Nat} {z : Int} (P : PenAt H p c ns n z) {b : Addr} {o : HO} (h : H b = Option.some o) (d : ∀ (c : Addr) (n z : Int), o ≠ .lst [.ref c, .int n, .int z]) : b ≠ p := fun q => by
  rw [q, P.pen] at h
  exact d _ _ _ (Option.some.inj h).symm
theorem tabs_but {T : List (Addr × Str)} {H H' : Hp} {p c : Addr} {ns : List Int} {n : Nat} {z : Int} (t : LamX.Tabs T H) (P : PenAt H p c ns n z) (s : But p H H') : LamX.Tabs T H' := fun e he => by
  obtain ⟨ps, h1, h2, h3⟩ := t e he
  have np : ∀ {b : Addr} {o : HO}, H b = some o → (∀ xs, o ≠ .lst xs) → b ≠ p := fun {b o} h d q => by
    rw [q, P.pen] at h
    exact d _ (Option.some.inj h).symm
  refine ⟨ps, s _ _ (np h1 fun xs h => by cases h) h1, h2, fun pos cv hc => ?_⟩
  obtain ⟨c2, e1, e2⟩ := h3 pos cv hc
  exact ⟨c2, e1, s _ _ (np e2 fun xs h => by
    unfold LamX.CodeO at h
    cases h) e2⟩
theorem tabs_put {T : List (Addr × Str)} {H : Hp} {l : Addr} {xs : List V} {o : HO} (t : LamX.Tabs T H) (h : H l = some (.lst xs)) : LamX.Tabs T (upd H l o) := fun e he => by
  obtain ⟨ps, h1, h2, h3⟩ := t e he
  have np : ∀ {b : Addr} {o : HO}, H b = some o → (∀ xs, o ≠ .lst xs) → b ≠ l := fun {b o} e d q => by
    rw [q, h] at e
    exact d _ (Option.some.inj e).symm
  refine ⟨ps, by rw [upd_ne (np h1 fun xs h => by cases h)]; exact h1, h2, fun pos cv hc => ?_⟩
  obtain ⟨c2, e1, e2⟩ := h3 pos cv hc
  have n2 : c2 ≠ l := np e2 fun xs h => by
    unfold LamX.CodeO at h
    cases h
  exact ⟨c2, e1, by rw [upd_ne n2]; exact e2⟩
theorem PenAt.lput {H : Hp} {p c l : Addr} {ns : List Int} {n : Nat} {z : Int} {s : Str} {xs : List V} {o : HO} (P : PenAt H p c ns n z) (nl : l ≠ p) (h : H l = Option.some (.lst (.str s :: xs))) : PenAt (upd H l o) p c ns n z := by
  refine P.put (Ne.symm nl) fun q => ?_
  rw [← q, P.cells] at h
  cases ns with
  | nil => cases h
  | cons a r => cases h
theorem tabs_same {T : List (Addr × Str)} {H H' : Hp} (t : LamX.Tabs T H) (s : Same H H') : LamX.Tabs T H' := t.ext fun b o h => s b o h
end K10
end
section
/-! Own: lambdas of several defs, each with its table; rules and rows where the pen moves. -/
namespace OwE
open PySem PySem.Spec PyProof.Rows L2
theorem pe_lamT {X : Cx} {T : List (Addr × Str)} {x a q : Str} {sH : Stmt} {g c Pt : Addr} {gd : FuncData} {Ng : List Str} {TT : (XK → Hp → VK → Prop) → Hp → VK → Prop} {k : Nat} {params : Arguments} {body : Expr} {scope : Scope} {t : XK → TE} {p lpos pos : Pos}
    (hg : Gl X x) (F : Fun X.K x x sH g gd) (hm : X.mg x = some (.ref g)) (hb : L2.Binds X.K gd [a] []) (Sg : FnScope Ng [a] (defScope sH)) (hNg : Ng[0]? = some a) (hva : Vis (defScope sH) a) (hq : X.env.qual ++ "<lambda>" = q)
    (hG : ∀ cdv, LamX.GivesTo X Ng x (defScope sH) g cdv (defBody sH) a q TT) (TB : LamX.TabB X.base X.mg c Pt) (hcode : X.env.code = .ref c) (mem : (Pt, q) ∈ T) (one : ∀ p ∈ T, p.1 = Pt → p.2 = q) (hr : Room (k + 2) X.A) (L : LamX.LamS X.env.scope scope)
    (hbody : ∀ (A : Around) (outer : List Env) (s : Shared) (H : Hp) (E : XK) (f c' : Addr), Room k (A.deeper (LamX.lamEnv X scope s.heap.objs.size f c')) → PE (LamX.lamCx X A outer s H E scope f c') body (t E))
    (hdef : defaultsOf params X.env = ([], []) := by rfl) (hbind : ∀ (q : Str) (cl : List (Str × Addr)) (pm cv ctv : Value), bindArgs (PySem.W.kla_fn "<lambda>" q params body scope cl pm cv ctv) ⟨[], []⟩ = pure [] := by intros; rfl)
    (hdb : (x == ("__debug__" : Str)) = false := by decide) (hd : (a == ("__debug__" : Str)) = false := by decide) (hcd : (a == ("__classdict__" : Str)) = false := by decide) :
    PE X (.Call (.Name x p) [.Lambda params body scope lpos] [] pos) (LamX.tLam T TT t) := by
  subst hq
  obtain ⟨oc, od, kV, doc, pm, an, cdv, ct, osl, rfl, lk, hcdv⟩ := F.ex
  exact LamX.pe_lamcall hg hm F.kp lk hcdv hb Sg hNg hva (hG cdv) TB hcode mem one hr L hdef hbind hbody hdb hd hcd
end OwE
namespace K10
open PySem PySem.Spec PyProof.Rows L2
section
variable {H H' : Hp} {p c : Addr} {ns : List Int} {n : Nat} {z : Int}
theorem lo_tup (P : PenAt H p c ns n z) (s : Lo p H H') {k : Addr} {xs : List V} (e : H k = some (.tup xs)) : H' k = some (.tup xs) := s k _ (fun q => by rw [q, P.pen] at e; cases e) (fun ps h => by cases h) e
theorem lo_ins (P : PenAt H p c ns n z) (s : Lo p H H') {k C dx : Addr} {fs : List (Str × V)} (e : H k = some (.ins C dx fs)) : H' k = some (.ins C dx fs) := s k _ (fun q => by rw [q, P.pen] at e; cases e) (fun ps h => by cases h) e
theorem lo_dK (P : PenAt H p c ns n z) (s : Lo p H H') {k : Addr} {kvs : List (Key × V)} (e : H k = some (.dK kvs)) : H' k = some (.dK kvs) := s k _ (fun q => by rw [q, P.pen] at e; cases e) (fun ps h => by cases h) e
theorem lo_refs (P : PenAt H p c ns n z) (s : Lo p H H') {k : Addr} {ks : List Addr} (e : H k = some (.lst (ks.map V.ref))) : H' k = some (.lst (ks.map V.ref)) := s k _ (P.ne_of e fun c n z h => by
  have h := HO.lst.inj h
  match ks, h with
  | [_, _, _], h => cases h) (fun ps h => by cases h) e
theorem PicksAt.lo {ks : List Addr} {ps : List Pk} (h : PicksAt H ks ps) (P : PenAt H p c ns n z) (s : Lo p H H') : PicksAt H' ks ps := h.mono fun k xs e => lo_tup P s e
theorem RuleAt.lo {C a : Addr} {ps : List Pk} (h : RuleAt C H a ps) (P : PenAt H p c ns n z) (s : Lo p H H') : RuleAt C H' a ps := by
  obtain ⟨dx, fs, q, ks, h1, h2, h3, h4, D, b, r, zs, m⟩ := h
  exact ⟨dx, fs, q, ks, lo_ins P s h1, h2, lo_tup P s h3, h4.lo P s, D, b, r, zs, m.lm, m.lk, m.lb, lo_dK P s m.eD, m.tb, lo_tup P s m.eb, m.nd, m.mem, m.srt⟩
end
end K10
end
section
set_option pp.maxSteps 400
set_option pp.deepTerms.threshold 6
namespace K10
open PySem PySem.Spec PyProof.Rows L2
abbrev sLC : Stmt := top 36
/-- a new cap of m over some kinds -/
def GoodCap (K : PySem.W.Frag) (C : Addr) (H : Hp) (m : Int) (zs : List Str) (Q : VK) : Prop := 0 ≤ m ∧ m ≤ 12 ∧ zs.Nodup ∧ (∀ b ∈ zs, nameB b = true ∧ b.length ≤ 1000) ∧ zs.length ≤ 4 ∧ ∀ a H' ys, H a = none → Same H H' → ys.Perm zs → sortedS ys = true → CapAt C H' a m ys → Q (.ref a) H'
theorem GoodCap.made {K : PySem.W.Frag} {C CN CM : Addr} {H H1 : Hp} {m : Int} {zs : List Str} {Q : VK} {E : XK} (h : GoodCap K C H m zs Q) (s : Same H H1) : MadeCap K C CN CM H1 (.int m) (zs.map V.str) Q E := by
  obtain ⟨m0, m1, nd, g, l, q⟩ := h
  refine ⟨by rw [List.length_map]; omega, .inl ⟨m, zs, rfl, m0, m1, rfl, nd, g, by omega, fun a H' ys ha s2 pm srt c => q a H' ys ?_ (s.trans s2) pm srt c⟩⟩
  cases e : H a with
  | none => rfl
  | some o =>
    have := s a o e
    rw [ha] at this
    cases this
theorem list1_ne (x : Str) : PyData.eqv (PyData.list [.str x]) (PyData.list []) = false := by simp [PyData.eqv, PyData.eqvAll]
def spLC (K : PySem.W.Frag) (C : Addr) : Sp := fun vs H Q _ => ∃ (l : Addr) (m : Int) (zs : List Str), vs = [.int m, .ref l] ∧ SqL K H l (zs.map V.str) ∧ GoodCap K C H m zs Q
section
variable {P : Program} {w : World} {K : PySem.W.Frag} {mg : Str → Option Value} {base : Heap}
abbrev nLC : List Str := ["_law_most", "_law_kinds"]
theorem scLC : FnScope nLC ["_law_most", "_law_kinds"] (defScope sLC) := ⟨rfl, rfl, rfl, by decide +kernel, rfl, by decide +kernel, by decide +kernel⟩
theorem ok_LC {C CN CM f fC : Addr} {fd : FuncData} (F : Fun K "_law_cap" "_law_cap" sLC f fd) (n_len : mg "len" = none) (mkC : Mk K C fC) (gC : mg "Cap" = some (.ref C)) (GC : FnR P w K mg base (L2.CX P w) 4 fC (spCap K C CN CM)) : FnOk P w K mg base (L2.CX P w) 6 f fd ["_law_most", "_law_kinds"] (spLC K C) := by
  refine F.okX scLC (fun vs H Q E h => ?_) (fun cdv A outer s H vs Q E hr h => ?_)
  · obtain ⟨l, m, zs, rfl, _⟩ := h
    rfl
  · obtain ⟨l, m, zs, rfl, sq, h⟩ := h
    have sz := sizeLine_eq
    have hl := h.2.2.2.2.1
    refine ⟨_, (pss_cons (ps_if (pt_cmpR op_lt (pe_callB call_len_seq (by rfl) n_len boot_len (pa_cons (pv 1) pa_nil)) pe_int (nomark _)) (pss_one (ps_ret (pe_ifExp (pt_cmpR (op_eqD hr.units) (pv 1) (pe_lst pa_nil) (nomark _)) (StX.pe_makeR mkC GC hr (by rfl) gC (passes_call (takes_of rfl rfl rfl rfl) (fun _ _ _ _ h => h)) (pa_cons (pv 0) pa_nil)) (StX.pe_makeR mkC GC hr (by rfl) gC (passes_call (takes_of rfl rfl rfl rfl) (fun _ _ _ _ h => h)) (pa_cons (pv 0) (pa_cons (pe_ix ix_list (pv 1) pe_int (fun _ _ => rfl)) pa_nil)))))) pss_nil)
    (pss_cons (ps_if (pt_cmpR op_eq (pe_callB call_len_seq (by rfl) n_len boot_len (pa_cons (pv 1) pa_nil)) pe_int (nomark _)) (pss_one (ps_ret (StX.pe_makeR mkC GC hr (by rfl) gC (passes_call (takes_of rfl rfl rfl rfl) (fun _ _ _ _ h => h)) (pa_cons (pv 0) (pa_cons (pe_ix ix_list (pv 1) pe_int (fun _ _ => rfl)) (pa_cons (pe_ix ix_list (pv 1) pe_int (fun _ _ => rfl)) pa_nil)))))) pss_nil)
    (pss_cons (ps_if (pt_cmpR op_eq (pe_callB call_len_seq (by rfl) n_len boot_len (pa_cons (pv 1) pa_nil)) pe_int (nomark _)) (pss_one (ps_ret (StX.pe_makeR mkC GC hr (by rfl) gC (passes_call (takes_of rfl rfl rfl rfl) (fun _ _ _ _ h => h)) (pa_cons (pv 0) (pa_cons (pe_ix ix_list (pv 1) pe_int (fun _ _ => rfl)) (pa_cons (pe_ix ix_list (pv 1) pe_int (fun _ _ => rfl)) (pa_cons (pe_ix ix_list (pv 1) pe_int (fun _ _ => rfl)) pa_nil))))))) pss_nil)
    (pss_one (ps_ret (StX.pe_makeR mkC GC hr (by rfl) gC (passes_call (takes_of rfl rfl rfl rfl) (fun _ _ _ _ h => h)) (pa_cons (pv 0) (pa_cons (pe_ix ix_list (pv 1) pe_int (fun _ _ => rfl)) (pa_cons (pe_ix ix_list (pv 1) pe_int (fun _ _ => rfl)) (pa_cons (pe_ix ix_list (pv 1) pe_int (fun _ _ => rfl)) (pa_cons (pe_ix ix_list (pv 1) pe_int (fun _ _ => rfl)) pa_nil))))))))))), ?_⟩
    match zs, hl with
    | [], _ =>
      refine ⟨_, rfl, l, _, rfl, .inl sq, _, _, rfl, rfl, _, rfl, ?_⟩
      refine iteT ?_
      refine ⟨_, rfl, by show (0 : Nat) ≤ sizeLine; omega, fun M hM => ?_⟩
      have sM := Same.of_new (o := .lst []) hM
      refine ⟨(PyData.list []), (PyData.list []), .lst (SqL.mono sq sM) .nil, .lst (SqL.of upd_same) .nil, OwD.shaped_nil, OwD.shaped_nil, _, rfl, ?_⟩
      rw [SeqAt.eqv_refl _ (SeqAt.canLay_of_shaped OwD.shaped_nil)]
      refine iteT ?_
      exact ⟨_, rfl, fun z dz h1 h2 nd => made_cap (h.made sM) h1 h2⟩
    | [x1], _ =>
      refine ⟨_, rfl, l, _, rfl, .inl sq, _, _, rfl, rfl, _, rfl, ?_⟩
      refine iteT ?_
      refine ⟨_, rfl, by show (0 : Nat) ≤ sizeLine; omega, fun M hM => ?_⟩
      have sM := Same.of_new (o := .lst []) hM
      refine ⟨(PyData.list [.str x1]), (PyData.list []), .lst (SqL.mono sq sM) (.cons (.str _) .nil), .lst (SqL.of upd_same) .nil, (shaped_strs (zs := [x1]) fun z hz => name_strOk (h.2.2.2.1 z hz).1), OwD.shaped_nil, _, rfl, ?_⟩
      rw [list1_ne]
      refine iteF ?_
      refine ⟨_, rfl, _, rfl, l, _, 0, _, rfl, rfl, SqL.mono sq sM, atI_nat (j := 0) rfl, ?_⟩
      exact fun z dz h1 h2 nd => made_cap (h.made sM) h1 h2
    | [x1, x2], _ =>
      refine ⟨_, rfl, l, _, rfl, .inl sq, _, _, rfl, rfl, _, rfl, ?_⟩
      refine iteF ?_
      refine ⟨_, rfl, l, _, rfl, .inl sq, rfl, _, rfl, ?_⟩
      refine ite2 (fun _ => ?_) (fun c => absurd (decide_eq_true rfl) c)
      refine ⟨_, rfl, _, rfl, l, _, 0, _, rfl, rfl, sq, atI_nat (j := 0) rfl, ?_⟩
      refine ⟨_, rfl, l, _, 1, _, rfl, rfl, sq, atI_nat (j := 1) rfl, ?_⟩
      exact fun z dz h1 h2 nd => made_cap (h.made (Same.refl _)) h1 h2
    | [x1, x2, x3], _ =>
      refine ⟨_, rfl, l, _, rfl, .inl sq, _, _, rfl, rfl, _, rfl, ?_⟩
      refine iteF ?_
      refine ⟨_, rfl, l, _, rfl, .inl sq, rfl, _, rfl, ?_⟩
      refine ite2 (fun c => absurd (V.int.inj (of_decide_eq_true c)) (by simp)) (fun _ => ?_)
      refine ⟨_, rfl, l, _, rfl, .inl sq, rfl, _, rfl, ?_⟩
      refine ite2 (fun _ => ?_) (fun c => absurd (decide_eq_true rfl) c)
      refine ⟨_, rfl, _, rfl, l, _, 0, _, rfl, rfl, sq, atI_nat (j := 0) rfl, ?_⟩
      refine ⟨_, rfl, l, _, 1, _, rfl, rfl, sq, atI_nat (j := 1) rfl, ?_⟩
      refine ⟨_, rfl, l, _, 2, _, rfl, rfl, sq, atI_nat (j := 2) rfl, ?_⟩
      exact fun z dz h1 h2 nd => made_cap (h.made (Same.refl _)) h1 h2
    | [x1, x2, x3, x4], _ =>
      refine ⟨_, rfl, l, _, rfl, .inl sq, _, _, rfl, rfl, _, rfl, ?_⟩
      refine iteF ?_
      refine ⟨_, rfl, l, _, rfl, .inl sq, rfl, _, rfl, ?_⟩
      refine ite2 (fun c => absurd (V.int.inj (of_decide_eq_true c)) (by simp)) (fun _ => ?_)
      refine ⟨_, rfl, l, _, rfl, .inl sq, rfl, _, rfl, ?_⟩
      refine ite2 (fun c => absurd (V.int.inj (of_decide_eq_true c)) (by simp)) (fun _ => ?_)
      refine ⟨_, rfl, _, rfl, l, _, 0, _, rfl, rfl, sq, atI_nat (j := 0) rfl, ?_⟩
      refine ⟨_, rfl, l, _, 1, _, rfl, rfl, sq, atI_nat (j := 1) rfl, ?_⟩
      refine ⟨_, rfl, l, _, 2, _, rfl, rfl, sq, atI_nat (j := 2) rfl, ?_⟩
      refine ⟨_, rfl, l, _, 3, _, rfl, rfl, sq, atI_nat (j := 3) rfl, ?_⟩
      exact fun z dz h1 h2 nd => made_cap (h.made (Same.refl _)) h1 h2
    | _ :: _ :: _ :: _ :: _ :: _, hl => exact absurd hl (by simp)
end
end K10
end
section
set_option pp.maxSteps 400
set_option pp.deepTerms.threshold 6
/-! The law's drawn names. -/
namespace K10
open PySem PySem.Spec PyProof.Rows L2
abbrev sWord : Stmt := top 34
abbrev sNames : Stmt := top 35
def spWord : Sp := fun vs H Q _ => ∃ (p c : Addr) (ns : List Int) (n : Nat) (z : Int), vs = [.ref p] ∧ PenAt H p c ns n z ∧ n + 20 < 100000 ∧ ∀ (w : Str) (n' : Nat) (z' : Int) (H' : Hp), nameB w = true → w.length ≤ 8 → n' ≤ n + 10 → PenAt H' p c ns n' z' → But p H H' → Q (.str w) H'
def spNames : Sp := fun vs H Q _ => ∃ (p c : Addr) (ns : List Int) (n : Nat) (z : Int) (k : Nat), vs = [.ref p, .int (k : Nat)] ∧ PenAt H p c ns n z ∧ n + 200 < 100000 ∧ 1 ≤ k ∧ k ≤ 10 ∧
  ∀ (r : Addr) (xs : List Str) (n' : Nat) (z' : Int) (H' : Hp), H r = none → r ≠ p → H' r = some (.lst (xs.map V.str)) → xs.Nodup → (∀ x ∈ xs, nameB x = true ∧ x.length ≤ 8) → 1 ≤ xs.length → xs.length ≤ k → n' ≤ n + 10 * k → PenAt H' p c ns n' z' → But p H H' → Q (.ref r) H'
theorem letters_two : (∀ c ∈ ("abcdefghijklmnopqrstuvwxyz" : Str).cps.toList, letter c = true) ∧ (∀ c ∈ ("aby" : Str).cps.toList, letter c = true) ∧ 0 < ("abcdefghijklmnopqrstuvwxyz" : Str).length ∧ ("abcdefghijklmnopqrstuvwxyz" : Str).length < 1000 ∧ 0 < ("aby" : Str).length ∧ ("aby" : Str).length < 1000 := by decide +kernel
theorem str_snoc (cs : List Nat) (x : Nat) : (⟨cs.toArray⟩ : Str) ++ (⟨#[x]⟩ : Str) = ⟨(cs ++ [x]).toArray⟩ := by
  show (⟨cs.toArray ++ #[x]⟩ : Str) = _
  congr 1
  simp
section
variable {P : Program} {w : World} {K : PySem.W.Frag} {mg : Str → Option Value} {base : Heap}
abbrev nWo : List Str := ["_law_pen_here", "_law_letters", "_law_word_here", "_law_turn"]
theorem scWo : FnScope nWo ["_law_pen_here"] (defScope sWord) := ⟨rfl, rfl, rfl, by decide +kernel, rfl, by decide +kernel, by decide +kernel⟩
theorem ok_word {f fD fP : Addr} {fd fdD fdP : FuncData} (F : Fun K "_law_word" "_law_word" sWord f fd) (T : Nm mg) (n_range : mg "range" = none) (FD : Fun K "_law_draw" "_law_draw" sDraw fD fdD) (gD : mg "_law_draw" = some (.ref fD)) (FP : Fun K "_law_pick" "_law_pick" sPick fP fdP) (gP : mg "_law_pick" = some (.ref fP)) : FnOk P w K mg base CX0 3 f fd ["_law_pen_here"] spWord := by
  have GD : FnOk P w K mg base CX0 1 fD fdD ["_law_pen_here", "_law_many"] spDraw := ok_draw FD T
  have bD : Binds K fdD ["_law_pen_here", "_law_many"] [] := FD.binds fun _ _ _ _ _ _ us hl => match us, hl with | [_, _], _ => rfl
  have GP : FnOk P w K mg base CX0 2 fP fdP ["_law_pen_here", "_law_some"] (spPick K) := ok_pick FP T FD gD
  have GS : FnOk P w K mg base CX0 2 fP fdP ["_law_pen_here", "_law_some"] spPickS := ok_pickS FP T FD gD
  have bP : Binds K fdP ["_law_pen_here", "_law_some"] [] := FP.binds fun _ _ _ _ _ _ us hl => match us, hl with | [_, _], _ => rfl
  refine F.ok scWo (fun vs H Q E h => ?_) (fun cdv A outer s H vs Q E hr h => ?_)
  · obtain ⟨p, c, ns, n, z, rfl, _⟩ := h
    rfl
  · obtain ⟨p, c, ns, n, z, rfl, hp, hn, q⟩ := h
    have hr1 : Room 1 _ := hr.mono (by decide)
    refine ⟨_, (pss_cons (ps_set (i := 1) scWo.nd rfl (Or.inl rfl) (pe_call GP hr (by rfl) gP FP.kp bP .nil pass0 (pa_cons (pv 0) (pa_cons (pe_lst (pa_cons pe_str (pa_cons pe_str pa_nil))) pa_nil))))
    (pss_cons (ps_set (i := 2) scWo.nd rfl (Or.inl rfl) pe_str)
    (pss_cons (ps_for PassesOwn.never rfl (pi_range1 rfl n_range (pa_cons (pe_op op_add pe_int (pe_call GD hr1 (by rfl) gD FD.kp bD .nil pass0 (pa_cons (pv 0) (pa_cons pe_int pa_nil)))) pa_nil)) (pg_name (i := 3) scWo.nd rfl (Or.inl rfl)) (pss_one (ps_set (i := 2) scWo.nd rfl (Or.inl rfl) (pe_op op_add_str (pv 2) (pe_call GS hr (by rfl) gP FP.kp bP .nil pass0 (pa_cons (pv 0) (pa_cons (pv 1) pa_nil)))))))
    (pss_one (ps_ret (pv 2)))))), ?_⟩
    have sz := sizeLine_eq
    refine ⟨_, rfl, by show (2 : Nat) ≤ sizeLine; omega, fun L hL => ?_⟩
    have sL := Same.of_new (o := .lst [.str "abcdefghijklmnopqrstuvwxyz", .str "aby"]) hL
    have nL : L ≠ p := fun e => hp.some (e ▸ hL)
    refine ⟨p, c, L, ns, n, z, _, rfl, hp.same sL, by omega, nL, SqL.of upd_same, by show 0 < 2; decide, by show 2 < 1000; decide, fun x n1 z1 H1 hx hn1 hp1 t1 => ?_⟩
    obtain ⟨l1, l2, a1, a2, a3, a4⟩ := letters_two
    obtain ⟨t, rfl, lt, t0, t9⟩ : ∃ t : Str, x = .str t ∧ (∀ c ∈ t.cps.toList, letter c = true) ∧ 0 < t.length ∧ t.length < 1000 := by
      simp only [List.mem_cons, List.not_mem_nil, or_false] at hx
      rcases hx with rfl | rfl
      · exact ⟨_, rfl, l1, a1, a2⟩
      · exact ⟨_, rfl, l2, a3, a4⟩
    have b1 : But p H H1 := (Same.but p sL).trans t1
    refine ⟨_, rfl, p, c, ns, n1, z1, 8, rfl, hp1, by omega, by decide, by decide +kernel, fun d n2 z2 H2 d0 d1 hn2 hp2 s2 => ⟨1, d, rfl, rfl, _, rfl, by omega, by omega, ?_⟩⟩
    have b2 := b1.trans s2
    refine for_it walk_range (fun i σ Hx => ∃ (cs : List Nat) (x3 : Option V) (n' : Nat) (z' : Int), σ = [some (.ref p), some (.str t), some (.str ⟨cs.toArray⟩), x3] ∧ cs.length = i ∧ (∀ c ∈ cs, letter c = true) ∧ PenAt Hx p c ns n' z' ∧ n' ≤ n + 2 + i ∧ But p H Hx)
      ⟨[], none, n2, z2, rfl, rfl, (fun c h => by cases h), hp2, by omega, b2⟩ (fun _ _ _ _ _ => True.intro) (fun i x σ Hx Hy hi q0 y => ?_) (fun σ Hx q0 => ?_)
    · obtain ⟨cs, x3, n', z', rfl, lc, al, pn, ln, bt⟩ := q0
      obtain ⟨rfl, ex⟩ := y
      refine ⟨_, rfl, _, rfl, _, rfl, p, c, ns, n', z', t, rfl, pn, by omega, t0, t9, fun x n3 z3 H3 hx hn3 hp3 s3 => ?_⟩
      refine ⟨_, _, rfl, rfl, ?_, ?_⟩
      · have e1 : (⟨cs.toArray⟩ : Str).length = cs.length := List.size_toArray
        have e2 : (⟨#[x]⟩ : Str).length = 1 := rfl
        rw [e1, e2]
        omega
      rw [str_snoc]
      refine ⟨cs ++ [x], _, n3, z3, rfl, by rw [List.length_append, lc]; rfl, fun c hc => ?_, hp3, by omega, bt.trans s3⟩
      rcases List.mem_append.mp hc with h | h
      · exact al c h
      · rw [List.mem_singleton.mp h]
        exact lt x hx
    · obtain ⟨cs, x3, n', z', rfl, lc, al, pn, ln, bt⟩ := q0
      have l8 : cs.length ≤ 8 := by omega
      have e1 : (⟨cs.toArray⟩ : Str).length = cs.length := List.size_toArray
      exact ⟨_, rfl, q _ n' z' Hx (letters_name (by omega) l8 al) (by rw [e1]; exact l8) (by omega) pn bt⟩
abbrev nNa : List Str := ["_law_pen_here", "_law_many", "_law_names_here", "_law_turn", "_law_name"]
theorem scNa : FnScope nNa ["_law_pen_here", "_law_many"] (defScope sNames) := ⟨rfl, rfl, rfl, by decide +kernel, rfl, by decide +kernel, by decide +kernel⟩
theorem ok_names {f fW : Addr} {fd fdW : FuncData} (F : Fun K "_law_names" "_law_names" sNames f fd) (n_range : mg "range" = none) (FW : Fun K "_law_word" "_law_word" sWord fW fdW) (gW : mg "_law_word" = some (.ref fW)) (GW : FnOk P w K mg base CX0 3 fW fdW ["_law_pen_here"] spWord) : FnOk P w K mg base CX0 4 f fd ["_law_pen_here", "_law_many"] spNames := by
  have bW : Binds K fdW ["_law_pen_here"] [] := FW.binds fun _ _ _ _ _ _ us hl => match us, hl with | [_], _ => rfl
  refine F.ok scNa (fun vs H Q E h => ?_) (fun cdv A outer s H vs Q E hr h => ?_)
  · obtain ⟨p, c, ns, n, z, k, rfl, _⟩ := h
    rfl
  · obtain ⟨p, c, ns, n, z, k, rfl, hp, hn, k1, k10, q⟩ := h
    refine ⟨_, (pss_cons (ps_set (i := 2) scNa.nd rfl (Or.inl rfl) (pe_lst pa_nil))
    (pss_cons (ps_for PassesOwn.never rfl (pi_range1 rfl n_range (pa_cons (pv 1) pa_nil)) (pg_name (i := 3) scNa.nd rfl (Or.inl rfl)) (pss_cons (ps_set (i := 4) scNa.nd rfl (Or.inl rfl) (pe_call GW hr (by rfl) gW FW.kp bW .nil pass0 (pa_cons (pv 0) pa_nil)))
    (pss_one (ps_if (pt_cmpR op_notIn_seq (pv 4) (pv 2) (by rfl)) (pss_one (ps_expr (pe_bm PySem.F.plainAttrs_list PySem.F.slot_list_append PySem.F.type_list_append mt_append (pv 2) (pa_cons (pv 4) pa_nil)))) pss_nil))))
    (pss_one (ps_ret (pv 2))))), ?_⟩
    have sz := sizeLine_eq
    refine ⟨Nat.zero_le _, fun L hL => ?_⟩
    have nL : L ≠ p := fun e => hp.some (e ▸ hL)
    have ncL : c ≠ L := ne_of_none hp.cells hL
    refine ⟨_, rfl, _, rfl, by omega, by omega, ?_⟩
    refine for_it walk_range (fun i σ Hx => ∃ (xs : List Str) (x3 x4 : Option V) (n' : Nat) (z' : Int), σ = [some (.ref p), some (.int (k : Nat)), some (.ref L), x3, x4] ∧ Hx L = some (.lst (xs.map V.str)) ∧ xs.Nodup ∧ (∀ x ∈ xs, nameB x = true ∧ x.length ≤ 8) ∧ xs.length ≤ i ∧ (1 ≤ i → 1 ≤ xs.length) ∧ PenAt Hx p c ns n' z' ∧ n' ≤ n + 10 * i ∧ But p H Hx)
      ⟨[], none, none, n, z, rfl, upd_same, List.nodup_nil, (fun x h => by cases h), Nat.le_refl 0, (fun h => absurd h (by decide)), hp.same (Same.of_new hL), Nat.le_refl _, But.new hL⟩ (fun _ _ _ _ _ => True.intro) (fun i x σ Hx Hy hi q0 y => ?_) (fun σ Hx q0 => ?_)
    · obtain ⟨xs, x3, x4, n', z', rfl, eL, nd, al, lx, l1, pn, ln, bt⟩ := q0
      obtain ⟨rfl, ex⟩ := y
      refine ⟨_, rfl, p, c, ns, n', z', rfl, pn, by omega, fun wd n3 z3 H3 nw lw hn3 hp3 s3 => ?_⟩
      have eL3 := s3 _ _ nL eL
      refine ⟨_, rfl, _, rfl, L, _, rfl, .inl (SqL.of eL3), rfl, flat_texts _, _, rfl, ?_⟩
      rw [if_pos rfl, in_texts]
      refine ite2 (fun c1 => ?_) (fun c1 => ?_)
      · have ni : wd ∉ xs := fun m => by
          rw [decide_eq_true m] at c1
          cases c1
        refine ⟨_, rfl, .inl ⟨rfl, _, SqL.of eL3⟩, _, rfl, L, _, _, rfl, rfl, eL3, by rw [List.length_map]; omega, xs ++ [wd], _, _, n3, z3, rfl, by rw [List.map_append]; exact upd_same, ?_, fun x hx => ?_, by rw [List.length_append]; show xs.length + 1 ≤ i + 1; omega, fun _ => by rw [List.length_append]; show 1 ≤ xs.length + 1; omega, hp3.put (Ne.symm nL) ncL, by omega, fun b o nb e => ?_⟩
        · exact List.nodup_append.mpr ⟨nd, by simp, fun a ha b hb => by rw [List.mem_singleton.mp hb]; exact fun e => ni (e ▸ ha)⟩
        · rcases List.mem_append.mp hx with h | h
          · exact al x h
          · rw [List.mem_singleton.mp h]
            exact ⟨nw, lw⟩
        · rw [upd_ne (ne_of_none e hL)]
          exact s3 b o nb (bt b o nb e)
      · have mi : wd ∈ xs := by
          by_cases m : wd ∈ xs
          · exact m
          · rw [decide_eq_false m] at c1
            exact absurd rfl c1
        exact ⟨xs, _, _, n3, z3, rfl, eL3, nd, al, by omega, fun _ => List.length_pos_of_mem mi, hp3, by omega, bt.trans s3⟩
    · obtain ⟨xs, x3, x4, n', z', rfl, eL, nd, al, lx, l1, pn, ln, bt⟩ := q0
      rw [Int.toNat_natCast] at lx l1 ln
      exact ⟨_, rfl, q L xs n' z' Hx hL nL eL nd al (l1 k1) lx ln pn bt⟩
end
end K10
end
section
set_option pp.maxSteps 400
set_option pp.deepTerms.threshold 6
/-! The law's drawn trees. -/
namespace K10
open PySem PySem.Spec PyProof.Rows L2
abbrev sTr : Stmt := top 37
/-- a tree as nested tuples -/
def TreeAt (H : Hp) : QT → Addr → Prop
  | .cap m ks, a => ∃ kl, H a = some (.tup [.str "cap", .int m, .ref kl]) ∧ H kl = some (.lst (ks.map V.str))
  | .both t u, a => ∃ l r, H a = some (.tup [.str "both", .ref l, .ref r]) ∧ TreeAt H t l ∧ TreeAt H u r
  | .either t u, a => ∃ l r, H a = some (.tup [.str "either", .ref l, .ref r]) ∧ TreeAt H t l ∧ TreeAt H u r
theorem TreeAt.mono {H H' : Hp} (s1 : ∀ k xs, H k = some (.tup xs) → H' k = some (.tup xs)) (s2 : ∀ (k : Addr) (ks : List Str), H k = some (.lst (ks.map V.str)) → H' k = some (.lst (ks.map V.str))) : ∀ {t : QT} {a : Addr}, TreeAt H t a → TreeAt H' t a
  | .cap m ks, a, ⟨kl, e1, e2⟩ => ⟨kl, s1 _ _ e1, s2 _ _ e2⟩
  | .both t u, a, ⟨l, r, e, h1, h2⟩ => ⟨l, r, s1 _ _ e, TreeAt.mono s1 s2 h1, TreeAt.mono s1 s2 h2⟩
  | .either t u, a, ⟨l, r, e, h1, h2⟩ => ⟨l, r, s1 _ _ e, TreeAt.mono s1 s2 h1, TreeAt.mono s1 s2 h2⟩
theorem TreeAt.same {H H' : Hp} {t : QT} {a : Addr} (h : TreeAt H t a) (s : Same H H') : TreeAt H' t a := h.mono (fun _ _ e => s _ _ e) fun _ _ e => s _ _ e
theorem strs_pen {H : Hp} {p c k : Addr} {ns : List Int} {n : Nat} {z : Int} {ks : List Str} (P : PenAt H p c ns n z) (e : H k = some (.lst (ks.map V.str))) : k ≠ p := fun q => by
  rw [q, P.pen] at e
  have h := HO.lst.inj (Option.some.inj e)
  match ks, h with
  | [], h => cases h
  | _ :: _, h => cases (List.cons.inj h).1
theorem tup_pen {H : Hp} {p c k : Addr} {ns : List Int} {n : Nat} {z : Int} {xs : List V} (P : PenAt H p c ns n z) (e : H k = some (.tup xs)) : k ≠ p := fun q => by
  rw [q, P.pen] at e
  cases e
theorem TreeAt.but {H H' : Hp} {t : QT} {a p c : Addr} {ns : List Int} {n : Nat} {z : Int} (h : TreeAt H t a) (P : PenAt H p c ns n z) (s : But p H H') : TreeAt H' t a := h.mono (fun _ _ e => s _ _ (tup_pen P e) e) fun _ _ e => s _ _ (strs_pen P e) e
/-- what is drawn -/
def GoodT (xs : List Str) (top : Int) (t : QT) : Prop := ∀ c ∈ t.caps, 0 ≤ c.1 ∧ c.1 ≤ top ∧ c.2.Nodup ∧ (∀ z ∈ c.2, z ∈ xs) ∧ c.2.length ≤ xs.length
def spTr (K : PySem.W.Frag) : Nat → Sp
  | 0 => fun _ _ _ _ => False
  | d + 1 => fun vs H Q _ => ∃ (p c : Addr) (ns : List Int) (n : Nat) (z : Int) (nl : Addr) (xs : List Str) (many : Nat) (top : Int), vs = [.ref p, .ref nl, .int (many : Nat), .int top] ∧ PenAt H p c ns n z ∧ n + 10 * many + 10 < 100000 ∧ H nl = some (.lst (xs.map V.str)) ∧ xs.Nodup ∧ xs.length ≤ 3 ∧ 1 ≤ many ∧ many ≤ d + 1 ∧ many ≤ 50 ∧ 0 ≤ top ∧ top ≤ 12 ∧
    ∀ (a : Addr) (t : QT) (n' : Nat) (z' : Int) (H' : Hp), TreeAt H' t a → t.caps.length = many → GoodT xs top t → n' + 2 ≤ n + 6 * many → PenAt H' p c ns n' z' → But p H H' → Q (.ref a) H'
section
variable {P : Program} {w : World} {K : PySem.W.Frag} {mg : Str → Option Value} {base : Heap}
abbrev nTr : List Str := ["_law_pen_here", "_law_names_here", "_law_many", "_law_most", "_law_kinds", "_law_name", "_law_word_here", "_law_left"]
theorem scTr : FnScope nTr ["_law_pen_here", "_law_names_here", "_law_many", "_law_most"] (defScope sTr) := ⟨rfl, rfl, rfl, by decide +kernel, rfl, by decide +kernel, by decide +kernel⟩
theorem ok_Tr {f fD fP : Addr} {fd fdD fdP : FuncData} (F : Fun K "_law_tree" "_law_tree" sTr f fd) (g_tree : mg "_law_tree" = some (.ref f)) (T : Nm mg) (F_draw : Fun K "_law_draw" "_law_draw" sDraw fD fdD) (g_draw : mg "_law_draw" = some (.ref fD)) (F_pick : Fun K "_law_pick" "_law_pick" sPick fP fdP) (g_pick : mg "_law_pick" = some (.ref fP)) : ∀ d : Nat, FnOk P w K mg base CX0 (d + 2) f fd ["_law_pen_here", "_law_names_here", "_law_many", "_law_most"] (spTr K d)
  | 0 => by
    exact F.ok scTr (fun vs H Q E h => h.elim) (fun cdv A outer s H vs Q E hr h => h.elim)
  | d + 1 => by
    have G_tree := ok_Tr F g_tree T F_draw g_draw F_pick g_pick d
    have b_tree : Binds K fd ["_law_pen_here", "_law_names_here", "_law_many", "_law_most"] [] := F.binds fun _ _ _ _ _ _ us hl => match us, hl with | [_, _, _, _], _ => rfl
    have G_draw : FnOk P w K mg base CX0 1 fD fdD ["_law_pen_here", "_law_many"] spDraw := ok_draw F_draw T
    have b_draw : Binds K fdD ["_law_pen_here", "_law_many"] [] := F_draw.binds fun _ _ _ _ _ _ us hl => match us, hl with | [_, _], _ => rfl
    have G_pick : FnOk P w K mg base CX0 2 fP fdP ["_law_pen_here", "_law_some"] (spPick K) := ok_pick F_pick T F_draw g_draw
    have b_pick : Binds K fdP ["_law_pen_here", "_law_some"] [] := F_pick.binds fun _ _ _ _ _ _ us hl => match us, hl with | [_, _], _ => rfl
    refine F.ok scTr (fun vs H Q E h => ?_) (fun cdv A outer s H vs Q E hr h => ?_)
    · obtain ⟨p, c, ns, n, z, nl, xs, many, top, rfl, _⟩ := h
      rfl
    · obtain ⟨p, c, ns, n, z, nl, xs, many, top, rfl, hp, hn, hnl, ndx, lx, m1, md, m50, t0, t12, q⟩ := h
      have hr2 : Room 2 _ := hr.mono (by omega)
      have hr1 : Room 1 _ := hr.mono (by omega)
      refine ⟨_, (pss_cons (ps_if (pt_cmpR op_eq (pv 2) pe_int (nomark _)) (pss_cons (ps_setLc (i := 4) (own := [("_law_name", 5)]) (by rfl) scTr.nd rfl rfl (sw_true rfl rfl rfl (by decide +kernel)) (pi_list (pv 1)) (blkOk_by (own := [("_law_name", 5)]) (N := nTr) (sc := defScope sTr) (by decide +kernel)) (fun _ _ _ _ _ => (pg_name (i := 5) scTr.nd rfl (Or.inl rfl))) (fun _ _ _ _ _ => pts_one (pt_cmpR op_eq (pe_call G_draw hr1 (by rfl) g_draw F_draw.kp b_draw .nil pass0 (pa_cons (pv 0) (pa_cons pe_int pa_nil))) pe_int (nomark _))) (fun _ _ _ _ _ => (pv 5)))
    (pss_one (ps_ret (pe_tup (pa_cons pe_str (pa_cons (pe_call G_draw hr1 (by rfl) g_draw F_draw.kp b_draw .nil pass0 (pa_cons (pv 0) (pa_cons (pe_op op_add (pv 3) pe_int) pa_nil))) (pa_cons (pv 4) pa_nil))))))) pss_nil)
    (pss_cons (ps_par (i := 6) (j := 7) (by rfl) scTr.nd rfl rfl (by decide) rfl rfl (pa_cons (pe_call G_pick hr2 (by rfl) g_pick F_pick.kp b_pick .nil pass0 (pa_cons (pv 0) (pa_cons (pe_lst (pa_cons pe_str (pa_cons pe_str pa_nil))) pa_nil))) (pa_cons (pe_op op_add pe_int (pe_call G_draw hr1 (by rfl) g_draw F_draw.kp b_draw .nil pass0 (pa_cons (pv 0) (pa_cons (pe_op op_sub (pv 2) pe_int) pa_nil)))) pa_nil)) (by rfl))
    (pss_one (ps_ret (pe_tup (pa_cons (pv 6) (pa_cons (pe_call G_tree hr (by rfl) g_tree F.kp b_tree .nil pass0 (pa_cons (pv 0) (pa_cons (pv 1) (pa_cons (pv 7) (pa_cons (pv 3) pa_nil))))) (pa_cons (pe_call G_tree hr (by rfl) g_tree F.kp b_tree .nil pass0 (pa_cons (pv 0) (pa_cons (pv 1) (pa_cons (pe_op op_sub (pv 2) (pv 7)) (pa_cons (pv 3) pa_nil))))) pa_nil)))))))), ?_⟩
      have sz := sizeLine_eq
      have big : ∀ i : Int, 0 ≤ i → i ≤ 100 → i.natAbs < 2 ^ 1000 := fun i h0 h1 => Nat.lt_of_le_of_lt (show i.natAbs ≤ 100 by omega) (by decide +kernel)
      have nnl := strs_pen hp hnl
      refine ⟨_, rfl, rfl, _, rfl, ?_⟩
      refine ite2 (fun c1 => ?_) (fun c1 => ?_)
      · have e1 : many = 1 := by
          have := V.int.inj (of_decide_eq_true c1)
          omega
        subst e1
        refine ⟨_, rfl, nl, rfl, ⟨_, SqL.of hnl⟩, fun L hL => ?_⟩
        have nL : L ≠ p := fun e => hp.some (e ▸ hL)
        have ncL : c ≠ L := ne_of_none hp.cells hL
        have sL := Same.of_new (o := .lst []) hL
        refine lc_it (walk_list (xs := xs.map V.str)) (fun i Hx => ∃ (ks : List Str) (n' : Nat) (z' : Int), Hx L = some (.lst (ks.map V.str)) ∧ ks.Sublist (xs.take i) ∧ PenAt Hx p c ns n' z' ∧ n' ≤ n + i ∧ But p H Hx) ⟨[], n, z, upd_same, List.nil_sublist _, hp.same sL, by omega, Same.but p sL⟩ (fun i Hx _ q => by
          obtain ⟨_, _, _, _, _, _, _, bt⟩ := q
          exact SqL.of (bt _ _ nnl hnl)) (fun i x Hx Hy hi q0 y => ?_) (fun Hx q0 => ?_)
        · obtain ⟨ks, n', z', eL, sub, pn, ln, bt⟩ := q0
          obtain ⟨rfl, hx⟩ := y
          rw [List.getElem?_map] at hx
          obtain ⟨nm, hnm, rfl⟩ := Option.map_eq_some_iff.mp hx
          rw [List.length_map] at hi
          have tk : xs.take (i + 1) = xs.take i ++ [nm] := by
            rw [List.take_add_one, hnm]
            rfl
          have lk : ks.length ≤ 3 := by
            have := sub.length_le
            rw [List.length_take] at this
            omega
          refine ⟨rfl, ?_⟩
          refine ⟨_, rfl, p, c, ns, n', z', 2, rfl, pn, by omega, by decide, big 2 (by decide) (by decide), fun d n2 z2 H2 d0 d1 hn2 hp2 s2 => ?_⟩
          have eL2 := s2 _ _ nL eL
          refine ⟨rfl, _, rfl, ?_⟩
          refine ite2 (fun c2 => ?_) (fun c2 => ?_)
          · refine ⟨_, rfl, _, eL2, by rw [List.length_map]; omega, ks ++ [nm], n2, z2, ?_, ?_, hp2.put (Ne.symm nL) ncL, by omega, fun b o nb e => ?_⟩
            · rw [List.map_append]
              exact upd_same
            · rw [tk]
              exact sub.append (List.Sublist.refl _)
            · rw [upd_ne (ne_of_none e hL)]
              exact s2 b o nb (bt b o nb e)
          · exact ⟨ks, n2, z2, eL2, by rw [tk]; exact sub.trans (List.sublist_append_left _ _), hp2, by omega, bt.trans s2⟩
        · obtain ⟨ks, n', z', eL, sub, pn, ln, bt⟩ := q0
          rw [List.length_map] at sub ln
          rw [List.take_length] at sub
          refine ⟨_, rfl, _, rfl, _, _, rfl, rfl, p, c, ns, n', z', top + 1, rfl, pn, by omega, by omega, big _ (by omega) (by omega), fun m n2 z2 H2 m0 m1' hn2 hp2 s2 => ⟨_, rfl, by show (3 : Nat) ≤ sizeLine; omega, fun T hT => ?_⟩⟩
          have sT := Same.of_new (o := .tup [.str "cap", .int m, .ref L]) hT
          refine q T (.cap m ks) n2 z2 _ ⟨L, upd_same, sT _ _ (s2 _ _ nL eL)⟩ rfl (fun cc hc => ?_) (by omega) (hp2.same sT) ((bt.trans s2).trans (Same.but p sT))
          have ec : cc = (m, ks) := List.mem_singleton.mp hc
          subst ec
          exact ⟨m0, by show m ≤ top; omega, ndx.sublist sub, fun z hz => sub.subset hz, sub.length_le⟩
      · have m2 : 2 ≤ many := by
          rcases Nat.lt_or_ge many 2 with h | h
          · have : many = 1 := by omega
            exact absurd (by rw [this]; exact decide_eq_true rfl) c1
          · exact h
        match d, G_tree, md with
        | 0, _, md => exact absurd md (by omega)
        | d + 1, G_tree, md =>
        refine ⟨_, rfl, by show (2 : Nat) ≤ sizeLine; omega, fun L hL => ?_⟩
        have sL := Same.of_new (o := .lst [.str "both", .str "either"]) hL
        have nL : L ≠ p := fun e => hp.some (e ▸ hL)
        refine ⟨p, c, L, ns, n, z, _, rfl, hp.same sL, by omega, nL, SqL.of upd_same, by show 0 < 2; decide, by show 2 < 1000; decide, fun x n1 z1 H1 hx hn1 hp1 s1 => ?_⟩
        have b1 : But p H H1 := (Same.but p sL).trans s1
        refine ⟨_, rfl, _, rfl, _, _, rfl, rfl, p, c, ns, n1, z1, (many : Int) - 1, rfl, hp1, by omega, by omega, big _ (by omega) (by omega), fun d1 n2 z2 H2 d10 d11 hn2 hp2 s2 => ?_⟩
        have b2 := b1.trans s2
        obtain ⟨dk, rfl⟩ := Int.eq_ofNat_of_zero_le d10
        have e1 : (1 : Int) + (dk : Int) = ((1 + dk : Nat) : Int) := by omega
        refine ⟨1, (dk : Int), rfl, rfl, x, .int ((1 + dk : Nat) : Int), congrArg (fun i => [x, V.int i]) e1, ?_⟩
        refine ⟨_, rfl, _, rfl, _, rfl, _, rfl, _, rfl, p, c, ns, n2, z2, nl, xs, 1 + dk, top, rfl, hp2, by omega, b2 _ _ nnl hnl, ndx, lx, by omega, by omega, by omega, t0, t12, fun a1 t1 n3 z3 H3 ta1 l1 g1 hn3 hp3 s3 => ?_⟩
        have b3 := b2.trans s3
        refine ⟨_, rfl, _, rfl, _, rfl, _, rfl, _, _, rfl, rfl, _, rfl, ?_⟩
        have e2 : (many : Int) - ((1 + dk : Nat) : Int) = ((many - (1 + dk) : Nat) : Int) := by omega
        refine ⟨p, c, ns, n3, z3, nl, xs, many - (1 + dk), top, congrArg (fun i => [V.ref p, .ref nl, V.int i, .int top]) e2, hp3, by omega, b3 _ _ nnl hnl, ndx, lx, by omega, by omega, by omega, t0, t12, fun a2 t2 n4 z4 H4 ta2 l2 g2 hn4 hp4 s4 => ⟨by show (3 : Nat) ≤ sizeLine; omega, fun T hT => ?_⟩⟩
        have ta1 := ta1.but hp3 s4
        have sT := Same.of_new (o := .tup [x, .ref a1, .ref a2]) hT
        have bT := (b3.trans s4).trans (Same.but p sT)
        have good : ∀ c ∈ t1.caps ++ t2.caps, 0 ≤ c.1 ∧ c.1 ≤ top ∧ c.2.Nodup ∧ (∀ z ∈ c.2, z ∈ xs) ∧ c.2.length ≤ xs.length := fun c hc => (List.mem_append.mp hc).elim (g1 c) (g2 c)
        have len : (t1.caps ++ t2.caps).length = many := by
          rw [List.length_append, l1, l2]
          omega
        simp only [List.mem_cons, List.not_mem_nil, or_false] at hx
        rcases hx with rfl | rfl
        · exact q T (.both t1 t2) n4 z4 _ ⟨a1, a2, upd_same, ta1.same sT, ta2.same sT⟩ len good (by omega) (hp4.same sT) bT
        · exact q T (.either t1 t2) n4 z4 _ ⟨a1, a2, upd_same, ta1.same sT, ta2.same sT⟩ len good (by omega) (hp4.same sT) bT
end
end K10
end
section
set_option pp.maxSteps 400
set_option pp.deepTerms.threshold 6
/-! The quotas of a tree, made by the classes and by the signs. -/
namespace K10
open PySem PySem.Spec PyProof.Rows L2
abbrev sQu : Stmt := top 40
abbrev sSg : Stmt := top 41
theorem none_of {H H' : Hp} (s : Same H H') {a : Addr} (h : H' a = none) : H a = none := by
  cases e : H a with
  | none => rfl
  | some o =>
    have := s a o e
    rw [h] at this
    cases this
def GoodC (c : Int × List Str) : Prop := SmallC c ∧ c.2.Nodup ∧ ∀ z ∈ c.2, nameB z = true
theorem GoodC.names {c : Int × List Str} (h : GoodC c) : ∀ z ∈ c.2, nameB z = true ∧ z.length ≤ 1000 := fun z hz => ⟨h.2.2 z hz, Nat.le_trans (h.1.2.2.2 z hz) (by decide)⟩
def spQu (a : QAd) : Nat → Sp
  | 0 => fun _ _ _ _ => False
  | d + 1 => fun vs H Q _ => ∃ (b : Addr) (t : QT), vs = [.ref b] ∧ TreeAt H t b ∧ t.caps.length ≤ d + 1 ∧ t.caps.length ≤ 20 ∧ (∀ c ∈ t.caps, GoodC c) ∧ ∀ q t' H', H q = none → Same H H' → SortOf t t' → QTr a H' t' q → Q (.ref q) H'
section
variable {P : Program} {w : World} {K : PySem.W.Frag} {mg : Str → Option Value} {base : Heap}
/-- two made parts make a joint -/
theorem join_made {a : QAd} (R : QF P w K mg base a) {C : Addr} {mk : QT → QT → QT} {H : Hp} {q1 q2 : Addr} {t t1 u u2 : QT} {Q : VK} {E : XK} (h1 : QTr a H t1 q1) (h2 : QTr a H u2 q2) (s1 : SortOf t t1) (s2 : SortOf u u2) (g1 : ∀ c ∈ t.caps, GoodC c) (g2 : ∀ c ∈ u.caps, GoodC c) (l : t.caps.length + u.caps.length ≤ 20)
    (q : ∀ z H', H z = none → Same H H' → QAt C H' z (mk t1 u2) → PairOf C H' z (.ref q1) (.ref q2) → Q (.ref z) H') : MadeJoin K a.CQ a.fL a.fS C a.CU a.CT mk H (.ref q1) (.ref q2) Q E := by
  obtain ⟨e1, k1⟩ := s1.caps
  obtain ⟨e2, k2⟩ := s2.caps
  have k1 := k1 fun c hc => (g1 c hc).1
  have k2 := k2 fun c hc => (g2 c hc).1
  have x1 := text_len t1 k1
  have x2 := text_len u2 k2
  have y1 := kinds_len t1 k1
  have y2 := kinds_len u2 k2
  exact .inl ⟨q1, q2, t1, u2, rfl, rfl, h1.any R, h2.any R, by omega, by omega, by rw [List.length_append]; omega, by omega, by omega, fun _ z H' hz s qa pr => q z H' hz s qa pr, fun c => by omega⟩
abbrev nQu : List Str := ["_law_tree_here"]
theorem scQu : FnScope nQu ["_law_tree_here"] (defScope sQu) := ⟨rfl, rfl, rfl, by decide +kernel, rfl, by decide +kernel, by decide +kernel⟩
theorem ok_Qu {a : QAd} {f fLC : Addr} {fd fdLC : FuncData} (R : QF P w K mg base a) (F : Fun K "_law_quota" "_law_quota" sQu f fd) (g_rec : mg "_law_quota" = some (.ref f)) (F_cap : Fun K "_law_cap" "_law_cap" sLC fLC fdLC) (g_cap : mg "_law_cap" = some (.ref fLC)) : ∀ d : Nat, FnOk P w K mg base (L2.CX P w) (d + 7) f fd ["_law_tree_here"] (spQu a d)
  | 0 => F.okX scQu (fun vs H Q E h => h.elim) (fun cdv A outer s H vs Q E hr h => h.elim)
  | d + 1 => by
    have G_rec := ok_Qu R F g_rec F_cap g_cap d
    have b_rec : Binds K fd ["_law_tree_here"] [] := F.binds fun _ _ _ _ _ _ us hl => match us, hl with | [_], _ => rfl
    have G_cap : FnOk P w K mg base (L2.CX P w) 6 fLC fdLC ["_law_most", "_law_kinds"] (spLC K a.CC) := ok_LC F_cap R.chk.T.n_len R.mkC R.gC R.GC
    have b_cap : Binds K fdLC ["_law_most", "_law_kinds"] [] := F_cap.binds fun _ _ _ _ _ _ us hl => match us, hl with | [_, _], _ => rfl
    refine F.okX scQu (fun vs H Q E h => ?_) (fun cdv A outer s H vs Q E hr h => ?_)
    · obtain ⟨b, t, rfl, _⟩ := h
      rfl
    obtain ⟨b, t, rfl, ht, lt, l20, gd, q⟩ := h
    have hr6 : Room 6 _ := hr.mono (by omega)
    have hr5 : Room 5 _ := hr.mono (by omega)
    refine ⟨_, (pss_cons (ps_if (pt_cmpR op_eq (pe_ix (r := rIxT K) ix_tup (pv 0) pe_int (fun _ _ => rfl)) pe_str (nomark _)) (pss_one (ps_ret (pe_call G_cap hr6 (by rfl) g_cap F_cap.kp b_cap .nil (passes_call (takes_of rfl rfl rfl rfl) (fun _ _ _ _ h => h)) (pa_cons (pe_ix (r := rIxT K) ix_tup (pv 0) pe_int (fun _ _ => rfl)) (pa_cons (pe_ix (r := rIxT K) ix_tup (pv 0) pe_int (fun _ _ => rfl)) pa_nil))))) pss_nil)
    (pss_cons (ps_if (pt_cmpR op_eq (pe_ix (r := rIxT K) ix_tup (pv 0) pe_int (fun _ _ => rfl)) pe_str (nomark _)) (pss_one (ps_ret (StX.pe_makeR R.mkB R.GB hr5 (by rfl) R.gB (passes_call (takes_of rfl rfl rfl rfl) (fun _ _ _ _ h => h)) (pa_cons (pe_call G_rec hr (by rfl) g_rec F.kp b_rec .nil (passes_call (takes_of rfl rfl rfl rfl) (fun _ _ _ _ h => h)) (pa_cons (pe_ix (r := rIxT K) ix_tup (pv 0) pe_int (fun _ _ => rfl)) pa_nil)) (pa_cons (pe_call G_rec hr (by rfl) g_rec F.kp b_rec .nil (passes_call (takes_of rfl rfl rfl rfl) (fun _ _ _ _ h => h)) (pa_cons (pe_ix (r := rIxT K) ix_tup (pv 0) pe_int (fun _ _ => rfl)) pa_nil)) pa_nil))))) pss_nil)
    (pss_one (ps_ret (OwR.pe_makeRK0 R.mkE R.GEK hr5 (by rfl) R.gE (passes_call (takes_of rfl rfl rfl rfl) (fun _ _ _ _ h => h)) (pk_cons (pe_call G_rec hr (by rfl) g_rec F.kp b_rec .nil (passes_call (takes_of rfl rfl rfl rfl) (fun _ _ _ _ h => h)) (pa_cons (pe_ix (r := rIxT K) ix_tup (pv 0) pe_int (fun _ _ => rfl)) pa_nil)) (pk_cons (pe_call G_rec hr (by rfl) g_rec F.kp b_rec .nil (passes_call (takes_of rfl rfl rfl rfl) (fun _ _ _ _ h => h)) (pa_cons (pe_ix (r := rIxT K) ix_tup (pv 0) pe_int (fun _ _ => rfl)) pa_nil)) pk_nil))))))), ?_⟩
    match t, ht, lt, l20, gd, q with
    | .cap m ks, ht, lt, l20, gd, q =>
      obtain ⟨kl, e, ek⟩ := ht
      have gc := gd (m, ks) (List.mem_singleton.mpr rfl)
      refine ⟨_, rfl, b, _, 0, _, rfl, rfl, SqT.of e, atI_nat (j := 0) rfl, rfl, _, rfl, ?_⟩
      refine ite2 (fun _ => ?_) (fun c => absurd (decide_eq_true rfl) c)
      have l3 : ks.length ≤ 3 := gc.1.2.2.1
      exact ⟨_, rfl, b, _, 1, _, rfl, rfl, SqT.of e, atI_nat (j := 1) rfl, _, rfl, b, _, 2, _, rfl, rfl, SqT.of e, atI_nat (j := 2) rfl, kl, m, ks, rfl, SqL.of ek, gc.1.1, gc.1.2.1, gc.2.1, gc.names, by omega, fun c H' zs hc s pm srt ca => q c (.cap m zs) H' hc s ⟨rfl, pm, srt⟩ ca⟩
    | .both t u, ht, lt, l20, gd, q =>
      obtain ⟨l, r, e, h1, h2⟩ := ht
      refine ⟨_, rfl, b, _, 0, _, rfl, rfl, SqT.of e, atI_nat (j := 0) rfl, rfl, _, rfl, ?_⟩
      refine ite2 (fun c => absurd c (by decide +kernel)) (fun _ => ?_)
      refine ⟨_, rfl, b, _, 0, _, rfl, rfl, SqT.of e, atI_nat (j := 0) rfl, rfl, _, rfl, ?_⟩
      refine ite2 (fun _ => ?_) (fun c => absurd (by decide +kernel) c)
      have ca := caps_pos t
      have cb := caps_pos u
      have lc : t.caps.length + u.caps.length ≤ d + 1 := by rw [← List.length_append]; exact lt
      have lc2 : t.caps.length + u.caps.length ≤ 20 := by rw [← List.length_append]; exact l20
      have g1 : ∀ c ∈ t.caps, GoodC c := fun c hc => gd c (List.mem_append_left _ hc)
      have g2 : ∀ c ∈ u.caps, GoodC c := fun c hc => gd c (List.mem_append_right _ hc)
      match d, G_rec, lc with
      | 0, _, lc => exact absurd lc (by omega)
      | d + 1, G_rec, lc =>
      refine ⟨_, rfl, b, _, 1, _, rfl, rfl, SqT.of e, atI_nat (j := 1) rfl, l, t, rfl, h1, by omega, by omega, g1, fun q1 t1 H1 n1 s1 so1 qt1 => ?_⟩
      refine ⟨_, rfl, b, _, 2, _, rfl, rfl, SqT.of (s1 _ _ e), atI_nat (j := 2) rfl, r, u, rfl, h2.same s1, by omega, by omega, g2, fun q2 t2 H2 n2 s2 so2 qt2 => ?_⟩
      have mj : MadeJoin K a.CQ a.fL a.fS a.CB a.CU a.CT QT.both H2 (.ref q1) (.ref q2) Q E := join_made R (qt1.same s2) qt2 so1 so2 g1 g2 lc2 fun z H' hz s qa pr => q z (.both t1 t2) H' (none_of (s1.trans s2) hz) ((s1.trans s2).trans s) ⟨so1, so2⟩ ⟨qa, q1, q2, pr, (qt1.same s2).same s, qt2.same s⟩
      exact fun z dz x1 x2 _ => made_join mj x1 x2
    | .either t u, ht, lt, l20, gd, q =>
      obtain ⟨l, r, e, h1, h2⟩ := ht
      refine ⟨_, rfl, b, _, 0, _, rfl, rfl, SqT.of e, atI_nat (j := 0) rfl, rfl, _, rfl, ?_⟩
      refine ite2 (fun c => absurd c (by decide +kernel)) (fun _ => ?_)
      refine ⟨_, rfl, b, _, 0, _, rfl, rfl, SqT.of e, atI_nat (j := 0) rfl, rfl, _, rfl, ?_⟩
      refine ite2 (fun c => absurd c (by decide +kernel)) (fun _ => ?_)
      have ca := caps_pos t
      have cb := caps_pos u
      have lc : t.caps.length + u.caps.length ≤ d + 1 := by rw [← List.length_append]; exact lt
      have lc2 : t.caps.length + u.caps.length ≤ 20 := by rw [← List.length_append]; exact l20
      have g1 : ∀ c ∈ t.caps, GoodC c := fun c hc => gd c (List.mem_append_left _ hc)
      have g2 : ∀ c ∈ u.caps, GoodC c := fun c hc => gd c (List.mem_append_right _ hc)
      match d, G_rec, lc with
      | 0, _, lc => exact absurd lc (by omega)
      | d + 1, G_rec, lc =>
      refine ⟨_, rfl, b, _, 2, _, rfl, rfl, SqT.of e, atI_nat (j := 2) rfl, r, u, rfl, h2, by omega, by omega, g2, fun q2 t2 H1 n2 s1 so2 qt2 => ?_⟩
      refine ⟨_, rfl, b, _, 1, _, rfl, rfl, SqT.of (s1 _ _ e), atI_nat (j := 1) rfl, l, t, rfl, h1.same s1, by omega, by omega, g1, fun q1 t1 H2 n1 s2 so1 qt1 => ?_⟩
      have mj : MadeJoin K a.CQ a.fL a.fS a.CE a.CU a.CT QT.either H2 (.ref q1) (.ref q2) Q E := join_made R qt1 (qt2.same s2) so1 so2 g1 g2 lc2 fun z H' hz s qa pr => q z (.either t1 t2) H' (none_of (s1.trans s2) hz) ((s1.trans s2).trans s) ⟨so1, so2⟩ ⟨qa, q1, q2, pr, qt1.same s, (qt2.same s2).same s⟩
      exact fun z dz x1 x2 _ => ⟨z, .ref q1, .ref q2, rfl, rfl, made_join mj x1 x2⟩
abbrev nSg : List Str := ["_law_tree_here", "_law_left", "_law_right"]
theorem scSg : FnScope nSg ["_law_tree_here"] (defScope sSg) := ⟨rfl, rfl, rfl, by decide +kernel, rfl, by decide +kernel, by decide +kernel⟩
theorem ok_Sg {a : QAd} {f fLC : Addr} {fd fdLC : FuncData} (R : QF P w K mg base a) (F : Fun K "_law_signed" "_law_signed" sSg f fd) (g_rec : mg "_law_signed" = some (.ref f)) (F_cap : Fun K "_law_cap" "_law_cap" sLC fLC fdLC) (g_cap : mg "_law_cap" = some (.ref fLC)) : ∀ d : Nat, FnOk P w K mg base (L2.CX P w) (d + 7) f fd ["_law_tree_here"] (spQu a d)
  | 0 => F.okX scSg (fun vs H Q E h => h.elim) (fun cdv A outer s H vs Q E hr h => h.elim)
  | d + 1 => by
    have G_rec := ok_Sg R F g_rec F_cap g_cap d
    have b_rec : Binds K fd ["_law_tree_here"] [] := F.binds fun _ _ _ _ _ _ us hl => match us, hl with | [_], _ => rfl
    have G_cap : FnOk P w K mg base (L2.CX P w) 6 fLC fdLC ["_law_most", "_law_kinds"] (spLC K a.CC) := ok_LC F_cap R.chk.T.n_len R.mkC R.gC R.GC
    have b_cap : Binds K fdLC ["_law_most", "_law_kinds"] [] := F_cap.binds fun _ _ _ _ _ _ us hl => match us, hl with | [_, _], _ => rfl
    refine F.okX scSg (fun vs H Q E h => ?_) (fun cdv A outer s H vs Q E hr h => ?_)
    · obtain ⟨b, t, rfl, _⟩ := h
      rfl
    obtain ⟨b, t, rfl, ht, lt, l20, gd, q⟩ := h
    have hr6 : Room 6 _ := hr.mono (by omega)
    refine ⟨_, (pss_cons (ps_if (pt_cmpR op_eq (pe_ix (r := rIxT K) ix_tup (pv 0) pe_int (fun _ _ => rfl)) pe_str (nomark _)) (pss_one (ps_ret (pe_call G_cap hr6 (by rfl) g_cap F_cap.kp b_cap .nil (passes_call (takes_of rfl rfl rfl rfl) (fun _ _ _ _ h => h)) (pa_cons (pe_ix (r := rIxT K) ix_tup (pv 0) pe_int (fun _ _ => rfl)) (pa_cons (pe_revL (pe_ix (r := rIxT K) ix_tup (pv 0) pe_int (fun _ _ => rfl))) pa_nil))))) pss_nil)
    (pss_cons (ps_par (i := 1) (j := 2) (by rfl) scSg.nd rfl rfl (by decide) rfl rfl (pa_cons (pe_call G_rec hr (by rfl) g_rec F.kp b_rec .nil (passes_call (takes_of rfl rfl rfl rfl) (fun _ _ _ _ h => h)) (pa_cons (pe_ix (r := rIxT K) ix_tup (pv 0) pe_int (fun _ _ => rfl)) pa_nil)) (pa_cons (pe_call G_rec hr (by rfl) g_rec F.kp b_rec .nil (passes_call (takes_of rfl rfl rfl rfl) (fun _ _ _ _ h => h)) (pa_cons (pe_ix (r := rIxT K) ix_tup (pv 0) pe_int (fun _ _ => rfl)) pa_nil)) pa_nil)) (by rfl))
    (pss_one (ps_ret (pe_ifExp (pt_cmpR op_eq (pe_ix (r := rIxT K) ix_tup (pv 0) pe_int (fun _ _ => rfl)) pe_str (nomark _)) (pe_op (OwR.op_own2 R.and_ hr6 (passes_call (takes_of rfl rfl rfl rfl) (fun _ _ _ _ h => h))) (pv 1) (pv 2)) (pe_op (OwR.op_own2 R.or_ hr6 (passes_call (takes_of rfl rfl rfl rfl) (fun _ _ _ _ h => h))) (pv 1) (pv 2))))))), ?_⟩
    match t, ht, lt, l20, gd, q with
    | .cap m ks, ht, lt, l20, gd, q =>
      obtain ⟨kl, e, ek⟩ := ht
      have gc := gd (m, ks) (List.mem_singleton.mpr rfl)
      refine ⟨_, rfl, b, _, 0, _, rfl, rfl, SqT.of e, atI_nat (j := 0) rfl, rfl, _, rfl, ?_⟩
      refine ite2 (fun _ => ?_) (fun c => absurd (decide_eq_true rfl) c)
      have l3 : ks.length ≤ 3 := gc.1.2.2.1
      refine ⟨_, rfl, b, _, 1, _, rfl, rfl, SqT.of e, atI_nat (j := 1) rfl, _, rfl, b, _, 2, _, rfl, rfl, SqT.of e, atI_nat (j := 2) rfl, kl, _, rfl, SqL.of ek, fun R0 hR => ?_⟩
      have sR := Same.of_new (o := .lst (ks.map V.str).reverse) hR
      exact ⟨R0, m, ks.reverse, rfl, SqL.of (by rw [List.map_reverse]; exact upd_same), gc.1.1, gc.1.2.1, (List.reverse_perm ks).symm.nodup gc.2.1, fun z hz => gc.names z (List.mem_reverse.mp hz), by rw [List.length_reverse]; omega, fun c H' zs hc s pm srt ca => q c (.cap m zs) H' (none_of sR hc) (sR.trans s) ⟨rfl, pm.trans (List.reverse_perm ks), srt⟩ ca⟩
    | .both t u, ht, lt, l20, gd, q =>
      obtain ⟨l, r, e, h1, h2⟩ := ht
      refine ⟨_, rfl, b, _, 0, _, rfl, rfl, SqT.of e, atI_nat (j := 0) rfl, rfl, _, rfl, ?_⟩
      refine ite2 (fun c => absurd c (by decide +kernel)) (fun _ => ?_)
      have ca := caps_pos t
      have cb := caps_pos u
      have lc : t.caps.length + u.caps.length ≤ d + 1 := by rw [← List.length_append]; exact lt
      have lc2 : t.caps.length + u.caps.length ≤ 20 := by rw [← List.length_append]; exact l20
      have g1 : ∀ c ∈ t.caps, GoodC c := fun c hc => gd c (List.mem_append_left _ hc)
      have g2 : ∀ c ∈ u.caps, GoodC c := fun c hc => gd c (List.mem_append_right _ hc)
      match d, G_rec, lc with
      | 0, _, lc => exact absurd lc (by omega)
      | d + 1, G_rec, lc =>
      refine ⟨_, rfl, b, _, 1, _, rfl, rfl, SqT.of e, atI_nat (j := 1) rfl, l, t, rfl, h1, by omega, by omega, g1, fun q1 t1 H1 n1 s1 so1 qt1 => ?_⟩
      refine ⟨_, rfl, b, _, 2, _, rfl, rfl, SqT.of (s1 _ _ e), atI_nat (j := 2) rfl, r, u, rfl, h2.same s1, by omega, by omega, g2, fun q2 t2 H2 n2 s2 so2 qt2 => ⟨_, _, rfl, ?_⟩⟩
      have s12 := s1.trans s2
      refine ⟨_, rfl, b, _, 0, _, rfl, rfl, SqT.of (s12 _ _ e), atI_nat (j := 0) rfl, rfl, _, rfl, ?_⟩
      refine ite2 (fun _ => ?_) (fun c => absurd (by decide +kernel) c)
      have q1' := qt1.same s2
      have mj : MadeJoin K a.CQ a.fL a.fS a.CB a.CU a.CT QT.both H2 (.ref q1) (.ref q2) Q E := join_made R q1' qt2 so1 so2 g1 g2 lc2 fun z H' hz s qa pr => q z (.both t1 t2) H' (none_of s12 hz) (s12.trans s) ⟨so1, so2⟩ ⟨qa, q1, q2, pr, q1'.same s, qt2.same s⟩
      obtain ⟨dx, fs, _, _, _, _, _, ex, _⟩ := q1'.qat
      obtain ⟨dy, gs, _, _, _, _, _, ey, _⟩ := qt2.qat
      have o1 := R.one _ (clsT_mem a t1)
      have o2 := R.one _ (clsT_mem a t2)
      exact ⟨_, rfl, _, rfl, q1, q2, _, _, dx, dy, fs, gs, rfl, rfl, ex, ey, ⟨o1.an, (R.two _ (clsT_mem a t1) _ (clsT_mem a t2)).bin.imp id fun h => ⟨⟨_, o2.an⟩, h⟩⟩, .ref q1, .ref q2, rfl, mj⟩
    | .either t u, ht, lt, l20, gd, q =>
      obtain ⟨l, r, e, h1, h2⟩ := ht
      refine ⟨_, rfl, b, _, 0, _, rfl, rfl, SqT.of e, atI_nat (j := 0) rfl, rfl, _, rfl, ?_⟩
      refine ite2 (fun c => absurd c (by decide +kernel)) (fun _ => ?_)
      have ca := caps_pos t
      have cb := caps_pos u
      have lc : t.caps.length + u.caps.length ≤ d + 1 := by rw [← List.length_append]; exact lt
      have lc2 : t.caps.length + u.caps.length ≤ 20 := by rw [← List.length_append]; exact l20
      have g1 : ∀ c ∈ t.caps, GoodC c := fun c hc => gd c (List.mem_append_left _ hc)
      have g2 : ∀ c ∈ u.caps, GoodC c := fun c hc => gd c (List.mem_append_right _ hc)
      match d, G_rec, lc with
      | 0, _, lc => exact absurd lc (by omega)
      | d + 1, G_rec, lc =>
      refine ⟨_, rfl, b, _, 1, _, rfl, rfl, SqT.of e, atI_nat (j := 1) rfl, l, t, rfl, h1, by omega, by omega, g1, fun q1 t1 H1 n1 s1 so1 qt1 => ?_⟩
      refine ⟨_, rfl, b, _, 2, _, rfl, rfl, SqT.of (s1 _ _ e), atI_nat (j := 2) rfl, r, u, rfl, h2.same s1, by omega, by omega, g2, fun q2 t2 H2 n2 s2 so2 qt2 => ⟨_, _, rfl, ?_⟩⟩
      have s12 := s1.trans s2
      refine ⟨_, rfl, b, _, 0, _, rfl, rfl, SqT.of (s12 _ _ e), atI_nat (j := 0) rfl, rfl, _, rfl, ?_⟩
      refine ite2 (fun c => absurd c (by decide +kernel)) (fun _ => ?_)
      have q1' := qt1.same s2
      have mj : MadeJoin K a.CQ a.fL a.fS a.CE a.CU a.CT QT.either H2 (.ref q1) (.ref q2) Q E := join_made R q1' qt2 so1 so2 g1 g2 lc2 fun z H' hz s qa pr => q z (.either t1 t2) H' (none_of s12 hz) (s12.trans s) ⟨so1, so2⟩ ⟨qa, q1, q2, pr, q1'.same s, qt2.same s⟩
      obtain ⟨dx, fs, _, _, _, _, _, ex, _⟩ := q1'.qat
      obtain ⟨dy, gs, _, _, _, _, _, ey, _⟩ := qt2.qat
      have o1 := R.one _ (clsT_mem a t1)
      have o2 := R.one _ (clsT_mem a t2)
      exact ⟨_, rfl, _, rfl, q1, q2, _, _, dx, dy, fs, gs, rfl, rfl, ex, ey, ⟨o1.or_, (R.two _ (clsT_mem a t1) _ (clsT_mem a t2)).bin.imp id fun h => ⟨⟨_, o2.or_⟩, h⟩⟩, .ref q1, .ref q2, rfl, mj⟩
end
end K10
end
section
set_option pp.maxSteps 400
set_option pp.deepTerms.threshold 6
/-! A quota of many caps. -/
namespace K10
open PySem PySem.Spec PyProof.Rows L2
abbrev sRw : Stmt := top 47
def rowT : Nat → QT
  | 0 => .cap 3 ["a"]
  | n + 1 => if n = 4 then .either (rowT n) (.cap 3 ["a"]) else .both (rowT n) (.cap 12 ["b"])
theorem row_caps : ∀ n, (rowT n).caps.length = n + 1
  | 0 => rfl
  | n + 1 => by
    have ih := row_caps n
    show (if n = 4 then QT.either (rowT n) (.cap 3 ["a"]) else .both (rowT n) (.cap 12 ["b"])).caps.length = n + 2
    split
    · show ((rowT n).caps ++ [_]).length = n + 2
      rw [List.length_append, ih]
      rfl
    · show ((rowT n).caps ++ [_]).length = n + 2
      rw [List.length_append, ih]
      rfl
theorem ab_ok : nameB ("a" : Str) = true ∧ nameB ("b" : Str) = true ∧ ("a" : Str).length ≤ 8 ∧ ("b" : Str).length ≤ 8 ∧ sortedS [("a" : Str)] = true ∧ sortedS [("b" : Str)] = true := by decide +kernel
theorem capA_good : GoodC (3, [("a" : Str)]) := ⟨⟨by decide, by decide, by decide, fun z hz => by rw [List.mem_singleton.mp hz]; exact ab_ok.2.2.1⟩, by simp, fun z hz => by rw [List.mem_singleton.mp hz]; exact ab_ok.1⟩
theorem capB_good : GoodC (12, [("b" : Str)]) := ⟨⟨by decide, by decide, by decide, fun z hz => by rw [List.mem_singleton.mp hz]; exact ab_ok.2.2.2.1⟩, by simp, fun z hz => by rw [List.mem_singleton.mp hz]; exact ab_ok.2.1⟩
theorem row_good : ∀ n, ∀ c ∈ (rowT n).caps, GoodC c
  | 0, c, hc => by
    rw [List.mem_singleton.mp hc]
    exact capA_good
  | n + 1, c, hc => by
    have ih := row_good n
    have hc : c ∈ (if n = 4 then QT.either (rowT n) (.cap 3 ["a"]) else .both (rowT n) (.cap 12 ["b"])).caps := hc
    split at hc
    · rcases List.mem_append.mp hc with h | h
      · exact ih c h
      · rw [List.mem_singleton.mp h]
        exact capA_good
    · rcases List.mem_append.mp hc with h | h
      · exact ih c h
      · rw [List.mem_singleton.mp h]
        exact capB_good
theorem row_sort : ∀ n, SortOf (rowT n) (rowT n)
  | 0 => ⟨rfl, List.Perm.refl _, ab_ok.2.2.2.2.1⟩
  | n + 1 => by
    have ih := row_sort n
    show SortOf (if n = 4 then QT.either (rowT n) (.cap 3 ["a"]) else .both (rowT n) (.cap 12 ["b"])) (if n = 4 then QT.either (rowT n) (.cap 3 ["a"]) else .both (rowT n) (.cap 12 ["b"]))
    split
    · exact ⟨ih, rfl, List.Perm.refl _, ab_ok.2.2.2.2.1⟩
    · exact ⟨ih, rfl, List.Perm.refl _, ab_ok.2.2.2.2.2⟩
theorem one_cap {K : PySem.W.Frag} {C CN CM z dz : Addr} {H : Hp} {m : Int} {x : Str} {xs : List V} {Q : VK} {E : XK} (ex : xs = [.str x]) (m0 : 0 ≤ m) (m1 : m ≤ 12) (g : nameB x = true) (l : x.length ≤ 8) (h1 : H z = none) (h2 : H dz = none)
    (q : ∀ H', Same H H' → CapAt C H' z m [x] → Q .non H') : spCap K C CN CM (.ref z :: .int m :: xs) (upd (upd H dz (.own z)) z (.ins C dz [])) Q E :=
  ⟨z, dz, .int m, xs, rfl, upd_same, by rw [ex]; show (1 : Nat) ≤ 1000; decide, .inl ⟨m, [x], rfl, m0, m1, ex, by simp, fun b hb => by rw [List.mem_singleton.mp hb]; exact ⟨g, Nat.le_trans l (by decide)⟩, by show (1 : Nat) ≤ 12; decide, fun H' ys bt pm srt ca => by
    obtain rfl : ys = [x] := List.perm_singleton.mp pm
    exact q H' (made_same h1 h2 bt) ca⟩⟩
def spRw (a : QAd) : Sp := fun vs H Q _ => ∃ many : Nat, vs = [.int (many : Nat)] ∧ 1 ≤ many ∧ many ≤ 20 ∧ ∀ q H', Same H H' → QTr a H' (rowT (many - 1)) q → Q (.ref q) H'
section
variable {P : Program} {w : World} {K : PySem.W.Frag} {mg : Str → Option Value} {base : Heap}
abbrev nRw : List Str := ["_law_many", "_law_found", "_law_turn"]
theorem scRw : FnScope nRw ["_law_many"] (defScope sRw) := ⟨rfl, rfl, rfl, by decide +kernel, rfl, by decide +kernel, by decide +kernel⟩
theorem ok_Rw {a : QAd} {f : Addr} {fd : FuncData} (R : QF P w K mg base a) (F : Fun K "_law_row" "_law_row" sRw f fd) (n_range : mg "range" = none) : FnOk P w K mg base (L2.CX P w) 7 f fd ["_law_many"] (spRw a) := by
  refine F.okX scRw (fun vs H Q E h => ?_) (fun cdv A outer s H vs Q E hr h => ?_)
  · obtain ⟨many, rfl, _⟩ := h
    rfl
  obtain ⟨many, rfl, m1, m20, q⟩ := h
  have hr5 : Room 5 _ := hr.mono (by decide)
  refine ⟨_, (pss_cons (ps_set (i := 1) scRw.nd rfl (Or.inl rfl) (StX.pe_makeR R.mkC R.GC hr5 (by rfl) R.gC (passes_call (takes_of rfl rfl rfl rfl) (fun _ _ _ _ h => h)) (pa_cons pe_int (pa_cons pe_str pa_nil))))
    (pss_cons (ps_for (passes_of rfl) rfl (pi_range1 rfl n_range (pa_cons (pe_op op_sub (pv 0) pe_int) pa_nil)) (pg_name (i := 2) scRw.nd rfl (Or.inl rfl)) (pss_one (ps_set (i := 1) scRw.nd rfl (Or.inl rfl) (pe_ifExp (pt_cmpR op_eq (pv 2) pe_int (nomark _)) (pe_op (OwR.op_own2 R.or_ hr (passes_call (takes_of rfl rfl rfl rfl) (fun _ _ _ _ h => h))) (pv 1) (StX.pe_makeR R.mkC R.GC hr5 (by rfl) R.gC (passes_call (takes_of rfl rfl rfl rfl) (fun _ _ _ _ h => h)) (pa_cons pe_int (pa_cons pe_str pa_nil)))) (pe_op (OwR.op_own2 R.and_ hr (passes_call (takes_of rfl rfl rfl rfl) (fun _ _ _ _ h => h))) (pv 1) (StX.pe_makeR R.mkC R.GC hr5 (by rfl) R.gC (passes_call (takes_of rfl rfl rfl rfl) (fun _ _ _ _ h => h)) (pa_cons pe_int (pa_cons pe_str pa_nil))))))))
    (pss_one (ps_ret (pv 1))))), ?_⟩
  have sz := sizeLine_eq
  obtain ⟨na, nb, la, lb, sa, sb⟩ := ab_ok
  refine fun z0 dz0 g1 g2 _ => one_cap rfl (by decide) (by decide) na la g1 g2 fun H1 s1 c1 => ⟨rfl, ?_⟩
  refine ⟨_, rfl, _, _, rfl, rfl, ?_⟩
  have em : ((many : Nat) : Int) - 1 = ((many - 1 : Nat) : Int) := by omega
  refine ⟨(many - 1 : Nat), congrArg (fun i => [V.int i]) em, by omega, by omega, ?_⟩
  refine for_it walk_range (fun i σ Hx => i ≤ 19 ∧ Same H Hx ∧ ∃ (x2 : Option V) (qd : Addr), σ = [some (.int (many : Nat)), some (.ref qd), x2] ∧ QTr a Hx (rowT i) qd) ⟨by omega, s1, _, _, rfl, c1⟩ (fun _ _ _ _ _ => True.intro) (fun i x σ Hx Hy hi q0 y => ?_) (fun σ Hx q0 => ?_)
  · obtain ⟨_, s2, x2, qd, rfl, tr⟩ := q0
    obtain ⟨rfl, ex⟩ := y
    have ex : x = V.int (i : Nat) := Eq.trans ex (congrArg V.int (Int.zero_add _))
    subst ex
    rw [Int.toNat_natCast] at hi
    have lc := row_caps i
    have step : rowT (i + 1) = if i = 4 then QT.either (rowT i) (.cap 3 ["a"]) else .both (rowT i) (.cap 12 ["b"]) := rfl
    refine ⟨_, rfl, rfl, _, rfl, ?_⟩
    refine ite2 (fun c => ?_) (fun c => ?_)
    · have i4 : i = 4 := by
        have := V.int.inj (of_decide_eq_true c)
        omega
      refine ⟨_, rfl, fun z dz g1 g2 _ => one_cap rfl (by decide) (by decide) na la g1 g2 fun H3 s3 c3 => ⟨rfl, ?_⟩⟩
      have tr3 := tr.same s3
      have tc : QTr a H3 (.cap 3 ["a"]) z := c3
      obtain ⟨dx, fs, _, _, _, _, _, ex, _⟩ := tr3.qat
      obtain ⟨dy, gs, _, _, _, _, _, ey, _⟩ := tc.qat
      refine ⟨qd, z, _, _, dx, dy, fs, gs, rfl, rfl, ex, ey, ⟨(R.one _ (clsT_mem a (rowT i))).or_, (R.two _ (clsT_mem a (rowT i)) _ (clsT_mem a (.cap 3 ["a"]))).bin.imp id fun h => ⟨⟨_, (R.one _ (clsT_mem a (.cap 3 ["a"]))).or_⟩, h⟩⟩, .ref qd, .ref z, rfl, ?_⟩
      refine join_made R (u := .cap 3 ["a"]) tr3 tc (row_sort i) ⟨rfl, List.Perm.refl _, sa⟩ (row_good i) (fun cc hc => by rw [List.mem_singleton.mp hc]; exact capA_good) (by show (rowT i).caps.length + 1 ≤ 20; omega) fun z2 H4 hz s4 qa pr => ?_
      refine ⟨by omega, (s2.trans s3).trans s4, _, z2, rfl, ?_⟩
      rw [step, if_pos i4]
      exact ⟨qa, qd, z, pr, tr3.same s4, tc.same s4⟩
    · have i4 : i ≠ 4 := fun e => c (by rw [e]; exact decide_eq_true rfl)
      refine ⟨_, rfl, fun z dz g1 g2 _ => one_cap rfl (by decide) (by decide) nb lb g1 g2 fun H3 s3 c3 => ⟨rfl, ?_⟩⟩
      have tr3 := tr.same s3
      have tc : QTr a H3 (.cap 12 ["b"]) z := c3
      obtain ⟨dx, fs, _, _, _, _, _, ex, _⟩ := tr3.qat
      obtain ⟨dy, gs, _, _, _, _, _, ey, _⟩ := tc.qat
      refine ⟨qd, z, _, _, dx, dy, fs, gs, rfl, rfl, ex, ey, ⟨(R.one _ (clsT_mem a (rowT i))).an, (R.two _ (clsT_mem a (rowT i)) _ (clsT_mem a (.cap 12 ["b"]))).bin.imp id fun h => ⟨⟨_, (R.one _ (clsT_mem a (.cap 12 ["b"]))).an⟩, h⟩⟩, .ref qd, .ref z, rfl, ?_⟩
      refine join_made R (u := .cap 12 ["b"]) tr3 tc (row_sort i) ⟨rfl, List.Perm.refl _, sb⟩ (row_good i) (fun cc hc => by rw [List.mem_singleton.mp hc]; exact capB_good) (by show (rowT i).caps.length + 1 ≤ 20; omega) fun z2 H4 hz s4 qa pr => ?_
      refine ⟨by omega, (s2.trans s3).trans s4, _, z2, rfl, ?_⟩
      rw [step, if_neg i4]
      exact ⟨qa, qd, z, pr, tr3.same s4, tc.same s4⟩
  · obtain ⟨_, s2, x2, qd, rfl, tr⟩ := q0
    rw [Int.toNat_natCast] at tr
    exact ⟨_, rfl, q qd Hx s2 tr⟩
end
end K10
end
section
/-! Own: several except clauses, some with a name; the last one takes what is left. -/
namespace OwE
open PySem PySem.Spec PyProof.Rows L2
/-- a clause: its class, the slot of its name (if it has one), what its suite does -/
abbrev Clause : Type := Value × Option Nat × (Addr → Value → Option Addr → TS)
def putS (o : Option Nat) (v : Option V) (σ : L2.St) : L2.St := match o with
  | some i => σ.set i v
  | none => σ
/-- what the clauses wish of an error, one after the other -/
def wMix (K : PySem.W.Frag) (D : Ends) : List Clause → WX
  | [] => fun _ _ _ _ => False
  | (c, o, ts) :: r => fun cls d σ H => ∃ b, PySem.W.exmOne K cls c = some b ∧ (b = true → ∀ a, H a = none → ts a cls d { nx := fun σ' H' => D.nx (putS o none σ') H', rt := D.rt, bk := fun _ _ => False, ct := fun _ _ => False } (putS o (some (.ref a)) σ) H) ∧ (b = false → wMix K D r cls d σ H)
inductive Clauses (X : Cx) : List ExceptHandler → List Clause → Prop
  | nil : Clauses X [] []
  | bare {x : Str} {c : Value} {ts : Addr → Value → Option Addr → TS} {b₀ : Stmt} {suite : List Stmt} {np q : Pos} {hds : List ExceptHandler} {l : List Clause} (hc : Names X x c)
      (hsu : ∀ (a : Addr) (oe : Obj) (cls : Value) (d : Option Addr) (pn : List (Addr × Obj)), Zc cls d oe → (∃ vs, oe.data = .fields vs) → PSs (X.suite a ((a, oe) :: pn)) (b₀ :: suite) (ts a cls d)) (r : Clauses X hds l) : Clauses X (.ExceptHandler (some (.Name x np)) none (b₀ :: suite) q :: hds) ((c, none, ts) :: l)
  | named {x n : Str} {c : Value} {i : Nat} {ts : Addr → Value → Option Addr → TS} {b₀ : Stmt} {suite : List Stmt} {np q : Pos} {hds : List ExceptHandler} {l : List Clause} (hc : Names X x c) (hi : X.N[i]? = some n) (hln : X.env.kindOf n = some .local)
      (hsu : ∀ (a : Addr) (oe : Obj) (cls : Value) (d : Option Addr) (pn : List (Addr × Obj)), Zc cls d oe → (∃ vs, oe.data = .fields vs) → PSs (X.suite a ((a, oe) :: pn)) (b₀ :: suite) (ts a cls d)) (r : Clauses X hds l) : Clauses X (.ExceptHandler (some (.Name x np)) (some n) (b₀ :: suite) q :: hds) ((c, some i, ts) :: l)
section
variable {X : Cx} {body : List Stmt} {h₀ : ExceptHandler} {hds : List ExceptHandler} {l : List Clause} {pos : Pos} {tb : WX → TS}
theorem ps_try_mix (hs : X.stack = X.env :: X.outer) (hf : X.env.frame = some X.env.locals) (hN : X.N.Nodup)
    (hb : ∀ (W : WX) (pn : List (Addr × Obj)) (xe : Value → Shared → Prop), Takes (X.tr pn xe) W → PSs (X.tr pn xe) body (tb W)) (hh : Clauses X (h₀ :: hds) l) :
    PS X (.Try body (h₀ :: hds) [] [] pos) (fun D σ H => tb (wMix X.K D l) D σ H) := by
  refine ⟨fun pins s σ H D I h => wpAny_Try_except ?_⟩
  have ok := I.ok
  have heard : Takes (X.tr (X.pn ++ pins) fun e s1 => wpAny (model X.prog X.w) X.A (noteFrame e X.env) (fun _ s2 => wpAny (model X.prog X.w) X.A (setFlight e none) (fun _ s3 => wpAny (model X.prog X.w) X.A (handleBy e X.env (h₀ :: hds)) (SP X pins D) X.xe s3) X.xe s2) X.xe s1) (wMix X.K D l) := by
    rintro u s1 ⟨a, B, sI, _, σ1, H1, cls, d, rfl, J, seen, up, sky, na, os, bare, wish⟩
    have J := J.ofTry ok
    rw [show (X.tr (X.pn ++ pins) _).stack = X.env :: X.outer from hs] at sky
    refine Sky.land Zc.steady (by rw [ok.frames, hs]) hf sky fun h2 fly up2 => ?_
    obtain ⟨ob, vb, eb, zb, db⟩ := fly.there
    have isFr : ∀ {b : Addr}, b ∈ frs (X.env :: X.outer) → b ≠ a := fun {b} m q => by
      obtain ⟨_, o, e, k⟩ := fly.2.2.1.mem m
      rw [q, eb] at e
      cases e
      exact k _ db
    have out : ∀ {b : Addr}, b = X.env.locals ∨ b ∈ X.fs → b ∈ frs (X.env :: X.outer) := fun {b} m => by
      rcases m with q | q
      · exact List.mem_filterMap.mpr ⟨X.env, List.mem_cons_self, by rw [hf, q]⟩
      · obtain ⟨e, me, q⟩ := List.mem_filterMap.mp q
        exact List.mem_filterMap.mpr ⟨e, List.mem_cons_of_mem _ me, q⟩
    have nl : a ≠ X.env.locals := fun q => isFr (out (.inl rfl)) q.symm
    have nf : a ∉ X.fs := fun q => isFr (out (.inr q)) rfl
    have first : ∀ {h : Heap} {o : Obj} {vs : Array Value}, s1.heap.UpToSlots h → B.StaysIn h → h.get? a = some o → o.data = .fields vs → Inv (X.suite a ((a, o) :: (X.pn ++ pins))) [] σ1 H1 { s1 with heap := h } := fun {h o vs} u st e dv => (J.landed (s' := { s1 with heap := h }) seen st (up.trans u) os bare).suite e dv na nl nf
    have I2 := first up2 fly.1 eb db
    have kind : PySem.W.Looks (model X.prog X.w) h2 (typeOf (.ref a)) cls := fun A Q E s k q => wpAny_typeOf_ref (k _ _ eb) (by rw [zb.1]; exact q)
    -- one clause behind the other
    have asked : ∀ {x : Str} {c : Value} {np : Pos}, Names X x c → ∀ {Q : Value → Shared → Prop} {E : Value → Shared → Prop}, Q c { s1 with heap := h2 } → wpAny (model X.prog X.w) (X.A.mark (some (.ref a))) (eval (.Name x np) X.env) Q E { s1 with heap := h2 } := fun {x c np} hc {Q E} q => by
      rcases hc with ⟨g, nd, m | ⟨m, v, nn⟩⟩
      · exact ld_glob (X := X.suite a ((a, ob) :: (X.pn ++ pins))) I2 g m q nd
      · exact ld_blt (X := X.suite a ((a, ob) :: (X.pn ++ pins))) I2 g m v q nn nd
    have go : ∀ {hs2 : List ExceptHandler} {l2 : List Clause}, Clauses X hs2 l2 → wMix X.K D l2 cls d σ1 H1 → wpAny (model X.prog X.w) X.A (handleBy (.ref a) X.env hs2) (SP X pins D) X.xe { s1 with heap := h2 } := by
      intro hs2 l2 k
      induction k with
      | nil => exact fun w => w.elim
      | @bare x c ts b₀ suite np q hds3 l3 hc hsu r ih =>
        rintro ⟨b, hx, yes, no⟩
        refine wpAny_handleBy_cons (codeAny_handlers_test (asked hc ((PySem.W.exm_one (M := model X.prog X.w) I2.kIn kind hx).here ?_))) (by intro q; cases q)
        cases b with
        | false => exact ih (no rfl)
        | true =>
          refine codeAny_handlers_suite (HandSPX.lands_againZ fly fun h3 fly3 up3 => ?_)
          obtain ⟨oc, vc, ec, zc, dc⟩ := fly3.there
          have I3 := first (up2.trans up3) fly3.1 ec dc
          refine wpAny_mono ((hsu a oc cls d (X.pn ++ pins) zc ⟨_, dc⟩).run [] _ _ H1 _ I3 (yes rfl a na)) ?_ fun _ _ z => z.elim
          rintro fl s5 q5
          cases fl with
          | next =>
            obtain ⟨σ5, H5, I5, q⟩ := q5
            exact ⟨_, _, I5.unsuite ok, q⟩
          | brk =>
            obtain ⟨_, _, _, q⟩ := q5
            exact q.elim
          | cont =>
            obtain ⟨_, _, _, q⟩ := q5
            exact q.elim
          | ret v =>
            obtain ⟨v5, σ5, H5, I5, r5, q⟩ := q5
            exact ⟨_, _, _, I5.unsuite ok, r5, q⟩
      | @named x n c i ts b₀ suite np q hds3 l3 hc hi hln hsu r ih =>
        rintro ⟨b, hx, yes, no⟩
        refine wpAny_handleBy_cons (codeAny_handlers_test (asked hc ((PySem.W.exm_one (M := model X.prog X.w) I2.kIn kind hx).here ?_))) (by intro q; cases q)
        cases b with
        | false => exact ih (no rfl)
        | true =>
          refine codeAny_handlers_suite_as (HandSPX.lands_againZ fly fun h3 fly3 up3 => ?_)
          obtain ⟨oc, vc, ec, zc, dc⟩ := fly3.there
          refine store_ok (X := X.suite a ((a, oc) :: (X.pn ++ pins))) (v := .ref a) (first (up2.trans up3) fly3.1 ec dc) hN hi (.inl hln) rfl (fun s4 I4 => wpAny_mono ((hsu a oc cls d (X.pn ++ pins) zc ⟨_, dc⟩).run [] s4 _ H1 _ I4 (yes rfl a na)) ?_ fun _ _ z => z.elim) (.inr hln)
          rintro fl s5 q5
          cases fl with
          | next =>
            obtain ⟨σ5, H5, I5, q⟩ := q5
            exact gone_ok (I5.unsuite ok) hN hi hln fun s6 I6 => ⟨_, _, I6, q⟩
          | brk =>
            obtain ⟨_, _, _, q⟩ := q5
            exact q.elim
          | cont =>
            obtain ⟨_, _, _, q⟩ := q5
            exact q.elim
          | ret v =>
            obtain ⟨v5, σ5, H5, I5, r5, q⟩ := q5
            exact gone_ok (I5.unsuite ok) hN hi hln fun s6 I6 => ⟨_, _, _, I6, r5, q⟩
    exact go hh wish
  refine wpAny_mono ((hb (wMix X.K D l) (X.pn ++ pins) _ heard).run [] s σ H D (I.toTry _) h) (fun fl s1 q => ?_) fun _ _ z => z
  cases fl with
  | next =>
    obtain ⟨σ1, H1, J, q⟩ := q
    exact wpAny_execs_nil ⟨σ1, H1, J.ofTry ok, q⟩
  | brk =>
    obtain ⟨σ1, H1, J, q⟩ := q
    exact ⟨σ1, H1, J.ofTry ok, q⟩
  | cont =>
    obtain ⟨σ1, H1, J, q⟩ := q
    exact ⟨σ1, H1, J.ofTry ok, q⟩
  | ret v =>
    obtain ⟨v, σ1, H1, J, r, q⟩ := q
    exact ⟨v, σ1, H1, J.ofTry ok, r, q⟩
end
end OwE
end
section
set_option pp.maxSteps 400
set_option pp.deepTerms.threshold 6
namespace K10
open PySem PySem.Spec PyProof.Rows L2
abbrev sHeard : Stmt := top 42
abbrev nH : List Str := ["_law_ask", "error"]
theorem scH : FnScope nH ["_law_ask"] (defScope sHeard) := ⟨rfl, rfl, rfl, by decide +kernel, rfl, by decide +kernel, by decide +kernel⟩
/-- what the ear answers to an error -/
def HearErr (CU CT : Addr) (Q : VK) (cls : Value) (d : Option Addr) (H : Hp) : Prop := ∃ dd, d = some dd ∧
  ((∃ v, cls = .ref CU ∧ H dd = some (.xd [("part", v)]) ∧ ∀ (t : Addr) (H' : Hp), Same H H' → H' t = some (.tup [.str "quota", v]) → Q (.ref t) H') ∨
   (∃ m w, cls = .ref CT ∧ H dd = some (.xd [("most", m), ("what", w)]) ∧ ∀ (t : Addr) (H' : Hp), Same H H' → H' t = some (.tup [w, m]) → Q (.ref t) H'))
def TTh (CU CT : Addr) : (XK → Hp → VK → Prop) → Hp → VK → Prop := fun tl H Q => ∀ (H1 : Hp) (E' : XK) (Q' : VK), Same H H1 → (∀ cls d H', HearErr CU CT Q cls d H' → E' cls d H') → (∀ v H', (∀ M, H' M = none → Q (.ref M) (upd H' M (.lst [v]))) → Q' v H') → tl E' H1 Q'
/-- what the classes of the errors say -/
structure EarC (K : PySem.W.Frag) (mg : Str → Option Value) (CU CT CX : Addr) : Prop where
  eU : OwE.ErrC K CU
  eT : OwE.ErrC K CT
  vU : PySem.W.findIn K (.ref CU) "part" = some none
  vW : PySem.W.findIn K (.ref CT) "what" = some none
  vM : PySem.W.findIn K (.ref CT) "most" = some none
  gU : mg "BadQuota" = some (.ref CU)
  gT : mg "TooMany" = some (.ref CT)
  gX : mg "NextError" = some (.ref CX)
  sUU : PySem.W.exmOne K (.ref CU) (.ref CU) = some true
  sTU : PySem.W.exmOne K (.ref CT) (.ref CU) = some false
  sTT : PySem.W.exmOne K (.ref CT) (.ref CT) = some true
theorem heard_gives {X : Cx} {g CU CT CX : Addr} {cdg : Value} {q : Str} (hgd : X.A.guards = some []) (hr : Room 3 X.A) (c : EarC X.K X.mg CU CT CX) : LamX.GivesTo X nH "_law_heard" (defScope sHeard) g cdg (defBody sHeard) "_law_ask" q (TTh CU CT) := by
  intro f c' s H Q tl act hcc h
  have hr2 := hr.deeper (envOfC "_law_heard" (defScope sHeard) s.heap.objs.size g cdg)
  have hu : (X.A.deeper (envOfC "_law_heard" (defScope sHeard) s.heap.objs.size g cdg)).units + 70 < cLine := by
    have := hr2.un
    omega
  have sz := sizeLine_eq
  refine ⟨_, pss_one (OwE.ps_try_mix (X := (cxOf C8.CX0 X.prog X.w X.K X.mg X.base nH "_law_heard" (defScope sHeard) g cdg X.A X.stack s H C8.E0).nox)
      (tb := fun W D σ H => ∃ Ech : XK, (∀ cls d σ' H', Ech cls d H' → σ'.length = 2 → W cls d σ' H') ∧ σ[0]? = some (some (.ref f)) ∧ H c' = some (LamX.CodeO c' q) ∧ tl Ech H (fun v H' => 1 ≤ sizeLine ∧ ∀ M, H' M = none → D.rt (.ref M) (upd H' M (.lst [v]))))
      rfl rfl scH.nd (fun W pn xe tk => ?_)
      (.named (c := .ref CU) (i := 1) ⟨rfl, by decide, .inl c.gU⟩ rfl rfl (fun a oe cls d pn hz hf => pss_one (ps_ret (pe_tup (pa_cons pe_str (pa_cons (OwE.pe_xe hz hf (pv 1)) pa_nil)))))
      (.named (c := .ref CT) (i := 1) ⟨rfl, by decide, .inl c.gT⟩ rfl rfl (fun a oe cls d pn hz hf => pss_one (ps_ret (pe_tup (pa_cons (OwE.pe_xe hz hf (pv 1)) (pa_cons (OwE.pe_xe hz hf (pv 1)) pa_nil)))))
      (.bare (c := .ref CX) ⟨rfl, by decide, .inl c.gX⟩ (fun a oe cls d pn hz hf => pss_one (ps_ret (pe_tup (pa_cons pe_str (pa_cons pe_str pa_nil))))) .nil)))), ?_⟩
  · refine ⟨fun pins s' σ H' D I h' => ?_⟩
    obtain ⟨Ech, hW, h1, h2, h3⟩ := h'
    exact (pss_one (ps_ret (pe_lst (pa_cons (act (fun c d σ H => σ.length = 2 → W c d σ H) pn xe Ech _ _ (OwE.takes_len tk) hW) pa_nil)))).run pins s' σ H' D I ⟨h1, h2, h3⟩
  · refine ⟨HearErr CU CT Q, fun cls d σ' H' he hl => ?_, rfl, hcc, h _ _ _ (Same.refl _) (fun _ _ _ q => q) fun v H' q => ⟨by omega, q⟩⟩
    obtain ⟨dd, rfl, he⟩ := he
    rcases he with ⟨v, rfl, ed, q⟩ | ⟨m, w, rfl, ed, q⟩
    · refine ⟨true, c.sUU, fun _ a na => ?_, fun q => by cases q⟩
      have h1 := OwE.set_get (i := 1) (v := some (.ref a)) hl (by decide)
      exact ⟨_, h1, rfl, CU, dd, _, v, rfl, c.eU, c.vU, rfl, ed, rfl, by show (2 : Nat) ≤ sizeLine; omega, fun t ht => q t _ (Same.of_new ht) upd_same⟩
    · refine ⟨false, c.sTU, fun q => (by cases q), fun _ => ⟨true, c.sTT, fun _ a na => ?_, fun q => by cases q⟩⟩
      have h1 := OwE.set_get (i := 1) (v := some (.ref a)) hl (by decide)
      exact ⟨_, h1, rfl, CT, dd, _, w, rfl, c.eT, c.vW, rfl, ed, rfl, _, h1, rfl, CT, dd, _, m, rfl, c.eT, c.vM, rfl, ed, rfl, by show (2 : Nat) ≤ sizeLine; omega, fun t ht => q t _ (Same.of_new ht) upd_same⟩
end K10
end
section
set_option pp.maxSteps 400
set_option pp.deepTerms.threshold 6
namespace OwR
open PySem PySem.Spec PyProof.Rows L2
theorem op_own2K {X : Cx} {CX : CXT} {k : Nat} {g : Addr} {sp : Sp} {E : XK} {op : Operator} {K : PySem.W.Frag} (h : X.K = K) (F : FnR X.prog X.w X.K X.mg X.base CX k g sp) (hr : Room k X.A) (hx : Passes CX X E) : OpR X (binaryOp op) (rOwn2 K op g sp E) := by
  subst h
  exact op_own2 F hr hx
theorem call_lenOK {X : Cx} {CX : CXT} {k : Nat} {g : Addr} {sp : Sp} {E : XK} {K : PySem.W.Frag} (h : X.K = K) (F : FnR X.prog X.w X.K X.mg X.base CX k g sp) (hr : Room (k + 1) X.A) (hx : Passes CX X E) : CallR X (.builtin "len") (rLenO K g sp E) := by
  subst h
  exact call_lenO F hr hx
end OwR
namespace K10
open PySem PySem.Spec PyProof.Rows L2
abbrev sRF : Stmt := top 48
def qRF : Str := "_law_refused_right.<locals>.<lambda>"
theorem qRF_eq : (("_law_refused_right" : Str) ++ ".<locals>.") ++ "<lambda>" = qRF := by decide +kernel
def oddTys : List String := ["NoneType", "int", "bool", "str", "tuple", "list", "dict"]
/-- what the classes of the built-in types say beside quotas -/
structure QTys (K : PySem.W.Frag) (a : QAd) : Prop where
  no : ∀ T ∈ oddTys, PySem.W.kitOne K (.type T) (.ref a.CQ) = some false
  an : ∀ T ∈ oddTys, OwR.BinT K .BitAnd a.CC T
  or_ : ∀ T ∈ oddTys, OwR.BinT K .BitOr a.CC T
/-- no quota, of a built-in type -/
def OddAt (H : Hp) (v : V) : Prop := ∃ T ∈ oddTys, OwR.TyB H v T
theorem OddAt.noQ {K : PySem.W.Frag} {a : QAd} {H : Hp} {v : V} (h : OddAt H v) (q : QTys K a) : NoQ K a.CQ H v := by
  obtain ⟨T, hT, ty⟩ := h
  have k := q.no T hT
  cases ty with
  | sc h =>
    cases v with
    | non => cases h; exact ⟨_, .base .non, k⟩
    | bl b => cases h; exact ⟨_, .base (.bl b), k⟩
    | int i => cases h; exact ⟨_, .base (.int i), k⟩
    | str z => cases h; exact ⟨_, .base (.str z), k⟩
    | _ => cases h
  | lst e => exact ⟨_, .base (.lst e), k⟩
  | tup e => exact ⟨_, .base (.tup e), k⟩
  | dic e => exact ⟨_, .base (.dK e), k⟩
theorem OddAt.mono {H H' : Hp} {v : V} (h : OddAt H v) (s : ∀ a o, v = .ref a → (∀ ps, o ≠ .tbl ps) → H a = some o → H' a = some o) : OddAt H' v := by
  obtain ⟨T, hT, ty⟩ := h
  refine ⟨T, hT, ?_⟩
  cases ty with
  | sc h => exact .sc h
  | lst e => exact .lst (s _ _ rfl (fun ps h => by cases h) e)
  | tup e => exact .tup (s _ _ rfl (fun ps h => by cases h) e)
  | dic e => exact .dic (s _ _ rfl (fun ps h => by cases h) e)
theorem OddAt.same {H H' : Hp} {v : V} (h : OddAt H v) (s : Same H H') : OddAt H' v := h.mono fun _ _ _ _ e => s _ _ e
theorem QTr.lo {a : QAd} {H H' : Hp} {p c : Addr} {ns : List Int} {n : Nat} {z : Int} {t : QT} {q : Addr} (h : QTr a H t q) (P : PenAt H p c ns n z) (s : Lo p H H') : QTr a H' t q := h.mono (fun _ _ e => lo_tup P s e) fun k C dx fs e => s _ _ (fun q => by rw [q, P.pen] at e; cases e) (fun ps h => by cases h) e
theorem cap_none {K : PySem.W.Frag} {C CN CM z dz : Addr} {H : Hp} {m : Int} {xs : List V} {Q : VK} {E : XK} (ex : xs = []) (m0 : 0 ≤ m) (m1 : m ≤ 12) (h1 : H z = none) (h2 : H dz = none)
    (q : ∀ H', Same H H' → CapAt C H' z m [] → Q .non H') : spCap K C CN CM (.ref z :: .int m :: xs) (upd (upd H dz (.own z)) z (.ins C dz [])) Q E :=
  ⟨z, dz, .int m, xs, rfl, upd_same, by rw [ex]; show (0 : Nat) ≤ 1000; decide, .inl ⟨m, [], rfl, m0, m1, ex, List.nodup_nil, (fun b hb => by cases hb), by show (0 : Nat) ≤ 12; decide, fun H' ys bt pm srt ca => by
    obtain rfl : ys = [] := pm.eq_nil
    exact q H' (made_same h1 h2 bt) ca⟩⟩
theorem OddAt.some {H : Hp} {L : Addr} (h : OddAt H (.ref L)) : ∃ o, H L = some o := by
  obtain ⟨T, hT, ty⟩ := h
  cases ty with
  | sc h => cases h
  | lst e => exact ⟨_, e⟩
  | tup e => exact ⟨_, e⟩
  | dic e => exact ⟨_, e⟩
/-- the tuples that were heard -/
structure TupsAt (H : Hp) (rs : List Addr) (ts : List (List V)) : Prop where
  len : rs.length = ts.length
  at_ : ∀ (i : Nat) (r : Addr) (t : List V), rs[i]? = some r → ts[i]? = some t → H r = some (.tup t)
theorem TupsAt.mono {H H' : Hp} {rs : List Addr} {ts : List (List V)} (h : TupsAt H rs ts) (s : ∀ k xs, H k = some (.tup xs) → H' k = some (.tup xs)) : TupsAt H' rs ts := ⟨h.len, fun i r t e1 e2 => s _ _ (h.at_ i r t e1 e2)⟩
theorem TupsAt.snoc {H : Hp} {rs : List Addr} {ts : List (List V)} (h : TupsAt H rs ts) {r : Addr} {t : List V} (e : H r = some (.tup t)) : TupsAt H (rs ++ [r]) (ts ++ [t]) := by
  refine ⟨by rw [List.length_append, List.length_append, h.len]; rfl, fun i k' p' e1 e2 => ?_⟩
  rcases Nat.lt_trichotomy i rs.length with c | c | c
  · rw [List.getElem?_append_left c] at e1
    rw [List.getElem?_append_left (by rw [← h.len]; exact c)] at e2
    exact h.at_ i k' p' e1 e2
  · subst c
    rw [List.getElem?_append_right (Nat.le_refl _), Nat.sub_self] at e1
    rw [h.len, List.getElem?_append_right (Nat.le_refl _), Nat.sub_self] at e2
    cases e1
    cases e2
    exact e
  · rw [List.getElem?_eq_none (by rw [List.length_append]; simp; omega)] at e1
    cases e1
/-- the pen, the tables, the odd value, the good quota, what was heard -/
structure RS (a : QAd) (T : List (Addr × Str)) (p c : Addr) (ns : List Int) (n : Nat) (z : Int) (od : V) (gq L : Addr) (rs : List Addr) (ts : List (List V)) (H0 H : Hp) : Prop where
  pen : PenAt H p c ns n z
  tabs : LamX.Tabs T H
  od_ : OddAt H od
  nod : od ≠ .ref L
  gd : QTr a H (.cap 2 ["a"]) gq
  eL : H L = some (.lst (rs.map V.ref))
  tp : TupsAt H rs ts
  nL : L ≠ p
  nc : c ≠ L
  fr : ∀ o, H0 L = some o → ∃ ps, o = .tbl ps
  low : Lo p H0 H
section
variable {a : QAd} {T : List (Addr × Str)} {p c : Addr} {ns : List Int} {n : Nat} {z : Int} {od : V} {gq L : Addr} {rs : List Addr} {ts : List (List V)} {H0 H H' : Hp}
theorem OddAt.lo (h : OddAt H od) (P : PenAt H p c ns n z) (np : od ≠ .ref p) (s : Lo p H H') : OddAt H' od := h.mono fun b o e nt e2 => s b o (fun q => np (by rw [e, q])) nt e2
theorem RS.lo (h : RS a T p c ns n z od gq L rs ts H0 H) (np : od ≠ .ref p) (s : Lo p H H') (hp : H' p = H p) (tb : LamX.Tabs T H') : RS a T p c ns n z od gq L rs ts H0 H' :=
  ⟨h.pen.lo s hp, tb, h.od_.lo h.pen np s, h.nod, h.gd.lo h.pen s, lo_refs h.pen s h.eL, h.tp.mono fun _ _ e => lo_tup h.pen s e, h.nL, h.nc, h.fr, h.low.trans s⟩
theorem RS.same (h : RS a T p c ns n z od gq L rs ts H0 H) (s : Same H H') : RS a T p c ns n z od gq L rs ts H0 H' := 
  ⟨h.pen.same s, tabs_same h.tabs s, h.od_.same s, h.nod, h.gd.same s, s _ _ h.eL, h.tp.mono fun _ _ e => s _ _ e, h.nL, h.nc, h.fr, h.low.trans (Same.lo p s)⟩
theorem RS.app (h : RS a T p c ns n z od gq L rs ts H0 H) {r : Addr} {t : List V} (e : H r = some (.tup t)) : RS a T p c ns n z od gq L (rs ++ [r]) (ts ++ [t]) H0 (upd H L (.lst (rs.map V.ref ++ [V.ref r]))) := by
  have keep : ∀ {k : Addr} {xs : List V}, H k = some (.tup xs) → upd H L (.lst (rs.map V.ref ++ [V.ref r])) k = some (.tup xs) := fun {k xs} e => by
    rw [upd_ne (fun q => by rw [q, h.eL] at e; cases e)]
    exact e
  refine ⟨h.pen.put (Ne.symm h.nL) h.nc, tabs_put h.tabs h.eL, h.od_.mono fun b o e _ e2 => ?_, h.nod, h.gd.mono (fun _ _ e => keep e) fun k C dx fs e => ?_, ?_, (h.tp.mono fun _ _ e => keep e).snoc (keep e), h.nL, h.nc, h.fr, fun b o nb d eb => ?_⟩
  · rw [upd_ne (fun q => h.nod (by rw [e, q]))]
    exact e2
  · rw [upd_ne (fun q => by rw [q, h.eL] at e; cases e)]
    exact e
  · rw [List.map_append]
    exact upd_same
  · rw [upd_ne (fun e => by
      rw [e] at eb
      obtain ⟨ps, q⟩ := h.fr o eb
      exact d ps q)]
    exact h.low b o nb d eb
theorem lo_ext {H4 : Hp} (P : PenAt H p c ns n z) (eN : LamX.ExtN H H4) (s : Same H4 H') : Lo p H H' ∧ H' p = H p := ⟨(extN_lo p eN).trans (Same.lo p s), by
  rw [s _ _ ((P.ext eN).pen)]
  exact P.pen.symm⟩
end
section
variable {K : PySem.W.Frag} {a : QAd} {C : Addr} {mk : QT → QT → QT} {H Hz : Hp} {od y : V} {Q Q' : VK} {E' : XK}
theorem join_first (s0 : Same H Hz) (od_ : OddAt Hz od) (Ty : QTys K a) (hE : ∀ cls d H', HearErr a.CU a.CT Q cls d H' → E' cls d H') (q : ∀ t H6, Same H H6 → H6 t = some (.tup [.str "quota", .str "first"]) → Q (.ref t) H6) : MadeJoin K a.CQ a.fL a.fS C a.CU a.CT mk Hz od y Q' E' :=
  .inr (.inl ⟨fun H' s => (od_.same s).noQ Ty, fun H' d s nd => hE _ _ _ ⟨d, rfl, .inl ⟨_, rfl, upd_same, fun t H6 s6 et => q t H6 (((s0.trans s).trans (Same.of_new nd)).trans s6) et⟩⟩⟩)
theorem join_second {P : Program} {w : World} {mg : Str → Option Value} {base : Heap} (R : QF P w K mg base a) {t : QT} {g : Addr} (tr : QTr a Hz t g) (s0 : Same H Hz) (od_ : OddAt Hz od) (Ty : QTys K a) (hE : ∀ cls d H', HearErr a.CU a.CT Q cls d H' → E' cls d H') (q : ∀ t H6, Same H H6 → H6 t = some (.tup [.str "quota", .str "second"]) → Q (.ref t) H6) : MadeJoin K a.CQ a.fL a.fS C a.CU a.CT mk Hz (.ref g) od Q' E' :=
  .inr (.inr ⟨⟨g, t, rfl, tr.any R⟩, fun H' s => (od_.same s).noQ Ty, fun H' d s nd => hE _ _ _ ⟨d, rfl, .inl ⟨_, rfl, upd_same, fun t H6 s6 et => q t H6 (((s0.trans s).trans (Same.of_new nd)).trans s6) et⟩⟩⟩)
end
def dueD (m o : Nat) : PyData := if m + o ≤ 20 then .list [.int ((m + o : Nat) : Int)] else .tuple [.str "caps", .int 20]
def dueO (m o : Nat) : HO := if m + o ≤ 20 then .lst [.int ((m + o : Nat) : Int)] else .tup [.str "caps", .int 20]
theorem due_dp {K : PySem.W.Frag} {H : Hp} {x : Addr} {m o : Nat} (e : H x = some (dueO m o)) : Dp K H (.ref x) (dueD m o) := by
  unfold dueO at e
  unfold dueD
  by_cases h : m + o ≤ 20
  · rw [if_pos h] at e ⊢
    exact .lst (SqL.of e) (.cons (.int _) .nil)
  · rw [if_neg h] at e ⊢
    exact .tup (SqT.of e) (.cons (.str _) (.cons (.int _) .nil))
theorem due_lo {H H' : Hp} {x p c : Addr} {ns : List Int} {n : Nat} {z : Int} {m o : Nat} (e : H x = some (dueO m o)) (P : PenAt H p c ns n z) (s : Lo p H H') : H' x = some (dueO m o) := by
  refine s x _ (fun q => ?_) (fun ps h => ?_) e
  · rw [q, P.pen] at e
    unfold dueO at e
    split at e <;> cases e
  · unfold dueO at h
    split at h <;> cases h
theorem dueD_shaped (m o : Nat) : SeqAt.shaped (.list [dueD m o, dueD m o]) = true := by
  have e : PyData.strOk "caps" = true := by decide +kernel
  unfold dueD
  split
  · exact OwD.shaped_of (by simp [PyData.canLay0, PyData.canLayAll0]) (Nat.le_of_ble_eq_true rfl)
  · exact OwD.shaped_of (by simp [PyData.canLay0, PyData.canLayAll0, e]) (Nat.le_of_ble_eq_true rfl)
/-- the length of a joint, or that there are too many caps -/
theorem join_len {P : Program} {w : World} {K : PySem.W.Frag} {mg : Str → Option Value} {base : Heap} {a : QAd} {C : Addr} {mk : QT → QT → QT} {H Hz : Hp} {Q Q' : VK} {E' : XK} {t u : QT} {q1 q2 : Addr} (R : QF P w K mg base a) (hC : C ∈ [a.CC, a.CB, a.CE]) (hmk : ∀ t u : QT, (mk t u).caps = t.caps ++ u.caps) (h1 : QTr a Hz t q1) (h2 : QTr a Hz u q2) (g1 : ∀ c ∈ t.caps, GoodC c) (g2 : ∀ c ∈ u.caps, GoodC c) (k2 : (t.kinds ++ u.kinds).length < 64) (l1 : t.caps.length ≤ 20) (l2 : u.caps.length ≤ 20) (s0 : Same H Hz)
    (hE : ∀ cls d H', HearErr a.CU a.CT Q cls d H' → E' cls d H') (hQ : ∀ v H', (∀ M, H' M = none → Q (.ref M) (upd H' M (.lst [v]))) → Q' v H') (next : ∀ x H', Same H H' → H' x = some (dueO t.caps.length u.caps.length) → Q (.ref x) H') :
    MadeJoin K a.CQ a.fL a.fS C a.CU a.CT mk Hz (.ref q1) (.ref q2) (fun v H' => OwR.rLenO K a.fL (spLnQ K a.CQ) E0 [v] H' Q') E' := by
  have sz := sizeLine_eq
  have x1 := text_len t fun c hc => (g1 c hc).1
  have x2 := text_len u fun c hc => (g2 c hc).1
  refine .inl ⟨q1, q2, t, u, rfl, rfl, h1.any R, h2.any R, l1, l2, k2, by omega, by omega, fun le z H' hz s' qa pr => ?_, fun gt H' d s' nd => hE _ _ _ ⟨d, rfl, .inr ⟨_, _, rfl, upd_same, fun x H6 s6 et => next x H6 (((s0.trans s').trans (Same.of_new nd)).trans s6) ?_⟩⟩⟩
  · obtain ⟨dx, fs, cp, jp, kp, cks, zs, ez, _, ec, hcp, hck, _⟩ := qa
    have len : (cks.map V.ref).length = t.caps.length + u.caps.length := by rw [List.length_map, hck.len, hmk, List.length_append]
    refine ⟨z, C, dx, fs, rfl, ez, (R.one C hC).ln, C, (R.one C hC).qk, z, dx, cp, fs, _, rfl, ez, ec, SqT.of hcp, ((t.caps.length + u.caps.length : Nat) : Int), by rw [len], by omega, by omega, hQ _ _ fun M hM => next M _ ((s0.trans s').trans (Same.of_new hM)) ?_⟩
    rw [dueO, if_pos le]
    exact upd_same
  · rw [dueO, if_neg (by omega)]
    exact et
theorem kinds_b (t u : QT) : (QT.both t u).kinds = t.kinds ++ u.kinds := List.flatMap_append
theorem kinds_e (t u : QT) : (QT.either t u).kinds = t.kinds ++ u.kinds := List.flatMap_append
theorem row_kinds : ∀ n, (rowT n).kinds.length = n + 1
  | 0 => rfl
  | n + 1 => by
    have ih := row_kinds n
    have e : rowT (n + 1) = if n = 4 then QT.either (rowT n) (.cap 3 ["a"]) else .both (rowT n) (.cap 12 ["b"]) := rfl
    rw [e]
    split
    · rw [kinds_e, List.length_append, ih]
      rfl
    · rw [kinds_b, List.length_append, ih]
      rfl
def quD (x : Str) : PyData := .tuple [.str "quota", .str x]
def fiveD : PyData := .list [quD "first", quD "first", quD "second", quD "second", quD "second"]
theorem five_ok : SeqAt.shaped fiveD = true ∧ PyData.eqv fiveD fiveD = true := by decide +kernel
theorem qu_dp {K : PySem.W.Frag} {H : Hp} {x : Str} {u : Addr} (e : H u = some (.tup [.str "quota", .str x])) : Dp K H (.ref u) (quD x) := .tup (SqT.of e) (.cons (.str _) (.cons (.str _) .nil))
section
variable {P : Program} {w : World} {K : PySem.W.Frag} {mg : Str → Option Value} {base : Heap}
abbrev nRF : List Str := ["_law_pen_here", "_law_odd", "_law_good", "_law_many", "_law_other", "_law_heard_here", "_law_left", "_law_right", "_law_due"]
theorem scRF : FnScope nRF ["_law_pen_here"] (defScope sRF) := ⟨rfl, rfl, rfl, by decide +kernel, rfl, by decide +kernel, by decide +kernel⟩
def spRF (T : List (Addr × Str)) : Sp := fun vs H Q _ => ∃ (p c : Addr) (ns : List Int) (n : Nat) (z : Int), vs = [.ref p] ∧ PenAt H p c ns n z ∧ n + 10 < 100000 ∧ LamX.Tabs T H ∧ ∀ n' z' H', n' ≤ n + 6 → PenAt H' p c ns n' z' → Lo p H H' → LamX.Tabs T H' → Q (.bl true) H'
theorem spRF_len {T : List (Addr × Str)} : ∀ vs H Q E, spRF T vs H Q E → vs.length = (["_law_pen_here"] : List Str).length := fun vs H Q E h => by
  obtain ⟨p, c, ns, n, z, rfl, _⟩ := h
  rfl
theorem ok_RF {a : QAd} {CX f c0 Pt fH fDr fPi fRw : Addr} {fdH fdDr fdPi fdRw : FuncData} {T : List (Addr × Str)} {oc kV doc pm ct : Value} {od an : Option Addr} {osl : Array (Option Value)} (lk : K.lookup f = some ⟨oc, od, .func (PySem.W.fnOf "_law_refused_right" "_law_refused_right" (defArgs sRF) (defBody sRF) (defScope sRF) .none kV doc pm an (.ref c0) ct), osl⟩) (hcd : PySem.W.codeIn K (.ref c0) "_law_refused_right" = true)
    (R : QF P w K mg base a) (Ty : QTys K a) (ear : EarC K mg a.CU a.CT CX) (Nn : Nm mg) (F_heard : Fun K "_law_heard" "_law_heard" sHeard fH fdH) (g_heard : mg "_law_heard" = some (.ref fH)) (F_draw : Fun K "_law_draw" "_law_draw" sDraw fDr fdDr) (g_draw : mg "_law_draw" = some (.ref fDr))
    (F_pick : Fun K "_law_pick" "_law_pick" sPick fPi fdPi) (g_pick : mg "_law_pick" = some (.ref fPi)) (F_row : Fun K "_law_row" "_law_row" sRw fRw fdRw) (g_row : mg "_law_row" = some (.ref fRw)) (n_range : mg "range" = none) (TB : LamX.TabB base mg c0 Pt) (memT : (Pt, qRF) ∈ T) (oneT : ∀ p ∈ T, p.1 = Pt → p.2 = qRF) :
    OwR.FnG P w K mg base CX0 9 f (PySem.W.fnOf "_law_refused_right" "_law_refused_right" (defArgs sRF) (defBody sRF) (defScope sRF) .none kV doc pm an (.ref c0) ct) ["_law_pen_here"] (spRF T) := by
  have n_len := R.chk.T.n_len
  have b_heard : Binds K fdH ["_law_ask"] [] := F_heard.binds fun _ _ _ _ _ _ us hl => match us, hl with | [_], _ => rfl
  have G_draw : FnOk P w K mg base CX0 1 fDr fdDr ["_law_pen_here", "_law_many"] spDraw := ok_draw F_draw Nn
  have b_draw : Binds K fdDr ["_law_pen_here", "_law_many"] [] := F_draw.binds fun _ _ _ _ _ _ us hl => match us, hl with | [_, _], _ => rfl
  have G_pick : FnOk P w K mg base CX0 2 fPi fdPi ["_law_pen_here", "_law_some"] (spPick K) := ok_pick F_pick Nn F_draw g_draw
  have b_pick : Binds K fdPi ["_law_pen_here", "_law_some"] [] := F_pick.binds fun _ _ _ _ _ _ us hl => match us, hl with | [_, _], _ => rfl
  have G_row : FnOk P w K mg base (L2.CX P w) 7 fRw fdRw ["_law_many"] (spRw a) := ok_Rw R F_row n_range
  have b_row : Binds K fdRw ["_law_many"] [] := F_row.binds fun _ _ _ _ _ _ us hl => match us, hl with | [_], _ => rfl
  refine OwR.fn_ofG (k := 8) lk hcd scRF (fun vs H Q E h => ?_) fun A outer s H vs Q E hgd0 hr h => ?_
  · exact spRF_len vs H Q E h
  · obtain ⟨p, c, ns, n, z, rfl, hp, hn, hT, q⟩ := h
    have hgd : (A.deeper (envOfC "_law_refused_right" (defScope sRF) s.heap.objs.size f (.ref c0))).guards = some [] := hgd0
    have hr8 : Room 8 (A.deeper (envOfC "_law_refused_right" (defScope sRF) s.heap.objs.size f (.ref c0))) := hr
    have hr7 := hr8.mono (show 7 ≤ 8 by decide)
    have hr5 := hr8.mono (show 5 ≤ 8 by decide)
    have hr3 := hr8.mono (show 3 ≤ 8 by decide)
    have hr2 := hr8.mono (show 2 ≤ 8 by decide)
    have hr1 := hr8.mono (show 1 ≤ 8 by decide)
    refine ⟨_, PSs.nox (pss_cons (ps_set (i := 1) scRF.nd rfl (Or.inr rfl) (pe_call G_pick hr2 (by rfl) g_pick F_pick.kp b_pick .nil pass0 (pa_cons (pv 0) (pa_cons (pe_lst (pa_cons pe_non (pa_cons pe_int (pa_cons pe_bl (pa_cons pe_str (pa_cons (pe_tup (pa_cons pe_int pa_nil)) (pa_cons (pe_lst (pa_cons (StX.pe_makeR R.mkC R.GC hr5 (by rfl) R.gC passL (pa_cons pe_int pa_nil)) pa_nil)) (pa_cons pe_dnewK (pa_cons (pe_tup (pa_cons pe_str (pa_cons (StX.pe_makeR R.mkC R.GC hr5 (by rfl) R.gC passL (pa_cons pe_int pa_nil)) (pa_cons (StX.pe_makeR R.mkC R.GC hr5 (by rfl) R.gC passL (pa_cons pe_int pa_nil)) pa_nil)))) pa_nil))))))))) pa_nil))))
    (pss_cons (ps_asg (pe_tup (pa_cons (StX.pe_makeR R.mkC R.GC hr5 (by rfl) R.gC passL (pa_cons pe_int (pa_cons pe_str pa_nil))) (pa_cons (pe_op op_add pe_int (pe_call G_draw hr1 (by rfl) g_draw F_draw.kp b_draw .nil pass0 (pa_cons (pv 0) (pa_cons pe_int pa_nil)))) pa_nil))) (pg_tup rfl (pgs_cons (pg_name (i := 2) scRF.nd rfl (Or.inr rfl)) (pgs_cons (pg_name (i := 3) scRF.nd rfl (Or.inl rfl)) pgs_nil))))
    (pss_cons (ps_set (i := 4) scRF.nd rfl (Or.inl rfl) (pe_op op_sub (pe_op op_add pe_int (pe_call G_draw hr1 (by rfl) g_draw F_draw.kp b_draw .nil pass0 (pa_cons (pv 0) (pa_cons pe_int pa_nil)))) (pv 3)))
    (pss_cons (ps_set (i := 5) scRF.nd rfl (Or.inl rfl) (pe_lst (pa_cons (OwE.pe_lamT (T := T) (k := 6) (q := qRF) (by rfl) F_heard g_heard b_heard scH rfl (Or.inl rfl) qRF_eq (fun cdv => heard_gives hgd hr3 ear) TB rfl memT oneT hr8 (LamX.lamS_by (sc := defScope sRF) (by decide +kernel)) (fun A outer s H E f c2 hr => (StX.pe_makeR R.mkB R.GB (hr.mono (show 5 ≤ 6 by decide)) (by rfl) R.gB (passes_call (takes_of rfl rfl rfl rfl) (fun _ _ _ _ h => h)) (pa_cons (pv 1) (pa_cons (pv 1) pa_nil))))) pa_nil)))
    (pss_cons (ps_expr (pe_bm PySem.F.plainAttrs_list PySem.F.slot_list_append PySem.F.type_list_append mt_append (pv 5) (pa_cons (OwE.pe_lamT (T := T) (k := 6) (q := qRF) (by rfl) F_heard g_heard b_heard scH rfl (Or.inl rfl) qRF_eq (fun cdv => heard_gives hgd hr3 ear) TB rfl memT oneT hr8 (LamX.lamS_by (sc := defScope sRF) (by decide +kernel)) (fun A outer s H E f c2 hr => (StX.pe_makeR R.mkE R.GE (hr.mono (show 5 ≤ 6 by decide)) (by rfl) R.gE (passes_call (takes_of rfl rfl rfl rfl) (fun _ _ _ _ h => h)) (pa_cons (pv 1) (pa_cons (pv 2) pa_nil))))) pa_nil)))
    (pss_cons (ps_expr (pe_bm PySem.F.plainAttrs_list PySem.F.slot_list_append PySem.F.type_list_append mt_append (pv 5) (pa_cons (OwE.pe_lamT (T := T) (k := 6) (q := qRF) (by rfl) F_heard g_heard b_heard scH rfl (Or.inl rfl) qRF_eq (fun cdv => heard_gives hgd hr3 ear) TB rfl memT oneT hr8 (LamX.lamS_by (sc := defScope sRF) (by decide +kernel)) (fun A outer s H E f c2 hr => (StX.pe_makeR R.mkB R.GB (hr.mono (show 5 ≤ 6 by decide)) (by rfl) R.gB (passes_call (takes_of rfl rfl rfl rfl) (fun _ _ _ _ h => h)) (pa_cons (pv 2) (pa_cons (pv 1) pa_nil))))) pa_nil)))
    (pss_cons (ps_expr (pe_bm PySem.F.plainAttrs_list PySem.F.slot_list_append PySem.F.type_list_append mt_append (pv 5) (pa_cons (OwE.pe_lamT (T := T) (k := 6) (q := qRF) (by rfl) F_heard g_heard b_heard scH rfl (Or.inl rfl) qRF_eq (fun cdv => heard_gives hgd hr3 ear) TB rfl memT oneT hr8 (LamX.lamS_by (sc := defScope sRF) (by decide +kernel)) (fun A outer s H E f c2 hr => (pe_op (OwR.op_ownBK (K := K) rfl R.and_ hr (passes_call (takes_of rfl rfl rfl rfl) (fun _ _ _ _ h => h))) (pv 2) (pv 1)))) pa_nil)))
    (pss_cons (ps_expr (pe_bm PySem.F.plainAttrs_list PySem.F.slot_list_append PySem.F.type_list_append mt_append (pv 5) (pa_cons (OwE.pe_lamT (T := T) (k := 6) (q := qRF) (by rfl) F_heard g_heard b_heard scH rfl (Or.inl rfl) qRF_eq (fun cdv => heard_gives hgd hr3 ear) TB rfl memT oneT hr8 (LamX.lamS_by (sc := defScope sRF) (by decide +kernel)) (fun A outer s H E f c2 hr => (pe_op (OwR.op_ownBK (K := K) rfl R.or_ hr (passes_call (takes_of rfl rfl rfl rfl) (fun _ _ _ _ h => h))) (pv 2) (pv 1)))) pa_nil)))
    (pss_cons (ps_if (pt_cmpR (op_neD hr8.units) (pv 5) (pe_op op_cat (pe_op op_rep (pe_lst (pa_cons (pe_tup (pa_cons pe_str (pa_cons pe_str pa_nil))) pa_nil)) pe_int) (pe_op op_rep (pe_lst (pa_cons (pe_tup (pa_cons pe_str (pa_cons pe_str pa_nil))) pa_nil)) pe_int)) (nomark _)) (pss_one (ps_ret pe_bl)) pss_nil)
    (pss_cons (ps_if (pt_not (pt_chain op_le op_le pe_int (pv 4) pe_int)) (pss_one (ps_ret pe_bl)) pss_nil)
    (pss_cons (ps_asg (pe_tup (pa_cons (pe_call G_row hr7 (by rfl) g_row F_row.kp b_row .nil passL (pa_cons (pv 3) pa_nil)) (pa_cons (pe_call G_row hr7 (by rfl) g_row F_row.kp b_row .nil passL (pa_cons (pv 4) pa_nil)) pa_nil))) (pg_tup rfl (pgs_cons (pg_name (i := 6) scRF.nd rfl (Or.inr rfl)) (pgs_cons (pg_name (i := 7) scRF.nd rfl (Or.inr rfl)) pgs_nil))))
    (C8.pss_cut (ps_set (i := 8) scRF.nd rfl (Or.inl rfl) (pe_ifExp (pt_cmpR op_le (pe_op op_add (pv 3) (pv 4)) pe_int (nomark _)) (pe_lst (pa_cons (pe_op op_add (pv 3) (pv 4)) pa_nil)) (pe_tup (pa_cons pe_str (pa_cons pe_int pa_nil)))))
    (pss_cons (ps_set (i := 5) scRF.nd rfl (Or.inl rfl) (pe_lst (pa_cons (OwE.pe_lamT (T := T) (k := 6) (q := qRF) (by rfl) F_heard g_heard b_heard scH rfl (Or.inl rfl) qRF_eq (fun cdv => heard_gives hgd hr3 ear) TB rfl memT oneT hr8 (LamX.lamS_by (sc := defScope sRF) (by decide +kernel)) (fun A outer s H E f c2 hr => (pe_callB (OwR.call_lenOK (K := K) rfl R.len (hr.mono (show 2 ≤ 6 by decide)) pass0) (by rfl) n_len boot_len (pa_cons (pe_op (OwR.op_own2K (K := K) rfl R.and_ hr (passes_call (takes_of rfl rfl rfl rfl) (fun _ _ _ _ h => h))) (pv 6) (pv 7)) pa_nil)))) pa_nil)))
    (pss_cons (ps_expr (pe_bm PySem.F.plainAttrs_list PySem.F.slot_list_append PySem.F.type_list_append mt_append (pv 5) (pa_cons (OwE.pe_lamT (T := T) (k := 6) (q := qRF) (by rfl) F_heard g_heard b_heard scH rfl (Or.inl rfl) qRF_eq (fun cdv => heard_gives hgd hr3 ear) TB rfl memT oneT hr8 (LamX.lamS_by (sc := defScope sRF) (by decide +kernel)) (fun A outer s H E f c2 hr => (pe_callB (OwR.call_lenOK (K := K) rfl R.len (hr.mono (show 2 ≤ 6 by decide)) pass0) (by rfl) n_len boot_len (pa_cons (StX.pe_makeR R.mkE R.GE (hr.mono (show 5 ≤ 6 by decide)) (by rfl) R.gE (passes_call (takes_of rfl rfl rfl rfl) (fun _ _ _ _ h => h)) (pa_cons (pv 7) (pa_cons (pv 6) pa_nil))) pa_nil)))) pa_nil)))
    (pss_one (ps_ret (pe_and (pe_cmpR (op_eqD hr8.units) (pv 5) (pe_op op_rep (pe_lst (pa_cons (pv 8) pa_nil)) pe_int) (nomark _)) (pe_one (pe_cmpR op_eq (pe_callB (OwR.call_lenO R.len hr2 pass0) (by rfl) n_len boot_len (pa_cons (pv 6) pa_nil)) (pv 3) (nomark _)))))))))))))))))))), ?_⟩
    have szl : ∀ n : Nat, n ≤ 30 → n ≤ sizeLine := fun n h => Nat.le_trans h (by decide +kernel)
    have sz := sizeLine_eq
    have big : ∀ i : Int, 0 ≤ i → i ≤ 100 → i.natAbs < 2 ^ 1000 := fun i h0 h1 => Nat.lt_of_le_of_lt (show i.natAbs ≤ 100 by omega) (by decide +kernel)
    obtain ⟨na, _, la, _, sa, _⟩ := ab_ok
    -- the odd value
    refine ⟨_, rfl, szl 1 (by decide), fun a1 h1 => ?_⟩
    have s1 := Same.of_new (o := .tup [.int 1]) h1
    refine fun z1 dz1 g1 g2 _ => cap_none rfl (by decide) (by decide) g1 g2 fun H1 v1 _ => ⟨rfl, szl 1 (by decide), fun a2 h2 a3 h3 => ?_⟩
    have s2 := Same.of_new (o := .lst [.ref z1]) h2
    have s3 := Same.of_new (o := .dK []) h3
    refine fun z2 dz2 g3 g4 _ => cap_none rfl (by decide) (by decide) g3 g4 fun H2 v2 _ => ⟨rfl, ?_⟩
    refine fun z3 dz3 g5 g6 _ => cap_none rfl (by decide) (by decide) g5 g6 fun H3 v3 _ => ⟨rfl, szl 3 (by decide), fun a4 h4 => ⟨szl 8 (by decide), fun L1 hL1 => ?_⟩⟩
    have s4 := Same.of_new (o := .tup [.str "both", .ref z2, .ref z3]) h4
    have s5 := Same.of_new (o := .lst [V.non, .int 0, .bl true, .str "cap 1 0", .ref a1, .ref a2, .ref a3, .ref a4]) hL1
    have t13 := (s1.trans v1)
    have t23 := t13.trans (s2.trans s3)
    have t33 := t23.trans (v2.trans v3)
    have t44 := t33.trans s4
    have nL1 : L1 ≠ p := fun e => (hp.same t44).some (e ▸ hL1)
    have n1 : a1 ≠ p := fun e => hp.some (e ▸ h1)
    have n2 : a2 ≠ p := fun e => (hp.same t13).some (e ▸ h2)
    have n3 : a3 ≠ p := fun e => (hp.same (t13.trans s2)).some (e ▸ h3)
    have n4 : a4 ≠ p := fun e => (hp.same t33).some (e ▸ h4)
    have u3 := ((v2.trans v3).trans s4).trans s5
    have x1 := ((v1.trans (s2.trans s3)).trans u3) _ _ (upd_same (H := H) (a := a1) (o := .tup [.int 1]))
    have x2 := (s3.trans u3) _ _ (upd_same (H := H1) (a := a2) (o := .lst [.ref z1]))
    have x3 := u3 _ _ (upd_same (H := upd H1 a2 (.lst [.ref z1])) (a := a3) (o := .dK []))
    have x4 := s5 _ _ (upd_same (H := H3) (a := a4) (o := .tup [.str "both", .ref z2, .ref z3]))
    refine ⟨p, c, L1, ns, n, z, _, rfl, hp.same (t44.trans s5), by omega, nL1, SqL.of upd_same, by show 0 < 8; decide, by show 8 < 1000; decide, fun od n1' z1' H4 hod hn1 hp1 t1 => ?_⟩
    have od1 : OddAt H4 od ∧ od ≠ .ref p := by
      simp only [List.mem_cons, List.not_mem_nil, or_false] at hod
      rcases hod with rfl | rfl | rfl | rfl | rfl | rfl | rfl | rfl
      · exact ⟨⟨"NoneType", by decide, .sc rfl⟩, fun e => by cases e⟩
      · exact ⟨⟨"int", by decide, .sc rfl⟩, fun e => by cases e⟩
      · exact ⟨⟨"bool", by decide, .sc rfl⟩, fun e => by cases e⟩
      · exact ⟨⟨"str", by decide, .sc rfl⟩, fun e => by cases e⟩
      · exact ⟨⟨"tuple", by decide, .tup (t1 _ _ n1 x1)⟩, fun e => n1 (V.ref.inj e)⟩
      · exact ⟨⟨"list", by decide, .lst (t1 _ _ n2 x2)⟩, fun e => n2 (V.ref.inj e)⟩
      · exact ⟨⟨"dict", by decide, .dic (t1 _ _ n3 x3)⟩, fun e => n3 (V.ref.inj e)⟩
      · exact ⟨⟨"tuple", by decide, .tup (t1 _ _ n4 x4)⟩, fun e => n4 (V.ref.inj e)⟩
    obtain ⟨od1, nop⟩ := od1
    have lo1 : Lo p H H4 := (Same.lo p (t44.trans s5)).trans t1.lo
    have tb1 := tabs_but (tabs_same hT (t44.trans s5)) (hp.same (t44.trans s5)) t1
    clear s1 s2 s3 s4 s5 t13 t23 t33 t44 u3 x1 x2 x3 x4 n1 n2 n3 n4 nL1 hL1 h1 h2 h3 h4 t1 hod hT v1 v2 v3 g1 g2 g3 g4 g5 g6
    -- a good quota, how many
    refine fun gq dz g1 g2 _ => one_cap rfl (by decide) (by decide) na la g1 g2 fun H5 v5 c5 => ⟨rfl, ?_⟩
    have hp5 := hp1.same v5
    refine ⟨_, rfl, p, c, ns, n1', z1', 20, rfl, hp5, by omega, by decide, big 20 (by decide) (by decide), fun dm n2 z2 H6 m0 m1 hn2 hp2 t2 => ?_⟩
    obtain ⟨mk, rfl⟩ := Int.eq_ofNat_of_zero_le m0
    have em : (1 : Int) + (mk : Int) = ((1 + mk : Nat) : Int) := by omega
    refine ⟨1, (mk : Int), rfl, rfl, szl 2 (by decide), fun T0 hT0 => ⟨T0, _, rfl, .inl (.inl upd_same), rfl, _, _, rfl, .int ((1 + mk : Nat) : Int), [], congrArg (fun i => [V.int i]) em, rfl, ?_⟩⟩
    have v6 := Same.of_new (o := .tup [.ref gq, .int ((1 : Int) + (mk : Int))]) hT0
    have hp2' := hp2.same v6
    refine ⟨_, rfl, p, c, ns, n2, z2, 4, rfl, hp2', by omega, by decide, big 4 (by decide) (by decide), fun de n3 z3 H7 e0 e1 hn3 hp3 t3 => ⟨19, de, rfl, rfl, _, rfl, _, _, rfl, rfl, ?_⟩⟩
    have b57 := (t2.trans (Same.but p v6)).trans t3
    have od7 : OddAt H7 od := (od1.same v5).lo hp5 nop b57.lo
    have gd5 : QTr a H5 (.cap 2 ["a"]) gq := c5
    have gd7 := gd5.lo hp5 b57.lo
    have lo7 : Lo p H H7 := lo1.trans ((Same.lo p v5).trans b57.lo)
    have tb7 := tabs_but (tabs_same (tabs_but (tabs_same tb1 v5) hp5 t2) v6) hp2' t3
    clear od1 gd5 c5 lo1 tb1 g1 g2 v5 hp5 hp1 t2 t3 hp2 hp2' v6 hT0 b57
    -- Both(odd, odd)
    refine ⟨tb7, fun H8 eN tb8 H9 E' Q' s89 hE _ => ?_⟩
    obtain ⟨l9, hp9⟩ := lo_ext hp3 eN s89
    have pn9 := hp3.lo l9 hp9
    have tb9 := tabs_same tb8 s89
    have od9 := od7.lo hp3 nop l9
    have gd9 := gd7.lo hp3 l9
    have lo9 := lo7.trans l9
    clear eN tb8 s89 hp9 l9 hp3 tb7 od7 gd7 lo7
    refine ⟨_, rfl, _, rfl, fun z dz h1 h2 nd => made_join (join_first (Same.refl _) od9 Ty hE fun r1 H10 s10 e1 => ⟨szl 1 (by decide), fun L hL => ?_⟩) h1 h2⟩
    have sL := Same.of_new (o := .lst [.ref r1]) hL
    have rs : RS a T p c ns n3 z3 od gq L [r1] [[.str "quota", .str "first"]] H (upd H10 L (.lst [.ref r1])) := by
      have s11 := s10.trans sL
      have nLp : L ≠ p := fun e => (pn9.same s10).some (e ▸ hL)
      have fr10 : ∀ o, H L = some o → ∃ ps, o = .tbl ps := fun o e => by
        by_cases ht : ∃ ps, o = .tbl ps
        · exact ht
        · have := (lo9.trans (Same.lo p s10)) L o nLp (fun ps h => ht ⟨ps, h⟩) e
          rw [hL] at this
          cases this
      have nod : od ≠ .ref L := fun e => by
        have od10 := od9.same s10
        rw [e] at od10
        obtain ⟨o, eo⟩ := od10.some
        rw [hL] at eo
        cases eo
      exact ⟨pn9.same s11, tabs_same tb9 s11, od9.same s11, nod, gd9.same s11, upd_same, ⟨rfl, fun i r t e1' e2' => by
        match i, e1', e2' with
        | 0, rfl, rfl => exact sL _ _ e1⟩, fun e => (pn9.same s10).some (e ▸ hL), ne_of_none (s10 _ _ pn9.cells) hL, fr10, lo9.trans (Same.lo p s11)⟩
    generalize upd H10 L (.lst [.ref r1]) = HX at rs ⊢
    clear sL hL s10 e1 hE pn9 tb9 od9 gd9 lo9 h1 h2 nd
    -- Either(odd, good)
    refine ⟨_, rfl, .inl ⟨rfl, _, SqL.of rs.eL⟩, rs.tabs, fun H8 eN tb8 H9 E' Q' s89 hE _ => ?_⟩
    obtain ⟨l9, hp9⟩ := lo_ext rs.pen eN s89
    have rs := rs.lo nop l9 hp9 (tabs_same tb8 s89)
    clear eN tb8 s89 hp9 l9
    refine ⟨_, rfl, _, rfl, fun z dz h1 h2 nd => made_join (join_first (Same.refl _) rs.od_ Ty hE fun r2 H10 s10 e1 => ?_) h1 h2⟩
    have rs := rs.same s10
    refine ⟨L, _, _, rfl, rfl, rs.eL, by show (1 : Nat) < sizeLine; omega, ?_⟩
    have rs := rs.app e1
    generalize upd H10 L _ = HX at rs ⊢
    clear s10 e1 hE
    -- Both(good, odd)
    refine ⟨_, rfl, .inl ⟨rfl, _, SqL.of rs.eL⟩, rs.tabs, fun H8 eN tb8 H9 E' Q' s89 hE _ => ?_⟩
    obtain ⟨l9, hp9⟩ := lo_ext rs.pen eN s89
    have rs := rs.lo nop l9 hp9 (tabs_same tb8 s89)
    clear eN tb8 s89 hp9 l9
    refine ⟨_, rfl, _, rfl, fun z dz h1 h2 nd => made_join (join_second R rs.gd (Same.refl _) rs.od_ Ty hE fun r2 H10 s10 e1 => ?_) h1 h2⟩
    have rs := rs.same s10
    refine ⟨L, _, _, rfl, rfl, rs.eL, by show (2 : Nat) < sizeLine; omega, ?_⟩
    have rs := rs.app e1
    generalize upd H10 L _ = HX at rs ⊢
    clear s10 e1 hE
    -- good & odd
    refine ⟨_, rfl, .inl ⟨rfl, _, SqL.of rs.eL⟩, rs.tabs, fun H8 eN tb8 H9 E' Q' s89 hE _ => ?_⟩
    obtain ⟨l9, hp9⟩ := lo_ext rs.pen eN s89
    have rs := rs.lo nop l9 hp9 (tabs_same tb8 s89)
    clear eN tb8 s89 hp9 l9
    obtain ⟨dx, fs, _, _, _, _, _, ex, _⟩ := rs.gd.qat
    obtain ⟨Ty1, hTy, tyb⟩ := id rs.od_
    refine ⟨_, rfl, _, rfl, gq, _, dx, fs, Ty1, rfl, ex, tyb, R.cap.an, Ty.an _ hTy, .ref gq, od, rfl, join_second R rs.gd (Same.refl _) rs.od_ Ty hE fun r2 H10 s10 e1 => ?_⟩
    have rs := rs.same s10
    refine ⟨L, _, _, rfl, rfl, rs.eL, by show (3 : Nat) < sizeLine; omega, ?_⟩
    have rs := rs.app e1
    generalize upd H10 L _ = HX at rs ⊢
    clear s10 e1 hE
    -- good | odd
    refine ⟨_, rfl, .inl ⟨rfl, _, SqL.of rs.eL⟩, rs.tabs, fun H8 eN tb8 H9 E' Q' s89 hE _ => ?_⟩
    obtain ⟨l9, hp9⟩ := lo_ext rs.pen eN s89
    have rs := rs.lo nop l9 hp9 (tabs_same tb8 s89)
    clear eN tb8 s89 hp9 l9
    obtain ⟨dx, fs, _, _, _, _, _, ex, _⟩ := rs.gd.qat
    obtain ⟨Ty1, hTy, tyb⟩ := id rs.od_
    refine ⟨_, rfl, _, rfl, gq, _, dx, fs, Ty1, rfl, ex, tyb, R.cap.or_, Ty.or_ _ hTy, .ref gq, od, rfl, join_second R rs.gd (Same.refl _) rs.od_ Ty hE fun r2 H10 s10 e1 => ?_⟩
    have rs := rs.same s10
    refine ⟨L, _, _, rfl, rfl, rs.eL, by show (4 : Nat) < sizeLine; omega, ?_⟩
    have rs := rs.app e1
    generalize upd H10 L _ = HX at rs ⊢
    clear s10 e1 hE
    -- what is due
    have f1 := rs.tp.at_ 0 _ _ rfl rfl
    have f2 := rs.tp.at_ 1 _ _ rfl rfl
    have f3 := rs.tp.at_ 2 _ _ rfl rfl
    have f4 := rs.tp.at_ 3 _ _ rfl rfl
    have f5 := rs.tp.at_ 4 _ _ rfl rfl
    refine ⟨_, rfl, szl 2 (by decide), fun u1 h1 => ⟨szl 1 (by decide), fun M1 hM1 => ?_⟩⟩
    have q1 := Same.of_new (o := .tup [.str "quota", .str "first"]) h1
    have q2 := Same.of_new (o := .lst [.ref u1]) hM1
    refine ⟨M1, 2, _, rfl, rfl, upd_same, by decide, by decide, by show 1 * 2 ≤ sizeLine; omega, fun M2 hM2 => ⟨szl 2 (by decide), fun u2 h2 => ⟨szl 1 (by decide), fun M3 hM3 => ?_⟩⟩⟩
    have q3 := Same.of_new (o := .lst [.ref u1, .ref u1]) hM2
    have q4 := Same.of_new (o := .tup [.str "quota", .str "second"]) h2
    have q5 := Same.of_new (o := .lst [.ref u2]) hM3
    refine ⟨M3, 3, _, rfl, rfl, upd_same, by decide, by decide, by show 1 * 3 ≤ sizeLine; omega, fun M4 hM4 => ?_⟩
    have q6 := Same.of_new (o := .lst [.ref u2, .ref u2, .ref u2]) hM4
    refine ⟨M2, M4, _, _, rfl, rfl, ((q4.trans q5).trans q6) _ _ upd_same, upd_same, by show 2 + 3 ≤ sizeLine; omega, fun M hM => ?_⟩
    have q7 := Same.of_new (o := .lst [.ref u1, .ref u1, .ref u2, .ref u2, .ref u2]) hM
    have w5 := (q5.trans q6).trans q7
    have w2 := (q2.trans (q3.trans q4)).trans w5
    have w1 := q1.trans w2
    refine ⟨fiveD, fiveD, .lst (SqL.of (w1 _ _ rs.eL)) (.cons (qu_dp (w1 _ _ f1)) (.cons (qu_dp (w1 _ _ f2)) (.cons (qu_dp (w1 _ _ f3)) (.cons (qu_dp (w1 _ _ f4)) (.cons (qu_dp (w1 _ _ f5)) .nil))))),
      .lst (SqL.of upd_same) (.cons (qu_dp (w2 _ _ upd_same)) (.cons (qu_dp (w2 _ _ upd_same)) (.cons (qu_dp (w5 _ _ upd_same)) (.cons (qu_dp (w5 _ _ upd_same)) (.cons (qu_dp (w5 _ _ upd_same)) .nil))))), five_ok.1, five_ok.1, _, rfl, ?_⟩
    rw [five_ok.2]
    refine iteF ?_
    have pnA := rs.pen.same w1
    have tbA := tabs_same rs.tabs w1
    have loA := rs.low.trans (Same.lo p w1)
    clear q1 q2 q3 q4 q5 q6 q7 w5 w2 f1 f2 f3 f4 f5
    refine ⟨_, rfl, _, _, rfl, rfl, _, rfl, ?_⟩
    refine ite2 (fun c1 => ⟨_, _, rfl, rfl, _, rfl, ?_⟩) (fun c1 => ⟨_, rfl, ?_⟩)
    rotate_left
    · exact iteT (q n3 z3 _ (by omega) pnA loA tbA)
    have c1 := of_decide_eq_true c1
    by_cases c2 : (19 + de) - ((1 + mk : Nat) : Int) ≤ 20
    rotate_left
    · rw [decide_eq_false c2]
      exact iteT (q n3 z3 _ (by omega) pnA loA tbA)
    rw [decide_eq_true c2]
    refine iteF ?_
    obtain ⟨ok, eo⟩ : ∃ ok : Nat, (19 + de) - ((1 + mk : Nat) : Int) = (ok : Int) := ⟨((19 + de) - ((1 + mk : Nat) : Int)).toNat, by omega⟩
    -- two rows
    refine ⟨_, rfl, 1 + mk, rfl, by omega, by omega, fun ql H11 s11 tl => ?_⟩
    refine ⟨_, rfl, ok, congrArg (fun i => [V.int i]) eo, by omega, by omega, fun qr H12 s12 tr => ⟨szl 2 (by decide), fun T1 hT1 => ⟨T1, _, rfl, .inl (.inl upd_same), rfl, _, _, rfl, _, _, rfl, rfl, ?_⟩⟩⟩
    have v12 := s12.trans (Same.of_new (o := .tup [.ref ql, .ref qr]) hT1)
    have pnB := (pnA.same s11).same v12
    have tbB := tabs_same (tabs_same tbA s11) v12
    have tlB := tl.same v12
    have trB := tr.same (Same.of_new (o := .tup [.ref ql, .ref qr]) hT1)
    have loB := loA.trans (Same.lo p (s11.trans v12))
    generalize upd H12 T1 (.tup [.ref ql, .ref qr]) = HB at pnB tbB tlB trB loB ⊢
    clear v12 s12 s11 hT1 tl tr pnA tbA loA
    have es : ((1 + mk : Nat) : Int) + ((19 + de) - ((1 + mk : Nat) : Int)) = ((1 + mk + ok : Nat) : Int) := by rw [eo]; omega
    refine ⟨fun σ' H' => ∃ D : Addr, σ' = [some (.ref p), some od, some (.ref gq), some (.int ((1 + mk : Nat) : Int)), some (.int ((19 + de) - ((1 + mk : Nat) : Int))), some (.ref L), some (.ref ql), some (.ref qr), some (.ref D)] ∧ Same HB H' ∧ H' D = some (dueO (1 + mk) ok), ?_, fun σ' HC q1 => ?_⟩
    · refine ⟨_, rfl, _, rfl, _, _, rfl, rfl, _, _, rfl, rfl, _, rfl, ?_⟩
      refine ite2 (fun c3 => ?_) (fun c3 => ?_)
      · have c3 := of_decide_eq_true c3
        refine ⟨_, rfl, _, rfl, _, _, rfl, rfl, szl 1 (by decide), fun D hD => ⟨D, rfl, Same.of_new hD, ?_⟩⟩
        rw [dueO, if_pos (by omega), ← es]
        exact upd_same
      · have c4 : ¬ (1 + mk + ok ≤ 20) := fun h => c3 (decide_eq_true (by show ((1 + mk : Nat) : Int) + ((19 + de) - ((1 + mk : Nat) : Int)) ≤ 20; omega))
        refine ⟨szl 2 (by decide), fun D hD => ⟨D, rfl, Same.of_new hD, ?_⟩⟩
        rw [dueO, if_neg c4]
        exact upd_same
    obtain ⟨D, rfl, sC, eD⟩ := q1
    have pnC := pnB.same sC
    have tbC := tabs_same tbB sC
    have tlC := tlB.same sC
    have trC := trB.same sC
    have loC := loB.trans (Same.lo p sC)
    have c1l : (rowT (1 + mk - 1)).caps.length = 1 + mk := by rw [row_caps]; omega
    have c2l : (rowT (ok - 1)).caps.length = ok := by rw [row_caps]; omega
    have k2 : ((rowT (1 + mk - 1)).kinds ++ (rowT (ok - 1)).kinds).length < 64 := by rw [List.length_append, row_kinds, row_kinds]; omega
    have k3 : ((rowT (ok - 1)).kinds ++ (rowT (1 + mk - 1)).kinds).length < 64 := by rw [List.length_append, row_kinds, row_kinds]; omega
    have mA := clsT_mem a (rowT (1 + mk - 1))
    have mB := clsT_mem a (rowT (ok - 1))
    clear pnB tbB tlB trB loB sC
    -- len(left & right)
    refine ⟨tbC, fun H8 eN tb8 H9 E' Q' s89 hE hQ => ?_⟩
    obtain ⟨l9, hp9⟩ := lo_ext pnC eN s89
    have pn9 := pnC.lo l9 hp9
    have tb9 := tabs_same tb8 s89
    have tl9 := tlC.lo pnC l9
    have tr9 := trC.lo pnC l9
    have eD9 := due_lo eD pnC l9
    have lo9 := loC.trans l9
    clear eN tb8 s89 hp9 l9 pnC tbC tlC trC eD loC
    obtain ⟨dx, fs, _, _, _, _, _, ex, _⟩ := tl9.qat
    obtain ⟨dy, gs, _, _, _, _, _, ey, _⟩ := tr9.qat
    refine ⟨_, rfl, _, rfl, ql, qr, _, _, dx, dy, fs, gs, rfl, rfl, ex, ey, ⟨(R.one _ mA).an, (R.two _ mA _ mB).bin.imp id fun h => ⟨⟨_, (R.one _ mB).an⟩, h⟩⟩, .ref ql, .ref qr, rfl, ?_⟩
    refine join_len R (C := a.CB) (mk := QT.both) (by simp) (fun _ _ => rfl) tl9 tr9 (row_good _) (row_good _) k2 (by omega) (by omega) (Same.refl _) hE hQ fun r1 H10 s10 e1 => ⟨szl 1 (by decide), fun L2 hL2 => ?_⟩
    rw [c1l, c2l] at e1
    have fr2 : ∀ o, H L2 = some o → ∃ ps, o = .tbl ps := fun o e => by
      by_cases ht : ∃ ps, o = .tbl ps
      · exact ht
      · have := (lo9.trans (Same.lo p s10)) L2 o (fun e => (pn9.same s10).some (e ▸ hL2)) (fun ps h => ht ⟨ps, h⟩) e
        rw [hL2] at this
        cases this
    have sL := Same.of_new (o := .lst [.ref r1]) hL2
    have s11 := s10.trans sL
    have nL2 : L2 ≠ p := fun e => (pn9.same s10).some (e ▸ hL2)
    have pnX := pn9.same s11
    have tbX := tabs_same tb9 s11
    have tlX := tl9.same s11
    have trX := tr9.same s11
    have eDX := s11 _ _ eD9
    have e1X := sL _ _ e1
    have loX := lo9.trans (Same.lo p s11)
    have eL2 : upd H10 L2 (.lst [.ref r1]) L2 = some (.lst (([r1]).map V.ref)) := upd_same
    generalize upd H10 L2 (.lst [.ref r1]) = HX at pnX tbX tlX trX eDX e1X loX eL2 ⊢
    clear sL s11 hL2 s10 e1 hE hQ pn9 tb9 tl9 tr9 eD9 lo9 ex ey
    -- len(Either(right, left))
    refine ⟨_, rfl, .inl ⟨rfl, _, SqL.of eL2⟩, tbX, fun H8 eN tb8 H9 E' Q' s89 hE hQ => ?_⟩
    obtain ⟨l9, hp9⟩ := lo_ext pnX eN s89
    have pn9 := pnX.lo l9 hp9
    have tb9 := tabs_same tb8 s89
    have tl9 := tlX.lo pnX l9
    have tr9 := trX.lo pnX l9
    have eD9 := due_lo eDX pnX l9
    have e19 := due_lo e1X pnX l9
    have eL9 := lo_refs pnX l9 eL2
    have lo9 := loX.trans l9
    refine ⟨_, rfl, _, rfl, fun z dz h1 h2 nd => made_join (join_len R (C := a.CE) (mk := QT.either) (by simp) (fun _ _ => rfl) tr9 tl9 (row_good _) (row_good _) k3 (by omega) (by omega) (Same.refl _) hE hQ fun r2 H10 s10 e2 => ?_) h1 h2⟩
    rw [c1l, c2l] at e2
    have e2 : H10 r2 = some (dueO (1 + mk) ok) := by
      have e : dueO ok (1 + mk) = dueO (1 + mk) ok := by
        unfold dueO
        rw [Nat.add_comm ok (1 + mk)]
      rw [← e]
      exact e2
    have eLA := s10 _ _ eL9
    refine ⟨L2, _, _, rfl, rfl, eLA, by show (1 : Nat) < sizeLine; omega, ?_⟩
    have dne : ∀ x, H10 x = some (dueO (1 + mk) ok) → x = L2 → False := fun x e q => by
      rw [q, eLA] at e
      unfold dueO at e
      split at e <;> cases e
    have insne : ∀ {q1 : Addr} {t1 : QT}, QTr a H10 t1 q1 → QTr a (upd H10 L2 (.lst (([r1]).map V.ref ++ [V.ref r2]))) t1 q1 := fun h => h.mono (fun k xs e => by
      rw [upd_ne (fun q => by rw [q, eLA] at e; cases e)]
      exact e) fun k C dx fs e => by
      rw [upd_ne (fun q => by rw [q, eLA] at e; cases e)]
      exact e
    have keep : ∀ x, H10 x = some (dueO (1 + mk) ok) → upd H10 L2 (.lst (([r1]).map V.ref ++ [V.ref r2])) x = some (dueO (1 + mk) ok) := fun x e => by
      rw [upd_ne (fun q => dne x e q)]
      exact e
    have k1 := keep _ (s10 _ _ e19)
    have k2 := keep _ e2
    have kD := keep _ (s10 _ _ eD9)
    have tlF := insne (tl9.same s10)
    have pnF := (pn9.same s10).put (D := L2) (o := .lst (([r1]).map V.ref ++ [V.ref r2])) (Ne.symm nL2) (fun q => by
      have := (pn9.same s10).cells
      rw [q, eLA] at this
      have h := HO.lst.inj (Option.some.inj this)
      match ns, h with
      | [], h => cases h
      | _ :: _, h => cases (List.cons.inj h).1)
    have tbF := tabs_put (o := .lst (([r1]).map V.ref ++ [V.ref r2])) (tabs_same tb9 s10) eLA
    have loF : Lo p H (upd H10 L2 (.lst (([r1]).map V.ref ++ [V.ref r2]))) := fun b o nb d eb => by
      rw [upd_ne (fun e => by
        rw [e] at eb
        obtain ⟨ps, q⟩ := fr2 o eb
        exact d ps q)]
      exact (lo9.trans (Same.lo p s10)) b o nb d eb
    have eLF : upd H10 L2 (.lst (([r1]).map V.ref ++ [V.ref r2])) L2 = some (.lst [.ref r1, .ref r2]) := upd_same
    generalize upd H10 L2 (.lst (([r1]).map V.ref ++ [V.ref r2])) = HF at k1 k2 kD tlF pnF tbF loF eLF ⊢
    refine ⟨_, rfl, _, rfl, szl 1 (by decide), fun M1 hM1 => ⟨M1, 2, _, rfl, rfl, upd_same, by decide, by decide, by show 1 * 2 ≤ sizeLine; omega, fun M2 hM2 => ?_⟩⟩
    have w1 := Same.of_new (o := .lst [.ref D]) hM1
    have w2 := Same.of_new (o := .lst [.ref D, .ref D]) hM2
    have w12 := w1.trans w2
    have sh := dueD_shaped (1 + mk) ok
    refine ⟨.list [dueD (1 + mk) ok, dueD (1 + mk) ok], .list [dueD (1 + mk) ok, dueD (1 + mk) ok], .lst (SqL.of (w12 _ _ eLF)) (.cons (due_dp (w12 _ _ k1)) (.cons (due_dp (w12 _ _ k2)) .nil)), .lst (SqL.of upd_same) (.cons (due_dp (w12 _ _ kD)) (.cons (due_dp (w12 _ _ kD)) .nil)), sh, sh, _, rfl, ?_⟩
    rw [SeqAt.eqv_refl _ (SeqAt.canLay_of_shaped sh)]
    refine iteT ?_
    obtain ⟨dx, fs, cp, jp, kp, cks, zs, ez, _, ec, hcp, hck, _⟩ := (tlF.same w12).qat
    have len : (cks.map V.ref).length = 1 + mk := by rw [List.length_map, hck.len, c1l]
    refine ⟨_, rfl, ql, _, dx, fs, rfl, ez, (R.one _ mA).ln, _, (R.one _ mA).qk, ql, dx, cp, fs, _, rfl, ez, ec, SqT.of hcp, ((1 + mk : Nat) : Int), by rw [len], by omega, by omega, _, rfl, rfl, ?_⟩
    rw [decide_eq_true rfl]
    exact q n3 z3 _ (by omega) (pnF.same w12) (loF.trans (Same.lo p w12)) (tabs_same tbF w12)
end
end K10
end
section
/-! a def that wants no guard, called by name; repr of a number or None. -/
namespace OwR
open PySem PySem.Spec PyProof.Rows L2
section
variable {X : Cx} {CX : CXT} {k : Nat} {f : Addr} {fd : FuncData} {ps : List Str} {sp : Sp} {E : XK} {x : Str} {p pos : Pos} {e : Expr} {es : List Expr} {t : TA}
theorem run_fnG {pins : List (Addr × Obj)} {σ : L2.St} {H : Hp} {s : Shared} {Q : VK} {us : List Value} {vs : List V} (F : FnG X.prog X.w X.K X.mg X.base CX k f fd ps sp) (len : ∀ vs H Q E, sp vs H Q E → vs.length = ps.length) (hgd : X.A.guards = some []) (hr : Room k X.A) (hb : Binds X.K fd ps []) (hx : Passes CX X E)
    (I : Inv X pins σ H s) (r : Vals vs us) (h : sp vs H Q E) : wpAny (model X.prog X.w) X.A (call (.ref f) us) (EP X pins σ Q) X.xe s := by
  have hl : us.length = ps.length := by rw [← r.length]; exact len _ _ _ _ h
  have b := hb s us I.kIn (by rw [List.append_nil]; exact hl)
  rw [List.append_nil] at b
  refine wpAny_call (codeAny_mono (F X.A X.stack s H ⟨us, []⟩ us vs Q E hgd hr I.env0 b r h) fun r s' hq => ?_)
  cases r with
  | error e => exact hx pins σ H s e s' I hq
  | ok fl =>
    cases fl with
    | ret u => exact I.after hq
    | next => exact False.elim hq
    | brk => exact False.elim hq
    | cont => exact False.elim hq
theorem pe_callG (F : FnG X.prog X.w X.K X.mg X.base CX k f fd ps sp) (len : ∀ vs H Q E, sp vs H Q E → vs.length = ps.length) (hgd : X.A.guards = some []) (hr : Room k X.A) (hg : Gl X x) (hm : X.mg x = some (.ref f)) (hk : PySem.W.keepIn X.K (.ref f) = true) (hb : Binds X.K fd ps []) (hx : Passes CX X E)
    (ha : PA X (e :: es) t) (hdb : (x == ("__debug__" : Str)) = false := by decide) (he : starEach (e :: es) X.env = (false, eval e X.env) :: starEach es X.env := by rfl) (hpl : (backTo pos (starEach es X.env)).any (·.1) = false := by rfl) :
    PE X (.Call (.Name x p) (e :: es) [] pos) (tCall sp [] E t) := by
  refine ⟨fun pins s σ H Q I h => ?_⟩
  refine wpAny_Call_Name_kw (ld_glob I hg hm ?_ hdb)
  refine PySem.W.callWith_K (h₀ := X.base) I.ok.mod.kin hk (thn (ha.run pos pins s σ H _ I h) fun us s1 ⟨vs, H1, I1, r, q⟩ => ⟨I1.kIn, ?_⟩) he hpl
  have q : sp (vs ++ []) H1 Q E := q
  rw [List.append_nil] at q
  exact run_fnG F len hgd hr hb hx I1 r q
end
def reprI : Option Int → Str
  | none => "None"
  | some i => toString i
def rReprI : List V → Hp → VK → Prop := fun xs H Q => ∃ o : Option Int, xs = [match o with | none => V.non | some i => V.int i] ∧ (∀ i, o = some i → i.natAbs.log2 < 1920) ∧ Q (.str (reprI o)) H
/-- repr of a number or of None -/
theorem cr_reprI {X : Cx} : CallR X (.builtin "repr") rReprI := by
  intro pins s σ H xs us Q I r h
  obtain ⟨o, rfl, hz, q⟩ := h
  cases o with
  | none =>
    obtain ⟨u, rfl, rx⟩ := vals1 r
    cases (show u = Value.none from rx)
    exact call_repr_gives (typeIs_none s) F.slot_NoneType_repr F.entry_NoneType_repr (F.args_NoneType_repr_1 _) gives_none_repr ⟨.str _, H, I.tok _, ⟨_, rfl⟩, q⟩
  | some i => exact SkE.call_repr_int pins s σ H _ us Q I r ⟨i, rfl, hz i rfl, q⟩
end OwR
end
section
/-! Own: the text of a quota tells its tree. -/
namespace K10
open PySem PySem.Spec PyProof.Rows L2
def QT.words : QT → List Str
  | .cap m ks => capWords m ks
  | .both a b => ("both" : Str) :: (a.words ++ b.words)
  | .either a b => ("either" : Str) :: (a.words ++ b.words)
theorem words_ne : ∀ t : QT, t.words ≠ []
  | .cap m ks => by simp [QT.words, capWords]
  | .both a b => by simp [QT.words]
  | .either a b => by simp [QT.words]
theorem joinL_cons (S : List Nat) (p : List Nat) : ∀ (r : List (List Nat)), r ≠ [] → TL.joinL S (p :: r) = p ++ (S ++ TL.joinL S r)
  | [], h => absurd rfl h
  | q :: r, _ => rfl
theorem joinL_app (S : List Nat) : ∀ (xs ys : List (List Nat)), xs ≠ [] → ys ≠ [] → TL.joinL S (xs ++ ys) = TL.joinL S xs ++ (S ++ TL.joinL S ys)
  | [], _, h, _ => absurd rfl h
  | [p], ys, _, h => joinL_cons S p ys h
  | p :: q :: r, ys, _, h => by
    have ih := joinL_app S (q :: r) ys (by simp) h
    show TL.joinL S (p :: (q :: r ++ ys)) = _
    rw [joinL_cons S p (q :: r ++ ys) (by simp), ih, joinL_cons S p (q :: r) (by simp), List.append_assoc, List.append_assoc]
theorem str_of_tl {x y : Str} (h : TL.tl x = TL.tl y) : x = y := by
  have := TL.map_tl_inj (l := [x]) (m := [y]) (by rw [List.map_cons, List.map_cons, h, List.map_nil])
  exact (List.cons.inj this).1
theorem join_app {xs ys : List Str} (nx : xs ≠ []) (ny : ys ≠ []) : Txt.join " " (xs ++ ys) = Txt.join " " xs ++ " " ++ Txt.join " " ys := by
  refine str_of_tl ?_
  have ap : ∀ x y : Str, TL.tl (x ++ y) = TL.tl x ++ TL.tl y := TL.tl_append
  rw [join_tl, List.map_append, joinL_app _ _ _ (by simpa using nx) (by simpa using ny), ap, ap, join_tl, join_tl, sp_tl, List.append_assoc]
theorem text_words : ∀ t : QT, t.text = Txt.join " " t.words
  | .cap m ks => rfl
  | .both a b => by
    have ha := text_words a
    have hb := text_words b
    show ("both " ++ a.text ++ " " ++ b.text : Str) = Txt.join " " ([("both" : Str)] ++ (a.words ++ b.words))
    rw [join_app (by simp) (by simp [words_ne a]), join_app (words_ne a) (words_ne b), ← ha, ← hb]
    have e : ("both " : Str) = Txt.join " " [("both" : Str)] ++ " " := by decide +kernel
    have as_ : ∀ x y z : Str, x ++ y ++ z = x ++ (y ++ z) := fun x y z => str_of_tl (by
      have ap : ∀ x y : Str, TL.tl (x ++ y) = TL.tl x ++ TL.tl y := TL.tl_append
      rw [ap, ap, ap, ap, List.append_assoc])
    rw [e]
    simp only [as_]
  | .either a b => by
    have ha := text_words a
    have hb := text_words b
    show ("either " ++ a.text ++ " " ++ b.text : Str) = Txt.join " " ([("either" : Str)] ++ (a.words ++ b.words))
    rw [join_app (by simp) (by simp [words_ne a]), join_app (words_ne a) (words_ne b), ← ha, ← hb]
    have e : ("either " : Str) = Txt.join " " [("either" : Str)] ++ " " := by decide +kernel
    have as_ : ∀ x y z : Str, x ++ y ++ z = x ++ (y ++ z) := fun x y z => str_of_tl (by
      have ap : ∀ x y : Str, TL.tl (x ++ y) = TL.tl x ++ TL.tl y := TL.tl_append
      rw [ap, ap, ap, ap, List.append_assoc])
    rw [e]
    simp only [as_]
def CapOk (c : Int × List Str) : Prop := 0 ≤ c.1 ∧ c.1 ≤ 12 ∧ c.2.length ≤ 12 ∧ ∀ z ∈ c.2, nameB z = true
theorem heads_ne : ("cap" : Str) ≠ "both" ∧ ("cap" : Str) ≠ "either" ∧ ("both" : Str) ≠ "either" := by decide +kernel
theorem most_same {m k : Int} (m0 : 0 ≤ m) (m1 : m ≤ 12) (k0 : 0 ≤ k) (k1 : k ≤ 12) (h : (toString m : Str) = (toString k : Str)) : m = k := by
  have q := most_inj ⟨m.toNat, by omega⟩ ⟨k.toNat, by omega⟩ (by
    show (toString ((m.toNat : Nat) : Int) : Str) = (toString ((k.toNat : Nat) : Int) : Str)
    rw [Int.toNat_of_nonneg m0, Int.toNat_of_nonneg k0]
    exact h)
  have := Fin.mk.inj q
  omega
/-- the words of a tree are a prefix code -/
theorem words_code : ∀ (t u : QT) (r s : List Str), (∀ c ∈ t.caps, CapOk c) → (∀ c ∈ u.caps, CapOk c) → t.words ++ r = u.words ++ s → t = u ∧ r = s
  | .cap m ks, .cap k ls, r, s, gt, gu, h => by
    obtain ⟨a0, a1, al, _⟩ := gt (m, ks) (List.mem_singleton.mpr rfl)
    obtain ⟨b0, b1, bl, _⟩ := gu (k, ls) (List.mem_singleton.mpr rfl)
    have al : ks.length ≤ 12 := al
    have bl : ls.length ≤ 12 := bl
    have h : ("cap" : Str) :: (toString m : Str) :: (toString (ks.length : Int) : Str) :: (ks ++ r) = ("cap" : Str) :: (toString k : Str) :: (toString (ls.length : Int) : Str) :: (ls ++ s) := h
    have h2 := (List.cons.inj h).2
    have em := most_same a0 a1 b0 b1 (List.cons.inj h2).1
    have h3 := (List.cons.inj h2).2
    have el := most_same (by omega) (by omega) (by omega) (by omega) (List.cons.inj h3).1
    have h4 := List.append_inj (List.cons.inj h3).2 (by omega)
    exact ⟨by rw [show m = k from em, h4.1], h4.2⟩
  | .cap m ks, .both a b, r, s, gt, gu, h => absurd (List.cons.inj h).1 heads_ne.1
  | .cap m ks, .either a b, r, s, gt, gu, h => absurd (List.cons.inj h).1 heads_ne.2.1
  | .both a b, .cap k ls, r, s, gt, gu, h => absurd (List.cons.inj h).1.symm heads_ne.1
  | .either a b, .cap k ls, r, s, gt, gu, h => absurd (List.cons.inj h).1.symm heads_ne.2.1
  | .both a b, .either c d, r, s, gt, gu, h => absurd (List.cons.inj h).1 heads_ne.2.2
  | .either a b, .both c d, r, s, gt, gu, h => absurd (List.cons.inj h).1.symm heads_ne.2.2
  | .both a b, .both c d, r, s, gt, gu, h => by
    have h2 : a.words ++ b.words ++ r = c.words ++ d.words ++ s := (List.cons.inj h).2
    rw [List.append_assoc, List.append_assoc] at h2
    obtain ⟨e1, h3⟩ := words_code a c _ _ (fun x hx => gt x (List.mem_append_left _ hx)) (fun x hx => gu x (List.mem_append_left _ hx)) h2
    obtain ⟨e2, h4⟩ := words_code b d _ _ (fun x hx => gt x (List.mem_append_right _ hx)) (fun x hx => gu x (List.mem_append_right _ hx)) h3
    exact ⟨by rw [e1, e2], h4⟩
  | .either a b, .either c d, r, s, gt, gu, h => by
    have h2 : a.words ++ b.words ++ r = c.words ++ d.words ++ s := (List.cons.inj h).2
    rw [List.append_assoc, List.append_assoc] at h2
    obtain ⟨e1, h3⟩ := words_code a c _ _ (fun x hx => gt x (List.mem_append_left _ hx)) (fun x hx => gu x (List.mem_append_left _ hx)) h2
    obtain ⟨e2, h4⟩ := words_code b d _ _ (fun x hx => gt x (List.mem_append_right _ hx)) (fun x hx => gu x (List.mem_append_right _ hx)) h3
    exact ⟨by rw [e1, e2], h4⟩
theorem heads_sp : 32 ∉ TL.tl ("both" : Str) ∧ 32 ∉ TL.tl ("either" : Str) := by decide +kernel
theorem words_sp : ∀ t : QT, (∀ c ∈ t.caps, CapOk c) → ∀ x ∈ t.words, 32 ∉ TL.tl x
  | .cap m ks, g => by
    obtain ⟨a0, a1, al, an⟩ := g (m, ks) (List.mem_singleton.mpr rfl)
    exact cap_words a0 a1 al an
  | .both a b, g => fun x hx => by
    rcases List.mem_cons.mp hx with rfl | hx
    · exact heads_sp.1
    · exact (List.mem_append.mp hx).elim (words_sp a (fun c hc => g c (List.mem_append_left _ hc)) x) (words_sp b (fun c hc => g c (List.mem_append_right _ hc)) x)
  | .either a b, g => fun x hx => by
    rcases List.mem_cons.mp hx with rfl | hx
    · exact heads_sp.2
    · exact (List.mem_append.mp hx).elim (words_sp a (fun c hc => g c (List.mem_append_left _ hc)) x) (words_sp b (fun c hc => g c (List.mem_append_right _ hc)) x)
theorem text_inj {t u : QT} (gt : ∀ c ∈ t.caps, CapOk c) (gu : ∀ c ∈ u.caps, CapOk c) (h : t.text = u.text) : t = u := by
  rw [text_words, text_words] at h
  have e := join_inj (words_ne t) (words_ne u) (words_sp t gt) (words_sp u gu) h
  exact (words_code t u [] [] gt gu (by rw [List.append_nil, List.append_nil, e])).1
end K10
end
section
/-! Own: dict(..) of pairs of a text and a number. -/
namespace K10
open PySem PySem.Spec PyProof.Rows L2
def tabL (ps : List Pk) : List (Key × V) := ps.map fun q => (Sum.inr q.1, V.int q.2)
theorem lookL_cons (q : Pk) (r : List Pk) (z : Str) : lookL (q :: r) z = if q.1 = z then some q.2 else lookL r z := by
  show (if z = q.1 then some q.2 else lookL r z) = _
  by_cases e : q.1 = z
  · rw [if_pos e, if_pos e.symm]
  · rw [if_neg e, if_neg fun h => e h.symm]
theorem lookL_at : ∀ {ps : List Pk} {z : Str} {v : Int}, lookL ps z = some v → (z, v) ∈ ps
  | [], z, v, h => by cases h
  | q :: r, z, v, h => by
    rw [lookL_cons] at h
    by_cases e : q.1 = z
    · rw [if_pos e] at h
      cases h
      rw [← e]
      exact List.mem_cons_self
    · rw [if_neg e] at h
      exact List.mem_cons_of_mem _ (lookL_at h)
theorem tabOf_list : ∀ ps : List Pk, TabOf (tabL ps) (lookL ps)
  | [] => TabOf.nil
  | q :: r => by
    have ih := tabOf_list r
    refine ⟨fun z => ?_, fun i => ?_⟩
    · by_cases e : q.1 = z
      · have h1 : valV (tabL (q :: r)) (Sum.inr z) = some (.int q.2) := valV_pos (p := (Sum.inr q.1, V.int q.2)) (congrArg Sum.inr e)
        rw [h1, lookL_cons, if_pos e]
        rfl
      · have h1 : valV (tabL (q :: r)) (Sum.inr z) = valV (tabL r) (Sum.inr z) := valV_neg (p := (Sum.inr q.1, V.int q.2)) fun h => e (Sum.inr.inj h)
        rw [h1, ih.1 z, lookL_cons, if_neg e]
    · have h1 : valV (tabL (q :: r)) (Sum.inl i) = valV (tabL r) (Sum.inl i) := valV_neg (p := (Sum.inr q.1, V.int q.2)) fun h => by cases h
      rw [h1, ih.2 i]
theorem val_none {kvs : List (Key × V)} {k : Key} (h : k ∉ kvs.map (·.1)) : valV kvs k = none := by
  cases e : valV kvs k with
  | none => rfl
  | some v =>
    have h1 := valV_any k kvs
    rw [e] at h1
    obtain ⟨kv, h2, h3⟩ := List.any_eq_true.mp h1
    exact (h (List.mem_map.mpr ⟨kv, h2, of_decide_eq_true h3⟩)).elim
theorem merge_app : ∀ (more acc : List (Key × V)), ((acc ++ more).map (·.1)).Nodup → mergeK acc more = acc ++ more
  | [], acc, _ => (List.append_nil acc).symm
  | x :: r, acc, h => by
    have h2 : x.1 ∉ acc.map (·.1) := fun m => by
      rw [List.map_append] at h
      exact (List.nodup_append.mp h).2.2 x.1 m x.1 (by simp) rfl
    have h1 : putK acc x.1 x.2 = acc ++ [x] := putK_new x.2 (val_none h2)
    have e : acc ++ [x] ++ r = acc ++ x :: r := by simp
    have ih := merge_app r (acc ++ [x]) (by rw [e]; exact h)
    show mergeK (putK acc x.1 x.2) r = _
    rw [h1, ih, e]
theorem merge_tab {ps : List Pk} (h : (ps.map (·.1)).Nodup) : mergeK [] (tabL ps) = tabL ps := by
  refine merge_app (tabL ps) [] ?_
  have e : (tabL ps).map (·.1) = (ps.map (·.1)).map Sum.inr := by
    unfold tabL
    rw [List.map_map, List.map_map]
    rfl
  rw [List.nil_append, e]
  exact List.Pairwise.map Sum.inr (fun a b n q => n (Sum.inr.inj q)) h
theorem PicksAt.paired {K : PySem.W.Frag} {H : Hp} : ∀ {ks : List Addr} {ps : List Pk}, PicksAt H ks ps → Paired (fun p kv => SqT K H p [kV kv.1, kv.2]) ks (tabL ps)
  | [], [], _ => .nil
  | [], _ :: _, h => by cases h.len
  | _ :: _, [], h => by cases h.len
  | k :: ks, p :: ps, h => .cons (SqT.of (h.at_ 0 k p rfl rfl)) (PicksAt.paired ⟨Nat.succ.inj h.len, fun i k' p' e1 e2 => h.at_ (i + 1) k' p' e1 e2⟩)
end K10
end
section
set_option pp.maxSteps 400
set_option pp.deepTerms.threshold 6
/-! What the law says that a tree lets and bounds. -/
namespace K10
open PySem PySem.Spec PyProof.Rows L2
abbrev sLt : Stmt := top 38
abbrev sBd : Stmt := top 39
theorem lets_both (N : Str → Option Int) (t u : QT) : (QT.both t u).lets N = (t.lets N && u.lets N) := rfl
theorem lets_either (N : Str → Option Int) (t u : QT) : (QT.either t u).lets N = (t.lets N || u.lets N) := rfl
theorem bounds_both (z : Str) (t u : QT) : (QT.both t u).bounds z = (t.bounds z || u.bounds z) := by simp [QT.bounds, QT.say, Bool.not_and]
theorem bounds_either (z : Str) (t u : QT) : (QT.either t u).bounds z = (t.bounds z && u.bounds z) := by simp [QT.bounds, QT.say, Bool.not_or]
theorem bounds_cap (z : Str) (m : Int) (ks : List Str) : (QT.cap m ks).bounds z = decide (z ∈ ks) := by simp [QT.bounds, QT.say]
theorem getD_map (o : Option Int) : (o.map V.int).getD (.int 0) = .int (o.getD 0) := by cases o <;> rfl
def spLt : Nat → Sp
  | 0 => fun _ _ _ _ => False
  | d + 1 => fun vs H Q _ => ∃ (a D : Addr) (t : QT) (kvs : List (Key × V)) (N : Str → Option Int), vs = [.ref a, .ref D] ∧ TreeAt H t a ∧ t.caps.length ≤ d + 1 ∧ H D = some (.dK kvs) ∧ TabOf kvs N ∧ (∀ c ∈ t.caps, c.2.length ≤ 1000) ∧ ∀ H', Same H H' → Q (.bl (t.lets N)) H'
def spBd : Nat → Sp
  | 0 => fun _ _ _ _ => False
  | d + 1 => fun vs H Q _ => ∃ (a : Addr) (z : Str) (t : QT), vs = [.ref a, .str z] ∧ TreeAt H t a ∧ t.caps.length ≤ d + 1 ∧ ∀ H', Same H H' → Q (.bl (t.bounds z)) H'
section
variable {P : Program} {w : World} {K : PySem.W.Frag} {mg : Str → Option Value} {base : Heap}
abbrev nLt : List Str := ["_law_tree_here", "_law_counts", "_law_kind", "_law_left", "_law_right"]
theorem scLt : FnScope nLt ["_law_tree_here", "_law_counts"] (defScope sLt) := ⟨rfl, rfl, rfl, by decide +kernel, rfl, by decide +kernel, by decide +kernel⟩
theorem ok_Lt {f : Addr} {fd : FuncData} (F : Fun K "_law_lets" "_law_lets" sLt f fd) (g_rec : mg "_law_lets" = some (.ref f)) (n_sum : mg "sum" = none) : ∀ d : Nat, FnOk P w K mg base CX0 (d + 1) f fd ["_law_tree_here", "_law_counts"] (spLt d)
  | 0 => F.ok scLt (fun vs H Q E h => h.elim) (fun cdv A outer s H vs Q E hr h => h.elim)
  | d + 1 => by
    have G_rec := ok_Lt F g_rec n_sum d
    have b_rec : Binds K fd ["_law_tree_here", "_law_counts"] [] := F.binds fun _ _ _ _ _ _ us hl => match us, hl with | [_, _], _ => rfl
    refine F.ok scLt (fun vs H Q E h => ?_) (fun cdv A outer s H vs Q E hr h => ?_)
    · obtain ⟨a, D, t, kvs, N, rfl, _⟩ := h
      rfl
    obtain ⟨a, D, t, kvs, N, rfl, ht, lt, hD, tb, lks, q⟩ := h
    have hu1 : (A.deeper (envOfC "_law_lets" (defScope sLt) s.heap.objs.size f cdv)).units + 1 < cLine := by have := hr.units; omega
    refine ⟨_, (pss_cons (ps_if (pt_cmpR op_eq (pe_ix (r := rIxT K) ix_tup (pv 0) pe_int (fun _ _ => rfl)) pe_str (nomark _)) (pss_one (ps_ret (pe_cmpR op_le (pe_callB (id := "sum") (r := rSum K) (cr_sum rfl) (by rfl) n_sum (by decide +kernel) (pa_cons (pe_lc (own := [("_law_kind", 2)]) (by rfl) scLt.nd (pi_list (pe_ix (r := rIxT K) ix_tup (pv 0) pe_int (fun _ _ => rfl))) (blkOk_by (own := [("_law_kind", 2)]) (N := nLt) (sc := defScope sLt) (by decide +kernel)) (fun _ _ _ _ _ => (pg_name (i := 2) scLt.nd rfl (Or.inl rfl))) (fun _ _ _ _ _ => pts_nil) (fun _ _ _ _ _ => (pe_dget2 hu1 (pv 1) (pv 2) pe_int ⟨rfl, rfl, rfl, rfl⟩))) pa_nil)) (pe_ix (r := rIxT K) ix_tup (pv 0) pe_int (fun _ _ => rfl)) (nomark _)))) pss_nil)
    (pss_cons (ps_par (i := 3) (j := 4) (by rfl) scLt.nd rfl rfl (by decide) rfl rfl (pa_cons (pe_call G_rec hr (by rfl) g_rec F.kp b_rec .nil pass0 (pa_cons (pe_ix (r := rIxT K) ix_tup (pv 0) pe_int (fun _ _ => rfl)) (pa_cons (pv 1) pa_nil))) (pa_cons (pe_call G_rec hr (by rfl) g_rec F.kp b_rec .nil pass0 (pa_cons (pe_ix (r := rIxT K) ix_tup (pv 0) pe_int (fun _ _ => rfl)) (pa_cons (pv 1) pa_nil))) pa_nil)) (by rfl))
    (pss_one (ps_ret (pe_ifExp (pt_cmpR op_eq (pe_ix (r := rIxT K) ix_tup (pv 0) pe_int (fun _ _ => rfl)) pe_str (nomark _)) (pe_and (pv 3) (pe_one (pv 4))) (pe_or (pv 3) (pe_one (pv 4)))))))), ?_⟩
    have sz := sizeLine_eq
    match t, ht, lt, lks, q with
    | .cap m ks, ht, lt, lks, q =>
      obtain ⟨kl, e, ek⟩ := ht
      refine ⟨_, rfl, a, _, 0, _, rfl, rfl, SqT.of e, atI_nat (j := 0) rfl, rfl, _, rfl, ?_⟩
      refine ite2 (fun _ => ?_) (fun c => absurd (decide_eq_true rfl) c)
      refine ⟨_, rfl, a, _, 2, _, rfl, rfl, SqT.of e, atI_nat (j := 2) rfl, kl, rfl, ⟨_, SqL.of ek⟩, fun L0 hL0 => ?_⟩
      refine lc_it (walk_list (xs := ks.map V.str)) (fun i Hx => Same H Hx ∧ Hx L0 = some (.lst (((ks.take i).map fun z => (N z).getD 0).map V.int))) ⟨Same.of_new hL0, upd_same⟩ (fun i Hx _ q => SqL.of (q.1 _ _ ek)) (fun i x Hx Hy hi q0 y => ?_) (fun H1 q0 => ?_)
      · obtain ⟨s1, eL⟩ := q0
        obtain ⟨rfl, hx⟩ := y
        rw [List.getElem?_map] at hx
        obtain ⟨z, hz, rfl⟩ := Option.map_eq_some_iff.mp hx
        have eD := s1 _ _ hD
        have lk := lks (m, ks) (List.mem_singleton.mpr rfl)
        have lk : ks.length ≤ 1000 := lk
        refine ⟨rfl, ?_⟩
        refine ⟨_, rfl, D, rfl, .inl ⟨_, .inl eD⟩, _, rfl, _, tb.get (.inl eD) z, ?_⟩
        rw [getD_map]
        refine ⟨_, eL, by rw [List.length_map, List.length_map, List.length_take]; omega, fun y o e => ?_, ?_⟩
        · rw [upd_ne (ne_of_none e hL0)]
          exact s1 y o e
        · rw [List.take_add_one, hz, List.map_append, List.map_append]
          exact upd_same
      obtain ⟨s1, eL⟩ := q0
      rw [List.length_map, List.take_length] at eL
      exact ⟨L0, ks.map fun z => (N z).getD 0, rfl, SqL.of eL, _, rfl, a, _, 1, _, rfl, rfl, SqT.of (s1 _ _ e), atI_nat (j := 1) rfl, _, _, rfl, rfl, q H1 s1⟩
    | .both t u, ht, lt, lks, q => 
      obtain ⟨l, r, e, h1, h2⟩ := id ht
      refine ⟨_, rfl, a, _, 0, _, rfl, rfl, SqT.of e, atI_nat (j := 0) rfl, rfl, _, rfl, ?_⟩
      refine ite2 (fun c => absurd c (by decide +kernel)) (fun _ => ?_)
      have ca := caps_pos t
      have cb := caps_pos u
      have lc : t.caps.length + u.caps.length ≤ d + 1 := by rw [← List.length_append]; exact lt
      match d, G_rec, lc with
      | 0, _, lc => exact absurd lc (by omega)
      | d + 1, G_rec, lc =>
      refine ⟨_, rfl, a, _, 1, _, rfl, rfl, SqT.of e, atI_nat (j := 1) rfl, _, rfl, l, D, t, kvs, N, rfl, h1, by omega, hD, tb, fun c hc => lks c (List.mem_append_left _ hc), fun H1 s1 => ?_⟩
      refine ⟨_, rfl, a, _, 2, _, rfl, rfl, SqT.of (s1 _ _ e), atI_nat (j := 2) rfl, _, rfl, r, D, u, kvs, N, rfl, h2.same s1, by omega, s1 _ _ hD, tb, fun c hc => lks c (List.mem_append_right _ hc), fun H2 s2 => ⟨_, _, rfl, ?_⟩⟩
      have s12 := s1.trans s2
      refine ⟨_, rfl, a, _, 0, _, rfl, rfl, SqT.of (s12 _ _ e), atI_nat (j := 0) rfl, rfl, _, rfl, ?_⟩
      refine ite2 (fun _ => ?_) (fun c => absurd (by decide +kernel) c)
      have fin := q H2 s12
      rw [lets_both] at fin
      obtain ⟨x, ex⟩ : ∃ x, t.lets N = x := ⟨_, rfl⟩
      obtain ⟨y, ey⟩ : ∃ y, u.lets N = y := ⟨_, rfl⟩
      rw [ex, ey] at fin
      rw [ex, ey]
      refine ⟨_, rfl, x, rfl, ?_⟩
      cases x with
      | true => exact iteT ⟨_, rfl, fin⟩
      | false => exact iteF fin
    | .either t u, ht, lt, lks, q =>
      obtain ⟨l, r, e, h1, h2⟩ := id ht
      refine ⟨_, rfl, a, _, 0, _, rfl, rfl, SqT.of e, atI_nat (j := 0) rfl, rfl, _, rfl, ?_⟩
      refine ite2 (fun c => absurd c (by decide +kernel)) (fun _ => ?_)
      have ca := caps_pos t
      have cb := caps_pos u
      have lc : t.caps.length + u.caps.length ≤ d + 1 := by rw [← List.length_append]; exact lt
      match d, G_rec, lc with
      | 0, _, lc => exact absurd lc (by omega)
      | d + 1, G_rec, lc =>
      refine ⟨_, rfl, a, _, 1, _, rfl, rfl, SqT.of e, atI_nat (j := 1) rfl, _, rfl, l, D, t, kvs, N, rfl, h1, by omega, hD, tb, fun c hc => lks c (List.mem_append_left _ hc), fun H1 s1 => ?_⟩
      refine ⟨_, rfl, a, _, 2, _, rfl, rfl, SqT.of (s1 _ _ e), atI_nat (j := 2) rfl, _, rfl, r, D, u, kvs, N, rfl, h2.same s1, by omega, s1 _ _ hD, tb, fun c hc => lks c (List.mem_append_right _ hc), fun H2 s2 => ⟨_, _, rfl, ?_⟩⟩
      have s12 := s1.trans s2
      refine ⟨_, rfl, a, _, 0, _, rfl, rfl, SqT.of (s12 _ _ e), atI_nat (j := 0) rfl, rfl, _, rfl, ?_⟩
      refine ite2 (fun c => absurd c (by decide +kernel)) (fun _ => ?_)
      have fin := q H2 s12
      rw [lets_either] at fin
      obtain ⟨x, ex⟩ : ∃ x, t.lets N = x := ⟨_, rfl⟩
      obtain ⟨y, ey⟩ : ∃ y, u.lets N = y := ⟨_, rfl⟩
      rw [ex, ey] at fin
      rw [ex, ey]
      refine ⟨_, rfl, x, rfl, ?_⟩
      cases x with
      | true => exact iteT fin
      | false => exact iteF ⟨_, rfl, fin⟩
abbrev nBd : List Str := ["_law_tree_here", "_law_kind", "_law_left", "_law_right"]
theorem scBd : FnScope nBd ["_law_tree_here", "_law_kind"] (defScope sBd) := ⟨rfl, rfl, rfl, by decide +kernel, rfl, by decide +kernel, by decide +kernel⟩
theorem ok_Bd {f : Addr} {fd : FuncData} (F : Fun K "_law_bounds" "_law_bounds" sBd f fd) (g_rec : mg "_law_bounds" = some (.ref f)) : ∀ d : Nat, FnOk P w K mg base CX0 (d + 1) f fd ["_law_tree_here", "_law_kind"] (spBd d)
  | 0 => F.ok scBd (fun vs H Q E h => h.elim) (fun cdv A outer s H vs Q E hr h => h.elim)
  | d + 1 => by
    have G_rec := ok_Bd F g_rec d
    have b_rec : Binds K fd ["_law_tree_here", "_law_kind"] [] := F.binds fun _ _ _ _ _ _ us hl => match us, hl with | [_, _], _ => rfl
    refine F.ok scBd (fun vs H Q E h => ?_) (fun cdv A outer s H vs Q E hr h => ?_)
    · obtain ⟨a, z, t, rfl, _⟩ := h
      rfl
    obtain ⟨a, z, t, rfl, ht, lt, q⟩ := h
    refine ⟨_, (pss_cons (ps_if (pt_cmpR op_eq (pe_ix (r := rIxT K) ix_tup (pv 0) pe_int (fun _ _ => rfl)) pe_str (nomark _)) (pss_one (ps_ret (pe_cmpR op_in_seq (pv 1) (pe_ix (r := rIxT K) ix_tup (pv 0) pe_int (fun _ _ => rfl)) (by rfl)))) pss_nil)
    (pss_cons (ps_par (i := 2) (j := 3) (by rfl) scBd.nd rfl rfl (by decide) rfl rfl (pa_cons (pe_call G_rec hr (by rfl) g_rec F.kp b_rec .nil pass0 (pa_cons (pe_ix (r := rIxT K) ix_tup (pv 0) pe_int (fun _ _ => rfl)) (pa_cons (pv 1) pa_nil))) (pa_cons (pe_call G_rec hr (by rfl) g_rec F.kp b_rec .nil pass0 (pa_cons (pe_ix (r := rIxT K) ix_tup (pv 0) pe_int (fun _ _ => rfl)) (pa_cons (pv 1) pa_nil))) pa_nil)) (by rfl))
    (pss_one (ps_ret (pe_ifExp (pt_cmpR op_eq (pe_ix (r := rIxT K) ix_tup (pv 0) pe_int (fun _ _ => rfl)) pe_str (nomark _)) (pe_or (pv 2) (pe_one (pv 3))) (pe_and (pv 2) (pe_one (pv 3)))))))), ?_⟩
    match t, ht, lt, q with
    | .cap m ks, ht, lt, q =>
      obtain ⟨kl, e, ek⟩ := ht
      refine ⟨_, rfl, a, _, 0, _, rfl, rfl, SqT.of e, atI_nat (j := 0) rfl, rfl, _, rfl, ?_⟩
      refine ite2 (fun _ => ?_) (fun c => absurd (decide_eq_true rfl) c)
      refine ⟨_, rfl, _, rfl, a, _, 2, _, rfl, rfl, SqT.of e, atI_nat (j := 2) rfl, kl, _, rfl, .inl (SqL.of ek), rfl, flat_texts _, ?_⟩
      rw [if_neg Bool.false_ne_true, in_texts, ← bounds_cap z m]
      exact q H (Same.refl _)
    | .both t u, ht, lt, q =>
      obtain ⟨l, r, e, h1, h2⟩ := id ht
      refine ⟨_, rfl, a, _, 0, _, rfl, rfl, SqT.of e, atI_nat (j := 0) rfl, rfl, _, rfl, ?_⟩
      refine ite2 (fun c => absurd c (by decide +kernel)) (fun _ => ?_)
      have ca := caps_pos t
      have cb := caps_pos u
      have lc : t.caps.length + u.caps.length ≤ d + 1 := by rw [← List.length_append]; exact lt
      match d, G_rec, lc with
      | 0, _, lc => exact absurd lc (by omega)
      | d + 1, G_rec, lc =>
      refine ⟨_, rfl, a, _, 1, _, rfl, rfl, SqT.of e, atI_nat (j := 1) rfl, _, rfl, l, z, t, rfl, h1, by omega, fun H1 s1 => ?_⟩
      refine ⟨_, rfl, a, _, 2, _, rfl, rfl, SqT.of (s1 _ _ e), atI_nat (j := 2) rfl, _, rfl, r, z, u, rfl, h2.same s1, by omega, fun H2 s2 => ⟨_, _, rfl, ?_⟩⟩
      have s12 := s1.trans s2
      refine ⟨_, rfl, a, _, 0, _, rfl, rfl, SqT.of (s12 _ _ e), atI_nat (j := 0) rfl, rfl, _, rfl, ?_⟩
      refine ite2 (fun _ => ?_) (fun c => absurd (by decide +kernel) c)
      have fin := q H2 s12
      rw [bounds_both] at fin
      obtain ⟨x, ex⟩ : ∃ x, t.bounds z = x := ⟨_, rfl⟩
      obtain ⟨y, ey⟩ : ∃ y, u.bounds z = y := ⟨_, rfl⟩
      rw [ex, ey] at fin
      rw [ex, ey]
      refine ⟨_, rfl, x, rfl, ?_⟩
      cases x with
      | true => exact iteT fin
      | false => exact iteF ⟨_, rfl, fin⟩
    | .either t u, ht, lt, q =>
      obtain ⟨l, r, e, h1, h2⟩ := id ht
      refine ⟨_, rfl, a, _, 0, _, rfl, rfl, SqT.of e, atI_nat (j := 0) rfl, rfl, _, rfl, ?_⟩
      refine ite2 (fun c => absurd c (by decide +kernel)) (fun _ => ?_)
      have ca := caps_pos t
      have cb := caps_pos u
      have lc : t.caps.length + u.caps.length ≤ d + 1 := by rw [← List.length_append]; exact lt
      match d, G_rec, lc with
      | 0, _, lc => exact absurd lc (by omega)
      | d + 1, G_rec, lc =>
      refine ⟨_, rfl, a, _, 1, _, rfl, rfl, SqT.of e, atI_nat (j := 1) rfl, _, rfl, l, z, t, rfl, h1, by omega, fun H1 s1 => ?_⟩
      refine ⟨_, rfl, a, _, 2, _, rfl, rfl, SqT.of (s1 _ _ e), atI_nat (j := 2) rfl, _, rfl, r, z, u, rfl, h2.same s1, by omega, fun H2 s2 => ⟨_, _, rfl, ?_⟩⟩
      have s12 := s1.trans s2
      refine ⟨_, rfl, a, _, 0, _, rfl, rfl, SqT.of (s12 _ _ e), atI_nat (j := 0) rfl, rfl, _, rfl, ?_⟩
      refine ite2 (fun c => absurd c (by decide +kernel)) (fun _ => ?_)
      have fin := q H2 s12
      rw [bounds_either] at fin
      obtain ⟨x, ex⟩ : ∃ x, t.bounds z = x := ⟨_, rfl⟩
      obtain ⟨y, ey⟩ : ∃ y, u.bounds z = y := ⟨_, rfl⟩
      rw [ex, ey] at fin
      rw [ex, ey]
      refine ⟨_, rfl, x, rfl, ?_⟩
      cases x with
      | true => exact iteT ⟨_, rfl, fin⟩
      | false => exact iteF fin
end
end K10
end
section
set_option pp.maxSteps 400
set_option pp.deepTerms.threshold 6
/-! Trees turned, sorted, and their caps. -/
namespace K10
open PySem PySem.Spec PyProof.Rows L2
abbrev sTu : Stmt := top 45
abbrev sSo : Stmt := top 46
abbrev sCs : Stmt := top 43
def turnT : QT → QT
  | .cap m ks => .cap (if m ≠ 6 then 12 - m else 5) ks
  | .both t u => .both u t
  | .either t u => .either u t
/-- a tree as a tuple of tuples -/
def dataT : QT → PyData
  | .cap m zs => .tuple [.int m, .tuple (zs.map PyData.str)]
  | .both t u => .tuple [.str "both", dataT t, dataT u]
  | .either t u => .tuple [.str "either", dataT t, dataT u]
def DatT (H : Hp) : QT → Addr → Prop
  | .cap m zs, a => ∃ b, H a = some (.tup [.int m, .ref b]) ∧ H b = some (.tup (zs.map V.str))
  | .both t u, a => ∃ l r, H a = some (.tup [.str "both", .ref l, .ref r]) ∧ DatT H t l ∧ DatT H u r
  | .either t u, a => ∃ l r, H a = some (.tup [.str "either", .ref l, .ref r]) ∧ DatT H t l ∧ DatT H u r
theorem DatT.same {H H' : Hp} (s : Same H H') : ∀ {t : QT} {a : Addr}, DatT H t a → DatT H' t a
  | .cap m zs, a, ⟨b, e1, e2⟩ => ⟨b, s _ _ e1, s _ _ e2⟩
  | .both t u, a, ⟨l, r, e, h1, h2⟩ => ⟨l, r, s _ _ e, DatT.same s h1, DatT.same s h2⟩
  | .either t u, a, ⟨l, r, e, h1, h2⟩ => ⟨l, r, s _ _ e, DatT.same s h1, DatT.same s h2⟩
theorem DatT.dp {K : PySem.W.Frag} {H : Hp} : ∀ {t : QT} {a : Addr}, DatT H t a → Dp K H (.ref a) (dataT t)
  | .cap m zs, a, ⟨b, e1, e2⟩ => .tup (SqT.of e1) (.cons (.int m) (.cons (.tup (SqT.of e2) (OwD.dp_strs zs)) .nil))
  | .both t u, a, ⟨l, r, e, h1, h2⟩ => .tup (SqT.of e) (.cons (.str _) (.cons (DatT.dp h1) (.cons (DatT.dp h2) .nil)))
  | .either t u, a, ⟨l, r, e, h1, h2⟩ => .tup (SqT.of e) (.cons (.str _) (.cons (DatT.dp h1) (.cons (DatT.dp h2) .nil)))
theorem word_ok : PyData.strOk "both" = true ∧ PyData.strOk "either" = true ∧ (("both" : Str) == "either") = false ∧ (("either" : Str) == "both") = false := by decide +kernel
theorem names_lay : ∀ zs : List Str, (∀ z ∈ zs, nameB z = true) → PyData.canLayAll0 (zs.map PyData.str) = true
  | [], _ => rfl
  | z :: r, h => by
    rw [List.map_cons, PyData.canLayAll0, PyData.canLay0, name_strOk (h z List.mem_cons_self), names_lay r fun y hy => h y (List.mem_cons_of_mem _ hy)]
    rfl
theorem data_lay : ∀ t : QT, (∀ c ∈ t.caps, ∀ z ∈ c.2, nameB z = true) → (dataT t).canLay0 = true ∧ (dataT t).depth ≤ t.caps.length + 1
  | .cap m zs, h => by
    have l := names_lay zs fun z hz => h (m, zs) (List.mem_singleton.mpr rfl) z hz
    have d := OwD.deps (f := PyData.str) (k := 0) zs fun q _ => by simp [PyData.depth]
    refine ⟨by simp [dataT, PyData.canLay0, PyData.canLayAll0, l], ?_⟩
    show (dataT (.cap m zs)).depth ≤ 1 + 1
    simp only [dataT, PyData.depth, PyData.depthAll]
    omega
  | .both t u, h => by
    obtain ⟨a1, a2⟩ := data_lay t fun c hc => h c (List.mem_append_left _ hc)
    obtain ⟨b1, b2⟩ := data_lay u fun c hc => h c (List.mem_append_right _ hc)
    have ca := caps_pos t
    have cb := caps_pos u
    refine ⟨by simp [dataT, PyData.canLay0, PyData.canLayAll0, a1, b1, word_ok.1], ?_⟩
    show (dataT (.both t u)).depth ≤ (t.caps ++ u.caps).length + 1
    rw [List.length_append]
    simp only [dataT, PyData.depth, PyData.depthAll]
    omega
  | .either t u, h => by
    obtain ⟨a1, a2⟩ := data_lay t fun c hc => h c (List.mem_append_left _ hc)
    obtain ⟨b1, b2⟩ := data_lay u fun c hc => h c (List.mem_append_right _ hc)
    have ca := caps_pos t
    have cb := caps_pos u
    refine ⟨by simp [dataT, PyData.canLay0, PyData.canLayAll0, a1, b1, word_ok.2.1], ?_⟩
    show (dataT (.either t u)).depth ≤ (t.caps ++ u.caps).length + 1
    rw [List.length_append]
    simp only [dataT, PyData.depth, PyData.depthAll]
    omega
theorem data_shaped {t : QT} (h : ∀ c ∈ t.caps, ∀ z ∈ c.2, nameB z = true) (l : t.caps.length ≤ 20) : SeqAt.shaped (dataT t) = true := by
  obtain ⟨a, b⟩ := data_lay t h
  exact OwD.shaped_of a (by omega)
theorem eqv_str2 (x y : Str) : PyData.eqv (.str x) (.str y) = decide (x = y) := by
  simp only [PyData.eqv]
  by_cases c : x = y
  · subst c
    simp
  · simp [c]
theorem strs_eqv : ∀ a b : List Str, PyData.eqvAll (a.map PyData.str) (b.map PyData.str) = decide (a = b)
  | [], [] => by simp [PyData.eqvAll]
  | [], _ :: _ => by simp [PyData.eqvAll]
  | _ :: _, [] => by simp [PyData.eqvAll]
  | x :: a, y :: b => by
    rw [List.map_cons, List.map_cons, PyData.eqvAll, eqv_str2, strs_eqv a b]
    by_cases c : x = y
    · by_cases d : a = b
      · simp [c, d]
      · simp [d]
    · simp [c]
theorem eq22 (a b c d : PyData) : PyData.eqv (.tuple [a, b]) (.tuple [c, d]) = (PyData.eqv a c && PyData.eqv b d) := by
  rw [PyData.eqv, PyData.eqvAll, PyData.eqvAll, PyData.eqvAll, Bool.and_true]
theorem eq33 (a b e c d f : PyData) : PyData.eqv (.tuple [a, b, e]) (.tuple [c, d, f]) = (PyData.eqv a c && (PyData.eqv b d && PyData.eqv e f)) := by
  rw [PyData.eqv, PyData.eqvAll, PyData.eqvAll, PyData.eqvAll, PyData.eqvAll, Bool.and_true]
theorem ne23 (a b c d e : PyData) : PyData.eqv (.tuple [a, b]) (.tuple [c, d, e]) = false := by
  rw [PyData.eqv, PyData.eqvAll, PyData.eqvAll, PyData.eqvAll, Bool.and_false, Bool.and_false]
  all_goals simp
theorem ne32 (a b c d e : PyData) : PyData.eqv (.tuple [c, d, e]) (.tuple [a, b]) = false := by
  rw [PyData.eqv, PyData.eqvAll, PyData.eqvAll, PyData.eqvAll, Bool.and_false, Bool.and_false]
  all_goals simp
theorem eq_int (i j : Int) : PyData.eqv (.int i) (.int j) = decide (i = j) := by
  simp only [PyData.eqv]
  by_cases c : i = j
  · simp [c]
  · simp [c]
theorem data_eqv : ∀ t u : QT, PyData.eqv (dataT t) (dataT u) = true ↔ t = u
  | .cap m zs, .cap k ys => by
    show PyData.eqv (.tuple [.int m, .tuple (zs.map PyData.str)]) (.tuple [.int k, .tuple (ys.map PyData.str)]) = true ↔ _
    rw [eq22, eq_int, PyData.eqv, strs_eqv, Bool.and_eq_true, decide_eq_true_eq, decide_eq_true_eq]
    exact ⟨fun h => by rw [h.1, h.2], fun h => by cases h; exact ⟨rfl, rfl⟩⟩
  | .cap m zs, .both t u => ⟨fun h => absurd ((ne23 _ _ _ _ _).symm.trans h) Bool.false_ne_true, fun h => by cases h⟩
  | .cap m zs, .either t u => ⟨fun h => absurd ((ne23 _ _ _ _ _).symm.trans h) Bool.false_ne_true, fun h => by cases h⟩
  | .both t u, .cap m zs => ⟨fun h => absurd ((ne32 _ _ _ _ _).symm.trans h) Bool.false_ne_true, fun h => by cases h⟩
  | .either t u, .cap m zs => ⟨fun h => absurd ((ne32 _ _ _ _ _).symm.trans h) Bool.false_ne_true, fun h => by cases h⟩
  | .both t u, .both t' u' => by
    have h1 := data_eqv t t'
    have h2 := data_eqv u u'
    show PyData.eqv (.tuple [.str "both", dataT t, dataT u]) (.tuple [.str "both", dataT t', dataT u']) = true ↔ _
    rw [eq33, eqv_str2, decide_eq_true rfl, Bool.true_and, Bool.and_eq_true, h1, h2]
    exact ⟨fun h => by rw [h.1, h.2], fun h => by cases h; exact ⟨rfl, rfl⟩⟩
  | .either t u, .either t' u' => by
    have h1 := data_eqv t t'
    have h2 := data_eqv u u'
    show PyData.eqv (.tuple [.str "either", dataT t, dataT u]) (.tuple [.str "either", dataT t', dataT u']) = true ↔ _
    rw [eq33, eqv_str2, decide_eq_true rfl, Bool.true_and, Bool.and_eq_true, h1, h2]
    exact ⟨fun h => by rw [h.1, h.2], fun h => by cases h; exact ⟨rfl, rfl⟩⟩
  | .both t u, .either t' u' => by
    show PyData.eqv (.tuple [.str "both", dataT t, dataT u]) (.tuple [.str "either", dataT t', dataT u']) = true ↔ _
    rw [eq33, eqv_str2, decide_eq_false (by decide +kernel), Bool.false_and]
    exact ⟨fun h => absurd h Bool.false_ne_true, fun h => by cases h⟩
  | .either t u, .both t' u' => by
    show PyData.eqv (.tuple [.str "either", dataT t, dataT u]) (.tuple [.str "both", dataT t', dataT u']) = true ↔ _
    rw [eq33, eqv_str2, decide_eq_false (by decide +kernel), Bool.false_and]
    exact ⟨fun h => absurd h Bool.false_ne_true, fun h => by cases h⟩
/-- the caps of a tree, each as its tuple -/
structure CapsL (H : Hp) (as : List Addr) (cs : List (Int × List Str)) : Prop where
  len : as.length = cs.length
  at_ : ∀ (i : Nat) (a : Addr) (c : Int × List Str), as[i]? = some a → cs[i]? = some c → TreeAt H (.cap c.1 c.2) a
theorem CapsL.same {H H' : Hp} {as : List Addr} {cs : List (Int × List Str)} (h : CapsL H as cs) (s : Same H H') : CapsL H' as cs := ⟨h.len, fun i a c e1 e2 => (h.at_ i a c e1 e2).same s⟩
theorem CapsL.app {H : Hp} {as bs : List Addr} {cs ds : List (Int × List Str)} (h1 : CapsL H as cs) (h2 : CapsL H bs ds) : CapsL H (as ++ bs) (cs ++ ds) := by
  refine ⟨by rw [List.length_append, List.length_append, h1.len, h2.len], fun i k c e1 e2 => ?_⟩
  rcases Nat.lt_or_ge i as.length with lt | ge
  · rw [List.getElem?_append_left lt] at e1
    rw [List.getElem?_append_left (by rw [← h1.len]; exact lt)] at e2
    exact h1.at_ i k c e1 e2
  · rw [List.getElem?_append_right ge] at e1
    rw [List.getElem?_append_right (by rw [← h1.len]; exact ge), ← h1.len] at e2
    exact h2.at_ _ k c e1 e2
def spTu : Sp := fun vs H Q _ => ∃ (b : Addr) (t : QT), vs = [.ref b] ∧ TreeAt H t b ∧ ∀ a H', Same H H' → TreeAt H' (turnT t) a → Q (.ref a) H'
def spSo : Nat → Sp
  | 0 => fun _ _ _ _ => False
  | d + 1 => fun vs H Q _ => ∃ (b : Addr) (t : QT), vs = [.ref b] ∧ TreeAt H t b ∧ t.caps.length ≤ d + 1 ∧ (∀ c ∈ t.caps, GoodC c) ∧ ∀ a t' H', Same H H' → SortOf t t' → DatT H' t' a → Q (.ref a) H'
def spCs : Nat → Sp
  | 0 => fun _ _ _ _ => False
  | d + 1 => fun vs H Q _ => ∃ (b : Addr) (t : QT), vs = [.ref b] ∧ TreeAt H t b ∧ t.caps.length ≤ d + 1 ∧ t.caps.length ≤ 20 ∧ ∀ L as H', Same H H' → H' L = some (.lst (as.map V.ref)) → CapsL H' as t.caps → Q (.ref L) H'
section
variable {P : Program} {w : World} {K : PySem.W.Frag} {mg : Str → Option Value} {base : Heap}
abbrev nTu : List Str := ["_law_tree_here"]
theorem scTu : FnScope nTu ["_law_tree_here"] (defScope sTu) := ⟨rfl, rfl, rfl, by decide +kernel, rfl, by decide +kernel, by decide +kernel⟩
theorem ok_Tu {f : Addr} {fd : FuncData} (F : Fun K "_law_turned" "_law_turned" sTu f fd) : FnOk P w K mg base CX0 1 f fd ["_law_tree_here"] spTu := by
  refine F.ok scTu (fun vs H Q E h => ?_) (fun cdv A outer s H vs Q E hr h => ?_)
  · obtain ⟨b, t, rfl, _⟩ := h
    rfl
  obtain ⟨b, t, rfl, ht, q⟩ := h
  refine ⟨_, (pss_one (ps_ret (pe_ifExp (pt_cmpR op_eq (pe_ix (r := rIxT K) ix_tup (pv 0) pe_int (fun _ _ => rfl)) pe_str (nomark _)) (pe_tup (pa_cons pe_str (pa_cons (pe_ifExp (pt_cmpR op_ne (pe_ix (r := rIxT K) ix_tup (pv 0) pe_int (fun _ _ => rfl)) pe_int (nomark _)) (pe_op op_sub pe_int (pe_ix (r := rIxT K) ix_tup (pv 0) pe_int (fun _ _ => rfl))) pe_int) (pa_cons (pe_ix (r := rIxT K) ix_tup (pv 0) pe_int (fun _ _ => rfl)) pa_nil)))) (pe_tup (pa_cons (pe_ix (r := rIxT K) ix_tup (pv 0) pe_int (fun _ _ => rfl)) (pa_cons (pe_ix (r := rIxT K) ix_tup (pv 0) pe_int (fun _ _ => rfl)) (pa_cons (pe_ix (r := rIxT K) ix_tup (pv 0) pe_int (fun _ _ => rfl)) pa_nil))))))), ?_⟩
  have sz := sizeLine_eq
  match t, ht, q with
  | .cap m ks, ⟨kl, e, ek⟩, q =>
    refine ⟨_, rfl, b, _, 0, _, rfl, rfl, SqT.of e, atI_nat (j := 0) rfl, rfl, _, rfl, ?_⟩
    refine ite2 (fun _ => ?_) (fun c => absurd (decide_eq_true rfl) c)
    refine ⟨_, rfl, b, _, 1, _, rfl, rfl, SqT.of e, atI_nat (j := 1) rfl, rfl, _, rfl, ?_⟩
    refine ite2 (fun c => ?_) (fun c => ?_)
    · have n6 : m ≠ 6 := fun e => by
        rw [e] at c
        revert c
        decide +kernel
      refine ⟨_, rfl, b, _, 1, _, rfl, rfl, SqT.of e, atI_nat (j := 1) rfl, _, _, rfl, rfl, _, rfl, b, _, 2, _, rfl, rfl, SqT.of e, atI_nat (j := 2) rfl, by show (3 : Nat) ≤ sizeLine; omega, fun T hT => ?_⟩
      have sT := Same.of_new (o := .tup [.str "cap", .int (12 - m), .ref kl]) hT
      refine q T _ sT ⟨kl, ?_, sT _ _ ek⟩
      rw [if_pos n6]
      exact upd_same
    · have e6 : m = 6 := by
        by_cases e : m = 6
        · exact e
        · exact absurd (by rw [decide_eq_false (fun h => e (V.int.inj h))]; rfl) c
      refine ⟨_, rfl, b, _, 2, _, rfl, rfl, SqT.of e, atI_nat (j := 2) rfl, by show (3 : Nat) ≤ sizeLine; omega, fun T hT => ?_⟩
      have sT := Same.of_new (o := .tup [.str "cap", .int 5, .ref kl]) hT
      refine q T _ sT ⟨kl, ?_, sT _ _ ek⟩
      rw [if_neg (fun n => n e6)]
      exact upd_same
  | .both t u, ⟨l, r, e, h1, h2⟩, q =>
    refine ⟨_, rfl, b, _, 0, _, rfl, rfl, SqT.of e, atI_nat (j := 0) rfl, rfl, _, rfl, ?_⟩
    refine ite2 (fun c => absurd c (by decide +kernel)) (fun _ => ?_)
    refine ⟨_, rfl, b, _, 0, _, rfl, rfl, SqT.of e, atI_nat (j := 0) rfl, _, rfl, b, _, 2, _, rfl, rfl, SqT.of e, atI_nat (j := 2) rfl, _, rfl, b, _, 1, _, rfl, rfl, SqT.of e, atI_nat (j := 1) rfl, by show (3 : Nat) ≤ sizeLine; omega, fun T hT => ?_⟩
    have sT := Same.of_new (o := .tup [.str "both", .ref r, .ref l]) hT
    exact q T _ sT ⟨r, l, upd_same, h2.same sT, h1.same sT⟩
  | .either t u, ⟨l, r, e, h1, h2⟩, q =>
    refine ⟨_, rfl, b, _, 0, _, rfl, rfl, SqT.of e, atI_nat (j := 0) rfl, rfl, _, rfl, ?_⟩
    refine ite2 (fun c => absurd c (by decide +kernel)) (fun _ => ?_)
    refine ⟨_, rfl, b, _, 0, _, rfl, rfl, SqT.of e, atI_nat (j := 0) rfl, _, rfl, b, _, 2, _, rfl, rfl, SqT.of e, atI_nat (j := 2) rfl, _, rfl, b, _, 1, _, rfl, rfl, SqT.of e, atI_nat (j := 1) rfl, by show (3 : Nat) ≤ sizeLine; omega, fun T hT => ?_⟩
    have sT := Same.of_new (o := .tup [.str "either", .ref r, .ref l]) hT
    exact q T _ sT ⟨r, l, upd_same, h2.same sT, h1.same sT⟩
abbrev nSo : List Str := ["_law_tree_here", "_law_kind"]
theorem scSo : FnScope nSo ["_law_tree_here"] (defScope sSo) := ⟨rfl, rfl, rfl, by decide +kernel, rfl, by decide +kernel, by decide +kernel⟩
theorem ok_So {f : Addr} {fd : FuncData} (F : Fun K "_law_sorted" "_law_sorted" sSo f fd) (g_rec : mg "_law_sorted" = some (.ref f)) (n_str : mg "str" = none) (n_sorted : mg "sorted" = none) (n_tuple : mg "tuple" = none) : ∀ d : Nat, FnOk P w K mg base CX0 (d + 1) f fd ["_law_tree_here"] (spSo d)
  | 0 => F.ok scSo (fun vs H Q E h => h.elim) (fun cdv A outer s H vs Q E hr h => h.elim)
  | d + 1 => by
    have G_rec := ok_So F g_rec n_str n_sorted n_tuple d
    have b_rec : Binds K fd ["_law_tree_here"] [] := F.binds fun _ _ _ _ _ _ us hl => match us, hl with | [_], _ => rfl
    refine F.ok scSo (fun vs H Q E h => ?_) (fun cdv A outer s H vs Q E hr h => ?_)
    · obtain ⟨b, t, rfl, _⟩ := h
      rfl
    obtain ⟨b, t, rfl, ht, lt, gd, q⟩ := h
    refine ⟨_, (pss_cons (ps_if (pt_cmpR op_eq (pe_ix (r := rIxT K) ix_tup (pv 0) pe_int (fun _ _ => rfl)) pe_str (nomark _)) (pss_one (ps_ret (pe_tup (pa_cons (pe_ix (r := rIxT K) ix_tup (pv 0) pe_int (fun _ _ => rfl)) (pa_cons (pe_callTy call_tuple_of (by rfl) n_tuple (by decide +kernel) (pa_cons (pe_callB cr_sortedS (by rfl) n_sorted (by decide +kernel) (pa_cons (pe_lc (own := [("_law_kind", 1)]) (by rfl) scSo.nd (pi_list (pe_ix (r := rIxT K) ix_tup (pv 0) pe_int (fun _ _ => rfl))) (blkOk_by (own := [("_law_kind", 1)]) (N := nSo) (sc := defScope sSo) (by decide +kernel)) (fun _ _ _ _ _ => (pg_name (i := 1) scSo.nd rfl (Or.inl rfl))) (fun _ _ _ _ _ => pts_nil) (fun _ _ _ _ _ => (pe_callTy SkE.call_str_str (by rfl) n_str (by decide +kernel) (pa_cons (pv 1) pa_nil)))) pa_nil)) pa_nil)) pa_nil))))) pss_nil)
    (pss_one (ps_ret (pe_tup (pa_cons (pe_ix (r := rIxT K) ix_tup (pv 0) pe_int (fun _ _ => rfl)) (pa_cons (pe_call G_rec hr (by rfl) g_rec F.kp b_rec .nil pass0 (pa_cons (pe_ix (r := rIxT K) ix_tup (pv 0) pe_int (fun _ _ => rfl)) pa_nil)) (pa_cons (pe_call G_rec hr (by rfl) g_rec F.kp b_rec .nil pass0 (pa_cons (pe_ix (r := rIxT K) ix_tup (pv 0) pe_int (fun _ _ => rfl)) pa_nil)) pa_nil))))))), ?_⟩
    have sz := sizeLine_eq
    match t, ht, lt, gd, q with
    | .cap m ks, ⟨kl, e, ek⟩, lt, gd, q =>
      have gc := gd (m, ks) (List.mem_singleton.mpr rfl)
      have l3 : ks.length ≤ 3 := gc.1.2.2.1
      refine ⟨_, rfl, b, _, 0, _, rfl, rfl, SqT.of e, atI_nat (j := 0) rfl, rfl, _, rfl, ?_⟩
      refine ite2 (fun _ => ?_) (fun c => absurd (decide_eq_true rfl) c)
      refine ⟨_, rfl, b, _, 1, _, rfl, rfl, SqT.of e, atI_nat (j := 1) rfl, _, rfl, b, _, 2, _, rfl, rfl, SqT.of e, atI_nat (j := 2) rfl, kl, rfl, ⟨_, SqL.of ek⟩, fun L hL => ?_⟩
      refine lc_it (walk_list (xs := ks.map V.str)) (fun i Hx => Same H Hx ∧ Hx L = some (.lst ((ks.take i).map V.str))) ⟨Same.of_new hL, upd_same⟩ (fun i Hx _ q => SqL.of (q.1 _ _ ek)) (fun i x Hx Hy hi q0 y => ?_) (fun Hx q0 => ?_)
      · obtain ⟨s1, eL⟩ := q0
        obtain ⟨rfl, hx⟩ := y
        rw [List.getElem?_map] at hx
        obtain ⟨z, hz, rfl⟩ := Option.map_eq_some_iff.mp hx
        refine ⟨rfl, ?_⟩
        refine ⟨_, rfl, _, rfl, _, eL, by rw [List.length_map, List.length_take]; omega, fun y o e => ?_, ?_⟩
        · rw [upd_ne (ne_of_none e hL)]
          exact s1 y o e
        · rw [List.take_add_one, hz, List.map_append]
          exact upd_same
      obtain ⟨s1, eL⟩ := q0
      rw [List.length_map, List.take_length] at eL
      refine ⟨L, ks, rfl, SqL.of eL, by omega, fun ys p pm srt hp => ⟨p, _, rfl, .inl ⟨SqL.of upd_same, fun v hv => ⟨by show (2 : Nat) ≤ sizeLine; omega, fun T hT => ?_⟩⟩⟩⟩
      have w1 := Same.of_new (o := .lst (ys.map V.str)) hp
      have w2 := Same.of_new (o := .tup (ys.map V.str)) hv
      have w3 := Same.of_new (o := .tup [.int m, .ref v]) hT
      exact q T (.cap m ys) _ (s1.trans ((w1.trans w2).trans w3)) ⟨rfl, pm, srt⟩ ⟨v, upd_same, w3 _ _ upd_same⟩
    | .both t u, ⟨l, r, e, h1, h2⟩, lt, gd, q =>
      refine ⟨_, rfl, b, _, 0, _, rfl, rfl, SqT.of e, atI_nat (j := 0) rfl, rfl, _, rfl, ?_⟩
      refine ite2 (fun c => absurd c (by decide +kernel)) (fun _ => ?_)
      have ca := caps_pos t
      have cb := caps_pos u
      have lc : t.caps.length + u.caps.length ≤ d + 1 := by rw [← List.length_append]; exact lt
      match d, G_rec, lc with
      | 0, _, lc => exact absurd lc (by omega)
      | d + 1, G_rec, lc =>
      refine ⟨_, rfl, b, _, 0, _, rfl, rfl, SqT.of e, atI_nat (j := 0) rfl, _, rfl, b, _, 1, _, rfl, rfl, SqT.of e, atI_nat (j := 1) rfl, l, t, rfl, h1, by omega, fun c hc => gd c (List.mem_append_left _ hc), fun a1 t1 H1 s1 so1 d1 => ?_⟩
      refine ⟨_, rfl, b, _, 2, _, rfl, rfl, SqT.of (s1 _ _ e), atI_nat (j := 2) rfl, r, u, rfl, h2.same s1, by omega, fun c hc => gd c (List.mem_append_right _ hc), fun a2 t2 H2 s2 so2 d2 => ⟨by show (3 : Nat) ≤ sizeLine; omega, fun T hT => ?_⟩⟩
      have sT := Same.of_new (o := .tup [.str "both", .ref a1, .ref a2]) hT
      exact q T (.both t1 t2) _ ((s1.trans s2).trans sT) ⟨so1, so2⟩ ⟨a1, a2, upd_same, d1.same (s2.trans sT), d2.same sT⟩
    | .either t u, ⟨l, r, e, h1, h2⟩, lt, gd, q =>
      refine ⟨_, rfl, b, _, 0, _, rfl, rfl, SqT.of e, atI_nat (j := 0) rfl, rfl, _, rfl, ?_⟩
      refine ite2 (fun c => absurd c (by decide +kernel)) (fun _ => ?_)
      have ca := caps_pos t
      have cb := caps_pos u
      have lc : t.caps.length + u.caps.length ≤ d + 1 := by rw [← List.length_append]; exact lt
      match d, G_rec, lc with
      | 0, _, lc => exact absurd lc (by omega)
      | d + 1, G_rec, lc =>
      refine ⟨_, rfl, b, _, 0, _, rfl, rfl, SqT.of e, atI_nat (j := 0) rfl, _, rfl, b, _, 1, _, rfl, rfl, SqT.of e, atI_nat (j := 1) rfl, l, t, rfl, h1, by omega, fun c hc => gd c (List.mem_append_left _ hc), fun a1 t1 H1 s1 so1 d1 => ?_⟩
      refine ⟨_, rfl, b, _, 2, _, rfl, rfl, SqT.of (s1 _ _ e), atI_nat (j := 2) rfl, r, u, rfl, h2.same s1, by omega, fun c hc => gd c (List.mem_append_right _ hc), fun a2 t2 H2 s2 so2 d2 => ⟨by show (3 : Nat) ≤ sizeLine; omega, fun T hT => ?_⟩⟩
      have sT := Same.of_new (o := .tup [.str "either", .ref a1, .ref a2]) hT
      exact q T (.either t1 t2) _ ((s1.trans s2).trans sT) ⟨so1, so2⟩ ⟨a1, a2, upd_same, d1.same (s2.trans sT), d2.same sT⟩
abbrev nCs : List Str := ["_law_tree_here"]
theorem scCs : FnScope nCs ["_law_tree_here"] (defScope sCs) := ⟨rfl, rfl, rfl, by decide +kernel, rfl, by decide +kernel, by decide +kernel⟩
theorem ok_Cs {f : Addr} {fd : FuncData} (F : Fun K "_law_caps" "_law_caps" sCs f fd) (g_rec : mg "_law_caps" = some (.ref f)) : ∀ d : Nat, FnOk P w K mg base CX0 (d + 1) f fd ["_law_tree_here"] (spCs d)
  | 0 => F.ok scCs (fun vs H Q E h => h.elim) (fun cdv A outer s H vs Q E hr h => h.elim)
  | d + 1 => by
    have G_rec := ok_Cs F g_rec d
    have b_rec : Binds K fd ["_law_tree_here"] [] := F.binds fun _ _ _ _ _ _ us hl => match us, hl with | [_], _ => rfl
    refine F.ok scCs (fun vs H Q E h => ?_) (fun cdv A outer s H vs Q E hr h => ?_)
    · obtain ⟨b, t, rfl, _⟩ := h
      rfl
    obtain ⟨b, t, rfl, ht, lt, l20, q⟩ := h
    refine ⟨_, (pss_one (ps_ret (pe_ifExp (pt_cmpR op_eq (pe_ix (r := rIxT K) ix_tup (pv 0) pe_int (fun _ _ => rfl)) pe_str (nomark _)) (pe_lst (pa_cons (pv 0) pa_nil)) (pe_op op_cat (pe_call G_rec hr (by rfl) g_rec F.kp b_rec .nil pass0 (pa_cons (pe_ix (r := rIxT K) ix_tup (pv 0) pe_int (fun _ _ => rfl)) pa_nil)) (pe_call G_rec hr (by rfl) g_rec F.kp b_rec .nil pass0 (pa_cons (pe_ix (r := rIxT K) ix_tup (pv 0) pe_int (fun _ _ => rfl)) pa_nil)))))), ?_⟩
    have sz := sizeLine_eq
    match t, ht, lt, l20, q with
    | .cap m ks, ⟨kl, e, ek⟩, lt, l20, q =>
      refine ⟨_, rfl, b, _, 0, _, rfl, rfl, SqT.of e, atI_nat (j := 0) rfl, rfl, _, rfl, ?_⟩
      refine ite2 (fun _ => ?_) (fun c => absurd (decide_eq_true rfl) c)
      refine ⟨_, rfl, by show (1 : Nat) ≤ sizeLine; omega, fun L hL => ?_⟩
      have sL := Same.of_new (o := .lst [.ref b]) hL
      refine q L [b] _ sL upd_same ⟨rfl, fun i a c e1 e2 => ?_⟩
      match i, e1, e2 with
      | 0, rfl, rfl => exact ⟨kl, sL _ _ e, sL _ _ ek⟩
    | .both t u, ⟨l, r, e, h1, h2⟩, lt, l20, q =>
      refine ⟨_, rfl, b, _, 0, _, rfl, rfl, SqT.of e, atI_nat (j := 0) rfl, rfl, _, rfl, ?_⟩
      refine ite2 (fun c => absurd c (by decide +kernel)) (fun _ => ?_)
      have ca := caps_pos t
      have cb := caps_pos u
      have lc : t.caps.length + u.caps.length ≤ d + 1 := by rw [← List.length_append]; exact lt
      match d, G_rec, lc with
      | 0, _, lc => exact absurd lc (by omega)
      | d + 1, G_rec, lc =>
      have lc2 : t.caps.length + u.caps.length ≤ 20 := by rw [← List.length_append]; exact l20
      refine ⟨_, rfl, b, _, 1, _, rfl, rfl, SqT.of e, atI_nat (j := 1) rfl, l, t, rfl, h1, by omega, by omega, fun L1 as1 H1 s1 e1 c1 => ?_⟩
      refine ⟨_, rfl, b, _, 2, _, rfl, rfl, SqT.of (s1 _ _ e), atI_nat (j := 2) rfl, r, u, rfl, h2.same s1, by omega, by omega, fun L2 as2 H2 s2 e2 c2 => ?_⟩
      refine ⟨L1, L2, _, _, rfl, rfl, s2 _ _ e1, e2, by rw [List.length_map, List.length_map, c1.len, c2.len]; omega, fun T hT => ?_⟩
      have sT := Same.of_new (o := .lst (as1.map V.ref ++ as2.map V.ref)) hT
      exact q T (as1 ++ as2) _ ((s1.trans s2).trans sT) (by rw [List.map_append]; exact upd_same) ((c1.same (s2.trans sT)).app (c2.same sT))
    | .either t u, ⟨l, r, e, h1, h2⟩, lt, l20, q =>
      refine ⟨_, rfl, b, _, 0, _, rfl, rfl, SqT.of e, atI_nat (j := 0) rfl, rfl, _, rfl, ?_⟩
      refine ite2 (fun c => absurd c (by decide +kernel)) (fun _ => ?_)
      have ca := caps_pos t
      have cb := caps_pos u
      have lc : t.caps.length + u.caps.length ≤ d + 1 := by rw [← List.length_append]; exact lt
      match d, G_rec, lc with
      | 0, _, lc => exact absurd lc (by omega)
      | d + 1, G_rec, lc =>
      have lc2 : t.caps.length + u.caps.length ≤ 20 := by rw [← List.length_append]; exact l20
      refine ⟨_, rfl, b, _, 1, _, rfl, rfl, SqT.of e, atI_nat (j := 1) rfl, l, t, rfl, h1, by omega, by omega, fun L1 as1 H1 s1 e1 c1 => ?_⟩
      refine ⟨_, rfl, b, _, 2, _, rfl, rfl, SqT.of (s1 _ _ e), atI_nat (j := 2) rfl, r, u, rfl, h2.same s1, by omega, by omega, fun L2 as2 H2 s2 e2 c2 => ?_⟩
      refine ⟨L1, L2, _, _, rfl, rfl, s2 _ _ e1, e2, by rw [List.length_map, List.length_map, c1.len, c2.len]; omega, fun T hT => ?_⟩
      have sT := Same.of_new (o := .lst (as1.map V.ref ++ as2.map V.ref)) hT
      exact q T (as1 ++ as2) _ ((s1.trans s2).trans sT) (by rw [List.map_append]; exact upd_same) ((c1.same (s2.trans sT)).app (c2.same sT))
end
end K10
end
section
set_option pp.maxSteps 400
set_option pp.deepTerms.threshold 6
namespace OwR
open PySem PySem.Spec PyProof.Rows L2
theorem op_neDK {X : Cx} {K : PySem.W.Frag} (hK : X.K = K) (hu : X.A.units + 64 < cLine) : OpR X (compareOp .NotEq) (rNeD K) := by
  subst hK
  exact op_neD hu
theorem op_inK {X : Cx} {K : PySem.W.Frag} (hK : X.K = K) : OpR X (compareOp .In) (rIn K false) := by
  subst hK
  exact op_in_seq
end OwR
namespace K10
open PySem PySem.Spec PyProof.Rows L2
abbrev sTo : Stmt := top 44
/-! ### texts of data -/
theorem names_show {zs : List Str} (h : ∀ z ∈ zs, nameB z = true ∧ z.length ≤ 8) : PyData.showableAll (zs.map PyData.str) = true ∧ PyData.hasDictAll (zs.map PyData.str) = false ∧ PyData.leavesShortAll 13 (zs.map PyData.str) = true ∧ PyData.bulkAll (zs.map PyData.str) ≤ 9 * zs.length := by
  induction zs with
  | nil => exact ⟨rfl, rfl, rfl, Nat.le_refl _⟩
  | cons z r ih =>
    obtain ⟨i1, i2, i3, i4⟩ := ih fun q hq => h q (List.mem_cons_of_mem _ hq)
    obtain ⟨o2, o3⟩ := h z List.mem_cons_self
    refine ⟨?_, ?_, ?_, ?_⟩
    · show (true && PyData.showableAll (r.map PyData.str)) = true
      rw [i1]
      rfl
    · show (false || PyData.hasDictAll (r.map PyData.str)) = false
      rw [i2]
      rfl
    · show (PyData.leavesShort 13 (.str z) && PyData.leavesShortAll 13 (r.map PyData.str)) = true
      rw [name_short o2, i3]
      rfl
    · show z.cps.size + 1 + PyData.bulkAll (r.map PyData.str) ≤ 9 * (r.length + 1)
      have : z.cps.size ≤ 8 := o3
      omega
def numD (n : Nat) (zs : List Str) : PyData := .list [.int (n : Nat), .tuple (zs.map PyData.str)]
theorem nums_ok : ∀ m : Fin 21, (((m.val : Nat) : Int)).natAbs.log2 < 1920 ∧ (PyData.shown (.int ((m.val : Nat) : Int))).length ≤ 13 := by decide +kernel
theorem num_show {n : Nat} {zs : List Str} (n20 : n ≤ 20) (h : ∀ z ∈ zs, nameB z = true ∧ z.length ≤ 8) (l : zs.length ≤ 10) : (numD n zs).showable = true ∧ (numD n zs).hasDict = false ∧ (numD n zs).depth ≤ 64 ∧ (numD n zs).shown.length ≤ sizeLine := by
  obtain ⟨a1, a2, b1, b2⟩ := names_show h
  have k := nums_ok ⟨n, by omega⟩
  have k1 : (((n : Nat) : Int)).natAbs.log2 < 1920 := k.1
  have k2 : (PyData.shown (.int ((n : Nat) : Int))).length ≤ 13 := k.2
  refine ⟨?_, ?_, ?_, ?_⟩
  · show (decide (((n : Nat) : Int).natAbs.log2 < 1920) && (PyData.showableAll (zs.map PyData.str) && true)) = true
    rw [a1, decide_eq_true k1]
    rfl
  · show (false || (PyData.hasDictAll (zs.map PyData.str) || false)) = false
    rw [a2]
    rfl
  · have := OwD.deps (f := PyData.str) (k := 0) zs fun q _ => by simp [PyData.depth]
    simp only [numD, PyData.depth, PyData.depthAll]
    omega
  · refine PyData.shown_fits_bulk (B := 13) (by decide) (by decide) ?_ ?_
    · show (decide ((PyData.shown (.int ((n : Nat) : Int))).length ≤ 13) && (PyData.leavesShortAll 13 (zs.map PyData.str) && true)) = true
      rw [b1, decide_eq_true k2]
      rfl
    · show 0 + 1 + (PyData.bulkAll (zs.map PyData.str) + 1 + 0) ≤ 2 ^ 20
      omega
theorem bools_show : ∀ bs : List Bool, PyData.showableAll (bs.map PyData.bool) = true ∧ PyData.hasDictAll (bs.map PyData.bool) = false ∧ PyData.leavesShortAll 13 (bs.map PyData.bool) = true ∧ PyData.bulkAll (bs.map PyData.bool) = bs.length
  | [] => ⟨rfl, rfl, rfl, rfl⟩
  | b :: r => by
    obtain ⟨i1, i2, i3, i4⟩ := bools_show r
    refine ⟨?_, ?_, ?_, ?_⟩
    · show (true && PyData.showableAll (r.map PyData.bool)) = true
      rw [i1]
      rfl
    · show (false || PyData.hasDictAll (r.map PyData.bool)) = false
      rw [i2]
      rfl
    · show (true && PyData.leavesShortAll 13 (r.map PyData.bool)) = true
      rw [i3]
      rfl
    · show 0 + 1 + PyData.bulkAll (r.map PyData.bool) = r.length + 1
      rw [i4]
      omega
theorem dp_bools {K : PySem.W.Frag} {H : Hp} : ∀ bs : List Bool, DpAll K H (bs.map V.bl) (bs.map PyData.bool)
  | [] => .nil
  | b :: r => .cons (.bl b) (dp_bools r)
theorem rep_bools {K : PySem.W.Frag} {H : Hp} {a : Addr} {bs : List Bool} (l : bs.length ≤ 10) (e : H a = some (.lst (bs.map V.bl))) : OwE.RepV K H (.ref a) (PyData.list (bs.map PyData.bool)).shown := by
  obtain ⟨a1, a2, b1, b2⟩ := bools_show bs
  have dp : (PyData.list (bs.map PyData.bool)).depth ≤ 64 := by
    have := OwD.deps (f := PyData.bool) (k := 0) bs fun q _ => by simp [PyData.depth]
    rw [PyData.depth]
    omega
  refine .dat (.lst (SqL.of e) (dp_bools bs)) a1 a2 dp (PyData.shown_fits_bulk (B := 13) (by decide) (by decide) b1 ?_)
  show PyData.bulkAll (bs.map PyData.bool) ≤ 2 ^ 20
  rw [b2]
  omega
/-! ### the caps as data -/
def capD (c : Int × List Str) : PyData := .tuple [.str "cap", .int c.1, .list (c.2.map PyData.str)]
theorem capw_ok : PyData.strOk "cap" = true := by decide +kernel
theorem capD_ok {c : Int × List Str} (h : ∀ z ∈ c.2, nameB z = true) : (capD c).canLay0 = true ∧ (capD c).depth ≤ 3 := by
  have l := names_lay c.2 h
  have d := OwD.deps (f := PyData.str) (k := 0) c.2 fun q _ => by simp [PyData.depth]
  refine ⟨by simp [capD, PyData.canLay0, PyData.canLayAll0, l, capw_ok], ?_⟩
  simp only [capD, PyData.depth, PyData.depthAll]
  omega
theorem cap_dp {K : PySem.W.Frag} {H : Hp} {m : Int} {ks : List Str} {a : Addr} (h : TreeAt H (.cap m ks) a) : Dp K H (.ref a) (capD (m, ks)) := by
  obtain ⟨kl, e, ek⟩ := h
  exact .tup (SqT.of e) (.cons (.str _) (.cons (.int m) (.cons (.lst (SqL.of ek) (OwD.dp_strs ks)) .nil)))
theorem CapsL.dp {K : PySem.W.Frag} {H : Hp} : ∀ {as : List Addr} {cs : List (Int × List Str)}, CapsL H as cs → DpAll K H (as.map V.ref) (cs.map capD)
  | [], [], _ => .nil
  | [], _ :: _, h => by cases h.len
  | _ :: _, [], h => by cases h.len
  | a :: as, c :: cs, h => .cons (cap_dp (h.at_ 0 a c rfl rfl)) (CapsL.dp ⟨Nat.succ.inj h.len, fun i a c e1 e2 => h.at_ (i + 1) a c e1 e2⟩)
/-! ### what a tree is -/
def wordT : QT → Str
  | .cap _ _ => "cap"
  | .both _ _ => "both"
  | .either _ _ => "either"
def isC : QT → Bool
  | .cap _ _ => true
  | _ => false
def isB : QT → Bool
  | .both _ _ => true
  | _ => false
def isE : QT → Bool
  | .either _ _ => true
  | _ => false
theorem words9 : decide (V.str "cap" = .str "cap") = true ∧ decide (V.str "cap" = .str "both") = false ∧ decide (V.str "cap" = .str "either") = false ∧ decide (V.str "both" = .str "cap") = false ∧ decide (V.str "both" = .str "both") = true ∧ decide (V.str "both" = .str "either") = false ∧ decide (V.str "either" = .str "cap") = false ∧ decide (V.str "either" = .str "both") = false ∧ decide (V.str "either" = .str "either") = true := by decide +kernel
theorem wordT_is (t : QT) : decide (V.str (wordT t) = .str "cap") = isC t ∧ decide (V.str (wordT t) = .str "both") = isB t ∧ decide (V.str (wordT t) = .str "either") = isE t := by
  obtain ⟨a1, a2, a3, a4, a5, a6, a7, a8, a9⟩ := words9
  cases t with
  | cap => exact ⟨a1, a2, a3⟩
  | both => exact ⟨a4, a5, a6⟩
  | either => exact ⟨a7, a8, a9⟩
theorem TreeAt.head {H : Hp} {t : QT} {b : Addr} (h : TreeAt H t b) : ∃ x y, H b = some (.tup [.str (wordT t), x, y]) := by
  cases t with
  | cap m ks =>
    obtain ⟨kl, e, _⟩ := h
    exact ⟨_, _, e⟩
  | both t u =>
    obtain ⟨l, r, e, _⟩ := h
    exact ⟨_, _, e⟩
  | either t u =>
    obtain ⟨l, r, e, _⟩ := h
    exact ⟨_, _, e⟩
/-- of which classes quotas are -/
structure QIs (K : PySem.W.Frag) (a : QAd) : Prop where
  at_ : ∀ t : QT, PySem.W.kitOne K (.ref (clsT a t)) (.ref a.CC) = some (isC t) ∧ PySem.W.kitOne K (.ref (clsT a t)) (.ref a.CB) = some (isB t) ∧ PySem.W.kitOne K (.ref (clsT a t)) (.ref a.CE) = some (isE t) ∧ PySem.W.kitOne K (.ref (clsT a t)) (.ref a.CP) = some (!isC t)
theorem sort_cls {a : QAd} : ∀ {t t' : QT}, SortOf t t' → clsT a t' = clsT a t
  | .cap _ _, .cap _ _, _ => rfl
  | .both _ _, .both _ _, _ => rfl
  | .either _ _, .either _ _, _ => rfl
theorem sort_is : ∀ {t t' : QT}, SortOf t t' → isC t' = isC t ∧ isB t' = isB t ∧ isE t' = isE t
  | .cap _ _, .cap _ _, _ => ⟨rfl, rfl, rfl⟩
  | .both _ _, .both _ _, _ => ⟨rfl, rfl, rfl⟩
  | .either _ _, .either _ _, _ => ⟨rfl, rfl, rfl⟩
theorem sort_bounds (z : Str) : ∀ {t t' : QT}, SortOf t t' → t'.bounds z = t.bounds z
  | .cap _ _, .cap _ _, ⟨_, pm, _⟩ => by
    rw [bounds_cap, bounds_cap]
    exact decide_eq_decide.mpr pm.mem_iff
  | .both _ _, .both _ _, ⟨h1, h2⟩ => by rw [bounds_both, bounds_both, sort_bounds z h1, sort_bounds z h2]
  | .either _ _, .either _ _, ⟨h1, h2⟩ => by rw [bounds_either, bounds_either, sort_bounds z h1, sort_bounds z h2]
theorem kinds_both (t u : QT) : (QT.both t u).kinds = t.kinds ++ u.kinds := List.flatMap_append
theorem kinds_either (t u : QT) : (QT.either t u).kinds = t.kinds ++ u.kinds := List.flatMap_append
theorem sort_kinds (z : Str) : ∀ {t t' : QT}, SortOf t t' → (z ∈ t'.kinds ↔ z ∈ t.kinds)
  | .cap _ ks, .cap _ zs, ⟨_, pm, _⟩ => by
    show z ∈ zs ++ [] ↔ z ∈ ks ++ []
    rw [List.append_nil, List.append_nil]
    exact pm.mem_iff
  | .both _ _, .both _ _, ⟨h1, h2⟩ => by rw [kinds_both, kinds_both, List.mem_append, List.mem_append, sort_kinds z h1, sort_kinds z h2]
  | .either _ _, .either _ _, ⟨h1, h2⟩ => by rw [kinds_either, kinds_either, List.mem_append, List.mem_append, sort_kinds z h1, sort_kinds z h2]
/-- the class of a joint's parts -/
def jclsT (a : QAd) : QT → Addr
  | .either _ _ => a.CE
  | _ => a.CB
def spTo (K : PySem.W.Frag) (a : QAd) : Nat → Sp
  | 0 => fun _ _ _ _ => False
  | d + 1 => fun vs H Q _ => ∃ (q b nl : Addr) (t t' : QT) (xs : List Str), vs = [.ref q, .ref b, .ref nl] ∧ QTr a H t' q ∧ TreeAt H t b ∧ SortOf t t' ∧ t.caps.length ≤ d + 1 ∧ t.caps.length ≤ 20 ∧ (∀ c ∈ t.caps, GoodC c ∧ ∀ z ∈ c.2, z ∈ xs) ∧ H nl = some (.lst (xs.map V.str)) ∧ xs.Nodup ∧ (∀ z ∈ xs, nameB z = true ∧ z.length ≤ 8) ∧ xs.length ≤ 3 ∧ ∀ H', Same H H' → Q (.bl true) H'
theorem spTo_len {K : PySem.W.Frag} {a : QAd} : ∀ d, ∀ vs H Q E, spTo K a d vs H Q E → vs.length = (["_law_quota_here", "_law_tree_here", "_law_names_here"] : List Str).length
  | 0, vs, H, Q, E, h => h.elim
  | d + 1, vs, H, Q, E, h => by
    obtain ⟨q, b, nl, t, t', xs, rfl, _⟩ := h
    rfl
section
variable {P : Program} {w : World} {K : PySem.W.Frag} {mg : Str → Option Value} {base : Heap}
abbrev nTo : List Str := ["_law_quota_here", "_law_tree_here", "_law_names_here", "_law_caps_here", "_law_kinds", "_law_name", "_law_cap_here", "_law_kind", "_law_found", "_law_word_here"]
theorem scTo : FnScope nTo ["_law_quota_here", "_law_tree_here", "_law_names_here"] (defScope sTo) := ⟨rfl, rfl, rfl, by decide +kernel, rfl, by decide +kernel, by decide +kernel⟩
theorem ok_To {a : QAd} {f fCs fBd : Addr} {fd fdCs fdBd : FuncData} (R : QF P w K mg base a) (Is : QIs K a) (F : Fun K "_law_told_right" "_law_told_right" sTo f fd) (g_rec : mg "_law_told_right" = some (.ref f)) (F_caps : Fun K "_law_caps" "_law_caps" sCs fCs fdCs) (g_caps : mg "_law_caps" = some (.ref fCs)) (F_bounds : Fun K "_law_bounds" "_law_bounds" sBd fBd fdBd) (g_bounds : mg "_law_bounds" = some (.ref fBd))
    (n_repr : mg "repr" = none) (n_sorted : mg "sorted" = none) (n_tuple : mg "tuple" = none) : ∀ d : Nat, OwR.FnG P w K mg base CX0 (d + 4) f fd ["_law_quota_here", "_law_tree_here", "_law_names_here"] (spTo K a d)
  | 0 => by
    obtain ⟨oc, od, kV0, doc, pm, an, cdv, ct, osl, rfl, lk, hcd⟩ := F.ex
    exact OwR.fn_ofG (k := 3) lk hcd scTo (fun vs H Q E h => h.elim) fun A outer s H vs Q E hgd0 hr h => h.elim
  | d + 1 => by
    have G_rec := ok_To R Is F g_rec F_caps g_caps F_bounds g_bounds n_repr n_sorted n_tuple d
    have b_rec : Binds K fd ["_law_quota_here", "_law_tree_here", "_law_names_here"] [] := F.binds fun _ _ _ _ _ _ us hl => match us, hl with | [_, _, _], _ => rfl
    have n_len := R.chk.T.n_len
    have n_str := R.chk.T.n_str
    have n_isinstance := R.chk.T.n_isinstance
    have G_caps : FnOk P w K mg base CX0 (d + 2) fCs fdCs ["_law_tree_here"] (spCs (d + 1)) := ok_Cs F_caps g_caps (d + 1)
    have b_caps : Binds K fdCs ["_law_tree_here"] [] := F_caps.binds fun _ _ _ _ _ _ us hl => match us, hl with | [_], _ => rfl
    have G_bounds : FnOk P w K mg base CX0 (d + 2) fBd fdBd ["_law_tree_here", "_law_kind"] (spBd (d + 1)) := ok_Bd F_bounds g_bounds (d + 1)
    have b_bounds : Binds K fdBd ["_law_tree_here", "_law_kind"] [] := F_bounds.binds fun _ _ _ _ _ _ us hl => match us, hl with | [_, _], _ => rfl
    obtain ⟨dK, F_k⟩ := R.dK
    obtain ⟨dBo, F_bo⟩ := R.dBo
    obtain ⟨d1, F_1⟩ := R.d1
    obtain ⟨d2, F_2⟩ := R.d2
    obtain ⟨_, _, g_il, F_il⟩ := R.il
    have b_k : Binds K dK ["self"] [] := F_k.binds fun _ _ _ _ _ _ us hl => match us, hl with | [_], _ => rfl
    have bBo : Binds K dBo ["self", "kind"] [] := F_bo.binds fun _ _ _ _ _ _ us hl => match us, hl with | [_, _], _ => rfl
    have b_1 : Binds K d1 ["self"] [] := F_1.binds fun _ _ _ _ _ _ us hl => match us, hl with | [_], _ => rfl
    have b_2 : Binds K d2 ["self"] [] := F_2.binds fun _ _ _ _ _ _ us hl => match us, hl with | [_], _ => rfl
    obtain ⟨oc, od, kV0, doc, pm0, an, cdv, ct, osl, rfl, lk, hcd⟩ := id F.ex
    refine OwR.fn_ofG (k := d + 4) lk hcd scTo (fun vs H Q E h => ?_) fun A outer s H vs Q E hgd0 hr h => ?_
    · exact spTo_len (d + 1) vs H Q E h
    obtain ⟨q, b, nl, t, t', xs, rfl, hq, ht, so, lt, l20, gd, hnl, ndx, gx, lx, k⟩ := h
    have hgd : (A.deeper (envOfC "_law_told_right" (defScope sTo) s.heap.objs.size f cdv)).guards = some [] := hgd0
    have hrd : Room (d + 4) (A.deeper (envOfC "_law_told_right" (defScope sTo) s.heap.objs.size f cdv)) := hr
    have hrc := hrd.mono (show d + 2 ≤ d + 4 by omega)
    have hr2 := hrd.mono (show 2 ≤ d + 4 by omega)
    have hun := hrd.un
    have hrep : (A.deeper (envOfC "_law_told_right" (defScope sTo) s.heap.objs.size f cdv)).units + 70 < cLine := by omega
    have c1 : QOne K a (clsT a t') := R.one _ (clsT_mem a t')
    have G_k : FnOk P w K mg base CX0 1 a.fK dK ["self"] (getSp (clsT a t') "_kinds") := ok_qkinds c1.qk.qc F_k
    have GBo : FnOk P w K mg base CX0 2 a.fBo dBo ["self", "kind"] (spQBounds (clsT a t')) := ok_qbounds c1.qk.qc F_bo F_il g_il
    have jcls : Cls K (jclsT a t') := by
      cases t' with
      | cap => exact R.both.qk.qc.cls
      | both => exact R.both.qk.qc.cls
      | either => exact R.either.qk.qc.cls
    have jp1 : PropOf K (jclsT a t') "first" a.p1 a.f1 := by
      cases t' with
      | cap => exact R.p1B
      | both => exact R.p1B
      | either => exact R.p1E
    have jp2 : PropOf K (jclsT a t') "second" a.p2 a.f2 := by
      cases t' with
      | cap => exact R.p2B
      | both => exact R.p2B
      | either => exact R.p2E
    have jn1 : NoAttr K (jclsT a t') "_first" := by
      cases t' with
      | cap => exact R.n1B
      | both => exact R.n1B
      | either => exact R.n1E
    have jn2 : NoAttr K (jclsT a t') "_second" := by
      cases t' with
      | cap => exact R.n2B
      | both => exact R.n2B
      | either => exact R.n2E
    have G_1 : FnOk P w K mg base CX0 1 a.f1 d1 ["self"] (getSp (jclsT a t') "_first") := ok_pair1 jcls jn1 F_1
    have G_2 : FnOk P w K mg base CX0 1 a.f2 d2 ["self"] (getSp (jclsT a t') "_second") := ok_pair2 jcls jn2 F_2
    refine ⟨_, PSs.nox (pss_cons (ps_set (i := 3) scTo.nd rfl (Or.inr rfl) (pe_call G_caps hrc (by rfl) g_caps F_caps.kp b_caps .nil pass0 (pa_cons (pv 1) pa_nil)))
    (pss_cons (ps_setLc (i := 4) (own := [("_law_name", 5)]) (by rfl) scTo.nd rfl rfl (sw_true rfl rfl rfl (by decide +kernel)) (pi_list (pv 2)) (blkOk_by (own := [("_law_name", 5)]) (N := nTo) (sc := defScope sTo) (by decide +kernel)) (fun _ _ _ _ _ => (pg_name (i := 5) scTo.nd rfl (Or.inr rfl))) (fun _ _ _ _ _ => pts_one (pt_cmpR (OwR.op_neDK (K := K) rfl hrd.units) (pe_lc (own := [("_law_cap_here", 6)]) (wi := iList K (tVar 3)) (by rfl) scTo.nd (pi_list (pv 3)) (blkOk_by (own := [("_law_cap_here", 6)]) (N := nTo) (by rfl)) (fun _ _ _ _ _ => (pg_name (i := 6) scTo.nd rfl (Or.inl rfl))) (fun _ _ _ _ _ => pts_one (pt_cmpR (OwR.op_inK (K := K) rfl) (pv 5) (pe_ix (r := rIxT K) ix_tup (pv 6) pe_int (fun _ _ => rfl)) (by rfl))) (fun _ _ _ _ _ => (pv 6))) (pe_lst pa_nil) (nomark _))) (fun _ _ _ _ _ => (pv 5)))
    (pss_cons (ps_if (pt_cmpR op_ne (pe_callB (id := "repr") (r := OwE.rRepr K) (OwE.cr_repr hgd hrep) (by rfl) n_repr (by decide +kernel) (pa_cons (pe_lst (pa_cons (pe_callB (OwR.call_lenO R.len hr2 pass0) (by rfl) n_len boot_len (pa_cons (pv 0) pa_nil)) (pa_cons (pe_prop (pv 0) c1.qk.qc.cls c1.pk G_k hr2 b_k .nil pass0 rfl) pa_nil))) pa_nil)) (pe_callB (id := "repr") (r := OwE.rRepr K) (OwE.cr_repr hgd hrep) (by rfl) n_repr (by decide +kernel) (pa_cons (pe_lst (pa_cons (pe_callB call_len_seq (by rfl) n_len boot_len (pa_cons (pv 3) pa_nil)) (pa_cons (pe_callTy call_tuple_of (by rfl) n_tuple (by decide +kernel) (pa_cons (pe_callB cr_sortedS (by rfl) n_sorted (by decide +kernel) (pa_cons (pe_lc (own := [("_law_kind", 7)]) (by rfl) scTo.nd (pi_list (pv 4)) (blkOk_by (own := [("_law_kind", 7)]) (N := nTo) (sc := defScope sTo) (by decide +kernel)) (fun _ _ _ _ _ => (pg_name (i := 7) scTo.nd rfl (Or.inl rfl))) (fun _ _ _ _ _ => pts_nil) (fun _ _ _ _ _ => (pe_callTy SkE.call_str_str (by rfl) n_str (by decide +kernel) (pa_cons (pv 7) pa_nil)))) pa_nil)) pa_nil)) pa_nil))) pa_nil)) (nomark _)) (pss_one (ps_ret pe_bl)) pss_nil)
    (pss_cons (ps_if (pt_cmpR op_ne (pe_callB (id := "repr") (r := OwE.rRepr K) (OwE.cr_repr hgd hrep) (by rfl) n_repr (by decide +kernel) (pa_cons (pe_lc (own := [("_law_name", 5)]) (by rfl) scTo.nd (pi_list (pv 2)) (blkOk_by (own := [("_law_name", 5)]) (N := nTo) (sc := defScope sTo) (by decide +kernel)) (fun _ _ _ _ _ => (pg_name (i := 5) scTo.nd rfl (Or.inl rfl))) (fun _ _ _ _ _ => pts_nil) (fun _ _ _ _ _ => (pe_meth (pv 0) c1.qk.qc.cls c1.mb GBo hr2 bBo .nil pass0 (pa_cons (pv 5) pa_nil)))) pa_nil)) (pe_callB (id := "repr") (r := OwE.rRepr K) (OwE.cr_repr hgd hrep) (by rfl) n_repr (by decide +kernel) (pa_cons (pe_lc (own := [("_law_name", 5)]) (by rfl) scTo.nd (pi_list (pv 2)) (blkOk_by (own := [("_law_name", 5)]) (N := nTo) (sc := defScope sTo) (by decide +kernel)) (fun _ _ _ _ _ => (pg_name (i := 5) scTo.nd rfl (Or.inl rfl))) (fun _ _ _ _ _ => pts_nil) (fun _ _ _ _ _ => (pe_call G_bounds hrc (by rfl) g_bounds F_bounds.kp b_bounds .nil pass0 (pa_cons (pv 1) (pa_cons (pv 5) pa_nil))))) pa_nil)) (nomark _)) (pss_one (ps_ret pe_bl)) pss_nil)
    (pss_cons (ps_set (i := 8) scTo.nd rfl (Or.inl rfl) (pe_lst (pa_cons (pe_callB call_isi (by rfl) n_isinstance (by decide +kernel) (pa_cons (pv 0) (pa_cons (pe_glob (v := .ref a.CQ) rfl R.gQ rfl) pa_nil))) (pa_cons (pe_callB call_isi (by rfl) n_isinstance (by decide +kernel) (pa_cons (pv 0) (pa_cons (pe_glob (v := .ref a.CC) rfl R.gC rfl) pa_nil))) (pa_cons (pe_callB call_isi (by rfl) n_isinstance (by decide +kernel) (pa_cons (pv 0) (pa_cons (pe_glob (v := .ref a.CB) rfl R.gB rfl) pa_nil))) (pa_cons (pe_callB call_isi (by rfl) n_isinstance (by decide +kernel) (pa_cons (pv 0) (pa_cons (pe_glob (v := .ref a.CE) rfl R.gE rfl) pa_nil))) pa_nil))))))
    (pss_cons (ps_if (pt_cmpR (op_neD hrd.units) (pv 8) (pe_op op_cat (pe_lst (pa_cons pe_bl pa_nil)) (pe_lc (own := [("_law_word_here", 9)]) (by rfl) scTo.nd (pi_list (pe_lst (pa_cons pe_str (pa_cons pe_str (pa_cons pe_str pa_nil))))) (blkOk_by (own := [("_law_word_here", 9)]) (N := nTo) (sc := defScope sTo) (by decide +kernel)) (fun _ _ _ _ _ => (pg_name (i := 9) scTo.nd rfl (Or.inl rfl))) (fun _ _ _ _ _ => pts_nil) (fun _ _ _ _ _ => (pe_cmpR op_eq (pe_ix (r := rIxT K) ix_tup (pv 1) pe_int (fun _ _ => rfl)) (pv 9) (nomark _))))) (nomark _)) (pss_one (ps_ret pe_bl)) pss_nil)
    (pss_cons (ps_if (pt_cmpR op_ne (pe_callB (id := "repr") (r := OwE.rRepr K) (OwE.cr_repr hgd hrep) (by rfl) n_repr (by decide +kernel) (pa_cons (pe_callB call_isi (by rfl) n_isinstance (by decide +kernel) (pa_cons (pv 0) (pa_cons (pe_glob (v := .ref a.CP) rfl R.gP rfl) pa_nil))) pa_nil)) (pe_callB (id := "repr") (r := OwE.rRepr K) (OwE.cr_repr hgd hrep) (by rfl) n_repr (by decide +kernel) (pa_cons (pe_cmpR op_ne (pe_ix (r := rIxT K) ix_tup (pv 1) pe_int (fun _ _ => rfl)) pe_str (nomark _)) pa_nil)) (nomark _)) (pss_one (ps_ret pe_bl)) pss_nil)
    (pss_cons (ps_if (pt_cmpR op_eq (pe_ix (r := rIxT K) ix_tup (pv 1) pe_int (fun _ _ => rfl)) pe_str (nomark _)) (pss_one (ps_ret (pe_cmpR op_eq (pe_fld (pv 0) rfl) (pe_ix (r := rIxT K) ix_tup (pv 1) pe_int (fun _ _ => rfl)) (nomark _)))) pss_nil)
    (pss_one (ps_ret (pe_and (OwR.pe_callG G_rec (spTo_len d) hgd hrd (by rfl) g_rec F.kp b_rec pass0 (pa_cons (pe_prop (pv 0) jcls jp1 G_1 hr2 b_1 .nil pass0 rfl) (pa_cons (pe_ix (r := rIxT K) ix_tup (pv 1) pe_int (fun _ _ => rfl)) (pa_cons (pv 2) pa_nil)))) (pe_one (OwR.pe_callG G_rec (spTo_len d) hgd hrd (by rfl) g_rec F.kp b_rec pass0 (pa_cons (pe_prop (pv 0) jcls jp2 G_2 hr2 b_2 .nil pass0 rfl) (pa_cons (pe_ix (r := rIxT K) ix_tup (pv 1) pe_int (fun _ _ => rfl)) (pa_cons (pv 2) pa_nil)))))))))))))))), ?_⟩
    have sz := sizeLine_eq
    have szl : ∀ n : Nat, n ≤ 30 → n ≤ sizeLine := fun n h => by omega
    obtain ⟨elc, sml⟩ := so.caps
    have qat := hq.qat
    obtain ⟨dx, fs, cp, jp, kp, cks, zs, h1, h2, h3, h4, h5, h6, h7, h8, h9, ndz, srt, memz, hb⟩ := id qat
    have ktz : ∀ z, z ∈ t.kinds → z ∈ xs := fun z hz => by
      obtain ⟨c, hc, m⟩ := List.mem_flatMap.mp hz
      exact (gd c hc).2 z m
    have mem2 : ∀ z, z ∈ zs ↔ z ∈ t.kinds := fun z => (memz z).trans (sort_kinds z so)
    have gz : ∀ z ∈ zs, nameB z = true ∧ z.length ≤ 8 := fun z hz => gx z (ktz z ((mem2 z).mp hz))
    -- the caps
    refine ⟨_, rfl, b, t, rfl, ht, lt, l20, fun L as H1 s1 eL cl => ?_⟩
    have ln := cl.len
    -- the kinds
    have hn1 := s1 _ _ hnl
    refine ⟨_, rfl, nl, rfl, ⟨_, SqL.of hn1⟩, fun M hM => ?_⟩
    refine lc_it (walk_list (xs := xs.map V.str)) (fun i Hx => Same H1 Hx ∧ Hx M = some (.lst (((xs.take i).filter fun z => decide (z ∈ t.kinds)).map V.str))) ⟨Same.of_new hM, upd_same⟩ (fun i Hx _ q => SqL.of (q.1 _ _ hn1)) (fun i x Hx Hy hi q0 y => ?_) (fun H2 q0 => ?_)
    · obtain ⟨s2, eM⟩ := q0
      obtain ⟨rfl, hx⟩ := y
      rw [List.getElem?_map] at hx
      obtain ⟨nm, hnm, rfl⟩ := Option.map_eq_some_iff.mp hx
      have tk : xs.take (i + 1) = xs.take i ++ [nm] := by
        rw [List.take_add_one, hnm]
        rfl
      have lf : ((xs.take i).filter fun z => decide (z ∈ t.kinds)).length ≤ 3 := by
        have := List.length_filter_le (fun z => decide (z ∈ t.kinds)) (xs.take i)
        rw [List.length_take] at this
        omega
      have eL2 := s2 _ _ eL
      have cl2 := cl.same s2
      refine ⟨rfl, ?_⟩
      refine ⟨_, rfl, L, rfl, ⟨_, SqL.of eL2⟩, fun D hD => ?_⟩
      refine lc_it (walk_list (xs := as.map V.ref)) (fun j Hz => Same Hy Hz ∧ ∃ as2 : List Addr, Hz D = some (.lst (as2.map V.ref)) ∧ as2.length ≤ j ∧ CapsL Hy as2 ((t.caps.take j).filter fun c => decide (nm ∈ c.2))) ⟨Same.of_new hD, [], upd_same, Nat.le_refl 0, ⟨rfl, fun i a c e => by cases e⟩⟩ (fun j Hz _ q => SqL.of (q.1 _ _ eL2)) (fun j x Hz Hw hj q1 y => ?_) (fun Hz q1 => ?_)
      · obtain ⟨s3, as2, eD, la, c2⟩ := q1
        obtain ⟨rfl, hx⟩ := y
        rw [List.getElem?_map] at hx
        obtain ⟨ca, hca, rfl⟩ := Option.map_eq_some_iff.mp hx
        rw [List.length_map] at hj
        have hj2 : j < t.caps.length := by omega
        have hcc : t.caps[j]? = some t.caps[j] := List.getElem?_eq_getElem hj2
        obtain ⟨kl, et0, ek0⟩ := cl2.at_ j ca _ hca hcc
        generalize t.caps[j] = cc at hcc et0 ek0
        have et := s3 _ _ et0
        have ek := s3 _ _ ek0
        have tk2 : (t.caps.take (j + 1)) = t.caps.take j ++ [cc] := by
          rw [List.take_add_one, hcc]
          rfl
        refine ⟨rfl, ?_⟩
        refine ⟨_, rfl, _, rfl, ca, _, 2, _, rfl, rfl, SqT.of et, atI_nat (j := 2) rfl, kl, _, rfl, .inl (SqL.of ek), rfl, flat_texts _, _, rfl, ?_⟩
        rw [if_neg Bool.false_ne_true, in_texts]
        refine ite2 (fun c => ?_) (fun c => ?_)
        · refine ⟨_, rfl, _, eD, by rw [List.length_map]; omega, fun y o e => ?_, as2 ++ [ca], ?_, by rw [List.length_append]; show as2.length + 1 ≤ j + 1; omega, ?_⟩
          · rw [upd_ne (ne_of_none e hD)]
            exact s3 y o e
          · rw [List.map_append]
            exact upd_same
          · rw [tk2, List.filter_append, List.filter_cons, if_pos c]
            exact c2.app ⟨rfl, fun i a c e1 e2 => by
              match i, e1, e2 with
              | 0, rfl, rfl => exact ⟨kl, et0, ek0⟩⟩
        · rw [tk2, List.filter_append, List.filter_cons, if_neg c, List.filter_nil, List.append_nil]
          exact ⟨s3, as2, eD, by omega, c2⟩
      obtain ⟨s3, as2, eD, la, c2⟩ := q1
      rw [List.length_map, ln, List.take_length] at c2
      have g2 : ∀ c ∈ t.caps.filter (fun c => decide (nm ∈ c.2)), ∀ z ∈ c.2, nameB z = true := fun c hc => (gd c ((List.mem_filter.mp hc).1)).1.2.2
      refine ⟨by show (0 : Nat) ≤ sizeLine; omega, fun N hN => ?_⟩
      have sN := Same.of_new (o := .lst []) hN
      have s4 := s3.trans sN
      refine ⟨.list ((t.caps.filter fun c => decide (nm ∈ c.2)).map capD), .list [], .lst (SqL.of (sN _ _ eD)) (c2.same s4).dp, .lst (SqL.of upd_same) .nil, OwD.shaped_lst (k := 3) (by decide) (fun c hc => (capD_ok (g2 c hc)).1) (fun c hc => (capD_ok (g2 c hc)).2), OwD.shaped_nil, _, rfl, ?_⟩
      rw [OwD.eqv_nil, tk, List.filter_append]
      have iff : (!(t.caps.filter fun c => decide (nm ∈ c.2)).isEmpty) = decide (nm ∈ t.kinds) := by
        rw [Bool.eq_iff_iff, decide_eq_true_eq, Bool.not_eq_true', List.isEmpty_eq_false_iff_exists_mem]
        exact ⟨fun ⟨c, hc⟩ => List.mem_flatMap.mpr ⟨c, (List.mem_filter.mp hc).1, of_decide_eq_true (List.mem_filter.mp hc).2⟩, fun h => by
          obtain ⟨c, hc, m⟩ := List.mem_flatMap.mp h
          exact ⟨c, List.mem_filter.mpr ⟨hc, decide_eq_true m⟩⟩⟩
      rw [iff]
      refine ite2 (fun c => ?_) (fun c => ?_)
      · refine ⟨_, rfl, _, s4 _ _ eM, by rw [List.length_map]; omega, fun y o e => ?_, ?_⟩
        · rw [upd_ne (ne_of_none e hM)]
          exact s4 y o (s2 y o e)
        · rw [List.filter_cons, if_pos c, List.map_append]
          exact upd_same
      · rw [List.filter_cons, if_neg c, List.filter_nil, List.append_nil]
        exact ⟨s2.trans s4, s4 _ _ eM⟩
    obtain ⟨s2, eM⟩ := q0
    rw [List.length_map, List.take_length] at eM
    have s3 := s1.trans s2
    have eL3 := s2 _ _ eL
    -- the length, the kinds
    have en : (cks.map V.ref).length = t.caps.length := by rw [List.length_map, h5.len, elc]
    have h1b := s3 _ _ h1
    obtain ⟨ks, eks⟩ : ∃ ks, xs.filter (fun z => decide (z ∈ t.kinds)) = ks := ⟨_, rfl⟩
    have ndk : ks.Nodup := eks ▸ ndx.sublist List.filter_sublist
    have lk3 : ks.length ≤ 3 := by
      have := List.length_filter_le (fun z => decide (z ∈ t.kinds)) xs
      rw [eks] at this
      omega
    have memk : ∀ z, z ∈ ks ↔ z ∈ t.kinds := fun z => by
      rw [← eks, List.mem_filter, decide_eq_true_eq]
      exact ⟨fun h => h.2, fun h => ⟨ktz z h, h⟩⟩
    obtain ⟨o1, o2, o3, o4⟩ := num_show (n := t.caps.length) (zs := zs) l20 gz (by
      have pz := (List.perm_ext_iff_of_nodup ndz ndk).mpr fun z => (mem2 z).trans (memk z).symm
      rw [pz.length_eq]
      omega)
    refine ⟨_, rfl, q, _, dx, fs, rfl, h1b, c1.ln, _, c1.qk, q, dx, cp, fs, _, rfl, h1b, h3, SqT.of (s3 _ _ h4), ((t.caps.length : Nat) : Int), by rw [en], by omega, by omega, ?_⟩
    refine ⟨_, rfl, q, dx, fs, rfl, h1b, q, dx, fs, .ref kp, rfl, h1b, h8, szl 2 (by decide), fun L1 hL1 => ?_⟩
    have w1 := Same.of_new (o := .lst [.int ((t.caps.length : Nat) : Int), .ref kp]) hL1
    refine ⟨_, _, rfl, .dat (d := numD t.caps.length zs) (.lst (SqL.of upd_same) (.cons (.int _) (.cons (.tup (SqT.of (w1 _ _ (s3 _ _ h9))) (OwD.dp_strs zs)) .nil))) o1 o2 o3 o4, ?_⟩
    refine ⟨_, rfl, L, _, rfl, .inl (SqL.of (w1 _ _ eL3)), ?_⟩
    have eM1 := w1 _ _ eM
    refine ⟨_, rfl, M, rfl, ⟨_, SqL.of eM1⟩, fun L2 hL2 => ?_⟩
    rw [eks] at eM eM1
    refine lc_it (walk_list (xs := ks.map V.str)) (fun i Hx => Same (upd H2 L1 (.lst [.int ((t.caps.length : Nat) : Int), .ref kp])) Hx ∧ Hx L2 = some (.lst ((ks.take i).map V.str))) ⟨Same.of_new hL2, upd_same⟩ (fun i Hx _ q => SqL.of (q.1 _ _ eM1)) (fun i x Hx Hy hi q0 y => ?_) (fun H4 q0 => ?_)
    · obtain ⟨v2, eL⟩ := q0
      obtain ⟨rfl, hx⟩ := y
      rw [List.getElem?_map] at hx
      obtain ⟨b1, hb1', rfl⟩ := Option.map_eq_some_iff.mp hx
      refine ⟨rfl, ?_⟩
      refine ⟨_, rfl, _, rfl, ?_⟩
      refine ⟨_, eL, by rw [List.length_map, List.length_take]; omega, fun b o e => ?_, ?_⟩
      · rw [upd_ne (ne_of_none e hL2)]
        exact v2 b o e
      · rw [List.take_add_one, hb1', List.map_append]
        exact upd_same
    obtain ⟨v2, eL2⟩ := q0
    rw [List.length_map, List.take_length] at eL2
    refine ⟨L2, ks, rfl, SqL.of eL2, by omega, fun ys pz pm2 srt3 h3' => ?_⟩
    obtain rfl : ys = zs := asc_eq srt3 srt (pm2.nodup_iff.mpr ndk) ndz fun z => by
      rw [pm2.mem_iff, memk, mem2]
    refine ⟨pz, _, rfl, .inl ⟨SqL.of upd_same, fun l2 hl2 => ⟨szl 2 (by decide), fun L3 hL3 => ?_⟩⟩⟩
    have w3 := Same.of_new (o := .lst (ys.map V.str)) h3'
    have w4 := Same.of_new (o := .tup (ys.map V.str)) hl2
    have ea : (as.map V.ref).length = t.caps.length := by rw [List.length_map, ln]
    rw [ea]
    have w5 := Same.of_new (o := .lst [.int ((t.caps.length : Nat) : Int), .ref l2]) hL3
    refine ⟨_, _, rfl, .dat (d := numD t.caps.length ys) (.lst (SqL.of upd_same) (.cons (.int _) (.cons (.tup (SqT.of (w5 _ _ upd_same)) (OwD.dp_strs ys)) .nil))) o1 o2 o3 o4, rfl, _, rfl, ?_⟩
    rw [decide_eq_true rfl]
    refine iteF ?_
    have s5 := s3.trans ((w1.trans v2).trans ((w3.trans w4).trans w5))
    generalize upd (upd (upd H4 pz _) l2 _) L3 _ = H5 at s5 ⊢
    clear w1 v2 w3 w4 w5 hL3 hl2 h3' eL2 hL2 hL1 eM eM1 eL3 h1b s3 s2 hM hn1 eL cl s1
    have h1c := s5 _ _ h1
    have qat5 := qat.same s5
    have ht5 := ht.same s5
    have hn5 := s5 _ _ hnl
    have jl := joints_len t'
    -- what it bounds
    refine ⟨_, rfl, nl, rfl, ⟨_, SqL.of hn5⟩, fun L4 hL4 => ?_⟩
    refine lc_it (walk_list (xs := xs.map V.str)) (fun i Hx => Same H5 Hx ∧ Hx L4 = some (.lst (((xs.take i).map fun z => t'.bounds z).map V.bl))) ⟨Same.of_new hL4, upd_same⟩ (fun i Hx _ q => SqL.of (q.1 _ _ hn5)) (fun i x Hx Hy hi q0 y => ?_) (fun H6 q0 => ?_)
    · obtain ⟨v2, eL⟩ := q0
      obtain ⟨rfl, hx⟩ := y
      rw [List.getElem?_map] at hx
      obtain ⟨b1, hb1', rfl⟩ := Option.map_eq_some_iff.mp hx
      refine ⟨rfl, ?_⟩
      refine ⟨_, rfl, q, dx, fs, rfl, v2 _ _ h1c, hb, _, rfl, q, b1, t', rfl, qat5.same v2, by omega, by omega, fun H7 v7 => ?_⟩
      refine ⟨_, v7 _ _ eL, by rw [List.length_map, List.length_map, List.length_take]; omega, fun b o e => ?_, ?_⟩
      · rw [upd_ne (ne_of_none e hL4)]
        exact v7 _ _ (v2 b o e)
      · rw [List.take_add_one, hb1', List.map_append, List.map_append]
        exact upd_same
    obtain ⟨v6, eL4⟩ := q0
    rw [List.length_map, List.take_length] at eL4
    have lb : (xs.map fun z => t'.bounds z).length ≤ 10 := by rw [List.length_map]; omega
    refine ⟨_, _, rfl, rep_bools lb eL4, ?_⟩
    have hn6 := v6 _ _ hn5
    refine ⟨_, rfl, nl, rfl, ⟨_, SqL.of hn6⟩, fun L5 hL5 => ?_⟩
    refine lc_it (walk_list (xs := xs.map V.str)) (fun i Hx => Same H6 Hx ∧ Hx L5 = some (.lst (((xs.take i).map fun z => t.bounds z).map V.bl))) ⟨Same.of_new hL5, upd_same⟩ (fun i Hx _ q => SqL.of (q.1 _ _ hn6)) (fun i x Hx Hy hi q0 y => ?_) (fun H7 q0 => ?_)
    · obtain ⟨v2, eL⟩ := q0
      obtain ⟨rfl, hx⟩ := y
      rw [List.getElem?_map] at hx
      obtain ⟨b1, hb1', rfl⟩ := Option.map_eq_some_iff.mp hx
      refine ⟨rfl, ?_⟩
      refine ⟨_, rfl, _, rfl, b, b1, t, rfl, (ht5.same v6).same v2, lt, fun H8 v8 => ?_⟩
      refine ⟨_, v8 _ _ eL, by rw [List.length_map, List.length_map, List.length_take]; omega, fun b o e => ?_, ?_⟩
      · rw [upd_ne (ne_of_none e hL5)]
        exact v8 _ _ (v2 b o e)
      · rw [List.take_add_one, hb1', List.map_append, List.map_append]
        exact upd_same
    obtain ⟨v7, eL5⟩ := q0
    rw [List.length_map, List.take_length] at eL5
    have eqb : (xs.map fun z => t'.bounds z) = xs.map fun z => t.bounds z := List.map_congr_left fun z _ => sort_bounds z so
    rw [eqb] at lb ⊢
    refine ⟨_, _, rfl, rep_bools lb eL5, rfl, _, rfl, ?_⟩
    rw [decide_eq_true rfl]
    refine iteF ?_
    have s7 := (s5.trans v6).trans v7
    clear eL4 eL5 hL4 hL5 v6 v7 hn6 qat5 ht5 hn5 h1c s5
    have h1d := s7 _ _ h1
    have ty := c1.qk.ty h1d
    obtain ⟨i1, i2, i3, i4⟩ := Is.at_ t'
    -- its classes
    refine ⟨_, rfl, .ref q, .ref a.CQ, _, _, true, rfl, .own _, ty, c1.qk.sub, ?_⟩
    refine ⟨_, rfl, .ref q, .ref a.CC, _, _, _, rfl, .own _, ty, i1, ?_⟩
    refine ⟨_, rfl, .ref q, .ref a.CB, _, _, _, rfl, .own _, ty, i2, ?_⟩
    refine ⟨_, rfl, .ref q, .ref a.CE, _, _, _, rfl, .own _, ty, i3, szl 4 (by decide), fun X0 hX0 => ?_⟩
    obtain ⟨j1, j2, j3⟩ := sort_is so
    rw [j1, j2, j3]
    have w0 := Same.of_new (o := .lst [.bl true, .bl (isC t), .bl (isB t), .bl (isE t)]) hX0
    refine ⟨_, rfl, szl 1 (by decide), fun X1 hX1 => ⟨szl 3 (by decide), fun X2 hX2 => ?_⟩⟩
    have w1 := Same.of_new (o := .lst [.bl true]) hX1
    have w2 := Same.of_new (o := .lst [.str "cap", .str "both", .str "either"]) hX2
    refine ⟨X2, rfl, ⟨_, SqL.of upd_same⟩, fun X3 hX3 => ?_⟩
    have eX2 : upd (upd (upd H7 X0 (.lst [.bl true, .bl (isC t), .bl (isB t), .bl (isE t)])) X1 (.lst [.bl true])) X2 (.lst [.str "cap", .str "both", .str "either"]) X2 = some (.lst (([("cap" : Str), "both", "either"]).map V.str)) := upd_same
    have w02 := (w0.trans w1).trans w2
    have eX0 := (w1.trans w2) _ _ (upd_same (H := H7) (a := X0) (o := .lst [.bl true, .bl (isC t), .bl (isB t), .bl (isE t)]))
    have eX1 := w2 _ _ (upd_same (H := upd H7 X0 (.lst [.bl true, .bl (isC t), .bl (isB t), .bl (isE t)])) (a := X1) (o := .lst [.bl true]))
    generalize upd (upd (upd H7 X0 _) X1 _) X2 _ = H8 at hX3 eX2 w02 eX0 eX1 ⊢
    clear w0 w1 w2 hX0 hX1 hX2
    have s8 := s7.trans w02
    obtain ⟨bx, bz, ebh⟩ := (ht.same s8).head
    refine lc_it (walk_list (xs := ([("cap" : Str), "both", "either"]).map V.str)) (fun i Hx => Same H8 Hx ∧ Hx X3 = some (.lst ((([("cap" : Str), "both", "either"]).take i).map fun w => V.bl (decide (V.str (wordT t) = .str w))))) ⟨Same.of_new hX3, upd_same⟩ (fun i Hx _ q => SqL.of (q.1 _ _ eX2)) (fun i x Hx Hy hi q0 y => ?_) (fun H9 q0 => ?_)
    · obtain ⟨v2, eL⟩ := q0
      obtain ⟨rfl, hx⟩ := y
      rw [List.getElem?_map] at hx
      obtain ⟨b1, hb1', rfl⟩ := Option.map_eq_some_iff.mp hx
      have hi3 : i < 3 := hi
      refine ⟨rfl, ?_⟩
      refine ⟨_, rfl, b, _, 0, _, rfl, rfl, SqT.of (v2 _ _ ebh), atI_nat (j := 0) rfl, _, rfl, rfl, ?_⟩
      refine ⟨_, eL, by rw [List.length_map, List.length_take]; omega, fun b o e => ?_, ?_⟩
      · rw [upd_ne (ne_of_none e hX3)]
        exact v2 b o e
      · rw [List.take_add_one, hb1', List.map_append]
        exact upd_same
    obtain ⟨v9, eX3⟩ := q0
    have eX3 : H9 X3 = some (.lst [V.bl (decide (V.str (wordT t) = .str "cap")), .bl (decide (V.str (wordT t) = .str "both")), .bl (decide (V.str (wordT t) = .str "either"))]) := eX3
    obtain ⟨k1, k2, k3⟩ := wordT_is t
    rw [k1, k2, k3] at eX3
    refine ⟨X1, X3, _, _, rfl, rfl, v9 _ _ eX1, eX3, by show 1 + 3 ≤ sizeLine; omega, fun X4 hX4 => ?_⟩
    have w4 := Same.of_new (o := .lst ([V.bl true] ++ [V.bl (isC t), .bl (isB t), .bl (isE t)])) hX4
    have e4 : upd H9 X4 (.lst ([V.bl true] ++ [V.bl (isC t), .bl (isB t), .bl (isE t)])) X4 = some (.lst (([true, isC t, isB t, isE t]).map V.bl)) := upd_same
    have sh : ∀ b1 b2 b3 : Bool, SeqAt.shaped (.list (([true, b1, b2, b3]).map PyData.bool)) = true := by decide +kernel
    refine ⟨.list (([true, isC t, isB t, isE t]).map PyData.bool), .list (([true, isC t, isB t, isE t]).map PyData.bool), .lst (SqL.of ((v9.trans w4) _ _ eX0)) (dp_bools [true, isC t, isB t, isE t]), .lst (SqL.of e4) (dp_bools [true, isC t, isB t, isE t]), sh _ _ _, sh _ _ _, _, rfl, ?_⟩
    rw [SeqAt.eqv_refl _ (SeqAt.canLay_of_shaped (sh _ _ _))]
    refine iteF ?_
    have s9 := s8.trans (v9.trans w4)
    generalize upd H9 X4 (.lst ([V.bl true] ++ [V.bl (isC t), .bl (isB t), .bl (isE t)])) = H10 at s9 ⊢
    clear w4 e4 eX3 v9 hX4 hX3 eX0 eX1 eX2 w02 s8 ebh ty h1d s7
    have h1e := s9 _ _ h1
    have hte := ht.same s9
    obtain ⟨bx2, bz2, ebh⟩ := hte.head
    refine ⟨_, rfl, .ref q, .ref a.CP, _, _, _, rfl, .own _, c1.qk.ty h1e, i4, _, _, rfl, .bl _, _, rfl, b, _, 0, _, rfl, rfl, SqT.of ebh, atI_nat (j := 0) rfl, rfl, _, _, rfl, .bl _, rfl, _, rfl, ?_⟩
    rw [j1, k1, decide_eq_true rfl]
    refine iteF ?_
    refine ⟨_, rfl, b, _, 0, _, rfl, rfl, SqT.of ebh, atI_nat (j := 0) rfl, rfl, _, rfl, ?_⟩
    rw [k1]
    match t, t', so, ht, hq, lt, l20, gd with
    | .cap m ks, .cap m' zs', ⟨em, pm, _⟩, ht, hq, lt, l20, gd =>
      obtain ⟨kl, e, ek⟩ := ht.same s9
      have hq9 : CapAt a.CC H10 q m' zs' := hq.same s9
      obtain ⟨_, dx2, fs2, e2, lm⟩ := hq9
      refine iteT ?_
      refine ⟨_, rfl, q, a.CC, dx2, fs2, .int m', rfl, e2, R.cap.qk.qc.cls, R.hm, lm, _, rfl, b, _, 1, _, rfl, rfl, SqT.of e, atI_nat (j := 1) rfl, rfl, ?_⟩
      rw [em, decide_eq_true rfl]
      exact k _ s9
    | .both t u, .both t' u', ⟨so1, so2⟩, ht, hq, lt, l20, gd =>
      obtain ⟨l, r, e, h1', h2'⟩ := ht.same s9
      obtain ⟨_, ff, gg, ⟨dx2, fs2, e2, lf, lg⟩, q1, q2⟩ := hq.same s9
      refine iteF ?_
      have ca := caps_pos t
      have cb := caps_pos u
      have lc : t.caps.length + u.caps.length ≤ d + 1 := by rw [← List.length_append]; exact lt
      have lc2 : t.caps.length + u.caps.length ≤ 20 := by rw [← List.length_append]; exact l20
      have hn9 := s9 _ _ hnl
      match d, lc with
      | 0, lc => exact absurd lc (by omega)
      | d + 1, lc =>
      refine ⟨_, rfl, q, dx2, fs2, rfl, e2, q, dx2, fs2, .ref ff, rfl, e2, lf, _, rfl, b, _, 1, _, rfl, rfl, SqT.of e, atI_nat (j := 1) rfl, _, rfl, ff, l, nl, t, t', xs, rfl, q1, h1', so1, by omega, by omega, fun c hc => gd c (List.mem_append_left _ hc), hn9, ndx, gx, lx, fun H11 s11 => ⟨true, rfl, iteT ?_⟩⟩
      have e3 := s11 _ _ e2
      exact ⟨_, rfl, q, dx2, fs2, rfl, e3, q, dx2, fs2, .ref gg, rfl, e3, lg, _, rfl, b, _, 2, _, rfl, rfl, SqT.of (s11 _ _ e), atI_nat (j := 2) rfl, _, rfl, gg, r, nl, u, u', xs, rfl, q2.same s11, h2'.same s11, so2, by omega, by omega, fun c hc => gd c (List.mem_append_right _ hc), s11 _ _ hn9, ndx, gx, lx, fun H12 s12 => k _ ((s9.trans s11).trans s12)⟩
    | .either t u, .either t' u', ⟨so1, so2⟩, ht, hq, lt, l20, gd =>
      obtain ⟨l, r, e, h1', h2'⟩ := ht.same s9
      obtain ⟨_, ff, gg, ⟨dx2, fs2, e2, lf, lg⟩, q1, q2⟩ := hq.same s9
      refine iteF ?_
      have ca := caps_pos t
      have cb := caps_pos u
      have lc : t.caps.length + u.caps.length ≤ d + 1 := by rw [← List.length_append]; exact lt
      have lc2 : t.caps.length + u.caps.length ≤ 20 := by rw [← List.length_append]; exact l20
      have hn9 := s9 _ _ hnl
      match d, lc with
      | 0, lc => exact absurd lc (by omega)
      | d + 1, lc =>
      refine ⟨_, rfl, q, dx2, fs2, rfl, e2, q, dx2, fs2, .ref ff, rfl, e2, lf, _, rfl, b, _, 1, _, rfl, rfl, SqT.of e, atI_nat (j := 1) rfl, _, rfl, ff, l, nl, t, t', xs, rfl, q1, h1', so1, by omega, by omega, fun c hc => gd c (List.mem_append_left _ hc), hn9, ndx, gx, lx, fun H11 s11 => ⟨true, rfl, iteT ?_⟩⟩
      have e3 := s11 _ _ e2
      exact ⟨_, rfl, q, dx2, fs2, rfl, e3, q, dx2, fs2, .ref gg, rfl, e3, lg, _, rfl, b, _, 2, _, rfl, rfl, SqT.of (s11 _ _ e), atI_nat (j := 2) rfl, _, rfl, gg, r, nl, u, u', xs, rfl, q2.same s11, h2'.same s11, so2, by omega, by omega, fun c hc => gd c (List.mem_append_right _ hc), s11 _ _ hn9, ndx, gx, lx, fun H12 s12 => k _ ((s9.trans s11).trans s12)⟩
end
end K10
end
section
set_option pp.maxSteps 400
set_option pp.deepTerms.threshold 6
/-! What the law leans on: sorted trees are told by their texts. -/
namespace K10
open PySem PySem.Spec PyProof.Rows L2
theorem sort_good : ∀ {t t' : QT}, SortOf t t' → (∀ c ∈ t.caps, GoodC c) → ∀ c ∈ t'.caps, GoodC c
  | .cap m ks, .cap m' zs, ⟨e, pm, _⟩, g, c, hc => by
    obtain ⟨⟨h1, h2, h3, h4⟩, nd, nm⟩ := g (m, ks) (List.mem_singleton.mpr rfl)
    have ec : c = (m', zs) := List.mem_singleton.mp hc
    subst ec e
    exact ⟨⟨h1, h2, by rw [pm.length_eq]; exact h3, fun z hz => h4 z (pm.mem_iff.mp hz)⟩, pm.symm.nodup nd, fun z hz => nm z (pm.mem_iff.mp hz)⟩
  | .both t u, .both t' u', ⟨h1, h2⟩, g, c, hc => (List.mem_append.mp hc).elim (sort_good h1 (fun c hc => g c (List.mem_append_left _ hc)) c) (sort_good h2 (fun c hc => g c (List.mem_append_right _ hc)) c)
  | .either t u, .either t' u', ⟨h1, h2⟩, g, c, hc => (List.mem_append.mp hc).elim (sort_good h1 (fun c hc => g c (List.mem_append_left _ hc)) c) (sort_good h2 (fun c hc => g c (List.mem_append_right _ hc)) c)
theorem GoodC.ok {c : Int × List Str} (h : GoodC c) : CapOk c := ⟨h.1.1, h.1.2.1, Nat.le_trans h.1.2.2.1 (by decide), h.2.2⟩
theorem sort_one : ∀ {t a b : QT}, SortOf t a → SortOf t b → (∀ c ∈ t.caps, GoodC c) → a = b
  | .cap m ks, .cap m1 xs, .cap m2 ys, ⟨e1, p1, s1⟩, ⟨e2, p2, s2⟩, g => by
    have nd := (g (m, ks) (List.mem_singleton.mpr rfl)).2.1
    have nd : ks.Nodup := nd
    rw [e1, e2, asc_eq s1 s2 (p1.symm.nodup nd) (p2.symm.nodup nd) fun z => p1.mem_iff.trans p2.mem_iff.symm]
  | .both t u, .both t1 u1, .both t2 u2, ⟨a1, a2⟩, ⟨b1, b2⟩, g => by
    rw [sort_one a1 b1 fun c hc => g c (List.mem_append_left _ hc), sort_one a2 b2 fun c hc => g c (List.mem_append_right _ hc)]
  | .either t u, .either t1 u1, .either t2 u2, ⟨a1, a2⟩, ⟨b1, b2⟩, g => by
    rw [sort_one a1 b1 fun c hc => g c (List.mem_append_left _ hc), sort_one a2 b2 fun c hc => g c (List.mem_append_right _ hc)]
theorem perm_sum {xs ys : List Int} (h : xs.Perm ys) : xs.sum = ys.sum := by
  induction h with
  | nil => rfl
  | cons x _ ih => rw [List.sum_cons, List.sum_cons, ih]
  | swap x y l =>
    rw [List.sum_cons, List.sum_cons, List.sum_cons, List.sum_cons]
    omega
  | trans _ _ h1 h2 => exact h1.trans h2
theorem sort_lets (N : Str → Option Int) : ∀ {t t' : QT}, SortOf t t' → t'.lets N = t.lets N
  | .cap m ks, .cap m' zs, ⟨e, pm, _⟩ => by
    have es : sumOf N zs = sumOf N ks := perm_sum (pm.map fun z => (N z).getD 0)
    show decide (sumOf N zs ≤ m') = decide (sumOf N ks ≤ m)
    rw [e, es]
  | .both _ _, .both _ _, ⟨h1, h2⟩ => by rw [lets_both, lets_both, sort_lets N h1, sort_lets N h2]
  | .either _ _, .either _ _, ⟨h1, h2⟩ => by rw [lets_either, lets_either, sort_lets N h1, sort_lets N h2]
/-- texts say the same as the trees as data -/
theorem text_data {t u : QT} (gt : ∀ c ∈ t.caps, GoodC c) (gu : ∀ c ∈ u.caps, GoodC c) : decide (t.text = u.text) = PyData.eqv (dataT t) (dataT u) := by
  by_cases c : t = u
  · rw [(data_eqv t u).mpr c, c, decide_eq_true rfl]
  · have h1 : PyData.eqv (dataT t) (dataT u) = false := by
      cases e : PyData.eqv (dataT t) (dataT u) with
      | false => rfl
      | true => exact absurd ((data_eqv t u).mp e) c
    rw [h1]
    exact decide_eq_false fun e => c (text_inj (fun x hx => (gt x hx).ok) (fun x hx => (gu x hx).ok) e)
def swapT : QT → QT
  | .cap m ks => .cap m ks
  | .both t u => .either t u
  | .either t u => .both t u
theorem swap_caps : ∀ t : QT, (swapT t).caps = t.caps
  | .cap _ _ => rfl
  | .both _ _ => rfl
  | .either _ _ => rfl
theorem swap_ne : ∀ {t s t' : QT}, isC t = false → SortOf (swapT t) s → SortOf t t' → s ≠ t'
  | .both _ _, .either _ _, .both _ _, _, _, _ => fun e => by cases e
  | .either _ _, .both _ _, .either _ _, _, _, _ => fun e => by cases e
  | .cap _ _, _, _, c, _, _ => by cases c
  | .both _ _, .cap _ _, _, _, h, _ => h.elim
  | .both _ _, .both _ _, _, _, h, _ => h.elim
  | .both _ _, .either _ _, .cap _ _, _, _, h => h.elim
  | .both _ _, .either _ _, .either _ _, _, _, h => h.elim
  | .either _ _, .cap _ _, _, _, h, _ => h.elim
  | .either _ _, .either _ _, _, _, h, _ => h.elim
  | .either _ _, .both _ _, .cap _ _, _, _, h => h.elim
  | .either _ _, .both _ _, .both _ _, _, _, h => h.elim
theorem turn_ok {t : QT} (l : t.caps.length ≤ 6) (g : ∀ c ∈ t.caps, GoodC c) : (turnT t).caps.length ≤ 6 ∧ ∀ c ∈ (turnT t).caps, GoodC c := by
  cases t with
  | cap m ks =>
    refine ⟨by show 1 ≤ 6; decide, fun c hc => ?_⟩
    obtain ⟨⟨h1, h2, h3, h4⟩, nd, nm⟩ := g (m, ks) (List.mem_singleton.mpr rfl)
    have h1 : 0 ≤ m := h1
    have h2 : m ≤ 12 := h2
    have ec : c = ((if m ≠ 6 then 12 - m else 5), ks) := List.mem_singleton.mp hc
    subst ec
    refine ⟨⟨?_, ?_, h3, h4⟩, nd, nm⟩
    · show 0 ≤ (if m ≠ 6 then 12 - m else 5)
      split <;> omega
    · show (if m ≠ 6 then 12 - m else 5) ≤ 12
      split <;> omega
  | both t u =>
    have l : (t.caps ++ u.caps).length ≤ 6 := l
    refine ⟨by show (u.caps ++ t.caps).length ≤ 6; rw [List.length_append] at l ⊢; omega, fun c hc => g c ?_⟩
    exact (List.mem_append.mp hc).elim (fun h => List.mem_append_right _ h) fun h => List.mem_append_left _ h
  | either t u =>
    have l : (t.caps ++ u.caps).length ≤ 6 := l
    refine ⟨by show (u.caps ++ t.caps).length ≤ 6; rw [List.length_append] at l ⊢; omega, fun c hc => g c ?_⟩
    exact (List.mem_append.mp hc).elim (fun h => List.mem_append_right _ h) fun h => List.mem_append_left _ h
theorem good_drawn {xs : List Str} {t : QT} (h : GoodT xs 12 t) (lx : xs.length ≤ 3) (gx : ∀ z ∈ xs, nameB z = true ∧ z.length ≤ 8) : ∀ c ∈ t.caps, GoodC c := fun c hc => by
  obtain ⟨a, b, nd, mem, l⟩ := h c hc
  exact ⟨⟨a, b, by omega, fun z hz => (gx z (mem z hz)).2⟩, nd, fun z hz => (gx z (mem z hz)).1⟩
/-- what the law holds in one turn -/
structure LS (a : QAd) (T : List (Addr × Str)) (p c : Addr) (ns : List Int) (nl : Addr) (xs : List Str) (tb : Addr) (t t1 : QT) (q1 q2 : Addr) (n : Nat) (z : Int) (H : Hp) : Prop where
  pen : PenAt H p c ns n z
  tabs : LamX.Tabs T H
  enl : H nl = some (.lst (xs.map V.str))
  nnl : nl ≠ p
  tr : TreeAt H t tb
  qa : QTr a H t1 q1
  qb : QTr a H t1 q2
section
variable {a : QAd} {T : List (Addr × Str)} {p c : Addr} {ns : List Int} {nl : Addr} {xs : List Str} {tb : Addr} {t t1 : QT} {q1 q2 : Addr} {n n' : Nat} {z z' : Int} {H H' : Hp}
theorem LS.same (h : LS a T p c ns nl xs tb t t1 q1 q2 n z H) (s : Same H H') : LS a T p c ns nl xs tb t t1 q1 q2 n z H' := ⟨h.pen.same s, tabs_same h.tabs s, s _ _ h.enl, h.nnl, h.tr.same s, h.qa.same s, h.qb.same s⟩
theorem LS.but (h : LS a T p c ns nl xs tb t t1 q1 q2 n z H) (s : But p H H') (pn : PenAt H' p c ns n' z') : LS a T p c ns nl xs tb t t1 q1 q2 n' z' H' := ⟨pn, tabs_but h.tabs h.pen s, s _ _ h.nnl h.enl, h.nnl, h.tr.but h.pen s, h.qa.lo h.pen s.lo, h.qb.lo h.pen s.lo⟩
end
end K10
end
section
set_option pp.maxSteps 400
set_option pp.deepTerms.threshold 6
namespace K10
open PySem PySem.Spec PyProof.Rows L2
abbrev sLaw : Stmt := top 49
def qLaw : Str := "law.<locals>.<lambda>"
theorem qLaw_eq : (("law" : Str) ++ ".<locals>.") ++ "<lambda>" = qLaw := by decide +kernel
def spLaw (K : PySem.W.Frag) (T : List (Addr × Str)) : Sp := fun vs H Q _ => ∃ (x : Addr) (ns : List Int), vs = [.ref x] ∧ SqL K H x (ns.map V.int) ∧ ns.length ≤ 63 ∧ LamX.Tabs T H ∧ ∀ H', Q (.bl true) H'
theorem spLaw_len {K : PySem.W.Frag} {T : List (Addr × Str)} : ∀ vs H Q E, spLaw K T vs H Q E → vs.length = (["_law_script"] : List Str).length := fun vs H Q E h => by
  obtain ⟨x, ns, rfl, _⟩ := h
  rfl
/-- what the classes of a text and of none say beside quotas -/
structure QSt (K : PySem.W.Frag) (a : QAd) : Prop where
  str : ∀ C ∈ [a.CC, a.CB, a.CE], PySem.W.notFirst K C (.type "str") = true
  non : ∀ C ∈ [a.CC, a.CB, a.CE], PySem.W.notFirst K C (.type "NoneType") = true
def capsD : PyData := .tuple [.str "caps", .int 20]
theorem capsD_ok : SeqAt.shaped capsD = true ∧ PyData.eqv capsD capsD = true := by decide +kernel
theorem caps_dp {K : PySem.W.Frag} {H : Hp} {t : Addr} (e : H t = some (.tup [.str "caps", .int 20])) : Dp K H (.ref t) capsD := .tup (SqT.of e) (.cons (.str _) (.cons (.int _) .nil))
/-- a quota on the heap -/
theorem QTr.ins {a : QAd} {H : Hp} {t : QT} {q : Addr} (h : QTr a H t q) : ∃ dx fs, H q = some (.ins (clsT a t) dx fs) := by
  obtain ⟨dx, fs, _, _, _, _, _, e, _⟩ := h.qat
  exact ⟨dx, fs, e⟩
section
variable {P : Program} {w : World} {K : PySem.W.Frag} {mg : Str → Option Value} {base : Heap}
theorem QTr.anyQ {a : QAd} {H : Hp} {t : QT} {q : Addr} (R : QF P w K mg base a) (h : QTr a H t q) : AnyQ K a.CQ H q t := ⟨clsT a t, (R.one _ (clsT_mem a t)).qk, h.qat⟩
/-- q == q2 -/
theorem eq_two {a : QAd} {H : Hp} {t u : QT} {q r : Addr} {Q : VK} {E : XK} (R : QF P w K mg base a) (h1 : QTr a H t q) (h2 : QTr a H u r) (k : Q (.bl (decide (t.text = u.text))) H) : OwR.rCmp2 K .Eq a.fE (spQEq K a.CQ) E (.ref q) (.ref r) H Q := by
  obtain ⟨dx, fs, ex⟩ := h1.ins
  obtain ⟨dy, gs, ey⟩ := h2.ins
  exact ⟨q, r, _, _, dx, dy, fs, gs, rfl, rfl, ex, ey, (R.one _ (clsT_mem a t)).eq, (R.two _ (clsT_mem a t) _ (clsT_mem a u)).cmp, q, r, t, u, rfl, h1.anyQ R, h2.anyQ R, k⟩
theorem ne_two {a : QAd} {H : Hp} {t u : QT} {q r : Addr} {Q : VK} {E : XK} (R : QF P w K mg base a) (h1 : QTr a H t q) (h2 : QTr a H u r) (k : Q (.bl (!decide (t.text = u.text))) H) : OwR.rNe2 K a.fE (spQEq K a.CQ) E (.ref q) (.ref r) H Q := by
  obtain ⟨dx, fs, ex⟩ := h1.ins
  obtain ⟨dy, gs, ey⟩ := h2.ins
  exact ⟨q, r, _, _, dx, dy, fs, gs, rfl, rfl, ex, ey, (R.one _ (clsT_mem a t)).ne, (R.two _ (clsT_mem a t) _ (clsT_mem a u)).cmp, q, r, t, u, rfl, h1.anyQ R, h2.anyQ R, _, rfl, k⟩
/-- q == what is no quota -/
theorem eq_odd {a : QAd} {H : Hp} {t : QT} {q : Addr} {y : V} {ty : Value} {Q : VK} {E : XK} (R : QF P w K mg base a) (h1 : QTr a H t q) (hy : TyX K H y ty) (nf : PySem.W.notFirst K (clsT a t) ty = true) (nq : PySem.W.kitOne K ty (.ref a.CQ) = some false) (k : Q (.bl false) H) : OwR.rCmpX K .Eq a.fE (spQEqO K a.CQ) E (.ref q) y H Q := by
  obtain ⟨dx, fs, ex⟩ := h1.ins
  exact ⟨q, _, dx, fs, ty, rfl, ex, hy, (R.one _ (clsT_mem a t)).eq, nf, q, y, ty, rfl, hy, nq, k⟩
/-- a table in q -/
theorem in_quota {a : QAd} {H : Hp} {t : QT} {q D : Addr} {kvs : List (Key × V)} {N : Str → Option Int} {Q : VK} {E : XK} (R : QF P w K mg base a) (h1 : QTr a H t q) (eD : H D = some (.dK kvs)) (tb : TabOf kvs N) (g : ∀ c ∈ t.caps, GoodC c) (l : t.caps.length ≤ 20) (k : ∀ H', Same H H' → Q (.bl (t.lets N)) H') : OwR.rInO K a.gI (spQInA K a.CQ) E (.ref D) (.ref q) H Q := by
  obtain ⟨dx, fs, ex⟩ := h1.ins
  have c1 := R.one _ (clsT_mem a t)
  have jl : t.joints.length ≤ 1000 := by
    have := joints_len t
    omega
  exact ⟨q, _, dx, fs, rfl, ex, c1.inn, clsT a t, c1.qk, q, D, t, kvs, N, rfl, h1.qat, .inl eD, tb, by omega, jl, fun c hc => Nat.le_trans (g c hc).1.2.2.1 (by decide), fun H' s => ⟨_, rfl, k H' s⟩⟩
theorem join_over {a : QAd} {C : Addr} {mk : QT → QT → QT} {H Hz : Hp} {Q Q' : VK} {E' : XK} {t u : QT} {q1 q2 : Addr} (R : QF P w K mg base a) (h1 : QTr a Hz t q1) (h2 : QTr a Hz u q2) (g1 : ∀ c ∈ t.caps, GoodC c) (g2 : ∀ c ∈ u.caps, GoodC c) (k2 : (t.kinds ++ u.kinds).length < 64) (l1 : t.caps.length ≤ 20) (l2 : u.caps.length ≤ 20) (o : 20 < t.caps.length + u.caps.length) (s0 : Same H Hz)
    (hE : ∀ cls d H', HearErr a.CU a.CT Q cls d H' → E' cls d H') (next : ∀ x H', Same H H' → H' x = some (.tup [.str "caps", .int 20]) → Q (.ref x) H') : MadeJoin K a.CQ a.fL a.fS C a.CU a.CT mk Hz (.ref q1) (.ref q2) Q' E' := by
  have x1 := text_len t fun c hc => (g1 c hc).1
  have x2 := text_len u fun c hc => (g2 c hc).1
  exact .inl ⟨q1, q2, t, u, rfl, rfl, h1.any R, h2.any R, l1, l2, k2, by omega, by omega, fun le => absurd le (by omega), fun gt H' d s' nd => hE _ _ _ ⟨d, rfl, .inr ⟨_, _, rfl, upd_same, fun x H6 s6 et => next x H6 (((s0.trans s').trans (Same.of_new nd)).trans s6) et⟩⟩⟩
theorem text_ne {t u : QT} (gt : ∀ c ∈ t.caps, GoodC c) (gu : ∀ c ∈ u.caps, GoodC c) (h : t ≠ u) : decide (t.text = u.text) = false :=
  decide_eq_false fun e => h (text_inj (fun x hx => (gt x hx).ok) (fun x hx => (gu x hx).ok) e)
abbrev nLaw : List Str := ["_law_script", "_law_pen_here", "_law_turn", "_law_names_here", "_law_tree_here", "_law_quota_here", "_law_signed_here", "_law_other", "_law_made", "_law_same", "_law_again", "_law_told", "_law_name", "_law_counts", "_law_heard_here", "_law_word_here"]
theorem scLaw : FnScope nLaw ["_law_script"] (defScope sLaw) := ⟨rfl, rfl, rfl, by decide +kernel, rfl, by decide +kernel, by decide +kernel⟩
theorem ok_law {a : QAd} {CX f c0 Pt fH fDr fPe fNa fTr fQu fSg fTu fSo fLt fRw fTo fRe fCp : Addr} {fdH fdDr fdPe fdNa fdTr fdQu fdSg fdTu fdSo fdLt fdRw fdTo fdRe fdCp : FuncData} {T : List (Addr × Str)} {oc kV doc pm ct : Value} {od an : Option Addr} {osl : Array (Option Value)} (lk : K.lookup f = some ⟨oc, od, .func (PySem.W.fnOf "law" "law" (defArgs sLaw) (defBody sLaw) (defScope sLaw) .none kV doc pm an (.ref c0) ct), osl⟩) (hcd : PySem.W.codeIn K (.ref c0) "law" = true)
    (R : QF P w K mg base a) (Ty : QTys K a) (St : QSt K a) (ear : EarC K mg a.CU a.CT CX) (Nn : Nm mg) (F_heard : Fun K "_law_heard" "_law_heard" sHeard fH fdH) (g_heard : mg "_law_heard" = some (.ref fH)) (F_draw : Fun K "_law_draw" "_law_draw" sDraw fDr fdDr) (g_draw : mg "_law_draw" = some (.ref fDr)) (F_pen : Fun K "_law_pen" "_law_pen" sPen fPe fdPe) (g_pen : mg "_law_pen" = some (.ref fPe))
    (F_names : Fun K "_law_names" "_law_names" sNames fNa fdNa) (g_names : mg "_law_names" = some (.ref fNa)) (G_names : FnOk P w K mg base CX0 4 fNa fdNa ["_law_pen_here", "_law_many"] spNames)
    (F_tree : Fun K "_law_tree" "_law_tree" sTr fTr fdTr) (g_tree : mg "_law_tree" = some (.ref fTr)) (G_tree : ∀ d, FnOk P w K mg base CX0 (d + 2) fTr fdTr ["_law_pen_here", "_law_names_here", "_law_many", "_law_most"] (spTr K d))
    (F_cap : Fun K "_law_cap" "_law_cap" sLC fCp fdCp) (g_cap : mg "_law_cap" = some (.ref fCp))
    (F_quota : Fun K "_law_quota" "_law_quota" sQu fQu fdQu) (g_quota : mg "_law_quota" = some (.ref fQu)) (F_signed : Fun K "_law_signed" "_law_signed" sSg fSg fdSg) (g_signed : mg "_law_signed" = some (.ref fSg))
    (F_turned : Fun K "_law_turned" "_law_turned" sTu fTu fdTu) (g_turned : mg "_law_turned" = some (.ref fTu)) (F_sorted : Fun K "_law_sorted" "_law_sorted" sSo fSo fdSo) (g_sorted : mg "_law_sorted" = some (.ref fSo)) (F_lets : Fun K "_law_lets" "_law_lets" sLt fLt fdLt) (g_lets : mg "_law_lets" = some (.ref fLt)) (F_row : Fun K "_law_row" "_law_row" sRw fRw fdRw) (g_row : mg "_law_row" = some (.ref fRw))
    (G_told : ∀ d, OwR.FnG P w K mg base CX0 (d + 4) fTo fdTo ["_law_quota_here", "_law_tree_here", "_law_names_here"] (spTo K a d)) (kp_told : PySem.W.keepIn K (.ref fTo) = true) (g_told : mg "_law_told_right" = some (.ref fTo)) (b_told : Binds K fdTo ["_law_quota_here", "_law_tree_here", "_law_names_here"] [])
    (G_refused : OwR.FnG P w K mg base CX0 9 fRe fdRe ["_law_pen_here"] (spRF T)) (kp_refused : PySem.W.keepIn K (.ref fRe) = true) (g_refused : mg "_law_refused_right" = some (.ref fRe)) (b_refused : Binds K fdRe ["_law_pen_here"] [])
    (n_range : mg "range" = none) (n_repr : mg "repr" = none) (n_dict : mg "dict" = none) (n_sum : mg "sum" = none) (n_sorted : mg "sorted" = none) (n_tuple : mg "tuple" = none) (TB : LamX.TabB base mg c0 Pt) (memT : (Pt, qLaw) ∈ T) (oneT : ∀ p ∈ T, p.1 = Pt → p.2 = qLaw) :
    OwR.FnG P w K mg base CX0 14 f (PySem.W.fnOf "law" "law" (defArgs sLaw) (defBody sLaw) (defScope sLaw) .none kV doc pm an (.ref c0) ct) ["_law_script"] (spLaw K T) := by
  have n_len := R.chk.T.n_len
  have n_str := R.chk.T.n_str
  have b_heard : Binds K fdH ["_law_ask"] [] := F_heard.binds fun _ _ _ _ _ _ us hl => match us, hl with | [_], _ => rfl
  have G_pen : FnOk P w K mg base CX0 1 fPe fdPe ["_law_script"] (spPen K) := ok_pen F_pen Nn
  have b_pen : Binds K fdPe ["_law_script"] [] := F_pen.binds fun _ _ _ _ _ _ us hl => match us, hl with | [_], _ => rfl
  have G_draw : FnOk P w K mg base CX0 1 fDr fdDr ["_law_pen_here", "_law_many"] spDraw := ok_draw F_draw Nn
  have b_draw : Binds K fdDr ["_law_pen_here", "_law_many"] [] := F_draw.binds fun _ _ _ _ _ _ us hl => match us, hl with | [_, _], _ => rfl
  have b_names : Binds K fdNa ["_law_pen_here", "_law_many"] [] := F_names.binds fun _ _ _ _ _ _ us hl => match us, hl with | [_, _], _ => rfl
  have b_tree : Binds K fdTr ["_law_pen_here", "_law_names_here", "_law_many", "_law_most"] [] := F_tree.binds fun _ _ _ _ _ _ us hl => match us, hl with | [_, _, _, _], _ => rfl
  have G_quota : ∀ d, FnOk P w K mg base (L2.CX P w) (d + 7) fQu fdQu ["_law_tree_here"] (spQu a d) := ok_Qu R F_quota g_quota F_cap g_cap
  have b_quota : Binds K fdQu ["_law_tree_here"] [] := F_quota.binds fun _ _ _ _ _ _ us hl => match us, hl with | [_], _ => rfl
  have G_signed : ∀ d, FnOk P w K mg base (L2.CX P w) (d + 7) fSg fdSg ["_law_tree_here"] (spQu a d) := ok_Sg R F_signed g_signed F_cap g_cap
  have b_signed : Binds K fdSg ["_law_tree_here"] [] := F_signed.binds fun _ _ _ _ _ _ us hl => match us, hl with | [_], _ => rfl
  have G_turned : FnOk P w K mg base CX0 1 fTu fdTu ["_law_tree_here"] spTu := ok_Tu F_turned
  have b_turned : Binds K fdTu ["_law_tree_here"] [] := F_turned.binds fun _ _ _ _ _ _ us hl => match us, hl with | [_], _ => rfl
  have G_sorted : ∀ d, FnOk P w K mg base CX0 (d + 1) fSo fdSo ["_law_tree_here"] (spSo d) := ok_So F_sorted g_sorted n_str n_sorted n_tuple
  have b_sorted : Binds K fdSo ["_law_tree_here"] [] := F_sorted.binds fun _ _ _ _ _ _ us hl => match us, hl with | [_], _ => rfl
  have G_lets : ∀ d, FnOk P w K mg base CX0 (d + 1) fLt fdLt ["_law_tree_here", "_law_counts"] (spLt d) := ok_Lt F_lets g_lets n_sum
  have b_lets : Binds K fdLt ["_law_tree_here", "_law_counts"] [] := F_lets.binds fun _ _ _ _ _ _ us hl => match us, hl with | [_, _], _ => rfl
  have G_row : FnOk P w K mg base (L2.CX P w) 7 fRw fdRw ["_law_many"] (spRw a) := ok_Rw R F_row n_range
  have b_row : Binds K fdRw ["_law_many"] [] := F_row.binds fun _ _ _ _ _ _ us hl => match us, hl with | [_], _ => rfl
  refine OwR.fn_ofG (k := 13) lk hcd scLaw (fun vs H Q E h => ?_) fun A outer s H vs Q E hgd0 hr h => ?_
  · exact spLaw_len vs H Q E h
  · obtain ⟨x, ns, rfl, hx, hl, hT, q⟩ := h
    have hgd : (A.deeper (envOfC "law" (defScope sLaw) s.heap.objs.size f (.ref c0))).guards = some [] := hgd0
    have hr13 : Room 13 (A.deeper (envOfC "law" (defScope sLaw) s.heap.objs.size f (.ref c0))) := hr
    have hr11 := hr13.mono (show 11 ≤ 13 by decide)
    have hr10 := hr13.mono (show 10 ≤ 13 by decide)
    have hr9 := hr13.mono (show 9 ≤ 13 by decide)
    have hr8 := hr13.mono (show 8 ≤ 13 by decide)
    have hr7 := hr13.mono (show 7 ≤ 13 by decide)
    have hr4 := hr13.mono (show 4 ≤ 13 by decide)
    have hr3 := hr13.mono (show 3 ≤ 13 by decide)
    have hr2 := hr13.mono (show 2 ≤ 13 by decide)
    have hr1 := hr13.mono (show 1 ≤ 13 by decide)
    have hun := hr13.un
    have hrep : (A.deeper (envOfC "law" (defScope sLaw) s.heap.objs.size f (.ref c0))).units + 70 < cLine := by omega
    have hu0 : (A.deeper (envOfC "law" (defScope sLaw) s.heap.objs.size f (.ref c0))).units < cLine := by omega
    have hu1 : (A.deeper (envOfC "law" (defScope sLaw) s.heap.objs.size f (.ref c0))).units + 1 < cLine := by omega
    have hu2 : (A.deeper (envOfC "law" (defScope sLaw) s.heap.objs.size f (.ref c0))).units + 2 < cLine := by omega
    refine ⟨_, PSs.nox (pss_cons (ps_set (i := 1) scLaw.nd rfl (Or.inr rfl) (pe_call G_pen hr1 (by rfl) g_pen F_pen.kp b_pen .nil pass0 (pa_cons (pv 0) pa_nil)))
    (pss_cons (ps_for PassesOwn.never rfl (pi_range1 rfl n_range (pa_cons pe_int pa_nil)) (pg_name (i := 2) scLaw.nd rfl (Or.inl rfl)) (pss_cons (ps_set (i := 3) scLaw.nd rfl (Or.inl rfl) (pe_call G_names hr4 (by rfl) g_names F_names.kp b_names .nil pass0 (pa_cons (pv 1) (pa_cons pe_int pa_nil))))
    (pss_cons (ps_set (i := 4) scLaw.nd rfl (Or.inl rfl) (pe_call (G_tree 6) hr8 (by rfl) g_tree F_tree.kp b_tree .nil pass0 (pa_cons (pv 1) (pa_cons (pv 3) (pa_cons (pe_op op_add pe_int (pe_call G_draw hr1 (by rfl) g_draw F_draw.kp b_draw .nil pass0 (pa_cons (pv 1) (pa_cons pe_int pa_nil)))) (pa_cons pe_int pa_nil))))))
    (pss_cons (ps_par (i := 5) (j := 6) (by rfl) scLaw.nd rfl rfl (by decide) rfl rfl (pa_cons (pe_call (G_quota 6) hr13 (by rfl) g_quota F_quota.kp b_quota .nil passL (pa_cons (pv 4) pa_nil)) (pa_cons (pe_call (G_signed 6) hr13 (by rfl) g_signed F_signed.kp b_signed .nil passL (pa_cons (pv 4) pa_nil)) pa_nil)) (by rfl))
    (pss_cons (ps_set (i := 7) scLaw.nd rfl (Or.inl rfl) (pe_call G_turned hr1 (by rfl) g_turned F_turned.kp b_turned .nil pass0 (pa_cons (pv 4) pa_nil)))
    (C8.pss_cut (ps_if (pt_cmpR op_eq (pe_call G_draw hr1 (by rfl) g_draw F_draw.kp b_draw .nil pass0 (pa_cons (pv 1) (pa_cons pe_int pa_nil))) pe_int (nomark _)) (pss_one (ps_set (i := 7) scLaw.nd rfl (Or.inl rfl) (pe_call (G_tree 6) hr8 (by rfl) g_tree F_tree.kp b_tree .nil pass0 (pa_cons (pv 1) (pa_cons (pv 3) (pa_cons (pe_op op_add pe_int (pe_call G_draw hr1 (by rfl) g_draw F_draw.kp b_draw .nil pass0 (pa_cons (pv 1) (pa_cons pe_int pa_nil)))) (pa_cons pe_int pa_nil))))))) pss_nil)
    (pss_cons (ps_for PassesOwn.never rfl (pi_list (pe_lst (pa_cons (pv 5) (pa_cons (pv 6) pa_nil)))) (pg_name (i := 8) scLaw.nd rfl (Or.inl rfl)) (pss_one (ps_if (pt_not (pt_val (OwR.pe_callG (G_told 6) (spTo_len 6) hgd hr10 (by rfl) g_told kp_told b_told pass0 (pa_cons (pv 8) (pa_cons (pv 4) (pa_cons (pv 3) pa_nil)))))) (pss_one (ps_ret pe_bl)) pss_nil)))
    (pss_cons (ps_set (i := 9) scLaw.nd rfl (Or.inl rfl) (pe_cmpR (op_eqD hr11.units) (pe_call (G_sorted 6) hr7 (by rfl) g_sorted F_sorted.kp b_sorted .nil pass0 (pa_cons (pv 4) pa_nil)) (pe_call (G_sorted 6) hr7 (by rfl) g_sorted F_sorted.kp b_sorted .nil pass0 (pa_cons (pv 7) pa_nil)) (nomark _)))
    (pss_cons (ps_if (PW.pt (pw_or (pt_cmpR (OwR.op_ownNe hu1 R.eqQ hr2 pass0) (pv 5) (pv 6) (nomark _)) (pw_or1 (pt_cmpR op_ne (pe_callB (id := "repr") (r := OwE.rRepr K) (OwE.cr_repr hgd hrep) (by rfl) n_repr (by decide +kernel) (pa_cons (pe_cmpR (OwR.op_ownEq hu0 R.eqQ hr1 pass0) (pv 5) (pe_call (G_quota 6) hr13 (by rfl) g_quota F_quota.kp b_quota .nil passL (pa_cons (pv 7) pa_nil)) (nomark _)) pa_nil)) (pe_callB (id := "repr") (r := OwE.rRepr K) (OwE.cr_repr hgd hrep) (by rfl) n_repr (by decide +kernel) (pa_cons (pv 9) pa_nil)) (nomark _))))) (pss_one (ps_ret pe_bl)) pss_nil)
    (pss_cons (ps_for PassesOwn.never rfl (pi_range1 rfl n_range (pa_cons pe_int pa_nil)) (pg_name (i := 10) scLaw.nd rfl (Or.inl rfl)) (pss_cons (ps_setLc (i := 11) (own := [("_law_name", 12)]) (by rfl) scLaw.nd rfl rfl (sw_true rfl rfl rfl (by decide +kernel)) (pi_list (pv 3)) (blkOk_by (own := [("_law_name", 12)]) (N := nLaw) (sc := defScope sLaw) (by decide +kernel)) (fun _ _ _ _ _ => (pg_name (i := 12) scLaw.nd rfl (Or.inl rfl))) (fun _ _ _ _ _ => pts_one (pt_cmpR op_gt (pe_call G_draw hr1 (by rfl) g_draw F_draw.kp b_draw .nil pass0 (pa_cons (pv 1) (pa_cons pe_int pa_nil))) pe_int (nomark _))) (fun _ _ _ _ _ => (pv 12)))
    (pss_cons (ps_set (i := 13) scLaw.nd rfl (Or.inl rfl) (pe_callTy (call_dictP rfl) (by rfl) n_dict (by decide +kernel) (pa_cons (pe_lc (own := [("_law_name", 12)]) (by rfl) scLaw.nd (pi_list (pv 11)) (blkOk_by (own := [("_law_name", 12)]) (N := nLaw) (sc := defScope sLaw) (by decide +kernel)) (fun _ _ _ _ _ => (pg_name (i := 12) scLaw.nd rfl (Or.inl rfl))) (fun _ _ _ _ _ => pts_nil) (fun _ _ _ _ _ => (pe_tup (pa_cons (pv 12) (pa_cons (pe_call G_draw hr1 (by rfl) g_draw F_draw.kp b_draw .nil pass0 (pa_cons (pv 1) (pa_cons pe_int pa_nil))) pa_nil))))) pa_nil)))
    (pss_cons (ps_set (i := 14) scLaw.nd rfl (Or.inl rfl) (pe_lst (pa_cons (pe_cmpR (OwR.op_inO R.in_ hr3 pass0) (pv 13) (pv 5) (by rfl)) (pa_cons (pe_cmpR (OwR.op_inO R.in_ hr3 pass0) (pv 13) (pv 6) (by rfl)) pa_nil))))
    (pss_one (ps_if (pt_cmpR op_ne (pe_callB (id := "repr") (r := OwE.rRepr K) (OwE.cr_repr hgd hrep) (by rfl) n_repr (by decide +kernel) (pa_cons (pv 14) pa_nil)) (pe_callB (id := "repr") (r := OwE.rRepr K) (OwE.cr_repr hgd hrep) (by rfl) n_repr (by decide +kernel) (pa_cons (pe_op op_rep (pe_lst (pa_cons (pe_call (G_lets 6) hr7 (by rfl) g_lets F_lets.kp b_lets .nil pass0 (pa_cons (pv 4) (pa_cons (pv 13) pa_nil))) pa_nil)) pe_int) pa_nil)) (nomark _)) (pss_one (ps_ret pe_bl)) pss_nil))))))
    (C8.pss_cut (ps_if (pt_cmpR op_ne (pe_ix (r := rIxT K) ix_tup (pv 4) pe_int (fun _ _ => rfl)) pe_str (nomark _)) (pss_cons (ps_set (i := 15) scLaw.nd rfl (Or.inl rfl) (pe_ifExp (pt_cmpR op_eq (pe_ix (r := rIxT K) ix_tup (pv 4) pe_int (fun _ _ => rfl)) pe_str (nomark _)) pe_str pe_str))
    (pss_one (ps_if (PW.pt (pw_or (pt_cmpR (OwR.op_ownEq hu0 R.eqQ hr1 pass0) (pe_call (G_quota 6) hr13 (by rfl) g_quota F_quota.kp b_quota .nil passL (pa_cons (pe_tup (pa_cons (pv 15) (pa_cons (pe_ix (r := rIxT K) ix_tup (pv 4) pe_int (fun _ _ => rfl)) (pa_cons (pe_ix (r := rIxT K) ix_tup (pv 4) pe_int (fun _ _ => rfl)) pa_nil)))) pa_nil)) (pv 5) (nomark _)) (pw_or1 (pt_not (pt_cmpR (OwR.op_ownNe hu1 R.eqQ hr2 pass0) (pv 5) (pe_call (G_signed 6) hr13 (by rfl) g_signed F_signed.kp b_signed .nil passL (pa_cons (pe_tup (pa_cons (pv 15) (pa_cons (pe_ix (r := rIxT K) ix_tup (pv 4) pe_int (fun _ _ => rfl)) (pa_cons (pe_ix (r := rIxT K) ix_tup (pv 4) pe_int (fun _ _ => rfl)) pa_nil)))) pa_nil)) (nomark _)))))) (pss_one (ps_ret pe_bl)) pss_nil))) pss_nil)
    (pss_one (ps_if (PW.pt (pw_or (pt_not (pt_val (OwR.pe_callG G_refused spRF_len hgd hr9 (by rfl) g_refused kp_refused b_refused pass0 (pa_cons (pv 1) pa_nil)))) (pw_or (pt_cmpR (OwR.op_ownEqXK (K := K) rfl hu0 R.eqO hr1 pass0) (pv 5) (pe_callTy (OwR.call_strO hu2 R.str hr3 pass0) (by rfl) n_str (by decide +kernel) (pa_cons (pv 5) pa_nil)) (nomark _)) (pw_or1 (pt_cmpR (OwR.op_ownEqXK (K := K) rfl hu0 R.eqO hr1 pass0) (pv 5) pe_non (nomark _)))))) (pss_one (ps_ret pe_bl)) pss_nil)))))))))))))
    (pss_one (ps_ret (pe_and (pe_cmpR op_eq (pe_callB (OwR.call_lenO R.len hr2 pass0) (by rfl) R.chk.T.n_len boot_len (pa_cons (pe_call G_row hr7 (by rfl) g_row F_row.kp b_row .nil passL (pa_cons pe_int pa_nil)) pa_nil)) pe_int (nomark _)) (pe_one (pe_cmpR (op_eqD hr11.units) (OwE.pe_lamT (T := T) (k := 8) (q := qLaw) (by rfl) F_heard g_heard b_heard scH rfl (Or.inl rfl) qLaw_eq (fun cdv => heard_gives hgd hr3 ear) TB rfl memT oneT hr10 (LamX.lamS_by (sc := defScope sLaw) (by decide +kernel)) (fun A outer s H E f c2 hr => (pe_op (OwR.op_own2K (K := K) rfl R.or_ (hr.mono (show 6 ≤ 8 by decide)) (passes_call (takes_of rfl rfl rfl rfl) (fun _ _ _ _ h => h))) (pe_call G_row (hr.mono (show 7 ≤ 8 by decide)) (by rfl) g_row F_row.kp b_row .nil (passes_call (takes_of rfl rfl rfl rfl) (fun _ _ _ _ h => h)) (pa_cons pe_int pa_nil)) (StX.pe_makeR R.mkC R.GC (hr.mono (show 5 ≤ 8 by decide)) (by rfl) R.gC (passes_call (takes_of rfl rfl rfl rfl) (fun _ _ _ _ h => h)) (pa_cons pe_int pa_nil))))) (pe_tup (pa_cons pe_str (pa_cons pe_int pa_nil))) (nomark _)))))))), ?_⟩
    have szl : ∀ n : Nat, n ≤ 30 → n ≤ sizeLine := fun n h => Nat.le_trans h (by decide +kernel)
    have sz := sizeLine_eq
    have big : ∀ i : Int, 0 ≤ i → i ≤ 100 → i.natAbs < 2 ^ 1000 := fun i h0 h1 => Nat.lt_of_le_of_lt (show i.natAbs ≤ 100 by omega) (by decide +kernel)
    refine ⟨_, rfl, x, ns, rfl, hx, hl, fun p c H1 hp0 s1 pn1 => ?_⟩
    have tb1 := tabs_same hT s1
    refine ⟨4, rfl, by decide, by decide, ?_⟩
    refine for_it walk_range (fun i σ Hx => (∃ x2 x3 x4 x5 x6 x7 x8 x9 x10 x11 x12 x13 x14 x15, σ = [some (.ref x), some (.ref p), x2, x3, x4, x5, x6, x7, x8, x9, x10, x11, x12, x13, x14, x15]) ∧ LamX.Tabs T Hx ∧ ∃ (n : Nat) (z0 : Int), PenAt Hx p c ns n z0 ∧ n ≤ 200 * i)
      ⟨⟨_, _, _, _, _, _, _, _, _, _, _, _, _, _, rfl⟩, tb1, 0, 0, pn1, Nat.le_refl 0⟩ (fun _ _ _ _ _ => True.intro) (fun i y0 σ Hx Hy hi q0 y => ?_) (fun σ Hx q0 => ?_)
    · obtain ⟨⟨x2, x3, x4, x5, x6, x7, x8, x9, x10, x11, x12, x13, x14, x15, rfl⟩, tb2, n0, z0, pn2, ln0⟩ := q0
      obtain ⟨rfl, ey⟩ := y
      have hi4 : i < 4 := hi
      -- the names
      refine ⟨_, rfl, p, c, ns, n0, z0, 3, rfl, pn2, by omega, by decide, by decide, fun nl xs n1 z1 H2 fnl nnl enl ndx gx x1 lx hn1 hp1 t1 => ?_⟩
      have tb3 := tabs_but tb2 pn2 t1
      -- the tree
      refine ⟨_, rfl, _, rfl, _, rfl, p, c, ns, n1, z1, 6, rfl, hp1, by omega, by decide, big 6 (by decide) (by decide), fun m n2 z2 H3 m0 m1 hn2 hp2 t2 => ?_⟩
      obtain ⟨mk, rfl⟩ := Int.eq_ofNat_of_zero_le m0
      have em : (1 : Int) + (mk : Int) = ((1 + mk : Nat) : Int) := by omega
      refine ⟨1, (mk : Int), rfl, rfl, p, c, ns, n2, z2, nl, xs, 1 + mk, 12, congrArg (fun i => [V.ref p, .ref nl, V.int i, .int 12]) em, hp2, by omega, t2 _ _ nnl enl, ndx, lx, by omega, (by show 1 + mk ≤ 6; omega), by omega, by decide, by decide, fun tb t n3 z3 H4 tr ct gt hn3 hp3 t3 => ?_⟩
      have tb4 := tabs_but (tabs_but tb3 hp1 t2) hp2 t3
      have enl4 := t3 _ _ nnl (t2 _ _ nnl enl)
      have gd := good_drawn gt lx gx
      have lt6 : t.caps.length ≤ 6 := by omega
      clear tb3 tb2 pn2 enl hp1 hp2 t1 t2 t3 fnl em
      -- two quotas
      refine ⟨_, rfl, tb, t, rfl, tr, lt6, by omega, gd, fun q1 t1 H5 _ s5 so qa => ?_⟩
      refine ⟨_, rfl, tb, t, rfl, tr.same s5, lt6, by omega, gd, fun q2 t2 H6 _ s6 so2 qb => ⟨_, _, rfl, ?_⟩⟩
      obtain rfl := sort_one so so2 gd
      have st : LS a T p c ns nl xs tb t t1 q1 q2 n3 z3 H6 := ⟨(hp3.same s5).same s6, tabs_same (tabs_same tb4 s5) s6, s6 _ _ (s5 _ _ enl4), nnl, (tr.same s5).same s6, qa.same s6, qb⟩
      clear tb4 enl4 hp3 tr s5 s6 so2 qa qb
      have g1 := sort_good so gd
      have l1 : t1.caps.length ≤ 6 := by rw [so.caps.1]; exact lt6
      -- another tree
      refine ⟨_, rfl, tb, t, rfl, st.tr, fun ob H7 s7 tro => ?_⟩
      have st := st.same s7
      obtain ⟨lo6, go⟩ := turn_ok lt6 gd
      refine ⟨fun σ' H' => ∃ (ob : Addr) (to : QT) (n4 : Nat) (z4 : Int), σ' = [some (.ref x), some (.ref p), some y0, some (.ref nl), some (.ref tb), some (.ref q1), some (.ref q2), some (.ref ob), x8, x9, x10, x11, x12, x13, x14, x15] ∧ LS a T p c ns nl xs tb t t1 q1 q2 n4 z4 H' ∧ n4 ≤ n3 + 20 ∧ TreeAt H' to ob ∧ to.caps.length ≤ 6 ∧ ∀ c ∈ to.caps, GoodC c, ?_, fun σ' H8 q8 => ?_⟩
      · refine ⟨_, rfl, p, c, ns, n3, z3, 2, rfl, st.pen, by omega, by decide, big 2 (by decide) (by decide), fun d n4 z4 H8 d0 d1 hn4 hp4 t8 => ⟨rfl, _, rfl, ?_⟩⟩
        have st8 := st.but t8 hp4
        have tro8 := tro.but st.pen t8
        refine ite2 (fun _ => ?_) (fun _ => ?_)
        · refine ⟨_, rfl, _, rfl, _, rfl, p, c, ns, n4, z4, 3, rfl, hp4, by omega, by decide, big 3 (by decide) (by decide), fun m n5 z5 H9 m0 m1 hn5 hp5 t9 => ?_⟩
          obtain ⟨mk, rfl⟩ := Int.eq_ofNat_of_zero_le m0
          have em : (1 : Int) + (mk : Int) = ((1 + mk : Nat) : Int) := by omega
          have st9 := st8.but t9 hp5
          refine ⟨1, (mk : Int), rfl, rfl, p, c, ns, n5, z5, nl, xs, 1 + mk, 12, congrArg (fun i => [V.ref p, .ref nl, V.int i, .int 12]) em, hp5, by omega, st9.enl, ndx, lx, by omega, (by show 1 + mk ≤ 6; omega), by omega, by decide, by decide, fun ob2 to n6 z6 H10 tr2 ct2 gt2 hn6 hp6 t10 => ?_⟩
          exact ⟨ob2, to, n6, z6, rfl, st9.but t10 hp6, by omega, tr2, by omega, good_drawn gt2 lx gx⟩
        · exact ⟨ob, turnT t, n4, z4, rfl, st8, by omega, tro8, lo6, go⟩
      obtain ⟨ob, to, n4, z4, rfl, st, hn4, tro, lo6, go⟩ := q8
      -- told right, both
      refine ⟨_, rfl, _, rfl, szl 2 (by decide), fun M hM => ?_⟩
      have wM := Same.of_new (o := .lst [.ref q1, .ref q2]) hM
      have eM : upd H8 M (.lst [.ref q1, .ref q2]) M = some (.lst [.ref q1, .ref q2]) := upd_same
      have st := st.same wM
      have tro := tro.same wM
      generalize upd H8 M _ = HM at eM st tro ⊢
      refine ⟨M, rfl, ⟨_, SqL.of eM⟩, ?_⟩
      refine for_it (walk_list (xs := [.ref q1, .ref q2])) (fun j σ Hv => (∃ x8, σ = [some (.ref x), some (.ref p), some y0, some (.ref nl), some (.ref tb), some (.ref q1), some (.ref q2), some (.ref ob), x8, x9, x10, x11, x12, x13, x14, x15]) ∧ Same HM Hv) ⟨⟨_, rfl⟩, Same.refl _⟩ (fun j σ Hv _ q => SqL.of (q.2 _ _ eM)) (fun j u0 σ Hv Hw hj q0 y => ?_) (fun σ Hv q0 => ?_)
      · obtain ⟨⟨x8, rfl⟩, sv⟩ := q0
        obtain ⟨rfl, hx⟩ := y
        have stv := st.same sv
        obtain ⟨qq, hq, rfl⟩ : ∃ qq, QTr a Hw t1 qq ∧ u0 = .ref qq := by
          match j, hx with
          | 0, hx => cases hx; exact ⟨_, stv.qa, rfl⟩
          | 1, hx => cases hx; exact ⟨_, stv.qb, rfl⟩
          | n + 2, hx => cases hx
        refine ⟨_, rfl, _, rfl, _, rfl, qq, tb, nl, t, t1, xs, rfl, hq, stv.tr, so, lt6, by omega, fun c hc => ⟨gd c hc, (gt c hc).2.2.2.1⟩, stv.enl, ndx, gx, lx, fun H' s' => ?_⟩
        exact ⟨true, rfl, iteF ⟨⟨_, rfl⟩, sv.trans s'⟩⟩
      obtain ⟨⟨x8, rfl⟩, sv⟩ := q0
      have st := st.same sv
      have tro := tro.same sv
      clear wM eM hM
      -- the sorted trees
      refine ⟨_, rfl, tb, t, rfl, st.tr, lt6, gd, fun a1 t2 H9 s9 so9 d1 => ?_⟩
      obtain rfl := sort_one so so9 gd
      refine ⟨_, rfl, ob, to, rfl, tro.same s9, lo6, go, fun a2 o1 H10 s10 so10 d2 => ?_⟩
      have g2 := sort_good so10 go
      have l2 : o1.caps.length ≤ 6 := by rw [so10.caps.1]; exact lo6
      refine ⟨dataT t1, dataT o1, (d1.same s10).dp, d2.dp, data_shaped (fun c hc => (g1 c hc).2.2) (by omega), data_shaped (fun c hc => (g2 c hc).2.2) (by omega), ?_⟩
      rw [← text_data g1 g2]
      have st := (st.same s9).same s10
      have tro := (tro.same s9).same s10
      clear s9 s10 d1 d2 so9 sv
      obtain ⟨bb, ebb⟩ : ∃ bb, decide (t1.text = o1.text) = bb := ⟨_, rfl⟩
      rw [ebb]
      -- the two quotas, the other
      refine ⟨_, rfl, _, rfl, ne_two R st.qa st.qb ?_⟩
      rw [decide_eq_true rfl]
      refine ⟨_, rfl, iteF ?_⟩
      refine ⟨_, rfl, _, rfl, ob, to, rfl, tro, lo6, by omega, go, fun qo o2 H11 _ s11 so11 qc => ?_⟩
      obtain rfl := sort_one so10 so11 go
      have st := st.same s11
      refine eq_two R st.qa qc ?_
      rw [ebb]
      refine ⟨_, _, rfl, .bl bb, _, rfl, _, _, rfl, .bl bb, rfl, _, rfl, ?_⟩
      rw [decide_eq_true rfl]
      refine iteF ?_
      clear tro s11 so10 so11 qc g2 l2 ebb go
      -- six tables
      refine ⟨6, rfl, by decide, by decide, ?_⟩
      refine for_it walk_range (fun j σ Hv => ∃ (x10 x11 x12 x13 x14 : Option V) (n5 : Nat) (z5 : Int), σ = [some (.ref x), some (.ref p), some y0, some (.ref nl), some (.ref tb), some (.ref q1), some (.ref q2), some (.ref ob), x8, some (.bl bb), x10, x11, x12, x13, x14, x15] ∧ LS a T p c ns nl xs tb t t1 q1 q2 n5 z5 Hv ∧ n5 ≤ n4 + 6 * j) ⟨_, _, _, _, _, _, _, rfl, st, Nat.le_refl _⟩ (fun _ _ _ _ _ => True.intro) (fun j u0 σ Hv Hw hj q0 y => ?_) (fun σ Hv q0 => ?_)
      · obtain ⟨x10, x11, x12, x13, x14, n5, z5, rfl, st, hn5⟩ := q0
        obtain ⟨rfl, ey2⟩ := y
        have hj6 : j < 6 := hj
        -- who is told
        refine ⟨_, rfl, nl, rfl, ⟨_, SqL.of st.enl⟩, fun L hL => ?_⟩
        have nL : L ≠ p := fun e => st.pen.some (e ▸ hL)
        have ncL : c ≠ L := ne_of_none st.pen.cells hL
        have sL := Same.of_new (o := .lst []) hL
        refine lc_it (walk_list (xs := xs.map V.str)) (fun i Hx => ∃ (ks : List Str) (n' : Nat) (z' : Int), Hx L = some (.lst (ks.map V.str)) ∧ ks.Sublist (xs.take i) ∧ PenAt Hx p c ns n' z' ∧ n' ≤ n5 + i ∧ But p Hw Hx) ⟨[], n5, z5, upd_same, List.nil_sublist _, st.pen.same sL, by omega, Same.but p sL⟩ (fun i Hx _ q => by
          obtain ⟨_, _, _, _, _, _, _, bt⟩ := q
          exact SqL.of (bt _ _ st.nnl st.enl)) (fun i u1 Hx Hy hi q0 y => ?_) (fun Hx q0 => ?_)
        · obtain ⟨ks, n', z', eL, sub, pn, ln, bt⟩ := q0
          obtain ⟨rfl, hx⟩ := y
          rw [List.getElem?_map] at hx
          obtain ⟨nm, hnm, rfl⟩ := Option.map_eq_some_iff.mp hx
          rw [List.length_map] at hi
          have tk : xs.take (i + 1) = xs.take i ++ [nm] := by
            rw [List.take_add_one, hnm]
            rfl
          have lk : ks.length ≤ 3 := by
            have := sub.length_le
            rw [List.length_take] at this
            omega
          refine ⟨rfl, ?_⟩
          refine ⟨_, rfl, p, c, ns, n', z', 4, rfl, pn, by omega, by decide, big 4 (by decide) (by decide), fun d n2 z2 H2 d0 d1 hn2 hp2 s2 => ?_⟩
          have eL2 := s2 _ _ nL eL
          refine ⟨_, _, rfl, rfl, _, rfl, ?_⟩
          refine ite2 (fun c2 => ?_) (fun c2 => ?_)
          · refine ⟨_, rfl, _, eL2, by rw [List.length_map]; omega, ks ++ [nm], n2, z2, ?_, ?_, hp2.put (Ne.symm nL) ncL, by omega, fun b o nb e => ?_⟩
            · rw [List.map_append]
              exact upd_same
            · rw [tk]
              exact sub.append (List.Sublist.refl _)
            · rw [upd_ne (ne_of_none e hL)]
              exact s2 b o nb (bt b o nb e)
          · exact ⟨ks, n2, z2, eL2, by rw [tk]; exact sub.trans (List.sublist_append_left _ _), hp2, by omega, bt.trans s2⟩
        obtain ⟨ks, n6, z6, eL, sub, pn6, ln6, bt⟩ := q0
        rw [List.length_map] at sub ln6
        rw [List.take_length] at sub
        have st6 := st.but bt pn6
        have ndk : ks.Nodup := ndx.sublist sub
        have lk : ks.length ≤ 3 := Nat.le_trans sub.length_le lx
        -- the table
        refine ⟨_, rfl, L, rfl, ⟨_, SqL.of eL⟩, fun R2 hR => ?_⟩
        have nR : R2 ≠ p := fun e => pn6.some (e ▸ hR)
        have nRc : c ≠ R2 := ne_of_none pn6.cells hR
        refine lc_it (walk_list (xs := ks.map V.str)) (fun i Hz => But p Hx Hz ∧ ∃ (n2 : Nat) (z2 : Int) (kz : List Addr) (pz : List Pk), PenAt Hz p c ns n2 z2 ∧ n2 ≤ n6 + i ∧ Hz R2 = some (.lst (kz.map V.ref)) ∧ kz.length ≤ i ∧ PicksAt Hz kz pz ∧ pz.map (·.1) = ks.take i)
          ⟨But.new hR, n6, z6, [], [], pn6.same (Same.of_new hR), by omega, upd_same, Nat.le_refl 0, PicksAt.nil, rfl⟩ (fun i Hz _ q => SqL.of (q.1 _ _ nL eL)) (fun i u1 Hz Hv hi q0 y => ?_) (fun Hz q0 => ?_)
        · obtain ⟨sC, n2, z2, kz, pz, pn2, ln2, eR, lk2, pk2, ek⟩ := q0
          obtain ⟨rfl, hx⟩ := y
          rw [List.length_map] at hi
          rw [List.getElem?_map] at hx
          obtain ⟨bq, hbq, rfl⟩ := Option.map_eq_some_iff.mp hx
          refine ⟨rfl, ?_⟩
          refine ⟨_, rfl, _, rfl, p, c, ns, n2, z2, 14, rfl, pn2, by omega, by decide, big 14 (by decide) (by decide), fun mq n3 z3 H11 m0 m1 hn3 hp3 t5 => ?_⟩
          refine ⟨szl 2 (by decide), fun T1 hT1 => ?_⟩
          have eR3 := t5 R2 _ nR eR
          refine ⟨_, upd_keep2 eR3 hT1, by rw [List.length_map]; omega, ?_, n3, z3, kz ++ [T1], pz ++ [(bq, mq)], ?_, by omega, ?_, ?_, ?_, ?_⟩
          · intro b o nb e
            rw [upd_ne (ne_of_none e hR)]
            exact upd_keep2 (t5 b o nb (sC b o nb e)) hT1
          · exact (hp3.same (Same.of_new hT1)).put (Ne.symm nR) nRc
          · rw [List.map_append]
            exact upd_same
          · rw [List.length_append]
            show kz.length + 1 ≤ i + 1
            omega
          · have p1 : PicksAt (upd H11 T1 (.tup [.str bq, .int mq])) kz pz := (pk2.lo pn2 t5.lo).same (Same.of_new hT1)
            have p2 := p1.snoc (k := T1) (p := (bq, mq)) upd_same
            exact p2.upd fun xs e => by
              rw [upd_keep2 eR3 hT1] at e
              cases e
          · rw [List.map_append, ek, List.take_add_one, hbq]
            rfl
        obtain ⟨sC, n7, z7, kz, pz, pn7, ln7, eR, lk2, pk2, ek⟩ := q0
        rw [List.length_map, List.take_length] at ek
        rw [List.length_map] at ln7
        have en : (pz.map (·.1)).Nodup := ek ▸ ndk
        refine ⟨R2, kz, tabL pz, rfl, SqL.of eR, pk2.paired, fun d hd => ?_⟩
        rw [merge_tab en]
        have st7 := (st6.but sC pn7).same (Same.of_new (o := .dK (tabL pz)) hd)
        have eD : upd Hz d (.dK (tabL pz)) d = some (.dK (tabL pz)) := upd_same
        have tb7 := tabOf_list pz
        generalize upd Hz d _ = HD at st7 eD ⊢
        obtain ⟨b7, eb7⟩ : ∃ b7, t1.lets (lookL pz) = b7 := ⟨_, rfl⟩
        have eb8 : t.lets (lookL pz) = b7 := by rw [← sort_lets (lookL pz) so, eb7]
        -- what is let
        refine ⟨_, rfl, _, rfl, in_quota R st7.qa eD tb7 g1 (by omega) fun H8 s8 => ⟨_, rfl, _, rfl, in_quota R (st7.qb.same s8) (s8 _ _ eD) tb7 g1 (by omega) fun H9 s9 => ⟨szl 2 (by decide), fun M1 hM1 => ?_⟩⟩⟩
        rw [eb7]
        have s89 := s8.trans (s9.trans (Same.of_new (o := .lst [.bl b7, .bl b7]) hM1))
        have eM1 : upd H9 M1 (.lst [.bl b7, .bl b7]) M1 = some (.lst (([b7, b7]).map V.bl)) := upd_same
        generalize upd H9 M1 _ = HM at eM1 s89 ⊢
        have st8 := st7.same s89
        have eD8 := s89 _ _ eD
        refine ⟨_, rfl, _, _, rfl, rep_bools (by show (2 : Nat) ≤ 10; decide) eM1, ?_⟩
        refine ⟨_, rfl, _, rfl, tb, d, t, tabL pz, lookL pz, rfl, st8.tr, lt6, eD8, tb7, fun c hc => Nat.le_trans (gd c hc).1.2.2.1 (by decide), fun H10 s10 => ⟨szl 1 (by decide), fun M2 hM2 => ?_⟩⟩
        rw [eb8]
        refine ⟨M2, 2, _, rfl, rfl, upd_same, by decide, by decide, by show 1 * 2 ≤ sizeLine; omega, fun M3 hM3 => ?_⟩
        have eM3 : upd (upd H10 M2 (.lst [.bl b7])) M3 (.lst [.bl b7, .bl b7]) M3 = some (.lst (([b7, b7]).map V.bl)) := upd_same
        refine ⟨_, _, rfl, rep_bools (by show (2 : Nat) ≤ 10; decide) eM3, rfl, _, rfl, ?_⟩
        rw [decide_eq_true rfl]
        exact iteF ⟨_, _, _, _, _, n7, z7, rfl, st8.same ((s10.trans (Same.of_new hM2)).trans (Same.of_new hM3)), by omega⟩
      obtain ⟨x10, x11, x12, x13, x14, n5, z5, rfl, st, hn5⟩ := q0
      have hn5 : n5 ≤ n4 + 36 := hn5
      -- the other word
      refine ⟨fun σ' H' => ∃ x15, σ' = [some (.ref x), some (.ref p), some y0, some (.ref nl), some (.ref tb), some (.ref q1), some (.ref q2), some (.ref ob), x8, some (.bl bb), x10, x11, x12, x13, x14, x15] ∧ LS a T p c ns nl xs tb t t1 q1 q2 n5 z5 H', ?_, fun σ' H8 q8 => ?_⟩
      · obtain ⟨k1, k2, k3⟩ := wordT_is t
        obtain ⟨bx, bz, ebh⟩ := st.tr.head
        refine ⟨_, rfl, tb, _, 0, _, rfl, rfl, SqT.of ebh, atI_nat (j := 0) rfl, rfl, _, rfl, ?_⟩
        rw [k1]
        clear k1 k2 k3 ebh bx bz
        rcases t with ⟨mc, kc⟩ | ⟨u, v⟩ | ⟨u, v⟩
        · exact iteF ⟨_, rfl, st⟩
        · obtain ⟨l, r, eb, hl, hr⟩ := st.tr
          refine iteT ?_
          refine ⟨_, rfl, tb, _, 0, _, rfl, rfl, SqT.of eb, atI_nat (j := 0) rfl, rfl, _, rfl, ?_⟩
          refine ite2 (fun _ => ?_) (fun c => absurd (decide_eq_true rfl) c)
          refine ⟨_, rfl, _, rfl, tb, _, 1, _, rfl, rfl, SqT.of eb, atI_nat (j := 1) rfl, _, rfl, tb, _, 2, _, rfl, rfl, SqT.of eb, atI_nat (j := 2) rfl, szl 3 (by decide), fun T1 hT1 => ?_⟩
          have sT := Same.of_new (o := .tup [.str "either", .ref l, .ref r]) hT1
          refine ⟨T1, .either u v, rfl, ⟨l, r, upd_same, hl.same sT, hr.same sT⟩, lt6, Nat.le_trans lt6 (by decide), gd, fun qs s1 H9 _ s9 so9 qs9 => ?_⟩
          have ne9 : s1 ≠ t1 := swap_ne (t := .both u v) rfl so9 so
          have st := st.same (sT.trans s9)
          refine ⟨_, rfl, eq_two R qs9 st.qa ?_⟩
          rw [text_ne (sort_good so9 gd) g1 ne9]
          refine ⟨_, rfl, iteF ?_⟩
          have eb9 := (sT.trans s9) _ _ eb
          refine ⟨_, rfl, _, rfl, _, rfl, tb, _, 1, _, rfl, rfl, SqT.of eb9, atI_nat (j := 1) rfl, _, rfl, tb, _, 2, _, rfl, rfl, SqT.of eb9, atI_nat (j := 2) rfl, szl 3 (by decide), fun T2 hT2 => ?_⟩
          have sT2 := Same.of_new (o := .tup [.str "either", .ref l, .ref r]) hT2
          have w9 := (sT.trans s9).trans sT2
          refine ⟨T2, .either u v, rfl, ⟨l, r, upd_same, hl.same w9, hr.same w9⟩, lt6, Nat.le_trans lt6 (by decide), gd, fun qs2 s2 H10 _ s10 so10 qs10 => ?_⟩
          have ne10 : s2 ≠ t1 := swap_ne (t := .both u v) rfl so10 so
          have st := st.same (sT2.trans s10)
          refine ne_two R st.qa qs10 ?_
          rw [text_ne g1 (sort_good so10 gd) (Ne.symm ne10)]
          exact ⟨_, rfl, iteF ⟨_, rfl, st⟩⟩
        · obtain ⟨l, r, eb, hl, hr⟩ := st.tr
          refine iteT ?_
          refine ⟨_, rfl, tb, _, 0, _, rfl, rfl, SqT.of eb, atI_nat (j := 0) rfl, rfl, _, rfl, ?_⟩
          refine ite2 (fun c => absurd c (by decide +kernel)) (fun _ => ?_)
          refine ⟨_, rfl, _, rfl, tb, _, 1, _, rfl, rfl, SqT.of eb, atI_nat (j := 1) rfl, _, rfl, tb, _, 2, _, rfl, rfl, SqT.of eb, atI_nat (j := 2) rfl, szl 3 (by decide), fun T1 hT1 => ?_⟩
          have sT := Same.of_new (o := .tup [.str "both", .ref l, .ref r]) hT1
          refine ⟨T1, .both u v, rfl, ⟨l, r, upd_same, hl.same sT, hr.same sT⟩, lt6, Nat.le_trans lt6 (by decide), gd, fun qs s1 H9 _ s9 so9 qs9 => ?_⟩
          have ne9 : s1 ≠ t1 := swap_ne (t := .either u v) rfl so9 so
          have st := st.same (sT.trans s9)
          refine ⟨_, rfl, eq_two R qs9 st.qa ?_⟩
          rw [text_ne (sort_good so9 gd) g1 ne9]
          refine ⟨_, rfl, iteF ?_⟩
          have eb9 := (sT.trans s9) _ _ eb
          refine ⟨_, rfl, _, rfl, _, rfl, tb, _, 1, _, rfl, rfl, SqT.of eb9, atI_nat (j := 1) rfl, _, rfl, tb, _, 2, _, rfl, rfl, SqT.of eb9, atI_nat (j := 2) rfl, szl 3 (by decide), fun T2 hT2 => ?_⟩
          have sT2 := Same.of_new (o := .tup [.str "both", .ref l, .ref r]) hT2
          have w9 := (sT.trans s9).trans sT2
          refine ⟨T2, .both u v, rfl, ⟨l, r, upd_same, hl.same w9, hr.same w9⟩, lt6, Nat.le_trans lt6 (by decide), gd, fun qs2 s2 H10 _ s10 so10 qs10 => ?_⟩
          have ne10 : s2 ≠ t1 := swap_ne (t := .either u v) rfl so10 so
          have st := st.same (sT2.trans s10)
          refine ne_two R st.qa qs10 ?_
          rw [text_ne g1 (sort_good so10 gd) (Ne.symm ne10)]
          exact ⟨_, rfl, iteF ⟨_, rfl, st⟩⟩
      obtain ⟨x15, rfl, st⟩ := q8
      -- what cannot be joined
      refine ⟨_, rfl, p, c, ns, n5, z5, rfl, st.pen, by omega, st.tabs, fun n6 z6 H9 hn6 hp6 l9 tb9 => ?_⟩
      have qa9 := st.qa.lo st.pen l9
      have tl1 := text_len t1 fun c hc => (g1 c hc).1
      obtain ⟨dx, fs, ex⟩ := qa9.ins
      have mem := clsT_mem a t1
      refine ⟨_, rfl, iteF ?_⟩
      refine ⟨_, rfl, _, rfl, q1, _, dx, fs, rfl, ex, (R.one _ mem).st, q1, t1, rfl, qa9.anyQ R, by omega, _, rfl, ?_⟩
      refine eq_odd R qa9 (.base (.str _)) (St.str _ mem) (Ty.no "str" (by decide)) ?_
      refine ⟨_, rfl, iteF ?_⟩
      refine ⟨_, rfl, eq_odd R qa9 (.base .non) (St.non _ mem) (Ty.no "NoneType" (by decide)) ?_⟩
      exact ⟨_, rfl, iteF ⟨⟨_, _, _, _, _, _, _, _, _, _, _, _, _, _, rfl⟩, tb9, n6, z6, hp6, by omega⟩⟩
    · obtain ⟨⟨x2, x3, x4, x5, x6, x7, x8, x9, x10, x11, x12, x13, x14, x15, rfl⟩, tb2, n0, z0, pn2, ln0⟩ := q0
      clear pn2 ln0 tb1 s1 pn1 hx
      -- twenty caps
      refine ⟨20, rfl, by decide, by decide, fun ql H2 s2 tl => ?_⟩
      have c20 : (rowT 19).caps.length = 20 := row_caps 19
      have tl : QTr a H2 (rowT 19) ql := tl
      obtain ⟨dx, fs, cp, jp, kp, cks, zs, ez, _, ec, hcp, hck, _⟩ := tl.qat
      have mem := clsT_mem a (rowT 19)
      have len : (cks.map V.ref).length = 20 := by rw [List.length_map, hck.len, c20]
      refine ⟨ql, _, dx, fs, rfl, ez, (R.one _ mem).ln, _, (R.one _ mem).qk, ql, dx, cp, fs, _, rfl, ez, ec, SqT.of hcp, (20 : Int), by rw [len]; rfl, by decide, by omega, rfl, _, rfl, ?_⟩
      rw [decide_eq_true rfl]
      refine iteT ?_
      -- one more is too many
      refine ⟨tabs_same tb2 s2, fun H8 eN tb8 H9 E' Q' s89 hE hQ => ?_⟩
      clear tl ez ec hcp hck
      refine ⟨20, rfl, by decide, by decide, fun ql2 H10 s10 tl2 => ?_⟩
      have tl2 : QTr a H10 (rowT 19) ql2 := tl2
      refine fun zq dz k1 k2 nd => cap_none rfl (by decide) (by decide) k1 k2 fun H11 s11 c11 => ⟨rfl, ?_⟩
      have tc : QTr a H11 (.cap 0 []) zq := c11
      have tl3 := tl2.same s11
      obtain ⟨dx, fs, ex⟩ := tl3.ins
      obtain ⟨dy, gs, ey⟩ := tc.ins
      have mA := clsT_mem a (rowT 19)
      have mB := clsT_mem a (.cap 0 [])
      refine ⟨ql2, zq, _, _, dx, dy, fs, gs, rfl, rfl, ex, ey, ⟨(R.one _ mA).or_, (R.two _ mA _ mB).bin.imp id fun h => ⟨⟨_, (R.one _ mB).or_⟩, h⟩⟩, .ref ql2, .ref zq, rfl, ?_⟩
      have k2 : ((rowT 19).kinds ++ (QT.cap 0 []).kinds).length < 64 := by
        rw [List.length_append, row_kinds]
        show 20 + 0 < 64
        decide
      refine join_over R tl3 tc (row_good _) (fun c hc => ?_) k2 (by rw [c20]; decide) (by show 1 ≤ 20; decide) (by rw [c20]; show 20 < 20 + 1; decide) (Same.refl _) hE fun x5 H12 s12 e5 => ?_
      · rw [List.mem_singleton.mp hc]
        exact ⟨⟨by decide, by decide, by decide, fun z hz => by cases hz⟩, List.nodup_nil, fun z hz => by cases hz⟩
      refine ⟨szl 2 (by decide), fun T1 hT1 => ?_⟩
      have w1 := Same.of_new (o := .tup [.str "caps", .int 20]) hT1
      refine ⟨capsD, capsD, caps_dp (w1 _ _ e5), caps_dp upd_same, capsD_ok.1, capsD_ok.1, ?_⟩
      rw [capsD_ok.2]
      exact q _
end
end K10
end
section
/-! What the end of the top says of the quotas' classes. Own. -/
namespace OwH
open PySem PySem.Spec PyProof.Rows L2
def hasF (K : PySem.W.Frag) (C : Value) (m : Str) (f : Addr) : Bool := He.eqO (PySem.W.findIn K C m) (some (some (.ref f))) && PySem.W.isFn K (.ref f)
theorem hasF_ok {K : PySem.W.Frag} {C : Value} {m : Str} {f : Addr} (h : hasF K C m f = true) : PySem.W.findIn K C m = some (some (.ref f)) ∧ PySem.W.isFn K (.ref f) = true := ⟨He.eqO_ok (two h).1, (two h).2⟩
def noneOrRef : Option (Option Value) → Bool
  | some none => true
  | some (some (.ref _)) => true
  | _ => false
theorem noneOrRef_ok {x : Option (Option Value)} (h : noneOrRef x = true) : ∃ rc, x = some rc ∧ (rc = none ∨ ∃ g : Addr, rc = some (.ref g)) := by
  match x, h with
  | some none, _ => exact ⟨none, rfl, .inl rfl⟩
  | some (some (.ref g)), _ => exact ⟨_, rfl, .inr ⟨g, rfl⟩⟩
def fBin (op : Operator) (K : PySem.W.Frag) (C f : Addr) : Bool := PySem.W.selfFirst K C && (hasF K (.ref C) (PySem.dunder op.info.2) f && noneOrRef (PySem.W.findIn K (.ref C) (dunderR op.info.2)))
theorem fBin_ok {op : Operator} {K : PySem.W.Frag} {C f : Addr} (h : fBin op K C f = true) : OwR.Bin1 K op C f :=
  ⟨(two h).1, (hasF_ok (two (two h).2).1).1, (hasF_ok (two (two h).2).1).2, noneOrRef_ok (two (two h).2).2⟩
def fBinT (op : Operator) (K : PySem.W.Frag) (C : Addr) (T : String) : Bool := (PySem.W.findIn K (.type T) (PySem.dunder op.info.2)).isSome && ((PySem.W.findIn K (.type T) (dunderR op.info.2)).isSome && decide (PySem.W.subIn K (.type T) (.ref C) = some false))
theorem fBinT_ok {op : Operator} {K : PySem.W.Frag} {C : Addr} {T : String} (h : fBinT op K C T = true) : OwR.BinT K op C T :=
  ⟨Option.isSome_iff_exists.mp (two h).1, Option.isSome_iff_exists.mp (two (two h).2).1, of_decide_eq_true (two (two h).2).2⟩
def fPropAt (K : PySem.W.Frag) (C : Addr) (m : Str) (p : Addr) : Bool := He.eqO (PySem.W.findIn K (.ref C) m) (some (some (.ref p))) && (He.eqO (PySem.W.specialIn K (.ref p) "__get__") (some (some (.builtin "property.__get__"))) && (decide (PySem.W.takesIn K (.ref p) = some true) && recOk K p "property"))
theorem propAt_ok {K : PySem.W.Frag} {C p : Addr} {m : Str} (h : fPropAt K C m p = true) : PropOf K C m p (inRec K p "property") := ⟨He.eqO_ok (two h).1, He.eqO_ok (two (two h).2).1, of_decide_eq_true (two (two (two h).2).2).1, recOk_ok (two (two (two h).2).2).2⟩
def fMethAt (K : PySem.W.Frag) (C : Addr) (m : Str) (f : Addr) : Bool := hasF K (.ref C) m f && PySem.W.keepIn K (.ref f)
theorem methAt_ok {K : PySem.W.Frag} {C f : Addr} {m : Str} (h : fMethAt K C m f = true) : Meth K C m f := ⟨(hasF_ok (two h).1).1, (hasF_ok (two h).1).2, (two h).2⟩
end OwH
namespace K10
open PySem PySem.Spec PyProof.Rows L2
/-- where the parts of quotas stand, read off the classes -/
def qa (K : PySem.W.Frag) : QAd where
  CQ := OwH.ga K "Quota"
  CC := OwH.ga K "Cap"
  CB := OwH.ga K "Both"
  CE := OwH.ga K "Either"
  CP := OwH.ga K "Pair"
  CN := OwH.ga K "BadName"
  CM := OwH.ga K "BadNumber"
  CU := OwH.ga K "BadQuota"
  CT := OwH.ga K "TooMany"
  fL := OwH.mo K "Cap" "__len__"
  fS := OwH.mo K "Cap" "__str__"
  fA := OwH.mo K "Cap" "__and__"
  fO := OwH.mo K "Cap" "__or__"
  fE := OwH.mo K "Cap" "__eq__"
  pK := OwH.mo K "Cap" "kinds"
  fK := OwH.inRec K (OwH.mo K "Cap" "kinds") "property"
  fBo := OwH.mo K "Cap" "bounds"
  gI := OwH.mo K "Cap" "__contains__"
  fC := OwH.mo K "Cap" "__init__"
  fB0 := OwH.mo K "Both" "__init__"
  fE0 := OwH.mo K "Either" "__init__"
  fQ0 := OwH.mo K "Quota" "__init__"
  fP0 := OwH.mo K "Pair" "__init__"
  p1 := OwH.mo K "Both" "first"
  f1 := OwH.inRec K (OwH.mo K "Both" "first") "property"
  p2 := OwH.mo K "Both" "second"
  f2 := OwH.inRec K (OwH.mo K "Both" "second") "property"
def fQc (x : Str) (K : PySem.W.Frag) : Bool := (He.Fa.cls x).ok K && ((He.Fa.noat x "_text").ok K && ((He.Fa.noat x "_caps").ok K && ((He.Fa.noat x "_joints").ok K && (He.Fa.noat x "_kinds").ok K)))
def fFmt (K : PySem.W.Frag) (C : Addr) : Bool := He.eqO (PySem.W.findIn K (.ref C) "__format__") (some (some (.builtin "object.__format__")))
/-- all that the laws ask of a class of quotas -/
def fQuota (x : Str) (K : PySem.W.Frag) : Bool := fQc x K && (OwH.fIsC x K && (decide (PySem.W.kitOne K (.ref (OwH.ga K x)) (.ref (qa K).CQ) = some true) && (OwH.hasF K (.ref (OwH.ga K x)) "__len__" (qa K).fL && (fFmt K (OwH.ga K x) && (OwH.hasF K (.ref (OwH.ga K x)) "__str__" (qa K).fS &&
  (OwH.hasF K (.ref (OwH.ga K x)) "__eq__" (qa K).fE && (OwH.fNe x K && (OwH.hasF K (.ref (OwH.ga K x)) "__contains__" (qa K).gI && (OwH.fPropAt K (OwH.ga K x) "kinds" (qa K).pK && (OwH.fMethAt K (OwH.ga K x) "bounds" (qa K).fBo &&
  (OwH.fBin .BitAnd K (OwH.ga K x) (qa K).fA && OwH.fBin .BitOr K (OwH.ga K x) (qa K).fO)))))))))))
theorem quota_ok {x : Str} {K : PySem.W.Frag} (h : fQuota x K = true) : QOne K (qa K) (OwH.ga K x) := by
  obtain ⟨a1, h⟩ := OwH.two h
  obtain ⟨a2, h⟩ := OwH.two h
  obtain ⟨a3, h⟩ := OwH.two h
  obtain ⟨a4, h⟩ := OwH.two h
  obtain ⟨a5, h⟩ := OwH.two h
  obtain ⟨a6, h⟩ := OwH.two h
  obtain ⟨a7, h⟩ := OwH.two h
  obtain ⟨a8, h⟩ := OwH.two h
  obtain ⟨a9, h⟩ := OwH.two h
  obtain ⟨b1, h⟩ := OwH.two h
  obtain ⟨b2, h⟩ := OwH.two h
  obtain ⟨b3, b4⟩ := OwH.two h
  obtain ⟨d1, d2⟩ := OwH.two a1
  obtain ⟨d2, d3⟩ := OwH.two d2
  obtain ⟨d3, d4⟩ := OwH.two d3
  obtain ⟨d4, d5⟩ := OwH.two d4
  obtain ⟨e1, e2, e3, e4⟩ := OwH.isC_ok a2
  exact {
    qk := ⟨⟨He.cls_ok d1, He.noat_ok d2, He.noat_ok d3, He.noat_ok d4, He.noat_ok d5⟩, e1, e2, e3, e4, of_decide_eq_true a3⟩
    ln := ⟨(OwH.hasF_ok a4).1, (OwH.hasF_ok a4).2⟩
    fm := ⟨He.eqO_ok a5, e4, (OwH.hasF_ok a6).1, (OwH.hasF_ok a6).2⟩
    st := ⟨(OwH.hasF_ok a6).1, (OwH.hasF_ok a6).2⟩
    eq := ⟨(OwH.hasF_ok a7).1, (OwH.hasF_ok a7).2⟩
    ne := ⟨(OwH.hasF_ok a7).1, (OwH.hasF_ok a7).2, OwH.ne_ok a8, e4⟩
    inn := ⟨(OwH.hasF_ok a9).1, (OwH.hasF_ok a9).2⟩
    pk := OwH.propAt_ok b1
    mb := OwH.methAt_ok b2
    an := OwH.fBin_ok b3
    or_ := OwH.fBin_ok b4 }
def cls3 (K : PySem.W.Frag) : List Addr := [(qa K).CC, (qa K).CB, (qa K).CE]
def fTwo (K : PySem.W.Frag) (C D : Addr) : Bool := (decide (C = D) || (!decide (C = D) && decide (PySem.W.subIn K (.ref D) (.ref C) = some false))) && PySem.W.notFirst K C (.ref D)
theorem two_ok {K : PySem.W.Frag} {C D : Addr} (h : fTwo K C D = true) : QTwo K C D := by
  obtain ⟨h1, h2⟩ := OwH.two h
  refine ⟨?_, h2⟩
  rcases Bool.or_eq_true_iff.mp h1 with e | e
  · exact .inl (of_decide_eq_true e)
  · obtain ⟨e1, e2⟩ := OwH.two e
    exact .inr ⟨(fun e => by rw [decide_eq_true e] at e1; cases e1), of_decide_eq_true e2⟩
def fAll2 (K : PySem.W.Frag) : Bool := (cls3 K).all fun C => (cls3 K).all fun D => fTwo K C D
theorem all2_ok {K : PySem.W.Frag} (h : fAll2 K = true) : ∀ C ∈ [(qa K).CC, (qa K).CB, (qa K).CE], ∀ D ∈ [(qa K).CC, (qa K).CB, (qa K).CE], QTwo K C D := fun C hC D hD =>
  two_ok (List.all_eq_true.mp (List.all_eq_true.mp h C hC) D hD)
theorem one_ok {K : PySem.W.Frag} (h1 : fQuota "Cap" K = true) (h2 : fQuota "Both" K = true) (h3 : fQuota "Either" K = true) : ∀ C ∈ [(qa K).CC, (qa K).CB, (qa K).CE], QOne K (qa K) C := fun C hC => by
  simp only [List.mem_cons, List.not_mem_nil, or_false] at hC
  rcases hC with rfl | rfl | rfl
  · exact quota_ok h1
  · exact quota_ok h2
  · exact quota_ok h3
def fTys (K : PySem.W.Frag) : Bool := oddTys.all fun T => decide (PySem.W.kitOne K (.type T) (.ref (qa K).CQ) = some false) && (OwH.fBinT .BitAnd K (qa K).CC T && OwH.fBinT .BitOr K (qa K).CC T)
theorem tys_ok {K : PySem.W.Frag} (h : fTys K = true) : QTys K (qa K) :=
  ⟨fun T hT => of_decide_eq_true (OwH.two (List.all_eq_true.mp h T hT)).1, fun T hT => OwH.fBinT_ok (OwH.two (OwH.two (List.all_eq_true.mp h T hT)).2).1, fun T hT => OwH.fBinT_ok (OwH.two (OwH.two (List.all_eq_true.mp h T hT)).2).2⟩
def fSt (K : PySem.W.Frag) : Bool := (cls3 K).all fun C => PySem.W.notFirst K C (.type "str") && PySem.W.notFirst K C (.type "NoneType")
theorem st_ok {K : PySem.W.Frag} (h : fSt K = true) : QSt K (qa K) := ⟨fun C hC => (OwH.two (List.all_eq_true.mp h C hC)).1, fun C hC => (OwH.two (List.all_eq_true.mp h C hC)).2⟩
def kit (K : PySem.W.Frag) (C D : Addr) (b : Bool) : Bool := decide (PySem.W.kitOne K (.ref C) (.ref D) = some b)
def fIs1 (K : PySem.W.Frag) (C : Addr) (c b e : Bool) : Bool := kit K C (qa K).CC c && (kit K C (qa K).CB b && (kit K C (qa K).CE e && kit K C (qa K).CP (!c)))
def fIs (K : PySem.W.Frag) : Bool := fIs1 K (qa K).CC true false false && (fIs1 K (qa K).CB false true false && fIs1 K (qa K).CE false false true)
theorem is1_ok {K : PySem.W.Frag} {C : Addr} {c b e : Bool} (h : fIs1 K C c b e = true) : PySem.W.kitOne K (.ref C) (.ref (qa K).CC) = some c ∧ PySem.W.kitOne K (.ref C) (.ref (qa K).CB) = some b ∧ PySem.W.kitOne K (.ref C) (.ref (qa K).CE) = some e ∧ PySem.W.kitOne K (.ref C) (.ref (qa K).CP) = some (!c) := by
  obtain ⟨h1, h⟩ := OwH.two h
  obtain ⟨h2, h⟩ := OwH.two h
  obtain ⟨h3, h4⟩ := OwH.two h
  exact ⟨of_decide_eq_true h1, of_decide_eq_true h2, of_decide_eq_true h3, of_decide_eq_true h4⟩
theorem is_ok {K : PySem.W.Frag} (h : fIs K = true) : QIs K (qa K) := ⟨fun t => by
  obtain ⟨h1, h⟩ := OwH.two h
  obtain ⟨h2, h3⟩ := OwH.two h
  cases t with
  | cap => exact is1_ok h1
  | both => exact is1_ok h2
  | either => exact is1_ok h3⟩
end K10
end
section
namespace K10
open PySem PySem.Spec PyProof.Rows L2
/-- all that the end of the top says -/
structure Facts (P : Program) (w : World) (K : PySem.W.Frag) (mg : Str → Option Value) (base : Heap) (a : QAd) (CX : Addr) : Prop where
  R : QF P w K mg base a
  Ty : QTys K a
  St : QSt K a
  Is : QIs K a
  ear : EarC K mg a.CU a.CT CX
  nm : Nm mg
  n_range : mg "range" = none
  n_repr : mg "repr" = none
  n_dict : mg "dict" = none
  n_sorted : mg "sorted" = none
  n_tuple : mg "tuple" = none
  pen : ∃ f fd, mg "_law_pen" = some (.ref f) ∧ Fun K "_law_pen" "_law_pen" sPen f fd
  draw : ∃ f fd, mg "_law_draw" = some (.ref f) ∧ Fun K "_law_draw" "_law_draw" sDraw f fd
  pick : ∃ f fd, mg "_law_pick" = some (.ref f) ∧ Fun K "_law_pick" "_law_pick" sPick f fd
  word : ∃ f fd, mg "_law_word" = some (.ref f) ∧ Fun K "_law_word" "_law_word" sWord f fd
  names : ∃ f fd, mg "_law_names" = some (.ref f) ∧ Fun K "_law_names" "_law_names" sNames f fd
  lcap : ∃ f fd, mg "_law_cap" = some (.ref f) ∧ Fun K "_law_cap" "_law_cap" sLC f fd
  tree : ∃ f fd, mg "_law_tree" = some (.ref f) ∧ Fun K "_law_tree" "_law_tree" sTr f fd
  lets : ∃ f fd, mg "_law_lets" = some (.ref f) ∧ Fun K "_law_lets" "_law_lets" sLt f fd
  bounds : ∃ f fd, mg "_law_bounds" = some (.ref f) ∧ Fun K "_law_bounds" "_law_bounds" sBd f fd
  quota : ∃ f fd, mg "_law_quota" = some (.ref f) ∧ Fun K "_law_quota" "_law_quota" sQu f fd
  signed : ∃ f fd, mg "_law_signed" = some (.ref f) ∧ Fun K "_law_signed" "_law_signed" sSg f fd
  heard : ∃ f fd, mg "_law_heard" = some (.ref f) ∧ Fun K "_law_heard" "_law_heard" sHeard f fd
  caps : ∃ f fd, mg "_law_caps" = some (.ref f) ∧ Fun K "_law_caps" "_law_caps" sCs f fd
  told : ∃ f fd, mg "_law_told_right" = some (.ref f) ∧ Fun K "_law_told_right" "_law_told_right" sTo f fd
  turned : ∃ f fd, mg "_law_turned" = some (.ref f) ∧ Fun K "_law_turned" "_law_turned" sTu f fd
  sorted : ∃ f fd, mg "_law_sorted" = some (.ref f) ∧ Fun K "_law_sorted" "_law_sorted" sSo f fd
  row : ∃ f fd, mg "_law_row" = some (.ref f) ∧ Fun K "_law_row" "_law_row" sRw f fd
/-- a def that holds lambdas: its code, its table -/
structure Lam1 (K : PySem.W.Frag) (mg : Str → Option Value) (base : Heap) (T : List (Addr × Str)) (x : Str) (st : Stmt) (q : Str) (f c0 Pt : Addr) (oc kV doc pm ct : Value) (od an : Option Addr) (osl : Array (Option Value)) : Prop where
  g : mg x = some (.ref f)
  kp : PySem.W.keepIn K (.ref f) = true
  lk : K.lookup f = some ⟨oc, od, .func (PySem.W.fnOf x x (defArgs st) (defBody st) (defScope st) .none kV doc pm an (.ref c0) ct), osl⟩
  hc : PySem.W.codeIn K (.ref c0) x = true
  tb : LamX.TabB base mg c0 Pt
  mem : (Pt, q) ∈ T
  one : ∀ p ∈ T, p.1 = Pt → p.2 = q
section
variable {P : Program} {w : World} {K : PySem.W.Frag} {mg : Str → Option Value} {base : Heap}
theorem ok_all {a : QAd} {CX : Addr} {T : List (Addr × Str)} (Fa : Facts P w K mg base a CX)
    {f1 c1 P1 f2 c2 P2 : Addr} {oc1 kV1 doc1 pm1 ct1 oc2 kV2 doc2 pm2 ct2 : Value} {od1 an1 od2 an2 : Option Addr} {osl1 osl2 : Array (Option Value)}
    (L1 : Lam1 K mg base T "_law_refused_right" sRF qRF f1 c1 P1 oc1 kV1 doc1 pm1 ct1 od1 an1 osl1) (L2' : Lam1 K mg base T "law" sLaw qLaw f2 c2 P2 oc2 kV2 doc2 pm2 ct2 od2 an2 osl2) :
    OwR.FnG P w K mg base CX0 14 f2 (PySem.W.fnOf "law" "law" (defArgs sLaw) (defBody sLaw) (defScope sLaw) .none kV2 doc2 pm2 an2 (.ref c2) ct2) ["_law_script"] (spLaw K T) := by
  obtain ⟨R, Ty, St, Is, ear, nm, n_range, n_repr, n_dict, n_sorted, n_tuple, ⟨fpen, dpen, g_pen, F_pen⟩, ⟨fdraw, ddraw, g_draw, F_draw⟩, ⟨fpick, dpick, g_pick, F_pick⟩, ⟨fw, dw, g_word, F_word⟩, ⟨fn, dn, g_names, F_names⟩, ⟨fcp, dcp, g_cap, F_cap⟩, ⟨ftr, dtr, g_tree, F_tree⟩, ⟨flt, dlt, g_lets, F_lets⟩, ⟨fbd, dbd, g_bounds, F_bounds⟩, ⟨fqu, dqu, g_quota, F_quota⟩, ⟨fsg, dsg, g_signed, F_signed⟩, ⟨fheard, dheard, g_heard, F_heard⟩, ⟨fcs, dcs, g_caps, F_caps⟩, ⟨fto, dto, g_told, F_told⟩, ⟨ftu, dtu, g_turned, F_turned⟩, ⟨fso, dso, g_sorted, F_sorted⟩, ⟨frw, drw, g_row, F_row⟩⟩ := Fa
  have n_sum := R.n_sum
  have G_word : FnOk P w K mg base CX0 3 fw dw ["_law_pen_here"] spWord := ok_word F_word nm n_range F_draw g_draw F_pick g_pick
  have G_names : FnOk P w K mg base CX0 4 fn dn ["_law_pen_here", "_law_many"] spNames := ok_names F_names n_range F_word g_word G_word
  exact ok_law L2'.lk L2'.hc R Ty St ear nm F_heard g_heard F_draw g_draw F_pen g_pen F_names g_names G_names F_tree g_tree (ok_Tr F_tree g_tree nm F_draw g_draw F_pick g_pick)
    F_cap g_cap F_quota g_quota F_signed g_signed F_turned g_turned F_sorted g_sorted F_lets g_lets F_row g_row
    (ok_To R Is F_told g_told F_caps g_caps F_bounds g_bounds n_repr n_sorted n_tuple) F_told.kp g_told (F_told.binds fun _ _ _ _ _ _ us hl => match us, hl with | [_, _, _], _ => rfl)
    (ok_RF L1.lk L1.hc R Ty ear nm F_heard g_heard F_draw g_draw F_pick g_pick F_row g_row n_range L1.tb L1.mem L1.one) L1.kp L1.g (fun s us _ hl => match us, hl with | [_], _ => .of_eq rfl)
    n_range n_repr n_dict n_sum n_sorted n_tuple L2'.tb L2'.mem L2'.one
end
end K10
end
section
namespace K10
open PySem PySem.Spec PyProof.Rows L2
def theDefs : List OwH.DX :=
  [⟨fun K => OwH.ga K "is_name", "is_name", "is_name", sName⟩,
   ⟨fun K => OwH.ga K "is_within", "is_within", "is_within", sWithin⟩,
   ⟨fun K => OwH.ga K "ascending", "ascending", "ascending", sAsc⟩,
   ⟨fun K => OwH.ga K "check_names", "check_names", "check_names", sChkN⟩,
   ⟨fun K => OwH.ga K "joined_caps", "joined_caps", "joined_caps", sJoined⟩,
   ⟨fun K => OwH.ga K "is_let", "is_let", "is_let", sIsLet⟩,
   ⟨fun K => OwH.ga K "lets_sums", "lets_sums", "lets_sums", sLets⟩,
   ⟨fun K => OwH.ga K "_law_pen", "_law_pen", "_law_pen", sPen⟩,
   ⟨fun K => OwH.ga K "_law_draw", "_law_draw", "_law_draw", sDraw⟩,
   ⟨fun K => OwH.ga K "_law_pick", "_law_pick", "_law_pick", sPick⟩,
   ⟨fun K => OwH.ga K "_law_word", "_law_word", "_law_word", sWord⟩,
   ⟨fun K => OwH.ga K "_law_names", "_law_names", "_law_names", sNames⟩,
   ⟨fun K => OwH.ga K "_law_cap", "_law_cap", "_law_cap", sLC⟩,
   ⟨fun K => OwH.ga K "_law_tree", "_law_tree", "_law_tree", sTr⟩,
   ⟨fun K => OwH.ga K "_law_lets", "_law_lets", "_law_lets", sLt⟩,
   ⟨fun K => OwH.ga K "_law_bounds", "_law_bounds", "_law_bounds", sBd⟩,
   ⟨fun K => OwH.ga K "_law_quota", "_law_quota", "_law_quota", sQu⟩,
   ⟨fun K => OwH.ga K "_law_signed", "_law_signed", "_law_signed", sSg⟩,
   ⟨fun K => OwH.ga K "_law_heard", "_law_heard", "_law_heard", sHeard⟩,
   ⟨fun K => OwH.ga K "_law_caps", "_law_caps", "_law_caps", sCs⟩,
   ⟨fun K => OwH.ga K "_law_told_right", "_law_told_right", "_law_told_right", sTo⟩,
   ⟨fun K => OwH.ga K "_law_turned", "_law_turned", "_law_turned", sTu⟩,
   ⟨fun K => OwH.ga K "_law_sorted", "_law_sorted", "_law_sorted", sSo⟩,
   ⟨fun K => OwH.ga K "_law_row", "_law_row", "_law_row", sRw⟩,
   ⟨fun K => OwH.ga K "_law_refused_right", "_law_refused_right", "_law_refused_right", sRF⟩,
   ⟨fun K => OwH.ga K "law", "law", "law", sLaw⟩,
   ⟨fun K => OwH.mo K "BadName" "__init__", "__init__", "BadName.__init__", sBadName0⟩,
   ⟨fun K => OwH.mo K "BadNumber" "__init__", "__init__", "BadNumber.__init__", sBadNumber0⟩,
   ⟨fun K => OwH.mo K "BadQuota" "__init__", "__init__", "BadQuota.__init__", sBadQuota0⟩,
   ⟨fun K => OwH.mo K "TooMany" "__init__", "__init__", "TooMany.__init__", sTooMany0⟩,
   ⟨fun K => OwH.mo K "Cap" "__init__", "__init__", "Cap.__init__", sCap0⟩,
   ⟨fun K => OwH.mo K "Both" "__init__", "__init__", "Both.__init__", sBoth0⟩,
   ⟨fun K => OwH.mo K "Either" "__init__", "__init__", "Either.__init__", sEither0⟩,
   ⟨fun K => OwH.mo K "Quota" "__init__", "__init__", "Quota.__init__", sQuota0⟩,
   ⟨fun K => OwH.mo K "Pair" "__init__", "__init__", "Pair.__init__", sPair0⟩,
   ⟨fun K => OwH.mo K "Cap" "__len__", "__len__", "Quota.__len__", sQLen⟩,
   ⟨fun K => OwH.mo K "Cap" "__str__", "__str__", "Quota.__str__", sQStr⟩,
   ⟨fun K => OwH.mo K "Cap" "__and__", "__and__", "Quota.__and__", sQAnd⟩,
   ⟨fun K => OwH.mo K "Cap" "__or__", "__or__", "Quota.__or__", sQOr⟩,
   ⟨fun K => OwH.mo K "Cap" "__eq__", "__eq__", "Quota.__eq__", sQEq⟩,
   ⟨fun K => OwH.inRec K (OwH.mo K "Cap" "kinds") "property", "kinds", "Quota.kinds", sQKinds⟩,
   ⟨fun K => OwH.mo K "Cap" "bounds", "bounds", "Quota.bounds", sQBounds⟩,
   ⟨fun K => OwH.mo K "Cap" "__contains__", "__contains__", "Quota.__contains__", sQIn⟩,
   ⟨fun K => OwH.inRec K (OwH.mo K "Both" "first") "property", "first", "Pair.first", sPair1⟩,
   ⟨fun K => OwH.inRec K (OwH.mo K "Both" "second") "property", "second", "Pair.second", sPair2⟩]
def theFacts : List (PySem.W.Frag → Bool) :=
  [(He.Fa.glo "is_name").ok,
   (He.Fa.glo "is_within").ok,
   (He.Fa.glo "ascending").ok,
   (He.Fa.glo "check_names").ok,
   (He.Fa.glo "joined_caps").ok,
   (He.Fa.glo "is_let").ok,
   (He.Fa.glo "lets_sums").ok,
   (He.Fa.glo "_law_pen").ok,
   (He.Fa.glo "_law_draw").ok,
   (He.Fa.glo "_law_pick").ok,
   (He.Fa.glo "_law_word").ok,
   (He.Fa.glo "_law_names").ok,
   (He.Fa.glo "_law_cap").ok,
   (He.Fa.glo "_law_tree").ok,
   (He.Fa.glo "_law_lets").ok,
   (He.Fa.glo "_law_bounds").ok,
   (He.Fa.glo "_law_quota").ok,
   (He.Fa.glo "_law_signed").ok,
   (He.Fa.glo "_law_heard").ok,
   (He.Fa.glo "_law_caps").ok,
   (He.Fa.glo "_law_told_right").ok,
   (He.Fa.glo "_law_turned").ok,
   (He.Fa.glo "_law_sorted").ok,
   (He.Fa.glo "_law_row").ok,
   (He.Fa.glo "_law_refused_right").ok,
   (He.Fa.glo "law").ok,
   (He.Fa.glo "Quota").ok,
   (He.Fa.glo "Cap").ok,
   (He.Fa.glo "Both").ok,
   (He.Fa.glo "Either").ok,
   (He.Fa.glo "Pair").ok,
   (He.Fa.glo "NextError").ok,
   (He.Fa.glo "BadName").ok,
   (He.Fa.glo "BadNumber").ok,
   (He.Fa.glo "BadQuota").ok,
   (He.Fa.glo "TooMany").ok,
   (He.Fa.free "int").ok,
   (He.Fa.free "bool").ok,
   (He.Fa.free "str").ok,
   (He.Fa.free "len").ok,
   (He.Fa.free "all").ok,
   (He.Fa.free "isinstance").ok,
   (He.Fa.free "sorted").ok,
   (He.Fa.free "set").ok,
   (He.Fa.free "list").ok,
   (He.Fa.free "tuple").ok,
   (He.Fa.free "abs").ok,
   (He.Fa.free "range").ok,
   (He.Fa.free "repr").ok,
   (He.Fa.free "zip").ok,
   (He.Fa.free "sum").ok,
   (He.Fa.free "dict").ok,
   OwH.fErr "BadName",
   OwH.fIni "BadName",
   OwH.fNoF "BadName" "value",
   OwH.fErr "BadNumber",
   OwH.fIni "BadNumber",
   OwH.fNoF "BadNumber" "value",
   OwH.fErr "BadQuota",
   OwH.fIni "BadQuota",
   OwH.fNoF "BadQuota" "part",
   OwH.fErr "TooMany",
   OwH.fIni "TooMany",
   OwH.fNoF "TooMany" "what",
   OwH.fNoF "TooMany" "most",
   fQuota "Cap",
   (He.Fa.mkr "Cap").ok,
   fQuota "Both",
   (He.Fa.mkr "Both").ok,
   fQuota "Either",
   (He.Fa.mkr "Either").ok,
   fAll2,
   fTys,
   fSt,
   fIs,
   (He.Fa.noat "Cap" "most").ok,
   (He.Fa.noat "Both" "_first").ok,
   (He.Fa.noat "Both" "_second").ok,
   fun K => OwH.fPropAt K (OwH.ga K "Both") "first" (qa K).p1,
   fun K => OwH.fPropAt K (OwH.ga K "Both") "second" (qa K).p2,
   (He.Fa.noat "Either" "_first").ok,
   (He.Fa.noat "Either" "_second").ok,
   fun K => OwH.fPropAt K (OwH.ga K "Either") "first" (qa K).p1,
   fun K => OwH.fPropAt K (OwH.ga K "Either") "second" (qa K).p2,
   OwH.fRead "Quota",
   OwH.fCFun "Quota" "__init__",
   OwH.fRead "Pair",
   OwH.fCFun "Pair" "__init__",
   OwH.fExm "BadQuota" "BadQuota" true,
   OwH.fExm "TooMany" "BadQuota" false,
   OwH.fExm "TooMany" "TooMany" true,
   fun K => decide ((OwH.cTab K (OwH.ga K "_law_refused_right")).2 ≠ (OwH.cTab K (OwH.ga K "law")).2)]
def theTabs : List (PySem.W.Frag → Addr) := [fun K => OwH.ga K "_law_refused_right", fun K => OwH.ga K "law"]
def roots : List Str := ([("is_name" : Str), ("is_within" : Str), ("ascending" : Str), ("check_names" : Str), ("joined_caps" : Str), ("is_let" : Str), ("lets_sums" : Str), ("_law_pen" : Str)] : List Str) ++ ([("_law_draw" : Str), ("_law_pick" : Str), ("_law_word" : Str), ("_law_names" : Str), ("_law_cap" : Str), ("_law_tree" : Str), ("_law_lets" : Str), ("_law_bounds" : Str)] : List Str) ++ ([("_law_quota" : Str), ("_law_signed" : Str), ("_law_heard" : Str), ("_law_caps" : Str), ("_law_told_right" : Str), ("_law_turned" : Str), ("_law_sorted" : Str), ("_law_row" : Str)] : List Str) ++ ([("_law_refused_right" : Str), ("law" : Str), ("Quota" : Str), ("Cap" : Str), ("Both" : Str), ("Either" : Str), ("Pair" : Str), ("NextError" : Str)] : List Str) ++ ([("BadName" : Str), ("BadNumber" : Str), ("BadQuota" : Str), ("TooMany" : Str)] : List Str)
def names : List Str := ([("_wall" : Str), ("NextError" : Str), ("BadName" : Str), ("BadNumber" : Str), ("BadQuota" : Str), ("TooMany" : Str), ("BadText" : Str), ("is_name" : Str)] : List Str) ++ ([("is_within" : Str), ("ascending" : Str), ("Pair" : Str), ("number_of" : Str), ("Words" : Str), ("Quota" : Str), ("Cap" : Str), ("Both" : Str)] : List Str) ++ ([("Either" : Str), ("joined_caps" : Str), ("check_names" : Str), ("is_let" : Str), ("lets_sums" : Str), ("quota_of_text" : Str), ("steps_from" : Str), ("cap_from" : Str)] : List Str) ++ ([("quota_of_steps" : Str), ("_law_pen" : Str), ("_law_draw" : Str), ("_law_pick" : Str), ("_law_word" : Str), ("_law_names" : Str), ("_law_cap" : Str), ("_law_tree" : Str)] : List Str) ++ ([("_law_lets" : Str), ("_law_bounds" : Str), ("_law_quota" : Str), ("_law_signed" : Str), ("_law_heard" : Str), ("_law_caps" : Str), ("_law_told_right" : Str), ("_law_turned" : Str)] : List Str) ++ ([("_law_sorted" : Str), ("_law_row" : Str), ("_law_refused_right" : Str)] : List Str)
abbrev Rw : PySem.W.OpenRow := PySem.W.OpenLaw.row PySem.Challenge.rw_nextkind_k18_quotas_joined
abbrev hk : PySem.W.Hook := OwH.hookT roots theFacts theDefs theTabs
def ob (s : PySem.W.SharedT) : OwH.AT := OwH.obsT roots theFacts theDefs theTabs (HandSHeadRun.getT s)
theorem ob_eq (s : PySem.W.SharedT) : ob s = hk.obs s.abs := OwH.obsT_eq (HandSHeadRun.getT_eq s)
theorem run (w : World) : HandSHeadRun.RunEq Rw (PySem.W.view Rw.prog [49]) hk ob 12000 names w := by
  intro os
  kernel_rfl
theorem facts {P : Program} {w : World} {K : PySem.W.Frag} {h base : Heap} {mg : Str → Option Value} (X : K.In h) (G : h.Ns mainGlobals mg) (c : OwH.seeX theFacts theDefs K = OwH.wantX theDefs) : Facts P w K mg base (qa K) (OwH.ga K "NextError") := by
  obtain ⟨fd0, F0⟩ := OwH.def_ c 0 rfl
  obtain ⟨fd1, F1⟩ := OwH.def_ c 1 rfl
  obtain ⟨fd2, F2⟩ := OwH.def_ c 2 rfl
  obtain ⟨fd3, F3⟩ := OwH.def_ c 3 rfl
  obtain ⟨fd4, F4⟩ := OwH.def_ c 4 rfl
  obtain ⟨fd5, F5⟩ := OwH.def_ c 5 rfl
  obtain ⟨fd6, F6⟩ := OwH.def_ c 6 rfl
  obtain ⟨fd7, F7⟩ := OwH.def_ c 7 rfl
  obtain ⟨fd8, F8⟩ := OwH.def_ c 8 rfl
  obtain ⟨fd9, F9⟩ := OwH.def_ c 9 rfl
  obtain ⟨fd10, F10⟩ := OwH.def_ c 10 rfl
  obtain ⟨fd11, F11⟩ := OwH.def_ c 11 rfl
  obtain ⟨fd12, F12⟩ := OwH.def_ c 12 rfl
  obtain ⟨fd13, F13⟩ := OwH.def_ c 13 rfl
  obtain ⟨fd14, F14⟩ := OwH.def_ c 14 rfl
  obtain ⟨fd15, F15⟩ := OwH.def_ c 15 rfl
  obtain ⟨fd16, F16⟩ := OwH.def_ c 16 rfl
  obtain ⟨fd17, F17⟩ := OwH.def_ c 17 rfl
  obtain ⟨fd18, F18⟩ := OwH.def_ c 18 rfl
  obtain ⟨fd19, F19⟩ := OwH.def_ c 19 rfl
  obtain ⟨fd20, F20⟩ := OwH.def_ c 20 rfl
  obtain ⟨fd21, F21⟩ := OwH.def_ c 21 rfl
  obtain ⟨fd22, F22⟩ := OwH.def_ c 22 rfl
  obtain ⟨fd23, F23⟩ := OwH.def_ c 23 rfl
  obtain ⟨fd24, F24⟩ := OwH.def_ c 24 rfl
  obtain ⟨fd26, F26⟩ := OwH.def_ c 26 rfl
  obtain ⟨fd27, F27⟩ := OwH.def_ c 27 rfl
  obtain ⟨fd28, F28⟩ := OwH.def_ c 28 rfl
  obtain ⟨fd29, F29⟩ := OwH.def_ c 29 rfl
  obtain ⟨fd30, F30⟩ := OwH.def_ c 30 rfl
  obtain ⟨fd31, F31⟩ := OwH.def_ c 31 rfl
  obtain ⟨fd32, F32⟩ := OwH.def_ c 32 rfl
  obtain ⟨fd33, F33⟩ := OwH.def_ c 33 rfl
  obtain ⟨fd34, F34⟩ := OwH.def_ c 34 rfl
  obtain ⟨fd35, F35⟩ := OwH.def_ c 35 rfl
  obtain ⟨fd36, F36⟩ := OwH.def_ c 36 rfl
  obtain ⟨fd37, F37⟩ := OwH.def_ c 37 rfl
  obtain ⟨fd38, F38⟩ := OwH.def_ c 38 rfl
  obtain ⟨fd39, F39⟩ := OwH.def_ c 39 rfl
  obtain ⟨fd40, F40⟩ := OwH.def_ c 40 rfl
  obtain ⟨fd41, F41⟩ := OwH.def_ c 41 rfl
  obtain ⟨fd42, F42⟩ := OwH.def_ c 42 rfl
  obtain ⟨fd43, F43⟩ := OwH.def_ c 43 rfl
  obtain ⟨fd44, F44⟩ := OwH.def_ c 44 rfl
  exact ⟨⟨⟨⟨_, _, (He.glo_ok X G (OwH.fact c 0 rfl)), F0⟩, ⟨_, _, (He.glo_ok X G (OwH.fact c 1 rfl)), F1⟩, ⟨_, _, (He.glo_ok X G (OwH.fact c 2 rfl)), F2⟩, ⟨(He.free_ok X G (OwH.fact c 36 rfl)), (He.free_ok X G (OwH.fact c 37 rfl)), (He.free_ok X G (OwH.fact c 38 rfl)), (He.free_ok X G (OwH.fact c 39 rfl)), (He.free_ok X G (OwH.fact c 40 rfl)), (He.free_ok X G (OwH.fact c 41 rfl))⟩, ⟨(He.free_ok X G (OwH.fact c 42 rfl)), (He.free_ok X G (OwH.fact c 43 rfl)), (He.free_ok X G (OwH.fact c 44 rfl))⟩, ⟨(He.free_ok X G (OwH.fact c 45 rfl))⟩⟩,
    ⟨⟨_, _, ⟨OwH.err_ok (OwH.fact c 52 rfl), (He.glo_ok X G (OwH.fact c 32 rfl)), (OwH.ini_ok (OwH.fact c 53 rfl)).1, (OwH.ini_ok (OwH.fact c 53 rfl)).2⟩, of_decide_eq_true (OwH.fact c 54 rfl), F26⟩, ⟨_, _, ⟨OwH.err_ok (OwH.fact c 55 rfl), (He.glo_ok X G (OwH.fact c 33 rfl)), (OwH.ini_ok (OwH.fact c 56 rfl)).1, (OwH.ini_ok (OwH.fact c 56 rfl)).2⟩, of_decide_eq_true (OwH.fact c 57 rfl), F27⟩, ⟨_, _, ⟨OwH.err_ok (OwH.fact c 58 rfl), (He.glo_ok X G (OwH.fact c 34 rfl)), (OwH.ini_ok (OwH.fact c 59 rfl)).1, (OwH.ini_ok (OwH.fact c 59 rfl)).2⟩, of_decide_eq_true (OwH.fact c 60 rfl), F28⟩, ⟨_, _, ⟨OwH.err_ok (OwH.fact c 61 rfl), (He.glo_ok X G (OwH.fact c 35 rfl)), (OwH.ini_ok (OwH.fact c 62 rfl)).1, (OwH.ini_ok (OwH.fact c 62 rfl)).2⟩, of_decide_eq_true (OwH.fact c 63 rfl), F29⟩, of_decide_eq_true (OwH.fact c 64 rfl)⟩,
    one_ok (OwH.fact c 65 rfl) (OwH.fact c 67 rfl) (OwH.fact c 69 rfl), all2_ok (OwH.fact c 71 rfl), He.noat_ok (OwH.fact c 75 rfl), He.noat_ok (OwH.fact c 76 rfl), He.noat_ok (OwH.fact c 77 rfl), He.noat_ok (OwH.fact c 80 rfl), He.noat_ok (OwH.fact c 81 rfl),
    (He.glo_ok X G (OwH.fact c 26 rfl)), (He.glo_ok X G (OwH.fact c 27 rfl)), (He.glo_ok X G (OwH.fact c 28 rfl)), (He.glo_ok X G (OwH.fact c 29 rfl)), (He.glo_ok X G (OwH.fact c 30 rfl)), He.mkr_ok (OwH.fact c 66 rfl), He.mkr_ok (OwH.fact c 68 rfl), He.mkr_ok (OwH.fact c 70 rfl),
    OwH.propAt_ok (OwH.fact c 78 rfl), OwH.propAt_ok (OwH.fact c 79 rfl), OwH.propAt_ok (OwH.fact c 82 rfl), OwH.propAt_ok (OwH.fact c 83 rfl),
    OwH.read_ok (OwH.fact c 84 rfl), OwH.cfun_ok (OwH.fact c 85 rfl), OwH.read_ok (OwH.fact c 86 rfl), OwH.cfun_ok (OwH.fact c 87 rfl),
    ⟨_, F30⟩, ⟨_, F31⟩, ⟨_, F32⟩, ⟨_, F33⟩, ⟨_, F34⟩, ⟨_, F35⟩, ⟨_, F36⟩, ⟨_, F37⟩, ⟨_, F38⟩, ⟨_, F39⟩, ⟨_, F40⟩, ⟨_, F41⟩, ⟨_, F42⟩, ⟨_, F43⟩, ⟨_, F44⟩,
    ⟨_, _, (He.glo_ok X G (OwH.fact c 4 rfl)), F4⟩, ⟨_, _, (He.glo_ok X G (OwH.fact c 3 rfl)), F3⟩, ⟨_, _, (He.glo_ok X G (OwH.fact c 5 rfl)), F5⟩, ⟨_, _, (He.glo_ok X G (OwH.fact c 6 rfl)), F6⟩, (He.free_ok X G (OwH.fact c 49 rfl)), (He.free_ok X G (OwH.fact c 50 rfl))⟩,
    tys_ok (OwH.fact c 72 rfl), st_ok (OwH.fact c 73 rfl), is_ok (OwH.fact c 74 rfl),
    ⟨OwH.err_ok (OwH.fact c 58 rfl), OwH.err_ok (OwH.fact c 61 rfl), of_decide_eq_true (OwH.fact c 60 rfl), of_decide_eq_true (OwH.fact c 63 rfl), of_decide_eq_true (OwH.fact c 64 rfl), (He.glo_ok X G (OwH.fact c 34 rfl)), (He.glo_ok X G (OwH.fact c 35 rfl)), (He.glo_ok X G (OwH.fact c 31 rfl)), of_decide_eq_true (OwH.fact c 88 rfl), of_decide_eq_true (OwH.fact c 89 rfl), of_decide_eq_true (OwH.fact c 90 rfl)⟩,
    ⟨(He.free_ok X G (OwH.fact c 36 rfl)), (He.free_ok X G (OwH.fact c 39 rfl)), (He.free_ok X G (OwH.fact c 46 rfl)), (He.free_ok X G (OwH.fact c 44 rfl))⟩, (He.free_ok X G (OwH.fact c 47 rfl)), (He.free_ok X G (OwH.fact c 48 rfl)), (He.free_ok X G (OwH.fact c 51 rfl)), (He.free_ok X G (OwH.fact c 42 rfl)), (He.free_ok X G (OwH.fact c 45 rfl)),
    ⟨_, _, (He.glo_ok X G (OwH.fact c 7 rfl)), F7⟩, ⟨_, _, (He.glo_ok X G (OwH.fact c 8 rfl)), F8⟩, ⟨_, _, (He.glo_ok X G (OwH.fact c 9 rfl)), F9⟩, ⟨_, _, (He.glo_ok X G (OwH.fact c 10 rfl)), F10⟩, ⟨_, _, (He.glo_ok X G (OwH.fact c 11 rfl)), F11⟩, ⟨_, _, (He.glo_ok X G (OwH.fact c 12 rfl)), F12⟩, ⟨_, _, (He.glo_ok X G (OwH.fact c 13 rfl)), F13⟩, ⟨_, _, (He.glo_ok X G (OwH.fact c 14 rfl)), F14⟩, ⟨_, _, (He.glo_ok X G (OwH.fact c 15 rfl)), F15⟩, ⟨_, _, (He.glo_ok X G (OwH.fact c 16 rfl)), F16⟩, ⟨_, _, (He.glo_ok X G (OwH.fact c 17 rfl)), F17⟩, ⟨_, _, (He.glo_ok X G (OwH.fact c 18 rfl)), F18⟩, ⟨_, _, (He.glo_ok X G (OwH.fact c 19 rfl)), F19⟩, ⟨_, _, (He.glo_ok X G (OwH.fact c 20 rfl)), F20⟩, ⟨_, _, (He.glo_ok X G (OwH.fact c 21 rfl)), F21⟩, ⟨_, _, (He.glo_ok X G (OwH.fact c 22 rfl)), F22⟩, ⟨_, _, (He.glo_ok X G (OwH.fact c 23 rfl)), F23⟩⟩
theorem ends {P : Program} {w : World} {K : PySem.W.Frag} {h : Heap} {mg : Str → Option Value} {f : Addr} (X : K.In h) (G : h.Ns mainGlobals mg) (hf : mg ("law" : Str) = some (.ref f)) (c : OwH.SaysT theFacts theDefs theTabs h K) :
    ∃ (K : PySem.W.Frag) (fd : FuncData) (cs : List (Addr × Addr)) (sp : Sp), K.In h ∧ (∀ e ∈ cs, h.get? e.2 = some OwR.tabO) ∧ (∀ e ∈ cs, K.lookup e.2 = none) ∧ (∀ e ∈ cs, PySem.W.CodeHd h e.1 e.2) ∧
      (∀ (s : Shared) (u : Value), BindsTo s fd ⟨[u], []⟩ [("_law_script", u)]) ∧ (∀ (G : Hp) (a : Addr) (zs : List Int), zs.length ≤ 63 → (∀ e ∈ cs, G e.2 = some (.tbl #[])) → SqL K G a (zs.map V.int) → sp [.ref a] G (fun v _ => v = .bl true) fun _ _ _ => False) ∧
      ∀ base : Heap, K.In base → base.Ns mainGlobals mg → (∀ e ∈ cs, LamX.TabB base mg e.1 e.2) → OwR.FnG P w K mg base CX0 14 f fd ["_law_script"] sp := by
  obtain ⟨fd1, F1⟩ := OwH.def_ c.see 24 rfl
  obtain ⟨fd2, F2⟩ := OwH.def_ c.see 25 rfl
  have e := hf.symm.trans (He.glo_ok X G (OwH.fact c.see 25 rfl))
  cases e
  have kp1 := F1.kp
  have kp2 := F2.kp
  obtain ⟨oc1, od1, kV1, doc1, pm1, an1, cdv1, ct1, osl1, rfl, lk1, hcd1⟩ := F1.ex
  obtain ⟨oc2, od2, kV2, doc2, pm2, an2, cdv2, ct2, osl2, rfl, lk2, hcd2⟩ := F2.ex
  obtain ⟨c1, rfl⟩ := He.codeIn_ref hcd1
  have ec1 : (OwH.cTab K (OwH.ga K "_law_refused_right")).1 = c1 := OwH.codA_eq lk1 rfl
  obtain ⟨c2, rfl⟩ := He.codeIn_ref hcd2
  have ec2 : (OwH.cTab K (OwH.ga K "law")).1 = c2 := OwH.codA_eq lk2 rfl
  have ne01 : (OwH.cTab K (OwH.ga K "_law_refused_right")).2 ≠ (OwH.cTab K (OwH.ga K "law")).2 := of_decide_eq_true (OwH.fact c.see 91 rfl)
  have mem1 : (fun K => OwH.ga K "_law_refused_right") ∈ theTabs := List.mem_cons_self
  have mem2 : (fun K => OwH.ga K "law") ∈ theTabs := List.mem_cons_of_mem _ List.mem_cons_self
  have two : ∀ {p : Addr × Addr → Prop}, p (OwH.cTab K (OwH.ga K "_law_refused_right")) → p (OwH.cTab K (OwH.ga K "law")) → ∀ e ∈ [(OwH.cTab K (OwH.ga K "_law_refused_right")), (OwH.cTab K (OwH.ga K "law"))], p e := fun {p} h1 h2 e he => by
    simp only [List.mem_cons, List.not_mem_nil, or_false] at he
    rcases he with rfl | rfl
    · exact h1
    · exact h2
  refine ⟨K, PySem.W.fnOf "law" "law" (defArgs sLaw) (defBody sLaw) (defScope sLaw) .none kV2 doc2 pm2 an2 (.ref c2) ct2, [(OwH.cTab K (OwH.ga K "_law_refused_right")), (OwH.cTab K (OwH.ga K "law"))], spLaw K [((OwH.cTab K (OwH.ga K "_law_refused_right")).2, qRF), ((OwH.cTab K (OwH.ga K "law")).2, qLaw)], X, two (c.empty _ mem1) (c.empty _ mem2), two (c.out _ mem1) (c.out _ mem2), two (PySem.W.codeHd_of_K X (c.hd _ mem1)) (PySem.W.codeHd_of_K X (c.hd _ mem2)), fun s v => .of_eq rfl, fun G a zs hz ht sq => ⟨a, zs, rfl, sq, hz, fun e he => ?_, fun _ => rfl⟩, fun base hK hN hT => ?_⟩
  · simp only [List.mem_cons, List.not_mem_nil, or_false] at he
    rcases he with rfl | rfl
    · exact LamX.TabS.nil (ht _ (List.mem_cons_self))
    · exact LamX.TabS.nil (ht _ (List.mem_cons_of_mem _ List.mem_cons_self))
  · have TB1 := hT _ (List.mem_cons_self)
    rw [ec1] at TB1
    have TB2 := hT _ (List.mem_cons_of_mem _ List.mem_cons_self)
    rw [ec2] at TB2
    exact ok_all (facts (P := P) (w := w) (base := base) X G c.see)
      ⟨He.glo_ok X G (OwH.fact c.see 24 rfl), kp1, lk1, hcd1, TB1, List.mem_cons_self, fun e he h => by
      simp only [List.mem_cons, List.not_mem_nil, or_false] at he
      rcases he with rfl | rfl
      · rfl
      · exact absurd h.symm ne01⟩
      ⟨He.glo_ok X G (OwH.fact c.see 25 rfl), kp2, lk2, hcd2, TB2, List.mem_cons_of_mem _ List.mem_cons_self, fun e he h => by
      simp only [List.mem_cons, List.not_mem_nil, or_false] at he
      rcases he with rfl | rfl
      · exact absurd h ne01
      · rfl⟩

end K10
open PySem PySem.W PySem.Calls PyProof.Rows
theorem PySem.Challenge.cw_nextkind_k18_quotas_joined_holds : PySem.Challenge.rw_nextkind_k18_quotas_joined.Holds := by
  w_on; o_law
  refine HandSHeadRun.head_any (r := K10.Rw) (q := view K10.Rw.prog [49]) (H := K10.hk) (ob := K10.ob) (M := 12000) (loose := K10.names) (d := HandSHeadRun.topDef K10.Rw.prog 49) (kwd := []) K10.ob_eq
    (by kernel_rfl) (fun s => by kernel_rfl) K10.run (by kernel_rfl) (by kernel_rfl) (by kernel_rfl) (by rfl) (by first | assumption | decide +kernel) (by decide +kernel) ⟨rfl, rfl, rfl, rfl, rfl, by decide +kernel⟩ ?hw ?hc
  case hw => w_witness2
  case hc =>
    refine OwR.walk_ofTG (l := PySem.Challenge.rw_nextkind_k18_quotas_joined) (n := 63) (k := 14) (x := "_law_script") rfl (by decide) (by kernel_rfl) ⟨rfl, by decide, by decide⟩ ?_
    intro w mg fn h Y G hmg
    obtain ⟨K, X, c⟩ := Y
    have en : (HandSHeadRun.topDef K10.Rw.prog 49).name = ("law" : PySem.Str) := by kernel_rfl
    rw [en] at hmg
    exact K10.ends (P := PySem.Challenge.rw_nextkind_k18_quotas_joined.prog) (w := w) X G hmg c
end
