import PyProof.Rows.All
import Wide.All
import OpenK.AllK
import Wide.FinOn
import KE.KStateDown
import Lean
import HandS.HeadHook3
import HandS.HeadHook4
import HandS.Base
import HandS.Call
import HandS.Ends
import HandS.Lambda
import HandS.EndBits
import HandS.EndTab
import HandS.ForMost
import HandS.More
import HandS.Exc
import HandS.Star
import HandS.ClsMeth
import HandS.MakeKwOnly
import HandS.Style
import HandS.TupAny
import KE.GoesMore
import KE.GoesEnum
import HandS.Words
import HandS.Property
import HandS.Head0
import HandS.Head1
import HandS.Head2
import HandS.HeadEnd
import HandS.HeadHook1
import HandS.HeadHook2
import KE.KExcIs
import PyProof.CallFns
import HandS.ExcInit
import HandS.ExcField
import HandS.IsInst
import HandS.RaiseMore
import KE.KOpsOwn
import HandS.Walk
import HandS.Iter
import HandS.Codes
import HandS.Text
import KE.KOwnIter
import PyProof.TupleIter
import PyProof.WalksMore
import HandS.IterVal
import HandS.OwnIter
import KE.KCallOwn
import PyProof.SliceList
import PyProof.P3Eq
import PyProof.EqKinds
import PyProof.StrBlockL
import HandS.FStr
import HandS.ForExc
import HandS.WordsExc
import KE.KDictList
import KE.KFmtOwn
import HandS.List
import PyProof.ZipIter
import HandS.Zip0
import PyProof.Rows.StrMeet
import PyProof.ReprBulk
import HandS.DictComp
import HandS.Set
import HandS.SetFor
import HandS.Strs
import HandS.Wide
import HandS.NoneIn
import HandS.TryOnly
import HandS.ExcValue
import HandS.TryMany
import PyProof.StrOps2
import HandS.Dict
import PyProof.EqAt
import KE.IntTextText
import PyProof.StrLawsTight
import PyProof.StrLawsChain
import PyProof.Rows.StrItems
import HandS.StrMore
import PyProof.Rows.StrAscii2
import KE.IntTextLaws
import HandS.Defaults
import KE.KStar
import PySem.Challenge.RW_nextkind_k20_quotas_written_and_read
set_option Elab.async false
set_option linter.all false
set_option maxRecDepth 100000
set_option maxHeartbeats 0
section
/-! Rules for what an own class defines: o[i] by its __getitem__, a def of a class called off the class, a static method, cls(*xs), an object called by a keyword. -/
namespace OwR
open PySem PySem.Spec PyProof.Rows L2
/-- the class at C has the def at g as its special method nm -/
structure Spc (K : PySem.W.Frag) (C g : Addr) (nm : Str) : Prop where
  at_ : PySem.W.findIn K (.ref C) nm = some (some (.ref g))
  fn : PySem.W.isFn K (.ref g) = true
  fi : PySem.W.fnIn K g = true
section
variable {X : Cx} {CX : CXT} {k i : Nat} {C f g p : Addr} {mc : Value} {sp : Sp} {E : XK} {a b o e : Expr} {es : List Expr} {m x : Str} {ta tb te : TE} {t tk : TA} {pos apos q1 q2 : Pos} {pins : List (Addr × Obj)} {σ : L2.St} {H : Hp} {s : Shared}
/-- a promise kept one step further in -/
theorem run_in {Q : VK} {us : List Value} {vs : List V} (F : FnR X.prog X.w X.K X.mg X.base CX k g sp) (hr : Room (k + 1) X.A) (hx : Passes CX X E) (I : Inv X pins σ H s) (r : Vals vs us) (h : sp vs H Q E) :
    wpAny (model X.prog X.w) X.A.in1 (call (.ref g) us) (EP X pins σ Q) X.xe s := by
  refine wpAny_call (codeAny_mono (F X.A.in1 X.stack s H us vs Q E hr.in1 I.env0.in1 r h) fun r s' hq => ?_)
  cases r with
  | error er => exact hx pins σ H s er s' I hq
  | ok fl =>
    cases fl with
    | ret u => exact I.after hq
    | next => exact False.elim hq
    | brk => exact False.elim hq
    | cont => exact False.elim hq
/-! ### o[i] -/
def tItem (C : Addr) (sp : Sp) (E : XK) (ta tb : TE) : TE := fun σ H Q => ta σ H fun x H1 => tb σ H1 fun y H2 => ∃ p dx fs, x = .ref p ∧ H2 p = some (.ins C dx fs) ∧ sp [.ref p, y] H2 Q E
theorem pe_item (c : Spc X.K C g "__getitem__") (F : FnR X.prog X.w X.K X.mg X.base CX k g sp) (hr : Room (k + 1) X.A) (hx : Passes CX X E) (ha : PE X a ta) (hb : PE X b tb)
    (hsl : ∀ (z : Addr) (v : Value), subscripted b true (.ref z) v = runValue (.builtin "lifetime.subscript" ⟨[.ref z, v], []⟩) := by intros; rfl) : PE X (.Subscript a b pos) (tItem C sp E ta tb) := by
  refine ⟨fun pins s σ H Q I h => ?_⟩
  refine Subscript_ (binT ha hb I h fun v u s2 x y H2 I2 rx ry q => ?_)
  obtain ⟨p, dx, fs, ex, ep, hq⟩ := q
  subst ex
  obtain rfl : v = Value.ref p := rx
  obtain ⟨ox, od, J, _⟩ := StX.insC_at I2 (.inr ⟨dx, fs, ep⟩)
  have KI := I2.kIn
  have hfi := c.fi
  unfold PySem.W.fnIn at hfi
  split at hfi
  · rename_i hg
    unfold subscriptTail getitemInPython
    refine wpAny_bind (wpAny_bind (wpAny_bind (J.type.here ((PySem.W.looks_findIn KI c.at_).here ?_))))
    dsimp only
    refine wpAny_bind (wpAny_load (KI _ _ hg) (wpAny_pure ?_))
    dsimp only
    rw [hsl]
    refine wpAny_bind (wpAny_runValue (codeAny_builtin PySem.W.entry_sub ?_))
    unfold Builtin.«lifetime.subscript»
    refine wpAny_bind (PySem.W.special_fn KI J c.at_ (beq_iff_eq.mp c.fn) (wpAny_mono (run_in (us := [Value.ref p, u]) (vs := [V.ref p, y]) F hr hx I2 (.cons rfl (.cons ry .nil)) hq) (fun v' s' z => ?_) fun _ _ z => z))
    refine wpAny_pure ?_
    show wpAny _ X.A (letTemporaryGo a (.ref p) v' >>= fun _ => pure v') _ _ s'
    exact wpAny_bind (wpAny_letTemporaryGo (wpAny_pure z))
  · cases hfi
/-! ### C.m(e, ..), m a plain def of the class -/
structure CFun (K : PySem.W.Frag) (C : Addr) (mc : Value) (m : Str) (g : Addr) : Prop where
  at_ : PySem.W.findCls K (.ref C) mc m = some (.val (.ref g))
  kp : PySem.W.keepIn K (.ref g) = true
def tCFun (C : Addr) (sp : Sp) (E : XK) (ta : TE) (t : TA) : TE := fun σ H Q => ta σ H fun x H1 => x = .ref C ∧ t σ H1 fun vs H2 => sp vs H2 Q E
theorem pe_cfun {pl : Sem Bool} (he : PE X o ta) (r : ClX.CRead X.K C mc) (c : CFun X.K C mc m g) (F : FnR X.prog X.w X.K X.mg X.base CX k g sp) (hr : Room k X.A) (hx : Passes CX X E) (ha : PA X (e :: es) t)
    (hst : starEach (e :: es) X.env = (false, eval e X.env) :: starEach es X.env := by rfl) (hpl : (backTo pos (starEach es X.env)).any (·.1) = false := by rfl)
    (ht : eval (.Call (.Attribute o m apos) (e :: es) [] pos) X.env = (do
      let ov ← eval o X.env
      standAt apos.atName
      let (f, first) ← holding [ov] (getMethod ov m pl)
      callWith pos f first (backTo pos (starEach (e :: es) X.env)) (backToKw pos (keywordEach [] X.env))) := by rfl) :
    PE X (.Call (.Attribute o m apos) (e :: es) [] pos) (tCFun C sp E ta t) := by
  refine ⟨fun pins s σ H Q I h => ?_⟩
  refine PySem.W.methodCall_KW (pl := pl) (thn (he.run pins s σ H _ I h) fun u s1 ⟨x, H1, I1, rx, ex, q⟩ => ?_) ht
  subst ex
  obtain rfl : u = Value.ref C := rx
  refine PySem.W.method_cls I1.kIn r.ga (PySem.W.cls_value I1.kIn r.rd c.at_ rfl ?_)
  refine PySem.W.callWith_K (first := []) (h₀ := X.base) I1.ok.mod.kin c.kp (thn (ha.run pos pins _ σ H1 _ (I1.tok _) q) fun us s2 ⟨vs, H2, I2, rv, q2⟩ => ⟨I2.kIn, ?_⟩) hst hpl
  exact wpAny_call (run_fnR F hr hx I2 rv q2)
/-! ### C.m(), m a static method -/
structure CSta (K : PySem.W.Frag) (C : Addr) (mc : Value) (m : Str) (p g : Addr) : Prop where
  at_ : PySem.W.findCls K (.ref C) mc m = some (.get (.builtin "staticmethod.__get__") (.ref p) .none (.ref C))
  rc : ∃ rest, PySem.W.recIn K p "staticmethod" = some (.ref g :: rest)
  kp : PySem.W.keepIn K (.ref g) = true
theorem pe_csta0 {pl : Sem Bool} (he : PE X o ta) (r : ClX.CRead X.K C mc) (c : CSta X.K C mc m p g) (F : FnR X.prog X.w X.K X.mg X.base CX k g sp) (hr : Room k X.A) (hx : Passes CX X E)
    (ht : eval (.Call (.Attribute o m apos) [] [] pos) X.env = (do
      let ov ← eval o X.env
      standAt apos.atName
      let (f, first) ← holding [ov] (getMethod ov m pl)
      callWith pos f first (backTo pos (starEach [] X.env)) (backToKw pos (keywordEach [] X.env))) := by rfl) :
    PE X (.Call (.Attribute o m apos) [] [] pos) (tCFun C sp E ta tNil) := by
  refine ⟨fun pins s σ H Q I h => ?_⟩
  refine PySem.W.methodCall_KW (pl := pl) (thn (he.run pins s σ H _ I h) fun u s1 ⟨x, H1, I1, rx, ex, q⟩ => ?_) ht
  subst ex
  obtain rfl : u = Value.ref C := rx
  obtain ⟨rest, hrec⟩ := c.rc
  refine PySem.W.method_cls I1.kIn r.ga (PySem.W.cls_bind I1.kIn r.rd c.at_ ?_)
  refine wpAny_call (PySem.W.sm_get (s := { s1 with toks := s1.toks + 1 }) I1.kIn hrec (PySem.W.handed_on rfl ?_))
  have I2 := I1.tok (s1.toks + 1)
  exact PySem.W.callWith_K0 (first := []) I2.kIn c.kp (wpAny_call (run_fnR (us := []) F hr hx I2 .nil q))
/-! ### cls(*xs), cls a slot that holds the class -/
def tMakeLS (K : PySem.W.Frag) (i : Nat) (C : Addr) (sp : Sp) (E : XK) (te : TE) : TE := fun σ H Q => σ[i]? = some (some (.ref C)) ∧ te σ H fun y H1 => ∃ a xs, y = V.ref a ∧ (SqT K H1 a xs ∨ SqL K H1 a xs) ∧
  ∀ z dz, H1 z = none → H1 dz = none → dz ≠ z → sp (V.ref z :: xs) (upd (upd H1 dz (.own z)) z (.ins C dz [])) (fun v H2 => v = .non ∧ Q (.ref z) H2) E
theorem pe_makeLS (M : Mk X.K C f) (F : FnR X.prog X.w X.K X.mg X.base CX k f sp) (hr : Room (k + 1) X.A) (hN : X.N[i]? = some x) (hv : Vis X.env.scope x) (hx : Passes CX X E) (he : PE X e te)
    (hdb : (x == ("__debug__" : Str)) = false := by decide) (hcd : (x == ("__classdict__" : Str)) = false := by decide) (hst : starEach [.Starred e q1] X.env = [(true, eval e X.env)] := by rfl) :
    PE X (.Call (.Name x q2) [.Starred e q1] [] pos) (tMakeLS X.K i C sp E te) := by
  refine ⟨fun pins s σ H Q I h => ?_⟩
  obtain ⟨hs, ht⟩ := h
  refine wpAny_Call_Name_kw (thn ((pe_var (pos := q2) hN hv hdb hcd).run pins s σ H (fun v H1 => v = .ref C ∧ H1 = H) I ⟨.ref C, hs, rfl, rfl⟩) fun u s1 ⟨v, H1, I1, r1, e1⟩ => ?_)
  obtain ⟨rfl, rfl⟩ := e1
  cases r1
  refine PySem.W.callWith_S (h₀ := X.base) (first := []) I1.ok.mod.kin M.kp (thn (he.run pins s1 σ _ _ I1 ht) fun v s2 ⟨y, H2, I2, ry, a, xs, ey, hxs, q⟩ => ?_) hst
  subst ey
  obtain rfl : v = Value.ref a := ry
  exact StX.star_any I2 hxs fun us s3 I3 rv => ⟨I3.kIn, StX.run_makeR M F hr hx I3 rv q⟩
end
end OwR
end
section
namespace OwR
open PySem PySem.Spec PyProof.Rows L2
open AutoSeq1 (wpAny_loadPart')
/-! ### enumerate(t), t a tuple -/
theorem meets_enumT {v : Value} {o : Obj} {G : Heap → Prop} (B : Begins v o G) :
    Meets (Builtin.«enumerate.__new__» ⟨[.type "enumerate", v], []⟩) (fun _ R s => G s.heap ∧
      R (.ok (.ret (.ref (s.heap.push o).objs.size))) { s with heap := (s.heap.push o).push { cls := .type "enumerate", data := .fields #[.none, .bool false, .ref s.heap.objs.size, rawInt 0, .none, .none] } }) :=
  .of_wp fun prog w A R s h => by
    obtain ⟨hp, g, d, tk, os⟩ := s; obtain ⟨h1, h⟩ := h
    have hsub := sub_enumerate
    have start : ∀ {A' : Around} {E : Value → Shared → Prop} {Q : Value → Shared → Prop}, Q (.ref hp.objs.size) ⟨hp.push o, g, d, tk, os⟩ → wpAny (model prog w) A' (pyIter v) Q E ⟨hp, g, d, tk, os⟩ :=
      fun q => B.iter prog w _ _ ⟨hp, g, d, tk, os⟩ _ h1 q
    wp_walk using start
    refine wpAny_stack_any fun st => wpAny_pure ?_
    split
    · rename_i c _ _ _ _ _
      cases (c == Value.type "enumerate")
      all_goals (wp_walk using start; exact ⟨_, rfl, h⟩)
    · wp_walk using start
      exact ⟨_, rfl, h⟩
section
variable {prog : Program} {w : World} {A : Around} {E : Value → Shared → Prop} {s : Shared}
theorem call_enumT {v : Value} {o : Obj} {G : Heap → Prop} {Q : Value → Shared → Prop} (B : Begins v o G) (h1 : G s.heap)
    (h : ∀ h', IsEnum h' (s.heap.objs.size + 1) s.heap.objs.size 0 .none → h'.get? s.heap.objs.size = some o → (∀ b x, s.heap.get? b = some x → h'.get? b = some x) → Q (.ref (s.heap.objs.size + 1)) { s with heap := h' }) :
    wpAny (model prog w) A (call (.type "enumerate") [v]) Q E s := by
  refine callType_new F.called_enumerate (by decide) (F.typeCall_enumerate_1 _) (F.newCall_enumerate_1 _) (fun obj => F.args_object_init_2 obj _) F.entry_enumerate_new (meets_enumT B) ⟨h1, ?_⟩
  have hz : (s.heap.push o).objs.size = s.heap.objs.size + 1 := Heap.size_push ..
  have he := Heap.get?_push_size (s.heap.push o) (o := { cls := .type "enumerate", data := .fields #[.none, .bool false, .ref s.heap.objs.size, rawInt 0, .none, .none] }) rfl
  rw [hz] at he
  show _ ∧ _
  rw [hz]
  exact ⟨⟨_, he, rfl⟩, h _ he (Heap.get?_push_of_some _ (Heap.get?_push_size _ B.free)) fun b x q => Heap.get?_push_of_some _ (Heap.get?_push_of_some _ q)⟩
end
/-- the tuple at a at each turn: its item in a new pair -/
def IteT (K : PySem.W.Frag) (a : Addr) : It :=
  ⟨fun i H => ∃ (xs : List V) (x : V), SqT K H a xs ∧ xs[i]? = some x, fun i H v H' => ∃ T x, v = .ref T ∧ H T = none ∧ H' = upd H T (.tup [.int (i : Nat), x]) ∧ ∀ xs, SqT K H a xs → xs[i]? = some x, fun i H => ∃ xs : List V, SqT K H a xs ∧ xs.length ≤ i⟩
theorem tup_one {X : Cx} {pins : List (Addr × Obj)} {σ : L2.St} {H : Hp} {s : Shared} {a : Addr} {xs ys : List V} (I : Inv X pins σ H s) (h : SqT X.K H a xs) (h' : SqT X.K H a ys) : xs = ys := by
  first | exact I.tup_inj h h' | exact I.tuple_inj h h'
theorem turn_enumT {P : Program} {w : World} {K : PySem.W.Frag} {elts : List Expr} {kk : Nat} {tpos : Pos} (a e it : Addr) (hane : a ≠ it) :
    Turn P w K (.Tuple elts kk tpos) (IteT K a) [e, it] e (fun i h => (∃ old, IsEnum h e it ((i : Nat) : Int) old) ∧ h.IsTupleIter it a i ∧ e ≠ it ∧ a ≠ e) where
  mem := by simp
  obj := fun i h st b hb => by
    obtain ⟨⟨old, he⟩, ⟨o, ho, hc, hd⟩, _⟩ := st
    rcases List.mem_cons.mp hb with z | z
    · rw [z]; exact ⟨_, he, fun v q => nomatch q⟩
    · rw [List.mem_singleton.mp z]; exact ⟨o, ho, fun v q => by rw [hd] at q; cases q⟩
  keep := fun i h h' st k => let ⟨⟨old, he⟩, hi, hne⟩ := st; ⟨⟨old, k e (by simp) _ he⟩, hi.at fun o q => k it (by simp) o q, hne⟩
  item := by
    intro X hP hw hK hc i pins s σ H E I hf st hg
    subst hP hw hK
    obtain ⟨⟨old, he⟩, hit, hne, hae⟩ := st
    obtain ⟨xs, x, hq, hx⟩ := hg
    obtain ⟨its, rv, p, hz⟩ := I.tuple hq
    obtain ⟨u, hu, ru⟩ := rv.get hx
    have hel : e < s.heap.objs.size := Heap.lt_size he
    have hil : it < s.heap.objs.size := by obtain ⟨_, q, _⟩ := hit; exact Heap.lt_size q
    have hlt : i < its.toArray.size := by
      rw [List.size_toArray]
      exact (List.getElem?_eq_some_iff.mp hu).1
    have D : Draws X.prog X.w X.A.in1 it [it, a] its.toArray.size _ _ := Draws.tuple (A := X.A.in1) (show X.A.in1.handled = none from I.ok.hd hc) it a hane its.toArray
    refine wpAny_pyNext_enum_itemD D he ⟨hit, p⟩ hlt hne (by simp [hne, Ne.symm hae]) fun y h' tk hy ho hst hT hsz hk => ?_
    have ey : y = u := by
      have q : its.toArray[i]? = some u := by simpa using hu
      exact Option.some.inj (hy.symm.trans q)
    subst ey
    refine ⟨_, rfl, wpAny_letOwnedTupleGo_enum (s := { s with heap := h', toks := tk + 1 }) ho fun h'' he' sb => ?_⟩
    have hT2 : h''.get? s.heap.objs.size = some { cls := .type "tuple", data := .seq #[.int i tk, y] } := (sb.2 _ (Nat.ne_of_gt hel)).trans hT
    have new : ObjOk X.prog X.w (upd H s.heap.objs.size (.tup [.int (i : Nat), x])) h'' s.heap.objs.size (.tup [.int (i : Nat), x]) :=
      ⟨by show 2 ≤ sizeLine; decide, [.int i tk, y], .cons ⟨_, rfl⟩ (.cons ru .nil), ⟨_, hT2, rfl, _, rfl⟩⟩
    have I1 : Inv X pins σ (upd H s.heap.objs.size (.tup [.int (i : Nat), x])) { s with heap := h'', toks := tk + 1 } :=
      I.turnedNew (ch := [e, it]) (fun b ob hb q => (sb.2 b (fun z => hb (by simp [z]))).trans (hk b ob (fun z => hb (by simp [z])) (fun z => hb (by simp [z])) q)) hf (Nat.le_refl _) new
    refine ⟨.ref s.heap.objs.size, _, I1, rfl, ⟨_, x, rfl, I.hok.fresh (Nat.le_refl _), rfl, fun ys hy' => by rw [tup_one I hy' hq]; exact hx⟩, ⟨⟨y, ?_⟩, hst.1.at fun o q => (sb.2 it (Ne.symm hne)).trans q, hne, hae⟩, fun b hb => ?_⟩
    · have e1 : ((i + 1 : Nat) : Int) = (i : Int) + 1 := by omega
      rw [e1]; exact he'
    · have hb' : b < s.heap.objs.size := by
        rcases List.mem_cons.mp hb with z | z
        · rw [z]; exact hel
        · rw [List.mem_singleton.mp z]; exact hil
      rw [upd_ne (Nat.ne_of_lt hb')]
      exact (hf b hb).1
  done := by
    intro X hP hw hK hc i pins s σ H E I hf st hg
    subst hP hw hK
    obtain ⟨⟨old, he⟩, hit, hne, hae⟩ := st
    obtain ⟨xs, hq, hx⟩ := hg
    obtain ⟨its, rv, p, hz⟩ := I.tuple hq
    obtain ⟨f0, f1, f2, f3, f4, f5⟩ := hf it (by simp)
    have hl := rv.length
    have hgt : its.toArray[i]? = none := by simp; omega
    unfold pyNext
    refine wpAny_bind (wpAny_attempt (wpAny_callSpecial?_slot (name := Str.ofString "__next__") ⟨_, he, rfl⟩ F.slot_enumerate_next
      (wpAny_call_entry F.slot_enumerate_next ⟨_, he, rfl⟩ F.entry_enumerate_next ?_ (F.args_enumerate_next_1 _))))
    show wpAny _ _ (field (.ref e) 2 >>= _) _ _ _
    refine wpAny_bind (wpAny_field he rfl (x := .ref it) rfl ?_)
    refine wpAny_bind (wpAny_nextOf_tuple_end (I.ok.hd hc) hit p hgt fun h' z he' hz' => ?_)
    obtain ⟨o, ho, hcl⟩ := hz'
    refine wpAny_bind (wpAny_isInstance (T := "StopIteration") (b := true) ⟨o, ho, hcl⟩ isSubtype_stop ?_)
    exact wpAny_pure ⟨rfl, I.turned (t' := s.toks) (fun b o hb q => he' b o hb q) f0 f1 f3 f4 f5⟩
  self := fun A i s Q E st h => let ⟨⟨_, he⟩, _⟩ := st; wpAny_pyIter_enum he h
def iEnumT (K : PySem.W.Frag) (ta : TA) : TI := fun σ H R => ta σ H fun vs H1 => ∃ a xs, vs = [.ref a] ∧ SqT K H1 a xs ∧ R (IteT K a) H1
theorem pi_enumT {X : Cx} {e : Expr} {ta : TA} {p pos tpos : Pos} {elts : List Expr} {kk : Nat} (hg : Gl X "enumerate") (hm : X.mg "enumerate" = none) (ha : PA X [e] ta) (hs : starEach [e] X.env = [(false, eval e X.env)] := by rfl) :
    PI X (.Tuple elts kk tpos) (.Call (.Name "enumerate" p) [e] [] pos) (iEnumT X.K ta) := by
  refine ⟨fun pins s σ H R I h => ?_⟩
  refine Call_ (ld_blt I hg hm boot_enumerate (PyProof.Rows.callWith_type1 (thn (ha.run pos pins s σ H _ I h) fun us s1 ⟨vs, H1, I1, r1, q1⟩ => ?_) hs rfl))
  obtain ⟨a, xs, ex, hq, q⟩ := q1
  subst ex
  cases r1 with
  | cons r rr =>
    cases rr
    cases r
    obtain ⟨its, rv, p', hz⟩ := I1.tuple hq
    have hal : a < s1.heap.objs.size := p'.lt
    refine call_enumT (begins_tuple a its.toArray) p' fun h' he hit hk => wpAny_pyIter_enum he ?_
    have I2 : Inv X pins σ H1 { s1 with heap := h' } := I1.kept (t' := s1.toks) hk
    refine ⟨s1.heap.objs.size + 1, [s1.heap.objs.size + 1, s1.heap.objs.size], _, _, H1, rfl, I2, turn_enumT a (s1.heap.objs.size + 1) s1.heap.objs.size (Nat.ne_of_lt hal),
      ⟨⟨.none, he⟩, ⟨_, hit, rfl, rfl⟩, Nat.succ_ne_self _, Nat.ne_of_lt (Nat.lt_succ_of_lt hal)⟩, fun b hb => ?_, q⟩
    have hle : s1.heap.objs.size ≤ b := by
      rcases List.mem_cons.mp hb with z | z
      · rw [z]; exact Nat.le_add_right _ _
      · rw [List.mem_singleton.mp z]; exact Nat.le_refl _
    exact I1.fpOk hle (I1.hok.fresh hle)
end OwR
end
section
namespace OwR
open PySem PySem.Spec PyProof.Rows L2
/-! ### t[::-1], t a tuple -/
theorem places_back (n : Nat) : Builtin.Slice.slicePlaces ((n : Int) - 1) (-1) (-1) = n := by
  unfold Builtin.Slice.slicePlaces
  rw [if_neg (by decide)]
  split
  · have e : ((n : Int) - 1 - -1 - 1) / (- -1) + 1 = (n : Int) := by
      rw [show (- -1 : Int) = 1 by decide, Int.ediv_one]
      omega
    rw [e]
    exact Int.toNat_natCast n
  · rename_i h
    have : n = 0 := by omega
    subst this
    rfl
theorem fm_same {α β : Type} {f g : α → Option β} : ∀ l : List α, (∀ x ∈ l, f x = g x) → l.filterMap f = l.filterMap g
  | [], _ => rfl
  | x :: l, h => by
    rw [List.filterMap_cons, List.filterMap_cons, h x List.mem_cons_self, fm_same l fun y hy => h y (List.mem_cons_of_mem _ hy)]
theorem pick_back (xs : Array Value) : ((List.range xs.size).filterMap fun (m : Nat) => xs[(((xs.size : Int) - 1) + (m : Int) * (-1)).toNat]?) = xs.toList.reverse := by
  rw [← PySem.W.krv_all xs, ← List.filterMap_reverse, ← PySem.W.krv_range, List.filterMap_map]
  refine fm_same _ fun m hm => ?_
  have hlt := List.mem_range.mp hm
  have e : (((xs.size : Int) - 1) + (m : Int) * (-1)).toNat = xs.size - 1 - m := by omega
  rw [e]
  rfl
section
variable {prog : Program} {w : World} {A : Around} {E : Value → Shared → Prop} {s : Shared}
theorem applied_back {sl : Addr} {vl vu vs : Value} {n : Nat} {Q : Int × Int × Nat → Shared → Prop} (hs : s.heap.IsSliceOf sl vl vu vs) (pl : IsPart vl none) (pu : IsPart vu none) (ps : IsPart vs (some (-1)))
    (h : Q ((n : Int) - 1, -1, n) s) : wpAny (model prog w) A (Builtin.Slice.sliceApplied (.ref sl) (pure (n : Int))) Q E s := by
  obtain ⟨os, hos, hcs, hds⟩ := id hs
  unfold Builtin.Slice.sliceApplied Builtin.Slice.sliceFields
  refine wpAny_bind (wpAny_bind (wpAny_field hos hds (x := vl) rfl (wpAny_bind (wpAny_field hos hds (x := vu) rfl (wpAny_bind (wpAny_field hos hds (x := vs) rfl (wpAny_pure ?_)))))))
  refine wpAny_bind (HT.slicePart_ ps ?_)
  show wpAny _ _ (if ((-1 : Int) == 0) = true then _ else _) _ _ s
  rw [if_neg (by decide)]
  refine wpAny_bind (HT.slicePart_ pl (wpAny_bind (HT.slicePart_ pu (wpAny_bind (wpAny_pure ?_)))))
  show wpAny _ _ (pure ((n : Int) - 1, (-1 : Int), Builtin.Slice.slicePlaces ((n : Int) - 1) (-1) (-1))) _ _ s
  rw [places_back]
  exact wpAny_pure h
theorem getTup_back {t sl : Addr} {items : Array Value} {vl vu vs : Value} {Q : Value → Shared → Prop} (ht : IsTup s.heap t items) (hs : s.heap.IsSliceOf sl vl vu vs) (pl : IsPart vl none) (pu : IsPart vu none) (ps : IsPart vs (some (-1)))
    (hsz : items.size ≤ sizeLine) (h : Q (.ref s.heap.objs.size) { s with heap := s.heap.push { cls := .type "tuple", data := .seq items.toList.reverse.toArray } }) : wpAny (model prog w) A (getItem (.ref t) (.ref sl)) Q E s := by
  obtain ⟨os, hos, hcs, hds⟩ := id hs
  have hTs : s.TypeIs (.ref sl) "slice" := ⟨os, hos, hcs⟩
  have hok : sizeOk (.seq items.toList.reverse.toArray) := by
    show items.toList.reverse.toArray.size ≤ sizeLine
    rw [List.size_toArray, List.length_reverse, Array.length_toList]
    exact hsz
  unfold getItem
  try with_reducible refine wpAny_holding ?_
  first | refine wpAny_bind (wpAny_pure ?_) | skip
  refine wpAny_bind (wpAny_sequenceKey ht.typeIs (by decide) ?_)
  refine wpAny_bind (wpAny_callSpecial?_slot (name := Str.ofString "__getitem__") ht.typeIs PyProof.Rows.slot_tuple_getitem
    (wpAny_call_entry PyProof.Rows.slot_tuple_getitem ht.typeIs entry_tuple_getitem ?_ (args_tuple_getitem _ _)))
  show wpAny _ _ (Builtin.Tuple.tupleItemsOf (.ref t) >>= _) _ _ s
  refine wpAny_bind (tupleItemsOf_ ht (wpAny_bind (wpAny_typeOf hTs ?_)))
  rw [if_pos (by decide)]
  refine wpAny_bind (applied_back hs pl pu ps ?_)
  have hno : ¬ ((((items.size : Int) - 1) == 0 && (-1 : Int) == 1 && items.size == items.size) = true) := by
    intro q
    rw [Bool.and_eq_true, Bool.and_eq_true] at q
    exact absurd q.1.2 (by decide)
  show wpAny _ _ (if ((((items.size : Int) - 1) == 0 && (-1 : Int) == 1 && items.size == items.size) = true) then _ else _) _ _ s
  rw [if_neg hno]
  have e := pick_back items
  first
    | (rw [e]; exact wpAny_bind (m := Builtin.Tuple.tupleExact _) (wpAny_newObj_type (wpAny_pure ⟨_, rfl, wpAny_pure h⟩) hok))
    | (rw [e]; exact wpAny_bind (m := Builtin.Tuple.tupleExact _) (wpAny_newObj_type (wpAny_bind (wpAny_pure (wpAny_pure ⟨_, rfl, wpAny_pure h⟩))) hok))
    | (rw [e]; exact wpAny_bind (wpAny_bind (m := Builtin.Tuple.tupleExact _) (wpAny_newObj_type (wpAny_pure (wpAny_pure ⟨_, rfl, wpAny_pure h⟩)) hok)))
    | (rw [e]; exact wpAny_bind (wpAny_bind (m := Builtin.Tuple.tupleExact _) (wpAny_newObj_type (wpAny_pure ⟨_, rfl, wpAny_pure h⟩) hok)))
end
def tRevT (K : PySem.W.Frag) (te : TE) : TE := fun σ H Q => te σ H fun x H1 => ∃ a xs, x = .ref a ∧ SqT K H1 a xs ∧ ∀ p, H1 p = none → Q (.ref p) (upd H1 p (.tup xs.reverse))
theorem pe_revT {X : Cx} {e : Expr} {te : TE} {k : Nat} {p1 p2 p3 pos : Pos} (he : PE X e te) : PE X (.Subscript e (.Slice none none (some (.UnaryOp .USub (.Constant (.int 1) k p1) p2)) p3) pos) (tRevT X.K te) := by
  refine ⟨fun pins s σ H Q I h => ?_⟩
  refine Subscript_ (thn (he.run pins s σ H _ I h) fun v s1 ⟨x, H1, I1, r1, a, xs, ex, hx, q⟩ => ?_)
  subst ex
  cases r1
  have hst : PO X (some (.UnaryOp .USub (.Constant (.int 1) k p1) p2)) (tPart (tUn (rU fun i => .int (-i)) (tC (.int 1)))) := po_some (pe_un un_neg pe_int)
  refine wpAny_Slice (thn (po_none.run pins s1 σ H1 (fun o H2 => o = none ∧ H2 = H1) I1 ⟨rfl, rfl⟩) fun vl s2 ⟨l, H2, I2, pl, el, e2⟩ => ?_)
  subst el e2
  refine thn (po_none.run pins s2 σ H2 (fun o H3 => o = none ∧ H3 = H2) I2 ⟨rfl, rfl⟩) fun vu s3 ⟨u, H3, I3, pu, eu, e3⟩ => ?_
  subst eu e3
  refine thn (hst.run pins s3 σ H3 (fun o H4 => o = some (-1) ∧ H4 = H3) I3 ⟨1, rfl, -1, rfl, rfl, rfl⟩) fun vs s4 ⟨o, H4, I4, ps, eo, e4⟩ => ?_
  subst eo e4
  have I5 : Inv X pins σ H4 { s4 with heap := s4.heap.push { cls := .type "slice", data := .fields #[vl, vu, vs] } } := I4.kept (t' := s4.toks) fun b ob q => Heap.get?_push_of_some _ q
  obtain ⟨its, r, ht, hz⟩ := I5.tuple hx
  have hlen := r.length
  show wpAny (model X.prog X.w) X.A (subscriptTail e (.Slice none none (some (.UnaryOp .USub (.Constant (.int 1) k p1) p2)) p3) (.ref a) (.ref s4.heap.objs.size)) (EP X pins σ Q) X.xe { s4 with heap := s4.heap.push { cls := .type "slice", data := .fields #[vl, vu, vs] } }
  refine tail_any (ops := [.ref a, .ref s4.heap.objs.size]) ht.typeIs (PyProof.Rows.slot_tuple_getitem.lookup) ?_ (by with_unfolding_all rfl)
  refine getTup_back ht (Heap.IsSliceOf.new _ vl vu vs) pl pu ps (by rw [List.size_toArray]; omega) ?_
  refine ⟨.ref _, _, I5.laid (t' := s4.toks) (o := .tup xs.reverse) (fun b ob q => Heap.get?_push_of_some _ q) (Nat.le_refl _) ?_, rfl, q _ (I5.hok.fresh (Nat.le_refl _))⟩
  exact ⟨by rw [List.length_reverse]; exact hz, its.toArray.toList.reverse, r.reverse, ⟨_, Heap.get?_push_size _ rfl, rfl, 0, rfl⟩⟩
end OwR
end
section
namespace OwR
open PySem PySem.Spec PyProof.Rows L2
/-! ### def f(a, .., **d), called without keywords: an empty dict beside -/
section
variable {CX : CXT} {P : Program} {w : World} {K : PySem.W.Frag} {mg : Str → Option Value} {base : Heap} {k : Nat} {f : Addr} {name qual : Str} {params : Arguments} {body : List Stmt} {scope : Scope} {dV kV doc pm cdv ct oc : Value} {an od : Option Addr}
  {osl : Array (Option Value)} {N ps : List Str} {sp : Sp}
theorem fn_kw {pd : Str} (lk : K.lookup f = some ⟨oc, od, .func (PySem.W.fnOf name qual params body scope dV kV doc pm an cdv ct), osl⟩) (hcd : PySem.W.codeIn K cdv qual = true) (S : FnScope N (ps ++ [pd]) scope) (hCX : StX.CXUp CX)
    (hb : ∀ us : List Value, us.length = ps.length → bindArgs (PySem.W.fnOf name qual params body scope dV kV doc pm an cdv ct) ⟨us, []⟩ = ((alloc ({ cls := .type "dict", data := .dict #[] } : Obj) : Sem Addr) >>= fun d => pure (ps.zip us ++ [(pd, Value.ref d)])))
    (hbody : ∀ (A : Around) (outer : List Env) (s : Shared) (H : Hp) (vs : List V) (Q : VK) (E : XK), Room k (A.deeper (envOfC qual scope s.heap.objs.size f cdv)) → sp vs H Q E →
      ∃ t, PSs (cxOf CX P w K mg base N qual scope f cdv A outer s H E) body t ∧ t { nx := fun _ H' => Q .non H', rt := Q } (start N vs) H) :
    FnR P w K mg base CX (k + 1) f (fun vs H Q E => vs.length = ps.length ∧ ∀ d, H d = Option.none → sp (vs ++ [V.ref d]) (upd H d (.dK [])) Q E) := by
  intro A outer s H us vs Q E hr e0 r hsp
  obtain ⟨hl, hq⟩ := hsp
  have hn : H s.heap.objs.size = Option.none := e0.hok.fresh (Nat.le_refl _)
  have hl1 : us.length = ps.length := by rw [← r.length]; exact hl
  refine StX.run_bnd lk hcd S hr e0 (G := fun xs H2 => ∃ d, H d = Option.none ∧ xs = vs ++ [V.ref d] ∧ H2 = upd H d (.dK [])) (fun A' Ex Q' h => ?_) fun s2 H2 xs ⟨d, hd, ex, eH⟩ hr' => ?_
  · rw [hb us hl1]
    refine wpAny_bind (wpAny_alloc (wpAny_pure ?_))
    have e1 := StX.env0_laid (u := .dK []) (o := ({ cls := .type "dict", data := .dict #[] } : Obj)) e0 (dk_empty _ (StX.env0_big e0))
    have un := StX.un_laid (fs := frs outer) (s := s) (o := ({ cls := .type "dict", data := .dict #[] } : Obj)) (u := .dK []) hn
    have z := h _ _ (vs ++ [V.ref s.heap.objs.size]) (us ++ [Value.ref s.heap.objs.size]) e1 un rfl (fun e s' => hCX outer s H _ _ E e s' un (fun b o q => Heap.get?_push_of_some _ q) rfl) (r.append (.cons rfl .nil))
      (by rw [List.length_append, List.length_append, hl] <;> rfl) ⟨_, hn, rfl, rfl⟩
    rw [List.zip_append hl1.symm] at z
    exact z
  · subst ex eH
    exact hbody A outer s2 _ _ Q E hr' (hq d hd)
/-! ### a def called where no guard stands (repr of lists wants that) -/
def FnG (P : Program) (w : World) (K : PySem.W.Frag) (mg : Str → Option Value) (base : Heap) (CX : CXT) (k : Nat) (f : Addr) (fd : FuncData) (ps : List Str) (sp : Sp) : Prop :=
  ∀ (A : Around) (outer : List Env) (s : Shared) (H : Hp) (args : Args) (us : List Value) (vs : List V) (Q : VK) (E : XK), A.guards = some [] → Room k A → Env0 P w K mg base A outer s H → BindsTo s fd args (ps.zip us) → Vals vs us → sp vs H Q E →
    codeAny (model P w) A (.call (.ref f) args) (CR CX outer P w H s Q E) s
theorem fn_ofG (lk : K.lookup f = some ⟨oc, od, .func (PySem.W.fnOf name qual params body scope dV kV doc pm an cdv ct), osl⟩) (hcd : PySem.W.codeIn K cdv qual = true) (S : FnScope N ps scope)
    (len : ∀ vs H Q E, sp vs H Q E → vs.length = ps.length)
    (hbody : ∀ (A : Around) (outer : List Env) (s : Shared) (H : Hp) (vs : List V) (Q : VK) (E : XK), A.guards = some [] → Room k (A.deeper (envOfC qual scope s.heap.objs.size f cdv)) → sp vs H Q E →
      ∃ t, PSs (cxOf CX P w K mg base N qual scope f cdv A outer s H E) body t ∧ t { nx := fun _ H' => Q .non H', rt := Q } (start N vs) H) :
    FnG P w K mg base CX (k + 1) f (PySem.W.fnOf name qual params body scope dV kV doc pm an cdv ct) ps sp := by
  intro A outer s H args us vs Q E hgd hr e0 hb r hsp
  have hl := len _ _ _ _ hsp
  have KS : K.In s.heap := e0.mod.kin.keeps fun b o e => (e0.bs b o e).1
  have lims : s.heap.NoLimit := e0.mod.nolimit.keeps fun b o e => (e0.bs b o e).1
  have kinds : ∀ y ∈ ps.zip us, scope.names.lookup y.1 = some .local ∨ (scope.names.lookup y.1 = some .cell ∧ ((cellsFrom (s.heap.objs.size + 1) scope.names []).lookup y.1).isSome = true) := fun y hy =>
    (S.par y.1 (List.of_mem_zip hy).1).imp id fun q => ⟨q, PySem.W.cellsFrom_some _ _ _ (.inl q)⟩
  refine codeAny_call_function hr.depth (KS _ _ lk) rfl S.co S.gen rfl (PySem.W.codeRec_of KS hcd) (hb _ _ _ _ ?_)
  refine wpAny_newFunctionEnv_cells S.kind kinds fun env he s1 x => ?_
  subst he
  refine ⟨lims.keeps x.toInCall.keep, codeAny_func ?_⟩
  obtain ⟨t, ht, hq⟩ := hbody A outer s H vs Q E hgd (hr.deeper _) hsp
  have I : Inv (cxOf CX P w K mg base N qual scope f cdv A outer s H E) [] (start N vs) H s1 := inv_start S hr.hd e0 hl r x
  refine wpAny_mono (ht.run [] s1 (start N vs) H _ I hq) (fun fl s' hs => ?_) fun _ _ z => z
  have done : ∀ {σ' : L2.St} {H' : Hp} {v : V} {u : Value}, Inv (cxOf CX P w K mg base N qual scope f cdv A outer s H E) [] σ' H' s' → RelV v u → Q v H' → CE outer P w H s Q u s' :=
    fun {σ' H' v u} J rv q => ⟨v, H', J.os, J.bare, J.base, J.hok, rv, q⟩
  cases fl with
  | ret u =>
    obtain ⟨v, σ', H', J, rv, q⟩ := hs
    exact done J rv q
  | next =>
    obtain ⟨σ', H', J, q⟩ := hs
    exact done (v := V.non) (u := Value.none) J rfl q
  | brk => exact (hs.elim fun _ z => z.elim fun _ z => z.2.elim)
  | cont => exact (hs.elim fun _ z => z.elim fun _ z => z.2.elim)
end
/-! ### repr of data -/
def rReprD (K : PySem.W.Frag) : List V → Hp → VK → Prop := fun vs H Q => ∃ a d, vs = [V.ref a] ∧ Dp K H (.ref a) d ∧ d.showable = true ∧ d.hasDict = false ∧ d.depth ≤ 64 ∧ d.shown.length ≤ sizeLine ∧ Q (.str d.shown) H
theorem cr_reprD {X : Cx} (hg : X.A.guards = some []) (hu : X.A.units + 70 < cLine) : CallR X (.builtin "repr") (rReprD X.K) := by
  intro pins s σ H vs us Q I r h
  obtain ⟨a, d, rfl, hd, hs, hnd, hdp, hsz, q⟩ := h
  rw [Vals.ref1 r]
  obtain ⟨as, R⟩ := Dp.reads I d _ (.ref a) hd rfl
  refine repr_of_reads' R hs (fun z => by rw [hnd] at z; cases z) hg (by omega) (fun _ _ e => e) (fun h' u tk k => ?_) hsz
  exact ⟨.str d.shown, H, I.kept (t' := tk) k, ⟨u, rfl⟩, q⟩
/-! ### an object called with keywords alone -/
theorem callOK_of {M : Model} {A : Around} {E : Value → Shared → Prop} {s : Shared} {a : Addr} {pos : Pos} {Q : Value → Shared → Prop} {args : List (Bool × Sem Value)} {kws : List (Option Str × Sem Value)} (hpl : (args.any (·.1) || kws.any (·.1.isNone)) = false)
    (h : wpAny M A (evalArgs (.ref a) true args kws) (fun z s₁ => (∃ C ox od, PySem.W.InstAt s₁.heap a ox C od ∧ ox.data = .plain) ∧ wpAny M A (call (.ref a) ([] ++ z.pos) z.kw) Q E s₁) E s) : wpAny M A (callWith pos (.ref a) [] args kws) Q E s := by
  unfold callWith
  refine wpAny_bind (wpAny_holding (wpAny_mono h (fun z s₂ h₁ => wpAny_bind (wpAny_standAt ?_)) fun _ _ y => y))
  obtain ⟨⟨C, ox, od, J, hd⟩, h₂⟩ := h₁
  have L := PySem.W.kco_keeper (M := M) J hd
  simp only [hpl]
  refine wpAny_bind (L.here ?_)
  have rest : ∀ {t : Sem Value}, wpAny M A t Q E s₂ → wpAny M A (t >>= fun r => holding [r] point >>= fun _ => pure r) Q E s₂ :=
    fun ht => wpAny_bind (wpAny_mono ht (fun _ _ hr => wpAny_bind (wpAny_holding (wpAny_point (wpAny_pure hr)))) fun _ _ y => y)
  exact rest (wpAny_operateT h₂)
section
variable {X : Cx} {CX : CXT} {k : Nat} {C g : Addr} {fd : FuncData} {ps ks : List Str} {sp : Sp} {E : XK} {fe : Expr} {kws : List Keyword} {tf : TE} {tk : TA} {pos : Pos} {gg : List Value → List Value → List Value} {gV : List V → List V → List V}
def tCallOK (X : Cx) (C : Addr) (sp : Sp) (gV : List V → List V → List V) (E : XK) (tf : TE) (tk : TA) : TE := fun σ H Q => tf σ H fun y H1 => ∃ a, y = V.ref a ∧ tk σ H1 fun zs H2 => StX.InsC X H2 a C ∧ sp (gV [V.ref a] zs) H2 Q E
theorem pe_callOK (hf : PE X fe tf) (c : StX.CallO X.K C g) (F : FnOk X.prog X.w X.K X.mg X.base CX k g fd ps sp) (hr : Room k X.A) (hb : KBinds X.K fd ps ks gg gV) (hx : Passes CX X E) (hkw : PK X kws tk)
    (ht : eval (.Call fe [] kws pos) X.env = (do callWith pos (← eval fe X.env) [] (backTo pos (starEach [] X.env)) (backToKw pos (keywordEach kws X.env))) := by rfl)
    (hall : (backToKw pos (keywordEach kws X.env)).all (·.1.isSome) = true := by rfl) (hks : (backToKw pos (keywordEach kws X.env)).filterMap (·.1) = ks := by rfl)
    (hpl : ((backTo pos (starEach [] X.env)).any (·.1) || (backToKw pos (keywordEach kws X.env)).any (·.1.isNone)) = false := by rfl) : PE X (.Call fe [] kws pos) (tCallOK X C sp gV E tf tk) := by
  refine ⟨fun pins s σ H Q I h => ?_⟩
  rw [ht]
  refine wpAny_bind (thn (hf.run pins s σ H _ I h) fun u s1 ⟨y, H1, I1, ry, a, ey, q⟩ => ?_)
  subst ey
  obtain rfl : u = Value.ref a := ry
  refine callOK_of hpl (evalArgs_kw2_nil hall (thn (hkw.run pos pins s1 σ H1 _ I1 q) fun ws s2 ⟨zs, H2, I2, rz, hi, q2⟩ => ?_))
  obtain ⟨ox, od, J, hd⟩ := StX.insC_at I2 hi
  refine ⟨⟨C, ox, od, J, hd⟩, ?_⟩
  rw [hks]
  have r1 : Vals [V.ref a] [Value.ref a] := .cons rfl .nil
  have r2 := hb.rel r1 rz
  have hl : (gg [Value.ref a] ws).length = ps.length := by rw [← r2.length]; exact F.len _ _ _ _ q2
  refine wpAny_call (PySem.W.kco_code I2.kIn J hd c.at_ c.fn c.fi (codeAny_mono (F.run X.A X.stack s2 H2 ⟨[.ref a], ks.zip ws⟩ (gg [.ref a] ws) (gV [.ref a] zs) Q E hr I2.env0 (hb.to s2 [.ref a] ws I2.kIn hl) r2 q2) fun r s' hq => ?_))
  cases r with
  | error e => exact hx pins σ H2 s2 e s' I2 hq
  | ok fl =>
    cases fl with
    | ret u => exact I2.after hq
    | next => exact False.elim hq
    | brk => exact False.elim hq
    | cont => exact False.elim hq
end
end OwR
end
section
/-! Own: a law by a promise that wants no guard about it, where lambdas are made: with the tables of the code that makes them. -/
namespace OwR
open PySem PySem.Spec PyProof.Rows L2
abbrev tabO : Obj := { cls := .none, data := .fields #[] }
/-- what is followed: the script where the written part does not hold it, the tables -/
def scrT (K : PySem.W.Frag) (a : Addr) (ob : Obj) (xs : List V) (ts : List Addr) : Hp := fun b => if b = a then (if K.lookup a = none then some (.frz ob (.lst xs)) else none) else if b ∈ ts then some (.tbl #[]) else none
theorem scrT_cases (K : PySem.W.Frag) (a : Addr) (ob : Obj) (xs : List V) (ts : List Addr) (b : Addr) : scrT K a ob xs ts b = none ∨ (b = a ∧ K.lookup a = none ∧ scrT K a ob xs ts b = some (.frz ob (.lst xs))) ∨ (b ≠ a ∧ b ∈ ts ∧ scrT K a ob xs ts b = some (.tbl #[])) := by
  unfold scrT
  by_cases c : b = a
  · rw [if_pos c]
    by_cases d : K.lookup a = none
    · rw [if_pos d]
      exact .inr (.inl ⟨c, d, rfl⟩)
    · rw [if_neg d]
      exact .inl rfl
  · rw [if_neg c]
    by_cases d : b ∈ ts
    · rw [if_pos d]
      exact .inr (.inr ⟨c, d, rfl⟩)
    · rw [if_neg d]
      exact .inl rfl
theorem law_callTG {P : Program} {w : World} {K : PySem.W.Frag} {mg mb : Str → Option Value} {k : Nat} {fn a : Addr} {cs : List (Addr × Addr)} {fd : FuncData} {x : Str} {sp : Sp} {t : Shared} {us : List Value} {zs : List Int} (hK : K.In t.heap) (hG : t.heap.Ns mainGlobals mg)
    (hB : t.heap.Ns builtinsNs mb) (hBB : ∀ y : Str, y ≠ "__name__" → mb y = bootBuiltins y) (hL : t.heap.NoLimit) (hN : t.gens = #[]) (hO : t.heap.get? a = some ({ cls := .type "list", data := .seq us.toArray } : Obj)) (hI : IntsAre us zs)
    (hT : ∀ e ∈ cs, t.heap.get? e.2 = some tabO) (hX : ∀ e ∈ cs, K.lookup e.2 = none) (hC : ∀ e ∈ cs, PySem.W.CodeHd t.heap e.1 e.2)
    (hM : ∃ (m : Addr) (mo : Obj), mg "__builtins__" = some (.ref m) ∧ m ≠ builtinsNs ∧ t.heap.get? m = some mo ∧ mo.cls = .type "module" ∧ mo.dict = some builtinsNs ∧ mo.data = .plain)
    (hz : zs.length ≤ sizeLine) (hr : Room k callerA) (F : ∀ base : Heap, K.In base → base.Ns mainGlobals mg → (∀ e ∈ cs, LamX.TabB base mg e.1 e.2) → FnG P w K mg base CX0 k fn fd [x] sp) (hb : ∀ (s : Shared) (u : Value), BindsTo s fd ⟨[u], []⟩ [(x, u)])
    (hS : ∀ G : Hp, (∀ e ∈ cs, G e.2 = some (.tbl #[])) → SqL K G a (zs.map V.int) → sp [.ref a] G (fun v _ => v = .bl true) fun _ _ _ => False) :
    codeAny (model P w) callerA (.call (.ref fn) ⟨[.ref a], []⟩) (fun r s' => r = .ok (.ret (.bool true)) ∧ OldK t.heap s'.heap ∧ s'.os = t.os ∧ AllBare s'.gens) t := by
  have rel := vals_ints hI
  have le := hI.length
  obtain ⟨ts, ets⟩ : ∃ ts, ts = cs.map (·.2) := ⟨_, rfl⟩
  have atT : ∀ b, b ∈ ts → t.heap.get? b = some tabO ∧ K.lookup b = none ∧ ∃ e ∈ cs, e.2 = b := fun b hb => by
    rw [ets] at hb
    obtain ⟨e, he, rfl⟩ := List.mem_map.mp hb
    exact ⟨hT e he, hX e he, e, he, rfl⟩
  have inT : ∀ e ∈ cs, e.2 ∈ ts := fun e he => by
    rw [ets]
    exact List.mem_map.mpr ⟨e, he, rfl⟩
  have aT : ∀ e ∈ cs, e.2 ≠ a := fun e he q => by
    have h := hT e he
    rw [q, hO] at h
    cases h
  obtain ⟨G, eG⟩ : ∃ G, G = scrT K a ({ cls := .type "list", data := .seq us.toArray } : Obj) (zs.map V.int) ts := ⟨_, rfl⟩
  have three : ∀ b, G b = none ∨ (b = a ∧ K.lookup a = none ∧ G b = some (.frz { cls := .type "list", data := .seq us.toArray } (.lst (zs.map V.int)))) ∨ (b ≠ a ∧ b ∈ ts ∧ G b = some (.tbl #[])) := fun b => by
    rw [eG]
    exact scrT_cases K a _ _ ts b
  have GT : ∀ e ∈ cs, G e.2 = some (.tbl #[]) := fun e he => by
    rw [eG]
    unfold scrT
    rw [if_neg (aT e he), if_pos (inT e he)]
  have sq : SqL K G a (zs.map V.int) := by
    cases l : K.lookup a with
    | some ob =>
      have e := (hK a ob l).symm.trans hO
      cases e
      exact .inr ⟨_, us.toArray, _, l, rfl, rfl, rfl, by rw [List.size_toArray, le]; exact hz, by simpa using rel⟩
    | none =>
      refine .inl (.inr ⟨({ cls := .type "list", data := .seq us.toArray } : Obj), ?_⟩)
      rw [eG]
      unfold scrT
      rw [if_pos rfl, if_pos l]
  have gone : ∀ {b : Addr} {ob : Obj}, t.heap.get? b = some ob → (∀ vs n, ob.data ≠ .seq vs n) → ob.data ≠ .fields #[] → G b = none := fun {b ob} e nd nf => by
    rcases three b with c | ⟨rfl, _, _⟩ | ⟨_, hb, _⟩
    · exact c
    · rw [hO] at e
      cases e
      exact absurd rfl (nd us.toArray 0)
    · rw [(atT b hb).1] at e
      cases e
      exact absurd rfl nf
  have nsp : ∀ {b : Addr} {m : Str → Option Value}, t.heap.Ns b m → (hidT t.heap G).Ns b m := fun {b m} h => by
    obtain ⟨ob, es, ep, e1, e2, e3⟩ := h
    exact ⟨ob, es, ep, hidT_get e1 (gone e1 (fun vs n q => by rw [e2] at q; cases q) fun q => by rw [e2] at q; cases q), e2, e3⟩
  have kin : K.In (hidT t.heap G) := fun b ob l => hidT_get (hK b ob l) (by
    rcases three b with c | ⟨rfl, c, _⟩ | ⟨_, hb, _⟩
    · exact c
    · rw [c] at l
      cases l
    · rw [(atT b hb).2.1] at l
      cases l)
  have lim : (hidT t.heap G).NoLimit := by
    obtain ⟨mc, h1, h2⟩ := hL
    exact ⟨mc, nsp h1, h2⟩
  have ok : HOk P w G t.heap := fun b u e => by
    rcases three b with c | ⟨rfl, _, c⟩ | ⟨_, hb, c⟩
    · rw [c] at e
      cases e
    · rw [c] at e
      cases e
      exact ⟨hO, by rw [List.length_map]; exact hz, us, _, rel, hO⟩
    · rw [c] at e
      cases e
      exact (atT b hb).1
  have env : Env0 P w K mg (hidT t.heap G) callerA [] t G := { frames := rfl, mod := ⟨kin, nsp hG, ⟨mb, nsp hB, hBB⟩, lim⟩, bs := fun _ _ e => of_hidT e, bsz := Nat.le_of_eq (hidT_size _ _), funs := True.intro, frf := fun _ h => absurd h List.not_mem_nil, hok := ok, bare := .of_eq hN }
  have TB : ∀ e ∈ cs, LamX.TabB (hidT t.heap G) mg e.1 e.2 := fun e he => by
    have hP := hT e he
    constructor
    · obtain ⟨co, cv, fi, tf, fl, tg, nf, tx, tt, q0, q1, q2, q3, q4, q5, q6, q7, q8, q9⟩ := hC e he
      have gc : G e.1 = none := gone q0 (fun vs n q => by rw [q2] at q; cases q) fun q => by
        rw [q2] at q
        cases q
        simp at q3
      exact ⟨co, cv, fi, tf, fl, tg, nf, tx, tt, hidT_get q0 gc, q1, q2, q3, q4, q5, q6, q7, q8, q9⟩
    · obtain ⟨m, mo, b1, b2, b3, b4, b5, b6⟩ := hM
      have n1 : m ≠ mainGlobals := fun q => by
        obtain ⟨o, es, ep, e1, e2, _⟩ := hG
        rw [q, e1] at b3
        cases b3
        rw [e2] at b6
        cases b6
      have n2 : m ≠ e.2 := fun q => by
        rw [q, hP] at b3
        cases b3
        cases b6
      have gm : G m = none := gone b3 (fun vs n q => by rw [b6] at q; cases q) fun q => by
        rw [b6] at q
        cases q
      exact ⟨m, mo, b1, b2, n1, n2, hidT_get b3 gm, b4, b5, b6⟩
    · intro q
      obtain ⟨o, es, ep, e1, e2, _⟩ := hG
      rw [q, hP] at e1
      cases e1
      cases e2
  have run := F (hidT t.heap G) kin (nsp hG) TB callerA [] t G ⟨[.ref a], []⟩ [.ref a] [.ref a] _ _ rfl hr env (hb t (.ref a)) (.cons rfl .nil) (hS G GT sq)
  refine codeAny_mono run fun r s' h => ?_
  match r, h with
  | .error _, h => exact h.elim
  | .ok (.ret u), h =>
    obtain ⟨v, G', os, br, un, ok', rv, qv⟩ := h
    have ev : v = .bl true := qv
    subst ev
    obtain rfl : u = Value.bool true := rv
    have kept : ∀ b ob, b ∉ ts → t.heap.get? b = some ob → s'.heap.get? b = some ob := fun b ob nb e => by
      rcases three b with c | ⟨rfl, _, c⟩ | ⟨_, hb, _⟩
      · exact un.keep b ob e c List.not_mem_nil List.not_mem_nil
      · have e2 := (ok' b _ (un.frzs b _ _ c)).1
        rw [hO] at e
        cases e
        exact e2
      · exact absurd hb nb
    have more : ∀ e ∈ cs, ∃ vs : Array Value, s'.heap.get? e.2 = some ({ cls := .none, data := .fields vs } : Obj) := fun e he => by
      obtain ⟨vs, q⟩ := un.tbls e.2 #[] (GT e he)
      exact ⟨_, ok' e.2 _ q⟩
    refine ⟨rfl, ⟨fun b ob e => ?_, fun b ob e => ?_⟩, os, br⟩
    · by_cases hb : b ∈ ts
      · obtain ⟨et, _, q, hq, rfl⟩ := atT b hb
        obtain ⟨vs, em⟩ := more q hq
        rw [et] at e
        cases e
        exact .inr (.inl ⟨((hC q hq).tab et).isCodeTable, rfl, #[], vs, rfl, by rw [Array.empty_append]; exact em⟩)
      · exact .inl (kept b ob hb e)
    · by_cases hb : b ∈ ts
      · obtain ⟨_, _, q, hq, rfl⟩ := atT b hb
        obtain ⟨vs, em⟩ := more q hq
        exact ⟨_, em⟩
      · exact ⟨ob, kept b ob hb e⟩
/-- .. as the end of a law over a head by facts -/
theorem walk_ofTG {l : PySem.W.OpenLaw} {n k : Nat} {q : Program} {loose : List Str} {XP : (Str → Option Value) → Heap → Prop} {YP : World → Heap → Prop} {d : DefRec} {x : Str} (most : l.most = some n) (small : n ≤ sizeLine) (nodf : d.params.defaults = []) (room : Room k callerA)
    (F : ∀ (w : World) (mg : Str → Option Value) (fn : Addr) (h : Heap), YP w h → h.Ns mainGlobals mg → mg d.name = some (.ref fn) → ∃ (K : PySem.W.Frag) (fd : FuncData) (cs : List (Addr × Addr)) (sp : Sp), K.In h ∧ (∀ e ∈ cs, h.get? e.2 = some tabO) ∧ (∀ e ∈ cs, K.lookup e.2 = none) ∧ (∀ e ∈ cs, PySem.W.CodeHd h e.1 e.2) ∧
      (∀ (s : Shared) (u : Value), BindsTo s fd ⟨[u], []⟩ [(x, u)]) ∧ (∀ (G : Hp) (a : Addr) (zs : List Int), zs.length ≤ n → (∀ e ∈ cs, G e.2 = some (.tbl #[])) → SqL K G a (zs.map V.int) → sp [.ref a] G (fun v _ => v = .bl true) fun _ _ _ => False) ∧
      ∀ base : Heap, K.In base → base.Ns mainGlobals mg → (∀ e ∈ cs, LamX.TabB base mg e.1 e.2) → FnG l.prog w K mg base CX0 k fn fd [x] sp) :
    PySem.W.WalkO q loose XP YP l.row.toRowW d [] (fun f vs => PySem.call f vs) := by
  refine Att.attach_callB most nodf fun w s0 t mg mb fn o pm cd doc a us zs G Y _ _ _ hmg hO hI hz _ hN => ?_
  obtain ⟨K, fd, cs, sp, hK, hT, hX, hC, hb, hS, hF⟩ := F w mg fn _ Y G.T.g hmg
  exact law_callTG hK G.T.g G.T.b G.T.builtins G.T.nolimit hN hO hI hT hX hC G.T.bmain (Nat.le_trans hz small) room hF hb fun G' g sq => hS G' a zs hz g sq
end OwR
end
section
/-! What the end of the top says of named classes, of the records in them and of their defs. Own. -/
namespace OwH
open PySem PySem.Spec PyProof.Rows L2
/-- the def within a record (a class method, a static one, a property) -/
def inRec (K : PySem.W.Frag) (p : Addr) (kind : String) : Addr := match PySem.W.recIn K p kind with
  | some (.ref g :: _) => g
  | _ => 0
def recOk (K : PySem.W.Frag) (p : Addr) (kind : String) : Bool := match PySem.W.recIn K p kind with
  | some (.ref _ :: _) => true
  | _ => false
theorem recOk_ok {K : PySem.W.Frag} {p : Addr} {kind : String} (h : recOk K p kind = true) : ∃ rest, PySem.W.recIn K p kind = some (.ref (inRec K p kind) :: rest) := by
  unfold recOk at h
  unfold inRec
  cases e : PySem.W.recIn K p kind with
  | none =>
    rw [e] at h
    cases h
  | some l =>
    rw [e] at h
    match l, h with
    | .ref g :: r, _ => exact ⟨r, rfl⟩
def getB (x : Option PySem.W.CFound) (id : String) (p C : Addr) : Bool := match x with
  | some (.get (.builtin i) (.ref q) .none (.ref D)) => decide (i = id) && (decide (q = p) && decide (D = C))
  | _ => false
theorem getB_ok {x : Option PySem.W.CFound} {id : String} {p C : Addr} (h : getB x id p C = true) : x = some (.get (.builtin id) (.ref p) .none (.ref C)) := by
  unfold getB at h
  split at h
  · obtain ⟨h1, h2⟩ := Bool.and_eq_true_iff.mp h
    obtain ⟨h3, h4⟩ := Bool.and_eq_true_iff.mp h2
    rw [of_decide_eq_true h1, of_decide_eq_true h3, of_decide_eq_true h4]
  · cases h
def valB (x : Option PySem.W.CFound) (g : Addr) : Bool := match x with
  | some (.val (.ref q)) => decide (q = g)
  | _ => false
theorem valB_ok {x : Option PySem.W.CFound} {g : Addr} (h : valB x g = true) : x = some (.val (.ref g)) := by
  unfold valB at h
  split at h
  · rw [of_decide_eq_true h]
  · cases h
abbrev ga := He.ga
/-- what the class named x holds under m -/
def mo (K : PySem.W.Frag) (x m : Str) : Addr := He.ma K (ga K x) m
def fRead (x : Str) (K : PySem.W.Frag) : Bool := PySem.W.readsIn K (ga K x) (.type "type") && He.eqO (PySem.W.specialIn K (.ref (ga K x)) "__getattribute__") (some (some (.builtin "type.__getattribute__")))
def fCMet (x m : Str) (K : PySem.W.Frag) : Bool := getB (PySem.W.findCls K (.ref (ga K x)) (.type "type") m) "classmethod.__get__" (mo K x m) (ga K x) && (recOk K (mo K x m) "classmethod" && PySem.W.fnIn K (inRec K (mo K x m) "classmethod"))
def fCSta (x m : Str) (K : PySem.W.Frag) : Bool := getB (PySem.W.findCls K (.ref (ga K x)) (.type "type") m) "staticmethod.__get__" (mo K x m) (ga K x) && (recOk K (mo K x m) "staticmethod" && PySem.W.keepIn K (.ref (inRec K (mo K x m) "staticmethod")))
def fCFun (x m : Str) (K : PySem.W.Frag) : Bool := valB (PySem.W.findCls K (.ref (ga K x)) (.type "type") m) (mo K x m) && PySem.W.keepIn K (.ref (mo K x m))
def fSpc (x m : Str) (K : PySem.W.Frag) : Bool := He.eqO (PySem.W.findIn K (.ref (ga K x)) m) (some (some (.ref (mo K x m)))) && (PySem.W.isFn K (.ref (mo K x m)) && PySem.W.fnIn K (mo K x m))
def fProp (x m : Str) (K : PySem.W.Frag) : Bool := He.eqO (PySem.W.findIn K (.ref (ga K x)) m) (some (some (.ref (mo K x m)))) && (He.eqO (PySem.W.specialIn K (.ref (mo K x m)) "__get__") (some (some (.builtin "property.__get__"))) && (decide (PySem.W.takesIn K (.ref (mo K x m)) = some true) && recOk K (mo K x m) "property"))
section
variable {K : PySem.W.Frag} {x m : Str}
theorem two {a b : Bool} (h : (a && b) = true) : a = true ∧ b = true := Bool.and_eq_true_iff.mp h
theorem read_ok (h : fRead x K = true) : ClX.CRead K (ga K x) (.type "type") := ⟨(two h).1, He.eqO_ok (two h).2⟩
theorem cmet_ok (h : fCMet x m K = true) : ClX.CMet K (ga K x) (.type "type") m (mo K x m) (inRec K (mo K x m) "classmethod") := ⟨getB_ok (two h).1, recOk_ok (two (two h).2).1, (two (two h).2).2⟩
theorem csta_ok (h : fCSta x m K = true) : OwR.CSta K (ga K x) (.type "type") m (mo K x m) (inRec K (mo K x m) "staticmethod") := ⟨getB_ok (two h).1, recOk_ok (two (two h).2).1, (two (two h).2).2⟩
theorem cfun_ok (h : fCFun x m K = true) : OwR.CFun K (ga K x) (.type "type") m (mo K x m) := ⟨valB_ok (two h).1, (two h).2⟩
theorem spc_ok (h : fSpc x m K = true) : OwR.Spc K (ga K x) (mo K x m) m := ⟨He.eqO_ok (two h).1, (two (two h).2).1, (two (two h).2).2⟩
theorem callo_ok (h : fSpc x "__call__" K = true) : StX.CallO K (ga K x) (mo K x "__call__") := ⟨He.eqO_ok (two h).1, (two (two h).2).1, (two (two h).2).2⟩
theorem prop_ok (h : fProp x m K = true) : PropOf K (ga K x) m (mo K x m) (inRec K (mo K x m) "property") := ⟨He.eqO_ok (two h).1, He.eqO_ok (two (two h).2).1, of_decide_eq_true (two (two (two h).2).2).1, recOk_ok (two (two (two h).2).2).2⟩
end
/-! ### defs -/
structure DX where
  adr : PySem.W.Frag → Addr
  name : Str
  qual : Str
  st : Stmt
  dfl : List He.Dv
abbrev FX : Type := Option (Str × Str × Arguments × FuncBody × Scope × Addr × List (Str × Addr) × Value × Addr)
/-- a def; its defaults, where none stand (else they are asked by dflB) -/
def seeF (K : PySem.W.Frag) (a : Addr) (b : Bool) : FX := match K.lookup a with
  | some ⟨_, _, .func fd, _⟩ => some (fd.name, fd.qualname, fd.params, fd.body, fd.scope, fd.globals, fd.closure, (match b with | true => fd.defaults | false => .none), fd.builtins)
  | _ => none
def dflF (K : PySem.W.Frag) (a : Addr) (ds : List He.Dv) : Bool := match ds with
  | [] => true
  | d :: r => (match K.lookup a with
    | some ⟨_, _, .func fd, _⟩ => He.dflB K fd.defaults ((d :: r).map (He.Dv.v K))
    | _ => false)
def codB (K : PySem.W.Frag) (a : Addr) (qual : Str) : Bool := PySem.W.keepIn K (.ref a) && (match K.lookup a with
  | some ⟨_, _, .func fd, _⟩ => PySem.W.codeIn K fd.code qual
  | _ => false)
def DX.val (d : DX) : FX := some (d.name, d.qual, defArgs d.st, .stmts (defBody d.st), defScope d.st, mainGlobals, [], .none, builtinsNs)
def DX.see (K : PySem.W.Frag) (d : DX) : FX := seeF K (d.adr K) d.dfl.isEmpty
def DX.okB (K : PySem.W.Frag) (d : DX) : Bool := codB K (d.adr K) d.qual && dflF K (d.adr K) d.dfl
theorem DX.funD_ {K : PySem.W.Frag} {d : DX} (hd : d.dfl ≠ []) (h1 : d.see K = d.val) (h0 : d.okB K = true) : ∃ fd, FunD K d.name d.qual (defArgs d.st) (defBody d.st) (defScope d.st) (d.dfl.map (He.Dv.v K)) [] (d.adr K) fd := by
  obtain ⟨h2, hf⟩ := two h0
  obtain ⟨kp, cd⟩ := two h2
  unfold DX.see seeF at h1
  unfold dflF at hf
  rw [show d.dfl.isEmpty = false by cases hq : d.dfl <;> first | exact absurd hq hd | rfl] at h1
  cases hdl : d.dfl with
  | nil => exact absurd hdl hd
  | cons x r =>
    rw [hdl] at hf
    cases l : K.lookup (d.adr K) with
    | none =>
      rw [l] at cd
      cases cd
    | some ob =>
      obtain ⟨oc, od, dt, osl⟩ := ob
      dsimp only at hf
      rw [l] at h1 cd hf
      match dt, h1, cd, hf with
      | .func f, h1, cd, hf =>
        obtain ⟨a1, a2, a3, a4, a5, a6, a7, a8, a9, a10, a11, a12, a13, a14, a15⟩ := f
        have e : (some (a1, a2, a3, a4, a5, a6, a7, (.none : Value), a15) : FX) = some (d.name, d.qual, defArgs d.st, .stmts (defBody d.st), defScope d.st, mainGlobals, [], .none, builtinsNs) := h1
        injection e with e
        injection e with e1 e
        injection e with e2 e
        injection e with e3 e
        injection e with e4 e
        injection e with e5 e
        injection e with e6 e
        injection e with e7 e
        injection e with e8 e9
        subst e1 e2 e3 e4 e5 e6 e7 e9
        exact ⟨_, ⟨⟨oc, od, a8, a9, a10, a11, a12, a13, a14, osl, rfl, l, cd, He.dflB_ok hf, .inl rfl⟩, kp⟩⟩
theorem DX.fun_ {K : PySem.W.Frag} {d : DX} (hd : d.dfl = []) (h1 : d.see K = d.val) (h0 : d.okB K = true) : ∃ fd, Fun K d.name d.qual d.st (d.adr K) fd := by
  obtain ⟨h2, _⟩ := two h0
  obtain ⟨kp, cd⟩ := two h2
  unfold DX.see at h1
  rw [hd] at h1
  unfold seeF at h1
  cases l : K.lookup (d.adr K) with
  | none =>
    rw [l] at cd
    cases cd
  | some ob =>
    obtain ⟨oc, od, dt, osl⟩ := ob
    rw [l] at h1 cd
    match dt, h1, cd with
    | .func f, h1, cd =>
      obtain ⟨a1, a2, a3, a4, a5, a6, a7, a8, a9, a10, a11, a12, a13, a14, a15⟩ := f
      have e : (some (a1, a2, a3, a4, a5, a6, a7, a8, a15) : FX) = some (d.name, d.qual, defArgs d.st, .stmts (defBody d.st), defScope d.st, mainGlobals, [], .none, builtinsNs) := h1
      injection e with e
      injection e with e1 e
      injection e with e2 e
      injection e with e3 e
      injection e with e4 e
      injection e with e5 e
      injection e with e6 e
      injection e with e7 e
      injection e with e8 e9
      subst e1 e2 e3 e4 e5 e6 e7 e8 e9
      exact ⟨_, ⟨⟨oc, od, a9, a10, a11, a12, a13, a14, osl, rfl, l, cd⟩, kp⟩⟩
/-! ### the hook -/
abbrev AX : Type := Bool × List FX
def seeX (fa : List (PySem.W.Frag → Bool)) (fn : List DX) (K : PySem.W.Frag) : AX := ((fa.all fun f => f K) && fn.all fun d => d.okB K, fn.map fun d => d.see K)
def wantX (fn : List DX) : AX := (true, fn.map DX.val)
def placesX (xs : List Str) (g : Addr → Option Obj) : Nat → List Addr
  | 0 => (xs.map (ga (He.frG g [mainGlobals])))
  | n + 1 => He.growD g (placesX xs g n)
def partX (xs : List Str) (g : Addr → Option Obj) : PySem.W.Frag := He.frG g (mainGlobals :: PySem.cStatics :: placesX xs g 4)
def hookX (xs : List Str) (fa : List (PySem.W.Frag → Bool)) (fn : List DX) : PySem.W.Hook where
  α := AX
  obs := fun s => seeX fa fn (partX xs s.heap.get?)
  val := fun _ => wantX fn
  says := fun _ h => ∃ K : PySem.W.Frag, K.In h ∧ seeX fa fn K = wantX fn
  of := fun _ _ e => ⟨partX xs _, He.frG_in, e⟩
  keeps := fun _ _ _ p k => match p with
    | ⟨K, hK, c⟩ => ⟨K, PySem.W.Frag.In.keeps hK k, c⟩
theorem seeX_eq {xs : List Str} {fa : List (PySem.W.Frag → Bool)} {fn : List DX} {g : Addr → Option Obj} {s : Shared} (h : ∀ a, g a = s.heap.get? a) : seeX fa fn (partX xs g) = (hookX xs fa fn).obs s := by
  have e : g = s.heap.get? := funext h
  subst e
  rfl
section
variable {fa : List (PySem.W.Frag → Bool)} {fn : List DX} {K : PySem.W.Frag}
theorem fact (c : seeX fa fn K = wantX fn) (i : Nat) {f : PySem.W.Frag → Bool} (h : fa[i]? = some f := by rfl) : f K = true :=
  List.all_eq_true.mp (two (congrArg Prod.fst c)).1 f (List.mem_of_getElem? h)
theorem def_ (c : seeX fa fn K = wantX fn) (i : Nat) {d : DX} (h : fn[i]? = some d := by rfl) (hd : d.dfl = [] := by rfl) : ∃ fd, Fun K d.name d.qual d.st (d.adr K) fd := by
  have h2 : d.okB K = true := List.all_eq_true.mp (two (congrArg Prod.fst c)).2 d (List.mem_of_getElem? h)
  have h3 : (fn.map fun d => d.see K)[i]? = (fn.map DX.val)[i]? := congrArg (fun z : AX => z.2[i]?) c
  rw [List.getElem?_map, List.getElem?_map, h] at h3
  exact DX.fun_ hd (Option.some.inj h3) h2
/-- a def with defaults -/
theorem defD_ (c : seeX fa fn K = wantX fn) (i : Nat) {d : DX} (h : fn[i]? = some d := by rfl) (hd : d.dfl ≠ [] := by simp) : ∃ fd, FunD K d.name d.qual (defArgs d.st) (defBody d.st) (defScope d.st) (d.dfl.map (He.Dv.v K)) [] (d.adr K) fd := by
  have h2 : d.okB K = true := List.all_eq_true.mp (two (congrArg Prod.fst c)).2 d (List.mem_of_getElem? h)
  have h3 : (fn.map fun d => d.see K)[i]? = (fn.map DX.val)[i]? := congrArg (fun z : AX => z.2[i]?) c
  rw [List.getElem?_map, List.getElem?_map, h] at h3
  exact DX.funD_ hd (Option.some.inj h3) h2
end
end OwH
end
section
/-! Own: what a value's repr is; a caught error's class and fields. -/
namespace OwE
open PySem PySem.Spec PyProof.Rows L2
inductive RepV (K : PySem.W.Frag) (H : Hp) : V → Str → Prop where
  | non : RepV K H .non "None"
  | bl (b : Bool) : RepV K H (.bl b) (if b then "True" else "False")
  | int {i : Int} (h : i.natAbs.log2 < 1920) : RepV K H (.int i) (toString i)
  | str {z : Str} (h : (reprText z).length ≤ sizeLine) : RepV K H (.str z) (reprText z)
  | dat {a : Addr} {d : PyData} (h : Dp K H (.ref a) d) (hs : d.showable = true) (hn : d.hasDict = false) (hd : d.depth ≤ 64) (hz : d.shown.length ≤ sizeLine) : RepV K H (.ref a) d.shown
  | dic {a : Addr} (h : H a = some (.dK [])) : RepV K H (.ref a) (PyData.dict []).shown
def rRepr (K : PySem.W.Frag) : List V → Hp → VK → Prop := fun xs H Q => ∃ v r, xs = [v] ∧ RepV K H v r ∧ Q (.str r) H
theorem empty_reads {P : Program} {w : World} {H : Hp} {h : Heap} {a : Addr} (ok : HOk P w H h) (e : H a = some (.dK [])) : Reads h (.ref a) (.dict []) ([a] ++ []) ∧ a ≠ sysModules := by
  obtain ⟨_, ns, vs, kv, o, es, ep, h1, h2, h3, h4⟩ := (show ObjOk P w H h a (.dK []) from ok a _ e)
  refine ⟨?_, fun q => by rw [q] at ns; simp at ns⟩
  have ev : vs = [] := by
    cases kv
    rfl
  subst ev
  have ee : es.toList = [] := by
    have p := h4.2.1
    generalize es.toList = l at p
    cases p
    rfl
  exact Reads.dict h1 h2.1 h3 (by rw [ee]; exact .nil) (by rw [ee]; exact .nil)
theorem cr_repr {X : Cx} (hg : X.A.guards = some []) (hu : X.A.units + 70 < cLine) : CallR X (.builtin "repr") (rRepr X.K) := by
  intro pins s σ H xs us Q I r h
  obtain ⟨v, t, rfl, rep, q⟩ := h
  obtain ⟨u, rfl, rx⟩ := vals1 r
  cases rep with
  | non =>
    cases (show u = Value.none from rx)
    exact PySem.P.repr_of_none ⟨.str _, H, I.tok _, ⟨_, rfl⟩, q⟩
  | bl b =>
    cases (show u = Value.bool b from rx)
    exact PySem.P.repr_of_bool ⟨.str _, H, I.tok _, ⟨_, rfl⟩, q⟩
  | @int i hz =>
    obtain ⟨t, rfl⟩ := (show ∃ t, u = Value.int i t from rx)
    exact PySem.P.repr_of_int hz ⟨.str _, H, I.tok _, ⟨_, rfl⟩, q⟩
  | @str z hz =>
    obtain ⟨t, rfl⟩ := (show ∃ t, u = Value.str z t from rx)
    exact PySem.P.repr_of_str ⟨.str _, H, I.tok _, ⟨_, rfl⟩, q⟩ hz
  | @dat a d hd hs hn hp hz =>
    exact OwR.cr_reprD hg hu pins s σ H _ _ Q I (.cons rx .nil) ⟨a, d, rfl, hd, hs, hn, hp, hz, q⟩
  | @dic a e =>
    cases (show u = Value.ref a from rx)
    obtain ⟨R, ns⟩ := empty_reads I.hok e
    refine repr_of_reads' R (by decide) (fun _ m => ?_) hg (by show X.A.units + (PyData.depth (.dict []) + 1) < cLine; have : PyData.depth (.dict []) ≤ 60 := by decide +kernel
                                                               omega) (fun _ _ z => z) (fun h' u tk k => ?_) (by decide +kernel)
    · rw [List.append_nil, List.mem_singleton] at m
      exact ns m.symm
    · exact ⟨.str _, H, I.kept (t' := tk) k, ⟨u, rfl⟩, q⟩
/-- all that an own error class must say, so that its caught errors are asked -/
structure ErrC (K : PySem.W.Frag) (C : Addr) : Prop where
  ox : OexC K C
  xf : XfC K C
  ha : PySem.W.findIn K (.ref C) "__class__" = some (some (.builtin "object.__class__"))
  hn : PySem.W.specialIn K (.builtin "object.__class__") "__get__" = some (some (.builtin "getset_descriptor.__get__"))
  ht : PySem.W.takesIn K (.builtin "object.__class__") = some true
  hm : PySem.W.mroIn K C (.type "object") = some true
theorem OexC.cl {K : PySem.W.Frag} {C : Addr} (T : OexC K C) : (PySem.W.clsIn K C).isSome = true := by
  obtain ⟨nm, q, N, bs, bm, sn, sub, ab, col, dd, k0, k1, k2, k3, k5, hC, hbm⟩ := T.cls
  unfold PySem.W.clsIn
  rw [hC] <;> rfl
/-- isinstance of the error that the suite holds -/
def rIsE (K : PySem.W.Frag) (a : Addr) (cls : Value) (d : Option Addr) : List V → Hp → VK → Prop := fun xs H Q => ∃ (c : V) (u : Value) (C dd : Addr) (fs : List (Str × V)) (b : Bool), xs = [.ref a, c] ∧ ClsV c u ∧ cls = .ref C ∧ ErrC K C ∧ d = some dd ∧ H dd = some (.xd fs) ∧
  PySem.W.kitOne K (.ref C) u = some b ∧ Q (.bl b) H
theorem call_isE {X : Cx} {a : Addr} {cls : Value} {d : Option Addr} {oe : Obj} {pn : List (Addr × Obj)} (hz : Zc cls d oe) (hf : ∃ vs, oe.data = .fields vs) : CallR (X.suite a ((a, oe) :: pn)) (.builtin "isinstance") (rIsE X.K a cls d) := by
  intro pins s σ H xs us Q I r h
  obtain ⟨c, cv, C, dd, fs, b, rfl, hcv, rfl, T, rfl, ed, e, q⟩ := h
  obtain ⟨u1, u2, rfl, r1, r2⟩ := vals2 r
  cases (show u1 = Value.ref a from r1)
  have e2 := hcv.eq r2
  subst e2
  obtain ⟨hget, _⟩ := I.pin (a, oe) (List.mem_append.mpr (.inl List.mem_cons_self))
  obtain ⟨vs, hv⟩ := hf
  obtain ⟨mA, hns, hr⟩ := (show ObjOk X.prog X.w H s.heap dd (.xd fs) from I.hok dd _ ed)
  obtain ⟨od, ho, hl⟩ := lookIn_ns hns
  have J : PySem.W.InstAt s.heap a oe C (some od) := ⟨hget, hz.1, by unfold PySem.W.notCls; rw [hv] <;> rfl, by rw [hz.2]; exact ho⟩
  exact PySem.W.kia_one (PySem.W.kitx_exc (OexC.cl T.ox) T.xf.ga T.xf.gg T.xf.exC T.ha T.hn T.ht T.hm) I.kIn J e (fun z => nomatch z) fun tk => ⟨.bl b, H, I.tok tk, rfl, q⟩
/-- err.f of the error that the suite holds -/
def tXe (K : PySem.W.Frag) (a : Addr) (cls : Value) (d : Option Addr) (f : Str) (te : TE) : TE := fun σ H Q => te σ H fun x H1 => x = .ref a ∧ ∃ (C dd : Addr) (fs : List (Str × V)) (v : V), cls = .ref C ∧ ErrC K C ∧ PySem.W.findIn K (.ref C) f = some none ∧ d = some dd ∧ H1 dd = some (.xd fs) ∧ fs.lookup f = some v ∧ Q v H1
theorem pe_xe {X : Cx} {a : Addr} {oe : Obj} {cls : Value} {d : Option Addr} {pn : List (Addr × Obj)} {e : Expr} {te : TE} {pos : Pos} {n : Str} (hz : Zc cls d oe) (hf : ∃ vs, oe.data = .fields vs) (he : PE (X.suite a ((a, oe) :: pn)) e te) (hb : attributeBase e n X.env (eval e X.env) = eval e X.env := by rfl) :
    PE (X.suite a ((a, oe) :: pn)) (.Attribute e n pos) (tXe X.K a cls d n te) := by
  refine ⟨fun pins s σ H Q I h => ?_⟩
  refine attr_of hb (thn (he.run pins s σ H _ I h) fun u s1 hh => ?_)
  obtain ⟨x, H1, I1, rx, ex, C, dd, fs, v, ec, T, hno, ed, ea, l, q⟩ := hh
  subst ex ec ed
  obtain rfl : u = Value.ref a := rx
  obtain ⟨ha, _⟩ := I1.pin (a, oe) (List.mem_append_left _ List.mem_cons_self)
  obtain ⟨vs, hd⟩ := hf
  obtain ⟨mA, hns, hr⟩ := (show ObjOk X.prog X.w H1 s1.heap dd (.xd fs) from I1.hok dd _ ea)
  obtain ⟨od, ho, hl⟩ := lookIn_ns hns
  obtain ⟨u, hu, ru⟩ := RelO.some_of (v := v) (o := mA n) (by rw [← l]; exact hr n)
  have J : PySem.W.InstAt s1.heap a oe C (some od) := ⟨ha, hz.1, by unfold PySem.W.notCls; rw [hd] <;> rfl, by rw [hz.2]; exact ho⟩
  exact HandSPX.exc_get I1.kIn J T.xf.ga T.xf.gg T.xf.exC (PySem.W.findObj_own T.xf.hdC hno rfl (by rw [hl, hu])) (handed_of ru) ⟨v, H1, I1.tok _, ru, q⟩
/-! ### an error class with one field, with two -/
def spErr1 (K : PySem.W.Frag) (f : Str) : Sp := fun vs H Q _ => ∃ (a C : Addr) (v : V), vs = [.ref a, v] ∧ OexC K C ∧ PySem.W.findIn K (.ref C) f = some none ∧ H a = some (exo a C none) ∧
  ∀ dx, H dx = none → dx ≠ a → Q .non (upd (upd H dx (exd dx [(f, v)])) a (exo a C (some dx)))
theorem err_heap {H : Hp} {a d C : Addr} {fs : List (Str × V)} (ne : d ≠ a) (ha : H a = none) : upd (del (upd (upd (upd H a (exo a C none)) d (exd d fs)) a (exo a C (some d))) a) d (.xd fs) = upd H d (.xd fs) := by
  funext b
  by_cases h1 : b = d
  · rw [h1, upd_same, upd_same]
  · rw [upd_ne h1, upd_ne h1]
    by_cases h2 : b = a
    · rw [h2, del_same, ha]
    · rw [del_ne h2, upd_ne h2, upd_ne h1, upd_ne h2]
theorem mk_err1 {K : PySem.W.Frag} {C : Addr} {f : Str} {v : V} {H : Hp} {E : XK} (T : OexC K C) (hno : PySem.W.findIn K (.ref C) f = some none) (k : ∀ d, H d = none → E (.ref C) (some d) (upd H d (.xd [(f, v)]))) :
    ([v] : List V).length ≤ 1000 ∧ ∀ a, H a = none → spErr1 K f (.ref a :: ([v] ++ [])) (upd H a (exo a C none)) (fun v H2 => v = .non ∧ ∃ (d : Addr) (fs : List (Str × V)), H2 a = some (exo a C (some d)) ∧ H2 d = some (exd d fs) ∧ H d = none ∧ E (.ref C) (some d) (upd (del H2 a) d (.xd fs))) (fun _ _ _ => False) := by
  refine ⟨by show (1 : Nat) ≤ 1000; decide, fun a ha => ⟨a, C, v, rfl, T, hno, upd_same, fun dx hd ne => ⟨rfl, dx, [(f, v)], upd_same, by rw [upd_ne ne, upd_same], ?_, ?_⟩⟩⟩
  · rw [upd_ne ne] at hd
    exact hd
  · rw [err_heap ne ha]
    rw [upd_ne ne] at hd
    exact k dx hd
end OwE
end
section
/-! Own: what the end of the top says, with the tables of the code of some defs. -/
namespace OwH
open PySem PySem.Spec PyProof.Rows L2
def codA (K : PySem.W.Frag) (f : Addr) : Addr := match K.lookup f with
  | some ⟨_, _, .func fd, _⟩ => (match fd.code with
    | .ref c => c
    | _ => 0)
  | _ => 0
theorem codA_eq {K : PySem.W.Frag} {f c : Addr} {oc : Value} {od : Option Addr} {osl : Array (Option Value)} {fd : FuncData} (lk : K.lookup f = some ⟨oc, od, .func fd, osl⟩) (e : fd.code = .ref c) : codA K f = c := by
  unfold codA
  rw [lk]
  show (match fd.code with | .ref c => c | _ => 0) = c
  rw [e]
/-- the code of the def at f, its table -/
def cTab (K : PySem.W.Frag) (f : Addr) : Addr × Addr := (codA K f, He.tabOf K (codA K f))
def tabsOk (g : Addr → Option Obj) (tf : List (PySem.W.Frag → Addr)) (K : PySem.W.Frag) : Bool := tf.all fun f => PySem.W.codeHdIn K (cTab K (f K)).1 (cTab K (f K)).2 && (match g (cTab K (f K)).2 with
  | some o => He.emptyTab o
  | none => false)
def partT (xs : List Str) (g : Addr → Option Obj) : PySem.W.Frag := He.frT g (mainGlobals :: PySem.cStatics :: placesX xs g 4)
structure SaysT (fa : List (PySem.W.Frag → Bool)) (fn : List DX) (tf : List (PySem.W.Frag → Addr)) (h : Heap) (K : PySem.W.Frag) : Prop where
  see : seeX fa fn K = wantX fn
  hd : ∀ f ∈ tf, PySem.W.codeHdIn K (cTab K (f K)).1 (cTab K (f K)).2 = true
  out : ∀ f ∈ tf, K.lookup (cTab K (f K)).2 = none
  empty : ∀ f ∈ tf, h.get? (cTab K (f K)).2 = some OwR.tabO
abbrev AT : Type := AX × Bool
def obsT (xs : List Str) (fa : List (PySem.W.Frag → Bool)) (fn : List DX) (tf : List (PySem.W.Frag → Addr)) (g : Addr → Option Obj) : AT := (seeX fa fn (partT xs g), tabsOk g tf (partT xs g))
theorem saysT_of {xs : List Str} {fa : List (PySem.W.Frag → Bool)} {fn : List DX} {tf : List (PySem.W.Frag → Addr)} {h : Heap} (e : obsT xs fa fn tf h.get? = (wantX fn, true)) : SaysT fa fn tf h (partT xs h.get?) := by
  have e1 : seeX fa fn (partT xs h.get?) = wantX fn := congrArg Prod.fst e
  have e2 : tabsOk h.get? tf (partT xs h.get?) = true := congrArg Prod.snd e
  have key : ∀ f ∈ tf, PySem.W.codeHdIn (partT xs h.get?) (cTab (partT xs h.get?) (f (partT xs h.get?))).1 (cTab (partT xs h.get?) (f (partT xs h.get?))).2 = true ∧ ∃ o, h.get? (cTab (partT xs h.get?) (f (partT xs h.get?))).2 = some o ∧ He.emptyTab o = true := fun f hf => by
    obtain ⟨h3, h4⟩ := two (List.all_eq_true.mp e2 f hf)
    refine ⟨h3, ?_⟩
    cases q : h.get? (cTab (partT xs h.get?) (f (partT xs h.get?))).2 with
    | none =>
      rw [q] at h4
      cases h4
    | some o =>
      rw [q] at h4
      exact ⟨o, rfl, h4⟩
  refine ⟨e1, fun f hf => (key f hf).1, fun f hf => ?_, fun f hf => ?_⟩
  · obtain ⟨_, o, q, z⟩ := key f hf
    exact He.frT_none q z
  · obtain ⟨_, o, q, z⟩ := key f hf
    rw [q, He.emptyTab_eq z]
def hookT (xs : List Str) (fa : List (PySem.W.Frag → Bool)) (fn : List DX) (tf : List (PySem.W.Frag → Addr)) : PySem.W.Hook where
  α := AT
  obs := fun s => obsT xs fa fn tf s.heap.get?
  val := fun _ => (wantX fn, true)
  says := fun _ h => ∃ K : PySem.W.Frag, K.In h ∧ SaysT fa fn tf h K
  of := fun _ _ e => ⟨_, He.frT_in, saysT_of e⟩
  keeps := fun _ _ _ p k => match p with
    | ⟨K, hK, c⟩ => ⟨K, PySem.W.Frag.In.keeps hK k, ⟨c.see, c.hd, c.out, fun f hf => k _ _ (c.empty f hf)⟩⟩
theorem obsT_eq {xs : List Str} {fa : List (PySem.W.Frag → Bool)} {fn : List DX} {tf : List (PySem.W.Frag → Addr)} {g : Addr → Option Obj} {s : Shared} (h : ∀ a, g a = s.heap.get? a) : obsT xs fa fn tf g = (hookT xs fa fn tf).obs s := by
  have e : g = s.heap.get? := funext h
  rw [e] <;> rfl
/-! ### facts of error classes -/
def oexB (K : PySem.W.Frag) (C : Addr) : Bool := match K.lookup C with
  | some ⟨.type t, _, .cls cd, sl⟩ => decide (t = "type") && (match cd.mro, sl.toList with
    | .ref D :: bm, [_, _, _, _, some (.builtin n), _] => decide (D = C) && (decide (n = "ValueError.__new__") && (cd.hasDict && (!cd.hasDel && PySem.HandSPX.refsVE bm)))
    | _, _ => false)
  | _ => false
theorem oexB_ok {K : PySem.W.Frag} {C : Addr} (h : oexB K C = true) : ∃ nm q N bs bm sn sub ab col dd k0 k1 k2 k3 k5, K.lookup C = some (excClassObj nm q C N bs bm true sn sub ab col dd k0 k1 k2 k3 k5 "ValueError.__new__") ∧ PySem.HandSPX.refsVE bm = true := by
  unfold oexB at h
  split at h
  · rename_i t dd cd sl ho
    obtain ⟨h1, h2⟩ := two h
    split at h2
    · rename_i D bm k0 k1 k2 k3 n k5 hm hs
      obtain ⟨a1, h3⟩ := two h2
      obtain ⟨a2, h4⟩ := two h3
      obtain ⟨a3, h5⟩ := two h4
      obtain ⟨a4, a5⟩ := two h5
      have e1 := of_decide_eq_true h1
      have e2 := of_decide_eq_true a1
      have e3 := of_decide_eq_true a2
      subst e1 e2 e3
      obtain ⟨nm, bs, mro, ns, qn, hd, sn, sub, ab, col, del⟩ := cd
      have esl : sl = #[k0, k1, k2, k3, some (.builtin "ValueError.__new__"), k5] := by
        obtain ⟨l⟩ := sl
        have hs : l = _ := hs
        rw [hs]
      have em : mro = .ref D :: bm := hm
      have ed : hd = true := a3
      have el : del = false := by
        cases del with
        | true => cases a4
        | false => rfl
      subst esl em ed el
      exact ⟨nm, qn, ns, bs, bm, sn, sub, ab, col, dd, k0, k1, k2, k3, k5, ho, a5⟩
    · cases h2
  · cases h
def fErr (x : Str) (K : PySem.W.Frag) : Bool := oexB K (ga K x) && (He.eqO (PySem.W.findIn K (.ref (ga K x)) "__setattr__") (some (some (.builtin "object.__setattr__"))) && (decide (PySem.W.typeIn K (.ref (ga K x)) = some (.type "type")) && (PySem.W.keepIn K (.ref (ga K x)) && (xfB K (ga K x) &&
  (He.eqO (PySem.W.findIn K (.ref (ga K x)) "__class__") (some (some (.builtin "object.__class__"))) && (He.eqO (PySem.W.specialIn K (.builtin "object.__class__") "__get__") (some (some (.builtin "getset_descriptor.__get__"))) &&
  (decide (PySem.W.takesIn K (.builtin "object.__class__") = some true) && decide (PySem.W.mroIn K (ga K x) (.type "object") = some true))))))))
theorem err_ok {x : Str} {K : PySem.W.Frag} (h : fErr x K = true) : OwE.ErrC K (ga K x) := by
  obtain ⟨a1, h⟩ := two h
  obtain ⟨a2, h⟩ := two h
  obtain ⟨a3, h⟩ := two h
  obtain ⟨a4, h⟩ := two h
  obtain ⟨a5, h⟩ := two h
  obtain ⟨a6, h⟩ := two h
  obtain ⟨a7, h⟩ := two h
  obtain ⟨a8, a9⟩ := two h
  have X := xfB_ok a5
  exact ⟨⟨oexB_ok a1, He.eqO_ok a2, X.exC, of_decide_eq_true a3, a4⟩, X, He.eqO_ok a6, He.eqO_ok a7, of_decide_eq_true a8, of_decide_eq_true a9⟩
/-- the class's __init__ is the def at its place -/
def fIni (x : Str) (K : PySem.W.Frag) : Bool := He.eqO (PySem.W.findIn K (.ref (ga K x)) "__init__") (some (some (.ref (mo K x "__init__")))) && decide (PySem.W.typeIn K (.ref (mo K x "__init__")) = some (.type "function"))
theorem ini_ok {x : Str} {K : PySem.W.Frag} (h : fIni x K = true) : PySem.W.findIn K (.ref (ga K x)) "__init__" = some (some (.ref (mo K x "__init__"))) ∧ PySem.W.typeIn K (.ref (mo K x "__init__")) = some (.type "function") := ⟨He.eqO_ok (two h).1, of_decide_eq_true (two h).2⟩
/-- no attribute of that name in the class -/
def fNoF (x n : Str) (K : PySem.W.Frag) : Bool := decide (PySem.W.findIn K (.ref (ga K x)) n = some none)
def fExm (x y : Str) (b : Bool) (K : PySem.W.Frag) : Bool := decide (PySem.W.exmOne K (.ref (ga K x)) (.ref (ga K y)) = some b)
def fKit (x y : Str) (b : Bool) (K : PySem.W.Frag) : Bool := decide (PySem.W.kitOne K (.ref (ga K x)) (.ref (ga K y)) = some b)
/-- what isinstance and the like ask of the objects of the class -/
def fIsC (x : Str) (K : PySem.W.Frag) : Bool := He.eqO (PySem.W.findIn K (.ref (ga K x)) "__class__") (some (some (.builtin "object.__class__"))) && (He.eqO (PySem.W.specialIn K (.builtin "object.__class__") "__get__") (some (some (.builtin "getset_descriptor.__get__"))) &&
  (decide (PySem.W.takesIn K (.builtin "object.__class__") = some true) && decide (PySem.W.mroIn K (ga K x) (.type "object") = some true)))
theorem isC_ok {x : Str} {K : PySem.W.Frag} (h : fIsC x K = true) : PySem.W.findIn K (.ref (ga K x)) "__class__" = some (some (.builtin "object.__class__")) ∧ PySem.W.specialIn K (.builtin "object.__class__") "__get__" = some (some (.builtin "getset_descriptor.__get__")) ∧ PySem.W.takesIn K (.builtin "object.__class__") = some true ∧ PySem.W.mroIn K (ga K x) (.type "object") = some true := by
  obtain ⟨a1, h⟩ := two h
  obtain ⟨a2, h⟩ := two h
  obtain ⟨a3, a4⟩ := two h
  exact ⟨He.eqO_ok a1, He.eqO_ok a2, of_decide_eq_true a3, of_decide_eq_true a4⟩
/-- the class (or one above it) has the def at its place as m -/
def fHas (x m : Str) (K : PySem.W.Frag) : Bool := He.eqO (PySem.W.findIn K (.ref (ga K x)) m) (some (some (.ref (mo K x m)))) && PySem.W.isFn K (.ref (mo K x m))
theorem has_ok {x m : Str} {K : PySem.W.Frag} (h : fHas x m K = true) : PySem.W.findIn K (.ref (ga K x)) m = some (some (.ref (mo K x m))) ∧ PySem.W.isFn K (.ref (mo K x m)) = true := ⟨He.eqO_ok (two h).1, (two h).2⟩
/-- != of the class is object's -/
def fNe (x : Str) (K : PySem.W.Frag) : Bool := He.eqO (PySem.W.findIn K (.ref (ga K x)) "__ne__") (some (some (.builtin "object.__ne__")))
theorem ne_ok {x : Str} {K : PySem.W.Frag} (h : fNe x K = true) : PySem.W.findIn K (.ref (ga K x)) "__ne__" = some (some (.builtin "object.__ne__")) := He.eqO_ok h
def fNot (x : Str) (t : PySem.W.Frag → Value) (K : PySem.W.Frag) : Bool := PySem.W.notFirst K (ga K x) (t K)
end OwH
end
section
/-! Operators and comparisons that an own class defines. -/
namespace OwR
open PySem PySem.Spec PyProof.Rows L2
/-- an own operator between instances of two own classes, neither below the other -/
theorem bin_two {prog : Program} {w : World} {A : Around} {E : Value → Shared → Prop} {s : Shared} {K : PySem.W.Frag} {x C D f f2 : Addr} {ox : Obj} {od : Option Obj} {op : Operator} {b : Value} {rc rd : Option Value} {Q : Value → Shared → Prop} (X : K.In s.heap) (I : PySem.W.InstAt s.heap x ox C od)
    (hb : PySem.W.Looks (model prog w) s.heap (typeOf b) (.ref D)) (ne : (Value.ref C == Value.ref D) = false) (cC : PySem.W.selfFirst K C = true) (cD : PySem.W.selfFirst K D = true) (sC : PySem.W.findIn K (.ref C) (PySem.dunder op.info.2) = some (some (.ref f))) (sD : PySem.W.findIn K (.ref D) (PySem.dunder op.info.2) = some (some (.ref f2)))
    (rC : PySem.W.findIn K (.ref C) (dunderR op.info.2) = some rc) (pC : rc = none ∨ ∃ g : Addr, rc = some (.ref g)) (rD : PySem.W.findIn K (.ref D) (dunderR op.info.2) = some rd) (pD : rd = none ∨ ∃ g : Addr, rd = some (.ref g))
    (sub : PySem.W.subIn K (.ref D) (.ref C) = some false) (hf : PySem.W.isFn K (.ref f) = true) (h : wpAny (model prog w) A (call (.ref f) [.ref x, b]) (PySem.W.CmpBack Q) E s) : wpAny (model prog w) A (binaryOp op (.ref x) b) Q E s := by
  obtain ⟨c1, r1, k1, m1⟩ := PySem.W.ksp_first cC
  obtain ⟨c2, r2, k2, m2⟩ := PySem.W.ksp_first cD
  rcases hi : op.info with ⟨sym, nm⟩
  rw [hi] at sC sD rC rD
  dsimp only at sC sD rC rD
  have one := PySem.W.ksp_try X I sC hf h
  obtain ⟨hp, gs, dr, tk, os⟩ := s
  have L1 : PySem.W.Looks (model prog w) hp (typeOf (.ref x)) (.ref C) := I.type
  have L2 : PySem.W.Looks (model prog w) hp (typeOf b) (.ref D) := hb
  have L3 : PySem.W.Looks (model prog w) hp (fillsNumberSlot (.ref C) nm) true := PySem.W.fills_K X k1 m1 sC
  have L4 : PySem.W.Looks (model prog w) hp (fillsNumberSlot (.ref D) nm) true := PySem.W.fills_K X k2 m2 sD
  have L5 : PySem.W.Looks (model prog w) hp (isSubtype (.ref D) (.ref C)) false := PySem.W.looks_subIn X sub
  have L6 : PySem.W.Looks (model prog w) hp (numberSlotInPython (.ref C) nm) true := PySem.W.ksp_inPy X sC rC pC
  have L7 : PySem.W.Looks (model prog w) hp (numberSlotInPython (.ref D) nm) true := PySem.W.ksp_inPy X sD rD pD
  simp only [binaryOp, hi]
  refine wpAny_holding (wpAny_bind ?_)
  unfold binaryOp1
  refine wpAny_bind (L1.at (wpAny_bind (L2.at (wpAny_bind (L3.at ?_)))))
  simp only [ne, Bool.false_eq_true, if_false]
  ksp_lk
  refine wpAny_mono one (fun r s' q => ?_) fun _ _ e => e
  obtain ⟨v, rfl, hq⟩ := q
  ksp_lk
  exact hq
/-- what a class must have for an operator of its own -/
structure Bin1 (K : PySem.W.Frag) (op : Operator) (C g : Addr) : Prop where
  self : PySem.W.selfFirst K C = true
  at_ : PySem.W.findIn K (.ref C) (PySem.dunder op.info.2) = some (some (.ref g))
  fn : PySem.W.isFn K (.ref g) = true
  refl : ∃ rc, PySem.W.findIn K (.ref C) (dunderR op.info.2) = some rc ∧ (rc = none ∨ ∃ h : Addr, rc = some (.ref h))
/-- .. between two classes: one, or neither above the other -/
def BinP (K : PySem.W.Frag) (op : Operator) (C D g : Addr) : Prop := Bin1 K op C g ∧ (C = D ∨ ((∃ g', Bin1 K op D g') ∧ C ≠ D ∧ PySem.W.subIn K (.ref D) (.ref C) = some false))
structure BinT (K : PySem.W.Frag) (op : Operator) (C : Addr) (T : String) : Prop where
  f : ∃ fo, PySem.W.findIn K (.type T) (PySem.dunder op.info.2) = some fo
  r : ∃ ro, PySem.W.findIn K (.type T) (dunderR op.info.2) = some ro
  sub : PySem.W.subIn K (.type T) (.ref C) = some false
def tyS : V → Option String
  | .non => some "NoneType" | .bl _ => some "bool" | .int _ => some "int" | .str _ => some "str" | _ => none
theorem tyS_of {y : V} {u : Value} {T : String} (r : RelV y u) (h : tyS y = some T) : typeOf u = pure (.type T) := by
  cases y with
  | non => cases (show u = Value.none from r); cases h; rfl
  | bl b => cases (show u = Value.bool b from r); cases h; rfl
  | int i => obtain ⟨t, rfl⟩ := r; cases h; rfl
  | str z => obtain ⟨t, rfl⟩ := r; cases h; rfl
  | _ => cases h
def rOwn2 (K : PySem.W.Frag) (op : Operator) (g : Addr) (sp : Sp) (E : XK) : R2 := fun x y H Q => ∃ (p q C D dx dy : Addr) (fs gs : List (Str × V)), x = .ref p ∧ y = .ref q ∧ H p = some (.ins C dx fs) ∧ H q = some (.ins D dy gs) ∧ BinP K op C D g ∧ sp [.ref p, .ref q] H Q E
def rOwnT (K : PySem.W.Frag) (op : Operator) (g : Addr) (sp : Sp) (E : XK) : R2 := fun x y H Q => ∃ (p C dx : Addr) (fs : List (Str × V)) (T : String), x = .ref p ∧ H p = some (.ins C dx fs) ∧ tyS y = some T ∧ Bin1 K op C g ∧ BinT K op C T ∧ sp [.ref p, y] H Q E
section
variable {X : Cx} {CX : CXT} {k : Nat} {g : Addr} {sp : Sp} {E : XK} {op : Operator}
theorem ep_back {pins : List (Addr × Obj)} {σ : L2.St} {Q : VK} {u : Value} {s : Shared} (h : EP X pins σ Q u s) : PySem.W.CmpBack (EP X pins σ Q) u s := by
  obtain ⟨v, H, I, r, q⟩ := h
  unfold PySem.W.CmpBack
  split
  · cases v with
    | int i => obtain ⟨_, z⟩ := r; cases z
    | str i => obtain ⟨_, z⟩ := r; cases z
    | byt i => obtain ⟨_, z⟩ := r; cases z
    | flt i => obtain ⟨_, z⟩ := r; cases z
    | _ => cases r
  · exact ⟨v, H, I, r, q⟩
theorem run_own {pins : List (Addr × Obj)} {σ : L2.St} {H : Hp} {s : Shared} {Q : VK} {us : List Value} {vs : List V} (F : FnR X.prog X.w X.K X.mg X.base CX k g sp) (hr : Room k X.A) (hx : Passes CX X E) (I : Inv X pins σ H s) (r : Vals vs us) (h : sp vs H Q E) :
    wpAny (model X.prog X.w) X.A (call (.ref g) us) (PySem.W.CmpBack (EP X pins σ Q)) X.xe s := wpAny_mono (wpAny_call (run_fnR F hr hx I r h)) (fun _ _ q => ep_back q) fun _ _ q => q
theorem op_own2 (F : FnR X.prog X.w X.K X.mg X.base CX k g sp) (hr : Room k X.A) (hx : Passes CX X E) : OpR X (binaryOp op) (rOwn2 X.K op g sp E) := by
  intro pins s σ H x y v u Q I rx ry h
  obtain ⟨p, q, C, D, dx, dy, fs, gs, rfl, rfl, ep, eq, ⟨b1, b2⟩, hq⟩ := h
  obtain rfl : v = Value.ref p := rx
  obtain rfl : u = Value.ref q := ry
  obtain ⟨ox, od, J, _⟩ := StX.insC_at I (.inr ⟨dx, fs, ep⟩)
  obtain ⟨oy, oe, J2, _⟩ := StX.insC_at I (.inr ⟨dy, gs, eq⟩)
  have go := run_own F hr hx I (us := [.ref p, .ref q]) (vs := [.ref p, .ref q]) (.cons rfl (.cons rfl .nil)) hq
  obtain ⟨mm, fr⟩ := I.fr
  rcases b2 with rfl | ⟨⟨g', b2⟩, ne, sub⟩
  · exact PySem.W.binop_K fr I.ok.mod.kin J J2.type b1.self b1.at_ b1.fn go
  · obtain ⟨rc, e1, e2⟩ := b1.refl
    obtain ⟨rd, e3, e4⟩ := b2.refl
    exact bin_two I.kIn J J2.type (Bool.eq_false_iff.mpr fun z => ne (by cases beq_iff_eq.mp z; rfl)) b1.self b2.self b1.at_ b2.at_ e1 e2 e3 e4 sub b1.fn go
theorem op_ownT (F : FnR X.prog X.w X.K X.mg X.base CX k g sp) (hr : Room k X.A) (hx : Passes CX X E) : OpR X (binaryOp op) (rOwnT X.K op g sp E) := by
  intro pins s σ H x y v u Q I rx ry h
  obtain ⟨p, C, dx, fs, T, rfl, ep, ty, b1, bT, hq⟩ := h
  obtain rfl : v = Value.ref p := rx
  obtain ⟨ox, od, J, _⟩ := StX.insC_at I (.inr ⟨dx, fs, ep⟩)
  obtain ⟨mm, fr⟩ := I.fr
  obtain ⟨rc, e1, e2⟩ := b1.refl
  obtain ⟨fo, e3⟩ := bT.f
  obtain ⟨ro, e4⟩ := bT.r
  exact PySem.W.ksp_binT fr I.ok.mod.kin J (tyS_of ry ty) b1.self b1.at_ b1.fn e1 e2 e3 e4 bT.sub (run_own F hr hx I (us := [.ref p, u]) (vs := [.ref p, y]) (.cons rfl (.cons ry .nil)) hq)
/-! ### comparisons -/
structure Cmp1 (K : PySem.W.Frag) (op : CmpOp) (C g : Addr) : Prop where
  at_ : PySem.W.findIn K (.ref C) (cmpInfo op).2.1 = some (some (.ref g))
  fn : PySem.W.isFn K (.ref g) = true
def rCmp2 (K : PySem.W.Frag) (op : CmpOp) (g : Addr) (sp : Sp) (E : XK) : R2 := fun x y H Q => ∃ (p q C D dx dy : Addr) (fs gs : List (Str × V)), x = .ref p ∧ y = .ref q ∧ H p = some (.ins C dx fs) ∧ H q = some (.ins D dy gs) ∧ Cmp1 K op C g ∧ PySem.W.notFirst K C (.ref D) = true ∧ sp [.ref p, .ref q] H Q E
theorem rc_own2 {o : CmpOp} (hu : X.A.units < cLine) (F : FnR X.prog X.w X.K X.mg X.base CX k g sp) (hr : Room k X.A) (hx : Passes CX X E) : OpR X (richCompare o) (rCmp2 X.K o g sp E) := by
  intro pins s σ H x y v u Q I rx ry h
  obtain ⟨p, q, C, D, dx, dy, fs, gs, rfl, rfl, ep, eq, c1, nf, hq⟩ := h
  obtain rfl : v = Value.ref p := rx
  obtain rfl : u = Value.ref q := ry
  obtain ⟨ox, od, J, _⟩ := StX.insC_at I (.inr ⟨dx, fs, ep⟩)
  obtain ⟨oy, oe, J2, _⟩ := StX.insC_at I (.inr ⟨dy, gs, eq⟩)
  obtain ⟨mm, fr⟩ := I.fr
  exact PySem.W.cmp_K hu fr I.ok.mod.kin J J2.type nf c1.at_ c1.fn (run_own F hr hx I (us := [.ref p, .ref q]) (vs := [.ref p, .ref q]) (.cons rfl (.cons rfl .nil)) hq)
theorem op_ownEq (hu : X.A.units < cLine) (F : FnR X.prog X.w X.K X.mg X.base CX k g sp) (hr : Room k X.A) (hx : Passes CX X E) : OpR X (compareOp .Eq) (rCmp2 X.K .Eq g sp E) := fun pins s σ H x y v u Q I rx ry h => PySem.W.cmp_ofEq (rc_own2 hu F hr hx pins s σ H x y v u Q I rx ry h)
theorem op_ownLe (hu : X.A.units < cLine) (F : FnR X.prog X.w X.K X.mg X.base CX k g sp) (hr : Room k X.A) (hx : Passes CX X E) : OpR X (compareOp .LtE) (rCmp2 X.K .LtE g sp E) := fun pins s σ H x y v u Q I rx ry h => PySem.W.cmp_ofLtE (rc_own2 hu F hr hx pins s σ H x y v u Q I rx ry h)
theorem op_ownLt (hu : X.A.units < cLine) (F : FnR X.prog X.w X.K X.mg X.base CX k g sp) (hr : Room k X.A) (hx : Passes CX X E) : OpR X (compareOp .Lt) (rCmp2 X.K .Lt g sp E) := fun pins s σ H x y v u Q I rx ry h => PySem.W.cmp_ofLt (rc_own2 hu F hr hx pins s σ H x y v u Q I rx ry h)
theorem op_ownGe (hu : X.A.units < cLine) (F : FnR X.prog X.w X.K X.mg X.base CX k g sp) (hr : Room k X.A) (hx : Passes CX X E) : OpR X (compareOp .GtE) (rCmp2 X.K .GtE g sp E) := fun pins s σ H x y v u Q I rx ry h => PySem.W.cmp_ofGtE (rc_own2 hu F hr hx pins s σ H x y v u Q I rx ry h)
theorem op_ownGt (hu : X.A.units < cLine) (F : FnR X.prog X.w X.K X.mg X.base CX k g sp) (hr : Room k X.A) (hx : Passes CX X E) : OpR X (compareOp .Gt) (rCmp2 X.K .Gt g sp E) := fun pins s σ H x y v u Q I rx ry h => PySem.W.cmp_ofGt (rc_own2 hu F hr hx pins s σ H x y v u Q I rx ry h)
end
end OwR
end
section
/-! Facts of the end of the top about special methods of a class. Own. -/
namespace OwH
open PySem PySem.Spec PyProof.Rows L2
def hasF (K : PySem.W.Frag) (C : Value) (m : Str) (f : Addr) : Bool := He.eqO (PySem.W.findIn K C m) (some (some (.ref f))) && PySem.W.isFn K (.ref f)
theorem hasF_ok {K : PySem.W.Frag} {C : Value} {m : Str} {f : Addr} (h : hasF K C m f = true) : PySem.W.findIn K C m = some (some (.ref f)) ∧ PySem.W.isFn K (.ref f) = true := ⟨He.eqO_ok (two h).1, (two h).2⟩
def noneOrRef : Option (Option Value) → Bool
  | some none => true
  | some (some (.ref _)) => true
  | _ => false
theorem noneOrRef_ok {x : Option (Option Value)} (h : noneOrRef x = true) : ∃ rc, x = some rc ∧ (rc = none ∨ ∃ g : Addr, rc = some (.ref g)) := by
  match x, h with
  | some none, _ => exact ⟨none, rfl, .inl rfl⟩
  | some (some (.ref g)), _ => exact ⟨_, rfl, .inr ⟨g, rfl⟩⟩
def fBin (op : Operator) (K : PySem.W.Frag) (C f : Addr) : Bool := PySem.W.selfFirst K C && (hasF K (.ref C) (PySem.dunder op.info.2) f && noneOrRef (PySem.W.findIn K (.ref C) (dunderR op.info.2)))
theorem fBin_ok {op : Operator} {K : PySem.W.Frag} {C f : Addr} (h : fBin op K C f = true) : OwR.Bin1 K op C f :=
  ⟨(two h).1, (hasF_ok (two (two h).2).1).1, (hasF_ok (two (two h).2).1).2, noneOrRef_ok (two (two h).2).2⟩
def fBinT (op : Operator) (K : PySem.W.Frag) (C : Addr) (T : String) : Bool := (PySem.W.findIn K (.type T) (PySem.dunder op.info.2)).isSome && ((PySem.W.findIn K (.type T) (dunderR op.info.2)).isSome && decide (PySem.W.subIn K (.type T) (.ref C) = some false))
theorem fBinT_ok {op : Operator} {K : PySem.W.Frag} {C : Addr} {T : String} (h : fBinT op K C T = true) : OwR.BinT K op C T :=
  ⟨Option.isSome_iff_exists.mp (two h).1, Option.isSome_iff_exists.mp (two (two h).2).1, of_decide_eq_true (two (two h).2).2⟩
def fPropAt (K : PySem.W.Frag) (C : Addr) (m : Str) (p : Addr) : Bool := He.eqO (PySem.W.findIn K (.ref C) m) (some (some (.ref p))) && (He.eqO (PySem.W.specialIn K (.ref p) "__get__") (some (some (.builtin "property.__get__"))) && (decide (PySem.W.takesIn K (.ref p) = some true) && recOk K p "property"))
theorem propAt_ok {K : PySem.W.Frag} {C p : Addr} {m : Str} (h : fPropAt K C m p = true) : PropOf K C m p (inRec K p "property") := ⟨He.eqO_ok (two h).1, He.eqO_ok (two (two h).2).1, of_decide_eq_true (two (two (two h).2).2).1, recOk_ok (two (two (two h).2).2).2⟩
def fMethAt (K : PySem.W.Frag) (C : Addr) (m : Str) (f : Addr) : Bool := hasF K (.ref C) m f && PySem.W.keepIn K (.ref f)
theorem methAt_ok {K : PySem.W.Frag} {C f : Addr} {m : Str} (h : fMethAt K C m f = true) : Meth K C m f := ⟨(hasF_ok (two h).1).1, (hasF_ok (two h).1).2, (two h).2⟩
end OwH
end
section
/-! a != b of own classes that define == alone. -/
namespace OwR
open PySem PySem.Spec PyProof.Rows L2
theorem slot_ne : Slot "object" "__ne__" "object.__ne__" := Slot.of (T := "object") (name := "__ne__") (owner := "object") (n := "__ne__") (by rw [typeLookup_type, builtinLookup_eq_fast]; kernel_rfl) (by decide +kernel) (by decide +kernel) (by decide +kernel)
  (.inl (by decide +kernel)) (by rw [isSubtype_type]; kernel_rfl)
theorem entry_ne : entryFor table "object.__ne__" = some Builtin.«object.__ne__» := entryFor_of_tree (by kernel_rfl)
theorem args_ne (a b : Value) : argsOk "object.__ne__" ⟨[a, b], []⟩ := by unfold argsOk; kernel_rfl
section
variable {prog : Program} {w : World} {A : Around} {E : Value → Shared → Prop} {s : Shared} {K : PySem.W.Frag} {x C f : Addr} {ox : Obj} {od : Option Obj} {b : Value}
theorem bound_ne {M : Model} {args : List Value} {Q : Option Value → Shared → Prop} (sp : PySem.W.Looks M s.heap (specialOf (.ref x) "__ne__") (some (.builtin "object.__ne__"))) (h : wpAny M A (call (.builtin "object.__ne__") (.ref x :: args)) (fun v => Q (some v)) E s) :
    wpAny M A (callSpecialIfBound? (.ref x) "__ne__" args) Q E s := by
  have fin : wpAny M A (call (.builtin "object.__ne__") ([.ref x] ++ args) >>= fun v => pure (some v)) Q E s := wpAny_bind (wpAny_mono h (fun v s' q => wpAny_pure q) fun _ _ q => q)
  have hb : bindSpecial (.builtin "object.__ne__") (.ref x) = pure (.builtin "object.__ne__", [.ref x]) := slot_ne.bind _
  simp only [callSpecialIfBound?, bindSpecialIfBound?]
  refine wpAny_holding (wpAny_bind (wpAny_bind (sp.here ?_)))
  simp only [hb]
  refine wpAny_bind (wpAny_askSetting (wpAny_ite ?_))
  split
  · exact wpAny_bind (wpAny_pure (wpAny_pure fin))
  · exact wpAny_tryCatch (wpAny_bind (wpAny_pure (wpAny_pure fin)))
theorem ne_K {tb : Value} {Q : Value → Shared → Prop} (hu : A.units + 1 < cLine) (X : K.In s.heap) (I : PySem.W.InstAt s.heap x ox C od) (hb : PySem.W.Looks (model prog w) s.heap (typeOf b) tb) (nf : PySem.W.notFirst K C tb = true) (obj : PySem.W.mroIn K C (.type "object") = some true)
    (ne : PySem.W.findIn K (.ref C) "__ne__" = some (some (.builtin "object.__ne__"))) (eq : PySem.W.findIn K (.ref C) "__eq__" = some (some (.ref f))) (fn : PySem.W.isFn K (.ref f) = true)
    (h : wpAny (model prog w) A.in1 (call (.ref f) [.ref x, b]) (fun v s' => ∃ c, v = .bool c ∧ Q (.bool (!c)) s') E s) : wpAny (model prog w) A (richCompare .NotEq (.ref x) b) Q E s := by
  have sp : PySem.W.Looks (model prog w) s.heap (specialOf (.ref x) "__ne__") (some (.builtin "object.__ne__")) := I.type.andThen (PySem.W.looks_findIn X ne)
  have inst : PySem.W.Looks (model prog w) s.heap (isInstance (.ref x) (.type "object")) true := I.type.andThen (PySem.W.looks_mroIn X obj)
  have hu0 : A.units < cLine := by omega
  have body : wpAny (model prog w) A (call (.builtin "object.__ne__") [.ref x, b]) (fun v s' => ∃ c, v = .bool c ∧ Q (.bool c) s') E s := by
    refine wpAny_call (codeAny_call_builtin slot_ne.plain entry_ne (@PySem.W.check_slot (model prog w) _ _ _ "object.__ne__" "object" "__ne__" (.ref x) [b] [] _ (by decide +kernel) (by decide +kernel) inst (args_ne _ _) ?_))
    show wpAny _ _ (do
      cRoomFor "comparison" [.ref x, b]
      match ← callSpecialIfBound? (.ref x) "__eq__" [b] with
      | some .notImplemented | none => ret .notImplemented
      | some r => ret (.bool (!(← truthy r)))) _ _ s
    refine wpAny_bind (wpAny_cRoomFor hu ?_)
    refine wpAny_bind (PySem.W.ifBound_K X I eq fn (wpAny_mono h (fun v s' q => ?_) fun _ _ q => q))
    obtain ⟨c, rfl, q⟩ := q
    show wpAny _ _ (truthy (.bool c) >>= fun t => ret (.bool (!t))) _ _ s'
    exact wpAny_bind (wpAny_pure (wpAny_pure ⟨!c, rfl, q⟩))
  have one : wpAny (model prog w) A (tryCompare (.ref x) "__ne__" b) (fun r s' => ∃ c, r = some (.bool c) ∧ Q (.bool c) s') E s := by
    unfold tryCompare
    refine wpAny_bind (bound_ne sp (wpAny_mono body (fun v s' q => ?_) fun _ _ q => q))
    obtain ⟨c, rfl, q⟩ := q
    exact wpAny_pure ⟨c, rfl, q⟩
  unfold richCompare
  simp only [oneThing_ref]
  refine wpAny_holding (wpAny_bind (wpAny_cRoomFor hu0 ?_))
  refine wpAny_bind (I.type.here (wpAny_bind (hb.here ?_)))
  have fin : ∀ r s', (∃ c, r = some (Value.bool c) ∧ Q (.bool c) s') → ∃ v, r = some v ∧ Q v s' := fun r s' ⟨c, e, q⟩ => ⟨_, e, q⟩
  split
  · rename_i q
    have e : PySem.W.subIn K tb (.ref C) = some false := by
      rcases Bool.or_eq_true_iff.mp nf with e | e
      · rw [beq_iff_eq.mp e] at q
        simp at q
      · exact beq_iff_eq.mp e
    refine wpAny_bind ((PySem.W.looks_subIn X e).here ?_)
    simp only [if_false, Bool.false_eq_true]
    refine wpAny_bind (wpAny_mono one (fun r s' z => ?_) fun _ _ e => e)
    obtain ⟨c, rfl, hq⟩ := z
    exact wpAny_pure hq
  · refine wpAny_bind (m := pure false) (wpAny_pure ?_)
    simp only [if_false, Bool.false_eq_true]
    refine wpAny_bind (wpAny_mono one (fun r s' z => ?_) fun _ _ e => e)
    obtain ⟨c, rfl, hq⟩ := z
    exact wpAny_pure hq
end
/-- the class has == of its own and object's != -/
structure Ne1 (K : PySem.W.Frag) (C g : Addr) : Prop where
  eq : PySem.W.findIn K (.ref C) "__eq__" = some (some (.ref g))
  fn : PySem.W.isFn K (.ref g) = true
  ne : PySem.W.findIn K (.ref C) "__ne__" = some (some (.builtin "object.__ne__"))
  obj : PySem.W.mroIn K C (.type "object") = some true
/-- a != b: the promise of == with the answer turned -/
def rNe2 (K : PySem.W.Frag) (g : Addr) (sp : Sp) (E : XK) : R2 := fun x y H Q => ∃ (p q C D dx dy : Addr) (fs gs : List (Str × V)), x = .ref p ∧ y = .ref q ∧ H p = some (.ins C dx fs) ∧ H q = some (.ins D dy gs) ∧ Ne1 K C g ∧ PySem.W.notFirst K C (.ref D) = true ∧ sp [.ref p, .ref q] H (fun v H' => ∃ c, v = .bl c ∧ Q (.bl (!c)) H') E
theorem op_ownNe {X : Cx} {CX : CXT} {k : Nat} {g : Addr} {sp : Sp} {E : XK} (hu : X.A.units + 1 < cLine) (F : FnR X.prog X.w X.K X.mg X.base CX k g sp) (hr : Room (k + 1) X.A) (hx : Passes CX X E) : OpR X (compareOp .NotEq) (rNe2 X.K g sp E) := by
  intro pins s σ H x y v u Q I rx ry h
  obtain ⟨p, q, C, D, dx, dy, fs, gs, rfl, rfl, ep, eq, c1, nf, hq⟩ := h
  obtain rfl : v = Value.ref p := rx
  obtain rfl : u = Value.ref q := ry
  obtain ⟨ox, od, J, _⟩ := StX.insC_at I (.inr ⟨dx, fs, ep⟩)
  obtain ⟨oy, oe, J2, _⟩ := StX.insC_at I (.inr ⟨dy, gs, eq⟩)
  refine PySem.W.cmp_ofNotEq (ne_K hu I.kIn J J2.type nf c1.obj c1.ne c1.eq c1.fn ?_)
  refine wpAny_mono (run_in (us := [.ref p, .ref q]) (vs := [.ref p, .ref q]) F hr hx I (.cons rfl (.cons rfl .nil)) hq) (fun v s' z => ?_) fun _ _ z => z
  obtain ⟨x2, H2, I2, r2, c, rfl, z⟩ := z
  exact ⟨c, r2, .bl (!c), H2, I2, rfl, z⟩
/-! ### len(o), o of an own class -/
structure Len1 (K : PySem.W.Frag) (C g : Addr) : Prop where
  at_ : PySem.W.findIn K (.ref C) "__len__" = some (some (.ref g))
  fn : PySem.W.isFn K (.ref g) = true
def rLenO (K : PySem.W.Frag) (g : Addr) (sp : Sp) (E : XK) : List V → Hp → VK → Prop := fun xs H Q => ∃ (a C dx : Addr) (fs : List (Str × V)), xs = [.ref a] ∧ H a = some (.ins C dx fs) ∧ Len1 K C g ∧ sp [.ref a] H (fun v H' => ∃ n : Int, v = .int n ∧ 0 ≤ n ∧ n < 2 ^ 63 ∧ Q (.int n) H') E
theorem call_lenO {X : Cx} {CX : CXT} {k : Nat} {g : Addr} {sp : Sp} {E : XK} (F : FnR X.prog X.w X.K X.mg X.base CX k g sp) (hr : Room (k + 1) X.A) (hx : Passes CX X E) : CallR X (.builtin "len") (rLenO X.K g sp E) := by
  intro pins s σ H xs us Q I r h
  obtain ⟨a, C, dx, fs, rfl, ea, c, hq⟩ := h
  obtain rfl := Vals.ref1 r
  obtain ⟨ox, od, J, _⟩ := StX.insC_at I (.inr ⟨dx, fs, ea⟩)
  obtain ⟨mm, fr⟩ := I.fr
  refine PySem.W.len_K fr I.ok.mod.kin J c.at_ c.fn (wpAny_mono (run_in (us := [.ref a]) (vs := [.ref a]) F hr hx I (.cons rfl .nil) hq) (fun v s' z => ?_) fun _ _ z => z)
  obtain ⟨y, H2, I2, ry, n, rfl, n0, n1, z⟩ := z
  obtain ⟨t, rfl⟩ := ry
  exact ⟨⟨n0, n1⟩, .int n, H2, I2.tok _, ⟨_, rfl⟩, z⟩
end OwR
end
section
/-! Walks over objects of own classes whose __iter__ gives a tuple's iterator. -/
namespace OwR
open PySem PySem.Spec PyProof.Rows L2
abbrev itTup (l : Addr) (i : Nat) : Obj := { cls := .type "tuple_iterator", data := .fields #[.ref l, .int i 0] }
/-- at it the iterator of the tuple at l, just made -/
def ItT (l it : Addr) : HO := .ext fun h => h.get? it = some (itTup l 0)
theorem itT_ok {P : Program} {w : World} {H : Hp} {h : Heap} {l it : Addr} (e : h.get? it = some (itTup l 0)) : ObjOk P w H h it (ItT l it) := ⟨e, ⟨_, e⟩, fun h1 h2 q k => k _ q⟩
theorem itT_get {X : Cx} {pins : List (Addr × Obj)} {σ : L2.St} {H : Hp} {s : Shared} {l it : Addr} (I : Inv X pins σ H s) (e : H it = some (ItT l it)) : s.heap.get? it = some (itTup l 0) := (I.hok it _ e).1
/-- iter(t), t a tuple -/
def rIterT (K : PySem.W.Frag) : List V → Hp → VK → Prop := fun xs H Q => ∃ (l : Addr) (zs : List V), xs = [.ref l] ∧ SqT K H l zs ∧ ∀ it, H it = none → Q (.ref it) (upd H it (ItT l it))
theorem call_iterT {X : Cx} : CallR X (.builtin "iter") (rIterT X.K) := by
  intro pins s σ H xs us Q I r h
  obtain ⟨l, zs, rfl, hq, q⟩ := h
  obtain rfl := Vals.ref1 r
  obtain ⟨its, rv, pl, hz⟩ := I.tuple hq
  refine Calls.call_function_entry (by decide +kernel) (by decide +kernel) PySem.W.kdk_entry_iter (PySem.W.kdk_args_iter _) ?_
  unfold Builtin.«iter»
  refine wpAny_bind (m := someArgs "iter" 1 2 _) (wpAny_of_eq (a := [Value.ref l]) (by first | rfl | kernel_rfl!) ?_)
  show wpAny _ _ (pyIter (.ref l) >>= fun v => ret v) _ _ _
  refine wpAny_bind (wpAny_pyIter_tuple (show s.heap.IsTuple l its.toArray from pl) ?_)
  exact wpAny_pure ⟨_, rfl, .ref s.heap.objs.size, _, I.laid (t' := s.toks) (fun b u e => Heap.get?_push_of_some _ e) (Nat.le_refl _) (itT_ok (Heap.get?_push_size _ rfl)), rfl, q _ (I.hok.fresh (Nat.le_refl _))⟩
/-- .. as young as the call -/
def rIterTN (K : PySem.W.Frag) (n : Nat) : List V → Hp → VK → Prop := fun xs H Q => ∃ (l : Addr) (zs : List V), xs = [.ref l] ∧ SqT K H l zs ∧ ∀ it, H it = none → n ≤ it → Q (.ref it) (upd H it (ItT l it))
theorem call_iterTN {X : Cx} : CallR X (.builtin "iter") (rIterTN X.K X.s_0.heap.objs.size) := by
  intro pins s σ H xs us Q I r h
  obtain ⟨l, zs, rfl, hq, q⟩ := h
  obtain rfl := Vals.ref1 r
  obtain ⟨its, rv, pl, hz⟩ := I.tuple hq
  refine Calls.call_function_entry (by decide +kernel) (by decide +kernel) PySem.W.kdk_entry_iter (PySem.W.kdk_args_iter _) ?_
  unfold Builtin.«iter»
  refine wpAny_bind (m := someArgs "iter" 1 2 _) (wpAny_of_eq (a := [Value.ref l]) (by first | rfl | kernel_rfl!) ?_)
  show wpAny _ _ (pyIter (.ref l) >>= fun v => ret v) _ _ _
  refine wpAny_bind (wpAny_pyIter_tuple (show s.heap.IsTuple l its.toArray from pl) ?_)
  exact wpAny_pure ⟨_, rfl, .ref s.heap.objs.size, _, I.laid (t' := s.toks) (fun b u e => Heap.get?_push_of_some _ e) (Nat.le_refl _) (itT_ok (Heap.get?_push_size _ rfl)), rfl, q _ (I.hok.fresh (Nat.le_refl _)) I.sz⟩
/-! ### a def whose promise may speak of where the call stands -/
def FnS (P : Program) (w : World) (K : PySem.W.Frag) (mg : Str → Option Value) (base : Heap) (CX : CXT) (k : Nat) (f : Addr) (fd : FuncData) (ps : List Str) (sp : Shared → Sp) : Prop :=
  ∀ (A : Around) (outer : List Env) (s : Shared) (H : Hp) (args : Args) (us : List Value) (vs : List V) (Q : VK) (E : XK), Room k A → Env0 P w K mg base A outer s H → BindsTo s fd args (ps.zip us) → Vals vs us → sp s vs H Q E →
    codeAny (model P w) A (.call (.ref f) args) (CR CX outer P w H s Q E) s
section
variable {CX : CXT} {P : Program} {w : World} {K : PySem.W.Frag} {mg : Str → Option Value} {base : Heap} {k : Nat} {f : Addr} {name qual : Str} {params : Arguments} {body : List Stmt} {scope : Scope} {dV kV doc pm cdv ct oc : Value} {an od : Option Addr}
  {osl : Array (Option Value)} {N ps : List Str} {sp : Shared → Sp}
theorem fn_ofS (lk : K.lookup f = some ⟨oc, od, .func (PySem.W.fnOf name qual params body scope dV kV doc pm an cdv ct), osl⟩) (hcd : PySem.W.codeIn K cdv qual = true) (S : FnScope N ps scope)
    (len : ∀ s vs H Q E, sp s vs H Q E → vs.length = ps.length)
    (hbody : ∀ (A : Around) (outer : List Env) (s : Shared) (H : Hp) (vs : List V) (Q : VK) (E : XK), Room k (A.deeper (envOfC qual scope s.heap.objs.size f cdv)) → sp s vs H Q E →
      ∃ t, PSs (cxOf CX P w K mg base N qual scope f cdv A outer s H E) body t ∧ t { nx := fun _ H' => Q .non H', rt := Q } (start N vs) H) :
    FnS P w K mg base CX (k + 1) f (PySem.W.fnOf name qual params body scope dV kV doc pm an cdv ct) ps sp := by
  intro A outer s H args us vs Q E hr e0 hb r hsp
  have hl := len _ _ _ _ _ hsp
  have KS : K.In s.heap := e0.mod.kin.keeps fun b o e => (e0.bs b o e).1
  have lims : s.heap.NoLimit := e0.mod.nolimit.keeps fun b o e => (e0.bs b o e).1
  have kinds : ∀ y ∈ ps.zip us, scope.names.lookup y.1 = some .local ∨ (scope.names.lookup y.1 = some .cell ∧ ((cellsFrom (s.heap.objs.size + 1) scope.names []).lookup y.1).isSome = true) := fun y hy =>
    (S.par y.1 (List.of_mem_zip hy).1).imp id fun q => ⟨q, PySem.W.cellsFrom_some _ _ _ (.inl q)⟩
  refine codeAny_call_function hr.depth (KS _ _ lk) rfl S.co S.gen rfl (PySem.W.codeRec_of KS hcd) (hb _ _ _ _ ?_)
  refine wpAny_newFunctionEnv_cells S.kind kinds fun env he s1 x => ?_
  subst he
  refine ⟨lims.keeps x.toInCall.keep, codeAny_func ?_⟩
  obtain ⟨t, ht, hq⟩ := hbody A outer s H vs Q E (hr.deeper _) hsp
  have I : Inv (cxOf CX P w K mg base N qual scope f cdv A outer s H E) [] (start N vs) H s1 := inv_start S hr.hd e0 hl r x
  refine wpAny_mono (ht.run [] s1 (start N vs) H _ I hq) (fun fl s' hs => ?_) fun _ _ z => z
  have done : ∀ {σ' : L2.St} {H' : Hp} {v : V} {u : Value}, Inv (cxOf CX P w K mg base N qual scope f cdv A outer s H E) [] σ' H' s' → RelV v u → Q v H' → CE outer P w H s Q u s' :=
    fun {σ' H' v u} J rv q => ⟨v, H', J.os, J.bare, J.base, J.hok, rv, q⟩
  cases fl with
  | ret u =>
    obtain ⟨v, σ', H', J, rv, q⟩ := hs
    exact done J rv q
  | next =>
    obtain ⟨σ', H', J, q⟩ := hs
    exact done (v := V.non) (u := Value.none) J rfl q
  | brk => exact (hs.elim fun _ z => z.elim fun _ z => z.2.elim)
  | cont => exact (hs.elim fun _ z => z.elim fun _ z => z.2.elim)
end
/-- def __iter__(self): return iter(self.fld) -/
def spIt (C : Addr) (K : PySem.W.Frag) (fld : Str) : Shared → Sp := fun s vs H Q _ => ∃ (a dx l : Addr) (fs : List (Str × V)) (zs : List V), vs = [.ref a] ∧ H a = some (.ins C dx fs) ∧ fs.lookup fld = some (.ref l) ∧ SqT K H l zs ∧ ∀ it, H it = none → s.heap.objs.size ≤ it → Q (.ref it) (upd H it (ItT l it))
/-- .. at a call with its arguments by place -/
def FnSR (P : Program) (w : World) (K : PySem.W.Frag) (mg : Str → Option Value) (base : Heap) (CX : CXT) (k : Nat) (f : Addr) (sp : Shared → Sp) : Prop :=
  ∀ (A : Around) (outer : List Env) (s : Shared) (H : Hp) (us : List Value) (vs : List V) (Q : VK) (E : XK), Room k A → Env0 P w K mg base A outer s H → Vals vs us → sp s vs H Q E →
    codeAny (model P w) A (.call (.ref f) ⟨us, []⟩) (CR CX outer P w H s Q E) s
theorem FnS.raw {P : Program} {w : World} {K : PySem.W.Frag} {mg : Str → Option Value} {base : Heap} {CX : CXT} {k : Nat} {f : Addr} {fd : FuncData} {ps : List Str} {sp : Shared → Sp} (F : FnS P w K mg base CX k f fd ps sp) (len : ∀ s vs H Q E, sp s vs H Q E → vs.length = ps.length)
    (hb : Binds K fd ps []) : FnSR P w K mg base CX k f sp := fun A outer s H us vs Q E hr e0 r hs => by
  have hl : (us ++ []).length = ps.length := by
    rw [List.append_nil, ← r.length]
    exact len _ _ _ _ _ hs
  have b := hb s us (e0.mod.kin.keeps fun b o e => (e0.bs b o e).1) hl
  rw [List.append_nil] at b
  exact F A outer s H ⟨us, []⟩ us vs Q E hr e0 b r hs
structure OwnIt (K : PySem.W.Frag) (C f : Addr) (fld : Str) : Prop where
  cls : Cls K C
  na : NoAttr K C fld
  at_ : PySem.W.findIn K (.ref C) "__iter__" = some (some (.ref f))
  fn : PySem.W.isFn K (.ref f) = true
/-- over an object whose __iter__ gives the iterator of the tuple at l -/
def iOwn (K : PySem.W.Frag) (f : Addr) (fld : Str) (te : TE) : TI := fun σ H R => te σ H fun x H1 => ∃ (a C dx l : Addr) (fs : List (Str × V)) (zs : List V), x = .ref a ∧ H1 a = some (.ins C dx fs) ∧ OwnIt K C f fld ∧ fs.lookup fld = some (.ref l) ∧ SqT K H1 l zs ∧ R (Itt K l) H1
theorem tup_next {M : Model} {A : Around} {E : Value → Shared → Prop} {s : Shared} {it l : Addr} {Q : Value → Shared → Prop} (h : s.heap.get? it = some (itTup l 0)) (q : Q (.ref it) s) : PySem.W.OwitIt M A Q E (.ref it) s := by
  unfold PySem.W.OwitIt
  exact wpAny_specialOf (name := Str.ofString "__next__") (⟨_, h, rfl⟩ : s.TypeIs (.ref it) "tuple_iterator") PySem.F.slot_tuple_iterator_next.lookup q
theorem pi_own {X : Cx} {CX : CXT} {k : Nat} {f : Addr} {fld : Str} {E : XK} {tg e : Expr} {te : TE} (he : PE X e te) (F : ∀ C, OwnIt X.K C f fld → FnSR X.prog X.w X.K X.mg X.base CX k f (spIt C X.K fld)) (hr : Room k X.A) (hx : Passes CX X E) : PI X tg e (iOwn X.K f fld te) := by
  refine ⟨fun pins s σ H R I h => ?_⟩
  refine thn (he.run pins s σ H _ I h) fun u s1 ⟨x, H1, I1, rx, a, C, dx, l, fs, zs, ex, ea, c, lk, sq, hq⟩ => ?_
  subst ex
  obtain rfl : u = Value.ref a := rx
  obtain ⟨ox, od, J, _⟩ := StX.insC_at I1 (.inr ⟨dx, fs, ea⟩)
  obtain ⟨mm, fr⟩ := I1.fr
  have sp0 : spIt C X.K fld s1 [.ref a] H1 (fun v H2 => ∃ it, v = .ref it ∧ H1 it = none ∧ s1.heap.objs.size ≤ it ∧ H2 = upd H1 it (ItT l it)) E := ⟨a, dx, l, fs, zs, rfl, ea, lk, sq, fun it e n => ⟨it, rfl, e, n, rfl⟩⟩
  refine PySem.W.owit_iter fr I1.ok.mod.kin J c.at_ c.fn (wpAny_call (codeAny_mono (F C c X.A X.stack s1 H1 [.ref a] [.ref a] _ E hr I1.env0 (.cons rfl .nil) sp0) fun r s' z => ?_))
  match r, z with
  | .error er, z => exact hx pins σ H1 s1 er s' I1 z
  | .ok (.ret v), z =>
    obtain ⟨y, H2, os, br, un, ok, ry, it, ey, e1, hn, eH⟩ := z
    subst ey
    subst eH
    obtain rfl : v = Value.ref it := ry
    have I2 : Inv X pins σ (upd H1 it (ItT l it)) s' := I1.call' os un ok br fun b m => by cases m
    have eo := itT_get I2 upd_same
    refine tup_next eo ?_
    have e2 : upd H1 it (ItT l it) it = some (.ext fun h => h.get? it = some (itTup l 0)) := upd_same
    have I3 := ItX.inv_drop I2 e2
    rw [ItX.dropH_upd e1] at I3
    have fp := ItX.inv_fp I2 e2 (Nat.le_trans I1.sz hn)
    rw [ItX.dropH_upd e1] at fp
    refine ⟨it, [it], _, _, H1, rfl, I3, turn_tuple l it, ⟨_, eo, rfl, rfl⟩, fun b hb => ?_, hq⟩
    obtain rfl : b = it := by simpa using hb
    exact fp
end OwR
end
section
/-! list(o), o an object whose __iter__ gives a tuple's iterator and whose __len__ its length. -/
namespace OwR
open PySem PySem.Spec PyProof.Rows L2
section
variable {X : Cx} {pins : List (Addr × Obj)} {σ : L2.St} {H : Hp} {s : Shared}
/-- a list has been filled, an iterator has turned -/
theorem listed {S it : Addr} {xs ys : List V} {acc : Array Value} {c : Nat} {h' : Heap} {t' : Nat} (I : Inv X pins σ H s) (fp : FpOk X pins H it) (hS : H S = some (.lst ys)) (k : ∀ b o, b ≠ S → b ≠ it → s.heap.get? b = some o → h'.get? b = some o)
    (eS : h'.get? S = some ({ cls := .type "list", dict := none, data := .seq acc c, slots := #[] } : Obj)) (rv : Vals xs acc.toList) (hz : xs.length ≤ sizeLine) : Inv X pins σ (upd H S (.lst xs)) { s with heap := h', toks := t' } := by
  have nS : ∀ {b : Addr} {u : HO}, H b = some u → (∀ zs, u ≠ .lst zs) → b ≠ S := fun {b u} e n z => by
    rw [z, hS] at e
    exact n ys (Option.some.inj e).symm
  have nN : ∀ {b : Addr}, H b = none → b ≠ S := fun {b} e z => by
    rw [z, hS] at e
    cases e
  have nI : ∀ {b : Addr} {u : HO}, H b = some u → b ≠ it := fun {b u} e z => by
    rw [z, fp.1] at e
    cases e
  have ni : ∀ {b : Addr}, b ∉ [it] → b ≠ it := fun {b} m z => m (List.mem_singleton.mpr z)
  refine I.step (g' := s.gens) (d' := s.drawn) (ch := [it]) (fun b m => ?_) (fun b o _ _ m e n => k b o (nN n) (ni m) e) (fun b o _ _ m e n => ⟨o.slots, k b o (nN n) (ni m) e⟩) (fun b o m e n => by rw [upd_ne (nN n)]; exact n) (fun b o m e => ?_)
    (fun b zs e => by rw [upd_ne (nS e fun _ z => by cases z)]; exact e) (fun b o u e => by rw [upd_ne (nS e fun _ z => by cases z)]; exact e) (fun b ps e => ⟨#[], by rw [upd_ne (nS e fun _ z => by cases z), e]; simp⟩) (fun m hm => ?_) (fun b u e => ?_) I.bare
  · obtain rfl : b = it := by simpa using m
    exact ⟨fp.2.2.2.1, fp.2.1, fp.2.2.2.2.1, fp.2.2.2.2.2⟩
  · by_cases c : b = S
    · subst c
      exact ⟨_, eS⟩
    · exact ⟨o, k b o c (ni m) e⟩
  · obtain ⟨o, es, ep, ho, r⟩ := hm
    exact ⟨o, es, ep, k _ o (nN I.free) (Ne.symm fp.2.1) ho, r⟩
  · by_cases c : b = S
    · subst c
      rw [upd_same] at e
      cases e
      exact ⟨hz, acc.toList, _, rv, eS⟩
    · rw [upd_ne c] at e
      refine (I.hok b u e).stay (fun d v hd q => k d v ?_ ?_ q) (fun d z => ?_) fun d zs z => ?_
      · rcases hd with z | z
        · rw [z]
          exact c
        · exact nS z fun _ w => by cases w
      · rcases hd with z | z
        · rw [z]
          exact nI e
        · exact nI z
      · rw [upd_ne (nS z fun _ w => by cases w)]
        exact z
      · rw [upd_ne (nS z fun _ w => by cases w)]
        exact z
end
theorem items_all {its : List Value} {acc : Array Value} (h : ItemsOf (fun i v => its.toArray[i]? = some v) acc its.toArray.size) : acc.toList = its := by
  refine List.ext_getElem? fun i => ?_
  obtain ⟨h1, h2⟩ := h
  have h1' : acc.size = its.length := by simpa using h1
  cases e : acc.toList[i]? with
  | some v =>
    have e2 : acc[i]? = some v := by rw [← Array.getElem?_toList]; exact e
    have e3 : its.toArray[i]? = some v := h2 i v e2
    rw [List.getElem?_toArray] at e3
    exact e3.symm
  | none =>
    have : acc.toList.length ≤ i := List.getElem?_eq_none_iff.mp e
    rw [Array.length_toList, h1'] at this
    exact (List.getElem?_eq_none this).symm
/-- len(self) is len(self.fld) -/
def spLn (C : Addr) (K : PySem.W.Frag) (fld : Str) : Sp := fun vs H Q _ => ∃ (a dx l : Addr) (fs : List (Str × V)) (zs : List V), vs = [.ref a] ∧ H a = some (.ins C dx fs) ∧ fs.lookup fld = some (.ref l) ∧ SqT K H l zs ∧ Q (.int (zs.length : Nat)) H
def rListO (K : PySem.W.Frag) (f g : Addr) (fld : Str) : List V → Hp → VK → Prop := fun xs H Q => ∃ (a C dx l : Addr) (fs : List (Str × V)) (zs : List V), xs = [.ref a] ∧ H a = some (.ins C dx fs) ∧ OwnIt K C f fld ∧ Len1 K C g ∧ fs.lookup fld = some (.ref l) ∧ SqT K H l zs ∧ ∀ q, H q = none → Q (.ref q) (upd H q (.lst zs))
theorem asInt_of (n : Int) (t : Tok) : asInt? (.int n t) = pure (some n) := rfl
/-- the hint of how many there are -/
theorem hint_own {prog : Program} {w : World} {A : Around} {E : Value → Shared → Prop} {s : Shared} {K : PySem.W.Frag} {a C g : Addr} {ox : Obj} {od : Option Obj} {Q : Bool → Shared → Prop} (X : K.In s.heap) (J : PySem.W.InstAt s.heap a ox C od) (c : Len1 K C g)
    (h : ∀ E' : Value → Shared → Prop, wpAny (model prog w) A (call (.builtin "len") [.ref a]) (fun v s' => ∃ (n : Int) (t : Tok), v = .int n t ∧ n.toNat ≤ sizeLine ∧ Q (n != 0) s') E' s) : wpAny (model prog w) A (Builtin.List.listLengthHint (.ref a)) Q E s := by
  unfold Builtin.List.listLengthHint
  refine wpAny_bind (wpAny_bind (J.type.here ((PySem.W.looks_findIn X c.at_).here ?_)))
  refine PySem.W.KFB.if_not rfl ?_
  refine wpAny_ite_split (fun _ => ?_) (fun z => absurd rfl z)
  refine wpAny_bind (wpAny_rule ?_)
  refine wpAny_bind (wpAny_attempt (wpAny_mono (h _) (fun v s' q => ?_) fun _ _ z => z))
  obtain ⟨n, t, rfl, hn, q⟩ := q
  refine wpAny_bind (m := asInt? (.int n t)) (wpAny_pure ?_)
  exact PySem.W.KFB.if_not (notLongL hn) (wpAny_pure q)
theorem call_listO {X : Cx} {k : Nat} {f g : Addr} {fld : Str} (F : ∀ C, OwnIt X.K C f fld → FnSR X.prog X.w X.K X.mg X.base CX0 k f (spIt C X.K fld)) (G : ∀ C, Len1 X.K C g → OwnIt X.K C f fld → FnR X.prog X.w X.K X.mg X.base CX0 k g (spLn C X.K fld)) (hc : X.calm = true) (hr : Room (k + 3) X.A) : CallR X (.type "list") (rListO X.K f g fld) := by
  intro pins s σ H xs us Q I rv h
  obtain ⟨a, C, dx, l, fs, zs, rfl, ha, cI, cL, lk, sq, q⟩ := h
  obtain rfl := Vals.ref1 rv
  have fr0 : H s.heap.objs.size = none := I.hok.fresh (Nat.le_refl _)
  refine callType_codes (Q₁ := fun obj t => obj = .ref s.heap.objs.size ∧ t = { s with heap := s.heap.push { cls := .type "list", data := .seq #[] } }) PySem.F.called_list (PySem.F.typeCall_list_1 _) PySem.F.entry_list_init (code_list_new _ ⟨rfl, rfl⟩) fun obj t ht => ?_
  obtain ⟨rfl, rfl⟩ := ht
  have hS : (s.heap.push { cls := .type "list", data := .seq #[] }).get? s.heap.objs.size = some { cls := .type "list", data := .seq #[] } := Heap.get?_push_size _ rfl
  refine ⟨⟨_, hS, rfl⟩, PySem.F.args_list_init_2 _ _, ?_⟩
  have I1 : Inv X pins σ (upd H s.heap.objs.size (.lst [])) { s with heap := s.heap.push { cls := .type "list", data := .seq #[] } } := I.lnew (its := []) (t' := s.toks) .nil (Nat.zero_le _)
  generalize eSz : s.heap.objs.size = S at *
  show wpAny _ _ (do let old ← Builtin.List.listItems (.ref S); Builtin.List.listUpdate (.ref S) (fun _ => #[]); letGo old.toList.reverse; Builtin.List.listExtendWith (.ref S) (.ref a) .none) _ _ _
  refine wpAny_bind ?_
  unfold Builtin.List.listItems
  refine wpAny_bind (wpAny_seqItems hS rfl (wpAny_pure ?_))
  show wpAny _ _ (updateSeq S (fun _ => #[]) >>= fun _ => letGo (#[] : Array Value).toList.reverse >>= fun _ => Builtin.List.listExtendWith (.ref S) (.ref a) .none) _ _ _
  refine wpAny_bind (wpAny_updateSeq hS rfl ?_)
  have I2 := I1.lset (f := fun _ => #[]) (its := []) (its' := []) (ys := []) (t' := s.toks) upd_same hS rfl .nil (Nat.zero_le _)
  rw [upd_upd] at I2
  refine wpAny_bind (wpAny_letGo ?_)
  have ha2 : upd H S (.lst []) a = some (.ins C dx fs) := by
    rw [upd_ne (ne_of_none ha fr0)]
    exact ha
  have sq2 : SqT X.K (upd H S (.lst [])) l zs := sq.elim (fun r => .inl (r.elim (fun e => .inl (by rw [upd_ne (ne_of_none e fr0)]; exact e)) fun ⟨o, e⟩ => .inr ⟨o, by rw [upd_ne (ne_of_none e fr0)]; exact e⟩)) .inr
  have eS2 : upd H S (.lst []) S = some (.lst []) := upd_same
  have done : ∀ s', Inv X pins σ (upd (upd H S (.lst [])) S (.lst zs)) s' → EP X pins σ Q (.ref S) s' := fun s' J => by
    rw [upd_upd] at J
    exact ⟨.ref S, _, J, rfl, q S fr0⟩
  generalize upd H S (.lst []) = H2 at I2 ha2 sq2 eS2 done
  generalize ({ s with heap := ((s.heap.push { cls := .type "list", data := .seq #[] }).update S (Obj.mapSeq fun _ => #[])), toks := s.toks } : Shared) = s2 at I2 ⊢
  have sz := sizeLine_eq
  have nSa : S ≠ a := fun z => by
    rw [z, ha2] at eS2
    cases eS2
  obtain ⟨ox, od, J, _⟩ := StX.insC_at I2 (.inr ⟨dx, fs, ha2⟩)
  obtain ⟨mm, fr⟩ := I2.fr
  obtain ⟨itz, rvz, plz, hz⟩ := I2.tuple sq2
  unfold Builtin.List.listExtendWith
  refine wpAny_bind (J.type.here ?_)
  have t1 : Builtin.List.listSameRef (.ref S) (.ref a) = false := by simp [Builtin.List.listSameRef, nSa]
  have t2 : (Value.ref C == Value.type "list") = false := rfl
  have t3 : (Value.ref C == Value.type "tuple") = false := rfl
  simp only [t3, t2, t1, Bool.false_eq_true, Bool.or_false, if_false]
  have sp0 : spIt C X.K fld s2 [.ref a] H2 (fun v G2 => ∃ it, v = .ref it ∧ H2 it = none ∧ s2.heap.objs.size ≤ it ∧ G2 = upd H2 it (ItT l it)) E0 := ⟨a, dx, l, fs, zs, rfl, ha2, lk, sq2, fun it e n => ⟨it, rfl, e, n, rfl⟩⟩
  refine wpAny_bind (PySem.W.owit_iter fr I2.ok.mod.kin J cI.at_ cI.fn (wpAny_call (codeAny_mono (F C cI X.A.in1.in1 X.stack s2 H2 [.ref a] [.ref a] _ E0 (hr.in1.in1.mono (Nat.le_succ k)) I2.env0.in1.in1 (.cons rfl .nil) sp0) fun r s' z => ?_)))
  match r, z with
  | .error er, z => exact z.elim
  | .ok (.ret v), z =>
    obtain ⟨y, G3, os, br, un, ok, ry, it, ey, e1, hn, eH⟩ := z
    subst ey
    subst eH
    obtain rfl : v = Value.ref it := ry
    have I3 : Inv X pins σ (upd H2 it (ItT l it)) s' := I2.call' os un ok br fun b m => by cases m
    have nlit : l ≠ it := fun e => by
      obtain ⟨o, eo, _⟩ := plz
      exact absurd (Nat.lt_of_lt_of_le (Heap.lt_size eo) (e ▸ hn)) (Nat.lt_irrefl _)
    have mono : ∀ {b : Addr} {u : HO}, H2 b = some u → upd H2 it (ItT l it) b = some u := fun {b u} e => by
      rw [upd_ne (ne_of_none e e1)]
      exact e
    have ha3 := mono ha2
    have eS3 := mono eS2
    have sq3 : SqT X.K (upd H2 it (ItT l it)) l zs := sq2.elim (fun r => .inl (r.elim (fun e => .inl (mono e)) fun ⟨o, e⟩ => .inr ⟨o, mono e⟩)) .inr
    have e2 : upd H2 it (ItT l it) it = some (.ext fun h => h.get? it = some (itTup l 0)) := upd_same
    have fp0 := ItX.inv_fp I3 e2 (Nat.le_trans I2.sz hn)
    rw [ItX.dropH_upd e1] at fp0
    have loop : ∀ s4, Inv X pins σ (upd H2 it (ItT l it)) s4 → codeAny (model X.prog X.w) X.A.in1 (.builtin "list.extend.loop" ⟨[.ref S, .ref it, .none], []⟩) (wants (fun r t => r = .none ∧ EP X pins σ Q (.ref S) t) X.xe) s4 := fun s4 I4 => by
      have eo := itT_get I4 upd_same
      obtain ⟨iz, rz, pz, lz⟩ := I4.tuple sq3
      obtain ⟨z1, l1, c1, r1, _, f1⟩ := I4.lstM eS3
      cases r1
      have W := Walks.tuple (prog := X.prog) (w := X.w) (A := X.A.in1.in1) (I.ok.hd hc) it l nlit iz.toArray
      have I5 := ItX.inv_drop I4 e2
      rw [ItX.dropH_upd e1] at I5
      have nSf : S ∉ [it, l] := fun m => by
        rcases List.mem_cons.mp m with z | m
        · rw [z, e1] at eS2
          cases eS2
        · obtain ⟨o, e3, c3, d3⟩ := pz
          rw [← List.mem_singleton.mp m, f1] at e3
          cases e3
          exact absurd (show Value.type "list" = Value.type "tuple" from c3) (by decide)
      refine codeAny_extend_loopS W.toS (by rw [List.size_toArray, ← rz.length]; exact lz) S nSf .none iz.toArray.size 0 s4 #[] c1 rfl (Nat.zero_le _) ⟨⟨_, eo, rfl, rfl⟩, pz⟩ f1 (ItemsOf.nil _) fun t acc c2 mv f2 ic => ?_
      refine ⟨rfl, done t ?_⟩
      have J5 := listed (xs := zs) (acc := acc) (c := c2) (h' := t.heap) (t' := t.toks) I5 fp0 eS2 (fun b o n1 n2 e => mv.heap b o (fun m => (List.mem_cons.mp m).elim n1 fun m => n2 (List.mem_singleton.mp m)) e) f2 (by rw [items_all ic]; exact rz) lz
      rw [Moved.eq_with mv]
      exact J5
    refine tup_next (itT_get I3 upd_same) ?_
    obtain ⟨ox3, od3, J3, _⟩ := StX.insC_at I3 (.inr ⟨dx, fs, ha3⟩)
    obtain ⟨m3, fr3⟩ := I3.fr
    refine wpAny_bind (wpAny_holding (hint_own I3.kIn J3 cL fun E' => ?_))
    refine PySem.W.len_K fr3 I3.ok.mod.kin J3 cL.at_ cL.fn (wpAny_call (codeAny_mono (G C cL cI X.A.in1.in1.in1 X.stack s' _ [.ref a] [.ref a] (fun v G4 => v = .int (zs.length : Nat) ∧ G4 = upd H2 it (ItT l it)) E0 hr.in1.in1.in1 I3.env0.in1.in1.in1 (.cons rfl .nil) ⟨a, dx, l, fs, zs, rfl, ha3, lk, sq3, rfl, rfl⟩) fun r2 s5 z2 => ?_))
    match r2, z2 with
    | .error er, z2 => exact z2.elim
    | .ok (.ret v2), z2 =>
      obtain ⟨y2, G5, os2, br2, un2, ok2, ry2, ey2, eG⟩ := z2
      subst ey2
      subst eG
      obtain ⟨tk, rfl⟩ := ry2
      have I5 : Inv X pins σ (upd H2 it (ItT l it)) { s5 with toks := s5.toks + 1 } := (I3.call' os2 un2 ok2 br2 fun b m => by cases m).tok _
      refine ⟨⟨Int.natCast_nonneg _, by have : zs.length ≤ 16777216 := by rw [← sz]; exact hz
                                        omega⟩, _, _, rfl, by rw [Int.toNat_natCast]; exact hz, ?_⟩
      refine wpAny_ite_split (fun _ => ?_) (fun _ => wpAny_pure ⟨plainId_quiet PySem.F.plain_extend_loop _, loop _ I5⟩)
      refine wpAny_bind (wpAny_rule ?_)
      refine wpAny_bind ?_
      show wpAny _ _ (updateSeq S (·.push .none) >>= fun _ => updateSeq S (·.pop)) _ _ _
      obtain ⟨z6, l6, c6, r6, _, f6⟩ := I5.lstM eS3
      cases r6
      refine wpAny_bind (wpAny_updateSeq f6 rfl ?_)
      have I6 := I5.lset (f := (·.push Value.none)) (its := []) (its' := [Value.none]) (ys := [.non]) (t' := s5.toks + 1) eS3 f6 (by simp) (.cons rfl .nil) (by rw [List.length_singleton, sz]; decide)
      obtain ⟨z7, l7, c7, r7, _, f7⟩ := I6.lstM upd_same
      obtain ⟨u7, rfl, ru7⟩ := r7.one
      refine wpAny_updateSeq f7 rfl ?_ (by show 1 ≤ sizeLine; rw [sz]; decide) (by show 0 ≤ sizeLine + 1; exact Nat.zero_le _)
      have I7 := I6.lset (f := (·.pop)) (its := [u7]) (its' := []) (ys := []) (t' := s5.toks + 1) upd_same f7 (by rfl) .nil (Nat.zero_le _)
      rw [upd_upd] at I7
      have back : upd (upd H2 it (ItT l it)) S (.lst []) = upd H2 it (ItT l it) := funext fun b => by
        by_cases e : b = S
        · rw [e, upd_same, eS3]
        · rw [upd_ne e]
      rw [back] at I7
      exact wpAny_pure ⟨plainId_quiet PySem.F.plain_extend_loop _, loop _ I7⟩
end OwR
end
section
/-! def f(a, .., *v, k): called with the keyword; instances made so. -/
namespace OwR
open PySem PySem.Spec PyProof.Rows L2
/-- a promise by places and by the values of given keywords -/
def FnRK (P : Program) (w : World) (K : PySem.W.Frag) (mg : Str → Option Value) (base : Heap) (CX : CXT) (k : Nat) (f : Addr) (ks : List Str) (sp : List V → Sp) : Prop :=
  ∀ (A : Around) (outer : List Env) (s : Shared) (H : Hp) (us ws : List Value) (vs zs : List V) (Q : VK) (E : XK), Room k A → Env0 P w K mg base A outer s H → Vals vs us → Vals zs ws → sp zs vs H Q E →
    codeAny (model P w) A (.call (.ref f) ⟨us, ks.zip ws⟩) (CR CX outer P w H s Q E) s
section
variable {CX : CXT} {P : Program} {w : World} {K : PySem.W.Frag} {mg : Str → Option Value} {base : Heap} {k : Nat} {f : Addr} {name qual : Str} {params : Arguments} {body : List Stmt} {scope : Scope} {dV kV doc pm cdv ct oc : Value} {an od : Option Addr}
  {osl : Array (Option Value)} {N ps : List Str} {sp : Sp}
theorem fn_starko {pv kn : Str} (lk : K.lookup f = some ⟨oc, od, .func (PySem.W.fnOf name qual params body scope dV kV doc pm an cdv ct), osl⟩) (hcd : PySem.W.codeIn K cdv qual = true) (S : FnScope N (ps ++ [kn, pv]) scope) (hCX : StX.CXUp CX)
    (hb : ∀ (us rest : List Value) (y : Value), us.length = ps.length → bindArgs (PySem.W.fnOf name qual params body scope dV kV doc pm an cdv ct) ⟨us ++ rest, [(kn, y)]⟩ = (newTuple rest >>= fun t => pure (ps.zip us ++ [(kn, y), (pv, t)])))
    (hbody : ∀ (A : Around) (outer : List Env) (s : Shared) (H : Hp) (vs : List V) (Q : VK) (E : XK), Room k (A.deeper (envOfC qual scope s.heap.objs.size f cdv)) → sp vs H Q E →
      ∃ t, PSs (cxOf CX P w K mg base N qual scope f cdv A outer s H E) body t ∧ t { nx := fun _ H' => Q .non H', rt := Q } (start N vs) H) :
    FnRK P w K mg base CX (k + 1) f [kn] (fun zs vs H Q E => ∃ as rest y, zs = [y] ∧ vs = as ++ rest ∧ as.length = ps.length ∧ rest.length ≤ sizeLine ∧ ∀ p, H p = none → sp (as ++ [y, V.ref p]) (upd H p (.tup rest)) Q E) := by
  intro A outer s H us ws vs zs Q E hr e0 r rz hsp
  obtain ⟨as, rest, y, rfl, rfl, hl, hz, hq⟩ := hsp
  obtain ⟨u1, u2, rfl, r1, r2⟩ := StX.vals_split r
  obtain ⟨yv, rfl, ry⟩ := rz.one
  have fresh : H s.heap.objs.size = none := e0.hok.fresh (Nat.le_refl _)
  have l1 : u1.length = ps.length := r1.length.symm.trans hl
  have l2 : u2.length ≤ sizeLine := r2.length ▸ hz
  refine StX.run_bnd (args := ⟨u1 ++ u2, [kn].zip [yv]⟩) lk hcd S hr e0 (G := fun xs G2 => ∃ p, H p = none ∧ xs = as ++ [y, V.ref p] ∧ G2 = upd H p (.tup rest)) (fun A' Ex Q' h => ?_) fun s2 G2 xs g hr' => ?_
  · show wpAny _ _ (bindArgs _ ⟨u1 ++ u2, [(kn, yv)]⟩) _ _ _
    rw [hb u1 u2 yv l1]
    refine wpAny_bind (wpAny_newTuple (wpAny_pure ?_) l2)
    have laid : ObjOk P w (upd H s.heap.objs.size (.tup rest)) (s.heap.push ({ cls := .type "tuple", data := .seq u2.toArray } : Obj)) s.heap.objs.size (.tup rest) := ⟨hz, u2, r2, ⟨_, Heap.get?_push_size _ rfl, rfl, _, rfl⟩⟩
    have un := StX.un_laid (fs := frs outer) (s := s) (o := ({ cls := .type "tuple", data := .seq u2.toArray } : Obj)) (u := .tup rest) fresh
    have z := h _ _ (as ++ [y, V.ref s.heap.objs.size]) (u1 ++ [yv, Value.ref s.heap.objs.size]) (StX.env0_laid e0 laid) un rfl (fun e s' => hCX outer s H _ _ E e s' un (fun b o q => Heap.get?_push_of_some _ q) rfl) (r1.append (.cons ry (.cons rfl .nil)))
      (by rw [List.length_append, List.length_append, hl] <;> rfl) ⟨_, fresh, rfl, rfl⟩
    rw [List.zip_append l1.symm] at z
    exact z
  · obtain ⟨p, hp, rfl, rfl⟩ := g
    exact hbody A outer s2 _ _ Q E hr' (hq p hp)
end
section
variable {X : Cx} {CX : CXT} {k : Nat} {f C : Addr} {ks : List Str} {sp : List V → Sp} {E : XK} {x : Str} {p pos : Pos} {e : Expr} {es : List Expr} {kws : List Keyword} {t tk : TA}
theorem run_makeRK {pins : List (Addr × Obj)} {σ : L2.St} {H : Hp} {s : Shared} {Q : VK} {us ws : List Value} {vs zs : List V} (M : Mk X.K C f) (F : FnRK X.prog X.w X.K X.mg X.base CX k f ks sp) (hr : Room (k + 1) X.A) (hx : Passes CX X E) (I : Inv X pins σ H s) (r : Vals vs us) (rz : Vals zs ws)
    (h : ∀ y dy, H y = none → H dy = none → dy ≠ y → sp zs (.ref y :: vs) (upd (upd H dy (.own y)) y (.ins C dy [])) (fun v G => v = .non ∧ Q (.ref y) G) E) : wpAny (model X.prog X.w) X.A (call (.ref C) us (ks.zip ws)) (EP X pins σ Q) X.xe s := by
  have hq := h (s.heap.objs.size + 1) s.heap.objs.size (I.hok.fresh (Nat.le_succ _)) (I.hok.fresh (Nat.le_refl _)) (Nat.ne_of_lt (Nat.lt_succ_self _))
  have J := Inv.made (C := C) I
  have rr : Vals (V.ref (s.heap.objs.size + 1) :: vs) (Value.ref (s.heap.objs.size + 1) :: us) := .cons rfl r
  refine wpAny_call (make_map (f := f) I.kIn M.makes M.init (beq_iff_eq.mp M.fn) (codeAny_mono (F _ X.stack _ _ (Value.ref (s.heap.objs.size + 1) :: us) ws _ zs _ E (hr.make C us (ks.zip ws)) (J.env0.make C us (ks.zip ws)) rr rz hq) fun r s' z => ?_))
  match r, z with
  | .error er, z => exact hx pins σ _ _ er s' J z
  | .ok (.ret u), z =>
    obtain ⟨v, G, I3, rv, ev, q3⟩ := J.after z
    subst ev
    exact ⟨rv, ⟨V.ref (s.heap.objs.size + 1), G, I3, rfl, q3⟩⟩
def tMakeRK (C : Addr) (sp : List V → Sp) (E : XK) (t tk : TA) : TE := fun σ H Q => t σ H fun vs H1 => tk σ H1 fun zs H2 => ∀ y dy, H2 y = none → H2 dy = none → dy ≠ y → sp zs (.ref y :: vs) (upd (upd H2 dy (.own y)) y (.ins C dy [])) (fun v G => v = .non ∧ Q (.ref y) G) E
/-- C(e, .., k = v), __init__ with a starred parameter -/
theorem pe_makeRK (M : Mk X.K C f) (F : FnRK X.prog X.w X.K X.mg X.base CX k f ks sp) (hr : Room (k + 1) X.A) (hg : Gl X x) (hm : X.mg x = some (.ref C)) (hx : Passes CX X E) (ha : PA X (e :: es) t) (hkw : PK X kws tk)
    (hall : (backToKw pos (keywordEach kws X.env)).all (·.1.isSome) = true := by rfl) (hks : (backToKw pos (keywordEach kws X.env)).filterMap (·.1) = ks := by rfl) (hdb : (x == ("__debug__" : Str)) = false := by decide)
    (he : starEach (e :: es) X.env = (false, eval e X.env) :: starEach es X.env := by rfl) (hpl : ((backTo pos (starEach (e :: es) X.env)).any (·.1) || (backToKw pos (keywordEach kws X.env)).any (·.1.isNone)) = false := by rfl) :
    PE X (.Call (.Name x p) (e :: es) kws pos) (tMakeRK C sp E t tk) := by
  refine ⟨fun pins s σ H Q I h => ?_⟩
  refine wpAny_Call_Name_kw (ld_glob I hg hm ?_ hdb)
  refine PySem.W.callWith_KW (h₀ := X.base) I.ok.mod.kin M.kp hall (thn (ha.run pos pins s σ H _ I h) fun us s1 ⟨vs, H1, I1, r, q⟩ => ?_) hpl he
  refine thn (hkw.run pos pins s1 σ H1 _ I1 q) fun ws s2 ⟨zs, H2, I2, rz, q2⟩ => ⟨I2.kIn, ?_⟩
  rw [hks]
  exact run_makeRK M F hr hx I2 r rz q2
end
end OwR
end
section
/-! xs[::k]; an own == asked of any value; str(o) by an own __str__. -/
namespace OwR
open PySem PySem.Spec PyProof.Rows L2
/-! ### xs[::k] -/
theorem vals_pick {xs : List V} {us : List Value} (r : Vals xs us) : ∀ idx : List Nat, Vals (idx.filterMap (xs[·]?)) (idx.filterMap (us[·]?))
  | [] => .nil
  | i :: l => by
    have ih := vals_pick r l
    rw [List.filterMap_cons, List.filterMap_cons]
    cases hx : xs[i]? with
    | none =>
      have e : us[i]? = none := by
        rw [List.getElem?_eq_none_iff] at hx ⊢
        rw [← r.length]
        exact hx
      rw [e]
      exact ih
    | some x =>
      obtain ⟨u, hu, ru⟩ := r.get hx
      rw [hu]
      exact .cons ru ih
theorem pick_mem {α : Type} {xs : List α} : ∀ {idx : List Nat} {y : α}, y ∈ idx.filterMap (xs[·]?) → y ∈ xs := fun {idx y} h => by
  obtain ⟨i, _, e⟩ := List.mem_filterMap.mp h
  exact List.mem_of_getElem? e
def tStepL (K : PySem.W.Frag) (te : TE) : TE := fun σ H Q => te σ H fun x H1 => ∃ a xs, x = .ref a ∧ SqL K H1 a xs ∧ ∀ p ys, H1 p = none → (∀ y ∈ ys, y ∈ xs) → Q (.ref p) (upd H1 p (.lst ys))
theorem pe_stepL {X : Cx} {e : Expr} {te : TE} {n : Nat} {k : Nat} {p1 p3 pos : Pos} (h0 : (n : Int) ≠ 0) (he : PE X e te) : PE X (.Subscript e (.Slice none none (some (.Constant (.int (n : Int)) k p1)) p3) pos) (tStepL X.K te) := by
  refine ⟨fun pins s σ H Q I h => ?_⟩
  refine Subscript_ (thn (he.run pins s σ H _ I h) fun v s1 w => ?_)
  obtain ⟨x, H1, I1, r1, a, xs, rfl, hx, q⟩ := w
  cases r1
  have hst : PO X (some (.Constant (.int (n : Int)) k p1)) (tPart (tC (.int (n : Int)))) := po_some pe_int
  refine wpAny_Slice (thn (po_none.run pins s1 σ H1 (fun o H2 => o = none ∧ H2 = H1) I1 ⟨rfl, rfl⟩) fun vl s2 w2 => ?_)
  obtain ⟨l, H2, I2, pl, rfl, rfl⟩ := w2
  refine thn (po_none.run pins s2 σ H2 (fun o H3 => o = none ∧ H3 = H2) I2 ⟨rfl, rfl⟩) fun vu s3 w3 => ?_
  obtain ⟨u, H3, I3, pu, rfl, rfl⟩ := w3
  refine thn (hst.run pins s3 σ H3 (fun o H4 => o = some (n : Int) ∧ H4 = H3) I3 ⟨(n : Int), rfl, rfl, rfl⟩) fun vs s4 w4 => ?_
  obtain ⟨o, H4, I4, ps, rfl, rfl⟩ := w4
  have I5 : Inv X pins σ H4 { s4 with heap := s4.heap.push { cls := .type "slice", data := .fields #[vl, vu, vs] } } := I4.kept (t' := s4.toks) fun b ob q => Heap.get?_push_of_some _ q
  obtain ⟨its, r, ht, hz⟩ := I5.list hx
  have hlen := r.length
  show wpAny (model X.prog X.w) X.A (subscriptTail e (.Slice none none (some (.Constant (.int (n : Int)) k p1)) p3) (.ref a) (.ref s4.heap.objs.size)) (EP X pins σ Q) X.xe { s4 with heap := s4.heap.push { cls := .type "slice", data := .fields #[vl, vu, vs] } }
  refine tail_any (ops := [.ref a, .ref s4.heap.objs.size]) ht.isList.typeIs (PySem.slot_list_getitem.lookup) ?_ (by with_unfolding_all rfl)
  refine wpAny_getItem_list_slice ht.isList (Heap.IsSliceOf.new _ vl vu vs) pl pu ps (fun z => h0 (Option.some.inj z)) ?_ (by rw [List.size_toArray]; omega)
  have hz2 := slicePick_size_le its.toArray none none (some (n : Int))
  have ep : slicePick its.toArray none none (some (n : Int)) = ((sliceRange (sliceBounds none none (some (n : Int)) its.toArray.size).1 (sliceBounds none none (some (n : Int)) its.toArray.size).2.1 (sliceBounds none none (some (n : Int)) its.toArray.size).2.2).filterMap (its[·]?)).toArray := by
    unfold slicePick
    simp
  rw [ep] at hz2 ⊢
  generalize sliceRange (sliceBounds none none (some (n : Int)) its.toArray.size).1 (sliceBounds none none (some (n : Int)) its.toArray.size).2.1 (sliceBounds none none (some (n : Int)) its.toArray.size).2.2 = idx at hz2 ⊢
  have rv := vals_pick r idx
  rw [List.size_toArray, List.size_toArray] at hz2
  refine ⟨.ref _, _, I5.laid (t' := s4.toks) (o := .lst (idx.filterMap (xs[·]?))) (fun b ob q => Heap.get?_push_of_some _ q) (Nat.le_refl _) ?_, rfl, q _ _ (I5.hok.fresh (Nat.le_refl _)) fun y hy => pick_mem hy⟩
  exact ⟨by rw [rv.length]; omega, _, 0, rv, Heap.get?_push_size _ rfl⟩
/-! ### an own comparison asked of any value -/
def rCmpX (K : PySem.W.Frag) (op : CmpOp) (g : Addr) (sp : Sp) (E : XK) : R2 := fun x y H Q => ∃ (p C dx : Addr) (fs : List (Str × V)) (t : Value), x = .ref p ∧ H p = some (.ins C dx fs) ∧ TyX K H y t ∧ Cmp1 K op C g ∧ PySem.W.notFirst K C t = true ∧ sp [.ref p, y] H Q E
section
variable {X : Cx} {CX : CXT} {k : Nat} {g : Addr} {sp : Sp} {E : XK}
theorem rc_ownX {o : CmpOp} (hu : X.A.units < cLine) (F : FnR X.prog X.w X.K X.mg X.base CX k g sp) (hr : Room k X.A) (hx : Passes CX X E) : OpR X (richCompare o) (rCmpX X.K o g sp E) := by
  intro pins s σ H x y v u Q I rx ry h
  obtain ⟨p, C, dx, fs, t, rfl, ep, ty, c1, nf, hq⟩ := h
  obtain rfl : v = Value.ref p := rx
  obtain ⟨ox, od, J, _⟩ := StX.insC_at I (.inr ⟨dx, fs, ep⟩)
  obtain ⟨P, kx, pS, _⟩ := kit_of I ry ty
  obtain ⟨mm, fr⟩ := I.fr
  exact PySem.W.cmp_K hu fr I.ok.mod.kin J (kx.ty (model X.prog X.w) s.heap I.kIn pS) nf c1.at_ c1.fn (run_own F hr hx I (us := [.ref p, u]) (vs := [.ref p, y]) (.cons rfl (.cons ry .nil)) hq)
theorem op_ownEqX (hu : X.A.units < cLine) (F : FnR X.prog X.w X.K X.mg X.base CX k g sp) (hr : Room k X.A) (hx : Passes CX X E) : OpR X (compareOp .Eq) (rCmpX X.K .Eq g sp E) := fun pins s σ H x y v u Q I rx ry h => PySem.W.cmp_ofEq (rc_ownX hu F hr hx pins s σ H x y v u Q I rx ry h)
theorem op_ownEqXK {K : PySem.W.Frag} (hK : X.K = K) (hu : X.A.units < cLine) (F : FnR X.prog X.w X.K X.mg X.base CX k g sp) (hr : Room k X.A) (hx : Passes CX X E) : OpR X (compareOp .Eq) (rCmpX K .Eq g sp E) := by
  subst hK
  exact op_ownEqX hu F hr hx
/-! ### str(o) -/
structure Str1 (K : PySem.W.Frag) (C g : Addr) : Prop where
  at_ : PySem.W.findIn K (.ref C) "__str__" = some (some (.ref g))
  fn : PySem.W.isFn K (.ref g) = true
def rStrO (K : PySem.W.Frag) (g : Addr) (sp : Sp) (E : XK) : List V → Hp → VK → Prop := fun xs H Q => ∃ (a C dx : Addr) (fs : List (Str × V)), xs = [.ref a] ∧ H a = some (.ins C dx fs) ∧ Str1 K C g ∧ sp [.ref a] H (fun v H' => ∃ z : Str, v = .str z ∧ Q (.str z) H') E
theorem call_strO (hu : X.A.units + 2 < cLine) (F : FnR X.prog X.w X.K X.mg X.base CX k g sp) (hr : Room (k + 2) X.A) (hx : Passes CX X E) : CallR X (.type "str") (rStrO X.K g sp E) := by
  intro pins s σ H xs us Q I r h
  obtain ⟨a, C, dx, fs, rfl, ea, c, hq⟩ := h
  obtain rfl := Vals.ref1 r
  obtain ⟨ox, od, J, _⟩ := StX.insC_at I (.inr ⟨dx, fs, ea⟩)
  refine PySem.W.kso_call (by simpa using hu) I.kIn J c.at_ c.fn ?_
  refine wpAny_call (codeAny_mono (F X.A.in1.in1 X.stack s H [.ref a] [.ref a] _ E hr.in1.in1 I.env0.in1.in1 (.cons rfl .nil) hq) fun r s' hq => ?_)
  cases r with
  | error er => exact hx pins σ H s er s' I hq
  | ok fl =>
    cases fl with
    | ret u =>
      obtain ⟨v, H', I', rv, z, rfl, q2⟩ := I.after hq
      obtain ⟨t, rfl⟩ := rv
      exact ⟨.str z, H', I', ⟨t, rfl⟩, q2⟩
    | next => exact False.elim hq
    | brk => exact False.elim hq
    | cont => exact False.elim hq
end
end OwR
end
section
/-! a text == a dict, == an object with an own ==; x in o by an own __contains__. -/
namespace OwR
open PySem PySem.Spec PyProof.Rows L2
theorem str_no_plain (b : Str) (u : Tok) (l : Addr) (c : Value) (dd : Option Addr) (sl : Array (Option Value)) :
    Meets (Builtin.«str.__eq__» ⟨[.str b u, .ref l], []⟩) (fun _ R s => s.heap.get? l = some { cls := c, dict := dd, data := .plain, slots := sl } ∧ R (.ok (.ret .notImplemented)) s) :=
  .of_wp fun prog w A R s h => by obtain ⟨hp, g, d, tk, os⟩ := s; obtain ⟨hl, h⟩ := h; wp_walk using wpAny_loadPart' hl, wpAny_load hl; exact ⟨_, rfl, h⟩
theorem str_no_dict (b : Str) (u : Tok) (l : Addr) (c : Value) (es : Array DictEntry) (n : Nat) (dd : Option Addr) (sl : Array (Option Value)) :
    Meets (Builtin.«str.__eq__» ⟨[.str b u, .ref l], []⟩) (fun _ R s => s.heap.get? l = some { cls := c, dict := dd, data := .dict es n, slots := sl } ∧ R (.ok (.ret .notImplemented)) s) :=
  .of_wp fun prog w A R s h => by obtain ⟨hp, g, d, tk, os⟩ := s; obtain ⟨hl, h⟩ := h; wp_walk using wpAny_loadPart' hl, wpAny_load hl; exact ⟨_, rfl, h⟩
section
variable {prog : Program} {w : World} {A : Around} {E : Value → Shared → Prop} {s : Shared} {K : PySem.W.Frag} {x C f : Addr} {ox : Obj} {od : Option Obj} {z : Str} {t : Tok}
theorem rc_strOwn {Q : Value → Shared → Prop} (hu : A.units < cLine) (X : K.In s.heap) (I : PySem.W.InstAt s.heap x ox C od) (hd : ox.data = .plain) (sub : PySem.W.subIn K (.ref C) (.type "str") = some false)
    (eq : PySem.W.findIn K (.ref C) "__eq__" = some (some (.ref f))) (fn : PySem.W.isFn K (.ref f) = true) (h : wpAny (model prog w) A (call (.ref f) [.ref x, .str z t]) (PySem.W.CmpBack Q) E s) :
    wpAny (model prog w) A (richCompare .Eq (.str z t) (.ref x)) Q E s := by
  have one : wpAny (model prog w) A (tryCompare (.ref x) "__eq__" (.str z t)) (fun r s' => ∃ v, r = some v ∧ Q v s') E s := by
    unfold tryCompare
    refine wpAny_bind (PySem.W.ifBound_K X I eq fn (wpAny_mono h (fun v s' hv => ?_) fun _ _ e => e))
    cases v <;> first | exact hv.elim | exact wpAny_pure ⟨_, rfl, hv⟩
  have ta : s.TypeIs (.str z t) "str" := typeIs_str s z t
  have no : wpAny (model prog w) A (call (.builtin "str.__eq__") [.str z t, .ref x]) (fun v s' => v = .notImplemented ∧ s' = s) E s := by
    obtain ⟨cls, dd, data, sl⟩ := ox
    have hd : data = .plain := hd
    subst hd
    exact call_meets F.slot_str_eq ta F.entry_str_eq (F.args_str_eq_2 _ _) (str_no_plain z t x cls dd sl) ⟨I.at_, rfl, rfl⟩
  rcases hi : cmpInfo CmpOp.Eq with ⟨sym, f1, r1⟩
  have h1 := F.slot_str_eq
  have e2 : r1 = "__eq__" := by cases hi; rfl
  rw [hi] at h1
  subst e2
  simp only [richCompare, hi, ta.oneThing_none]
  refine wpAny_holding (wpAny_bind (wpAny_cRoomFor hu ?_))
  refine wpAny_bind (wpAny_typeOf ta (wpAny_bind (I.type.here ?_)))
  simp only [show (Value.type "str" != Value.ref C) = true from rfl, if_true]
  refine wpAny_bind ((PySem.W.looks_subIn X sub).here ?_)
  simp only [Bool.false_eq_true, if_false, Bool.not_false, if_true]
  refine wpAny_bind (m := tryCompare (.str z t) _ (.ref x)) (wpAny_tryCompare_declines ta h1 (wpAny_mono no (fun v s1 h1 => ⟨h1.1, ?_⟩) fun _ _ x => x))
  obtain ⟨_, rfl⟩ := h1
  refine wpAny_bind (wpAny_mono one (fun r s' q => ?_) fun _ _ e => e)
  obtain ⟨v, rfl, hq⟩ := q
  exact wpAny_pure hq
theorem sub_str_dict : isSubtype (.type "str") (.type "dict") = pure false := by rw [isSubtype_type]; kernel_rfl
theorem rc_strDict {l : Addr} {o : Obj} {es : Array DictEntry} {n : Nat} {Q : Value → Shared → Prop} (hu : A.units < cLine) (ho : s.heap.get? l = some o) (hc : o.cls = .type "dict") (hd : o.data = .dict es n) (h : Q (.bool false) s) : wpAny (model prog w) A (richCompare .Eq (.str z t) (.ref l)) Q E s := by
  obtain ⟨cls, dd, data, sl⟩ := o
  have hc : cls = .type "dict" := hc
  have hd : data = .dict es n := hd
  subst hc hd
  have tb : s.TypeIs (.ref l) "dict" := ⟨_, ho, rfl⟩
  exact PySem.SeqAt.rc_eq_decline_or (k := false) (typeIs_str s z t) tb (by decide) F.sub_dict_str F.slot_str_eq F.slot_dict_eq_refl
    (fun _ hq => call_meets F.slot_str_eq (typeIs_str s z t) F.entry_str_eq (F.args_str_eq_2 _ _) (str_no_dict z t l (.type "dict") es n dd sl) ⟨ho, hq⟩)
    (fun _ hq => by
      refine wpAny_call_entry F.slot_dict_eq_refl tb F.entry_dict_eq ?_ (F.args_dict_eq_2 _ _)
      show wpAny _ _ (Builtin.Dict.dictSlotArgs "__eq__" ⟨[.ref l, .str z t], []⟩ >>= _) _ _ s
      refine wpAny_bind ?_
      unfold Builtin.Dict.dictSlotArgs
      refine wpAny_bind (wpAny_notOrdered_dict tb ?_)
      show wpAny _ _ (pure (Value.ref l, Value.str z t)) _ _ s
      refine wpAny_pure ?_
      refine wpAny_bind (wpAny_isInstance (T := "str") (typeIs_str s z t) sub_str_dict ?_)
      simp only [Bool.not_false, if_true]
      exact wpAny_bind (wpAny_rule (wpAny_bind (wpAny_pure (wpAny_pure ⟨_, rfl, hq⟩)))))
    (fun _ hq => wpAny_of_eq (rfl : isSame (.str z t) (.ref l) = pure false) hq) (.inr hu) h
end
/-! ### the rules -/
structure StrEq (K : PySem.W.Frag) (C g : Addr) : Prop where
  sub : PySem.W.subIn K (.ref C) (.type "str") = some false
  at_ : PySem.W.findIn K (.ref C) "__eq__" = some (some (.ref g))
  fn : PySem.W.isFn K (.ref g) = true
/-- a text == anything: data, a dict, an object with an own == -/
def rStrAny (K : PySem.W.Frag) (g : Addr) (sp : Sp) (E : XK) : R2 := fun x y H Q => rEqD K x y H Q ∨ (∃ (z : Str) (a : Addr) (kvs : List (Key × V)), x = .str z ∧ y = .ref a ∧ H a = some (.dK kvs) ∧ Q (.bl false) H) ∨
  ∃ (z : Str) (p C dx : Addr) (fs : List (Str × V)), x = .str z ∧ y = .ref p ∧ H p = some (.ins C dx fs) ∧ StrEq K C g ∧ sp [.ref p, x] H Q E
structure In1 (K : PySem.W.Frag) (C g : Addr) : Prop where
  at_ : PySem.W.findIn K (.ref C) "__contains__" = some (some (.ref g))
  fn : PySem.W.isFn K (.ref g) = true
def rInO (K : PySem.W.Frag) (g : Addr) (sp : Sp) (E : XK) : R2 := fun x y H Q => ∃ (p C dx : Addr) (fs : List (Str × V)), y = .ref p ∧ H p = some (.ins C dx fs) ∧ In1 K C g ∧ sp [.ref p, x] H (fun v H' => ∃ c, v = .bl c ∧ Q (.bl c) H') E
section
variable {X : Cx} {CX : CXT} {k : Nat} {g : Addr} {sp : Sp} {E : XK}
theorem op_strAny {K : PySem.W.Frag} (hK : X.K = K) (hu : X.A.units + 64 < cLine) (F : FnR X.prog X.w X.K X.mg X.base CX k g sp) (hr : Room k X.A) (hx : Passes CX X E) : OpR X (compareOp .Eq) (rStrAny K g sp E) := by
  subst hK
  intro pins s σ H x y v u Q I rx ry h
  have hu0 : X.A.units < cLine := by omega
  rcases h with h | ⟨z, a, kvs, rfl, rfl, ea, q⟩ | ⟨z, p, C, dx, fs, rfl, rfl, ep, c, hq⟩
  · exact op_eqD hu pins s σ H x y v u Q I rx ry h
  · obtain ⟨t, rfl⟩ := rx
    obtain rfl : u = Value.ref a := ry
    obtain ⟨_, _, vs, _, o, es, n, e1, e2, e3, _⟩ := (show ObjOk X.prog X.w H s.heap a (.dK kvs) from I.hok a _ ea)
    exact PySem.W.cmp_ofEq (rc_strDict hu0 e1 e2.1 e3 ⟨.bl _, H, I, rfl, q⟩)
  · obtain ⟨t, rfl⟩ := rx
    obtain rfl : u = Value.ref p := ry
    obtain ⟨ox, od, J, hd⟩ := StX.insC_at I (.inr ⟨dx, fs, ep⟩)
    exact PySem.W.cmp_ofEq (rc_strOwn hu0 I.kIn J hd c.sub c.at_ c.fn (run_own F hr hx I (us := [.ref p, .str z t]) (vs := [.ref p, .str z]) (.cons rfl (.cons ⟨t, rfl⟩ .nil)) hq))
theorem op_inO (F : FnR X.prog X.w X.K X.mg X.base CX k g sp) (hr : Room k X.A) (hx : Passes CX X E) : OpR X (compareOp .In) (rInO X.K g sp E) := by
  intro pins s σ H x y v u Q I rx ry h
  obtain ⟨p, C, dx, fs, rfl, ep, c, hq⟩ := h
  obtain rfl : u = Value.ref p := ry
  obtain ⟨ox, od, J, _⟩ := StX.insC_at I (.inr ⟨dx, fs, ep⟩)
  obtain ⟨mm, fr⟩ := I.fr
  refine PySem.W.in_K fr I.ok.mod.kin J c.at_ c.fn (wpAny_mono (wpAny_call (run_fnR F hr hx I (us := [.ref p, v]) (vs := [.ref p, x]) (.cons rfl (.cons rx .nil)) hq)) (fun r s' q => ?_) fun _ _ q => q)
  obtain ⟨y2, H2, I2, r2, b, rfl, q⟩ := q
  cases (show r = Value.bool b from r2)
  exact wpAny_pure ⟨.bl b, H2, I2, rfl, q⟩
end
end OwR
end
section
namespace OwR
open PySem PySem.Spec PyProof.Rows L2
/-! ### tuple(d), d a dict: its keys -/
section
variable {prog : Program} {w : World} {A : Around} {E : Value → Shared → Prop} {s : Shared} {T : String} {r d : Addr} {n : Nat} {P : Nat → Value → Prop} {OK : Heap → Prop}
theorem collect_src {Q : List Value → Shared → Prop} (K : PySem.W.KdlSrc prog w T r d n P OK) (hh : A.handled = none) (hok : OK s.heap) (hn : n ≤ sizeLine)
    (hQ : ∀ h' tk (out : List Value), (∀ b o, s.heap.get? b = some o → h'.get? b = some o) → out.length = n → (∀ j v, out[j]? = some v → P j v) → Q out { s with heap := h', toks := tk }) :
    wpAny (model prog w) A (collect (.ref r)) Q E s := by
  unfold collect
  refine wpAny_bind (wpAny_runValue (codeAny_builtin F.entry_proto_collect ?_))
  rw [Around.under_plainId F.plain_proto_collect _]
  show wpAny _ A.in1 (newList [] >>= fun l => again (.builtin "list.__iadd__" ⟨[l, .ref r], []⟩)) _ _ s
  refine wpAny_bind (wpAny_newObj_type ?_)
  refine wpAny_pure ⟨plainId_quiet F.plain_list_iadd _, codeAny_builtin F.entry_list_iadd ?_⟩
  rw [Around.under_plainId F.plain_list_iadd _]
  have there := K.there _ hok
  have hS : (s.heap.push { cls := .type "list", data := .seq ([] : List Value).toArray }).get? s.heap.objs.size = some { cls := .type "list", data := .seq #[] 0 } := Heap.get?_push_size _ rfl
  have fin : ∀ h' tk (acc : Array Value) (c : Nat), (∀ b o, b ≠ s.heap.objs.size → (s.heap.push { cls := .type "list", data := .seq ([] : List Value).toArray }).get? b = some o → h'.get? b = some o) →
      h'.get? s.heap.objs.size = some { cls := .type "list", dict := none, data := .seq acc c, slots := #[] } → ItemsOf P acc n →
      wpAny (model prog w) A (load s.heap.objs.size >>= fun ob => match ob.data with
        | .seq vs _ => pure vs.toList
        | _ => unsupported "internal:collect") Q E { s with heap := h', toks := tk } := fun h' tk acc c k hS' hacc =>
    wpAny_bind (wpAny_load hS' (wpAny_pure (hQ h' tk acc.toList (fun b o e => k b o (Nat.ne_of_lt (Heap.lt_size e)) (Heap.get?_push_of_some _ e)) (by rw [Array.length_toList]; exact hacc.1) fun j v e => hacc.2 j v (by rw [← Array.getElem?_toList]; exact e))))
  refine wpAny_mono (PySem.W.kdl_extend (A := A) (R := fun r s' => r = .ok (.ret (.ref s.heap.objs.size)) ∧ wpAny (model prog w) A (load s.heap.objs.size >>= fun ob => match ob.data with
        | .seq vs _ => pure vs.toList
        | _ => unsupported "internal:collect") Q E s') (s := { s with heap := s.heap.push { cls := .type "list", data := .seq ([] : List Value).toArray } }) K hh (K.keep _ _ hok fun b _ o e => Heap.get?_push_of_some _ e) s.heap.objs.size
    (Nat.ne_of_gt there.1) (Nat.ne_of_gt there.2) (.ref s.heap.objs.size) 0 hS (fun h' tk acc c k hS' hacc => ⟨rfl, fin h' tk acc c k hS' hacc⟩) hn) (fun f s' h => ?_) fun e s' h => ?_
  · cases f with
    | done f =>
      obtain ⟨e, z⟩ := h
      cases e
      exact z
    | again c' => exact ⟨h.1, codeAny_mono h.2 fun r s2 hr => by obtain ⟨rfl, z⟩ := hr; exact z⟩
  · cases h.1
theorem call_tuple_src {Q : Value → Shared → Prop} (K : PySem.W.KdlSrc prog w T r d n P OK) (hok : OK s.heap) (hn : n ≤ sizeLine) (hh : A.handled = none)
    (hQ : ∀ (h' : Heap) (tk : Nat) (out : List Value), (∀ b o, s.heap.get? b = some o → h'.get? b = some o) → out.length = n → (∀ j v, out[j]? = some v → P j v) →
      Q (.ref h'.objs.size) { s with heap := h'.push { cls := .type "tuple", data := .seq out.toArray }, toks := tk }) :
    wpAny (model prog w) A (call (.type "tuple") [.ref r]) Q E s := by
  have M : MeetsIn prog w (Builtin.«tuple.__new__» ⟨[.type "tuple", .ref r], []⟩) (fun (A' : Around) (R : Result → Shared → Prop) (s : Shared) => A'.handled = none ∧ OK s.heap ∧ ∀ (h' : Heap) (tk : Nat) (out : List Value), (∀ b o, s.heap.get? b = some o → h'.get? b = some o) → out.length = n → (∀ j v, out[j]? = some v → P j v) →
      R (.ok (.ret (.ref h'.objs.size))) { s with heap := h'.push { cls := .type "tuple", data := .seq out.toArray }, toks := tk }) := .of_wp fun A R s h => by
    obtain ⟨hp, g, dr, tk, os⟩ := s
    obtain ⟨hh', ht, h⟩ := h
    have hsub := sub_tuple_self
    have hinit := init_tuple_lookup
    have hmh := madeHere_tuple
    have hT : Shared.TypeIs ⟨hp, g, dr, tk, os⟩ (.ref r) T := K.type _ ht
    have col : ∀ {Q : List Value → Shared → Prop} {E : Value → Shared → Prop}, (∀ (h' : Heap) (tk' : Nat) (out : List Value), (∀ b o, hp.get? b = some o → h'.get? b = some o) → out.length = n → (∀ j v, out[j]? = some v → P j v) → Q out ⟨h', g, dr, tk', os⟩) →
        wpAny (model prog w) A.in1 (collect (.ref r)) Q E ⟨hp, g, dr, tk, os⟩ := fun hq => collect_src (s := ⟨hp, g, dr, tk, os⟩) K hh' ht hn hq
    have hnt : (Value.type T == Value.type "tuple") = false := K.notTuple
    wp_walk using wpAny_typeOf hT, col
    intro h' tk' out k l1 l2
    refine wpAny_bind (wpAny_pure ?_)
    show wpAny _ _ (Builtin.Tuple.tupleExact out.toArray >>= fun v => ret v) _ _ _
    unfold Builtin.Tuple.tupleExact
    refine wpAny_bind (wpAny_newObj_type ?_ (by show out.toArray.size ≤ sizeLine; rw [List.size_toArray, l1]; exact hn))
    exact wpAny_pure ⟨_, rfl, h h' tk' out k l1 l2⟩
  exact callType_newIn F.called_tuple (by decide) (F.typeCall_tuple_1 _) (F.newCall_tuple_1 _) (fun obj => F.args_object_init_2 obj _) F.entry_tuple_new M
    ⟨hh, hok, fun h' tk out k l1 l2 => ⟨⟨_, Heap.get?_push_size _ rfl, rfl⟩, hQ h' tk out k l1 l2⟩⟩
end
theorem call_tupleD {X : Cx} (hcalm : X.calm = true) : CallR X (.type "tuple") (fun xs H Q => ∃ (a : Addr) (kvs : List (Key × V)), xs = [.ref a] ∧ Rd H a (.dK kvs) ∧ ∀ p, H p = none → Q (.ref p) (upd H p (.tup (kvs.map fun kv => kV kv.1)))) := by
  intro pins s σ H xs us Q I r q
  obtain ⟨a, kvs, ex, hd, q⟩ := q
  subst ex
  obtain ⟨u, eu, rx⟩ := vals1 r
  subst eu
  cases rx
  obtain ⟨z, lo, vs, rel, dd⟩ := dk_rd I.hok hd
  obtain ⟨ep, hat⟩ := dd.dictAt
  have ek : (kvs.map fun kv => kV kv.1) = vs.map fun p => kV p.1 := by
    have e := congrArg (List.map kV) rel.keys
    rw [List.map_map, List.map_map] at e
    exact e
  refine call_tuple_src (PySem.W.kdl_dict (knd := mixKind X.prog X.w) (kvs := vs) (ep := ep) lo) hat (by rw [← rel.length]; exact z) (I.ok.hd hcalm) fun h' tk out k l1 l2 => ?_
  have hv : Vals (vs.map fun p => kV p.1) out := keys_at l1 fun j v e => l2 j v e
  have I1 : Inv X pins σ H { s with heap := h', toks := tk } := I.kept (t' := tk) k
  exact ⟨.ref h'.objs.size, _, I1.laid (t' := tk) (o := .tup (kvs.map fun kv => kV kv.1)) (fun b o e => Heap.get?_push_of_some _ e) (Nat.le_refl _) ⟨by rw [List.length_map]; exact z, out, by rw [ek]; exact hv, ⟨_, Heap.get?_push_size _ rfl, rfl, 0, rfl⟩⟩, rfl, q _ (I1.hok.fresh (Nat.le_refl _))⟩
end OwR
end
section
/-! Own: {x} in an f-string, x of an own class with an own str. -/
namespace OwR
open PySem PySem.Spec PyProof.Rows L2
structure Fmt1 (K : PySem.W.Frag) (C g : Addr) : Prop where
  fmt : PySem.W.findIn K (.ref C) "__format__" = some (some (.builtin "object.__format__"))
  obj : PySem.W.mroIn K C (.type "object") = some true
  at_ : PySem.W.findIn K (.ref C) "__str__" = some (some (.ref g))
  fn : PySem.W.isFn K (.ref g) = true
def tFmtO (K : PySem.W.Frag) (g : Addr) (sp : Sp) (E : XK) (te : TE) : TE := fun σ H Q => te σ H fun x H1 => ∃ (p C dx : Addr) (fs : List (Str × V)), x = .ref p ∧ H1 p = some (.ins C dx fs) ∧ Fmt1 K C g ∧ sp [.ref p] H1 (fun v H' => ∃ z : Str, v = .str z ∧ Q (.str z) H') E
theorem pe_fmtO {X : Cx} {CX : CXT} {k : Nat} {g : Addr} {sp : Sp} {E : XK} {e : Expr} {te : TE} {pos : Pos} (he : PE X e te) (hu : X.A.units + 2 < cLine) (F : FnR X.prog X.w X.K X.mg X.base CX k g sp) (hr : Room (k + 1) X.A) (hx : Passes CX X E) : PE X (.FormattedValue e (-1) none pos) (tFmtO X.K g sp E te) := by
  refine ⟨fun pins s σ H Q I h => ?_⟩
  refine wpAny_FormattedValue_plain (thn (he.run pins s σ H _ I h) fun v s1 hv => ?_)
  obtain ⟨x, H1, I1, r1, p, C, dx, fs, rfl, ep, c, hq⟩ := hv
  obtain rfl : v = Value.ref p := r1
  obtain ⟨ox, od, J, _⟩ := StX.insC_at I1 (.inr ⟨dx, fs, ep⟩)
  refine PySem.W.kfo_fieldS (by simp; omega) I1.kIn J c.fmt c.obj c.at_ c.fn ?_
  have I2 := I1.tok (s1.toks + 1)
  refine wpAny_call (codeAny_mono (F X.A.in1 X.stack { s1 with toks := s1.toks + 1 } H1 [.ref p] [.ref p] _ E hr.in1 I2.env0.in1 (.cons rfl .nil) hq) fun r s' hq => ?_)
  cases r with
  | error er => exact hx pins σ H1 _ er s' I2 hq
  | ok fl =>
    cases fl with
    | ret u =>
      obtain ⟨v, H', I', rv, z, rfl, q2⟩ := I2.after hq
      obtain ⟨t, rfl⟩ := rv
      exact ⟨.str z, H', I', ⟨t, rfl⟩, q2⟩
    | next => exact False.elim hq
    | brk => exact False.elim hq
    | cont => exact False.elim hq
end OwR
end
section
/-! Own: zip of a list and a tuple. -/
namespace OwZ
open PySem PySem.Spec PyProof.Rows L2
/-- all but the zip's own four objects stand -/
def Stay (z TO i1 i2 : Addr) (h h' : Heap) : Prop := ∀ c o, c ≠ z → c ≠ TO → c ≠ i1 → c ≠ i2 → h.get? c = some o → h'.get? c = some o
section
variable {prog : Program} {w : World} {A : Around} {E : Value → Shared → Prop} {s : Shared} {z TI TO i1 i2 l1 l2 : Addr} {k1 k2 : Nat} {xs ys : Array Value} {a b : Value}
/-- one step: a new pair, or the end -/
theorem step {Q : Fin → Shared → Prop} (hh : A.handled = none) (D : ZipApart z TI TO i1 i2 l1 l2) (hz : IsZip s.heap z TI TO .none) (hTI : IsPair s.heap TI (.ref i1) (.ref i2)) (hTO : IsPair s.heap TO a b)
    (h1 : s.heap.IsListIter i1 l1 k1) (h2 : s.heap.IsTupleIter i2 l2 k2) (hl1 : s.heap.IsList l1 xs) (hl2 : s.heap.IsTuple l2 ys)
    (item : ∀ x y, xs[k1]? = some x → ys[k2]? = some y → ∀ h', IsZip h' z TI TO (rawInt s.heap.objs.size) → IsPair h' TO x y → h'.IsListIter i1 l1 (k1 + 1) → h'.IsTupleIter i2 l2 (k2 + 1) → IsPair h' s.heap.objs.size x y → h'.objs.size = s.heap.objs.size + 1 → Stay z TO i1 i2 s.heap h' → Q (.done (.ret (.ref s.heap.objs.size))) { s with heap := h' })
    (stop : xs[k1]? = none ∨ ys[k2]? = none → ∀ h' e, Stay z TO i1 i2 s.heap h' → (∃ o, h'.get? e = some o ∧ o.cls = .type "StopIteration") → E (.ref e) { s with heap := h' }) :
    wpAny (model prog w) A (Builtin.«zip.__next__» ⟨[.ref z], []⟩) Q E s := by
  show wpAny _ _ (field (.ref z) 2 >>= _) _ _ _
  refine wpAny_bind (wpAny_field hz rfl (x := .bool false) rfl ?_)
  show wpAny _ _ (field (.ref z) 3 >>= _) _ _ _
  refine wpAny_bind (wpAny_field hz rfl (x := .ref TI) rfl (wpAny_bind (wpAny_seqItems hTI rfl ?_)))
  show wpAny _ _ (Builtin.SmallTypes.ownedTupleIsFree (.ref z) >>= _) _ _ _
  refine wpAny_bind ?_
  unfold Builtin.SmallTypes.ownedTupleIsFree
  refine wpAny_bind (wpAny_field hz rfl (x := .none) rfl (wpAny_pure ?_))
  simp only [if_true]
  refine wpAny_bind (wpAny_rule (wpAny_bind (wpAny_field hz rfl (x := .ref TO) rfl (wpAny_bind (wpAny_setField_rec hz (by simp) fun g1 gz1 e1 => ?_)))))
  replace gz1 : IsZip g1 z TI TO .ellipsis := gz1
  refine wpAny_bind ?_
  simp only [List.zipIdx_cons, List.zipIdx_nil, List.forIn_cons, List.forIn_nil]
  refine wpAny_bind (wpAny_bind (wpAny_onRaise ?_))
  show wpAny _ _ (Builtin.SmallTypes.nextOf (.ref i1) >>= _) _ _ _
  have it1 := h1.extBut e1.extBut D.i1z
  have sq1 := hl1.extBut e1.extBut D.l1z
  cases hx : xs[k1]? with
  | none =>
    refine wpAny_bind (wpAny_nextOf_list_end hh it1 sq1 hx fun g2 e s2 he => ?_)
    obtain ⟨oe, hoe, hce⟩ := he
    have gz2 : IsZip g2 z TI TO .ellipsis := s2 _ _ D.i1z.symm gz1
    have ne : e ≠ z := fun q => by
      rw [q, gz2] at hoe
      cases hoe
      simp at hce
    exact wpAny_setField_rec gz2 (by simp) fun g3 _ s3 => stop (.inl hx) g3 e (fun c o c1 _ c3 _ q => s3.extBut _ _ c1 (s2 _ _ c3 (e1.extBut _ _ c1 q))) ⟨oe, s3.extBut _ _ ne hoe, hce⟩
  | some x =>
    refine wpAny_bind (wpAny_nextOf_list_item it1 sq1 hx fun g2 it1 e2 => wpAny_pure ?_)
    have pr2 : IsPair g2 TO a b := e2.extBut _ _ D.TOi1 (e1.extBut _ _ D.TOz hTO)
    refine wpAny_bind (wpAny_seqItems pr2 rfl (wpAny_bind (wpAny_updateSeq_pair pr2 fun g3 pr3 e3 => wpAny_bind (wpAny_letGo (wpAny_pure ?_)))))
    replace pr3 : IsPair g3 TO x b := pr3
    refine wpAny_bind (wpAny_bind (wpAny_onRaise ?_))
    show wpAny _ _ (Builtin.SmallTypes.nextOf (.ref i2) >>= _) _ _ _
    have it2 := ((h2.extBut e1.extBut D.i2z).extBut e2.extBut D.i12.symm).extBut e3.extBut D.TOi2.symm
    have sq2 := ((hl2.extBut e1.extBut D.l2z).extBut e2.extBut D.l2i1).extBut e3.extBut D.l2TO
    have gz3 : IsZip g3 z TI TO .ellipsis := e3.extBut _ _ D.TOz.symm (e2.extBut _ _ D.i1z.symm gz1)
    have st3 : ∀ c o, c ≠ z → c ≠ TO → c ≠ i1 → s.heap.get? c = some o → g3.get? c = some o := fun c o c1 c2 c3 q => e3.extBut _ _ c2 (e2.extBut _ _ c3 (e1.extBut _ _ c1 q))
    cases hy : ys[k2]? with
    | none =>
      refine wpAny_bind (RZ.nextOf_tuple_end hh it2 sq2 hy fun g4 e s4 he => ?_)
      obtain ⟨oe, hoe, hce⟩ := he
      have gz4 : IsZip g4 z TI TO .ellipsis := s4 _ _ D.i2z.symm gz3
      have ne : e ≠ z := fun q => by
        rw [q, gz4] at hoe
        cases hoe
        simp at hce
      exact wpAny_setField_rec gz4 (by simp) fun g5 _ s5 => stop (.inr hy) g5 e (fun c o c1 c2 c3 c4 q => s5.extBut _ _ c1 (s4 _ _ c4 (st3 c o c1 c2 c3 q))) ⟨oe, s5.extBut _ _ ne hoe, hce⟩
    | some y =>
      refine wpAny_bind (RZ.nextOf_tuple_item it2 sq2 hy fun g4 it2 e4 => wpAny_pure ?_)
      have pr4 : IsPair g4 TO x b := e4.extBut _ _ D.TOi2 pr3
      refine wpAny_bind (wpAny_seqItems pr4 rfl (wpAny_bind (wpAny_updateSeq_pair pr4 fun g5 pr5 e5 => wpAny_bind (wpAny_letGo (wpAny_pure (wpAny_pure ?_))))))
      replace pr5 : IsPair g5 TO x y := pr5
      refine wpAny_bind (wpAny_seqItems pr5 rfl (wpAny_bind (wpAny_newTuple ?_)))
      have size : g5.objs.size = s.heap.objs.size := by rw [e5.1, e4.1, e3.1, e2.1, e1.1]
      have gz5 : IsZip g5 z TI TO .ellipsis := e5.extBut _ _ D.TOz.symm (e4.extBut _ _ D.i2z.symm gz3)
      have st5 : Stay z TO i1 i2 s.heap g5 := fun c o c1 c2 c3 c4 q => e5.extBut _ _ c2 (e4.extBut _ _ c4 (st3 c o c1 c2 c3 q))
      have j1 := ((it1.extBut e3.extBut D.TOi1.symm).extBut e4.extBut D.i12).extBut e5.extBut D.TOi1.symm
      have j2 := it2.extBut e5.extBut D.TOi2.symm
      have lt : z < g5.objs.size := Heap.lt_size gz5
      show wpAny _ _ (Builtin.SmallTypes.ownedTupleHandOut (.ref z) (.ref g5.objs.size) >>= _) _ _ _
      refine wpAny_bind ?_
      unfold Builtin.SmallTypes.ownedTupleHandOut
      have gz6 : IsZip (g5.push { cls := .type "tuple", data := .seq #[x, y] }) z TI TO .ellipsis := Heap.get?_push_of_some _ gz5
      refine wpAny_bind (wpAny_setField_rec gz6 (by simp) fun g7 gz7 e7 => ?_)
      replace gz7 : IsZip g7 z TI TO (rawInt g5.objs.size) := gz7
      refine wpAny_setField_rec gz7 (by simp) fun g8 gz8 e8 => ?_
      replace gz8 : IsZip g8 z TI TO (rawInt g5.objs.size) := gz8
      have up : ∀ c o, c ≠ z → g5.get? c = some o → g8.get? c = some o := fun c o c1 q => e8.extBut _ _ c1 (e7.extBut _ _ c1 (Heap.get?_push_of_some _ q))
      have new : IsPair g8 g5.objs.size x y := e8.extBut _ _ (Nat.ne_of_gt lt) (e7.extBut _ _ (Nat.ne_of_gt lt) (Heap.get?_push_size _ rfl))
      have more : g8.objs.size = g5.objs.size + 1 := by rw [e8.1, e7.1, Heap.size_push]
      rw [size] at gz8 new more
      refine wpAny_pure ?_
      show Q (.done (.ret (.ref g5.objs.size))) _
      rw [size]
      exact item x y hx hy g8 gz8 (up _ _ D.TOz pr5) (j1.at fun o q => up _ o D.i1z q) (j2.at fun o q => up _ o D.i2z q) new more fun c o c1 c2 c3 c4 q => up c o c1 (st5 c o c1 c2 c3 c4 q)
theorem drawn {Q : Option Value → Shared → Prop} (hh : A.handled = none) (D : ZipApart z TI TO i1 i2 l1 l2) (hz : IsZip s.heap z TI TO .none) (hTI : IsPair s.heap TI (.ref i1) (.ref i2)) (hTO : IsPair s.heap TO a b)
    (h1 : s.heap.IsListIter i1 l1 k1) (h2 : s.heap.IsTupleIter i2 l2 k2) (hl1 : s.heap.IsList l1 xs) (hl2 : s.heap.IsTuple l2 ys)
    (item : ∀ x y, xs[k1]? = some x → ys[k2]? = some y → ∀ h', IsZip h' z TI TO (rawInt s.heap.objs.size) → IsPair h' TO x y → h'.IsListIter i1 l1 (k1 + 1) → h'.IsTupleIter i2 l2 (k2 + 1) → IsPair h' s.heap.objs.size x y → h'.objs.size = s.heap.objs.size + 1 → Stay z TO i1 i2 s.heap h' → Q (some (.ref s.heap.objs.size)) { s with heap := h' })
    (stop : xs[k1]? = none ∨ ys[k2]? = none → ∀ h', Stay z TO i1 i2 s.heap h' → Q none { s with heap := h' }) : wpAny (model prog w) A (pyNext (.ref z)) Q E s := by
  have T : s.TypeIs (.ref z) "zip" := ⟨_, hz, rfl⟩
  unfold pyNext
  refine wpAny_bind (wpAny_attempt (wpAny_callSpecial?_slot (name := Str.ofString "__next__") T F.slot_zip_next (wpAny_call_entry F.slot_zip_next T F.entry_zip_next (step hh D hz hTI hTO h1 h2 hl1 hl2 (fun x y hx hy h' a1 a2 a3 a4 a5 a6 a7 => ⟨_, rfl, wpAny_pure (item x y hx hy h' a1 a2 a3 a4 a5 a6 a7)⟩) fun e h' q st he => ?_) (F.args_zip_next_1 _))))
  obtain ⟨o, ho, hc⟩ := he
  exact wpAny_bind (wpAny_isInstance (T := "StopIteration") (b := true) ⟨o, ho, hc⟩ isSubtype_stop (wpAny_pure (stop e _ st)))
abbrev m1 (h : Heap) (l1 : Addr) : Heap := h.push { cls := .type "list_iterator", data := .fields #[.ref l1, .int 0 0] }
abbrev m2 (h : Heap) (l1 l2 : Addr) : Heap := (m1 h l1).push { cls := .type "tuple_iterator", data := .fields #[.ref l2, .int 0 0] }
abbrev m3 (h : Heap) (l1 l2 : Addr) : Heap := (m2 h l1 l2).push { cls := .type "tuple", data := .seq #[.ref h.objs.size, .ref (m1 h l1).objs.size] }
abbrev m4 (h : Heap) (l1 l2 : Addr) : Heap := (m3 h l1 l2).push { cls := .type "tuple", data := .seq #[.none, .none] }
abbrev m5 (h : Heap) (l1 l2 : Addr) : Heap := (m4 h l1 l2).push { cls := .type "zip", data := .fields #[.none, .bool false, .bool false, .ref (m2 h l1 l2).objs.size, .ref (m3 h l1 l2).objs.size] }
theorem new_meets (l1 l2 : Addr) (xs ys : Array Value) : Meets (Builtin.«zip.__new__» ⟨[.type "zip", .ref l1, .ref l2], []⟩) (fun _ R s => s.heap.IsList l1 xs ∧ s.heap.IsTuple l2 ys ∧ R (.ok (.ret (.ref (m4 s.heap l1 l2).objs.size))) { s with heap := m5 s.heap l1 l2 }) :=
  .of_wp fun prog w A R s ⟨q1, q2, h⟩ => by
    obtain ⟨hp, g, d, tk, os⟩ := s
    have hsub := sub_zip
    have hL1 : Heap.IsList (Shared.heap ⟨hp, g, d, tk, os⟩) l1 xs := q1
    have hL2 : Heap.IsTuple (Shared.heap ⟨hp.push { cls := .type "list_iterator", data := .fields #[.ref l1, .int 0 0] }, g, d, tk, os⟩) l2 ys := Heap.IsTuple.push q2 _
    wp_walk using wpAny_pyIter_list hL1, wpAny_pyIter_tuple hL2
    exact ⟨_, rfl, h⟩
theorem made {Q : Value → Shared → Prop} (q1 : s.heap.IsList l1 xs) (q2 : s.heap.IsTuple l2 ys)
    (h : ∀ h', IsZip h' (s.heap.objs.size + 4) (s.heap.objs.size + 2) (s.heap.objs.size + 3) .none → IsPair h' (s.heap.objs.size + 2) (.ref s.heap.objs.size) (.ref (s.heap.objs.size + 1)) → IsPair h' (s.heap.objs.size + 3) .none .none →
      h'.IsListIter s.heap.objs.size l1 0 → h'.IsTupleIter (s.heap.objs.size + 1) l2 0 → (∀ c o, s.heap.get? c = some o → h'.get? c = some o) → Q (.ref (s.heap.objs.size + 4)) { s with heap := h' }) :
    wpAny (model prog w) A (call (.type "zip") [.ref l1, .ref l2]) Q E s := by
  refine callType_new F.called_zip (by decide) (F.typeCall_zip_2 _ _) (F.newCall_zip_2 _ _) (fun obj => F.args_object_init_3 obj _ _) F.entry_zip_new (new_meets l1 l2 xs ys) ⟨q1, q2, ?_⟩
  have n1 : (m1 s.heap l1).objs.size = s.heap.objs.size + 1 := Heap.size_push ..
  have n2 : (m2 s.heap l1 l2).objs.size = s.heap.objs.size + 2 := by rw [Heap.size_push, n1]
  have n3 : (m3 s.heap l1 l2).objs.size = s.heap.objs.size + 3 := by rw [Heap.size_push, n2]
  have n4 : (m4 s.heap l1 l2).objs.size = s.heap.objs.size + 4 := by rw [Heap.size_push, n3]
  have old : ∀ {h : Heap} {c : Addr} {o o2 : Obj}, h.get? c = some o → (h.push o2).get? c = some o := fun q => Heap.get?_push_of_some _ q
  have f5 : (m5 s.heap l1 l2).get? (m4 s.heap l1 l2).objs.size = some _ := Heap.get?_push_size _ rfl
  have f4 : (m5 s.heap l1 l2).get? (m3 s.heap l1 l2).objs.size = some _ := old (Heap.get?_push_size _ rfl)
  have f3 : (m5 s.heap l1 l2).get? (m2 s.heap l1 l2).objs.size = some _ := old (old (Heap.get?_push_size _ rfl))
  have f2 : (m5 s.heap l1 l2).get? (m1 s.heap l1).objs.size = some _ := old (old (old (Heap.get?_push_size _ rfl)))
  have f1 : (m5 s.heap l1 l2).get? s.heap.objs.size = some _ := old (old (old (old (Heap.get?_push_size _ rfl))))
  show _ ∧ _
  rw [n2, n3, n4] at f5
  rw [n1, n2] at f3
  rw [n3] at f4
  rw [n1] at f2
  rw [n4]
  exact ⟨⟨_, f5, rfl⟩, h _ f5 f3 f4 ⟨_, f1, rfl, rfl⟩ ⟨_, f2, rfl, rfl⟩ fun c o q => old (old (old (old (old q))))⟩
end
/-- the list at a and the tuple at b as they stand at each turn, the items in new pairs -/
def ItM (K : PySem.W.Frag) (a b : Addr) : It :=
  ⟨fun i H => ∃ (xs ys : List V) (x y : V), SqL K H a xs ∧ SqT K H b ys ∧ xs[i]? = some x ∧ ys[i]? = some y,
    fun i H v H' => ∃ T x y, v = .ref T ∧ H T = none ∧ H' = upd H T (.tup [x, y]) ∧ (∀ xs, SqL K H a xs → xs[i]? = some x) ∧ ∀ ys, SqT K H b ys → ys[i]? = some y,
    fun i H => ∃ xs ys : List V, SqL K H a xs ∧ SqT K H b ys ∧ (xs.length ≤ i ∨ ys.length ≤ i)⟩
theorem five {c z TI TO i1 i2 : Addr} (h : c ∈ [z, TI, TO, i1, i2]) : c = z ∨ c = TI ∨ c = TO ∨ c = i1 ∨ c = i2 := by simpa using h
theorem turnM {P : Program} {w : World} {K : PySem.W.Frag} {elts : List Expr} {kk : Nat} {tpos : Pos} {a b z TI TO i1 i2 : Addr} (D : ZipApart z TI TO i1 i2 a b) :
    Turn P w K (.Tuple elts kk tpos) (ItM K a b) [z, TI, TO, i1, i2] z (fun i h => IsZip h z TI TO .none ∧ IsPair h TI (.ref i1) (.ref i2) ∧ (∃ x y, IsPair h TO x y) ∧ h.IsListIter i1 a i ∧ h.IsTupleIter i2 b i) where
  mem := by simp
  obj := fun i h ⟨q1, q2, ⟨x, y, q3⟩, ⟨o1, e1, _, d1⟩, ⟨o2, e2, _, d2⟩⟩ c hc => by
    rcases five hc with rfl | rfl | rfl | rfl | rfl
    · exact ⟨_, q1, fun v q => nomatch q⟩
    · exact ⟨_, q2, fun v q => nomatch q⟩
    · exact ⟨_, q3, fun v q => nomatch q⟩
    · exact ⟨o1, e1, fun v q => by rw [d1] at q; cases q⟩
    · exact ⟨o2, e2, fun v q => by rw [d2] at q; cases q⟩
  keep := fun i h h' ⟨q1, q2, ⟨x, y, q3⟩, q4, q5⟩ k =>
    ⟨k z (by simp) _ q1, k TI (by simp) _ q2, ⟨x, y, k TO (by simp) _ q3⟩, q4.at fun o q => k i1 (by simp) o q, q5.at fun o q => k i2 (by simp) o q⟩
  item := by
    intro X hP hw hK hc i pins s σ H E I hf ⟨hz, hTI, ⟨x0, y0, hTO⟩, h1, h2⟩ ⟨xs, ys, x, y, hqx, hqy, hx, hy⟩
    subst hP hw hK
    obtain ⟨its, rv, p, _⟩ := I.list hqx
    obtain ⟨its2, rv2, p2, _⟩ := I.tuple hqy
    obtain ⟨u, hu, ru⟩ := rv.get hx
    obtain ⟨u2, hu2, ru2⟩ := rv2.get hy
    have lt : ∀ c ∈ [z, TI, TO, i1, i2], c < s.heap.objs.size := fun c hcm => by
      rcases five hcm with rfl | rfl | rfl | rfl | rfl
      · exact Heap.lt_size hz
      · exact Heap.lt_size hTI
      · exact Heap.lt_size hTO
      · obtain ⟨_, e1, _⟩ := h1
        exact Heap.lt_size e1
      · obtain ⟨_, e2, _⟩ := h2
        exact Heap.lt_size e2
    have hu : its.toArray[i]? = some u := by simpa using hu
    have hu2 : its2.toArray[i]? = some u2 := by simpa using hu2
    refine drawn (I.ok.hd hc) D hz hTI hTO h1 h2 p.isList p2 (fun x' y' ex ey h' z' TO' h1' h2' hT hsz hk => ?_) fun e => ?_
    · cases hu.symm.trans ex
      cases hu2.symm.trans ey
      refine ⟨_, rfl, wpAny_letOwnedTupleGo_zip (s := { s with heap := h' }) z' fun g z'' sb => ?_⟩
      have hT2 : g.get? s.heap.objs.size = some { cls := .type "tuple", data := .seq #[u, u2] } := (sb.2 _ (Nat.ne_of_gt (lt z (by simp)))).trans hT
      have off : ∀ {c : Addr}, c ∉ [z, TI, TO, i1, i2] → c ≠ z ∧ c ≠ TO ∧ c ≠ i1 ∧ c ≠ i2 := fun {c} n => ⟨fun q => n (by simp [q]), fun q => n (by simp [q]), fun q => n (by simp [q]), fun q => n (by simp [q])⟩
      have I1 : Inv X pins σ (upd H s.heap.objs.size (.tup [x, y])) { s with heap := g } :=
        I.turnedNew (t' := s.toks) (ch := [z, TI, TO, i1, i2]) (fun c o hb q => (sb.2 c (off hb).1).trans (hk c o (off hb).1 (off hb).2.1 (off hb).2.2.1 (off hb).2.2.2 q)) hf (Nat.le_refl _) ⟨by show 2 ≤ sizeLine; decide, [u, u2], .cons ru (.cons ru2 .nil), ⟨_, hT2, rfl, _, rfl⟩⟩
      refine ⟨.ref s.heap.objs.size, _, I1, rfl, ⟨_, x, y, rfl, I.hok.fresh (Nat.le_refl _), rfl, fun l hl => by rw [I.list_inj hl hqx]; exact hx, fun l hl => by rw [I.tuple_inj hl hqy]; exact hy⟩, ⟨z'', (sb.2 _ D.TIz).trans (hk _ _ D.TIz D.TITO D.TIi1 D.TIi2 hTI), ⟨u, u2, (sb.2 _ D.TOz).trans TO'⟩, h1'.at fun o q => (sb.2 _ D.i1z).trans q, h2'.at fun o q => (sb.2 _ D.i2z).trans q⟩, fun c hcm => ?_⟩
      rw [upd_ne (Nat.ne_of_lt (lt c hcm))]
      exact (hf c hcm).1
    · rcases e with e | e
      · rw [hu] at e
        cases e
      · rw [hu2] at e
        cases e
  done := by
    intro X hP hw hK hc i pins s σ H E I hf ⟨hz, hTI, ⟨x0, y0, hTO⟩, h1, h2⟩ ⟨xs, ys, hqx, hqy, hend⟩
    subst hP hw hK
    obtain ⟨its, rv, p, _⟩ := I.list hqx
    obtain ⟨its2, rv2, p2, _⟩ := I.tuple hqy
    have l1 := rv.length
    have l2 := rv2.length
    have over : its.toArray[i]? = none ∨ its2.toArray[i]? = none := hend.imp (fun q => by simp; omega) fun q => by simp; omega
    refine drawn (I.ok.hd hc) D hz hTI hTO h1 h2 p.isList p2 (fun x y ex ey => ?_) fun _ h' hk => ⟨rfl, I.turnedL (t' := s.toks) (ch := [z, TI, TO, i1, i2]) (fun c o hb q => hk c o (fun e => hb (by simp [e])) (fun e => hb (by simp [e])) (fun e => hb (by simp [e])) (fun e => hb (by simp [e])) q) hf⟩
    rcases over with q | q
    · rw [q] at ex
      cases ex
    · rw [q] at ey
      cases ey
  self := fun A i s Q E st h => wpAny_pyIter_zip st.1 h
def iZipM (K : PySem.W.Frag) (ta : TA) : TI := fun σ H R => ta σ H fun vs H1 => ∃ a b xs ys, vs = [.ref a, .ref b] ∧ SqL K H1 a xs ∧ SqT K H1 b ys ∧ R (ItM K a b) H1
theorem pi_zipM {X : Cx} {e e2 : Expr} {ta : TA} {p pos tpos : Pos} {elts : List Expr} {kk : Nat} (hg : Gl X "zip") (hm : X.mg "zip" = none) (ha : PA X [e, e2] ta)
    (hs : starEach [e, e2] X.env = (false, eval e X.env) :: starEach [e2] X.env := by rfl) (hpl : (backTo pos (starEach [e2] X.env)).any (·.1) = false := by rfl) : PI X (.Tuple elts kk tpos) (.Call (.Name "zip" p) [e, e2] [] pos) (iZipM X.K ta) := by
  refine ⟨fun pins s σ H R I h => Call_ (ld_blt I hg hm PyProof.Rows.boot_zip (PyProof.Rows.callWith_type1 (thn (ha.run pos pins s σ H _ I h) fun us s1 ⟨vs, H1, I1, r1, a, b, xs, ys, ex, hqx, hqy, q⟩ => ?_) hs hpl))⟩
  subst ex
  obtain ⟨u1, u2, eu, ra, rb⟩ := vals2 r1
  subst eu
  obtain rfl : u1 = Value.ref a := ra
  obtain rfl : u2 = Value.ref b := rb
  obtain ⟨its, rv, p1, _⟩ := I1.list hqx
  obtain ⟨its2, rv2, p2, _⟩ := I1.tuple hqy
  obtain ⟨o2, ho2, _⟩ := id p2
  have le : ∀ c ∈ [s1.heap.objs.size + 4, s1.heap.objs.size + 2, s1.heap.objs.size + 3, s1.heap.objs.size, s1.heap.objs.size + 1], s1.heap.objs.size ≤ c := fun c hcm => by
    rcases five hcm with e | e | e | e | e <;> rw [e]
    · exact Nat.le_add_right _ _
    · exact Nat.le_add_right _ _
    · exact Nat.le_add_right _ _
    · exact Nat.le_refl _
    · exact Nat.le_add_right _ _
  have ap := PySem.W.ktu_apart s1.heap.objs.size a b p1.lt (Heap.lt_size ho2)
  refine made p1.isList (show s1.heap.IsTuple b its2.toArray from p2) fun h' hz hTI hTO h1 h2 hk => wpAny_pyIter_zip hz ?_
  have I2 : Inv X pins σ H1 { s1 with heap := h' } := I1.kept (t' := s1.toks) hk
  exact ⟨s1.heap.objs.size + 4, [s1.heap.objs.size + 4, s1.heap.objs.size + 2, s1.heap.objs.size + 3, s1.heap.objs.size, s1.heap.objs.size + 1], _, _, H1, rfl, I2, turnM ap, ⟨hz, hTI, ⟨_, _, hTO⟩, h1, h2⟩, fun c hcm => I1.fpOk (le c hcm) (I1.hok.fresh (le c hcm)), q⟩
theorem walkM {K : PySem.W.Frag} {a b : Addr} {xs ys : List V} {n : Nat} (hn : n = min xs.length ys.length) : Walk (ItM K a b) n (fun H => SqL K H a xs ∧ SqT K H b ys) (YPair (fun i => xs[i]?) (fun i => ys[i]?)) := by
  subst hn
  refine ⟨fun i _ hi q => ?_, fun _ q => ⟨xs, ys, q.1, q.2, by omega⟩, fun i H v H' _ q ⟨T, x, z, h1, h2, h3, h4, h5⟩ => ⟨T, x, z, h1, h2, h3, h4 xs q.1, h5 ys q.2⟩⟩
  have h1 : i < xs.length := by omega
  have h2 : i < ys.length := by omega
  exact ⟨xs, ys, xs[i], ys[i], q.1, q.2, by simp [h1], by simp [h2]⟩
end OwZ
end
section
namespace TSet
open PySem PySem.Spec PyProof.Rows L2
/-- an entry of a set of texts -/
def TE (w : World) (e : Int × Value) : Prop := ∃ z tk, e = (hashStr w z, Value.str z tk)
def tk1 (e : Int × Value) : Str := strOf e.2
/-- the set object at a holds just the texts L, each once -/
def TS (w : World) (h : Heap) (a : Addr) (L : List Str) : Prop :=
  ∃ ob ents ep tab, h.get? a = some ob ∧ ob.ExactSet ∧ ob.data = .set ents ep tab ∧ (∀ e ∈ ents.toList, TE w e) ∧ (ents.toList.map tk1).Perm L ∧
    L.Nodup ∧ L.length < scanBound ∧ tab.fits ents.size = true ∧ Ris tab.place.toList ∧ (w.params.followText "set-order" = true ∨ tab.led = true)
section
variable {P : Program} {w : World} {h h' : Heap} {a : Addr} {L : List Str}
theorem TS.keep (R : TS w h a L) (k : ∀ o, h.get? a = some o → h'.get? a = some o) : TS w h' a L := by
  obtain ⟨ob, ents, ep, tab, h1, rest⟩ := R
  exact ⟨ob, ents, ep, tab, k ob h1, rest⟩
theorem te_is {e : Int × Value} (g : TE w e) (z : Str) : (strKind P w).is z e.2 = true ↔ tk1 e = z := by
  obtain ⟨y, tk, rfl⟩ := g
  show ((y == z) = true) ↔ y = z
  exact beq_iff_eq
theorem te_elems {l : List (Int × Value)} (g : ∀ e ∈ l, TE w e) : ElemsOf (strKind P w) l := fun e he => by
  obtain ⟨z, tk, rfl⟩ := g e he
  exact ⟨⟨z, strKind_is P w z tk, rfl⟩, rfl⟩
theorem te_mem {l : List (Int × Value)} (g : ∀ e ∈ l, TE w e) (z : Str) : z ∈ l.map tk1 ↔ ∃ e ∈ l, (strKind P w).is z e.2 = true := by
  constructor
  · intro m
    obtain ⟨e, he, q⟩ := List.mem_map.mp m
    exact ⟨e, he, (te_is (g e he) z).2 q⟩
  · rintro ⟨e, he, q⟩
    exact List.mem_map.mpr ⟨e, he, (te_is (g e he) z).1 q⟩
theorem TS.fresh {ob : Obj} (ho : h.get? a = some ob) (e : ob = { cls := .type "set", dict := none, data := .set #[] 0 (.fresh 0 0 (!w.params.followText "set-order")) }) : TS w h a [] := by
  subst e
  refine ⟨_, #[], 0, _, ho, ⟨rfl, rfl, rfl⟩, rfl, fun e he => by simp at he, List.Perm.refl _, List.nodup_nil, by decide, rfl, List.Pairwise.nil, ?_⟩
  show w.params.followText "set-order" = true ∨ (!w.params.followText "set-order") = true
  cases w.params.followText "set-order" <;> simp
end
/-- one more text -/
def put1 (L : List Str) (z : Str) : List Str := if z ∈ L then L else z :: L
theorem put1_len (L : List Str) (z : Str) : (put1 L z).length ≤ L.length + 1 := by
  unfold put1
  split
  · exact Nat.le_succ _
  · exact Nat.le_refl _
section
variable {P : Program} {w : World} {A : Around} {E : Value → Shared → Prop} {s : Shared} {a : Addr} {L : List Str}
theorem ts_add_end {g : Bool → Sem Unit} (hg : ∀ (b : Bool) (s₁ : Shared) (Q' : Unit → Shared → Prop), Q' () s₁ → wpAny (model P w) A (g b) Q' E s₁)
    {ob : Obj} {ents : Array (Int × Value)} {ep : Nat} {tab : SetTable} (ho : s.heap.get? a = some ob) (hex : ob.ExactSet) (hd : ob.data = .set ents ep tab)
    {en1 : Array (Int × Value)} {tb : SetTable} {M : List Str} (g1 : ∀ e ∈ en1.toList, TE w e) (pm1 : (en1.toList.map tk1).Perm M) (nd1 : M.Nodup)
    (hb : M.length < scanBound) (hf : tb.fits en1.size = true) (hr : Ris tb.place.toList) (hl : w.params.followText "set-order" = true ∨ tb.led = true) {dm : Bool} {R : Option Bool → Shared → Prop}
    (hR : ∀ h', Heap.SameBut a s.heap h' → TS w h' a M → R (some true) { s with heap := h' }) :
    wpAny (model P w) A (do
        storeSet a en1 tb
        if (!dm && tb.tooFull) = true then do
            g (relayAll tb en1 (SetTable.grown en1.size)).2.2
            storeSet a (relayAll tb en1 (SetTable.grown en1.size)).1 (relayAll tb en1 (SetTable.grown en1.size)).2.1
            pure (some true)
          else pure (some true)) R E s := by
  have hn1 : en1.size = M.length := by
    have q := pm1.length_eq
    rw [List.length_map, Array.length_toList] at q
    exact q
  refine wpAny_bind (wpAny_storeSet_of ho hd ?_ (fits_of_scanBound (by rw [hn1]; exact hb)))
  have ho1 := store_at (es' := en1) (t' := tb) ho hd
  have sb1 := Heap.SameBut.update s.heap a (Obj.putSet en1 tb)
  split
  · have pm := relayAll_perm tb en1 (SetTable.grown en1.size)
    have hf3 := relayAll_fits tb en1 (SetTable.grown en1.size)
    have hr3 := relayAll_ris tb en1 (SetTable.grown en1.size)
    have hl3 := relayAll_led tb en1 (SetTable.grown en1.size)
    generalize relayAll tb en1 (SetTable.grown en1.size) = Z at pm hf3 hr3 hl3 ⊢
    obtain ⟨en2, tb3, gave⟩ := Z
    dsimp only at pm hf3 hr3 hl3 ⊢
    have hn2 : en2.size = M.length := by rw [← hn1, ← Array.length_toList, pm.length_eq, Array.length_toList]
    refine wpAny_bind (hg _ _ _ ?_)
    refine wpAny_bind (wpAny_storeSet_of ho1 rfl ?_ (fits_of_scanBound (by rw [hn2]; exact hb)))
    have ho2 := store_at (es' := en2) (t' := tb3) ho1 rfl
    exact wpAny_pure (hR _ (sb1.trans (Heap.SameBut.update _ a _)) ⟨_, en2, _, tb3, ho2, hex, rfl, fun e he => g1 e (pm.mem_iff.mp he), (pm.map tk1).trans pm1, nd1, hb, hf3, hr3, by rw [hl3]; exact hl⟩)
  · exact wpAny_pure (hR _ sb1 ⟨_, en1, _, tb, ho1, hex, rfl, g1, pm1, nd1, hb, hf, hr, hl⟩)
theorem ts_add {z : Str} {tk : Tok} {Q : Bool → Shared → Prop} (R : TS w s.heap a L) (room : L.length + 1 < scanBound)
    (hQ : ∀ b h', Heap.SameBut a s.heap h' → TS w h' a (put1 L z) → Q b { s with heap := h' }) :
    wpAny (model P w) A (setAddHashed a (.str z tk) ((strKind P w).hash z)) Q E s := by
  obtain ⟨ob, ents, ep, tab, ho, hex, hd, g, pm0, nd, hb, hf, hr, hl⟩ := R
  have hkey : (strKind P w).is z (.str z tk) = true := strKind_is P w z tk
  have hsc : (Value.str z tk).scannable = true := rfl
  have hel : ElemsOf (strKind P w) ents.toList := te_elems g
  have hn : ents.size = L.length := by
    have q := pm0.length_eq
    rw [List.length_map, Array.length_toList] at q
    exact q
  unfold setAddHashed setAddHashedIn
  refine wpAny_holding (wpAny_bind (wpAny_setState_of ho hd hf ?_))
  dsimp only
  rw [byScan_of hsc (by rw [hn]; exact hb) hel]
  simp only [↓reduceIte]
  unfold setAddByScan
  refine wpAny_bind (wpAny_bind (wpAny_rule (wpAny_bind (wpAny_setScan_of hkey ho hd hf hel ?_))))
  cases hfi : List.findIdx? (fun e => (strKind P w).is z e.2) ents.toList with
  | some j =>
    dsimp only
    obtain ⟨hj, pj, _⟩ := List.findIdx?_eq_some_iff_getElem.mp hfi
    have hz : z ∈ L := pm0.mem_iff.mp ((te_mem (P := P) (w := w) g z).2 ⟨ents.toList[j], List.getElem_mem hj, pj⟩)
    refine wpAny_pure (wpAny_pure ?_)
    refine hQ _ s.heap (Heap.SameBut.refl a s.heap) ?_
    unfold put1
    rw [if_pos hz]
    exact ⟨ob, ents, ep, tab, ho, hex, hd, g, pm0, nd, hb, hf, hr, hl⟩
  | none =>
    dsimp only
    have hz : z ∉ L := fun q => by
      obtain ⟨e, he, c⟩ := (te_mem (P := P) (w := w) g z).1 (pm0.mem_iff.mpr q)
      have d := List.findIdx?_eq_none_iff.mp hfi e he
      rw [c] at d
      cases d
    have hgw : ∀ (b : Bool) {s₁ : Shared} {Q' : Unit → Shared → Prop}, Q' () s₁ → wpAny (model P w) A (match b with | true => rule "set.scan.the-table-gave-way" | false => pure ()) Q' E s₁ :=
      fun b _ _ q => by cases b <;> first | exact wpAny_pure q | exact wpAny_rule q
    have pm := layNew_perm tab ents ((strKind P w).hash z) (.str z tk)
    have hf1 := layNew_fits tab ents ((strKind P w).hash z) (.str z tk)
    have hr1 := layNew_ris tab ents ((strKind P w).hash z) (.str z tk) hr
    have hl1 := layNew_led tab ents ((strKind P w).hash z) (.str z tk)
    generalize layNew tab ents ((strKind P w).hash z) (.str z tk) = Z at pm hf1 hr1 hl1 ⊢
    obtain ⟨en1, tb1, dmy, gave⟩ := Z
    dsimp only at pm hf1 hr1 hl1 ⊢
    rw [Array.toList_push] at pm
    have pc : en1.toList.Perm (((strKind P w).hash z, Value.str z tk) :: ents.toList) := pm.trans (List.perm_append_singleton _ _)
    have pk : (en1.toList.map tk1).Perm (z :: L) := (pc.map tk1).trans (List.Perm.cons z pm0)
    have g1 : ∀ e ∈ en1.toList, TE w e := fun e he => by
      rcases List.mem_cons.mp (pc.mem_iff.mp he) with q | q
      · exact ⟨z, tk, q⟩
      · exact g e q
    have nd1 : (z :: L).Nodup := List.nodup_cons.mpr ⟨hz, nd⟩
    have hled : w.params.followText "set-order" = true ∨ tb1.led = true := by rw [hl1]; exact hl
    have e1 : put1 L z = z :: L := if_neg hz
    rw [e1] at hQ
    refine wpAny_bind (hgw _ ?_)
    split
    · refine wpAny_bind ?_
      rw [hashByValue_scannable 8 hsc]
      refine wpAny_pure ?_
      refine ts_add_end (dm := dmy) ?_ ho hex hd g1 pk nd1 room ?_ ?_ ?_ ?_
      · intro b _ _ q; cases b <;> first | exact wpAny_pure q | exact wpAny_rule q
      · first | (split <;> first | exact hf1 | exact SetTable.fits_plain_off hf1) | exact hf1
      · first | (split <;> exact hr1) | exact hr1
      · first | (split <;> exact hled) | exact hled
      · intro h' sb r; dsimp only; exact wpAny_pure (hQ _ h' sb r)
    · refine wpAny_bind (wpAny_pure ?_)
      simp only [↓reduceIte]
      refine ts_add_end (dm := dmy) ?_ ho hex hd g1 pk nd1 room hf1 hr1 hled ?_
      · intro b _ _ q; cases b <;> first | exact wpAny_pure q | exact wpAny_rule q
      · intro h' sb r; dsimp only; exact wpAny_pure (hQ _ h' sb r)
end
end TSet
end
section
namespace TSet
open PySem PySem.Spec PyProof.Rows L2
/-- the texts of a list, each once -/
def ded (xs : List Str) : List Str := xs.foldl put1 []
theorem put1_mem (L : List Str) (z y : Str) : y ∈ put1 L z ↔ y = z ∨ y ∈ L := by
  unfold put1
  split
  · rename_i h
    exact ⟨.inr, fun q => q.elim (fun e => e ▸ h) id⟩
  · exact List.mem_cons
theorem fold_mem : ∀ (xs L : List Str) (y : Str), y ∈ xs.foldl put1 L ↔ y ∈ L ∨ y ∈ xs
  | [], L, y => by simp
  | x :: xs, L, y => by
    rw [List.foldl_cons, fold_mem xs, put1_mem, List.mem_cons]
    constructor
    · rintro ((q | q) | q)
      · exact .inr (.inl q)
      · exact .inl q
      · exact .inr (.inr q)
    · rintro (q | q | q)
      · exact .inl (.inr q)
      · exact .inl (.inl q)
      · exact .inr q
theorem ded_mem (xs : List Str) (y : Str) : y ∈ ded xs ↔ y ∈ xs := by
  unfold ded
  rw [fold_mem]
  simp
theorem fold_len : ∀ (xs L : List Str), (xs.foldl put1 L).length ≤ L.length + xs.length
  | [], L => Nat.le_refl _
  | x :: xs, L => by
    have q := fold_len xs (put1 L x)
    have r := put1_len L x
    rw [List.foldl_cons, List.length_cons]
    omega
theorem ded_len (xs : List Str) : (ded xs).length ≤ xs.length := by
  have q := fold_len xs []
  unfold ded
  simpa using q
theorem ded_snoc (xs : List Str) (x : Str) : ded (xs ++ [x]) = put1 (ded xs) x := by
  unfold ded
  rw [List.foldl_append]
  rfl
theorem take_snoc {α : Type} {l : List α} {i : Nat} {x : α} (h : l[i]? = some x) : l.take (i + 1) = l.take i ++ [x] := by
  rw [List.take_add_one, h]
  rfl
section
variable {P : Program} {w : World} {A : Around} {E : Value → Shared → Prop} {s : Shared}
theorem upd_loop {I : Addr} {fp wr : List Addr} {G : Array GenState → Array GenState → Prop} {n : Nat} {Pv : Nat → Value → Prop} {St : Nat → Shared → Prop} {R : Result → Shared → Prop}
    (W : WalksS P w A.in1 I fp wr G n Pv St) (S : Addr) (out : S ∉ fp) (xs : List Str) (hn : n = xs.length) (few : xs.length < scanBound) (hval : ∀ i v, Pv i v → ∃ z t, xs[i]? = some z ∧ v = .str z t) :
    ∀ (k i : Nat) (s : Shared), n - i = k → i ≤ n → St i s → TS w s.heap S (ded (xs.take i)) →
      (∀ s', Moved (S :: wr) G s s' → TS w s'.heap S (ded xs) → R (.ok (.ret .none)) s') →
      codeAny (model P w) A (.builtin "set.update.loop" ⟨[.ref S, .ref I], []⟩) R s := by
  have hSw : S ∉ wr := fun h => out (W.sub _ h)
  have hsub : ∀ b ∈ wr, b ∈ S :: wr := fun b hb => List.mem_cons_of_mem _ hb
  intro k
  induction k with
  | zero =>
    intro i s hk hi hst hS hR
    obtain rfl : i = n := by omega
    refine codeAny_builtin F.entry_set_update_loop ?_
    rw [Around.under_plainId F.plain_set_update_loop _]
    refine wpAny_bind (m := pyNext (.ref I)) (W.done s _ _ hst fun s' hm => ?_)
    rw [hn, List.take_length] at hS
    exact wpAny_pure (hR s' (hm.mono hsub) (hS.keep fun o e => hm.heap S o hSw e))
  | succ k ih =>
    intro i s hk hi hst hS hR
    have hlt : i < n := by omega
    refine codeAny_builtin F.entry_set_update_loop ?_
    rw [Around.under_plainId F.plain_set_update_loop _]
    refine wpAny_bind (m := pyNext (.ref I)) (W.item i s _ _ hlt hst fun v s' hP hst' hm => ?_)
    obtain ⟨z, t, hz, rfl⟩ := hval i v hP
    have hS1 : TS w s'.heap S (ded (xs.take i)) := hS.keep fun o e => hm.heap S o hSw e
    have hl : (ded (xs.take i)).length + 1 < scanBound ∨ (ded (xs.take i)).length + 1 ≤ xs.length := by
      have q := ded_len (xs.take i)
      rw [List.length_take] at q
      right
      omega
    have hroom : (ded (xs.take i)).length + 1 < scanBound := hl.elim id fun q => Nat.lt_of_le_of_lt q few
    refine wpAny_bind (m := holding [Value.str z t] (setAdd S (.str z t))) (wpAny_holding ?_)
    unfold setAdd
    refine wpAny_holding (wpAny_bind ((strKind P w).pyHash (k := z) (strKind_is _ _ _ _) ?_))
    refine ts_add (s := { s' with toks := s'.toks + 1 }) hS1 hroom fun b h' sb hS2 => ?_
    rw [← ded_snoc, ← take_snoc hz] at hS2
    refine wpAny_pure ⟨plainId_quiet F.plain_set_update_loop _, ih (i + 1) _ (by omega) hlt (W.frame _ s' _ _ hst' (Nat.le_succ _) fun c hc o e => ?_) hS2 fun s2 hm2 hS3 => ?_⟩
    · rw [sb.2 c fun q => out (q ▸ hc)]; exact e
    · refine hR s2 (Moved.trans W.gtrans ((hm.mono hsub).then_heap (Nat.le_succ _) fun c o hc e => ?_) hm2) hS3
      rw [sb.2 c fun q => hc (by rw [q]; exact List.mem_cons_self)]; exact e
theorem strs_ix : ∀ {us : List Value} {xs : List Str}, StrsAre us xs → ∀ (i : Nat) (v : Value), us[i]? = some v → ∃ z t, xs[i]? = some z ∧ v = .str z t
  | _, _, .nil, i, v, h => by simp at h
  | _, _, .cons z t _, 0, v, h => ⟨z, t, rfl, (Option.some.inj h).symm⟩
  | _, _, .cons _ _ r, i + 1, v, h => by
    rw [List.getElem?_cons_succ] at h
    rw [List.getElem?_cons_succ]
    exact strs_ix r i v h
abbrev nob (w : World) : Obj := { cls := .type "set", dict := none, data := .set #[] 0 (.fresh 0 0 (!w.params.followText "set-order")) }
/-- set(xs), xs a list of texts -/
theorem call_set_texts {l : Addr} {items : Array Value} {xs : List Str} {Q : Value → Shared → Prop} (hh : A.handled = none) (hl : s.heap.IsList l items) (hi : StrsAre items.toList xs) (few : xs.length < scanBound)
    (hq : ∀ (h' : Heap) (tk : Nat), TS w h' s.heap.objs.size (ded xs) → (∀ b o, s.heap.get? b = some o → h'.get? b = some o) → Q (.ref s.heap.objs.size) { s with heap := h', toks := tk }) :
    wpAny (model P w) A (call (.type "set") [.ref l]) Q E s := by
  have hisz : items.size = xs.length := by rw [← Array.length_toList]; exact StrsAre.len_eq hi
  obtain ⟨c, tl, hmro⟩ := F.called_set.mro
  have hmade := F.called_set.made
  have hsub := F.called_set.sub
  refine wpAny_call (codeAny_of_tree ?_)
  show wpAny _ _ (callAny (.type "set") _) _ _ _
  refine wpAny_pure ⟨Code.quiet_builtin _ (by decide +kernel), codeAny_builtin F.entry_type_call ?_⟩
  rw [Around.under_plain (weight_type_call_type "set" [.ref l] []) rfl]
  have h1 := F.called_set.notType
  have h2 := F.called_set.canCreate
  have hct := F.typeCall_set_1 (.ref l)
  repeat (any_goals (first | assumption | wp_step))
  refine codeAny_mono (code_set_led1 (.ref l) (E := E) (Q₁ := fun ov s₁ => ov = .ref s.heap.objs.size ∧ s₁ = { s with heap := s.heap.push { cls := .type "set", dict := none, data := .set #[] 0 (.fresh 0 0 (!w.params.followText "set-order")) } }) ⟨rfl, rfl⟩) fun r s₁ hr => ?_
  cases r with
  | error e => exact hr
  | ok fl =>
    cases fl with
    | ret ov =>
      obtain ⟨rfl, rfl⟩ := hr
      have hS : (s.heap.push (nob w)).get? s.heap.objs.size = some (nob w) := Heap.get?_push_size _ rfl
      have hT : Shared.TypeIs { s with heap := s.heap.push (nob w) } (.ref s.heap.objs.size) "set" := ⟨_, hS, rfl⟩
      have hli := F.called_set.init.lookup
      have hbi := F.called_set.init.bind (.ref s.heap.objs.size)
      repeat (any_goals (first | assumption | wp_step))
      refine codeAny_mono (codeAny_call_builtin (R := wants (fun r s₂ => r = .none ∧ ∃ h' tk, s₂ = { s with heap := h', toks := tk } ∧ TS w h' s.heap.objs.size (ded xs) ∧
          (∀ b o, s.heap.get? b = some o → h'.get? b = some o)) E) F.called_set.init.plain F.entry_set_init (check_set_init_1 hT ?_)) fun r₂ s₂ hr₂ => ?_
      · obtain ⟨ol, hol, hcl, nl, hdl⟩ := hl
        obtain ⟨ocls, odict, odata, oslots⟩ := ol
        simp only at hcl hdl
        subst hcl; subst hdl
        have hol' : (s.heap.push (nob w)).get? l = some { cls := .type "list", dict := odict, data := .seq items nl, slots := oslots } := Heap.get?_push_of_some _ hol
        have hsls := F.sub_list_set
        have hslf := F.sub_list_frozenset
        have hne : (Value.type "list" == Value.type "dict") = false := by decide
        have hl1 : (s.heap.push (nob w)).IsList l items := ⟨_, hol', rfl, nl, rfl⟩
        unfold Builtin.«set.__init__» noKeywords Builtin.Frozenset.updateFrom
        generalize hPI : pyIter = PI
        wp_walk
        subst hPI
        refine wpAny_pyIter_list hl1 ?_
        refine wpAny_bind (wpAny_runValue ?_)
        have hlS : l < s.heap.objs.size := Heap.lt_size hol
        have hz1 : (s.heap.push (nob w)).objs.size = s.heap.objs.size + 1 := Heap.size_push ..
        have hneI : l ≠ (s.heap.push (nob w)).objs.size := by rw [hz1]; exact Nat.ne_of_lt (Nat.lt_succ_of_lt hlS)
        have hSf : s.heap.objs.size ∉ [(s.heap.push (nob w)).objs.size, l] := by
          rw [hz1]
          intro m
          rcases List.mem_cons.mp m with q | q
          · exact absurd q (Nat.ne_of_lt (Nat.lt_succ_self _))
          · exact absurd (List.mem_singleton.mp q) (Nat.ne_of_gt hlS)
        refine upd_loop (A := A.in1.in1) ((Walks.list (by simp [hh]) _ l hneI items).toS) s.heap.objs.size hSf xs hisz few
          (fun i v hv => strs_ix hi i v (by rw [Array.getElem?_toList]; exact hv)) (items.size - 0) 0 _ rfl (Nat.zero_le _)
          ⟨⟨_, Heap.get?_push_size _ rfl, rfl, rfl⟩, (hl1.push _)⟩ ?hS0 ?hR
        case hS0 => exact TS.fresh (Heap.get?_push_of_some _ hS) rfl
        case hR =>
          intro s' hm hS'
          obtain ⟨h', g2, d', tk', os'⟩ := s'
          have eg : g2 = s.gens := hm.gens
          have ed : d' = s.drawn := hm.drawn
          have eo : os' = s.os := hm.os
          subst eg; subst ed; subst eo
          show wpAny _ _ _ _ _ _
          refine wpAny_pure ?_
          show wpAny _ _ (ret Value.none) _ _ _
          refine wpAny_pure ⟨rfl, h', tk', rfl, hS', fun b o e => ?_⟩
          have hlt := Heap.lt_size e
          refine hm.heap b o (fun m => ?_) (Heap.get?_push_of_some _ (Heap.get?_push_of_some _ e))
          rcases List.mem_cons.mp m with q | q
          · exact absurd q (Nat.ne_of_lt hlt)
          · have q := List.mem_singleton.mp q
            rw [hz1] at q
            exact absurd q (Nat.ne_of_lt (Nat.lt_succ_of_lt hlt))
      · cases r₂ with
        | error e => exact hr₂
        | ok fl₂ =>
          cases fl₂ with
          | ret r =>
            obtain ⟨rfl, h', tk, rfl, hS', hk'⟩ := hr₂
            repeat (any_goals (first | assumption | wp_step))
            exact hq _ _ hS' hk'
          | _ => exact hr₂.elim
    | _ => exact hr.elim
end
end TSet
end
section
namespace TSet
open PySem PySem.Spec PyProof.Rows L2
section
variable {P : Program} {w : World} {A : Around} {E : Value → Shared → Prop} {s : Shared} {a : Addr} {L : List Str}
theorem sorted_texts {Q : Value → Shared → Prop} (R : TS w s.heap a L) (hh : A.handled = none) (few : L.length < 64)
    (hQ : ∀ s' p (out : Array Value) (c : Nat) (ys : List Str), (∀ b o, s.heap.get? b = some o → s'.heap.get? b = some o) → s'.gens = s.gens → s'.os = s.os → s.heap.objs.size ≤ p →
      s'.heap.get? p = some (seqObj "list" out c) → StrsAre out.toList ys → ys.Perm L → sortedS ys = true → Q (.ref p) s') :
    wpAny (model P w) A (call (.builtin "sorted") [.ref a]) Q E s := by
  obtain ⟨ob, ents, ep, tab, ho, hex, hd, g, pm0, nd, hb, hf, hr, hl⟩ := R
  have hn : ents.size = L.length := by
    have q := pm0.length_eq
    rw [List.length_map, Array.length_toList] at q
    exact q
  refine Calls.call_function_entry kind_sorted plain_sorted entry_sorted (args_sorted1 _) ?_
  unfold Builtin.«sorted»
  refine wpAny_bind (m := checkCount "sorted" 1 1 _) (wpAny_pure ?_)
  refine wpAny_bind (collect_set (A := A.in1) hh ⟨ob, ho, hex.1, hd⟩ hf (by rw [hn]; exact hb) hr hl fun s1 vs k1 hz g1 o1 pm => ?_)
  have pv : (vs.map strOf).Perm L := by
    have q := pm.map strOf
    rw [List.map_map] at q
    exact q.trans pm0
  have hvl : vs.length = L.length := by
    have q := pv.length_eq
    rw [List.length_map] at q
    exact q
  have hS : StrsAre vs (vs.map strOf) := strsAre_map vs fun v hv => by
    obtain ⟨e, he, q⟩ := List.mem_map.mp (pm.mem_iff.mp hv)
    obtain ⟨z, tk, rfl⟩ := g e he
    exact ⟨z, tk, q.symm⟩
  refine wpAny_bind (wpAny_newList ?_ (by rw [hvl, sizeLine_eq]; omega))
  have hoL : (s1.heap.push (seqObj "list" vs.toArray 0)).get? s1.heap.objs.size = some (seqObj "list" vs.toArray 0) := Heap.get?_push_size _ rfl
  refine wpAny_bind (wpAny_holding (wpAny_call_entry slot_list_sort ⟨_, hoL, rfl⟩ entry_list_sort
    (list_sort_treeK strKind_oneLt hoL hS.keysOf (fun v₁ v₂ rest e => keyKind_strs (by rw [← e]; exact hS)) (by rw [hvl]; exact few) fun st' hp hs => ⟨_, rfl, ?_⟩) (args_list_sort _)))
  obtain ⟨ys, y1, y2, y3⟩ := sorted_out_str hS hp hs
  obtain ⟨c, hc⟩ := sortedHeap_at (vs := vs) (out := (arrOf st').map (·.2)) hoL
  refine wpAny_pure ⟨_, rfl, hQ _ s1.heap.objs.size _ c ys (fun b u e => ?_) g1 o1 hz hc y1 (y2.trans pv) y3⟩
  have q := k1 b u e
  have hlt := Heap.lt_size q
  show (sortedHeap (s1.heap.push (seqObj "list" vs.toArray 0)) s1.heap.objs.size vs ((arrOf st').map (·.2))).get? b = some u
  rw [sortedHeap_old (Nat.ne_of_lt hlt) (by rw [size_push']; exact Nat.lt_succ_of_lt hlt)]
  exact Heap.get?_push_of_some _ q
end
/-! ### over the layer -/
def TSO (w : World) (a : Addr) (L : List Str) : HO := .ext fun h => TS w h a L
theorem tso_new {P : Program} {w : World} {H : Hp} {h : Heap} {a : Addr} {L : List Str} (R : TS w h a L) : ObjOk P w H h a (TSO w a L) := by
  have ⟨ob, _, _, _, ho, _⟩ := R
  exact ⟨R, ⟨ob, ho⟩, fun _ _ p k => p.keep k⟩
section
variable {X : Cx}
/-- set(xs), xs a list of texts, and sorted of it -/
def rSetS (K : PySem.W.Frag) (w : World) : List V → Hp → VK → Prop := fun vs H Q => ∃ (l : Addr) (xs : List Str), vs = [V.ref l] ∧ SqL K H l (xs.map V.str) ∧ xs.length < scanBound ∧
  ∀ a, H a = none → Q (.ref a) (upd H a (TSO w a (ded xs)))
theorem cr_setS (hc : X.calm = true) : CallR X (.type "set") (rSetS X.K X.w) := by
  intro pins s σ H vs us Q I r h
  obtain ⟨l, xs, rfl, hl, few, q⟩ := h
  rw [Vals.ref1 r]
  obtain ⟨its, rv, pl, _⟩ := I.list hl
  have hn : H s.heap.objs.size = none := I.hok.fresh (Nat.le_refl _)
  refine call_set_texts (P := X.prog) (I.ok.hd hc) pl.isList (by simpa using Vals.strs rv) few fun h' tk R k => ?_
  exact ⟨.ref s.heap.objs.size, upd H s.heap.objs.size (TSO X.w s.heap.objs.size (ded xs)), I.laid (t' := tk) k (Nat.le_refl _) (tso_new R), rfl, q _ hn⟩
def rSortedTexts (w : World) : List V → Hp → VK → Prop := fun vs H Q => ∃ (a : Addr) (L : List Str), vs = [V.ref a] ∧ H a = some (TSO w a L) ∧ L.length < 64 ∧
  ∀ (ys : List Str) (p : Addr), ys.Perm L → sortedS ys = true → H p = none → Q (.ref p) (upd H p (.lst (ys.map V.str)))
theorem cr_sortedTexts (hc : X.calm = true) : CallR X (.builtin "sorted") (rSortedTexts X.w) := by
  intro pins s σ H vs us Q I r h
  obtain ⟨a, L, rfl, ha, few, q⟩ := h
  have R : TS X.w s.heap a L := (I.hok a _ ha).1
  rw [Vals.ref1 r]
  refine sorted_texts (P := X.prog) R (I.ok.hd hc) few fun s' p out c ys k g o hp hg hS pm srt => ?_
  have hlen : (ys.map V.str).length ≤ sizeLine := by
    rw [List.length_map, pm.length_eq, sizeLine_eq]
    omega
  have hn : H p = none := I.hok.fresh hp
  have J : Inv X pins σ (upd H p (.lst (ys.map V.str))) { s with heap := s'.heap, gens := s'.gens, drawn := s'.drawn, toks := s'.toks } :=
    I.call (ch := []) (Un.laid k hp hn) (I.hok.laid k hp ⟨hlen, out.toList, c, vals_of_strs hS, hg⟩) (by rw [g]; exact I.bare) (fun _ z => nomatch z)
  have e : s' = { s with heap := s'.heap, gens := s'.gens, drawn := s'.drawn, toks := s'.toks } := by
    cases s'
    cases s
    cases o
    rfl
  rw [e]
  exact ⟨.ref p, _, J, rfl, q ys p pm srt hn⟩
end
end TSet
end
section
namespace OwD
open PySem PySem.Spec PyProof.Rows L2
theorem lays {α : Type} {f : α → PyData} : ∀ l : List α, (∀ x ∈ l, (f x).canLay0 = true) → PyData.canLayAll0 (l.map f) = true
  | [], _ => by simp [PyData.canLayAll0]
  | x :: l, h => by
    rw [List.map_cons, PyData.canLayAll0, h x List.mem_cons_self, lays l fun y hy => h y (List.mem_cons_of_mem _ hy)]
    rfl
theorem deps {α : Type} {f : α → PyData} {k : Nat} : ∀ l : List α, (∀ x ∈ l, (f x).depth ≤ k) → PyData.depthAll (l.map f) ≤ k
  | [], _ => by simp [PyData.depthAll]
  | x :: l, h => by
    have h1 := h x List.mem_cons_self
    have h2 := deps l fun y hy => h y (List.mem_cons_of_mem _ hy)
    rw [List.map_cons, PyData.depthAll]
    exact Nat.max_le.mpr ⟨h1, h2⟩
theorem shaped_of {d : PyData} (h1 : d.canLay0 = true) (h2 : d.depth ≤ 64) : SeqAt.shaped d = true := by
  show (d.canLay0 && decide (d.depth ≤ 64)) = true
  rw [h1, decide_eq_true h2]
  rfl
theorem shaped_lst {α : Type} {f : α → PyData} {l : List α} {k : Nat} (hk : k ≤ 60) (h1 : ∀ x ∈ l, (f x).canLay0 = true) (h2 : ∀ x ∈ l, (f x).depth ≤ k) : SeqAt.shaped (.list (l.map f)) = true := by
  refine shaped_of (by rw [PyData.canLay0]; exact lays l h1) ?_
  have := deps l h2
  rw [PyData.depth]
  omega
theorem shaped_tup {α : Type} {f : α → PyData} {l : List α} {k : Nat} (hk : k ≤ 60) (h1 : ∀ x ∈ l, (f x).canLay0 = true) (h2 : ∀ x ∈ l, (f x).depth ≤ k) : SeqAt.shaped (.tuple (l.map f)) = true := by
  refine shaped_of (by rw [PyData.canLay0]; exact lays l h1) ?_
  have := deps l h2
  rw [PyData.depth]
  omega
theorem dp_ints {K : PySem.W.Frag} {H : Hp} : ∀ ns : List Int, DpAll K H (ns.map V.int) (ns.map PyData.int)
  | [] => .nil
  | n :: r => .cons (.int n) (dp_ints r)
theorem dp_strs {K : PySem.W.Frag} {H : Hp} : ∀ ns : List Str, DpAll K H (ns.map V.str) (ns.map PyData.str)
  | [] => .nil
  | n :: r => .cons (.str n) (dp_strs r)
theorem shaped_ints (ns : List Int) : SeqAt.shaped (.list (ns.map PyData.int)) = true := shaped_lst (k := 0) (by decide) (fun _ _ => by simp [PyData.canLay0]) fun _ _ => by simp [PyData.depth]
theorem eqv_nil {α : Type} {f : α → PyData} (l : List α) : PyData.eqv (.list (l.map f)) (.list []) = l.isEmpty := by
  cases l <;> simp [PyData.eqv, PyData.eqvAll]
theorem shaped_nil : SeqAt.shaped (.list []) = true := shaped_of (by simp [PyData.canLay0, PyData.canLayAll0]) (by simp [PyData.depth, PyData.depthAll])
end OwD
end
section
namespace OwR
open PySem PySem.Spec PyProof.Rows L2
theorem raw0 {P : Program} {w : World} {K : PySem.W.Frag} {mg : Str → Option Value} {base : Heap} {CX : CXT} {k : Nat} {f : Addr} {fd : FuncData} {ps : List Str} {sp : Sp} (F : FnOk P w K mg base CX k f fd ps sp) (hb : Binds K fd ps []) : FnR P w K mg base CX k f sp :=
  (F.raw hb .nil).imp fun vs H Q E h => by rw [List.append_nil]; exact h
end OwR
namespace K10
open PySem PySem.Spec PyProof.Rows L2
/-- what stands behind the module's names -/
structure Nm (mg : Str → Option Value) : Prop where
  n_int : mg "int" = none
  n_len : mg "len" = none
  n_abs : mg "abs" = none
  n_list : mg "list" = none
/-- the state of the draws at p: the cells at c, how many were taken, what is left of a great one -/
structure PenAt (H : Hp) (p c : Addr) (ns : List Int) (n : Nat) (z : Int) : Prop where
  pen : H p = some (.lst [.ref c, .int n, .int z])
  cells : H c = some (.lst (ns.map V.int))
  few : ns.length ≤ 63
  rest : 0 ≤ z
theorem PenAt.ne {H : Hp} {p c : Addr} {ns : List Int} {n : Nat} {z : Int} (P : PenAt H p c ns n z) : c ≠ p := fun e => by
  have h1 := P.pen
  have h2 := P.cells
  rw [e, h1] at h2
  have h3 := congrArg (fun o : Option HO => match o with | some (.lst xs) => xs | _ => []) h2
  have h4 : ([V.ref c, V.int n, V.int z] : List V) = ns.map V.int := h3
  cases ns with
  | nil => cases h4
  | cons a l => cases h4
/-- all but the pen stands -/
def But (p : Addr) (H H' : Hp) : Prop := ∀ b o, b ≠ p → H b = some o → H' b = some o
theorem But.refl (p : Addr) (H : Hp) : But p H H := fun _ _ _ h => h
theorem But.trans {p : Addr} {H H1 H2 : Hp} (a : But p H H1) (b : But p H1 H2) : But p H H2 := fun c o n h => b c o n (a c o n h)
theorem But.new {p l : Addr} {H : Hp} {o : HO} (h : H l = none) : But p H (upd H l o) := fun b u _ e => by
  rw [upd_ne (ne_of_none e h)]
  exact e
theorem But.at {p : Addr} {H : Hp} {o : HO} : But p H (upd H p o) := fun b u n e => by
  rw [upd_ne n]
  exact e
theorem But.same {p : Addr} {H H' : Hp} (a : But p H H') (s : Same H' H') : But p H H' := a
theorem at_mod (ns : List Int) (n : Int) (h : 0 < ns.length) : ∃ x : Int, atI (ns.map V.int) (n % ((ns.map V.int).length : Int)) = some (V.int x) := by
  have hl : (ns.map V.int).length = ns.length := List.length_map _
  have h1 : 0 ≤ n % ((ns.map V.int).length : Int) := Int.emod_nonneg _ (by omega)
  have h2 : n % ((ns.map V.int).length : Int) < ((ns.map V.int).length : Int) := Int.emod_lt_of_pos _ (by omega)
  generalize n % ((ns.map V.int).length : Int) = j at h1 h2
  obtain ⟨i, rfl⟩ : ∃ i : Nat, j = (i : Int) := ⟨j.toNat, by omega⟩
  have hi : i < ns.length := by omega
  refine ⟨ns[i], atI_nat ?_⟩
  rw [List.getElem?_map, List.getElem?_eq_getElem hi]
  rfl
theorem mix_lt {x n a b c : Int} (x0 : 0 ≤ x) (x1 : x < 2147483648) (n0 : 0 ≤ n) (n1 : n < 100000) (a0 : 0 ≤ a) (a1 : a < 1000000) (b0 : 0 ≤ b) (b1 : b < 1000000) (c0 : 0 ≤ c) (c1 : c < 1000000) :
    (x * (2 * n + a) + b * n * n + c).natAbs < 2 ^ 64 := by
  have h1 : 0 ≤ x * (2 * n + a) := Int.mul_nonneg x0 (by omega)
  have h2 : x * (2 * n + a) ≤ 2147483648 * 1200000 := Int.mul_le_mul (by omega) (by omega) (by omega) (by decide)
  have h3 : 0 ≤ b * n * n := Int.mul_nonneg (Int.mul_nonneg b0 n0) n0
  have h4 : b * n ≤ 1000000 * 100000 := Int.mul_le_mul (by omega) (by omega) n0 (by decide)
  have h5 : b * n * n ≤ 1000000 * 100000 * 100000 := Int.mul_le_mul h4 (by omega) n0 (by decide)
  omega
def spDraw : Sp := fun vs H Q _ => ∃ (p c : Addr) (ns : List Int) (n : Nat) (z m : Int), vs = [.ref p, .int m] ∧ PenAt H p c ns n z ∧ n < 100000 ∧ 0 < m ∧ m.natAbs < 2 ^ 1000 ∧
  ∀ (d : Int) (n' : Nat) (z' : Int) (H' : Hp), 0 ≤ d → d < m → n' ≤ n + 1 → PenAt H' p c ns n' z' → But p H H' → Q (.int d) H'
theorem Same.of_new {H : Hp} {p : Addr} {o : HO} (h : H p = none) : Same H (upd H p o) := fun b u e => by
  rw [upd_ne (ne_of_none e h)]
  exact e
theorem But.rd {p : Addr} {H H' : Hp} (s : But p H H') {a : Addr} {o : HO} (n : a ≠ p) (h : Rd H a o) : Rd H' a o := h.elim (fun e => .inl (s a _ n e)) fun ⟨q, e⟩ => .inr ⟨q, s a _ n e⟩
theorem Same.but {H H' : Hp} (p : Addr) (s : Same H H') : But p H H' := fun b o _ e => s b o e
theorem Same.rd {H H' : Hp} (s : Same H H') {a : Addr} {o : HO} (h : Rd H a o) : Rd H' a o := h.elim (fun e => .inl (s a _ e)) fun ⟨q, e⟩ => .inr ⟨q, s a _ e⟩
theorem made_same {H H' : Hp} {x dx : Addr} {o o' : HO} (hx : H x = none) (hd : H dx = none) (s : But x (upd (upd H dx o) x o') H') : Same H H' := fun b u e => by
  refine s b u (ne_of_none e hx) ?_
  rw [upd_ne (ne_of_none e hx), upd_ne (ne_of_none e hd)]
  exact e
theorem upd_keep2 {H : Hp} {D b : Addr} {o u : HO} (h : H b = some u) (hD : H D = none) : upd H D o b = some u := by
  rw [upd_ne (ne_of_none h hD)]
  exact h
theorem SqL.mono {K : PySem.W.Frag} {H H' : Hp} {a : Addr} {xs : List V} (h : SqL K H a xs) (s : Same H H') : SqL K H' a xs := h.elim (fun r => .inl (Same.rd s r)) .inr
theorem SqT.mono {K : PySem.W.Frag} {H H' : Hp} {a : Addr} {xs : List V} (h : SqT K H a xs) (s : Same H H') : SqT K H' a xs := h.elim (fun r => .inl (Same.rd s r)) .inr
theorem But.free {p l : Addr} {H H' : Hp} (s : But p H H') (hp : H' p ≠ none) (h : H' l = none) : H l = none := by
  cases e : H l with
  | none => rfl
  | some o =>
    by_cases n : l = p
    · rw [n] at h
      exact (hp h).elim
    · rw [s l o n e] at h
      cases h
theorem PenAt.some {H : Hp} {p c : Addr} {ns : List Int} {n : Nat} {z : Int} (P : PenAt H p c ns n z) : H p ≠ none := by
  rw [P.pen]
  exact fun h => by cases h
theorem PenAt.same {H H' : Hp} {p c : Addr} {ns : List Int} {n : Nat} {z : Int} (P : PenAt H p c ns n z) (s : Same H H') : PenAt H' p c ns n z := ⟨s _ _ P.pen, s _ _ P.cells, P.few, P.rest⟩
theorem SqL.but {K : PySem.W.Frag} {p : Addr} {H H' : Hp} {a : Addr} {xs : List V} (h : SqL K H a xs) (n : a ≠ p) (s : But p H H') : SqL K H' a xs := h.elim (fun r => .inl (But.rd s n r)) .inr
theorem nth {α : Type} {xs : List α} {d : Int} (h0 : 0 ≤ d) (h1 : d < xs.length) : ∃ x, x ∈ xs ∧ atI xs d = some x := by
  obtain ⟨j, rfl⟩ : ∃ j : Nat, d = (j : Int) := ⟨d.toNat, by omega⟩
  have hj : j < xs.length := by omega
  exact ⟨xs[j], List.getElem_mem hj, atI_nat (List.getElem?_eq_getElem hj)⟩
theorem cut_63 {ns : List Int} (h : ns.length ≤ 63) : cutV (ns.map V.int) none (some 63) = ns.map V.int := by
  have e : (some 63 : Option Int) = some ((63 : Nat) : Int) := rfl
  unfold cutV
  rw [HT.sIx_none, e, HT.sIx_nat, List.drop_zero]
  exact List.take_of_length_le (by rw [List.length_map]; omega)
theorem PenAt.put {H : Hp} {p c D : Addr} {ns : List Int} {n : Nat} {z : Int} {o : HO} (P : PenAt H p c ns n z) (n1 : p ≠ D) (n2 : c ≠ D) : PenAt (upd H D o) p c ns n z := ⟨by rw [upd_ne n1]; exact P.pen, by rw [upd_ne n2]; exact P.cells, P.few, P.rest⟩
def spPen (K : PySem.W.Frag) : Sp := fun vs H Q _ => ∃ (a : Addr) (ns : List Int), vs = [.ref a] ∧ SqL K H a (ns.map V.int) ∧ ns.length ≤ 63 ∧ ∀ p c H', H p = none → Same H H' → PenAt H' p c ns 0 0 → Q (.ref p) H'
def spPick (K : PySem.W.Frag) : Sp := fun vs H Q _ => ∃ (p c l : Addr) (ns : List Int) (n : Nat) (z : Int) (xs : List V), vs = [.ref p, .ref l] ∧ PenAt H p c ns n z ∧ n < 100000 ∧ l ≠ p ∧ SqL K H l xs ∧ 0 < xs.length ∧ xs.length < 1000 ∧
  ∀ (x : V) (n' : Nat) (z' : Int) (H' : Hp), x ∈ xs → n' ≤ n + 1 → PenAt H' p c ns n' z' → But p H H' → Q x H'
theorem small_int {i : Int} (h0 : 0 ≤ i) (h1 : i < 1000) : i.natAbs < 2 ^ 1000 := Nat.lt_of_lt_of_le (show i.natAbs < 1000 by omega) (by decide +kernel)
def letter (c : Nat) : Bool := decide (97 ≤ c) && decide (c ≤ 122)
def nameB (z : Str) : Bool := (decide (1 ≤ z.length) && decide (z.length ≤ 8)) && z.cps.toList.all letter
theorem one_le (a c : Nat) : (!decide (([c] : List Nat) < [a])) = decide (a ≤ c) := by
  by_cases h : a ≤ c
  · rw [decide_eq_true h, decide_eq_false]
    · rfl
    · intro q
      rcases List.cons_lt_cons_iff.mp q with q | ⟨_, q⟩
      · omega
      · exact absurd q (by simp)
  · rw [decide_eq_false h, decide_eq_true]
    · rfl
    · exact List.cons_lt_cons_iff.mpr (.inl (by omega))
/-- what is no text -/
def NoStr (K : PySem.W.Frag) (H : Hp) (v : V) : Prop := ∃ t, TyX K H v t ∧ PySem.W.kitOne K t (.type "str") = some false
/-- what is no name -/
def NoName (K : PySem.W.Frag) (H : Hp) (v : V) : Prop := (∃ z : Str, v = .str z ∧ z.length ≤ 1000 ∧ nameB z = false) ∨ NoStr K H v
def spName (K : PySem.W.Frag) : Sp := fun vs H Q _ => ∃ v : V, vs = [v] ∧ ((∃ z : Str, v = .str z ∧ z.length ≤ 1000 ∧ ∀ H', Same H H' → Q (.bl (nameB z)) H') ∨ (NoStr K H v ∧ Q (.bl false) H))
def spCheck (K : PySem.W.Frag) (CB : Addr) : Sp := fun vs H Q E => ∃ v : V, vs = [v] ∧ ((∃ z : Str, v = .str z ∧ z.length ≤ 1000 ∧ nameB z = true ∧ ∀ H', Same H H' → Q .non H') ∨ (NoName K H v ∧ ∀ H' d, Same H H' → H' d = none → E (.ref CB) (some d) (upd H' d (.xd [("value", v)]))))
theorem name_short {z : Str} (h : nameB z = true) (B : Nat) : PyData.leavesShort B (.str z) = true := by
  unfold nameB at h
  have h2 := List.all_eq_true.mp (Bool.and_eq_true_iff.mp h).2
  show (z.cps.toList.all fun c => decide (c < 16 ^ 8)) = true
  refine List.all_eq_true.mpr fun c hc => ?_
  have h3 := h2 c hc
  unfold letter at h3
  have h4 := of_decide_eq_true (Bool.and_eq_true_iff.mp h3).2
  exact decide_eq_true (by omega)
theorem name_strOk {z : Str} (h : nameB z = true) : PyData.strOk z = true := by
  have h2 := List.all_eq_true.mp (Bool.and_eq_true_iff.mp (show (_ && _) = true from h)).2
  unfold PyData.strOk
  rw [Array.all_eq_true']
  intro c hc
  have h3 := h2 c (Array.mem_toList_iff.mpr hc)
  unfold letter at h3
  have h4 := of_decide_eq_true (Bool.and_eq_true_iff.mp h3).2
  exact decide_eq_true (by omega)
theorem strOk_app {x y : Str} (hx : PyData.strOk x = true) (hy : PyData.strOk y = true) : PyData.strOk (x ++ y) = true := by
  obtain ⟨c⟩ := x
  obtain ⟨d⟩ := y
  show (c ++ d).all _ = true
  rw [Array.all_append]
  exact Bool.and_eq_true_iff.mpr ⟨hx, hy⟩
theorem shaped_strs {zs : List Str} (h : ∀ z ∈ zs, PyData.strOk z = true) : SeqAt.shaped (.list (zs.map PyData.str)) = true := by
  refine OwD.shaped_lst (k := 0) (by decide) (fun z hz => ?_) fun z hz => ?_
  · rw [PyData.canLay0]
    exact h z hz
  · exact Nat.le_of_ble_eq_true rfl
theorem eqv_strs {zs : List Str} (h : ∀ z ∈ zs, PyData.strOk z = true) : PyData.eqv (.list (zs.map PyData.str)) (.list (zs.map PyData.str)) = true := SeqAt.eqv_refl _ (SeqAt.canLay_of_shaped (shaped_strs h))
theorem shown_fits {d : PyData} (h : d.leavesShort 100 = true) (hb : d.bulk ≤ 1000) : d.shown.length ≤ sizeLine := by
  have := PyData.shown_le_bulk 100 (by decide) d h
  have sz := sizeLine_eq
  have h2 : (100 + 2) * d.bulk ≤ (100 + 2) * 1000 := Nat.mul_le_mul_left _ hb
  omega
/-- the error class at C, as a def that raises it wants it -/
structure ErrT (K : PySem.W.Frag) (mg : Str → Option Value) (x : Str) (C fI : Addr) : Prop where
  er : OwE.ErrC K C
  g : mg x = some (.ref C)
  ini : PySem.W.findIn K (.ref C) "__init__" = some (some (.ref fI))
  ty : PySem.W.typeIn K (.ref fI) = some (.type "function")
theorem joinL_singles : ∀ cs : List Nat, TL.joinL [] (cs.map fun c => [c]) = cs
  | [] => rfl
  | [_] => rfl
  | a :: b :: r => by
    have ih := joinL_singles (b :: r)
    show [a] ++ ([] ++ TL.joinL [] ((b :: r).map fun c => [c])) = a :: b :: r
    rw [ih]
    rfl
theorem join_signs (cs : List Nat) : Txt.join Str.empty (cs.map fun c => (⟨#[c]⟩ : Str)) = ⟨cs.toArray⟩ := by
  rw [← TL.mk_tl (Txt.join Str.empty (cs.map fun c => (⟨#[c]⟩ : Str))), TL.join_eq, TL.tl_join, List.map_map]
  have e : TL.joinL (TL.tl Str.empty) (cs.map (TL.tl ∘ fun c => (⟨#[c]⟩ : Str))) = cs := joinL_singles cs
  rw [e]
def spPickS : Sp := fun vs H Q _ => ∃ (p c : Addr) (ns : List Int) (n : Nat) (z : Int) (t : Str), vs = [.ref p, .str t] ∧ PenAt H p c ns n z ∧ n < 100000 ∧ 0 < t.length ∧ t.length < 1000 ∧
  ∀ (x : Nat) (n' : Nat) (z' : Int) (H' : Hp), x ∈ t.cps.toList → n' ≤ n + 1 → PenAt H' p c ns n' z' → But p H H' → Q (.str ⟨#[x]⟩) H'
theorem letters_name {cs : List Nat} (h1 : 1 ≤ cs.length) (h8 : cs.length ≤ 8) (hc : ∀ c ∈ cs, letter c = true) : nameB ⟨cs.toArray⟩ = true := by
  unfold nameB
  have e : (⟨cs.toArray⟩ : Str).length = cs.length := List.size_toArray
  rw [e, decide_eq_true h1, decide_eq_true h8, Bool.true_and, Bool.true_and]
  exact List.all_eq_true.mpr hc
end K10
end
section
/-! Own: what rules choose, their one form; ascending texts; tables. Nothing of a law's text. -/
namespace K10
open PySem PySem.Spec PyProof.Rows L2

abbrev Pk := Str × Int
/-- the bay of the first pick that is open at f -/
def choose (f : Str → Int) : List Pk → Option Str
  | [] => none
  | p :: r => if p.2 < f p.1 then some p.1 else choose f r
def setM (m : Str → Option Int) (b : Str) (k : Int) : Str → Option Int := fun y => if y = b then some k else m y
/-- is it kept behind what was passed? -/
def keeps (m : Str → Option Int) (p : Pk) : Bool := match m p.1 with
  | none => true
  | some k => decide (p.2 < k)
def mAfter (m : Str → Option Int) (p : Pk) : Str → Option Int := if keeps m p = true then setM m p.1 p.2 else m
def kept (m : Str → Option Int) : List Pk → List Pk
  | [] => []
  | p :: r => if keeps m p = true then p :: kept (setM m p.1 p.2) r else kept m r
def mEnd (m : Str → Option Int) : List Pk → (Str → Option Int)
  | [] => m
  | p :: r => mEnd (mAfter m p) r
theorem kept_app (x : Pk) : ∀ (l : List Pk) (m : Str → Option Int), kept m (l ++ [x]) = kept m l ++ (if keeps (mEnd m l) x = true then [x] else [])
  | [], m => by
    show (if keeps m x = true then x :: kept (setM m x.1 x.2) [] else kept m []) = [] ++ (if keeps m x = true then [x] else [])
    split <;> rfl
  | p :: r, m => by
    show (if keeps m p = true then p :: kept (setM m p.1 p.2) (r ++ [x]) else kept m (r ++ [x])) = (if keeps m p = true then p :: kept (setM m p.1 p.2) r else kept m r) ++ (if keeps (mEnd (mAfter m p) r) x = true then [x] else [])
    by_cases h : keeps m p = true
    · rw [if_pos h, if_pos h, kept_app x r, List.cons_append]
      unfold mAfter
      rw [if_pos h]
    · rw [if_neg h, if_neg h, kept_app x r]
      unfold mAfter
      rw [if_neg h]
theorem mEnd_app (x : Pk) : ∀ (l : List Pk) (m : Str → Option Int), mEnd m (l ++ [x]) = mAfter (mEnd m l) x
  | [], _ => rfl
  | p :: r, m => mEnd_app x r (mAfter m p)
theorem kept_len : ∀ (l : List Pk) (m : Str → Option Int), (kept m l).length ≤ l.length
  | [], _ => Nat.le_refl 0
  | p :: r, m => by
    show (if keeps m p = true then p :: kept (setM m p.1 p.2) r else kept m r).length ≤ r.length + 1
    split
    · exact Nat.succ_le_succ (kept_len r _)
    · exact Nat.le_succ_of_le (kept_len r _)
theorem kept_below : ∀ (l : List Pk) (m : Str → Option Int) (p : Pk), p ∈ kept m l → ∀ k, m p.1 = some k → p.2 < k
  | [], _, p, h, _, _ => by cases h
  | q :: r, m, p, h, k, e => by
    have h' : p ∈ (if keeps m q = true then q :: kept (setM m q.1 q.2) r else kept m r) := h
    by_cases c : keeps m q = true
    · rw [if_pos c] at h'
      have c2 := c
      unfold keeps at c2
      rcases List.mem_cons.mp h' with rfl | h2
      · rw [e] at c2
        exact of_decide_eq_true c2
      · by_cases e2 : p.1 = q.1
        · have h3 := kept_below r _ p h2 q.2 (by unfold setM; rw [if_pos e2])
          rw [← e2, e] at c2
          have h4 : q.2 < k := of_decide_eq_true c2
          omega
        · exact kept_below r _ p h2 k (by unfold setM; rw [if_neg e2]; exact e)
    · rw [if_neg c] at h'
      exact kept_below r _ p h' k e
/-- neighbours of one bay have falling keeps -/
def Falls : List Pk → Prop
  | [] => True
  | [_] => True
  | p :: q :: r => (p.1 = q.1 → q.2 < p.2) ∧ Falls (q :: r)
theorem falls_kept : ∀ (l : List Pk) (m : Str → Option Int), Falls (kept m l)
  | [], _ => True.intro
  | p :: r, m => by
    show Falls (if keeps m p = true then p :: kept (setM m p.1 p.2) r else kept m r)
    split
    · have ih := falls_kept r (setM m p.1 p.2)
      have hb := kept_below r (setM m p.1 p.2)
      cases h : kept (setM m p.1 p.2) r with
      | nil => exact True.intro
      | cons q t =>
        rw [h] at ih hb
        exact ⟨fun e => hb q List.mem_cons_self p.2 (by unfold setM; rw [if_pos e.symm]), ih⟩
    · exact falls_kept r m
theorem choose_kept (f : Str → Int) : ∀ (l : List Pk) (m : Str → Option Int), (∀ b k, m b = some k → f b ≤ k) → choose f (kept m l) = choose f l
  | [], _, _ => rfl
  | p :: r, m, h => by
    show choose f (if keeps m p = true then p :: kept (setM m p.1 p.2) r else kept m r) = (if p.2 < f p.1 then some p.1 else choose f r)
    by_cases c : keeps m p = true
    · rw [if_pos c]
      show (if p.2 < f p.1 then some p.1 else choose f (kept (setM m p.1 p.2) r)) = _
      by_cases o : p.2 < f p.1
      · rw [if_pos o, if_pos o]
      · rw [if_neg o, if_neg o]
        refine choose_kept f r _ fun b k e => ?_
        unfold setM at e
        by_cases e2 : b = p.1
        · rw [if_pos e2] at e
          cases e
          rw [e2]
          omega
        · rw [if_neg e2] at e
          exact h b k e
    · rw [if_neg c, choose_kept f r m h, if_neg]
      intro o
      unfold keeps at c
      cases e : m p.1 with
      | none => rw [e] at c; exact c rfl
      | some k =>
        rw [e] at c
        have h1 := h _ _ e
        exact c (decide_eq_true (by omega))
/-- without those behind which the same bay stands -/
def step2 : List Pk → List Pk
  | [] => []
  | [p] => [p]
  | p :: q :: r => if p.1 = q.1 then step2 (q :: r) else p :: step2 (q :: r)
theorem choose_step2 (f : Str → Int) : ∀ l : List Pk, Falls l → choose f (step2 l) = choose f l
  | [], _ => rfl
  | [_], _ => rfl
  | p :: q :: r, h => by
    show choose f (if p.1 = q.1 then step2 (q :: r) else p :: step2 (q :: r)) = (if p.2 < f p.1 then some p.1 else choose f (q :: r))
    have ih := choose_step2 f (q :: r) h.2
    by_cases e : p.1 = q.1
    · rw [if_pos e, ih]
      by_cases o : p.2 < f p.1
      · rw [if_pos o]
        show (if q.2 < f q.1 then some q.1 else choose f r) = some p.1
        have := h.1 e
        rw [if_pos (by rw [← e]; omega), e]
      · rw [if_neg o]
    · rw [if_neg e]
      show (if p.2 < f p.1 then some p.1 else choose f (step2 (q :: r))) = _
      rw [ih]
def oneForm (l : List Pk) : List Pk := step2 (kept (fun _ => none) l)
theorem choose_form (f : Str → Int) (l : List Pk) : choose f (oneForm l) = choose f l :=
  (choose_step2 f _ (falls_kept l _)).trans (choose_kept f l _ fun _ _ e => by cases e)
theorem step2_len : ∀ l : List Pk, (step2 l).length ≤ l.length
  | [] => Nat.le_refl 0
  | [_] => Nat.le_refl 1
  | p :: q :: r => by
    have ih := step2_len (q :: r)
    show (if p.1 = q.1 then step2 (q :: r) else p :: step2 (q :: r)).length ≤ (q :: r).length + 1
    split
    · omega
    · exact Nat.succ_le_succ ih
theorem form_len (l : List Pk) : (oneForm l).length ≤ l.length := Nat.le_trans (step2_len _) (kept_len l _)
/-- the filter by the bays behind -/
def behind (l : List Pk) : List (Option Str) := (l.drop 1).map (fun p => some p.1) ++ [none]
theorem step2_zip : ∀ l : List Pk, step2 l = ((l.zip (behind l)).filter fun e => decide (some e.1.1 ≠ e.2)).map (·.1)
  | [] => rfl
  | [p] => by
    show [p] = (([(p, none)] : List (Pk × Option Str)).filter _).map _
    rfl
  | p :: q :: r => by
    have ih := step2_zip (q :: r)
    have e1 : (p :: q :: r).zip (behind (p :: q :: r)) = (p, some q.1) :: (q :: r).zip (behind (q :: r)) := rfl
    rw [e1, List.filter_cons]
    show (if p.1 = q.1 then step2 (q :: r) else p :: step2 (q :: r)) = _
    by_cases e : p.1 = q.1
    · rw [if_pos e, ih, if_neg (by simp [e])]
    · rw [if_neg e, ih, if_pos (by simp [e]), List.map_cons]
theorem putK_keys {kvs : List (Key × V)} {xs : List Str} (e : kvs.map (·.1) = xs.map Sum.inr) (z : Str) (v : V) : ∃ ys : List Str, (putK kvs (Sum.inr z) v).map (·.1) = ys.map Sum.inr ∧ ys.length ≤ xs.length + 1 := by
  unfold putK
  split
  · refine ⟨xs, ?_, Nat.le_succ _⟩
    rw [← e, List.map_map]
    refine List.map_congr_left fun kv _ => ?_
    show (if kv.1 = Sum.inr z then (kv.1, v) else kv).1 = kv.1
    split <;> rfl
  · refine ⟨xs ++ [z], ?_, by rw [List.length_append]; exact Nat.le_refl _⟩
    rw [List.map_append, List.map_append, e]
    rfl
def Good (p : Pk) : Prop := nameB p.1 = true ∧ p.1.length ≤ 1000 ∧ 0 ≤ p.2 ∧ p.2 ≤ 9
theorem mem_kept : ∀ (l : List Pk) (m : Str → Option Int) (p : Pk), p ∈ kept m l → p ∈ l
  | [], _, _, h => h
  | q :: r, m, p, h => by
    have h' : p ∈ (if keeps m q = true then q :: kept (setM m q.1 q.2) r else kept m r) := h
    split at h'
    · rcases List.mem_cons.mp h' with e | h2
      · exact List.mem_cons.mpr (.inl e)
      · exact List.mem_cons_of_mem _ (mem_kept r _ p h2)
    · exact List.mem_cons_of_mem _ (mem_kept r _ p h')
theorem mem_step2 : ∀ (l : List Pk) (p : Pk), p ∈ step2 l → p ∈ l
  | [], _, h => h
  | [_], _, h => h
  | a :: b :: r, p, h => by
    have h' : p ∈ (if a.1 = b.1 then step2 (b :: r) else a :: step2 (b :: r)) := h
    split at h'
    · exact List.mem_cons_of_mem _ (mem_step2 (b :: r) p h')
    · rcases List.mem_cons.mp h' with e | h2
      · exact List.mem_cons.mpr (.inl e)
      · exact List.mem_cons_of_mem _ (mem_step2 (b :: r) p h2)
theorem mem_form {l : List Pk} {p : Pk} (h : p ∈ oneForm l) : p ∈ l := mem_kept l _ p (mem_step2 _ p h)

/-- one form: the keeps of a bay fall, neighbours are unlike, no keep is below 0 -/
def Norm : List Pk → Prop
  | [] => True
  | p :: r => (∀ q ∈ r, q.1 = p.1 → q.2 < p.2) ∧ (∀ q, r.head? = some q → q.1 ≠ p.1) ∧ 0 ≤ p.2 ∧ Norm r
theorem choose_congr {f g : Str → Int} : ∀ {l : List Pk}, (∀ p ∈ l, (p.2 < f p.1 ↔ p.2 < g p.1)) → choose f l = choose g l
  | [], _ => rfl
  | p :: r, h => by
    have h1 := h p List.mem_cons_self
    have ih := choose_congr (l := r) fun q hq => h q (List.mem_cons_of_mem _ hq)
    show (if p.2 < f p.1 then some p.1 else choose f r) = (if p.2 < g p.1 then some p.1 else choose g r)
    rw [ih]
    by_cases c : p.2 < f p.1
    · rw [if_pos c, if_pos (h1.mp c)]
    · rw [if_neg c, if_neg fun q => c (h1.mpr q)]
theorem choose_head {f : Str → Int} {p : Pk} {r : List Pk} (h : p.2 < f p.1) : choose f (p :: r) = some p.1 := if_pos h
theorem choose_tail {f : Str → Int} {p : Pk} {r : List Pk} (h : ¬ p.2 < f p.1) : choose f (p :: r) = choose f r := if_neg h
/-- the first one of a bay has the smaller keep: the other list chooses otherwise -/
theorem no_less {x : Str} {k m : Int} {a b : List Pk} (ha : Norm ((x, k) :: a)) (h : ∀ f, choose f ((x, k) :: a) = choose f ((x, m) :: b)) (lt : m < k) : False := by
  obtain ⟨h1, h2, h3, h4⟩ := ha
  cases a with
  | nil =>
    have e := h fun z => m + 1
    rw [choose_tail (p := (x, k)) (by show ¬ k < m + 1; omega), choose_head (p := (x, m)) (by show m < m + 1; omega)] at e
    cases e
  | cons q r =>
    have ne : q.1 ≠ x := h2 q rfl
    have e := h fun z => if z = x then m + 1 else q.2 + 1
    rw [choose_tail (p := (x, k)) (by show ¬ k < (if x = x then m + 1 else q.2 + 1); rw [if_pos rfl]; omega), choose_head (p := q) (by rw [if_neg ne]; omega), choose_head (p := (x, m)) (by show m < (if x = x then m + 1 else q.2 + 1); rw [if_pos rfl]; omega)] at e
    exact ne (Option.some.inj e)
theorem uniq : ∀ (a b : List Pk), Norm a → Norm b → (∀ f, choose f a = choose f b) → a = b
  | [], [], _, _, _ => rfl
  | [], (y, m) :: b, _, _, h => by
    have e := h fun _ => m + 1
    rw [choose_head (p := (y, m)) (by show m < m + 1; omega)] at e
    cases e
  | (x, k) :: a, [], _, _, h => by
    have e := h fun _ => k + 1
    rw [choose_head (p := (x, k)) (by show k < k + 1; omega)] at e
    cases e
  | (x, k) :: a, (y, m) :: b, ha, hb, h => by
    have exy : x = y := by
      by_cases c : x = y
      · exact c
      · have e := h fun z => if z = x then k + 1 else m + 1
        rw [choose_head (p := (x, k)) (by show k < (if x = x then k + 1 else m + 1); rw [if_pos rfl]; omega), choose_head (p := (y, m)) (by show m < (if y = x then k + 1 else m + 1); rw [if_neg fun q => c q.symm]; omega)] at e
        exact Option.some.inj e
    subst exy
    have ekm : k = m := by
      rcases Int.lt_trichotomy k m with c | c | c
      · exact (no_less hb (fun f => (h f).symm) c).elim
      · exact c
      · exact (no_less ha h c).elim
    subst ekm
    have cut : ∀ (l : List Pk), (∀ q ∈ l, q.1 = x → q.2 < k) → ∀ f : Str → Int, choose f l = choose (fun z => if z = x then min (f x) k else f z) ((x, k) :: l) := fun l hl f => by
      rw [choose_tail (p := (x, k)) (by show ¬ k < (if x = x then min (f x) k else f x); rw [if_pos rfl]; omega)]
      refine choose_congr fun p hp => ?_
      by_cases c : p.1 = x
      · have := hl p hp c
        rw [if_pos c, c]
        omega
      · rw [if_neg c]
    rw [uniq a b ha.2.2.2 hb.2.2.2 fun f => by rw [cut a ha.1 f, cut b hb.1 f, h]]
def FA : List Pk → Prop
  | [] => True
  | p :: r => (∀ q ∈ r, q.1 = p.1 → q.2 < p.2) ∧ FA r
theorem fa_kept : ∀ (l : List Pk) (m : Str → Option Int), FA (kept m l)
  | [], _ => True.intro
  | p :: r, m => by
    show FA (if keeps m p = true then p :: kept (setM m p.1 p.2) r else kept m r)
    split
    · exact ⟨fun q hq e => kept_below r (setM m p.1 p.2) q hq p.2 (by unfold setM; rw [if_pos e]), fa_kept r _⟩
    · exact fa_kept r m
theorem norm_step2 : ∀ (l : List Pk), FA l → (∀ p ∈ l, 0 ≤ p.2) → Norm (step2 l) ∧ (step2 l).head?.map (·.1) = l.head?.map (·.1)
  | [], _, _ => ⟨True.intro, rfl⟩
  | [p], _, h => ⟨⟨(fun q hq => by cases hq), (fun q hq => by cases hq), h p List.mem_cons_self, True.intro⟩, rfl⟩
  | p :: q :: r, fa, h => by
    have ih := norm_step2 (q :: r) fa.2 fun z hz => h z (List.mem_cons_of_mem _ hz)
    show Norm (if p.1 = q.1 then step2 (q :: r) else p :: step2 (q :: r)) ∧ (if p.1 = q.1 then step2 (q :: r) else p :: step2 (q :: r)).head?.map (·.1) = some p.1
    by_cases c : p.1 = q.1
    · rw [if_pos c, c]
      exact ih
    · rw [if_neg c]
      refine ⟨⟨fun z hz e => fa.1 z (mem_step2 _ z hz) e, fun z hz e => ?_, h p List.mem_cons_self, ih.1⟩, rfl⟩
      have e2 := ih.2
      rw [hz] at e2
      have e3 : z.1 = q.1 := Option.some.inj e2
      exact c (e.symm.trans e3)
theorem norm_form {l : List Pk} (h : ∀ p ∈ l, 0 ≤ p.2) : Norm (oneForm l) := (norm_step2 _ (fa_kept l _) fun p hp => h p (mem_kept l _ p hp)).1
/-- what chooses alike has one form -/
theorem form_eq {a b : List Pk} (ha : ∀ p ∈ a, 0 ≤ p.2) (hb : ∀ p ∈ b, 0 ≤ p.2) (h : ∀ f, choose f a = choose f b) : oneForm a = oneForm b :=
  uniq _ _ (norm_form ha) (norm_form hb) fun f => by rw [choose_form, choose_form, h]
theorem choose_app (f : Str → Int) : ∀ (a b : List Pk), choose f (a ++ b) = (choose f a).or (choose f b)
  | [], b => rfl
  | p :: r, b => by
    show (if p.2 < f p.1 then some p.1 else choose f (r ++ b)) = (if p.2 < f p.1 then some p.1 else choose f r).or (choose f b)
    by_cases c : p.2 < f p.1
    · rw [if_pos c, if_pos c]
      rfl
    · rw [if_neg c, if_neg c]
      exact choose_app f r b

def leS (x y : Str) : Prop := ¬ y.cps.toList < x.cps.toList
theorem leS_trans {x y z : Str} (h1 : leS x y) (h2 : leS y z) : leS x z := List.le_trans (α := Nat) (l₁ := x.cps.toList) (l₂ := y.cps.toList) (l₃ := z.cps.toList) h1 h2
theorem leS_anti {x y : Str} (h1 : leS x y) (h2 : leS y x) : x = y := by
  have e : x.cps.toList = y.cps.toList := List.le_antisymm (α := Nat) h1 h2
  cases x
  cases y
  congr 1
  exact Array.toList_inj.mp e
theorem rising_pw : ∀ (p : Str) (l : List Str), risingS p l = true → (p :: l).Pairwise leS
  | p, [], _ => List.pairwise_singleton _ _
  | p, x :: r, h => by
    obtain ⟨h1, h2⟩ := Bool.and_eq_true_iff.mp (show (!ltCps x.cps.toList p.cps.toList && risingS x r) = true from h)
    have ih := rising_pw x r h2
    have hx : leS p x := by
      rw [ltCps_eq] at h1
      unfold leS
      intro c
      rw [decide_eq_true c] at h1
      cases h1
    refine List.pairwise_cons.mpr ⟨fun y hy => ?_, ih⟩
    rcases List.mem_cons.mp hy with rfl | hy
    · exact hx
    · exact leS_trans hx ((List.pairwise_cons.mp ih).1 y hy)
theorem sorted_pw : ∀ l : List Str, sortedS l = true → l.Pairwise leS
  | [], _ => List.Pairwise.nil
  | x :: r, h => rising_pw x r h
theorem asc_aux : ∀ xs ys : List Str, xs.Pairwise leS → ys.Pairwise leS → xs.Nodup → ys.Nodup → (∀ z, z ∈ xs ↔ z ∈ ys) → xs = ys
  | [], [], _, _, _, _, _ => rfl
  | [], y :: t, _, _, _, _, hm => by have := (hm y).mpr List.mem_cons_self; cases this
  | x :: r, [], _, _, _, _, hm => by have := (hm x).mp List.mem_cons_self; cases this
  | x :: r, y :: t, h1, h2, n1, n2, hm => by
    obtain ⟨a1, a2⟩ := List.pairwise_cons.mp h1
    obtain ⟨b1, b2⟩ := List.pairwise_cons.mp h2
    obtain ⟨c1, c2⟩ := List.nodup_cons.mp n1
    obtain ⟨d1, d2⟩ := List.nodup_cons.mp n2
    have e : x = y := by
      rcases List.mem_cons.mp ((hm x).mp List.mem_cons_self) with e | hx
      · exact e
      · rcases List.mem_cons.mp ((hm y).mpr List.mem_cons_self) with e | hy
        · exact e.symm
        · exact leS_anti (a1 y hy) (b1 x hx)
    subst e
    rw [asc_aux r t a2 b2 c2 d2 fun z => ⟨fun hz => ?_, fun hz => ?_⟩]
    · rcases List.mem_cons.mp ((hm z).mp (List.mem_cons_of_mem _ hz)) with e | h
      · exact (c1 (e ▸ hz)).elim
      · exact h
    · rcases List.mem_cons.mp ((hm z).mpr (List.mem_cons_of_mem _ hz)) with e | h
      · exact (d1 (e ▸ hz)).elim
      · exact h
/-- two ascending lists without doubles of the same members are equal -/
theorem asc_eq {xs ys : List Str} (h1 : sortedS xs = true) (h2 : sortedS ys = true) (n1 : xs.Nodup) (n2 : ys.Nodup) (hm : ∀ z, z ∈ xs ↔ z ∈ ys) : xs = ys := asc_aux xs ys (sorted_pw xs h1) (sorted_pw ys h2) n1 n2 hm
end K10
end
section
/-! Own: quotas as trees; what they let; nothing of the heap. -/
namespace K10
open PySem PySem.Spec PyProof.Rows L2
inductive QT where
  | cap (m : Int) (ks : List Str)
  | both (a b : QT)
  | either (a b : QT)
def QT.caps : QT → List (Int × List Str)
  | .cap m ks => [(m, ks)]
  | .both a b => a.caps ++ b.caps
  | .either a b => a.caps ++ b.caps
def QT.joints : QT → List Str
  | .cap _ _ => ["cap"]
  | .both a b => a.joints ++ b.joints ++ [("both" : Str)]
  | .either a b => a.joints ++ b.joints ++ [("either" : Str)]
/-- what a quota says where its caps say f -/
def QT.say (f : Int × List Str → Bool) : QT → Bool
  | .cap m ks => f (m, ks)
  | .both a b => a.say f && b.say f
  | .either a b => a.say f || b.say f
/-- the joints worked off: the answers held, the next mark -/
def runJ (marks : List Bool) : List Str → List Bool → Nat → Option (List Bool)
  | [], held, _ => some held
  | j :: r, held, at_ => if j = "cap" then
      match marks[at_]? with
      | some b => runJ marks r (held ++ [b]) (at_ + 1)
      | none => none
    else match held.reverse with
      | y :: x :: rest => runJ marks r (rest.reverse ++ [if j = "both" then x && y else x || y]) at_
      | _ => none
theorem runJ_cap {marks : List Bool} {r : List Str} {held : List Bool} {n : Nat} {b : Bool} (h : marks[n]? = some b) : runJ marks (("cap" : Str) :: r) held n = runJ marks r (held ++ [b]) (n + 1) := by
  rw [runJ, if_pos rfl, h]
theorem runJ_join {marks : List Bool} {r : List Str} {held : List Bool} {n : Nat} {x y : Bool} {j : Str} (nj : j ≠ "cap") : runJ marks (j :: r) (held ++ [x] ++ [y]) n = runJ marks r (held ++ [if j = "both" then x && y else x || y]) n := by
  rw [runJ, if_neg nj]
  simp
theorem ne_caps : ("both" : Str) ≠ "cap" ∧ ("either" : Str) ≠ "cap" ∧ ("either" : Str) ≠ "both" := by decide +kernel
/-- a tree's joints leave its answer -/
theorem run_tree (f : Int × List Str → Bool) : ∀ (t : QT) (pre post : List (Int × List Str)) (r : List Str) (held : List Bool), runJ ((pre ++ t.caps ++ post).map f) (t.joints ++ r) held pre.length = runJ ((pre ++ t.caps ++ post).map f) r (held ++ [t.say f]) (pre.length + t.caps.length)
  | .cap m ks, pre, post, r, held => by
    show runJ ((pre ++ [(m, ks)] ++ post).map f) (("cap" : Str) :: r) held pre.length = runJ ((pre ++ [(m, ks)] ++ post).map f) r (held ++ [f (m, ks)]) (pre.length + 1)
    rw [runJ_cap (b := f (m, ks))]
    rw [List.getElem?_map, List.append_assoc, List.getElem?_append_right (Nat.le_refl _), Nat.sub_self]
    rfl
  | .both a b, pre, post, r, held => by
    have e1 : pre ++ (QT.both a b).caps ++ post = pre ++ a.caps ++ (b.caps ++ post) := by simp [QT.caps]
    have e2 : pre ++ (QT.both a b).caps ++ post = (pre ++ a.caps) ++ b.caps ++ post := by simp [QT.caps]
    show runJ _ (a.joints ++ b.joints ++ [("both" : Str)] ++ r) held pre.length = _
    have e3 : a.joints ++ b.joints ++ [("both" : Str)] ++ r = a.joints ++ (b.joints ++ (("both" : Str) :: r)) := by simp
    rw [e3, e1, run_tree f a pre (b.caps ++ post), ← e1, e2]
    have e4 : pre.length + a.caps.length = (pre ++ a.caps).length := by rw [List.length_append]
    rw [e4, run_tree f b (pre ++ a.caps) post, runJ_join ne_caps.1, if_pos rfl]
    have e5 : (pre ++ a.caps).length + b.caps.length = pre.length + (QT.both a b).caps.length := by simp [QT.caps, Nat.add_assoc]
    rw [e5]
    rfl
  | .either a b, pre, post, r, held => by
    have e1 : pre ++ (QT.either a b).caps ++ post = pre ++ a.caps ++ (b.caps ++ post) := by simp [QT.caps]
    have e2 : pre ++ (QT.either a b).caps ++ post = (pre ++ a.caps) ++ b.caps ++ post := by simp [QT.caps]
    show runJ _ (a.joints ++ b.joints ++ [("either" : Str)] ++ r) held pre.length = _
    have e3 : a.joints ++ b.joints ++ [("either" : Str)] ++ r = a.joints ++ (b.joints ++ (("either" : Str) :: r)) := by simp
    rw [e3, e1, run_tree f a pre (b.caps ++ post), ← e1, e2]
    have e4 : pre.length + a.caps.length = (pre ++ a.caps).length := by rw [List.length_append]
    rw [e4, run_tree f b (pre ++ a.caps) post, runJ_join ne_caps.2.1, if_neg ne_caps.2.2]
    have e5 : (pre ++ a.caps).length + b.caps.length = pre.length + (QT.either a b).caps.length := by simp [QT.caps, Nat.add_assoc]
    rw [e5]
    rfl
theorem run_all (f : Int × List Str → Bool) (t : QT) : runJ (t.caps.map f) t.joints [] 0 = some [t.say f] := by
  have h := run_tree f t [] [] [] []
  simp only [List.nil_append, List.append_nil, List.length_nil, Nat.zero_add] at h
  rw [h]
  rfl
/-! ### what a quota lets -/
/-- the things of some kinds together -/
def sumOf (N : Str → Option Int) (ks : List Str) : Int := (ks.map fun z => (N z).getD 0).sum
def QT.lets (N : Str → Option Int) (t : QT) : Bool := t.say fun c => decide (sumOf N c.2 ≤ c.1)
/-- it bounds a kind just if it does not let endlessly many -/
def QT.bounds (z : Str) (t : QT) : Bool := !t.say fun c => !decide (z ∈ c.2)
def QT.kinds (t : QT) : List Str := t.caps.flatMap (·.2)
/-! ### texts -/
def capWords (m : Int) (ks : List Str) : List Str := ([("cap" : Str), (toString m : Str), (toString (ks.length : Int) : Str)] : List Str) ++ ks
def QT.text : QT → Str
  | .cap m ks => Txt.join " " (capWords m ks)
  | .both a b => "both " ++ a.text ++ " " ++ b.text
  | .either a b => "either " ++ a.text ++ " " ++ b.text
/-! ### a cap's text tells its most and its kinds -/
theorem sp_tl : TL.tl (" " : Str) = [32] := by decide +kernel
theorem join_tl (xs : List Str) : TL.tl (Txt.join " " xs) = TL.joinL [32] (xs.map TL.tl) := by
  rw [TL.join_eq, TL.tl_join, sp_tl]
theorem join_inj {xs ys : List Str} (nx : xs ≠ []) (ny : ys ≠ []) (hx : ∀ x ∈ xs, 32 ∉ TL.tl x) (hy : ∀ y ∈ ys, 32 ∉ TL.tl y) (h : Txt.join " " xs = Txt.join " " ys) : xs = ys := by
  have e : TL.joinL [32] (xs.map TL.tl) = TL.joinL [32] (ys.map TL.tl) := by rw [← join_tl, ← join_tl, h]
  have sx := TL.spl_join (s := 32) (S := []) (parts := xs.map TL.tl) (fun q => nx (List.map_eq_nil_iff.mp q)) fun p hp => by
    obtain ⟨x, m, rfl⟩ := List.mem_map.mp hp
    exact hx x m
  have sy := TL.spl_join (s := 32) (S := []) (parts := ys.map TL.tl) (fun q => ny (List.map_eq_nil_iff.mp q)) fun p hp => by
    obtain ⟨y, m, rfl⟩ := List.mem_map.mp hp
    exact hy y m
  rw [e, sy] at sx
  exact (TL.map_tl_inj sx).symm
theorem name_sp {z : Str} (h : nameB z = true) : 32 ∉ TL.tl z := fun m => by
  unfold nameB at h
  obtain ⟨_, h⟩ := Bool.and_eq_true_iff.mp h
  have := List.all_eq_true.mp h 32 m
  revert this
  decide
theorem most_sp : ∀ m : Fin 13, 32 ∉ TL.tl (toString ((m.val : Nat) : Int) : Str) := by decide +kernel
theorem most_inj : ∀ m k : Fin 13, (toString ((m.val : Nat) : Int) : Str) = (toString ((k.val : Nat) : Int) : Str) → m = k := by decide +kernel
theorem cap_sp : 32 ∉ TL.tl ("cap" : Str) := by decide +kernel
theorem cap_words {m : Int} {ks : List Str} (m0 : 0 ≤ m) (m1 : m ≤ 12) (l : ks.length ≤ 12) (g : ∀ z ∈ ks, nameB z = true) : ∀ x ∈ capWords m ks, 32 ∉ TL.tl x := fun x hx => by
  rcases List.mem_append.mp hx with h | h
  · simp only [List.mem_cons, List.not_mem_nil, or_false] at h
    rcases h with rfl | rfl | rfl
    · exact cap_sp
    · have := most_sp ⟨m.toNat, by omega⟩
      rw [show (((⟨m.toNat, by omega⟩ : Fin 13).val : Nat) : Int) = m from Int.toNat_of_nonneg m0] at this
      exact this
    · exact most_sp ⟨ks.length, by omega⟩
  · exact name_sp (g x h)
theorem cap_inj {m k : Int} {ks ls : List Str} (m0 : 0 ≤ m) (m1 : m ≤ 12) (k0 : 0 ≤ k) (k1 : k ≤ 12) (l : ks.length ≤ 12) (l2 : ls.length ≤ 12) (g : ∀ z ∈ ks, nameB z = true) (g2 : ∀ z ∈ ls, nameB z = true) (h : (QT.cap m ks).text = (QT.cap k ls).text) : m = k ∧ ks = ls := by
  have e := join_inj (by simp [capWords]) (by simp [capWords]) (cap_words m0 m1 l g) (cap_words k0 k1 l2 g2) h
  unfold capWords at e
  have e2 := List.cons.inj e
  have e3 := List.cons.inj e2.2
  have e4 := List.cons.inj e3.2
  refine ⟨?_, e4.2⟩
  have q := most_inj ⟨m.toNat, by omega⟩ ⟨k.toNat, by omega⟩ (by
    show (toString ((m.toNat : Nat) : Int) : Str) = (toString ((k.toNat : Nat) : Int) : Str)
    rw [Int.toNat_of_nonneg m0, Int.toNat_of_nonneg k0]
    exact e3.1)
  have := Fin.mk.inj q
  omega
end K10
end
section
/-! Own: an error that a name holds behind its except clause. -/
namespace OwE
open PySem PySem.Spec PyProof.Rows L2
/-- the error at a, of the class cls, its dict at d -/
def keptE (a : Addr) (cls : Value) (d : Option Addr) : HO := .ext fun h => ∃ oe vs, h.get? a = some oe ∧ Zc cls d oe ∧ oe.data = .fields vs
theorem keptE_ok {P : Program} {w : World} {H : Hp} {h : Heap} {a : Addr} {cls : Value} {d : Option Addr} {oe : Obj} {vs : Array Value} (e : h.get? a = some oe) (z : Zc cls d oe) (f : oe.data = .fields vs) : ObjOk P w H h a (keptE a cls d) :=
  show (∃ o v, h.get? a = some o ∧ Zc cls d o ∧ o.data = .fields v) ∧ (∃ o, h.get? a = some o) ∧ ∀ h1 h2 : Heap, (∃ o v, h1.get? a = some o ∧ Zc cls d o ∧ o.data = .fields v) → (∀ o, h1.get? a = some o → h2.get? a = some o) → ∃ o v, h2.get? a = some o ∧ Zc cls d o ∧ o.data = .fields v from
  ⟨⟨oe, vs, e, z, f⟩, ⟨oe, e⟩, fun _ _ ⟨o, v, q, r⟩ k => ⟨o, v, k _ q, r⟩⟩
theorem keptE_at {P : Program} {w : World} {H : Hp} {h : Heap} {a : Addr} {cls : Value} {d : Option Addr} (ok : HOk P w H h) (e : H a = some (keptE a cls d)) : ∃ oe vs, h.get? a = some oe ∧ Zc cls d oe ∧ oe.data = .fields vs := by
  have x : ObjOk P w H h a (keptE a cls d) := ok a _ e
  exact x.1
section
variable {X : Cx} {pins : List (Addr × Obj)} {σ : L2.St} {H : Hp} {s : Shared}
/-- an error that stands on the heap is told of from here on -/
theorem keep_it {a : Addr} {cls : Value} {d : Option Addr} {oe : Obj} {vs : Array Value} (I : Inv X ((a, oe) :: pins) σ H s) (z : Zc cls d oe) (f : oe.data = .fields vs) (n0 : X.s_0.heap.get? a = none) (np : ∀ p ∈ X.pn ++ pins, p.1 ≠ a) : Inv X pins σ (upd H a (keptE a cls d)) s := by
  obtain ⟨ea, na, nl, nf, _⟩ := I.pin (a, oe) (List.mem_append_right _ List.mem_cons_self)
  have off : ∀ {b : Addr} {o : HO}, H b = some o → b ≠ a := fun {b o} e q => by
    rw [q, na] at e
    cases e
  have B := I.base
  have U : Un X.fs X.ex X.H_0 (upd H a (keptE a cls d)) X.s_0.heap s.heap := {
    keep := B.keep
    slot := B.slot
    free := fun b o e n x => by
      have nb : b ≠ a := fun q => by
        rw [q, n0] at e
        cases e
      rw [upd_ne nb]
      exact B.free b o e n x
    there := B.there
    tups := fun b xs e => by
      have q := B.tups b xs e
      rw [upd_ne (off q)]
      exact q
    frzs := fun b o u e => by
      have q := B.frzs b o u e
      rw [upd_ne (off q)]
      exact q
    tbls := fun b ps e => by
      obtain ⟨m, q⟩ := B.tbls b ps e
      exact ⟨m, by rw [upd_ne (off q)]; exact q⟩ }
  refine { ok := I.ok, os := I.os, bare := I.bare, base := U, loc := I.loc, cell := I.cell, free := ?_, freeC := fun x c e => ?_, pin := fun p m => ?_, hok := I.hok.laidN (fun _ _ q => q) na (keptE_ok ea z f), len := I.len }
  · rw [upd_ne (Ne.symm nl)]
    exact I.free
  · have nc : c ≠ a := fun q => by
      obtain ⟨v, o, eo, dv⟩ := I.cell x c e
      rw [q, ea] at eo
      cases eo
      rw [f] at dv
      cases dv
    rw [upd_ne nc]
    exact I.freeC x c e
  · have m2 : p ∈ X.pn ++ (a, oe) :: pins := by
      rcases List.mem_append.mp m with q | q
      · exact List.mem_append_left _ q
      · exact List.mem_append_right _ (List.mem_cons_of_mem _ q)
    obtain ⟨q1, q2, q3⟩ := I.pin p m2
    exact ⟨q1, by rw [upd_ne (np p m)]; exact q2, q3⟩
/-- behind a suite the error stands yet -/
theorem behind {a : Addr} {oe : Obj} (I : Inv (X.suite a ((a, oe) :: (X.pn ++ pins))) [] σ H s) (ok : X.Ok) : Inv X ((a, oe) :: pins) σ H s :=
  { ok := ok, os := I.os, bare := I.bare, base := I.base, loc := I.loc, cell := I.cell, free := I.free, freeC := I.freeC, hok := I.hok, len := I.len
    pin := fun p m => I.pin p (by
      rw [List.append_nil]
      rcases List.mem_append.mp m with q | q
      · exact List.mem_cons_of_mem _ (List.mem_append_left _ q)
      · rcases List.mem_cons.mp q with q | q
        · rw [q]
          exact List.mem_cons_self
        · exact List.mem_cons_of_mem _ (List.mem_append_right _ q)) }
end
/-- what 'except x as n' wishes, where the error is kept behind it -/
def wKeep (K : PySem.W.Frag) (c : Value) (i : Nat) (ts : Addr → Value → Option Addr → TS) (D : Ends) : WX := fun cls d σ H =>
  PySem.W.exmOne K cls c = some true ∧ ∀ a, H a = none → ts a cls d { nx := fun σ' H' => D.nx (σ'.set i none) (upd H' a (keptE a cls d)), rt := fun _ _ => False, bk := fun _ _ => False, ct := fun _ _ => False } (σ.set i (some (.ref a))) H
section
variable {X : Cx} {x n : Str} {c : Value} {i : Nat} {body suite : List Stmt} {b₀ : Stmt} {np pos pos' : Pos} {tb : WX → TS} {ts : Addr → Value → Option Addr → TS}
theorem ps_try_keep (hs : X.stack = X.env :: X.outer) (hf : X.env.frame = some X.env.locals) (hex : X.ex = []) (hN : X.N.Nodup) (hi : X.N[i]? = some n) (hln : X.env.kindOf n = some .local) (hc : Names X x c)
    (hb : ∀ (W : WX) (pn : List (Addr × Obj)) (xe : Value → Shared → Prop), Takes (X.tr pn xe) W → PSs (X.tr pn xe) body (tb W))
    (hsu : ∀ (a : Addr) (oe : Obj) (cls : Value) (d : Option Addr) (pn : List (Addr × Obj)), Zc cls d oe → (∃ vs, oe.data = .fields vs) → PSs (X.suite a ((a, oe) :: pn)) (b₀ :: suite) (ts a cls d)) :
    PS X (.Try body [.ExceptHandler (some (.Name x np)) (some n) (b₀ :: suite) pos'] [] [] pos) (fun D σ H => tb (wKeep X.K c i ts D) D σ H) := by
  refine ⟨fun pins s σ H D I h => wpAny_Try_except ?_⟩
  have ok := I.ok
  have heard : Takes (X.tr (X.pn ++ pins) fun e s1 => wpAny (model X.prog X.w) X.A (noteFrame e X.env) (fun _ s2 => wpAny (model X.prog X.w) X.A (setFlight e none) (fun _ s3 => wpAny (model X.prog X.w) X.A (handleBy e X.env [.ExceptHandler (some (.Name x np)) (some n) (b₀ :: suite) pos']) (SP X pins D) X.xe s3) X.xe s2) X.xe s1) (wKeep X.K c i ts D) := by
    rintro u s1 ⟨a, B, sI, _, σ1, H1, cls, d, rfl, J, seen, up, sky, na, os, bare, hx, wish⟩
    have J := J.ofTry ok
    rw [show (X.tr (X.pn ++ pins) _).stack = X.env :: X.outer from hs] at sky
    -- the error is no frame, it stands in nothing that was there before
    refine Sky.land Zc.steady (by rw [ok.frames, hs]) hf sky fun h2 fly up2 => wpAny_handleBy_cons (codeAny_handlers_test ?_) (by intro q; cases q)
    obtain ⟨ob, vb, eb, zb, db⟩ := fly.there
    have isFr : ∀ {b : Addr}, b ∈ frs (X.env :: X.outer) → b ≠ a := fun {b} m q => by
      obtain ⟨_, o, e, k⟩ := fly.2.2.1.mem m
      rw [q, eb] at e
      cases e
      exact k _ db
    have out : ∀ {b : Addr}, b = X.env.locals ∨ b ∈ X.fs → b ∈ frs (X.env :: X.outer) := fun {b} m => by
      rcases m with q | q
      · exact List.mem_filterMap.mpr ⟨X.env, List.mem_cons_self, by rw [hf, q]⟩
      · obtain ⟨e, me, q⟩ := List.mem_filterMap.mp q
        exact List.mem_filterMap.mpr ⟨e, List.mem_cons_of_mem _ me, q⟩
    have nl : a ≠ X.env.locals := fun q => isFr (out (.inl rfl)) q.symm
    have nf : a ∉ X.fs := fun q => isFr (out (.inr q)) rfl
    have aB : B.get? a = none := fly.2.1
    have old : ∀ {b : Addr} {o : Obj}, sI.heap.get? b = some o → b ≠ a := fun {b o} e q => by
      have nb : b ∉ frs X.stack := fun m => isFr (by rw [← hs]; exact m) q
      have e2 := seen b o e nb
      rw [q, aB] at e2
      cases e2
    have n0 : X.s_0.heap.get? a = none := by
      cases q : X.s_0.heap.get? a with
      | none => rfl
      | some o =>
        obtain ⟨o2, e2⟩ := J.base.there a o q (by rw [hex]; exact fun m => nomatch m)
        exact absurd rfl (old e2)
    have first : ∀ {h : Heap} {o : Obj} {vs : Array Value}, s1.heap.UpToSlots h → B.StaysIn h → h.get? a = some o → o.data = .fields vs → Inv (X.suite a ((a, o) :: (X.pn ++ pins))) [] σ1 H1 { s1 with heap := h } := fun {h o vs} u st e dv => (J.landed (s' := { s1 with heap := h }) seen st (up.trans u) os bare).suite e dv na nl nf
    -- the clause's class is asked
    have I2 := first up2 fly.1 eb db
    have kind : PySem.W.Looks (model X.prog X.w) h2 (typeOf (.ref a)) cls := fun A Q E s k q => wpAny_typeOf_ref (k _ _ eb) (by rw [zb.1]; exact q)
    have isOne := PySem.W.exm_one (M := model X.prog X.w) I2.kIn kind hx
    have named : ∀ {Q : Value → Shared → Prop} {E : Value → Shared → Prop}, Q c { s1 with heap := h2 } → wpAny (model X.prog X.w) (X.A.mark (some (.ref a))) (eval (.Name x np) X.env) Q E { s1 with heap := h2 } := fun {Q E} q => by
      rcases hc with ⟨g, nd, m | ⟨m, v, nn⟩⟩
      · exact ld_glob (X := X.suite a ((a, ob) :: (X.pn ++ pins))) I2 g m q nd
      · exact ld_blt (X := X.suite a ((a, ob) :: (X.pn ++ pins))) I2 g m v q nn nd
    refine named (isOne.here (codeAny_handlers_suite_as (HandSPX.lands_againZ fly fun h3 fly3 up3 => ?_)))
    obtain ⟨oc, vc, ec, zc, dc⟩ := fly3.there
    -- the name, the suite
    refine store_ok (X := X.suite a ((a, oc) :: (X.pn ++ pins))) (v := .ref a) (first (up2.trans up3) fly3.1 ec dc) hN hi (.inl hln) rfl (fun s4 I4 => wpAny_mono ((hsu a oc cls d (X.pn ++ pins) zc ⟨_, dc⟩).run [] s4 _ H1 _ I4 (wish a na)) ?_ fun _ _ z => z.elim) (.inr hln)
    rintro fl s5 q5
    cases fl with
    | next =>
      obtain ⟨σ5, H5, I5, q⟩ := q5
      refine gone_ok (behind I5 ok) hN hi hln fun s6 I6 => ⟨_, _, keep_it I6 zc dc n0 fun p m => old (J.pin p m).1, q⟩
    | brk =>
      obtain ⟨_, _, _, q⟩ := q5
      exact q.elim
    | cont =>
      obtain ⟨_, _, _, q⟩ := q5
      exact q.elim
    | ret v =>
      obtain ⟨_, _, _, _, _, q⟩ := q5
      exact q.elim
  refine wpAny_mono ((hb (wKeep X.K c i ts D) (X.pn ++ pins) _ heard).run [] s σ H D (I.toTry _) h) (fun fl s1 q => ?_) fun _ _ z => z
  cases fl with
  | next =>
    obtain ⟨σ1, H1, J, q⟩ := q
    exact wpAny_execs_nil ⟨σ1, H1, J.ofTry ok, q⟩
  | brk =>
    obtain ⟨σ1, H1, J, q⟩ := q
    exact ⟨σ1, H1, J.ofTry ok, q⟩
  | cont =>
    obtain ⟨σ1, H1, J, q⟩ := q
    exact ⟨σ1, H1, J.ofTry ok, q⟩
  | ret v =>
    obtain ⟨v, σ1, H1, J, r, q⟩ := q
    exact ⟨v, σ1, H1, J.ofTry ok, r, q⟩
end
/-- isinstance of an error that is kept -/
def rIsK (K : PySem.W.Frag) : List V → Hp → VK → Prop := fun xs H Q => ∃ (a : Addr) (c : V) (u : Value) (C dd : Addr) (fs : List (Str × V)) (b : Bool), xs = [.ref a, c] ∧ ClsV c u ∧ ErrC K C ∧ H a = some (keptE a (.ref C) (some dd)) ∧ H dd = some (.xd fs) ∧
  PySem.W.kitOne K (.ref C) u = some b ∧ Q (.bl b) H
theorem call_isK {X : Cx} : CallR X (.builtin "isinstance") (rIsK X.K) := by
  intro pins s σ H xs us Q I r h
  obtain ⟨a, c, cv, C, dd, fs, b, rfl, hcv, T, ea, ed, e, q⟩ := h
  obtain ⟨u1, u2, rfl, r1, r2⟩ := vals2 r
  cases (show u1 = Value.ref a from r1)
  have e2 := hcv.eq r2
  subst e2
  obtain ⟨oe, vs, hget, hz, hv⟩ := keptE_at I.hok ea
  obtain ⟨mA, hns, hr⟩ := (show ObjOk X.prog X.w H s.heap dd (.xd fs) from I.hok dd _ ed)
  obtain ⟨od, ho, hl⟩ := lookIn_ns hns
  have J : PySem.W.InstAt s.heap a oe C (some od) := ⟨hget, hz.1, by unfold PySem.W.notCls; rw [hv] <;> rfl, by rw [hz.2]; exact ho⟩
  exact PySem.W.kia_one (PySem.W.kitx_exc (OexC.cl T.ox) T.xf.ga T.xf.gg T.xf.exC T.ha T.hn T.ht T.hm) I.kIn J e (fun z => nomatch z) fun tk => ⟨.bl b, H, I.tok tk, rfl, q⟩
/-- err.f of an error that is kept -/
def tKf (K : PySem.W.Frag) (f : Str) (te : TE) : TE := fun σ H Q => te σ H fun x H1 => ∃ (a C dd : Addr) (fs : List (Str × V)) (v : V), x = .ref a ∧ ErrC K C ∧ PySem.W.findIn K (.ref C) f = some none ∧ H1 a = some (keptE a (.ref C) (some dd)) ∧ H1 dd = some (.xd fs) ∧ fs.lookup f = some v ∧ Q v H1
theorem pe_kf {X : Cx} {e : Expr} {te : TE} {pos : Pos} {n : Str} (he : PE X e te) (hb : attributeBase e n X.env (eval e X.env) = eval e X.env := by rfl) : PE X (.Attribute e n pos) (tKf X.K n te) := by
  refine ⟨fun pins s σ H Q I h => ?_⟩
  refine attr_of hb (thn (he.run pins s σ H _ I h) fun u s1 hh => ?_)
  obtain ⟨x, H1, I1, rx, a, C, dd, fs, v, rfl, T, hno, ea, ed, l, q⟩ := hh
  obtain rfl : u = Value.ref a := rx
  obtain ⟨oe, vs, ha, hz, hd⟩ := keptE_at I1.hok ea
  obtain ⟨mA, hns, hr⟩ := (show ObjOk X.prog X.w H1 s1.heap dd (.xd fs) from I1.hok dd _ ed)
  obtain ⟨od, ho, hl⟩ := lookIn_ns hns
  obtain ⟨u, hu, ru⟩ := RelO.some_of (v := v) (o := mA n) (by rw [← l]; exact hr n)
  have J : PySem.W.InstAt s1.heap a oe C (some od) := ⟨ha, hz.1, by unfold PySem.W.notCls; rw [hd] <;> rfl, by rw [hz.2]; exact ho⟩
  exact HandSPX.exc_get I1.kIn J T.xf.ga T.xf.gg T.xf.exC (PySem.W.findObj_own T.xf.hdC hno rfl (by rw [hl, hu])) (handed_of ru) ⟨v, H1, I1.tok _, ru, q⟩
/-! ### an error class with two fields -/
def spErr2 (K : PySem.W.Frag) (f g : Str) : Sp := fun vs H Q _ => ∃ (a C : Addr) (v u : V), vs = [.ref a, v, u] ∧ OexC K C ∧ PySem.W.findIn K (.ref C) f = some none ∧ PySem.W.findIn K (.ref C) g = some none ∧ H a = some (exo a C none) ∧
  ∀ dx, H dx = none → dx ≠ a → Q .non (upd (upd H dx (exd dx [(g, u), (f, v)])) a (exo a C (some dx)))
theorem mk_err2 {K : PySem.W.Frag} {C : Addr} {f g : Str} {v u : V} {H : Hp} {E : XK} (T : OexC K C) (hf : PySem.W.findIn K (.ref C) f = some none) (hg : PySem.W.findIn K (.ref C) g = some none) (k : ∀ d, H d = none → E (.ref C) (some d) (upd H d (.xd [(g, u), (f, v)]))) :
    ([v, u] : List V).length ≤ 1000 ∧ ∀ a, H a = none → spErr2 K f g (.ref a :: ([v, u] ++ [])) (upd H a (exo a C none)) (fun v H2 => v = .non ∧ ∃ (d : Addr) (fs : List (Str × V)), H2 a = some (exo a C (some d)) ∧ H2 d = some (exd d fs) ∧ H d = none ∧ E (.ref C) (some d) (upd (del H2 a) d (.xd fs))) (fun _ _ _ => False) := by
  refine ⟨by show (2 : Nat) ≤ 1000; decide, fun a ha => ⟨a, C, v, u, rfl, T, hf, hg, upd_same, fun dx hd ne => ⟨rfl, dx, [(g, u), (f, v)], upd_same, by rw [upd_ne ne, upd_same], ?_, ?_⟩⟩⟩
  · rw [upd_ne ne] at hd
    exact hd
  · rw [err_heap ne ha]
    rw [upd_ne ne] at hd
    exact k dx hd
end OwE
end
section
namespace K10
open PySem PySem.Spec PyProof.Rows L2
def top (i : Nat) : Stmt := PySem.Challenge.pw_nextkind_k20_quotas_written_and_read.main.body.getD i (.Pass ⟨0, 0, 0, 0⟩)
def mth (c j : Nat) : Stmt := match top c with
  | .ClassDef _ _ _ body _ _ _ _ _ _ _ => body.getD j (.Pass ⟨0, 0, 0, 0⟩)
  | _ => .Pass ⟨0, 0, 0, 0⟩
abbrev sPen : Stmt := top 31
abbrev sDraw : Stmt := top 32
abbrev sPick : Stmt := top 33
section
variable {P : Program} {w : World} {K : PySem.W.Frag} {mg : Str → Option Value} {base : Heap}
theorem scD : FnScope ["_law_pen_here", "_law_many", "_law_digit", "_law_begun", "_law_cell", "_law_great", "_law_mixed"] ["_law_pen_here", "_law_many"] (defScope sDraw) := ⟨rfl, rfl, rfl, by decide +kernel, rfl, by decide +kernel, by decide +kernel⟩
theorem ok_draw {f : Addr} {fd : FuncData} (F : Fun K "_law_draw" "_law_draw" sDraw f fd) (T : Nm mg) : FnOk P w K mg base CX0 1 f fd ["_law_pen_here", "_law_many"] spDraw := by
  refine F.ok scD (fun vs H Q E h => ?_) (fun cdv A outer s H vs Q E hr h => ?_)
  · obtain ⟨p, c, ns, n, z, m, rfl, _⟩ := h
    rfl
  · obtain ⟨p, c, ns, n, z, m, rfl, D, hn, hm, hb, k⟩ := h
    have hu := hu_of hr
    obtain ⟨h1, h2, hl, h0⟩ := id D
    refine ⟨_, (pss_cons (ps_if (pt_cmpR op_gt (pe_ix ix_list (pv 0) pe_int (fun _ _ => rfl)) pe_int (nomark _)) (pss_cons (ps_set (i := 2) scD.nd rfl (Or.inl rfl) (pe_op op_mod (pe_callTy call_int1 (by rfl) T.n_int (by decide +kernel) (pa_cons (pe_ix ix_list (pv 0) pe_int (fun _ _ => rfl)) pa_nil)) (pv 1)))
    (pss_cons (ps_asg (pe_op op_fdivW (pe_callTy call_int1 (by rfl) T.n_int (by decide +kernel) (pa_cons (pe_ix ix_list (pv 0) pe_int (fun _ _ => rfl)) pa_nil)) (pv 1)) (pg_sub (pv 0) pe_int set_list))
    (pss_one (ps_ret (pv 2))))) pss_nil)
    (pss_cons (ps_set (i := 3) scD.nd rfl (Or.inl rfl) (pe_ix ix_list (pv 0) pe_int (fun _ _ => rfl)))
    (pss_cons (ps_asg (pe_op op_add (pv 3) pe_int) (pg_sub (pv 0) pe_int set_list))
    (pss_cons (ps_set (i := 4) scD.nd rfl (Or.inl rfl) (pe_op op_add (pe_op op_mul pe_int (pv 3)) pe_int))
    (C8.pss_cut (ps_if (pt_cmpR (op_neD hr.units) (pe_ix ix_list (pv 0) pe_int (fun _ _ => rfl)) (pe_lst pa_nil) (nomark _)) (pss_one (ps_set (i := 4) scD.nd rfl (Or.inl rfl) (pe_ix ix_list (pe_ix ix_list (pv 0) pe_int (fun _ _ => rfl)) (pe_op op_mod (pe_callTy call_int1 (by rfl) T.n_int (by decide +kernel) (pa_cons (pv 3) pa_nil)) (pe_callB call_len_seq (by rfl) T.n_len boot_len (pa_cons (pe_ix ix_list (pv 0) pe_int (fun _ _ => rfl)) pa_nil))) (fun _ _ => rfl)))) pss_nil)
    (C8.pss_cut (ps_if (PW.pt (pw_and (pt_cmpR op_lt (pv 3) (pe_callB call_len_seq (by rfl) T.n_len boot_len (pa_cons (pe_ix ix_list (pv 0) pe_int (fun _ _ => rfl)) pa_nil)) (nomark _)) (pw_and1 (pt_cmpR op_ge (pe_callB call_abs (by rfl) T.n_abs (by decide +kernel) (pa_cons (pv 4) pa_nil)) (pe_op op_pow pe_int pe_int) (nomark _))))) (pss_cons (ps_set (i := 5) scD.nd rfl (Or.inl rfl) (pe_op op_add (pe_op op_mul pe_int (pe_op op_sub (pe_callB call_abs (by rfl) T.n_abs (by decide +kernel) (pa_cons (pv 4) pa_nil)) (pe_op op_pow pe_int pe_int))) (pe_callTy call_int1 (by rfl) T.n_int (by decide +kernel) (pa_cons (pe_cmpR op_lt (pv 4) pe_int (nomark _)) pa_nil))))
    (pss_cons (ps_asg (pe_op op_fdivW (pe_callTy call_int1 (by rfl) T.n_int (by decide +kernel) (pa_cons (pv 5) pa_nil)) (pv 1)) (pg_sub (pv 0) pe_int set_list))
    (pss_one (ps_ret (pe_op op_mod (pe_callTy call_int1 (by rfl) T.n_int (by decide +kernel) (pa_cons (pv 5) pa_nil)) (pv 1)))))) pss_nil)
    (pss_cons (ps_set (i := 6) scD.nd rfl (Or.inl rfl) (pe_op op_mod (pe_callTy call_int1 (by rfl) T.n_int (by decide +kernel) (pa_cons (pe_op op_pow (pe_op op_add (pe_op op_add (pe_op op_mod (pe_callTy call_int1 (by rfl) T.n_int (by decide +kernel) (pa_cons (pv 4) pa_nil)) pe_int) (pe_op op_mul pe_int (pv 3))) pe_int) pe_int) pa_nil)) pe_int))
    (pss_cons (ps_set (i := 6) scD.nd rfl (Or.inl rfl) (pe_op op_mod (pe_callTy call_int1 (by rfl) T.n_int (by decide +kernel) (pa_cons (pe_op op_pow (pe_op op_add (pe_op op_add (pe_op op_mul (pv 6) (pe_op op_add (pe_op op_mul pe_int (pv 3)) pe_int)) (pe_op op_mul (pe_op op_mul pe_int (pv 3)) (pv 3))) pe_int) pe_int) pa_nil)) pe_int))
    (pss_one (ps_ret (pe_op op_mod (pe_callTy call_int1 (by rfl) T.n_int (by decide +kernel) (pa_cons (pe_op op_fdivW (pv 6) pe_int) pa_nil)) (pv 1))))))))))))
, ?_⟩
    refine ⟨_, rfl, p, _, _, _, rfl, rfl, SqL.of h1, rfl, _, _, rfl, rfl, _, rfl, ?_⟩
    refine ite2 (fun c1 => ?_) (fun c1 => ?_)
    · refine ⟨_, rfl, p, _, _, _, rfl, rfl, SqL.of h1, rfl, .inl ⟨_, rfl, _, rfl, _, _, rfl, rfl, hm, ?_⟩⟩
      refine ⟨_, rfl, p, _, _, _, rfl, rfl, SqL.of h1, rfl, .inl ⟨_, rfl, _, rfl, _, _, rfl, rfl, wide_div hm hb (by decide) (by decide), ?_⟩⟩
      refine ⟨_, rfl, p, _, _, 2, rfl, rfl, h1, rfl, _, rfl, ?_⟩
      refine k _ n (z / m) _ (Int.emod_nonneg _ (by omega)) (Int.emod_lt_of_pos _ hm) (Nat.le_succ _) ⟨upd_same, ?_, hl, Int.ediv_nonneg h0 (by omega)⟩ But.at
      rw [upd_ne D.ne]
      exact h2
    · refine ⟨_, rfl, p, _, _, _, rfl, rfl, SqL.of h1, rfl, ?_⟩
      refine ⟨_, rfl, _, _, rfl, rfl, _, rfl, p, _, _, 1, rfl, rfl, h1, rfl, ?_⟩
      -- the cell
      refine ⟨_, rfl, _, _, rfl, rfl, .inl ⟨by decide, by decide⟩, _, _, rfl, rfl, ?_⟩
      have D1 : PenAt (upd H p (.lst [.ref c, .int ((n : Int) + 1), .int z])) p c ns (n + 1) z := ⟨upd_same, by rw [upd_ne D.ne]; exact h2, hl, h0⟩
      have B1 : But p H (upd H p (.lst [.ref c, .int ((n : Int) + 1), .int z])) := But.at
      -- a cell of the script, if there is one
      refine ⟨fun σ' H' => ∃ cell : Int, σ' = [some (.ref p), some (.int m), none, some (.int n), some (.int cell), none, none] ∧ PenAt H' p c ns (n + 1) z ∧ But p H H', ?_, ?_⟩
      · refine ⟨_, rfl, p, _, _, _, rfl, rfl, SqL.of D1.pen, rfl, by show 0 ≤ sizeLine; decide, fun l hl0 => ?_⟩
        have D2 : PenAt (upd (upd H p (.lst [.ref c, .int ((n : Int) + 1), .int z])) l (.lst [])) p c ns (n + 1) z :=
          ⟨by rw [upd_ne (ne_of_none D1.pen hl0)]; exact D1.pen, by rw [upd_ne (ne_of_none D1.cells hl0)]; exact D1.cells, hl, h0⟩
        refine ⟨.list (ns.map PyData.int), .list [], .lst (SqL.of D2.cells) (OwD.dp_ints ns), .lst (SqL.of upd_same) .nil, OwD.shaped_ints ns, OwD.shaped_nil, _, rfl, ?_⟩
        rw [OwD.eqv_nil]
        have B2 := B1.trans (But.new (p := p) (o := .lst []) hl0)
        cases ns with
        | nil =>
          refine iteF ?_
          exact ⟨_, rfl, D2, B2⟩
        | cons a0 rest =>
          refine iteT ?_
          have hpos : 0 < ((a0 :: rest).map V.int).length := by rw [List.length_map]; exact Nat.succ_pos _
          refine ⟨_, rfl, p, _, _, _, rfl, rfl, SqL.of D2.pen, rfl, _, rfl, .inl ⟨_, rfl, _, rfl, p, _, _, _, rfl, rfl, SqL.of D2.pen, rfl, c, _, rfl, .inl (SqL.of D2.cells), _, _, rfl, rfl, by omega, ?_⟩⟩
          obtain ⟨x, hx⟩ := at_mod (a0 :: rest) n (Nat.succ_pos _)
          refine ⟨c, _, _, _, rfl, rfl, SqL.of D2.cells, hx, ?_⟩
          exact ⟨x, rfl, D2, B2⟩
      · rintro σ' H' ⟨cell, rfl, D3, B3⟩
        have C3 := D3.cells
        -- a great cell
        have ret : ∀ (d : Int) (H4 : Hp), 0 ≤ d → d < m → PenAt H4 p c ns (n + 1) z → But p H H4 → Q (.int d) H4 := fun d H4 a1 a2 D4 B4 => k d (n + 1) z H4 a1 a2 (Nat.le_refl _) D4 B4
        refine ⟨fun σ' H' => σ' = [some (.ref p), some (.int m), none, some (.int n), some (.int cell), none, none] ∧ PenAt H' p c ns (n + 1) z ∧ But p H H', ?_, ?_⟩
        · refine ⟨_, rfl, _, rfl, p, _, _, _, rfl, rfl, SqL.of D3.pen, rfl, c, _, rfl, .inl (SqL.of C3), _, _, rfl, rfl, _, rfl, ?_⟩
          refine ite2 (fun c2 => ?_) (fun c2 => ?_)
          · refine ⟨_, rfl, _, rfl, _, _, rfl, rfl, ⟨by decide, by decide, by decide⟩, _, _, rfl, rfl, _, rfl, ?_⟩
            refine ite2 (fun c3 => ?_) (fun c3 => ?_)
            · refine ⟨_, rfl, _, rfl, _, _, rfl, rfl, ⟨by decide, by decide, by decide⟩, _, _, rfl, rfl, _, _, rfl, rfl, .inl ⟨by decide, by decide⟩, ?_⟩
              refine ⟨_, rfl, _, _, rfl, rfl, .inr ⟨_, rfl, _, _, rfl, rfl, ?_⟩⟩
              have gpos : 0 ≤ 2 * ((if cell < 0 then -cell else cell) - (10 : Int) ^ (18 : Int).toNat) + (if decide (cell < 0) = true then 1 else 0) := by
                have h3 : (10 : Int) ^ (18 : Int).toNat ≤ (if cell < 0 then -cell else cell) := of_decide_eq_true c3
                split <;> omega
              refine ⟨_, rfl, .inl ⟨_, rfl, _, rfl, _, _, rfl, rfl, wide_div hm hb (by decide) (by decide), _, rfl, p, _, _, 2, rfl, rfl, D3.pen, rfl, ?_⟩⟩
              refine ⟨_, rfl, .inl ⟨_, rfl, _, rfl, _, _, rfl, rfl, hm, ?_⟩⟩
              refine k _ (n + 1) _ _ (Int.emod_nonneg _ (by omega)) (Int.emod_lt_of_pos _ hm) (Nat.le_refl _) ⟨upd_same, ?_, hl, Int.ediv_nonneg gpos (by omega)⟩ (B3.trans But.at)
              rw [upd_ne D.ne]
              exact C3
            · exact ⟨rfl, D3, B3⟩
          · exact ⟨rfl, D3, B3⟩
        · rintro σ' H4 ⟨rfl, D4, B4⟩
          have a1 := Int.emod_nonneg cell (show (2147483563 : Int) ≠ 0 by decide)
          have a2 := Int.emod_lt_of_pos cell (show (0 : Int) < 2147483563 by decide)
          -- one mixed from the cell
          refine ⟨_, rfl, .inl ⟨_, rfl, _, _, rfl, rfl, (by show (0 : Int) < _; decide), _, rfl, _, _, rfl, rfl, .inl ⟨by decide, by decide⟩, _, _, rfl, rfl, _, _, rfl, rfl, _, _, rfl, rfl, ⟨by decide, by decide, ?_⟩, .inl ⟨_, rfl, _, _, rfl, rfl, (by show (0 : Int) < _; decide), ?_⟩⟩⟩
          · show Int.natAbs _ < 2 ^ 64
            omega
          have b1 := fun x : Int => Int.emod_nonneg x (show (2147483629 : Int) ≠ 0 by decide)
          have b2 := fun x : Int => Int.emod_lt_of_pos x (show (0 : Int) < 2147483629 by decide)
          refine ⟨_, rfl, _, rfl, _, _, rfl, rfl, .inl ⟨by decide, by decide⟩, _, _, rfl, rfl, _, _, rfl, rfl, .inl ⟨Int.lt_of_lt_of_le (by decide) (b1 _), Int.lt_trans (b2 _) (by decide)⟩, ?_⟩
          refine ⟨_, rfl, _, _, rfl, rfl, .inl ⟨by decide, by decide⟩, _, rfl, _, _, rfl, rfl, .inl ⟨by omega, by omega⟩, _, _, rfl, rfl, _, _, rfl, rfl, ?_⟩
          refine ⟨_, _, rfl, rfl, ⟨by decide, by decide, mix_lt (b1 _) (Int.lt_trans (b2 _) (by decide)) (by omega) (by omega) (by decide) (by decide) (by decide) (by decide) (by decide) (by decide)⟩, .inl ⟨_, rfl, _, _, rfl, rfl, (by show (0 : Int) < _; decide), ?_⟩⟩
          refine ⟨_, rfl, _, _, rfl, rfl, wide_div (b := 6) (by decide) (by decide) (by decide) (by decide), .inl ⟨_, rfl, _, rfl, _, _, rfl, rfl, hm, ?_⟩⟩
          exact ret _ _ (Int.emod_nonneg _ (by omega)) (Int.emod_lt_of_pos _ hm) D4 B4
theorem scPe : FnScope ["_law_script"] ["_law_script"] (defScope sPen) := ⟨rfl, rfl, rfl, by decide +kernel, rfl, by decide +kernel, by decide +kernel⟩
theorem ok_pen {f : Addr} {fd : FuncData} (F : Fun K "_law_pen" "_law_pen" sPen f fd) (T : Nm mg) : FnOk P w K mg base CX0 1 f fd ["_law_script"] (spPen K) := by
  refine F.ok scPe (fun vs H Q E h => ?_) (fun cdv A outer s H vs Q E hr h => ?_)
  · obtain ⟨a, ns, rfl, _⟩ := h
    rfl
  · obtain ⟨a, ns, rfl, ha, hl, q⟩ := h
    refine ⟨_, (pss_one (ps_ret (pe_lst (pa_cons (pe_callTy call_list_of (by rfl) T.n_list (by decide +kernel) (pa_cons (pe_slice sl_list (pv 0) po_none (po_some pe_int)) pa_nil)) (pa_cons pe_int (pa_cons pe_int pa_nil)))))), ?_⟩
    have sz := sizeLine_eq
    refine ⟨_, rfl, 63, rfl, a, _, rfl, ha, ?_⟩
    rw [cut_63 hl]
    intro b hb
    refine ⟨b, _, rfl, .inl (SqL.of upd_same), fun c hc => ⟨by show (3 : Nat) ≤ sizeLine; omega, fun p hp => ?_⟩⟩
    have s3 := ((Same.of_new hb).trans (Same.of_new hc)).trans (Same.of_new (o := .lst [.ref c, .int 0, .int 0]) hp)
    exact q p c _ (((Same.of_new hb).trans (Same.of_new hc)).free hp) s3 ⟨upd_same, upd_keep2 upd_same hp, hl, by decide⟩
theorem scPi : FnScope ["_law_pen_here", "_law_some"] ["_law_pen_here", "_law_some"] (defScope sPick) := ⟨rfl, rfl, rfl, by decide +kernel, rfl, by decide +kernel, by decide +kernel⟩
theorem ok_pick {f fD : Addr} {fd fdD : FuncData} (F : Fun K "_law_pick" "_law_pick" sPick f fd) (T : Nm mg) (FD : Fun K "_law_draw" "_law_draw" sDraw fD fdD) (gD : mg "_law_draw" = some (.ref fD)) : FnOk P w K mg base CX0 2 f fd ["_law_pen_here", "_law_some"] (spPick K) := by
  have GD : FnOk P w K mg base CX0 1 fD fdD ["_law_pen_here", "_law_many"] spDraw := ok_draw FD T
  have bD : Binds K fdD ["_law_pen_here", "_law_many"] [] := FD.binds fun _ _ _ _ _ _ us hl => match us, hl with | [_, _], _ => rfl
  refine F.ok scPi (fun vs H Q E h => ?_) (fun cdv A outer s H vs Q E hr h => ?_)
  · obtain ⟨p, c, l, ns, n, z, xs, rfl, _⟩ := h
    rfl
  · obtain ⟨p, c, l, ns, n, z, xs, rfl, hp, hn, nl, hl, h0, h1, q⟩ := h
    refine ⟨_, (pss_one (ps_ret (pe_ix ix_list (pv 1) (pe_call GD hr (by rfl) gD FD.kp bD .nil pass0 (pa_cons (pv 0) (pa_cons (pe_callB call_len_seq (by rfl) T.n_len boot_len (pa_cons (pv 1) pa_nil)) pa_nil))) (fun _ _ => rfl)))), ?_⟩
    refine ⟨_, rfl, _, rfl, _, rfl, l, xs, rfl, .inl hl, p, c, ns, n, z, _, rfl, hp, hn, by omega, ?_, fun d n' z' H' d0 d1 hn' hp' s' => ?_⟩
    · have : (xs.length : Int).natAbs < 1000 := by omega
      exact Nat.lt_of_lt_of_le this (by decide +kernel)
    · obtain ⟨x, hx, ex⟩ := nth d0 d1
      exact ⟨l, xs, d, x, rfl, rfl, SqL.but hl nl s', ex, q x n' z' H' hx hn' hp' s'⟩
theorem ok_pickS {f fD : Addr} {fd fdD : FuncData} (F : Fun K "_law_pick" "_law_pick" sPick f fd) (T : Nm mg) (FD : Fun K "_law_draw" "_law_draw" sDraw fD fdD) (gD : mg "_law_draw" = some (.ref fD)) : FnOk P w K mg base CX0 2 f fd ["_law_pen_here", "_law_some"] spPickS := by
  have GD : FnOk P w K mg base CX0 1 fD fdD ["_law_pen_here", "_law_many"] spDraw := ok_draw FD T
  have bD : Binds K fdD ["_law_pen_here", "_law_many"] [] := FD.binds fun _ _ _ _ _ _ us hl => match us, hl with | [_, _], _ => rfl
  refine F.ok scPi (fun vs H Q E h => ?_) (fun cdv A outer s H vs Q E hr h => ?_)
  · obtain ⟨p, c, ns, n, z, t, rfl, _⟩ := h
    rfl
  · obtain ⟨p, c, ns, n, z, t, rfl, hp, hn, h0, h1, q⟩ := h
    refine ⟨_, (pss_one (ps_ret (pe_ix ix_str (pv 1) (pe_call GD hr (by rfl) gD FD.kp bD .nil pass0 (pa_cons (pv 0) (pa_cons (pe_callB call_len (by rfl) T.n_len boot_len (pa_cons (pv 1) pa_nil)) pa_nil))) (fun _ _ => rfl)))), ?_⟩
    have sz := sizeLine_eq
    have lz : t.length ≤ sizeLine := by omega
    refine ⟨_, rfl, _, rfl, _, rfl, .str t, t.length, rfl, ⟨lz, rfl⟩, p, c, ns, n, z, _, rfl, hp, hn, by omega, small_int (by omega) (by omega), fun d n' z' H' d0 d1 hn' hp' s' => ?_⟩
    have d2 : d < (t.cps.toList.length : Int) := d1
    obtain ⟨x, hx, ex⟩ := nth d0 d2
    exact ⟨t, d, x, rfl, rfl, lz, ex, q x n' z' H' hx hn' hp' s'⟩
end
end K10
end
section
/-! Own: picks, tables and rules on the heap. Nothing of a law's text. -/
namespace OwR
open PySem PySem.Spec PyProof.Rows L2
theorem dc_it {J : It} {n : Nat} {G : Hp → Prop} {Y : Nat → Hp → V → Hp → Prop} (w : Walk J n G Y) {g : TG} {tt : TT} {tk tv : TE} {vs : List Nat} {σ : L2.St} {H1 : Hp} {D : Addr} {Qd : Hp → Prop} (Pv : Nat → Hp → Prop)
    (h0 : Pv 0 (upd H1 D (.dK []))) (hG : ∀ i H, i ≤ n → Pv i H → G H)
    (turn : ∀ i x H H', i < n → Pv i H → Y i H x H' → g x (wipe σ vs) H' fun σ2 H2 => wipe σ2 vs = wipe σ vs ∧ tt σ2 H2 fun b H3 =>
      if b = true then tk σ2 H3 fun y H4 => tv σ2 H4 fun z H5 => ∃ kvs k, y = kV k ∧ H5 D = some (.dK kvs) ∧ kvs.length < sizeLine ∧ Pv (i + 1) (upd H5 D (.dK (putK kvs k z))) else Pv (i + 1) H3)
    (fin : ∀ H, Pv n H → Qd H) :
    ∃ W : Nat → Nat → Hp → Prop, (∃ m, W 0 m (upd H1 D (.dK []))) ∧ ∀ i m H, W i m H →
      (J.stop i H ∧ Qd H) ∨ (J.go i H ∧ ∃ Nx : Hp → Prop, (∀ H', Nx H' → ∃ m', m' < m ∧ W (i + 1) m' H') ∧ ∀ x H', J.yld i H x H' → g x (wipe σ vs) H' fun σ2 H2 => wipe σ2 vs = wipe σ vs ∧ tt σ2 H2 fun b H3 =>
        if b = true then tk σ2 H3 fun y H4 => tv σ2 H4 fun z H5 => ∃ kvs k, y = kV k ∧ H5 D = some (.dK kvs) ∧ kvs.length < sizeLine ∧ Nx (upd H5 D (.dK (putK kvs k z))) else Nx H3) := by
  refine ⟨fun i m H => m = n - i ∧ i ≤ n ∧ Pv i H, ⟨n, by simp, Nat.zero_le _, h0⟩, fun i m H ⟨em, hi, p⟩ => ?_⟩
  subst em
  have q := hG i H hi p
  rcases Nat.lt_or_ge i n with hlt | hge
  · exact .inr ⟨w.goes i H hlt q, Pv (i + 1), fun H' p' => ⟨n - (i + 1), by omega, rfl, hlt, p'⟩, fun x H' y => turn i x H H' hlt p (w.yields i H x H' hlt q y)⟩
  · obtain rfl : i = n := by omega
    exact .inl ⟨w.stops H q, fin H p⟩
theorem list_any {X : Cx} (hc : X.calm = true) : CallR X (.type "list") (fun xs H Q => (∃ p ys, xs = [.ref p] ∧ (SqL X.K H p ys ∨ SqT X.K H p ys) ∧ ∀ l, H l = none → Q (.ref l) (upd H l (.lst ys))) ∨
    (∃ (a : Addr) (kvs : List (Key × V)), xs = [.ref a] ∧ Rd H a (.dK kvs) ∧ ∀ p, H p = none → Q (.ref p) (upd H p (.lst (kvs.map fun kv => kV kv.1))))) := by
  intro pins s σ H xs us Q I r h
  rcases h with h | h
  · exact call_list_of pins s σ H xs us Q I r h
  · exact call_listD hc pins s σ H xs us Q I r h
end OwR
namespace TSet
open PySem
theorem put1_nodup {L : List Str} (h : L.Nodup) (z : Str) : (put1 L z).Nodup := by
  unfold put1
  split
  · exact h
  · rename_i q
    exact List.nodup_cons.mpr ⟨q, h⟩
theorem fold_nodup : ∀ (xs L : List Str), L.Nodup → (xs.foldl put1 L).Nodup
  | [], _, h => h
  | x :: xs, L, h => fold_nodup xs (put1 L x) (put1_nodup h x)
theorem ded_nodup (xs : List Str) : (ded xs).Nodup := fold_nodup xs [] List.nodup_nil
theorem ded_perm {xs : List Str} (h : xs.Nodup) : (ded xs).Perm xs := (List.perm_ext_iff_of_nodup (ded_nodup xs) h).mpr fun y => ded_mem xs y
end TSet
namespace OwR
open PySem PySem.Spec PyProof.Rows L2
theorem walk_enumT {K : PySem.W.Frag} {a : Addr} {xs : List V} : Walk (IteT K a) xs.length (fun H => SqT K H a xs) (YPair (fun i => some (.int (i : Nat))) (fun i => xs[i]?)) := by
  refine ⟨fun i _ hi q => ⟨xs, xs[i], q, by simp [hi]⟩, fun _ q => ⟨xs, q, Nat.le_refl _⟩, fun i H v H' _ q y => ?_⟩
  obtain ⟨T, x, h1, h2, h3, h4⟩ := y
  exact ⟨T, .int (i : Nat), x, h1, h2, h3, rfl, h4 xs q⟩
end OwR
namespace OwR
open PySem PySem.Spec PyProof.Rows L2
section
variable {X : Cx} {CX : CXT} {k : Nat} {f C : Addr} {sp : Sp} {E : XK} {x : Str} {p pos : Pos}
/-- C(), __init__ by a positional promise -/
theorem pe_makeR0 (M : Mk X.K C f) (F : FnR X.prog X.w X.K X.mg X.base CX k f sp) (hr : Room (k + 1) X.A) (hg : Gl X x) (hm : X.mg x = some (.ref C)) (hx : Passes CX X E) (hdb : (x == ("__debug__" : Str)) = false := by decide) :
    PE X (.Call (.Name x p) [] [] pos) (StX.tMakeR C sp E tNil) := by
  refine ⟨fun pins s σ H Q I h => ?_⟩
  refine wpAny_Call_Name_kw (ld_glob I hg hm ?_ hdb)
  exact PySem.W.callWith_K0 I.kIn M.kp (StX.run_makeR (us := []) M F hr hx I .nil h)
end
end OwR
namespace K10
open PySem PySem.Spec PyProof.Rows L2
/-- the texts that a list, or a dict's keys, hold -/
def TextsAt (K : PySem.W.Frag) (H : Hp) (a : Addr) (xs : List Str) : Prop := SqL K H a (xs.map V.str) ∨ SqT K H a (xs.map V.str) ∨ ∃ kvs, Rd H a (.dK kvs) ∧ kvs.map (·.1) = xs.map Sum.inr
/-- a table's numbers by its names, and no other key -/
def TabOf (kvs : List (Key × V)) (N : Str → Option Int) : Prop := (∀ z, valV kvs (Sum.inr z) = (N z).map V.int) ∧ ∀ i, valV kvs (Sum.inl i) = none
theorem TabOf.nil : TabOf [] fun _ => none := ⟨fun _ => rfl, fun _ => rfl⟩
theorem TabOf.put {kvs : List (Key × V)} {N : Str → Option Int} (t : TabOf kvs N) (z : Str) (v : Int) : TabOf (putK kvs (Sum.inr z) (.int v)) fun y => if y = z then some v else N y := by
  refine ⟨fun y => ?_, fun i => ?_⟩
  · rw [valV_put, t.1 y]
    by_cases e : y = z
    · dsimp only
      rw [if_pos (congrArg Sum.inr e), if_pos e]
      rfl
    · dsimp only
      rw [if_neg (fun q => e (Sum.inr.inj q)), if_neg e]
  · rw [valV_put, t.2 i, if_neg (fun q => by cases q)]
theorem TabOf.cast {kvs : List (Key × V)} {N M : Str → Option Int} (t : TabOf kvs N) (h : ∀ z, N z = M z) : TabOf kvs M := by
  rw [← funext h]
  exact t
theorem TabOf.get {kvs : List (Key × V)} {N : Str → Option Int} (t : TabOf kvs N) {H : Hp} {a : Addr} (h : Rd H a (.dK kvs)) (z : Str) : DGet H a (.str z) ((N z).map V.int) := .inl ⟨kvs, Sum.inr z, h, rfl, (t.1 z).symm⟩
theorem TabOf.mem {kvs : List (Key × V)} {N : Str → Option Int} (t : TabOf kvs N) {xs : List Str} (e : kvs.map (·.1) = xs.map Sum.inr) (z : Str) : z ∈ xs ↔ (N z).isSome = true := by
  have h1 : (kvs.any fun kv => decide (kv.1 = Sum.inr z)) = (valV kvs (Sum.inr z)).isSome := valV_any _ kvs
  rw [t.1 z, Option.isSome_map] at h1
  rw [← h1, List.any_eq_true]
  refine ⟨fun h => ?_, fun ⟨kv, h, e2⟩ => ?_⟩
  · have h2 : (Sum.inr z : Key) ∈ kvs.map (·.1) := by
      rw [e]
      exact List.mem_map.mpr ⟨z, h, rfl⟩
    obtain ⟨kv, h3, h4⟩ := List.mem_map.mp h2
    exact ⟨kv, h3, decide_eq_true h4⟩
  · have h2 : (Sum.inr z : Key) ∈ kvs.map (·.1) := List.mem_map.mpr ⟨kv, h, of_decide_eq_true e2⟩
    rw [e] at h2
    obtain ⟨y, h3, h4⟩ := List.mem_map.mp h2
    exact Sum.inr.inj h4 ▸ h3
def TupAt (H : Hp) (k : Addr) (p : Pk) : Prop := H k = some (.tup [.str p.1, .int p.2])
/-- picks as tuples of a text and a number -/
structure PicksAt (H : Hp) (ks : List Addr) (ps : List Pk) : Prop where
  len : ks.length = ps.length
  at_ : ∀ (i : Nat) (k : Addr) (p : Pk), ks[i]? = some k → ps[i]? = some p → TupAt H k p
theorem PicksAt.nil {H : Hp} : PicksAt H [] [] := ⟨rfl, fun i k p h => by cases h⟩
theorem PicksAt.get {H : Hp} {ks : List Addr} {ps : List Pk} (h : PicksAt H ks ps) {i : Nat} {v : V} (e : (ks.map V.ref)[i]? = some v) : ∃ k p, v = .ref k ∧ ks[i]? = some k ∧ ps[i]? = some p ∧ TupAt H k p := by
  rw [List.getElem?_map] at e
  obtain ⟨k, hk, rfl⟩ := Option.map_eq_some_iff.mp e
  have hi : i < ps.length := by
    rw [← h.len]
    exact (List.getElem?_eq_some_iff.mp hk).1
  exact ⟨k, ps[i], rfl, hk, List.getElem?_eq_getElem hi, h.at_ i k _ hk (List.getElem?_eq_getElem hi)⟩
theorem PicksAt.mono {H H' : Hp} {ks : List Addr} {ps : List Pk} (h : PicksAt H ks ps) (s : ∀ k xs, H k = some (.tup xs) → H' k = some (.tup xs)) : PicksAt H' ks ps := ⟨h.len, fun i k p e1 e2 => s _ _ (h.at_ i k p e1 e2)⟩
theorem PicksAt.same {H H' : Hp} {ks : List Addr} {ps : List Pk} (h : PicksAt H ks ps) (s : Same H H') : PicksAt H' ks ps := h.mono fun k xs e => s k _ e
theorem PicksAt.upd {H : Hp} {ks : List Addr} {ps : List Pk} (h : PicksAt H ks ps) {D : Addr} {o : HO} (n : ∀ xs, H D ≠ some (.tup xs)) : PicksAt (upd H D o) ks ps := h.mono fun k xs e => by
  have : k ≠ D := fun z => n xs (z ▸ e)
  rw [upd_ne this]
  exact e
theorem PicksAt.snoc {H : Hp} {ks : List Addr} {ps : List Pk} (h : PicksAt H ks ps) {k : Addr} {p : Pk} (e : TupAt H k p) : PicksAt H (ks ++ [k]) (ps ++ [p]) := by
  refine ⟨by rw [List.length_append, List.length_append, h.len]; rfl, fun i k' p' e1 e2 => ?_⟩
  rcases Nat.lt_trichotomy i ks.length with c | c | c
  · rw [List.getElem?_append_left c] at e1
    rw [List.getElem?_append_left (by rw [← h.len]; exact c)] at e2
    exact h.at_ i k' p' e1 e2
  · subst c
    rw [List.getElem?_append_right (Nat.le_refl _), Nat.sub_self] at e1
    rw [h.len, List.getElem?_append_right (Nat.le_refl _), Nat.sub_self] at e2
    cases e1
    cases e2
    exact e
  · rw [List.getElem?_eq_none (by rw [List.length_append]; simp; omega)] at e1
    cases e1
theorem upd_keep {H : Hp} {D b : Addr} {o u w : HO} (hD : H D = some w) (h : H b = some u) (n : u ≠ w) : upd H D o b = some u := by
  have : b ≠ D := fun z => by
    rw [z, hD] at h
    exact n (Option.some.inj h).symm
  rw [upd_ne this]
  exact h
theorem free_of {H : Hp} {D b : Addr} {o : HO} (h : upd H D o b = none) : H b = none := by
  unfold upd at h
  split at h
  · cases h
  · exact h
theorem PicksAt.drop {H : Hp} {ks : List Addr} {ps : List Pk} (h : PicksAt H ks ps) : PicksAt H (ks.drop 1) (ps.drop 1) := by
  refine ⟨by rw [List.length_drop, List.length_drop, h.len], fun i k p e1 e2 => ?_⟩
  rw [List.getElem?_drop] at e1 e2
  exact h.at_ _ k p e1 e2
theorem cut_one (kk : List Addr) : cutV (kk.map V.ref) (some 1) none = (kk.drop 1).map V.ref := by
  have e : (some 1 : Option Int) = some ((1 : Nat) : Int) := rfl
  unfold cutV
  rw [HT.sIx_none, e, HT.sIx_nat]
  cases kk with
  | nil => rfl
  | cons x r =>
    have e2 : min 1 ((x :: r).map V.ref).length = 1 := by
      rw [List.length_map]
      show min 1 (r.length + 1) = 1
      omega
    rw [e2]
    show ((r.map V.ref).take (((x :: r).map V.ref).length - 1)) = r.map V.ref
    exact List.take_of_length_le (by rw [List.length_map, List.length_map]; show r.length ≤ r.length + 1 - 1; omega)
def optV : Option Str → V
  | none => .non
  | some z => .str z
theorem behind_vals (kp : List Pk) : ((kp.drop 1).map fun p => V.str p.1) ++ [V.non] = (behind kp).map optV := by
  unfold behind
  rw [List.map_append, List.map_map]
  rfl
/-- a pick as it is passed: a tuple, or a name alone for a keep of 0 -/
def ValAt (H : Hp) (x : V) (p : Pk) : Prop := (∃ k, x = .ref k ∧ TupAt H k p) ∨ (x = .str p.1 ∧ p.2 = 0)
theorem ValAt.same {H H' : Hp} {x : V} {p : Pk} (h : ValAt H x p) (s : Same H H') : ValAt H' x p := h.elim (fun ⟨k, e, t⟩ => .inl ⟨k, e, s _ _ t⟩) .inr
structure ValsAt (H : Hp) (xs : List V) (ps : List Pk) : Prop where
  len : xs.length = ps.length
  at_ : ∀ (i : Nat) (x : V) (p : Pk), xs[i]? = some x → ps[i]? = some p → ValAt H x p
theorem ValsAt.same {H H' : Hp} {xs : List V} {ps : List Pk} (h : ValsAt H xs ps) (s : Same H H') : ValsAt H' xs ps := ⟨h.len, fun i x p e1 e2 => (h.at_ i x p e1 e2).same s⟩
theorem ValsAt.get {H : Hp} {xs : List V} {ps : List Pk} (h : ValsAt H xs ps) {i : Nat} {x : V} (e : xs[i]? = some x) : ∃ p, ps[i]? = some p ∧ ValAt H x p := by
  have hi : i < ps.length := by
    rw [← h.len]
    exact (List.getElem?_eq_some_iff.mp e).1
  exact ⟨ps[i], List.getElem?_eq_getElem hi, h.at_ i x _ e (List.getElem?_eq_getElem hi)⟩
theorem PicksAt.vals {H : Hp} {ks : List Addr} {ps : List Pk} (h : PicksAt H ks ps) : ValsAt H (ks.map V.ref) ps := by
  refine ⟨by rw [List.length_map, h.len], fun i x p e1 e2 => ?_⟩
  rw [List.getElem?_map] at e1
  obtain ⟨k, hk, rfl⟩ := Option.map_eq_some_iff.mp e1
  exact .inl ⟨k, rfl, h.at_ i k p hk e2⟩
def lookL : List Pk → Str → Option Int
  | [], _ => none
  | p :: r, z => if z = p.1 then some p.2 else lookL r z
theorem lookL_mem : ∀ (l : List Pk) (z : Str), (lookL l z).isSome = true ↔ z ∈ l.map (·.1)
  | [], z => by simp [lookL]
  | p :: r, z => by
    unfold lookL
    rw [List.map_cons, List.mem_cons, ← lookL_mem r z]
    by_cases c : z = p.1
    · rw [if_pos c]; exact ⟨fun _ => .inl c, fun _ => rfl⟩
    · rw [if_neg c]; exact ⟨.inr, fun h => h.elim (fun q => absurd q c) id⟩
/-- what stands behind the picks: the keeps by bays, and the bays ascending -/
structure RuleC (K : PySem.W.Frag) (C : Addr) : Prop where
  cls : Cls K C
  n1 : NoAttr K C "_picks"
  n2 : NoAttr K C "_keeps"
  n3 : NoAttr K C "_bays"
structure More (H : Hp) (fs : List (Str × V)) (ps : List Pk) (D b : Addr) (r : List (Key × V)) (zs : List Str) : Prop where
  lm : fs.lookup ("keep" : Str) = none
  lk : fs.lookup ("_keeps" : Str) = some (.ref D)
  lb : fs.lookup ("_bays" : Str) = some (.ref b)
  eD : H D = some (.dK r)
  tb : TabOf r (lookL ps)
  eb : H b = some (.tup (zs.map V.str))
  nd : zs.Nodup
  mem : ∀ z, z ∈ zs ↔ z ∈ ps.map (·.1)
  srt : sortedS zs = true
def RuleAt (C : Addr) (H : Hp) (a : Addr) (ps : List Pk) : Prop := ∃ (dx : Addr) (fs : List (Str × V)) (p : Addr) (ks : List Addr), H a = some (.ins C dx fs) ∧ fs.lookup ("_picks" : Str) = some (.ref p) ∧ H p = some (.tup (ks.map V.ref)) ∧ PicksAt H ks ps ∧ ∃ D b r zs, More H fs ps D b r zs
theorem RuleAt.same {C : Addr} {H H' : Hp} {a : Addr} {ps : List Pk} (h : RuleAt C H a ps) (s : Same H H') : RuleAt C H' a ps := by
  obtain ⟨dx, fs, p, ks, h1, h2, h3, h4, D, b, r, zs, m⟩ := h
  exact ⟨dx, fs, p, ks, s _ _ h1, h2, s _ _ h3, h4.same s, D, b, r, zs, m.lm, m.lk, m.lb, s _ _ m.eD, m.tb, s _ _ m.eb, m.nd, m.mem, m.srt⟩
def pkD (p : Pk) : PyData := .tuple [.str p.1, .int p.2]
theorem pkD_lay {p : Pk} (h : PyData.strOk p.1 = true) : (pkD p).canLay0 = true := by simp [pkD, PyData.canLay0, PyData.canLayAll0, h]
theorem pkD_dep (p : Pk) : (pkD p).depth ≤ 1 := by simp [pkD, PyData.depth, PyData.depthAll]
theorem PicksAt.dp {K : PySem.W.Frag} {H : Hp} : ∀ {ks : List Addr} {ps : List Pk}, PicksAt H ks ps → DpAll K H (ks.map V.ref) (ps.map pkD)
  | [], [], _ => .nil
  | [], _ :: _, h => by cases h.len
  | _ :: _, [], h => by cases h.len
  | k :: ks, p :: ps, h => .cons (.tup (SqT.of (h.at_ 0 k p rfl rfl)) (.cons (.str p.1) (.cons (.int p.2) .nil))) (PicksAt.dp ⟨Nat.succ.inj h.len, fun i k' p' e1 e2 => h.at_ (i + 1) k' p' e1 e2⟩)
def optI : Option Int → V
  | none => .non
  | some i => .int i
/-- what may be asked with `in` and `keep`: a text, or another value -/
def AskAt (K : PySem.W.Frag) (H : Hp) (x : V) (o : Option Str) : Prop := match o with
  | some z => x = .str z
  | none => ∃ t, TyX K H x t ∧ PySem.W.kitOne K t (.type "str") = some false
def keepAt (ps : List Pk) (o : Option Str) : Option Int := o.elim none (lookL ps)
end K10
end
section
namespace K10
open PySem PySem.Spec PyProof.Rows L2
abbrev sName : Stmt := top 9
abbrev sWithin : Stmt := top 10
abbrev sAsc : Stmt := top 11
structure Nm2 (mg : Str → Option Value) : Prop where
  n_int : mg "int" = none
  n_bool : mg "bool" = none
  n_str : mg "str" = none
  n_len : mg "len" = none
  n_all : mg "all" = none
  n_isinstance : mg "isinstance" = none
structure Nm3 (mg : Str → Option Value) : Prop where
  n_sorted : mg "sorted" = none
  n_set : mg "set" = none
  n_list : mg "list" = none
structure Nm4 (mg : Str → Option Value) : Prop where
  n_tuple : mg "tuple" = none
/-- no integer, or True or False -/
def NoInt (K : PySem.W.Frag) (H : Hp) (v : V) : Prop := (∃ b, v = .bl b) ∨ ∃ t, TyX K H v t ∧ PySem.W.kitOne K t (.type "int") = some false
/-- no integer from a to b -/
def NotIn (K : PySem.W.Frag) (H : Hp) (a b : Int) (v : V) : Prop := (∃ i, v = .int i ∧ ¬ (a ≤ i ∧ i ≤ b)) ∨ NoInt K H v
def spWithin (K : PySem.W.Frag) : Sp := fun vs H Q _ => ∃ (v : V) (a b : Int), vs = [v, .int a, .int b] ∧ ((∃ i, v = .int i ∧ Q (.bl (decide (a ≤ i) && decide (i ≤ b))) H) ∨ (NoInt K H v ∧ Q (.bl false) H))
def spAsc (K : PySem.W.Frag) : Sp := fun vs H Q _ => ∃ (a : Addr) (xs : List Str), vs = [.ref a] ∧ TextsAt K H a xs ∧ xs.length < 64 ∧
  ∀ (ys : List Str) (p : Addr) (H' : Hp), ys.Perm (TSet.ded xs) → sortedS ys = true → H p = none → Same H H' → H' p = some (.lst (ys.map V.str)) → Q (.ref p) H'
section
variable {P : Program} {w : World} {K : PySem.W.Frag} {mg : Str → Option Value} {base : Heap}
abbrev nName : List Str := ["value", "sign"]
theorem scN : FnScope nName ["value"] (defScope sName) := ⟨rfl, rfl, rfl, by decide +kernel, rfl, by decide +kernel, by decide +kernel⟩
theorem ok_name {f : Addr} {fd : FuncData} (F : Fun K "is_name" "is_name" sName f fd) (T : Nm2 mg) : FnOk P w K mg base CX0 1 f fd ["value"] (spName K) := by
  refine F.ok scN (fun vs H Q E h => ?_) (fun cdv A outer s H vs Q E hr h => ?_)
  · obtain ⟨v, rfl, _⟩ := h
    rfl
  · obtain ⟨v, rfl, h⟩ := h
    refine ⟨_, (pss_cons (ps_if (PW.pt (pw_or (pt_not (pt_val (pe_callB call_isi (by rfl) T.n_isinstance (by decide +kernel) (pa_cons (pv 0) (pa_cons (pe_bltn (v := .ty "str") (by rfl) T.n_str (by decide +kernel) rfl) pa_nil))))) (pw_or1 (pt_not (pt_chain op_le op_le pe_int (pe_callB call_len (by rfl) T.n_len boot_len (pa_cons (pv 0) pa_nil)) pe_int))))) (pss_one (ps_ret pe_bl)) pss_nil)
    (pss_one (ps_ret (pe_callB (cr_all rfl) (by rfl) T.n_all (by decide +kernel) (pa_cons (pe_lc (own := [("sign", 1)]) (by rfl) scN.nd (pi_str (pv 0)) (blkOk_by (own := [("sign", 1)]) (N := nName) (sc := defScope sName) (by decide +kernel)) (fun _ _ _ _ _ => (pg_name (i := 1) scN.nd rfl (Or.inl rfl))) (fun _ _ _ _ _ => pts_nil) (fun _ _ _ _ _ => (pe_chain op_le_str op_le_str pe_str (pv 1) pe_str))) pa_nil))))), ?_⟩
    rcases h with ⟨z, rfl, hz, k⟩ | ⟨⟨t, ty, kt⟩, k⟩
    · have hz2 : z.length ≤ sizeLine := Nat.le_trans hz (by decide)
      refine ⟨_, rfl, .str z, .ty "str", _, _, true, rfl, .ty _, .base (by constructor), kit_ty (by decide +kernel), true, rfl, ?_⟩
      refine iteF ?_
      refine ⟨_, rfl, .str z, z.length, rfl, ⟨hz2, rfl⟩, _, _, rfl, rfl, _, rfl, ?_⟩
      refine ite2 (fun c1 => ?_) (fun c1 => ?_)
      · have d1 : 1 ≤ z.length := by
          have := of_decide_eq_true c1
          omega
        refine ⟨_, _, rfl, rfl, _, rfl, ?_⟩
        by_cases d2 : z.length ≤ 8
        · have e2 : decide ((z.length : Int) ≤ 8) = true := decide_eq_true (by omega)
          rw [e2]
          refine iteF ?_
          have rest : ∀ b H', Same H H' → b = z.cps.toList.all letter → Q (.bl b) H' := fun b H' s e => by
            have e' : nameB z = b := by
              unfold nameB
              rw [decide_eq_true d1, decide_eq_true d2, e]
              rfl
            rw [← e']
            exact k H' s
          refine ⟨_, rfl, z, rfl, fun D hD => lc_it (walk_str (z := z)) (fun i H' => H' D = some (.lst (((z.cps.toList.take i).map letter).map V.bl)) ∧ Same H H')
            ⟨upd_same, fun b o e => by rw [upd_ne (ne_of_none e hD)]; exact e⟩ (fun _ _ _ _ => trivial) ?_ ?_⟩
          · rintro i x H1 H2 hi ⟨hl, hs⟩ ⟨rfl, c, hc, rfl⟩
            have step : ∀ b : Bool, b = letter c → ∃ acc : List V, H2 D = some (.lst acc) ∧ acc.length < sizeLine ∧
                (upd H2 D (.lst (acc ++ [V.bl b])) D = some (.lst (((z.cps.toList.take (i + 1)).map letter).map V.bl)) ∧ Same H (upd H2 D (.lst (acc ++ [V.bl b])))) := fun b hb => by
              refine ⟨_, hl, ?_, ?_, fun a o e => ?_⟩
              · rw [List.length_map, List.length_map, List.length_take]
                have h9 : z.cps.toList.length = z.length := by first | rfl | simp [Str.length]
                exact Nat.lt_of_le_of_lt (Nat.min_le_right _ _) (by rw [h9, sizeLine_eq]; omega)
              · rw [upd_same, hb, List.take_add_one, show z.cps.toList[i]? = some c by rw [Array.getElem?_toList]; exact hc]
                simp
              · rw [upd_ne (ne_of_none e hD)]
                exact hs a o e
            refine ⟨rfl, ?_⟩
            refine ⟨_, rfl, _, _, rfl, rfl, _, rfl, ?_⟩
            have l1 : (!decide ((⟨#[c]⟩ : Str).cps.toList < ("a" : Str).cps.toList)) = decide (97 ≤ c) := one_le 97 c
            have l2 : (!decide (("z" : Str).cps.toList < (⟨#[c]⟩ : Str).cps.toList)) = decide (c ≤ 122) := one_le c 122
            by_cases c1 : 97 ≤ c
            · rw [l1, decide_eq_true c1]
              refine iteT ?_
              refine ⟨_, _, rfl, rfl, step _ ?_⟩
              rw [l2]
              unfold letter
              rw [decide_eq_true c1, Bool.true_and]
            · rw [l1, decide_eq_false c1]
              refine iteF ?_
              refine step _ ?_
              unfold letter
              rw [decide_eq_false c1, Bool.false_and]
          · rintro H1 ⟨hl, hs⟩
            refine ⟨D, _, rfl, SqL.of hl, rest _ H1 hs ?_⟩
            rw [show z.cps.size = z.cps.toList.length from rfl, List.take_length, List.all_map]
            rfl
        · have e2 : decide ((z.length : Int) ≤ 8) = false := decide_eq_false (by omega)
          rw [e2]
          refine iteT ?_
          have e : nameB z = false := by
            unfold nameB
            rw [decide_eq_false d2, Bool.and_false, Bool.false_and]
          rw [← e]
          exact k H (Same.refl H)
      · have d1 : ¬ 1 ≤ z.length := fun q => c1 (decide_eq_true (by omega))
        refine ⟨_, rfl, ?_⟩
        have e : nameB z = false := by
          unfold nameB
          rw [decide_eq_false d1, Bool.false_and, Bool.false_and]
        refine iteT ?_
        rw [← e]
        exact k H (Same.refl H)
    · refine ⟨_, rfl, v, .ty "str", _, _, false, rfl, .ty _, ty, kt, false, rfl, ?_⟩
      refine iteT ?_
      exact iteT k
theorem scW : FnScope ["value", "least", "most"] ["value", "least", "most"] (defScope sWithin) := ⟨rfl, rfl, rfl, by decide +kernel, rfl, by decide +kernel, by decide +kernel⟩
theorem ok_within {f : Addr} {fd : FuncData} (F : Fun K "is_within" "is_within" sWithin f fd) (T : Nm2 mg) : FnOk P w K mg base CX0 1 f fd ["value", "least", "most"] (spWithin K) := by
  refine F.ok scW (fun vs H Q E h => ?_) (fun cdv A outer s H vs Q E hr h => ?_)
  · obtain ⟨v, a, b, rfl, _⟩ := h
    rfl
  · obtain ⟨v, a, b, rfl, k⟩ := h
    refine ⟨_, (pss_cons (ps_if (PW.pt (pw_or (pt_not (pt_val (pe_callB call_isi (by rfl) T.n_isinstance (by decide +kernel) (pa_cons (pv 0) (pa_cons (pe_bltn (v := .ty "int") (by rfl) T.n_int (by decide +kernel) rfl) pa_nil))))) (pw_or1 (pt_val (pe_callB call_isi (by rfl) T.n_isinstance (by decide +kernel) (pa_cons (pv 0) (pa_cons (pe_bltn (v := .ty "bool") (by rfl) T.n_bool (by decide +kernel) rfl) pa_nil))))))) (pss_one (ps_ret pe_bl)) pss_nil)
    (pss_one (ps_ret (pe_chain op_le op_le (pv 1) (pv 0) (pv 2))))), ?_⟩
    rcases k with ⟨v, rfl, k⟩ | ⟨⟨c, rfl⟩ | ⟨t, ty, kt⟩, k⟩
    · refine ⟨_, rfl, .int v, .ty "int", _, _, true, rfl, .ty _, .base (.int v), kit_ty (by decide +kernel), true, rfl, ?_⟩
      refine iteF ?_
      refine ⟨_, rfl, .int v, .ty "bool", _, _, false, rfl, .ty _, .base (.int v), kit_ty (by decide +kernel), false, rfl, ?_⟩
      refine iteF ?_
      refine ⟨_, rfl, _, rfl, _, _, rfl, rfl, _, rfl, ?_⟩
      by_cases c : a ≤ v
      · rw [decide_eq_true c] at k ⊢
        refine iteT ?_
        exact ⟨_, rfl, _, _, rfl, rfl, k⟩
      · rw [decide_eq_false c] at k ⊢
        refine iteF ?_
        exact k
    · refine ⟨_, rfl, .bl c, .ty "int", _, _, true, rfl, .ty _, .base (.bl c), kit_ty (by decide +kernel), true, rfl, ?_⟩
      refine iteF ?_
      refine ⟨_, rfl, .bl c, .ty "bool", _, _, true, rfl, .ty _, .base (.bl c), kit_ty (by decide +kernel), true, rfl, ?_⟩
      exact iteT k
    · refine ⟨_, rfl, v, .ty "int", _, _, false, rfl, .ty _, ty, kt, false, rfl, ?_⟩
      refine iteT ?_
      exact iteT k
theorem scA : FnScope ["things"] ["things"] (defScope sAsc) := ⟨rfl, rfl, rfl, by decide +kernel, rfl, by decide +kernel, by decide +kernel⟩
theorem ok_asc {f : Addr} {fd : FuncData} (F : Fun K "ascending" "ascending" sAsc f fd) (T : Nm3 mg) : FnOk P w K mg base CX0 1 f fd ["things"] (spAsc K) := by
  refine F.ok scA (fun vs H Q E h => ?_) (fun cdv A outer s H vs Q E hr h => ?_)
  · obtain ⟨a, xs, rfl, _⟩ := h
    rfl
  · obtain ⟨a, xs, rfl, ha, hl, k⟩ := h
    refine ⟨_, (pss_one (ps_ret (pe_callB (TSet.cr_sortedTexts rfl) (by rfl) T.n_sorted (by decide +kernel) (pa_cons (pe_callTy (TSet.cr_setS rfl) (by rfl) T.n_set (by decide +kernel) (pa_cons (pe_callTy (OwR.list_any rfl) (by rfl) T.n_list (by decide +kernel) (pa_cons (pv 0) pa_nil)) pa_nil)) pa_nil)))), ?_⟩
    have fin : ∀ l, H l = none → ∀ a2, (upd H l (.lst (xs.map V.str))) a2 = none → ∀ (ys : List Str) (p : Addr), ys.Perm (TSet.ded xs) → sortedS ys = true → (upd (upd H l (.lst (xs.map V.str))) a2 (TSet.TSO w a2 (TSet.ded xs))) p = none →
        Q (.ref p) (upd (upd (upd H l (.lst (xs.map V.str))) a2 (TSet.TSO w a2 (TSet.ded xs))) p (.lst (ys.map V.str))) := fun l h1 a2 h2 ys p pm srt h3 => by
      have s1 := Same.of_new (o := .lst (xs.map V.str)) h1
      have s2 := s1.trans (Same.of_new (o := TSet.TSO w a2 (TSet.ded xs)) h2)
      have s3 := s2.trans (Same.of_new (o := .lst (ys.map V.str)) h3)
      exact k ys p _ pm srt (s2.free h3) s3 upd_same
    have hb : xs.length < scanBound := Nat.lt_trans hl (by decide)
    have hd : (TSet.ded xs).length < 64 := Nat.lt_of_le_of_lt (TSet.ded_len xs) hl
    have rest : ∀ l, H l = none → ∃ (l0 : Addr) (zs : List Str), ([V.ref l] : List V) = [V.ref l0] ∧ SqL K (upd H l (.lst (xs.map V.str))) l0 (zs.map V.str) ∧ zs.length < scanBound ∧
        ∀ a2, (upd H l (.lst (xs.map V.str))) a2 = none → ∃ (a3 : Addr) (L : List Str), ([V.ref a2] : List V) = [V.ref a3] ∧ (upd (upd H l (.lst (xs.map V.str))) a2 (TSet.TSO w a2 (TSet.ded zs))) a3 = some (TSet.TSO w a3 L) ∧ L.length < 64 ∧
          ∀ (ys : List Str) (p : Addr), ys.Perm L → sortedS ys = true → (upd (upd H l (.lst (xs.map V.str))) a2 (TSet.TSO w a2 (TSet.ded zs))) p = none →
            Q (.ref p) (upd (upd (upd H l (.lst (xs.map V.str))) a2 (TSet.TSO w a2 (TSet.ded zs))) p (.lst (ys.map V.str))) := fun l h1 =>
      ⟨l, xs, rfl, SqL.of upd_same, hb, fun a2 h2 => ⟨a2, _, rfl, upd_same, hd, fun ys p pm srt h3 => fin l h1 a2 h2 ys p pm srt h3⟩⟩
    refine ⟨_, rfl, ?_⟩
    rcases ha with h | h | ⟨kvs, h, e⟩
    · exact .inl ⟨a, _, rfl, .inl h, rest⟩
    · exact .inl ⟨a, _, rfl, .inr h, rest⟩
    · refine .inr ⟨a, kvs, rfl, h, ?_⟩
      have ek : (kvs.map fun kv => kV kv.1) = xs.map V.str := by
        have q := congrArg (List.map kV) e
        rw [List.map_map, List.map_map] at q
        exact q
      rw [ek]
      exact rest
end
structure Chk (P : Program) (w : World) (K : PySem.W.Frag) (mg : Str → Option Value) (base : Heap) : Prop where
  nm : ∃ f fd, mg "is_name" = some (.ref f) ∧ Fun K "is_name" "is_name" sName f fd
  wi : ∃ f fd, mg "is_within" = some (.ref f) ∧ Fun K "is_within" "is_within" sWithin f fd
  as : ∃ f fd, mg "ascending" = some (.ref f) ∧ Fun K "ascending" "ascending" sAsc f fd
  T : Nm2 mg
  T3 : Nm3 mg
  T4 : Nm4 mg
section
variable {P : Program} {w : World} {K : PySem.W.Frag} {mg : Str → Option Value} {base : Heap}
theorem Chk.name (c : Chk P w K mg base) : ∃ f fd, mg "is_name" = some (.ref f) ∧ PySem.W.keepIn K (.ref f) = true ∧ Binds K fd ["value"] [] ∧ FnOk P w K mg base CX0 1 f fd ["value"] (spName K) := by
  obtain ⟨f, fd, g, F⟩ := c.nm
  exact ⟨f, fd, g, F.kp, F.binds fun _ _ _ _ _ _ us hl => match us, hl with | [_], _ => rfl, ok_name F c.T⟩
theorem Chk.within (c : Chk P w K mg base) : ∃ f fd, mg "is_within" = some (.ref f) ∧ PySem.W.keepIn K (.ref f) = true ∧ Binds K fd ["value", "least", "most"] [] ∧ FnOk P w K mg base CX0 1 f fd ["value", "least", "most"] (spWithin K) := by
  obtain ⟨f, fd, g, F⟩ := c.wi
  exact ⟨f, fd, g, F.kp, F.binds fun _ _ _ _ _ _ us hl => match us, hl with | [_, _, _], _ => rfl, ok_within F c.T⟩
theorem Chk.asc (c : Chk P w K mg base) : ∃ f fd, mg "ascending" = some (.ref f) ∧ PySem.W.keepIn K (.ref f) = true ∧ Binds K fd ["things"] [] ∧ FnOk P w K mg base CX0 1 f fd ["things"] (spAsc K) := by
  obtain ⟨f, fd, g, F⟩ := c.as
  exact ⟨f, fd, g, F.kp, F.binds fun _ _ _ _ _ _ us hl => match us, hl with | [_], _ => rfl, ok_asc F c.T3⟩
end
end K10
end
section
namespace K10
open PySem PySem.Spec PyProof.Rows L2
abbrev sBadName0 : Stmt := mth 3 0
abbrev sBadNumber0 : Stmt := mth 4 0
abbrev sBadQuota0 : Stmt := mth 5 0
abbrev sTooMany0 : Stmt := mth 6 0
/-- an own error class with one field f, as the code that raises it wants it -/
def Err1 (K : PySem.W.Frag) (mg : Str → Option Value) (x f : Str) (C : Addr) (q : Str) (st : Stmt) : Prop := ∃ (fI : Addr) (fd : FuncData), ErrT K mg x C fI ∧ PySem.W.findIn K (.ref C) f = some none ∧ Fun K "__init__" q st fI fd
structure QErrs (K : PySem.W.Frag) (mg : Str → Option Value) (CN CM CQ CT : Addr) : Prop where
  name : Err1 K mg "BadName" "value" CN "BadName.__init__" sBadName0
  number : Err1 K mg "BadNumber" "value" CM "BadNumber.__init__" sBadNumber0
  quota : Err1 K mg "BadQuota" "part" CQ "BadQuota.__init__" sBadQuota0
  many : Err1 K mg "TooMany" "what" CT "TooMany.__init__" sTooMany0
  most : PySem.W.findIn K (.ref CT) "most" = some none
section
variable {P : Program} {w : World} {K : PySem.W.Frag} {mg : Str → Option Value} {base : Heap}
theorem scBadName0 : FnScope ["self", "value"] ["self", "value"] (defScope sBadName0) := ⟨rfl, rfl, rfl, by decide +kernel, rfl, by decide +kernel, by decide +kernel⟩
theorem ok_BadName0 {f : Addr} {fd : FuncData} (F : Fun K "__init__" "BadName.__init__" sBadName0 f fd) : FnOk P w K mg base CX0 1 f fd ["self", "value"] (OwE.spErr1 K "value") := by
  refine F.ok scBadName0 (fun vs H Q E h => ?_) (fun cdv A outer s H vs Q E hr h => ?_)
  · obtain ⟨a, C, v, rfl, _⟩ := h
    rfl
  · obtain ⟨a, C, v, rfl, T, hno, ha, k⟩ := h
    refine ⟨_, (pss_one (ps_ost (pv 0) (pv 1))), ?_⟩
    exact ⟨_, rfl, _, rfl, a, C, rfl, T, hno, .inl ⟨ha, fun dx h1 h2 => k dx h1 h2⟩⟩
theorem scBadNumber0 : FnScope ["self", "value"] ["self", "value"] (defScope sBadNumber0) := ⟨rfl, rfl, rfl, by decide +kernel, rfl, by decide +kernel, by decide +kernel⟩
theorem ok_BadNumber0 {f : Addr} {fd : FuncData} (F : Fun K "__init__" "BadNumber.__init__" sBadNumber0 f fd) : FnOk P w K mg base CX0 1 f fd ["self", "value"] (OwE.spErr1 K "value") := by
  refine F.ok scBadNumber0 (fun vs H Q E h => ?_) (fun cdv A outer s H vs Q E hr h => ?_)
  · obtain ⟨a, C, v, rfl, _⟩ := h
    rfl
  · obtain ⟨a, C, v, rfl, T, hno, ha, k⟩ := h
    refine ⟨_, (pss_one (ps_ost (pv 0) (pv 1))), ?_⟩
    exact ⟨_, rfl, _, rfl, a, C, rfl, T, hno, .inl ⟨ha, fun dx h1 h2 => k dx h1 h2⟩⟩
theorem scBadQuota0 : FnScope ["self", "part"] ["self", "part"] (defScope sBadQuota0) := ⟨rfl, rfl, rfl, by decide +kernel, rfl, by decide +kernel, by decide +kernel⟩
theorem ok_BadQuota0 {f : Addr} {fd : FuncData} (F : Fun K "__init__" "BadQuota.__init__" sBadQuota0 f fd) : FnOk P w K mg base CX0 1 f fd ["self", "part"] (OwE.spErr1 K "part") := by
  refine F.ok scBadQuota0 (fun vs H Q E h => ?_) (fun cdv A outer s H vs Q E hr h => ?_)
  · obtain ⟨a, C, v, rfl, _⟩ := h
    rfl
  · obtain ⟨a, C, v, rfl, T, hno, ha, k⟩ := h
    refine ⟨_, (pss_one (ps_ost (pv 0) (pv 1))), ?_⟩
    exact ⟨_, rfl, _, rfl, a, C, rfl, T, hno, .inl ⟨ha, fun dx h1 h2 => k dx h1 h2⟩⟩
theorem scTooMany0 : FnScope ["self", "what", "most"] ["self", "what", "most"] (defScope sTooMany0) := ⟨rfl, rfl, rfl, by decide +kernel, rfl, by decide +kernel, by decide +kernel⟩
theorem ok_TooMany0 {f : Addr} {fd : FuncData} (F : Fun K "__init__" "TooMany.__init__" sTooMany0 f fd) : FnOk P w K mg base CX0 1 f fd ["self", "what", "most"] (OwE.spErr2 K "what" "most") := by
  refine F.ok scTooMany0 (fun vs H Q E h => ?_) (fun cdv A outer s H vs Q E hr h => ?_)
  · obtain ⟨a, C, v, u, rfl, _⟩ := h
    rfl
  · obtain ⟨a, C, v, u, rfl, T, hf, hg, ha, k⟩ := h
    refine ⟨_, (pss_cons (ps_ost (pv 0) (pv 1)) (pss_one (ps_ost (pv 0) (pv 2)))), ?_⟩
    refine ⟨_, rfl, _, rfl, a, C, rfl, T, hf, .inl ⟨ha, fun dx h1 h2 => ?_⟩⟩
    refine ⟨_, rfl, _, rfl, a, C, rfl, T, hg, .inr ⟨dx, _, upd_same, by rw [upd_ne h2, upd_same], by show (1 : Nat) ≤ 900; decide, ?_⟩⟩
    have e : upd (upd (upd H dx (exd dx [("what", v)])) a (exo a C (some dx))) dx (exd dx [("most", u), ("what", v)]) = upd (upd H dx (exd dx [("most", u), ("what", v)])) a (exo a C (some dx)) := by
      funext b
      by_cases e1 : b = dx
      · rw [e1, upd_same, upd_ne h2, upd_same]
      · rw [upd_ne e1]
        by_cases e2 : b = a
        · rw [e2, upd_same, upd_same]
        · rw [upd_ne e2, upd_ne e1, upd_ne e2, upd_ne e1]
    rw [e]
    exact k dx h1 h2
end
end K10
end
section
set_option pp.maxSteps 400
set_option pp.deepTerms.threshold 6
/-! Quotas: is_let, lets_sums, in, bounds, ==, len, kinds. -/
namespace K10
open PySem PySem.Spec PyProof.Rows L2
abbrev sIsLet : Stmt := top 24
abbrev sLets : Stmt := top 25
abbrev sQIn : Stmt := mth 18 6
abbrev sQBounds : Stmt := mth 18 3
abbrev sQEq : Stmt := mth 18 10
abbrev sQLen : Stmt := mth 18 7
abbrev sQKinds : Stmt := mth 18 2
/-- caps as tuples of a number and a tuple of texts -/
def CapAt1 (H : Hp) (k : Addr) (c : Int × List Str) : Prop := ∃ kp, H k = some (.tup [.int c.1, .ref kp]) ∧ H kp = some (.tup (c.2.map V.str))
structure CapsAt (H : Hp) (ks : List Addr) (cs : List (Int × List Str)) : Prop where
  len : ks.length = cs.length
  at_ : ∀ (i : Nat) (k : Addr) (c : Int × List Str), ks[i]? = some k → cs[i]? = some c → CapAt1 H k c
theorem CapsAt.get {H : Hp} {ks : List Addr} {cs : List (Int × List Str)} (h : CapsAt H ks cs) {i : Nat} {v : V} (e : (ks.map V.ref)[i]? = some v) : ∃ k c, v = .ref k ∧ ks[i]? = some k ∧ cs[i]? = some c ∧ CapAt1 H k c := by
  rw [List.getElem?_map] at e
  obtain ⟨k, hk, rfl⟩ := Option.map_eq_some_iff.mp e
  have hi : i < cs.length := by
    rw [← h.len]
    exact (List.getElem?_eq_some_iff.mp hk).1
  exact ⟨k, cs[i], rfl, hk, List.getElem?_eq_getElem hi, h.at_ i k _ hk (List.getElem?_eq_getElem hi)⟩
theorem CapAt1.mono {H H' : Hp} {k : Addr} {c : Int × List Str} (h : CapAt1 H k c) (s : ∀ k xs, H k = some (.tup xs) → H' k = some (.tup xs)) : CapAt1 H' k c := by
  obtain ⟨kp, e1, e2⟩ := h
  exact ⟨kp, s _ _ e1, s _ _ e2⟩
theorem CapsAt.mono {H H' : Hp} {ks : List Addr} {cs : List (Int × List Str)} (h : CapsAt H ks cs) (s : ∀ k xs, H k = some (.tup xs) → H' k = some (.tup xs)) : CapsAt H' ks cs := ⟨h.len, fun i k c e1 e2 => (h.at_ i k c e1 e2).mono s⟩
theorem CapsAt.same {H H' : Hp} {ks : List Addr} {cs : List (Int × List Str)} (h : CapsAt H ks cs) (s : Same H H') : CapsAt H' ks cs := h.mono fun _ _ e => s _ _ e
structure QuotaC (K : PySem.W.Frag) (C : Addr) : Prop where
  cls : Cls K C
  n1 : NoAttr K C "_text"
  n2 : NoAttr K C "_caps"
  n3 : NoAttr K C "_joints"
  n4 : NoAttr K C "_kinds"
/-- what a quota of this tree holds; other fields may stand beside -/
def QAt (C : Addr) (H : Hp) (a : Addr) (t : QT) : Prop := ∃ (dx : Addr) (fs : List (Str × V)) (cp jp kp : Addr) (cks : List Addr) (zs : List Str), H a = some (.ins C dx fs) ∧ fs.lookup ("_text" : Str) = some (.str t.text) ∧
  fs.lookup ("_caps" : Str) = some (.ref cp) ∧ H cp = some (.tup (cks.map V.ref)) ∧ CapsAt H cks t.caps ∧ fs.lookup ("_joints" : Str) = some (.ref jp) ∧ H jp = some (.tup (t.joints.map V.str)) ∧
  fs.lookup ("_kinds" : Str) = some (.ref kp) ∧ H kp = some (.tup (zs.map V.str)) ∧ zs.Nodup ∧ sortedS zs = true ∧ (∀ z, z ∈ zs ↔ z ∈ t.kinds) ∧ fs.lookup ("bounds" : Str) = none
theorem QAt.mono {C : Addr} {H H' : Hp} {a : Addr} {t : QT} (h : QAt C H a t) (s : ∀ k xs, H k = some (.tup xs) → H' k = some (.tup xs)) (s2 : ∀ k dx fs, H k = some (.ins C dx fs) → H' k = some (.ins C dx fs)) : QAt C H' a t := by
  obtain ⟨dx, fs, cp, jp, kp, cks, zs, h1, h2, h3, h4, h5, h6, h7, h8, h9, h10⟩ := h
  exact ⟨dx, fs, cp, jp, kp, cks, zs, s2 _ _ _ h1, h2, h3, s _ _ h4, h5.mono s, h6, s _ _ h7, h8, s _ _ h9, h10⟩
theorem QAt.same {C : Addr} {H H' : Hp} {a : Addr} {t : QT} (h : QAt C H a t) (s : Same H H') : QAt C H' a t := h.mono (fun _ _ e => s _ _ e) fun _ _ _ e => s _ _ e
theorem in_texts (z : Str) : ∀ xs : List Str, inV (.str z) (xs.map V.str) = decide (z ∈ xs)
  | [] => rfl
  | x :: r => by
    have ih := in_texts z r
    show (eqV (.str x) (.str z) || inV (.str z) (r.map V.str)) = _
    rw [ih]
    have e : eqV (.str x) (.str z) = decide (x = z) := by
      show (x == z) = _
      by_cases c : x = z
      · subst c
        simp
      · simp [c]
    rw [e]
    by_cases c : x = z
    · subst c
      simp
    · have : z ≠ x := fun q => c q.symm
      simp [c, this]
theorem flat_texts (xs : List Str) : (xs.map V.str).all flatV = true := by
  rw [List.all_map]
  exact List.all_eq_true.mpr fun x _ => rfl
/-! ### promises -/
def spIsLet (K : PySem.W.Frag) : Sp := fun vs H Q _ => ∃ (m j : Addr) (marks : List Bool) (joints : List Str) (b : Bool) (rest : List Bool), vs = [.ref m, .ref j] ∧ SqL K H m (marks.map V.bl) ∧ SqT K H j (joints.map V.str) ∧ joints.length ≤ 1000 ∧ runJ marks joints [] 0 = some (b :: rest) ∧ ∀ H', Same H H' → Q (.bl b) H'
def spLets (K : PySem.W.Frag) (C : Addr) : Sp := fun vs H Q _ => ∃ (q l : Addr) (t : QT) (ns : List Int) (b : Bool) (rest : List Bool), vs = [.ref q, .ref l] ∧ QAt C H q t ∧ SqL K H l (ns.map V.int) ∧ ns.length = t.caps.length ∧ t.caps.length ≤ 100 ∧ t.joints.length ≤ 1000 ∧ runJ ((ns.zip t.caps).map fun p => decide (p.1 ≤ p.2.1)) t.joints [] 0 = some (b :: rest) ∧ ∀ H', Same H H' → Q (.bl b) H'
def spQIn (K : PySem.W.Frag) (C : Addr) : Sp := fun vs H Q _ => ∃ (q x : Addr) (t : QT) (kvs : List (Key × V)) (N : Str → Option Int), vs = [.ref q, .ref x] ∧ QAt C H q t ∧ Rd H x (.dK kvs) ∧ TabOf kvs N ∧ t.caps.length ≤ 100 ∧ t.joints.length ≤ 1000 ∧ (∀ c ∈ t.caps, c.2.length ≤ 1000) ∧ ∀ H', Same H H' → Q (.bl (t.lets N)) H'
def spQBounds (C : Addr) : Sp := fun vs H Q _ => ∃ (q : Addr) (z : Str) (t : QT), vs = [.ref q, .str z] ∧ QAt C H q t ∧ t.caps.length ≤ 100 ∧ t.joints.length ≤ 1000 ∧ ∀ H', Same H H' → Q (.bl (t.bounds z)) H'
section
variable {P : Program} {w : World} {K : PySem.W.Frag} {mg : Str → Option Value} {base : Heap}
abbrev nIL : List Str := ["marks", "joints", "held", "at", "word", "second", "first"]
theorem scIL : FnScope nIL ["marks", "joints"] (defScope sIsLet) := ⟨rfl, rfl, rfl, by decide +kernel, rfl, by decide +kernel, by decide +kernel⟩
theorem ok_islet {f : Addr} {fd : FuncData} (F : Fun K "is_let" "is_let" sIsLet f fd) : FnOk P w K mg base CX0 1 f fd ["marks", "joints"] (spIsLet K) := by
  refine F.ok scIL (fun vs H Q E h => ?_) (fun cdv A outer s H vs Q E hr h => ?_)
  · obtain ⟨m, j, _, _, _, _, rfl, _⟩ := h
    rfl
  · obtain ⟨m, j, marks, joints, b, rest, rfl, sm, sj, lj, run, q⟩ := h
    refine ⟨_, (pss_cons (ps_set (i := 2) scIL.nd rfl (Or.inl rfl) (pe_lst pa_nil))
    (pss_cons (ps_set (i := 3) scIL.nd rfl (Or.inl rfl) pe_int)
    (pss_cons (ps_for PassesOwn.never rfl (pi_tup (pv 1)) (pg_name (i := 4) scIL.nd rfl (Or.inl rfl)) (pss_one (ps_if (pt_cmpR op_eq (pv 4) pe_str (nomark _)) (pss_cons (ps_expr (pe_bm PySem.F.plainAttrs_list PySem.F.slot_list_append PySem.F.type_list_append mt_append (pv 2) (pa_cons (pe_ix ix_list (pv 0) (pv 3) (fun _ _ => rfl)) pa_nil)))
    (pss_one (ps_set (i := 3) scIL.nd rfl (Or.inl rfl) (pe_op op_add (pv 3) pe_int)))) (pss_cons (ps_set (i := 5) scIL.nd rfl (Or.inl rfl) (pe_bm0 PySem.F.plainAttrs_list PySem.F.slot_list_pop PySem.F.type_list_pop mt_pop (pv 2)))
    (pss_cons (ps_set (i := 6) scIL.nd rfl (Or.inl rfl) (pe_bm0 PySem.F.plainAttrs_list PySem.F.slot_list_pop PySem.F.type_list_pop mt_pop (pv 2)))
    (pss_one (ps_expr (pe_bm PySem.F.plainAttrs_list PySem.F.slot_list_append PySem.F.type_list_append mt_append (pv 2) (pa_cons (pe_ifExp (pt_cmpR op_eq (pv 4) pe_str (nomark _)) (pe_and (pv 6) (pe_one (pv 5))) (pe_or (pv 6) (pe_one (pv 5)))) pa_nil)))))))))
    (pss_one (ps_ret (pe_ix ix_list (pv 2) pe_int (fun _ _ => rfl))))))), ?_⟩
    have sz := sizeLine_eq
    refine ⟨Nat.zero_le _, fun D hD => ?_⟩
    refine ⟨_, rfl, j, rfl, ⟨_, SqT.mono sj (Same.of_new hD)⟩, ?_⟩
    refine for_it (walk_tup (xs := joints.map V.str)) (fun i σ Hx => ∃ (held : List Bool) (at_ : Nat) (x4 x5 x6 : Option V), σ = [some (.ref m), some (.ref j), some (.ref D), some (.int (at_ : Nat)), x4, x5, x6] ∧ Same H Hx ∧ Hx D = some (.lst (held.map V.bl)) ∧ held.length ≤ i ∧ runJ marks (joints.drop i) held at_ = some (b :: rest))
      ⟨[], 0, none, none, none, rfl, Same.of_new hD, upd_same, Nat.le_refl 0, run⟩ (fun i σ Hx _ q => by obtain ⟨_, _, _, _, _, _, s1, _⟩ := q; exact SqT.mono sj s1) (fun i x σ Hx Hy hi q0 y => ?_) (fun σ Hx q0 => ?_)
    · obtain ⟨held, at_, x4, x5, x6, rfl, s1, eD, lh, run⟩ := q0
      obtain ⟨rfl, hx⟩ := y
      rw [List.getElem?_map] at hx
      obtain ⟨w, hw, rfl⟩ := Option.map_eq_some_iff.mp hx
      obtain ⟨hi2, ew⟩ := List.getElem?_eq_some_iff.mp hw
      have ed : joints.drop i = w :: joints.drop (i + 1) := by
        rw [← ew]
        exact List.drop_eq_getElem_cons hi2
      rw [ed] at run
      have kept : ∀ (l : List V), Same H (upd Hy D (.lst l)) := fun l y o e => by
        rw [upd_ne (ne_of_none e hD)]
        exact s1 y o e
      refine ⟨_, rfl, rfl, _, rfl, ?_⟩
      refine ite2 (fun c => ?_) (fun c => ?_)
      · have c := V.str.inj (of_decide_eq_true c)
        subst c
        rw [runJ, if_pos rfl] at run
        cases hm : marks[at_]? with
        | none =>
          rw [hm] at run
          cases run
        | some b1 =>
          rw [hm] at run
          refine ⟨_, rfl, .inl ⟨rfl, _, SqL.of eD⟩, _, rfl, _, rfl, m, _, ((at_ : Nat) : Int), .bl b1, rfl, rfl, SqL.mono sm s1, atI_nat (j := at_) (by rw [List.getElem?_map, hm]; rfl), D, _, _, rfl, rfl, eD, by rw [List.length_map]; omega, ?_⟩
          refine ⟨_, rfl, _, _, rfl, rfl, held ++ [b1], at_ + 1, _, _, _, rfl, kept _, by rw [List.map_append]; exact upd_same, by rw [List.length_append]; show held.length + 1 ≤ i + 1; omega, run⟩
      · have nw : w ≠ "cap" := fun e => c (by rw [e]; exact decide_eq_true rfl)
        rw [runJ, if_neg nw] at run
        match hh : held.reverse with
        | [] =>
          rw [hh] at run
          cases run
        | [_] =>
          rw [hh] at run
          cases run
        | y :: x :: r2 =>
          rw [hh] at run
          have eh : held = r2.reverse ++ [x] ++ [y] := by
            have := congrArg List.reverse hh
            rw [List.reverse_reverse] at this
            rw [this]
            simp
          subst eh
          have e1 : (List.map V.bl (r2.reverse ++ [x] ++ [y]))[(List.map V.bl (r2.reverse ++ [x] ++ [y])).length - 1]? = some (.bl y) := by simp
          have d1 : (List.map V.bl (r2.reverse ++ [x] ++ [y])).dropLast = List.map V.bl (r2.reverse ++ [x]) := by
            rw [List.map_append (l₁ := r2.reverse ++ [x])]
            exact List.dropLast_concat
          have e2 : (List.map V.bl (r2.reverse ++ [x]))[(List.map V.bl (r2.reverse ++ [x])).length - 1]? = some (.bl x) := by simp
          have d2 : (List.map V.bl (r2.reverse ++ [x])).dropLast = List.map V.bl r2.reverse := by
            rw [List.map_append]
            exact List.dropLast_concat
          have le : r2.length + 2 ≤ i := by simp at lh; omega
          refine ⟨_, rfl, .inl ⟨rfl, _, SqL.of eD⟩, D, _, .bl y, rfl, rfl, eD, e1, ?_⟩
          rw [d1]
          refine ⟨_, rfl, .inl ⟨rfl, _, SqL.of upd_same⟩, D, _, .bl x, rfl, rfl, upd_same, e2, ?_⟩
          rw [d2]
          have fin : ∀ b2 : Bool, b2 = (if w = "both" then x && y else x || y) → ∃ l xs v, V.ref D = .ref l ∧ [V.bl b2] = [v] ∧ upd (upd Hy D (.lst (List.map V.bl (r2.reverse ++ [x])))) D (.lst (List.map V.bl r2.reverse)) l = some (.lst xs) ∧ xs.length < sizeLine ∧ ∃ (held : List Bool) (at_' : Nat) (x4 x5 x6 : Option V), [some (.ref m), some (.ref j), some (.ref D), some (.int (at_ : Nat)), some (.str w), some (.bl y), some (.bl x)] = [some (.ref m), some (.ref j), some (.ref D), some (.int (at_' : Nat)), x4, x5, x6] ∧ Same H (upd (upd (upd Hy D (.lst (List.map V.bl (r2.reverse ++ [x])))) D (.lst (List.map V.bl r2.reverse))) l (.lst (xs ++ [v]))) ∧ upd (upd (upd Hy D (.lst (List.map V.bl (r2.reverse ++ [x])))) D (.lst (List.map V.bl r2.reverse))) l (.lst (xs ++ [v])) D = some (.lst (held.map V.bl)) ∧ held.length ≤ i + 1 ∧ runJ marks (joints.drop (i + 1)) held at_' = some (b :: rest) := fun b2 e => by
            refine ⟨D, _, _, rfl, rfl, upd_same, by rw [List.length_map, List.length_reverse]; omega, r2.reverse ++ [b2], at_, _, _, _, rfl, fun y o e => ?_, by rw [show List.map V.bl (r2.reverse ++ [b2]) = List.map V.bl r2.reverse ++ [V.bl b2] from List.map_append]; exact upd_same, by rw [List.length_append, List.length_reverse]; show r2.length + 1 ≤ i + 1; omega, by rw [e]; exact run⟩
            have ny := ne_of_none e hD
            rw [upd_ne ny, upd_ne ny, upd_ne ny]
            exact s1 y o e
          refine ⟨_, rfl, .inl ⟨rfl, _, SqL.of upd_same⟩, _, rfl, rfl, _, rfl, ?_⟩
          refine ite2 (fun c2 => ?_) (fun c2 => ?_)
          · have c2 := V.str.inj (of_decide_eq_true c2)
            refine ⟨_, rfl, x, rfl, ?_⟩
            cases x with
            | true => exact iteT ⟨_, rfl, fin y (by rw [if_pos c2]; rfl)⟩
            | false => exact iteF (fin false (by rw [if_pos c2]; rfl))
          · have c2 : w ≠ "both" := fun e => c2 (by rw [e]; exact decide_eq_true rfl)
            refine ⟨_, rfl, x, rfl, ?_⟩
            cases x with
            | true => exact iteT (fin true (by rw [if_neg c2]; rfl))
            | false => exact iteF ⟨_, rfl, fin y (by rw [if_neg c2]; rfl)⟩
    · obtain ⟨held, at_, x4, x5, x6, rfl, s1, eD, lh, run⟩ := q0
      rw [List.length_map, List.drop_length, runJ] at run
      have e := Option.some.inj run
      subst e
      exact ⟨_, rfl, D, _, 0, .bl b, rfl, rfl, SqL.of eD, atI_nat (j := 0) rfl, q _ s1⟩
abbrev nLS : List Str := ["quota", "sums", "number", "most", "kinds"]
theorem scLS : FnScope nLS ["quota", "sums"] (defScope sLets) := ⟨rfl, rfl, rfl, by decide +kernel, rfl, by decide +kernel, by decide +kernel⟩
theorem ok_lets {C f fL : Addr} {fd fdL : FuncData} (hc : QuotaC K C) (F : Fun K "lets_sums" "lets_sums" sLets f fd) (FL : Fun K "is_let" "is_let" sIsLet fL fdL) (gL : mg "is_let" = some (.ref fL)) (n_zip : mg "zip" = none) : FnOk P w K mg base CX0 2 f fd ["quota", "sums"] (spLets K C) := by
  have GL : FnOk P w K mg base CX0 1 fL fdL ["marks", "joints"] (spIsLet K) := ok_islet FL
  have bL : Binds K fdL ["marks", "joints"] [] := FL.binds fun _ _ _ _ _ _ us hl => match us, hl with | [_, _], _ => rfl
  refine F.ok scLS (fun vs H Q E h => ?_) (fun cdv A outer s H vs Q E hr h => ?_)
  · obtain ⟨q, l, _, _, _, _, rfl, _⟩ := h
    rfl
  · obtain ⟨q, l, t, ns, b, rest, rfl, hq, sl, ln, lc, lj, run, k⟩ := h
    obtain ⟨dx, fs, cp, jp, kp, cks, zs, h1, h2, h3, h4, h5, h6, h7, h8, h9, h10⟩ := hq
    refine ⟨_, (pss_one (ps_ret (pe_call GL hr (by rfl) gL FL.kp bL .nil pass0 (pa_cons (pe_lc (own := [("number", 2), ("most", 3), ("kinds", 4)]) (g := (gTup K 2 (gCons (gName 2) (gCons (gTup K 2 (gCons (gName 3) (gCons (gName 4) gNil))) gNil)))) (by rfl) scLS.nd (OwZ.pi_zipM (by rfl) n_zip (pa_cons (pv 1) (pa_cons (pe_fld (pv 0) rfl) pa_nil))) (blkOk_by (own := [("number", 2), ("most", 3), ("kinds", 4)]) (N := nLS) (sc := defScope sLets) (by decide +kernel)) (fun _ _ _ _ _ => (pg_tup rfl (pgs_cons (pg_name (i := 2) scLS.nd rfl (Or.inl rfl)) (pgs_cons (pg_tup rfl (pgs_cons (pg_name (i := 3) scLS.nd rfl (Or.inl rfl)) (pgs_cons (pg_name (i := 4) scLS.nd rfl (Or.inl rfl)) pgs_nil))) pgs_nil)))) (fun _ _ _ _ _ => pts_nil) (fun _ _ _ _ _ => (pe_cmpR op_le (pv 2) (pv 3) (nomark _)))) (pa_cons (pe_fld (pv 0) rfl) pa_nil))))), ?_⟩
    have sz := sizeLine_eq
    refine ⟨_, rfl, _, rfl, q, C, dx, fs, .ref cp, rfl, h1, hc.cls, hc.n2, h3, l, cp, ns.map V.int, cks.map V.ref, rfl, sl, SqT.of h4, fun D hD => ?_⟩
    have lk := h5.len
    refine lc_it (OwZ.walkM (K := K) (a := l) (b := cp) (xs := ns.map V.int) (ys := cks.map V.ref) (n := t.caps.length) (by rw [List.length_map, List.length_map, lk, ln, Nat.min_self])) (fun i Hx => Same H Hx ∧ Hx D = some (.lst ((((ns.zip t.caps).take i).map fun p => decide (p.1 ≤ p.2.1)).map V.bl))) ⟨Same.of_new hD, upd_same⟩ (fun i Hx _ q => ⟨SqL.mono sl q.1, SqT.of (q.1 _ _ h4)⟩) (fun i x Hx Hy hi q0 y => ?_) (fun Hx q0 => ?_)
    · obtain ⟨s1, eD⟩ := q0
      obtain ⟨T, x1, y1, rfl, hT, rfl, hx, hy⟩ := y
      have hx : (ns.map V.int)[i]? = some x1 := hx
      have hy : (cks.map V.ref)[i]? = some y1 := hy
      rw [List.getElem?_map] at hx
      obtain ⟨n1, hn, rfl⟩ := Option.map_eq_some_iff.mp hx
      obtain ⟨k1, c1, rfl, hk, hci, kp1, t1, t2⟩ := (h5.same s1).get hy
      have sT := Same.of_new (o := .tup [.int n1, .ref k1]) hT
      have ez : (ns.zip t.caps)[i]? = some (n1, c1) := by
        rw [List.getElem?_zip_eq_some]
        exact ⟨hn, hci⟩
      refine ⟨T, _, rfl, .inl (.inl upd_same), rfl, _, _, rfl, _, _, rfl, ⟨k1, _, rfl, .inl (.inl (sT _ _ t1)), rfl, _, _, rfl, _, _, rfl, ?_⟩⟩
      refine ⟨rfl, rfl, rfl, ?_⟩
      refine ⟨_, rfl, _, rfl, _, _, rfl, rfl, ?_⟩
      have eD2 := upd_keep2 (o := .tup [.int n1, .ref k1]) eD hT
      refine ⟨_, eD2, ?_, fun y o e => ?_, ?_⟩
      · rw [List.length_map, List.length_map, List.length_take]
        omega
      · rw [upd_ne (ne_of_none e hD)]
        exact upd_keep2 (s1 y o e) hT
      · rw [List.take_add_one, ez, List.map_append, List.map_append]
        exact upd_same
    · obtain ⟨s1, eD⟩ := q0
      have el : (ns.zip t.caps).length = t.caps.length := by rw [List.length_zip, ln, Nat.min_self]
      rw [← el, List.take_length] at eD
      refine ⟨_, rfl, q, C, dx, fs, .ref jp, rfl, s1 _ _ h1, hc.cls, hc.n3, h6, D, jp, _, t.joints, b, rest, rfl, SqL.of eD, SqT.of (s1 _ _ h7), lj, run, fun H' s2 => k H' (s1.trans s2)⟩
abbrev nQI : List Str := ["self", "x", "kind", "most", "kinds"]
theorem scQI : FnScope nQI ["self", "x"] (defScope sQIn) := ⟨rfl, rfl, rfl, by decide +kernel, rfl, by decide +kernel, by decide +kernel⟩
theorem sums_lets (N : Str → Option Int) (cs : List (Int × List Str)) : ((cs.map fun c => sumOf N c.2).zip cs).map (fun p => decide (p.1 ≤ p.2.1)) = cs.map fun c => decide (sumOf N c.2 ≤ c.1) := by
  induction cs with
  | nil => rfl
  | cons c r ih =>
    rw [List.map_cons, List.zip_cons_cons, List.map_cons, List.map_cons, ih]
theorem sum_snoc (a : List Int) (b : Int) : (a ++ [b]).sum = a.sum + b := by simp
/-- the counts of the kinds that a table tells -/
def toldOf (N : Str → Option Int) (ks : List Str) : List Int := ks.filterMap N
theorem told_sum (N : Str → Option Int) : ∀ ks : List Str, (toldOf N ks).sum = sumOf N ks
  | [] => rfl
  | z :: r => by
    have ih := told_sum N r
    unfold toldOf sumOf at *
    rw [List.filterMap_cons, List.map_cons, List.sum_cons]
    cases e : N z with
    | none =>
      simp only [Option.getD_none, Int.zero_add]
      exact ih
    | some v =>
      simp only [Option.getD_some, List.sum_cons]
      rw [ih]
theorem ok_qin {C f fS fL : Addr} {fd fdS fdL : FuncData} (hc : QuotaC K C) (F : Fun K "__contains__" "Quota.__contains__" sQIn f fd) (FS : Fun K "lets_sums" "lets_sums" sLets fS fdS) (gS : mg "lets_sums" = some (.ref fS)) (FL : Fun K "is_let" "is_let" sIsLet fL fdL) (gL : mg "is_let" = some (.ref fL)) (n_zip : mg "zip" = none) (n_sum : mg "sum" = none) : FnR P w K mg base CX0 3 f (spQIn K C) := by
  have GS : FnOk P w K mg base CX0 2 fS fdS ["quota", "sums"] (spLets K C) := ok_lets hc FS FL gL n_zip
  have bS : Binds K fdS ["quota", "sums"] [] := FS.binds fun _ _ _ _ _ _ us hl => match us, hl with | [_, _], _ => rfl
  refine OwR.raw0 (F.ok (k := 2) (ps := ["self", "x"]) scQI (fun vs H Q E h => ?_) (fun cdv A outer s H vs Q E hr h => ?_)) (F.binds fun _ _ _ _ _ _ us hl => match us, hl with | [_, _], _ => rfl)
  · obtain ⟨q, x, _, _, _, rfl, _⟩ := h
    rfl
  · obtain ⟨q, x, t, kvs, N, rfl, hq, hx, tb, lc, lj, lks, k⟩ := h
    obtain ⟨dx, fs, cp, jp, kp, cks, zs, h1, h2, h3, h4, h5, h6, h7, h8, h9, h10⟩ := id hq
    have hu : (A.deeper (envOfC "Quota.__contains__" (defScope sQIn) s.heap.objs.size f cdv)).units + 1 < cLine := by have := hr.units; omega
    refine ⟨_, (pss_one (ps_ret (pe_call GS hr (by rfl) gS FS.kp bS .nil pass0 (pa_cons (pv 0) (pa_cons (pe_lc (own := [("most", 3), ("kinds", 4)]) (g := (gTup K 2 (gCons (gName 3) (gCons (gName 4) gNil)))) (by rfl) scQI.nd (pi_tup (pe_fld (pv 0) rfl)) (blkOk_by (own := [("most", 3), ("kinds", 4)]) (N := nQI) (sc := defScope sQIn) (by decide +kernel)) (fun _ _ _ _ _ => (pg_tup rfl (pgs_cons (pg_name (i := 3) scQI.nd rfl (Or.inl rfl)) (pgs_cons (pg_name (i := 4) scQI.nd rfl (Or.inl rfl)) pgs_nil)))) (fun _ _ _ _ _ => pts_nil) (fun _ _ _ _ _ => (pe_callB (id := "sum") (r := rSum K) (cr_sum rfl) (by rfl) n_sum (by decide +kernel) (pa_cons (pe_lc (own := [("kind", 2)]) (wi := iTup K (tVar 4)) (by rfl) scQI.nd (pi_tup (pv 4)) (blkOk_by (own := [("kind", 2)]) (N := nQI) (by rfl)) (fun _ _ _ _ _ => (pg_name (i := 2) scQI.nd rfl (Or.inl rfl))) (fun _ _ _ _ _ => pts_one (pt_cmp (pc_din hu (pv 2) (pv 1)))) (fun _ _ _ _ _ => (pe_dget hu (pv 1) (pv 2) (fun _ _ => rfl)))) pa_nil)))) pa_nil))))), ?_⟩
    have sz := sizeLine_eq
    have lk := h5.len
    refine ⟨_, rfl, _, rfl, q, C, dx, fs, .ref cp, rfl, h1, hc.cls, hc.n2, h3, cp, rfl, ⟨_, SqT.of h4⟩, fun D hD => ?_⟩
    refine lc_it (walk_tup (xs := cks.map V.ref)) (fun i Hx => Same H Hx ∧ Hx D = some (.lst (((t.caps.take i).map fun c => sumOf N c.2).map V.int))) ⟨Same.of_new hD, upd_same⟩ (fun i Hx _ q => SqT.of (q.1 _ _ h4)) (fun i x1 Hx Hy hi q0 y => ?_) (fun Hx q0 => ?_)
    · obtain ⟨s1, eD⟩ := q0
      obtain ⟨rfl, hx1⟩ := y
      obtain ⟨k1, c1, rfl, hk, hci, kp1, t1, t2⟩ := (h5.same s1).get hx1
      have mc := List.mem_of_getElem? hci
      have lz := lks c1 mc
      refine ⟨k1, _, rfl, .inl (.inl t1), rfl, _, _, rfl, _, _, rfl, rfl, rfl, ?_⟩
      refine ⟨_, rfl, kp1, rfl, ⟨_, SqT.of t2⟩, fun D2 hD2 => ?_⟩
      refine lc_it (walk_tup (xs := c1.2.map V.str)) (fun j Hz => Same Hy Hz ∧ Hz D2 = some (.lst ((toldOf N (c1.2.take j)).map V.int)) ∧ (toldOf N (c1.2.take j)).length ≤ j) ⟨Same.of_new hD2, upd_same, Nat.le_refl 0⟩ (fun j Hz _ q => SqT.of (q.1 _ _ t2)) (fun j x2 Hz Hw hj q1 y => ?_) (fun Hz q1 => ?_)
      · obtain ⟨s2, eD2, l2⟩ := q1
        obtain ⟨rfl, hx2⟩ := y
        rw [List.getElem?_map] at hx2
        obtain ⟨z, hz, rfl⟩ := Option.map_eq_some_iff.mp hx2
        rw [List.length_map] at hj
        have g := tb.get (Same.rd (s1.trans s2) hx) z
        have et : toldOf N (c1.2.take (j + 1)) = toldOf N (c1.2.take j) ++ (N z).toList := by
          unfold toldOf
          rw [List.take_add_one, hz, List.filterMap_append]
          cases hN : N z <;> simp [hN]
        refine ⟨rfl, ?_⟩
        refine ⟨_, rfl, _, rfl, x, _, rfl, g, _, rfl, ?_⟩
        cases hN : N z with
        | none =>
          rw [hN] at et
          refine iteF ⟨s2, ?_, ?_⟩
          · rw [et]
            simp only [Option.toList_none, List.append_nil]
            exact eD2
          · rw [et]
            simp only [Option.toList_none, List.append_nil]
            omega
        | some v =>
          rw [hN] at et g
          refine iteT ⟨_, rfl, _, rfl, x, .int v, rfl, g, ?_⟩
          refine ⟨_, eD2, by rw [List.length_map]; omega, fun y o e => ?_, ?_, ?_⟩
          · rw [upd_ne (ne_of_none e hD2)]
            exact s2 y o e
          · rw [et, List.map_append]
            exact upd_same
          · rw [et, List.length_append]
            show _ + 1 ≤ j + 1
            omega
      · obtain ⟨s2, eD2, l2⟩ := q1
        rw [List.length_map, List.take_length] at eD2
        refine ⟨D2, toldOf N c1.2, rfl, SqL.of eD2, ?_⟩
        rw [told_sum]
        have eD3 := s2 _ _ eD
        refine ⟨_, eD3, ?_, fun y o e => ?_, ?_⟩
        · rw [List.length_map, List.length_map, List.length_take]
          omega
        · rw [upd_ne (ne_of_none e hD)]
          exact s2 y o (s1 y o e)
        · rw [List.take_add_one, hci, List.map_append, List.map_append]
          exact upd_same
    · obtain ⟨s1, eD⟩ := q0
      rw [List.length_map, lk, List.take_length] at eD
      refine ⟨q, D, t, t.caps.map (fun c => sumOf N c.2), t.lets N, [], rfl, hq.same s1, SqL.of eD, by rw [List.length_map], lc, lj, ?_, fun H' s2 => k H' (s1.trans s2)⟩
      rw [sums_lets]
      exact run_all (fun c => decide (sumOf N c.2 ≤ c.1)) t
abbrev nQB : List Str := ["self", "kind", "most", "kinds"]
theorem scQB : FnScope nQB ["self", "kind"] (defScope sQBounds) := ⟨rfl, rfl, rfl, by decide +kernel, rfl, by decide +kernel, by decide +kernel⟩
theorem ok_qbounds {C f fL : Addr} {fd fdL : FuncData} (hc : QuotaC K C) (F : Fun K "bounds" "Quota.bounds" sQBounds f fd) (FL : Fun K "is_let" "is_let" sIsLet fL fdL) (gL : mg "is_let" = some (.ref fL)) : FnOk P w K mg base CX0 2 f fd ["self", "kind"] (spQBounds C) := by
  have GL : FnOk P w K mg base CX0 1 fL fdL ["marks", "joints"] (spIsLet K) := ok_islet FL
  have bL : Binds K fdL ["marks", "joints"] [] := FL.binds fun _ _ _ _ _ _ us hl => match us, hl with | [_, _], _ => rfl
  refine F.ok scQB (fun vs H Q E h => ?_) (fun cdv A outer s H vs Q E hr h => ?_)
  · obtain ⟨q, z, _, rfl, _⟩ := h
    rfl
  · obtain ⟨q, z, t, rfl, hq, lc, lj, k⟩ := h
    obtain ⟨dx, fs, cp, jp, kp, cks, zs, h1, h2, h3, h4, h5, h6, h7, h8, h9, h10⟩ := id hq
    refine ⟨_, (pss_one (ps_ret (pe_not (pe_call GL hr (by rfl) gL FL.kp bL .nil pass0 (pa_cons (pe_lc (own := [("most", 2), ("kinds", 3)]) (g := (gTup K 2 (gCons (gName 2) (gCons (gName 3) gNil)))) (by rfl) scQB.nd (pi_tup (pe_fld (pv 0) rfl)) (blkOk_by (own := [("most", 2), ("kinds", 3)]) (N := nQB) (sc := defScope sQBounds) (by decide +kernel)) (fun _ _ _ _ _ => (pg_tup rfl (pgs_cons (pg_name (i := 2) scQB.nd rfl (Or.inl rfl)) (pgs_cons (pg_name (i := 3) scQB.nd rfl (Or.inl rfl)) pgs_nil)))) (fun _ _ _ _ _ => pts_nil) (fun _ _ _ _ _ => (pe_cmpR (r := rIn K true) op_notIn_seq (pv 1) (pv 3) (by rfl)))) (pa_cons (pe_fld (pv 0) rfl) pa_nil)))))), ?_⟩
    have sz := sizeLine_eq
    have lk := h5.len
    refine ⟨_, rfl, q, C, dx, fs, .ref cp, rfl, h1, hc.cls, hc.n2, h3, cp, rfl, ⟨_, SqT.of h4⟩, fun D hD => ?_⟩
    refine lc_it (walk_tup (xs := cks.map V.ref)) (fun i Hx => Same H Hx ∧ Hx D = some (.lst (((t.caps.take i).map fun c => !decide (z ∈ c.2)).map V.bl))) ⟨Same.of_new hD, upd_same⟩ (fun i Hx _ q => SqT.of (q.1 _ _ h4)) (fun i x1 Hx Hy hi q0 y => ?_) (fun Hx q0 => ?_)
    · obtain ⟨s1, eD⟩ := q0
      obtain ⟨rfl, hx1⟩ := y
      obtain ⟨k1, c1, rfl, hk, hci, kp1, t1, t2⟩ := (h5.same s1).get hx1
      refine ⟨k1, _, rfl, .inl (.inl t1), rfl, _, _, rfl, _, _, rfl, rfl, rfl, ?_⟩
      refine ⟨_, rfl, _, rfl, kp1, _, rfl, .inr (SqT.of t2), rfl, flat_texts _, ?_⟩
      rw [if_pos rfl, in_texts]
      refine ⟨_, eD, ?_, fun y o e => ?_, ?_⟩
      · rw [List.length_map, List.length_map, List.length_take]
        omega
      · rw [upd_ne (ne_of_none e hD)]
        exact s1 y o e
      · rw [List.take_add_one, hci, List.map_append, List.map_append]
        exact upd_same
    · obtain ⟨s1, eD⟩ := q0
      rw [List.length_map, lk, List.take_length] at eD
      refine ⟨_, rfl, q, C, dx, fs, .ref jp, rfl, s1 _ _ h1, hc.cls, hc.n3, h6, D, jp, _, t.joints, _, [], rfl, SqL.of eD, SqT.of (s1 _ _ h7), lj, run_all (fun c => !decide (z ∈ c.2)) t, fun H' s2 => ⟨_, rfl, k H' (s1.trans s2)⟩⟩
/-- a class of quotas -/
structure QKind (K : PySem.W.Frag) (CQ C : Addr) : Prop where
  qc : QuotaC K C
  cl : PySem.W.findIn K (.ref C) "__class__" = some (some (.builtin "object.__class__"))
  cg : PySem.W.specialIn K (.builtin "object.__class__") "__get__" = some (some (.builtin "getset_descriptor.__get__"))
  ct : PySem.W.takesIn K (.builtin "object.__class__") = some true
  ob : PySem.W.mroIn K C (.type "object") = some true
  sub : PySem.W.kitOne K (.ref C) (.ref CQ) = some true
theorem QKind.ty {K : PySem.W.Frag} {CQ C : Addr} (k : QKind K CQ C) {H : Hp} {a dx : Addr} {fs : List (Str × V)} (e : H a = some (.ins C dx fs)) : TyX K H (.ref a) (.ref C) := .base (.ins e k.qc.cls k.cl k.cg k.ct k.ob)
def AnyQ (K : PySem.W.Frag) (CQ : Addr) (H : Hp) (a : Addr) (t : QT) : Prop := ∃ C, QKind K CQ C ∧ QAt C H a t
def spQEq (K : PySem.W.Frag) (CQ : Addr) : Sp := fun vs H Q _ => ∃ (a b : Addr) (t u : QT), vs = [.ref a, .ref b] ∧ AnyQ K CQ H a t ∧ AnyQ K CQ H b u ∧ Q (.bl (decide (t.text = u.text))) H
def spQEqO (K : PySem.W.Frag) (CQ : Addr) : Sp := fun vs H Q _ => ∃ (a : Addr) (y : V) (t : Value), vs = [.ref a, y] ∧ TyX K H y t ∧ PySem.W.kitOne K t (.ref CQ) = some false ∧ Q (.bl false) H
theorem scQE : FnScope ["self", "other"] ["self", "other"] (defScope sQEq) := ⟨rfl, rfl, rfl, by decide +kernel, rfl, by decide +kernel, by decide +kernel⟩
theorem ok_qeq {CQ f : Addr} {fd : FuncData} (F : Fun K "__eq__" "Quota.__eq__" sQEq f fd) (T : Nm2 mg) (gQ : mg "Quota" = some (.ref CQ)) : FnR P w K mg base CX0 1 f (spQEq K CQ) := by
  refine OwR.raw0 (F.ok (k := 0) (ps := ["self", "other"]) scQE (fun vs H Q E h => ?_) (fun cdv A outer s H vs Q E hr h => ?_)) (F.binds fun _ _ _ _ _ _ us hl => match us, hl with | [_, _], _ => rfl)
  · obtain ⟨a, b, t, u, rfl, _⟩ := h
    rfl
  · obtain ⟨a, b, t, u, rfl, ⟨C, k1, dx, fs, _, _, _, _, _, ea, lk, _⟩, ⟨D, k2, dy, gs, _, _, _, _, _, eb, lk2, _⟩, q⟩ := h
    refine ⟨_, (pss_one (ps_ret (pe_and (pe_callB call_isi (by rfl) T.n_isinstance (by decide +kernel) (pa_cons (pv 1) (pa_cons (pe_glob (v := .ref CQ) rfl gQ rfl) pa_nil))) (pe_one (pe_cmpR op_eq (pe_fld (pv 0) rfl) (pe_fld (pv 1) rfl) (nomark _)))))), ?_⟩
    refine ⟨_, rfl, .ref b, .ref CQ, _, _, true, rfl, .own _, k2.ty eb, k2.sub, true, rfl, ?_⟩
    refine iteT ?_
    refine ⟨_, rfl, a, C, dx, fs, _, rfl, ea, k1.qc.cls, k1.qc.n1, lk, _, rfl, b, D, dy, gs, _, rfl, eb, k2.qc.cls, k2.qc.n1, lk2, rfl, ?_⟩
    rw [show (decide (V.str t.text = V.str u.text)) = decide (t.text = u.text) from decide_eq_decide.mpr ⟨fun h => V.str.inj h, fun h => h ▸ rfl⟩]
    exact q
theorem ok_qeqO {CQ f : Addr} {fd : FuncData} (F : Fun K "__eq__" "Quota.__eq__" sQEq f fd) (T : Nm2 mg) (gQ : mg "Quota" = some (.ref CQ)) : FnR P w K mg base CX0 1 f (spQEqO K CQ) := by
  refine OwR.raw0 (F.ok (k := 0) (ps := ["self", "other"]) scQE (fun vs H Q E h => ?_) (fun cdv A outer s H vs Q E hr h => ?_)) (F.binds fun _ _ _ _ _ _ us hl => match us, hl with | [_, _], _ => rfl)
  · obtain ⟨a, y, t, rfl, _⟩ := h
    rfl
  · obtain ⟨a, y, t, rfl, ty, kt, q⟩ := h
    refine ⟨_, (pss_one (ps_ret (pe_and (pe_callB call_isi (by rfl) T.n_isinstance (by decide +kernel) (pa_cons (pv 1) (pa_cons (pe_glob (v := .ref CQ) rfl gQ rfl) pa_nil))) (pe_one (pe_cmpR op_eq (pe_fld (pv 0) rfl) (pe_fld (pv 1) rfl) (nomark _)))))), ?_⟩
    refine ⟨_, rfl, y, .ref CQ, t, _, false, rfl, .own _, ty, kt, false, rfl, ?_⟩
    exact iteF q
theorem scQL : FnScope ["self"] ["self"] (defScope sQLen) := ⟨rfl, rfl, rfl, by decide +kernel, rfl, by decide +kernel, by decide +kernel⟩
theorem ok_qlen {C f : Addr} {fd : FuncData} (hc : QuotaC K C) (F : Fun K "__len__" "Quota.__len__" sQLen f fd) (T : Nm2 mg) : FnR P w K mg base CX0 1 f (OwR.spLn C K "_caps") := by
  refine OwR.raw0 (F.ok (k := 0) (ps := ["self"]) scQL (fun vs H Q E h => ?_) (fun cdv A outer s H vs Q E hr h => ?_)) (F.binds fun _ _ _ _ _ _ us hl => match us, hl with | [_], _ => rfl)
  · obtain ⟨a, dx, l, fs, zs, rfl, _⟩ := h
    rfl
  · obtain ⟨a, dx, l, fs, zs, rfl, ha, hf, sq, q⟩ := h
    refine ⟨_, (pss_one (ps_ret (pe_callB call_len_seq (by rfl) T.n_len boot_len (pa_cons (pe_fld (pv 0) rfl) pa_nil)))), ?_⟩
    exact ⟨_, rfl, a, C, dx, fs, .ref l, rfl, ha, hc.cls, hc.n2, hf, l, zs, rfl, .inr sq, q⟩
theorem scQK : FnScope ["self"] ["self"] (defScope sQKinds) := ⟨rfl, rfl, rfl, by decide +kernel, rfl, by decide +kernel, by decide +kernel⟩
theorem ok_qkinds {C f : Addr} {fd : FuncData} (hc : QuotaC K C) (F : Fun K "kinds" "Quota.kinds" sQKinds f fd) : FnOk P w K mg base CX0 1 f fd ["self"] (getSp C "_kinds") := by
  refine F.ok scQK (fun vs H Q E h => ?_) (fun cdv A outer s H vs Q E hr h => ?_)
  · obtain ⟨a, dx, fs, v, rfl, _⟩ := h
    rfl
  · obtain ⟨a, dx, fs, v, rfl, ha, hl, q⟩ := h
    refine ⟨_, (pss_one (ps_ret (pe_fld (pv 0) rfl))), ?_⟩
    exact ⟨_, rfl, a, C, dx, fs, v, rfl, ha, hc.cls, hc.n4, hl, q⟩
end
end K10
end
section
set_option pp.maxSteps 400
set_option pp.deepTerms.threshold 6
/-! Quota.__init__, check_names, Cap.__init__ with what it refuses. -/
namespace OwR
open PySem PySem.Spec PyProof.Rows L2
/-- a walk, whatever is done at a turn -/
theorem any_itQ {J : It} {n : Nat} {G : Hp → Prop} {Y : Nat → Hp → V → Hp → Prop} (w : Walk J n G Y) {B : (Hp → Prop) → V → Hp → Prop} {H0 : Hp} {Qd : Hp → Prop} (Pv : Nat → Hp → Prop) (h0 : Pv 0 H0) (hG : ∀ i H, i ≤ n → Pv i H → G H)
    (turn : ∀ i x H H', i < n → Pv i H → Y i H x H' → B (Pv (i + 1)) x H') (fin : ∀ H, Pv n H → Qd H) :
    ∃ W : Nat → Nat → Hp → Prop, (∃ m, W 0 m H0) ∧ ∀ i m H, W i m H → (J.stop i H ∧ Qd H) ∨ (J.go i H ∧ ∃ Nx : Hp → Prop, (∀ H', Nx H' → ∃ m', m' < m ∧ W (i + 1) m' H') ∧ ∀ x H', J.yld i H x H' → B Nx x H') := by
  refine ⟨fun i m H => m = n - i ∧ i ≤ n ∧ Pv i H, ⟨n, by simp, Nat.zero_le _, h0⟩, fun i m H ⟨em, hi, p⟩ => ?_⟩
  subst em
  have q := hG i H hi p
  rcases Nat.lt_or_ge i n with lt | ge
  · exact .inr ⟨w.goes i H lt q, Pv (i + 1), fun H' p' => ⟨n - (i + 1), by omega, rfl, lt, p'⟩, fun x H' y => turn i x H H' lt p (w.yields i H x H' lt q y)⟩
  · obtain rfl : i = n := by omega
    exact .inl ⟨w.stops H q, fin H p⟩
end OwR
namespace K10
open PySem PySem.Spec PyProof.Rows L2
abbrev sQuota0 : Stmt := mth 18 0
abbrev sChkN : Stmt := top 23
abbrev sCap0 : Stmt := mth 19 0
/-- all fields but a quota's own are as they were -/
def KeepsQ (C : Addr) (H' : Hp) (a : Addr) (fs0 : List (Str × V)) : Prop := ∃ dx fs, H' a = some (.ins C dx fs) ∧ ∀ f : Str, f ≠ "_text" → f ≠ "_caps" → f ≠ "_joints" → f ≠ "_kinds" → fs.lookup f = fs0.lookup f
def spQuota0 (C : Addr) : Sp := fun vs H Q _ => ∃ (a cp jp dx : Addr) (fs0 : List (Str × V)) (cks : List Addr) (t : QT), vs = [.ref a, .str t.text, .ref cp, .ref jp] ∧ H a = some (.ins C dx fs0) ∧ fs0.length ≤ 20 ∧ fs0.lookup ("bounds" : Str) = none ∧
  H cp = some (.tup (cks.map V.ref)) ∧ CapsAt H cks t.caps ∧ H jp = some (.tup (t.joints.map V.str)) ∧ t.kinds.length < 64 ∧ ∀ H', But a H H' → QAt C H' a t → KeepsQ C H' a fs0 → Q .non H'
/-- the first of some values that is no name, or a name that has stood before -/
def NameBad (K : PySem.W.Frag) (H : Hp) (xs : List V) (bs : List Str) (x : V) (rest : List V) : Prop := xs = bs.map V.str ++ x :: rest ∧ bs.Nodup ∧ (∀ b ∈ bs, nameB b = true ∧ b.length ≤ 1000) ∧ bs.length ≤ 60 ∧ ((∀ H', Same H H' → NoName K H' x) ∨ ∃ b, x = .str b ∧ b ∈ bs)
theorem NameBad.new {K : PySem.W.Frag} {H H' : Hp} {xs rest : List V} {bs : List Str} {x : V} (h : NameBad K H xs bs x rest) (s : Same H H') : NameBad K H' xs bs x rest := by
  obtain ⟨e, nd, g, l, nn⟩ := h
  exact ⟨e, nd, g, l, nn.imp (fun n H2 s2 => n H2 (s.trans s2)) id⟩
def spChkN (K : PySem.W.Frag) (CN : Addr) : Sp := fun vs H Q E => ∃ (t : Addr) (xs : List V), vs = [.ref t] ∧ SqT K H t xs ∧
  ((∃ bs : List Str, xs = bs.map V.str ∧ bs.Nodup ∧ (∀ b ∈ bs, nameB b = true ∧ b.length ≤ 1000) ∧ bs.length ≤ 60 ∧ ∀ H', Same H H' → Q .non H') ∨
   ∃ bs x rest, NameBad K H xs bs x rest ∧ ∀ H' d, Same H H' → H' d = none → E (.ref CN) (some d) (upd H' d (.xd [("value", x)])))
/-- a cap of m over these kinds, ascending -/
def CapAt (C : Addr) (H : Hp) (a : Addr) (m : Int) (zs : List Str) : Prop := QAt C H a (.cap m zs) ∧ ∃ dx fs, H a = some (.ins C dx fs) ∧ fs.lookup ("most" : Str) = some (.int m)
theorem CapAt.same {C : Addr} {H H' : Hp} {a : Addr} {m : Int} {zs : List Str} (h : CapAt C H a m zs) (s : Same H H') : CapAt C H' a m zs := by
  obtain ⟨q, dx, fs, e, l⟩ := h
  exact ⟨q.same s, dx, fs, s _ _ e, l⟩
/-- the arguments of Cap -/
def CapRow (K : PySem.W.Frag) (C CN CM : Addr) (H : Hp) (a : Addr) (y : V) (xs : List V) (Q : VK) (E : XK) : Prop := xs.length ≤ 1000 ∧
  ((∃ (m : Int) (bs : List Str), y = .int m ∧ 0 ≤ m ∧ m ≤ 12 ∧ xs = bs.map V.str ∧ bs.Nodup ∧ (∀ b ∈ bs, nameB b = true ∧ b.length ≤ 1000) ∧ bs.length ≤ 60 ∧ ∀ H' zs, But a H H' → zs.Perm bs → sortedS zs = true → CapAt C H' a m zs → Q .non H') ∨
   ((∀ H', Same H H' → NotIn K H' 0 12 y) ∧ ∀ H' d, But a H H' → H' d = none → E (.ref CM) (some d) (upd H' d (.xd [("value", y)]))) ∨
   ∃ (m : Int) (bs : List Str) (x : V) (rest : List V), y = .int m ∧ 0 ≤ m ∧ m ≤ 12 ∧ NameBad K H xs bs x rest ∧ ∀ H' d, But a H H' → H' d = none → E (.ref CN) (some d) (upd H' d (.xd [("value", x)])))
theorem CapRow.new {K : PySem.W.Frag} {C CN CM : Addr} {H H' : Hp} {a : Addr} {y : V} {xs : List V} {Q : VK} {E : XK} (h : CapRow K C CN CM H a y xs Q E) (s : Same H H') : CapRow K C CN CM H' a y xs Q E := by
  obtain ⟨l, ⟨m, bs, ey, m0, m1, ex, nd, g, lb, q⟩ | ⟨ni, q⟩ | ⟨m, bs, x, rest, ey, m0, m1, nb, q⟩⟩ := h
  · exact ⟨l, .inl ⟨m, bs, ey, m0, m1, ex, nd, g, lb, fun H2 zs b => q H2 zs ((Same.but a s).trans b)⟩⟩
  · exact ⟨l, .inr (.inl ⟨fun H2 s2 => ni H2 (s.trans s2), fun H2 d b => q H2 d ((Same.but a s).trans b)⟩)⟩
  · exact ⟨l, .inr (.inr ⟨m, bs, x, rest, ey, m0, m1, nb.new s, fun H2 d b => q H2 d ((Same.but a s).trans b)⟩)⟩
def spCap0 (K : PySem.W.Frag) (C CN CM : Addr) : Sp := fun vs H Q E => ∃ (a t dx : Addr) (y : V) (xs : List V), vs = [.ref a, y, .ref t] ∧ H a = some (.ins C dx []) ∧ H t = some (.tup xs) ∧ CapRow K C CN CM H a y xs Q E
def spCap (K : PySem.W.Frag) (C CN CM : Addr) : Sp := fun vs H Q E => ∃ (a dx : Addr) (y : V) (xs : List V), vs = .ref a :: y :: xs ∧ H a = some (.ins C dx []) ∧ CapRow K C CN CM H a y xs Q E
/-- a new cap -/
def MadeCap (K : PySem.W.Frag) (C CN CM : Addr) (H : Hp) (y : V) (xs : List V) (Q : VK) (E : XK) : Prop := xs.length ≤ 1000 ∧
  ((∃ (m : Int) (bs : List Str), y = .int m ∧ 0 ≤ m ∧ m ≤ 12 ∧ xs = bs.map V.str ∧ bs.Nodup ∧ (∀ b ∈ bs, nameB b = true ∧ b.length ≤ 1000) ∧ bs.length ≤ 60 ∧ ∀ a H' zs, H a = none → Same H H' → zs.Perm bs → sortedS zs = true → CapAt C H' a m zs → Q (.ref a) H') ∨
   ((∀ H', Same H H' → NotIn K H' 0 12 y) ∧ ∀ H' d, Same H H' → H' d = none → E (.ref CM) (some d) (upd H' d (.xd [("value", y)]))) ∨
   ∃ (m : Int) (bs : List Str) (x : V) (rest : List V), y = .int m ∧ 0 ≤ m ∧ m ≤ 12 ∧ NameBad K H xs bs x rest ∧ ∀ H' d, Same H H' → H' d = none → E (.ref CN) (some d) (upd H' d (.xd [("value", x)])))
theorem MadeCap.row {K : PySem.W.Frag} {C CN CM : Addr} {H H1 : Hp} {y : V} {xs : List V} {Q Q1 : VK} {E : XK} {z : Addr} (h : MadeCap K C CN CM H y xs Q E) (hz : H z = none) (s : Same H H1) (b : ∀ H', But z H1 H' → (Q (.ref z) H' → Q1 .non H') ∧ Same H H') : CapRow K C CN CM H1 z y xs Q1 E := by
  obtain ⟨l, ⟨m, bs, ey, m0, m1, ex, nd, g, lb, q⟩ | ⟨ni, q⟩ | ⟨m, bs, x, rest, ey, m0, m1, nb, q⟩⟩ := h
  · exact ⟨l, .inl ⟨m, bs, ey, m0, m1, ex, nd, g, lb, fun H2 zs bt pm srt c => (b H2 bt).1 (q z H2 zs hz (b H2 bt).2 pm srt c)⟩⟩
  · exact ⟨l, .inr (.inl ⟨fun H2 s2 => ni H2 (s.trans s2), fun H2 d bt => q H2 d (b H2 bt).2⟩)⟩
  · exact ⟨l, .inr (.inr ⟨m, bs, x, rest, ey, m0, m1, nb.new s, fun H2 d bt => q H2 d (b H2 bt).2⟩)⟩
theorem made_cap {K : PySem.W.Frag} {C CN CM z dz : Addr} {H : Hp} {y : V} {xs : List V} {Q : VK} {E : XK} (h : MadeCap K C CN CM H y xs Q E) (h1 : H z = none) (h2 : H dz = none) :
    spCap K C CN CM (.ref z :: y :: xs) (upd (upd H dz (.own z)) z (.ins C dz [])) (fun v G => v = .non ∧ Q (.ref z) G) E := by
  have s0 : Same H (upd (upd H dz (.own z)) z (.ins C dz [])) := fun b o e => by
    rw [upd_ne (ne_of_none e h1), upd_ne (ne_of_none e h2)]
    exact e
  exact ⟨z, dz, y, xs, rfl, upd_same, h.row h1 s0 fun H' sb => ⟨fun q => ⟨rfl, q⟩, made_same h1 h2 sb⟩⟩
theorem cap_fits {ws : List Str} (h : ∀ w ∈ ws, w.length ≤ 1000) (l : ws.length ≤ 100) : (ws.map (·.length)).sum + ws.length * (" " : Str).length ≤ 16777216 := by
  have sm : ∀ ys : List Str, (∀ y ∈ ys, y.length ≤ 1000) → (ys.map (·.length)).sum ≤ ys.length * 1000 := fun ys => by
    induction ys with
    | nil => intro _; exact Nat.le_refl 0
    | cons y r ih =>
      intro h
      rw [List.map_cons, List.sum_cons, List.length_cons, Nat.succ_mul]
      have := ih fun z hz => h z (List.mem_cons_of_mem _ hz)
      have := h y List.mem_cons_self
      omega
  have := sm ws h
  have e1 : ((" " : Str)).length = 1 := by decide +kernel
  rw [e1]
  have : ws.length * 1000 ≤ 100 * 1000 := Nat.mul_le_mul_right _ l
  omega
theorem most_text60 {m : Int} (m0 : 0 ≤ m) (m1 : m ≤ 60) : m.natAbs.log2 < 1920 ∧ (toString m : Str).length ≤ 1000 := by
  have key : ∀ k : Fin 61, (((k.val : Nat) : Int)).natAbs.log2 < 1920 ∧ (toString ((k.val : Nat) : Int) : Str).length ≤ 1000 := by decide +kernel
  have := key ⟨m.toNat, by omega⟩
  rw [show (((⟨m.toNat, by omega⟩ : Fin 61).val : Nat) : Int) = m from Int.toNat_of_nonneg m0] at this
  exact this
theorem most_text {m : Int} (m0 : 0 ≤ m) (m1 : m ≤ 12) : m.natAbs.log2 < 1920 ∧ (toString m : Str).length ≤ 1000 := by
  have key : ∀ k : Fin 13, (((k.val : Nat) : Int)).natAbs.log2 < 1920 ∧ (toString ((k.val : Nat) : Int) : Str).length ≤ 1000 := by decide +kernel
  have := key ⟨m.toNat, by omega⟩
  rw [show (((⟨m.toNat, by omega⟩ : Fin 13).val : Nat) : Int) = m from Int.toNat_of_nonneg m0] at this
  exact this
section
variable {P : Program} {w : World} {K : PySem.W.Frag} {mg : Str → Option Value} {base : Heap}
abbrev nQ0 : List Str := ["self", "text", "caps", "joints", "most", "kinds", "kind"]
theorem scQ0 : FnScope nQ0 ["self", "text", "caps", "joints"] (defScope sQuota0) := ⟨rfl, rfl, rfl, by decide +kernel, rfl, by decide +kernel, by decide +kernel⟩
theorem ok_quota0 {C f : Addr} {fd : FuncData} (hc : QuotaC K C) (F : Fun K "__init__" "Quota.__init__" sQuota0 f fd) (c : Chk P w K mg base) : FnR P w K mg base CX0 2 f (spQuota0 C) := by
  obtain ⟨fA, fdA, gA, kA, bA, GA⟩ := c.asc
  refine OwR.raw0 (F.ok (k := 1) (ps := ["self", "text", "caps", "joints"]) scQ0 (fun vs H Q E h => ?_) (fun cdv A outer s H vs Q E hr h => ?_)) (F.binds fun _ _ _ _ _ _ us hl => match us, hl with | [_, _, _, _], _ => rfl)
  · obtain ⟨a, cp, jp, dx, fs0, cks, t, rfl, _⟩ := h
    rfl
  · obtain ⟨a, cp, jp, dx, fs0, cks, t, rfl, ha, l0, lb, hcp, hck, hjp, lk, q⟩ := h
    refine ⟨_, (pss_cons (ps_fld (pv 0) (pv 1) rfl)
    (pss_cons (ps_fld (pv 0) (pv 2) rfl)
    (pss_cons (ps_fld (pv 0) (pv 3) rfl)
    (pss_one (ps_fld (pv 0) (pe_callTy call_tuple_of (by rfl) c.T4.n_tuple (by decide +kernel) (pa_cons (pe_call GA hr (by rfl) gA kA bA .nil pass0 (pa_cons (pe_lc2 (own := [("most", 4), ("kinds", 5), ("kind", 6)]) (vs1 := [6]) (g := gTup K 2 (gCons (gName 4) (gCons (gName 5) gNil))) (wi1 := iTup K (tVar 5)) (by rfl) scQ0.nd (pi_tup (pv 2)) (blkOk_by (own := [("most", 4), ("kinds", 5), ("kind", 6)]) (N := nQ0) (sc := defScope sQuota0) (by decide +kernel)) (by decide) (fun _ _ _ _ _ => (pg_tup rfl (pgs_cons (pg_name (i := 4) scQ0.nd rfl (Or.inl rfl)) (pgs_cons (pg_name (i := 5) scQ0.nd rfl (Or.inl rfl)) pgs_nil)))) (fun _ _ _ _ _ => pts_nil) (fun _ _ _ _ _ => (pi_tup (pv 5))) (fun _ _ _ _ _ => (pg_name (i := 6) scQ0.nd rfl (Or.inl rfl))) (fun _ _ _ _ _ => pts_nil) (fun _ _ _ _ _ => (pv 6))) pa_nil)) pa_nil)) rfl))))), ?_⟩
    have sz := sizeLine_eq
    refine ⟨_, rfl, _, rfl, a, C, dx, fs0, rfl, ha, hc.cls, hc.n1, by omega, ?_⟩
    refine ⟨_, rfl, _, rfl, a, C, dx, _, rfl, upd_same, hc.cls, hc.n2, by have := length_putF ("_text" : Str) (V.str t.text) fs0; omega, ?_⟩
    refine ⟨_, rfl, _, rfl, a, C, dx, _, rfl, upd_same, hc.cls, hc.n3, by have := length_putF ("_text" : Str) (V.str t.text) fs0; have := length_putF ("_caps" : Str) (V.ref cp) (putF ("_text" : Str) (V.str t.text) fs0); omega, ?_⟩
    have st3 : But a H (upd (upd (upd H a (.ins C dx (putF ("_text" : Str) (V.str t.text) fs0))) a (.ins C dx (putF ("_caps" : Str) (V.ref cp) (putF ("_text" : Str) (V.str t.text) fs0)))) a (.ins C dx (putF ("_joints" : Str) (V.ref jp) (putF ("_caps" : Str) (V.ref cp) (putF ("_text" : Str) (V.str t.text) fs0))))) := fun b o n e => by
      rw [upd_ne n, upd_ne n, upd_ne n]
      exact e
    have ea3 : upd (upd (upd H a (.ins C dx (putF ("_text" : Str) (V.str t.text) fs0))) a (.ins C dx (putF ("_caps" : Str) (V.ref cp) (putF ("_text" : Str) (V.str t.text) fs0)))) a (.ins C dx (putF ("_joints" : Str) (V.ref jp) (putF ("_caps" : Str) (V.ref cp) (putF ("_text" : Str) (V.str t.text) fs0)))) a = some (.ins C dx (putF ("_joints" : Str) (V.ref jp) (putF ("_caps" : Str) (V.ref cp) (putF ("_text" : Str) (V.str t.text) fs0)))) := upd_same
    have lk1 : (putF ("_joints" : Str) (V.ref jp) (putF ("_caps" : Str) (V.ref cp) (putF ("_text" : Str) (V.str t.text) fs0))).lookup ("_text" : Str) = some (.str t.text) := by
      rw [lookup_putF, if_neg (by decide), lookup_putF, if_neg (by decide), lookup_putF, if_pos rfl]
    have lk2 : (putF ("_joints" : Str) (V.ref jp) (putF ("_caps" : Str) (V.ref cp) (putF ("_text" : Str) (V.str t.text) fs0))).lookup ("_caps" : Str) = some (.ref cp) := by
      rw [lookup_putF, if_neg (by decide), lookup_putF, if_pos rfl]
    have lk3 : (putF ("_joints" : Str) (V.ref jp) (putF ("_caps" : Str) (V.ref cp) (putF ("_text" : Str) (V.str t.text) fs0))).lookup ("_joints" : Str) = some (.ref jp) := by
      rw [lookup_putF, if_pos rfl]
    have lkf : ∀ f : Str, f ≠ "_text" → f ≠ "_caps" → f ≠ "_joints" → (putF ("_joints" : Str) (V.ref jp) (putF ("_caps" : Str) (V.ref cp) (putF ("_text" : Str) (V.str t.text) fs0))).lookup f = fs0.lookup f := fun f n1 n2 n3 => by
      rw [lookup_putF, if_neg n3, lookup_putF, if_neg n2, lookup_putF, if_neg n1]
    have l3 : (putF ("_joints" : Str) (V.ref jp) (putF ("_caps" : Str) (V.ref cp) (putF ("_text" : Str) (V.str t.text) fs0))).length ≤ 30 := by
      have := length_putF ("_text" : Str) (V.str t.text) fs0
      have := length_putF ("_caps" : Str) (V.ref cp) (putF ("_text" : Str) (V.str t.text) fs0)
      have := length_putF ("_joints" : Str) (V.ref jp) (putF ("_caps" : Str) (V.ref cp) (putF ("_text" : Str) (V.str t.text) fs0))
      omega
    generalize upd (upd (upd H a (.ins C dx (putF ("_text" : Str) (V.str t.text) fs0))) a (.ins C dx (putF ("_caps" : Str) (V.ref cp) (putF ("_text" : Str) (V.str t.text) fs0)))) a (.ins C dx (putF ("_joints" : Str) (V.ref jp) (putF ("_caps" : Str) (V.ref cp) (putF ("_text" : Str) (V.str t.text) fs0)))) = H3 at st3 ea3 ⊢
    generalize putF ("_joints" : Str) (V.ref jp) (putF ("_caps" : Str) (V.ref cp) (putF ("_text" : Str) (V.str t.text) fs0)) = fs3 at ea3 lk1 lk2 lk3 lkf l3
    have tup : ∀ k xs, H k = some (.tup xs) → H3 k = some (.tup xs) := fun k xs e => st3 k _ (fun q => by rw [q, ha] at e; cases e) e
    have hcp3 := tup _ _ hcp
    have hck3 := hck.mono tup
    have hjp3 := tup _ _ hjp
    have lck := hck.len
    -- the kinds
    refine ⟨_, rfl, cp, rfl, ⟨_, SqT.of hcp3⟩, fun D hD => ?_⟩
    have small : ∀ i, ((t.caps.take i).flatMap (·.2)).length ≤ t.kinds.length := fun i => by
      have e : t.kinds = (t.caps.take i).flatMap (·.2) ++ (t.caps.drop i).flatMap (·.2) := by
        unfold QT.kinds
        rw [← List.flatMap_append, List.take_append_drop]
      rw [e, List.length_append]
      omega
    refine OwR.any_itQ (walk_tup (xs := cks.map V.ref)) (fun i Hx => Same H3 Hx ∧ Hx D = some (.lst (((t.caps.take i).flatMap (·.2)).map V.str))) ⟨Same.of_new hD, upd_same⟩ (fun i Hx _ q => SqT.of (q.1 _ _ hcp3)) (fun i x Hx Hy hi q0 y => ?_) (fun Hx q0 => ?_)
    · obtain ⟨s1, eD⟩ := q0
      obtain ⟨rfl, hx⟩ := y
      obtain ⟨k1, c1, rfl, hk, hci, kp1, t1, t2⟩ := hck3.get hx
      have ei : (t.caps.take (i + 1)).flatMap (·.2) = (t.caps.take i).flatMap (·.2) ++ c1.2 := by
        rw [List.take_add_one, hci, List.flatMap_append]
        simp
      refine ⟨k1, _, rfl, .inl (.inl (s1 _ _ t1)), rfl, _, _, rfl, _, _, rfl, rfl, rfl, ?_⟩
      refine ⟨_, rfl, kp1, rfl, ⟨_, SqT.of (s1 _ _ t2)⟩, ?_⟩
      refine OwR.any_itQ (walk_tup (xs := c1.2.map V.str)) (fun j Hz => Same H3 Hz ∧ Hz D = some (.lst (((t.caps.take i).flatMap (·.2) ++ c1.2.take j).map V.str))) ⟨s1, by rw [List.take_zero, List.append_nil]; exact eD⟩ (fun j Hz _ q => SqT.of (q.1 _ _ t2)) (fun j x2 Hz Hw hj q1 y => ?_) (fun Hz q1 => ?_)
      · obtain ⟨s2, eD2⟩ := q1
        obtain ⟨rfl, hx2⟩ := y
        rw [List.getElem?_map] at hx2
        obtain ⟨z, hz, rfl⟩ := Option.map_eq_some_iff.mp hx2
        rw [List.length_map] at hj
        refine ⟨rfl, ?_⟩
        refine ⟨_, rfl, _, eD2, ?_, fun y o e => ?_, ?_⟩
        · have := small (i + 1)
          rw [ei, List.length_append] at this
          rw [List.length_map, List.length_append, List.length_take]
          omega
        · rw [upd_ne (ne_of_none e hD)]
          exact s2 y o e
        · rw [List.take_add_one, hz, ← List.append_assoc, List.map_append (l₁ := (t.caps.take i).flatMap (·.2) ++ c1.2.take j)]
          exact upd_same
      · obtain ⟨s2, eD2⟩ := q1
        rw [List.length_map, List.take_length, ← ei] at eD2
        exact ⟨s2, eD2⟩
    obtain ⟨s1, eD⟩ := q0
    rw [List.length_map, lck, List.take_length] at eD
    refine ⟨D, t.kinds, rfl, .inl (SqL.of eD), lk, fun ys g H6 pm srt hg s6 e6 => ?_⟩
    refine ⟨g, _, rfl, .inl ⟨SqL.of e6, fun z hz => ?_⟩⟩
    have s36 := s1.trans s6
    have s7 := s36.trans (Same.of_new (o := .tup (ys.map V.str)) hz)
    have ea7 := s7 _ _ ea3
    have ez7 : upd H6 z (.tup (ys.map V.str)) z = some (.tup (ys.map V.str)) := upd_same
    generalize upd H6 z (.tup (ys.map V.str)) = H7 at s7 ea7 ez7 ⊢
    refine ⟨_, rfl, a, C, dx, fs3, rfl, ea7, hc.cls, hc.n4, by omega, ?_⟩
    have tup8 : ∀ k xs, H7 k = some (.tup xs) → upd H7 a (.ins C dx (putF ("_kinds" : Str) (.ref z) fs3)) k = some (.tup xs) := fun k xs e => by
      rw [upd_ne (fun q => by rw [q, ea7] at e; cases e)]
      exact e
    have nm : ("bounds" : Str) ≠ "_text" ∧ ("bounds" : Str) ≠ "_caps" ∧ ("bounds" : Str) ≠ "_joints" := by decide +kernel
    refine q _ ((st3.trans (Same.but a s7)).trans But.at) ⟨dx, _, cp, jp, z, cks, ys, upd_same, ?_, ?_, tup8 _ _ (s7 _ _ hcp3), (hck3.same s7).mono tup8, ?_, tup8 _ _ (s7 _ _ hjp3), ?_, tup8 _ _ ez7, pm.nodup_iff.mpr (TSet.ded_nodup _), srt, fun y => by rw [pm.mem_iff, TSet.ded_mem], ?_⟩ ⟨dx, _, upd_same, fun f n1 n2 n3 n4 => ?_⟩
    · rw [lookup_putF, if_neg (by decide)]
      exact lk1
    · rw [lookup_putF, if_neg (by decide)]
      exact lk2
    · rw [lookup_putF, if_neg (by decide)]
      exact lk3
    · rw [lookup_putF, if_pos rfl]
    · rw [lookup_putF, if_neg (by decide), lkf _ nm.1 nm.2.1 nm.2.2]
      exact lb
    · rw [lookup_putF, if_neg n4]
      exact lkf f n1 n2 n3
abbrev nCN : List Str := ["kinds", "seen", "kind"]
theorem scCN : FnScope nCN ["kinds"] (defScope sChkN) := ⟨rfl, rfl, rfl, by decide +kernel, rfl, by decide +kernel, by decide +kernel⟩
theorem ok_chkN {CN CM CQ CT f : Addr} {fd : FuncData} (F : Fun K "check_names" "check_names" sChkN f fd) (c : Chk P w K mg base) (Er : QErrs K mg CN CM CQ CT) : FnOk P w K mg base (L2.CX P w) 3 f fd ["kinds"] (spChkN K CN) := by
  obtain ⟨fM, fdM, gM, kM, bM, GM⟩ := c.name
  obtain ⟨fK, fdK, T_K, hat, F_K⟩ := Er.name
  have GK : FnOk P w K mg base CX0 1 fK fdK ["self", "value"] (OwE.spErr1 K "value") := ok_BadName0 F_K
  have bK : Binds K fdK ["self", "value"] [] := F_K.binds fun _ _ _ _ _ _ us hl => match us, hl with | [_, _], _ => rfl
  refine F.okX scCN (fun vs H Q E h => ?_) (fun cdv A outer s H vs Q E hr h => ?_)
  · obtain ⟨t, xs, rfl, _⟩ := h
    rfl
  · obtain ⟨t, xs, rfl, hq, h⟩ := h
    have hr1 : Room 1 _ := hr.mono (by decide)
    have hu : (A.deeper (envOfC "check_names" (defScope sChkN) s.heap.objs.size f cdv)).units + 1 < cLine := by have := hr.units; omega
    refine ⟨_, (pss_cons (ps_set (i := 1) scCN.nd rfl (Or.inl rfl) pe_dnewK)
    (pss_one (ps_for (passes_of rfl) rfl (pi_tup (pv 0)) (pg_name (i := 2) scCN.nd rfl (Or.inl rfl)) (pss_cons (ps_if (PW.pt (pw_or (pt_not (pt_val (pe_call GM hr1 (by rfl) gM kM bM .nil pass0 (pa_cons (pv 2) pa_nil)))) (pw_or1 (pt_cmp (pc_din hu (pv 2) (pv 1)))))) (pss_one (ps_raise rfl (takes_of rfl rfl rfl rfl) (pmk_oex T_K.er.ox T_K.ini T_K.ty GK hr bK .nil pass0 (by rfl) T_K.g (pa_cons (pv 2) pa_nil)))) pss_nil)
    (pss_one (ps_dput hu (pv 1) (pv 2) pe_bl rfl)))))), ?_⟩
    have sz := sizeLine_eq
    refine fun S hS => ?_
    have h1 : Same H (upd H S (.dK [])) := Same.of_new hS
    -- the right names ahead
    have all : ∃ bs : List Str, bs.Nodup ∧ (∀ b ∈ bs, nameB b = true ∧ b.length ≤ 1000) ∧ bs.length ≤ 60 ∧ ((xs = bs.map V.str ∧ ∀ H', Same H H' → Q .non H') ∨ ∃ x rest, xs = bs.map V.str ++ x :: rest ∧ ((∀ H', Same H H' → NoName K H' x) ∨ ∃ b, x = .str b ∧ b ∈ bs) ∧ ∀ H' d, Same H H' → H' d = none → E (.ref CN) (some d) (upd H' d (.xd [("value", x)]))) := by
      rcases h with ⟨bs, e, nd, g, l, q⟩ | ⟨bs, x, rest, ⟨e, nd, g, l, nn⟩, q⟩
      · exact ⟨bs, nd, g, l, .inl ⟨e, q⟩⟩
      · exact ⟨bs, nd, g, l, .inr ⟨x, rest, e, nn, q⟩⟩
    clear h
    obtain ⟨bs, nd, gd, bl, h⟩ := all
    have pre : ∀ i z, i < bs.length → xs[i]? = some z → ∃ b, bs[i]? = some b ∧ z = .str b := fun i z hi e => by
      have e2 : (bs.map V.str)[i]? = some z := by
        rcases h with ⟨rfl, _⟩ | ⟨x, rest, rfl, _⟩
        · exact e
        · rw [List.getElem?_append_left (by rw [List.length_map]; exact hi)] at e
          exact e
      rw [List.getElem?_map] at e2
      obtain ⟨b, hb, rfl⟩ := Option.map_eq_some_iff.mp e2
      exact ⟨b, hb, rfl⟩
    refine ⟨_, rfl, t, rfl, ⟨_, SqT.mono hq h1⟩, ?_⟩
    refine for_it (walk_tup (xs := xs)) (fun i σ Hx => i ≤ bs.length ∧ Same H Hx ∧ (∃ x2, σ = [some (.ref t), some (.ref S), x2]) ∧ ∃ (kvs : List (Key × V)), Hx S = some (.dK kvs) ∧ kvs.length ≤ i ∧ ∀ z, valV kvs (Sum.inr z) = if z ∈ bs.take i then some (.bl true) else none)
      ⟨Nat.zero_le _, h1, ⟨none, rfl⟩, [], upd_same, Nat.le_refl 0, fun z => by rw [if_neg (by simp)]; rfl⟩ (fun i σ Hx _ q => SqT.mono hq q.2.1) (fun i x σ Hx Hy hi q0 y1 => ?_) (fun σ Hx q0 => ?_)
    · obtain ⟨hib, s1, ⟨x0, rfl⟩, kvs, eS, lk, tv⟩ := q0
      obtain ⟨rfl, hz⟩ := y1
      rcases Nat.lt_or_ge i bs.length with lt | ge
      · obtain ⟨b, hb, rfl⟩ := pre i x lt hz
        have g := gd b (List.mem_of_getElem? hb)
        refine ⟨_, rfl, _, rfl, .inl ⟨b, rfl, g.2, fun H3 s3 => ⟨_, rfl, ?_⟩⟩⟩
        rw [g.1]
        refine iteF ?_
        have eS3 := s3 S _ eS
        have nb : b ∉ bs.take i := fun m => by
          have e3 : bs.take (i + 1) = bs.take i ++ [b] := by
            rw [List.take_add_one, hb]
            rfl
          have h5 : (bs.take (i + 1)).Nodup := nd.sublist (List.take_sublist _ _)
          rw [e3] at h5
          exact (List.nodup_append.mp h5).2.2 b m b (by simp) rfl
        have gv := tv b
        rw [if_neg nb] at gv
        refine ⟨_, rfl, _, rfl, S, none, rfl, .inl ⟨kvs, Sum.inr b, .inl eS3, rfl, gv.symm⟩, _, rfl, ?_⟩
        refine iteF ?_
        refine ⟨_, rfl, _, rfl, S, _, rfl, DPut.k (k := Sum.inr b) eS3 (by omega), ?_⟩
        refine ⟨lt, fun y o e => ?_, ⟨_, rfl⟩, putK kvs (Sum.inr b) (.bl true), upd_same, ?_, fun z => ?_⟩
        · rw [upd_ne (ne_of_none e hS)]
          exact s3 y o (s1 y o e)
        · have := length_putK kvs (Sum.inr b) (V.bl true)
          omega
        · rw [valV_put, tv z, List.take_add_one, hb]
          by_cases e : z = b
          · subst e
            rw [if_pos rfl, if_pos (by simp)]
          · rw [if_neg (fun q => e (Sum.inr.inj q))]
            by_cases c : z ∈ bs.take i
            · rw [if_pos c, if_pos (List.mem_append_left _ c)]
            · rw [if_neg c, if_neg fun q => (List.mem_append.mp q).elim c fun q => e (by simpa using q)]
      · obtain rfl : i = bs.length := by omega
        obtain ⟨z2, rest, ex, nn, qe⟩ : ∃ x rest, xs = bs.map V.str ++ x :: rest ∧ ((∀ H', Same H H' → NoName K H' x) ∨ ∃ b, x = .str b ∧ b ∈ bs) ∧ ∀ H' d, Same H H' → H' d = none → E (.ref CN) (some d) (upd H' d (.xd [("value", x)])) := by
          rcases h with ⟨rfl, _⟩ | h
          · rw [List.getElem?_eq_none (by rw [List.length_map]; exact Nat.le_refl _)] at hz
            cases hz
          · exact h
        obtain rfl : x = z2 := by
          rw [ex, List.getElem?_append_right (by rw [List.length_map]; exact Nat.le_refl _), List.length_map, Nat.sub_self] at hz
          exact (Option.some.inj hz).symm
        rcases nn with nn | ⟨b, rfl, mb⟩
        · rcases nn _ s1 with ⟨z, rfl, lz, nz⟩ | n
          · refine ⟨_, rfl, _, rfl, .inl ⟨z, rfl, lz, fun H3 s3 => ⟨_, rfl, ?_⟩⟩⟩
            rw [nz]
            refine iteT (iteT ?_)
            exact ⟨_, rfl, OwE.mk_err1 T_K.er.ox hat fun d hd => qe H3 d (s1.trans s3) hd⟩
          · refine ⟨_, rfl, _, rfl, .inr ⟨n, _, rfl, ?_⟩⟩
            refine iteT (iteT ?_)
            exact ⟨_, rfl, OwE.mk_err1 T_K.er.ox hat fun d hd => qe _ d s1 hd⟩
        · have g := gd b mb
          refine ⟨_, rfl, _, rfl, .inl ⟨b, rfl, g.2, fun H3 s3 => ⟨_, rfl, ?_⟩⟩⟩
          rw [g.1]
          refine iteF ?_
          have eS3 := s3 S _ eS
          have gv := tv b
          rw [List.take_length, if_pos mb] at gv
          refine ⟨_, rfl, _, rfl, S, some (.bl true), rfl, .inl ⟨kvs, Sum.inr b, .inl eS3, rfl, gv.symm⟩, _, rfl, ?_⟩
          refine iteT ?_
          exact ⟨_, rfl, OwE.mk_err1 T_K.er.ox hat fun d hd => qe H3 d (s1.trans s3) hd⟩
    · obtain ⟨hib, s1, ⟨x0, rfl⟩, _⟩ := q0
      rcases h with ⟨rfl, q⟩ | ⟨x, rest, rfl, _⟩
      · exact q _ s1
      · rw [List.length_append, List.length_map, List.length_cons] at hib
        omega
abbrev nC0 : List Str := ["self", "most", "kinds", "names", "text"]
theorem scC0 : FnScope nC0 ([("self" : Str), ("most" : Str)] ++ [("kinds" : Str)]) (defScope sCap0) := ⟨rfl, rfl, rfl, by decide +kernel, rfl, by decide +kernel, by decide +kernel⟩
theorem ok_cap0 {C CQ CN CM CU CT f fQ fK : Addr} {mQ : Value} {fd fdQ fdK : FuncData} (hc : QuotaC K C) (hm : NoAttr K C "most") (F : Fun K "__init__" "Cap.__init__" sCap0 f fd) (FQ : Fun K "__init__" "Quota.__init__" sQuota0 fQ fdQ) (gQ : mg "Quota" = some (.ref CQ)) (rQ : ClX.CRead K CQ mQ) (cQ : OwR.CFun K CQ mQ "__init__" fQ)
    (FK : Fun K "check_names" "check_names" sChkN fK fdK) (gK : mg "check_names" = some (.ref fK)) (c : Chk P w K mg base) (Er : QErrs K mg CN CM CU CT) : FnR P w K mg base (L2.CX P w) 4 f (spCap K C CN CM) := by
  obtain ⟨oc, od, kV, doc, pm, an, cdv, ct, osl, rfl, lk, hcd⟩ := F.ex
  obtain ⟨fI, fdI, gI, kI, bI, GI⟩ := c.within
  obtain ⟨fA, fdA, gA, kA, bA, GA⟩ := c.asc
  have GK : FnOk P w K mg base (L2.CX P w) 3 fK fdK ["kinds"] (spChkN K CN) := ok_chkN FK c Er
  have bK : Binds K fdK ["kinds"] [] := FK.binds fun _ _ _ _ _ _ us hl => match us, hl with | [_], _ => rfl
  have GQ : FnR P w K mg base CX0 2 fQ (spQuota0 C) := ok_quota0 hc FQ c
  obtain ⟨fB, fdB, T_B, hval, F_B⟩ := Er.number
  have GB : FnOk P w K mg base CX0 1 fB fdB ["self", "value"] (OwE.spErr1 K "value") := ok_BadNumber0 F_B
  have bB : Binds K fdB ["self", "value"] [] := F_B.binds fun _ _ _ _ _ _ us hl => match us, hl with | [_, _], _ => rfl
  refine FnR.imp (StX.fn_star (k := 3) (ps := ["self", "most"]) (pv := "kinds") (sp := spCap0 K C CN CM) lk hcd scC0 StX.cxUp (fun us rest hl => match us, hl, rest with | [_, _], _, [] => rfl | [_, _], _, _ :: _ => rfl) fun A outer s H vs Q E hr h => ?_) fun vs H Q E h => ?_
  · obtain ⟨a, tk, dx, y, xs, rfl, ha, hq, lx, h⟩ := h
    have hr2 : Room 2 _ := hr.mono (by decide)
    have hr1 : Room 1 _ := hr.mono (by decide)
    refine ⟨_, (pss_cons (ps_if (pt_not (pt_val (pe_call GI hr1 (by rfl) gI kI bI .nil pass0 (pa_cons (pv 1) (pa_cons pe_int (pa_cons pe_int pa_nil)))))) (pss_one (ps_raise rfl (takes_of rfl rfl rfl rfl) (pmk_oex T_B.er.ox T_B.ini T_B.ty GB hr2 bB .nil pass0 (by rfl) T_B.g (pa_cons (pv 1) pa_nil)))) pss_nil)
    (pss_cons (ps_expr (pe_call GK hr (by rfl) gK FK.kp bK .nil (passes_call (takes_of rfl rfl rfl rfl) (fun _ _ _ _ h => h)) (pa_cons (pv 2) pa_nil)))
    (pss_cons (ps_fld (pv 0) (pv 1) rfl)
    (pss_cons (ps_set (i := 3) scC0.nd rfl (Or.inl rfl) (pe_call GA hr1 (by rfl) gA kA bA .nil pass0 (pa_cons (pv 2) pa_nil)))
    (pss_cons (ps_set (i := 4) scC0.nd rfl (Or.inl rfl) (pe_join pe_str (pe_lst (pa_cons pe_str (pa_cons (pe_callTy call_str_int (by rfl) c.T.n_str (by decide +kernel) (pa_cons (pv 1) pa_nil)) (pa_cons (pe_callTy call_str_int (by rfl) c.T.n_str (by decide +kernel) (pa_cons (pe_callB call_len_seq (by rfl) c.T.n_len boot_len (pa_cons (pv 3) pa_nil)) pa_nil)) (StX.pa_star (pv 3) pa_nil)))))))
    (pss_one (ps_expr (OwR.pe_cfun (pe_glob (v := .ref CQ) rfl gQ rfl) rQ cQ GQ hr2 pass0 (pa_cons (pv 0) (pa_cons (pv 4) (pa_cons (pe_tup (pa_cons (pe_tup (pa_cons (pv 1) (pa_cons (pe_callTy call_tuple_of (by rfl) c.T4.n_tuple (by decide +kernel) (pa_cons (pv 3) pa_nil)) pa_nil))) pa_nil)) (pa_cons (pe_tup (pa_cons pe_str pa_nil)) pa_nil)))))))))))), ?_⟩
    have sz := sizeLine_eq
    have b0 : But a H H := Same.but a (Same.refl H)
    refine ⟨_, rfl, _, 0, 12, rfl, ?_⟩
    rcases h with ⟨m, bs, rfl, m0, m1, rfl, nd, gd, lb, q⟩ | ⟨ni, qb⟩ | ⟨m, bs, x, rest, rfl, m0, m1, nb, qb⟩
    rotate_left
    · rcases ni _ (Same.refl H) with ⟨i, rfl, nr⟩ | n
      · refine .inl ⟨i, rfl, _, rfl, ?_⟩
        rw [show (decide (0 ≤ i) && decide (i ≤ 12)) = false by
          rw [← Bool.decide_and]
          exact decide_eq_false nr]
        refine iteT ?_
        exact ⟨_, rfl, OwE.mk_err1 T_B.er.ox hval fun d hd => qb H d b0 hd⟩
      · refine .inr ⟨n, _, rfl, ?_⟩
        refine iteT ?_
        exact ⟨_, rfl, OwE.mk_err1 T_B.er.ox hval fun d hd => qb H d b0 hd⟩
    · refine .inl ⟨m, rfl, _, rfl, ?_⟩
      rw [decide_eq_true m0, decide_eq_true m1]
      refine iteF ?_
      exact ⟨_, rfl, tk, xs, rfl, SqT.of hq, .inr ⟨bs, x, rest, nb, fun H' d s nd => qb H' d (Same.but a s) nd⟩⟩
    refine .inl ⟨m, rfl, _, rfl, ?_⟩
    rw [decide_eq_true m0, decide_eq_true m1]
    refine iteF ?_
    refine ⟨_, rfl, tk, _, rfl, SqT.of hq, .inl ⟨bs, rfl, nd, gd, by omega, fun H1 s1 => ?_⟩⟩
    refine ⟨_, rfl, _, rfl, a, C, dx, [], rfl, s1 a _ ha, hc.cls, hm, by decide, ?_⟩
    have st2 : But a H (upd H1 a (.ins C dx (putF ("most" : Str) (.int m) []))) := (Same.but a s1).trans But.at
    have ea2 : upd H1 a (.ins C dx (putF ("most" : Str) (.int m) [])) a = some (.ins C dx (putF ("most" : Str) (.int m) [])) := upd_same
    have hq2 := st2 tk _ (fun e => by rw [e, ha] at hq; cases hq) hq
    generalize upd H1 a (.ins C dx (putF ("most" : Str) (.int m) [])) = H2 at st2 ea2 hq2 ⊢
    refine ⟨_, rfl, tk, bs, rfl, .inr (.inl (SqT.of hq2)), by omega, fun ys g H3 pm srt hg s3 e3 => ?_⟩
    have pm : ys.Perm bs := pm.trans (TSet.ded_perm nd)
    have ly : ys.length ≤ 60 := by rw [pm.length_eq]; exact lb
    have gy : ∀ z ∈ ys, nameB z = true ∧ z.length ≤ 1000 := fun z hz => gd z (pm.mem_iff.mp hz)
    have mt := most_text m0 m1
    have lt := most_text60 (m := ((ys.length : Nat) : Int)) (by omega) (by omega)
    have ea3 := s3 _ _ ea2
    have st3 := st2.trans (Same.but a s3)
    -- the text
    refine ⟨⟨_, rfl⟩, _, rfl, _, rfl, mt.1, _, rfl, g, _, rfl, .inl (SqL.of e3), _, rfl, by rw [List.length_map]; exact lt.1, _, rfl, g, _, rfl, .inr (SqL.of e3), by simp; omega, fun L hL => ?_⟩
    have ew : (V.str "cap" :: V.str (toString m : Str) :: V.str (toString (((ys.map V.str).length : Nat) : Int) : Str) :: (ys.map V.str ++ [])) = (capWords m ys).map V.str := by simp [capWords]
    have eL : upd H3 L (.lst (V.str "cap" :: V.str (toString m : Str) :: V.str (toString (((ys.map V.str).length : Nat) : Int) : Str) :: (ys.map V.str ++ []))) L = some (.lst ((capWords m ys).map V.str)) := by
      rw [ew]
      exact upd_same
    have s4 := Same.of_new (o := .lst (V.str "cap" :: V.str (toString m : Str) :: V.str (toString (((ys.map V.str).length : Nat) : Int) : Str) :: (ys.map V.str ++ []))) hL
    refine ⟨_, L, capWords m ys, rfl, rfl, .inl (SqL.of eL), cap_fits (fun w hw => ?_) (by simp [capWords]; omega), ?_⟩
    · rcases List.mem_append.mp hw with h | h
      · simp only [List.mem_cons, List.not_mem_nil, or_false] at h
        rcases h with rfl | rfl | rfl
        · decide +kernel
        · exact mt.2
        · exact lt.2
      · exact (gy w h).2
    have ea4 := s4 _ _ ea3
    have e4 := s4 _ _ e3
    have st4 := st3.trans (Same.but a s4)
    generalize upd H3 L _ = H4 at ea4 e4 st4 ⊢
    clear eL ew s4 hL
    -- the base
    refine ⟨rfl, _, rfl, _, rfl, _, rfl, _, rfl, g, _, rfl, .inl ⟨SqL.of e4, fun z hz => ⟨by show (2 : Nat) ≤ sizeLine; omega, fun k1 hk1 => ⟨by show (1 : Nat) ≤ sizeLine; omega, fun cp hcp => ⟨by show (1 : Nat) ≤ sizeLine; omega, fun jp hjp => ?_⟩⟩⟩⟩⟩
    have u1 := Same.of_new (o := .tup (ys.map V.str)) hz
    have u2 := Same.of_new (o := .tup [.int m, .ref z]) hk1
    have u3 := Same.of_new (o := .tup [.ref k1]) hcp
    have u4 := Same.of_new (o := .tup [.str "cap"]) hjp
    have u24 := (u2.trans u3).trans u4
    have u14 := u1.trans u24
    refine ⟨a, cp, jp, dx, _, [k1], .cap m ys, rfl, u14 _ _ ea4, by show (1 : Nat) ≤ 20; decide, rfl, u4 _ _ upd_same, ⟨rfl, fun i k2 c2 e1 e2 => ?_⟩, upd_same, by simp [QT.kinds, QT.caps]; omega, fun H' bt qa kq => ?_⟩
    · match i, e1, e2 with
      | 0, rfl, rfl => exact ⟨z, (u3.trans u4) _ _ upd_same, u24 _ _ upd_same⟩
      | _ + 1, e1, _ => simp at e1
    · obtain ⟨dx2, fs2, e2, kf⟩ := kq
      refine q H' ys ((st4.trans (Same.but a u14)).trans bt) pm srt ⟨qa, dx2, fs2, e2, ?_⟩
      rw [kf "most" (by decide +kernel) (by decide +kernel) (by decide +kernel) (by decide +kernel)]
      rfl
  · obtain ⟨a, dx, y, xs, rfl, ha, h⟩ := h
    have sz := sizeLine_eq
    have lx := h.1
    exact ⟨[.ref a, y], xs, rfl, rfl, by omega, fun t ht => ⟨a, t, dx, y, xs, rfl, upd_keep2 ha ht, upd_same, h.new (Same.of_new ht)⟩⟩
end
end K10
end
section
set_option pp.maxSteps 400
set_option pp.deepTerms.threshold 6
/-! Quotas joined: joined_caps, Pair, Both and Either with what they refuse, & and |, str, the parts. -/
namespace K10
open PySem PySem.Spec PyProof.Rows L2
abbrev sJoined : Stmt := top 22
abbrev sBoth0 : Stmt := mth 20 0
abbrev sEither0 : Stmt := mth 21 0
abbrev sPair0 : Stmt := mth 13 0
abbrev sPair1 : Stmt := mth 13 1
abbrev sPair2 : Stmt := mth 13 2
abbrev sQAnd : Stmt := mth 18 8
abbrev sQOr : Stmt := mth 18 9
abbrev sQStr : Stmt := mth 18 11
theorem caps_pos : ∀ t : QT, 1 ≤ t.caps.length
  | .cap _ _ => Nat.le_refl 1
  | .both a b => by
    have := caps_pos a
    show 1 ≤ (a.caps ++ b.caps).length
    rw [List.length_append]
    omega
  | .either a b => by
    have := caps_pos a
    show 1 ≤ (a.caps ++ b.caps).length
    rw [List.length_append]
    omega
theorem joints_len : ∀ t : QT, t.joints.length + 1 = 2 * t.caps.length
  | .cap _ _ => rfl
  | .both a b => by
    have := joints_len a
    have := joints_len b
    show (a.joints ++ b.joints ++ [("both" : Str)]).length + 1 = 2 * (a.caps ++ b.caps).length
    simp only [List.length_append, List.length_cons, List.length_nil]
    omega
  | .either a b => by
    have := joints_len a
    have := joints_len b
    show (a.joints ++ b.joints ++ [("either" : Str)]).length + 1 = 2 * (a.caps ++ b.caps).length
    simp only [List.length_append, List.length_cons, List.length_nil]
    omega
/-- a quota of any class, with what its joints ask of the class -/
def AnyP (K : PySem.W.Frag) (CQ fL fS : Addr) (H : Hp) (a : Addr) (t : QT) : Prop := ∃ C, QKind K CQ C ∧ OwR.Len1 K C fL ∧ OwR.Fmt1 K C fS ∧ QAt C H a t
theorem AnyP.any {K : PySem.W.Frag} {CQ fL fS : Addr} {H : Hp} {a : Addr} {t : QT} (h : AnyP K CQ fL fS H a t) : AnyQ K CQ H a t := by
  obtain ⟨C, k, _, _, q⟩ := h
  exact ⟨C, k, q⟩
theorem AnyP.same {K : PySem.W.Frag} {CQ fL fS : Addr} {H H' : Hp} {a : Addr} {t : QT} (h : AnyP K CQ fL fS H a t) (s : Same H H') : AnyP K CQ fL fS H' a t := by
  obtain ⟨C, k, l, f, q⟩ := h
  exact ⟨C, k, l, f, q.same s⟩
theorem AnyP.but {K : PySem.W.Frag} {CQ fL fS z C dx : Addr} {H H' : Hp} {a : Addr} {t : QT} (h : AnyP K CQ fL fS H a t) (hz : H z = some (.ins C dx [])) (s : But z H H') : AnyP K CQ fL fS H' a t ∧ a ≠ z := by
  obtain ⟨D, k, l, f, q⟩ := h
  have na : a ≠ z := fun e => by
    obtain ⟨dy, fs, _, _, _, _, _, ea, e2, _⟩ := q
    rw [e, hz] at ea
    cases ea
    cases e2
  obtain ⟨dy, fs, cp, jp, kp, cks, zs, ea, r1, r2, r3, r4, r5, r6, r7, r8, r9⟩ := q
  have tp : ∀ k xs, H k = some (.tup xs) → H' k = some (.tup xs) := fun k xs e => s k _ (fun q => by rw [q, hz] at e; cases e) e
  exact ⟨⟨D, k, l, f, dy, fs, cp, jp, kp, cks, zs, s a _ na ea, r1, r2, tp _ _ r3, r4.mono tp, r5, tp _ _ r6, r7, tp _ _ r8, r9⟩, na⟩
/-- no quota -/
def NoQ (K : PySem.W.Frag) (CQ : Addr) (H : Hp) (x : V) : Prop := ∃ t, TyX K H x t ∧ PySem.W.kitOne K t (.ref CQ) = some false
def PairOf (C : Addr) (H : Hp) (z : Addr) (x y : V) : Prop := ∃ dx fs, H z = some (.ins C dx fs) ∧ fs.lookup ("_first" : Str) = some x ∧ fs.lookup ("_second" : Str) = some y
/-- the fields of TooMany("caps", 20) -/
def manyXd : List (Str × V) := [("most", .int 20), ("what", .str "caps")]
/-- the caps of two values, or what is refused -/
def spJC (K : PySem.W.Frag) (CQ fL fS CU CT : Addr) : Sp := fun vs H Q E => ∃ x y : V, vs = [x, y] ∧
  ((∃ (a b : Addr) (t u : QT), x = .ref a ∧ y = .ref b ∧ AnyP K CQ fL fS H a t ∧ AnyP K CQ fL fS H b u ∧ t.caps.length ≤ 20 ∧ u.caps.length ≤ 20 ∧
    (t.caps.length + u.caps.length ≤ 20 → ∀ p cks H', Same H H' → H' p = some (.tup (cks.map V.ref)) → CapsAt H' cks (t.caps ++ u.caps) → Q (.ref p) H') ∧
    (20 < t.caps.length + u.caps.length → ∀ H' d, Same H H' → H' d = none → E (.ref CT) (some d) (upd H' d (.xd manyXd)))) ∨
   (NoQ K CQ H x ∧ ∀ H' d, Same H H' → H' d = none → E (.ref CU) (some d) (upd H' d (.xd [("part", .str "first")]))) ∨
   ((∃ a t, x = .ref a ∧ AnyP K CQ fL fS H a t) ∧ NoQ K CQ H y ∧ ∀ H' d, Same H H' → H' d = none → E (.ref CU) (some d) (upd H' d (.xd [("part", .str "second")]))))
def spPair0 (K : PySem.W.Frag) : Sp := fun vs H Q _ => ∃ (a C dx : Addr) (x y : V), vs = [.ref a, x, y] ∧ H a = some (.ins C dx []) ∧ Cls K C ∧ NoAttr K C "_first" ∧ NoAttr K C "_second" ∧ ∀ fs, fs.length ≤ 2 → fs.lookup ("_first" : Str) = some x → fs.lookup ("_second" : Str) = some y → fs.lookup ("bounds" : Str) = none → Q .non (upd H a (.ins C dx fs))
def spQStr (K : PySem.W.Frag) (CQ : Addr) : Sp := fun vs H Q _ => ∃ (a : Addr) (t : QT), vs = [.ref a] ∧ AnyQ K CQ H a t ∧ t.text.length ≤ sizeLine ∧ Q (.str t.text) H
def spLnQ (K : PySem.W.Frag) (CQ : Addr) : Sp := fun vs H Q E => ∃ C, QKind K CQ C ∧ OwR.spLn C K "_caps" vs H Q E
section
variable {P : Program} {w : World} {K : PySem.W.Frag} {mg : Str → Option Value} {base : Heap}
theorem ok_qlenA {CQ f : Addr} {fd : FuncData} (F : Fun K "__len__" "Quota.__len__" sQLen f fd) (T : Nm2 mg) : FnR P w K mg base CX0 1 f (spLnQ K CQ) := by
  intro A outer s H us vs Q E hr e0 r ⟨C, k, h⟩
  exact ok_qlen k.qc F T A outer s H us vs Q E hr e0 r h
theorem scQS : FnScope ["self"] ["self"] (defScope sQStr) := ⟨rfl, rfl, rfl, by decide +kernel, rfl, by decide +kernel, by decide +kernel⟩
theorem ok_qstr {CQ f : Addr} {fd : FuncData} (F : Fun K "__str__" "Quota.__str__" sQStr f fd) : FnR P w K mg base CX0 1 f (spQStr K CQ) := by
  refine OwR.raw0 (F.ok (k := 0) (ps := ["self"]) scQS (fun vs H Q E h => ?_) (fun cdv A outer s H vs Q E hr h => ?_)) (F.binds fun _ _ _ _ _ _ us hl => match us, hl with | [_], _ => rfl)
  · obtain ⟨a, t, rfl, _⟩ := h
    rfl
  · obtain ⟨a, t, rfl, ⟨C, k, dx, fs, _, _, _, _, _, ea, lk, _⟩, l, q⟩ := h
    refine ⟨_, (pss_one (ps_ret (pe_joined1 (pe_fmt (pe_fld (pv 0) rfl))))), ?_⟩
    exact ⟨_, rfl, a, C, dx, fs, _, rfl, ea, k.qc.cls, k.qc.n1, lk, .inl ⟨_, rfl, l, q⟩⟩
theorem scP0 : FnScope ["self", "first", "second"] ["self", "first", "second"] (defScope sPair0) := ⟨rfl, rfl, rfl, by decide +kernel, rfl, by decide +kernel, by decide +kernel⟩
theorem ok_pair0 {f : Addr} {fd : FuncData} (F : Fun K "__init__" "Pair.__init__" sPair0 f fd) : FnR P w K mg base CX0 1 f (spPair0 K) := by
  refine OwR.raw0 (F.ok (k := 0) (ps := ["self", "first", "second"]) scP0 (fun vs H Q E h => ?_) (fun cdv A outer s H vs Q E hr h => ?_)) (F.binds fun _ _ _ _ _ _ us hl => match us, hl with | [_, _, _], _ => rfl)
  · obtain ⟨a, C, dx, x, y, rfl, _⟩ := h
    rfl
  · obtain ⟨a, C, dx, x, y, rfl, ha, c, n1, n2, q⟩ := h
    refine ⟨_, (pss_cons (ps_fld (pv 0) (pv 1) rfl)
    (pss_one (ps_fld (pv 0) (pv 2) rfl))), ?_⟩
    refine ⟨_, rfl, _, rfl, a, C, dx, [], rfl, ha, c, n1, by decide, ?_⟩
    refine ⟨_, rfl, _, rfl, a, C, dx, _, rfl, upd_same, c, n2, by show (1:Nat) < 1000; decide, ?_⟩
    rw [upd_upd]
    exact q _ (by show (2:Nat) ≤ 2; decide) rfl rfl rfl
theorem scP1 : FnScope ["self"] ["self"] (defScope sPair1) := ⟨rfl, rfl, rfl, by decide +kernel, rfl, by decide +kernel, by decide +kernel⟩
theorem scP2 : FnScope ["self"] ["self"] (defScope sPair2) := ⟨rfl, rfl, rfl, by decide +kernel, rfl, by decide +kernel, by decide +kernel⟩
theorem ok_pair1 {C f : Addr} {fd : FuncData} (hc : Cls K C) (n1 : NoAttr K C "_first") (F : Fun K "first" "Pair.first" sPair1 f fd) : FnOk P w K mg base CX0 1 f fd ["self"] (getSp C "_first") := by
  refine F.ok scP1 (fun vs H Q E h => ?_) (fun cdv A outer s H vs Q E hr h => ?_)
  · obtain ⟨a, dx, fs, v, rfl, _⟩ := h
    rfl
  · obtain ⟨a, dx, fs, v, rfl, ha, hl, q⟩ := h
    refine ⟨_, (pss_one (ps_ret (pe_fld (pv 0) rfl))), ?_⟩
    exact ⟨_, rfl, a, C, dx, fs, v, rfl, ha, hc, n1, hl, q⟩
theorem ok_pair2 {C f : Addr} {fd : FuncData} (hc : Cls K C) (n1 : NoAttr K C "_second") (F : Fun K "second" "Pair.second" sPair2 f fd) : FnOk P w K mg base CX0 1 f fd ["self"] (getSp C "_second") := by
  refine F.ok scP2 (fun vs H Q E h => ?_) (fun cdv A outer s H vs Q E hr h => ?_)
  · obtain ⟨a, dx, fs, v, rfl, _⟩ := h
    rfl
  · obtain ⟨a, dx, fs, v, rfl, ha, hl, q⟩ := h
    refine ⟨_, (pss_one (ps_ret (pe_fld (pv 0) rfl))), ?_⟩
    exact ⟨_, rfl, a, C, dx, fs, v, rfl, ha, hc, n1, hl, q⟩
theorem caps_app {H : Hp} {ks ls : List Addr} {cs ds : List (Int × List Str)} (h1 : CapsAt H ks cs) (h2 : CapsAt H ls ds) : CapsAt H (ks ++ ls) (cs ++ ds) := by
  refine ⟨by rw [List.length_append, List.length_append, h1.len, h2.len], fun i k c e1 e2 => ?_⟩
  rcases Nat.lt_or_ge i ks.length with lt | ge
  · rw [List.getElem?_append_left lt] at e1
    rw [List.getElem?_append_left (by rw [← h1.len]; exact lt)] at e2
    exact h1.at_ i k c e1 e2
  · rw [List.getElem?_append_right ge] at e1
    rw [List.getElem?_append_right (by rw [← h1.len]; exact ge), ← h1.len] at e2
    exact h2.at_ _ k c e1 e2
theorem scJC : FnScope ["first", "second"] ["first", "second"] (defScope sJoined) := ⟨rfl, rfl, rfl, by decide +kernel, rfl, by decide +kernel, by decide +kernel⟩
theorem ok_jc {CQ fL fS CN CM CU CT f : Addr} {fd fdL : FuncData} (F : Fun K "joined_caps" "joined_caps" sJoined f fd) (FL : Fun K "__len__" "Quota.__len__" sQLen fL fdL) (T : Nm2 mg) (gQ : mg "Quota" = some (.ref CQ)) (Er : QErrs K mg CN CM CU CT) : FnOk P w K mg base (L2.CX P w) 3 f fd ["first", "second"] (spJC K CQ fL fS CU CT) := by
  have GL : FnR P w K mg base CX0 1 fL (spLnQ K CQ) := ok_qlenA FL T
  obtain ⟨fB, fdB, T_B, hpart, F_B⟩ := Er.quota
  have GB : FnOk P w K mg base CX0 1 fB fdB ["self", "part"] (OwE.spErr1 K "part") := ok_BadQuota0 F_B
  have bB : Binds K fdB ["self", "part"] [] := F_B.binds fun _ _ _ _ _ _ us hl => match us, hl with | [_, _], _ => rfl
  obtain ⟨fM, fdM, T_M, hwhat, F_M⟩ := Er.many
  have GM : FnOk P w K mg base CX0 1 fM fdM ["self", "what", "most"] (OwE.spErr2 K "what" "most") := ok_TooMany0 F_M
  have bM : Binds K fdM ["self", "what", "most"] [] := F_M.binds fun _ _ _ _ _ _ us hl => match us, hl with | [_, _, _], _ => rfl
  refine F.okX scJC (fun vs H Q E h => ?_) (fun cdv A outer s H vs Q E hr h => ?_)
  · obtain ⟨x, y, rfl, _⟩ := h
    rfl
  · obtain ⟨x, y, rfl, h⟩ := h
    refine ⟨_, (pss_cons (ps_if (pt_not (pt_val (pe_callB call_isi (by rfl) T.n_isinstance (by decide +kernel) (pa_cons (pv 0) (pa_cons (pe_glob (v := .ref CQ) rfl gQ rfl) pa_nil))))) (pss_one (ps_raise rfl (takes_of rfl rfl rfl rfl) (pmk_oex T_B.er.ox T_B.ini T_B.ty GB hr bB .nil pass0 (by rfl) T_B.g (pa_cons pe_str pa_nil)))) pss_nil)
    (pss_cons (ps_if (pt_not (pt_val (pe_callB call_isi (by rfl) T.n_isinstance (by decide +kernel) (pa_cons (pv 1) (pa_cons (pe_glob (v := .ref CQ) rfl gQ rfl) pa_nil))))) (pss_one (ps_raise rfl (takes_of rfl rfl rfl rfl) (pmk_oex T_B.er.ox T_B.ini T_B.ty GB hr bB .nil pass0 (by rfl) T_B.g (pa_cons pe_str pa_nil)))) pss_nil)
    (pss_cons (ps_if (pt_cmpR op_gt (pe_op op_add (pe_callB (OwR.call_lenO GL hr pass0) (by rfl) T.n_len boot_len (pa_cons (pv 0) pa_nil)) (pe_callB (OwR.call_lenO GL hr pass0) (by rfl) T.n_len boot_len (pa_cons (pv 1) pa_nil))) pe_int (nomark _)) (pss_one (ps_raise rfl (takes_of rfl rfl rfl rfl) (pmk_oex T_M.er.ox T_M.ini T_M.ty GM hr bM .nil pass0 (by rfl) T_M.g (pa_cons pe_str (pa_cons pe_int pa_nil))))) pss_nil)
    (pss_one (ps_ret (pe_op op_catT (pe_fld (pv 0) rfl) (pe_fld (pv 1) rfl))))))), ?_⟩
    have sz := sizeLine_eq
    rcases h with ⟨a, b, t, u, rfl, rfl, hA, hB, lt, lu, q, qx⟩ | ⟨⟨ty, ht, kt⟩, qb⟩ | ⟨⟨a, t, rfl, C, k1, _, _, qa⟩, ⟨ty, ht, kt⟩, qb⟩
    · obtain ⟨C, k1, l1, _, dx, fs, cp, jp, kp, cks, zs, ea, _, ec, hcp, hck, _⟩ := hA
      obtain ⟨D, k2, l2, _, dy, gs, cp2, jp2, kp2, cks2, zs2, eb, _, ec2, hcp2, hck2, _⟩ := hB
      have n1 := hck.len
      have n2 := hck2.len
      refine ⟨_, rfl, .ref a, .ref CQ, _, _, true, rfl, .own _, k1.ty ea, k1.sub, true, rfl, iteF ?_⟩
      refine ⟨_, rfl, .ref b, .ref CQ, _, _, true, rfl, .own _, k2.ty eb, k2.sub, true, rfl, iteF ?_⟩
      refine ⟨_, rfl, a, C, dx, fs, rfl, ea, l1, C, k1, a, dx, cp, fs, _, rfl, ea, ec, SqT.of hcp, _, rfl, by omega, by rw [List.length_map]; omega, ?_⟩
      refine ⟨_, rfl, b, D, dy, gs, rfl, eb, l2, D, k2, b, dy, cp2, gs, _, rfl, eb, ec2, SqT.of hcp2, _, rfl, by omega, by rw [List.length_map]; omega, ?_⟩
      refine ⟨_, _, rfl, rfl, _, _, rfl, rfl, _, rfl, ?_⟩
      rw [List.length_map, List.length_map, n1, n2]
      refine ite2 (fun c => ?_) (fun c => ?_)
      · have c : (20 : Int) < (t.caps.length : Int) + (u.caps.length : Int) := of_decide_eq_true c
        exact OwE.mk_err2 T_M.er.ox hwhat Er.most fun d hd => qx (by omega) H d (Same.refl _) hd
      · have c : t.caps.length + u.caps.length ≤ 20 := Nat.le_of_not_lt fun h => c (decide_eq_true (by show (20 : Int) < (t.caps.length : Int) + (u.caps.length : Int); omega))
        refine ⟨_, rfl, a, C, dx, fs, .ref cp, rfl, ea, k1.qc.cls, k1.qc.n2, ec, _, rfl, b, D, dy, gs, .ref cp2, rfl, eb, k2.qc.cls, k2.qc.n2, ec2, cp, cp2, _, _, rfl, rfl, SqT.of hcp, SqT.of hcp2, fun e => ?_, by rw [List.length_map, List.length_map]; omega, fun e => ?_, fun _ p hp => ?_⟩
        · have := caps_pos t
          have := congrArg List.length e
          rw [List.length_map] at this
          simp at this
          rw [this] at n1
          simp at n1
          omega
        · have := caps_pos u
          have := congrArg List.length e
          rw [List.length_map] at this
          simp at this
          rw [this] at n2
          simp at n2
          omega
        have s1 := Same.of_new (o := .tup (cks.map V.ref ++ cks2.map V.ref)) hp
        exact q c p (cks ++ cks2) _ s1 (by rw [List.map_append]; exact upd_same) (caps_app (hck.same s1) (hck2.same s1))
    · refine ⟨_, rfl, x, .ref CQ, ty, _, false, rfl, .own _, ht, kt, false, rfl, iteT ?_⟩
      exact OwE.mk_err1 T_B.er.ox hpart fun d hd => qb H d (Same.refl _) hd
    · obtain ⟨dx, fs, _, _, _, _, _, ea, _⟩ := qa
      refine ⟨_, rfl, .ref a, .ref CQ, _, _, true, rfl, .own _, k1.ty ea, k1.sub, true, rfl, iteF ?_⟩
      refine ⟨_, rfl, y, .ref CQ, ty, _, false, rfl, .own _, ht, kt, false, rfl, iteT ?_⟩
      exact OwE.mk_err1 T_B.er.ox hpart fun d hd => qb H d (Same.refl _) hd
end
end K10
end
section
set_option pp.maxSteps 400
set_option pp.deepTerms.threshold 6
/-! Both and Either made, & and |. -/
namespace K10
open PySem PySem.Spec PyProof.Rows L2
def JoinRow (K : PySem.W.Frag) (CQ fL fS C CU CT : Addr) (mk : QT → QT → QT) (H : Hp) (z : Addr) (x y : V) (Q : VK) (E : XK) : Prop :=
  (∃ (a b : Addr) (t u : QT), x = .ref a ∧ y = .ref b ∧ AnyP K CQ fL fS H a t ∧ AnyP K CQ fL fS H b u ∧ t.caps.length ≤ 20 ∧ u.caps.length ≤ 20 ∧ (t.kinds ++ u.kinds).length < 64 ∧ t.text.length ≤ 100000 ∧ u.text.length ≤ 100000 ∧
    (t.caps.length + u.caps.length ≤ 20 → ∀ H', But z H H' → QAt C H' z (mk t u) → PairOf C H' z x y → Q .non H') ∧
    (20 < t.caps.length + u.caps.length → ∀ H' d, But z H H' → H' d = none → E (.ref CT) (some d) (upd H' d (.xd manyXd)))) ∨
  (NoQ K CQ H x ∧ ∀ H' d, But z H H' → H' d = none → E (.ref CU) (some d) (upd H' d (.xd [("part", .str "first")]))) ∨
  ((∃ a t, x = .ref a ∧ AnyP K CQ fL fS H a t) ∧ NoQ K CQ H y ∧ ∀ H' d, But z H H' → H' d = none → E (.ref CU) (some d) (upd H' d (.xd [("part", .str "second")])))
def spJoin0 (K : PySem.W.Frag) (CQ fL fS C CU CT : Addr) (mk : QT → QT → QT) : Sp := fun vs H Q E => ∃ (z dx : Addr) (x y : V), vs = [.ref z, x, y] ∧ H z = some (.ins C dx []) ∧ JoinRow K CQ fL fS C CU CT mk H z x y Q E
/-- a new joint -/
def MadeJoin (K : PySem.W.Frag) (CQ fL fS C CU CT : Addr) (mk : QT → QT → QT) (H : Hp) (x y : V) (Q : VK) (E : XK) : Prop :=
  (∃ (a b : Addr) (t u : QT), x = .ref a ∧ y = .ref b ∧ AnyP K CQ fL fS H a t ∧ AnyP K CQ fL fS H b u ∧ t.caps.length ≤ 20 ∧ u.caps.length ≤ 20 ∧ (t.kinds ++ u.kinds).length < 64 ∧ t.text.length ≤ 100000 ∧ u.text.length ≤ 100000 ∧
    (t.caps.length + u.caps.length ≤ 20 → ∀ z H', H z = none → Same H H' → QAt C H' z (mk t u) → PairOf C H' z x y → Q (.ref z) H') ∧
    (20 < t.caps.length + u.caps.length → ∀ H' d, Same H H' → H' d = none → E (.ref CT) (some d) (upd H' d (.xd manyXd)))) ∨
  ((∀ H', Same H H' → NoQ K CQ H' x) ∧ ∀ H' d, Same H H' → H' d = none → E (.ref CU) (some d) (upd H' d (.xd [("part", .str "first")]))) ∨
  ((∃ a t, x = .ref a ∧ AnyP K CQ fL fS H a t) ∧ (∀ H', Same H H' → NoQ K CQ H' y) ∧ ∀ H' d, Same H H' → H' d = none → E (.ref CU) (some d) (upd H' d (.xd [("part", .str "second")])))
theorem MadeJoin.row {K : PySem.W.Frag} {CQ fL fS C CU CT : Addr} {mk : QT → QT → QT} {H H1 : Hp} {x y : V} {Q Q1 : VK} {E : XK} {z : Addr} (h : MadeJoin K CQ fL fS C CU CT mk H x y Q E) (hz : H z = none) (s : Same H H1) (b : ∀ H', But z H1 H' → (Q (.ref z) H' → Q1 .non H') ∧ Same H H') : JoinRow K CQ fL fS C CU CT mk H1 z x y Q1 E := by
  rcases h with ⟨a, c, t, u, rfl, rfl, h1, h2, l1, l2, lk, lt, lu, q, qx⟩ | ⟨n, q⟩ | ⟨⟨a, t, rfl, h1⟩, n, q⟩
  · exact .inl ⟨a, c, t, u, rfl, rfl, h1.same s, h2.same s, l1, l2, lk, lt, lu, fun e H' bt r p => (b H' bt).1 (q e z H' hz (b H' bt).2 r p), fun e H' d bt nd => qx e H' d (b H' bt).2 nd⟩
  · exact .inr (.inl ⟨n H1 s, fun H' d bt nd => q H' d (b H' bt).2 nd⟩)
  · exact .inr (.inr ⟨⟨a, t, rfl, h1.same s⟩, n H1 s, fun H' d bt nd => q H' d (b H' bt).2 nd⟩)
theorem made_join {K : PySem.W.Frag} {CQ fL fS C CU CT z dz : Addr} {mk : QT → QT → QT} {H : Hp} {x y : V} {Q : VK} {E : XK} (h : MadeJoin K CQ fL fS C CU CT mk H x y Q E) (h1 : H z = none) (h2 : H dz = none) :
    spJoin0 K CQ fL fS C CU CT mk [.ref z, x, y] (upd (upd H dz (.own z)) z (.ins C dz [])) (fun v G => v = .non ∧ Q (.ref z) G) E := by
  have s0 : Same H (upd (upd H dz (.own z)) z (.ins C dz [])) := fun b o e => by
    rw [upd_ne (ne_of_none e h1), upd_ne (ne_of_none e h2)]
    exact e
  exact ⟨z, dz, x, y, rfl, upd_same, h.row h1 s0 fun H' sb => ⟨fun q => ⟨rfl, q⟩, made_same h1 h2 sb⟩⟩
def spJoin (K : PySem.W.Frag) (CQ fL fS C CU CT : Addr) (mk : QT → QT → QT) : Sp := fun vs H Q E => ∃ x y : V, vs = [x, y] ∧ MadeJoin K CQ fL fS C CU CT mk H x y Q E
theorem spJoin0_len {K : PySem.W.Frag} {CQ fL fS C CU CT : Addr} {mk : QT → QT → QT} : ∀ vs H Q E, spJoin0 K CQ fL fS C CU CT mk vs H Q E → vs.length = (["self", "first", "second"] : List Str).length := fun vs H Q E h => by
  obtain ⟨z, dx, x, y, rfl, _⟩ := h
  rfl
section
variable {P : Program} {w : World} {K : PySem.W.Frag} {mg : Str → Option Value} {base : Heap}
abbrev nJ0 : List Str := ["self", "first", "second", "caps"]
theorem scBoth0 : FnScope nJ0 ["self", "first", "second"] (defScope sBoth0) := ⟨rfl, rfl, rfl, by decide +kernel, rfl, by decide +kernel, by decide +kernel⟩
theorem begin_both : (Str.empty ++ ("both " : Str)) = ("both " : Str) ∧ ("both " : Str).length ≤ 10 ∧ (" " : Str).length = 1 := by decide +kernel
theorem ok_both0 {C CQ CP fL fS CN CM CU CT f fJ fQ0 fP : Addr} {mQ mP : Value} {fd fdL fdS fdJ fdQ0 fdP : FuncData} (qk : QKind K CQ C) (n1 : NoAttr K C "_first") (n2 : NoAttr K C "_second") (F : Fun K "__init__" "Both.__init__" sBoth0 f fd) (FL : Fun K "__len__" "Quota.__len__" sQLen fL fdL) (FS : Fun K "__str__" "Quota.__str__" sQStr fS fdS)
    (FJ : Fun K "joined_caps" "joined_caps" sJoined fJ fdJ) (gJ : mg "joined_caps" = some (.ref fJ)) (FQ0 : Fun K "__init__" "Quota.__init__" sQuota0 fQ0 fdQ0) (gQ : mg "Quota" = some (.ref CQ)) (rQ : ClX.CRead K CQ mQ) (cQ : OwR.CFun K CQ mQ "__init__" fQ0)
    (FP : Fun K "__init__" "Pair.__init__" sPair0 fP fdP) (gP : mg "Pair" = some (.ref CP)) (rP : ClX.CRead K CP mP) (cP : OwR.CFun K CP mP "__init__" fP) (c : Chk P w K mg base) (Er : QErrs K mg CN CM CU CT) : FnOk P w K mg base (L2.CX P w) 4 f fd ["self", "first", "second"] (spJoin0 K CQ fL fS C CU CT QT.both) := by
  have GJ : FnOk P w K mg base (L2.CX P w) 3 fJ fdJ ["first", "second"] (spJC K CQ fL fS CU CT) := ok_jc FJ FL c.T gQ Er
  have bJ : Binds K fdJ ["first", "second"] [] := FJ.binds fun _ _ _ _ _ _ us hl => match us, hl with | [_, _], _ => rfl
  have GP : FnR P w K mg base CX0 1 fP (spPair0 K) := ok_pair0 FP
  have GQ : FnR P w K mg base CX0 2 fQ0 (spQuota0 C) := ok_quota0 qk.qc FQ0 c
  have GS : FnR P w K mg base CX0 1 fS (spQStr K CQ) := ok_qstr FS
  refine F.okX scBoth0 (fun vs H Q E h => ?_) (fun cdv A outer s H vs Q E hr h => ?_)
  · exact spJoin0_len vs H Q E h
  · obtain ⟨z, dx, x, y, rfl, hz, h⟩ := h
    have hr2 : Room 2 _ := hr.mono (by decide)
    have hr1 : Room 1 _ := hr.mono (by decide)
    have hu2 : (A.deeper (envOfC "Both.__init__" (defScope sBoth0) s.heap.objs.size f cdv)).units + 2 < cLine := by have := hr.units; omega
    refine ⟨_, (pss_cons (ps_set (i := 3) scBoth0.nd rfl (Or.inl rfl) (pe_call GJ hr (by rfl) gJ FJ.kp bJ .nil (passes_call (takes_of rfl rfl rfl rfl) (fun _ _ _ _ h => h)) (pa_cons (pv 1) (pa_cons (pv 2) pa_nil))))
    (pss_cons (ps_expr (OwR.pe_cfun (pe_glob (v := .ref CP) rfl gP rfl) rP cP GP hr1 pass0 (pa_cons (pv 0) (pa_cons (pv 1) (pa_cons (pv 2) pa_nil)))))
    (pss_one (ps_expr (OwR.pe_cfun (pe_glob (v := .ref CQ) rfl gQ rfl) rQ cQ GQ hr2 pass0 (pa_cons (pv 0) (pa_cons (pe_joined (PJ.cons pe_str (PJ.cons (OwR.pe_fmtO (pv 1) hu2 GS hr2 pass0) (PJ.cons pe_str (PJ.cons (OwR.pe_fmtO (pv 2) hu2 GS hr2 pass0) PJ.nil))))) (pa_cons (pv 3) (pa_cons (pe_op op_catT (pe_op op_catT (pe_fld (pv 1) rfl) (pe_fld (pv 2) rfl)) (pe_tup (pa_cons pe_str pa_nil))) pa_nil))))))))), ?_⟩
    have sz := sizeLine_eq
    rcases h with ⟨a, b, t, u, rfl, rfl, hA, hB, lt, lu, lk, tt, tu, q, qx⟩ | ⟨n, q⟩ | ⟨⟨a, t, rfl, hA⟩, n, q⟩
    rotate_left
    · exact ⟨_, rfl, _, rfl, x, y, rfl, .inr (.inl ⟨n, fun H' d s nd => q H' d (Same.but z s) nd⟩)⟩
    · exact ⟨_, rfl, _, rfl, _, y, rfl, .inr (.inr ⟨⟨a, t, rfl, hA⟩, n, fun H' d s nd => q H' d (Same.but z s) nd⟩)⟩
    refine ⟨_, rfl, _, rfl, _, _, rfl, .inl ⟨a, b, t, u, rfl, rfl, hA, hB, lt, lu, fun e p cks H1 s1 ep ck => ?_, fun e H' d s nd => qx e H' d (Same.but z s) nd⟩⟩
    refine ⟨rfl, _, rfl, _, rfl, _, rfl, z, C, dx, _, _, rfl, s1 _ _ hz, qk.qc.cls, n1, n2, fun fs l2 f1 f2 fb => ?_⟩
    have st2 : But z H (upd H1 z (.ins C dx fs)) := (Same.but z s1).trans But.at
    have ez2 : upd H1 z (.ins C dx fs) z = some (.ins C dx fs) := upd_same
    have ep2 : upd H1 z (.ins C dx fs) p = some (.tup (cks.map V.ref)) := by
      rw [upd_ne (fun q => by rw [q, s1 _ _ hz] at ep; cases ep)]
      exact ep
    have ck2 : CapsAt (upd H1 z (.ins C dx fs)) cks (t.caps ++ u.caps) := ck.mono fun k xs e => by
      rw [upd_ne (fun q => by rw [q, s1 _ _ hz] at e; cases e)]
      exact e
    obtain ⟨pa2, naz⟩ := hA.but hz st2
    obtain ⟨pb2, nbz⟩ := hB.but hz st2
    generalize upd H1 z (.ins C dx fs) = H2 at st2 ez2 ep2 ck2 pa2 pb2 ⊢
    obtain ⟨A1, k1, _, m1, dxa, fsa, cpa, jpa, kpa, cka, zsa, ea, tea, _, _, _, eja, hja, _⟩ := id pa2
    obtain ⟨B1, k2, _, m2, dxb, fsb, cpb, jpb, kpb, ckb, zsb, eb, teb, _, _, _, ejb, hjb, _⟩ := id pb2
    obtain ⟨b1, b2, b3⟩ := begin_both
    have lx : ∀ x y : Str, (x ++ y).length = x.length + y.length := fun x y => Str.length_append x y
    refine ⟨rfl, _, rfl, "both ", rfl, by rw [b1]; omega, ?_⟩
    rw [b1]
    refine ⟨_, rfl, a, A1, dxa, fsa, rfl, ea, m1, a, t, rfl, pa2.any, by omega, t.text, rfl, t.text, rfl, by rw [lx]; omega, " ", rfl, by rw [lx, lx]; omega, ?_⟩
    refine ⟨_, rfl, b, B1, dxb, fsb, rfl, eb, m2, b, u, rfl, pb2.any, by omega, u.text, rfl, u.text, rfl, by rw [lx, lx, lx]; omega, ?_⟩
    have ja := joints_len t
    have jb := joints_len u
    have ca := caps_pos t
    have cb := caps_pos u
    have nea : t.joints.map V.str ≠ [] := fun e => by
      have := congrArg List.length e
      rw [List.length_map, List.length_nil] at this
      omega
    have neb : u.joints.map V.str ≠ [] := fun e => by
      have := congrArg List.length e
      rw [List.length_map, List.length_nil] at this
      omega
    refine ⟨_, rfl, _, rfl, a, A1, dxa, fsa, .ref jpa, rfl, ea, k1.qc.cls, k1.qc.n3, eja, _, rfl, b, B1, dxb, fsb, .ref jpb, rfl, eb, k2.qc.cls, k2.qc.n3, ejb, jpa, jpb, _, _, rfl, rfl, SqT.of hja, SqT.of hjb, nea, by rw [List.length_map, List.length_map]; omega, fun e => absurd e neb, fun _ p3 hp3 => ?_⟩
    have s3 := Same.of_new (o := .tup (t.joints.map V.str ++ u.joints.map V.str)) hp3
    refine ⟨by show (1 : Nat) ≤ sizeLine; omega, fun p4 hp4 => ?_⟩
    have s4 := Same.of_new (o := .tup [.str "both"]) hp4
    refine ⟨p3, p4, _, _, rfl, rfl, SqT.of (s4 _ _ upd_same), SqT.of upd_same, fun e => nea (List.append_eq_nil_iff.mp e).1, by rw [List.length_append, List.length_map, List.length_map]; show t.joints.length + u.joints.length + 1 ≤ sizeLine; omega, fun e => (by cases e), fun _ p5 hp5 => ?_⟩
    have s5 := Same.of_new (o := .tup (t.joints.map V.str ++ u.joints.map V.str ++ [.str "both"])) hp5
    have s35 := (s3.trans s4).trans s5
    refine ⟨z, p, p5, dx, fs, cks, .both t u, rfl, s35 _ _ ez2, by omega, fb, s35 _ _ ep2, ck2.same s35, ?_, ?_, fun H' bt qa kq => ?_⟩
    · rw [upd_same]
      show _ = some (HO.tup ((t.joints ++ u.joints ++ [("both" : Str)]).map V.str))
      rw [List.map_append, List.map_append]
      rfl
    · show ((t.caps ++ u.caps).flatMap (·.2)).length < 64
      rw [List.flatMap_append]
      exact lk
    · obtain ⟨dx2, fs2, e2, kf⟩ := kq
      refine q e H' ((st2.trans (Same.but z s35)).trans bt) qa ⟨dx2, fs2, e2, ?_, ?_⟩
      · rw [kf "_first" (by decide +kernel) (by decide +kernel) (by decide +kernel) (by decide +kernel)]
        exact f1
      · rw [kf "_second" (by decide +kernel) (by decide +kernel) (by decide +kernel) (by decide +kernel)]
        exact f2
theorem scBothJ : FnScope ["self", "other"] ["self", "other"] (defScope sQAnd) := ⟨rfl, rfl, rfl, by decide +kernel, rfl, by decide +kernel, by decide +kernel⟩
theorem ok_bothJ {C CQ fL fS CU CT f fI : Addr} {fd : FuncData} (F : Fun K "__and__" "Quota.__and__" sQAnd f fd) (M : Mk K C fI) (gC : mg "Both" = some (.ref C)) (G0 : FnR P w K mg base (L2.CX P w) 4 fI (spJoin0 K CQ fL fS C CU CT QT.both)) : FnR P w K mg base (L2.CX P w) 6 f (spJoin K CQ fL fS C CU CT QT.both) := by
  refine OwR.raw0 (F.okX (k := 5) (ps := ["self", "other"]) scBothJ (fun vs H Q E h => ?_) (fun cdv A outer s H vs Q E hr h => ?_)) (F.binds fun _ _ _ _ _ _ us hl => match us, hl with | [_, _], _ => rfl)
  · obtain ⟨x, y, rfl, _⟩ := h
    rfl
  · obtain ⟨x, y, rfl, h⟩ := h
    refine ⟨_, (pss_one (ps_ret (StX.pe_makeR M G0 hr (by rfl) gC (passes_call (takes_of rfl rfl rfl rfl) (fun _ _ _ _ h => h)) (pa_cons (pv 0) (pa_cons (pv 1) pa_nil))))), ?_⟩
    exact ⟨_, rfl, _, rfl, fun z dz h1 h2 _ => made_join h h1 h2⟩
theorem scEither0 : FnScope nJ0 ["self", "first", "second"] (defScope sEither0) := ⟨rfl, rfl, rfl, by decide +kernel, rfl, by decide +kernel, by decide +kernel⟩
theorem begin_either : (Str.empty ++ ("either " : Str)) = ("either " : Str) ∧ ("either " : Str).length ≤ 10 ∧ (" " : Str).length = 1 := by decide +kernel
theorem ok_either0 {C CQ CP fL fS CN CM CU CT f fJ fQ0 fP : Addr} {mQ mP : Value} {fd fdL fdS fdJ fdQ0 fdP : FuncData} (qk : QKind K CQ C) (n1 : NoAttr K C "_first") (n2 : NoAttr K C "_second") (F : Fun K "__init__" "Either.__init__" sEither0 f fd) (FL : Fun K "__len__" "Quota.__len__" sQLen fL fdL) (FS : Fun K "__str__" "Quota.__str__" sQStr fS fdS)
    (FJ : Fun K "joined_caps" "joined_caps" sJoined fJ fdJ) (gJ : mg "joined_caps" = some (.ref fJ)) (FQ0 : Fun K "__init__" "Quota.__init__" sQuota0 fQ0 fdQ0) (gQ : mg "Quota" = some (.ref CQ)) (rQ : ClX.CRead K CQ mQ) (cQ : OwR.CFun K CQ mQ "__init__" fQ0)
    (FP : Fun K "__init__" "Pair.__init__" sPair0 fP fdP) (gP : mg "Pair" = some (.ref CP)) (rP : ClX.CRead K CP mP) (cP : OwR.CFun K CP mP "__init__" fP) (c : Chk P w K mg base) (Er : QErrs K mg CN CM CU CT) : FnOk P w K mg base (L2.CX P w) 4 f fd ["self", "first", "second"] (spJoin0 K CQ fL fS C CU CT QT.either) := by
  have GJ : FnOk P w K mg base (L2.CX P w) 3 fJ fdJ ["first", "second"] (spJC K CQ fL fS CU CT) := ok_jc FJ FL c.T gQ Er
  have bJ : Binds K fdJ ["first", "second"] [] := FJ.binds fun _ _ _ _ _ _ us hl => match us, hl with | [_, _], _ => rfl
  have GP : FnR P w K mg base CX0 1 fP (spPair0 K) := ok_pair0 FP
  have GQ : FnR P w K mg base CX0 2 fQ0 (spQuota0 C) := ok_quota0 qk.qc FQ0 c
  have GS : FnR P w K mg base CX0 1 fS (spQStr K CQ) := ok_qstr FS
  refine F.okX scEither0 (fun vs H Q E h => ?_) (fun cdv A outer s H vs Q E hr h => ?_)
  · exact spJoin0_len vs H Q E h
  · obtain ⟨z, dx, x, y, rfl, hz, h⟩ := h
    have hr2 : Room 2 _ := hr.mono (by decide)
    have hr1 : Room 1 _ := hr.mono (by decide)
    have hu2 : (A.deeper (envOfC "Either.__init__" (defScope sEither0) s.heap.objs.size f cdv)).units + 2 < cLine := by have := hr.units; omega
    refine ⟨_, (pss_cons (ps_set (i := 3) scEither0.nd rfl (Or.inl rfl) (pe_call GJ hr (by rfl) gJ FJ.kp bJ .nil (passes_call (takes_of rfl rfl rfl rfl) (fun _ _ _ _ h => h)) (pa_cons (pv 1) (pa_cons (pv 2) pa_nil))))
    (pss_cons (ps_expr (OwR.pe_cfun (pe_glob (v := .ref CP) rfl gP rfl) rP cP GP hr1 pass0 (pa_cons (pv 0) (pa_cons (pv 1) (pa_cons (pv 2) pa_nil)))))
    (pss_one (ps_expr (OwR.pe_cfun (pe_glob (v := .ref CQ) rfl gQ rfl) rQ cQ GQ hr2 pass0 (pa_cons (pv 0) (pa_cons (pe_joined (PJ.cons pe_str (PJ.cons (OwR.pe_fmtO (pv 1) hu2 GS hr2 pass0) (PJ.cons pe_str (PJ.cons (OwR.pe_fmtO (pv 2) hu2 GS hr2 pass0) PJ.nil))))) (pa_cons (pv 3) (pa_cons (pe_op op_catT (pe_op op_catT (pe_fld (pv 1) rfl) (pe_fld (pv 2) rfl)) (pe_tup (pa_cons pe_str pa_nil))) pa_nil))))))))), ?_⟩
    have sz := sizeLine_eq
    rcases h with ⟨a, b, t, u, rfl, rfl, hA, hB, lt, lu, lk, tt, tu, q, qx⟩ | ⟨n, q⟩ | ⟨⟨a, t, rfl, hA⟩, n, q⟩
    rotate_left
    · exact ⟨_, rfl, _, rfl, x, y, rfl, .inr (.inl ⟨n, fun H' d s nd => q H' d (Same.but z s) nd⟩)⟩
    · exact ⟨_, rfl, _, rfl, _, y, rfl, .inr (.inr ⟨⟨a, t, rfl, hA⟩, n, fun H' d s nd => q H' d (Same.but z s) nd⟩)⟩
    refine ⟨_, rfl, _, rfl, _, _, rfl, .inl ⟨a, b, t, u, rfl, rfl, hA, hB, lt, lu, fun e p cks H1 s1 ep ck => ?_, fun e H' d s nd => qx e H' d (Same.but z s) nd⟩⟩
    refine ⟨rfl, _, rfl, _, rfl, _, rfl, z, C, dx, _, _, rfl, s1 _ _ hz, qk.qc.cls, n1, n2, fun fs l2 f1 f2 fb => ?_⟩
    have st2 : But z H (upd H1 z (.ins C dx fs)) := (Same.but z s1).trans But.at
    have ez2 : upd H1 z (.ins C dx fs) z = some (.ins C dx fs) := upd_same
    have ep2 : upd H1 z (.ins C dx fs) p = some (.tup (cks.map V.ref)) := by
      rw [upd_ne (fun q => by rw [q, s1 _ _ hz] at ep; cases ep)]
      exact ep
    have ck2 : CapsAt (upd H1 z (.ins C dx fs)) cks (t.caps ++ u.caps) := ck.mono fun k xs e => by
      rw [upd_ne (fun q => by rw [q, s1 _ _ hz] at e; cases e)]
      exact e
    obtain ⟨pa2, naz⟩ := hA.but hz st2
    obtain ⟨pb2, nbz⟩ := hB.but hz st2
    generalize upd H1 z (.ins C dx fs) = H2 at st2 ez2 ep2 ck2 pa2 pb2 ⊢
    obtain ⟨A1, k1, _, m1, dxa, fsa, cpa, jpa, kpa, cka, zsa, ea, tea, _, _, _, eja, hja, _⟩ := id pa2
    obtain ⟨B1, k2, _, m2, dxb, fsb, cpb, jpb, kpb, ckb, zsb, eb, teb, _, _, _, ejb, hjb, _⟩ := id pb2
    obtain ⟨b1, b2, b3⟩ := begin_either
    have lx : ∀ x y : Str, (x ++ y).length = x.length + y.length := fun x y => Str.length_append x y
    refine ⟨rfl, _, rfl, "either ", rfl, by rw [b1]; omega, ?_⟩
    rw [b1]
    refine ⟨_, rfl, a, A1, dxa, fsa, rfl, ea, m1, a, t, rfl, pa2.any, by omega, t.text, rfl, t.text, rfl, by rw [lx]; omega, " ", rfl, by rw [lx, lx]; omega, ?_⟩
    refine ⟨_, rfl, b, B1, dxb, fsb, rfl, eb, m2, b, u, rfl, pb2.any, by omega, u.text, rfl, u.text, rfl, by rw [lx, lx, lx]; omega, ?_⟩
    have ja := joints_len t
    have jb := joints_len u
    have ca := caps_pos t
    have cb := caps_pos u
    have nea : t.joints.map V.str ≠ [] := fun e => by
      have := congrArg List.length e
      rw [List.length_map, List.length_nil] at this
      omega
    have neb : u.joints.map V.str ≠ [] := fun e => by
      have := congrArg List.length e
      rw [List.length_map, List.length_nil] at this
      omega
    refine ⟨_, rfl, _, rfl, a, A1, dxa, fsa, .ref jpa, rfl, ea, k1.qc.cls, k1.qc.n3, eja, _, rfl, b, B1, dxb, fsb, .ref jpb, rfl, eb, k2.qc.cls, k2.qc.n3, ejb, jpa, jpb, _, _, rfl, rfl, SqT.of hja, SqT.of hjb, nea, by rw [List.length_map, List.length_map]; omega, fun e => absurd e neb, fun _ p3 hp3 => ?_⟩
    have s3 := Same.of_new (o := .tup (t.joints.map V.str ++ u.joints.map V.str)) hp3
    refine ⟨by show (1 : Nat) ≤ sizeLine; omega, fun p4 hp4 => ?_⟩
    have s4 := Same.of_new (o := .tup [.str "either"]) hp4
    refine ⟨p3, p4, _, _, rfl, rfl, SqT.of (s4 _ _ upd_same), SqT.of upd_same, fun e => nea (List.append_eq_nil_iff.mp e).1, by rw [List.length_append, List.length_map, List.length_map]; show t.joints.length + u.joints.length + 1 ≤ sizeLine; omega, fun e => (by cases e), fun _ p5 hp5 => ?_⟩
    have s5 := Same.of_new (o := .tup (t.joints.map V.str ++ u.joints.map V.str ++ [.str "either"])) hp5
    have s35 := (s3.trans s4).trans s5
    refine ⟨z, p, p5, dx, fs, cks, .either t u, rfl, s35 _ _ ez2, by omega, fb, s35 _ _ ep2, ck2.same s35, ?_, ?_, fun H' bt qa kq => ?_⟩
    · rw [upd_same]
      show _ = some (HO.tup ((t.joints ++ u.joints ++ [("either" : Str)]).map V.str))
      rw [List.map_append, List.map_append]
      rfl
    · show ((t.caps ++ u.caps).flatMap (·.2)).length < 64
      rw [List.flatMap_append]
      exact lk
    · obtain ⟨dx2, fs2, e2, kf⟩ := kq
      refine q e H' ((st2.trans (Same.but z s35)).trans bt) qa ⟨dx2, fs2, e2, ?_, ?_⟩
      · rw [kf "_first" (by decide +kernel) (by decide +kernel) (by decide +kernel) (by decide +kernel)]
        exact f1
      · rw [kf "_second" (by decide +kernel) (by decide +kernel) (by decide +kernel) (by decide +kernel)]
        exact f2
theorem scEitherJ : FnScope ["self", "other"] ["self", "other"] (defScope sQOr) := ⟨rfl, rfl, rfl, by decide +kernel, rfl, by decide +kernel, by decide +kernel⟩
theorem ok_eitherJ {C CQ fL fS CU CT f fI : Addr} {fd : FuncData} (F : Fun K "__or__" "Quota.__or__" sQOr f fd) (M : Mk K C fI) (gC : mg "Either" = some (.ref C)) (G0 : FnR P w K mg base (L2.CX P w) 4 fI (spJoin0 K CQ fL fS C CU CT QT.either)) : FnR P w K mg base (L2.CX P w) 6 f (spJoin K CQ fL fS C CU CT QT.either) := by
  refine OwR.raw0 (F.okX (k := 5) (ps := ["self", "other"]) scEitherJ (fun vs H Q E h => ?_) (fun cdv A outer s H vs Q E hr h => ?_)) (F.binds fun _ _ _ _ _ _ us hl => match us, hl with | [_, _], _ => rfl)
  · obtain ⟨x, y, rfl, _⟩ := h
    rfl
  · obtain ⟨x, y, rfl, h⟩ := h
    refine ⟨_, (pss_one (ps_ret (StX.pe_makeR M G0 hr (by rfl) gC (passes_call (takes_of rfl rfl rfl rfl) (fun _ _ _ _ h => h)) (pa_cons (pv 0) (pa_cons (pv 1) pa_nil))))), ?_⟩
    exact ⟨_, rfl, _, rfl, fun z dz h1 h2 _ => made_join h h1 h2⟩
end
end K10
end
section
set_option pp.maxSteps 400
set_option pp.deepTerms.threshold 6
/-! All that quotas of the three classes are known by; their trees on the heap. -/
namespace OwR
open PySem PySem.Spec PyProof.Rows L2
section
variable {X : Cx} {CX : CXT} {k : Nat} {f C : Addr} {ks : List Str} {sp : List V → Sp} {E : XK} {x : Str} {p pos : Pos} {kws : List Keyword} {tk : TA}
/-- C(k = v), no positional argument -/
theorem pe_makeRK0 (M : Mk X.K C f) (F : FnRK X.prog X.w X.K X.mg X.base CX k f ks sp) (hr : Room (k + 1) X.A) (hg : Gl X x) (hm : X.mg x = some (.ref C)) (hx : Passes CX X E) (hkw : PK X kws tk)
    (hall : (backToKw pos (keywordEach kws X.env)).all (·.1.isSome) = true := by rfl) (hks : (backToKw pos (keywordEach kws X.env)).filterMap (·.1) = ks := by rfl) (hdb : (x == ("__debug__" : Str)) = false := by decide)
    (hpl : ((backTo pos (starEach [] X.env)).any (·.1) || (backToKw pos (keywordEach kws X.env)).any (·.1.isNone)) = false := by rfl) :
    PE X (.Call (.Name x p) [] kws pos) (tMakeRK C sp E tNil tk) := by
  refine ⟨fun pins s σ H Q I h => ?_⟩
  refine wpAny_Call_Name_kw (ld_glob I hg hm ?_ hdb)
  refine PySem.W.callWith_KW0 (h₀ := X.base) I.ok.mod.kin M.kp hall ?_ hpl
  refine thn (hkw.run pos pins s σ H _ I h) fun ws s2 ⟨zs, H2, I2, rz, q2⟩ => ⟨I2.kIn, ?_⟩
  rw [hks]
  exact run_makeRK (us := []) M F hr hx I2 .nil rz q2
end
end OwR
namespace K10
open PySem PySem.Spec PyProof.Rows L2
/-- where the parts of quotas stand -/
structure QAd where
  (CQ CC CB CE CP CN CM CU CT fL fS fA fO fE fK pK fBo gI fC fB0 fE0 fQ0 fP0 p1 f1 p2 f2 : Addr)
structure QOne (K : PySem.W.Frag) (a : QAd) (C : Addr) : Prop where
  qk : QKind K a.CQ C
  ln : OwR.Len1 K C a.fL
  fm : OwR.Fmt1 K C a.fS
  st : OwR.Str1 K C a.fS
  eq : OwR.Cmp1 K .Eq C a.fE
  ne : OwR.Ne1 K C a.fE
  inn : OwR.In1 K C a.gI
  pk : PropOf K C "kinds" a.pK a.fK
  mb : Meth K C "bounds" a.fBo
  an : OwR.Bin1 K .BitAnd C a.fA
  or_ : OwR.Bin1 K .BitOr C a.fO
/-- two classes of quotas: one, or neither above the other -/
structure QTwo (K : PySem.W.Frag) (C D : Addr) : Prop where
  bin : C = D ∨ (C ≠ D ∧ PySem.W.subIn K (.ref D) (.ref C) = some false)
  cmp : PySem.W.notFirst K C (.ref D) = true
structure QF (P : Program) (w : World) (K : PySem.W.Frag) (mg : Str → Option Value) (base : Heap) (a : QAd) : Prop where
  chk : Chk P w K mg base
  er : QErrs K mg a.CN a.CM a.CU a.CT
  one : ∀ C ∈ [a.CC, a.CB, a.CE], QOne K a C
  two : ∀ C ∈ [a.CC, a.CB, a.CE], ∀ D ∈ [a.CC, a.CB, a.CE], QTwo K C D
  hm : NoAttr K a.CC "most"
  n1B : NoAttr K a.CB "_first"
  n2B : NoAttr K a.CB "_second"
  n1E : NoAttr K a.CE "_first"
  n2E : NoAttr K a.CE "_second"
  gQ : mg "Quota" = some (.ref a.CQ)
  gC : mg "Cap" = some (.ref a.CC)
  gB : mg "Both" = some (.ref a.CB)
  gE : mg "Either" = some (.ref a.CE)
  gP : mg "Pair" = some (.ref a.CP)
  mkC : Mk K a.CC a.fC
  mkB : Mk K a.CB a.fB0
  mkE : Mk K a.CE a.fE0
  p1B : PropOf K a.CB "first" a.p1 a.f1
  p2B : PropOf K a.CB "second" a.p2 a.f2
  p1E : PropOf K a.CE "first" a.p1 a.f1
  p2E : PropOf K a.CE "second" a.p2 a.f2
  rQ : ClX.CRead K a.CQ (.type "type")
  cQ : OwR.CFun K a.CQ (.type "type") "__init__" a.fQ0
  rP : ClX.CRead K a.CP (.type "type")
  cP : OwR.CFun K a.CP (.type "type") "__init__" a.fP0
  dC : ∃ fd, Fun K "__init__" "Cap.__init__" sCap0 a.fC fd
  dB : ∃ fd, Fun K "__init__" "Both.__init__" sBoth0 a.fB0 fd
  dE : ∃ fd, Fun K "__init__" "Either.__init__" sEither0 a.fE0 fd
  dQ : ∃ fd, Fun K "__init__" "Quota.__init__" sQuota0 a.fQ0 fd
  dP : ∃ fd, Fun K "__init__" "Pair.__init__" sPair0 a.fP0 fd
  dL : ∃ fd, Fun K "__len__" "Quota.__len__" sQLen a.fL fd
  dS : ∃ fd, Fun K "__str__" "Quota.__str__" sQStr a.fS fd
  dA : ∃ fd, Fun K "__and__" "Quota.__and__" sQAnd a.fA fd
  dO : ∃ fd, Fun K "__or__" "Quota.__or__" sQOr a.fO fd
  dEq : ∃ fd, Fun K "__eq__" "Quota.__eq__" sQEq a.fE fd
  dK : ∃ fd, Fun K "kinds" "Quota.kinds" sQKinds a.fK fd
  dBo : ∃ fd, Fun K "bounds" "Quota.bounds" sQBounds a.fBo fd
  dI : ∃ fd, Fun K "__contains__" "Quota.__contains__" sQIn a.gI fd
  d1 : ∃ fd, Fun K "first" "Pair.first" sPair1 a.f1 fd
  d2 : ∃ fd, Fun K "second" "Pair.second" sPair2 a.f2 fd
  jc : ∃ f fd, mg "joined_caps" = some (.ref f) ∧ Fun K "joined_caps" "joined_caps" sJoined f fd
  cn : ∃ f fd, mg "check_names" = some (.ref f) ∧ Fun K "check_names" "check_names" sChkN f fd
  il : ∃ f fd, mg "is_let" = some (.ref f) ∧ Fun K "is_let" "is_let" sIsLet f fd
  ls : ∃ f fd, mg "lets_sums" = some (.ref f) ∧ Fun K "lets_sums" "lets_sums" sLets f fd
  n_zip : mg "zip" = none
  n_sum : mg "sum" = none
section
variable {P : Program} {w : World} {K : PySem.W.Frag} {mg : Str → Option Value} {base : Heap} {a : QAd}
theorem QF.cap (h : QF P w K mg base a) : QOne K a a.CC := h.one _ (by simp)
theorem QF.both (h : QF P w K mg base a) : QOne K a a.CB := h.one _ (by simp)
theorem QF.either (h : QF P w K mg base a) : QOne K a a.CE := h.one _ (by simp)
theorem QF.GC (h : QF P w K mg base a) : FnR P w K mg base (L2.CX P w) 4 a.fC (spCap K a.CC a.CN a.CM) := by
  obtain ⟨_, F⟩ := h.dC
  obtain ⟨_, FQ⟩ := h.dQ
  obtain ⟨_, _, g, FN⟩ := h.cn
  exact ok_cap0 h.cap.qk.qc h.hm F FQ h.gQ h.rQ h.cQ FN g h.chk h.er
theorem QF.GB (h : QF P w K mg base a) : FnR P w K mg base (L2.CX P w) 4 a.fB0 (spJoin0 K a.CQ a.fL a.fS a.CB a.CU a.CT QT.both) := by
  obtain ⟨_, F⟩ := h.dB
  obtain ⟨_, FQ⟩ := h.dQ
  obtain ⟨_, FP⟩ := h.dP
  obtain ⟨_, FL⟩ := h.dL
  obtain ⟨_, FS⟩ := h.dS
  obtain ⟨_, _, g, FJ⟩ := h.jc
  exact OwR.raw0 (ok_both0 h.both.qk h.n1B h.n2B F FL FS FJ g FQ h.gQ h.rQ h.cQ FP h.gP h.rP h.cP h.chk h.er) (F.binds fun _ _ _ _ _ _ us hl => match us, hl with | [_, _, _], _ => rfl)
theorem QF.GEk (h : QF P w K mg base a) : ∃ fd, Fun K "__init__" "Either.__init__" sEither0 a.fE0 fd ∧ FnOk P w K mg base (L2.CX P w) 4 a.fE0 fd ["self", "first", "second"] (spJoin0 K a.CQ a.fL a.fS a.CE a.CU a.CT QT.either) := by
  obtain ⟨_, F⟩ := h.dE
  obtain ⟨_, FQ⟩ := h.dQ
  obtain ⟨_, FP⟩ := h.dP
  obtain ⟨_, FL⟩ := h.dL
  obtain ⟨_, FS⟩ := h.dS
  obtain ⟨_, _, g, FJ⟩ := h.jc
  exact ⟨_, F, ok_either0 h.either.qk h.n1E h.n2E F FL FS FJ g FQ h.gQ h.rQ h.cQ FP h.gP h.rP h.cP h.chk h.er⟩
theorem QF.GE (h : QF P w K mg base a) : FnR P w K mg base (L2.CX P w) 4 a.fE0 (spJoin0 K a.CQ a.fL a.fS a.CE a.CU a.CT QT.either) := by
  obtain ⟨fd, F, G⟩ := h.GEk
  exact OwR.raw0 G (F.binds fun _ _ _ _ _ _ us hl => match us, hl with | [_, _, _], _ => rfl)
def spEitherK (K : PySem.W.Frag) (a : QAd) : List V → Sp := fun zs vs H Q E => ∃ (z : Addr) (x y : V), vs = [.ref z] ∧ zs = [y, x] ∧ spJoin0 K a.CQ a.fL a.fS a.CE a.CU a.CT QT.either [.ref z, x, y] H Q E
theorem QF.GEK (h : QF P w K mg base a) : OwR.FnRK P w K mg base (L2.CX P w) 4 a.fE0 ["second", "first"] (spEitherK K a) := by
  obtain ⟨fd, F, G⟩ := h.GEk
  obtain ⟨oc, od, kV, doc, pm, an, cdv, ct, osl, rfl, lk, hcd⟩ := F.ex
  intro A outer s H us ws vs zs Q E hr e0 r rz ⟨z, x, y, ev, ez, hj⟩
  subst ev ez
  match us, ws, r, rz with
  | [u1], [w1, w2], .cons r1 .nil, .cons r2 (.cons r3 .nil) => exact G.run A outer s H ⟨[u1], [("second", w1), ("first", w2)]⟩ [u1, w2, w1] [.ref z, x, y] Q E hr e0 (.of_eq rfl) (.cons r1 (.cons r3 (.cons r2 .nil))) hj
theorem QF.and_ (h : QF P w K mg base a) : FnR P w K mg base (L2.CX P w) 6 a.fA (spJoin K a.CQ a.fL a.fS a.CB a.CU a.CT QT.both) := by
  obtain ⟨_, F⟩ := h.dA
  exact ok_bothJ F h.mkB h.gB h.GB
theorem QF.or_ (h : QF P w K mg base a) : FnR P w K mg base (L2.CX P w) 6 a.fO (spJoin K a.CQ a.fL a.fS a.CE a.CU a.CT QT.either) := by
  obtain ⟨_, F⟩ := h.dO
  exact ok_eitherJ F h.mkE h.gE h.GE
theorem QF.len (h : QF P w K mg base a) : FnR P w K mg base CX0 1 a.fL (spLnQ K a.CQ) := by
  obtain ⟨_, F⟩ := h.dL
  exact ok_qlenA F h.chk.T
theorem QF.str (h : QF P w K mg base a) : FnR P w K mg base CX0 1 a.fS (spQStr K a.CQ) := by
  obtain ⟨_, F⟩ := h.dS
  exact ok_qstr F
theorem QF.eqQ (h : QF P w K mg base a) : FnR P w K mg base CX0 1 a.fE (spQEq K a.CQ) := by
  obtain ⟨_, F⟩ := h.dEq
  exact ok_qeq F h.chk.T h.gQ
theorem QF.eqO (h : QF P w K mg base a) : FnR P w K mg base CX0 1 a.fE (spQEqO K a.CQ) := by
  obtain ⟨_, F⟩ := h.dEq
  exact ok_qeqO F h.chk.T h.gQ
def spQInA (K : PySem.W.Frag) (CQ : Addr) : Sp := fun vs H Q E => ∃ C, QKind K CQ C ∧ spQIn K C vs H Q E
theorem QF.in_ (h : QF P w K mg base a) : FnR P w K mg base CX0 3 a.gI (spQInA K a.CQ) := by
  obtain ⟨_, F⟩ := h.dI
  obtain ⟨_, _, g1, F1⟩ := h.il
  obtain ⟨_, _, g2, F2⟩ := h.ls
  intro A outer s H us vs Q E hr e0 r ⟨C, k, hq⟩
  exact ok_qin k.qc F F2 g2 F1 g1 h.n_zip h.n_sum A outer s H us vs Q E hr e0 r hq
end
/-! ### trees -/
/-- the same tree, its kinds ascending -/
def SortOf : QT → QT → Prop
  | .cap m ks, .cap m' zs => m' = m ∧ zs.Perm ks ∧ sortedS zs = true
  | .both t u, .both t' u' => SortOf t t' ∧ SortOf u u'
  | .either t u, .either t' u' => SortOf t t' ∧ SortOf u u'
  | _, _ => False
/-- a quota of this tree, with all its parts -/
def QTr (a : QAd) (H : Hp) : QT → Addr → Prop
  | .cap m zs, q => CapAt a.CC H q m zs
  | .both t u, q => QAt a.CB H q (.both t u) ∧ ∃ f g, PairOf a.CB H q (.ref f) (.ref g) ∧ QTr a H t f ∧ QTr a H u g
  | .either t u, q => QAt a.CE H q (.either t u) ∧ ∃ f g, PairOf a.CE H q (.ref f) (.ref g) ∧ QTr a H t f ∧ QTr a H u g
theorem CapAt.mono {C q : Addr} {H H' : Hp} {m : Int} {zs : List Str} (h : CapAt C H q m zs) (s : ∀ k xs, H k = some (.tup xs) → H' k = some (.tup xs)) (s2 : ∀ k C dx fs, H k = some (.ins C dx fs) → H' k = some (.ins C dx fs)) : CapAt C H' q m zs := by
  obtain ⟨qa, dx, fs, e, l⟩ := h
  exact ⟨qa.mono s fun k dx fs e => s2 k _ dx fs e, dx, fs, s2 _ _ _ _ e, l⟩
theorem PairOf.mono {C q : Addr} {H H' : Hp} {x y : V} (h : PairOf C H q x y) (s2 : ∀ k C dx fs, H k = some (.ins C dx fs) → H' k = some (.ins C dx fs)) : PairOf C H' q x y := by
  obtain ⟨dx, fs, e, l⟩ := h
  exact ⟨dx, fs, s2 _ _ _ _ e, l⟩
theorem QTr.mono {a : QAd} {H H' : Hp} (s : ∀ k xs, H k = some (.tup xs) → H' k = some (.tup xs)) (s2 : ∀ k C dx fs, H k = some (.ins C dx fs) → H' k = some (.ins C dx fs)) : ∀ {t : QT} {q : Addr}, QTr a H t q → QTr a H' t q
  | .cap m zs, q, h => CapAt.mono h s s2
  | .both t u, q, ⟨h, f, g, p, h1, h2⟩ => ⟨h.mono s fun k dx fs e => s2 k _ dx fs e, f, g, p.mono s2, QTr.mono s s2 h1, QTr.mono s s2 h2⟩
  | .either t u, q, ⟨h, f, g, p, h1, h2⟩ => ⟨h.mono s fun k dx fs e => s2 k _ dx fs e, f, g, p.mono s2, QTr.mono s s2 h1, QTr.mono s s2 h2⟩
theorem QTr.same {a : QAd} {H H' : Hp} {t : QT} {q : Addr} (h : QTr a H t q) (s : Same H H') : QTr a H' t q := h.mono (fun _ _ e => s _ _ e) fun _ _ _ _ e => s _ _ e
/-- its class -/
def clsT (a : QAd) : QT → Addr
  | .cap _ _ => a.CC
  | .both _ _ => a.CB
  | .either _ _ => a.CE
theorem clsT_mem (a : QAd) : ∀ t : QT, clsT a t ∈ [a.CC, a.CB, a.CE]
  | .cap _ _ => by simp [clsT]
  | .both _ _ => by simp [clsT]
  | .either _ _ => by simp [clsT]
theorem QTr.qat {a : QAd} {H : Hp} : ∀ {t : QT} {q : Addr}, QTr a H t q → QAt (clsT a t) H q t
  | .cap m zs, q, h => h.1
  | .both t u, q, h => h.1
  | .either t u, q, h => h.1
theorem QTr.any {P : Program} {w : World} {K : PySem.W.Frag} {mg : Str → Option Value} {base : Heap} {a : QAd} {H : Hp} {t : QT} {q : Addr} (f : QF P w K mg base a) (h : QTr a H t q) : AnyP K a.CQ a.fL a.fS H q t :=
  ⟨_, (f.one _ (clsT_mem a t)).qk, (f.one _ (clsT_mem a t)).ln, (f.one _ (clsT_mem a t)).fm, h.qat⟩
/-! ### sizes -/
def SmallC (c : Int × List Str) : Prop := 0 ≤ c.1 ∧ c.1 ≤ 12 ∧ c.2.length ≤ 3 ∧ ∀ z ∈ c.2, z.length ≤ 8
theorem two_signs : ∀ m : Fin 13, (toString ((m.val : Nat) : Int) : Str).length ≤ 2 := by decide +kernel
theorem cap_text {c : Int × List Str} (h : SmallC c) : (QT.cap c.1 c.2).text.length ≤ 60 := by
  obtain ⟨m0, m1, l, g⟩ := h
  show (Txt.join " " (capWords c.1 c.2)).length ≤ 60
  rw [TL.join_eq]
  refine Nat.le_trans (StrLaws.join_length_le " " (capWords c.1 c.2)) ?_
  have e1 : ((" " : Str)).length = 1 := by decide +kernel
  have e2 : (("cap" : Str)).length = 3 := by decide +kernel
  have k1 := two_signs ⟨c.1.toNat, by omega⟩
  rw [show (((⟨c.1.toNat, by omega⟩ : Fin 13).val : Nat) : Int) = c.1 from Int.toNat_of_nonneg m0] at k1
  have k2 := two_signs ⟨c.2.length, by omega⟩
  have sm : ∀ ys : List Str, (∀ y ∈ ys, y.length ≤ 8) → (ys.map (·.length)).sum ≤ ys.length * 8 := fun ys => by
    induction ys with
    | nil => intro _; exact Nat.le_refl 0
    | cons y r ih =>
      intro h
      rw [List.map_cons, List.sum_cons, List.length_cons, Nat.succ_mul]
      have := ih fun z hz => h z (List.mem_cons_of_mem _ hz)
      have := h y List.mem_cons_self
      omega
  have := sm c.2 g
  have el : (capWords c.1 c.2).length = 3 + c.2.length := by simp [capWords]; omega
  have es : ((capWords c.1 c.2).map (·.length)).sum = 3 + ((toString c.1 : Str).length + ((toString ((c.2.length : Nat) : Int) : Str).length + (c.2.map (·.length)).sum)) := by
    simp [capWords, e2]
  rw [es, el, e1]
  have : (toString ((c.2.length : Nat) : Int) : Str).length ≤ 2 := k2
  omega
theorem joint_signs : ("both " : Str).length = 5 ∧ ("either " : Str).length = 7 ∧ (" " : Str).length = 1 := by decide +kernel
theorem text_len : ∀ t : QT, (∀ c ∈ t.caps, SmallC c) → t.text.length + 10 ≤ 70 * t.caps.length
  | .cap m ks, h => by
    have := cap_text (h (m, ks) (List.mem_singleton.mpr rfl))
    show (QT.cap m ks).text.length + 10 ≤ 70 * 1
    have : (QT.cap m ks).text.length ≤ 60 := this
    omega
  | .both t u, h => by
    have h1 := text_len t fun c hc => h c (List.mem_append_left _ hc)
    have h2 := text_len u fun c hc => h c (List.mem_append_right _ hc)
    obtain ⟨e1, e2, e3⟩ := joint_signs
    show ("both " ++ t.text ++ " " ++ u.text : Str).length + 10 ≤ 70 * (t.caps ++ u.caps).length
    rw [Str.length_append, Str.length_append, Str.length_append, List.length_append, e1, e3]
    omega
  | .either t u, h => by
    have h1 := text_len t fun c hc => h c (List.mem_append_left _ hc)
    have h2 := text_len u fun c hc => h c (List.mem_append_right _ hc)
    obtain ⟨e1, e2, e3⟩ := joint_signs
    show ("either " ++ t.text ++ " " ++ u.text : Str).length + 10 ≤ 70 * (t.caps ++ u.caps).length
    rw [Str.length_append, Str.length_append, Str.length_append, List.length_append, e2, e3]
    omega
theorem kinds_len (t : QT) (h : ∀ c ∈ t.caps, SmallC c) : t.kinds.length ≤ 3 * t.caps.length := by
  have key : ∀ cs : List (Int × List Str), (∀ c ∈ cs, SmallC c) → (cs.flatMap (·.2)).length ≤ 3 * cs.length := fun cs => by
    induction cs with
    | nil => intro _; exact Nat.le_refl 0
    | cons c r ih =>
      intro h
      have := ih fun d hd => h d (List.mem_cons_of_mem _ hd)
      have := (h c List.mem_cons_self).2.2.1
      rw [List.flatMap_cons, List.length_append, List.length_cons]
      omega
  exact key t.caps h
theorem SortOf.caps : ∀ {t t' : QT}, SortOf t t' → t'.caps.length = t.caps.length ∧ ((∀ c ∈ t.caps, SmallC c) → ∀ c ∈ t'.caps, SmallC c)
  | .cap m ks, .cap m' zs, ⟨e, pm, _⟩ => ⟨rfl, fun h c hc => by
    obtain ⟨h1, h2, h3, h4⟩ := h (m, ks) (List.mem_singleton.mpr rfl)
    have ec : c = (m', zs) := List.mem_singleton.mp hc
    subst ec e
    exact ⟨h1, h2, by rw [pm.length_eq]; exact h3, fun z hz => h4 z (pm.mem_iff.mp hz)⟩⟩
  | .both t u, .both t' u', ⟨h1, h2⟩ => by
    obtain ⟨a1, a2⟩ := SortOf.caps h1
    obtain ⟨b1, b2⟩ := SortOf.caps h2
    refine ⟨by show (t'.caps ++ u'.caps).length = (t.caps ++ u.caps).length; rw [List.length_append, List.length_append, a1, b1], fun h c hc => ?_⟩
    exact (List.mem_append.mp hc).elim (a2 (fun c hc => h c (List.mem_append_left _ hc)) c) (b2 (fun c hc => h c (List.mem_append_right _ hc)) c)
  | .either t u, .either t' u', ⟨h1, h2⟩ => by
    obtain ⟨a1, a2⟩ := SortOf.caps h1
    obtain ⟨b1, b2⟩ := SortOf.caps h2
    refine ⟨by show (t'.caps ++ u'.caps).length = (t.caps ++ u.caps).length; rw [List.length_append, List.length_append, a1, b1], fun h c hc => ?_⟩
    exact (List.mem_append.mp hc).elim (a2 (fun c hc => h c (List.mem_append_left _ hc)) c) (b2 (fun c hc => h c (List.mem_append_right _ hc)) c)
end K10
end
section
/-! What the end of the top says of the quotas' classes. Own. -/
namespace K10
open PySem PySem.Spec PyProof.Rows L2
/-- where the parts of quotas stand, read off the classes -/
def qa (K : PySem.W.Frag) : QAd where
  CQ := OwH.ga K "Quota"
  CC := OwH.ga K "Cap"
  CB := OwH.ga K "Both"
  CE := OwH.ga K "Either"
  CP := OwH.ga K "Pair"
  CN := OwH.ga K "BadName"
  CM := OwH.ga K "BadNumber"
  CU := OwH.ga K "BadQuota"
  CT := OwH.ga K "TooMany"
  fL := OwH.mo K "Cap" "__len__"
  fS := OwH.mo K "Cap" "__str__"
  fA := OwH.mo K "Cap" "__and__"
  fO := OwH.mo K "Cap" "__or__"
  fE := OwH.mo K "Cap" "__eq__"
  pK := OwH.mo K "Cap" "kinds"
  fK := OwH.inRec K (OwH.mo K "Cap" "kinds") "property"
  fBo := OwH.mo K "Cap" "bounds"
  gI := OwH.mo K "Cap" "__contains__"
  fC := OwH.mo K "Cap" "__init__"
  fB0 := OwH.mo K "Both" "__init__"
  fE0 := OwH.mo K "Either" "__init__"
  fQ0 := OwH.mo K "Quota" "__init__"
  fP0 := OwH.mo K "Pair" "__init__"
  p1 := OwH.mo K "Both" "first"
  f1 := OwH.inRec K (OwH.mo K "Both" "first") "property"
  p2 := OwH.mo K "Both" "second"
  f2 := OwH.inRec K (OwH.mo K "Both" "second") "property"
def fQc (x : Str) (K : PySem.W.Frag) : Bool := (He.Fa.cls x).ok K && ((He.Fa.noat x "_text").ok K && ((He.Fa.noat x "_caps").ok K && ((He.Fa.noat x "_joints").ok K && (He.Fa.noat x "_kinds").ok K)))
def fFmt (K : PySem.W.Frag) (C : Addr) : Bool := He.eqO (PySem.W.findIn K (.ref C) "__format__") (some (some (.builtin "object.__format__")))
/-- all that the laws ask of a class of quotas -/
def fQuota (x : Str) (K : PySem.W.Frag) : Bool := fQc x K && (OwH.fIsC x K && (decide (PySem.W.kitOne K (.ref (OwH.ga K x)) (.ref (qa K).CQ) = some true) && (OwH.hasF K (.ref (OwH.ga K x)) "__len__" (qa K).fL && (fFmt K (OwH.ga K x) && (OwH.hasF K (.ref (OwH.ga K x)) "__str__" (qa K).fS &&
  (OwH.hasF K (.ref (OwH.ga K x)) "__eq__" (qa K).fE && (OwH.fNe x K && (OwH.hasF K (.ref (OwH.ga K x)) "__contains__" (qa K).gI && (OwH.fPropAt K (OwH.ga K x) "kinds" (qa K).pK && (OwH.fMethAt K (OwH.ga K x) "bounds" (qa K).fBo &&
  (OwH.fBin .BitAnd K (OwH.ga K x) (qa K).fA && OwH.fBin .BitOr K (OwH.ga K x) (qa K).fO)))))))))))
theorem quota_ok {x : Str} {K : PySem.W.Frag} (h : fQuota x K = true) : QOne K (qa K) (OwH.ga K x) := by
  obtain ⟨a1, h⟩ := OwH.two h
  obtain ⟨a2, h⟩ := OwH.two h
  obtain ⟨a3, h⟩ := OwH.two h
  obtain ⟨a4, h⟩ := OwH.two h
  obtain ⟨a5, h⟩ := OwH.two h
  obtain ⟨a6, h⟩ := OwH.two h
  obtain ⟨a7, h⟩ := OwH.two h
  obtain ⟨a8, h⟩ := OwH.two h
  obtain ⟨a9, h⟩ := OwH.two h
  obtain ⟨b1, h⟩ := OwH.two h
  obtain ⟨b2, h⟩ := OwH.two h
  obtain ⟨b3, b4⟩ := OwH.two h
  obtain ⟨d1, d2⟩ := OwH.two a1
  obtain ⟨d2, d3⟩ := OwH.two d2
  obtain ⟨d3, d4⟩ := OwH.two d3
  obtain ⟨d4, d5⟩ := OwH.two d4
  obtain ⟨e1, e2, e3, e4⟩ := OwH.isC_ok a2
  exact {
    qk := ⟨⟨He.cls_ok d1, He.noat_ok d2, He.noat_ok d3, He.noat_ok d4, He.noat_ok d5⟩, e1, e2, e3, e4, of_decide_eq_true a3⟩
    ln := ⟨(OwH.hasF_ok a4).1, (OwH.hasF_ok a4).2⟩
    fm := ⟨He.eqO_ok a5, e4, (OwH.hasF_ok a6).1, (OwH.hasF_ok a6).2⟩
    st := ⟨(OwH.hasF_ok a6).1, (OwH.hasF_ok a6).2⟩
    eq := ⟨(OwH.hasF_ok a7).1, (OwH.hasF_ok a7).2⟩
    ne := ⟨(OwH.hasF_ok a7).1, (OwH.hasF_ok a7).2, OwH.ne_ok a8, e4⟩
    inn := ⟨(OwH.hasF_ok a9).1, (OwH.hasF_ok a9).2⟩
    pk := OwH.propAt_ok b1
    mb := OwH.methAt_ok b2
    an := OwH.fBin_ok b3
    or_ := OwH.fBin_ok b4 }
def cls3 (K : PySem.W.Frag) : List Addr := [(qa K).CC, (qa K).CB, (qa K).CE]
def fTwo (K : PySem.W.Frag) (C D : Addr) : Bool := (decide (C = D) || (!decide (C = D) && decide (PySem.W.subIn K (.ref D) (.ref C) = some false))) && PySem.W.notFirst K C (.ref D)
theorem two_ok {K : PySem.W.Frag} {C D : Addr} (h : fTwo K C D = true) : QTwo K C D := by
  obtain ⟨h1, h2⟩ := OwH.two h
  refine ⟨?_, h2⟩
  rcases Bool.or_eq_true_iff.mp h1 with e | e
  · exact .inl (of_decide_eq_true e)
  · obtain ⟨e1, e2⟩ := OwH.two e
    exact .inr ⟨(fun e => by rw [decide_eq_true e] at e1; cases e1), of_decide_eq_true e2⟩
def fAll2 (K : PySem.W.Frag) : Bool := (cls3 K).all fun C => (cls3 K).all fun D => fTwo K C D
theorem all2_ok {K : PySem.W.Frag} (h : fAll2 K = true) : ∀ C ∈ [(qa K).CC, (qa K).CB, (qa K).CE], ∀ D ∈ [(qa K).CC, (qa K).CB, (qa K).CE], QTwo K C D := fun C hC D hD =>
  two_ok (List.all_eq_true.mp (List.all_eq_true.mp h C hC) D hD)
theorem one_okQ {K : PySem.W.Frag} (h1 : fQuota "Cap" K = true) (h2 : fQuota "Both" K = true) (h3 : fQuota "Either" K = true) : ∀ C ∈ [(qa K).CC, (qa K).CB, (qa K).CE], QOne K (qa K) C := fun C hC => by
  simp only [List.mem_cons, List.not_mem_nil, or_false] at hC
  rcases hC with rfl | rfl | rfl
  · exact quota_ok h1
  · exact quota_ok h2
  · exact quota_ok h3
end K10
end
section
/-! Own: a lambda handed to a def of the text by its name; what stays meanwhile. -/
namespace OwE
open PySem PySem.Spec PyProof.Rows L2
theorem pe_lam {X : Cx} {x a q : Str} {sH : Stmt} {g c Pt : Addr} {gd : FuncData} {Ng : List Str} {TT : (XK → Hp → VK → Prop) → Hp → VK → Prop} {k : Nat} {params : Arguments} {body : Expr} {scope : Scope} {t : XK → TE} {p lpos pos : Pos}
    (hg : Gl X x) (F : Fun X.K x x sH g gd) (hm : X.mg x = some (.ref g)) (hb : L2.Binds X.K gd [a] []) (Sg : FnScope Ng [a] (defScope sH)) (hNg : Ng[0]? = some a) (hva : Vis (defScope sH) a) (hq : X.env.qual ++ "<lambda>" = q)
    (hG : ∀ cdv, LamX.GivesTo X Ng x (defScope sH) g cdv (defBody sH) a q TT) (TB : LamX.TabB X.base X.mg c Pt) (hcode : X.env.code = .ref c) (hr : Room (k + 2) X.A) (L : LamX.LamS X.env.scope scope)
    (hbody : ∀ (A : Around) (outer : List Env) (s : Shared) (H : Hp) (E : XK) (f c' : Addr), Room k (A.deeper (LamX.lamEnv X scope s.heap.objs.size f c')) → PE (LamX.lamCx X A outer s H E scope f c') body (t E))
    (hdef : defaultsOf params X.env = ([], []) := by rfl) (hbind : ∀ (q : Str) (cl : List (Str × Addr)) (pm cv ctv : Value), bindArgs (PySem.W.kla_fn "<lambda>" q params body scope cl pm cv ctv) ⟨[], []⟩ = pure [] := by intros; rfl)
    (hdb : (x == ("__debug__" : Str)) = false := by decide) (hd : (a == ("__debug__" : Str)) = false := by decide) (hcd : (a == ("__classdict__" : Str)) = false := by decide) :
    PE X (.Call (.Name x p) [.Lambda params body scope lpos] [] pos) (LamX.tLam [(Pt, q)] TT t) := by
  subst hq
  obtain ⟨oc, od, kV, doc, pm, an, cdv, ct, osl, rfl, lk, hcdv⟩ := F.ex
  exact LamX.pe_lamcall hg hm F.kp lk hcdv hb Sg hNg hva (hG cdv) TB hcode (List.mem_singleton.mpr rfl) (fun p hp _ => by rw [List.mem_singleton.mp hp]) hr L hdef hbind hbody hdb hd hcd
/-- what is wished may lean on the number of slots -/
theorem takes_len {X : Cx} {W : WX} (t : Takes X W) : Takes X (fun c d σ H => σ.length = X.N.length → W c d σ H) := fun u s' ⟨a, B, sI, pins, σ, H, cls, d, e, I, nb, up, sky, na, os, ag, w⟩ =>
  t u s' ⟨a, B, sI, pins, σ, H, cls, d, e, I, nb, up, sky, na, os, ag, w I.len⟩
theorem set_get {σ : L2.St} {n i : Nat} {v : Option V} (h : σ.length = n) (hi : i < n) : (σ.set i v)[i]? = some v := by
  rw [List.getElem?_set_self (by omega)]
end OwE
namespace K10
open PySem PySem.Spec PyProof.Rows L2
/-- all but the pen and the tables of code stay -/
def Lo (p : Addr) (H H' : Hp) : Prop := ∀ b o, b ≠ p → (∀ ps, o ≠ .tbl ps) → H b = some o → H' b = some o
theorem Lo.refl (p : Addr) (H : Hp) : Lo p H H := fun _ _ _ _ h => h
theorem Lo.trans {p : Addr} {H H1 H2 : Hp} (a : Lo p H H1) (b : Lo p H1 H2) : Lo p H H2 := fun c o n t h => b c o n t (a c o n t h)
theorem But.lo {p : Addr} {H H' : Hp} (s : But p H H') : Lo p H H' := fun b o n _ h => s b o n h
theorem Same.lo {H H' : Hp} (p : Addr) (s : Same H H') : Lo p H H' := fun b o _ _ h => s b o h
theorem extN_lo {H H' : Hp} (p : Addr) (s : LamX.ExtN H H') : Lo p H H' := fun b o _ t h => s b o h t
theorem PenAt.ext {H H' : Hp} {p c : Addr} {ns : List Int} {n : Nat} {z : Int} (P : PenAt H p c ns n z) (s : LamX.ExtN H H') : PenAt H' p c ns n z := ⟨s _ _ P.pen (fun ps h => by cases h), s _ _ P.cells (fun ps h => by cases h), P.few, P.rest⟩
theorem PenAt.lo {H H' : Hp} {p c : Addr} {ns : List Int} {n : Nat} {z : Int} (P : PenAt H p c ns n z) (s : Lo p H H') (hp : H' p = H p) : PenAt H' p c ns n z := ⟨hp.trans P.pen, s _ _ P.ne (fun ps h => by cases h) P.cells, P.few, P.rest⟩
theorem PenAt.ne_of {H : Hp} {p c : Addr} {ns : List Int} {n : Nat} {z : Int} (P : PenAt H p c ns n z) {b : Addr} {o : HO} (h : H b = Option.some o) (d : ∀ (c : Addr) (n z : Int), o ≠ .lst [.ref c, .int n, .int z]) : b ≠ p := fun q => by
  rw [q, P.pen] at h
  exact d _ _ _ (Option.some.inj h).symm
theorem tabs_but {T : List (Addr × Str)} {H H' : Hp} {p c : Addr} {ns : List Int} {n : Nat} {z : Int} (t : LamX.Tabs T H) (P : PenAt H p c ns n z) (s : But p H H') : LamX.Tabs T H' := fun e he => by
  obtain ⟨ps, h1, h2, h3⟩ := t e he
  have np : ∀ {b : Addr} {o : HO}, H b = some o → (∀ xs, o ≠ .lst xs) → b ≠ p := fun {b o} h d q => by
    rw [q, P.pen] at h
    exact d _ (Option.some.inj h).symm
  refine ⟨ps, s _ _ (np h1 fun xs h => by cases h) h1, h2, fun pos cv hc => ?_⟩
  obtain ⟨c2, e1, e2⟩ := h3 pos cv hc
  exact ⟨c2, e1, s _ _ (np e2 fun xs h => by
    unfold LamX.CodeO at h
    cases h) e2⟩
theorem tabs_put {T : List (Addr × Str)} {H : Hp} {l : Addr} {xs : List V} {o : HO} (t : LamX.Tabs T H) (h : H l = some (.lst xs)) : LamX.Tabs T (upd H l o) := fun e he => by
  obtain ⟨ps, h1, h2, h3⟩ := t e he
  have np : ∀ {b : Addr} {o : HO}, H b = some o → (∀ xs, o ≠ .lst xs) → b ≠ l := fun {b o} e d q => by
    rw [q, h] at e
    exact d _ (Option.some.inj e).symm
  refine ⟨ps, by rw [upd_ne (np h1 fun xs h => by cases h)]; exact h1, h2, fun pos cv hc => ?_⟩
  obtain ⟨c2, e1, e2⟩ := h3 pos cv hc
  have n2 : c2 ≠ l := np e2 fun xs h => by
    unfold LamX.CodeO at h
    cases h
  exact ⟨c2, e1, by rw [upd_ne n2]; exact e2⟩
theorem PenAt.lput {H : Hp} {p c l : Addr} {ns : List Int} {n : Nat} {z : Int} {s : Str} {xs : List V} {o : HO} (P : PenAt H p c ns n z) (nl : l ≠ p) (h : H l = Option.some (.lst (.str s :: xs))) : PenAt (upd H l o) p c ns n z := by
  refine P.put (Ne.symm nl) fun q => ?_
  rw [← q, P.cells] at h
  cases ns with
  | nil => cases h
  | cons a r => cases h
theorem tabs_same {T : List (Addr × Str)} {H H' : Hp} (t : LamX.Tabs T H) (s : Same H H') : LamX.Tabs T H' := t.ext fun b o h => s b o h
end K10
end
section
/-! Own: lambdas of several defs, each with its table; rules and rows where the pen moves. -/
namespace OwE
open PySem PySem.Spec PyProof.Rows L2
theorem pe_lamT {X : Cx} {T : List (Addr × Str)} {x a q : Str} {sH : Stmt} {g c Pt : Addr} {gd : FuncData} {Ng : List Str} {TT : (XK → Hp → VK → Prop) → Hp → VK → Prop} {k : Nat} {params : Arguments} {body : Expr} {scope : Scope} {t : XK → TE} {p lpos pos : Pos}
    (hg : Gl X x) (F : Fun X.K x x sH g gd) (hm : X.mg x = some (.ref g)) (hb : L2.Binds X.K gd [a] []) (Sg : FnScope Ng [a] (defScope sH)) (hNg : Ng[0]? = some a) (hva : Vis (defScope sH) a) (hq : X.env.qual ++ "<lambda>" = q)
    (hG : ∀ cdv, LamX.GivesTo X Ng x (defScope sH) g cdv (defBody sH) a q TT) (TB : LamX.TabB X.base X.mg c Pt) (hcode : X.env.code = .ref c) (mem : (Pt, q) ∈ T) (one : ∀ p ∈ T, p.1 = Pt → p.2 = q) (hr : Room (k + 2) X.A) (L : LamX.LamS X.env.scope scope)
    (hbody : ∀ (A : Around) (outer : List Env) (s : Shared) (H : Hp) (E : XK) (f c' : Addr), Room k (A.deeper (LamX.lamEnv X scope s.heap.objs.size f c')) → PE (LamX.lamCx X A outer s H E scope f c') body (t E))
    (hdef : defaultsOf params X.env = ([], []) := by rfl) (hbind : ∀ (q : Str) (cl : List (Str × Addr)) (pm cv ctv : Value), bindArgs (PySem.W.kla_fn "<lambda>" q params body scope cl pm cv ctv) ⟨[], []⟩ = pure [] := by intros; rfl)
    (hdb : (x == ("__debug__" : Str)) = false := by decide) (hd : (a == ("__debug__" : Str)) = false := by decide) (hcd : (a == ("__classdict__" : Str)) = false := by decide) :
    PE X (.Call (.Name x p) [.Lambda params body scope lpos] [] pos) (LamX.tLam T TT t) := by
  subst hq
  obtain ⟨oc, od, kV, doc, pm, an, cdv, ct, osl, rfl, lk, hcdv⟩ := F.ex
  exact LamX.pe_lamcall hg hm F.kp lk hcdv hb Sg hNg hva (hG cdv) TB hcode mem one hr L hdef hbind hbody hdb hd hcd
end OwE
namespace K10
open PySem PySem.Spec PyProof.Rows L2
section
variable {H H' : Hp} {p c : Addr} {ns : List Int} {n : Nat} {z : Int}
theorem lo_tup (P : PenAt H p c ns n z) (s : Lo p H H') {k : Addr} {xs : List V} (e : H k = some (.tup xs)) : H' k = some (.tup xs) := s k _ (fun q => by rw [q, P.pen] at e; cases e) (fun ps h => by cases h) e
theorem lo_ins (P : PenAt H p c ns n z) (s : Lo p H H') {k C dx : Addr} {fs : List (Str × V)} (e : H k = some (.ins C dx fs)) : H' k = some (.ins C dx fs) := s k _ (fun q => by rw [q, P.pen] at e; cases e) (fun ps h => by cases h) e
theorem lo_dK (P : PenAt H p c ns n z) (s : Lo p H H') {k : Addr} {kvs : List (Key × V)} (e : H k = some (.dK kvs)) : H' k = some (.dK kvs) := s k _ (fun q => by rw [q, P.pen] at e; cases e) (fun ps h => by cases h) e
theorem lo_refs (P : PenAt H p c ns n z) (s : Lo p H H') {k : Addr} {ks : List Addr} (e : H k = some (.lst (ks.map V.ref))) : H' k = some (.lst (ks.map V.ref)) := s k _ (P.ne_of e fun c n z h => by
  have h := HO.lst.inj h
  match ks, h with
  | [_, _, _], h => cases h) (fun ps h => by cases h) e
theorem PicksAt.lo {ks : List Addr} {ps : List Pk} (h : PicksAt H ks ps) (P : PenAt H p c ns n z) (s : Lo p H H') : PicksAt H' ks ps := h.mono fun k xs e => lo_tup P s e
theorem RuleAt.lo {C a : Addr} {ps : List Pk} (h : RuleAt C H a ps) (P : PenAt H p c ns n z) (s : Lo p H H') : RuleAt C H' a ps := by
  obtain ⟨dx, fs, q, ks, h1, h2, h3, h4, D, b, r, zs, m⟩ := h
  exact ⟨dx, fs, q, ks, lo_ins P s h1, h2, lo_tup P s h3, h4.lo P s, D, b, r, zs, m.lm, m.lk, m.lb, lo_dK P s m.eD, m.tb, lo_tup P s m.eb, m.nd, m.mem, m.srt⟩
end
end K10
end
section
/-! Own: several except clauses, some with a name; the last one takes what is left. -/
namespace OwE
open PySem PySem.Spec PyProof.Rows L2
/-- a clause: its class, the slot of its name (if it has one), what its suite does -/
abbrev Clause : Type := Value × Option Nat × (Addr → Value → Option Addr → TS)
def putS (o : Option Nat) (v : Option V) (σ : L2.St) : L2.St := match o with
  | some i => σ.set i v
  | none => σ
/-- what the clauses wish of an error, one after the other -/
def wMix (K : PySem.W.Frag) (D : Ends) : List Clause → WX
  | [] => fun _ _ _ _ => False
  | (c, o, ts) :: r => fun cls d σ H => ∃ b, PySem.W.exmOne K cls c = some b ∧ (b = true → ∀ a, H a = none → ts a cls d { nx := fun σ' H' => D.nx (putS o none σ') H', rt := D.rt, bk := fun _ _ => False, ct := fun _ _ => False } (putS o (some (.ref a)) σ) H) ∧ (b = false → wMix K D r cls d σ H)
inductive Clauses (X : Cx) : List ExceptHandler → List Clause → Prop
  | nil : Clauses X [] []
  | bare {x : Str} {c : Value} {ts : Addr → Value → Option Addr → TS} {b₀ : Stmt} {suite : List Stmt} {np q : Pos} {hds : List ExceptHandler} {l : List Clause} (hc : Names X x c)
      (hsu : ∀ (a : Addr) (oe : Obj) (cls : Value) (d : Option Addr) (pn : List (Addr × Obj)), Zc cls d oe → (∃ vs, oe.data = .fields vs) → PSs (X.suite a ((a, oe) :: pn)) (b₀ :: suite) (ts a cls d)) (r : Clauses X hds l) : Clauses X (.ExceptHandler (some (.Name x np)) none (b₀ :: suite) q :: hds) ((c, none, ts) :: l)
  | named {x n : Str} {c : Value} {i : Nat} {ts : Addr → Value → Option Addr → TS} {b₀ : Stmt} {suite : List Stmt} {np q : Pos} {hds : List ExceptHandler} {l : List Clause} (hc : Names X x c) (hi : X.N[i]? = some n) (hln : X.env.kindOf n = some .local)
      (hsu : ∀ (a : Addr) (oe : Obj) (cls : Value) (d : Option Addr) (pn : List (Addr × Obj)), Zc cls d oe → (∃ vs, oe.data = .fields vs) → PSs (X.suite a ((a, oe) :: pn)) (b₀ :: suite) (ts a cls d)) (r : Clauses X hds l) : Clauses X (.ExceptHandler (some (.Name x np)) (some n) (b₀ :: suite) q :: hds) ((c, some i, ts) :: l)
section
variable {X : Cx} {body : List Stmt} {h₀ : ExceptHandler} {hds : List ExceptHandler} {l : List Clause} {pos : Pos} {tb : WX → TS}
theorem ps_try_mix (hs : X.stack = X.env :: X.outer) (hf : X.env.frame = some X.env.locals) (hN : X.N.Nodup)
    (hb : ∀ (W : WX) (pn : List (Addr × Obj)) (xe : Value → Shared → Prop), Takes (X.tr pn xe) W → PSs (X.tr pn xe) body (tb W)) (hh : Clauses X (h₀ :: hds) l) :
    PS X (.Try body (h₀ :: hds) [] [] pos) (fun D σ H => tb (wMix X.K D l) D σ H) := by
  refine ⟨fun pins s σ H D I h => wpAny_Try_except ?_⟩
  have ok := I.ok
  have heard : Takes (X.tr (X.pn ++ pins) fun e s1 => wpAny (model X.prog X.w) X.A (noteFrame e X.env) (fun _ s2 => wpAny (model X.prog X.w) X.A (setFlight e none) (fun _ s3 => wpAny (model X.prog X.w) X.A (handleBy e X.env (h₀ :: hds)) (SP X pins D) X.xe s3) X.xe s2) X.xe s1) (wMix X.K D l) := by
    rintro u s1 ⟨a, B, sI, _, σ1, H1, cls, d, rfl, J, seen, up, sky, na, os, bare, wish⟩
    have J := J.ofTry ok
    rw [show (X.tr (X.pn ++ pins) _).stack = X.env :: X.outer from hs] at sky
    refine Sky.land Zc.steady (by rw [ok.frames, hs]) hf sky fun h2 fly up2 => ?_
    obtain ⟨ob, vb, eb, zb, db⟩ := fly.there
    have isFr : ∀ {b : Addr}, b ∈ frs (X.env :: X.outer) → b ≠ a := fun {b} m q => by
      obtain ⟨_, o, e, k⟩ := fly.2.2.1.mem m
      rw [q, eb] at e
      cases e
      exact k _ db
    have out : ∀ {b : Addr}, b = X.env.locals ∨ b ∈ X.fs → b ∈ frs (X.env :: X.outer) := fun {b} m => by
      rcases m with q | q
      · exact List.mem_filterMap.mpr ⟨X.env, List.mem_cons_self, by rw [hf, q]⟩
      · obtain ⟨e, me, q⟩ := List.mem_filterMap.mp q
        exact List.mem_filterMap.mpr ⟨e, List.mem_cons_of_mem _ me, q⟩
    have nl : a ≠ X.env.locals := fun q => isFr (out (.inl rfl)) q.symm
    have nf : a ∉ X.fs := fun q => isFr (out (.inr q)) rfl
    have first : ∀ {h : Heap} {o : Obj} {vs : Array Value}, s1.heap.UpToSlots h → B.StaysIn h → h.get? a = some o → o.data = .fields vs → Inv (X.suite a ((a, o) :: (X.pn ++ pins))) [] σ1 H1 { s1 with heap := h } := fun {h o vs} u st e dv => (J.landed (s' := { s1 with heap := h }) seen st (up.trans u) os bare).suite e dv na nl nf
    have I2 := first up2 fly.1 eb db
    have kind : PySem.W.Looks (model X.prog X.w) h2 (typeOf (.ref a)) cls := fun A Q E s k q => wpAny_typeOf_ref (k _ _ eb) (by rw [zb.1]; exact q)
    -- one clause behind the other
    have asked : ∀ {x : Str} {c : Value} {np : Pos}, Names X x c → ∀ {Q : Value → Shared → Prop} {E : Value → Shared → Prop}, Q c { s1 with heap := h2 } → wpAny (model X.prog X.w) (X.A.mark (some (.ref a))) (eval (.Name x np) X.env) Q E { s1 with heap := h2 } := fun {x c np} hc {Q E} q => by
      rcases hc with ⟨g, nd, m | ⟨m, v, nn⟩⟩
      · exact ld_glob (X := X.suite a ((a, ob) :: (X.pn ++ pins))) I2 g m q nd
      · exact ld_blt (X := X.suite a ((a, ob) :: (X.pn ++ pins))) I2 g m v q nn nd
    have go : ∀ {hs2 : List ExceptHandler} {l2 : List Clause}, Clauses X hs2 l2 → wMix X.K D l2 cls d σ1 H1 → wpAny (model X.prog X.w) X.A (handleBy (.ref a) X.env hs2) (SP X pins D) X.xe { s1 with heap := h2 } := by
      intro hs2 l2 k
      induction k with
      | nil => exact fun w => w.elim
      | @bare x c ts b₀ suite np q hds3 l3 hc hsu r ih =>
        rintro ⟨b, hx, yes, no⟩
        refine wpAny_handleBy_cons (codeAny_handlers_test (asked hc ((PySem.W.exm_one (M := model X.prog X.w) I2.kIn kind hx).here ?_))) (by intro q; cases q)
        cases b with
        | false => exact ih (no rfl)
        | true =>
          refine codeAny_handlers_suite (HandSPX.lands_againZ fly fun h3 fly3 up3 => ?_)
          obtain ⟨oc, vc, ec, zc, dc⟩ := fly3.there
          have I3 := first (up2.trans up3) fly3.1 ec dc
          refine wpAny_mono ((hsu a oc cls d (X.pn ++ pins) zc ⟨_, dc⟩).run [] _ _ H1 _ I3 (yes rfl a na)) ?_ fun _ _ z => z.elim
          rintro fl s5 q5
          cases fl with
          | next =>
            obtain ⟨σ5, H5, I5, q⟩ := q5
            exact ⟨_, _, I5.unsuite ok, q⟩
          | brk =>
            obtain ⟨_, _, _, q⟩ := q5
            exact q.elim
          | cont =>
            obtain ⟨_, _, _, q⟩ := q5
            exact q.elim
          | ret v =>
            obtain ⟨v5, σ5, H5, I5, r5, q⟩ := q5
            exact ⟨_, _, _, I5.unsuite ok, r5, q⟩
      | @named x n c i ts b₀ suite np q hds3 l3 hc hi hln hsu r ih =>
        rintro ⟨b, hx, yes, no⟩
        refine wpAny_handleBy_cons (codeAny_handlers_test (asked hc ((PySem.W.exm_one (M := model X.prog X.w) I2.kIn kind hx).here ?_))) (by intro q; cases q)
        cases b with
        | false => exact ih (no rfl)
        | true =>
          refine codeAny_handlers_suite_as (HandSPX.lands_againZ fly fun h3 fly3 up3 => ?_)
          obtain ⟨oc, vc, ec, zc, dc⟩ := fly3.there
          refine store_ok (X := X.suite a ((a, oc) :: (X.pn ++ pins))) (v := .ref a) (first (up2.trans up3) fly3.1 ec dc) hN hi (.inl hln) rfl (fun s4 I4 => wpAny_mono ((hsu a oc cls d (X.pn ++ pins) zc ⟨_, dc⟩).run [] s4 _ H1 _ I4 (yes rfl a na)) ?_ fun _ _ z => z.elim) (.inr hln)
          rintro fl s5 q5
          cases fl with
          | next =>
            obtain ⟨σ5, H5, I5, q⟩ := q5
            exact gone_ok (I5.unsuite ok) hN hi hln fun s6 I6 => ⟨_, _, I6, q⟩
          | brk =>
            obtain ⟨_, _, _, q⟩ := q5
            exact q.elim
          | cont =>
            obtain ⟨_, _, _, q⟩ := q5
            exact q.elim
          | ret v =>
            obtain ⟨v5, σ5, H5, I5, r5, q⟩ := q5
            exact gone_ok (I5.unsuite ok) hN hi hln fun s6 I6 => ⟨_, _, _, I6, r5, q⟩
    exact go hh wish
  refine wpAny_mono ((hb (wMix X.K D l) (X.pn ++ pins) _ heard).run [] s σ H D (I.toTry _) h) (fun fl s1 q => ?_) fun _ _ z => z
  cases fl with
  | next =>
    obtain ⟨σ1, H1, J, q⟩ := q
    exact wpAny_execs_nil ⟨σ1, H1, J.ofTry ok, q⟩
  | brk =>
    obtain ⟨σ1, H1, J, q⟩ := q
    exact ⟨σ1, H1, J.ofTry ok, q⟩
  | cont =>
    obtain ⟨σ1, H1, J, q⟩ := q
    exact ⟨σ1, H1, J.ofTry ok, q⟩
  | ret v =>
    obtain ⟨v, σ1, H1, J, r, q⟩ := q
    exact ⟨v, σ1, H1, J.ofTry ok, r, q⟩
end
end OwE
end
section
/-! Own: a class method called by keywords alone. -/
namespace OwR
open PySem PySem.Spec PyProof.Rows L2 ClX
def tCMethK (C : Addr) (sp : List V → Sp) (E : XK) (ta : TE) (tk : TA) : TE := fun σ H Q => ta σ H fun x H1 => x = .ref C ∧ tk σ H1 fun zs H2 => sp zs [.ref C] H2 Q E
theorem pe_cmethK {X : Cx} {CX : CXT} {k : Nat} {C p g : Addr} {mc : Value} {ks : List Str} {sp : List V → Sp} {E : XK} {o : Expr} {m : Str} {pos apos : Pos} {ta : TE} {tk : TA} {kws : List Keyword} {pl : Sem Bool} (he : PE X o ta) (r : CRead X.K C mc) (c : CMet X.K C mc m p g) (F : FnRK X.prog X.w X.K X.mg X.base CX k g ks sp) (hr : Room k X.A) (hx : Passes CX X E) (hkw : PK X kws tk)
    (hall : (backToKw pos (keywordEach kws X.env)).all (·.1.isSome) = true := by rfl) (hks : (backToKw pos (keywordEach kws X.env)).filterMap (·.1) = ks := by rfl) (hpl : ((backTo pos (starEach [] X.env)).any (·.1) || (backToKw pos (keywordEach kws X.env)).any (·.1.isNone)) = false := by rfl)
    (ht : eval (.Call (.Attribute o m apos) [] kws pos) X.env = (do
      let ov ← eval o X.env
      standAt apos.atName
      let (f, first) ← holding [ov] (getMethod ov m pl)
      callWith pos f first (backTo pos (starEach [] X.env)) (backToKw pos (keywordEach kws X.env))) := by rfl) :
    PE X (.Call (.Attribute o m apos) [] kws pos) (tCMethK C sp E ta tk) := by
  refine ⟨fun pins s σ H Q I h => ?_⟩
  refine PySem.W.methodCall_KW (pl := pl) (thn (he.run pins s σ H _ I h) fun u s1 ⟨x, H1, I1, rx, ex, q⟩ => ?_) ht
  subst ex
  obtain rfl : u = Value.ref C := rx
  refine getmethcm_ok I1 r c fun s2 I2 => ?_
  show wpAny (model X.prog X.w) X.A (callWith pos (.ref s1.heap.objs.size) [] (backTo pos (starEach [] X.env)) (backToKw pos (keywordEach kws X.env))) (EP X pins σ Q) X.xe s2
  refine PySem.W.callWith_of (P := PySem.W.MethP X.K s1.heap.objs.size g (.ref C)) hpl (PySem.W.keeps_M c.fi) (PyProof.Rows.evalArgs_kw2_nil hall (thn (hkw.run pos _ s2 σ H1 _ I2 q) fun ws s3 ⟨zs, H2, I3, rz, q2⟩ => ⟨⟨pin_at I3, I3.kIn⟩, ?_⟩))
  rw [hks]
  have z : wpAny (model X.prog X.w) X.A (call (.ref s1.heap.objs.size) [] (ks.zip ws)) (EP X ((s1.heap.objs.size, PySem.W.methodObj (.ref g) (.ref C)) :: pins) σ Q) X.xe s3 := by
    refine wpAny_call (PySem.W.method_call (pin_at I3) (codeAny_mono (F X.A X.stack s3 H2 [.ref C] ws [.ref C] zs Q E hr I3.env0 (.cons rfl .nil) rz q2) fun r s' hq => ?_))
    cases r with
    | error er => exact hx _ σ H2 s3 er s' I3 hq
    | ok fl =>
      cases fl with
      | ret u => exact I3.after hq
      | next => exact False.elim hq
      | brk => exact False.elim hq
      | cont => exact False.elim hq
  exact thn z fun _ _ y => unpinE y
end OwR
end
section
/-! A text, so many times. Own. -/
namespace OwR
open PySem PySem.Spec PyProof.Rows L2
def repS (z : Str) (n : Nat) : Str := ⟨(List.replicate n z.cps).foldl (· ++ ·) #[]⟩
theorem fold_size : ∀ (l : List (Array Nat)) (a : Array Nat) (b : Nat), (∀ x ∈ l, x.size ≤ b) → (l.foldl (· ++ ·) a).size ≤ a.size + b * l.length
  | [], a, b, _ => Nat.le_refl _
  | x :: r, a, b, h => by
    have i := fold_size r (a ++ x) b fun y hy => h y (List.mem_cons_of_mem _ hy)
    have i1 := h x List.mem_cons_self
    rw [Array.size_append] at i
    rw [List.foldl_cons, List.length_cons, Nat.mul_succ]
    omega
def rMulS : R2 := fun x y H Q => ∃ (z : Str) (n : Nat), x = .str z ∧ y = .int (n : Nat) ∧ 2 ≤ n ∧ n ≤ 1000 ∧ 1 ≤ z.length ∧ z.length ≤ 1000 ∧ Q (.str (repS z n)) H
theorem op_mul_str {X : Cx} : OpR X (binaryOp .Mult) rMulS := by
  intro pins s σ H x y v u Q I rx ry h
  obtain ⟨z, n, rfl, rfl, n2, n1, z1, z2, q⟩ := h
  obtain ⟨t, rfl⟩ := rx
  obtain ⟨t', rfl⟩ := ry
  have sz := sizeLine_eq
  have hm : z.length * n ≤ 1000 * 1000 := Nat.mul_le_mul z2 n1
  refine PySem.P.mul_str ?_ (fun _ _ => ?_) (fun _ _ => ?_) ?_
  · rw [decide_eq_false (by omega), decide_eq_false (by omega)]
    rfl
  · have : (1000 : Int) ≤ (2 ^ 63 - 1) / (n : Int) := by
      rw [Int.le_ediv_iff_mul_le (by omega)]
      omega
    omega
  · rw [Int.toNat_natCast]
    unfold Builtin.Str.tooLong
    rw [decide_eq_false]
    omega
  · rw [if_neg (by omega), if_neg (by
      rw [Bool.or_eq_true, beq_iff_eq, beq_iff_eq]
      omega), Int.toNat_natCast]
    have len : (repS z n).length ≤ 1000 * 1000 := by
      have := fold_size (List.replicate n z.cps) #[] z.length fun x hx => by
        rw [(List.mem_replicate.mp hx).2]
        exact Nat.le_refl _
      rw [List.length_replicate] at this
      show (List.foldl (· ++ ·) #[] (List.replicate n z.cps)).size ≤ _
      have e : (#[] : Array Nat).size = 0 := rfl
      omega
    exact ⟨by show (repS z n).length ≤ sizeLine; omega, .str (repS z n), H, I.tok _, ⟨_, rfl⟩, q⟩
end OwR
end
section
namespace OwR
open PySem PySem.Spec PyProof.Rows L2
/-! ### xs == [], the items of xs of any kind -/
def rEqNil (K : PySem.W.Frag) : R2 := fun x y H Q => ∃ (a b : Addr) (xs : List V), x = .ref a ∧ y = .ref b ∧ SqL K H a xs ∧ SqL K H b [] ∧ Q (.bl xs.isEmpty) H
theorem op_eqNil {X : Cx} (hu : X.A.units + 64 < cLine) : OpR X (compareOp .Eq) (rEqNil X.K) := by
  intro pins s σ H x y v u Q I rx ry h
  obtain ⟨a, b, xs, rfl, rfl, ha, hb, q⟩ := h
  cases xs with
  | nil =>
    refine op_eqD hu pins s σ H _ _ v u Q I rx ry ⟨.list [], .list [], .lst ha .nil, .lst hb .nil, OwD.shaped_nil, OwD.shaped_nil, ?_⟩
    have e : PyData.eqv (.list []) (.list []) = true := by simp [PyData.eqv, PyData.eqvAll]
    rw [e]
    exact q
  | cons z zs =>
    obtain rfl : v = Value.ref a := rx
    obtain rfl : u = Value.ref b := ry
    obtain ⟨i1, r1, h1, _⟩ := I.list ha
    obtain ⟨i2, r2, h2, _⟩ := I.list hb
    cases r2
    refine SeqAt.eq_list_lengthsAt h1.isList h2.isList ?_ (by omega) ⟨.bl false, H, I, rfl, q⟩
    have l1 := r1.length
    cases i1 with
    | nil => cases r1
    | cons _ _ => rfl
end OwR
end
section
set_option pp.maxSteps 400
set_option pp.deepTerms.threshold 6
/-! The law's drawn names. -/
namespace K10
open PySem PySem.Spec PyProof.Rows L2
abbrev sWord : Stmt := top 34
def spWord : Sp := fun vs H Q _ => ∃ (p c : Addr) (ns : List Int) (n : Nat) (z : Int), vs = [.ref p] ∧ PenAt H p c ns n z ∧ n + 20 < 100000 ∧ ∀ (w : Str) (n' : Nat) (z' : Int) (H' : Hp), nameB w = true → w.length ≤ 8 → n' ≤ n + 10 → PenAt H' p c ns n' z' → But p H H' → Q (.str w) H'
theorem letters_two : (∀ c ∈ ("abcdefghijklmnopqrstuvwxyz" : Str).cps.toList, letter c = true) ∧ (∀ c ∈ ("aby" : Str).cps.toList, letter c = true) ∧ 0 < ("abcdefghijklmnopqrstuvwxyz" : Str).length ∧ ("abcdefghijklmnopqrstuvwxyz" : Str).length < 1000 ∧ 0 < ("aby" : Str).length ∧ ("aby" : Str).length < 1000 := by decide +kernel
theorem str_snoc (cs : List Nat) (x : Nat) : (⟨cs.toArray⟩ : Str) ++ (⟨#[x]⟩ : Str) = ⟨(cs ++ [x]).toArray⟩ := by
  show (⟨cs.toArray ++ #[x]⟩ : Str) = _
  congr 1
  simp
section
variable {P : Program} {w : World} {K : PySem.W.Frag} {mg : Str → Option Value} {base : Heap}
abbrev nWo : List Str := ["_law_pen_here", "_law_letters", "_law_word_here", "_law_turn"]
theorem scWo : FnScope nWo ["_law_pen_here"] (defScope sWord) := ⟨rfl, rfl, rfl, by decide +kernel, rfl, by decide +kernel, by decide +kernel⟩
theorem ok_word {f fD fP : Addr} {fd fdD fdP : FuncData} (F : Fun K "_law_word" "_law_word" sWord f fd) (T : Nm mg) (n_range : mg "range" = none) (FD : Fun K "_law_draw" "_law_draw" sDraw fD fdD) (gD : mg "_law_draw" = some (.ref fD)) (FP : Fun K "_law_pick" "_law_pick" sPick fP fdP) (gP : mg "_law_pick" = some (.ref fP)) : FnOk P w K mg base CX0 3 f fd ["_law_pen_here"] spWord := by
  have GD : FnOk P w K mg base CX0 1 fD fdD ["_law_pen_here", "_law_many"] spDraw := ok_draw FD T
  have bD : Binds K fdD ["_law_pen_here", "_law_many"] [] := FD.binds fun _ _ _ _ _ _ us hl => match us, hl with | [_, _], _ => rfl
  have GP : FnOk P w K mg base CX0 2 fP fdP ["_law_pen_here", "_law_some"] (spPick K) := ok_pick FP T FD gD
  have GS : FnOk P w K mg base CX0 2 fP fdP ["_law_pen_here", "_law_some"] spPickS := ok_pickS FP T FD gD
  have bP : Binds K fdP ["_law_pen_here", "_law_some"] [] := FP.binds fun _ _ _ _ _ _ us hl => match us, hl with | [_, _], _ => rfl
  refine F.ok scWo (fun vs H Q E h => ?_) (fun cdv A outer s H vs Q E hr h => ?_)
  · obtain ⟨p, c, ns, n, z, rfl, _⟩ := h
    rfl
  · obtain ⟨p, c, ns, n, z, rfl, hp, hn, q⟩ := h
    have hr1 : Room 1 _ := hr.mono (by decide)
    refine ⟨_, (pss_cons (ps_set (i := 1) scWo.nd rfl (Or.inl rfl) (pe_call GP hr (by rfl) gP FP.kp bP .nil pass0 (pa_cons (pv 0) (pa_cons (pe_lst (pa_cons pe_str (pa_cons pe_str pa_nil))) pa_nil))))
    (pss_cons (ps_set (i := 2) scWo.nd rfl (Or.inl rfl) pe_str)
    (pss_cons (ps_for PassesOwn.never rfl (pi_range1 rfl n_range (pa_cons (pe_op op_add pe_int (pe_call GD hr1 (by rfl) gD FD.kp bD .nil pass0 (pa_cons (pv 0) (pa_cons pe_int pa_nil)))) pa_nil)) (pg_name (i := 3) scWo.nd rfl (Or.inl rfl)) (pss_one (ps_set (i := 2) scWo.nd rfl (Or.inl rfl) (pe_op op_add_str (pv 2) (pe_call GS hr (by rfl) gP FP.kp bP .nil pass0 (pa_cons (pv 0) (pa_cons (pv 1) pa_nil)))))))
    (pss_one (ps_ret (pv 2)))))), ?_⟩
    have sz := sizeLine_eq
    refine ⟨_, rfl, by show (2 : Nat) ≤ sizeLine; omega, fun L hL => ?_⟩
    have sL := Same.of_new (o := .lst [.str "abcdefghijklmnopqrstuvwxyz", .str "aby"]) hL
    have nL : L ≠ p := fun e => hp.some (e ▸ hL)
    refine ⟨p, c, L, ns, n, z, _, rfl, hp.same sL, by omega, nL, SqL.of upd_same, by show 0 < 2; decide, by show 2 < 1000; decide, fun x n1 z1 H1 hx hn1 hp1 t1 => ?_⟩
    obtain ⟨l1, l2, a1, a2, a3, a4⟩ := letters_two
    obtain ⟨t, rfl, lt, t0, t9⟩ : ∃ t : Str, x = .str t ∧ (∀ c ∈ t.cps.toList, letter c = true) ∧ 0 < t.length ∧ t.length < 1000 := by
      simp only [List.mem_cons, List.not_mem_nil, or_false] at hx
      rcases hx with rfl | rfl
      · exact ⟨_, rfl, l1, a1, a2⟩
      · exact ⟨_, rfl, l2, a3, a4⟩
    have b1 : But p H H1 := (Same.but p sL).trans t1
    refine ⟨_, rfl, p, c, ns, n1, z1, 8, rfl, hp1, by omega, by decide, by decide +kernel, fun d n2 z2 H2 d0 d1 hn2 hp2 s2 => ⟨1, d, rfl, rfl, _, rfl, by omega, by omega, ?_⟩⟩
    have b2 := b1.trans s2
    refine for_it walk_range (fun i σ Hx => ∃ (cs : List Nat) (x3 : Option V) (n' : Nat) (z' : Int), σ = [some (.ref p), some (.str t), some (.str ⟨cs.toArray⟩), x3] ∧ cs.length = i ∧ (∀ c ∈ cs, letter c = true) ∧ PenAt Hx p c ns n' z' ∧ n' ≤ n + 2 + i ∧ But p H Hx)
      ⟨[], none, n2, z2, rfl, rfl, (fun c h => by cases h), hp2, by omega, b2⟩ (fun _ _ _ _ _ => True.intro) (fun i x σ Hx Hy hi q0 y => ?_) (fun σ Hx q0 => ?_)
    · obtain ⟨cs, x3, n', z', rfl, lc, al, pn, ln, bt⟩ := q0
      obtain ⟨rfl, ex⟩ := y
      refine ⟨_, rfl, _, rfl, _, rfl, p, c, ns, n', z', t, rfl, pn, by omega, t0, t9, fun x n3 z3 H3 hx hn3 hp3 s3 => ?_⟩
      refine ⟨_, _, rfl, rfl, ?_, ?_⟩
      · have e1 : (⟨cs.toArray⟩ : Str).length = cs.length := List.size_toArray
        have e2 : (⟨#[x]⟩ : Str).length = 1 := rfl
        rw [e1, e2]
        omega
      rw [str_snoc]
      refine ⟨cs ++ [x], _, n3, z3, rfl, by rw [List.length_append, lc]; rfl, fun c hc => ?_, hp3, by omega, bt.trans s3⟩
      rcases List.mem_append.mp hc with h | h
      · exact al c h
      · rw [List.mem_singleton.mp h]
        exact lt x hx
    · obtain ⟨cs, x3, n', z', rfl, lc, al, pn, ln, bt⟩ := q0
      have l8 : cs.length ≤ 8 := by omega
      have e1 : (⟨cs.toArray⟩ : Str).length = cs.length := List.size_toArray
      exact ⟨_, rfl, q _ n' z' Hx (letters_name (by omega) l8 al) (by rw [e1]; exact l8) (by omega) pn bt⟩
end
end K10
end
section
set_option pp.maxSteps 400
set_option pp.deepTerms.threshold 6
namespace K10
open PySem PySem.Spec PyProof.Rows L2
abbrev sLC : Stmt := top 35
/-- a new cap of m over some kinds -/
def GoodCap (K : PySem.W.Frag) (C : Addr) (H : Hp) (m : Int) (zs : List Str) (Q : VK) : Prop := 0 ≤ m ∧ m ≤ 12 ∧ zs.Nodup ∧ (∀ b ∈ zs, nameB b = true ∧ b.length ≤ 1000) ∧ zs.length ≤ 4 ∧ ∀ a H' ys, H a = none → Same H H' → ys.Perm zs → sortedS ys = true → CapAt C H' a m ys → Q (.ref a) H'
theorem GoodCap.made {K : PySem.W.Frag} {C CN CM : Addr} {H H1 : Hp} {m : Int} {zs : List Str} {Q : VK} {E : XK} (h : GoodCap K C H m zs Q) (s : Same H H1) : MadeCap K C CN CM H1 (.int m) (zs.map V.str) Q E := by
  obtain ⟨m0, m1, nd, g, l, q⟩ := h
  refine ⟨by rw [List.length_map]; omega, .inl ⟨m, zs, rfl, m0, m1, rfl, nd, g, by omega, fun a H' ys ha s2 pm srt c => q a H' ys ?_ (s.trans s2) pm srt c⟩⟩
  cases e : H a with
  | none => rfl
  | some o =>
    have := s a o e
    rw [ha] at this
    cases this
theorem list1_ne (x : Str) : PyData.eqv (PyData.list [.str x]) (PyData.list []) = false := by simp [PyData.eqv, PyData.eqvAll]
def spLC (K : PySem.W.Frag) (C : Addr) : Sp := fun vs H Q _ => ∃ (l : Addr) (m : Int) (zs : List Str), vs = [.int m, .ref l] ∧ SqL K H l (zs.map V.str) ∧ GoodCap K C H m zs Q
section
variable {P : Program} {w : World} {K : PySem.W.Frag} {mg : Str → Option Value} {base : Heap}
abbrev nLC : List Str := ["_law_most", "_law_kinds"]
theorem scLC : FnScope nLC ["_law_most", "_law_kinds"] (defScope sLC) := ⟨rfl, rfl, rfl, by decide +kernel, rfl, by decide +kernel, by decide +kernel⟩
theorem ok_LC {C CN CM f fC : Addr} {fd : FuncData} (F : Fun K "_law_cap" "_law_cap" sLC f fd) (n_len : mg "len" = none) (mkC : Mk K C fC) (gC : mg "Cap" = some (.ref C)) (GC : FnR P w K mg base (L2.CX P w) 4 fC (spCap K C CN CM)) : FnOk P w K mg base (L2.CX P w) 6 f fd ["_law_most", "_law_kinds"] (spLC K C) := by
  refine F.okX scLC (fun vs H Q E h => ?_) (fun cdv A outer s H vs Q E hr h => ?_)
  · obtain ⟨l, m, zs, rfl, _⟩ := h
    rfl
  · obtain ⟨l, m, zs, rfl, sq, h⟩ := h
    have sz := sizeLine_eq
    have hl := h.2.2.2.2.1
    refine ⟨_, (pss_cons (ps_if (pt_cmpR op_lt (pe_callB call_len_seq (by rfl) n_len boot_len (pa_cons (pv 1) pa_nil)) pe_int (nomark _)) (pss_one (ps_ret (pe_ifExp (pt_cmpR (op_eqD hr.units) (pv 1) (pe_lst pa_nil) (nomark _)) (StX.pe_makeR mkC GC hr (by rfl) gC (passes_call (takes_of rfl rfl rfl rfl) (fun _ _ _ _ h => h)) (pa_cons (pv 0) pa_nil)) (StX.pe_makeR mkC GC hr (by rfl) gC (passes_call (takes_of rfl rfl rfl rfl) (fun _ _ _ _ h => h)) (pa_cons (pv 0) (pa_cons (pe_ix ix_list (pv 1) pe_int (fun _ _ => rfl)) pa_nil)))))) pss_nil)
    (pss_cons (ps_if (pt_cmpR op_eq (pe_callB call_len_seq (by rfl) n_len boot_len (pa_cons (pv 1) pa_nil)) pe_int (nomark _)) (pss_one (ps_ret (StX.pe_makeR mkC GC hr (by rfl) gC (passes_call (takes_of rfl rfl rfl rfl) (fun _ _ _ _ h => h)) (pa_cons (pv 0) (pa_cons (pe_ix ix_list (pv 1) pe_int (fun _ _ => rfl)) (pa_cons (pe_ix ix_list (pv 1) pe_int (fun _ _ => rfl)) pa_nil)))))) pss_nil)
    (pss_cons (ps_if (pt_cmpR op_eq (pe_callB call_len_seq (by rfl) n_len boot_len (pa_cons (pv 1) pa_nil)) pe_int (nomark _)) (pss_one (ps_ret (StX.pe_makeR mkC GC hr (by rfl) gC (passes_call (takes_of rfl rfl rfl rfl) (fun _ _ _ _ h => h)) (pa_cons (pv 0) (pa_cons (pe_ix ix_list (pv 1) pe_int (fun _ _ => rfl)) (pa_cons (pe_ix ix_list (pv 1) pe_int (fun _ _ => rfl)) (pa_cons (pe_ix ix_list (pv 1) pe_int (fun _ _ => rfl)) pa_nil))))))) pss_nil)
    (pss_one (ps_ret (StX.pe_makeR mkC GC hr (by rfl) gC (passes_call (takes_of rfl rfl rfl rfl) (fun _ _ _ _ h => h)) (pa_cons (pv 0) (pa_cons (pe_ix ix_list (pv 1) pe_int (fun _ _ => rfl)) (pa_cons (pe_ix ix_list (pv 1) pe_int (fun _ _ => rfl)) (pa_cons (pe_ix ix_list (pv 1) pe_int (fun _ _ => rfl)) (pa_cons (pe_ix ix_list (pv 1) pe_int (fun _ _ => rfl)) pa_nil))))))))))), ?_⟩
    match zs, hl with
    | [], _ =>
      refine ⟨_, rfl, l, _, rfl, .inl sq, _, _, rfl, rfl, _, rfl, ?_⟩
      refine iteT ?_
      refine ⟨_, rfl, by show (0 : Nat) ≤ sizeLine; omega, fun M hM => ?_⟩
      have sM := Same.of_new (o := .lst []) hM
      refine ⟨(PyData.list []), (PyData.list []), .lst (SqL.mono sq sM) .nil, .lst (SqL.of upd_same) .nil, OwD.shaped_nil, OwD.shaped_nil, _, rfl, ?_⟩
      rw [SeqAt.eqv_refl _ (SeqAt.canLay_of_shaped OwD.shaped_nil)]
      refine iteT ?_
      exact ⟨_, rfl, fun z dz h1 h2 nd => made_cap (h.made sM) h1 h2⟩
    | [x1], _ =>
      refine ⟨_, rfl, l, _, rfl, .inl sq, _, _, rfl, rfl, _, rfl, ?_⟩
      refine iteT ?_
      refine ⟨_, rfl, by show (0 : Nat) ≤ sizeLine; omega, fun M hM => ?_⟩
      have sM := Same.of_new (o := .lst []) hM
      refine ⟨(PyData.list [.str x1]), (PyData.list []), .lst (SqL.mono sq sM) (.cons (.str _) .nil), .lst (SqL.of upd_same) .nil, (shaped_strs (zs := [x1]) fun z hz => name_strOk (h.2.2.2.1 z hz).1), OwD.shaped_nil, _, rfl, ?_⟩
      rw [list1_ne]
      refine iteF ?_
      refine ⟨_, rfl, _, rfl, l, _, 0, _, rfl, rfl, SqL.mono sq sM, atI_nat (j := 0) rfl, ?_⟩
      exact fun z dz h1 h2 nd => made_cap (h.made sM) h1 h2
    | [x1, x2], _ =>
      refine ⟨_, rfl, l, _, rfl, .inl sq, _, _, rfl, rfl, _, rfl, ?_⟩
      refine iteF ?_
      refine ⟨_, rfl, l, _, rfl, .inl sq, rfl, _, rfl, ?_⟩
      refine ite2 (fun _ => ?_) (fun c => absurd (decide_eq_true rfl) c)
      refine ⟨_, rfl, _, rfl, l, _, 0, _, rfl, rfl, sq, atI_nat (j := 0) rfl, ?_⟩
      refine ⟨_, rfl, l, _, 1, _, rfl, rfl, sq, atI_nat (j := 1) rfl, ?_⟩
      exact fun z dz h1 h2 nd => made_cap (h.made (Same.refl _)) h1 h2
    | [x1, x2, x3], _ =>
      refine ⟨_, rfl, l, _, rfl, .inl sq, _, _, rfl, rfl, _, rfl, ?_⟩
      refine iteF ?_
      refine ⟨_, rfl, l, _, rfl, .inl sq, rfl, _, rfl, ?_⟩
      refine ite2 (fun c => absurd (V.int.inj (of_decide_eq_true c)) (by simp)) (fun _ => ?_)
      refine ⟨_, rfl, l, _, rfl, .inl sq, rfl, _, rfl, ?_⟩
      refine ite2 (fun _ => ?_) (fun c => absurd (decide_eq_true rfl) c)
      refine ⟨_, rfl, _, rfl, l, _, 0, _, rfl, rfl, sq, atI_nat (j := 0) rfl, ?_⟩
      refine ⟨_, rfl, l, _, 1, _, rfl, rfl, sq, atI_nat (j := 1) rfl, ?_⟩
      refine ⟨_, rfl, l, _, 2, _, rfl, rfl, sq, atI_nat (j := 2) rfl, ?_⟩
      exact fun z dz h1 h2 nd => made_cap (h.made (Same.refl _)) h1 h2
    | [x1, x2, x3, x4], _ =>
      refine ⟨_, rfl, l, _, rfl, .inl sq, _, _, rfl, rfl, _, rfl, ?_⟩
      refine iteF ?_
      refine ⟨_, rfl, l, _, rfl, .inl sq, rfl, _, rfl, ?_⟩
      refine ite2 (fun c => absurd (V.int.inj (of_decide_eq_true c)) (by simp)) (fun _ => ?_)
      refine ⟨_, rfl, l, _, rfl, .inl sq, rfl, _, rfl, ?_⟩
      refine ite2 (fun c => absurd (V.int.inj (of_decide_eq_true c)) (by simp)) (fun _ => ?_)
      refine ⟨_, rfl, _, rfl, l, _, 0, _, rfl, rfl, sq, atI_nat (j := 0) rfl, ?_⟩
      refine ⟨_, rfl, l, _, 1, _, rfl, rfl, sq, atI_nat (j := 1) rfl, ?_⟩
      refine ⟨_, rfl, l, _, 2, _, rfl, rfl, sq, atI_nat (j := 2) rfl, ?_⟩
      refine ⟨_, rfl, l, _, 3, _, rfl, rfl, sq, atI_nat (j := 3) rfl, ?_⟩
      exact fun z dz h1 h2 nd => made_cap (h.made (Same.refl _)) h1 h2
    | _ :: _ :: _ :: _ :: _ :: _, hl => exact absurd hl (by simp)
end
end K10
end
section
set_option pp.maxSteps 400
set_option pp.deepTerms.threshold 6
/-! The law's drawn trees. -/
namespace K10
open PySem PySem.Spec PyProof.Rows L2
abbrev sTr : Stmt := top 36
/-- a tree as nested tuples -/
def TreeAt (H : Hp) : QT → Addr → Prop
  | .cap m ks, a => ∃ kl, H a = some (.tup [.str "cap", .int m, .ref kl]) ∧ H kl = some (.lst (ks.map V.str))
  | .both t u, a => ∃ l r, H a = some (.tup [.str "both", .ref l, .ref r]) ∧ TreeAt H t l ∧ TreeAt H u r
  | .either t u, a => ∃ l r, H a = some (.tup [.str "either", .ref l, .ref r]) ∧ TreeAt H t l ∧ TreeAt H u r
theorem TreeAt.mono {H H' : Hp} (s1 : ∀ k xs, H k = some (.tup xs) → H' k = some (.tup xs)) (s2 : ∀ (k : Addr) (ks : List Str), H k = some (.lst (ks.map V.str)) → H' k = some (.lst (ks.map V.str))) : ∀ {t : QT} {a : Addr}, TreeAt H t a → TreeAt H' t a
  | .cap m ks, a, ⟨kl, e1, e2⟩ => ⟨kl, s1 _ _ e1, s2 _ _ e2⟩
  | .both t u, a, ⟨l, r, e, h1, h2⟩ => ⟨l, r, s1 _ _ e, TreeAt.mono s1 s2 h1, TreeAt.mono s1 s2 h2⟩
  | .either t u, a, ⟨l, r, e, h1, h2⟩ => ⟨l, r, s1 _ _ e, TreeAt.mono s1 s2 h1, TreeAt.mono s1 s2 h2⟩
theorem TreeAt.same {H H' : Hp} {t : QT} {a : Addr} (h : TreeAt H t a) (s : Same H H') : TreeAt H' t a := h.mono (fun _ _ e => s _ _ e) fun _ _ e => s _ _ e
theorem strs_pen {H : Hp} {p c k : Addr} {ns : List Int} {n : Nat} {z : Int} {ks : List Str} (P : PenAt H p c ns n z) (e : H k = some (.lst (ks.map V.str))) : k ≠ p := fun q => by
  rw [q, P.pen] at e
  have h := HO.lst.inj (Option.some.inj e)
  match ks, h with
  | [], h => cases h
  | _ :: _, h => cases (List.cons.inj h).1
theorem tup_pen {H : Hp} {p c k : Addr} {ns : List Int} {n : Nat} {z : Int} {xs : List V} (P : PenAt H p c ns n z) (e : H k = some (.tup xs)) : k ≠ p := fun q => by
  rw [q, P.pen] at e
  cases e
theorem TreeAt.but {H H' : Hp} {t : QT} {a p c : Addr} {ns : List Int} {n : Nat} {z : Int} (h : TreeAt H t a) (P : PenAt H p c ns n z) (s : But p H H') : TreeAt H' t a := h.mono (fun _ _ e => s _ _ (tup_pen P e) e) fun _ _ e => s _ _ (strs_pen P e) e
/-- what is drawn -/
def GoodT (xs : List Str) (top : Int) (t : QT) : Prop := ∀ c ∈ t.caps, 0 ≤ c.1 ∧ c.1 ≤ top ∧ c.2.Nodup ∧ (∀ z ∈ c.2, z ∈ xs) ∧ c.2.length ≤ xs.length
def spTr (K : PySem.W.Frag) : Nat → Sp
  | 0 => fun _ _ _ _ => False
  | d + 1 => fun vs H Q _ => ∃ (p c : Addr) (ns : List Int) (n : Nat) (z : Int) (nl : Addr) (xs : List Str) (many : Nat) (top : Int), vs = [.ref p, .ref nl, .int (many : Nat), .int top] ∧ PenAt H p c ns n z ∧ n + 10 * many + 10 < 100000 ∧ H nl = some (.lst (xs.map V.str)) ∧ xs.Nodup ∧ xs.length ≤ 3 ∧ 1 ≤ many ∧ many ≤ d + 1 ∧ many ≤ 50 ∧ 0 ≤ top ∧ top ≤ 12 ∧
    ∀ (a : Addr) (t : QT) (n' : Nat) (z' : Int) (H' : Hp), TreeAt H' t a → t.caps.length = many → GoodT xs top t → n' + 2 ≤ n + 6 * many → PenAt H' p c ns n' z' → But p H H' → Q (.ref a) H'
section
variable {P : Program} {w : World} {K : PySem.W.Frag} {mg : Str → Option Value} {base : Heap}
abbrev nTr : List Str := ["_law_pen_here", "_law_names_here", "_law_many", "_law_most", "_law_kinds", "_law_name", "_law_word_here", "_law_left"]
theorem scTr : FnScope nTr ["_law_pen_here", "_law_names_here", "_law_many", "_law_most"] (defScope sTr) := ⟨rfl, rfl, rfl, by decide +kernel, rfl, by decide +kernel, by decide +kernel⟩
theorem ok_Tr {f fD fP : Addr} {fd fdD fdP : FuncData} (F : Fun K "_law_tree" "_law_tree" sTr f fd) (g_tree : mg "_law_tree" = some (.ref f)) (T : Nm mg) (F_draw : Fun K "_law_draw" "_law_draw" sDraw fD fdD) (g_draw : mg "_law_draw" = some (.ref fD)) (F_pick : Fun K "_law_pick" "_law_pick" sPick fP fdP) (g_pick : mg "_law_pick" = some (.ref fP)) : ∀ d : Nat, FnOk P w K mg base CX0 (d + 2) f fd ["_law_pen_here", "_law_names_here", "_law_many", "_law_most"] (spTr K d)
  | 0 => by
    exact F.ok scTr (fun vs H Q E h => h.elim) (fun cdv A outer s H vs Q E hr h => h.elim)
  | d + 1 => by
    have G_tree := ok_Tr F g_tree T F_draw g_draw F_pick g_pick d
    have b_tree : Binds K fd ["_law_pen_here", "_law_names_here", "_law_many", "_law_most"] [] := F.binds fun _ _ _ _ _ _ us hl => match us, hl with | [_, _, _, _], _ => rfl
    have G_draw : FnOk P w K mg base CX0 1 fD fdD ["_law_pen_here", "_law_many"] spDraw := ok_draw F_draw T
    have b_draw : Binds K fdD ["_law_pen_here", "_law_many"] [] := F_draw.binds fun _ _ _ _ _ _ us hl => match us, hl with | [_, _], _ => rfl
    have G_pick : FnOk P w K mg base CX0 2 fP fdP ["_law_pen_here", "_law_some"] (spPick K) := ok_pick F_pick T F_draw g_draw
    have b_pick : Binds K fdP ["_law_pen_here", "_law_some"] [] := F_pick.binds fun _ _ _ _ _ _ us hl => match us, hl with | [_, _], _ => rfl
    refine F.ok scTr (fun vs H Q E h => ?_) (fun cdv A outer s H vs Q E hr h => ?_)
    · obtain ⟨p, c, ns, n, z, nl, xs, many, top, rfl, _⟩ := h
      rfl
    · obtain ⟨p, c, ns, n, z, nl, xs, many, top, rfl, hp, hn, hnl, ndx, lx, m1, md, m50, t0, t12, q⟩ := h
      have hr2 : Room 2 _ := hr.mono (by omega)
      have hr1 : Room 1 _ := hr.mono (by omega)
      refine ⟨_, (pss_cons (ps_if (pt_cmpR op_eq (pv 2) pe_int (nomark _)) (pss_cons (ps_setLc (i := 4) (own := [("_law_name", 5)]) (by rfl) scTr.nd rfl rfl (sw_true rfl rfl rfl (by decide +kernel)) (pi_list (pv 1)) (blkOk_by (own := [("_law_name", 5)]) (N := nTr) (sc := defScope sTr) (by decide +kernel)) (fun _ _ _ _ _ => (pg_name (i := 5) scTr.nd rfl (Or.inl rfl))) (fun _ _ _ _ _ => pts_one (pt_cmpR op_eq (pe_call G_draw hr1 (by rfl) g_draw F_draw.kp b_draw .nil pass0 (pa_cons (pv 0) (pa_cons pe_int pa_nil))) pe_int (nomark _))) (fun _ _ _ _ _ => (pv 5)))
    (pss_one (ps_ret (pe_tup (pa_cons pe_str (pa_cons (pe_call G_draw hr1 (by rfl) g_draw F_draw.kp b_draw .nil pass0 (pa_cons (pv 0) (pa_cons (pe_op op_add (pv 3) pe_int) pa_nil))) (pa_cons (pv 4) pa_nil))))))) pss_nil)
    (pss_cons (ps_par (i := 6) (j := 7) (by rfl) scTr.nd rfl rfl (by decide) rfl rfl (pa_cons (pe_call G_pick hr2 (by rfl) g_pick F_pick.kp b_pick .nil pass0 (pa_cons (pv 0) (pa_cons (pe_lst (pa_cons pe_str (pa_cons pe_str pa_nil))) pa_nil))) (pa_cons (pe_op op_add pe_int (pe_call G_draw hr1 (by rfl) g_draw F_draw.kp b_draw .nil pass0 (pa_cons (pv 0) (pa_cons (pe_op op_sub (pv 2) pe_int) pa_nil)))) pa_nil)) (by rfl))
    (pss_one (ps_ret (pe_tup (pa_cons (pv 6) (pa_cons (pe_call G_tree hr (by rfl) g_tree F.kp b_tree .nil pass0 (pa_cons (pv 0) (pa_cons (pv 1) (pa_cons (pv 7) (pa_cons (pv 3) pa_nil))))) (pa_cons (pe_call G_tree hr (by rfl) g_tree F.kp b_tree .nil pass0 (pa_cons (pv 0) (pa_cons (pv 1) (pa_cons (pe_op op_sub (pv 2) (pv 7)) (pa_cons (pv 3) pa_nil))))) pa_nil)))))))), ?_⟩
      have sz := sizeLine_eq
      have big : ∀ i : Int, 0 ≤ i → i ≤ 100 → i.natAbs < 2 ^ 1000 := fun i h0 h1 => Nat.lt_of_le_of_lt (show i.natAbs ≤ 100 by omega) (by decide +kernel)
      have nnl := strs_pen hp hnl
      refine ⟨_, rfl, rfl, _, rfl, ?_⟩
      refine ite2 (fun c1 => ?_) (fun c1 => ?_)
      · have e1 : many = 1 := by
          have := V.int.inj (of_decide_eq_true c1)
          omega
        subst e1
        refine ⟨_, rfl, nl, rfl, ⟨_, SqL.of hnl⟩, fun L hL => ?_⟩
        have nL : L ≠ p := fun e => hp.some (e ▸ hL)
        have ncL : c ≠ L := ne_of_none hp.cells hL
        have sL := Same.of_new (o := .lst []) hL
        refine lc_it (walk_list (xs := xs.map V.str)) (fun i Hx => ∃ (ks : List Str) (n' : Nat) (z' : Int), Hx L = some (.lst (ks.map V.str)) ∧ ks.Sublist (xs.take i) ∧ PenAt Hx p c ns n' z' ∧ n' ≤ n + i ∧ But p H Hx) ⟨[], n, z, upd_same, List.nil_sublist _, hp.same sL, by omega, Same.but p sL⟩ (fun i Hx _ q => by
          obtain ⟨_, _, _, _, _, _, _, bt⟩ := q
          exact SqL.of (bt _ _ nnl hnl)) (fun i x Hx Hy hi q0 y => ?_) (fun Hx q0 => ?_)
        · obtain ⟨ks, n', z', eL, sub, pn, ln, bt⟩ := q0
          obtain ⟨rfl, hx⟩ := y
          rw [List.getElem?_map] at hx
          obtain ⟨nm, hnm, rfl⟩ := Option.map_eq_some_iff.mp hx
          rw [List.length_map] at hi
          have tk : xs.take (i + 1) = xs.take i ++ [nm] := by
            rw [List.take_add_one, hnm]
            rfl
          have lk : ks.length ≤ 3 := by
            have := sub.length_le
            rw [List.length_take] at this
            omega
          refine ⟨rfl, ?_⟩
          refine ⟨_, rfl, p, c, ns, n', z', 2, rfl, pn, by omega, by decide, big 2 (by decide) (by decide), fun d n2 z2 H2 d0 d1 hn2 hp2 s2 => ?_⟩
          have eL2 := s2 _ _ nL eL
          refine ⟨rfl, _, rfl, ?_⟩
          refine ite2 (fun c2 => ?_) (fun c2 => ?_)
          · refine ⟨_, rfl, _, eL2, by rw [List.length_map]; omega, ks ++ [nm], n2, z2, ?_, ?_, hp2.put (Ne.symm nL) ncL, by omega, fun b o nb e => ?_⟩
            · rw [List.map_append]
              exact upd_same
            · rw [tk]
              exact sub.append (List.Sublist.refl _)
            · rw [upd_ne (ne_of_none e hL)]
              exact s2 b o nb (bt b o nb e)
          · exact ⟨ks, n2, z2, eL2, by rw [tk]; exact sub.trans (List.sublist_append_left _ _), hp2, by omega, bt.trans s2⟩
        · obtain ⟨ks, n', z', eL, sub, pn, ln, bt⟩ := q0
          rw [List.length_map] at sub ln
          rw [List.take_length] at sub
          refine ⟨_, rfl, _, rfl, _, _, rfl, rfl, p, c, ns, n', z', top + 1, rfl, pn, by omega, by omega, big _ (by omega) (by omega), fun m n2 z2 H2 m0 m1' hn2 hp2 s2 => ⟨_, rfl, by show (3 : Nat) ≤ sizeLine; omega, fun T hT => ?_⟩⟩
          have sT := Same.of_new (o := .tup [.str "cap", .int m, .ref L]) hT
          refine q T (.cap m ks) n2 z2 _ ⟨L, upd_same, sT _ _ (s2 _ _ nL eL)⟩ rfl (fun cc hc => ?_) (by omega) (hp2.same sT) ((bt.trans s2).trans (Same.but p sT))
          have ec : cc = (m, ks) := List.mem_singleton.mp hc
          subst ec
          exact ⟨m0, by show m ≤ top; omega, ndx.sublist sub, fun z hz => sub.subset hz, sub.length_le⟩
      · have m2 : 2 ≤ many := by
          rcases Nat.lt_or_ge many 2 with h | h
          · have : many = 1 := by omega
            exact absurd (by rw [this]; exact decide_eq_true rfl) c1
          · exact h
        match d, G_tree, md with
        | 0, _, md => exact absurd md (by omega)
        | d + 1, G_tree, md =>
        refine ⟨_, rfl, by show (2 : Nat) ≤ sizeLine; omega, fun L hL => ?_⟩
        have sL := Same.of_new (o := .lst [.str "both", .str "either"]) hL
        have nL : L ≠ p := fun e => hp.some (e ▸ hL)
        refine ⟨p, c, L, ns, n, z, _, rfl, hp.same sL, by omega, nL, SqL.of upd_same, by show 0 < 2; decide, by show 2 < 1000; decide, fun x n1 z1 H1 hx hn1 hp1 s1 => ?_⟩
        have b1 : But p H H1 := (Same.but p sL).trans s1
        refine ⟨_, rfl, _, rfl, _, _, rfl, rfl, p, c, ns, n1, z1, (many : Int) - 1, rfl, hp1, by omega, by omega, big _ (by omega) (by omega), fun d1 n2 z2 H2 d10 d11 hn2 hp2 s2 => ?_⟩
        have b2 := b1.trans s2
        obtain ⟨dk, rfl⟩ := Int.eq_ofNat_of_zero_le d10
        have e1 : (1 : Int) + (dk : Int) = ((1 + dk : Nat) : Int) := by omega
        refine ⟨1, (dk : Int), rfl, rfl, x, .int ((1 + dk : Nat) : Int), congrArg (fun i => [x, V.int i]) e1, ?_⟩
        refine ⟨_, rfl, _, rfl, _, rfl, _, rfl, _, rfl, p, c, ns, n2, z2, nl, xs, 1 + dk, top, rfl, hp2, by omega, b2 _ _ nnl hnl, ndx, lx, by omega, by omega, by omega, t0, t12, fun a1 t1 n3 z3 H3 ta1 l1 g1 hn3 hp3 s3 => ?_⟩
        have b3 := b2.trans s3
        refine ⟨_, rfl, _, rfl, _, rfl, _, rfl, _, _, rfl, rfl, _, rfl, ?_⟩
        have e2 : (many : Int) - ((1 + dk : Nat) : Int) = ((many - (1 + dk) : Nat) : Int) := by omega
        refine ⟨p, c, ns, n3, z3, nl, xs, many - (1 + dk), top, congrArg (fun i => [V.ref p, .ref nl, V.int i, .int top]) e2, hp3, by omega, b3 _ _ nnl hnl, ndx, lx, by omega, by omega, by omega, t0, t12, fun a2 t2 n4 z4 H4 ta2 l2 g2 hn4 hp4 s4 => ⟨by show (3 : Nat) ≤ sizeLine; omega, fun T hT => ?_⟩⟩
        have ta1 := ta1.but hp3 s4
        have sT := Same.of_new (o := .tup [x, .ref a1, .ref a2]) hT
        have bT := (b3.trans s4).trans (Same.but p sT)
        have good : ∀ c ∈ t1.caps ++ t2.caps, 0 ≤ c.1 ∧ c.1 ≤ top ∧ c.2.Nodup ∧ (∀ z ∈ c.2, z ∈ xs) ∧ c.2.length ≤ xs.length := fun c hc => (List.mem_append.mp hc).elim (g1 c) (g2 c)
        have len : (t1.caps ++ t2.caps).length = many := by
          rw [List.length_append, l1, l2]
          omega
        simp only [List.mem_cons, List.not_mem_nil, or_false] at hx
        rcases hx with rfl | rfl
        · exact q T (.both t1 t2) n4 z4 _ ⟨a1, a2, upd_same, ta1.same sT, ta2.same sT⟩ len good (by omega) (hp4.same sT) bT
        · exact q T (.either t1 t2) n4 z4 _ ⟨a1, a2, upd_same, ta1.same sT, ta2.same sT⟩ len good (by omega) (hp4.same sT) bT
end
end K10
end
section
set_option pp.maxSteps 400
set_option pp.deepTerms.threshold 6
/-! The quotas of a tree, made by the classes and by the signs. -/
namespace K10
open PySem PySem.Spec PyProof.Rows L2
abbrev sQu : Stmt := top 37
theorem none_of {H H' : Hp} (s : Same H H') {a : Addr} (h : H' a = none) : H a = none := by
  cases e : H a with
  | none => rfl
  | some o =>
    have := s a o e
    rw [h] at this
    cases this
def GoodC (c : Int × List Str) : Prop := SmallC c ∧ c.2.Nodup ∧ ∀ z ∈ c.2, nameB z = true
theorem GoodC.names {c : Int × List Str} (h : GoodC c) : ∀ z ∈ c.2, nameB z = true ∧ z.length ≤ 1000 := fun z hz => ⟨h.2.2 z hz, Nat.le_trans (h.1.2.2.2 z hz) (by decide)⟩
def spQu (a : QAd) : Nat → Sp
  | 0 => fun _ _ _ _ => False
  | d + 1 => fun vs H Q _ => ∃ (b : Addr) (t : QT), vs = [.ref b] ∧ TreeAt H t b ∧ t.caps.length ≤ d + 1 ∧ t.caps.length ≤ 20 ∧ (∀ c ∈ t.caps, GoodC c) ∧ ∀ q t' H', H q = none → Same H H' → SortOf t t' → QTr a H' t' q → Q (.ref q) H'
section
variable {P : Program} {w : World} {K : PySem.W.Frag} {mg : Str → Option Value} {base : Heap}
/-- two made parts make a joint -/
theorem join_made {a : QAd} (R : QF P w K mg base a) {C : Addr} {mk : QT → QT → QT} {H : Hp} {q1 q2 : Addr} {t t1 u u2 : QT} {Q : VK} {E : XK} (h1 : QTr a H t1 q1) (h2 : QTr a H u2 q2) (s1 : SortOf t t1) (s2 : SortOf u u2) (g1 : ∀ c ∈ t.caps, GoodC c) (g2 : ∀ c ∈ u.caps, GoodC c) (l : t.caps.length + u.caps.length ≤ 20)
    (q : ∀ z H', H z = none → Same H H' → QAt C H' z (mk t1 u2) → PairOf C H' z (.ref q1) (.ref q2) → Q (.ref z) H') : MadeJoin K a.CQ a.fL a.fS C a.CU a.CT mk H (.ref q1) (.ref q2) Q E := by
  obtain ⟨e1, k1⟩ := s1.caps
  obtain ⟨e2, k2⟩ := s2.caps
  have k1 := k1 fun c hc => (g1 c hc).1
  have k2 := k2 fun c hc => (g2 c hc).1
  have x1 := text_len t1 k1
  have x2 := text_len u2 k2
  have y1 := kinds_len t1 k1
  have y2 := kinds_len u2 k2
  exact .inl ⟨q1, q2, t1, u2, rfl, rfl, h1.any R, h2.any R, by omega, by omega, by rw [List.length_append]; omega, by omega, by omega, fun _ z H' hz s qa pr => q z H' hz s qa pr, fun c => by omega⟩
abbrev nQu : List Str := ["_law_tree_here"]
theorem scQu : FnScope nQu ["_law_tree_here"] (defScope sQu) := ⟨rfl, rfl, rfl, by decide +kernel, rfl, by decide +kernel, by decide +kernel⟩
theorem ok_Qu {a : QAd} {f fLC : Addr} {fd fdLC : FuncData} (R : QF P w K mg base a) (F : Fun K "_law_quota" "_law_quota" sQu f fd) (g_rec : mg "_law_quota" = some (.ref f)) (F_cap : Fun K "_law_cap" "_law_cap" sLC fLC fdLC) (g_cap : mg "_law_cap" = some (.ref fLC)) : ∀ d : Nat, FnOk P w K mg base (L2.CX P w) (d + 7) f fd ["_law_tree_here"] (spQu a d)
  | 0 => F.okX scQu (fun vs H Q E h => h.elim) (fun cdv A outer s H vs Q E hr h => h.elim)
  | d + 1 => by
    have G_rec := ok_Qu R F g_rec F_cap g_cap d
    have b_rec : Binds K fd ["_law_tree_here"] [] := F.binds fun _ _ _ _ _ _ us hl => match us, hl with | [_], _ => rfl
    have G_cap : FnOk P w K mg base (L2.CX P w) 6 fLC fdLC ["_law_most", "_law_kinds"] (spLC K a.CC) := ok_LC F_cap R.chk.T.n_len R.mkC R.gC R.GC
    have b_cap : Binds K fdLC ["_law_most", "_law_kinds"] [] := F_cap.binds fun _ _ _ _ _ _ us hl => match us, hl with | [_, _], _ => rfl
    refine F.okX scQu (fun vs H Q E h => ?_) (fun cdv A outer s H vs Q E hr h => ?_)
    · obtain ⟨b, t, rfl, _⟩ := h
      rfl
    obtain ⟨b, t, rfl, ht, lt, l20, gd, q⟩ := h
    have hr6 : Room 6 _ := hr.mono (by omega)
    have hr5 : Room 5 _ := hr.mono (by omega)
    refine ⟨_, (pss_cons (ps_if (pt_cmpR op_eq (pe_ix (r := rIxT K) ix_tup (pv 0) pe_int (fun _ _ => rfl)) pe_str (nomark _)) (pss_one (ps_ret (pe_call G_cap hr6 (by rfl) g_cap F_cap.kp b_cap .nil (passes_call (takes_of rfl rfl rfl rfl) (fun _ _ _ _ h => h)) (pa_cons (pe_ix (r := rIxT K) ix_tup (pv 0) pe_int (fun _ _ => rfl)) (pa_cons (pe_ix (r := rIxT K) ix_tup (pv 0) pe_int (fun _ _ => rfl)) pa_nil))))) pss_nil)
    (pss_cons (ps_if (pt_cmpR op_eq (pe_ix (r := rIxT K) ix_tup (pv 0) pe_int (fun _ _ => rfl)) pe_str (nomark _)) (pss_one (ps_ret (StX.pe_makeR R.mkB R.GB hr5 (by rfl) R.gB (passes_call (takes_of rfl rfl rfl rfl) (fun _ _ _ _ h => h)) (pa_cons (pe_call G_rec hr (by rfl) g_rec F.kp b_rec .nil (passes_call (takes_of rfl rfl rfl rfl) (fun _ _ _ _ h => h)) (pa_cons (pe_ix (r := rIxT K) ix_tup (pv 0) pe_int (fun _ _ => rfl)) pa_nil)) (pa_cons (pe_call G_rec hr (by rfl) g_rec F.kp b_rec .nil (passes_call (takes_of rfl rfl rfl rfl) (fun _ _ _ _ h => h)) (pa_cons (pe_ix (r := rIxT K) ix_tup (pv 0) pe_int (fun _ _ => rfl)) pa_nil)) pa_nil))))) pss_nil)
    (pss_one (ps_ret (OwR.pe_makeRK0 R.mkE R.GEK hr5 (by rfl) R.gE (passes_call (takes_of rfl rfl rfl rfl) (fun _ _ _ _ h => h)) (pk_cons (pe_call G_rec hr (by rfl) g_rec F.kp b_rec .nil (passes_call (takes_of rfl rfl rfl rfl) (fun _ _ _ _ h => h)) (pa_cons (pe_ix (r := rIxT K) ix_tup (pv 0) pe_int (fun _ _ => rfl)) pa_nil)) (pk_cons (pe_call G_rec hr (by rfl) g_rec F.kp b_rec .nil (passes_call (takes_of rfl rfl rfl rfl) (fun _ _ _ _ h => h)) (pa_cons (pe_ix (r := rIxT K) ix_tup (pv 0) pe_int (fun _ _ => rfl)) pa_nil)) pk_nil))))))), ?_⟩
    match t, ht, lt, l20, gd, q with
    | .cap m ks, ht, lt, l20, gd, q =>
      obtain ⟨kl, e, ek⟩ := ht
      have gc := gd (m, ks) (List.mem_singleton.mpr rfl)
      refine ⟨_, rfl, b, _, 0, _, rfl, rfl, SqT.of e, atI_nat (j := 0) rfl, rfl, _, rfl, ?_⟩
      refine ite2 (fun _ => ?_) (fun c => absurd (decide_eq_true rfl) c)
      have l3 : ks.length ≤ 3 := gc.1.2.2.1
      exact ⟨_, rfl, b, _, 1, _, rfl, rfl, SqT.of e, atI_nat (j := 1) rfl, _, rfl, b, _, 2, _, rfl, rfl, SqT.of e, atI_nat (j := 2) rfl, kl, m, ks, rfl, SqL.of ek, gc.1.1, gc.1.2.1, gc.2.1, gc.names, by omega, fun c H' zs hc s pm srt ca => q c (.cap m zs) H' hc s ⟨rfl, pm, srt⟩ ca⟩
    | .both t u, ht, lt, l20, gd, q =>
      obtain ⟨l, r, e, h1, h2⟩ := ht
      refine ⟨_, rfl, b, _, 0, _, rfl, rfl, SqT.of e, atI_nat (j := 0) rfl, rfl, _, rfl, ?_⟩
      refine ite2 (fun c => absurd c (by decide +kernel)) (fun _ => ?_)
      refine ⟨_, rfl, b, _, 0, _, rfl, rfl, SqT.of e, atI_nat (j := 0) rfl, rfl, _, rfl, ?_⟩
      refine ite2 (fun _ => ?_) (fun c => absurd (by decide +kernel) c)
      have ca := caps_pos t
      have cb := caps_pos u
      have lc : t.caps.length + u.caps.length ≤ d + 1 := by rw [← List.length_append]; exact lt
      have lc2 : t.caps.length + u.caps.length ≤ 20 := by rw [← List.length_append]; exact l20
      have g1 : ∀ c ∈ t.caps, GoodC c := fun c hc => gd c (List.mem_append_left _ hc)
      have g2 : ∀ c ∈ u.caps, GoodC c := fun c hc => gd c (List.mem_append_right _ hc)
      match d, G_rec, lc with
      | 0, _, lc => exact absurd lc (by omega)
      | d + 1, G_rec, lc =>
      refine ⟨_, rfl, b, _, 1, _, rfl, rfl, SqT.of e, atI_nat (j := 1) rfl, l, t, rfl, h1, by omega, by omega, g1, fun q1 t1 H1 n1 s1 so1 qt1 => ?_⟩
      refine ⟨_, rfl, b, _, 2, _, rfl, rfl, SqT.of (s1 _ _ e), atI_nat (j := 2) rfl, r, u, rfl, h2.same s1, by omega, by omega, g2, fun q2 t2 H2 n2 s2 so2 qt2 => ?_⟩
      have mj : MadeJoin K a.CQ a.fL a.fS a.CB a.CU a.CT QT.both H2 (.ref q1) (.ref q2) Q E := join_made R (qt1.same s2) qt2 so1 so2 g1 g2 lc2 fun z H' hz s qa pr => q z (.both t1 t2) H' (none_of (s1.trans s2) hz) ((s1.trans s2).trans s) ⟨so1, so2⟩ ⟨qa, q1, q2, pr, (qt1.same s2).same s, qt2.same s⟩
      exact fun z dz x1 x2 _ => made_join mj x1 x2
    | .either t u, ht, lt, l20, gd, q =>
      obtain ⟨l, r, e, h1, h2⟩ := ht
      refine ⟨_, rfl, b, _, 0, _, rfl, rfl, SqT.of e, atI_nat (j := 0) rfl, rfl, _, rfl, ?_⟩
      refine ite2 (fun c => absurd c (by decide +kernel)) (fun _ => ?_)
      refine ⟨_, rfl, b, _, 0, _, rfl, rfl, SqT.of e, atI_nat (j := 0) rfl, rfl, _, rfl, ?_⟩
      refine ite2 (fun c => absurd c (by decide +kernel)) (fun _ => ?_)
      have ca := caps_pos t
      have cb := caps_pos u
      have lc : t.caps.length + u.caps.length ≤ d + 1 := by rw [← List.length_append]; exact lt
      have lc2 : t.caps.length + u.caps.length ≤ 20 := by rw [← List.length_append]; exact l20
      have g1 : ∀ c ∈ t.caps, GoodC c := fun c hc => gd c (List.mem_append_left _ hc)
      have g2 : ∀ c ∈ u.caps, GoodC c := fun c hc => gd c (List.mem_append_right _ hc)
      match d, G_rec, lc with
      | 0, _, lc => exact absurd lc (by omega)
      | d + 1, G_rec, lc =>
      refine ⟨_, rfl, b, _, 2, _, rfl, rfl, SqT.of e, atI_nat (j := 2) rfl, r, u, rfl, h2, by omega, by omega, g2, fun q2 t2 H1 n2 s1 so2 qt2 => ?_⟩
      refine ⟨_, rfl, b, _, 1, _, rfl, rfl, SqT.of (s1 _ _ e), atI_nat (j := 1) rfl, l, t, rfl, h1.same s1, by omega, by omega, g1, fun q1 t1 H2 n1 s2 so1 qt1 => ?_⟩
      have mj : MadeJoin K a.CQ a.fL a.fS a.CE a.CU a.CT QT.either H2 (.ref q1) (.ref q2) Q E := join_made R qt1 (qt2.same s2) so1 so2 g1 g2 lc2 fun z H' hz s qa pr => q z (.either t1 t2) H' (none_of (s1.trans s2) hz) ((s1.trans s2).trans s) ⟨so1, so2⟩ ⟨qa, q1, q2, pr, qt1.same s, (qt2.same s2).same s⟩
      exact fun z dz x1 x2 _ => ⟨z, .ref q1, .ref q2, rfl, rfl, made_join mj x1 x2⟩
end
end K10
end
section
/-! Texts and their words. Own. -/
namespace K10
open PySem PySem.Spec PyProof.Rows L2
/-- the words of a text -/
abbrev wordsOf (z : Str) : List Str := Txt.split z " "
theorem sp_tlT : TL.tl (" " : Str) = [32] := by decide +kernel
theorem words_neT (z : Str) : wordsOf z ≠ [] := fun e => by
  have := PyProof.Rows.split_pos z " "
  rw [show Txt.split z " " = [] from e] at this
  exact absurd this (by decide)
theorem words_free {z w : Str} (h : w ∈ wordsOf z) : 32 ∉ TL.tl w := by
  have e : (" " : Str) = ⟨#[32]⟩ := by decide +kernel
  have h : w ∈ Txt.split z " " := h
  rw [e] at h
  exact StrLaws.split_free z 32 w h
theorem words_join (z : Str) : Txt.join " " (wordsOf z) = z := by
  rw [TL.join_eq]
  exact StrLaws.join_split z " "
theorem words_of {ps : List Str} (hne : ps ≠ []) (hp : ∀ p ∈ ps, 32 ∉ TL.tl p) : wordsOf (Txt.join " " ps) = ps := TL.split_join sp_tlT (by decide +kernel) hne hp
theorem joinL_appT (S : List Nat) : ∀ A B : List (List Nat), A ≠ [] → B ≠ [] → TL.joinL S (A ++ B) = TL.joinL S A ++ (S ++ TL.joinL S B)
  | [], _, h, _ => absurd rfl h
  | [a], [], _, h => absurd rfl h
  | [a], b :: B, _, _ => rfl
  | a :: c :: A, B, _, h => by
    show a ++ (S ++ TL.joinL S (c :: A ++ B)) = a ++ (S ++ TL.joinL S (c :: A)) ++ (S ++ TL.joinL S B)
    rw [joinL_appT S (c :: A) B (by simp) h]
    simp only [List.append_assoc]
theorem tlj (ps : List Str) : TL.tl (Txt.join " " ps) = TL.joinL [32] (ps.map TL.tl) := by
  rw [TL.join_eq, TL.tl_join, sp_tlT]
theorem flat_ne {ps : List Str} (h : ps ≠ []) : ps.flatMap wordsOf ≠ [] := fun e => by
  match ps, h with
  | p :: r, _ =>
    rw [List.flatMap_cons] at e
    exact words_neT p (List.append_eq_nil_iff.mp e).1
theorem flat_tl : ∀ ps : List Str, ps ≠ [] → TL.joinL [32] ((ps.flatMap wordsOf).map TL.tl) = TL.joinL [32] (ps.map TL.tl)
  | [], h => absurd rfl h
  | [p], _ => by
    rw [List.flatMap_cons, List.flatMap_nil, List.append_nil, ← tlj, words_join]
    rfl
  | p :: q :: r, _ => by
    rw [List.flatMap_cons, List.map_append, joinL_appT _ _ _ (fun e => words_neT p (List.map_eq_nil_iff.mp e)) (fun e => flat_ne (ps := q :: r) (by simp) (List.map_eq_nil_iff.mp e)), flat_tl (q :: r) (by simp), ← tlj, words_join]
    rfl
/-- the words of joined pieces -/
theorem words_flat {ps : List Str} (h : ps ≠ []) : wordsOf (Txt.join " " ps) = ps.flatMap wordsOf := by
  have e : Txt.join " " ps = Txt.join " " (ps.flatMap wordsOf) := by
    refine TL.ext_tl ?_
    rw [tlj, tlj, flat_tl ps h]
  rw [e]
  refine words_of (flat_ne h) fun p hp => ?_
  obtain ⟨z, _, hz⟩ := List.mem_flatMap.mp hp
  exact words_free hz
theorem words_one {w : Str} (h : 32 ∉ TL.tl w) : wordsOf w = [w] := by
  have := words_of (ps := [w]) (by simp) fun p hp => by
    rw [List.mem_singleton.mp hp]
    exact h
  have e : Txt.join " " [w] = w := by
    refine TL.ext_tl ?_
    rw [tlj]
    rfl
  rw [e] at this
  exact this
theorem flat_free : ∀ {ps : List Str}, (∀ p ∈ ps, 32 ∉ TL.tl p) → ps.flatMap wordsOf = ps
  | [], _ => rfl
  | p :: r, h => by
    rw [List.flatMap_cons, words_one (h p List.mem_cons_self), flat_free fun q hq => h q (List.mem_cons_of_mem _ hq)]
    rfl
theorem joinL_len (S : List Nat) (b : Nat) : ∀ A : List (List Nat), (∀ a ∈ A, a.length ≤ b) → (TL.joinL S A).length ≤ (b + S.length) * A.length
  | [], _ => Nat.zero_le _
  | [a], h => by
    show a.length ≤ (b + S.length) * 1
    have := h a List.mem_cons_self
    omega
  | a :: c :: A, h => by
    have i := joinL_len S b (c :: A) fun q hq => h q (List.mem_cons_of_mem _ hq)
    have i1 := h a List.mem_cons_self
    show (a ++ (S ++ TL.joinL S (c :: A))).length ≤ _
    rw [List.length_append, List.length_append, List.length_cons (a := a), Nat.mul_succ]
    omega
theorem join_len {ps : List Str} {b : Nat} (h : ∀ p ∈ ps, p.length ≤ b) : (Txt.join " " ps).length ≤ (b + 1) * ps.length := by
  have := joinL_len [32] b (ps.map TL.tl) fun a ha => by
    obtain ⟨p, hp, rfl⟩ := List.mem_map.mp ha
    rw [← TL.len_tl]
    exact h p hp
  rw [TL.len_tl, tlj]
  rw [List.length_map] at this
  exact this
theorem text_lenT {z : Str} {b : Nat} (h : ∀ p ∈ wordsOf z, p.length ≤ b) : z.length ≤ (b + 1) * (wordsOf z).length := by
  have := join_len h
  rw [words_join] at this
  exact this
end K10
end
section
/-! Own: dict(..) of pairs of a text and a number. -/
namespace K10
open PySem PySem.Spec PyProof.Rows L2
def tabL (ps : List Pk) : List (Key × V) := ps.map fun q => (Sum.inr q.1, V.int q.2)
theorem lookL_cons (q : Pk) (r : List Pk) (z : Str) : lookL (q :: r) z = if q.1 = z then some q.2 else lookL r z := by
  show (if z = q.1 then some q.2 else lookL r z) = _
  by_cases e : q.1 = z
  · rw [if_pos e, if_pos e.symm]
  · rw [if_neg e, if_neg fun h => e h.symm]
theorem lookL_at : ∀ {ps : List Pk} {z : Str} {v : Int}, lookL ps z = some v → (z, v) ∈ ps
  | [], z, v, h => by cases h
  | q :: r, z, v, h => by
    rw [lookL_cons] at h
    by_cases e : q.1 = z
    · rw [if_pos e] at h
      cases h
      rw [← e]
      exact List.mem_cons_self
    · rw [if_neg e] at h
      exact List.mem_cons_of_mem _ (lookL_at h)
theorem tabOf_list : ∀ ps : List Pk, TabOf (tabL ps) (lookL ps)
  | [] => TabOf.nil
  | q :: r => by
    have ih := tabOf_list r
    refine ⟨fun z => ?_, fun i => ?_⟩
    · by_cases e : q.1 = z
      · have h1 : valV (tabL (q :: r)) (Sum.inr z) = some (.int q.2) := valV_pos (p := (Sum.inr q.1, V.int q.2)) (congrArg Sum.inr e)
        rw [h1, lookL_cons, if_pos e]
        rfl
      · have h1 : valV (tabL (q :: r)) (Sum.inr z) = valV (tabL r) (Sum.inr z) := valV_neg (p := (Sum.inr q.1, V.int q.2)) fun h => e (Sum.inr.inj h)
        rw [h1, ih.1 z, lookL_cons, if_neg e]
    · have h1 : valV (tabL (q :: r)) (Sum.inl i) = valV (tabL r) (Sum.inl i) := valV_neg (p := (Sum.inr q.1, V.int q.2)) fun h => by cases h
      rw [h1, ih.2 i]
theorem val_none {kvs : List (Key × V)} {k : Key} (h : k ∉ kvs.map (·.1)) : valV kvs k = none := by
  cases e : valV kvs k with
  | none => rfl
  | some v =>
    have h1 := valV_any k kvs
    rw [e] at h1
    obtain ⟨kv, h2, h3⟩ := List.any_eq_true.mp h1
    exact (h (List.mem_map.mpr ⟨kv, h2, of_decide_eq_true h3⟩)).elim
theorem merge_app : ∀ (more acc : List (Key × V)), ((acc ++ more).map (·.1)).Nodup → mergeK acc more = acc ++ more
  | [], acc, _ => (List.append_nil acc).symm
  | x :: r, acc, h => by
    have h2 : x.1 ∉ acc.map (·.1) := fun m => by
      rw [List.map_append] at h
      exact (List.nodup_append.mp h).2.2 x.1 m x.1 (by simp) rfl
    have h1 : putK acc x.1 x.2 = acc ++ [x] := putK_new x.2 (val_none h2)
    have e : acc ++ [x] ++ r = acc ++ x :: r := by simp
    have ih := merge_app r (acc ++ [x]) (by rw [e]; exact h)
    show mergeK (putK acc x.1 x.2) r = _
    rw [h1, ih, e]
theorem merge_tab {ps : List Pk} (h : (ps.map (·.1)).Nodup) : mergeK [] (tabL ps) = tabL ps := by
  refine merge_app (tabL ps) [] ?_
  have e : (tabL ps).map (·.1) = (ps.map (·.1)).map Sum.inr := by
    unfold tabL
    rw [List.map_map, List.map_map]
    rfl
  rw [List.nil_append, e]
  exact List.Pairwise.map Sum.inr (fun a b n q => n (Sum.inr.inj q)) h
theorem PicksAt.paired {K : PySem.W.Frag} {H : Hp} : ∀ {ks : List Addr} {ps : List Pk}, PicksAt H ks ps → Paired (fun p kv => SqT K H p [kV kv.1, kv.2]) ks (tabL ps)
  | [], [], _ => .nil
  | [], _ :: _, h => by cases h.len
  | _ :: _, [], h => by cases h.len
  | k :: ks, p :: ps, h => .cons (SqT.of (h.at_ 0 k p rfl rfl)) (PicksAt.paired ⟨Nat.succ.inj h.len, fun i k' p' e1 e2 => h.at_ (i + 1) k' p' e1 e2⟩)
end K10
end
section
/-! Own: houses as ascending lists of bays with their numbers from 1, and as numbers by bay. -/
namespace K10
open PySem PySem.Spec PyProof.Rows L2
def topN : Int := 10 ^ 60 - 1
def valL (ps : List Pk) (z : Str) : Int := (lookL ps z).getD 0
/-- ascending, each bay once, numbers from 1 -/
structure HNorm (ps : List Pk) : Prop where
  asc : (ps.map (·.1)).Pairwise leS
  nd : (ps.map (·.1)).Nodup
  pos : ∀ p ∈ ps, 0 < p.2
theorem lookL_some : ∀ {ps : List Pk} {p : Pk}, (ps.map (·.1)).Nodup → p ∈ ps → lookL ps p.1 = some p.2
  | q :: r, p, nd, h => by
    rw [lookL_cons]
    rcases List.mem_cons.mp h with rfl | h
    · rw [if_pos rfl]
    · have h1 := (List.nodup_cons.mp nd).1
      rw [if_neg fun e => h1 (by show q.1 ∈ _; rw [e]; exact List.mem_map.mpr ⟨p, h, rfl⟩)]
      exact lookL_some (List.nodup_cons.mp nd).2 h
theorem lookL_none {ps : List Pk} {z : Str} (h : z ∉ ps.map (·.1)) : lookL ps z = none := by
  cases e : lookL ps z with
  | none => rfl
  | some v => exact (h (List.mem_map.mpr ⟨_, lookL_at e, rfl⟩)).elim
theorem valL_mem {ps : List Pk} (n : HNorm ps) {z : Str} : z ∈ ps.map (·.1) ↔ 0 < valL ps z := by
  constructor
  · intro h
    obtain ⟨p, hp, rfl⟩ := List.mem_map.mp h
    unfold valL
    rw [lookL_some n.nd hp]
    exact n.pos p hp
  · intro h
    by_cases c : z ∈ ps.map (·.1)
    · exact c
    · unfold valL at h
      rw [lookL_none c] at h
      exact absurd h (by decide)
theorem valL_nn {ps : List Pk} (n : HNorm ps) (z : Str) : 0 ≤ valL ps z := by
  by_cases c : z ∈ ps.map (·.1)
  · exact Int.le_of_lt ((valL_mem n).mp c)
  · unfold valL
    rw [lookL_none c]
    decide
theorem norm_map {ps : List Pk} (nd : (ps.map (·.1)).Nodup) : ps = (ps.map (·.1)).map fun z => (z, valL ps z) := by
  rw [List.map_map]
  have h : ∀ p ∈ ps, ((fun z => (z, valL ps z)) ∘ fun x : Pk => x.1) p = p := fun p hp => by
    show (p.1, (lookL ps p.1).getD 0) = p
    rw [lookL_some nd hp]
    rfl
  rw [List.map_congr_left h, List.map_id']
theorem norm_ext {ps qs : List Pk} (n : HNorm ps) (m : HNorm qs) (h : ∀ z, valL ps z = valL qs z) : ps = qs := by
  have e : ps.map (·.1) = qs.map (·.1) := asc_aux _ _ n.asc m.asc n.nd m.nd fun z => by rw [valL_mem n, valL_mem m, h z]
  rw [norm_map n.nd, norm_map m.nd, e]
  exact List.map_congr_left fun z _ => by rw [h z]
/-- of ascending names those with a number -/
def mkL (ys : List Str) (F : Str → Int) : List Pk := (ys.filter fun z => decide (0 < F z)).map fun z => (z, F z)
theorem mkL_keys (ys : List Str) (F : Str → Int) : (mkL ys F).map (·.1) = ys.filter fun z => decide (0 < F z) := by
  unfold mkL
  rw [List.map_map]
  exact (List.map_congr_left fun z _ => rfl).trans (List.map_id' _)
theorem mkL_norm {ys : List Str} {F : Str → Int} (h : sortedS ys = true) (nd : ys.Nodup) : HNorm (mkL ys F) := by
  refine ⟨?_, ?_, fun p hp => ?_⟩
  · rw [mkL_keys]
    exact (sorted_pw ys h).sublist List.filter_sublist
  · rw [mkL_keys]
    exact nd.sublist List.filter_sublist
  · obtain ⟨z, hz, rfl⟩ := List.mem_map.mp hp
    exact of_decide_eq_true (List.mem_filter.mp hz).2
theorem mkL_val {ys : List Str} {F : Str → Int} (nd : ys.Nodup) (h : ∀ z, F z ≠ 0 → z ∈ ys) (nn : ∀ z, 0 ≤ F z) (z : Str) : valL (mkL ys F) z = F z := by
  have nk : ((mkL ys F).map (·.1)).Nodup := by
    rw [mkL_keys]
    exact nd.sublist List.filter_sublist
  by_cases c : 0 < F z
  · have m : (z, F z) ∈ mkL ys F := List.mem_map.mpr ⟨z, List.mem_filter.mpr ⟨h z (by omega), decide_eq_true c⟩, rfl⟩
    unfold valL
    rw [lookL_some nk m]
    rfl
  · have m : z ∉ (mkL ys F).map (·.1) := fun q => by
      rw [mkL_keys] at q
      exact c (of_decide_eq_true (List.mem_filter.mp q).2)
    unfold valL
    rw [lookL_none m]
    have := nn z
    show (0 : Int) = F z
    omega
theorem mkL_yes {ys : List Str} {F : Str → Int} {i : Nat} {z : Str} (hz : ys[i]? = some z) (c : 0 < F z) : mkL (ys.take (i + 1)) F = mkL (ys.take i) F ++ [(z, F z)] := by
  unfold mkL
  rw [List.take_add_one, hz, List.filter_append, List.map_append]
  show _ ++ ([z].filter _).map _ = _
  rw [List.filter_cons, if_pos (decide_eq_true c)]
  rfl
theorem mkL_no {ys : List Str} {F : Str → Int} {i : Nat} {z : Str} (hz : ys[i]? = some z) (c : ¬ 0 < F z) : mkL (ys.take (i + 1)) F = mkL (ys.take i) F := by
  unfold mkL
  rw [List.take_add_one, hz, List.filter_append, List.map_append]
  show _ ++ ([z].filter _).map _ = _
  rw [List.filter_cons, if_neg (by simpa using c), List.filter_nil, List.map_nil, List.append_nil]
theorem at_new {ys : List Str} {i : Nat} {z : Str} (nd : ys.Nodup) (hz : ys[i]? = some z) : z ∉ ys.take i := fun q => by
  have h : (ys.take (i + 1)).Nodup := nd.sublist (List.take_sublist _ _)
  rw [List.take_add_one, hz] at h
  exact (List.nodup_append.mp h).2.2 z q z (by simp) rfl
theorem tabL_keys (ps : List Pk) : (tabL ps).map (·.1) = (ps.map (·.1)).map Sum.inr := by
  unfold tabL
  rw [List.map_map, List.map_map]
  rfl
theorem put_tab {ps : List Pk} {z : Str} (v : Int) (h : z ∉ ps.map (·.1)) : putK (tabL ps) (Sum.inr z) (.int v) = tabL (ps ++ [(z, v)]) := by
  have h2 : (Sum.inr z : Key) ∉ (tabL ps).map (·.1) := fun m => by
    rw [tabL_keys] at m
    obtain ⟨y, hy, e⟩ := List.mem_map.mp m
    exact h (Sum.inr.inj e ▸ hy)
  rw [putK_new (V.int v) (val_none h2)]
  unfold tabL
  rw [List.map_append]
  rfl
/-- names with their numbers -/
def mapL (ys : List Str) (f : Str → Int) : List Pk := ys.map fun z => (z, f z)
theorem mapL_keys (ys : List Str) (f : Str → Int) : (mapL ys f).map (·.1) = ys := by
  unfold mapL
  rw [List.map_map]
  exact (List.map_congr_left fun z _ => rfl).trans (List.map_id' _)
theorem mapL_snoc {ys : List Str} {f : Str → Int} {i : Nat} {z : Str} (hz : ys[i]? = some z) : mapL (ys.take (i + 1)) f = mapL (ys.take i) f ++ [(z, f z)] := by
  unfold mapL
  rw [List.take_add_one, hz, List.map_append]
  rfl
theorem mapL_look {ys : List Str} {f : Str → Int} (nd : ys.Nodup) (z : Str) : lookL (mapL ys f) z = if z ∈ ys then some (f z) else none := by
  by_cases c : z ∈ ys
  · rw [if_pos c]
    have nk : ((mapL ys f).map (·.1)).Nodup := by rw [mapL_keys]; exact nd
    exact lookL_some (p := (z, f z)) nk (List.mem_map.mpr ⟨z, c, rfl⟩)
  · rw [if_neg c]
    exact lookL_none (by rw [mapL_keys]; exact c)
theorem nodup_len : ∀ {xs ys : List Str}, xs.Nodup → (∀ z ∈ xs, z ∈ ys) → xs.length ≤ ys.length
  | [], _, _, _ => Nat.zero_le _
  | x :: r, ys, nd, h => by
    have h1 := h x List.mem_cons_self
    have ih := nodup_len (xs := r) (ys := ys.erase x) (List.nodup_cons.mp nd).2 fun z hz => by
      have ne : z ≠ x := fun e => (List.nodup_cons.mp nd).1 (e ▸ hz)
      exact (List.mem_erase_of_ne ne).mpr (h z (List.mem_cons_of_mem _ hz))
    rw [List.length_erase_of_mem h1] at ih
    have := List.length_pos_of_mem h1
    rw [List.length_cons]
    omega
def leB (ns : List Str) (F G : Str → Int) : Bool := ns.all fun z => decide (F z ≤ G z)
def eqB (ns : List Str) (F G : Str → Int) : Bool := ns.all fun z => decide (F z = G z)
end K10
end
section
set_option pp.maxSteps 400
set_option pp.deepTerms.threshold 8
/-! The words of a text, taken one by one. -/
namespace K10
open PySem PySem.Spec PyProof.Rows L2
abbrev sBadText0 : Stmt := mth 7 0
abbrev sWMore : Stmt := mth 16 1
abbrev sWPeek : Stmt := mth 16 2
abbrev sWCheck : Stmt := mth 16 4
abbrev sWStep : Stmt := mth 16 5
abbrev sWTw : Stmt := mth 16 6
abbrev sWTn : Stmt := mth 16 7
abbrev sWEnd : Stmt := mth 16 9
/-- the names of the methods: none is an attribute of an object -/
def wNames : List Str := ["more", "peek", "check", "step", "take_word", "take_name", "take_number", "alone", "end"]
/-- the word at a place, the empty one behind the last -/
def pk (ws : List Str) (at_ : Nat) : Str := ws.getD at_ ""
/-- words at o: the next one is at_ -/
def WAt (C : Addr) (H : Hp) (o : Addr) (ws : List Str) (ln at_ : Nat) : Prop := ∃ (dx : Addr) (fs : List (Str × V)) (l : Addr), H o = some (.ins C dx fs) ∧ fs.lookup ("_words" : Str) = some (.ref l) ∧ fs.lookup ("_line" : Str) = some (.int (ln : Nat)) ∧ fs.lookup ("_at" : Str) = some (.int (at_ : Nat)) ∧ H l = some (.lst (ws.map V.str)) ∧ (∀ m ∈ wNames, fs.lookup m = none) ∧ fs.length ≤ 900
theorem WAt.same {C : Addr} {H H' : Hp} {o : Addr} {ws : List Str} {ln at_ : Nat} (h : WAt C H o ws ln at_) (s : Same H H') : WAt C H' o ws ln at_ := by
  obtain ⟨dx, fs, l, h1, h2, h3, h4, h5, h6, h7⟩ := h
  exact ⟨dx, fs, l, s _ _ h1, h2, h3, h4, s _ _ h5, h6, h7⟩
theorem putF_len {f : Str} {v x : V} : ∀ {fs : List (Str × V)}, fs.lookup f = some x → (putF f v fs).length = fs.length
  | [], h => by cases h
  | (g, y) :: r, h => by
    show (if g = f then (g, v) :: r else (g, y) :: putF f v r).length = _
    split
    · rfl
    · rename_i c
      have h2 : (match f == g with | true => some y | false => r.lookup f) = some x := h
      rw [show (f == g) = false from Bool.eq_false_iff.mpr fun q => c (beq_iff_eq.mp q).symm] at h2
      rw [List.length_cons, List.length_cons, putF_len h2]
/-- the next word is another -/
theorem WAt.moved {C : Addr} {H : Hp} {o dx l : Addr} {fs : List (Str × V)} {ws : List Str} {ln n m : Nat} (h2 : fs.lookup ("_words" : Str) = some (.ref l)) (h3 : fs.lookup ("_line" : Str) = some (.int (ln : Nat))) (h4 : fs.lookup ("_at" : Str) = some (.int (n : Nat))) (h5 : H l = some (.lst (ws.map V.str))) (h6 : ∀ m ∈ wNames, fs.lookup m = none) (h7 : fs.length ≤ 900) (ne : l ≠ o) : WAt C (upd H o (.ins C dx (putF "_at" (.int (m : Nat)) fs))) o ws ln m := by
  have k1 : ("_words" : Str) ≠ "_at" := by decide +kernel
  have k2 : ("_line" : Str) ≠ "_at" := by decide +kernel
  refine ⟨dx, _, l, upd_same, ?_, ?_, ?_, ?_, fun q hq => ?_, ?_⟩
  · rw [lookup_putF, if_neg k1]
    exact h2
  · rw [lookup_putF, if_neg k2]
    exact h3
  · rw [lookup_putF, if_pos rfl]
  · rw [upd_ne ne]
    exact h5
  · have k3 : ∀ q ∈ wNames, q ≠ "_at" := by decide +kernel
    rw [lookup_putF, if_neg (k3 q hq)]
    exact h6 q hq
  · rw [putF_len h4]
    exact h7
theorem in_strs (z : Str) : ∀ ys : List Str, inV (.str z) (ys.map V.str) = decide (z ∈ ys)
  | [] => rfl
  | x :: r => by
    show (eqV (.str x) (.str z) || inV (.str z) (r.map V.str)) = _
    rw [in_strs z r]
    show ((x == z) || decide (z ∈ r)) = _
    rw [Bool.eq_iff_iff, Bool.or_eq_true, beq_iff_eq, decide_eq_true_eq, decide_eq_true_eq, List.mem_cons]
    exact ⟨fun h => h.imp Eq.symm id, fun h => h.imp Eq.symm id⟩
theorem flat_strs (ys : List Str) : (ys.map V.str).all flatV = true := List.all_eq_true.mpr fun v hv => by
  obtain ⟨z, _, rfl⟩ := List.mem_map.mp hv
  rfl
theorem name_above {z : Str} (h : nameB z = true) : decide ((Str.ofString "").cps.toList < z.cps.toList) = true := by
  unfold nameB at h
  have h1 := of_decide_eq_true (Bool.and_eq_true_iff.mp (Bool.and_eq_true_iff.mp h).1).1
  have e : (Str.ofString "").cps.toList = [] := by decide +kernel
  rw [e]
  have h2 : 1 ≤ z.cps.toList.length := h1
  match h3 : z.cps.toList, h2 with
  | c :: r, _ => exact decide_eq_true (List.nil_lt_cons c r)
def spMore (C : Addr) : Sp := fun vs H Q _ => ∃ (o : Addr) (ws : List Str) (ln n : Nat), vs = [.ref o] ∧ WAt C H o ws ln n ∧ Q (.bl (decide (n < ws.length))) H
def spPeek (C : Addr) : Sp := fun vs H Q _ => ∃ (o : Addr) (ws : List Str) (ln n : Nat), vs = [.ref o] ∧ WAt C H o ws ln n ∧ Q (.str (pk ws n)) H
def TextErr (CT : Addr) (H : Hp) (E : XK) (ln n : Nat) : Prop := ∀ d, H d = none → E (.ref CT) (some d) (upd H d (.xd [("word", .int (n : Nat)), ("line", .int (ln : Nat))]))
def spCk (C CT : Addr) : Sp := fun vs H Q E => ∃ (o : Addr) (ws : List Str) (ln n : Nat) (b : Bool), vs = [.ref o, .bl b] ∧ WAt C H o ws ln n ∧ ((b = true ∧ Q .non H) ∨ (b = false ∧ TextErr CT H E ln n))
def spStep (C : Addr) : Sp := fun vs H Q _ => ∃ (o : Addr) (ws : List Str) (ln n : Nat), vs = [.ref o] ∧ WAt C H o ws ln n ∧ ∀ H', But o H H' → WAt C H' o ws ln (n + 1) → Q (.str (pk ws n)) H'
def spTw (K : PySem.W.Frag) (C CT : Addr) : Sp := fun vs H Q E => ∃ (o t : Addr) (cs ws : List Str) (ln n : Nat), vs = [.ref o, .ref t] ∧ SqT K H t (cs.map V.str) ∧ WAt C H o ws ln n ∧ ((pk ws n ∈ cs ∧ ∀ H', But o H H' → WAt C H' o ws ln (n + 1) → Q (.str (pk ws n)) H') ∨ (pk ws n ∉ cs ∧ TextErr CT H E ln n))
/-- above another one -/
def ltS (x y : Str) : Bool := decide (x.cps.toList < y.cps.toList)
def spTn (C CT : Addr) : Sp := fun vs H Q E => ∃ (o : Addr) (ws : List Str) (ln n : Nat) (ab : Str), vs = [.ref o, .str ab] ∧ WAt C H o ws ln n ∧ (pk ws n).length ≤ 1000 ∧ (((nameB (pk ws n) && ltS ab (pk ws n)) = true ∧ ∀ H', But o H H' → WAt C H' o ws ln (n + 1) → Q (.str (pk ws n)) H') ∨ ((nameB (pk ws n) && ltS ab (pk ws n)) = false ∧ ∀ H' d, Same H H' → H' d = none → E (.ref CT) (some d) (upd H' d (.xd [("word", .int (n : Nat)), ("line", .int (ln : Nat))]))))
def spEnd (C CT : Addr) : Sp := fun vs H Q E => ∃ (o : Addr) (ws : List Str) (ln n : Nat), vs = [.ref o] ∧ WAt C H o ws ln n ∧ ((ws.length ≤ n ∧ Q .non H) ∨ (n < ws.length ∧ TextErr CT H E ln n))
/-- the class of words -/
structure WC (K : PySem.W.Frag) (C : Addr) (fMo fPk fCk fSt fTw fTn fEn : Addr) : Prop where
  cls : Cls K C
  nW : NoAttr K C "_words"
  nL : NoAttr K C "_line"
  nA : NoAttr K C "_at"
  m_more : Meth K C "more" fMo
  m_peek : Meth K C "peek" fPk
  m_check : Meth K C "check" fCk
  m_step : Meth K C "step" fSt
  m_take_word : Meth K C "take_word" fTw
  m_take_name : Meth K C "take_name" fTn
  m_end : Meth K C "end" fEn
section
variable {P : Program} {w : World} {K : PySem.W.Frag} {mg : Str → Option Value} {base : Heap} {C CT fMo fPk fCk fSt fTw fTn fEn : Addr}
theorem scBT : FnScope ["self", "line", "word"] ["self", "line", "word"] (defScope sBadText0) := ⟨rfl, rfl, rfl, by decide +kernel, rfl, by decide +kernel, by decide +kernel⟩
theorem ok_badtext {f : Addr} {fd : FuncData} (F : Fun K "__init__" "BadText.__init__" sBadText0 f fd) : FnOk P w K mg base CX0 1 f fd ["self", "line", "word"] (OwE.spErr2 K "line" "word") := by
  refine F.ok scBT (fun vs H Q E h => ?_) (fun cdv A outer s H vs Q E hr h => ?_)
  · obtain ⟨a, C, v, u, rfl, _⟩ := h
    rfl
  · obtain ⟨a, C, v, u, rfl, T, hf, hg, ha, k⟩ := h
    refine ⟨_, (pss_cons (ps_ost (pv 0) (pv 1)) (pss_one (ps_ost (pv 0) (pv 2)))), ?_⟩
    refine ⟨_, rfl, _, rfl, a, C, rfl, T, hf, .inl ⟨ha, fun dx h1 h2 => ?_⟩⟩
    refine ⟨_, rfl, _, rfl, a, C, rfl, T, hg, .inr ⟨dx, _, upd_same, by rw [upd_ne h2, upd_same], by show (1 : Nat) ≤ 900; decide, ?_⟩⟩
    have e : upd (upd (upd H dx (exd dx [("line", v)])) a (exo a C (some dx))) dx (exd dx [("word", u), ("line", v)]) = upd (upd H dx (exd dx [("word", u), ("line", v)])) a (exo a C (some dx)) := by
      funext b
      by_cases e1 : b = dx
      · rw [e1, upd_same, upd_ne h2, upd_same]
      · rw [upd_ne e1]
        by_cases e2 : b = a
        · rw [e2, upd_same, upd_same]
        · rw [upd_ne e2, upd_ne e1, upd_ne e2, upd_ne e1]
    rw [e]
    exact k dx h1 h2
abbrev nWMo : List Str := ["self"]
theorem scWMo : FnScope nWMo ["self"] (defScope sWMore) := ⟨rfl, rfl, rfl, by decide +kernel, rfl, by decide +kernel, by decide +kernel⟩
theorem ok_WMore {fd : FuncData} (W : WC K C fMo fPk fCk fSt fTw fTn fEn) (F : Fun K "more" "Words.more" sWMore fMo fd) (n_len : mg "len" = none) : FnOk P w K mg base CX0 1 fMo fd ["self"] (spMore C) := by
  refine F.ok scWMo (fun vs H Q E h => ?_) (fun cdv A outer s H vs Q E hr h => ?_)
  · obtain ⟨o, ws, ln, n, rfl, _⟩ := h
    rfl
  · obtain ⟨o, ws, ln, n, rfl, ⟨dx, fs, l, h1, h2, h3, h4, h5, h6, h7⟩, q⟩ := h
    refine ⟨_, (pss_one (ps_ret (pe_cmpR op_lt (pe_fld (pv 0) rfl) (pe_callB call_len_seq (by rfl) n_len boot_len (pa_cons (pe_fld (pv 0) rfl) pa_nil)) (nomark _)))), ?_⟩
    refine ⟨_, rfl, o, C, dx, fs, _, rfl, h1, W.cls, W.nA, h4, _, rfl, o, C, dx, fs, _, rfl, h1, W.cls, W.nW, h2, l, _, rfl, .inl (SqL.of h5), ?_⟩
    rw [List.length_map]
    refine ⟨_, _, rfl, rfl, ?_⟩
    show Q (.bl (decide (((n : Nat) : Int) < ((ws.length : Nat) : Int)))) H
    rw [show decide (((n : Nat) : Int) < ((ws.length : Nat) : Int)) = decide (n < ws.length) from decide_eq_decide.mpr (by omega)]
    exact q
abbrev nWPk : List Str := ["self"]
theorem scWPk : FnScope nWPk ["self"] (defScope sWPeek) := ⟨rfl, rfl, rfl, by decide +kernel, rfl, by decide +kernel, by decide +kernel⟩
theorem ok_WPeek {fd fdMo : FuncData} (W : WC K C fMo fPk fCk fSt fTw fTn fEn) (F : Fun K "peek" "Words.peek" sWPeek fPk fd) (FM : Fun K "more" "Words.more" sWMore fMo fdMo) (n_len : mg "len" = none) : FnOk P w K mg base CX0 2 fPk fd ["self"] (spPeek C) := by
  have G_more : FnOk P w K mg base CX0 1 fMo fdMo ["self"] (spMore C) := ok_WMore W FM n_len
  have b_more : Binds K fdMo ["self"] [] := FM.binds fun _ _ _ _ _ _ us hl => match us, hl with | [_], _ => rfl
  refine F.ok scWPk (fun vs H Q E h => ?_) (fun cdv A outer s H vs Q E hr h => ?_)
  · obtain ⟨o, ws, ln, n, rfl, _⟩ := h
    rfl
  · obtain ⟨o, ws, ln, n, rfl, wa, q⟩ := h
    have h_more : Room 1 _ := hr
    obtain ⟨dx, fs, l, h1, h2, h3, h4, h5, h6, h7⟩ := id wa
    refine ⟨_, (pss_one (ps_ret (pe_ifExp (pt_val (pe_meth0 (pv 0) W.cls W.m_more G_more h_more b_more .nil pass0)) (pe_ix ix_list (pe_fld (pv 0) rfl) (pe_fld (pv 0) rfl) (fun _ _ => rfl)) pe_str))), ?_⟩
    refine ⟨_, rfl, o, dx, fs, rfl, h1, h6 _ (by decide), o, ws, ln, n, rfl, wa, _, rfl, ?_⟩
    refine ite2 (fun c => ?_) (fun c => ?_)
    · have c : n < ws.length := of_decide_eq_true c
      refine ⟨_, rfl, o, C, dx, fs, _, rfl, h1, W.cls, W.nW, h2, _, rfl, o, C, dx, fs, _, rfl, h1, W.cls, W.nA, h4, l, _, _, _, rfl, rfl, SqL.of h5, atI_nat (j := n) (by rw [List.getElem?_map, List.getElem?_eq_getElem c]; rfl), ?_⟩
      have e : pk ws n = ws[n] := by
        unfold pk
        rw [List.getD_eq_getElem?_getD, List.getElem?_eq_getElem c]
        rfl
      rw [← e]
      exact q
    · have c : ws.length ≤ n := by
        rcases Nat.lt_or_ge n ws.length with h | h
        · exact absurd (decide_eq_true h) c
        · exact h
      have e : pk ws n = "" := by
        unfold pk
        rw [List.getD_eq_getElem?_getD, List.getElem?_eq_none c]
        rfl
      rw [e] at q
      exact q
abbrev nWCk : List Str := ["self", "good"]
theorem scWCk : FnScope nWCk ["self", "good"] (defScope sWCheck) := ⟨rfl, rfl, rfl, by decide +kernel, rfl, by decide +kernel, by decide +kernel⟩
theorem ok_WCheck {fK : Addr} {fd fdK : FuncData} (W : WC K C fMo fPk fCk fSt fTw fTn fEn) (F : Fun K "check" "Words.check" sWCheck fCk fd) (TK : ErrT K mg "BadText" CT fK) (hl : PySem.W.findIn K (.ref CT) "line" = some none) (hw : PySem.W.findIn K (.ref CT) "word" = some none) (FK : Fun K "__init__" "BadText.__init__" sBadText0 fK fdK) : FnOk P w K mg base (L2.CX P w) 3 fCk fd ["self", "good"] (spCk C CT) := by
  have GK : FnOk P w K mg base CX0 1 fK fdK ["self", "line", "word"] (OwE.spErr2 K "line" "word") := ok_badtext FK
  have bK : Binds K fdK ["self", "line", "word"] [] := FK.binds fun _ _ _ _ _ _ us hl => match us, hl with | [_, _, _], _ => rfl
  refine F.okX scWCk (fun vs H Q E h => ?_) (fun cdv A outer s H vs Q E hr h => ?_)
  · obtain ⟨o, ws, ln, n, b, rfl, _⟩ := h
    rfl
  · obtain ⟨o, ws, ln, n, b, rfl, ⟨dx, fs, l, h1, h2, h3, h4, h5, h6, h7⟩, h⟩ := h
    have hr2 : Room 2 _ := hr
    refine ⟨_, (pss_one (ps_if (pt_not (pt_val (pv 1))) (pss_one (ps_raise rfl (takes_of rfl rfl rfl rfl) (pmk_oex TK.er.ox TK.ini TK.ty GK hr2 bK .nil pass0 (by rfl) TK.g (pa_cons (pe_fld (pv 0) rfl) (pa_cons (pe_fld (pv 0) rfl) pa_nil))))) pss_nil)), ?_⟩
    rcases h with ⟨rfl, q⟩ | ⟨rfl, q⟩
    · exact ⟨_, rfl, _, rfl, iteF q⟩
    · refine ⟨_, rfl, _, rfl, iteT ?_⟩
      refine ⟨_, rfl, o, C, dx, fs, _, rfl, h1, W.cls, W.nL, h3, _, rfl, o, C, dx, fs, _, rfl, h1, W.cls, W.nA, h4, OwE.mk_err2 TK.er.ox hl hw fun d hd => q d hd⟩
abbrev nWSt : List Str := ["self", "word"]
theorem scWSt : FnScope nWSt ["self"] (defScope sWStep) := ⟨rfl, rfl, rfl, by decide +kernel, rfl, by decide +kernel, by decide +kernel⟩
theorem ok_WStep {fd fdPk : FuncData} (W : WC K C fMo fPk fCk fSt fTw fTn fEn) (F : Fun K "step" "Words.step" sWStep fSt fd) (FP : Fun K "peek" "Words.peek" sWPeek fPk fdPk) (G_peek : FnOk P w K mg base CX0 2 fPk fdPk ["self"] (spPeek C)) : FnOk P w K mg base CX0 3 fSt fd ["self"] (spStep C) := by
  have b_peek : Binds K fdPk ["self"] [] := FP.binds fun _ _ _ _ _ _ us hl => match us, hl with | [_], _ => rfl
  refine F.ok scWSt (fun vs H Q E h => ?_) (fun cdv A outer s H vs Q E hr h => ?_)
  · obtain ⟨o, ws, ln, n, rfl, _⟩ := h
    rfl
  · obtain ⟨o, ws, ln, n, rfl, wa, q⟩ := h
    have h_peek : Room 2 _ := hr
    obtain ⟨dx, fs, l, h1, h2, h3, h4, h5, h6, h7⟩ := id wa
    refine ⟨_, (pss_cons (ps_set (i := 1) scWSt.nd rfl (Or.inl rfl) (pe_meth0 (pv 0) W.cls W.m_peek G_peek h_peek b_peek .nil pass0))
    (pss_cons (ps_fld (pv 0) (pe_op op_add (pe_fld (pv 0) rfl) pe_int) rfl)
    (pss_one (ps_ret (pv 1))))), ?_⟩
    refine ⟨_, rfl, o, dx, fs, rfl, h1, h6 _ (by decide), o, ws, ln, n, rfl, wa, ?_⟩
    refine ⟨_, rfl, o, C, dx, fs, _, rfl, h1, W.cls, W.nA, h4, _, _, rfl, rfl, ?_⟩
    refine ⟨_, rfl, o, C, dx, fs, rfl, h1, W.cls, W.nA, by omega, ?_⟩
    refine ⟨_, rfl, q _ But.at ?_⟩
    have ne : l ≠ o := fun e => by
      rw [e, h1] at h5
      cases h5
    exact WAt.moved (m := n + 1) h2 h3 h4 h5 h6 h7 ne
abbrev nWTw : List Str := ["self", "choices"]
theorem scWTw : FnScope nWTw ["self", "choices"] (defScope sWTw) := ⟨rfl, rfl, rfl, by decide +kernel, rfl, by decide +kernel, by decide +kernel⟩
theorem ok_WTw {fd fdPk fdCk fdSt : FuncData} (W : WC K C fMo fPk fCk fSt fTw fTn fEn) (F : Fun K "take_word" "Words.take_word" sWTw fTw fd) (FP : Fun K "peek" "Words.peek" sWPeek fPk fdPk) (G_peek : FnOk P w K mg base CX0 2 fPk fdPk ["self"] (spPeek C)) (FC : Fun K "check" "Words.check" sWCheck fCk fdCk) (G_check : FnOk P w K mg base (L2.CX P w) 3 fCk fdCk ["self", "good"] (spCk C CT)) (FS : Fun K "step" "Words.step" sWStep fSt fdSt) (G_step : FnOk P w K mg base CX0 3 fSt fdSt ["self"] (spStep C)) :
    FnOk P w K mg base (L2.CX P w) 4 fTw fd ["self", "choices"] (spTw K C CT) := by
  have b_peek : Binds K fdPk ["self"] [] := FP.binds fun _ _ _ _ _ _ us hl => match us, hl with | [_], _ => rfl
  have b_check : Binds K fdCk ["self", "good"] [] := FC.binds fun _ _ _ _ _ _ us hl => match us, hl with | [_, _], _ => rfl
  have b_step : Binds K fdSt ["self"] [] := FS.binds fun _ _ _ _ _ _ us hl => match us, hl with | [_], _ => rfl
  refine F.okX scWTw (fun vs H Q E h => ?_) (fun cdv A outer s H vs Q E hr h => ?_)
  · obtain ⟨o, t, cs, ws, ln, n, rfl, _⟩ := h
    rfl
  · obtain ⟨o, t, cs, ws, ln, n, rfl, ht, wa, h⟩ := h
    have h_check : Room 3 _ := hr
    have h_step : Room 3 _ := hr
    have h_peek := h_step.mono (show 2 ≤ 3 by decide)
    obtain ⟨dx, fs, l, h1, h2, h3, h4, h5, h6, h7⟩ := id wa
    refine ⟨_, (pss_cons (ps_expr (pe_meth (pv 0) W.cls W.m_check G_check h_check b_check .nil (passes_call (takes_of rfl rfl rfl rfl) (fun _ _ _ _ h => h)) (pa_cons (pe_cmpR op_in_seq (pe_meth0 (pv 0) W.cls W.m_peek G_peek h_peek b_peek .nil pass0) (pv 1) (by rfl)) pa_nil)))
    (pss_one (ps_ret (pe_meth0 (pv 0) W.cls W.m_step G_step h_step b_step .nil pass0)))), ?_⟩
    refine ⟨_, rfl, o, dx, fs, rfl, h1, h6 _ (by decide), _, rfl, o, dx, fs, rfl, h1, h6 _ (by decide), o, ws, ln, n, rfl, wa, _, rfl, ?_⟩
    have iv : inV (.str (pk ws n)) (cs.map V.str) = decide (pk ws n ∈ cs) := in_strs _ _
    refine ⟨t, _, rfl, .inr ht, rfl, flat_strs cs, ?_⟩
    show ∃ o1 ws1 ln1 n1 b, _ ∧ _
    rcases h with ⟨m, q⟩ | ⟨m, q⟩
    · refine ⟨o, ws, ln, n, true, ?_, wa, .inl ⟨rfl, ?_⟩⟩
      · show [V.ref o, V.bl (inV (.str (pk ws n)) (cs.map V.str))] = _
        rw [iv, decide_eq_true m]
      refine ⟨_, rfl, o, dx, fs, rfl, h1, h6 _ (by decide), o, ws, ln, n, rfl, wa, q⟩
    · refine ⟨o, ws, ln, n, false, ?_, wa, .inr ⟨rfl, q⟩⟩
      show [V.ref o, V.bl (inV (.str (pk ws n)) (cs.map V.str))] = _
      rw [iv, decide_eq_false m]
abbrev nWEn : List Str := ["self"]
theorem scWEn : FnScope nWEn ["self"] (defScope sWEnd) := ⟨rfl, rfl, rfl, by decide +kernel, rfl, by decide +kernel, by decide +kernel⟩
theorem ok_WEnd {fd fdMo fdCk : FuncData} (W : WC K C fMo fPk fCk fSt fTw fTn fEn) (F : Fun K "end" "Words.end" sWEnd fEn fd) (FM : Fun K "more" "Words.more" sWMore fMo fdMo) (n_len : mg "len" = none) (FC : Fun K "check" "Words.check" sWCheck fCk fdCk) (G_check : FnOk P w K mg base (L2.CX P w) 3 fCk fdCk ["self", "good"] (spCk C CT)) :
    FnOk P w K mg base (L2.CX P w) 4 fEn fd ["self"] (spEnd C CT) := by
  have G_more : FnOk P w K mg base CX0 1 fMo fdMo ["self"] (spMore C) := ok_WMore W FM n_len
  have b_more : Binds K fdMo ["self"] [] := FM.binds fun _ _ _ _ _ _ us hl => match us, hl with | [_], _ => rfl
  have b_check : Binds K fdCk ["self", "good"] [] := FC.binds fun _ _ _ _ _ _ us hl => match us, hl with | [_, _], _ => rfl
  refine F.okX scWEn (fun vs H Q E h => ?_) (fun cdv A outer s H vs Q E hr h => ?_)
  · obtain ⟨o, ws, ln, n, rfl, _⟩ := h
    rfl
  · obtain ⟨o, ws, ln, n, rfl, wa, h⟩ := h
    have h_check : Room 3 _ := hr
    have h_more := h_check.mono (show 1 ≤ 3 by decide)
    obtain ⟨dx, fs, l, h1, h2, h3, h4, h5, h6, h7⟩ := id wa
    refine ⟨_, (pss_one (ps_expr (pe_meth (pv 0) W.cls W.m_check G_check h_check b_check .nil (passes_call (takes_of rfl rfl rfl rfl) (fun _ _ _ _ h => h)) (pa_cons (pe_not (pe_meth0 (pv 0) W.cls W.m_more G_more h_more b_more .nil pass0)) pa_nil)))), ?_⟩
    refine ⟨_, rfl, o, dx, fs, rfl, h1, h6 _ (by decide), _, rfl, o, dx, fs, rfl, h1, h6 _ (by decide), o, ws, ln, n, rfl, wa, _, rfl, ?_⟩
    rcases h with ⟨m, q⟩ | ⟨m, q⟩
    · rw [decide_eq_false (Nat.not_lt.mpr m)]
      exact ⟨o, ws, ln, n, true, rfl, wa, .inl ⟨rfl, q⟩⟩
    · rw [decide_eq_true m]
      exact ⟨o, ws, ln, n, false, rfl, wa, .inr ⟨rfl, q⟩⟩
abbrev nWTn : List Str := ["self", "above"]
theorem scWTn : FnScope nWTn ["self", "above"] (defScope sWTn) := ⟨rfl, rfl, rfl, by decide +kernel, rfl, by decide +kernel, by decide +kernel⟩
theorem ok_WTn {fN : Addr} {fd fdPk fdCk fdSt fdN : FuncData} (W : WC K C fMo fPk fCk fSt fTw fTn fEn) (F : FunD K "take_name" "Words.take_name" (defArgs sWTn) (defBody sWTn) (defScope sWTn) [.str ""] [] fTn fd) (FP : Fun K "peek" "Words.peek" sWPeek fPk fdPk) (G_peek : FnOk P w K mg base CX0 2 fPk fdPk ["self"] (spPeek C)) (FC : Fun K "check" "Words.check" sWCheck fCk fdCk) (G_check : FnOk P w K mg base (L2.CX P w) 3 fCk fdCk ["self", "good"] (spCk C CT)) (FS : Fun K "step" "Words.step" sWStep fSt fdSt) (G_step : FnOk P w K mg base CX0 3 fSt fdSt ["self"] (spStep C))
    (FN : Fun K "is_name" "is_name" sName fN fdN) (gN : mg "is_name" = some (.ref fN)) (N2 : Nm2 mg) : FnOk P w K mg base (L2.CX P w) 4 fTn fd ["self", "above"] (spTn C CT) := by
  have GN : FnOk P w K mg base CX0 1 fN fdN ["value"] (spName K) := ok_name FN N2
  have bN : Binds K fdN ["value"] [] := FN.binds fun _ _ _ _ _ _ us hl => match us, hl with | [_], _ => rfl
  have b_peek : Binds K fdPk ["self"] [] := FP.binds fun _ _ _ _ _ _ us hl => match us, hl with | [_], _ => rfl
  have b_check : Binds K fdCk ["self", "good"] [] := FC.binds fun _ _ _ _ _ _ us hl => match us, hl with | [_, _], _ => rfl
  have b_step : Binds K fdSt ["self"] [] := FS.binds fun _ _ _ _ _ _ us hl => match us, hl with | [_], _ => rfl
  refine F.ok (CX := L2.CX P w) scWTn (fun vs H Q E h => ?_) (fun cdv A outer s H vs Q E hr h => ?_)
  · obtain ⟨o, ws, ln, n, ab, rfl, _⟩ := h
    rfl
  · obtain ⟨o, ws, ln, n, ab, rfl, wa, lw, h⟩ := h
    have h_check : Room 3 _ := hr
    have h_step : Room 3 _ := hr
    have h_peek := h_step.mono (show 2 ≤ 3 by decide)
    have hr1 := h_step.mono (show 1 ≤ 3 by decide)
    obtain ⟨dx, fs, l, h1, h2, h3, h4, h5, h6, h7⟩ := id wa
    refine ⟨_, (pss_cons (ps_expr (pe_meth (pv 0) W.cls W.m_check G_check h_check b_check .nil (passes_call (takes_of rfl rfl rfl rfl) (fun _ _ _ _ h => h)) (pa_cons (pe_and (pe_call GN hr1 (by rfl) gN FN.kp bN .nil pass0 (pa_cons (pe_meth0 (pv 0) W.cls W.m_peek G_peek h_peek b_peek .nil pass0) pa_nil)) (pe_one (pe_cmpR op_gt_str (pe_meth0 (pv 0) W.cls W.m_peek G_peek h_peek b_peek .nil pass0) (pv 1) (nomark _)))) pa_nil)))
    (pss_one (ps_ret (pe_meth0 (pv 0) W.cls W.m_step G_step h_step b_step .nil pass0)))), ?_⟩
    refine ⟨_, rfl, o, dx, fs, rfl, h1, h6 _ (by decide), _, rfl, o, dx, fs, rfl, h1, h6 _ (by decide), o, ws, ln, n, rfl, wa, _, rfl, .inl ⟨_, rfl, lw, fun H1 s1 => ?_⟩⟩
    cases cn : nameB (pk ws n) with
    | true =>
      rw [cn, Bool.true_and] at h
      refine ⟨true, rfl, iteT ?_⟩
      refine ⟨_, rfl, o, dx, fs, rfl, s1 _ _ h1, h6 _ (by decide), o, ws, ln, n, rfl, wa.same s1, _, rfl, _, _, rfl, rfl, ?_⟩
      rcases h with ⟨m, q⟩ | ⟨m, q⟩
      · refine ⟨o, ws, ln, n, true, congrArg (fun c => [V.ref o, V.bl c]) m, wa.same s1, .inl ⟨rfl, ?_⟩⟩
        exact ⟨_, rfl, o, dx, fs, rfl, s1 _ _ h1, h6 _ (by decide), o, ws, ln, n, rfl, wa.same s1, fun H' b w => q H' ((Same.but o s1).trans b) w⟩
      · exact ⟨o, ws, ln, n, false, congrArg (fun c => [V.ref o, V.bl c]) m, wa.same s1, .inr ⟨rfl, fun d hd => q _ d s1 hd⟩⟩
    | false =>
      rw [cn, Bool.false_and] at h
      rcases h with ⟨m, q⟩ | ⟨m, q⟩
      · cases m
      · refine ⟨false, rfl, iteF ?_⟩
        exact ⟨o, ws, ln, n, false, rfl, wa.same s1, .inr ⟨rfl, fun d hd => q _ d s1 hd⟩⟩
end
end K10
end
section
set_option pp.maxSteps 400
set_option pp.deepTerms.threshold 6
/-! Numbers among words. -/
namespace K10
open PySem PySem.Spec PyProof.Rows L2
abbrev sWNum : Stmt := top 15
abbrev sWNu : Stmt := mth 16 8
/-- a number without signs and needless zeros, of at most 60 digits -/
def numB (z : Str) : Bool := (Txt.isascii z && Txt.isdigit z) && (decide (z.length ≤ 60) && !(decide (z.cps.toList.head? = some 48) && decide (1 < z.length)))
def numN (z : Str) : Nat := NumText.digitsVal z.cps.toList
def numO (z : Str) : Option Nat := if numB z = true then some (numN z) else none
def optN (o : Option Nat) : V := match o with
  | none => .non
  | some n => .int (n : Nat)
theorem digit_codes : ∀ c : Nat, c < 128 → Unicode.isDigit c = (decide (48 ≤ c) && decide (c ≤ 57)) := by decide +kernel
theorem ascii_digits {z : Str} (h : (Txt.isascii z && Txt.isdigit z) = true) : (z.cps.toList.all fun c => decide (48 ≤ c) && decide (c ≤ 57)) = true ∧ z.cps.toList ≠ [] := by
  obtain ⟨h1, h2⟩ := Bool.and_eq_true_iff.mp h
  unfold Txt.isdigit at h2
  obtain ⟨h3, h4⟩ := Bool.and_eq_true_iff.mp h2
  have h1 : z.cps.all (· < 128) = true := h1
  rw [← Array.all_toList] at h1 h4
  refine ⟨List.all_eq_true.mpr fun c hc => ?_, fun e => ?_⟩
  · rw [← digit_codes c (of_decide_eq_true (List.all_eq_true.mp h1 c hc))]
    exact List.all_eq_true.mp h4 c hc
  · have := of_decide_eq_true h3
    have l : z.length = z.cps.toList.length := by simp [Str.length]
    rw [l, e] at this
    exact absurd this (Nat.lt_irrefl 0)
theorem int_of_num {z : Str} (h : (Txt.isascii z && Txt.isdigit z) = true) (l : z.length ≤ 60) : intText? z = some ((numN z : Nat) : Int) := by
  obtain ⟨a, b⟩ := ascii_digits h
  have l2 : z.length = z.cps.toList.length := by simp [Str.length]
  have := SX.int_S a b (by omega)
  rw [SX.S_tl] at this
  exact this
def spWNum : Sp := fun vs H Q _ => ∃ z : Str, vs = [.str z] ∧ z.length ≤ 1000 ∧ Q (optN (numO z)) H
/-- from a on, to b if there is one -/
def inB (a : Int) (b : Option Int) (k : Nat) : Bool := decide (a ≤ k) && (match b with | none => true | some b => decide ((k : Int) ≤ b))
def optI2 (b : Option Int) : V := match b with
  | none => .non
  | some b => .int b
def spWNu (C CT : Addr) : Sp := fun vs H Q E => ∃ (o : Addr) (ws : List Str) (ln n : Nat) (a : Int) (b : Option Int), vs = [.ref o, .int a, optI2 b] ∧ WAt C H o ws ln n ∧ (pk ws n).length ≤ 1000 ∧
  ((∃ k : Nat, numO (pk ws n) = some k ∧ inB a b k = true ∧ ∀ H', But o H H' → WAt C H' o ws ln (n + 1) → Q (.int (k : Nat)) H') ∨ ((∀ k, numO (pk ws n) = some k → inB a b k = false) ∧ TextErr CT H E ln n))
section
variable {P : Program} {w : World} {K : PySem.W.Frag} {mg : Str → Option Value} {base : Heap} {C CT fMo fPk fCk fSt fTw fTn fEn : Addr}
abbrev nWNum : List Str := ["word"]
theorem scWNum : FnScope nWNum ["word"] (defScope sWNum) := ⟨rfl, rfl, rfl, by decide +kernel, rfl, by decide +kernel, by decide +kernel⟩
theorem ok_num {f : Addr} {fd : FuncData} (F : Fun K "number_of" "number_of" sWNum f fd) (n_len : mg "len" = none) (n_int : mg "int" = none) : FnOk P w K mg base CX0 1 f fd ["word"] spWNum := by
  refine F.ok scWNum (fun vs H Q E h => ?_) (fun cdv A outer s H vs Q E hr h => ?_)
  · obtain ⟨z, rfl, _⟩ := h
    rfl
  · obtain ⟨z, rfl, lz, q⟩ := h
    refine ⟨_, (pss_cons (ps_if (PW.pt (pw_or (pt_not (PW.pt (pw_and (pt_val (pe_m0 PySem.F.slot_str_isascii PySem.F.type_str_isascii mt_isascii (pv 0))) (pw_and1 (pt_val (pe_m0 PySem.F.slot_str_isdigit PySem.F.type_str_isdigit mt_isdigit (pv 0))))))) (pw_or1 (pt_cmpR op_gt (pe_callB call_len (by rfl) n_len boot_len (pa_cons (pv 0) pa_nil)) pe_int (nomark _))))) (pss_one (ps_ret pe_non)) pss_nil)
    (pss_cons (ps_if (PW.pt (pw_and (pt_cmpR op_eq (pe_ix ix_str (pv 0) pe_int (fun _ _ => rfl)) pe_str (nomark _)) (pw_and1 (pt_cmpR op_gt (pe_callB call_len (by rfl) n_len boot_len (pa_cons (pv 0) pa_nil)) pe_int (nomark _))))) (pss_one (ps_ret pe_non)) pss_nil)
    (pss_one (ps_ret (pe_callTy call_int_str (by rfl) n_int (by decide +kernel) (pa_cons (pv 0) pa_nil)))))), ?_⟩
    have sz := sizeLine_eq
    have hz2 : z.length ≤ sizeLine := by omega
    have bad : numB z = false → Q .non H := fun e => by
      have e2 : optN (numO z) = .non := by
        unfold numO
        rw [if_neg (by rw [e]; decide)]
        rfl
      rw [← e2]
      exact q
    refine ⟨_, rfl, ⟨_, rfl⟩, z, rfl, rfl, trivial, _, rfl, ?_⟩
    cases c1 : Txt.isascii z with
    | false => exact iteF (iteT (iteT (bad (by unfold numB; rw [c1]; rfl))))
    | true =>
      refine iteT ?_
      refine ⟨_, rfl, ⟨_, rfl⟩, z, rfl, rfl, trivial, _, rfl, ?_⟩
      cases c2 : Txt.isdigit z with
      | false => exact iteT (iteT (bad (by unfold numB; rw [c1, c2]; rfl)))
      | true =>
        refine iteF ?_
        refine ⟨_, rfl, .str z, z.length, rfl, ⟨hz2, rfl⟩, _, _, rfl, rfl, _, rfl, ?_⟩
        have c12 : (Txt.isascii z && Txt.isdigit z) = true := by rw [c1, c2]; rfl
        refine ite2 (fun c3 => ?_) (fun c3 => ?_)
        · refine bad ?_
          unfold numB
          have c3 := of_decide_eq_true c3
          rw [show decide (z.length ≤ 60) = false from decide_eq_false (by omega), Bool.false_and, Bool.and_false]
        · have c3 : z.length ≤ 60 := by
            rcases Nat.lt_or_ge 60 z.length with h | h
            · exact absurd (decide_eq_true (show (60 : Int) < ((z.length : Nat) : Int) by omega)) c3
            · exact h
          obtain ⟨a1, a2⟩ := ascii_digits c12
          obtain ⟨d, r, el⟩ : ∃ d r, z.cps.toList = d :: r := by
            match h : z.cps.toList, a2 with
            | d :: r, _ => exact ⟨d, r, rfl⟩
          have la : z.length = z.cps.toList.length := by simp [Str.length]
          refine ⟨_, rfl, z, 0, d, rfl, rfl, hz2, by rw [el]; exact atI_nat (j := 0) rfl, ?_⟩
          refine ⟨rfl, _, rfl, ?_⟩
          have eh : decide (V.str ⟨#[d]⟩ = V.str (Str.ofString "0")) = decide (z.cps.toList.head? = some 48) := by
            rw [el]
            refine decide_eq_decide.mpr ⟨fun e => ?_, fun e => ?_⟩
            · have e := V.str.inj e
              have : (⟨#[d]⟩ : Str).cps.toList = (Str.ofString "0").cps.toList := congrArg (fun x : Str => x.cps.toList) e
              have e0 : (Str.ofString "0").cps.toList = [48] := by decide +kernel
              rw [e0] at this
              exact congrArg List.head? this
            · have e : d = 48 := Option.some.inj e
              rw [e]
              exact congrArg V.str (by decide +kernel)
          rw [eh]
          have fin : numB z = true → tRet (tCB (fun xs H Q => ∃ a n, xs = [.str a] ∧ intText? a = some n ∧ a.length ≤ 640 ∧ Q (.int n) H) (tCons (tVar 0) tNil)) { nx := fun x H' => Q V.non H', rt := Q } (L2.start nWNum [V.str z]) H := fun e => by
            refine ⟨_, rfl, z, _, rfl, int_of_num c12 c3, by omega, ?_⟩
            have e2 : optN (numO z) = .int ((numN z : Nat) : Int) := by
              unfold numO
              rw [if_pos e]
              rfl
            show Q (.int ((numN z : Nat) : Int)) H
            rw [← e2]
            exact q
          cases c4 : decide (z.cps.toList.head? = some 48) with
          | false =>
            refine iteF ?_
            refine iteF (fin ?_)
            unfold numB
            rw [c12, c4, decide_eq_true c3]
            rfl
          | true =>
            refine iteT ?_
            refine ⟨_, rfl, .str z, z.length, rfl, ⟨hz2, rfl⟩, _, _, rfl, rfl, _, rfl, ?_⟩
            refine ite2 (fun c5 => ?_) (fun c5 => ?_)
            · refine bad ?_
              have c5 : 1 < z.length := by
                have := of_decide_eq_true c5
                omega
              unfold numB
              rw [c12, c4, decide_eq_true c3, decide_eq_true c5]
              rfl
            · refine fin ?_
              have c5 : ¬ 1 < z.length := fun h => c5 (decide_eq_true (show (1 : Int) < ((z.length : Nat) : Int) by omega))
              unfold numB
              rw [c12, c4, decide_eq_true c3, decide_eq_false c5]
              rfl
abbrev nWNu : List Str := ["self", "least", "most", "number"]
theorem scWNu : FnScope nWNu ["self", "least", "most"] (defScope sWNu) := ⟨rfl, rfl, rfl, by decide +kernel, rfl, by decide +kernel, by decide +kernel⟩
theorem ok_WNu {f : Addr} {fd fdPk fdCk fdSt fdN : FuncData} {fN : Addr} (W : WC K C fMo fPk fCk fSt fTw fTn fEn) (F : FunD K "take_number" "Words.take_number" (defArgs sWNu) (defBody sWNu) (defScope sWNu) [.non] [] f fd) (FP : Fun K "peek" "Words.peek" sWPeek fPk fdPk) (G_peek : FnOk P w K mg base CX0 2 fPk fdPk ["self"] (spPeek C)) (FC : Fun K "check" "Words.check" sWCheck fCk fdCk) (G_check : FnOk P w K mg base (L2.CX P w) 3 fCk fdCk ["self", "good"] (spCk C CT)) (FS : Fun K "step" "Words.step" sWStep fSt fdSt) (G_step : FnOk P w K mg base CX0 3 fSt fdSt ["self"] (spStep C))
    (F_num : Fun K "number_of" "number_of" sWNum fN fdN) (g_num : mg "number_of" = some (.ref fN)) (n_len : mg "len" = none) (n_int : mg "int" = none) : FnOk P w K mg base (L2.CX P w) 4 f fd ["self", "least", "most"] (spWNu C CT) := by
  have G_num : FnOk P w K mg base CX0 1 fN fdN ["word"] spWNum := ok_num F_num n_len n_int
  have b_num : Binds K fdN ["word"] [] := F_num.binds fun _ _ _ _ _ _ us hl => match us, hl with | [_], _ => rfl
  have b_peek : Binds K fdPk ["self"] [] := FP.binds fun _ _ _ _ _ _ us hl => match us, hl with | [_], _ => rfl
  have b_check : Binds K fdCk ["self", "good"] [] := FC.binds fun _ _ _ _ _ _ us hl => match us, hl with | [_, _], _ => rfl
  have b_step : Binds K fdSt ["self"] [] := FS.binds fun _ _ _ _ _ _ us hl => match us, hl with | [_], _ => rfl
  refine F.ok (CX := L2.CX P w) scWNu (fun vs H Q E h => ?_) (fun cdv A outer s H vs Q E hr h => ?_)
  · obtain ⟨o, ws, ln, n, a, b, rfl, _⟩ := h
    rfl
  · obtain ⟨o, ws, ln, n, a, b, rfl, wa, lw, h⟩ := h
    have h_check : Room 3 _ := hr
    have h_step : Room 3 _ := hr
    have h_peek := h_step.mono (show 2 ≤ 3 by decide)
    have hr1 := h_step.mono (show 1 ≤ 3 by decide)
    obtain ⟨dx, fs, l, h1, h2, h3, h4, h5, h6, h7⟩ := id wa
    refine ⟨_, (pss_cons (ps_set (i := 3) scWNu.nd rfl (Or.inl rfl) (pe_call G_num hr1 (by rfl) g_num F_num.kp b_num .nil pass0 (pa_cons (pe_meth0 (pv 0) W.cls W.m_peek G_peek h_peek b_peek .nil pass0) pa_nil)))
    (pss_cons (ps_expr (pe_meth (pv 0) W.cls W.m_check G_check h_check b_check .nil (passes_call (takes_of rfl rfl rfl rfl) (fun _ _ _ _ h => h)) (pa_cons (pe_and (pe_cmpR op_notN (pv 3) pe_non (nomark _)) (pe_and (pe_cmpR op_le (pv 1) (pv 3) (nomark _)) (pe_one (pe_or (pe_cmpR op_isN (pv 2) pe_non (nomark _)) (pe_one (pe_cmpR op_le (pv 3) (pv 2) (nomark _))))))) pa_nil)))
    (pss_cons (ps_expr (pe_meth0 (pv 0) W.cls W.m_step G_step h_step b_step .nil pass0))
    (pss_one (ps_ret (pv 3)))))), ?_⟩
    refine ⟨_, rfl, o, dx, fs, rfl, h1, h6 _ (by decide), o, ws, ln, n, rfl, wa, _, rfl, lw, ?_⟩
    have opt : numO (pk ws n) = none ∨ ∃ k, numO (pk ws n) = some k := by
      cases numO (pk ws n) with
      | none => exact .inl rfl
      | some k => exact .inr ⟨k, rfl⟩
    rcases opt with e | ⟨k, e⟩
    · rw [e]
      have te : TextErr CT H E ln n := by
        rcases h with ⟨k, e2, _⟩ | ⟨_, q⟩
        · rw [e] at e2
          cases e2
        · exact q
      refine ⟨_, rfl, o, dx, fs, rfl, h1, h6 _ (by decide), ?_⟩
      refine ⟨_, rfl, rfl, _, rfl, ?_⟩
      refine iteF ?_
      exact ⟨o, ws, ln, n, false, rfl, wa, .inr ⟨rfl, te⟩⟩
    · rw [e]
      refine ⟨_, rfl, o, dx, fs, rfl, h1, h6 _ (by decide), ?_⟩
      refine ⟨_, rfl, rfl, _, rfl, ?_⟩
      refine iteT ?_
      refine ⟨_, rfl, _, rfl, _, _, rfl, rfl, _, rfl, ?_⟩
      have go : ∀ {σ : L2.St}, σ[0]? = some (some (.ref o)) → σ[3]? = some (some (.int (k : Nat))) → inB a b k = true → tSeq (tDrop (tMeth C "step" (spStep C) [] (fun _ _ _ => False) (tVar 0) tNil)) (tRet (tVar 3)) { nx := fun _ H' => Q V.non H', rt := Q } σ H := fun {σ} s0 s3 ib => by
        rcases h with ⟨k2, e2, _, q⟩ | ⟨q, _⟩
        · rw [e] at e2
          cases e2
          exact ⟨_, s0, o, dx, fs, rfl, h1, h6 _ (by decide), o, ws, ln, n, rfl, wa, fun H' b w => ⟨_, s3, q H' b w⟩⟩
        · rw [q k e] at ib
          cases ib
      have te : inB a b k = false → TextErr CT H E ln n := fun ib => by
        rcases h with ⟨k2, e2, ib2, q⟩ | ⟨_, q⟩
        · rw [e] at e2
          cases e2
          rw [ib] at ib2
          cases ib2
        · exact q
      refine ite2 (fun c1 => ?_) (fun c1 => ?_)
      · have c1 : decide (a ≤ ((k : Nat) : Int)) = true := c1
        cases b with
        | none =>
          refine ⟨_, rfl, rfl, _, rfl, ?_⟩
          refine iteT ?_
          refine ⟨o, ws, ln, n, true, rfl, wa, .inl ⟨rfl, ?_⟩⟩
          exact go rfl rfl (by unfold inB; rw [c1]; rfl)
        | some b =>
          refine ⟨_, rfl, rfl, _, rfl, ?_⟩
          refine iteF ?_
          refine ⟨_, rfl, _, rfl, _, _, rfl, rfl, ?_⟩
          cases c2 : decide (((k : Nat) : Int) ≤ b) with
          | true =>
            refine ⟨o, ws, ln, n, true, congrArg (fun c => [V.ref o, V.bl c]) c2, wa, .inl ⟨rfl, ?_⟩⟩
            exact go rfl rfl (by unfold inB; rw [c1]; exact c2)
          | false =>
            refine ⟨o, ws, ln, n, false, congrArg (fun c => [V.ref o, V.bl c]) c2, wa, .inr ⟨rfl, te ?_⟩⟩
            unfold inB
            rw [c1]
            exact c2
      · have c1 : decide (a ≤ ((k : Nat) : Int)) = false := Bool.eq_false_iff.mpr c1
        refine ⟨o, ws, ln, n, false, rfl, wa, .inr ⟨rfl, te ?_⟩⟩
        unfold inB
        rw [c1]
        rfl
theorem nu_binds {f : Addr} {fd : FuncData} (F : FunD K "take_number" "Words.take_number" (defArgs sWNu) (defBody sWNu) (defScope sWNu) [.non] [] f fd) : Binds K fd ["self", "least", "most"] [] := by
  obtain ⟨ds, hv, hb⟩ := F.binds1 (ps := ["self", "least", "most"]) 3 1 (by simp) rfl fun T kV doc pm an cdv ct us its hu hi => match us, its, hu, hi with | [_, _, _], [_], _, _ => ⟨_, rfl, rfl⟩
  cases hv
  exact hb
end
end K10
end
section
set_option pp.maxSteps 400
set_option pp.deepTerms.threshold 6
/-! Places read from words, and written: what they tell. -/
namespace K10
open PySem PySem.Spec PyProof.Rows L2
/-! ### numbers -/
theorem digits_lt : ∀ (l : List Nat), (l.all fun c => decide (48 ≤ c) && decide (c ≤ 57)) = true → NumText.digitsVal l < 10 ^ l.length := fun l => by
  refine PyProof.Rows.FinIter.snoc_ind (P := fun l => (l.all fun c => decide (48 ≤ c) && decide (c ≤ 57)) = true → NumText.digitsVal l < 10 ^ l.length) ?_ ?_ l
  · intro _
    exact Nat.zero_lt_one
  · intro l c ih h
    rw [List.all_append, Bool.and_eq_true] at h
    have h1 := ih h.1
    have h2 : (decide (48 ≤ c) && decide (c ≤ 57)) = true := by
      have := h.2
      rw [List.all_cons, List.all_nil, Bool.and_true] at this
      exact this
    have h3 := of_decide_eq_true (Bool.and_eq_true_iff.mp h2).2
    rw [NumText.digitsVal_snoc, List.length_append, List.length_singleton, Nat.pow_succ]
    omega
theorem num_top {z : Str} {k : Nat} (h : numO z = some k) : ((k : Nat) : Int) ≤ topN ∧ k = numN z ∧ numB z = true := by
  unfold numO at h
  by_cases c : numB z = true
  · rw [if_pos c] at h
    have ek : numN z = k := Option.some.inj h
    refine ⟨?_, ek.symm, c⟩
    obtain ⟨c1, c2⟩ := Bool.and_eq_true_iff.mp c
    obtain ⟨a1, a2⟩ := ascii_digits c1
    have l := of_decide_eq_true (Bool.and_eq_true_iff.mp c2).1
    have el : z.length = z.cps.toList.length := by simp [Str.length]
    have lt := digits_lt _ a1
    have le : 10 ^ z.cps.toList.length ≤ 10 ^ 60 := Nat.pow_le_pow_right (by decide) (by omega)
    have : k < 10 ^ 60 := by
      rw [← ek]
      exact Nat.lt_of_lt_of_le lt le
    unfold topN
    have e : ((10 : Int) ^ 60) = ((10 ^ 60 : Nat) : Int) := by decide +kernel
    rw [e]
    generalize 10 ^ 60 = M at *
    omega
  · rw [if_neg c] at h
    cases h
theorem num_text {z : Str} (h : numB z = true) : (toString ((numN z : Nat) : Int) : Str) = z := by
  obtain ⟨c1, c2⟩ := Bool.and_eq_true_iff.mp h
  obtain ⟨c3, c4⟩ := Bool.and_eq_true_iff.mp c2
  obtain ⟨a1, a2⟩ := ascii_digits c1
  have el : z.length = z.cps.toList.length := by simp [Str.length]
  refine TL.ext_tl ?_
  show TL.tl (Str.ofString (toString ((numN z : Nat) : Int))) = TL.tl z
  rw [TL.tl_num]
  unfold TL.numL numN
  have al : NumText.AllDigits z.cps.toList := fun c hc => by
    have := List.all_eq_true.mp a1 c hc
    obtain ⟨b1, b2⟩ := Bool.and_eq_true_iff.mp this
    exact ⟨of_decide_eq_true b1, of_decide_eq_true b2⟩
  have hh : ∀ l : List Nat, l = z.cps.toList → Nat.toDigits 10 (NumText.digitsVal l) = l.map Char.ofNat := fun l e => by
    rw [el] at c4
    rw [← e] at al a2 c4
    match l, a2 with
    | c :: r, _ =>
      refine NumText.toDigits_digitsVal r.length (c :: r) rfl al ?_
      cases r with
      | nil => exact .inl rfl
      | cons d r =>
        refine .inr ⟨c, d :: r, rfl, ?_⟩
        have h48 := (al c List.mem_cons_self).1
        have hl : decide (1 < (c :: d :: r).length) = true := decide_eq_true (by simp)
        rw [hl, Bool.and_true] at c4
        have hc : c ≠ 48 := fun e => by
          rw [e, show decide ((48 :: d :: r).head? = some 48) = true from decide_eq_true rfl] at c4
          cases c4
        omega
  rw [hh _ rfl, List.map_map]
  have : ∀ l : List Nat, NumText.AllDigits l → l.map (Char.toNat ∘ Char.ofNat) = l := fun l => by
    induction l with
    | nil => exact fun _ => rfl
    | cons c r ih =>
      intro h
      have hc := h c List.mem_cons_self
      have key : ∀ c : Fin 58, Char.toNat (Char.ofNat c.val) = c.val := by decide +kernel
      rw [List.map_cons, ih fun x hx => h x (List.mem_cons_of_mem _ hx)]
      congr 1
      exact key ⟨c, by omega⟩
  exact this _ al
theorem num_back {k : Nat} (h1 : 1 ≤ k) (h2 : ((k : Nat) : Int) ≤ topN) : numO (toString ((k : Nat) : Int) : Str) = some k ∧ (toString ((k : Nat) : Int) : Str).length ≤ 60 ∧ 32 ∉ TL.tl (toString ((k : Nat) : Int) : Str) ∧ PyData.strOk (toString ((k : Nat) : Int) : Str) = true := by
  have hk : k < 10 ^ 60 := by
    unfold topN at h2
    have e : ((10 : Int) ^ 60) = ((10 ^ 60 : Nat) : Int) := by decide +kernel
    rw [e] at h2
    generalize 10 ^ 60 = M at *
    omega
  have et : TL.tl (toString ((k : Nat) : Int) : Str) = TL.numL k := TL.tl_num k
  have al := TL.numL_digits k
  have ln := TL.numL_len (n := k) (k := 60) (by decide) hk
  have ne := TL.numL_ne k
  have len : (toString ((k : Nat) : Int) : Str).length ≤ 60 := by
    rw [TL.len_tl, et]
    exact ln
  have allc : ∀ c ∈ (toString ((k : Nat) : Int) : Str).cps.toList, 48 ≤ c ∧ c ≤ 57 := fun c hc => by
    have hc : c ∈ TL.numL k := by
      rw [← et]
      exact hc
    exact al c hc
  have asc : Txt.isascii (toString ((k : Nat) : Int) : Str) = true := by
    show (toString ((k : Nat) : Int) : Str).cps.all (· < 128) = true
    rw [← Array.all_toList]
    exact List.all_eq_true.mpr fun c hc => decide_eq_true (by have := allc c hc; omega)
  have dig : Txt.isdigit (toString ((k : Nat) : Int) : Str) = true := by
    unfold Txt.isdigit
    rw [Bool.and_eq_true]
    refine ⟨decide_eq_true ?_, ?_⟩
    · rw [TL.len_tl, et]
      exact List.length_pos_iff.mpr ne
    · rw [← Array.all_toList]
      refine List.all_eq_true.mpr fun c hc => ?_
      obtain ⟨b1, b2⟩ := allc c hc
      rw [digit_codes c (by omega), decide_eq_true b1, decide_eq_true b2]
      rfl
  have nv : numN (toString ((k : Nat) : Int) : Str) = k := by
    unfold numN
    show NumText.digitsVal (TL.tl (toString ((k : Nat) : Int) : Str)) = k
    rw [et]
    exact TL.numL_val k
  have hd : ((toString ((k : Nat) : Int) : Str).cps.toList.head? = some 48) → False := fun e => by
    have e : (TL.numL k).head? = some 48 := by
      rw [← et]
      exact e
    have : ∀ n : Nat, 1 ≤ n → (TL.numL n).head? ≠ some 48 := fun n => by
      induction n using Nat.strongRecOn with
      | ind n ih =>
        intro h1 e
        rcases Nat.lt_or_ge n 10 with c | c
        · rw [TL.numL_lt c] at e
          have := Option.some.inj e
          omega
        · rw [TL.numL_step c, List.head?_append, Option.or_of_isSome] at e
          · exact ih (n / 10) (by omega) (by omega) e
          · cases hq : TL.numL (n / 10) with
            | nil => exact absurd hq (TL.numL_ne _)
            | cons a r => rfl
    exact this k h1 e
  refine ⟨?_, len, ?_, ?_⟩
  · unfold numO
    rw [if_pos, nv]
    unfold numB
    rw [asc, dig, decide_eq_true len, decide_eq_false hd]
    rfl
  · rw [et]
    exact TL.numL_free (.inl (by decide))
  · show (toString ((k : Nat) : Int) : Str).cps.all (· < 0x110000) = true
    rw [← Array.all_toList]
    exact List.all_eq_true.mpr fun c hc => decide_eq_true (by have := allc c hc; omega)
end K10
end
section
/-! Own: the text of a quota tells its tree. -/
namespace K10
open PySem PySem.Spec PyProof.Rows L2
def QT.words : QT → List Str
  | .cap m ks => capWords m ks
  | .both a b => ("both" : Str) :: (a.words ++ b.words)
  | .either a b => ("either" : Str) :: (a.words ++ b.words)
theorem words_ne : ∀ t : QT, t.words ≠ []
  | .cap m ks => by simp [QT.words, capWords]
  | .both a b => by simp [QT.words]
  | .either a b => by simp [QT.words]
theorem joinL_cons (S : List Nat) (p : List Nat) : ∀ (r : List (List Nat)), r ≠ [] → TL.joinL S (p :: r) = p ++ (S ++ TL.joinL S r)
  | [], h => absurd rfl h
  | q :: r, _ => rfl
theorem joinL_app (S : List Nat) : ∀ (xs ys : List (List Nat)), xs ≠ [] → ys ≠ [] → TL.joinL S (xs ++ ys) = TL.joinL S xs ++ (S ++ TL.joinL S ys)
  | [], _, h, _ => absurd rfl h
  | [p], ys, _, h => joinL_cons S p ys h
  | p :: q :: r, ys, _, h => by
    have ih := joinL_app S (q :: r) ys (by simp) h
    show TL.joinL S (p :: (q :: r ++ ys)) = _
    rw [joinL_cons S p (q :: r ++ ys) (by simp), ih, joinL_cons S p (q :: r) (by simp), List.append_assoc, List.append_assoc]
theorem str_of_tl {x y : Str} (h : TL.tl x = TL.tl y) : x = y := by
  have := TL.map_tl_inj (l := [x]) (m := [y]) (by rw [List.map_cons, List.map_cons, h, List.map_nil])
  exact (List.cons.inj this).1
theorem join_app {xs ys : List Str} (nx : xs ≠ []) (ny : ys ≠ []) : Txt.join " " (xs ++ ys) = Txt.join " " xs ++ " " ++ Txt.join " " ys := by
  refine str_of_tl ?_
  have ap : ∀ x y : Str, TL.tl (x ++ y) = TL.tl x ++ TL.tl y := TL.tl_append
  rw [join_tl, List.map_append, joinL_app _ _ _ (by simpa using nx) (by simpa using ny), ap, ap, join_tl, join_tl, sp_tl, List.append_assoc]
theorem text_words : ∀ t : QT, t.text = Txt.join " " t.words
  | .cap m ks => rfl
  | .both a b => by
    have ha := text_words a
    have hb := text_words b
    show ("both " ++ a.text ++ " " ++ b.text : Str) = Txt.join " " ([("both" : Str)] ++ (a.words ++ b.words))
    rw [join_app (by simp) (by simp [words_ne a]), join_app (words_ne a) (words_ne b), ← ha, ← hb]
    have e : ("both " : Str) = Txt.join " " [("both" : Str)] ++ " " := by decide +kernel
    have as_ : ∀ x y z : Str, x ++ y ++ z = x ++ (y ++ z) := fun x y z => str_of_tl (by
      have ap : ∀ x y : Str, TL.tl (x ++ y) = TL.tl x ++ TL.tl y := TL.tl_append
      rw [ap, ap, ap, ap, List.append_assoc])
    rw [e]
    simp only [as_]
  | .either a b => by
    have ha := text_words a
    have hb := text_words b
    show ("either " ++ a.text ++ " " ++ b.text : Str) = Txt.join " " ([("either" : Str)] ++ (a.words ++ b.words))
    rw [join_app (by simp) (by simp [words_ne a]), join_app (words_ne a) (words_ne b), ← ha, ← hb]
    have e : ("either " : Str) = Txt.join " " [("either" : Str)] ++ " " := by decide +kernel
    have as_ : ∀ x y z : Str, x ++ y ++ z = x ++ (y ++ z) := fun x y z => str_of_tl (by
      have ap : ∀ x y : Str, TL.tl (x ++ y) = TL.tl x ++ TL.tl y := TL.tl_append
      rw [ap, ap, ap, ap, List.append_assoc])
    rw [e]
    simp only [as_]
def CapOk (c : Int × List Str) : Prop := 0 ≤ c.1 ∧ c.1 ≤ 12 ∧ c.2.length ≤ 12 ∧ ∀ z ∈ c.2, nameB z = true
theorem heads_ne : ("cap" : Str) ≠ "both" ∧ ("cap" : Str) ≠ "either" ∧ ("both" : Str) ≠ "either" := by decide +kernel
theorem most_same {m k : Int} (m0 : 0 ≤ m) (m1 : m ≤ 12) (k0 : 0 ≤ k) (k1 : k ≤ 12) (h : (toString m : Str) = (toString k : Str)) : m = k := by
  have q := most_inj ⟨m.toNat, by omega⟩ ⟨k.toNat, by omega⟩ (by
    show (toString ((m.toNat : Nat) : Int) : Str) = (toString ((k.toNat : Nat) : Int) : Str)
    rw [Int.toNat_of_nonneg m0, Int.toNat_of_nonneg k0]
    exact h)
  have := Fin.mk.inj q
  omega
/-- the words of a tree are a prefix code -/
theorem words_code : ∀ (t u : QT) (r s : List Str), (∀ c ∈ t.caps, CapOk c) → (∀ c ∈ u.caps, CapOk c) → t.words ++ r = u.words ++ s → t = u ∧ r = s
  | .cap m ks, .cap k ls, r, s, gt, gu, h => by
    obtain ⟨a0, a1, al, _⟩ := gt (m, ks) (List.mem_singleton.mpr rfl)
    obtain ⟨b0, b1, bl, _⟩ := gu (k, ls) (List.mem_singleton.mpr rfl)
    have al : ks.length ≤ 12 := al
    have bl : ls.length ≤ 12 := bl
    have h : ("cap" : Str) :: (toString m : Str) :: (toString (ks.length : Int) : Str) :: (ks ++ r) = ("cap" : Str) :: (toString k : Str) :: (toString (ls.length : Int) : Str) :: (ls ++ s) := h
    have h2 := (List.cons.inj h).2
    have em := most_same a0 a1 b0 b1 (List.cons.inj h2).1
    have h3 := (List.cons.inj h2).2
    have el := most_same (by omega) (by omega) (by omega) (by omega) (List.cons.inj h3).1
    have h4 := List.append_inj (List.cons.inj h3).2 (by omega)
    exact ⟨by rw [show m = k from em, h4.1], h4.2⟩
  | .cap m ks, .both a b, r, s, gt, gu, h => absurd (List.cons.inj h).1 heads_ne.1
  | .cap m ks, .either a b, r, s, gt, gu, h => absurd (List.cons.inj h).1 heads_ne.2.1
  | .both a b, .cap k ls, r, s, gt, gu, h => absurd (List.cons.inj h).1.symm heads_ne.1
  | .either a b, .cap k ls, r, s, gt, gu, h => absurd (List.cons.inj h).1.symm heads_ne.2.1
  | .both a b, .either c d, r, s, gt, gu, h => absurd (List.cons.inj h).1 heads_ne.2.2
  | .either a b, .both c d, r, s, gt, gu, h => absurd (List.cons.inj h).1.symm heads_ne.2.2
  | .both a b, .both c d, r, s, gt, gu, h => by
    have h2 : a.words ++ b.words ++ r = c.words ++ d.words ++ s := (List.cons.inj h).2
    rw [List.append_assoc, List.append_assoc] at h2
    obtain ⟨e1, h3⟩ := words_code a c _ _ (fun x hx => gt x (List.mem_append_left _ hx)) (fun x hx => gu x (List.mem_append_left _ hx)) h2
    obtain ⟨e2, h4⟩ := words_code b d _ _ (fun x hx => gt x (List.mem_append_right _ hx)) (fun x hx => gu x (List.mem_append_right _ hx)) h3
    exact ⟨by rw [e1, e2], h4⟩
  | .either a b, .either c d, r, s, gt, gu, h => by
    have h2 : a.words ++ b.words ++ r = c.words ++ d.words ++ s := (List.cons.inj h).2
    rw [List.append_assoc, List.append_assoc] at h2
    obtain ⟨e1, h3⟩ := words_code a c _ _ (fun x hx => gt x (List.mem_append_left _ hx)) (fun x hx => gu x (List.mem_append_left _ hx)) h2
    obtain ⟨e2, h4⟩ := words_code b d _ _ (fun x hx => gt x (List.mem_append_right _ hx)) (fun x hx => gu x (List.mem_append_right _ hx)) h3
    exact ⟨by rw [e1, e2], h4⟩
theorem heads_sp : 32 ∉ TL.tl ("both" : Str) ∧ 32 ∉ TL.tl ("either" : Str) := by decide +kernel
theorem words_sp : ∀ t : QT, (∀ c ∈ t.caps, CapOk c) → ∀ x ∈ t.words, 32 ∉ TL.tl x
  | .cap m ks, g => by
    obtain ⟨a0, a1, al, an⟩ := g (m, ks) (List.mem_singleton.mpr rfl)
    exact cap_words a0 a1 al an
  | .both a b, g => fun x hx => by
    rcases List.mem_cons.mp hx with rfl | hx
    · exact heads_sp.1
    · exact (List.mem_append.mp hx).elim (words_sp a (fun c hc => g c (List.mem_append_left _ hc)) x) (words_sp b (fun c hc => g c (List.mem_append_right _ hc)) x)
  | .either a b, g => fun x hx => by
    rcases List.mem_cons.mp hx with rfl | hx
    · exact heads_sp.2
    · exact (List.mem_append.mp hx).elim (words_sp a (fun c hc => g c (List.mem_append_left _ hc)) x) (words_sp b (fun c hc => g c (List.mem_append_right _ hc)) x)
theorem text_inj {t u : QT} (gt : ∀ c ∈ t.caps, CapOk c) (gu : ∀ c ∈ u.caps, CapOk c) (h : t.text = u.text) : t = u := by
  rw [text_words, text_words] at h
  have e := join_inj (words_ne t) (words_ne u) (words_sp t gt) (words_sp u gu) h
  exact (words_code t u [] [] gt gu (by rw [List.append_nil, List.append_nil, e])).1
end K10
end
section
set_option pp.maxSteps 400
set_option pp.deepTerms.threshold 6
/-! Words made, and what their methods do. -/
namespace K10
open PySem PySem.Spec PyProof.Rows L2
abbrev sWInit : Stmt := mth 16 0
def spWI (K : PySem.W.Frag) (C CT : Addr) : Sp := fun vs H Q E => ∃ (o dx : Addr) (v : V) (ln : Nat), vs = [.ref o, v, .int (ln : Nat)] ∧ H o = some (.ins C dx []) ∧ ((∃ z : Str, v = .str z ∧ z.length + 2 ≤ sizeLine ∧ ∀ H', But o H H' → WAt C H' o (Txt.split z " ") ln 0 → Q .non H') ∨ (NoStr K H v ∧ TextErr CT H E 0 0))
section
variable {P : Program} {w : World} {K : PySem.W.Frag} {mg : Str → Option Value} {base : Heap} {C CT fMo fPk fCk fSt fTw fTn fEn : Addr}
abbrev nWI : List Str := ["self", "text", "line"]
theorem scWI : FnScope nWI ["self", "text", "line"] (defScope sWInit) := ⟨rfl, rfl, rfl, by decide +kernel, rfl, by decide +kernel, by decide +kernel⟩
theorem ok_WI {f fK : Addr} {fd fdK : FuncData} (W : WC K C fMo fPk fCk fSt fTw fTn fEn) (F : FunD K "__init__" "Words.__init__" (defArgs sWInit) (defBody sWInit) (defScope sWInit) [.int 0] [] f fd) (TK : ErrT K mg "BadText" CT fK) (hl : PySem.W.findIn K (.ref CT) "line" = some none) (hw : PySem.W.findIn K (.ref CT) "word" = some none) (FK : Fun K "__init__" "BadText.__init__" sBadText0 fK fdK) (N2 : Nm2 mg) : FnOk P w K mg base (L2.CX P w) 3 f fd ["self", "text", "line"] (spWI K C CT) := by
  have n_isinstance := N2.n_isinstance
  have n_str := N2.n_str
  have GK : FnOk P w K mg base CX0 1 fK fdK ["self", "line", "word"] (OwE.spErr2 K "line" "word") := ok_badtext FK
  have bK : Binds K fdK ["self", "line", "word"] [] := FK.binds fun _ _ _ _ _ _ us hl => match us, hl with | [_, _, _], _ => rfl
  refine F.ok (CX := L2.CX P w) scWI (fun vs H Q E h => ?_) (fun cdv A outer s H vs Q E hr h => ?_)
  · obtain ⟨o, dx, v, ln, rfl, _⟩ := h
    rfl
  · obtain ⟨o, dx, v, ln, rfl, ho, h⟩ := h
    have hr2 : Room 2 _ := hr
    refine ⟨_, (pss_cons (ps_if (pt_not (pt_val (pe_callB call_isi (by rfl) n_isinstance (by decide +kernel) (pa_cons (pv 1) (pa_cons (pe_bltn (v := .ty "str") (by rfl) n_str (by decide +kernel) rfl) pa_nil))))) (pss_one (ps_raise rfl (takes_of rfl rfl rfl rfl) (pmk_oex TK.er.ox TK.ini TK.ty GK hr2 bK .nil pass0 (by rfl) TK.g (pa_cons pe_int (pa_cons pe_int pa_nil))))) pss_nil)
    (pss_cons (ps_fld (pv 0) (pe_split (pv 1) pe_str) rfl)
    (pss_cons (ps_fld (pv 0) (pv 2) rfl)
    (pss_one (ps_fld (pv 0) pe_int rfl))))), ?_⟩
    rcases h with ⟨z, rfl, lz, q⟩ | ⟨⟨t, ty, kt⟩, q⟩
    · refine ⟨_, rfl, .str z, .ty "str", _, _, true, rfl, .ty _, .base (.str z), kit_ty (by decide +kernel), true, rfl, ?_⟩
      refine iteF ?_
      refine ⟨_, rfl, ⟨_, rfl⟩, z, " ", rfl, rfl, by decide +kernel, lz, fun l hl0 => ?_⟩
      have no : l ≠ o := fun e => by
        rw [e, ho] at hl0
        cases hl0
      have u1 := Same.of_new (o := .lst ((Txt.split z " ").map V.str)) hl0
      refine ⟨_, rfl, o, C, dx, [], rfl, u1 _ _ ho, W.cls, W.nW, by show (0 : Nat) < 1000; decide, ?_⟩
      refine ⟨_, rfl, _, rfl, o, C, dx, _, rfl, upd_same, W.cls, W.nL, by show (1 : Nat) < 1000; decide, ?_⟩
      refine ⟨_, rfl, o, C, dx, _, rfl, upd_same, W.cls, W.nA, by show (2 : Nat) < 1000; decide, ?_⟩
      refine q _ (fun b u nb e => ?_) ⟨dx, _, l, upd_same, rfl, rfl, rfl, ?_, fun m hm => ?_, by show (3 : Nat) ≤ 900; decide⟩
      · rw [upd_ne nb, upd_ne nb, upd_ne nb]
        exact u1 _ _ e
      · rw [upd_ne no, upd_ne no, upd_ne no]
        exact upd_same
      · have k : ∀ m ∈ wNames, m ≠ "_at" ∧ m ≠ "_line" ∧ m ≠ "_words" := by decide +kernel
        obtain ⟨k1, k2, k3⟩ := k m hm
        rw [lookup_putF, if_neg k1, lookup_putF, if_neg k2, lookup_putF, if_neg k3]
        rfl
    · refine ⟨_, rfl, v, .ty "str", _, _, false, rfl, .ty _, ty, kt, false, rfl, ?_⟩
      refine iteT ?_
      exact OwE.mk_err2 TK.er.ox hl hw fun d hd => q d hd
/-- what the methods of words do -/
structure WF (P : Program) (w : World) (K : PySem.W.Frag) (mg : Str → Option Value) (base : Heap) (C CT fMo fPk fCk fSt fTw fTn fEn : Addr) : Prop where
  W : WC K C fMo fPk fCk fSt fTw fTn fEn
  g_more : ∃ fd, FnOk P w K mg base CX0 1 fMo fd ["self"] (spMore C) ∧ Binds K fd ["self"] []
  g_peek : ∃ fd, FnOk P w K mg base CX0 2 fPk fd ["self"] (spPeek C) ∧ Binds K fd ["self"] []
  g_step : ∃ fd, FnOk P w K mg base CX0 3 fSt fd ["self"] (spStep C) ∧ Binds K fd ["self"] []
  g_tw : ∃ fd, FnOk P w K mg base (L2.CX P w) 4 fTw fd ["self", "choices"] (spTw K C CT) ∧ Binds K fd ["self", "choices"] []
  g_tn : ∃ fd ds, FnOk P w K mg base (L2.CX P w) 4 fTn fd ["self", "above"] (spTn C CT) ∧ Binds K fd ["self", "above"] ds ∧ Vals [.str ""] ds ∧ Binds K fd ["self", "above"] []
  g_en : ∃ fd, FnOk P w K mg base (L2.CX P w) 4 fEn fd ["self"] (spEnd C CT) ∧ Binds K fd ["self"] []
theorem tn2_binds {fd : FuncData} (F : FunD K "take_name" "Words.take_name" (defArgs sWTn) (defBody sWTn) (defScope sWTn) [.str ""] [] fTn fd) : Binds K fd ["self", "above"] [] := by
  obtain ⟨ds, hv, hb⟩ := F.binds1 (ps := ["self", "above"]) 2 1 (by simp) rfl fun T kV doc pm an cdv ct us its hu hi => match us, its, hu, hi with | [_, _], [_], _, _ => ⟨_, rfl, rfl⟩
  cases hv
  exact hb
theorem tn_binds {fd : FuncData} (F : FunD K "take_name" "Words.take_name" (defArgs sWTn) (defBody sWTn) (defScope sWTn) [.str ""] [] fTn fd) : ∃ ds, Vals [.str ""] ds ∧ Binds K fd ["self", "above"] ds :=
  F.binds1 (ps := ["self", "above"]) 1 0 (by simp) rfl fun T kV doc pm an cdv ct us its hu hi => match us, its, hu, hi with | [_], [_], _, _ => ⟨_, rfl, rfl⟩
def ErrB (CT o : Addr) (H : Hp) (E : XK) (ln n : Nat) : Prop := ∀ H' d, But o H H' → H' d = none → E (.ref CT) (some d) (upd H' d (.xd [("word", .int (n : Nat)), ("line", .int (ln : Nat))]))
end
end K10
end
section
set_option pp.maxSteps 800
set_option pp.deepTerms.threshold 8
/-! Quotas read from words: what is read. -/
namespace K10
open PySem PySem.Spec PyProof.Rows L2
inductive QStep where
  | cap (m : Int) (ks : List Str)
  | both
  | either
def kindsRead (ws : List Str) : Nat → Str → Nat → Except Nat (List Str × Nat)
  | 0, _, n => .ok ([], n)
  | k + 1, last, n => if (nameB (pk ws n) && ltS last (pk ws n)) = true then (match kindsRead ws k (pk ws n) (n + 1) with
    | .ok r => .ok (pk ws n :: r.1, r.2)
    | .error e => .error e) else .error n
def capRead (ws : List Str) (n : Nat) : Except Nat ((Int × List Str) × Nat) := match numO (pk ws n) with
  | none => .error n
  | some m => if m ≤ 12 then (match numO (pk ws (n + 1)) with
    | none => .error (n + 1)
    | some k => (match kindsRead ws k "" (n + 2) with
      | .ok r => .ok ((((m : Nat) : Int), r.1), r.2)
      | .error e => .error e)) else .error n
def stepsRead (ws : List Str) : Nat → Nat → Nat → Except Nat (List QStep × Nat)
  | _, 0, n => .ok ([], n)
  | 0, _ + 1, n => .error n
  | f + 1, w + 1, n => if pk ws n = "cap" then (match capRead ws (n + 1) with
      | .ok c => (match stepsRead ws f w c.2 with
        | .ok r => .ok (.cap c.1.1 c.1.2 :: r.1, r.2)
        | .error e => .error e)
      | .error e => .error e)
    else if pk ws n = "both" then (match stepsRead ws f (w + 2) (n + 1) with
      | .ok r => .ok (.both :: r.1, r.2)
      | .error e => .error e)
    else if pk ws n = "either" then (match stepsRead ws f (w + 2) (n + 1) with
      | .ok r => .ok (.either :: r.1, r.2)
      | .error e => .error e)
    else .error n
def quotaRead (ws : List Str) : Except Nat (List QStep) := match stepsRead ws (ws.length + 1) 1 0 with
  | .ok r => if r.2 < ws.length then .error r.2 else .ok r.1
  | .error e => .error e
/-! ### trees of steps -/
def joinO (mk : QT → QT → QT) : Option (List QT) → Option (List QT)
  | some (a :: b :: ts) => some (mk a b :: ts)
  | _ => none
def forestO : List QStep → Option (List QT)
  | [] => some []
  | .cap m ks :: r => (forestO r).map (QT.cap m ks :: ·)
  | .both :: r => joinO QT.both (forestO r)
  | .either :: r => joinO QT.either (forestO r)
/-- ascending names behind one -/
def UpN : Str → List Str → Prop
  | _, [] => True
  | last, x :: r => ltS last x = true ∧ nameB x = true ∧ UpN x r
def GoodU (c : Int × List Str) : Prop := 0 ≤ c.1 ∧ c.1 ≤ 12 ∧ UpN "" c.2
theorem name_in {ws : List Str} {n : Nat} (h : nameB (pk ws n) = true) : n < ws.length := by
  rcases Nat.lt_or_ge n ws.length with c | c
  · exact c
  · have e : pk ws n = "" := by
      unfold pk
      rw [List.getD_eq_getElem?_getD, List.getElem?_eq_none c]
      rfl
    rw [e, show nameB ("" : Str) = false by decide +kernel] at h
    cases h
theorem num_in {ws : List Str} {n k : Nat} (h : numO (pk ws n) = some k) : n < ws.length := by
  rcases Nat.lt_or_ge n ws.length with c | c
  · exact c
  · have e : pk ws n = "" := by
      unfold pk
      rw [List.getD_eq_getElem?_getD, List.getElem?_eq_none c]
      rfl
    rw [e, show numO ("" : Str) = none by decide +kernel] at h
    cases h
theorem word_in {ws : List Str} {n : Nat} {z : Str} (h : pk ws n = z) (nz : z ≠ "") : n < ws.length := by
  rcases Nat.lt_or_ge n ws.length with c | c
  · exact c
  · refine absurd ?_ nz
    rw [← h]
    unfold pk
    rw [List.getD_eq_getElem?_getD, List.getElem?_eq_none c]
    rfl
theorem drop_pk {ws : List Str} {n : Nat} (h : n < ws.length) : ws.drop n = pk ws n :: ws.drop (n + 1) := by
  rw [List.drop_eq_getElem_cons h]
  unfold pk
  rw [List.getD_eq_getElem?_getD, List.getElem?_eq_getElem h]
  rfl
theorem pk_of {ws : List Str} {n : Nat} {x : Str} {r : List Str} (h : ws.drop n = x :: r) : n < ws.length ∧ pk ws n = x ∧ ws.drop (n + 1) = r := by
  have hn : n < ws.length := by
    have := congrArg List.length h
    rw [List.length_drop, List.length_cons] at this
    omega
  rw [drop_pk hn] at h
  obtain ⟨a, b⟩ := List.cons.inj h
  exact ⟨hn, a, b⟩
theorem kinds_ok {ws : List Str} : ∀ {k : Nat} {last : Str} {n : Nat} {r : List Str × Nat}, kindsRead ws k last n = .ok r → r.1.length = k ∧ r.2 = n + k ∧ ws.drop n = r.1 ++ ws.drop r.2 ∧ UpN last r.1 ∧ (n ≤ ws.length → r.2 ≤ ws.length)
  | 0, last, n, r, h => by
    cases h
    exact ⟨rfl, rfl, rfl, True.intro, id⟩
  | k + 1, last, n, r, h => by
    unfold kindsRead at h
    split at h
    · rename_i c
      obtain ⟨c1, c2⟩ := Bool.and_eq_true_iff.mp c
      split at h
      · rename_i e
        cases h
        obtain ⟨a1, a2, a3, a4, a5⟩ := kinds_ok e
        have hn := name_in c1
        refine ⟨by rw [List.length_cons, a1], by show _ = _; rw [a2]; omega, ?_, ⟨c2, c1, a4⟩, fun _ => a5 hn⟩
        rw [drop_pk hn, a3]
        rfl
      · cases h
    · cases h
theorem kinds_of {ws : List Str} : ∀ {ks : List Str} {last : Str} {n : Nat} {rest : List Str}, UpN last ks → ws.drop n = ks ++ rest → kindsRead ws ks.length last n = .ok (ks, n + ks.length)
  | [], last, n, rest, _, h => rfl
  | x :: r, last, n, rest, ⟨a, b, u⟩, h => by
    obtain ⟨hn, e, h2⟩ := pk_of (r := r ++ rest) h
    have i := kinds_of (n := n + 1) (rest := rest) u h2
    show kindsRead ws (r.length + 1) last n = _
    unfold kindsRead
    rw [e, if_pos (by rw [a, b]; rfl), i]
    show Except.ok (x :: r, n + 1 + r.length) = Except.ok (x :: r, n + (r.length + 1))
    rw [show n + 1 + r.length = n + (r.length + 1) by omega]
theorem cap_ok {ws : List Str} {n : Nat} {c : (Int × List Str) × Nat} (h : capRead ws n = .ok c) : GoodU c.1 ∧ c.2 = n + 2 + c.1.2.length ∧ ws.drop n = (toString c.1.1 : Str) :: (toString ((c.1.2.length : Nat) : Int) : Str) :: (c.1.2 ++ ws.drop c.2) ∧ c.2 ≤ ws.length := by
  unfold capRead at h
  split at h
  · cases h
  · rename_i m em
    split at h
    · rename_i m12
      split at h
      · cases h
      · rename_i k ek
        split at h
        · rename_i r er
          cases h
          obtain ⟨a1, a2, a3, a4, a5⟩ := kinds_ok er
          obtain ⟨_, m2, m3⟩ := num_top em
          obtain ⟨_, k2, k3⟩ := num_top ek
          have n1 := num_in em
          have n2 := num_in ek
          refine ⟨⟨by show (0 : Int) ≤ ((m : Nat) : Int); omega, by show ((m : Nat) : Int) ≤ 12; omega, a4⟩, by show _ = n + 2 + r.1.length; rw [a2, a1], ?_, a5 n2⟩
          show ws.drop n = (toString ((m : Nat) : Int) : Str) :: (toString ((r.1.length : Nat) : Int) : Str) :: (r.1 ++ ws.drop r.2)
          rw [a1, m2, num_text m3, k2, num_text k3, drop_pk n1, drop_pk n2, ← a3]
        · cases h
    · cases h
theorem zero_num : numO (toString ((0 : Nat) : Int) : Str) = some 0 := by decide +kernel
theorem num_of {k : Nat} (h : ((k : Nat) : Int) ≤ topN) : numO (toString ((k : Nat) : Int) : Str) = some k := by
  rcases Nat.eq_zero_or_pos k with rfl | p
  · exact zero_num
  · exact (num_back p h).1
theorem cap_of {ws rest : List Str} {n : Nat} {c : Int × List Str} (g : GoodU c) (l : c.2.length ≤ 1000) (h : ws.drop n = (toString c.1 : Str) :: (toString ((c.2.length : Nat) : Int) : Str) :: (c.2 ++ rest)) : capRead ws n = .ok (c, n + 2 + c.2.length) := by
  obtain ⟨m, ks⟩ := c
  obtain ⟨g1, g2, g3⟩ := g
  have g1 : 0 ≤ m := g1
  have g2 : m ≤ 12 := g2
  obtain ⟨k, rfl⟩ := Int.eq_ofNat_of_zero_le g1
  obtain ⟨n1, e1, h2⟩ := pk_of h
  obtain ⟨n2, e2, h3⟩ := pk_of h2
  have t12 : (1000 : Int) ≤ topN := by decide +kernel
  have i := kinds_of (n := n + 2) (rest := rest) g3 h3
  have l : ks.length ≤ 1000 := l
  unfold capRead
  rw [e1]
  show (match numO (toString ((k : Nat) : Int) : Str) with | none => _ | some m => _) = _
  rw [num_of (by omega)]
  dsimp only
  rw [if_pos (by omega), e2]
  show (match numO (toString ((ks.length : Nat) : Int) : Str) with | none => _ | some m => _) = _
  rw [num_of (by omega)]
  dsimp only
  rw [i]
def QT.steps : QT → List QStep
  | .cap m ks => [.cap m ks]
  | .both a b => .both :: (a.steps ++ b.steps)
  | .either a b => .either :: (a.steps ++ b.steps)
theorem ends_ne : ("cap" : Str) ≠ "" ∧ ("both" : Str) ≠ "" ∧ ("either" : Str) ≠ "" := by decide +kernel
theorem steps_ok {ws : List Str} : ∀ {f w n : Nat} {r : List QStep × Nat}, stepsRead ws f w n = .ok r → ∃ ts : List QT, ts.length = w ∧ forestO r.1 = some ts ∧ ws.drop n = ts.flatMap QT.words ++ ws.drop r.2 ∧ (∀ t ∈ ts, ∀ c ∈ t.caps, GoodU c) ∧ (n ≤ ws.length → r.2 ≤ ws.length)
  | f, 0, n, r, h => by
    unfold stepsRead at h
    cases h
    exact ⟨[], rfl, rfl, rfl, fun t h => (by cases h), id⟩
  | 0, w + 1, n, r, h => by
    cases h
  | f + 1, w + 1, n, r, h => by
    unfold stepsRead at h
    split at h
    · rename_i c1
      split at h
      · rename_i c ec
        split at h
        · rename_i r2 er
          cases h
          obtain ⟨ts, a1, a2, a3, a4, a5⟩ := steps_ok er
          obtain ⟨b1, b2, b3, b4⟩ := cap_ok ec
          have hn := word_in c1 ends_ne.1
          refine ⟨QT.cap c.1.1 c.1.2 :: ts, by rw [List.length_cons, a1], by show (forestO r2.1).map _ = _; rw [a2]; rfl, ?_, fun t ht => ?_, fun _ => a5 b4⟩
          · rw [drop_pk hn, c1, b3, a3, List.flatMap_cons]
            show _ = ("cap" : Str) :: (toString c.1.1 : Str) :: (toString ((c.1.2.length : Nat) : Int) : Str) :: (c.1.2 ++ ts.flatMap QT.words ++ ws.drop r2.2)
            rw [List.append_assoc]
          · rcases List.mem_cons.mp ht with rfl | ht
            · intro x hx
              rw [List.mem_singleton.mp hx]
              exact b1
            · exact a4 t ht
        · cases h
      · cases h
    · split at h
      · rename_i c1
        split at h
        · rename_i r2 er
          cases h
          obtain ⟨ts, a1, a2, a3, a4, a5⟩ := steps_ok er
          have hn := word_in c1 ends_ne.2.1
          match ts, a1, a2, a3, a4 with
          | a :: b :: ts, a1, a2, a3, a4 =>
            refine ⟨QT.both a b :: ts, by rw [List.length_cons, List.length_cons] at a1; rw [List.length_cons]; omega, by show joinO QT.both (forestO r2.1) = _; rw [a2]; rfl, ?_, fun t ht => ?_, fun _ => a5 hn⟩
            · rw [drop_pk hn, c1, a3, List.flatMap_cons, List.flatMap_cons, List.flatMap_cons]
              show _ = ("both" : Str) :: (a.words ++ b.words ++ ts.flatMap QT.words ++ ws.drop r2.2)
              simp only [List.append_assoc]
            · rcases List.mem_cons.mp ht with rfl | ht
              · intro x hx
                rcases List.mem_append.mp hx with hx | hx
                · exact a4 a (by simp) x hx
                · exact a4 b (by simp) x hx
              · exact a4 t (by simp [ht])
        · cases h
      · split at h
        · rename_i c1
          split at h
          · rename_i r2 er
            cases h
            obtain ⟨ts, a1, a2, a3, a4, a5⟩ := steps_ok er
            have hn := word_in c1 ends_ne.2.2
            match ts, a1, a2, a3, a4 with
            | a :: b :: ts, a1, a2, a3, a4 =>
              refine ⟨QT.either a b :: ts, by rw [List.length_cons, List.length_cons] at a1; rw [List.length_cons]; omega, by show joinO QT.either (forestO r2.1) = _; rw [a2]; rfl, ?_, fun t ht => ?_, fun _ => a5 hn⟩
              · rw [drop_pk hn, c1, a3, List.flatMap_cons, List.flatMap_cons, List.flatMap_cons]
                show _ = ("either" : Str) :: (a.words ++ b.words ++ ts.flatMap QT.words ++ ws.drop r2.2)
                simp only [List.append_assoc]
              · rcases List.mem_cons.mp ht with rfl | ht
                · intro x hx
                  rcases List.mem_append.mp hx with hx | hx
                  · exact a4 a (by simp) x hx
                  · exact a4 b (by simp) x hx
                · exact a4 t (by simp [ht])
          · cases h
        · cases h
/-- a text that was read tells its tree -/
theorem read_tree {ws : List Str} {s : List QStep} (h : quotaRead ws = .ok s) : ∃ t : QT, forestO s = some [t] ∧ ws = t.words ∧ ∀ c ∈ t.caps, GoodU c := by
  unfold quotaRead at h
  split at h
  · rename_i r er
    split at h
    · cases h
    · rename_i c
      cases h
      obtain ⟨ts, a1, a2, a3, a4, a5⟩ := steps_ok er
      match ts, a1, a2, a3, a4 with
      | [t], _, a2, a3, a4 =>
        refine ⟨t, a2, ?_, a4 t (by simp)⟩
        rw [List.drop_zero, List.drop_of_length_le (by omega)] at a3
        simpa using a3
  · cases h
theorem forest_app : ∀ (t : QT) (r : List QStep) (ts : List QT), forestO r = some ts → forestO (t.steps ++ r) = some (t :: ts)
  | .cap m ks, r, ts, h => by
    show (forestO r).map _ = _
    rw [h]
    rfl
  | .both a b, r, ts, h => by
    have i := forest_app a (b.steps ++ r) (b :: ts) (forest_app b r ts h)
    show joinO QT.both (forestO (a.steps ++ b.steps ++ r)) = _
    rw [List.append_assoc, i]
    rfl
  | .either a b, r, ts, h => by
    have i := forest_app a (b.steps ++ r) (b :: ts) (forest_app b r ts h)
    show joinO QT.either (forestO (a.steps ++ b.steps ++ r)) = _
    rw [List.append_assoc, i]
    rfl
theorem steps_of {ws : List Str} : ∀ (f : Nat) (ts : List QT) (n : Nat) (rest : List Str), (∀ t ∈ ts, ∀ c ∈ t.caps, GoodU c ∧ c.2.length ≤ 1000) → ws.drop n = ts.flatMap QT.words ++ rest → (ts.flatMap QT.words).length ≤ f → stepsRead ws f ts.length n = .ok (ts.flatMap QT.steps, n + (ts.flatMap QT.words).length)
  | f, [], n, rest, _, h, _ => by
    show stepsRead ws f 0 n = _
    unfold stepsRead
    rfl
  | 0, t :: ts, n, rest, _, h, hf => by
    have := words_ne t
    rw [List.flatMap_cons, List.length_append] at hf
    have : 0 < t.words.length := List.length_pos_iff.mpr this
    omega
  | f + 1, .cap m ks :: ts, n, rest, g, h, hf => by
    have h1 : ws.drop n = ("cap" : Str) :: ((toString m : Str) :: (toString ((ks.length : Nat) : Int) : Str) :: (ks ++ (ts.flatMap QT.words ++ rest))) := by
      rw [h, List.flatMap_cons, List.append_assoc]
      rfl
    obtain ⟨n1, e1, h2⟩ := pk_of h1
    have gc := g (.cap m ks) (by simp) (m, ks) (by simp [QT.caps])
    have ec := cap_of (c := (m, ks)) gc.1 gc.2 h2
    have hd : ws.drop (n + 1 + 2 + ks.length) = ts.flatMap QT.words ++ rest := by
      have : ws.drop (n + 1 + 2 + ks.length) = ((ws.drop (n + 1)).drop 2).drop ks.length := by rw [List.drop_drop, List.drop_drop]; congr 1; omega
      rw [this, h2]
      show (ks ++ (ts.flatMap QT.words ++ rest)).drop ks.length = _
      rw [List.drop_append_of_le_length (Nat.le_refl _), List.drop_length]
      rfl
    have lw : ((QT.cap m ks :: ts).flatMap QT.words).length = 3 + ks.length + (ts.flatMap QT.words).length := by
      rw [List.flatMap_cons, List.length_append]
      simp [QT.words, capWords]
      omega
    rw [lw] at hf
    have i := steps_of f ts (n + 1 + 2 + ks.length) rest (fun t ht => g t (by simp [ht])) hd (by omega)
    show stepsRead ws (f + 1) (ts.length + 1) n = _
    unfold stepsRead
    rw [if_pos e1, ec]
    dsimp only
    rw [i]
    dsimp only
    rw [lw, show n + 1 + 2 + ks.length + (ts.flatMap QT.words).length = n + (3 + ks.length + (ts.flatMap QT.words).length) by omega]
    rfl
  | f + 1, .both a b :: ts, n, rest, g, h, hf => by
    have h1 : ws.drop n = ("both" : Str) :: ((a :: b :: ts).flatMap QT.words ++ rest) := by
      rw [h, List.flatMap_cons, List.flatMap_cons, List.flatMap_cons]
      show ("both" : Str) :: (a.words ++ b.words ++ ts.flatMap QT.words ++ rest) = _
      simp only [List.append_assoc]
    obtain ⟨n1, e1, h2⟩ := pk_of h1
    have lw : ((QT.both a b :: ts).flatMap QT.words).length = 1 + ((a :: b :: ts).flatMap QT.words).length := by
      simp [QT.words]
      omega
    rw [lw] at hf
    have i := steps_of f (a :: b :: ts) (n + 1) rest (fun t ht => by
      rcases List.mem_cons.mp ht with rfl | ht
      · exact fun c hc => g (.both t b) (by simp) c (List.mem_append_left _ hc)
      · rcases List.mem_cons.mp ht with rfl | ht
        · exact fun c hc => g (.both a t) (by simp) c (List.mem_append_right _ hc)
        · exact g t (by simp [ht])) h2 (by omega)
    have hne : pk ws n ≠ "cap" := by rw [e1]; decide +kernel
    show stepsRead ws (f + 1) (ts.length + 1) n = _
    have i2 : stepsRead ws f (ts.length + 2) (n + 1) = _ := i
    unfold stepsRead
    rw [if_neg hne, if_pos e1, i2]
    dsimp only
    rw [lw, show n + 1 + ((a :: b :: ts).flatMap QT.words).length = n + (1 + ((a :: b :: ts).flatMap QT.words).length) by omega]
    simp [QT.steps]
  | f + 1, .either a b :: ts, n, rest, g, h, hf => by
    have h1 : ws.drop n = ("either" : Str) :: ((a :: b :: ts).flatMap QT.words ++ rest) := by
      rw [h, List.flatMap_cons, List.flatMap_cons, List.flatMap_cons]
      show ("either" : Str) :: (a.words ++ b.words ++ ts.flatMap QT.words ++ rest) = _
      simp only [List.append_assoc]
    obtain ⟨n1, e1, h2⟩ := pk_of h1
    have lw : ((QT.either a b :: ts).flatMap QT.words).length = 1 + ((a :: b :: ts).flatMap QT.words).length := by
      simp [QT.words]
      omega
    rw [lw] at hf
    have i := steps_of f (a :: b :: ts) (n + 1) rest (fun t ht => by
      rcases List.mem_cons.mp ht with rfl | ht
      · exact fun c hc => g (.either t b) (by simp) c (List.mem_append_left _ hc)
      · rcases List.mem_cons.mp ht with rfl | ht
        · exact fun c hc => g (.either a t) (by simp) c (List.mem_append_right _ hc)
        · exact g t (by simp [ht])) h2 (by omega)
    have hne : pk ws n ≠ "cap" ∧ pk ws n ≠ "both" := by rw [e1]; decide +kernel
    show stepsRead ws (f + 1) (ts.length + 1) n = _
    have i2 : stepsRead ws f (ts.length + 2) (n + 1) = _ := i
    unfold stepsRead
    rw [if_neg hne.1, if_neg hne.2, if_pos e1, i2]
    dsimp only
    rw [lw, show n + 1 + ((a :: b :: ts).flatMap QT.words).length = n + (1 + ((a :: b :: ts).flatMap QT.words).length) by omega]
    simp [QT.steps]
/-- a tree's words are read as this tree -/
theorem read_of {t : QT} (g : ∀ c ∈ t.caps, GoodU c ∧ c.2.length ≤ 1000) : quotaRead t.words = .ok t.steps ∧ forestO t.steps = some [t] := by
  have e := steps_of (ws := t.words) (t.words.length + 1) [t] 0 [] (fun u hu => by rw [List.mem_singleton.mp hu]; exact g) (by simp) (by simp)
  refine ⟨?_, ?_⟩
  · unfold quotaRead
    have e : stepsRead t.words (t.words.length + 1) 1 0 = _ := e
    rw [e]
    simp
  · have := forest_app t [] [] rfl
    rwa [List.append_nil] at this
end K10
end
section
set_option pp.maxSteps 400
set_option pp.deepTerms.threshold 6
/-! The law's names, and the words of a tree. -/
namespace K10
open PySem PySem.Spec PyProof.Rows L2
abbrev sNs : Stmt := top 39
abbrev sWs : Stmt := top 40
def spNs : Sp := fun vs H Q _ => ∃ (p c : Addr) (ns : List Int) (n : Nat) (z : Int), vs = [.ref p] ∧ PenAt H p c ns n z ∧ n + 200 < 100000 ∧
  ∀ (l : Addr) (xs : List Str) (n' : Nat) (z' : Int) (H' : Hp), xs.Nodup → (∀ x ∈ xs, nameB x = true ∧ x.length ≤ 8) → xs.length ≤ 3 → n' ≤ n + 100 → PenAt H' p c ns n' z' → But p H H' → l ≠ p → H' l = some (.lst (xs.map V.str)) → Q (.ref l) H'
theorem sort_uniq : ∀ {t a b : QT}, (∀ c ∈ t.caps, c.2.Nodup) → SortOf t a → SortOf t b → a = b
  | .cap m ks, .cap m1 k1, .cap m2 k2, nd, ⟨e1, p1, s1⟩, ⟨e2, p2, s2⟩ => by
    have n := nd (m, ks) (List.mem_singleton.mpr rfl)
    have e := asc_eq s1 s2 (p1.nodup_iff.mpr n) (p2.nodup_iff.mpr n) fun z => (p1.trans p2.symm).mem_iff
    rw [e1, e2, e]
  | .both t u, .both t1 u1, .both t2 u2, nd, ⟨a1, b1⟩, ⟨a2, b2⟩ => by
    rw [sort_uniq (fun c hc => nd c (List.mem_append_left _ hc)) a1 a2, sort_uniq (fun c hc => nd c (List.mem_append_right _ hc)) b1 b2]
  | .either t u, .either t1 u1, .either t2 u2, nd, ⟨a1, b1⟩, ⟨a2, b2⟩ => by
    rw [sort_uniq (fun c hc => nd c (List.mem_append_left _ hc)) a1 a2, sort_uniq (fun c hc => nd c (List.mem_append_right _ hc)) b1 b2]
theorem words_len : ∀ {t : QT}, (∀ c ∈ t.caps, c.2.length ≤ 3) → t.words.length + 1 ≤ 7 * t.caps.length
  | .cap m ks, h => by
    have := h (m, ks) (List.mem_singleton.mpr rfl)
    have this : ks.length ≤ 3 := this
    show (capWords m ks).length + 1 ≤ 7 * 1
    simp [capWords]
    omega
  | .both t u, h => by
    have h1 := words_len fun c hc => h c (List.mem_append_left _ hc)
    have h2 := words_len fun c hc => h c (List.mem_append_right _ hc)
    show (("both" : Str) :: (t.words ++ u.words)).length + 1 ≤ 7 * (t.caps ++ u.caps).length
    rw [List.length_cons, List.length_append, List.length_append]
    omega
  | .either t u, h => by
    have h1 := words_len fun c hc => h c (List.mem_append_left _ hc)
    have h2 := words_len fun c hc => h c (List.mem_append_right _ hc)
    show (("either" : Str) :: (t.words ++ u.words)).length + 1 ≤ 7 * (t.caps ++ u.caps).length
    rw [List.length_cons, List.length_append, List.length_append]
    omega
theorem SortOf.good : ∀ {t t' : QT}, SortOf t t' → (∀ c ∈ t.caps, GoodC c) → ∀ c ∈ t'.caps, GoodC c ∧ sortedS c.2 = true
  | .cap m ks, .cap m' zs, ⟨e, pm, so⟩, h, c, hc => by
    obtain ⟨⟨h1, h2, h3, h4⟩, nd, nm⟩ := h (m, ks) (List.mem_singleton.mpr rfl)
    have ec : c = (m', zs) := List.mem_singleton.mp hc
    subst ec e
    exact ⟨⟨⟨h1, h2, by rw [pm.length_eq]; exact h3, fun z hz => h4 z (pm.mem_iff.mp hz)⟩, pm.nodup_iff.mpr nd, fun z hz => nm z (pm.mem_iff.mp hz)⟩, so⟩
  | .both t u, .both t' u', ⟨h1, h2⟩, h, c, hc => by
    rcases List.mem_append.mp hc with hc | hc
    · exact h1.good (fun c hc => h c (List.mem_append_left _ hc)) c hc
    · exact h2.good (fun c hc => h c (List.mem_append_right _ hc)) c hc
  | .either t u, .either t' u', ⟨h1, h2⟩, h, c, hc => by
    rcases List.mem_append.mp hc with hc | hc
    · exact h1.good (fun c hc => h c (List.mem_append_left _ hc)) c hc
    · exact h2.good (fun c hc => h c (List.mem_append_right _ hc)) c hc
def spWs : Nat → Sp
  | 0 => fun _ _ _ _ => False
  | d + 1 => fun vs H Q _ => ∃ (b : Addr) (t : QT), vs = [.ref b] ∧ TreeAt H t b ∧ t.caps.length ≤ d + 1 ∧ t.caps.length ≤ 20 ∧ (∀ c ∈ t.caps, GoodC c) ∧ ∀ l t' H', Same H H' → SortOf t t' → H' l = some (.lst (t'.words.map V.str)) → Q (.ref l) H'
section
variable {P : Program} {w : World} {K : PySem.W.Frag} {mg : Str → Option Value} {base : Heap}
abbrev nNs : List Str := ["_law_pen_here", "_law_names_here", "_law_turn", "_law_name"]
theorem scNs : FnScope nNs ["_law_pen_here"] (defScope sNs) := ⟨rfl, rfl, rfl, by decide +kernel, rfl, by decide +kernel, by decide +kernel⟩
theorem ok_Ns {f fDr fPi fWo : Addr} {fd fdDr fdPi fdWo : FuncData} (F : Fun K "_law_names" "_law_names" sNs f fd) (Nn : Nm mg) (n_range : mg "range" = none) (F_draw : Fun K "_law_draw" "_law_draw" sDraw fDr fdDr) (g_draw : mg "_law_draw" = some (.ref fDr)) (F_pick : Fun K "_law_pick" "_law_pick" sPick fPi fdPi) (g_pick : mg "_law_pick" = some (.ref fPi)) (F_word : Fun K "_law_word" "_law_word" sWord fWo fdWo) (g_word : mg "_law_word" = some (.ref fWo)) :
    FnOk P w K mg base CX0 4 f fd ["_law_pen_here"] spNs := by
  have G_draw : FnOk P w K mg base CX0 1 fDr fdDr ["_law_pen_here", "_law_many"] spDraw := ok_draw F_draw Nn
  have b_draw : Binds K fdDr ["_law_pen_here", "_law_many"] [] := F_draw.binds fun _ _ _ _ _ _ us hl => match us, hl with | [_, _], _ => rfl
  have G_pick : FnOk P w K mg base CX0 2 fPi fdPi ["_law_pen_here", "_law_some"] (spPick K) := ok_pick F_pick Nn F_draw g_draw
  have b_pick : Binds K fdPi ["_law_pen_here", "_law_some"] [] := F_pick.binds fun _ _ _ _ _ _ us hl => match us, hl with | [_, _], _ => rfl
  have G_word : FnOk P w K mg base CX0 3 fWo fdWo ["_law_pen_here"] spWord := ok_word F_word Nn n_range F_draw g_draw F_pick g_pick
  have b_word : Binds K fdWo ["_law_pen_here"] [] := F_word.binds fun _ _ _ _ _ _ us hl => match us, hl with | [_], _ => rfl
  refine F.ok scNs (fun vs H Q E h => ?_) (fun cdv A outer s H vs Q E hr h => ?_)
  · obtain ⟨p, c, ns, n, z, rfl, _⟩ := h
    rfl
  · obtain ⟨p, c, ns, n, z, rfl, hp, hn, q⟩ := h
    have hr3 : Room 3 _ := hr
    have hr2 := hr3.mono (show 2 ≤ 3 by decide)
    have hr1 := hr3.mono (show 1 ≤ 3 by decide)
    refine ⟨_, (pss_cons (ps_set (i := 1) scNs.nd rfl (Or.inl rfl) (pe_lst pa_nil))
    (pss_cons (ps_for PassesOwn.never rfl (pi_range1 rfl n_range (pa_cons (pe_call G_draw hr1 (by rfl) g_draw F_draw.kp b_draw .nil pass0 (pa_cons (pv 0) (pa_cons pe_int pa_nil))) pa_nil)) (pg_name (i := 2) scNs.nd rfl (Or.inl rfl)) (pss_cons (ps_set (i := 3) scNs.nd rfl (Or.inl rfl) (pe_call G_pick hr2 (by rfl) g_pick F_pick.kp b_pick .nil pass0 (pa_cons (pv 0) (pa_cons (pe_lst (pa_cons pe_str (pa_cons pe_str (pa_cons pe_str (pa_cons (pe_call G_word hr3 (by rfl) g_word F_word.kp b_word .nil pass0 (pa_cons (pv 0) pa_nil)) (pa_cons (pe_call G_word hr3 (by rfl) g_word F_word.kp b_word .nil pass0 (pa_cons (pv 0) pa_nil)) pa_nil)))))) pa_nil))))
    (pss_one (ps_if (pt_cmpR op_notIn_seq (pv 3) (pv 1) (by rfl)) (pss_one (ps_expr (pe_bm PySem.F.plainAttrs_list PySem.F.slot_list_append PySem.F.type_list_append mt_append (pv 1) (pa_cons (pv 3) pa_nil)))) pss_nil))))
    (pss_one (ps_ret (pv 1))))), ?_⟩
    have sz := sizeLine_eq
    refine ⟨Nat.zero_le _, fun D hD => ?_⟩
    have u1 := Same.of_new (o := .lst []) hD
    have nDp : D ≠ p := fun e => hp.some (e ▸ hD)
    have nDc : D ≠ c := fun e => by
      rw [e, hp.cells] at hD
      cases hD
    have hHD := hD
    refine ⟨_, rfl, p, c, ns, n, z, 4, rfl, hp.same u1, by omega, by decide, by decide +kernel, fun m n1 z1 H1 m0 m5 hn1 hp1 s1 => ?_⟩
    obtain ⟨k, rfl⟩ := Int.eq_ofNat_of_zero_le m0
    have k5 : k ≤ 3 := by omega
    refine ⟨k, rfl, by omega, by omega, ?_⟩
    refine for_it walk_range (fun i σ Hx => ∃ (xs : List Str) (x2 x3 : Option V) (n' : Nat) (z' : Int), σ = [some (.ref p), some (.ref D), x2, x3] ∧ xs.Nodup ∧ (∀ x ∈ xs, nameB x = true ∧ x.length ≤ 8) ∧ xs.length ≤ i ∧ n' ≤ n + 1 + 30 * i ∧ PenAt Hx p c ns n' z' ∧ But p H Hx ∧ Hx D = some (.lst (xs.map V.str)))
      ⟨[], _, _, n1, z1, rfl, List.nodup_nil, (fun x h => by cases h), Nat.le_refl 0, by omega, hp1, (Same.but p u1).trans s1, s1 _ _ nDp upd_same⟩ (fun _ _ _ _ _ => True.intro) (fun i y0 σ Hx Hy hi q0 y => ?_) (fun σ Hx q0 => ?_)
    · obtain ⟨xs, x2, x3, n2, z2, rfl, nd, gx, lx, ln, hp2, b2, eD⟩ := q0
      obtain ⟨rfl, rfl⟩ := y
      refine ⟨_, rfl, _, rfl, p, c, ns, n2, z2, rfl, hp2, by omega, fun w1 n3 z3 H3 e1 e2 hn3 hp3 s3 => ⟨_, rfl, p, c, ns, n3, z3, rfl, hp3, by omega, fun w2 n4 z4 H4 e3 e4 hn4 hp4 s4 => ⟨by show (5 : Nat) ≤ sizeLine; omega, fun L hL => ?_⟩⟩⟩
      have sL := Same.of_new (o := .lst [.str "cap", .str "both", .str "either", .str w1, .str w2]) hL
      have nL : L ≠ p := fun e => hp4.some (e ▸ hL)
      refine ⟨p, c, L, ns, n4, z4, _, rfl, hp4.same sL, by omega, nL, SqL.of upd_same, by show 0 < 5; decide, by show 5 < 1000; decide, fun x n5 z5 H5 hx hn5 hp5 s5 => ?_⟩
      obtain ⟨nm, rfl, gnm⟩ : ∃ nm : Str, x = .str nm ∧ nameB nm = true ∧ nm.length ≤ 8 := by
        simp only [List.mem_cons, List.not_mem_nil, or_false] at hx
        rcases hx with rfl | rfl | rfl | rfl | rfl
        · exact ⟨_, rfl, by decide +kernel⟩
        · exact ⟨_, rfl, by decide +kernel⟩
        · exact ⟨_, rfl, by decide +kernel⟩
        · exact ⟨_, rfl, e1, e2⟩
        · exact ⟨_, rfl, e3, e4⟩
      have b5 := ((s3.trans s4).trans (Same.but p sL)).trans s5
      have eD5 := b5 _ _ nDp eD
      have iv : inV (.str nm) (xs.map V.str) = decide (nm ∈ xs) := in_strs _ _
      refine ⟨_, rfl, _, rfl, D, _, rfl, .inl (SqL.of eD5), rfl, flat_strs xs, _, rfl, ?_⟩
      show if (!inV (.str nm) (xs.map V.str)) = true then _ else _
      rw [iv]
      by_cases cm : nm ∈ xs
      · rw [decide_eq_true cm]
        refine iteF ?_
        exact ⟨xs, _, _, n5, z5, rfl, nd, gx, by omega, by omega, hp5, b2.trans b5, eD5⟩
      · rw [decide_eq_false cm]
        refine iteT ?_
        refine ⟨_, rfl, .inl ⟨rfl, _, SqL.of eD5⟩, _, rfl, D, _, _, rfl, rfl, eD5, by rw [List.length_map]; omega, xs ++ [nm], _, _, n5, z5, rfl, ?_, fun x hx => ?_, by rw [List.length_append, List.length_singleton]; omega, by omega, hp5.put (Ne.symm nDp) (Ne.symm nDc), fun b o nb e => ?_, by rw [List.map_append]; exact upd_same⟩
        · refine List.nodup_append.mpr ⟨nd, by simp, fun a ha b hb => ?_⟩
          rw [show b = nm by simpa using hb]
          exact fun e => cm (e ▸ ha)
        · rcases List.mem_append.mp hx with hx | hx
          · exact gx x hx
          · rw [List.mem_singleton.mp hx]
            exact gnm
        · rw [upd_ne (ne_of_none e hHD)]
          exact b5 _ _ nb (b2 _ _ nb e)
    · obtain ⟨xs, x2, x3, n2, z2, rfl, nd, gx, lx, ln, hp2, b2, eD⟩ := q0
      exact ⟨_, rfl, q D xs n2 z2 Hx nd gx (by omega) (by omega) hp2 b2 nDp eD⟩
abbrev nWs : List Str := ["_law_tree_here", "_law_kind"]
theorem scWs : FnScope nWs ["_law_tree_here"] (defScope sWs) := ⟨rfl, rfl, rfl, by decide +kernel, rfl, by decide +kernel, by decide +kernel⟩
theorem ok_Ws {f : Addr} {fd : FuncData} (F : Fun K "_law_words" "_law_words" sWs f fd) (g_rec : mg "_law_words" = some (.ref f)) (n_str : mg "str" = none) (n_len : mg "len" = none) (n_sorted : mg "sorted" = none) : ∀ d : Nat, FnOk P w K mg base CX0 (d + 1) f fd ["_law_tree_here"] (spWs d)
  | 0 => F.ok scWs (fun vs H Q E h => h.elim) (fun cdv A outer s H vs Q E hr h => h.elim)
  | d + 1 => by
    have G_rec := ok_Ws F g_rec n_str n_len n_sorted d
    have b_rec : Binds K fd ["_law_tree_here"] [] := F.binds fun _ _ _ _ _ _ us hl => match us, hl with | [_], _ => rfl
    refine F.ok scWs (fun vs H Q E h => ?_) (fun cdv A outer s H vs Q E hr h => ?_)
    · obtain ⟨b, t, rfl, _⟩ := h
      rfl
    obtain ⟨b, t, rfl, ht, lt, l20, gd, q⟩ := h
    refine ⟨_, (pss_cons (ps_if (pt_cmpR op_eq (pe_ix (r := rIxT K) ix_tup (pv 0) pe_int (fun _ _ => rfl)) pe_str (nomark _)) (pss_one (ps_ret (pe_op op_cat (pe_lst (pa_cons pe_str (pa_cons (pe_callTy call_str_int (by rfl) n_str (by decide +kernel) (pa_cons (pe_ix (r := rIxT K) ix_tup (pv 0) pe_int (fun _ _ => rfl)) pa_nil)) (pa_cons (pe_callTy call_str_int (by rfl) n_str (by decide +kernel) (pa_cons (pe_callB call_len_seq (by rfl) n_len boot_len (pa_cons (pe_ix (r := rIxT K) ix_tup (pv 0) pe_int (fun _ _ => rfl)) pa_nil)) pa_nil)) pa_nil)))) (pe_callB cr_sortedS (by rfl) n_sorted (by decide +kernel) (pa_cons (pe_lc (own := [("_law_kind", 1)]) (by rfl) scWs.nd (pi_list (pe_ix (r := rIxT K) ix_tup (pv 0) pe_int (fun _ _ => rfl))) (blkOk_by (own := [("_law_kind", 1)]) (N := nWs) (sc := defScope sWs) (by decide +kernel)) (fun _ _ _ _ _ => (pg_name (i := 1) scWs.nd rfl (Or.inl rfl))) (fun _ _ _ _ _ => pts_nil) (fun _ _ _ _ _ => (pe_callTy SkE.call_str_str (by rfl) n_str (by decide +kernel) (pa_cons (pv 1) pa_nil)))) pa_nil))))) pss_nil)
    (pss_one (ps_ret (pe_op op_cat (pe_op op_cat (pe_lst (pa_cons (pe_ix (r := rIxT K) ix_tup (pv 0) pe_int (fun _ _ => rfl)) pa_nil)) (pe_call G_rec hr (by rfl) g_rec F.kp b_rec .nil pass0 (pa_cons (pe_ix (r := rIxT K) ix_tup (pv 0) pe_int (fun _ _ => rfl)) pa_nil))) (pe_call G_rec hr (by rfl) g_rec F.kp b_rec .nil pass0 (pa_cons (pe_ix (r := rIxT K) ix_tup (pv 0) pe_int (fun _ _ => rfl)) pa_nil)))))), ?_⟩
    have sz := sizeLine_eq
    match t, ht, lt, l20, gd, q with
    | .cap m ks, ⟨kl, e, ek⟩, lt, l20, gd, q =>
      have gc := gd (m, ks) (List.mem_singleton.mpr rfl)
      have l3 : ks.length ≤ 3 := gc.1.2.2.1
      refine ⟨_, rfl, b, _, 0, _, rfl, rfl, SqT.of e, atI_nat (j := 0) rfl, rfl, _, rfl, ?_⟩
      refine ite2 (fun _ => ?_) (fun c => absurd (decide_eq_true rfl) c)
      refine ⟨_, rfl, b, _, 1, _, rfl, rfl, SqT.of e, atI_nat (j := 1) rfl, _, rfl, (most_text gc.1.1 gc.1.2.1).1, _, rfl, b, _, 2, _, rfl, rfl, SqT.of e, atI_nat (j := 2) rfl, kl, _, rfl, .inl (SqL.of ek), ?_⟩
      have lk := most_text60 (m := ((ks.length : Nat) : Int)) (by omega) (by omega)
      refine ⟨_, rfl, by rw [List.length_map]; exact lk.1, by show (3 : Nat) ≤ sizeLine; omega, fun L0 hL0 => ?_⟩
      rw [List.length_map]
      have u0 := Same.of_new (o := .lst [.str "cap", .str (toString m : Str), .str (toString ((ks.length : Nat) : Int) : Str)]) hL0
      have ek0 := u0 _ _ ek
      refine ⟨_, rfl, b, _, 2, _, rfl, rfl, SqT.of (u0 _ _ e), atI_nat (j := 2) rfl, kl, rfl, ⟨_, SqL.of ek0⟩, fun L hL => ?_⟩
      refine lc_it (walk_list (xs := ks.map V.str)) (fun i Hx => Same (upd H L0 (.lst [.str "cap", .str (toString m : Str), .str (toString ((ks.length : Nat) : Int) : Str)])) Hx ∧ Hx L = some (.lst ((ks.take i).map V.str))) ⟨Same.of_new hL, upd_same⟩ (fun i Hx _ q => SqL.of (q.1 _ _ ek0)) (fun i x Hx Hy hi q0 y => ?_) (fun Hx q0 => ?_)
      · obtain ⟨s1, eL⟩ := q0
        obtain ⟨rfl, hx⟩ := y
        rw [List.getElem?_map] at hx
        obtain ⟨z, hz, rfl⟩ := Option.map_eq_some_iff.mp hx
        refine ⟨rfl, ?_⟩
        refine ⟨_, rfl, _, rfl, _, eL, by rw [List.length_map, List.length_take]; omega, fun y o e => ?_, ?_⟩
        · rw [upd_ne (ne_of_none e hL)]
          exact s1 y o e
        · rw [List.take_add_one, hz, List.map_append]
          exact upd_same
      obtain ⟨s1, eL⟩ := q0
      rw [List.length_map, List.take_length] at eL
      refine ⟨L, ks, rfl, SqL.of eL, by omega, fun ys p pm srt hp => ?_⟩
      have w1 := Same.of_new (o := .lst (ys.map V.str)) hp
      refine ⟨L0, p, _, _, rfl, rfl, w1 _ _ (s1 _ _ upd_same), upd_same, by rw [List.length_map, pm.length_eq]; show 3 + _ ≤ _; omega, fun R hR => ?_⟩
      have w2 := Same.of_new (o := .lst ([V.str "cap", .str (toString m : Str), .str (toString ((ks.length : Nat) : Int) : Str)] ++ ys.map V.str)) hR
      refine q R (.cap m ys) _ (((u0.trans s1).trans w1).trans w2) ⟨rfl, pm, srt⟩ ?_
      rw [upd_same]
      show _ = some (HO.lst ((([("cap" : Str), (toString m : Str), (toString ((ys.length : Nat) : Int) : Str)] : List Str) ++ ys).map V.str))
      rw [List.map_append, pm.length_eq]
      rfl
    | .both t u, ⟨l, r, e, h1, h2⟩, lt, l20, gd, q =>
      refine ⟨_, rfl, b, _, 0, _, rfl, rfl, SqT.of e, atI_nat (j := 0) rfl, rfl, _, rfl, ?_⟩
      refine ite2 (fun c => absurd c (by decide +kernel)) (fun _ => ?_)
      have ca := caps_pos t
      have cb := caps_pos u
      have lc : t.caps.length + u.caps.length ≤ d + 1 := by rw [← List.length_append]; exact lt
      have lc2 : t.caps.length + u.caps.length ≤ 20 := by rw [← List.length_append]; exact l20
      have g1 : ∀ c ∈ t.caps, GoodC c := fun c hc => gd c (List.mem_append_left _ hc)
      have g2 : ∀ c ∈ u.caps, GoodC c := fun c hc => gd c (List.mem_append_right _ hc)
      match d, G_rec, lc with
      | 0, _, lc => exact absurd lc (by omega)
      | d + 1, G_rec, lc =>
      refine ⟨_, rfl, b, _, 0, _, rfl, rfl, SqT.of e, atI_nat (j := 0) rfl, by show (1 : Nat) ≤ sizeLine; omega, fun L0 hL0 => ?_⟩
      have u0 := Same.of_new (o := .lst [.str "both"]) hL0
      refine ⟨_, rfl, b, _, 1, _, rfl, rfl, SqT.of (u0 _ _ e), atI_nat (j := 1) rfl, l, t, rfl, h1.same u0, by omega, by omega, g1, fun l1 t1 H1 s1 so1 e1 => ?_⟩
      have w1 := words_len fun c hc => (so1.good g1 c hc).1.1.2.2.1
      have w2 := words_len (t := t1) fun c hc => (so1.good g1 c hc).1.1.2.2.1
      rw [so1.caps.1] at w1
      refine ⟨L0, l1, _, _, rfl, rfl, s1 _ _ upd_same, e1, by rw [List.length_map]; simp only [List.length_cons, List.length_nil]; omega, fun L2 hL2 => ?_⟩
      have u2 := Same.of_new (o := .lst ([V.str "both"] ++ t1.words.map V.str)) hL2
      have s02 := (u0.trans s1).trans u2
      refine ⟨_, rfl, b, _, 2, _, rfl, rfl, SqT.of (s02 _ _ e), atI_nat (j := 2) rfl, r, u, rfl, h2.same s02, by omega, by omega, g2, fun l2 t2 H3 s3 so2 e2 => ?_⟩
      have w3 := words_len (t := t2) fun c hc => (so2.good g2 c hc).1.1.2.2.1
      rw [so2.caps.1] at w3
      refine ⟨L2, l2, _, _, rfl, rfl, s3 _ _ upd_same, e2, by rw [List.length_append, List.length_map, List.length_map]; simp only [List.length_cons, List.length_nil]; omega, fun R hR => ?_⟩
      have u4 := Same.of_new (o := .lst ([V.str "both"] ++ t1.words.map V.str ++ t2.words.map V.str)) hR
      refine q R (.both t1 t2) _ ((s02.trans s3).trans u4) ⟨so1, so2⟩ ?_
      rw [upd_same]
      show _ = some (HO.lst ((("both" : Str) :: (t1.words ++ t2.words)).map V.str))
      rw [List.map_cons, List.map_append]
      rfl
    | .either t u, ⟨l, r, e, h1, h2⟩, lt, l20, gd, q =>
      refine ⟨_, rfl, b, _, 0, _, rfl, rfl, SqT.of e, atI_nat (j := 0) rfl, rfl, _, rfl, ?_⟩
      refine ite2 (fun c => absurd c (by decide +kernel)) (fun _ => ?_)
      have ca := caps_pos t
      have cb := caps_pos u
      have lc : t.caps.length + u.caps.length ≤ d + 1 := by rw [← List.length_append]; exact lt
      have lc2 : t.caps.length + u.caps.length ≤ 20 := by rw [← List.length_append]; exact l20
      have g1 : ∀ c ∈ t.caps, GoodC c := fun c hc => gd c (List.mem_append_left _ hc)
      have g2 : ∀ c ∈ u.caps, GoodC c := fun c hc => gd c (List.mem_append_right _ hc)
      match d, G_rec, lc with
      | 0, _, lc => exact absurd lc (by omega)
      | d + 1, G_rec, lc =>
      refine ⟨_, rfl, b, _, 0, _, rfl, rfl, SqT.of e, atI_nat (j := 0) rfl, by show (1 : Nat) ≤ sizeLine; omega, fun L0 hL0 => ?_⟩
      have u0 := Same.of_new (o := .lst [.str "either"]) hL0
      refine ⟨_, rfl, b, _, 1, _, rfl, rfl, SqT.of (u0 _ _ e), atI_nat (j := 1) rfl, l, t, rfl, h1.same u0, by omega, by omega, g1, fun l1 t1 H1 s1 so1 e1 => ?_⟩
      have w1 := words_len fun c hc => (so1.good g1 c hc).1.1.2.2.1
      have w2 := words_len (t := t1) fun c hc => (so1.good g1 c hc).1.1.2.2.1
      rw [so1.caps.1] at w1
      refine ⟨L0, l1, _, _, rfl, rfl, s1 _ _ upd_same, e1, by rw [List.length_map]; simp only [List.length_cons, List.length_nil]; omega, fun L2 hL2 => ?_⟩
      have u2 := Same.of_new (o := .lst ([V.str "either"] ++ t1.words.map V.str)) hL2
      have s02 := (u0.trans s1).trans u2
      refine ⟨_, rfl, b, _, 2, _, rfl, rfl, SqT.of (s02 _ _ e), atI_nat (j := 2) rfl, r, u, rfl, h2.same s02, by omega, by omega, g2, fun l2 t2 H3 s3 so2 e2 => ?_⟩
      have w3 := words_len (t := t2) fun c hc => (so2.good g2 c hc).1.1.2.2.1
      rw [so2.caps.1] at w3
      refine ⟨L2, l2, _, _, rfl, rfl, s3 _ _ upd_same, e2, by rw [List.length_append, List.length_map, List.length_map]; simp only [List.length_cons, List.length_nil]; omega, fun R hR => ?_⟩
      have u4 := Same.of_new (o := .lst ([V.str "either"] ++ t1.words.map V.str ++ t2.words.map V.str)) hR
      refine q R (.either t1 t2) _ ((s02.trans s3).trans u4) ⟨so1, so2⟩ ?_
      rw [upd_same]
      show _ = some (HO.lst ((("either" : Str) :: (t1.words ++ t2.words)).map V.str))
      rw [List.map_cons, List.map_append]
      rfl
end
end K10
end
section
/-! Own: C(e, .., *y), C by the module's name. -/
namespace OwR
open PySem PySem.Spec PyProof.Rows L2
section
variable {X : Cx} {CX : CXT} {k : Nat} {f C : Addr} {sp : Sp} {E : XK} {x : Str} {e : Expr} {es : List Expr} {t : TA} {p pos : Pos}
theorem pe_makeS2 (M : Mk X.K C f) (F : FnR X.prog X.w X.K X.mg X.base CX k f sp) (hr : Room (k + 1) X.A) (hg : Gl X x) (hm : X.mg x = some (.ref C)) (hx : Passes CX X E) (ha : PA X (e :: es) t) (hdb : (x == ("__debug__" : Str)) = false := by decide)
    (he : starEach (e :: es) X.env = (false, eval e X.env) :: starEach es X.env := by rfl) (hst : (backTo pos (starEach es X.env)).any (·.1) = true := by rfl) : PE X (.Call (.Name x p) (e :: es) [] pos) (StX.tMakeR C sp E t) := by
  refine ⟨fun pins s σ H Q I h => ?_⟩
  refine wpAny_Call_Name_kw (ld_glob I hg hm ?_ hdb)
  refine PySem.W.callWith_S2 (h₀ := X.base) (first := []) I.ok.mod.kin M.kp (thn (ha.run pos pins s σ H _ I h) fun us s1 ⟨vs, H1, I1, r, q⟩ => ⟨I1.kIn, ?_⟩) he hst
  exact StX.run_makeR M F hr hx I1 r q
end
end OwR
end
section
set_option pp.maxSteps 400
set_option pp.deepTerms.threshold 6
/-! Quotas read: the steps of a text. -/
namespace K10
open PySem PySem.Spec PyProof.Rows L2
abbrev sCf : Stmt := top 28
abbrev sSf : Stmt := top 27
/-- with the numbers -/
structure WFQ (P : Program) (w : World) (K : PySem.W.Frag) (mg : Str → Option Value) (base : Heap) (C CT fMo fPk fCk fSt fTw fTn fEn fNu : Addr) : Prop where
  f : WF P w K mg base C CT fMo fPk fCk fSt fTw fTn fEn
  m_nu : Meth K C "take_number" fNu
  g_nu : ∃ fd ds, FnOk P w K mg base (L2.CX P w) 4 fNu fd ["self", "least", "most"] (spWNu C CT) ∧ Binds K fd ["self", "least", "most"] ds ∧ Vals [.non] ds
  g_nu2 : ∃ fd, FnOk P w K mg base (L2.CX P w) 4 fNu fd ["self", "least", "most"] (spWNu C CT) ∧ Binds K fd ["self", "least", "most"] []
theorem nu1_binds {K : PySem.W.Frag} {f : Addr} {fd : FuncData} (F : FunD K "take_number" "Words.take_number" (defArgs sWNu) (defBody sWNu) (defScope sWNu) [.non] [] f fd) : ∃ ds, Vals [.non] ds ∧ Binds K fd ["self", "least", "most"] ds :=
  F.binds1 (ps := ["self", "least", "most"]) 2 0 (by simp) rfl fun T kV doc pm an cdv ct us its hu hi => match us, its, hu, hi with | [_, _], [_], _, _ => ⟨_, rfl, rfl⟩
theorem num_zero (z : Str) : (∃ k : Nat, numO z = some k ∧ inB 0 none k = true) ∨ numO z = none := by
  cases e : numO z with
  | none => exact .inr rfl
  | some k => exact .inl ⟨k, rfl, by unfold inB; rw [decide_eq_true (by omega)]; rfl⟩
theorem num_12 (z : Str) : (∃ k : Nat, numO z = some k ∧ inB 0 (some 12) k = true ∧ k ≤ 12) ∨ ((∀ k, numO z = some k → inB 0 (some 12) k = false) ∧ ∀ k, numO z = some k → ¬ k ≤ 12) := by
  cases e : numO z with
  | none => exact .inr ⟨fun k h => (by cases h), fun k h => (by cases h)⟩
  | some k =>
    by_cases c : k ≤ 12
    · refine .inl ⟨k, rfl, ?_, c⟩
      show (decide ((0 : Int) ≤ ((k : Nat) : Int)) && decide (((k : Nat) : Int) ≤ 12)) = true
      rw [decide_eq_true (by omega), decide_eq_true (by omega)]
      rfl
    · refine .inr ⟨fun j h => ?_, fun j h => ?_⟩
      · cases h
        show (decide ((0 : Int) ≤ ((k : Nat) : Int)) && decide (((k : Nat) : Int) ≤ 12)) = false
        rw [show decide (((k : Nat) : Int) ≤ 12) = false from decide_eq_false (by omega), Bool.and_false]
      · cases h
        exact c
/-! ### one cap -/
theorem kinds_bad {ws : List Str} {k n : Nat} {last : Str} (h : (nameB (pk ws n) && ltS last (pk ws n)) = false) : kindsRead ws (k + 1) last n = .error n := by
  unfold kindsRead
  rw [if_neg (by rw [h]; decide)]
theorem kinds_go {ws : List Str} {k n : Nat} {last : Str} (h : (nameB (pk ws n) && ltS last (pk ws n)) = true) : kindsRead ws (k + 1) last n = (match kindsRead ws k (pk ws n) (n + 1) with | .ok r => .ok (pk ws n :: r.1, r.2) | .error e => .error e) := by
  rw [kindsRead, if_pos h] <;> rfl
theorem capR_bad1 {ws : List Str} {n : Nat} (h : ∀ k, numO (pk ws n) = some k → ¬ k ≤ 12) : capRead ws n = .error n := by
  unfold capRead
  cases e : numO (pk ws n) with
  | none => rfl
  | some k =>
    dsimp only
    rw [if_neg (h k e)]
theorem capR_bad2 {ws : List Str} {n m : Nat} (h : numO (pk ws n) = some m) (h2 : m ≤ 12) (h3 : numO (pk ws (n + 1)) = none) : capRead ws n = .error (n + 1) := by
  unfold capRead
  rw [h]
  dsimp only
  rw [if_pos h2, h3]
theorem capR_go {ws : List Str} {n m k : Nat} (h : numO (pk ws n) = some m) (h2 : m ≤ 12) (h3 : numO (pk ws (n + 1)) = some k) : capRead ws n = (match kindsRead ws k "" (n + 2) with | .ok r => .ok ((((m : Nat) : Int), r.1), r.2) | .error e => .error e) := by
  unfold capRead
  rw [h]
  dsimp only
  rw [if_pos h2, h3] <;> rfl
def CapEnd (C CT o : Addr) (ws : List Str) (ln : Nat) (m : Int) (H : Hp) (Q : VK) (E : XK) (done : List Str) : Except Nat (List Str × Nat) → Prop
  | .ok r => ∀ T L H', H L = none → But o H H' → WAt C H' o ws ln r.2 → H' T = some (.tup [.int m, .ref L]) → H' L = some (.lst ((done ++ r.1).map V.str)) → Q (.ref T) H'
  | .error e => ErrB CT o H E ln e
def spCf (C CT : Addr) : Sp := fun vs H Q E => ∃ (o : Addr) (ws : List Str) (ln n : Nat), vs = [.ref o] ∧ WAt C H o ws ln n ∧ (∀ i, (pk ws i).length ≤ 1000) ∧ ws.length ≤ 900 ∧ (match capRead ws n with
  | .ok c => ∀ T L H', H L = none → But o H H' → WAt C H' o ws ln c.2 → H' T = some (.tup [.int c.1.1, .ref L]) → H' L = some (.lst (c.1.2.map V.str)) → Q (.ref T) H'
  | .error e => ErrB CT o H E ln e)
/-- what stands at each turn -/
def CfInv (C CT o L : Addr) (ws : List Str) (ln k : Nat) (m : Int) (H : Hp) (Q : VK) (E : XK) (f : Nat) (σ : L2.St) (Hx : Hp) : Prop := ∃ (n left : Nat) (done : List Str), σ = [some (.ref o), some (.int m), some (.int (k : Nat)), some (.ref L)] ∧ ws.length < f + n ∧ n ≤ ws.length ∧ But o H Hx ∧ WAt C Hx o ws ln n ∧ Hx L = some (.lst (done.map V.str)) ∧ done.length ≤ n ∧ left + done.length = k ∧ CapEnd C CT o ws ln m H Q E done (kindsRead ws left (done.getLast?.getD "") n)
section
variable {P : Program} {w : World} {K : PySem.W.Frag} {mg : Str → Option Value} {base : Heap} {C CT fMo fPk fCk fSt fTw fTn fEn fNu : Addr}
abbrev nCf : List Str := ["words", "most", "many", "kinds"]
theorem scCf : FnScope nCf ["words"] (defScope sCf) := ⟨rfl, rfl, rfl, by decide +kernel, rfl, by decide +kernel, by decide +kernel⟩
theorem ok_Cf {f : Addr} {fd : FuncData} (F : Fun K "cap_from" "cap_from" sCf f fd) (n_len : mg "len" = none) (WH : WFQ P w K mg base C CT fMo fPk fCk fSt fTw fTn fEn fNu) : FnOk P w K mg base (L2.CX P w) 5 f fd ["words"] (spCf C CT) := by
  have WW := WH.f
  have W := WW.W
  have m_take_number := WH.m_nu
  obtain ⟨_, dsN, G_take_number, b_take_number, d_take_number⟩ := WH.g_nu
  obtain ⟨_, G_take_number2, b_take_number2⟩ := WH.g_nu2
  obtain ⟨_, ds, G_take_name, b_take_name, d_take_name, b_take_name2⟩ := WW.g_tn
  refine F.okX scCf (fun vs H Q E h => ?_) (fun cdv A outer s H vs Q E hr h => ?_)
  · obtain ⟨o, ws, ln, n, rfl, _⟩ := h
    rfl
  · obtain ⟨o, ws, ln, n, rfl, wa, lw, lws, h⟩ := h
    have hr4 : Room 4 _ := hr
    have h_take_name := hr4
    have h_take_number := hr4
    have sz := sizeLine_eq
    obtain ⟨dx, fs, l, h1, h2, h3, h4, h5, h6, h7⟩ := id wa
    refine ⟨_, (pss_cons (ps_set (i := 1) scCf.nd rfl (Or.inl rfl) (pe_meth (pv 0) W.cls m_take_number G_take_number2 h_take_number b_take_number2 .nil (passes_call (takes_of rfl rfl rfl rfl) (fun _ _ _ _ h => h)) (pa_cons pe_int (pa_cons pe_int pa_nil))))
    (pss_cons (ps_set (i := 2) scCf.nd rfl (Or.inl rfl) (pe_meth (pv 0) W.cls m_take_number G_take_number h_take_number b_take_number d_take_number (passes_call (takes_of rfl rfl rfl rfl) (fun _ _ _ _ h => h)) (pa_cons pe_int pa_nil)))
    (pss_cons (ps_set (i := 3) scCf.nd rfl (Or.inl rfl) (pe_lst pa_nil))
    (pss_cons (ps_while (passes_of rfl) (pt_cmpR op_lt (pe_callB call_len_seq (by rfl) n_len boot_len (pa_cons (pv 3) pa_nil)) (pv 2) (nomark _)) (pss_one (ps_expr (pe_bm PySem.F.plainAttrs_list PySem.F.slot_list_append PySem.F.type_list_append mt_append (pv 3) (pa_cons (pe_meth (pv 0) W.cls W.m_take_name G_take_name h_take_name b_take_name2 .nil (passes_call (takes_of rfl rfl rfl rfl) (fun _ _ _ _ h => h)) (pa_cons (pe_ifExp (pt_truth (pv 3) (by intro _; rfl)) (pe_ix ix_list (pv 3) (pe_un un_neg pe_int) (fun _ _ => rfl)) pe_str) pa_nil)) pa_nil)))))
    (pss_one (ps_ret (pe_tup (pa_cons (pv 1) (pa_cons (pv 3) pa_nil))))))))), ?_⟩
    refine ⟨_, rfl, o, dx, fs, rfl, h1, h6 _ (by decide), o, ws, ln, n, 0, some 12, rfl, wa, lw _, ?_⟩
    rcases num_12 (pk ws n) with ⟨m, e1, e2, m12⟩ | ⟨e2, e3⟩
    · refine .inl ⟨m, e1, e2, fun H1 b1 wa1 => ?_⟩
      obtain ⟨dx1, fs1, l1, q1, q2, q3, q4, q5, q6, q7⟩ := id wa1
      refine ⟨_, rfl, o, dx1, fs1, rfl, q1, q6 _ (by decide), o, ws, ln, n + 1, 0, none, rfl, wa1, lw _, ?_⟩
      rcases num_zero (pk ws (n + 1)) with ⟨k, e3, e4⟩ | e3
      · refine .inl ⟨k, e3, e4, fun H2 b2 wa2 => ?_⟩
        rw [capR_go e1 m12 e3] at h
        refine ⟨Nat.zero_le _, fun L hL => ?_⟩
        have u1 := Same.of_new (o := .lst []) hL
        have b02 := b1.trans b2
        have nLo : L ≠ o := fun e => by
          obtain ⟨_, _, _, q, _⟩ := wa2
          rw [e, q] at hL
          cases hL
        have hHL : H L = none := by
          cases q : H L with
          | none => rfl
          | some u =>
            have := b02 _ _ nLo q
            rw [hL] at this
            cases this
        have n1 := num_in e3
        refine ⟨CfInv C CT o L ws ln k ((m : Nat) : Int) H Q E, ⟨ws.length + 1, n + 2, k, [], rfl, by omega, n1, b02.trans (Same.but o u1), wa2.same u1, upd_same, Nat.zero_le _, by simp, ?_⟩, fun μ σ Hx ⟨n', left, done, es, hf, hn', bx, wx, eL, ld, lk, hk⟩ => ?_⟩
        · show CapEnd C CT o ws ln m H Q E [] (kindsRead ws k "" (n + 2))
          cases er : kindsRead ws k "" (n + 2) with
          | error e =>
            rw [er] at h
            exact h
          | ok r =>
            rw [er] at h
            exact h
        subst es
        obtain ⟨dx3, fs3, l3, k1, k2, k3, k4, k5, k6, k7⟩ := id wx
        refine ⟨_, rfl, L, _, rfl, .inl (SqL.of eL), _, rfl, _, _, rfl, rfl, _, rfl, ?_⟩
        rw [List.length_map]
        refine ite2 (fun c => ?_) (fun c => ?_)
        · have c : done.length < k := by
            have := of_decide_eq_true c
            omega
          obtain ⟨left', rfl⟩ : ∃ left', left = left' + 1 := ⟨left - 1, by omega⟩
          obtain ⟨μ', rfl⟩ : ∃ μ', μ = μ' + 1 := ⟨μ - 1, by omega⟩
          refine ⟨CfInv C CT o L ws ln k ((m : Nat) : Int) H Q E μ', fun σ' H' h => ⟨μ', Nat.lt_succ_self _, h⟩, ?_⟩
          have lst : ∃ last : Str, done.getLast?.getD "" = last := ⟨_, rfl⟩
          obtain ⟨last, el⟩ := lst
          rw [el] at hk
          have lz : (done.map V.str).length < sizeLine := by rw [List.length_map]; omega
          refine ⟨_, rfl, .inl ⟨rfl, _, SqL.of eL⟩, _, rfl, o, dx3, fs3, rfl, k1, k6 _ (by decide), _, rfl, !(done.map V.str).isEmpty, .inl ⟨_, SqL.of eL, rfl⟩, ?_⟩
          rcases List.eq_nil_or_concat done with hd | ⟨d', x, hd⟩
          · rw [hd]
            refine iteF ?_
            have el2 : last = "" := by rw [← el, hd]; rfl
            subst el2
            refine ⟨o, ws, ln, n', ("" : Str), rfl, wx, lw _, ?_⟩
            cases c1 : (nameB (pk ws n') && ltS ("" : Str) (pk ws n')) with
            | false =>
              rw [kinds_bad c1] at hk
              exact .inr ⟨rfl, fun H' d s nd => hk H' d (bx.trans (Same.but o s)) nd⟩
            | true =>
              refine .inl ⟨rfl, fun H4 b4 wa4 => ?_⟩
              rw [kinds_go c1] at hk
              refine ⟨L, _, _, rfl, rfl, b4 _ _ nLo eL, lz, ?_⟩
              have hn4 := name_in (Bool.and_eq_true_iff.mp c1).1
              obtain ⟨dx4, fs4, l4, p1, p2, p3, p4, p5, p6, p7⟩ := wa4
              refine ⟨n' + 1, left', done ++ [pk ws n'], rfl, by omega, hn4, fun b u nb e => ?_, ⟨dx4, fs4, l4, ?_, p2, p3, p4, ?_, p6, p7⟩, ?_, by rw [List.length_append, List.length_singleton]; omega, by rw [List.length_append, List.length_singleton]; omega, ?_⟩
              · rw [upd_ne (ne_of_none e hHL)]
                exact b4 _ _ nb (bx _ _ nb e)
              · rw [upd_ne (Ne.symm nLo)]
                exact p1
              · rw [upd_ne fun e => by
                  rw [e, b4 _ _ nLo eL] at p5
                  have := congrArg List.length (HO.lst.inj (Option.some.inj p5))
                  rw [List.length_map, List.length_map] at this
                  omega]
                exact p5
              · rw [upd_same, List.map_append]
                rfl
              · rw [show (done ++ [pk ws n']).getLast?.getD "" = pk ws n' by simp]
                cases er : kindsRead ws left' (pk ws n') (n' + 1) with
                | error e =>
                  rw [er] at hk
                  exact hk
                | ok r =>
                  rw [er] at hk
                  intro T' L' H' q0 q1 q2 q3 q4
                  exact hk T' L' H' q0 q1 q2 q3 (by rw [List.append_assoc] at q4; exact q4)
          · have el2 : last = x := by rw [← el, hd]; simp
            subst el2
            rw [show (!(done.map V.str).isEmpty) = true by rw [hd]; simp]
            refine iteT ?_
            refine ⟨_, rfl, _, rfl, L, _, _, _, rfl, rfl, SqL.of eL, by rw [hd, List.concat_eq_append, List.map_append]; exact atI_last _ _, ?_⟩
            refine ⟨o, ws, ln, n', last, rfl, wx, lw _, ?_⟩
            cases c1 : (nameB (pk ws n') && ltS last (pk ws n')) with
            | false =>
              rw [kinds_bad c1] at hk
              exact .inr ⟨rfl, fun H' d s nd => hk H' d (bx.trans (Same.but o s)) nd⟩
            | true =>
              refine .inl ⟨rfl, fun H4 b4 wa4 => ?_⟩
              rw [kinds_go c1] at hk
              refine ⟨L, _, _, rfl, rfl, b4 _ _ nLo eL, lz, ?_⟩
              have hn4 := name_in (Bool.and_eq_true_iff.mp c1).1
              obtain ⟨dx4, fs4, l4, p1, p2, p3, p4, p5, p6, p7⟩ := wa4
              refine ⟨n' + 1, left', done ++ [pk ws n'], rfl, by omega, hn4, fun b u nb e => ?_, ⟨dx4, fs4, l4, ?_, p2, p3, p4, ?_, p6, p7⟩, ?_, by rw [List.length_append, List.length_singleton]; omega, by rw [List.length_append, List.length_singleton]; omega, ?_⟩
              · rw [upd_ne (ne_of_none e hHL)]
                exact b4 _ _ nb (bx _ _ nb e)
              · rw [upd_ne (Ne.symm nLo)]
                exact p1
              · rw [upd_ne fun e => by
                  rw [e, b4 _ _ nLo eL] at p5
                  have := congrArg List.length (HO.lst.inj (Option.some.inj p5))
                  rw [List.length_map, List.length_map] at this
                  omega]
                exact p5
              · rw [upd_same, List.map_append]
                rfl
              · rw [show (done ++ [pk ws n']).getLast?.getD "" = pk ws n' by simp]
                cases er : kindsRead ws left' (pk ws n') (n' + 1) with
                | error e =>
                  rw [er] at hk
                  exact hk
                | ok r =>
                  rw [er] at hk
                  intro T' L' H' q0 q1 q2 q3 q4
                  exact hk T' L' H' q0 q1 q2 q3 (by rw [List.append_assoc] at q4; exact q4)
        · have c : ¬ done.length < k := fun h => c (decide_eq_true (by omega))
          have l0 : left = 0 := by omega
          subst l0
          refine ⟨_, rfl, _, rfl, by show (2 : Nat) ≤ sizeLine; omega, fun T hT => ?_⟩
          have uT := Same.of_new (o := .tup [.int m, .ref L]) hT
          exact hk T L _ hHL (bx.trans (Same.but o uT)) (wx.same uT) upd_same (by rw [List.append_nil]; exact uT _ _ eL)
      · rw [capR_bad2 e1 m12 e3] at h
        exact .inr ⟨fun k e => (by rw [e3] at e; cases e), fun d nd => h _ d b1 nd⟩
    · rw [capR_bad1 e3] at h
      exact .inr ⟨e2, fun d nd => h _ d (But.refl o H) nd⟩
/-! ### all steps -/
def StepAt (S : Addr) (H : Hp) : V → QStep → Prop
  | v, .cap m ks => ∃ T L, v = .ref T ∧ L ≠ S ∧ H T = some (.tup [.int m, .ref L]) ∧ H L = some (.lst (ks.map V.str))
  | v, .both => v = .str "both"
  | v, .either => v = .str "either"
def StepsAt (S : Addr) (H : Hp) : List V → List QStep → Prop
  | [], [] => True
  | v :: vs, s :: ss => StepAt S H v s ∧ StepsAt S H vs ss
  | _, _ => False
theorem StepAt.mono {S : Addr} {H H' : Hp} {v : V} {s : QStep} (h : StepAt S H v s) (k : ∀ b o, b ≠ S → (∀ C dx fs, o ≠ .ins C dx fs) → H b = some o → H' b = some o) (hS : ∃ xs, H S = some (.lst xs)) : StepAt S H' v s := by
  cases s with
  | cap m ks =>
    obtain ⟨T, L, e, n, h1, h2⟩ := h
    refine ⟨T, L, e, n, k _ _ (fun e => ?_) (fun _ _ _ h => by cases h) h1, k _ _ n (fun _ _ _ h => by cases h) h2⟩
    obtain ⟨xs, hS⟩ := hS
    rw [e, hS] at h1
    cases h1
  | both => exact h
  | either => exact h
theorem StepsAt.mono {S : Addr} {H H' : Hp} (k : ∀ b o, b ≠ S → (∀ C dx fs, o ≠ .ins C dx fs) → H b = some o → H' b = some o) (hS : ∃ xs, H S = some (.lst xs)) : ∀ {vs : List V} {ss : List QStep}, StepsAt S H vs ss → StepsAt S H' vs ss
  | [], [], _ => True.intro
  | v :: vs, s :: ss, h => ⟨h.1.mono k hS, StepsAt.mono k hS h.2⟩
  | [], _ :: _, h => h.elim
  | _ :: _, [], h => h.elim
theorem StepsAt.snoc {S : Addr} {H : Hp} {v : V} {s : QStep} (g : StepAt S H v s) : ∀ {vs : List V} {ss : List QStep}, StepsAt S H vs ss → StepsAt S H (vs ++ [v]) (ss ++ [s])
  | [], [], _ => ⟨g, True.intro⟩
  | w :: vs, t :: ss, h => ⟨h.1, StepsAt.snoc g h.2⟩
  | [], _ :: _, h => h.elim
  | _ :: _, [], h => h.elim
theorem StepsAt.len {S : Addr} {H : Hp} : ∀ {vs : List V} {ss : List QStep}, StepsAt S H vs ss → vs.length = ss.length
  | [], [], _ => rfl
  | v :: vs, s :: ss, h => by rw [List.length_cons, List.length_cons, StepsAt.len h.2]
  | [], _ :: _, h => h.elim
  | _ :: _, [], h => h.elim
def StepsEnd (C CT o : Addr) (ws : List Str) (ln : Nat) (H : Hp) (Q : VK) (E : XK) (done : List QStep) : Except Nat (List QStep × Nat) → Prop
  | .ok r => ∀ S vs H', But o H H' → WAt C H' o ws ln r.2 → H' S = some (.lst vs) → StepsAt S H' vs (done ++ r.1) → Q (.ref S) H'
  | .error e => ErrB CT o H E ln e
def spSf (C CT : Addr) : Sp := fun vs H Q E => ∃ (o : Addr) (ws : List Str) (ln : Nat), vs = [.ref o] ∧ WAt C H o ws ln 0 ∧ (∀ i, (pk ws i).length ≤ 1000) ∧ ws.length ≤ 900 ∧ StepsEnd C CT o ws ln H Q E [] (stepsRead ws (ws.length + 1) 1 0)
def SfInv (C CT o S : Addr) (ws : List Str) (ln : Nat) (H : Hp) (Q : VK) (E : XK) (f : Nat) (σ : L2.St) (Hx : Hp) : Prop := ∃ (n wanted : Nat) (vs : List V) (done : List QStep) (x3 : Option V), σ = [some (.ref o), some (.ref S), some (.int (wanted : Nat)), x3] ∧ ws.length < f + n ∧ n ≤ ws.length ∧ But o H Hx ∧ WAt C Hx o ws ln n ∧ Hx S = some (.lst vs) ∧ StepsAt S Hx vs done ∧ done.length ≤ n ∧ StepsEnd C CT o ws ln H Q E done (stepsRead ws f wanted n)
theorem steps_cap {ws : List Str} {f w n : Nat} (h : pk ws n = "cap") : stepsRead ws (f + 1) (w + 1) n = (match capRead ws (n + 1) with | .ok c => (match stepsRead ws f w c.2 with | .ok r => .ok (.cap c.1.1 c.1.2 :: r.1, r.2) | .error e => .error e) | .error e => .error e) := by
  rw [stepsRead, if_pos h] <;> rfl
theorem words_apart : ("both" : Str) ≠ "cap" ∧ ("either" : Str) ≠ "cap" ∧ ("either" : Str) ≠ "both" := by decide +kernel
theorem steps_both {ws : List Str} {f w n : Nat} (h : pk ws n = "both") : stepsRead ws (f + 1) (w + 1) n = (match stepsRead ws f (w + 2) (n + 1) with | .ok r => .ok (.both :: r.1, r.2) | .error e => .error e) := by
  rw [stepsRead, if_neg (by rw [h]; exact words_apart.1), if_pos h] <;> rfl
theorem steps_either {ws : List Str} {f w n : Nat} (h : pk ws n = "either") : stepsRead ws (f + 1) (w + 1) n = (match stepsRead ws f (w + 2) (n + 1) with | .ok r => .ok (.either :: r.1, r.2) | .error e => .error e) := by
  rw [stepsRead, if_neg (by rw [h]; exact words_apart.2.1), if_neg (by rw [h]; exact words_apart.2.2), if_pos h] <;> rfl
theorem steps_bad {ws : List Str} {f w n : Nat} (h : pk ws n ∉ [("cap" : Str), "both", "either"]) : stepsRead ws (f + 1) (w + 1) n = .error n := by
  rw [stepsRead, if_neg fun e => h (by rw [e]; simp), if_neg fun e => h (by rw [e]; simp), if_neg fun e => h (by rw [e]; simp)]
theorem steps_none {ws : List Str} {f n : Nat} : stepsRead ws f 0 n = .ok ([], n) := by
  cases f <;> rfl
abbrev nSf : List Str := ["words", "steps", "wanted", "word"]
theorem scSf : FnScope nSf ["words"] (defScope sSf) := ⟨rfl, rfl, rfl, by decide +kernel, rfl, by decide +kernel, by decide +kernel⟩
theorem ok_Sf {f fCf : Addr} {fd fdCf : FuncData} (F : Fun K "steps_from" "steps_from" sSf f fd) (F_cf : Fun K "cap_from" "cap_from" sCf fCf fdCf) (g_cf : mg "cap_from" = some (.ref fCf)) (n_len : mg "len" = none) (WH : WFQ P w K mg base C CT fMo fPk fCk fSt fTw fTn fEn fNu) : FnOk P w K mg base (L2.CX P w) 6 f fd ["words"] (spSf C CT) := by
  have WW := WH.f
  have W := WW.W
  have G_cf : FnOk P w K mg base (L2.CX P w) 5 fCf fdCf ["words"] (spCf C CT) := ok_Cf F_cf n_len WH
  have b_cf : Binds K fdCf ["words"] [] := F_cf.binds fun _ _ _ _ _ _ us hl => match us, hl with | [_], _ => rfl
  obtain ⟨_, G_take_word, b_take_word⟩ := WW.g_tw
  refine F.okX scSf (fun vs H Q E h => ?_) (fun cdv A outer s H vs Q E hr h => ?_)
  · obtain ⟨o, ws, ln, rfl, _⟩ := h
    rfl
  · obtain ⟨o, ws, ln, rfl, wa, lw, lws, h⟩ := h
    have hr5 : Room 5 _ := hr
    have h_take_word := hr5.mono (show 4 ≤ 5 by decide)
    have sz := sizeLine_eq
    refine ⟨_, (pss_cons (ps_set (i := 1) scSf.nd rfl (Or.inl rfl) (pe_lst pa_nil))
    (pss_cons (ps_set (i := 2) scSf.nd rfl (Or.inl rfl) pe_int)
    (pss_cons (ps_while (passes_of rfl) (pt_cmpR op_gt (pv 2) pe_int (nomark _)) (pss_cons (ps_set (i := 3) scSf.nd rfl (Or.inl rfl) (pe_meth (pv 0) W.cls W.m_take_word G_take_word h_take_word b_take_word .nil (passes_call (takes_of rfl rfl rfl rfl) (fun _ _ _ _ h => h)) (pa_cons (pe_tup (pa_cons pe_str (pa_cons pe_str (pa_cons pe_str pa_nil)))) pa_nil)))
    (pss_one (ps_if (pt_cmpR op_eq (pv 3) pe_str (nomark _)) (pss_cons (ps_expr (pe_bm PySem.F.plainAttrs_list PySem.F.slot_list_append PySem.F.type_list_append mt_append (pv 1) (pa_cons (pe_call G_cf hr5 (by rfl) g_cf F_cf.kp b_cf .nil (passes_call (takes_of rfl rfl rfl rfl) (fun _ _ _ _ h => h)) (pa_cons (pv 0) pa_nil)) pa_nil)))
    (pss_one (ps_set (i := 2) scSf.nd rfl (Or.inl rfl) (pe_op op_sub (pv 2) pe_int)))) (pss_cons (ps_expr (pe_bm PySem.F.plainAttrs_list PySem.F.slot_list_append PySem.F.type_list_append mt_append (pv 1) (pa_cons (pv 3) pa_nil)))
    (pss_one (ps_set (i := 2) scSf.nd rfl (Or.inl rfl) (pe_op op_add (pv 2) pe_int))))))))
    (pss_one (ps_ret (pv 1)))))), ?_⟩
    refine ⟨Nat.zero_le _, fun S hS => ?_⟩
    have u1 := Same.of_new (o := .lst []) hS
    have nSo : S ≠ o := fun e => by
      obtain ⟨_, _, _, q, _⟩ := wa
      rw [e, q] at hS
      cases hS
    refine ⟨SfInv C CT o S ws ln H Q E, ⟨ws.length + 1, 0, 1, [], [], _, rfl, by omega, Nat.zero_le _, Same.but o u1, wa.same u1, upd_same, True.intro, Nat.le_refl 0, h⟩, fun μ σ Hx ⟨n, wanted, vs, done, x3, es, hf, hn, bx, wx, eS, st, ld, hk⟩ => ?_⟩
    subst es
    obtain ⟨dx3, fs3, l3, k1, k2, k3, k4, k5, k6, k7⟩ := id wx
    refine ⟨_, rfl, _, _, rfl, rfl, _, rfl, ?_⟩
    refine ite2 (fun c => ?_) (fun c => ?_)
    · have c : 0 < wanted := by
        have := of_decide_eq_true c
        omega
      obtain ⟨w', rfl⟩ : ∃ w', wanted = w' + 1 := ⟨wanted - 1, by omega⟩
      obtain ⟨μ', rfl⟩ : ∃ μ', μ = μ' + 1 := ⟨μ - 1, by omega⟩
      refine ⟨SfInv C CT o S ws ln H Q E μ', fun σ' H' h => ⟨μ', Nat.lt_succ_self _, h⟩, ?_⟩
      refine ⟨_, rfl, o, dx3, fs3, rfl, k1, k6 _ (by decide), by show (3 : Nat) ≤ sizeLine; omega, fun T hT => ?_⟩
      have uT := Same.of_new (o := .tup ([("cap" : Str), "both", "either"].map V.str)) hT
      refine ⟨o, T, [("cap" : Str), "both", "either"], ws, ln, n, rfl, SqT.of upd_same, wx.same uT, ?_⟩
      by_cases cw : pk ws n ∈ [("cap" : Str), "both", "either"]
      · refine .inl ⟨cw, fun H4 b4 wa4 => ?_⟩
        have hn4 : n < ws.length := by
          simp only [List.mem_cons, List.not_mem_nil, or_false] at cw
          rcases cw with e | e | e
          · exact word_in e ends_ne.1
          · exact word_in e ends_ne.2.1
          · exact word_in e ends_ne.2.2
        have b04 := (bx.trans (Same.but o uT)).trans b4
        have kp : ∀ b u, b ≠ S → (∀ C dx fs, u ≠ .ins C dx fs) → Hx b = some u → H4 b = some u := fun b u _ ni e => b4 _ _ (fun q => by rw [q, k1] at e; exact ni _ _ _ (Option.some.inj e).symm) (uT _ _ e)
        have eS4 := b4 _ _ nSo (uT _ _ eS)
        have st4 := st.mono kp ⟨_, eS⟩
        have lvs := st.len
        have lz : vs.length < sizeLine := by omega
        refine ⟨_, rfl, rfl, _, rfl, ?_⟩
        by_cases cc : pk ws n = "cap"
        · rw [show decide (V.str (pk ws n) = V.str (Str.ofString "cap")) = true from decide_eq_true (by rw [cc])]
          refine iteT ?_
          rw [steps_cap cc] at hk
          refine ⟨_, rfl, .inl ⟨rfl, _, SqL.of eS4⟩, _, rfl, o, ws, ln, n + 1, rfl, wa4, lw, lws, ?_⟩
          cases ec : capRead ws (n + 1) with
          | error e =>
            rw [ec] at hk
            exact fun H' d b nd => hk H' d (b04.trans b) nd
          | ok cp =>
            rw [ec] at hk
            dsimp only at hk
            intro T5 L5 H5 fL b5 wa5 eT5 eL5
            have lwn : ∀ (Hq : Hp) (lq : Addr), Hq lq = some (.lst (ws.map V.str)) → Hq S = some (.lst vs) → lq ≠ S := fun Hq lq e1 e2 e => by
              rw [e, e2] at e1
              have := congrArg List.length (HO.lst.inj (Option.some.inj e1))
              rw [List.length_map] at this
              omega
            have eS5 := b5 _ _ nSo eS4
            obtain ⟨g1, g2, g3, g4⟩ := cap_ok ec
            have nLS : L5 ≠ S := fun e => by
              rw [e, eS4] at fL
              cases fL
            have nTS : T5 ≠ S := fun e => by
              rw [e, eS5] at eT5
              cases eT5
            refine ⟨S, _, _, rfl, rfl, eS5, lz, ?_⟩
            refine ⟨_, rfl, _, _, rfl, rfl, ?_⟩
            obtain ⟨dx4, fs4, l4, j1, _⟩ := wa4
            obtain ⟨dx5, fs5, l5, p1, p2, p3, p4, p5, p6, p7⟩ := wa5
            have nl5 := lwn H5 l5 p5 eS5
            have kept : ∀ b u, b ≠ S → (∀ C dx fs, u ≠ .ins C dx fs) → H4 b = some u → upd H5 S (.lst (vs ++ [.ref T5])) b = some u := fun b u nb ni e => by
              rw [upd_ne nb]
              exact b5 _ _ (fun q => by rw [q, j1] at e; exact ni _ _ _ (Option.some.inj e).symm) e
            refine ⟨cp.2, w', vs ++ [.ref T5], done ++ [.cap cp.1.1 cp.1.2], some (.str (pk ws n)), ?_, by omega, g4, fun b u nb e => ?_, ⟨dx5, fs5, l5, ?_, p2, p3, p4, ?_, p6, p7⟩, upd_same, StepsAt.snoc (s := .cap cp.1.1 cp.1.2) ?_ (st4.mono kept ⟨_, eS4⟩), by rw [List.length_append, List.length_singleton]; omega, ?_⟩
            · show [some (V.ref o), some (V.ref S), some (V.int (((w' + 1 : Nat) : Int) - 1)), some (V.str (pk ws n))] = _
              rw [show ((w' + 1 : Nat) : Int) - 1 = ((w' : Nat) : Int) by omega]
            · rw [upd_ne (ne_of_none e hS)]
              exact b5 _ _ nb (b04 _ _ nb e)
            · rw [upd_ne (Ne.symm nSo)]
              exact p1
            · rw [upd_ne nl5]
              exact p5
            · refine ⟨T5, L5, rfl, nLS, ?_, ?_⟩
              · rw [upd_ne nTS]
                exact eT5
              · rw [upd_ne nLS]
                exact eL5
            · cases er : stepsRead ws μ' w' cp.2 with
              | error e =>
                rw [er] at hk
                exact hk
              | ok r =>
                rw [er] at hk
                intro S' vs' H' q1 q2 q3 q4
                exact hk S' vs' H' q1 q2 q3 (by rw [List.append_assoc] at q4; exact q4)
        · rw [show decide (V.str (pk ws n) = V.str (Str.ofString "cap")) = false from decide_eq_false (fun q => cc (V.str.inj q))]
          refine iteF ?_
          refine ⟨_, rfl, .inl ⟨rfl, _, SqL.of eS4⟩, _, rfl, ?_⟩
          have lwn : ∀ (Hq : Hp) (lq : Addr), Hq lq = some (.lst (ws.map V.str)) → Hq S = some (.lst vs) → lq ≠ S := fun Hq lq e1 e2 e => by
            rw [e, e2] at e1
            have := congrArg List.length (HO.lst.inj (Option.some.inj e1))
            rw [List.length_map] at this
            omega
          simp only [List.mem_cons, List.not_mem_nil, or_false] at cw
          rcases cw with cc | cc | cc
          · exact absurd cc (by assumption)
          · rw [steps_both cc] at hk
            refine ⟨S, _, _, rfl, rfl, eS4, lz, ?_⟩
            refine ⟨_, rfl, _, _, rfl, rfl, ?_⟩
            obtain ⟨dx5, fs5, l5, p1, p2, p3, p4, p5, p6, p7⟩ := wa4
            have nl5 := lwn H4 l5 p5 eS4
            have kept : ∀ b u, b ≠ S → (∀ C dx fs, u ≠ .ins C dx fs) → H4 b = some u → upd H4 S (.lst (vs ++ [.str (pk ws n)])) b = some u := fun b u nb _ e => by
              rw [upd_ne nb]
              exact e
            refine ⟨n + 1, w' + 2, vs ++ [.str (pk ws n)], done ++ [.both], some (.str (pk ws n)), ?_, by omega, hn4, fun b u nb e => ?_, ⟨dx5, fs5, l5, ?_, p2, p3, p4, ?_, p6, p7⟩, upd_same, StepsAt.snoc ?_ (st4.mono kept ⟨_, eS4⟩), by rw [List.length_append, List.length_singleton]; omega, ?_⟩
            · show [some (V.ref o), some (V.ref S), some (V.int (((w' + 1 : Nat) : Int) + 1)), some (V.str (pk ws n))] = _
              rfl
            · rw [upd_ne (ne_of_none e hS)]
              exact b04 _ _ nb e
            · rw [upd_ne (Ne.symm nSo)]
              exact p1
            · rw [upd_ne nl5]
              exact p5
            · exact congrArg V.str cc
            · cases er : stepsRead ws μ' (w' + 2) (n + 1) with
              | error e =>
                rw [er] at hk
                exact hk
              | ok r =>
                rw [er] at hk
                intro S' vs' H' q1 q2 q3 q4
                exact hk S' vs' H' q1 q2 q3 (by rw [List.append_assoc] at q4; exact q4)
          · rw [steps_either cc] at hk
            refine ⟨S, _, _, rfl, rfl, eS4, lz, ?_⟩
            refine ⟨_, rfl, _, _, rfl, rfl, ?_⟩
            obtain ⟨dx5, fs5, l5, p1, p2, p3, p4, p5, p6, p7⟩ := wa4
            have nl5 := lwn H4 l5 p5 eS4
            have kept : ∀ b u, b ≠ S → (∀ C dx fs, u ≠ .ins C dx fs) → H4 b = some u → upd H4 S (.lst (vs ++ [.str (pk ws n)])) b = some u := fun b u nb _ e => by
              rw [upd_ne nb]
              exact e
            refine ⟨n + 1, w' + 2, vs ++ [.str (pk ws n)], done ++ [.either], some (.str (pk ws n)), ?_, by omega, hn4, fun b u nb e => ?_, ⟨dx5, fs5, l5, ?_, p2, p3, p4, ?_, p6, p7⟩, upd_same, StepsAt.snoc ?_ (st4.mono kept ⟨_, eS4⟩), by rw [List.length_append, List.length_singleton]; omega, ?_⟩
            · show [some (V.ref o), some (V.ref S), some (V.int (((w' + 1 : Nat) : Int) + 1)), some (V.str (pk ws n))] = _
              rfl
            · rw [upd_ne (ne_of_none e hS)]
              exact b04 _ _ nb e
            · rw [upd_ne (Ne.symm nSo)]
              exact p1
            · rw [upd_ne nl5]
              exact p5
            · exact congrArg V.str cc
            · cases er : stepsRead ws μ' (w' + 2) (n + 1) with
              | error e =>
                rw [er] at hk
                exact hk
              | ok r =>
                rw [er] at hk
                intro S' vs' H' q1 q2 q3 q4
                exact hk S' vs' H' q1 q2 q3 (by rw [List.append_assoc] at q4; exact q4)
      · refine .inr ⟨cw, ?_⟩
        rw [steps_bad cw] at hk
        exact fun d nd => hk _ d (bx.trans (Same.but o uT)) nd
    · have c : wanted = 0 := by
        rcases Nat.eq_zero_or_pos wanted with h | h
        · exact h
        · exact absurd (decide_eq_true (by omega)) c
      subst c
      rw [steps_none] at hk
      exact ⟨_, rfl, hk S vs Hx bx wx eS (by rw [List.append_nil]; exact st)⟩
end
end K10
end
section
set_option pp.maxSteps 400
set_option pp.deepTerms.threshold 6
/-! Quotas read: the quota that steps tell. -/
namespace K10
open PySem PySem.Spec PyProof.Rows L2
abbrev sQs : Stmt := top 29
abbrev sQt : Stmt := top 26
/-! ### sums over trees and over steps -/
def cnt (f : Int → List Str → Nat) (b e : Nat) : List QStep → Nat
  | [] => 0
  | .cap m ks :: r => f m ks + cnt f b e r
  | .both :: r => b + cnt f b e r
  | .either :: r => e + cnt f b e r
def QT.wt (f : Int → List Str → Nat) (b e : Nat) : QT → Nat
  | .cap m ks => f m ks
  | .both x y => b + (x.wt f b e + y.wt f b e)
  | .either x y => e + (x.wt f b e + y.wt f b e)
def sumT (f : Int → List Str → Nat) (b e : Nat) (ts : List QT) : Nat := (ts.map (QT.wt f b e)).sum
theorem forest_tl {s : QStep} {r : List QStep} {ts : List QT} (h : forestO (s :: r) = some ts) : ∃ us, forestO r = some us := by
  cases e : forestO r with
  | some us => exact ⟨us, rfl⟩
  | none => cases s <;> (unfold forestO at h; rw [e] at h; cases h)
theorem forest_drop : ∀ {ss : List QStep} {ts : List QT} (j : Nat), forestO ss = some ts → ∃ us, forestO (ss.drop j) = some us
  | ss, ts, 0, h => ⟨ts, h⟩
  | [], ts, j + 1, h => ⟨ts, h⟩
  | s :: r, ts, j + 1, h => by
    obtain ⟨us, e⟩ := forest_tl h
    exact forest_drop j e
theorem joinO_some {mk : QT → QT → QT} {o : Option (List QT)} {ts : List QT} (h : joinO mk o = some ts) : ∃ x y r, o = some (x :: y :: r) ∧ ts = mk x y :: r := by
  match o, h with
  | some (x :: y :: r), h => exact ⟨x, y, r, rfl, (Option.some.inj h).symm⟩
theorem forest_sum (f : Int → List Str → Nat) (b e : Nat) : ∀ {ss : List QStep} {ts : List QT}, forestO ss = some ts → sumT f b e ts = cnt f b e ss
  | [], ts, h => by
    cases h
    rfl
  | .cap m ks :: r, ts, h => by
    obtain ⟨us, eu, rfl⟩ := Option.map_eq_some_iff.mp (show (forestO r).map (QT.cap m ks :: ·) = some ts from h)
    have := forest_sum f b e eu
    show f m ks + sumT f b e us = f m ks + cnt f b e r
    rw [this]
  | .both :: r, ts, h => by
    obtain ⟨x, y, us, eu, rfl⟩ := joinO_some (show joinO QT.both (forestO r) = some ts from h)
    have := forest_sum f b e eu
    have this : x.wt f b e + (y.wt f b e + sumT f b e us) = cnt f b e r := this
    show b + (x.wt f b e + y.wt f b e) + sumT f b e us = b + cnt f b e r
    omega
  | .either :: r, ts, h => by
    obtain ⟨x, y, us, eu, rfl⟩ := joinO_some (show joinO QT.either (forestO r) = some ts from h)
    have := forest_sum f b e eu
    have this : x.wt f b e + (y.wt f b e + sumT f b e us) = cnt f b e r := this
    show e + (x.wt f b e + y.wt f b e) + sumT f b e us = e + cnt f b e r
    omega
theorem cnt_tl (f : Int → List Str → Nat) (b e : Nat) (s : QStep) (r : List QStep) : cnt f b e r ≤ cnt f b e (s :: r) := by
  cases s <;> (show _ ≤ _ + _; omega)
theorem cnt_drop (f : Int → List Str → Nat) (b e : Nat) : ∀ (ss : List QStep) (j : Nat), cnt f b e (ss.drop j) ≤ cnt f b e ss
  | ss, 0 => Nat.le_refl _
  | [], j + 1 => Nat.le_refl _
  | s :: r, j + 1 => Nat.le_trans (cnt_drop f b e r j) (cnt_tl f b e s r)
abbrev fCaps : Int → List Str → Nat := fun _ _ => 1
abbrev fKinds : Int → List Str → Nat := fun _ ks => ks.length
abbrev fText : Int → List Str → Nat := fun m ks => (QT.cap m ks).text.length + 1
theorem wt_caps : ∀ t : QT, t.wt fCaps 0 0 = t.caps.length
  | .cap _ _ => rfl
  | .both a b => by
    show 0 + (a.wt fCaps 0 0 + b.wt fCaps 0 0) = (a.caps ++ b.caps).length
    rw [List.length_append, wt_caps a, wt_caps b, Nat.zero_add]
  | .either a b => by
    show 0 + (a.wt fCaps 0 0 + b.wt fCaps 0 0) = (a.caps ++ b.caps).length
    rw [List.length_append, wt_caps a, wt_caps b, Nat.zero_add]
theorem wt_kinds : ∀ t : QT, t.wt fKinds 0 0 = t.kinds.length
  | .cap m ks => by
    show ks.length = (([(m, ks)] : List (Int × List Str)).flatMap (·.2)).length
    simp
  | .both a b => by
    show 0 + (a.wt fKinds 0 0 + b.wt fKinds 0 0) = ((a.caps ++ b.caps).flatMap (·.2)).length
    rw [List.flatMap_append, List.length_append, wt_kinds a, wt_kinds b, Nat.zero_add]
    rfl
  | .either a b => by
    show 0 + (a.wt fKinds 0 0 + b.wt fKinds 0 0) = ((a.caps ++ b.caps).flatMap (·.2)).length
    rw [List.flatMap_append, List.length_append, wt_kinds a, wt_kinds b, Nat.zero_add]
    rfl
theorem wt_text : ∀ t : QT, t.wt fText 5 7 = t.text.length + 1
  | .cap _ _ => rfl
  | .both a b => by
    obtain ⟨e1, e2, e3⟩ := joint_signs
    show 5 + (a.wt fText 5 7 + b.wt fText 5 7) = ("both " ++ a.text ++ " " ++ b.text : Str).length + 1
    rw [wt_text a, wt_text b, Str.length_append, Str.length_append, Str.length_append, e1, e3]
    omega
  | .either a b => by
    obtain ⟨e1, e2, e3⟩ := joint_signs
    show 7 + (a.wt fText 5 7 + b.wt fText 5 7) = ("either " ++ a.text ++ " " ++ b.text : Str).length + 1
    rw [wt_text a, wt_text b, Str.length_append, Str.length_append, Str.length_append, e2, e3]
    omega
/-! ### kinds -/
theorem ltS_tr {x y z : Str} (h1 : ltS x y = true) (h2 : ltS y z = true) : ltS x z = true := decide_eq_true (List.lt_trans (of_decide_eq_true h1) (of_decide_eq_true h2))
theorem ltS_ir {x : Str} : ltS x x = false := decide_eq_false (List.lt_irrefl _)
theorem ltS_as {x y : Str} (h1 : ltS x y = true) : ltS y x = false := by
  cases e : ltS y x with
  | false => rfl
  | true =>
    have := ltS_tr h1 e
    rw [ltS_ir] at this
    cases this
theorem upN_low : ∀ {ks : List Str} {last : Str}, UpN last ks → ∀ z ∈ ks, ltS last z = true
  | x :: r, last, ⟨a, _, u⟩, z, hz => by
    rcases List.mem_cons.mp hz with rfl | hz
    · exact a
    · exact ltS_tr a (upN_low u z hz)
theorem upN_names : ∀ {ks : List Str} {last : Str}, UpN last ks → ∀ z ∈ ks, nameB z = true
  | x :: r, last, ⟨_, b, u⟩, z, hz => by
    rcases List.mem_cons.mp hz with rfl | hz
    · exact b
    · exact upN_names u z hz
theorem upN_nd : ∀ {ks : List Str} {last : Str}, UpN last ks → ks.Nodup
  | [], _, _ => List.nodup_nil
  | x :: r, last, ⟨_, _, u⟩ => by
    refine List.nodup_cons.mpr ⟨fun h => ?_, upN_nd u⟩
    have := upN_low u x h
    rw [ltS_ir] at this
    cases this
theorem upN_pw : ∀ {ks : List Str} {last : Str}, UpN last ks → ks.Pairwise leS
  | [], _, _ => List.Pairwise.nil
  | x :: r, last, ⟨_, _, u⟩ => by
    refine List.pairwise_cons.mpr ⟨fun y hy => ?_, upN_pw u⟩
    have h := ltS_as (upN_low u y hy)
    exact of_decide_eq_false h
theorem upN_eq {ks zs : List Str} {last : Str} (u : UpN last ks) (p : zs.Perm ks) (s : sortedS zs = true) : zs = ks :=
  asc_aux zs ks (sorted_pw zs s) (upN_pw u) (p.nodup_iff.mpr (upN_nd u)) (upN_nd u) fun z => p.mem_iff
theorem name_le {z : Str} (h : nameB z = true) : z.length ≤ 1000 := by
  obtain ⟨h, _⟩ := Bool.and_eq_true_iff.mp h
  obtain ⟨_, h⟩ := Bool.and_eq_true_iff.mp h
  have := of_decide_eq_true h
  omega
/-! ### steps on the heap -/
def GoodSt (ss : List QStep) : Prop := ∀ m ks, QStep.cap m ks ∈ ss → GoodU (m, ks) ∧ ks.length ≤ 60
def QsAt (a : QAd) (H : Hp) : List Addr → List QT → Prop
  | [], [] => True
  | q :: qs, t :: ts => QTr a H t q ∧ QsAt a H qs ts
  | _, _ => False
theorem QsAt.same {a : QAd} {H H' : Hp} (s : Same H H') : ∀ {qs : List Addr} {ts : List QT}, QsAt a H qs ts → QsAt a H' qs ts
  | [], [], _ => True.intro
  | _ :: _, _ :: _, h => ⟨h.1.same s, QsAt.same s h.2⟩
  | [], _ :: _, h => h.elim
  | _ :: _, [], h => h.elim
theorem QsAt.mono {a : QAd} {H H' : Hp} (s : ∀ k xs, H k = some (.tup xs) → H' k = some (.tup xs)) (s2 : ∀ k C dx fs, H k = some (.ins C dx fs) → H' k = some (.ins C dx fs)) : ∀ {qs : List Addr} {ts : List QT}, QsAt a H qs ts → QsAt a H' qs ts
  | [], [], _ => True.intro
  | _ :: _, _ :: _, h => ⟨h.1.mono s s2, QsAt.mono s s2 h.2⟩
  | [], _ :: _, h => h.elim
  | _ :: _, [], h => h.elim
theorem StepsAt.get {S : Addr} {H : Hp} : ∀ {vs : List V} {ss : List QStep} {j : Nat} {v : V}, StepsAt S H vs ss → vs[j]? = some v → ∃ s, ss.drop j = s :: ss.drop (j + 1) ∧ StepAt S H v s ∧ s ∈ ss
  | [], [], j, v, _, e => by cases e
  | w :: vs, s :: ss, 0, v, h, e => by
    cases e
    exact ⟨s, rfl, h.1, List.mem_cons_self⟩
  | w :: vs, s :: ss, j + 1, v, h, e => by
    obtain ⟨s2, e2, g, m⟩ := StepsAt.get h.2 (show vs[j]? = some v from e)
    exact ⟨s2, e2, g, List.mem_cons_of_mem _ m⟩
  | [], _ :: _, _, _, h, _ => h.elim
  | _ :: _, [], _, _, h, _ => h.elim
/-- no step is changed where all stays -/
theorem StepAt.same {S : Addr} {H H' : Hp} {v : V} {s : QStep} (h : StepAt S H v s) (k : Same H H') : StepAt S H' v s := by
  cases s with
  | cap m ks =>
    obtain ⟨T, L, e, n, h1, h2⟩ := h
    exact ⟨T, L, e, n, k _ _ h1, k _ _ h2⟩
  | both => exact h
  | either => exact h
theorem StepsAt.same {S : Addr} {H H' : Hp} (k : Same H H') : ∀ {vs : List V} {ss : List QStep}, StepsAt S H vs ss → StepsAt S H' vs ss
  | [], [], _ => True.intro
  | _ :: _, _ :: _, h => ⟨h.1.same k, StepsAt.same k h.2⟩
  | [], _ :: _, h => h.elim
  | _ :: _, [], h => h.elim
/-- what the quota of steps is -/
def QMadeOf (a : QAd) (t : QT) (H : Hp) (Q : VK) (E : XK) : Prop := (t.caps.length ≤ 20 → ∀ q H', H q = none → Same H H' → QTr a H' t q → Q (.ref q) H') ∧
  (20 < t.caps.length → ∀ H' d, Same H H' → H' d = none → E (.ref a.CT) (some d) (upd H' d (.xd manyXd)))
def spQs (a : QAd) : Sp := fun vs H Q E => ∃ (S : Addr) (xs : List V) (ss : List QStep) (t : QT), vs = [.ref S] ∧ H S = some (.lst xs) ∧ StepsAt S H xs ss ∧ ss.length ≤ 1000 ∧ forestO ss = some [t] ∧ GoodSt ss ∧ cnt fKinds 0 0 ss < 64 ∧ cnt fText 5 7 ss ≤ 100000 ∧ QMadeOf a t H Q E
theorem cap_sh (m : Int) {ks : List Str} (h : ∀ z ∈ ks, nameB z = true) : SeqAt.shaped (.tuple [.int m, .list (ks.map PyData.str)]) = true := by
  have l0 : PyData.canLayAll0 (ks.map PyData.str) = true := OwD.lays ks fun z hz => by
    rw [PyData.canLay0]
    exact name_strOk (h z hz)
  have d0 : PyData.depthAll (ks.map PyData.str) ≤ 0 := OwD.deps ks fun z hz => Nat.le_of_ble_eq_true rfl
  refine OwD.shaped_of ?_ ?_
  · simp [PyData.canLay0, PyData.canLayAll0, l0]
  · simp [PyData.depth, PyData.depthAll]
    omega
theorem cap_ne (m : Int) (ks : List Str) (z : Str) : PyData.eqv (.tuple [.int m, .list (ks.map PyData.str)]) (.str z) = false := by simp [PyData.eqv]
theorem str_sh : SeqAt.shaped (.str "both") = true ∧ SeqAt.shaped (.str "either") = true := by decide +kernel
theorem str_eqs : PyData.eqv (.str "both") (.str "both") = true ∧ PyData.eqv (.str "either") (.str "both") = false ∧ PyData.eqv (.str "either") (.str "either") = true := by decide +kernel
abbrev partsL (qs : List Addr) : List V := (qs.map V.ref).reverse
theorem partsL_cons (q : Addr) (qs : List Addr) : partsL (q :: qs) = partsL qs ++ [.ref q] := by simp [partsL]
theorem last_get {α : Type} (xs : List α) (y : α) : (xs ++ [y])[(xs ++ [y]).length - 1]? = some y := by simp
theorem parts_len (qs : List Addr) : (partsL qs).length = qs.length := by simp [partsL]
theorem QsAt.len {a : QAd} {H : Hp} : ∀ {qs : List Addr} {ts : List QT}, QsAt a H qs ts → qs.length = ts.length
  | [], [], _ => rfl
  | _ :: _, _ :: _, h => by rw [List.length_cons, List.length_cons, QsAt.len h.2]
  | [], _ :: _, h => h.elim
  | _ :: _, [], h => h.elim
theorem sumT_cons (f : Int → List Str → Nat) (b e : Nat) (t : QT) (ts : List QT) : sumT f b e (t :: ts) = t.wt f b e + sumT f b e ts := by simp [sumT]
theorem made_joinX {K : PySem.W.Frag} {CQ fL fS C CU CT z dz : Addr} {mk : QT → QT → QT} {H : Hp} {x y : V} {Q : VK} {E : XK} (h : MadeJoin K CQ fL fS C CU CT mk H x y (fun v G => v = .ref z → Q .non G) E) (h1 : H z = none) (h2 : H dz = none) :
    spJoin0 K CQ fL fS C CU CT mk [.ref z, x, y] (upd (upd H dz (.own z)) z (.ins C dz [])) Q E := by
  have s0 : Same H (upd (upd H dz (.own z)) z (.ins C dz [])) := fun b o e => by
    rw [upd_ne (ne_of_none e h1), upd_ne (ne_of_none e h2)]
    exact e
  exact ⟨z, dz, x, y, rfl, upd_same, h.row h1 s0 fun H' sb => ⟨fun q => q rfl, made_same h1 h2 sb⟩⟩
theorem made_capX {K : PySem.W.Frag} {C CN CM z dz : Addr} {H : Hp} {y : V} {xs : List V} {Q : VK} {E : XK} (h : MadeCap K C CN CM H y xs (fun v G => v = .ref z → Q .non G) E) (h1 : H z = none) (h2 : H dz = none) :
    spCap K C CN CM (.ref z :: y :: xs) (upd (upd H dz (.own z)) z (.ins C dz [])) Q E := by
  have s0 : Same H (upd (upd H dz (.own z)) z (.ins C dz [])) := fun b o e => by
    rw [upd_ne (ne_of_none e h1), upd_ne (ne_of_none e h2)]
    exact e
  exact ⟨z, dz, y, xs, rfl, upd_same, h.row h1 s0 fun H' sb => ⟨fun q => q rfl, made_same h1 h2 sb⟩⟩
/-- a joint of two parts -/
theorem join_turn {P : Program} {w : World} {K : PySem.W.Frag} {mg : Str → Option Value} {base : Heap} {a : QAd} (R : QF P w K mg base a) {C : Addr} {mk : QT → QT → QT} {H : Hp} {q1 q2 : Addr} {t u : QT} {ts : List QT} {ss : List QStep} {j : Nat} {Q : VK} {E : XK} (er : forestO (ss.drop j) = some (t :: u :: ts)) (h1 : QTr a H t q1) (h2 : QTr a H u q2) (ck : cnt fKinds 0 0 ss < 64) (ct : cnt fText 5 7 ss ≤ 100000) (l1 : t.caps.length ≤ 20) (l2 : u.caps.length ≤ 20)
    (q : t.caps.length + u.caps.length ≤ 20 → ∀ z H', H z = none → Same H H' → QAt C H' z (mk t u) → PairOf C H' z (.ref q1) (.ref q2) → Q (.ref z) H')
    (qx : 20 < cnt fCaps 0 0 ss → ∀ H' d, Same H H' → H' d = none → E (.ref a.CT) (some d) (upd H' d (.xd manyXd))) : MadeJoin K a.CQ a.fL a.fS C a.CU a.CT mk H (.ref q1) (.ref q2) Q E := by
  have s1 := forest_sum fCaps 0 0 er
  have s2 := forest_sum fKinds 0 0 er
  have s3 := forest_sum fText 5 7 er
  have d1 := cnt_drop fCaps 0 0 ss j
  have d2 := cnt_drop fKinds 0 0 ss j
  have d3 := cnt_drop fText 5 7 ss j
  rw [sumT_cons, sumT_cons, wt_caps, wt_caps] at s1
  rw [sumT_cons, sumT_cons, wt_kinds, wt_kinds] at s2
  rw [sumT_cons, sumT_cons, wt_text, wt_text] at s3
  exact .inl ⟨q1, q2, t, u, rfl, rfl, h1.any R, h2.any R, l1, l2, by rw [List.length_append]; omega, by omega, by omega, q, fun c => qx (by omega)⟩
section
variable {P : Program} {w : World} {K : PySem.W.Frag} {mg : Str → Option Value} {base : Heap}
abbrev nQs : List Str := ["steps", "parts", "step", "most", "kinds"]
theorem scQs : FnScope nQs ["steps"] (defScope sQs) := ⟨rfl, rfl, rfl, by decide +kernel, rfl, by decide +kernel, by decide +kernel⟩
theorem ok_Qs {a : QAd} {f : Addr} {fd : FuncData} (R : QF P w K mg base a) (F : Fun K "quota_of_steps" "quota_of_steps" sQs f fd) : FnOk P w K mg base (L2.CX P w) 6 f fd ["steps"] (spQs a) := by
  refine F.okX scQs (fun vs H Q E h => ?_) (fun cdv A outer s H vs Q E hr h => ?_)
  · obtain ⟨S, xs, ss, t, rfl, _⟩ := h
    rfl
  · obtain ⟨S, xs, ss, t, rfl, eS, st, ls, ef, gs, ck, ct, hq, hx⟩ := h
    have hr5 : Room 5 _ := hr
    have hud := hr.units
    have sz := sizeLine_eq
    have lx : xs.length = ss.length := st.len
    have tsum : cnt fCaps 0 0 ss = t.caps.length := by
      rw [← forest_sum fCaps 0 0 ef, sumT_cons, wt_caps]
      rfl
    refine ⟨_, (pss_cons (ps_set (i := 1) scQs.nd rfl (Or.inl rfl) (pe_lst pa_nil))
    (pss_cons (ps_for (passes_of rfl) rfl (pi_list (pe_revL (pv 0))) (pg_name (i := 2) scQs.nd rfl (Or.inl rfl)) (pss_one (ps_if (pt_cmpR (op_eqD hud) (pv 2) pe_str (nomark _)) (pss_one (ps_expr (pe_bm PySem.F.plainAttrs_list PySem.F.slot_list_append PySem.F.type_list_append mt_append (pv 1) (pa_cons (StX.pe_makeR R.mkB R.GB hr5 (by rfl) R.gB (passes_call (takes_of rfl rfl rfl rfl) (fun _ _ _ _ h => h)) (pa_cons (pe_bm0 PySem.F.plainAttrs_list PySem.F.slot_list_pop PySem.F.type_list_pop mt_pop (pv 1)) (pa_cons (pe_bm0 PySem.F.plainAttrs_list PySem.F.slot_list_pop PySem.F.type_list_pop mt_pop (pv 1)) pa_nil))) pa_nil)))) (pss_one (ps_if (pt_cmpR (op_eqD hud) (pv 2) pe_str (nomark _)) (pss_one (ps_expr (pe_bm PySem.F.plainAttrs_list PySem.F.slot_list_append PySem.F.type_list_append mt_append (pv 1) (pa_cons (StX.pe_makeR R.mkE R.GE hr5 (by rfl) R.gE (passes_call (takes_of rfl rfl rfl rfl) (fun _ _ _ _ h => h)) (pa_cons (pe_bm0 PySem.F.plainAttrs_list PySem.F.slot_list_pop PySem.F.type_list_pop mt_pop (pv 1)) (pa_cons (pe_bm0 PySem.F.plainAttrs_list PySem.F.slot_list_pop PySem.F.type_list_pop mt_pop (pv 1)) pa_nil))) pa_nil)))) (pss_cons (ps_asg (pv 2) (pg_tup rfl (pgs_cons (pg_name (i := 3) scQs.nd rfl (Or.inl rfl)) (pgs_cons (pg_name (i := 4) scQs.nd rfl (Or.inl rfl)) pgs_nil))))
    (pss_one (ps_expr (pe_bm PySem.F.plainAttrs_list PySem.F.slot_list_append PySem.F.type_list_append mt_append (pv 1) (pa_cons (OwR.pe_makeS2 R.mkC R.GC hr5 (by rfl) R.gC (passes_call (takes_of rfl rfl rfl rfl) (fun _ _ _ _ h => h)) (pa_cons (pv 3) (StX.pa_star (pv 4) pa_nil))) pa_nil))))))))))
    (pss_one (ps_ret (pe_ix ix_list (pv 1) pe_int (fun _ _ => rfl)))))), ?_⟩
    refine ⟨Nat.zero_le _, fun D hD => ?_⟩
    have u1 := Same.of_new (o := .lst []) hD
    refine ⟨_, rfl, S, _, rfl, SqL.of (u1 _ _ eS), fun L1 hL1 => ⟨L1, rfl, ⟨_, SqL.of upd_same⟩, ?_⟩⟩
    have u2 := Same.of_new (o := .lst xs.reverse) hL1
    have n1D : L1 ≠ D := fun e => by
      rw [e, upd_same] at hL1
      cases hL1
    refine for_it (walk_list (xs := xs.reverse)) (fun i σ Hx => ∃ (qs : List Addr) (ts : List QT) (x2 x3 x4 : Option V), σ = [some (.ref S), some (.ref D), x2, x3, x4] ∧ Same H Hx ∧ Hx L1 = some (.lst xs.reverse) ∧ Hx D = some (.lst (partsL qs)) ∧ QsAt a Hx qs ts ∧ (∀ q ∈ qs, H q = none) ∧ (∀ u ∈ ts, u.caps.length ≤ 20) ∧ forestO (ss.drop (ss.length - i)) = some ts ∧ qs.length ≤ i)
      ⟨[], [], none, none, none, rfl, u1.trans u2, upd_same, u2 _ _ upd_same, True.intro, fun q h => (by cases h), fun u h => (by cases h), by rw [Nat.sub_zero, List.drop_length]; rfl, Nat.le_refl 0⟩ (fun i σ Hx _ q => by
        obtain ⟨_, _, _, _, _, _, _, e1, _⟩ := q
        exact SqL.of e1) (fun i x σ Hx Hy hi q0 y => ?_) (fun σ Hx q0 => ?_)
    · obtain ⟨qs, ts, x2, x3, x4, rfl, sx, eL1, eD, qa, fr, lc, ef2, lq⟩ := q0
      obtain ⟨rfl, ex⟩ := y
      rw [List.length_reverse] at hi
      rw [List.getElem?_reverse hi] at ex
      obtain ⟨s, es, sAt, sm⟩ := (st.same sx).get ex
      have ej : xs.length - 1 - i + 1 = ss.length - i := by omega
      have ej2 : xs.length - 1 - i = ss.length - (i + 1) := by omega
      rw [ej, ej2] at es
      obtain ⟨us, eu⟩ := forest_drop (ss.length - (i + 1)) ef
      have eu2 := eu
      rw [es] at eu
      have lz : qs.length < sizeLine := by omega
      match s, sAt, sm, es, eu with
      | .both, sAt, sm, es, eu =>
        have ev : x = .str "both" := sAt
        subst ev
        obtain ⟨t1, t2, rest, er, rfl⟩ := joinO_some (show joinO QT.both (forestO (ss.drop (ss.length - i))) = some us from eu)
        have ets : ts = t1 :: t2 :: rest := Option.some.inj (ef2.symm.trans er)
        subst ets
        obtain ⟨q1, q2, qs, rfl⟩ : ∃ q1 q2 rs, qs = q1 :: q2 :: rs := match qs, qa with
          | q1 :: q2 :: rs, _ => ⟨q1, q2, rs, rfl⟩
        obtain ⟨a1, a2, ar⟩ := qa
        rw [partsL_cons, partsL_cons] at eD
        refine ⟨_, rfl, .str "both", .str "both", .str _, .str _, str_sh.1, str_sh.1, _, rfl, ?_⟩
        rw [str_eqs.1]
        refine iteT ?_
        refine ⟨_, rfl, .inl ⟨rfl, _, SqL.of eD⟩, _, rfl, .inl ⟨rfl, _, SqL.of eD⟩, D, _, .ref q1, rfl, rfl, eD, last_get _ _, ?_⟩
        rw [List.dropLast_concat]
        refine ⟨_, rfl, .inl ⟨rfl, _, SqL.of upd_same⟩, D, _, .ref q2, rfl, rfl, upd_same, last_get _ _, ?_⟩
        rw [List.dropLast_concat]
        have tD : ∀ (G : Hp) (o : HO) (b : Addr) (u : HO), (∀ l, u ≠ .lst l) → (∃ l, G D = some (.lst l)) → G b = some u → upd G D o b = some u := fun G o b u nu ⟨l, hl⟩ hb => by
          rw [upd_ne fun e => by
            rw [e, hl] at hb
            exact nu l (Option.some.inj hb).symm]
          exact hb
        have tDD : ∀ (o1 o2 : HO) (b : Addr) (u : HO), (∀ l, u ≠ .lst l) → (∃ l, o1 = .lst l) → Hy b = some u → upd (upd Hy D o1) D o2 b = some u := fun o1 o2 b u nu ⟨l, hl⟩ hb => tD _ _ _ _ nu ⟨l, by rw [upd_same, hl]⟩ (tD _ _ _ _ nu ⟨_, eD⟩ hb)
        have nbD : ∀ (o1 o2 : HO) (b : Addr) (u : HO), b ≠ D → Hy b = some u → upd (upd Hy D o1) D o2 b = some u := fun o1 o2 b u nb hb => by
          rw [upd_ne nb, upd_ne nb]
          exact hb
        have sH2 : ∀ (o1 o2 : HO), Same H (upd (upd Hy D o1) D o2) := fun o1 o2 b o e => nbD o1 o2 b o (ne_of_none e hD) (sx _ _ e)
        have b1 := a1.mono (fun k xs e => tDD (.lst (partsL qs ++ [.ref q2])) (.lst (partsL qs)) _ _ (fun _ h => by cases h) ⟨_, rfl⟩ e) (fun k C dx fs e => tDD _ _ _ _ (fun _ h => by cases h) ⟨_, rfl⟩ e)
        have b2 := a2.mono (fun k xs e => tDD (.lst (partsL qs ++ [.ref q2])) (.lst (partsL qs)) _ _ (fun _ h => by cases h) ⟨_, rfl⟩ e) (fun k C dx fs e => tDD _ _ _ _ (fun _ h => by cases h) ⟨_, rfl⟩ e)
        have br := ar.mono (fun k xs e => tDD (.lst (partsL qs ++ [.ref q2])) (.lst (partsL qs)) _ _ (fun _ h => by cases h) ⟨_, rfl⟩ e) (fun k C dx fs e => tDD _ _ _ _ (fun _ h => by cases h) ⟨_, rfl⟩ e)
        have eL2 := nbD (.lst (partsL qs ++ [.ref q2])) (.lst (partsL qs)) _ _ n1D eL1
        have s2 := sH2 (.lst (partsL qs ++ [.ref q2])) (.lst (partsL qs))
        have eD2 : upd (upd Hy D (.lst (partsL qs ++ [.ref q2]))) D (.lst (partsL qs)) D = some (.lst (partsL qs)) := upd_same
        show ∀ z dz, _ → _ → _ → spJoin0 _ _ _ _ _ _ _ _ _ _ _ _
        generalize upd (upd Hy D (.lst (partsL qs ++ [.ref q2]))) D (.lst (partsL qs)) = H2 at *
        refine fun z dz h1 h2 _ => made_joinX ?_ h1 h2
        refine join_turn R er b1 b2 ck ct (lc _ List.mem_cons_self) (lc _ (List.mem_cons_of_mem _ List.mem_cons_self)) (fun l20 z' H3 hz s3 qa3 pr ez => ?_) (fun c H' d s3 nd => hx (by omega) H' d (s2.trans s3) nd)
        obtain rfl := V.ref.inj ez
        refine ⟨rfl, ?_⟩
        have eD3 := s3 _ _ eD2
        refine ⟨D, _, _, rfl, rfl, eD3, by rw [parts_len]; simp only [List.length_cons] at lz; omega, ?_⟩
        have tD3 : ∀ (o : HO) (b : Addr) (u : HO), (∀ l, u ≠ .lst l) → H3 b = some u → upd H3 D o b = some u := fun o b u nu hb => tD _ _ _ _ nu ⟨_, eD3⟩ hb
        refine ⟨z' :: qs, .both t1 t2 :: rest, _, _, _, rfl, fun b o e => ?_, ?_, by rw [partsL_cons]; exact upd_same, ⟨?_, ?_⟩, fun q hq => ?_, fun u hu => ?_, eu2, by simp only [List.length_cons] at lq ⊢; omega⟩
        · rw [upd_ne (ne_of_none e hD)]
          exact s3 _ _ (s2 _ _ e)
        · rw [upd_ne n1D]
          exact s3 _ _ eL2
        · have qt : QTr a H3 (.both t1 t2) z' := ⟨qa3, q1, q2, pr, b1.same s3, b2.same s3⟩
          exact qt.mono (fun k xs e => tD3 _ _ _ (fun _ h => by cases h) e) (fun k C dx fs e => tD3 _ _ _ (fun _ h => by cases h) e)
        · exact (br.same s3).mono (fun k xs e => tD3 _ _ _ (fun _ h => by cases h) e) (fun k C dx fs e => tD3 _ _ _ (fun _ h => by cases h) e)
        · rcases List.mem_cons.mp hq with rfl | hq
          · exact none_of s2 hz
          · exact fr _ (List.mem_cons_of_mem _ (List.mem_cons_of_mem _ hq))
        · rcases List.mem_cons.mp hu with rfl | hu
          · show (t1.caps ++ t2.caps).length ≤ 20
            rw [List.length_append]
            exact l20
          · exact lc _ (List.mem_cons_of_mem _ (List.mem_cons_of_mem _ hu))
      | .either, sAt, sm, es, eu =>
        have ev : x = .str "either" := sAt
        subst ev
        obtain ⟨t1, t2, rest, er, rfl⟩ := joinO_some (show joinO QT.either (forestO (ss.drop (ss.length - i))) = some us from eu)
        have ets : ts = t1 :: t2 :: rest := Option.some.inj (ef2.symm.trans er)
        subst ets
        obtain ⟨q1, q2, qs, rfl⟩ : ∃ q1 q2 rs, qs = q1 :: q2 :: rs := match qs, qa with
          | q1 :: q2 :: rs, _ => ⟨q1, q2, rs, rfl⟩
        obtain ⟨a1, a2, ar⟩ := qa
        rw [partsL_cons, partsL_cons] at eD
        refine ⟨_, rfl, .str "either", .str "both", .str _, .str _, str_sh.2, str_sh.1, _, rfl, ?_⟩
        rw [str_eqs.2.1]
        refine iteF ?_
        refine ⟨_, rfl, .str "either", .str "either", .str _, .str _, str_sh.2, str_sh.2, _, rfl, ?_⟩
        rw [str_eqs.2.2]
        refine iteT ?_
        refine ⟨_, rfl, .inl ⟨rfl, _, SqL.of eD⟩, _, rfl, .inl ⟨rfl, _, SqL.of eD⟩, D, _, .ref q1, rfl, rfl, eD, last_get _ _, ?_⟩
        rw [List.dropLast_concat]
        refine ⟨_, rfl, .inl ⟨rfl, _, SqL.of upd_same⟩, D, _, .ref q2, rfl, rfl, upd_same, last_get _ _, ?_⟩
        rw [List.dropLast_concat]
        have tD : ∀ (G : Hp) (o : HO) (b : Addr) (u : HO), (∀ l, u ≠ .lst l) → (∃ l, G D = some (.lst l)) → G b = some u → upd G D o b = some u := fun G o b u nu ⟨l, hl⟩ hb => by
          rw [upd_ne fun e => by
            rw [e, hl] at hb
            exact nu l (Option.some.inj hb).symm]
          exact hb
        have tDD : ∀ (o1 o2 : HO) (b : Addr) (u : HO), (∀ l, u ≠ .lst l) → (∃ l, o1 = .lst l) → Hy b = some u → upd (upd Hy D o1) D o2 b = some u := fun o1 o2 b u nu ⟨l, hl⟩ hb => tD _ _ _ _ nu ⟨l, by rw [upd_same, hl]⟩ (tD _ _ _ _ nu ⟨_, eD⟩ hb)
        have nbD : ∀ (o1 o2 : HO) (b : Addr) (u : HO), b ≠ D → Hy b = some u → upd (upd Hy D o1) D o2 b = some u := fun o1 o2 b u nb hb => by
          rw [upd_ne nb, upd_ne nb]
          exact hb
        have sH2 : ∀ (o1 o2 : HO), Same H (upd (upd Hy D o1) D o2) := fun o1 o2 b o e => nbD o1 o2 b o (ne_of_none e hD) (sx _ _ e)
        have b1 := a1.mono (fun k xs e => tDD (.lst (partsL qs ++ [.ref q2])) (.lst (partsL qs)) _ _ (fun _ h => by cases h) ⟨_, rfl⟩ e) (fun k C dx fs e => tDD _ _ _ _ (fun _ h => by cases h) ⟨_, rfl⟩ e)
        have b2 := a2.mono (fun k xs e => tDD (.lst (partsL qs ++ [.ref q2])) (.lst (partsL qs)) _ _ (fun _ h => by cases h) ⟨_, rfl⟩ e) (fun k C dx fs e => tDD _ _ _ _ (fun _ h => by cases h) ⟨_, rfl⟩ e)
        have br := ar.mono (fun k xs e => tDD (.lst (partsL qs ++ [.ref q2])) (.lst (partsL qs)) _ _ (fun _ h => by cases h) ⟨_, rfl⟩ e) (fun k C dx fs e => tDD _ _ _ _ (fun _ h => by cases h) ⟨_, rfl⟩ e)
        have eL2 := nbD (.lst (partsL qs ++ [.ref q2])) (.lst (partsL qs)) _ _ n1D eL1
        have s2 := sH2 (.lst (partsL qs ++ [.ref q2])) (.lst (partsL qs))
        have eD2 : upd (upd Hy D (.lst (partsL qs ++ [.ref q2]))) D (.lst (partsL qs)) D = some (.lst (partsL qs)) := upd_same
        show ∀ z dz, _ → _ → _ → spJoin0 _ _ _ _ _ _ _ _ _ _ _ _
        generalize upd (upd Hy D (.lst (partsL qs ++ [.ref q2]))) D (.lst (partsL qs)) = H2 at *
        refine fun z dz h1 h2 _ => made_joinX ?_ h1 h2
        refine join_turn R er b1 b2 ck ct (lc _ List.mem_cons_self) (lc _ (List.mem_cons_of_mem _ List.mem_cons_self)) (fun l20 z' H3 hz s3 qa3 pr ez => ?_) (fun c H' d s3 nd => hx (by omega) H' d (s2.trans s3) nd)
        obtain rfl := V.ref.inj ez
        refine ⟨rfl, ?_⟩
        have eD3 := s3 _ _ eD2
        refine ⟨D, _, _, rfl, rfl, eD3, by rw [parts_len]; simp only [List.length_cons] at lz; omega, ?_⟩
        have tD3 : ∀ (o : HO) (b : Addr) (u : HO), (∀ l, u ≠ .lst l) → H3 b = some u → upd H3 D o b = some u := fun o b u nu hb => tD _ _ _ _ nu ⟨_, eD3⟩ hb
        refine ⟨z' :: qs, .either t1 t2 :: rest, _, _, _, rfl, fun b o e => ?_, ?_, by rw [partsL_cons]; exact upd_same, ⟨?_, ?_⟩, fun q hq => ?_, fun u hu => ?_, eu2, by simp only [List.length_cons] at lq ⊢; omega⟩
        · rw [upd_ne (ne_of_none e hD)]
          exact s3 _ _ (s2 _ _ e)
        · rw [upd_ne n1D]
          exact s3 _ _ eL2
        · have qt : QTr a H3 (.either t1 t2) z' := ⟨qa3, q1, q2, pr, b1.same s3, b2.same s3⟩
          exact qt.mono (fun k xs e => tD3 _ _ _ (fun _ h => by cases h) e) (fun k C dx fs e => tD3 _ _ _ (fun _ h => by cases h) e)
        · exact (br.same s3).mono (fun k xs e => tD3 _ _ _ (fun _ h => by cases h) e) (fun k C dx fs e => tD3 _ _ _ (fun _ h => by cases h) e)
        · rcases List.mem_cons.mp hq with rfl | hq
          · exact none_of s2 hz
          · exact fr _ (List.mem_cons_of_mem _ (List.mem_cons_of_mem _ hq))
        · rcases List.mem_cons.mp hu with rfl | hu
          · show (t1.caps ++ t2.caps).length ≤ 20
            rw [List.length_append]
            exact l20
          · exact lc _ (List.mem_cons_of_mem _ (List.mem_cons_of_mem _ hu))
      | .cap m ks, sAt, sm, es, eu =>
        obtain ⟨T, L, rfl, nLS, eT, eL⟩ := sAt
        obtain ⟨us2, eus, rfl⟩ := Option.map_eq_some_iff.mp (show (forestO (ss.drop (ss.length - i))).map (QT.cap m ks :: ·) = some us from eu)
        have ets : ts = us2 := Option.some.inj (ef2.symm.trans eus)
        subst ets
        obtain ⟨⟨m0, m1, up⟩, l60⟩ := gs m ks sm
        have m0 : 0 ≤ m := m0
        have m1 : m ≤ 12 := m1
        have up : UpN "" ks := up
        have nm := upN_names up
        have sh := cap_sh m nm
        have dp : Dp K Hy (.ref T) (.tuple [.int m, .list (ks.map PyData.str)]) := .tup (SqT.of eT) (.cons (.int _) (.cons (.lst (SqL.of eL) (OwD.dp_strs ks)) .nil))
        refine ⟨_, rfl, _, .str "both", dp, .str _, sh, str_sh.1, _, rfl, ?_⟩
        rw [cap_ne]
        refine iteF ?_
        refine ⟨_, rfl, _, .str "either", dp, .str _, sh, str_sh.2, _, rfl, ?_⟩
        rw [cap_ne]
        refine iteF ?_
        refine ⟨_, rfl, T, _, rfl, SqT.of eT, rfl, _, _, rfl, _, _, rfl, rfl, ?_⟩
        refine ⟨_, rfl, .inl ⟨rfl, _, SqL.of eD⟩, _, rfl, _, rfl, L, ks.map V.str, rfl, .inr (SqL.of eL), ?_⟩
        show ∀ z dz, _ → _ → _ → spCap _ _ _ _ _ _ _ _
        refine fun z dz h1 h2 _ => ?_
        rw [List.append_nil]
        refine made_capX ⟨by rw [List.length_map]; omega, .inl ⟨m, ks, rfl, m0, m1, rfl, upN_nd up, fun b hb => ⟨nm b hb, name_le (nm b hb)⟩, l60, fun z' H3 zs hz s3 pm so ca ez => ?_⟩⟩ h1 h2
        obtain rfl := V.ref.inj ez
        have ez := upN_eq up pm so
        subst ez
        refine ⟨rfl, ?_⟩
        have eD3 := s3 _ _ eD
        refine ⟨D, _, _, rfl, rfl, eD3, by rw [parts_len]; exact lz, ?_⟩
        have tD3 : ∀ (o : HO) (b : Addr) (u : HO), (∀ l, u ≠ .lst l) → H3 b = some u → upd H3 D o b = some u := fun o b u nu hb => by
          rw [upd_ne fun e => by
            rw [e, eD3] at hb
            exact nu _ (Option.some.inj hb).symm]
          exact hb
        refine ⟨z' :: qs, .cap m zs :: ts, _, _, _, rfl, fun b o e => ?_, ?_, by rw [partsL_cons]; exact upd_same, ⟨?_, ?_⟩, fun q hq => ?_, fun u hu => ?_, eu2, by simp only [List.length_cons]; omega⟩
        · rw [upd_ne (ne_of_none e hD)]
          exact s3 _ _ (sx _ _ e)
        · rw [upd_ne n1D]
          exact s3 _ _ eL1
        · have qt : QTr a H3 (.cap m zs) z' := ca
          exact qt.mono (fun k xs e => tD3 _ _ _ (fun _ h => by cases h) e) (fun k C dx fs e => tD3 _ _ _ (fun _ h => by cases h) e)
        · exact (qa.same s3).mono (fun k xs e => tD3 _ _ _ (fun _ h => by cases h) e) (fun k C dx fs e => tD3 _ _ _ (fun _ h => by cases h) e)
        · rcases List.mem_cons.mp hq with rfl | hq
          · exact none_of sx hz
          · exact fr _ hq
        · rcases List.mem_cons.mp hu with rfl | hu
          · exact Nat.le_of_ble_eq_true rfl
          · exact lc _ hu
    · obtain ⟨qs, ts, x2, x3, x4, rfl, sx, eL1, eD, qa, fr, lc, ef2, lq⟩ := q0
      rw [List.length_reverse, lx, Nat.sub_self, List.drop_zero] at ef2
      have ets : ts = [t] := Option.some.inj (ef2.symm.trans ef)
      subst ets
      obtain ⟨q1, rfl⟩ : ∃ q1, qs = [q1] := match qs, qa with
        | [q1], _ => ⟨q1, rfl⟩
      exact ⟨_, rfl, D, _, 0, _, rfl, rfl, SqL.of eD, atI_nat (j := 0) rfl, hq (lc t List.mem_cons_self) q1 Hx (fr q1 List.mem_cons_self) sx qa.1⟩
end
end K10
end
section
set_option pp.maxSteps 400
set_option pp.deepTerms.threshold 6
/-! Quotas read: the quota of a text. -/
namespace K10
open PySem PySem.Spec PyProof.Rows L2
abbrev sQR : Stmt := mth 18 1
abbrev fOne : Int → List Str → Nat := fun _ _ => 1
theorem wt_one : ∀ t : QT, t.wt fOne 1 1 ≤ t.words.length
  | .cap m ks => by
    show 1 ≤ (capWords m ks).length
    simp [capWords]
  | .both a b => by
    have h1 := wt_one a
    have h2 := wt_one b
    show 1 + (a.wt fOne 1 1 + b.wt fOne 1 1) ≤ (("both" : Str) :: (a.words ++ b.words)).length
    rw [List.length_cons, List.length_append]
    omega
  | .either a b => by
    have h1 := wt_one a
    have h2 := wt_one b
    show 1 + (a.wt fOne 1 1 + b.wt fOne 1 1) ≤ (("either" : Str) :: (a.words ++ b.words)).length
    rw [List.length_cons, List.length_append]
    omega
theorem cnt_one : ∀ ss : List QStep, cnt fOne 1 1 ss = ss.length
  | [] => rfl
  | .cap _ _ :: r => by
    show 1 + cnt fOne 1 1 r = _
    rw [cnt_one r, List.length_cons]
    omega
  | .both :: r => by
    show 1 + cnt fOne 1 1 r = _
    rw [cnt_one r, List.length_cons]
    omega
  | .either :: r => by
    show 1 + cnt fOne 1 1 r = _
    rw [cnt_one r, List.length_cons]
    omega
theorem sum_one (f : Int → List Str → Nat) (b e : Nat) (t : QT) : sumT f b e [t] = t.wt f b e := by simp [sumT]
theorem steps_caps : ∀ {t : QT} {m : Int} {ks : List Str}, QStep.cap m ks ∈ t.steps → (m, ks) ∈ t.caps
  | .cap m' ks', m, ks, h => by
    have h := List.mem_singleton.mp h
    cases h
    exact List.mem_singleton.mpr rfl
  | .both a b, m, ks, h => by
    rcases List.mem_cons.mp h with h | h
    · cases h
    · rcases List.mem_append.mp h with h | h
      · exact List.mem_append_left _ (steps_caps h)
      · exact List.mem_append_right _ (steps_caps h)
  | .either a b, m, ks, h => by
    rcases List.mem_cons.mp h with h | h
    · cases h
    · rcases List.mem_append.mp h with h | h
      · exact List.mem_append_left _ (steps_caps h)
      · exact List.mem_append_right _ (steps_caps h)
theorem kinds_le {t : QT} {c : Int × List Str} (h : c ∈ t.caps) : c.2.length ≤ t.kinds.length := by
  have key : ∀ cs : List (Int × List Str), c ∈ cs → c.2.length ≤ (cs.flatMap (·.2)).length := fun cs => by
    induction cs with
    | nil => intro h; cases h
    | cons d r ih =>
      intro h
      rw [List.flatMap_cons, List.length_append]
      rcases List.mem_cons.mp h with rfl | h
      · omega
      · have := ih h
        omega
  exact key _ h
theorem kinds_words : ∀ t : QT, t.kinds.length + 3 * t.caps.length ≤ t.words.length
  | .cap m ks => by
    show (([(m, ks)] : List (Int × List Str)).flatMap (·.2)).length + 3 * 1 ≤ (capWords m ks).length
    simp [capWords] <;> omega
  | .both a b => by
    have h1 := kinds_words a
    have h2 := kinds_words b
    have h1 : (a.caps.flatMap (·.2)).length + 3 * a.caps.length ≤ a.words.length := h1
    have h2 : (b.caps.flatMap (·.2)).length + 3 * b.caps.length ≤ b.words.length := h2
    show ((a.caps ++ b.caps).flatMap (·.2)).length + 3 * (a.caps ++ b.caps).length ≤ (("both" : Str) :: (a.words ++ b.words)).length
    rw [List.flatMap_append, List.length_append, List.length_append, List.length_cons, List.length_append]
    omega
  | .either a b => by
    have h1 := kinds_words a
    have h2 := kinds_words b
    have h1 : (a.caps.flatMap (·.2)).length + 3 * a.caps.length ≤ a.words.length := h1
    have h2 : (b.caps.flatMap (·.2)).length + 3 * b.caps.length ≤ b.words.length := h2
    show ((a.caps ++ b.caps).flatMap (·.2)).length + 3 * (a.caps ++ b.caps).length ≤ (("either" : Str) :: (a.words ++ b.words)).length
    rw [List.flatMap_append, List.length_append, List.length_append, List.length_cons, List.length_append]
    omega
/-- what is read of a value -/
def ReadQ (K : PySem.W.Frag) (a : QAd) (CB : Addr) (H : Hp) (v : V) (Q : VK) (E : XK) : Prop :=
  (∃ z : Str, v = .str z ∧ z.length < 100000 ∧ (∀ i, (pk (wordsOf z) i).length ≤ 1000) ∧ (wordsOf z).length ≤ 900 ∧ (match quotaRead (wordsOf z) with
    | .error e => ∀ H' d, Same H H' → H' d = none → E (.ref CB) (some d) (upd H' d (.xd [("word", .int (e : Nat)), ("line", .int (0 : Nat))]))
    | .ok _ => ∀ t : QT, wordsOf z = t.words → (∀ c ∈ t.caps, GoodU c) → t.kinds.length ≤ 60 ∧ QMadeOf a t H Q E)) ∨
  ((∀ H', Same H H' → NoStr K H' v) ∧ ∀ H' d, Same H H' → H' d = none → E (.ref CB) (some d) (upd H' d (.xd [("word", .int (0 : Nat)), ("line", .int (0 : Nat))])))
def spQt (K : PySem.W.Frag) (a : QAd) (CB : Addr) : Sp := fun vs H Q E => ∃ v : V, vs = [v] ∧ ReadQ K a CB H v Q E
def spQR (K : PySem.W.Frag) (a : QAd) (CB : Addr) : Sp := fun vs H Q E => ∃ v : V, vs = [.ref a.CQ, v] ∧ ReadQ K a CB H v Q E
section
variable {P : Program} {w : World} {K : PySem.W.Frag} {mg : Str → Option Value} {base : Heap} {C CB fMo fPk fCk fSt fTw fTn fEn fNu : Addr}
abbrev nQt : List Str := ["text", "words", "steps"]
theorem scQt : FnScope nQt ["text"] (defScope sQt) := ⟨rfl, rfl, rfl, by decide +kernel, rfl, by decide +kernel, by decide +kernel⟩
theorem ok_Qt {a : QAd} {f fCf fSf fQs fWI : Addr} {fd fdCf fdSf fdQs fdWI : FuncData} {dsI : List Value} (R : QF P w K mg base a) (F : Fun K "quota_of_text" "quota_of_text" sQt f fd) (MW : Mk K C fWI) (gW : mg "Words" = some (.ref C)) (G_init : FnOk P w K mg base (L2.CX P w) 3 fWI fdWI ["self", "text", "line"] (spWI K C CB)) (b_init : Binds K fdWI ["self", "text", "line"] dsI) (d_init : Vals [.int 0] dsI)
    (F_sf : Fun K "steps_from" "steps_from" sSf fSf fdSf) (g_sf : mg "steps_from" = some (.ref fSf)) (F_cf : Fun K "cap_from" "cap_from" sCf fCf fdCf) (g_cf : mg "cap_from" = some (.ref fCf)) (F_qs : Fun K "quota_of_steps" "quota_of_steps" sQs fQs fdQs) (g_qs : mg "quota_of_steps" = some (.ref fQs)) (n_len : mg "len" = none) (WH : WFQ P w K mg base C CB fMo fPk fCk fSt fTw fTn fEn fNu) :
    FnOk P w K mg base (L2.CX P w) 7 f fd ["text"] (spQt K a CB) := by
  have W := WH.f.W
  have G_sf : FnOk P w K mg base (L2.CX P w) 6 fSf fdSf ["words"] (spSf C CB) := ok_Sf F_sf F_cf g_cf n_len WH
  have b_sf : Binds K fdSf ["words"] [] := F_sf.binds fun _ _ _ _ _ _ us hl => match us, hl with | [_], _ => rfl
  have G_qs : FnOk P w K mg base (L2.CX P w) 6 fQs fdQs ["steps"] (spQs a) := ok_Qs R F_qs
  have b_qs : Binds K fdQs ["steps"] [] := F_qs.binds fun _ _ _ _ _ _ us hl => match us, hl with | [_], _ => rfl
  obtain ⟨_, G_end, b_end⟩ := WH.f.g_en
  refine F.okX scQt (fun vs H Q E h => ?_) (fun cdv A outer s H vs Q E hr h => ?_)
  · obtain ⟨v, rfl, _⟩ := h
    rfl
  · obtain ⟨v, rfl, h⟩ := h
    have hr6 : Room 6 _ := hr
    have hr4 := hr6.mono (show 4 ≤ 6 by decide)
    have sz := sizeLine_eq
    refine ⟨_, (pss_cons (ps_set (i := 1) scQt.nd rfl (Or.inl rfl) (pe_make MW G_init hr4 (by rfl) gW b_init d_init (passes_call (takes_of rfl rfl rfl rfl) (fun _ _ _ _ h => h)) (pa_cons (pv 0) pa_nil)))
    (pss_cons (ps_set (i := 2) scQt.nd rfl (Or.inl rfl) (pe_call G_sf hr6 (by rfl) g_sf F_sf.kp b_sf .nil (passes_call (takes_of rfl rfl rfl rfl) (fun _ _ _ _ h => h)) (pa_cons (pv 1) pa_nil)))
    (pss_cons (ps_expr (pe_meth0 (pv 1) W.cls W.m_end G_end hr4 b_end .nil (passes_call (takes_of rfl rfl rfl rfl) (fun _ _ _ _ h => h))))
    (pss_one (ps_ret (pe_call G_qs hr6 (by rfl) g_qs F_qs.kp b_qs .nil (passes_call (takes_of rfl rfl rfl rfl) (fun _ _ _ _ h => h)) (pa_cons (pv 2) pa_nil))))))), ?_⟩
    rcases h with ⟨z, rfl, lz, lw, lws, h⟩ | ⟨ns, h⟩
    · refine ⟨_, rfl, fun o dxo k1 k2 nd => ⟨o, dxo, _, 0, rfl, upd_same, .inl ⟨z, rfl, by omega, fun H1 b1 wa => ⟨rfl, ?_⟩⟩⟩⟩
      have s1 := made_same k1 k2 b1
      have sB : ∀ {H'}, But o H1 H' → Same H H' := fun {H'} b x u e => b x u (ne_of_none e k1) (s1 x u e)
      have wa : WAt C H1 o (wordsOf z) 0 0 := wa
      refine ⟨_, rfl, o, wordsOf z, 0, rfl, wa, lw, lws, ?_⟩
      have er0 : quotaRead (wordsOf z) = (match stepsRead (wordsOf z) ((wordsOf z).length + 1) 1 0 with
        | .ok r => if r.2 < (wordsOf z).length then .error r.2 else .ok r.1
        | .error e => .error e) := rfl
      cases er : stepsRead (wordsOf z) ((wordsOf z).length + 1) 1 0 with
      | error e =>
        rw [er] at er0
        rw [er0] at h
        exact fun H' d b nd2 => h H' d (sB b) nd2
      | ok r =>
        rw [er] at er0
        dsimp only at er0
        intro S vs H2 b2 wa2 eS st
        rw [List.nil_append] at st
        obtain ⟨dx2, fs2, l2, p1, p2, p3, p4, p5, p6, p7⟩ := id wa2
        refine ⟨_, rfl, o, dx2, fs2, rfl, p1, p6 _ (by decide), o, wordsOf z, 0, r.2, rfl, wa2, ?_⟩
        by_cases c : r.2 < (wordsOf z).length
        · rw [if_pos c] at er0
          rw [er0] at h
          exact .inr ⟨c, fun d hd => h _ d (sB b2) hd⟩
        · rw [if_neg c] at er0
          rw [er0] at h
          have h : ∀ t : QT, wordsOf z = t.words → (∀ c ∈ t.caps, GoodU c) → t.kinds.length ≤ 60 ∧ QMadeOf a t H Q E := h
          obtain ⟨t, ef, ew, gu⟩ := read_tree er0
          obtain ⟨lk, hq, hx⟩ := h t ew gu
          have g2 : ∀ c ∈ t.caps, GoodU c ∧ c.2.length ≤ 1000 := fun c hc => ⟨gu c hc, by have := kinds_le hc; omega⟩
          have e2 := (read_of g2).1
          rw [← ew, er0] at e2
          have es : r.1 = t.steps := Except.ok.inj e2
          have n1 := forest_sum fOne 1 1 ef
          have n2 := forest_sum fKinds 0 0 ef
          have n3 := forest_sum fText 5 7 ef
          rw [sum_one, cnt_one] at n1
          rw [sum_one, wt_kinds] at n2
          rw [sum_one, wt_text, text_words, ← ew, words_join] at n3
          have w1 := wt_one t
          rw [← ew] at w1
          refine .inl ⟨by omega, ?_⟩
          refine ⟨_, rfl, S, vs, r.1, t, rfl, eS, st, by omega, ef, fun m ks hm => ?_, by omega, by omega, fun l20 q H' nq s' qt => hq l20 q H' ((sB b2).free nq) ((sB b2).trans s') qt, fun l20 H' d s' nd => hx l20 H' d ((sB b2).trans s') nd⟩
          rw [es] at hm
          have hc := steps_caps hm
          have := kinds_le hc
          have this : ks.length ≤ t.kinds.length := this
          exact ⟨gu _ hc, by omega⟩
    · refine ⟨_, rfl, fun o dxo k1 k2 nd => ⟨o, dxo, _, 0, rfl, upd_same, .inr ⟨?_, fun d hd => ?_⟩⟩⟩
      · exact ns _ (made_same k1 k2 (But.refl _ _))
      · exact h _ d (made_same k1 k2 (But.refl _ _)) hd
abbrev nQR : List Str := ["cls", "text"]
theorem scQR : FnScope nQR ["cls", "text"] (defScope sQR) := ⟨rfl, rfl, rfl, by decide +kernel, rfl, by decide +kernel, by decide +kernel⟩
theorem ok_QR {a : QAd} {f fQt : Addr} {fd fdQt : FuncData} (F : Fun K "read" "Quota.read" sQR f fd) (F_qt : Fun K "quota_of_text" "quota_of_text" sQt fQt fdQt) (g_qt : mg "quota_of_text" = some (.ref fQt)) (G_qt : FnOk P w K mg base (L2.CX P w) 7 fQt fdQt ["text"] (spQt K a CB)) : FnOk P w K mg base (L2.CX P w) 8 f fd ["cls", "text"] (spQR K a CB) := by
  have b_qt : Binds K fdQt ["text"] [] := F_qt.binds fun _ _ _ _ _ _ us hl => match us, hl with | [_], _ => rfl
  refine F.okX scQR (fun vs H Q E h => ?_) (fun cdv A outer s H vs Q E hr h => ?_)
  · obtain ⟨v, rfl, _⟩ := h
    rfl
  · obtain ⟨v, rfl, h⟩ := h
    have hr7 : Room 7 _ := hr
    refine ⟨_, (pss_one (ps_ret (pe_call G_qt hr7 (by rfl) g_qt F_qt.kp b_qt .nil (passes_call (takes_of rfl rfl rfl rfl) (fun _ _ _ _ h => h)) (pa_cons (pv 1) pa_nil)))), ?_⟩
    exact ⟨_, rfl, v, rfl, h⟩
def spQRK (K : PySem.W.Frag) (a : QAd) (CB : Addr) : List V → Sp := fun zs vs H Q E => ∃ x : V, vs = [.ref a.CQ] ∧ zs = [x] ∧ spQR K a CB [.ref a.CQ, x] H Q E
theorem rd_Q {a : QAd} {f : Addr} {fd : FuncData} (F : Fun K "read" "Quota.read" sQR f fd) (G : FnOk P w K mg base (L2.CX P w) 8 f fd ["cls", "text"] (spQR K a CB)) : FnR P w K mg base (L2.CX P w) 8 f (spQR K a CB) ∧ OwR.FnRK P w K mg base (L2.CX P w) 8 f ["text"] (spQRK K a CB) := by
  refine ⟨OwR.raw0 G (F.binds fun _ _ _ _ _ _ us hl => match us, hl with | [_, _], _ => rfl), ?_⟩
  obtain ⟨oc, od, kV, doc, pm, an, cdv, ct, osl, rfl, lk, hcd⟩ := F.ex
  intro A outer s H us ws vs zs Q E hr e0 r rz ⟨x, ev, ez, hj⟩
  subst ev ez
  match us, ws, r, rz with
  | [u1], [w1], .cons r1 .nil, .cons r2 .nil => exact G.run A outer s H ⟨[u1], [("text", w1)]⟩ [u1, w1] [.ref a.CQ, x] Q E hr e0 (.of_eq rfl) (.cons r1 (.cons r2 .nil)) hj
end
end K10
end
section
set_option pp.maxSteps 400
set_option pp.deepTerms.threshold 6
/-! The law's own way through the words. -/
namespace K10
open PySem PySem.Spec PyProof.Rows L2
abbrev sIn6 : Stmt := top 42
abbrev sNb : Stmt := top 43
abbrev sCe : Stmt := top 44
abbrev sDu : Stmt := top 45
/-! ### numbers -/
def dig (c : Nat) : Bool := decide (48 ≤ c) && decide (c ≤ 57)
theorem dig_num {z : Str} (a : z.cps.toList.all dig = true) (ne : z.cps.toList ≠ []) : (Txt.isascii z && Txt.isdigit z) = true := by
  have al := List.all_eq_true.mp a
  have l : z.length = z.cps.toList.length := by simp [Str.length]
  rw [Bool.and_eq_true]
  refine ⟨?_, ?_⟩
  · show z.cps.all (· < 128) = true
    rw [← Array.all_toList]
    refine List.all_eq_true.mpr fun c hc => decide_eq_true ?_
    have := of_decide_eq_true (Bool.and_eq_true_iff.mp (al c hc)).2
    omega
  · unfold Txt.isdigit
    rw [Bool.and_eq_true]
    refine ⟨decide_eq_true ?_, ?_⟩
    · rw [l]
      exact List.length_pos_iff.mpr ne
    · rw [← Array.all_toList]
      refine List.all_eq_true.mpr fun c hc => ?_
      have h := al c hc
      have := of_decide_eq_true (Bool.and_eq_true_iff.mp h).2
      rw [digit_codes c (by omega)]
      exact h
/-- the number a word writes, or -1 -/
def numI (z : Str) : Int := match numO z with
  | some k => ((k : Nat) : Int)
  | none => -1
theorem numI_none {z : Str} (h : numB z = false) : numI z = -1 := by
  unfold numI numO
  rw [if_neg (by rw [h]; decide)]
theorem numI_some {z : Str} (h : numB z = true) : numI z = ((numN z : Nat) : Int) := by
  unfold numI numO
  rw [if_pos h]
theorem numI_long {z : Str} (h : ¬ (1 ≤ z.length ∧ z.length ≤ 60)) : numI z = -1 := by
  refine numI_none ?_
  unfold numB
  by_cases c : z.length ≤ 60
  · have : z.length = 0 := by omega
    unfold Txt.isdigit
    rw [show decide (0 < z.length) = false from decide_eq_false (by omega), Bool.false_and, Bool.and_false, Bool.false_and]
  · rw [decide_eq_false c, Bool.false_and, Bool.and_false]
theorem numI_sign {z : Str} (h : z.cps.toList.all dig = false) : numI z = -1 := by
  refine numI_none ?_
  cases e : (Txt.isascii z && Txt.isdigit z) with
  | false => unfold numB; rw [e]; rfl
  | true =>
    have := (ascii_digits e).1
    rw [show (z.cps.toList.all fun c => decide (48 ≤ c) && decide (c ≤ 57)) = z.cps.toList.all dig from rfl, h] at this
    cases this
theorem zero_one {z : Str} (h : z.cps.toList.head? = some 48) (l : z.length ≤ 1) : z = "0" := by
  have e : z.length = z.cps.toList.length := by simp [Str.length]
  have ez : z.cps.toList = [48] := by
    match q : z.cps.toList, h with
    | [x], h => rw [Option.some.inj h]
    | x :: y :: r, h =>
      rw [e, q] at l
      exact absurd l (by simp)
  refine str_of_tl ?_
  show z.cps.toList = ("0" : Str).cps.toList
  rw [ez]
  decide +kernel
theorem zero_head : ("0" : Str).cps.toList.head? = some 48 ∧ ("0" : Str).length = 1 := by decide +kernel
theorem numI_ok {z : Str} (a : z.cps.toList.all dig = true) (l1 : 1 ≤ z.length) (l2 : z.length ≤ 60) (h : z = "0" ∨ z.cps.toList.head? ≠ some 48) : numI z = ((numN z : Nat) : Int) ∧ intText? z = some ((numN z : Nat) : Int) := by
  have l : z.length = z.cps.toList.length := by simp [Str.length]
  have d := dig_num a fun e => by
    rw [l, e] at l1
    exact absurd l1 (by simp)
  refine ⟨numI_some ?_, int_of_num d l2⟩
  unfold numB
  rw [d, decide_eq_true l2, Bool.true_and, Bool.true_and]
  rcases h with rfl | h
  · rw [zero_head.2]
    rw [show decide (1 < 1) = false from rfl, Bool.and_false]
    rfl
  · rw [decide_eq_false h, Bool.false_and]
    rfl
theorem numI_zero {z : Str} (h : z ≠ "0") (h2 : z.cps.toList.head? = some 48) : numI z = -1 := by
  refine numI_none ?_
  have : 1 < z.length := by
    rcases Nat.lt_or_ge 1 z.length with c | c
    · exact c
    · exact absurd (zero_one h2 c) h
  unfold numB
  rw [decide_eq_true h2, decide_eq_true this]
  simp
def spNb : Sp := fun vs H Q _ => ∃ z : Str, vs = [.str z] ∧ z.length ≤ 1000 ∧ PyData.strOk z = true ∧ ∀ H', Same H H' → Q (.int (numI z)) H'
theorem abc_letter (c : Nat) : decide (c ∈ ("abcdefghijklmnopqrstuvwxyz" : Str).cps.toList) = letter c := by
  have e : ("abcdefghijklmnopqrstuvwxyz" : Str).cps.toList = (List.range 26).map (· + 97) := by decide +kernel
  rw [e]
  unfold letter
  rw [Bool.eq_iff_iff, decide_eq_true_eq, Bool.and_eq_true, decide_eq_true_eq, decide_eq_true_eq, List.mem_map]
  refine ⟨fun ⟨a, h1, h2⟩ => ?_, fun ⟨h1, h2⟩ => ⟨c - 97, List.mem_range.mpr (by omega), by omega⟩⟩
  have := List.mem_range.mp h1
  omega
theorem dec_dig (c : Nat) : decide (c ∈ ("0123456789" : Str).cps.toList) = dig c := by
  have e : ("0123456789" : Str).cps.toList = (List.range 10).map (· + 48) := by decide +kernel
  rw [e]
  unfold dig
  rw [Bool.eq_iff_iff, decide_eq_true_eq, Bool.and_eq_true, decide_eq_true_eq, decide_eq_true_eq, List.mem_map]
  refine ⟨fun ⟨a, h1, h2⟩ => ?_, fun ⟨h1, h2⟩ => ⟨c - 48, List.mem_range.mpr (by omega), by omega⟩⟩
  have := List.mem_range.mp h1
  omega
def spIn6 : Sp := fun vs H Q _ => ∃ z : Str, vs = [.str z] ∧ z.length ≤ 1000 ∧ ∀ H', Same H H' → Q (.bl (nameB z)) H'
theorem word_at {ws : List Str} {n : Nat} (h : n < ws.length) : atI (ws.map V.str) ((n : Nat) : Int) = some (.str (pk ws n)) := by
  refine atI_nat ?_
  rw [List.getElem?_map]
  unfold pk
  rw [List.getD_eq_getElem?_getD, List.getElem?_eq_getElem h]
  rfl
/-- some words that the law looks at -/
structure WsL (ws : List Str) : Prop where
  many : ws.length ≤ 900
  short : ∀ i, (pk ws i).length ≤ 1000
  ok : ∀ i, PyData.strOk (pk ws i) = true
def kd {α : Type} : Except Nat (α × Nat) → Nat × Bool
  | .ok r => (r.2, true)
  | .error e => (e, false)
def ceOf (ws : List Str) (n : Nat) : Nat × Bool := kd (capRead ws n)
theorem pk_out {ws : List Str} {n : Nat} (h : ws.length ≤ n) : pk ws n = "" := by
  unfold pk
  rw [List.getD_eq_getElem?_getD, List.getElem?_eq_none h]
  rfl
theorem num_empty : numO ("" : Str) = none ∧ nameB ("" : Str) = false := by decide +kernel
theorem ce_bad1 {ws : List Str} {n : Nat} (h : ∀ k, numO (pk ws n) = some k → ¬ k ≤ 12) : ceOf ws n = (n, false) := by
  unfold ceOf
  rw [capR_bad1 h]
  rfl
theorem ce_bad2 {ws : List Str} {n m : Nat} (h : numO (pk ws n) = some m) (h2 : m ≤ 12) (h3 : numO (pk ws (n + 1)) = none) : ceOf ws n = (n + 1, false) := by
  unfold ceOf
  rw [capR_bad2 h h2 h3]
  rfl
theorem ce_go {ws : List Str} {n m k : Nat} (h : numO (pk ws n) = some m) (h2 : m ≤ 12) (h3 : numO (pk ws (n + 1)) = some k) : ceOf ws n = kd (kindsRead ws k "" (n + 2)) := by
  unfold ceOf
  rw [capR_go h h2 h3]
  cases kindsRead ws k "" (n + 2) <;> rfl
theorem kd_bad {ws : List Str} {k n : Nat} {last : Str} (h : (nameB (pk ws n) && ltS last (pk ws n)) = false) : kd (kindsRead ws (k + 1) last n) = (n, false) := by
  rw [kinds_bad h]
  rfl
theorem kd_go {ws : List Str} {k n : Nat} {last : Str} (h : (nameB (pk ws n) && ltS last (pk ws n)) = true) : kd (kindsRead ws (k + 1) last n) = kd (kindsRead ws k (pk ws n) (n + 1)) := by
  rw [kinds_go h]
  cases kindsRead ws k (pk ws n) (n + 1) <;> rfl
theorem numI_cases (z : Str) : (numO z = none ∧ numI z = -1) ∨ ∃ k : Nat, numO z = some k ∧ numI z = ((k : Nat) : Int) ∧ ((k : Nat) : Int) ≤ topN := by
  unfold numI
  cases e : numO z with
  | none => exact .inl ⟨rfl, rfl⟩
  | some k => exact .inr ⟨k, rfl, rfl, (num_top e).1⟩
def endDue {α : Type} (ws : List Str) : Except Nat (α × Nat) → Option Nat
  | .ok r => if r.2 < ws.length then some r.2 else none
  | .error e => some e
/-- the first word that cannot stand -/
def dueOf (ws : List Str) : Option Nat := match quotaRead ws with
  | .ok _ => none
  | .error e => some e
theorem due_start (ws : List Str) : dueOf ws = endDue ws (stepsRead ws (ws.length + 1) 1 0) := by
  unfold dueOf quotaRead
  cases stepsRead ws (ws.length + 1) 1 0 with
  | error e => rfl
  | ok r =>
    show (match (if r.2 < ws.length then Except.error r.2 else Except.ok r.1 : Except Nat (List QStep)) with | .ok _ => none | .error e => some e) = if r.2 < ws.length then some r.2 else none
    by_cases c : r.2 < ws.length
    · rw [if_pos c, if_pos c]
    · rw [if_neg c, if_neg c]
theorem due_cap {ws : List Str} {f w n : Nat} (h : pk ws n = "cap") : endDue ws (stepsRead ws (f + 1) (w + 1) n) = if (ceOf ws (n + 1)).2 = true then endDue ws (stepsRead ws f w (ceOf ws (n + 1)).1) else some (ceOf ws (n + 1)).1 := by
  rw [steps_cap h]
  unfold ceOf
  cases capRead ws (n + 1) with
  | error e => rfl
  | ok c =>
    show endDue ws (match stepsRead ws f w c.2 with | .ok r => .ok (.cap c.1.1 c.1.2 :: r.1, r.2) | .error e => .error e) = endDue ws (stepsRead ws f w c.2)
    cases stepsRead ws f w c.2 <;> rfl
theorem due_both {ws : List Str} {f w n : Nat} (h : pk ws n = "both") : endDue ws (stepsRead ws (f + 1) (w + 1) n) = endDue ws (stepsRead ws f (w + 2) (n + 1)) := by
  rw [steps_both h]
  cases stepsRead ws f (w + 2) (n + 1) <;> rfl
theorem due_either {ws : List Str} {f w n : Nat} (h : pk ws n = "either") : endDue ws (stepsRead ws (f + 1) (w + 1) n) = endDue ws (stepsRead ws f (w + 2) (n + 1)) := by
  rw [steps_either h]
  cases stepsRead ws f (w + 2) (n + 1) <;> rfl
theorem due_bad {ws : List Str} {f w n : Nat} (h : pk ws n ∉ [("cap" : Str), "both", "either"]) : endDue ws (stepsRead ws (f + 1) (w + 1) n) = some n := by
  rw [steps_bad h]
  rfl
theorem due_none {ws : List Str} {f n : Nat} : endDue ws (stepsRead ws f 0 n) = if n < ws.length then some n else none := by
  rw [steps_none]
  rfl
theorem ce_end {ws : List Str} {n : Nat} (h : (ceOf ws n).2 = true) : n < (ceOf ws n).1 ∧ (ceOf ws n).1 ≤ ws.length := by
  unfold ceOf at h ⊢
  cases e : capRead ws n with
  | error x =>
    rw [e] at h
    cases h
  | ok c =>
    obtain ⟨_, h1, _, h2⟩ := cap_ok e
    exact ⟨by show n < c.2; omega, h2⟩
theorem in3 (z : Str) : inV (.str z) [.str "cap", .str "both", .str "either"] = decide (z ∈ [("cap" : Str), "both", "either"]) := in_strs z ["cap", "both", "either"]
/-- a line that the law reads -/
structure LineOk (z : Str) : Prop where
  len : z.length < 100000
  ws : WsL (wordsOf z)
def dueV : Option Nat → V
  | some k => .int ((k : Nat) : Int)
  | none => .non
def spDu : Sp := fun vs H Q _ => ∃ z : Str, vs = [.str z] ∧ LineOk z ∧ ∀ H', Same H H' → Q (dueV (dueOf (wordsOf z))) H'
def spCe (K : PySem.W.Frag) : Sp := fun vs H Q _ => ∃ (l : Addr) (ws : List Str) (n : Nat), vs = [.ref l, .int (n : Nat)] ∧ H l = some (.lst (ws.map V.str)) ∧ WsL ws ∧ n ≤ ws.length ∧ ∀ T H', Same H H' → H' T = some (.tup [.int ((ceOf ws n).1 : Nat), .bl (ceOf ws n).2]) → Q (.ref T) H'
section
variable {P : Program} {w : World} {K : PySem.W.Frag} {mg : Str → Option Value} {base : Heap}
abbrev nIs : List Str := ["_law_word_here", "_law_sign"]
theorem scIs : FnScope nIs ["_law_word_here"] (defScope sIn6) := ⟨rfl, rfl, rfl, by decide +kernel, rfl, by decide +kernel, by decide +kernel⟩
theorem ok_In6 {f : Addr} {fd : FuncData} (F : Fun K "_law_is_name" "_law_is_name" sIn6 f fd) (n_len : mg "len" = none) : FnOk P w K mg base CX0 1 f fd ["_law_word_here"] spIn6 := by
  refine F.ok scIs (fun vs H Q E h => ?_) (fun cdv A outer s H vs Q E hr h => ?_)
  · obtain ⟨z, rfl, _⟩ := h
    rfl
  · obtain ⟨z, rfl, lz, q⟩ := h
    have hud := hr.units
    refine ⟨_, (pss_one (ps_ret (pe_and (pe_chain op_le op_le pe_int (pe_callB call_len (by rfl) n_len boot_len (pa_cons (pv 0) pa_nil)) pe_int) (pe_one (pe_cmpR (OwR.op_eqNil hud) (pe_lc (own := [("_law_sign", 1)]) (by rfl) scIs.nd (pi_str (pv 0)) (blkOk_by (own := [("_law_sign", 1)]) (N := nIs) (sc := defScope sIn6) (by decide +kernel)) (fun _ _ _ _ _ => (pg_name (i := 1) scIs.nd rfl (Or.inl rfl))) (fun _ _ _ _ _ => pts_one (pt_cmpR op_notIn_sign (pv 1) pe_str (by rfl))) (fun _ _ _ _ _ => (pv 1))) (pe_lst pa_nil) (nomark _)))))), ?_⟩
    have sz := sizeLine_eq
    have hz2 : z.length ≤ sizeLine := by omega
    refine ⟨_, rfl, .str z, z.length, rfl, ⟨hz2, rfl⟩, _, _, rfl, rfl, ?_⟩
    refine ⟨_, rfl, ?_⟩
    have e9 : z.cps.toList.length = z.length := by first | rfl | simp [Str.length]
    have e8 : z.cps.size = z.length := rfl
    have fls : nameB z = false → Q (.bl false) H := fun e => by
      rw [← e]
      exact q H (Same.refl H)
    refine ite2 (fun c1 => ?_) (fun c1 => ?_)
    · have d1 : 1 ≤ z.length := by
        have := of_decide_eq_true c1
        omega
      refine ⟨_, _, rfl, rfl, _, rfl, ?_⟩
      refine ite2 (fun c2 => ?_) (fun c2 => ?_)
      · have d2 : z.length ≤ 8 := by
          have := of_decide_eq_true c2
          omega
        refine ⟨_, rfl, z, rfl, fun D hD => lc_it (walk_str (z := z)) (fun i Hx => Same H Hx ∧ ∃ xs : List V, Hx D = some (.lst xs) ∧ xs.length ≤ i ∧ xs.isEmpty = (z.cps.toList.take i).all letter) ⟨Same.of_new hD, [], upd_same, Nat.le_refl 0, rfl⟩ (fun _ _ _ _ => trivial) ?_ ?_⟩
        · rintro i x H1 H2 hi ⟨s1, xs, eD, lx, ex⟩ ⟨rfl, c, hc, rfl⟩
          have et : z.cps.toList.take (i + 1) = z.cps.toList.take i ++ [c] := by
            rw [List.take_add_one, show z.cps.toList[i]? = some c by rw [Array.getElem?_toList]; exact hc]
            rfl
          refine ⟨rfl, ?_⟩
          refine ⟨_, rfl, c, _, rfl, rfl, _, rfl, ?_⟩
          rw [abc_letter c]
          cases cl : letter c with
          | true =>
            refine iteF ?_
            refine ⟨s1, xs, eD, by omega, ?_⟩
            rw [et, List.all_append, ex, List.all_cons, List.all_nil, cl, Bool.and_self, Bool.and_true]
          | false =>
            refine iteT ?_
            refine ⟨_, rfl, xs, eD, by omega, fun b o e => ?_, _, upd_same, by rw [List.length_append, List.length_singleton]; omega, ?_⟩
            · rw [upd_ne (ne_of_none e hD)]
              exact s1 b o e
            · rw [et, List.all_append, List.all_cons, cl, Bool.false_and, Bool.and_false]
              cases xs <;> rfl
        · rintro Hx ⟨s1, xs, eD, lx, ex⟩
          refine ⟨Nat.zero_le _, fun N hN => ?_⟩
          have s3 := Same.of_new (o := .lst []) hN
          refine ⟨D, N, xs, rfl, rfl, SqL.of (s3 _ _ eD), SqL.of upd_same, ?_⟩
          rw [List.take_of_length_le (by rw [e9]; exact Nat.le_refl _)] at ex
          have en : nameB z = xs.isEmpty := by
            unfold nameB
            rw [decide_eq_true d1, decide_eq_true d2, ex]
            rfl
          rw [← en]
          exact q _ (s1.trans s3)
      · refine fls ?_
        unfold nameB
        rw [show decide (z.length ≤ 8) = false from decide_eq_false fun h => c2 (decide_eq_true (by omega)), Bool.and_false, Bool.false_and]
    · refine ⟨_, rfl, iteF (fls ?_)⟩
      unfold nameB
      rw [show decide (1 ≤ z.length) = false from decide_eq_false fun h => c1 (decide_eq_true (by omega)), Bool.false_and, Bool.false_and]
abbrev nNb : List Str := ["_law_word_here", "_law_sign"]
theorem scNb : FnScope nNb ["_law_word_here"] (defScope sNb) := ⟨rfl, rfl, rfl, by decide +kernel, rfl, by decide +kernel, by decide +kernel⟩
theorem one_ok {z : Str} (h : PyData.strOk z = true) {c : Nat} (hc : c ∈ z.cps.toList) : PyData.strOk (⟨#[c]⟩ : Str) = true := by
  have h : z.cps.all (· < 0x110000) = true := h
  rw [← Array.all_toList] at h
  have := List.all_eq_true.mp h c hc
  show (#[c] : Array Nat).all (· < 0x110000) = true
  rw [← Array.all_toList]
  show (decide (c < 0x110000) && true) = true
  rw [this]
  rfl
theorem ok_Nb {f : Addr} {fd : FuncData} (F : Fun K "_law_number" "_law_number" sNb f fd) (n_len : mg "len" = none) (n_int : mg "int" = none) : FnOk P w K mg base CX0 1 f fd ["_law_word_here"] spNb := by
  refine F.ok scNb (fun vs H Q E h => ?_) (fun cdv A outer s H vs Q E hr h => ?_)
  · obtain ⟨z, rfl, _⟩ := h
    rfl
  · obtain ⟨z, rfl, lz, zo, q⟩ := h
    have hud := hr.units
    refine ⟨_, (pss_cons (ps_if (PW.pt (pw_or (pt_not (pt_chain op_le op_le pe_int (pe_callB call_len (by rfl) n_len boot_len (pa_cons (pv 0) pa_nil)) pe_int)) (pw_or1 (pt_cmpR (op_neD hud) (pe_lc (own := [("_law_sign", 1)]) (by rfl) scNb.nd (pi_str (pv 0)) (blkOk_by (own := [("_law_sign", 1)]) (N := nNb) (sc := defScope sNb) (by decide +kernel)) (fun _ _ _ _ _ => (pg_name (i := 1) scNb.nd rfl (Or.inl rfl))) (fun _ _ _ _ _ => pts_one (pt_cmpR op_notIn_sign (pv 1) pe_str (by rfl))) (fun _ _ _ _ _ => (pv 1))) (pe_lst pa_nil) (nomark _))))) (pss_one (ps_ret (pe_un un_neg pe_int))) pss_nil)
    (pss_one (ps_ret (pe_ifExp (PW.pt (pw_or (pt_cmpR op_eq (pv 0) pe_str (nomark _)) (pw_or1 (pt_cmpR op_ne (pe_ix ix_str (pv 0) pe_int (fun _ _ => rfl)) pe_str (nomark _))))) (pe_callTy call_int_str (by rfl) n_int (by decide +kernel) (pa_cons (pv 0) pa_nil)) (pe_un un_neg pe_int))))), ?_⟩
    have sz := sizeLine_eq
    have hz2 : z.length ≤ sizeLine := by omega
    have e9 : z.cps.toList.length = z.length := by first | rfl | simp [Str.length]
    have e8 : z.cps.size = z.length := rfl
    have no : numI z = -1 → Q (.int (-1)) H := fun e => by
      rw [← e]
      exact q H (Same.refl H)
    refine ⟨_, rfl, .str z, z.length, rfl, ⟨hz2, rfl⟩, _, _, rfl, rfl, _, rfl, ?_⟩
    refine ite2 (fun c1 => ?_) (fun c1 => ?_)
    · have d1 : 1 ≤ z.length := by
        have := of_decide_eq_true c1
        omega
      refine ⟨_, _, rfl, rfl, _, rfl, ?_⟩
      by_cases d2 : z.length ≤ 60
      · rw [show decide (((z.length : Nat) : Int) ≤ 60) = true from decide_eq_true (by omega)]
        refine iteF ?_
        refine ⟨_, rfl, z, rfl, fun D hD => lc_it (walk_str (z := z)) (fun i Hx => Same H Hx ∧ ∃ xs : List Nat, Hx D = some (.lst ((xs.map fun c => (⟨#[c]⟩ : Str)).map V.str)) ∧ xs.length ≤ i ∧ xs = (z.cps.toList.take i).filter fun c => !dig c) ⟨Same.of_new hD, [], upd_same, Nat.le_refl 0, rfl⟩ (fun _ _ _ _ => trivial) ?_ ?_⟩
        · rintro i x H1 H2 hi ⟨s1, xs, eD, lx, ex⟩ ⟨rfl, c, hc, rfl⟩
          have et : z.cps.toList.take (i + 1) = z.cps.toList.take i ++ [c] := by
            rw [List.take_add_one, show z.cps.toList[i]? = some c by rw [Array.getElem?_toList]; exact hc]
            rfl
          refine ⟨rfl, ?_⟩
          refine ⟨_, rfl, c, _, rfl, rfl, _, rfl, ?_⟩
          rw [dec_dig c]
          cases cl : dig c with
          | true =>
            refine iteF ?_
            refine ⟨s1, xs, eD, by omega, ?_⟩
            rw [et, List.filter_append, ← ex, List.filter_cons_of_neg (by rw [cl]; decide), List.filter_nil, List.append_nil]
          | false =>
            refine iteT ?_
            refine ⟨_, rfl, _, eD, by rw [List.length_map, List.length_map]; omega, fun b o e => ?_, xs ++ [c], by rw [List.map_append, List.map_append]; exact upd_same, by rw [List.length_append, List.length_singleton]; omega, ?_⟩
            · rw [upd_ne (ne_of_none e hD)]
              exact s1 b o e
            · rw [et, List.filter_append, ← ex, List.filter_cons_of_pos (by rw [cl]; rfl), List.filter_nil]
        · rintro Hx ⟨s1, xs, eD, lx, ex⟩
          refine ⟨Nat.zero_le _, fun N hN => ?_⟩
          have s3 := Same.of_new (o := .lst []) hN
          have s13 := s1.trans s3
          have es : xs.isEmpty = z.cps.toList.all dig := by
            rw [ex, List.take_of_length_le (by rw [e9]; exact Nat.le_refl _)]
            cases ha : z.cps.toList.all dig with
            | true =>
              have al := List.all_eq_true.mp ha
              rw [List.filter_eq_nil_iff.mpr fun c hc => by rw [al c hc]; decide]
              rfl
            | false =>
              cases hf : z.cps.toList.filter fun c => !dig c with
              | cons _ _ => rfl
              | nil =>
                have nn := List.filter_eq_nil_iff.mp hf
                have : z.cps.toList.all dig = true := List.all_eq_true.mpr fun c hc => by
                  cases hd : dig c with
                  | true => rfl
                  | false => exact absurd (by rw [hd]; rfl) (nn c hc)
                rw [ha] at this
                cases this
          have okT : ∀ y ∈ xs.map (fun c => (⟨#[c]⟩ : Str)), PyData.strOk y = true := fun y hy => by
            obtain ⟨c, hc, rfl⟩ := List.mem_map.mp hy
            rw [ex] at hc
            exact one_ok zo (List.mem_of_mem_take (List.mem_filter.mp hc).1)
          refine ⟨.list ((xs.map fun c => (⟨#[c]⟩ : Str)).map PyData.str), .list [], .lst (SqL.of (s3 D _ eD)) (OwD.dp_strs _), .lst (SqL.of upd_same) .nil, shaped_strs okT, OwD.shaped_nil, ?_⟩
          rw [show PyData.eqv (.list ((xs.map fun c => (⟨#[c]⟩ : Str)).map PyData.str)) (.list []) = xs.isEmpty by cases xs <;> simp [PyData.eqv, PyData.eqvAll], es]
          cases ha : z.cps.toList.all dig with
          | false =>
            refine ⟨_, rfl, ?_⟩
            refine iteT ?_
            have e := q _ s13
            rw [numI_sign ha] at e
            exact ⟨_, rfl, e⟩
          | true =>
            refine ⟨_, rfl, ?_⟩
            refine iteF ?_
            have fin : (z = "0" ∨ z.cps.toList.head? ≠ some 48) → ∃ i, intText? z = some i ∧ Q (.int i) (upd Hx N (.lst [])) := fun h => by
              obtain ⟨n1, n2⟩ := numI_ok ha d1 d2 h
              have e := q _ s13
              rw [n1] at e
              exact ⟨_, n2, e⟩
            refine ⟨_, rfl, rfl, _, rfl, ?_⟩
            by_cases cz : z = "0"
            · rw [show decide (V.str z = V.str (Str.ofString "0")) = true from decide_eq_true (congrArg V.str cz)]
              refine iteT (iteT ?_)
              obtain ⟨i, h1, h2⟩ := fin (.inl cz)
              exact ⟨_, rfl, z, i, rfl, h1, by omega, h2⟩
            · rw [show decide (V.str z = V.str (Str.ofString "0")) = false from decide_eq_false fun e => cz (V.str.inj e)]
              refine iteF ?_
              obtain ⟨d, r, el⟩ : ∃ d r, z.cps.toList = d :: r := by
                match h : z.cps.toList with
                | d :: r => exact ⟨d, r, rfl⟩
                | [] =>
                  rw [h] at e9
                  have e9 : 0 = z.length := e9
                  omega
              refine ⟨_, rfl, z, 0, d, rfl, rfl, hz2, by rw [el]; exact atI_nat (j := 0) rfl, ?_⟩
              have eh : decide (V.str ⟨#[d]⟩ = V.str (Str.ofString "0")) = decide (z.cps.toList.head? = some 48) := by
                rw [el]
                refine decide_eq_decide.mpr ⟨fun e => ?_, fun e => ?_⟩
                · have e := V.str.inj e
                  have : (⟨#[d]⟩ : Str).cps.toList = (Str.ofString "0").cps.toList := congrArg (fun x : Str => x.cps.toList) e
                  have e0 : (Str.ofString "0").cps.toList = [48] := by decide +kernel
                  rw [e0] at this
                  exact congrArg List.head? this
                · have e : d = 48 := Option.some.inj e
                  rw [e]
                  exact congrArg V.str (by decide +kernel)
              refine ⟨rfl, ?_⟩
              rw [eh]
              by_cases ch : z.cps.toList.head? = some 48
              · rw [decide_eq_true ch]
                have e := q _ s13
                rw [numI_zero cz ch] at e
                refine ⟨_, rfl, iteF ?_⟩
                exact ⟨_, rfl, e⟩
              · rw [decide_eq_false ch]
                refine ⟨_, rfl, iteT ?_⟩
                obtain ⟨i, h1, h2⟩ := fin (.inr ch)
                exact ⟨_, rfl, z, i, rfl, h1, by omega, h2⟩
      · rw [show decide (((z.length : Nat) : Int) ≤ 60) = false from decide_eq_false (by omega)]
        refine iteT (iteT ?_)
        exact ⟨_, rfl, no (numI_long fun h => d2 h.2)⟩
    · refine ⟨_, rfl, ?_⟩
      refine iteT (iteT ?_)
      exact ⟨_, rfl, no (numI_long fun h => c1 (decide_eq_true (by omega)))⟩
abbrev nCe : List Str := ["_law_words_here", "_law_at", "_law_many", "_law_last", "_law_k"]
theorem scCe : FnScope nCe ["_law_words_here", "_law_at"] (defScope sCe) := ⟨rfl, rfl, rfl, by decide +kernel, rfl, by decide +kernel, by decide +kernel⟩
theorem ok_Ce {f fNb fIs : Addr} {fd fdNb fdIs : FuncData} (F : Fun K "_law_cap_end" "_law_cap_end" sCe f fd) (F_num : Fun K "_law_number" "_law_number" sNb fNb fdNb) (g_num : mg "_law_number" = some (.ref fNb)) (F_isn : Fun K "_law_is_name" "_law_is_name" sIn6 fIs fdIs) (g_isn : mg "_law_is_name" = some (.ref fIs)) (n_len : mg "len" = none) (n_int : mg "int" = none) (n_range : mg "range" = none) : FnOk P w K mg base CX0 2 f fd ["_law_words_here", "_law_at"] (spCe K) := by
  have G_num : FnOk P w K mg base CX0 1 fNb fdNb ["_law_word_here"] spNb := ok_Nb F_num n_len n_int
  have b_num : Binds K fdNb ["_law_word_here"] [] := F_num.binds fun _ _ _ _ _ _ us hl => match us, hl with | [_], _ => rfl
  have G_isn : FnOk P w K mg base CX0 1 fIs fdIs ["_law_word_here"] spIn6 := ok_In6 F_isn n_len
  have b_isn : Binds K fdIs ["_law_word_here"] [] := F_isn.binds fun _ _ _ _ _ _ us hl => match us, hl with | [_], _ => rfl
  refine F.ok scCe (fun vs H Q E h => ?_) (fun cdv A outer s H vs Q E hr h => ?_)
  · obtain ⟨l, ws, n, rfl, _⟩ := h
    rfl
  · obtain ⟨l, ws, n, rfl, el, ok, hn, q⟩ := h
    have hr1 : Room 1 _ := hr
    have sz := sizeLine_eq
    have lw := ok.many
    refine ⟨_, (pss_cons (ps_if (PW.pt (pw_or (pt_cmpR op_eq (pv 1) (pe_callB call_len_seq (by rfl) n_len boot_len (pa_cons (pv 0) pa_nil)) (nomark _)) (pw_or1 (pt_not (pt_chain op_le op_le pe_int (pe_call G_num hr1 (by rfl) g_num F_num.kp b_num .nil pass0 (pa_cons (pe_ix ix_list (pv 0) (pv 1) (fun _ _ => rfl)) pa_nil)) pe_int))))) (pss_one (ps_ret (pe_tup (pa_cons (pv 1) (pa_cons pe_bl pa_nil))))) pss_nil)
    (pss_cons (ps_if (PW.pt (pw_or (pt_cmpR op_eq (pe_op op_add (pv 1) pe_int) (pe_callB call_len_seq (by rfl) n_len boot_len (pa_cons (pv 0) pa_nil)) (nomark _)) (pw_or1 (pt_cmpR op_lt (pe_call G_num hr1 (by rfl) g_num F_num.kp b_num .nil pass0 (pa_cons (pe_ix ix_list (pv 0) (pe_op op_add (pv 1) pe_int) (fun _ _ => rfl)) pa_nil)) pe_int (nomark _))))) (pss_one (ps_ret (pe_tup (pa_cons (pe_op op_add (pv 1) pe_int) (pa_cons pe_bl pa_nil))))) pss_nil)
    (pss_cons (ps_par (i := 2) (j := 3) (by rfl) scCe.nd rfl rfl (by decide) rfl rfl (pa_cons (pe_call G_num hr1 (by rfl) g_num F_num.kp b_num .nil pass0 (pa_cons (pe_ix ix_list (pv 0) (pe_op op_add (pv 1) pe_int) (fun _ _ => rfl)) pa_nil)) (pa_cons pe_str pa_nil)) (by rfl))
    (pss_cons (ps_for PassesOwn.never rfl (pi_range2 rfl n_range (pa_cons (pe_op op_add (pv 1) pe_int) (pa_cons (pe_callB call_len_seq (by rfl) n_len boot_len (pa_cons (pv 0) pa_nil)) pa_nil))) (pg_name (i := 4) scCe.nd rfl (Or.inl rfl)) (pss_cons (ps_if (pt_cmpR op_eq (pe_op op_sub (pe_op op_sub (pv 4) (pv 1)) pe_int) (pv 2) (nomark _)) (pss_one (ps_ret (pe_tup (pa_cons (pv 4) (pa_cons pe_bl pa_nil))))) pss_nil)
    (pss_cons (ps_if (PW.pt (pw_or (pt_not (pt_val (pe_call G_isn hr1 (by rfl) g_isn F_isn.kp b_isn .nil pass0 (pa_cons (pe_ix ix_list (pv 0) (pv 4) (fun _ _ => rfl)) pa_nil)))) (pw_or1 (pt_cmpR op_le_str (pe_ix ix_list (pv 0) (pv 4) (fun _ _ => rfl)) (pv 3) (nomark _))))) (pss_one (ps_ret (pe_tup (pa_cons (pv 4) (pa_cons pe_bl pa_nil))))) pss_nil)
    (pss_one (ps_set (i := 3) scCe.nd rfl (Or.inl rfl) (pe_ix ix_list (pv 0) (pv 4) (fun _ _ => rfl)))))))
    (pss_one (ps_ret (pe_tup (pa_cons (pe_callB call_len_seq (by rfl) n_len boot_len (pa_cons (pv 0) pa_nil)) (pa_cons (pe_cmpR op_eq (pe_op op_sub (pe_op op_sub (pe_callB call_len_seq (by rfl) n_len boot_len (pa_cons (pv 0) pa_nil)) (pv 1)) pe_int) (pv 2) (nomark _)) pa_nil))))))))), ?_⟩
    have fin : ∀ (H1 : Hp) (k : Nat) (b : Bool), Same H H1 → ceOf ws n = (k, b) → ∀ T, H1 T = none → Q (.ref T) (upd H1 T (.tup [.int (k : Nat), .bl b])) := fun H1 k b s1 e T hT => by
      have uT := Same.of_new (o := .tup [.int (k : Nat), .bl b]) hT
      refine q T _ (s1.trans uT) ?_
      rw [e]
      exact upd_same
    refine ⟨_, rfl, _, rfl, l, _, rfl, .inl (SqL.of el), rfl, _, rfl, ?_⟩
    rw [List.length_map]
    by_cases c1 : n = ws.length
    · rw [show decide (V.int ((n : Nat) : Int) = V.int ((ws.length : Nat) : Int)) = true from decide_eq_true (by rw [c1])]
      refine iteT (iteT ?_)
      refine ⟨_, rfl, by show (2 : Nat) ≤ sizeLine; omega, fun T hT => ?_⟩
      refine fin H n false (Same.refl _) (ce_bad1 fun k e => ?_) T hT
      rw [pk_out (by omega), num_empty.1] at e
      cases e
    · rw [show decide (V.int ((n : Nat) : Int) = V.int ((ws.length : Nat) : Int)) = false from decide_eq_false (fun h => c1 (by injection h; omega))]
      refine iteF ?_
      have hn1 : n < ws.length := by omega
      refine ⟨_, rfl, _, rfl, l, _, _, _, rfl, rfl, SqL.of el, word_at hn1, ?_⟩
      refine ⟨_, rfl, ok.short n, ok.ok n, fun H1 s1 => ?_⟩
      have el1 := s1 _ _ el
      refine ⟨_, _, rfl, rfl, _, rfl, ?_⟩
      rcases numI_cases (pk ws n) with ⟨eo, en⟩ | ⟨m, eo, en, mt⟩
      · rw [en]
        refine iteF ?_
        refine ⟨_, rfl, iteT ?_⟩
        refine ⟨_, rfl, by show (2 : Nat) ≤ sizeLine; omega, fun T hT => ?_⟩
        exact fin H1 n false s1 (ce_bad1 fun k e => by rw [eo] at e; cases e) T hT
      · rw [en, show decide ((0 : Int) ≤ ((m : Nat) : Int)) = true from decide_eq_true (by omega)]
        refine iteT ?_
        refine ⟨_, _, rfl, rfl, _, rfl, ?_⟩
        by_cases m12 : m ≤ 12
        · rw [show decide (((m : Nat) : Int) ≤ 12) = true from decide_eq_true (by omega)]
          refine iteF ?_
          refine ⟨_, rfl, _, _, rfl, rfl, _, rfl, l, _, rfl, .inl (SqL.of el1), rfl, _, rfl, ?_⟩
          rw [List.length_map]
          by_cases c2 : n + 1 = ws.length
          · rw [show decide (V.int (((n : Nat) : Int) + 1) = V.int ((ws.length : Nat) : Int)) = true from decide_eq_true (by rw [← c2]; rfl)]
            refine iteT (iteT ?_)
            refine ⟨_, rfl, _, _, rfl, rfl, by show (2 : Nat) ≤ sizeLine; omega, fun T hT => ?_⟩
            exact fin H1 (n + 1) false s1 (ce_bad2 eo m12 (by rw [pk_out (by omega)]; exact num_empty.1)) T hT
          · rw [show decide (V.int (((n : Nat) : Int) + 1) = V.int ((ws.length : Nat) : Int)) = false from decide_eq_false (fun h => c2 (by injection h; omega))]
            refine iteF ?_
            have hn2 : n + 1 < ws.length := by omega
            refine ⟨_, rfl, _, rfl, _, _, rfl, rfl, l, _, _, _, rfl, rfl, SqL.of el1, word_at (n := n + 1) hn2, ?_⟩
            refine ⟨_, rfl, ok.short _, ok.ok _, fun H2 s2 => ?_⟩
            have el2 := s2 _ _ el1
            refine ⟨_, _, rfl, rfl, _, rfl, ?_⟩
            have s12 := s1.trans s2
            rcases numI_cases (pk ws (n + 1)) with ⟨ep, ek⟩ | ⟨k, ep, ek, kt⟩
            · rw [ek]
              refine iteT ?_
              refine ⟨_, rfl, _, _, rfl, rfl, by show (2 : Nat) ≤ sizeLine; omega, fun T hT => ?_⟩
              exact fin H2 (n + 1) false s12 (ce_bad2 eo m12 ep) T hT
            · rw [ek, show decide (((k : Nat) : Int) < 0) = false from decide_eq_false (by omega)]
              refine iteF ?_
              have eg := ce_go eo m12 ep
              refine ⟨_, rfl, _, rfl, _, _, rfl, rfl, l, _, _, _, rfl, rfl, SqL.of el2, word_at (n := n + 1) hn2, ?_⟩
              refine ⟨_, rfl, ok.short _, ok.ok _, fun H3 s3 => ?_⟩
              have el3 := s3 _ _ el2
              have s13 := s12.trans s3
              rw [ek]
              refine ⟨_, _, rfl, ?_⟩
              refine ⟨_, rfl, _, _, rfl, rfl, _, rfl, l, _, rfl, .inl (SqL.of el3), ((n : Nat) : Int) + 2, ((ws.length : Nat) : Int), by rw [List.length_map], ⟨by omega, by omega, by omega, by omega⟩, ?_⟩
              rw [show (((ws.length : Nat) : Int) - (((n : Nat) : Int) + 2)).toNat = ws.length - (n + 2) by omega]
              refine for_it walk_range (fun i σ Hx => ∃ (last : Str) (x4 : Option V), σ = [some (.ref l), some (.int (n : Nat)), some (.int (k : Nat)), some (.str last), x4] ∧ Same H Hx ∧ Hx l = some (.lst (ws.map V.str)) ∧ i ≤ k ∧ ceOf ws n = kd (kindsRead ws (k - i) last (n + 2 + i)))
                ⟨"", none, rfl, s13, el3, Nat.zero_le _, eg⟩ (fun _ _ _ _ _ => True.intro) (fun i x σ Hx Hy hi q0 y => ?_) (fun σ Hx q0 => ?_)
              · obtain ⟨last, x4, rfl, sx, elx, ik, ei⟩ := q0
                obtain ⟨rfl, ex⟩ := y
                have ex : x = V.int ((n + 2 + i : Nat) : Int) := ex.trans (congrArg V.int (show ((n : Nat) : Int) + 2 + ((i : Nat) : Int) = ((n + 2 + i : Nat) : Int) by omega))
                subst ex
                have hw : n + 2 + i < ws.length := by omega
                refine ⟨_, rfl, _, rfl, _, _, rfl, rfl, _, _, rfl, rfl, _, rfl, rfl, _, rfl, ?_⟩
                by_cases c3 : i = k
                · rw [show decide (V.int (((n + 2 + i : Nat) : Int) - ((n : Nat) : Int) - 2) = V.int ((k : Nat) : Int)) = true from decide_eq_true (congrArg V.int (by omega))]
                  refine iteT ?_
                  rw [c3, Nat.sub_self] at ei
                  refine ⟨_, rfl, by show (2 : Nat) ≤ sizeLine; omega, fun T hT => ?_⟩
                  exact fin Hy (n + 2 + i) true sx (by rw [ei, c3]; rfl) T hT
                · rw [show decide (V.int (((n + 2 + i : Nat) : Int) - ((n : Nat) : Int) - 2) = V.int ((k : Nat) : Int)) = false from decide_eq_false (fun h => c3 (by injection h; omega))]
                  refine iteF ?_
                  obtain ⟨r, hr2⟩ : ∃ r, k - i = r + 1 := ⟨k - i - 1, by omega⟩
                  rw [hr2] at ei
                  refine ⟨_, rfl, _, rfl, l, _, _, _, rfl, rfl, SqL.of elx, word_at hw, ?_⟩
                  refine ⟨_, rfl, ok.short _, fun H4 s4 => ?_⟩
                  have el4 := s4 _ _ elx
                  have sx4 := sx.trans s4
                  have bad : (nameB (pk ws (n + 2 + i)) && ltS last (pk ws (n + 2 + i))) = false → ceOf ws n = (n + 2 + i, false) := fun h => by rw [ei, kd_bad h]
                  refine ⟨_, rfl, ?_⟩
                  cases cn : nameB (pk ws (n + 2 + i)) with
                  | false =>
                    refine iteT (iteT ?_)
                    refine ⟨_, rfl, by show (2 : Nat) ≤ sizeLine; omega, fun T hT => ?_⟩
                    exact fin H4 (n + 2 + i) false sx4 (bad (by rw [cn]; rfl)) T hT
                  | true =>
                    refine iteF ?_
                    refine ⟨_, rfl, _, rfl, l, _, _, _, rfl, rfl, SqL.of el4, word_at hw, _, rfl, _, _, rfl, rfl, _, rfl, ?_⟩
                    show if (!ltS last (pk ws (n + 2 + i))) = true then _ else _
                    cases cl : ltS last (pk ws (n + 2 + i)) with
                    | false =>
                      refine iteT ?_
                      refine ⟨_, rfl, by show (2 : Nat) ≤ sizeLine; omega, fun T hT => ?_⟩
                      exact fin H4 (n + 2 + i) false sx4 (bad (by rw [cl, Bool.and_false])) T hT
                    | true =>
                      refine iteF ?_
                      refine ⟨_, rfl, _, rfl, l, _, _, _, rfl, rfl, SqL.of el4, word_at hw, pk ws (n + 2 + i), _, rfl, sx4, el4, by omega, ?_⟩
                      rw [ei, kd_go (by rw [cn, cl]; rfl), show k - (i + 1) = r by omega]
                      rfl
              · obtain ⟨last, x4, rfl, sx, elx, ik, ei⟩ := q0
                have i0 : n + 2 + (ws.length - (n + 2)) = ws.length := by omega
                rw [i0] at ei
                refine ⟨_, rfl, l, _, rfl, .inl (SqL.of elx), _, rfl, l, _, rfl, .inl (SqL.of elx), _, rfl, _, _, rfl, rfl, _, _, rfl, rfl, _, rfl, rfl, ?_⟩
                refine ⟨by show (2 : Nat) ≤ sizeLine; omega, fun T hT => ?_⟩
                have lm : (ws.map V.str).length = ws.length := List.length_map _
                by_cases c5 : k - (ws.length - (n + 2)) = 0
                · rw [c5] at ei
                  have e := fin Hx ws.length true sx (by rw [ei]; rfl) T hT
                  have ev : decide (V.int ((((ws.map V.str).length : Nat) : Int) - ((n : Nat) : Int) - 2) = V.int ((k : Nat) : Int)) = true := decide_eq_true (congrArg V.int (by rw [lm]; omega))
                  rw [← ev] at e
                  rw [← lm] at e
                  exact e
                · obtain ⟨r, hr2⟩ : ∃ r, k - (ws.length - (n + 2)) = r + 1 := ⟨k - (ws.length - (n + 2)) - 1, by omega⟩
                  rw [hr2, kd_bad (by rw [pk_out (Nat.le_refl _), num_empty.2, Bool.false_and])] at ei
                  have e := fin Hx ws.length false sx ei T hT
                  have ev : decide (V.int ((((ws.map V.str).length : Nat) : Int) - ((n : Nat) : Int) - 2) = V.int ((k : Nat) : Int)) = false := decide_eq_false fun h => by
                    injection h with h
                    rw [lm] at h
                    omega
                  rw [← ev] at e
                  rw [← lm] at e
                  exact e
        · rw [show decide (((m : Nat) : Int) ≤ 12) = false from decide_eq_false (by omega)]
          refine iteT ?_
          refine ⟨_, rfl, by show (2 : Nat) ≤ sizeLine; omega, fun T hT => ?_⟩
          exact fin H1 n false s1 (ce_bad1 fun k e => by rw [eo] at e; cases e; exact m12) T hT
abbrev nDu : List Str := ["_law_line", "_law_words_here", "_law_at", "_law_wanted", "_law_turn", "_law_is_cap", "_law_is_right"]
theorem scDu : FnScope nDu ["_law_line"] (defScope sDu) := ⟨rfl, rfl, rfl, by decide +kernel, rfl, by decide +kernel, by decide +kernel⟩
theorem ok_Du {f fCe fNb fIs : Addr} {fd fdCe fdNb fdIs : FuncData} (F : Fun K "_law_due" "_law_due" sDu f fd) (F_ce : Fun K "_law_cap_end" "_law_cap_end" sCe fCe fdCe) (g_ce : mg "_law_cap_end" = some (.ref fCe)) (F_num : Fun K "_law_number" "_law_number" sNb fNb fdNb) (g_num : mg "_law_number" = some (.ref fNb)) (F_isn : Fun K "_law_is_name" "_law_is_name" sIn6 fIs fdIs) (g_isn : mg "_law_is_name" = some (.ref fIs)) (n_len : mg "len" = none) (n_int : mg "int" = none) (n_range : mg "range" = none) : FnOk P w K mg base CX0 3 f fd ["_law_line"] spDu := by
  have G_ce : FnOk P w K mg base CX0 2 fCe fdCe ["_law_words_here", "_law_at"] (spCe K) := ok_Ce F_ce F_num g_num F_isn g_isn n_len n_int n_range
  have b_ce : Binds K fdCe ["_law_words_here", "_law_at"] [] := F_ce.binds fun _ _ _ _ _ _ us hl => match us, hl with | [_, _], _ => rfl
  refine F.ok scDu (fun vs H Q E h => ?_) (fun cdv A outer s H vs Q E hr h => ?_)
  · obtain ⟨z, rfl, _⟩ := h
    rfl
  · obtain ⟨z, rfl, ok, q⟩ := h
    have hr2 : Room 2 _ := hr
    have sz := sizeLine_eq
    have lz := ok.len
    refine ⟨_, (pss_cons (ps_par3 (i := 1) (j := 2) (l := 3) (by rfl) scDu.nd rfl rfl rfl (by decide) (by decide) (by decide) rfl rfl rfl (pa_cons (pe_split (pv 0) pe_str) (pa_cons pe_int (pa_cons pe_int pa_nil))) (by rfl))
    (pss_cons (ps_for PassesOwn.never rfl (pi_range1 rfl n_range (pa_cons (pe_callB call_len_seq (by rfl) n_len boot_len (pa_cons (pv 1) pa_nil)) pa_nil)) (pg_name (i := 4) scDu.nd rfl (Or.inl rfl)) (pss_cons (ps_if (PW.pt (pw_or (pt_cmpR op_eq (pv 3) pe_int (nomark _)) (pw_or (pt_cmpR op_eq (pv 2) (pe_callB call_len_seq (by rfl) n_len boot_len (pa_cons (pv 1) pa_nil)) (nomark _)) (pw_or1 (pt_cmpR op_notIn_seq (pe_ix ix_list (pv 1) (pv 2) (fun _ _ => rfl)) (pe_tup (pa_cons pe_str (pa_cons pe_str (pa_cons pe_str pa_nil)))) (by rfl)))))) (pss_one (ps_ret (pe_ifExp (PW.pt (pw_or (pt_cmpR op_gt (pv 3) pe_int (nomark _)) (pw_or1 (pt_cmpR op_lt (pv 2) (pe_callB call_len_seq (by rfl) n_len boot_len (pa_cons (pv 1) pa_nil)) (nomark _))))) (pv 2) pe_non))) pss_nil)
    (pss_cons (ps_par (i := 5) (j := 2) (by rfl) scDu.nd rfl rfl (by decide) rfl rfl (pa_cons (pe_cmpR op_eq (pe_ix ix_list (pv 1) (pv 2) (fun _ _ => rfl)) pe_str (nomark _)) (pa_cons (pe_op op_add (pv 2) pe_int) pa_nil)) (by rfl))
    (pss_cons (ps_set (i := 3) scDu.nd rfl (Or.inl rfl) (pe_ifExp (pt_val (pv 5)) (pe_op op_sub (pv 3) pe_int) (pe_op op_add (pv 3) pe_int)))
    (pss_one (ps_if (pt_val (pv 5)) (pss_cons (ps_asg (pe_call G_ce hr2 (by rfl) g_ce F_ce.kp b_ce .nil pass0 (pa_cons (pv 1) (pa_cons (pv 2) pa_nil))) (pg_tup rfl (pgs_cons (pg_name (i := 2) scDu.nd rfl (Or.inl rfl)) (pgs_cons (pg_name (i := 6) scDu.nd rfl (Or.inl rfl)) pgs_nil))))
    (pss_one (ps_if (pt_not (pt_val (pv 6))) (pss_one (ps_ret (pv 2))) pss_nil))) pss_nil))))))
    (pss_one (ps_ret (pe_ifExp (PW.pt (pw_and (pt_cmpR op_eq (pv 3) pe_int (nomark _)) (pw_and1 (pt_cmpR op_eq (pv 2) (pe_callB call_len_seq (by rfl) n_len boot_len (pa_cons (pv 1) pa_nil)) (nomark _))))) pe_non (pv 2)))))), ?_⟩
    have okw := ok.ws
    refine ⟨_, rfl, ⟨_, rfl⟩, z, " ", rfl, rfl, by decide +kernel, by omega, fun W1 hW => ?_⟩
    have uW := Same.of_new (o := .lst ((wordsOf z).map V.str)) hW
    have wne : wordsOf z ≠ [] := words_neT z
    have eW : upd H W1 (.lst ((Txt.split z (Str.ofString " ")).map V.str)) W1 = some (.lst ((wordsOf z).map V.str)) := upd_same
    have uW : Same H (upd H W1 (.lst ((Txt.split z (Str.ofString " ")).map V.str))) := uW
    generalize upd H W1 (.lst ((Txt.split z (Str.ofString " ")).map V.str)) = H0 at *
    generalize wordsOf z = ws at *
    have lw := okw.many
    have lm : (ws.map V.str).length = ws.length := List.length_map _
    have l0 : 0 < ws.length := List.length_pos_iff.mpr wne
    have fin : ∀ (Hx : Hp) (o : Option Nat), Same H Hx → dueOf ws = o → Q (dueV o) Hx := fun Hx o sx e => by
      rw [← e]
      exact q Hx sx
    refine ⟨_, _, _, rfl, ?_⟩
    refine ⟨_, rfl, W1, _, rfl, .inl (SqL.of eW), ws.length, by rw [lm], by omega, by omega, ?_⟩
    refine for_it walk_range (fun i σ Hx => ∃ (n wanted : Nat) (x4 x5 x6 : Option V), σ = [some (.str z), some (.ref W1), some (.int (n : Nat)), some (.int (wanted : Nat)), x4, x5, x6] ∧ Same H Hx ∧ Hx W1 = some (.lst (ws.map V.str)) ∧ i ≤ n ∧ n ≤ ws.length ∧ dueOf ws = endDue ws (stepsRead ws (ws.length + 1 - i) wanted n))
      ⟨0, 1, none, none, none, rfl, uW, eW, Nat.le_refl 0, Nat.zero_le _, due_start ws⟩ (fun _ _ _ _ _ => True.intro) (fun i x σ Hx Hy hi q0 y => ?_) (fun σ Hx q0 => ?_)
    · obtain ⟨n, wanted, x4, x5, x6, rfl, sx, eWx, hin, hnl, ei⟩ := q0
      obtain ⟨rfl, ex⟩ := y
      obtain ⟨fu, hfu⟩ : ∃ fu, ws.length + 1 - i = fu + 1 := ⟨ws.length - i, by omega⟩
      have hfu2 : ws.length + 1 - (i + 1) = fu := by omega
      rw [hfu] at ei
      refine ⟨_, rfl, rfl, _, rfl, ?_⟩
      by_cases c0 : wanted = 0
      · rw [show decide (V.int ((wanted : Nat) : Int) = V.int 0) = true from decide_eq_true (by rw [c0]; rfl)]
        refine iteT (iteT ?_)
        subst c0
        refine ⟨_, rfl, _, _, rfl, rfl, _, rfl, ?_⟩
        refine iteF ?_
        refine ⟨_, rfl, _, rfl, W1, _, rfl, .inl (SqL.of eWx), _, _, rfl, rfl, _, rfl, ?_⟩
        rw [lm]
        by_cases c1 : n < ws.length
        · rw [show decide (((n : Nat) : Int) < ((ws.length : Nat) : Int)) = true from decide_eq_true (by omega)]
          refine iteT ?_
          exact ⟨_, rfl, fin Hy (some n) sx (by rw [ei, due_none, if_pos c1])⟩
        · rw [show decide (((n : Nat) : Int) < ((ws.length : Nat) : Int)) = false from decide_eq_false (by omega)]
          refine iteF ?_
          exact fin Hy none sx (by rw [ei, due_none, if_neg c1])
      · rw [show decide (V.int ((wanted : Nat) : Int) = V.int 0) = false from decide_eq_false (fun h => c0 (by injection h; omega))]
        refine iteF ?_
        obtain ⟨w', rfl⟩ : ∃ w', wanted = w' + 1 := ⟨wanted - 1, by omega⟩
        refine ⟨_, rfl, _, rfl, W1, _, rfl, .inl (SqL.of eWx), rfl, _, rfl, ?_⟩
        rw [lm]
        by_cases c1 : n = ws.length
        · rw [show decide (V.int ((n : Nat) : Int) = V.int ((ws.length : Nat) : Int)) = true from decide_eq_true (by rw [c1])]
          refine iteT (iteT ?_)
          refine ⟨_, rfl, _, _, rfl, rfl, _, rfl, ?_⟩
          rw [show decide (0 < (((w' + 1 : Nat)) : Int)) = true from decide_eq_true (by omega)]
          refine iteT (iteT ?_)
          refine ⟨_, rfl, fin Hy (some n) sx ?_⟩
          rw [ei, due_bad (by rw [pk_out (by omega)]; decide +kernel)]
        · rw [show decide (V.int ((n : Nat) : Int) = V.int ((ws.length : Nat) : Int)) = false from decide_eq_false (fun h => c1 (by injection h; omega))]
          refine iteF ?_
          have hn : n < ws.length := by omega
          refine ⟨_, rfl, _, rfl, W1, _, _, _, rfl, rfl, SqL.of eWx, word_at hn, by show (3 : Nat) ≤ sizeLine; omega, fun T hT => ?_⟩
          have uT := Same.of_new (o := .tup [.str "cap", .str "both", .str "either"]) hT
          refine ⟨T, _, rfl, .inr (SqT.of upd_same), rfl, rfl, _, rfl, ?_⟩
          have sT := sx.trans uT
          have eWT := uT _ _ eWx
          show if (!inV (.str (pk ws n)) [.str "cap", .str "both", .str "either"]) = true then _ else _
          rw [in3]
          by_cases c2 : pk ws n ∈ [("cap" : Str), "both", "either"]
          · rw [decide_eq_true c2]
            refine iteF ?_
            refine ⟨_, rfl, _, rfl, W1, _, _, _, rfl, rfl, SqL.of eWT, word_at hn, rfl, _, rfl, _, _, rfl, rfl, _, _, rfl, ?_⟩
            by_cases cc : pk ws n = "cap"
            · rw [show decide (V.str (pk ws n) = V.str (Str.ofString "cap")) = true from decide_eq_true (congrArg V.str cc)]
              have dc := due_cap (f := fu) (w := w') cc
              rw [← ei] at dc
              refine ⟨_, rfl, _, rfl, ?_⟩
              refine iteT ?_
              refine ⟨_, rfl, _, _, rfl, rfl, ?_⟩
              refine ⟨_, rfl, _, rfl, ?_⟩
              refine iteT ?_
              refine ⟨_, rfl, _, rfl, W1, ws, n + 1, rfl, eWT, okw, by omega, fun T2 H2 s2 eT2 => ?_⟩
              refine ⟨T2, _, rfl, SqT.of eT2, rfl, _, _, rfl, _, _, rfl, rfl, ?_⟩
              refine ⟨_, rfl, _, rfl, ?_⟩
              cases ce : (ceOf ws (n + 1)).2 with
              | false =>
                rw [ce, if_neg (by decide)] at dc
                refine iteT ?_
                exact ⟨_, rfl, fin _ (some (ceOf ws (n + 1)).1) (sT.trans s2) dc⟩
              | true =>
                rw [ce, if_pos rfl] at dc
                obtain ⟨k1, k2⟩ := ce_end ce
                refine iteF ?_
                refine ⟨(ceOf ws (n + 1)).1, w', some x, some (.bl true), some (.bl true), ?_, sT.trans s2, s2 _ _ eWT, by omega, k2, by rw [hfu2]; exact dc⟩
                show [some (V.str z), some (V.ref W1), some (V.int (((ceOf ws (n + 1)).1 : Nat) : Int)), some (V.int (((w' + 1 : Nat) : Int) - 1)), some x, some (V.bl true), some (V.bl true)] = _
                rw [show (((w' + 1 : Nat) : Int) - 1) = ((w' : Nat) : Int) by omega]
            · rw [show decide (V.str (pk ws n) = V.str (Str.ofString "cap")) = false from decide_eq_false fun e => cc (V.str.inj e)]
              have dc : dueOf ws = endDue ws (stepsRead ws fu (w' + 2) (n + 1)) := by
                simp only [List.mem_cons, List.not_mem_nil, or_false] at c2
                rw [ei]
                rcases c2 with h | h | h
                · exact absurd h cc
                · exact due_both h
                · exact due_either h
              refine ⟨_, rfl, _, rfl, ?_⟩
              refine iteF ?_
              refine ⟨_, rfl, _, _, rfl, rfl, ?_⟩
              refine ⟨_, rfl, _, rfl, ?_⟩
              refine iteF ?_
              exact ⟨n + 1, w' + 2, some x, some (.bl false), x6, rfl, sT, eWT, by omega, hn, by rw [hfu2]; exact dc⟩
          · rw [decide_eq_false c2]
            refine iteT ?_
            refine ⟨_, rfl, _, _, rfl, rfl, _, rfl, ?_⟩
            rw [show decide (0 < (((w' + 1 : Nat)) : Int)) = true from decide_eq_true (by omega)]
            refine iteT (iteT ?_)
            refine ⟨_, rfl, fin _ (some n) sT ?_⟩
            rw [ei, due_bad c2]
    · obtain ⟨n, wanted, x4, x5, x6, rfl, sx, eWx, hin, hnl, ei⟩ := q0
      have i1 : n = ws.length := by omega
      rw [show ws.length + 1 - ((ws.length : Nat) : Int).toNat = 0 + 1 by omega] at ei
      refine ⟨_, rfl, rfl, _, rfl, ?_⟩
      by_cases c0 : wanted = 0
      · rw [show decide (V.int ((wanted : Nat) : Int) = V.int 0) = true from decide_eq_true (by rw [c0]; rfl)]
        refine iteT ?_
        refine ⟨_, rfl, _, rfl, W1, _, rfl, .inl (SqL.of eWx), rfl, _, rfl, ?_⟩
        rw [lm, show decide (V.int ((n : Nat) : Int) = V.int ((ws.length : Nat) : Int)) = true from decide_eq_true (by rw [i1])]
        refine iteT ?_
        refine fin _ none sx ?_
        rw [ei, c0, due_none, if_neg (by omega)]
      · rw [show decide (V.int ((wanted : Nat) : Int) = V.int 0) = false from decide_eq_false (fun h => c0 (by injection h; omega))]
        refine iteF ?_
        obtain ⟨w', rfl⟩ : ∃ w', wanted = w' + 1 := ⟨wanted - 1, by omega⟩
        refine ⟨_, rfl, fin _ (some n) sx ?_⟩
        rw [ei, i1, due_bad (by rw [pk_out (Nat.le_refl _)]; decide +kernel)]
end
end K10
end
section
set_option pp.maxSteps 400
set_option pp.deepTerms.threshold 6
/-! Words bent. -/
namespace K10
open PySem PySem.Spec PyProof.Rows L2
abbrev sBe : Stmt := top 41
/-! ### blanks -/
def blanks (z : Str) : Nat := (TL.tl z).count 32
theorem blanks_app (x y : Str) : blanks (x ++ y) = blanks x + blanks y := by
  unfold blanks
  rw [TL.tl_append, List.count_append]
theorem blanks_free {z : Str} (h : 32 ∉ TL.tl z) : blanks z = 0 := List.count_eq_zero.mpr h
theorem count_join : ∀ A : List (List Nat), A ≠ [] → (∀ a ∈ A, 32 ∉ a) → (TL.joinL [32] A).count 32 + 1 = A.length
  | [], h, _ => absurd rfl h
  | [a], _, h => by
    show a.count 32 + 1 = 1
    rw [List.count_eq_zero.mpr (h a List.mem_cons_self)]
  | a :: b :: A, _, h => by
    have i := count_join (b :: A) (by simp) fun x hx => h x (List.mem_cons_of_mem _ hx)
    show (a ++ ([32] ++ TL.joinL [32] (b :: A))).count 32 + 1 = _
    rw [List.count_append, List.count_append, List.count_eq_zero.mpr (h a List.mem_cons_self), List.length_cons, ← i, show List.count 32 [32] = 1 from rfl]
    omega
theorem words_count (z : Str) : (wordsOf z).length = blanks z + 1 := by
  have e := count_join ((wordsOf z).map TL.tl) (fun e => words_neT z (List.map_eq_nil_iff.mp e)) fun a ha => by
    obtain ⟨w, hw, rfl⟩ := List.mem_map.mp ha
    exact words_free hw
  rw [← tlj, words_join, List.length_map] at e
  exact e.symm
theorem sub_join (S : List Nat) : ∀ (A : List (List Nat)) (a : List Nat), a ∈ A → List.Sublist a (TL.joinL S A)
  | [], a, h => by cases h
  | [b], a, h => by
    rw [List.mem_singleton.mp h]
    exact List.Sublist.refl _
  | b :: c :: A, a, h => by
    show List.Sublist a (b ++ (S ++ TL.joinL S (c :: A)))
    rcases List.mem_cons.mp h with rfl | h
    · exact List.sublist_append_left _ _
    · exact (sub_join S (c :: A) a h).trans ((List.sublist_append_right _ _).trans (List.sublist_append_right _ _))
theorem word_sub {z w : Str} (h : w ∈ wordsOf z) : List.Sublist (TL.tl w) (TL.tl z) := by
  have := sub_join [32] ((wordsOf z).map TL.tl) (TL.tl w) (List.mem_map.mpr ⟨w, h, rfl⟩)
  rw [← tlj, words_join] at this
  exact this
theorem strOk_all (z : Str) : PyData.strOk z = (TL.tl z).all (fun c => decide (c < 0x110000)) := by
  show z.cps.all _ = _
  rw [← Array.all_toList]
theorem word_le {z w : Str} (h : w ∈ wordsOf z) : w.length ≤ z.length ∧ (PyData.strOk z = true → PyData.strOk w = true) := by
  have s := word_sub h
  refine ⟨?_, fun o => ?_⟩
  · rw [TL.len_tl, TL.len_tl]
    exact s.length_le
  · rw [strOk_all] at o ⊢
    exact List.all_eq_true.mpr fun c hc => List.all_eq_true.mp o c (s.subset hc)
/-- all blanks of some words -/
def bl (ws : List Str) : Nat := (ws.map blanks).sum
theorem bl_app (a b : List Str) : bl (a ++ b) = bl a + bl b := by
  unfold bl
  rw [List.map_append, List.sum_append]
theorem bl_one (w : Str) : bl [w] = blanks w := by simp [bl]
theorem bl_split (ws : List Str) (i : Nat) : bl (ws.take i) + bl (ws.drop i) = bl ws := by
  rw [← bl_app, List.take_append_drop]
theorem bl_at {ws : List Str} {i : Nat} (h : i < ws.length) : bl (ws.drop i) = blanks (pk ws i) + bl (ws.drop (i + 1)) := by
  rw [drop_pk h]
  show ((pk ws i :: ws.drop (i + 1)).map blanks).sum = _
  rw [List.map_cons, List.sum_cons]
  rfl
theorem bl_drop (ws : List Str) (i : Nat) : bl (ws.drop (i + 1)) ≤ bl (ws.drop i) := by
  rcases Nat.lt_or_ge i ws.length with h | h
  · rw [bl_at h]
    omega
  · rw [List.drop_of_length_le (by omega)]
    exact Nat.zero_le _
/-- one word: its signs, its length -/
def GoodW (k : Nat) (w : Str) : Prop := PyData.strOk w = true ∧ w.length ≤ 61 + k
/-- some words, bent k times -/
structure WsOk (ws : List Str) (k : Nat) : Prop where
  len : ws.length ≤ 34 + k
  ok : ∀ w ∈ ws, GoodW k w
  few : bl ws ≤ k
theorem GoodW.mono {k : Nat} {w : Str} (h : GoodW k w) : GoodW (k + 1) w := ⟨h.1, by have := h.2; omega⟩
theorem GoodW.zero {k : Nat} {w : Str} (h : GoodW 0 w) : GoodW k w := ⟨h.1, by have := h.2; omega⟩
theorem flat_len : ∀ ws : List Str, (ws.flatMap wordsOf).length = ws.length + bl ws
  | [] => rfl
  | w :: r => by
    have i := flat_len r
    rw [List.flatMap_cons, List.length_append, words_count, List.length_cons, i]
    show _ = r.length + 1 + ((w :: r).map blanks).sum
    rw [List.map_cons, List.sum_cons]
    show blanks w + 1 + (r.length + bl r) = r.length + 1 + (blanks w + bl r)
    omega
/-- a short line that the law reads -/
structure LineS (z : Str) : Prop where
  l : LineOk z
  few : (wordsOf z).length ≤ 60
theorem lineS_of {z : Str} (h : ∀ q ∈ wordsOf z, PyData.strOk q = true ∧ q.length ≤ 64) (l : (wordsOf z).length ≤ 60) : LineS z := by
  have g : ∀ i, (pk (wordsOf z) i).length ≤ 1000 ∧ PyData.strOk (pk (wordsOf z) i) = true := fun i => by
    unfold pk
    rw [List.getD_eq_getElem?_getD]
    cases e : (wordsOf z)[i]? with
    | none => exact by decide +kernel
    | some q =>
      have := h q (List.mem_of_getElem? e)
      exact ⟨Nat.le_trans this.2 (by decide), this.1⟩
  refine ⟨⟨?_, by omega, fun i => (g i).1, fun i => (g i).2⟩, l⟩
  have := text_lenT fun q hq => (h q hq).2
  have : (64 + 1) * (wordsOf z).length ≤ 65 * 60 := Nat.mul_le_mul_left 65 l
  omega
theorem empty_words : wordsOf (Txt.join " " []) = [("" : Str)] := by decide +kernel
/-- the line of some words -/
theorem WsOk.line {ws : List Str} {k : Nat} (h : WsOk ws k) (hk : k ≤ 3) : LineS (Txt.join " " ws) := by
  by_cases c : ws = []
  · refine lineS_of (fun q hq => ?_) ?_
    · rw [c, empty_words] at hq
      rw [List.mem_singleton.mp hq]
      exact ⟨by decide +kernel, by decide +kernel⟩
    · rw [c, empty_words]
      decide
  · refine lineS_of (fun q hq => ?_) ?_
    · rw [words_flat c] at hq
      obtain ⟨w, hw, h2⟩ := List.mem_flatMap.mp hq
      obtain ⟨g1, g2⟩ := h.ok w hw
      obtain ⟨l1, l2⟩ := word_le h2
      exact ⟨l2 g1, by omega⟩
    · rw [words_flat c, flat_len]
      have l1 := h.len
      have l2 := h.few
      omega
theorem sum_leB (b : Nat) : ∀ zs : List Str, (∀ z ∈ zs, z.length ≤ b) → (zs.map (·.length)).sum ≤ b * zs.length
  | [], _ => Nat.zero_le _
  | z :: r, h => by
    have i1 := sum_leB b r fun y hy => h y (List.mem_cons_of_mem _ hy)
    have i2 := h z List.mem_cons_self
    rw [List.map_cons, List.sum_cons, List.length_cons, Nat.mul_succ]
    omega
theorem WsOk.fits {ws : List Str} {k : Nat} (h : WsOk ws k) (hk : k ≤ 3) : (ws.map (·.length)).sum + ws.length * (" " : Str).length ≤ 16777216 := by
  have c := sum_leB 64 ws fun w hw => by have := (h.ok w hw).2; omega
  have e : (" " : Str).length = 1 := by decide +kernel
  have := h.len
  rw [e]
  omega
theorem name_free {z : Str} (h : nameB z = true) : 32 ∉ TL.tl z := name_sp h
theorem cap_free : ∀ m : Fin 13, (toString ((m.val : Nat) : Int) : Str).length ≤ 61 ∧ PyData.strOk (toString ((m.val : Nat) : Int) : Str) = true := by decide +kernel
theorem small_word {m : Int} (m0 : 0 ≤ m) (m1 : m ≤ 12) : (toString m : Str).length ≤ 61 ∧ PyData.strOk (toString m : Str) = true ∧ blanks (toString m : Str) = 0 := by
  have k1 := cap_free ⟨m.toNat, by omega⟩
  have k2 := most_sp ⟨m.toNat, by omega⟩
  rw [show (((⟨m.toNat, by omega⟩ : Fin 13).val : Nat) : Int) = m from Int.toNat_of_nonneg m0] at k1 k2
  exact ⟨k1.1, k1.2, blanks_free k2⟩
/-- the words of a tree -/
theorem tree_word : ∀ {t : QT}, (∀ c ∈ t.caps, GoodC c) → ∀ w ∈ t.words, PyData.strOk w = true ∧ w.length ≤ 61 ∧ 32 ∉ TL.tl w
  | .cap m ks, h, w, hw => by
    obtain ⟨⟨m0, m1, l, g⟩, nd, nm⟩ := h (m, ks) (List.mem_singleton.mpr rfl)
    have m0 : 0 ≤ m := m0
    have m1 : m ≤ 12 := m1
    have l : ks.length ≤ 3 := l
    rcases List.mem_append.mp hw with hw | hw
    · simp only [List.mem_cons, List.not_mem_nil, or_false] at hw
      rcases hw with rfl | rfl | rfl
      · exact ⟨by decide +kernel, by decide +kernel, cap_sp⟩
      · obtain ⟨a, b, _⟩ := small_word m0 m1
        have k2 := most_sp ⟨m.toNat, by omega⟩
        rw [show (((⟨m.toNat, by omega⟩ : Fin 13).val : Nat) : Int) = m from Int.toNat_of_nonneg m0] at k2
        exact ⟨b, a, k2⟩
      · obtain ⟨a, b, _⟩ := small_word (m := ((ks.length : Nat) : Int)) (by omega) (by omega)
        exact ⟨b, a, most_sp ⟨ks.length, by omega⟩⟩
    · exact ⟨name_strOk (nm w hw), Nat.le_trans (g w hw) (by decide), name_sp (nm w hw)⟩
  | .both t u, h, w, hw => by
    rcases List.mem_cons.mp hw with rfl | hw
    · exact ⟨by decide +kernel, by decide +kernel, heads_sp.1⟩
    · rcases List.mem_append.mp hw with hw | hw
      · exact tree_word (fun c hc => h c (List.mem_append_left _ hc)) w hw
      · exact tree_word (fun c hc => h c (List.mem_append_right _ hc)) w hw
  | .either t u, h, w, hw => by
    rcases List.mem_cons.mp hw with rfl | hw
    · exact ⟨by decide +kernel, by decide +kernel, heads_sp.2⟩
    · rcases List.mem_append.mp hw with hw | hw
      · exact tree_word (fun c hc => h c (List.mem_append_left _ hc)) w hw
      · exact tree_word (fun c hc => h c (List.mem_append_right _ hc)) w hw
theorem bl_zero : ∀ ws : List Str, (∀ w ∈ ws, 32 ∉ TL.tl w) → bl ws = 0
  | [], _ => rfl
  | w :: r, h => by
    show ((w :: r).map blanks).sum = 0
    rw [List.map_cons, List.sum_cons, blanks_free (h w List.mem_cons_self)]
    have := bl_zero r fun x hx => h x (List.mem_cons_of_mem _ hx)
    show 0 + bl r = 0
    omega
theorem tree_ws {t : QT} (g : ∀ c ∈ t.caps, GoodC c) (l : t.caps.length ≤ 5) : WsOk t.words 0 := by
  have w := words_len fun c hc => (g c hc).1.2.2.1
  exact ⟨by omega, fun x hx => ⟨(tree_word g x hx).1, (tree_word g x hx).2.1⟩, by rw [bl_zero _ fun x hx => (tree_word g x hx).2.2]; exact Nat.le_refl 0⟩
def oddW : List Str := ["", "cap", "both", "either", "0", "1", "2", "12", "13", "07", "+3", "-1", "B", "abcdefghi", OwR.repS "9" 61, "a\n"]
theorem odd_good : ∀ w ∈ oddW, (PyData.strOk w = true ∧ w.length ≤ 61) ∧ blanks w = 0 := by decide +kernel
theorem cutS_to (ws : List Str) (k : Nat) : cutV (ws.map V.str) none (some ((k : Nat) : Int)) = (ws.take k).map V.str := by
  unfold cutV
  rw [HT.sIx_none, HT.sIx_nat, List.drop_zero, Nat.sub_zero, List.length_map, List.map_take]
  rcases Nat.le_total k ws.length with h | h
  · rw [Nat.min_eq_left h]
  · rw [Nat.min_eq_right h, List.take_of_length_le (by rw [List.length_map]; exact Nat.le_refl _), List.take_of_length_le (by rw [List.length_map]; exact h)]
theorem cutS_from (ws : List Str) (k : Nat) : cutV (ws.map V.str) (some ((k : Nat) : Int)) none = (ws.drop k).map V.str := by
  unfold cutV
  rw [HT.sIx_none, HT.sIx_nat, List.length_map, List.map_drop, List.take_of_length_le (by rw [List.length_drop, List.length_map]; exact Nat.le_refl _)]
  rcases Nat.le_total k ws.length with h | h
  · rw [Nat.min_eq_left h]
  · rw [Nat.min_eq_right h, List.drop_of_length_le (by rw [List.length_map]; exact Nat.le_refl _), List.drop_of_length_le (by rw [List.length_map]; exact h)]
theorem or_turn {c d : Bool} {A B W : Prop} (hw : (if d = true then A else B) → W) (hA : c = true ∨ d = true → A) (hB : c = false → d = false → B) : if c = true then (if true = true then A else B) else W := by
  cases c with
  | true => exact iteT (iteT (hA (.inl rfl)))
  | false =>
    refine iteF (hw ?_)
    cases d with
    | true => exact iteT (hA (.inr rfl))
    | false => exact iteF (hB rfl rfl)
theorem and_turn {c d : Bool} {A B W : Prop} (hw : (if d = true then A else B) → W) (hA : c = true → d = true → A) (hB : c = false ∨ d = false → B) : if c = true then W else (if false = true then A else B) := by
  cases c with
  | false => exact iteF (iteF (hB (.inl rfl)))
  | true =>
    refine iteT (hw ?_)
    cases d with
    | true => exact iteT (hA rfl rfl)
    | false => exact iteF (hB (.inr rfl))
/-- cut, with some words between -/
theorem WsOk.mid {ws mid : List Str} {k a b : Nat} (h : WsOk ws k) (hm : ∀ w ∈ mid, GoodW (k + 1) w) (hl : (ws.take a).length + mid.length + (ws.drop b).length ≤ 35 + k) (hb : bl (ws.take a) + bl mid + bl (ws.drop b) ≤ k + 1) : WsOk ((ws.take a ++ mid) ++ ws.drop b) (k + 1) := by
  refine ⟨by rw [List.length_append, List.length_append]; omega, fun w hw => ?_, by rw [bl_app, bl_app]; exact hb⟩
  rcases List.mem_append.mp hw with hw | hw
  · rcases List.mem_append.mp hw with hw | hw
    · exact (h.ok w (List.mem_of_mem_take hw)).mono
    · exact hm w hw
  · exact (h.ok w (List.mem_of_mem_drop hw)).mono
def spBe : Sp := fun vs H Q _ => ∃ (p c l : Addr) (ns : List Int) (n : Nat) (z : Int) (ws : List Str) (k : Nat), vs = [.ref p, .ref l] ∧ PenAt H p c ns n z ∧ n + 50 < 100000 ∧ H l = some (.lst (ws.map V.str)) ∧ l ≠ p ∧ WsOk ws k ∧ k ≤ 2 ∧ ∀ (l' : Addr) (ws' : List Str) (n' : Nat) (z' : Int) (H' : Hp), WsOk ws' (k + 1) → n' ≤ n + 40 → PenAt H' p c ns n' z' → But p H H' → l' ≠ p → H' l' = some (.lst (ws'.map V.str)) → Q (.ref l') H'
section
variable {P : Program} {w : World} {K : PySem.W.Frag} {mg : Str → Option Value} {base : Heap}
abbrev nBe : List Str := ["_law_pen_here", "_law_words_here", "_law_way", "_law_at", "_law_odd", "_law_word_here"]
theorem scBe : FnScope nBe ["_law_pen_here", "_law_words_here"] (defScope sBe) := ⟨rfl, rfl, rfl, by decide +kernel, rfl, by decide +kernel, by decide +kernel⟩
theorem ok_Be {f fDr fPi fWo : Addr} {fd fdDr fdPi fdWo : FuncData} (F : Fun K "_law_bent" "_law_bent" sBe f fd) (Nn : Nm mg) (F_draw : Fun K "_law_draw" "_law_draw" sDraw fDr fdDr) (g_draw : mg "_law_draw" = some (.ref fDr)) (F_pick : Fun K "_law_pick" "_law_pick" sPick fPi fdPi) (g_pick : mg "_law_pick" = some (.ref fPi)) (F_word : Fun K "_law_word" "_law_word" sWord fWo fdWo) (g_word : mg "_law_word" = some (.ref fWo)) (n_len : mg "len" = none) (n_str : mg "str" = none) (n_range : mg "range" = none) :
    FnOk P w K mg base CX0 4 f fd ["_law_pen_here", "_law_words_here"] spBe := by
  have G_draw : FnOk P w K mg base CX0 1 fDr fdDr ["_law_pen_here", "_law_many"] spDraw := ok_draw F_draw Nn
  have b_draw : Binds K fdDr ["_law_pen_here", "_law_many"] [] := F_draw.binds fun _ _ _ _ _ _ us hl => match us, hl with | [_, _], _ => rfl
  have G_pick : FnOk P w K mg base CX0 2 fPi fdPi ["_law_pen_here", "_law_some"] (spPick K) := ok_pick F_pick Nn F_draw g_draw
  have b_pick : Binds K fdPi ["_law_pen_here", "_law_some"] [] := F_pick.binds fun _ _ _ _ _ _ us hl => match us, hl with | [_, _], _ => rfl
  have G_word : FnOk P w K mg base CX0 3 fWo fdWo ["_law_pen_here"] spWord := ok_word F_word Nn n_range F_draw g_draw F_pick g_pick
  have b_word : Binds K fdWo ["_law_pen_here"] [] := F_word.binds fun _ _ _ _ _ _ us hl => match us, hl with | [_], _ => rfl
  refine F.ok scBe (fun vs H Q E h => ?_) (fun cdv A outer s H vs Q E hr h => ?_)
  · obtain ⟨p, c, l, ns, n, z, ws, k, rfl, _⟩ := h
    rfl
  · obtain ⟨p, c, l, ns, n, z, ws, k, rfl, hp, hn, el, nlp, ok, hk, q⟩ := h
    have hr3 : Room 3 _ := hr
    have hr2 := hr3.mono (show 2 ≤ 3 by decide)
    have hr1 := hr3.mono (show 1 ≤ 3 by decide)
    refine ⟨_, (pss_cons (ps_par (i := 2) (j := 3) (by rfl) scBe.nd rfl rfl (by decide) rfl rfl (pa_cons (pe_call G_draw hr1 (by rfl) g_draw F_draw.kp b_draw .nil pass0 (pa_cons (pv 0) (pa_cons pe_int pa_nil))) (pa_cons (pe_call G_draw hr1 (by rfl) g_draw F_draw.kp b_draw .nil pass0 (pa_cons (pv 0) (pa_cons (pe_op op_add (pe_callB call_len_seq (by rfl) n_len boot_len (pa_cons (pv 1) pa_nil)) pe_int) pa_nil))) pa_nil)) (by rfl))
    (pss_cons (ps_set (i := 4) scBe.nd rfl (Or.inl rfl) (pe_lst (pa_cons pe_str (pa_cons pe_str (pa_cons pe_str (pa_cons pe_str (pa_cons pe_str (pa_cons pe_str (pa_cons pe_str (pa_cons pe_str (pa_cons pe_str (pa_cons pe_str (pa_cons pe_str (pa_cons pe_str (pa_cons pe_str (pa_cons pe_str (pa_cons (pe_op OwR.op_mul_str pe_str pe_int) (pa_cons pe_str pa_nil))))))))))))))))))
    (pss_cons (ps_set (i := 5) scBe.nd rfl (Or.inl rfl) (pe_call G_pick hr2 (by rfl) g_pick F_pick.kp b_pick .nil pass0 (pa_cons (pv 0) (pa_cons (pe_op op_cat (pv 4) (pe_lst (pa_cons (pe_call G_word hr3 (by rfl) g_word F_word.kp b_word .nil pass0 (pa_cons (pv 0) pa_nil)) (pa_cons (pe_callTy call_str_int (by rfl) n_str (by decide +kernel) (pa_cons (pe_call G_draw hr1 (by rfl) g_draw F_draw.kp b_draw .nil pass0 (pa_cons (pv 0) (pa_cons pe_int pa_nil))) pa_nil)) pa_nil)))) pa_nil))))
    (pss_cons (ps_if (pt_cmpR op_eq (pv 2) pe_int (nomark _)) (pss_one (ps_ret (pe_op op_cat (pe_op op_cat (pe_slice sl_list (pv 1) po_none (po_some (pv 3))) (pe_lst (pa_cons (pv 5) pa_nil))) (pe_slice sl_list (pv 1) (po_some (pv 3)) po_none)))) pss_nil)
    (pss_cons (ps_if (pt_cmpR op_eq (pv 2) pe_int (nomark _)) (pss_one (ps_ret (pe_op op_cat (pe_slice sl_list (pv 1) po_none (po_some (pv 3))) (pe_slice sl_list (pv 1) (po_some (pe_op op_add (pv 3) pe_int)) po_none)))) pss_nil)
    (pss_cons (ps_if (PW.pt (pw_or (pt_cmpR op_eq (pv 2) pe_int (nomark _)) (pw_or1 (pt_cmpR op_eq (pv 3) (pe_callB call_len_seq (by rfl) n_len boot_len (pa_cons (pv 1) pa_nil)) (nomark _))))) (pss_one (ps_ret (pe_op op_cat (pe_op op_cat (pe_slice sl_list (pv 1) po_none (po_some (pv 3))) (pe_lst (pa_cons (pv 5) pa_nil))) (pe_slice sl_list (pv 1) (po_some (pe_op op_add (pv 3) pe_int)) po_none)))) pss_nil)
    (pss_cons (ps_if (PW.pt (pw_and (pt_cmpR op_eq (pv 2) pe_int (nomark _)) (pw_and1 (pt_cmpR op_lt (pe_op op_add (pv 3) pe_int) (pe_callB call_len_seq (by rfl) n_len boot_len (pa_cons (pv 1) pa_nil)) (nomark _))))) (pss_one (ps_ret (pe_op op_cat (pe_op op_cat (pe_slice sl_list (pv 1) po_none (po_some (pv 3))) (pe_lst (pa_cons (pe_ix ix_list (pv 1) (pe_op op_add (pv 3) pe_int) (fun _ _ => rfl)) (pa_cons (pe_ix ix_list (pv 1) (pv 3) (fun _ _ => rfl)) pa_nil)))) (pe_slice sl_list (pv 1) (po_some (pe_op op_add (pv 3) pe_int)) po_none)))) pss_nil)
    (pss_one (ps_ret (pe_op op_cat (pe_op op_cat (pe_slice sl_list (pv 1) po_none (po_some (pv 3))) (pe_lst (pa_cons (pe_op op_add_str (pe_ix ix_list (pv 1) (pv 3) (fun _ _ => rfl)) (pe_call G_pick hr2 (by rfl) g_pick F_pick.kp b_pick .nil pass0 (pa_cons (pv 0) (pa_cons (pe_lst (pa_cons pe_str (pa_cons pe_str (pa_cons pe_str pa_nil)))) pa_nil)))) pa_nil))) (pe_slice sl_list (pv 1) (po_some (pe_op op_add (pv 3) pe_int)) po_none))))))))))), ?_⟩
    have sz := sizeLine_eq
    have lw := ok.len
    refine ⟨_, rfl, p, c, ns, n, z, 5, rfl, hp, by omega, by decide, by decide +kernel, fun d1 n1 z1 H1 d10 d11 hn1 hp1 s1 => ?_⟩
    have el1 := s1 _ _ nlp el
    refine ⟨_, rfl, _, rfl, l, _, rfl, .inl (SqL.of el1), _, _, rfl, rfl, ?_⟩
    refine ⟨p, c, ns, n1, z1, _, rfl, hp1, by omega, by rw [List.length_map]; omega, small_int (by rw [List.length_map]; omega) (by rw [List.length_map]; omega), fun d2 n2 z2 H2 d20 d21 hn2 hp2 s2 => ?_⟩
    rw [List.length_map] at d21
    obtain ⟨sp, rfl⟩ := Int.eq_ofNat_of_zero_le d20
    have hsp : sp ≤ ws.length := by omega
    refine ⟨_, _, rfl, ?_⟩
    have b02 := s1.trans s2
    refine ⟨"9", 61, rfl, rfl, by decide, by decide, by decide +kernel, by decide +kernel, by show (16 : Nat) ≤ sizeLine; omega, fun L1 hL1 => ?_⟩
    have t1 := Same.of_new (o := .lst (oddW.map V.str)) hL1
    have eL1 : upd H2 L1 (.lst (oddW.map V.str)) L1 = some (.lst (oddW.map V.str)) := upd_same
    have hpA := hp2.same t1
    have bA := b02.trans (Same.but p t1)
    have nL1 : L1 ≠ p := fun e => hp2.some (e ▸ hL1)
    change tSeq _ _ _ _ (upd H2 L1 (.lst (oddW.map V.str)))
    generalize upd H2 L1 (.lst (oddW.map V.str)) = HA at *
    refine ⟨_, rfl, _, rfl, _, rfl, p, c, ns, n2, z2, rfl, hpA, by omega, fun w1 n3 z3 H3 e1 e2 hn3 hp3 s3 => ?_⟩
    refine ⟨_, rfl, p, c, ns, n3, z3, 5, rfl, hp3, by omega, by decide, by decide +kernel, fun d3 n4 z4 H4 d30 d31 hn4 hp4 s4 => ⟨d3, rfl, ?_⟩⟩
    have gnum : GoodW 0 (toString d3 : Str) ∧ blanks (toString d3 : Str) = 0 := by
      obtain ⟨a, b, c⟩ := small_word (m := d3) d30 (by omega)
      exact ⟨⟨b, a⟩, c⟩
    refine ⟨(most_text d30 (by omega)).1, by show (2 : Nat) ≤ sizeLine; omega, fun L2 hL2 => ?_⟩
    generalize (toString d3 : Str) = num at *
    have t2 := Same.of_new (o := .lst [.str w1, .str num]) hL2
    have b4 := s3.trans s4
    have eL4 := t2 _ _ (b4 _ _ nL1 eL1)
    refine ⟨L1, L2, _, _, rfl, rfl, eL4, upd_same, by show (16 : Nat) + 2 ≤ sizeLine; omega, fun L3 hL3 => ?_⟩
    have t3 := Same.of_new (o := .lst (oddW.map V.str ++ [.str w1, .str num])) hL3
    have nL3 : L3 ≠ p := fun e => (hp4.same t2).some (by rw [← e]; exact hL3)
    refine ⟨p, c, L3, ns, n4, z4, oddW.map V.str ++ [.str w1, .str num], rfl, (hp4.same t2).same t3, by omega, nL3, SqL.of upd_same, by show (0 : Nat) < 18; decide, by show (18 : Nat) < 1000; decide, fun x n5 z5 H5 hx hn5 hp5 s5 => ?_⟩
    obtain ⟨o, rfl, go, bo⟩ : ∃ o : Str, x = .str o ∧ GoodW 0 o ∧ blanks o = 0 := by
      rcases List.mem_append.mp hx with hx | hx
      · obtain ⟨o, ho, rfl⟩ := List.mem_map.mp hx
        exact ⟨o, rfl, odd_good o ho⟩
      · simp only [List.mem_cons, List.not_mem_nil, or_false] at hx
        rcases hx with rfl | rfl
        · exact ⟨w1, rfl, ⟨name_strOk e1, by omega⟩, blanks_free (name_free e1)⟩
        · exact ⟨num, rfl, gnum⟩
    have b5 := ((bA.trans b4).trans (Same.but p (t2.trans t3))).trans s5
    have el5 := b5 _ _ nlp el
    have tkl : (ws.take sp).length = sp := by rw [List.length_take]; omega
    have drl : ∀ j : Nat, (ws.drop j).length = ws.length - j := fun j => List.length_drop
    have a1 : ((sp : Nat) : Int) + 1 = ((sp + 1 : Nat) : Int) := rfl
    have a2 : ((sp : Nat) : Int) + 2 = ((sp + 2 : Nat) : Int) := rfl
    have lws : (ws.map V.str).length = ws.length := List.length_map _
    have lsz : ws.length + 10 ≤ sizeLine := by omega
    have fin : ∀ (l' : Addr) (ws' : List Str) (n' : Nat) (z' : Int) (H' : Hp), WsOk ws' (k + 1) → n' ≤ n + 40 → PenAt H' p c ns n' z' → But p H5 H' → l' ≠ p → H' l' = some (.lst (ws'.map V.str)) → Q (.ref l') H' := fun l' ws' n' z' H' h1 h2 h3 h4 h5 h6 => q l' ws' n' z' H' h1 h2 h3 (b5.trans h4) h5 h6
    have lf := ok.few
    have bs := bl_split ws sp
    have bd := bl_drop ws sp
    -- a cut with words between, in this heap
    have cut3 : ∀ (Hc : Hp) (nc : Nat) (zc : Int) (mid : List Str) (j : Nat) (A1 B1 : Addr) (R : Addr) (Hz : Hp), PenAt Hc p c ns nc zc → nc ≤ n + 40 → But p H5 Hc → Same Hc Hz → Hz R = some (.lst (((ws.take sp).map V.str ++ mid.map V.str) ++ (ws.drop j).map V.str)) → (∀ w ∈ mid, GoodW (k + 1) w) → sp + mid.length + (ws.length - j) ≤ 35 + k → Hc R = none → bl (ws.take sp) + bl mid + bl (ws.drop j) ≤ k + 1 → Q (.ref R) Hz := fun Hc nc zc mid j A1 B1 R Hz h1 h2 h3 h4 h5 h6 h7 h8 h9 => by
      refine fin R ((ws.take sp ++ mid) ++ ws.drop j) nc zc Hz (ok.mid h6 (by rw [tkl, drl]; exact h7) h9) h2 (h1.same h4) (h3.trans (Same.but p h4)) (fun e => h1.some (e ▸ h8)) (by rw [List.map_append, List.map_append]; exact h5)
    refine ⟨_, rfl, rfl, _, rfl, ?_⟩
    refine ite2 (fun _ => ?_) (fun _ => ?_)
    · refine ⟨_, rfl, _, rfl, _, rfl, l, _, rfl, SqL.of el5, fun A1 hA => ?_⟩
      rw [cutS_to]
      have sA := Same.of_new (o := .lst ((ws.take sp).map V.str)) hA
      have eA := upd_same (H := H5) (a := A1) (o := .lst ((ws.take sp).map V.str))
      refine ⟨_, rfl, by show (1 : Nat) ≤ sizeLine; omega, fun B1 hB => ?_⟩
      have sB := Same.of_new (o := .lst [.str o]) hB
      refine ⟨A1, B1, _, _, rfl, rfl, sB _ _ eA, upd_same, by rw [List.length_map, tkl]; show _ + 1 ≤ _; omega, fun C1 hC => ?_⟩
      have sC := Same.of_new (o := .lst ((ws.take sp).map V.str ++ [.str o])) hC
      have sABC := (sA.trans sB).trans sC
      refine ⟨_, rfl, _, rfl, _, rfl, l, _, rfl, SqL.of (sABC _ _ el5), fun D1 hD => ?_⟩
      rw [cutS_from]
      have sD := Same.of_new (o := .lst ((ws.drop sp).map V.str)) hD
      refine ⟨C1, D1, _, _, rfl, rfl, sD _ _ upd_same, upd_same, by rw [List.length_append, List.length_map, List.length_map, tkl, drl]; show _ + 1 + _ ≤ _; omega, fun R hR => ?_⟩
      have sR := Same.of_new (o := .lst (((ws.take sp).map V.str ++ [.str o]) ++ (ws.drop sp).map V.str)) hR
      exact cut3 H5 n5 z5 [o] sp A1 B1 R _ hp5 (by omega) (But.refl _ _) ((sABC.trans sD).trans sR) upd_same (fun w hw => by rw [List.mem_singleton.mp hw]; exact go.zero) (by show sp + 1 + (ws.length - sp) ≤ _; omega) ((sABC.trans sD).free hR) (by rw [bl_one]; omega)
    refine ⟨_, rfl, rfl, _, rfl, ?_⟩
    refine ite2 (fun _ => ?_) (fun _ => ?_)
    · refine ⟨_, rfl, _, rfl, _, rfl, l, _, rfl, SqL.of el5, fun A1 hA => ?_⟩
      rw [cutS_to]
      have sA := Same.of_new (o := .lst ((ws.take sp).map V.str)) hA
      have eA := upd_same (H := H5) (a := A1) (o := .lst ((ws.take sp).map V.str))
      refine ⟨_, rfl, _, rfl, _, _, rfl, rfl, _, rfl, l, _, rfl, SqL.of (sA _ _ el5), fun D1 hD => ?_⟩
      have ec : cutV (ws.map V.str) (some (((sp : Nat) : Int) + 1)) none = (ws.drop (sp + 1)).map V.str := cutS_from ws (sp + 1)
      have sD := Same.of_new (o := .lst (cutV (ws.map V.str) (some (((sp : Nat) : Int) + 1)) none)) hD
      refine ⟨A1, D1, _, _, rfl, rfl, sD _ _ eA, upd_same, by rw [ec, List.length_map, List.length_map, tkl, drl]; omega, fun R hR => ?_⟩
      have sR := Same.of_new (o := .lst ((ws.take sp).map V.str ++ cutV (ws.map V.str) (some (((sp : Nat) : Int) + 1)) none)) hR
      exact cut3 H5 n5 z5 [] (sp + 1) A1 D1 R _ hp5 (by omega) (But.refl _ _) ((sA.trans sD).trans sR) (by rw [upd_same, ec, List.map_nil, List.append_nil]) (fun w hw => by cases hw) (by show sp + 0 + (ws.length - (sp + 1)) ≤ _; omega) ((sA.trans sD).free hR) (by show bl (ws.take sp) + 0 + bl (ws.drop (sp + 1)) ≤ _; omega)
    refine ⟨_, rfl, rfl, _, rfl, ?_⟩
    refine or_turn (c := decide (V.int d1 = V.int 2)) (d := decide (V.int ((sp : Nat) : Int) = V.int ((ws.length : Nat) : Int))) (fun h => ⟨_, rfl, _, rfl, l, _, rfl, .inl (SqL.of el5), rfl, _, rfl, by rw [List.length_map]; exact h⟩) (fun _ => ?_) (fun _ c2 => ?_)
    · refine ⟨_, rfl, _, rfl, _, rfl, l, _, rfl, SqL.of el5, fun A1 hA => ?_⟩
      rw [cutS_to]
      have sA := Same.of_new (o := .lst ((ws.take sp).map V.str)) hA
      have eA := upd_same (H := H5) (a := A1) (o := .lst ((ws.take sp).map V.str))
      refine ⟨_, rfl, by show (1 : Nat) ≤ sizeLine; omega, fun B1 hB => ?_⟩
      have sB := Same.of_new (o := .lst [.str o]) hB
      refine ⟨A1, B1, _, _, rfl, rfl, sB _ _ eA, upd_same, by rw [List.length_map, tkl]; show _ + 1 ≤ _; omega, fun C1 hC => ?_⟩
      have sC := Same.of_new (o := .lst ((ws.take sp).map V.str ++ [.str o])) hC
      have sABC := (sA.trans sB).trans sC
      refine ⟨_, rfl, _, rfl, _, _, rfl, rfl, _, rfl, l, _, rfl, SqL.of (sABC _ _ el5), fun D1 hD => ?_⟩
      have ec : cutV (ws.map V.str) (some (((sp : Nat) : Int) + 1)) none = (ws.drop (sp + 1)).map V.str := cutS_from ws (sp + 1)
      have sD := Same.of_new (o := .lst (cutV (ws.map V.str) (some (((sp : Nat) : Int) + 1)) none)) hD
      refine ⟨C1, D1, _, _, rfl, rfl, sD _ _ upd_same, upd_same, by rw [ec, List.length_append, List.length_map, List.length_map, tkl, drl]; show _ + 1 + _ ≤ _; omega, fun R hR => ?_⟩
      have sR := Same.of_new (o := .lst (((ws.take sp).map V.str ++ [.str o]) ++ cutV (ws.map V.str) (some (((sp : Nat) : Int) + 1)) none)) hR
      exact cut3 H5 n5 z5 [o] (sp + 1) A1 B1 R _ hp5 (by omega) (But.refl _ _) ((sABC.trans sD).trans sR) (by rw [upd_same, ec]; rfl) (fun w hw => by rw [List.mem_singleton.mp hw]; exact go.zero) (by show sp + 1 + (ws.length - (sp + 1)) ≤ _; omega) ((sABC.trans sD).free hR) (by rw [bl_one]; omega)
    have h0 : sp < ws.length := by
      have c2 := of_decide_eq_false c2
      rcases Nat.lt_or_ge sp ws.length with h | h
      · exact h
      · exact absurd (by rw [show sp = ws.length by omega]) c2
    have ba := bl_at h0
    refine ⟨_, rfl, rfl, _, rfl, ?_⟩
    refine and_turn (c := decide (V.int d1 = V.int 3)) (d := decide (((sp : Nat) : Int) + 1 < ((ws.length : Nat) : Int))) (fun h => ⟨_, rfl, _, _, rfl, rfl, _, rfl, l, _, rfl, .inl (SqL.of el5), _, _, rfl, rfl, _, rfl, by rw [List.length_map]; exact h⟩) (fun _ c2 => ?_) (fun _ => ?_)
    · have h2 : sp + 1 < ws.length := by
        have := of_decide_eq_true c2
        omega
      refine ⟨_, rfl, _, rfl, _, rfl, l, _, rfl, SqL.of el5, fun A1 hA => ?_⟩
      rw [cutS_to]
      have sA := Same.of_new (o := .lst ((ws.take sp).map V.str)) hA
      have eA := upd_same (H := H5) (a := A1) (o := .lst ((ws.take sp).map V.str))
      have elA := sA _ _ el5
      have w1' : atI (ws.map V.str) (((sp : Nat) : Int) + 1) = some (.str (pk ws (sp + 1))) := word_at (n := sp + 1) h2
      have ba2 := bl_at h2
      have w0 : atI (ws.map V.str) ((sp : Nat) : Int) = some (.str (pk ws sp)) := word_at (n := sp) (by omega)
      have gk : ∀ i, i < ws.length → GoodW (k + 1) (pk ws i) := fun i hi => by
        unfold pk
        rw [List.getD_eq_getElem?_getD, List.getElem?_eq_getElem hi]
        exact (ok.ok _ (List.getElem_mem hi)).mono
      refine ⟨_, rfl, _, rfl, _, _, rfl, rfl, l, _, _, _, rfl, rfl, SqL.of elA, w1', _, rfl, _, rfl, l, _, _, _, rfl, rfl, SqL.of elA, w0, by show (2 : Nat) ≤ sizeLine; omega, fun B1 hB => ?_⟩
      have sB := Same.of_new (o := .lst [.str (pk ws (sp + 1)), .str (pk ws sp)]) hB
      refine ⟨A1, B1, _, _, rfl, rfl, sB _ _ eA, upd_same, by rw [List.length_map, tkl]; show _ + 2 ≤ _; omega, fun C1 hC => ?_⟩
      have sC := Same.of_new (o := .lst ((ws.take sp).map V.str ++ [.str (pk ws (sp + 1)), .str (pk ws sp)])) hC
      have sABC := (sA.trans sB).trans sC
      refine ⟨_, rfl, _, rfl, _, _, rfl, rfl, _, rfl, l, _, rfl, SqL.of (sABC _ _ el5), fun D1 hD => ?_⟩
      have ec : cutV (ws.map V.str) (some (((sp : Nat) : Int) + 2)) none = (ws.drop (sp + 2)).map V.str := cutS_from ws (sp + 2)
      have sD := Same.of_new (o := .lst (cutV (ws.map V.str) (some (((sp : Nat) : Int) + 2)) none)) hD
      refine ⟨C1, D1, _, _, rfl, rfl, sD _ _ upd_same, upd_same, by rw [ec, List.length_append, List.length_map, List.length_map, tkl, drl]; show _ + 2 + _ ≤ _; omega, fun R hR => ?_⟩
      have sR := Same.of_new (o := .lst (((ws.take sp).map V.str ++ [.str (pk ws (sp + 1)), .str (pk ws sp)]) ++ cutV (ws.map V.str) (some (((sp : Nat) : Int) + 2)) none)) hR
      exact cut3 H5 n5 z5 [pk ws (sp + 1), pk ws sp] (sp + 2) A1 B1 R _ hp5 (by omega) (But.refl _ _) ((sABC.trans sD).trans sR) (by rw [upd_same, ec]; rfl) (fun w hw => by
        simp only [List.mem_cons, List.not_mem_nil, or_false] at hw
        rcases hw with rfl | rfl
        · exact gk _ h2
        · exact gk _ (by omega)) (by show sp + 2 + (ws.length - (sp + 2)) ≤ _; omega) ((sABC.trans sD).free hR) (by
        have e2 : bl [pk ws (sp + 1), pk ws sp] = blanks (pk ws (sp + 1)) + blanks (pk ws sp) := by simp [bl]
        rw [e2]
        show bl (ws.take sp) + _ + bl (ws.drop (sp + 1 + 1)) ≤ _
        omega)
    refine ⟨_, rfl, _, rfl, _, rfl, l, _, rfl, SqL.of el5, fun A1 hA => ?_⟩
    rw [cutS_to]
    have sA := Same.of_new (o := .lst ((ws.take sp).map V.str)) hA
    have eA := upd_same (H := H5) (a := A1) (o := .lst ((ws.take sp).map V.str))
    have elA := sA _ _ el5
    have w0 : atI (ws.map V.str) ((sp : Nat) : Int) = some (.str (pk ws sp)) := word_at (n := sp) h0
    have nA : A1 ≠ p := fun e => hp5.some (e ▸ hA)
    refine ⟨_, rfl, _, rfl, l, _, _, _, rfl, rfl, SqL.of elA, w0, _, rfl, by show (3 : Nat) ≤ sizeLine; omega, fun L4 hL4 => ?_⟩
    have s4' := Same.of_new (o := .lst [.str " ", .str "0", .str "z"]) hL4
    have hpA5 := hp5.same sA
    have nL4 : L4 ≠ p := fun e => hpA5.some (e ▸ hL4)
    refine ⟨p, c, L4, ns, n5, z5, [.str " ", .str "0", .str "z"], rfl, hpA5.same s4', by omega, nL4, SqL.of upd_same, by show 0 < 3; decide, by show 3 < 1000; decide, fun x n6 z6 H6 hx hn6 hp6 s6 => ?_⟩
    obtain ⟨e, rfl, ge⟩ : ∃ e : Str, x = .str e ∧ PyData.strOk e = true ∧ e.length ≤ 1 ∧ blanks e ≤ 1 := by
      simp only [List.mem_cons, List.not_mem_nil, or_false] at hx
      rcases hx with rfl | rfl | rfl <;> exact ⟨_, rfl, by decide +kernel⟩
    have gw : GoodW k (pk ws sp) := by
      unfold pk
      rw [List.getD_eq_getElem?_getD, List.getElem?_eq_getElem h0]
      exact ok.ok _ (List.getElem_mem h0)
    have gm : GoodW (k + 1) (pk ws sp ++ e) := by
      obtain ⟨g1, g2⟩ := gw
      obtain ⟨q1, q2, q3⟩ := ge
      exact ⟨strOk_app g1 q1, by rw [Str.length_append]; omega⟩
    have lgm := gm.2
    refine ⟨_, _, rfl, rfl, by have := gw.2; have := ge.2.1; omega, by show (1 : Nat) ≤ sizeLine; omega, fun B1 hB => ?_⟩
    have b6 : But p H5 H6 := (Same.but p (sA.trans s4')).trans s6
    have eA6 := s6 _ _ nA (s4' _ _ eA)
    have el6 := b6 _ _ nlp el5
    have sB := Same.of_new (o := .lst [.str (pk ws sp ++ e)]) hB
    refine ⟨A1, B1, _, _, rfl, rfl, sB _ _ eA6, upd_same, by rw [List.length_map, tkl]; show _ + 1 ≤ _; omega, fun C1 hC => ?_⟩
    have sC := Same.of_new (o := .lst ((ws.take sp).map V.str ++ [.str (pk ws sp ++ e)])) hC
    have sBC := sB.trans sC
    refine ⟨_, rfl, _, rfl, _, _, rfl, rfl, _, rfl, l, _, rfl, SqL.of (sBC _ _ el6), fun D1 hD => ?_⟩
    have ec : cutV (ws.map V.str) (some (((sp : Nat) : Int) + 1)) none = (ws.drop (sp + 1)).map V.str := cutS_from ws (sp + 1)
    have sD := Same.of_new (o := .lst (cutV (ws.map V.str) (some (((sp : Nat) : Int) + 1)) none)) hD
    refine ⟨C1, D1, _, _, rfl, rfl, sD _ _ upd_same, upd_same, by rw [ec, List.length_append, List.length_map, List.length_map, tkl, drl]; show _ + 1 + _ ≤ _; omega, fun R hR => ?_⟩
    have sR := Same.of_new (o := .lst (((ws.take sp).map V.str ++ [.str (pk ws sp ++ e)]) ++ cutV (ws.map V.str) (some (((sp : Nat) : Int) + 1)) none)) hR
    exact cut3 H6 n6 z6 [pk ws sp ++ e] (sp + 1) A1 B1 R _ hp6 (by omega) b6 ((sBC.trans sD).trans sR) (by rw [upd_same, ec]; rfl) (fun w hw => by rw [List.mem_singleton.mp hw]; exact gm) (by show sp + 1 + (ws.length - (sp + 1)) ≤ _; omega) ((sBC.trans sD).free hR) (by
      have := ge.2.2
      rw [bl_one, blanks_app]
      omega)
end
end K10
end
section
set_option pp.maxSteps 400
set_option pp.deepTerms.threshold 6
/-! The ear; a line read. -/
namespace K10
open PySem PySem.Spec PyProof.Rows L2
abbrev sHeard : Stmt := top 38
abbrev nH : List Str := ["_law_ask", "error"]
theorem scH : FnScope nH ["_law_ask"] (defScope sHeard) := ⟨rfl, rfl, rfl, by decide +kernel, rfl, by decide +kernel, by decide +kernel⟩
/-- what the ear answers to an error -/
def HearErr (CB CT : Addr) (Q : VK) (cls : Value) (d : Option Addr) (H : Hp) : Prop := ∃ dd, d = some dd ∧
  ((∃ e : Nat, cls = .ref CB ∧ H dd = some (.xd [("word", .int (e : Nat)), ("line", .int (0 : Nat))]) ∧ ∀ (t : Addr) (H' : Hp), Same H H' → H' t = some (.tup [.str "text", .int 0, .int (e : Nat)]) → Q (.ref t) H') ∨
   (cls = .ref CT ∧ H dd = some (.xd manyXd) ∧ ∀ (t : Addr) (H' : Hp), Same H H' → H' t = some (.tup [.str "caps", .int 20, .int 0]) → Q (.ref t) H'))
def TTh (CB CT : Addr) : (XK → Hp → VK → Prop) → Hp → VK → Prop := fun tl H Q => ∀ (H1 : Hp) (E' : XK) (Q' : VK), Same H H1 → (∀ cls d H', HearErr CB CT Q cls d H' → E' cls d H') → (∀ v H', (∀ M, H' M = none → Q (.ref M) (upd H' M (.lst [v]))) → Q' v H') → tl E' H1 Q'
/-- what the classes of the errors say -/
structure EarC (K : PySem.W.Frag) (mg : Str → Option Value) (CB CT CX : Addr) : Prop where
  eB : OwE.ErrC K CB
  eT : OwE.ErrC K CT
  v1 : PySem.W.findIn K (.ref CB) "line" = some none
  v2 : PySem.W.findIn K (.ref CB) "word" = some none
  vW : PySem.W.findIn K (.ref CT) "what" = some none
  vM : PySem.W.findIn K (.ref CT) "most" = some none
  gB : mg "BadText" = some (.ref CB)
  gT : mg "TooMany" = some (.ref CT)
  gX : mg "NextError" = some (.ref CX)
  sBB : PySem.W.exmOne K (.ref CB) (.ref CB) = some true
  sTB : PySem.W.exmOne K (.ref CT) (.ref CB) = some false
  sTT : PySem.W.exmOne K (.ref CT) (.ref CT) = some true
theorem heard_gives {X : Cx} {g CB CT CX : Addr} {cdg : Value} {q : Str} (hr : Room 3 X.A) (c : EarC X.K X.mg CB CT CX) : LamX.GivesTo X nH "_law_heard" (defScope sHeard) g cdg (defBody sHeard) "_law_ask" q (TTh CB CT) := by
  intro f c' s H Q tl act hcc h
  have sz := sizeLine_eq
  refine ⟨_, pss_one (OwE.ps_try_mix (X := (cxOf C8.CX0 X.prog X.w X.K X.mg X.base nH "_law_heard" (defScope sHeard) g cdg X.A X.stack s H C8.E0).nox)
      (tb := fun W D σ H => ∃ Ech : XK, (∀ cls d σ' H', Ech cls d H' → σ'.length = 2 → W cls d σ' H') ∧ σ[0]? = some (some (.ref f)) ∧ H c' = some (LamX.CodeO c' q) ∧ tl Ech H (fun v H' => 1 ≤ sizeLine ∧ ∀ M, H' M = none → D.rt (.ref M) (upd H' M (.lst [v]))))
      rfl rfl scH.nd (fun W pn xe tk => ?_)
      (.named (c := .ref CB) (i := 1) ⟨rfl, by decide, .inl c.gB⟩ rfl rfl (fun a oe cls d pn hz hf => pss_one (ps_ret (pe_tup (pa_cons pe_str (pa_cons (OwE.pe_xe hz hf (pv 1)) (pa_cons (OwE.pe_xe hz hf (pv 1)) pa_nil))))))
      (.named (c := .ref CT) (i := 1) ⟨rfl, by decide, .inl c.gT⟩ rfl rfl (fun a oe cls d pn hz hf => pss_one (ps_ret (pe_tup (pa_cons (OwE.pe_xe hz hf (pv 1)) (pa_cons (OwE.pe_xe hz hf (pv 1)) (pa_cons pe_int pa_nil))))))
      (.bare (c := .ref CX) ⟨rfl, by decide, .inl c.gX⟩ (fun a oe cls d pn hz hf => pss_one (ps_ret (pe_tup (pa_cons pe_str (pa_cons pe_int (pa_cons pe_int pa_nil)))))) .nil)))), ?_⟩
  · refine ⟨fun pins s' σ H' D I h' => ?_⟩
    obtain ⟨Ech, hW, h1, h2, h3⟩ := h'
    exact (pss_one (ps_ret (pe_lst (pa_cons (act (fun c d σ H => σ.length = 2 → W c d σ H) pn xe Ech _ _ (OwE.takes_len tk) hW) pa_nil)))).run pins s' σ H' D I ⟨h1, h2, h3⟩
  · refine ⟨HearErr CB CT Q, fun cls d σ' H' he hl => ?_, rfl, hcc, h _ _ _ (Same.refl _) (fun _ _ _ q => q) fun v H' q => ⟨by omega, q⟩⟩
    obtain ⟨dd, rfl, he⟩ := he
    rcases he with ⟨e, rfl, ed, q⟩ | ⟨rfl, ed, q⟩
    · refine ⟨true, c.sBB, fun _ a na => ?_, fun q => by cases q⟩
      have h1 := OwE.set_get (i := 1) (v := some (.ref a)) hl (by decide)
      exact ⟨_, h1, rfl, CB, dd, _, .int (0 : Nat), rfl, c.eB, c.v1, rfl, ed, rfl, _, h1, rfl, CB, dd, _, .int (e : Nat), rfl, c.eB, c.v2, rfl, ed, rfl, by show (3 : Nat) ≤ sizeLine; omega, fun t ht => q t _ (Same.of_new ht) upd_same⟩
    · refine ⟨false, c.sTB, fun q => (by cases q), fun _ => ⟨true, c.sTT, fun _ a na => ?_, fun q => by cases q⟩⟩
      have h1 := OwE.set_get (i := 1) (v := some (.ref a)) hl (by decide)
      exact ⟨_, h1, rfl, CT, dd, _, .str "caps", rfl, c.eT, c.vW, rfl, ed, rfl, _, h1, rfl, CT, dd, _, .int 20, rfl, c.eT, c.vM, rfl, ed, rfl, by show (3 : Nat) ≤ sizeLine; omega, fun t ht => q t _ (Same.of_new ht) upd_same⟩
/-! ### quotas: read, written, compared -/
structure RdQ (P : Program) (w : World) (K : PySem.W.Frag) (mg : Str → Option Value) (base : Heap) (a : QAd) (CB p g : Addr) : Prop where
  m : ClX.CMet K a.CQ (.type "type") "read" p g
  f : FnR P w K mg base (L2.CX P w) 8 g (spQR K a CB)
  fk : OwR.FnRK P w K mg base (L2.CX P w) 8 g ["text"] (spQRK K a CB)
/-- a quota on the heap -/
theorem QTr.ins {a : QAd} {H : Hp} {t : QT} {q : Addr} (h : QTr a H t q) : ∃ dx fs, H q = some (.ins (clsT a t) dx fs) := by
  obtain ⟨dx, fs, _, _, _, _, _, e, _⟩ := h.qat
  exact ⟨dx, fs, e⟩
section
variable {P : Program} {w : World} {K : PySem.W.Frag} {mg : Str → Option Value} {base : Heap}
theorem QTr.anyQ {a : QAd} {H : Hp} {t : QT} {q : Addr} (R : QF P w K mg base a) (h : QTr a H t q) : AnyQ K a.CQ H q t := ⟨clsT a t, (R.one _ (clsT_mem a t)).qk, h.qat⟩
/-- q == q2 -/
theorem eq_two {a : QAd} {H : Hp} {t u : QT} {q r : Addr} {Q : VK} {E : XK} (R : QF P w K mg base a) (h1 : QTr a H t q) (h2 : QTr a H u r) (k : Q (.bl (decide (t.text = u.text))) H) : OwR.rCmp2 K .Eq a.fE (spQEq K a.CQ) E (.ref q) (.ref r) H Q := by
  obtain ⟨dx, fs, ex⟩ := h1.ins
  obtain ⟨dy, gs, ey⟩ := h2.ins
  exact ⟨q, r, _, _, dx, dy, fs, gs, rfl, rfl, ex, ey, (R.one _ (clsT_mem a t)).eq, (R.two _ (clsT_mem a t) _ (clsT_mem a u)).cmp, q, r, t, u, rfl, h1.anyQ R, h2.anyQ R, k⟩
theorem ne_two {a : QAd} {H : Hp} {t u : QT} {q r : Addr} {Q : VK} {E : XK} (R : QF P w K mg base a) (h1 : QTr a H t q) (h2 : QTr a H u r) (k : Q (.bl (!decide (t.text = u.text))) H) : OwR.rNe2 K a.fE (spQEq K a.CQ) E (.ref q) (.ref r) H Q := by
  obtain ⟨dx, fs, ex⟩ := h1.ins
  obtain ⟨dy, gs, ey⟩ := h2.ins
  exact ⟨q, r, _, _, dx, dy, fs, gs, rfl, rfl, ex, ey, (R.one _ (clsT_mem a t)).ne, (R.two _ (clsT_mem a t) _ (clsT_mem a u)).cmp, q, r, t, u, rfl, h1.anyQ R, h2.anyQ R, _, rfl, k⟩
/-- a tree that was read -/
theorem read_fits {z : Str} {t : QT} (ok : LineS z) (e : wordsOf z = t.words) : t.kinds.length ≤ 60 ∧ t.caps.length ≤ 20 ∧ t.text = z := by
  have h := kinds_words t
  have f := ok.few
  rw [e] at f
  exact ⟨by omega, by omega, by rw [text_words, ← e, words_join]⟩
theorem text3_sh (e : Nat) : SeqAt.shaped (.tuple [.str "text", .int 0, .int (e : Nat)]) = true := by
  have o : PyData.strOk ("text" : Str) = true := by decide +kernel
  exact OwD.shaped_of (by simp [PyData.canLay0, PyData.canLayAll0, o]) (by simp [PyData.depth, PyData.depthAll])
abbrev sRR : Stmt := top 46
def qRR : Str := "_law_read_right.<locals>.<lambda>"
theorem qRR_eq : (("_law_read_right" : Str) ++ ".<locals>.") ++ "<lambda>" = qRR := by decide +kernel
def spRR (T : List (Addr × Str)) : Sp := fun vs H Q _ => ∃ z : Str, vs = [.str z] ∧ LineS z ∧ LamX.Tabs T H ∧ ∀ H', LamX.ExtN H H' → LamX.Tabs T H' → Q (.bl true) H'
abbrev nRR : List Str := ["_law_line", "_law_due_here", "_law_heard_here"]
theorem scRR : FnScope nRR ["_law_line"] (defScope sRR) := ⟨rfl, rfl, rfl, by decide +kernel, rfl, by decide +kernel, by decide +kernel⟩
theorem ok_RR {a : QAd} {CB CX f c0 Pt fH fDu fCe fNb fIs pR gR : Addr} {fdH fdDu fdCe fdNb fdIs : FuncData} {T : List (Addr × Str)} {oc kV doc pm ct : Value} {od an : Option Addr} {osl : Array (Option Value)} (lk : K.lookup f = some ⟨oc, od, .func (PySem.W.fnOf "_law_read_right" "_law_read_right" (defArgs sRR) (defBody sRR) (defScope sRR) .none kV doc pm an (.ref c0) ct), osl⟩) (hcd : PySem.W.codeIn K (.ref c0) "_law_read_right" = true)
    (R : QF P w K mg base a) (ear : EarC K mg CB a.CT CX) (rdQ : RdQ P w K mg base a CB pR gR) (F_heard : Fun K "_law_heard" "_law_heard" sHeard fH fdH) (g_heard : mg "_law_heard" = some (.ref fH)) (F_due : Fun K "_law_due" "_law_due" sDu fDu fdDu) (g_due : mg "_law_due" = some (.ref fDu)) (F_ce : Fun K "_law_cap_end" "_law_cap_end" sCe fCe fdCe) (g_ce : mg "_law_cap_end" = some (.ref fCe)) (F_num : Fun K "_law_number" "_law_number" sNb fNb fdNb) (g_num : mg "_law_number" = some (.ref fNb)) (F_isn : Fun K "_law_is_name" "_law_is_name" sIn6 fIs fdIs) (g_isn : mg "_law_is_name" = some (.ref fIs)) (n_range : mg "range" = none) (n_int : mg "int" = none) (n_list : mg "list" = none)
    (TB : LamX.TabB base mg c0 Pt) (memT : (Pt, qRR) ∈ T) (oneT : ∀ p ∈ T, p.1 = Pt → p.2 = qRR) :
    FnOk P w K mg base CX0 11 f (PySem.W.fnOf "_law_read_right" "_law_read_right" (defArgs sRR) (defBody sRR) (defScope sRR) .none kV doc pm an (.ref c0) ct) ["_law_line"] (spRR T) := by
  have n_len := R.chk.T.n_len
  have n_str := R.chk.T.n_str
  have n_isinstance := R.chk.T.n_isinstance
  have b_heard : Binds K fdH ["_law_ask"] [] := F_heard.binds fun _ _ _ _ _ _ us hl => match us, hl with | [_], _ => rfl
  have G_due : FnOk P w K mg base CX0 3 fDu fdDu ["_law_line"] spDu := ok_Du F_due F_ce g_ce F_num g_num F_isn g_isn n_len n_int n_range
  have b_due : Binds K fdDu ["_law_line"] [] := F_due.binds fun _ _ _ _ _ _ us hl => match us, hl with | [_], _ => rfl
  refine fn_of (k := 10) lk hcd scRR (fun vs H Q E h => ?_) fun A outer s H vs Q E hr h => ?_
  · obtain ⟨z, rfl, _⟩ := h
    rfl
  · obtain ⟨z, rfl, ok, hT, q⟩ := h
    have hr10 : Room 10 (A.deeper (envOfC "_law_read_right" (defScope sRR) s.heap.objs.size f (.ref c0))) := hr
    have hr8 := hr10.mono (show 8 ≤ 10 by decide)
    have hr3 := hr10.mono (show 3 ≤ 10 by decide)
    have hr1 := hr10.mono (show 1 ≤ 10 by decide)
    have hud := hr10.units
    have hu0 : (A.deeper (envOfC "_law_read_right" (defScope sRR) s.heap.objs.size f (.ref c0))).units < cLine := by omega
    have hu2 : (A.deeper (envOfC "_law_read_right" (defScope sRR) s.heap.objs.size f (.ref c0))).units + 2 < cLine := by omega
    refine ⟨_, PSs.nox (pss_cons (ps_par (i := 1) (j := 2) (by rfl) scRR.nd rfl rfl (by decide) rfl rfl (pa_cons (pe_call G_due hr3 (by rfl) g_due F_due.kp b_due .nil pass0 (pa_cons (pv 0) pa_nil)) (pa_cons (OwE.pe_lamT (T := T) (k := 8) (q := qRR) (by rfl) F_heard g_heard b_heard scH rfl (Or.inl rfl) qRR_eq (fun cdv => heard_gives (hr3) ear) TB rfl memT oneT hr10 (LamX.lamS_by (sc := defScope sRR) (by decide +kernel)) (fun A outer s H E f c2 hr => (ClX.pe_cmeth (pe_glob (v := .ref a.CQ) rfl R.gQ rfl) R.rQ rdQ.m rdQ.f hr (passes_call (takes_of rfl rfl rfl rfl) (fun _ _ _ _ h => h)) (pa_cons (pv 0) pa_nil)))) pa_nil)) (by rfl))
    (pss_cons (ps_if (pt_cmpR op_notN (pv 1) pe_non (nomark _)) (pss_one (ps_ret (pe_cmpR (op_eqD hud) (pv 2) (pe_tup (pa_cons pe_str (pa_cons pe_int (pa_cons (pv 1) pa_nil)))) (nomark _)))) pss_nil)
    (pss_one (ps_ret (pe_and (pe_callB call_isi (by rfl) n_isinstance (by decide +kernel) (pa_cons (pv 2) (pa_cons (pe_bltn (v := .ty "list") (by rfl) n_list (by decide +kernel) rfl) pa_nil))) (pe_and (pe_cmpR op_eq (pe_callTy (OwR.call_strO hu2 R.str hr3 pass0) (by rfl) n_str (by decide +kernel) (pa_cons (pe_ix ix_list (pv 2) pe_int (fun _ _ => rfl)) pa_nil)) (pv 0) (nomark _)) (pe_one (pe_cmpR (OwR.op_ownEq hu0 R.eqQ hr1 pass0) (pe_ix ix_list (pv 2) pe_int (fun _ _ => rfl)) (OwR.pe_cmethK (pe_glob (v := .ref a.CQ) rfl R.gQ rfl) R.rQ rdQ.m rdQ.fk hr8 passL (pk_cons (pv 0) pk_nil)) (nomark _))))))))), ?_⟩
    have sz := sizeLine_eq
    have many := ok.l.ws.many
    refine ⟨_, rfl, z, rfl, ok.l, fun H1 s1 => ?_⟩
    cases er : quotaRead (wordsOf z) with
    | error e =>
      have ed : dueOf (wordsOf z) = some e := by
        unfold dueOf
        rw [er]
      rw [ed]
      refine ⟨tabs_same hT s1, fun H4 eN tb4 H5 E' Q' s45 hE hR => ⟨rfl, _, rfl, _, rfl, .inl ⟨z, rfl, ok.l.len, ok.l.ws.short, many, ?_⟩⟩⟩
      rw [er]
      refine fun H6 d s6 nd => hE _ _ _ ⟨d, rfl, .inl ⟨e, rfl, upd_same, fun t H7 s7 et => ?_⟩⟩
      have s57 := (s6.trans (Same.of_new nd)).trans s7
      have e7 : LamX.ExtN H H7 := fun b o h n => s57 _ _ (s45 _ _ (eN _ _ (s1 _ _ h) n))
      have tb7 := tabs_same tb4 (s45.trans s57)
      refine ⟨_, _, rfl, ?_⟩
      refine ⟨_, rfl, rfl, _, rfl, ?_⟩
      refine iteT ?_
      refine ⟨_, rfl, _, rfl, by show (3 : Nat) ≤ sizeLine; omega, fun t2 ht2 => ?_⟩
      have s8 := Same.of_new (o := .tup [.str "text", .int 0, .int (e : Nat)]) ht2
      refine ⟨.tuple [.str "text", .int 0, .int (e : Nat)], .tuple [.str "text", .int 0, .int (e : Nat)], .tup (SqT.of (s8 _ _ et)) (.cons (.str _) (.cons (.int _) (.cons (.int _) .nil))), .tup (SqT.of upd_same) (.cons (.str _) (.cons (.int _) (.cons (.int _) .nil))), text3_sh e, text3_sh e, ?_⟩
      rw [SeqAt.eqv_refl _ (SeqAt.canLay_of_shaped (text3_sh e))]
      exact q _ (fun b o h n => s8 _ _ (e7 b o h n)) (tabs_same tb7 s8)
    | ok ss =>
      have ed : dueOf (wordsOf z) = none := by
        unfold dueOf
        rw [er]
      rw [ed]
      refine ⟨tabs_same hT s1, fun H4 eN tb4 H5 E' Q' s45 hE hR => ⟨rfl, _, rfl, _, rfl, .inl ⟨z, rfl, ok.l.len, ok.l.ws.short, many, ?_⟩⟩⟩
      rw [er]
      intro t et gu
      obtain ⟨l60, l20, ett⟩ := read_fits ok et
      refine ⟨l60, fun _ r H6 nr s6 qt => hR _ _ fun M hM => ?_, fun h => absurd h (by omega)⟩
      have sM := Same.of_new (o := .lst [V.ref r]) hM
      have s57 := s6.trans sM
      have e7 : LamX.ExtN H (upd H6 M (.lst [V.ref r])) := fun b o h n => s57 _ _ (s45 _ _ (eN _ _ (s1 _ _ h) n))
      have tb7 := tabs_same tb4 (s45.trans s57)
      have qt7 := qt.same sM
      refine ⟨_, _, rfl, ?_⟩
      refine ⟨_, rfl, rfl, _, rfl, ?_⟩
      refine iteF ?_
      refine ⟨_, rfl, .ref M, .ty "list", _, _, true, rfl, .ty _, .base (.lst upd_same), kit_ty (by decide +kernel), true, rfl, ?_⟩
      refine iteT ?_
      have eM : upd H6 M (.lst [V.ref r]) M = some (.lst [V.ref r]) := upd_same
      obtain ⟨dxr, fsr, er2⟩ := qt7.ins
      refine ⟨_, rfl, M, _, 0, _, rfl, rfl, SqL.of eM, rfl, r, _, dxr, fsr, rfl, er2, (R.one _ (clsT_mem a t)).st, r, t, rfl, qt7.anyQ R, by rw [ett]; have := ok.l.len; omega, ?_⟩
      refine ⟨_, rfl, ?_⟩
      refine ⟨_, rfl, rfl, ?_⟩
      rw [show decide (V.str t.text = V.str z) = true from decide_eq_true (by rw [ett])]
      refine ⟨_, rfl, ?_⟩
      refine iteT ?_
      refine ⟨_, rfl, M, _, 0, _, rfl, rfl, SqL.of eM, rfl, ?_⟩
      refine ⟨rfl, _, rfl, .str z, rfl, rfl, .str z, rfl, .inl ⟨z, rfl, ok.l.len, ok.l.ws.short, many, ?_⟩⟩
      rw [er]
      intro u eu gu2
      obtain ⟨u60, u20, eut⟩ := read_fits ok eu
      refine ⟨u60, fun _ r2 H8 nr2 s8 qt8 => ?_, fun h => absurd h (by omega)⟩
      refine eq_two R (qt7.same s8) qt8 ?_
      rw [decide_eq_true (show t.text = u.text by rw [ett, eut])]
      exact q _ (fun b o h n => s8 _ _ (e7 b o h n)) (tabs_same tb7 s8)
end
end K10
end
section
set_option pp.maxSteps 400
set_option pp.deepTerms.threshold 6
/-! The law. -/
namespace K10
open PySem PySem.Spec PyProof.Rows L2
abbrev sLaw : Stmt := top 47
def qLaw : Str := "law.<locals>.<lambda>"
theorem qLaw_eq : (("law" : Str) ++ ".<locals>.") ++ "<lambda>" = qLaw := by decide +kernel
/-! ### fixed lines -/
def lineB (z : Str) : Bool := decide ((wordsOf z).length ≤ 60) && (wordsOf z).all fun q => PyData.strOk q && decide (q.length ≤ 64)
theorem line_ok {z : Str} (h : lineB z = true) : LineS z := by
  obtain ⟨h2, h3⟩ := Bool.and_eq_true_iff.mp h
  have al := List.all_eq_true.mp h3
  exact lineS_of (fun q hq => ⟨(Bool.and_eq_true_iff.mp (al q hq)).1, of_decide_eq_true (Bool.and_eq_true_iff.mp (al q hq)).2⟩) (of_decide_eq_true h2)
def rowsQ : List Str := ["", "cap", "cap 0", "cap 0 1", "cap 1 2 b a", "both cap 1 0", "cap 1 0 ", "cap 1 0 cap 1 0", "cap 1 99 a"]
theorem rows_ok : ∀ z ∈ rowsQ, LineS z := fun z hz => by
  have h : ∀ z ∈ rowsQ, lineB z = true := by decide +kernel
  exact line_ok (h z hz)
/-! ### long lines -/
def longB (z : Str) : Bool := decide (z.length < 100000) && (decide ((wordsOf z).length ≤ 900) && (wordsOf z).all fun q => decide (q.length ≤ 1000))
theorem long_pk {z : Str} (h : longB z = true) : z.length < 100000 ∧ (∀ i, (pk (wordsOf z) i).length ≤ 1000) ∧ (wordsOf z).length ≤ 900 := by
  obtain ⟨h1, h2⟩ := Bool.and_eq_true_iff.mp h
  obtain ⟨h2, h3⟩ := Bool.and_eq_true_iff.mp h2
  have al := List.all_eq_true.mp h3
  refine ⟨of_decide_eq_true h1, fun i => ?_, of_decide_eq_true h2⟩
  unfold pk
  rw [List.getD_eq_getElem?_getD]
  cases e : (wordsOf z)[i]? with
  | none => exact by decide +kernel
  | some q => exact of_decide_eq_true (al q (List.mem_of_getElem? e))
def deepS : Str := OwR.repS "both " 398
def manyS : Str := OwR.repS "either cap 1 0 " 20
def capsIn (ws : List Str) : Nat := match quotaRead ws with
  | .ok ss => cnt fCaps 0 0 ss
  | .error _ => 0
theorem due_err {ws : List Str} {e : Nat} (h : dueOf ws = some e) : quotaRead ws = .error e := by
  unfold dueOf at h
  cases r : quotaRead ws with
  | ok ss =>
    rw [r] at h
    cases h
  | error x =>
    rw [r] at h
    cases h
    rfl
theorem caps_of {ws : List Str} {t : QT} (l : ws.length ≤ 900) (e : ws = t.words) (g : ∀ c ∈ t.caps, GoodU c) : t.caps.length = capsIn ws := by
  have k := kinds_words t
  rw [← e] at k
  have g2 : ∀ c ∈ t.caps, GoodU c ∧ c.2.length ≤ 1000 := fun c hc => ⟨g c hc, by have := kinds_le hc; omega⟩
  obtain ⟨r, f⟩ := read_of g2
  have s := forest_sum fCaps 0 0 f
  rw [sum_one, wt_caps] at s
  unfold capsIn
  rw [e, r]
  exact s
theorem ok_ws {ws : List Str} (h : dueOf ws = none) : ∃ ss, quotaRead ws = .ok ss := by
  unfold dueOf at h
  cases r : quotaRead ws with
  | ok ss => exact ⟨ss, rfl⟩
  | error x =>
    rw [r] at h
    cases h
theorem fold_tl : ∀ (l : List (Array Nat)) (a : Array Nat), (l.foldl (· ++ ·) a).toList = a.toList ++ (l.map Array.toList).flatten
  | [], a => by simp
  | x :: r, a => by
    rw [List.foldl_cons, fold_tl r (a ++ x), Array.toList_append, List.map_cons, List.flatten_cons, List.append_assoc]
theorem rep_tl (z : Str) (n : Nat) : TL.tl (OwR.repS z n) = (List.replicate n (TL.tl z)).flatten := by
  show ((List.replicate n z.cps).foldl (· ++ ·) #[]).toList = _
  rw [fold_tl, List.map_replicate]
  rfl
theorem rep_list {p : List Nat} {ps ws : List Str} (np : ps ≠ []) (nw : ws ≠ []) (e : p = TL.tl (Txt.join " " ps) ++ [32]) : ∀ n : Nat, (List.replicate n p).flatten ++ TL.tl (Txt.join " " ws) = TL.tl (Txt.join " " ((List.replicate n ps).flatten ++ ws))
  | 0 => rfl
  | n + 1 => by
    have i := rep_list np nw e n
    have ne : (List.replicate n ps).flatten ++ ws ≠ [] := fun h => nw (List.append_eq_nil_iff.mp h).2
    rw [List.replicate_succ, List.replicate_succ, List.flatten_cons, List.flatten_cons, List.append_assoc, i, List.append_assoc, join_app np ne, TL.tl_append, TL.tl_append, e, sp_tlT]
theorem rep_join {z y : Str} {ps ws : List Str} (np : ps ≠ []) (nw : ws ≠ []) (e : TL.tl z = TL.tl (Txt.join " " ps) ++ [32]) (ey : y = Txt.join " " ws) (n : Nat) : OwR.repS z n ++ y = Txt.join " " ((List.replicate n ps).flatten ++ ws) := by
  refine str_of_tl ?_
  rw [TL.tl_append, rep_tl, ey]
  exact rep_list np nw e n
theorem rep_words {z y : Str} {ps ws : List Str} (np : ps ≠ []) (nw : ws ≠ []) (e : TL.tl z = TL.tl (Txt.join " " ps) ++ [32]) (ey : y = Txt.join " " ws) (fr : ∀ x ∈ ps ++ ws, 32 ∉ TL.tl x) (n : Nat) : wordsOf (OwR.repS z n ++ y) = (List.replicate n ps).flatten ++ ws := by
  rw [rep_join np nw e ey n]
  refine words_of (fun h => nw (List.append_eq_nil_iff.mp h).2) fun x hx => ?_
  rcases List.mem_append.mp hx with hx | hx
  · obtain ⟨l, hl, hx⟩ := List.mem_flatten.mp hx
    rw [(List.mem_replicate.mp hl).2] at hx
    exact fr x (List.mem_append_left _ hx)
  · exact fr x (List.mem_append_right _ hx)
def deepW : List Str := (List.replicate 398 [("both" : Str)]).flatten ++ [("cap" : Str), "1", "0"]
def manyW (n : Nat) : List Str := (List.replicate n [("either" : Str), "cap", "1", "0"]).flatten ++ [("cap" : Str), "1", "0"]
def badW : List Str := (List.replicate 20 [("either" : Str), "cap", "1", "0"]).flatten ++ [("cap" : Str), "13", "0"]
theorem deep_words : wordsOf (deepS ++ "cap 1 0") = deepW := rep_words (ps := [("both" : Str)]) (ws := [("cap" : Str), "1", "0"]) (by simp) (by simp) (by decide +kernel) (by decide +kernel) (by decide +kernel) 398
theorem many_words (n : Nat) : wordsOf (OwR.repS "either cap 1 0 " n ++ "cap 1 0") = manyW n := rep_words (ps := [("either" : Str), "cap", "1", "0"]) (ws := [("cap" : Str), "1", "0"]) (by simp) (by simp) (by decide +kernel) (by decide +kernel) (by decide +kernel) n
theorem bad_words : wordsOf (manyS ++ "cap 13 0") = badW := rep_words (ps := [("either" : Str), "cap", "1", "0"]) (ws := [("cap" : Str), "13", "0"]) (by simp) (by simp) (by decide +kernel) (by decide +kernel) (by decide +kernel) 20
theorem rep_len (z : Str) (n : Nat) : (OwR.repS z n).length ≤ z.length * n := by
  have h := OwR.fold_size (List.replicate n z.cps) #[] z.length fun x hx => by
    rw [(List.mem_replicate.mp hx).2]
    exact Nat.le_refl _
  rw [List.length_replicate] at h
  have e : (#[] : Array Nat).size = 0 := rfl
  show (List.foldl (· ++ ·) #[] (List.replicate n z.cps)).size ≤ _
  omega
/-- a long line can be read -/
theorem long_of {z : Str} {ws : List Str} (e : wordsOf z = ws) (lz : z.length < 100000) (h : (decide (ws.length ≤ 900) && ws.all fun q => decide (q.length ≤ 1000)) = true) : z.length < 100000 ∧ (∀ i, (pk (wordsOf z) i).length ≤ 1000) ∧ (wordsOf z).length ≤ 900 := by
  refine long_pk ?_
  unfold longB
  rw [e, h, decide_eq_true lz]
  rfl
theorem cap_lens : ("cap 1 0" : Str).length = 7 ∧ ("cap 13 0" : Str).length = 8 ∧ ("both " : Str).length = 5 ∧ ("either cap 1 0 " : Str).length = 15 := by decide +kernel
theorem deep_line : (deepS ++ "cap 1 0").length < 100000 ∧ (∀ i, (pk (wordsOf (deepS ++ "cap 1 0")) i).length ≤ 1000) ∧ (wordsOf (deepS ++ "cap 1 0")).length ≤ 900 := by
  refine long_of deep_words ?_ (by decide +kernel)
  have l := rep_len "both " 398
  obtain ⟨a, b, c, d⟩ := cap_lens
  rw [Str.length_append, a]
  rw [c] at l
  show (OwR.repS "both " 398).length + 7 < _
  omega
theorem many_line (n : Nat) (hn : n ≤ 20) (h : (decide ((manyW n).length ≤ 900) && (manyW n).all fun q => decide (q.length ≤ 1000)) = true) : (OwR.repS "either cap 1 0 " n ++ "cap 1 0").length < 100000 ∧ (∀ i, (pk (wordsOf (OwR.repS "either cap 1 0 " n ++ "cap 1 0")) i).length ≤ 1000) ∧ (wordsOf (OwR.repS "either cap 1 0 " n ++ "cap 1 0")).length ≤ 900 := by
  refine long_of (many_words n) ?_ h
  have l := rep_len "either cap 1 0 " n
  obtain ⟨a, b, c, d⟩ := cap_lens
  rw [Str.length_append, a]
  rw [d] at l
  omega
theorem bad_line : (manyS ++ "cap 13 0").length < 100000 ∧ (∀ i, (pk (wordsOf (manyS ++ "cap 13 0")) i).length ≤ 1000) ∧ (wordsOf (manyS ++ "cap 13 0")).length ≤ 900 := by
  refine long_of bad_words ?_ (by decide +kernel)
  have l := rep_len "either cap 1 0 " 20
  obtain ⟨a, b, c, d⟩ := cap_lens
  rw [Str.length_append, b]
  rw [d] at l
  show (OwR.repS "either cap 1 0 " 20).length + 8 < _
  omega
theorem deep_due : dueOf deepW = some 401 := by decide +kernel
theorem many_due : dueOf (manyW 20) = none ∧ capsIn (manyW 20) = 21 ∧ dueOf (manyW 19) = none ∧ capsIn (manyW 19) = 20 ∧ dueOf badW = some 81 := by decide +kernel
theorem many_all : ((decide ((manyW 20).length ≤ 900) && (manyW 20).all fun q => decide (q.length ≤ 1000)) = true) ∧ ((decide ((manyW 19).length ≤ 900) && (manyW 19).all fun q => decide (q.length ≤ 1000)) = true) ∧ (manyW 20).length = 83 ∧ (manyW 19).length = 79 := by decide +kernel
theorem cut_many : cutS manyS (some 15) none = OwR.repS "either cap 1 0 " 19 := by decide +kernel
/-- the odd values -/
inductive OddT (C : Addr) (H : Hp) : V → Prop where
  | non : OddT C H .non
  | int (i : Int) : OddT C H (.int i)
  | bl (b : Bool) : OddT C H (.bl b)
  | lst {l : Addr} (e : H l = some (.lst [.str "cap 1 0"])) : OddT C H (.ref l)
  | tup {l : Addr} {xs : List V} (e : H l = some (.tup xs)) : OddT C H (.ref l)
  | dic {l : Addr} {kvs : List (Key × V)} (e : H l = some (.dK kvs)) : OddT C H (.ref l)
  | obj {l dx : Addr} {fs : List (Str × V)} (e : H l = some (.ins C dx fs)) : OddT C H (.ref l)
theorem OddT.lo {C : Addr} {H H' : Hp} {x : V} {p c : Addr} {ns : List Int} {n : Nat} {z : Int} (h : OddT C H x) (P : PenAt H p c ns n z) (s : Lo p H H') : OddT C H' x := by
  cases h with
  | non => exact .non
  | int i => exact .int i
  | bl b => exact .bl b
  | lst e => exact .lst (s _ _ (fun q => by rw [q, P.pen] at e; cases e) (fun ps h => by cases h) e)
  | tup e => exact .tup (lo_tup P s e)
  | dic e => exact .dic (lo_dK P s e)
  | obj e => exact .obj (lo_ins P s e)
theorem OddT.same {C : Addr} {H H' : Hp} {x : V} (h : OddT C H x) (s : Same H H') : OddT C H' x := by
  cases h with
  | non => exact .non
  | int i => exact .int i
  | bl b => exact .bl b
  | lst e => exact .lst (s _ _ e)
  | tup e => exact .tup (s _ _ e)
  | dic e => exact .dic (s _ _ e)
  | obj e => exact .obj (s _ _ e)
theorem OddT.noStr {K : PySem.W.Frag} {CQ C : Addr} {H : Hp} {x : V} (h : OddT C H x) (k : QKind K CQ C) (noS : PySem.W.kitOne K (.ref C) (.type "str") = some false) : NoStr K H x := by
  cases h with
  | non => exact ⟨_, .base .non, kit_ty (by decide +kernel)⟩
  | int i => exact ⟨_, .base (.int i), kit_ty (by decide +kernel)⟩
  | bl b => exact ⟨_, .base (.bl b), kit_ty (by decide +kernel)⟩
  | lst e => exact ⟨_, .base (.lst e), kit_ty (by decide +kernel)⟩
  | tup e => exact ⟨_, .base (.tup e), kit_ty (by decide +kernel)⟩
  | dic e => exact ⟨_, .base (.dK e), kit_ty (by decide +kernel)⟩
  | obj e => exact ⟨_, k.ty e, noS⟩
theorem ext_tabs_pen {H H' : Hp} {l : Addr} {xs : List V} (e : LamX.ExtN H H') (h : H l = some (.lst xs)) : H' l = some (.lst xs) := e _ _ h (fun ps h => by cases h)
/-- what the ear heard -/
def heardD : PyData := .list [.tuple [.str "text", .int 0, .int 401], .tuple [.str "caps", .int 20, .int 0], .tuple [.str "text", .int 0, .int 81]]
theorem heardD_ok : SeqAt.shaped heardD = true ∧ PyData.eqv heardD heardD = true := by
  have h : SeqAt.shaped heardD = true := by decide +kernel
  exact ⟨h, SeqAt.eqv_refl _ (SeqAt.canLay_of_shaped h)⟩
/-! ### trees as texts -/
theorem asc_up : ∀ {ks : List Str} {last : Str}, ks.Pairwise leS → ks.Nodup → (∀ z ∈ ks, nameB z = true) → (∀ z ∈ ks, ltS last z = true) → UpN last ks
  | [], _, _, _, _, _ => True.intro
  | x :: r, last, pw, nd, nm, lo => by
    obtain ⟨p1, p2⟩ := List.pairwise_cons.mp pw
    obtain ⟨n1, n2⟩ := List.nodup_cons.mp nd
    refine ⟨lo x List.mem_cons_self, nm x List.mem_cons_self, asc_up p2 n2 (fun z hz => nm z (List.mem_cons_of_mem _ hz)) fun z hz => ?_⟩
    cases e : ltS x z with
    | true => rfl
    | false => exact absurd (leS_anti (p1 z hz) (show leS z x from of_decide_eq_false e)) fun h => n1 (by rw [h]; exact hz)
theorem good_up {c : Int × List Str} (h : GoodC c) (s : sortedS c.2 = true) : GoodU c :=
  ⟨h.1.1, h.1.2.1, asc_up (sorted_pw _ s) h.2.1 h.2.2 fun z hz => name_above (h.2.2 z hz)⟩
theorem tree_line {t : QT} (g : ∀ c ∈ t.caps, GoodC c ∧ sortedS c.2 = true) (l : t.caps.length ≤ 5) : wordsOf (Txt.join " " t.words) = t.words ∧ LineS (Txt.join " " t.words) ∧ dueOf (wordsOf (Txt.join " " t.words)) = none := by
  have gc : ∀ c ∈ t.caps, GoodC c := fun c hc => (g c hc).1
  have e := words_of (words_ne t) fun x hx => (tree_word gc x hx).2.2
  refine ⟨e, (tree_ws gc l).line (by decide), ?_⟩
  rw [e]
  have r := (read_of (t := t) fun c hc => ⟨good_up (g c hc).1 (g c hc).2, by have h : c.2.length ≤ 3 := (gc c hc).1.2.2.1; omega⟩).1
  unfold dueOf
  rw [r]
theorem good_tree {xs : List Str} {t : QT} (h : GoodT xs 12 t) (gx : ∀ x ∈ xs, nameB x = true ∧ x.length ≤ 8) (lx : xs.length ≤ 3) : ∀ c ∈ t.caps, GoodC c := fun c hc => by
  obtain ⟨h1, h2, h3, h4, h5⟩ := h c hc
  exact ⟨⟨h1, h2, by omega, fun z hz => (gx z (h4 z hz)).2⟩, h3, fun z hz => (gx z (h4 z hz)).1⟩
section
variable {P : Program} {w : World} {K : PySem.W.Frag} {mg : Str → Option Value} {base : Heap}
theorem read_short {a : QAd} {CB : Addr} {H : Hp} {z : Str} {Q : VK} {E : XK} (ok : LineS z) (d : dueOf (wordsOf z) = none) (k : ∀ r u H', Same H H' → QTr a H' u r → u.text = z → Q (.ref r) H') : ReadQ K a CB H (.str z) Q E := by
  obtain ⟨ss, es⟩ := ok_ws d
  refine .inl ⟨z, rfl, ok.l.len, ok.l.ws.short, ok.l.ws.many, ?_⟩
  rw [es]
  intro u eu gu
  obtain ⟨l60, l20, et⟩ := read_fits ok eu
  exact ⟨l60, fun _ q H' _ s qt => k q u H' s qt et, fun h => absurd h (by omega)⟩
theorem QTr.str {a : QAd} {H : Hp} {t : QT} {q : Addr} {Q : VK} {E : XK} (R : QF P w K mg base a) (h : QTr a H t q) (l : t.text.length ≤ sizeLine) (k : Q (.str t.text) H) : OwR.rStrO K a.fS (spQStr K a.CQ) E [.ref q] H Q := by
  obtain ⟨dx, fs, e⟩ := h.ins
  exact ⟨q, _, dx, fs, rfl, e, (R.one _ (clsT_mem a t)).st, q, t, rfl, h.anyQ R, l, t.text, rfl, k⟩
def spLaw (K : PySem.W.Frag) (T : List (Addr × Str)) : Sp := fun vs H Q _ => ∃ (a : Addr) (ns : List Int), vs = [.ref a] ∧ SqL K H a (ns.map V.int) ∧ ns.length ≤ 63 ∧ LamX.Tabs T H ∧ ∀ H', Q (.bl true) H'
abbrev nLaw : List Str := ["_law_script", "_law_pen_here", "_law_turn", "_law_tree_here", "_law_quota_here", "_law_words_here", "_law_line", "_law_again", "_law_odd", "_law_deep", "_law_many", "_law_heard_here", "_law_rows"]
theorem scLaw : FnScope nLaw ["_law_script"] (defScope sLaw) := ⟨rfl, rfl, rfl, by decide +kernel, rfl, by decide +kernel, by decide +kernel⟩
theorem ok_law {a : QAd} {CB CX f c0 Pt fH fDr fPi fPe fWo fTr fQu fLC fNs fWs fBe fRR pR gR : Addr} {fdH fdDr fdPi fdPe fdWo fdTr fdQu fdLC fdNs fdWs fdBe fdRR : FuncData} {T : List (Addr × Str)} {oc kV doc pm ct : Value} {od an : Option Addr} {osl : Array (Option Value)} (lk : K.lookup f = some ⟨oc, od, .func (PySem.W.fnOf "law" "law" (defArgs sLaw) (defBody sLaw) (defScope sLaw) .none kV doc pm an (.ref c0) ct), osl⟩) (hcd : PySem.W.codeIn K (.ref c0) "law" = true)
    (R : QF P w K mg base a) (ear : EarC K mg CB a.CT CX) (rdQ : RdQ P w K mg base a CB pR gR) (Nn : Nm mg) (F_heard : Fun K "_law_heard" "_law_heard" sHeard fH fdH) (g_heard : mg "_law_heard" = some (.ref fH)) (F_draw : Fun K "_law_draw" "_law_draw" sDraw fDr fdDr) (g_draw : mg "_law_draw" = some (.ref fDr)) (F_pick : Fun K "_law_pick" "_law_pick" sPick fPi fdPi) (g_pick : mg "_law_pick" = some (.ref fPi)) (F_pen : Fun K "_law_pen" "_law_pen" sPen fPe fdPe) (g_pen : mg "_law_pen" = some (.ref fPe))
    (F_word : Fun K "_law_word" "_law_word" sWord fWo fdWo) (g_word : mg "_law_word" = some (.ref fWo)) (F_tree : Fun K "_law_tree" "_law_tree" sTr fTr fdTr) (g_tree : mg "_law_tree" = some (.ref fTr)) (F_quota : Fun K "_law_quota" "_law_quota" sQu fQu fdQu) (g_quota : mg "_law_quota" = some (.ref fQu)) (F_cap : Fun K "_law_cap" "_law_cap" sLC fLC fdLC) (g_cap : mg "_law_cap" = some (.ref fLC)) (F_names : Fun K "_law_names" "_law_names" sNs fNs fdNs) (g_names : mg "_law_names" = some (.ref fNs)) (F_words : Fun K "_law_words" "_law_words" sWs fWs fdWs) (g_words : mg "_law_words" = some (.ref fWs)) (F_bent : Fun K "_law_bent" "_law_bent" sBe fBe fdBe) (g_bent : mg "_law_bent" = some (.ref fBe))
    (G_rr : FnOk P w K mg base CX0 11 fRR fdRR ["_law_line"] (spRR T)) (kp_rr : PySem.W.keepIn K (.ref fRR) = true) (g_rr : mg "_law_read_right" = some (.ref fRR)) (b_rr : Binds K fdRR ["_law_line"] []) (n_range : mg "range" = none) (n_sorted : mg "sorted" = none) (noS : PySem.W.kitOne K (.ref a.CC) (.type "str") = some false)
    (TB : LamX.TabB base mg c0 Pt) (memT : (Pt, qLaw) ∈ T) (oneT : ∀ p ∈ T, p.1 = Pt → p.2 = qLaw) :
    OwR.FnG P w K mg base CX0 14 f (PySem.W.fnOf "law" "law" (defArgs sLaw) (defBody sLaw) (defScope sLaw) .none kV doc pm an (.ref c0) ct) ["_law_script"] (spLaw K T) := by
  have n_str := R.chk.T.n_str
  have n_len := R.chk.T.n_len
  have b_heard : Binds K fdH ["_law_ask"] [] := F_heard.binds fun _ _ _ _ _ _ us hl => match us, hl with | [_], _ => rfl
  have G_pen : FnOk P w K mg base CX0 1 fPe fdPe ["_law_script"] (spPen K) := ok_pen F_pen Nn
  have b_pen : Binds K fdPe ["_law_script"] [] := F_pen.binds fun _ _ _ _ _ _ us hl => match us, hl with | [_], _ => rfl
  have G_draw : FnOk P w K mg base CX0 1 fDr fdDr ["_law_pen_here", "_law_many"] spDraw := ok_draw F_draw Nn
  have b_draw : Binds K fdDr ["_law_pen_here", "_law_many"] [] := F_draw.binds fun _ _ _ _ _ _ us hl => match us, hl with | [_, _], _ => rfl
  have G_pick : FnOk P w K mg base CX0 2 fPi fdPi ["_law_pen_here", "_law_some"] (spPick K) := ok_pick F_pick Nn F_draw g_draw
  have b_pick : Binds K fdPi ["_law_pen_here", "_law_some"] [] := F_pick.binds fun _ _ _ _ _ _ us hl => match us, hl with | [_, _], _ => rfl
  have G_tree : FnOk P w K mg base CX0 7 fTr fdTr ["_law_pen_here", "_law_names_here", "_law_many", "_law_most"] (spTr K 5) := ok_Tr F_tree g_tree Nn F_draw g_draw F_pick g_pick 5
  have b_tree : Binds K fdTr ["_law_pen_here", "_law_names_here", "_law_many", "_law_most"] [] := F_tree.binds fun _ _ _ _ _ _ us hl => match us, hl with | [_, _, _, _], _ => rfl
  have G_quota : FnOk P w K mg base (L2.CX P w) 12 fQu fdQu ["_law_tree_here"] (spQu a 5) := ok_Qu R F_quota g_quota F_cap g_cap 5
  have b_quota : Binds K fdQu ["_law_tree_here"] [] := F_quota.binds fun _ _ _ _ _ _ us hl => match us, hl with | [_], _ => rfl
  have G_names : FnOk P w K mg base CX0 4 fNs fdNs ["_law_pen_here"] spNs := ok_Ns F_names Nn n_range F_draw g_draw F_pick g_pick F_word g_word
  have b_names : Binds K fdNs ["_law_pen_here"] [] := F_names.binds fun _ _ _ _ _ _ us hl => match us, hl with | [_], _ => rfl
  have G_words : FnOk P w K mg base CX0 6 fWs fdWs ["_law_tree_here"] (spWs 5) := ok_Ws F_words g_words n_str n_len n_sorted 5
  have b_words : Binds K fdWs ["_law_tree_here"] [] := F_words.binds fun _ _ _ _ _ _ us hl => match us, hl with | [_], _ => rfl
  have G_bent : FnOk P w K mg base CX0 4 fBe fdBe ["_law_pen_here", "_law_words_here"] spBe := ok_Be F_bent Nn F_draw g_draw F_pick g_pick F_word g_word n_len n_str n_range
  have b_bent : Binds K fdBe ["_law_pen_here", "_law_words_here"] [] := F_bent.binds fun _ _ _ _ _ _ us hl => match us, hl with | [_, _], _ => rfl
  refine OwR.fn_ofG (k := 13) lk hcd scLaw (fun vs H Q E h => ?_) fun A outer s H vs Q E hgd0 hr h => ?_
  · obtain ⟨x, ns, rfl, _⟩ := h
    rfl
  · obtain ⟨x, ns, rfl, hx, hl, hT, q⟩ := h
    have hr13 : Room 13 (A.deeper (envOfC "law" (defScope sLaw) s.heap.objs.size f (.ref c0))) := hr
    have hr12 := hr13.mono (show 12 ≤ 13 by decide)
    have hr11 := hr13.mono (show 11 ≤ 13 by decide)
    have hr10 := hr13.mono (show 10 ≤ 13 by decide)
    have hr8 := hr13.mono (show 8 ≤ 13 by decide)
    have hr7 := hr13.mono (show 7 ≤ 13 by decide)
    have hr6 := hr13.mono (show 6 ≤ 13 by decide)
    have hr5 := hr13.mono (show 5 ≤ 13 by decide)
    have hr4 := hr13.mono (show 4 ≤ 13 by decide)
    have hr3 := hr13.mono (show 3 ≤ 13 by decide)
    have hr2 := hr13.mono (show 2 ≤ 13 by decide)
    have hr1 := hr13.mono (show 1 ≤ 13 by decide)
    have hud := hr13.units
    have hu1 : (A.deeper (envOfC "law" (defScope sLaw) s.heap.objs.size f (.ref c0))).units + 1 < cLine := by omega
    have hu2 : (A.deeper (envOfC "law" (defScope sLaw) s.heap.objs.size f (.ref c0))).units + 2 < cLine := by omega
    refine ⟨_, PSs.nox (pss_cons (ps_set (i := 1) scLaw.nd rfl (Or.inl rfl) (pe_call G_pen hr1 (by rfl) g_pen F_pen.kp b_pen .nil pass0 (pa_cons (pv 0) pa_nil)))
    (pss_cons (ps_for PassesOwn.never rfl (pi_range1 rfl n_range (pa_cons pe_int pa_nil)) (pg_name (i := 2) scLaw.nd rfl (Or.inl rfl)) (pss_cons (ps_set (i := 3) scLaw.nd rfl (Or.inl rfl) (pe_call G_tree hr7 (by rfl) g_tree F_tree.kp b_tree .nil pass0 (pa_cons (pv 1) (pa_cons (pe_call G_names hr4 (by rfl) g_names F_names.kp b_names .nil pass0 (pa_cons (pv 1) pa_nil)) (pa_cons (pe_op op_add pe_int (pe_call G_draw hr1 (by rfl) g_draw F_draw.kp b_draw .nil pass0 (pa_cons (pv 1) (pa_cons pe_int pa_nil)))) (pa_cons pe_int pa_nil))))))
    (pss_cons (ps_par (i := 4) (j := 5) (by rfl) scLaw.nd rfl rfl (by decide) rfl rfl (pa_cons (pe_call G_quota hr12 (by rfl) g_quota F_quota.kp b_quota .nil passL (pa_cons (pv 3) pa_nil)) (pa_cons (pe_call G_words hr6 (by rfl) g_words F_words.kp b_words .nil pass0 (pa_cons (pv 3) pa_nil)) pa_nil)) (by rfl))
    (pss_cons (ps_set (i := 6) scLaw.nd rfl (Or.inl rfl) (pe_join pe_str (pv 5)))
    (pss_cons (ps_if (PW.pt (pw_or (pt_cmpR op_ne (pe_callTy (OwR.call_strO hu2 R.str hr3 pass0) (by rfl) n_str (by decide +kernel) (pa_cons (pv 4) pa_nil)) (pv 6) (nomark _)) (pw_or (pt_cmpR (OwR.op_ownNe hu1 R.eqQ hr2 pass0) (ClX.pe_cmeth (pe_glob (v := .ref a.CQ) rfl R.gQ rfl) R.rQ rdQ.m rdQ.f hr8 passL (pa_cons (pv 6) pa_nil)) (pv 4) (nomark _)) (pw_or1 (pt_not (pt_val (pe_call G_rr hr11 (by rfl) g_rr kp_rr b_rr .nil pass0 (pa_cons (pv 6) pa_nil)))))))) (pss_one (ps_ret pe_bl)) pss_nil)
    (pss_one (ps_for PassesOwn.never rfl (pi_range1 rfl n_range (pa_cons pe_int pa_nil)) (pg_name (i := 7) scLaw.nd rfl (Or.inl rfl)) (pss_cons (ps_set (i := 5) scLaw.nd rfl (Or.inl rfl) (pe_ifExp (pt_cmpR (op_neD hud) (pv 5) (pe_lst pa_nil) (nomark _)) (pe_call G_bent hr4 (by rfl) g_bent F_bent.kp b_bent .nil pass0 (pa_cons (pv 1) (pa_cons (pv 5) pa_nil))) (pe_lst (pa_cons pe_str pa_nil))))
    (pss_one (ps_if (pt_not (pt_val (pe_call G_rr hr11 (by rfl) g_rr kp_rr b_rr .nil pass0 (pa_cons (pe_join pe_str (pv 5)) pa_nil)))) (pss_one (ps_ret pe_bl)) pss_nil))))))))))
    (pss_cons (ps_set (i := 8) scLaw.nd rfl (Or.inr rfl) (pe_call G_pick hr2 (by rfl) g_pick F_pick.kp b_pick .nil pass0 (pa_cons (pv 1) (pa_cons (pe_lst (pa_cons pe_non (pa_cons pe_int (pa_cons pe_bl (pa_cons (pe_tup (pa_cons pe_str (pa_cons pe_int pa_nil))) (pa_cons (pe_lst (pa_cons pe_str pa_nil)) (pa_cons pe_dnewK (pa_cons (StX.pe_makeR R.mkC R.GC hr5 (by rfl) R.gC passL (pa_cons pe_int pa_nil)) pa_nil)))))))) pa_nil))))
    (pss_cons (ps_if (pt_cmpR (op_neD hud) (OwE.pe_lamT (T := T) (k := 8) (q := qLaw) (by rfl) F_heard g_heard b_heard scH rfl (Or.inl rfl) qLaw_eq (fun cdv => heard_gives (hr3) ear) TB rfl memT oneT hr10 (LamX.lamS_by (sc := defScope sLaw) (by decide +kernel)) (fun A outer s H E f c2 hr => (ClX.pe_cmeth (pe_glob (v := .ref a.CQ) rfl R.gQ rfl) R.rQ rdQ.m rdQ.f hr (passes_call (takes_of rfl rfl rfl rfl) (fun _ _ _ _ h => h)) (pa_cons (pv 8) pa_nil)))) (pe_tup (pa_cons pe_str (pa_cons pe_int (pa_cons pe_int pa_nil)))) (nomark _)) (pss_one (ps_ret pe_bl)) pss_nil)
    (pss_cons (ps_asg (pe_tup (pa_cons (pe_op OwR.op_mul_str pe_str pe_int) (pa_cons (pe_op OwR.op_mul_str pe_str pe_int) pa_nil))) (pg_tup rfl (pgs_cons (pg_name (i := 9) scLaw.nd rfl (Or.inr rfl)) (pgs_cons (pg_name (i := 10) scLaw.nd rfl (Or.inr rfl)) pgs_nil))))
    (pss_cons (ps_set (i := 11) scLaw.nd rfl (Or.inl rfl) (pe_lst (pa_cons (OwE.pe_lamT (T := T) (k := 8) (q := qLaw) (by rfl) F_heard g_heard b_heard scH rfl (Or.inl rfl) qLaw_eq (fun cdv => heard_gives (hr3) ear) TB rfl memT oneT hr10 (LamX.lamS_by (sc := defScope sLaw) (by decide +kernel)) (fun A outer s H E f c2 hr => (ClX.pe_cmeth (pe_glob (v := .ref a.CQ) rfl R.gQ rfl) R.rQ rdQ.m rdQ.f hr (passes_call (takes_of rfl rfl rfl rfl) (fun _ _ _ _ h => h)) (pa_cons (pe_op op_add_str (pv 9) pe_str) pa_nil)))) pa_nil)))
    (pss_cons (ps_expr (pe_bm PySem.F.plainAttrs_list PySem.F.slot_list_append PySem.F.type_list_append mt_append (pv 11) (pa_cons (OwE.pe_lamT (T := T) (k := 8) (q := qLaw) (by rfl) F_heard g_heard b_heard scH rfl (Or.inl rfl) qLaw_eq (fun cdv => heard_gives (hr3) ear) TB rfl memT oneT hr10 (LamX.lamS_by (sc := defScope sLaw) (by decide +kernel)) (fun A outer s H E f c2 hr => (ClX.pe_cmeth (pe_glob (v := .ref a.CQ) rfl R.gQ rfl) R.rQ rdQ.m rdQ.f hr (passes_call (takes_of rfl rfl rfl rfl) (fun _ _ _ _ h => h)) (pa_cons (pe_op op_add_str (pv 10) pe_str) pa_nil)))) pa_nil)))
    (pss_cons (ps_expr (pe_bm PySem.F.plainAttrs_list PySem.F.slot_list_append PySem.F.type_list_append mt_append (pv 11) (pa_cons (OwE.pe_lamT (T := T) (k := 8) (q := qLaw) (by rfl) F_heard g_heard b_heard scH rfl (Or.inl rfl) qLaw_eq (fun cdv => heard_gives (hr3) ear) TB rfl memT oneT hr10 (LamX.lamS_by (sc := defScope sLaw) (by decide +kernel)) (fun A outer s H E f c2 hr => (ClX.pe_cmeth (pe_glob (v := .ref a.CQ) rfl R.gQ rfl) R.rQ rdQ.m rdQ.f hr (passes_call (takes_of rfl rfl rfl rfl) (fun _ _ _ _ h => h)) (pa_cons (pe_op op_add_str (pv 10) pe_str) pa_nil)))) pa_nil)))
    (pss_cons (ps_if (pt_cmpR (op_neD hud) (pv 11) (pe_lst (pa_cons (pe_tup (pa_cons pe_str (pa_cons pe_int (pa_cons pe_int pa_nil)))) (pa_cons (pe_tup (pa_cons pe_str (pa_cons pe_int (pa_cons pe_int pa_nil)))) (pa_cons (pe_tup (pa_cons pe_str (pa_cons pe_int (pa_cons pe_int pa_nil)))) pa_nil)))) (nomark _)) (pss_one (ps_ret pe_bl)) pss_nil)
    (pss_cons (ps_set (i := 12) scLaw.nd rfl (Or.inl rfl) (pe_lst (pa_cons pe_str (pa_cons pe_str (pa_cons pe_str (pa_cons pe_str (pa_cons pe_str (pa_cons pe_str (pa_cons pe_str (pa_cons pe_str (pa_cons pe_str pa_nil)))))))))))
    (pss_one (ps_ret (pe_and (pe_cmpR (OwR.op_eqNil hud) (pe_lc (own := [("_law_line", 6)]) (by rfl) scLaw.nd (pi_list (pv 12)) (blkOk_by (own := [("_law_line", 6)]) (N := nLaw) (sc := defScope sLaw) (by decide +kernel)) (fun _ _ _ _ _ => (pg_name (i := 6) scLaw.nd rfl (Or.inl rfl))) (fun _ _ _ _ _ => pts_one (pt_not (pt_val (pe_call G_rr hr11 (by rfl) g_rr kp_rr b_rr .nil pass0 (pa_cons (pv 6) pa_nil))))) (fun _ _ _ _ _ => (pv 6))) (pe_lst pa_nil) (nomark _)) (pe_one (pe_cmpR op_eq (pe_callB (OwR.call_lenO R.len hr2 pass0) (by rfl) n_len boot_len (pa_cons (ClX.pe_cmeth (pe_glob (v := .ref a.CQ) rfl R.gQ rfl) R.rQ rdQ.m rdQ.f hr8 passL (pa_cons (pe_op op_add_str (pe_slice sl_str (pv 10) (po_some pe_int) po_none) pe_str) pa_nil)) pa_nil)) pe_int (nomark _)))))))))))))))), ?_⟩
    have sz := sizeLine_eq
    have szl : ∀ n : Nat, n ≤ 30 → n ≤ sizeLine := fun n h => by omega
    refine ⟨_, rfl, x, ns, rfl, hx, hl, fun p c H1 hp0 s1 pn1 => ?_⟩
    have tb1 := tabs_same hT s1
    refine ⟨5, rfl, by decide, by decide, ?_⟩
    refine for_it walk_range (fun i σ Hx => (∃ x2 x3 x4 x5 x6 x7, σ = [some (.ref x), some (.ref p), x2, x3, x4, x5, x6, x7, none, none, none, none, none]) ∧ LamX.Tabs T Hx ∧ ∃ (n : Nat) (z : Int), PenAt Hx p c ns n z ∧ n ≤ 300 * i)
      ⟨⟨_, _, _, _, _, _, rfl⟩, tb1, 0, 0, pn1, Nat.le_refl 0⟩ (fun _ _ _ _ _ => True.intro) (fun i y0 σ Hx Hy hi q0 y => ?_) (fun σ Hx q0 => ?_)
    · obtain ⟨⟨x2, x3, x4, x5, x6, x7, rfl⟩, tb2, n0, z0, pn2, ln0⟩ := q0
      obtain ⟨rfl, rfl⟩ := y
      have hi6 : i < 5 := hi
      refine ⟨_, rfl, _, rfl, p, c, ns, n0, z0, rfl, pn2, by omega, fun nl xs n1 z1 H2 nd gx lx ln1 pn3 b2 nlp enl => ?_⟩
      have tb3 := tabs_but tb2 pn2 b2
      refine ⟨_, rfl, p, c, ns, n1, z1, 5, rfl, pn3, by omega, by decide, by decide +kernel, fun d n2 z2 H3 d0 d1 hn2 pn4 s3 => ?_⟩
      obtain ⟨dk, rfl⟩ := Int.eq_ofNat_of_zero_le d0
      have enl3 := s3 _ _ nlp enl
      have tb4 := tabs_but tb3 pn3 s3
      refine ⟨1, (dk : Int), rfl, rfl, p, c, ns, n2, z2, nl, xs, 1 + dk, 12, congrArg (fun i => [V.ref p, .ref nl, V.int i, .int 12]) (show (1 : Int) + (dk : Int) = ((1 + dk : Nat) : Int) by omega), pn4, by omega, enl3, nd, lx, by omega, by show 1 + dk ≤ 5; omega, by omega, by decide, by decide, fun b t n3 z3 H4 ht lt gt hn3 pn5 s4 => ?_⟩
      have tb5 := tabs_but tb4 pn4 s4
      have good := good_tree gt gx lx
      have l5 : t.caps.length ≤ 5 := by omega
      clear gt enl enl3 s3 s4 b2 tb2 tb3 tb4 pn2 pn3 pn4
      refine ⟨_, rfl, b, t, rfl, ht, l5, by omega, good, fun r t' H5 nr s5 so qt => ?_⟩
      refine ⟨_, rfl, b, t, rfl, ht.same s5, l5, by omega, good, fun l t'' H6 s6 so2 el => ?_⟩
      obtain rfl := sort_uniq (fun c hc => (good c hc).2.1) so so2
      refine ⟨_, _, rfl, ?_⟩
      have gs := so.good good
      have lt5 : t'.caps.length ≤ 5 := by rw [so.caps.1]; exact l5
      obtain ⟨ew, okL, dn⟩ := tree_line gs lt5
      have okW : WsOk t'.words 0 := tree_ws (fun c hc => (gs c hc).1) lt5
      have pn6 := pn5.same (s5.trans s6)
      have tb6 := tabs_same tb5 (s5.trans s6)
      have qt := qt.same s6
      have nlp2 : l ≠ p := strs_pen pn6 el
      clear s5 s6 so so2 ht pn5 tb5 good gs nr
      refine ⟨⟨_, rfl⟩, _, rfl, _, l, t'.words, rfl, rfl, .inl (SqL.of el), okW.fits (by omega), ?_⟩
      have et : t'.text = Txt.join " " t'.words := text_words t'
      generalize Txt.join (Str.ofString " ") t'.words = z at *
      have len := okL.l.len
      obtain ⟨dxr, fsr, er⟩ := qt.ins
      refine ⟨_, rfl, r, _, dxr, fsr, rfl, er, (R.one _ (clsT_mem a t')).st, r, t', rfl, qt.anyQ R, by rw [et]; omega, t'.text, rfl, ?_⟩
      refine ⟨_, rfl, rfl, _, rfl, ?_⟩
      rw [decide_eq_true (show V.str t'.text = V.str z by rw [et])]
      refine iteF ?_
      refine ⟨rfl, _, rfl, _, rfl, read_short okL dn fun r2 u H7 s7 qu eu => ⟨_, rfl, ne_two R qu (qt.same s7) ⟨_, rfl, ?_⟩⟩⟩
      rw [decide_eq_true (show u.text = t'.text by rw [eu, et])]
      refine iteF ?_
      have pn7 := pn6.same s7
      have tb7 := tabs_same tb6 s7
      have el7 := s7 _ _ el
      clear qu qt er s7 pn6 tb6 el eu
      refine ⟨_, rfl, z, rfl, okL, tb7, fun H8 ex tb8 => ⟨_, rfl, ?_⟩⟩
      refine iteF ?_
      have el8 := ext_tabs_pen ex el7
      have pn8 := pn7.ext ex
      clear ex tb7 pn7 el7
      refine ⟨3, rfl, by decide, by decide, ?_⟩
      refine for_it walk_range (fun j σ Hx => ∃ (l : Addr) (ws : List Str) (x7 : Option V), σ = [some (.ref x), some (.ref p), some (.int (0 + (i : Nat))), some (.ref b), some (.ref r), some (.ref l), some (.str z), x7, none, none, none, none, none] ∧ LamX.Tabs T Hx ∧ Hx l = some (.lst (ws.map V.str)) ∧ l ≠ p ∧ WsOk ws j ∧ ∃ (n : Nat) (z : Int), PenAt Hx p c ns n z ∧ n ≤ 300 * i + 150 + 40 * j)
        ⟨l, t'.words, _, rfl, tb8, el8, nlp2, okW, n3, z3, pn8, by omega⟩ (fun _ _ _ _ _ => True.intro) (fun j y0 σ Hx Hy hj q0 y => ?_) (fun σ Hx q0 => ?_)
      · obtain ⟨l, ws, x7, rfl, tb8, el, nl, okw, n2, z2, pn8, ln2⟩ := q0
        obtain ⟨rfl, rfl⟩ := y
        have hj3 : j < 3 := hj
        refine ⟨_, rfl, Nat.zero_le _, fun N hN => ?_⟩
        have s3 := Same.of_new (o := .lst []) hN
        refine ⟨.list (ws.map PyData.str), .list [], .lst (SqL.of (s3 _ _ el)) (OwD.dp_strs _), .lst (SqL.of upd_same) .nil, shaped_strs fun w hw => (okw.ok w hw).1, OwD.shaped_nil, ?_⟩
        have el3 := s3 _ _ el
        have pn9 := pn8.same s3
        have tb9 := tabs_same tb8 s3
        generalize upd Hy N (.lst []) = H8 at *
        refine ⟨_, rfl, ?_⟩
        cases hws : ws with
        | nil =>
          rw [show (!(PyData.list (([] : List Str).map PyData.str)).eqv (PyData.list [])) = false by simp [PyData.eqv, PyData.eqvAll]]
          refine iteF ?_
          refine ⟨szl 1 (by decide), fun l2 hl2 => ?_⟩
          have s4 := Same.of_new (o := .lst [.str ""]) hl2
          have e4 : upd H8 l2 (.lst [.str ""]) l2 = some (.lst ([("" : Str)].map V.str)) := upd_same
          have ok4 : WsOk [("" : Str)] (j + 1) := ⟨by show 1 ≤ 34 + (j + 1); omega, fun w hw => by rw [List.mem_singleton.mp hw]; exact GoodW.zero ⟨by decide +kernel, by decide +kernel⟩, by rw [show bl [("" : Str)] = 0 by decide +kernel]; omega⟩
          have nl2 : l2 ≠ p := fun e => pn9.some (e ▸ hl2)
          have pn10 := pn9.same s4
          have tb10 := tabs_same tb9 s4
          refine ⟨⟨_, rfl⟩, _, rfl, _, l2, [("" : Str)], rfl, rfl, .inl (SqL.of e4), ok4.fits (by omega), ?_⟩
          refine ⟨_, rfl, ok4.line (by omega), tb10, fun H11 ex tb11 => ⟨_, rfl, ?_⟩⟩
          refine iteF ?_
          refine ⟨l2, [("" : Str)], _, rfl, tb11, ext_tabs_pen ex e4, nl2, ok4, n2, z2, pn10.ext ex, by omega⟩
        | cons w0 r0 =>
          rw [← hws]
          have e0 : (!(PyData.list (ws.map PyData.str)).eqv (PyData.list [])) = true := by
            rw [hws]
            simp [PyData.eqv, PyData.eqvAll]
          rw [e0]
          refine iteT ?_
          refine ⟨_, rfl, _, rfl, p, c, l, ns, n2, z2, ws, j, rfl, pn9, by omega, el3, nl, okw, by omega, fun l2 ws2 n3 z3 H10 ok4 ln3 pn10 b10 nl2 e4 => ?_⟩
          have tb10 := tabs_but tb9 pn9 b10
          refine ⟨⟨_, rfl⟩, _, rfl, _, l2, ws2, rfl, rfl, .inl (SqL.of e4), ok4.fits (by omega), ?_⟩
          refine ⟨_, rfl, ok4.line (by omega), tb10, fun H11 ex tb11 => ⟨_, rfl, ?_⟩⟩
          refine iteF ?_
          refine ⟨l2, ws2, _, rfl, tb11, ext_tabs_pen ex e4, nl2, ok4, n3, z3, pn10.ext ex, by omega⟩
      · obtain ⟨l, ws, x7, rfl, tb8, el, nl, okw, n2, z2, pn8, ln2⟩ := q0
        exact ⟨⟨_, _, _, _, _, _, rfl⟩, tb8, n2, z2, pn8, by omega⟩
    · obtain ⟨⟨x2, x3, x4, x5, x6, x7, rfl⟩, tb2, n0, z0, pn2, ln0⟩ := q0
      refine ⟨_, rfl, szl 2 (by decide), fun k1 hk1 => ⟨szl 1 (by decide), fun k2 hk2 k3 hk3 => ?_⟩⟩
      have u1 := Same.of_new (o := .tup [.str "cap", .int 1]) hk1
      have u2 := Same.of_new (o := .lst [.str "cap 1 0"]) hk2
      have u3 := Same.of_new (o := .dK []) hk3
      have u123 := (u1.trans u2).trans u3
      have w1 := (u2.trans u3) _ _ (upd_same (H := Hx) (a := k1) (o := .tup [.str "cap", .int 1]))
      have w2 := u3 _ _ (upd_same (H := upd Hx k1 (.tup [.str "cap", .int 1])) (a := k2) (o := .lst [.str "cap 1 0"]))
      have w3 := upd_same (H := upd (upd Hx k1 (.tup [.str "cap", .int 1])) k2 (.lst [.str "cap 1 0"])) (a := k3) (o := .dK [])
      generalize upd (upd (upd Hx k1 (.tup [.str "cap", .int 1])) k2 (.lst [.str "cap 1 0"])) k3 (.dK []) = H3 at u123 w1 w2 w3 ⊢
      have pn3 := pn2.same u123
      have tb3 := tabs_same tb2 u123
      clear hk1 hk2 hk3 u1 u2 u3 u123 pn2 tb2
      refine fun r4 dz h1 h2 _ => made_capX ⟨by decide, .inl ⟨1, [], rfl, by decide, by decide, rfl, List.nodup_nil, fun b h => (by cases h), by decide, fun r5 H5 zs hz s5 pm so ca ez => ?_⟩⟩ h1 h2
      obtain rfl := V.ref.inj ez
      have pn5 := pn3.same s5
      have tb5 := tabs_same tb3 s5
      have w1 := s5 _ _ w1
      have w2 := s5 _ _ w2
      have w3 := s5 _ _ w3
      obtain ⟨_, dxr, fsr, er, _⟩ := ca
      refine ⟨rfl, ?_⟩
      refine ⟨szl 7 (by decide), fun L hL => ?_⟩
      have uL := Same.of_new (o := .lst [.non, .int 3, .bl true, .ref k1, .ref k2, .ref k3, .ref r5]) hL
      have nL : L ≠ p := fun e => pn5.some (e ▸ hL)
      have pn6 := pn5.same uL
      have tb6 := tabs_same tb5 uL
      refine ⟨p, c, L, ns, n0, z0, [.non, .int 3, .bl true, .ref k1, .ref k2, .ref k3, .ref r5], rfl, pn6, by omega, nL, SqL.of upd_same, by show (0 : Nat) < 7; decide, by show (7 : Nat) < 1000; decide, fun y n7 z7 H7 hy hn7 pn7 s7 => ?_⟩
      have odd : OddT a.CC H7 y := by
        refine OddT.lo (P := pn6) (s := s7.lo) ?_
        simp only [List.mem_cons, List.not_mem_nil, or_false] at hy
        rcases hy with rfl | rfl | rfl | rfl | rfl | rfl | rfl
        · exact .non
        · exact .int 3
        · exact .bl true
        · exact .tup (uL _ _ w1)
        · exact .lst (uL _ _ w2)
        · exact .dic (uL _ _ w3)
        · exact .obj (uL _ _ er)
      have tb7 := tabs_but tb6 pn6 s7
      clear w1 w2 w3 hL uL s7 hy pn6 tb6 pn5 tb5 pn3 tb3 er h1 h2 s5 hz
      refine ⟨tb7, fun H8 eN tb8 H9 E' Q' s9 hE hR => ?_⟩
      refine ⟨rfl, _, rfl, y, rfl, .inr ⟨fun H' s => ((odd.lo pn7 (extN_lo p eN)).same (s9.trans s)).noStr R.cap.qk noS, fun H' d s nd => hE _ _ _ ⟨d, rfl, .inl ⟨0, rfl, upd_same, fun t H10 s10 et => ?_⟩⟩⟩⟩
      have tb10 := tabs_same tb8 ((s9.trans (s.trans (Same.of_new nd))).trans s10)
      refine ⟨szl 3 (by decide), fun t2 ht2 => ?_⟩
      have s11 := Same.of_new (o := .tup [.str "text", .int 0, .int 0]) ht2
      refine ⟨.tuple [.str "text", .int 0, .int (0 : Nat)], .tuple [.str "text", .int 0, .int (0 : Nat)], .tup (SqT.of (s11 _ _ et)) (.cons (.str _) (.cons (.int _) (.cons (.int _) .nil))), .tup (SqT.of upd_same) (.cons (.str _) (.cons (.int _) (.cons (.int _) .nil))), text3_sh 0, text3_sh 0, ?_⟩
      refine ⟨_, rfl, ?_⟩
      rw [SeqAt.eqv_refl _ (SeqAt.canLay_of_shaped (text3_sh 0))]
      refine iteF ?_
      have tb11 := tabs_same tb10 s11
      clear tb7 tb8 tb10 s9 s10 s11 et ht2 odd pn7 eN hE hR nd s
      generalize upd H10 t2 (.tup [.str "text", .int 0, .int 0]) = HA at tb11 ⊢
      have lens := cap_lens
      obtain ⟨len1, len2, len3, len4⟩ := lens
      refine ⟨"both ", 398, rfl, rfl, by decide, by decide, by decide +kernel, by decide +kernel, "either cap 1 0 ", 20, rfl, rfl, by decide, by decide, by decide +kernel, by decide +kernel, szl 2 (by decide), fun g1 hg1 => ?_⟩
      have tb12 := tabs_same tb11 (Same.of_new (o := .tup [.str (OwR.repS "both " 398), .str (OwR.repS "either cap 1 0 " 20)]) hg1)
      refine ⟨g1, _, rfl, SqT.of upd_same, rfl, _, _, rfl, _, _, rfl, rfl, ?_⟩
      generalize upd HA g1 (.tup [.str (OwR.repS "both " 398), .str (OwR.repS "either cap 1 0 " 20)]) = HB at tb12 ⊢
      clear hg1 tb11
      have lenD := rep_len "both " 398
      have lenM := rep_len "either cap 1 0 " 20
      rw [len3] at lenD
      rw [len4] at lenM
      refine ⟨tb12, fun H13 eN tb13 H14 E' Q' s14 hE hR => ⟨rfl, _, rfl, _, _, rfl, rfl, by rw [len1]; omega, _, rfl, .inl ⟨deepS ++ "cap 1 0", rfl, deep_line.1, deep_line.2.1, deep_line.2.2, ?_⟩⟩⟩
      rw [deep_words, due_err deep_due]
      refine fun H15 d s15 nd => hE _ _ _ ⟨d, rfl, .inl ⟨401, rfl, upd_same, fun t1 H16 s16 et1 => ?_⟩⟩
      have tb16 := tabs_same tb13 ((s14.trans (s15.trans (Same.of_new nd))).trans s16)
      clear hE hR eN tb13 s14 s15 s16 nd tb12
      refine ⟨szl 1 (by decide), fun M hM => ?_⟩
      have uM := Same.of_new (o := .lst [.ref t1]) hM
      have tb17 := tabs_same tb16 uM
      have eM : upd H16 M (.lst [.ref t1]) M = some (.lst [.ref t1]) := upd_same
      have et1 := uM _ _ et1
      generalize upd H16 M (.lst [.ref t1]) = HC at tb17 eM et1 ⊢
      clear hM uM tb16
      refine ⟨_, rfl, .inl ⟨rfl, _, SqL.of eM⟩, ?_⟩
      obtain ⟨due20, in20, due19, in19, dueB⟩ := many_due
      obtain ⟨all20, all19, ln20, ln19⟩ := many_all
      have line20 := many_line 20 (by decide) all20
      have line19 := many_line 19 (by decide) all19
      refine ⟨tb17, fun H18 eN tb18 H19 E' Q' s19 hE hR => ⟨rfl, _, rfl, _, _, rfl, rfl, by rw [len1]; omega, _, rfl, .inl ⟨OwR.repS "either cap 1 0 " 20 ++ "cap 1 0", rfl, line20.1, line20.2.1, line20.2.2, ?_⟩⟩⟩
      obtain ⟨ss, es⟩ := ok_ws due20
      rw [many_words 20, es]
      refine fun u eu gu => ?_
      have cu := caps_of (by rw [ln20]; decide) eu gu
      rw [in20] at cu
      have ku := kinds_words u
      rw [← eu, ln20, cu] at ku
      refine ⟨by omega, fun h => absurd h (by omega), fun _ H20 d s20 nd => hE _ _ _ ⟨d, rfl, .inr ⟨rfl, upd_same, fun t2' H21 s21 et2 => ?_⟩⟩⟩
      have s1921 := s19.trans ((s20.trans (Same.of_new nd)).trans s21)
      have tb21 := tabs_same tb18 s1921
      have eM := s1921 _ _ (ext_tabs_pen eN eM)
      have et1 := s1921 _ _ (eN _ _ et1 (fun ps h => by cases h))
      clear hE hR eN tb18 s19 s20 s21 nd tb17 cu ku eu gu es s1921
      refine ⟨M, _, _, rfl, rfl, eM, by show 1 < sizeLine; omega, ?_⟩
      have nM1 : t1 ≠ M := fun e => by
        rw [e, eM] at et1
        cases et1
      have nM2 : t2' ≠ M := fun e => by
        rw [e, eM] at et2
        cases et2
      have tb22 : LamX.Tabs T (upd H21 M (.lst ([V.ref t1] ++ [V.ref t2']))) := tabs_put tb21 eM
      have et1 : upd H21 M (.lst ([V.ref t1] ++ [V.ref t2'])) t1 = _ := (upd_ne nM1).trans et1
      have et2 : upd H21 M (.lst ([V.ref t1] ++ [V.ref t2'])) t2' = _ := (upd_ne nM2).trans et2
      have eM : upd H21 M (.lst ([V.ref t1] ++ [V.ref t2'])) M = some (.lst ([V.ref t1] ++ [V.ref t2'])) := upd_same
      generalize upd H21 M (.lst ([V.ref t1] ++ [V.ref t2'])) = HD at tb22 eM et1 et2 ⊢
      clear tb21
      refine ⟨_, rfl, .inl ⟨rfl, _, SqL.of eM⟩, ?_⟩
      refine ⟨tb22, fun H18 eN tb18 H19 E' Q' s19 hE hR => ⟨rfl, _, rfl, _, _, rfl, rfl, by rw [len2]; omega, _, rfl, .inl ⟨OwR.repS "either cap 1 0 " 20 ++ "cap 13 0", rfl, bad_line.1, bad_line.2.1, bad_line.2.2, ?_⟩⟩⟩
      rw [show wordsOf (OwR.repS "either cap 1 0 " 20 ++ "cap 13 0") = badW from bad_words, due_err dueB]
      refine fun H20 d s20 nd => hE _ _ _ ⟨d, rfl, .inl ⟨81, rfl, upd_same, fun t3 H21 s21 et3 => ?_⟩⟩
      have s1921 := s19.trans ((s20.trans (Same.of_new nd)).trans s21)
      have tb23 := tabs_same tb18 s1921
      have eM := s1921 _ _ (ext_tabs_pen eN eM)
      have et1 := s1921 _ _ (eN _ _ et1 (fun ps h => by cases h))
      have et2 := s1921 _ _ (eN _ _ et2 (fun ps h => by cases h))
      clear hE hR eN tb18 s19 s20 s21 nd tb22 s1921
      refine ⟨M, _, _, rfl, rfl, eM, by show 2 < sizeLine; omega, ?_⟩
      have nM1 : t1 ≠ M := fun e => by
        rw [e, eM] at et1
        cases et1
      have nM2 : t2' ≠ M := fun e => by
        rw [e, eM] at et2
        cases et2
      have nM3 : t3 ≠ M := fun e => by
        rw [e, eM] at et3
        cases et3
      have tb24 : LamX.Tabs T (upd H21 M (.lst ([V.ref t1] ++ [V.ref t2'] ++ [V.ref t3]))) := tabs_put tb23 eM
      have et1 : upd H21 M (.lst ([V.ref t1] ++ [V.ref t2'] ++ [V.ref t3])) t1 = _ := (upd_ne nM1).trans et1
      have et2 : upd H21 M (.lst ([V.ref t1] ++ [V.ref t2'] ++ [V.ref t3])) t2' = _ := (upd_ne nM2).trans et2
      have et3 : upd H21 M (.lst ([V.ref t1] ++ [V.ref t2'] ++ [V.ref t3])) t3 = _ := (upd_ne nM3).trans et3
      have eM : upd H21 M (.lst ([V.ref t1] ++ [V.ref t2'] ++ [V.ref t3])) M = some (.lst [V.ref t1, V.ref t2', V.ref t3]) := upd_same
      generalize upd H21 M (.lst ([V.ref t1] ++ [V.ref t2'] ++ [V.ref t3])) = HE at tb24 eM et1 et2 et3 ⊢
      clear tb23
      refine ⟨_, rfl, szl 3 (by decide), fun a1 k1 => ⟨szl 3 (by decide), fun a2 k2 => ⟨szl 3 (by decide), fun a3 k3 => ⟨szl 3 (by decide), fun a4 k4 => ?_⟩⟩⟩⟩
      have v1 := Same.of_new (o := .tup [.str "text", .int 0, .int 401]) k1
      have v2 := Same.of_new (o := .tup [.str "caps", .int 20, .int 0]) k2
      have v3 := Same.of_new (o := .tup [.str "text", .int 0, .int 81]) k3
      have v4 := Same.of_new (o := .lst [.ref a1, .ref a2, .ref a3]) k4
      have e1 := (v2.trans (v3.trans v4)) _ _ (upd_same (H := HE) (a := a1) (o := .tup [.str "text", .int 0, .int 401]))
      have e2 := (v3.trans v4) _ _ (upd_same (H := upd HE a1 (.tup [.str "text", .int 0, .int 401])) (a := a2) (o := .tup [.str "caps", .int 20, .int 0]))
      have e3 := v4 _ _ (upd_same (H := upd (upd HE a1 (.tup [.str "text", .int 0, .int 401])) a2 (.tup [.str "caps", .int 20, .int 0])) (a := a3) (o := .tup [.str "text", .int 0, .int 81]))
      have v := ((v1.trans v2).trans v3).trans v4
      have tb25 := tabs_same tb24 v
      refine ⟨heardD, heardD, ?_, ?_, heardD_ok.1, heardD_ok.1, ?_⟩
      · exact .lst (SqL.of (v _ _ eM)) (.cons (.tup (SqT.of (v _ _ et1)) (.cons (.str _) (.cons (.int _) (.cons (.int _) .nil)))) (.cons (.tup (SqT.of (v _ _ et2)) (.cons (.str _) (.cons (.int _) (.cons (.int _) .nil)))) (.cons (.tup (SqT.of (v _ _ et3)) (.cons (.str _) (.cons (.int _) (.cons (.int _) .nil)))) .nil)))
      · exact .lst (SqL.of upd_same) (.cons (.tup (SqT.of e1) (.cons (.str _) (.cons (.int _) (.cons (.int _) .nil)))) (.cons (.tup (SqT.of e2) (.cons (.str _) (.cons (.int _) (.cons (.int _) .nil)))) (.cons (.tup (SqT.of e3) (.cons (.str _) (.cons (.int _) (.cons (.int _) .nil)))) .nil)))
      refine ⟨_, rfl, ?_⟩
      rw [heardD_ok.2]
      refine iteF ?_
      clear e1 e2 e3 v1 v2 v3 v4 v k1 k2 k3 k4 et1 et2 et3 eM tb24 nM1 nM2 nM3
      generalize upd (upd (upd (upd HE a1 (.tup [.str "text", .int 0, .int 401])) a2 (.tup [.str "caps", .int 20, .int 0])) a3 (.tup [.str "text", .int 0, .int 81])) a4 (.lst [.ref a1, .ref a2, .ref a3]) = HF at tb25 ⊢
      refine ⟨szl 9 (by decide), fun R9 hR => ?_⟩
      have uR := Same.of_new (o := .lst (rowsQ.map V.str)) hR
      have tb13 := tabs_same tb25 uR
      have eR : upd HF R9 (.lst (rowsQ.map V.str)) R9 = some (.lst (rowsQ.map V.str)) := upd_same
      clear hR tb25
      refine ⟨_, rfl, R9, rfl, ⟨_, SqL.of eR⟩, fun D hD => ?_⟩
      have nRD : R9 ≠ D := ne_of_none eR hD
      have uD := Same.of_new (o := .lst []) hD
      refine lc_it (walk_list (xs := rowsQ.map V.str)) (fun i Hx => LamX.Tabs T Hx ∧ Hx R9 = some (.lst (rowsQ.map V.str)) ∧ Hx D = some (.lst [])) ⟨tabs_same tb13 uD, uD _ _ eR, upd_same⟩ (fun i Hx _ q => SqL.of q.2.1) (fun i x Hx Hy hi q0 y => ?_) (fun Hx q0 => ?_)
      · obtain ⟨tb14, eR14, eD14⟩ := q0
        obtain ⟨rfl, hx⟩ := y
        rw [List.getElem?_map] at hx
        obtain ⟨z, hz, rfl⟩ := Option.map_eq_some_iff.mp hx
        refine ⟨rfl, ?_⟩
        refine ⟨_, rfl, z, rfl, rows_ok z (List.mem_of_getElem? hz), tb14, fun H15 ex tb15 => ⟨_, rfl, ?_⟩⟩
        refine iteF ?_
        exact ⟨tb15, ext_tabs_pen ex eR14, ext_tabs_pen ex eD14⟩
      · obtain ⟨tb14, eR14, eD14⟩ := q0
        refine ⟨Nat.zero_le _, fun N hN => ?_⟩
        have sN := Same.of_new (o := .lst []) hN
        refine ⟨D, N, [], rfl, rfl, SqL.of (sN _ _ eD14), SqL.of upd_same, ?_⟩
        refine ⟨_, rfl, ?_⟩
        refine iteT ?_
        refine ⟨rfl, _, rfl, ?_⟩
        refine ⟨_, rfl, _, rfl, by omega, ?_⟩
        rw [show cutS (OwR.repS "either cap 1 0 " 20) (some 15) none = OwR.repS "either cap 1 0 " 19 from cut_many]
        have lenN := rep_len "either cap 1 0 " 19
        rw [len4] at lenN
        refine ⟨_, _, rfl, rfl, by rw [len1]; omega, _, rfl, .inl ⟨OwR.repS "either cap 1 0 " 19 ++ "cap 1 0", rfl, line19.1, line19.2.1, line19.2.2, ?_⟩⟩
        obtain ⟨ss, es⟩ := ok_ws due19
        rw [many_words 19, es]
        refine fun u eu gu => ?_
        have cu := caps_of (by rw [ln19]; decide) eu gu
        rw [in19] at cu
        have ku := kinds_words u
        rw [← eu, ln19, cu] at ku
        refine ⟨by omega, fun _ r H20 nr s20 qu => ?_, fun h => absurd h (by omega)⟩
        obtain ⟨dx, fs, cp, jp, kp, cks, zs, ea, _, lcp, ecp, cks1, _⟩ := qu.qat
        have ln : (cks.map V.ref).length = 20 := by rw [List.length_map, cks1.len, cu]
        refine ⟨r, _, dx, fs, rfl, ea, (R.one _ (clsT_mem a u)).ln, _, (R.one _ (clsT_mem a u)).qk, r, dx, cp, fs, _, rfl, ea, lcp, SqT.of ecp, ?_⟩
        rw [ln]
        refine ⟨((20 : Nat) : Int), rfl, by decide, by decide, ?_⟩
        refine ⟨rfl, ?_⟩
        rw [show decide (V.int ((20 : Nat) : Int) = V.int 20) = true from decide_eq_true rfl]
        exact q _
end
end K10
end
section
namespace K10
open PySem PySem.Spec PyProof.Rows L2
/-- where words stand -/
structure WAd where
  (C CB CX fBT fWI fMo fPk fCk fSt fTw fTn fEn fNu pR gR : Addr)
/-- all that the law wants of what stands behind the top -/
structure Facts (P : Program) (w : World) (K : PySem.W.Frag) (mg : Str → Option Value) (base : Heap) (a : QAd) (b : WAd) : Prop where
  R : QF P w K mg base a
  ear : EarC K mg b.CB a.CT b.CX
  nm : Nm mg
  n_range : mg "range" = none
  n_sorted : mg "sorted" = none
  n_list : mg "list" = none
  W : WC K b.C b.fMo b.fPk b.fCk b.fSt b.fTw b.fTn b.fEn
  m_nu : Meth K b.C "take_number" b.fNu
  MW : Mk K b.C b.fWI
  gW : mg "Words" = some (.ref b.C)
  TK : ErrT K mg "BadText" b.CB b.fBT
  dBT : ∃ fd, Fun K "__init__" "BadText.__init__" sBadText0 b.fBT fd
  dMo : ∃ fd, Fun K "more" "Words.more" sWMore b.fMo fd
  dPk : ∃ fd, Fun K "peek" "Words.peek" sWPeek b.fPk fd
  dCk : ∃ fd, Fun K "check" "Words.check" sWCheck b.fCk fd
  dSt : ∃ fd, Fun K "step" "Words.step" sWStep b.fSt fd
  dTw : ∃ fd, Fun K "take_word" "Words.take_word" sWTw b.fTw fd
  dEn : ∃ fd, Fun K "end" "Words.end" sWEnd b.fEn fd
  dTn : ∃ fd, FunD K "take_name" "Words.take_name" (defArgs sWTn) (defBody sWTn) (defScope sWTn) [.str ""] [] b.fTn fd
  dNu : ∃ fd, FunD K "take_number" "Words.take_number" (defArgs sWNu) (defBody sWNu) (defScope sWNu) [.non] [] b.fNu fd
  dWI : ∃ fd, FunD K "__init__" "Words.__init__" (defArgs sWInit) (defBody sWInit) (defScope sWInit) [.int 0] [] b.fWI fd
  mR : ClX.CMet K a.CQ (.type "type") "read" b.pR b.gR
  dR : ∃ fd, Fun K "read" "Quota.read" sQR b.gR fd
  noS : PySem.W.kitOne K (.ref a.CC) (.type "str") = some false
  num : ∃ f fd, mg "number_of" = some (.ref f) ∧ Fun K "number_of" "number_of" sWNum f fd
  cf : ∃ f fd, mg "cap_from" = some (.ref f) ∧ Fun K "cap_from" "cap_from" sCf f fd
  sf : ∃ f fd, mg "steps_from" = some (.ref f) ∧ Fun K "steps_from" "steps_from" sSf f fd
  qs : ∃ f fd, mg "quota_of_steps" = some (.ref f) ∧ Fun K "quota_of_steps" "quota_of_steps" sQs f fd
  qt : ∃ f fd, mg "quota_of_text" = some (.ref f) ∧ Fun K "quota_of_text" "quota_of_text" sQt f fd
  pen : ∃ f fd, mg "_law_pen" = some (.ref f) ∧ Fun K "_law_pen" "_law_pen" sPen f fd
  draw : ∃ f fd, mg "_law_draw" = some (.ref f) ∧ Fun K "_law_draw" "_law_draw" sDraw f fd
  pick : ∃ f fd, mg "_law_pick" = some (.ref f) ∧ Fun K "_law_pick" "_law_pick" sPick f fd
  word : ∃ f fd, mg "_law_word" = some (.ref f) ∧ Fun K "_law_word" "_law_word" sWord f fd
  cap : ∃ f fd, mg "_law_cap" = some (.ref f) ∧ Fun K "_law_cap" "_law_cap" sLC f fd
  tree : ∃ f fd, mg "_law_tree" = some (.ref f) ∧ Fun K "_law_tree" "_law_tree" sTr f fd
  quota : ∃ f fd, mg "_law_quota" = some (.ref f) ∧ Fun K "_law_quota" "_law_quota" sQu f fd
  heard : ∃ f fd, mg "_law_heard" = some (.ref f) ∧ Fun K "_law_heard" "_law_heard" sHeard f fd
  names : ∃ f fd, mg "_law_names" = some (.ref f) ∧ Fun K "_law_names" "_law_names" sNs f fd
  words : ∃ f fd, mg "_law_words" = some (.ref f) ∧ Fun K "_law_words" "_law_words" sWs f fd
  bent : ∃ f fd, mg "_law_bent" = some (.ref f) ∧ Fun K "_law_bent" "_law_bent" sBe f fd
  isn : ∃ f fd, mg "_law_is_name" = some (.ref f) ∧ Fun K "_law_is_name" "_law_is_name" sIn6 f fd
  numb : ∃ f fd, mg "_law_number" = some (.ref f) ∧ Fun K "_law_number" "_law_number" sNb f fd
  ce : ∃ f fd, mg "_law_cap_end" = some (.ref f) ∧ Fun K "_law_cap_end" "_law_cap_end" sCe f fd
  due : ∃ f fd, mg "_law_due" = some (.ref f) ∧ Fun K "_law_due" "_law_due" sDu f fd
/-- a def that holds lambdas: its code, its table -/
structure Lam1 (K : PySem.W.Frag) (mg : Str → Option Value) (base : Heap) (T : List (Addr × Str)) (x : Str) (st : Stmt) (q : Str) (f c0 Pt : Addr) (oc kV doc pm ct : Value) (od an : Option Addr) (osl : Array (Option Value)) : Prop where
  g : mg x = some (.ref f)
  kp : PySem.W.keepIn K (.ref f) = true
  lk : K.lookup f = some ⟨oc, od, .func (PySem.W.fnOf x x (defArgs st) (defBody st) (defScope st) .none kV doc pm an (.ref c0) ct), osl⟩
  hc : PySem.W.codeIn K (.ref c0) x = true
  tb : LamX.TabB base mg c0 Pt
  mem : (Pt, q) ∈ T
  one : ∀ p ∈ T, p.1 = Pt → p.2 = q
section
variable {P : Program} {w : World} {K : PySem.W.Frag} {mg : Str → Option Value} {base : Heap}
theorem ok_all {a : QAd} {b : WAd} {T : List (Addr × Str)} (Fa : Facts P w K mg base a b)
    {f1 c1 P1 f2 c2 P2 : Addr} {oc1 kV1 doc1 pm1 ct1 oc2 kV2 doc2 pm2 ct2 : Value} {od1 an1 od2 an2 : Option Addr} {osl1 osl2 : Array (Option Value)}
    (L1 : Lam1 K mg base T "_law_read_right" sRR qRR f1 c1 P1 oc1 kV1 doc1 pm1 ct1 od1 an1 osl1) (L2' : Lam1 K mg base T "law" sLaw qLaw f2 c2 P2 oc2 kV2 doc2 pm2 ct2 od2 an2 osl2) :
    OwR.FnG P w K mg base CX0 14 f2 (PySem.W.fnOf "law" "law" (defArgs sLaw) (defBody sLaw) (defScope sLaw) .none kV2 doc2 pm2 an2 (.ref c2) ct2) ["_law_script"] (spLaw K T) := by
  have R := Fa.R
  have W := Fa.W
  obtain ⟨fN, fdN, gN, FN⟩ := R.chk.nm
  obtain ⟨_, FBT⟩ := Fa.dBT
  obtain ⟨_, FMo⟩ := Fa.dMo
  obtain ⟨_, FPk⟩ := Fa.dPk
  obtain ⟨_, FCk⟩ := Fa.dCk
  obtain ⟨_, FSt⟩ := Fa.dSt
  obtain ⟨_, FTw⟩ := Fa.dTw
  obtain ⟨_, FEn⟩ := Fa.dEn
  obtain ⟨_, FTn⟩ := Fa.dTn
  obtain ⟨_, FNu⟩ := Fa.dNu
  obtain ⟨_, FWI⟩ := Fa.dWI
  obtain ⟨_, FR⟩ := Fa.dR
  obtain ⟨_, _, g_wnum, F_wnum⟩ := Fa.num
  obtain ⟨_, _, g_cf, F_cf⟩ := Fa.cf
  obtain ⟨_, _, g_sf, F_sf⟩ := Fa.sf
  obtain ⟨_, _, g_qs, F_qs⟩ := Fa.qs
  obtain ⟨_, _, g_qt, F_qt⟩ := Fa.qt
  obtain ⟨_, _, g_pen, F_pen⟩ := Fa.pen
  obtain ⟨_, _, g_draw, F_draw⟩ := Fa.draw
  obtain ⟨_, _, g_pick, F_pick⟩ := Fa.pick
  obtain ⟨_, _, g_word, F_word⟩ := Fa.word
  obtain ⟨_, _, g_cap, F_cap⟩ := Fa.cap
  obtain ⟨_, _, g_tree, F_tree⟩ := Fa.tree
  obtain ⟨_, _, g_quota, F_quota⟩ := Fa.quota
  obtain ⟨_, _, g_heard, F_heard⟩ := Fa.heard
  obtain ⟨_, _, g_names, F_names⟩ := Fa.names
  obtain ⟨_, _, g_words, F_words⟩ := Fa.words
  obtain ⟨_, _, g_bent, F_bent⟩ := Fa.bent
  obtain ⟨_, _, g_isn, F_isn⟩ := Fa.isn
  obtain ⟨_, _, g_numb, F_numb⟩ := Fa.numb
  obtain ⟨_, _, g_ce, F_ce⟩ := Fa.ce
  obtain ⟨_, _, g_due, F_due⟩ := Fa.due
  have n_len := R.chk.T.n_len
  have n_int := R.chk.T.n_int
  have G_more := ok_WMore (P := P) (w := w) (mg := mg) (base := base) W FMo n_len
  have G_peek := ok_WPeek (P := P) (w := w) (mg := mg) (base := base) W FPk FMo n_len
  have G_check := ok_WCheck (P := P) (w := w) (base := base) W FCk Fa.TK Fa.ear.v1 Fa.ear.v2 FBT
  have G_step := ok_WStep (P := P) (w := w) (mg := mg) (base := base) W FSt FPk G_peek
  have WW : WF P w K mg base b.C b.CB b.fMo b.fPk b.fCk b.fSt b.fTw b.fTn b.fEn := {
    W := W
    g_more := ⟨_, G_more, FMo.binds fun _ _ _ _ _ _ us hl => match us, hl with | [_], _ => rfl⟩
    g_peek := ⟨_, G_peek, FPk.binds fun _ _ _ _ _ _ us hl => match us, hl with | [_], _ => rfl⟩
    g_step := ⟨_, G_step, FSt.binds fun _ _ _ _ _ _ us hl => match us, hl with | [_], _ => rfl⟩
    g_tw := ⟨_, ok_WTw W FTw FPk G_peek FCk G_check FSt G_step, FTw.binds fun _ _ _ _ _ _ us hl => match us, hl with | [_, _], _ => rfl⟩
    g_tn := by
      obtain ⟨ds, d1, d2⟩ := tn_binds FTn
      exact ⟨_, ds, ok_WTn W FTn FPk G_peek FCk G_check FSt G_step FN gN R.chk.T, d2, d1, tn2_binds FTn⟩
    g_en := ⟨_, ok_WEnd W FEn FMo n_len FCk G_check, FEn.binds fun _ _ _ _ _ _ us hl => match us, hl with | [_], _ => rfl⟩ }
  have G_nu := ok_WNu (P := P) (w := w) (base := base) W FNu FPk G_peek FCk G_check FSt G_step F_wnum g_wnum n_len n_int
  have WH : WFQ P w K mg base b.C b.CB b.fMo b.fPk b.fCk b.fSt b.fTw b.fTn b.fEn b.fNu := {
    f := WW
    m_nu := Fa.m_nu
    g_nu := by
      obtain ⟨ds, d1, d2⟩ := nu1_binds FNu
      exact ⟨_, ds, G_nu, d2, d1⟩
    g_nu2 := ⟨_, G_nu, nu_binds FNu⟩ }
  have G_init := ok_WI (P := P) (w := w) (base := base) W FWI Fa.TK Fa.ear.v1 Fa.ear.v2 FBT R.chk.T
  obtain ⟨dsI, d_init, b_init⟩ := FWI.binds1 (ps := ["self", "text", "line"]) 2 0 (by simp) rfl fun T kV doc pm an cdv ct us its hu hi => match us, its, hu, hi with | [_, _], [_], _, _ => ⟨_, rfl, rfl⟩
  have G_qt := ok_Qt R F_qt Fa.MW Fa.gW G_init b_init d_init F_sf g_sf F_cf g_cf F_qs g_qs n_len WH
  have hR := rd_Q FR (ok_QR FR F_qt g_qt G_qt)
  have rdQ : RdQ P w K mg base a b.CB b.pR b.gR := ⟨Fa.mR, hR.1, hR.2⟩
  exact ok_law L2'.lk L2'.hc R Fa.ear rdQ Fa.nm F_heard g_heard F_draw g_draw F_pick g_pick F_pen g_pen F_word g_word F_tree g_tree F_quota g_quota F_cap g_cap F_names g_names F_words g_words F_bent g_bent
    (ok_RR L1.lk L1.hc R Fa.ear rdQ F_heard g_heard F_due g_due F_ce g_ce F_numb g_numb F_isn g_isn Fa.n_range n_int Fa.n_list L1.tb L1.mem L1.one) L1.kp L1.g (fun s us _ hl => match us, hl with | [_], _ => .of_eq rfl) Fa.n_range Fa.n_sorted Fa.noS L2'.tb L2'.mem L2'.one
end
end K10
end
section
namespace K10
open PySem PySem.Spec PyProof.Rows L2
def theDefs : List OwH.DX :=
  [⟨fun K => OwH.ga K "is_name", "is_name", "is_name", sName, []⟩,
   ⟨fun K => OwH.ga K "is_within", "is_within", "is_within", sWithin, []⟩,
   ⟨fun K => OwH.ga K "ascending", "ascending", "ascending", sAsc, []⟩,
   ⟨fun K => OwH.ga K "check_names", "check_names", "check_names", sChkN, []⟩,
   ⟨fun K => OwH.ga K "joined_caps", "joined_caps", "joined_caps", sJoined, []⟩,
   ⟨fun K => OwH.ga K "is_let", "is_let", "is_let", sIsLet, []⟩,
   ⟨fun K => OwH.ga K "lets_sums", "lets_sums", "lets_sums", sLets, []⟩,
   ⟨fun K => OwH.ga K "number_of", "number_of", "number_of", sWNum, []⟩,
   ⟨fun K => OwH.ga K "cap_from", "cap_from", "cap_from", sCf, []⟩,
   ⟨fun K => OwH.ga K "steps_from", "steps_from", "steps_from", sSf, []⟩,
   ⟨fun K => OwH.ga K "quota_of_steps", "quota_of_steps", "quota_of_steps", sQs, []⟩,
   ⟨fun K => OwH.ga K "quota_of_text", "quota_of_text", "quota_of_text", sQt, []⟩,
   ⟨fun K => OwH.ga K "_law_pen", "_law_pen", "_law_pen", sPen, []⟩,
   ⟨fun K => OwH.ga K "_law_draw", "_law_draw", "_law_draw", sDraw, []⟩,
   ⟨fun K => OwH.ga K "_law_pick", "_law_pick", "_law_pick", sPick, []⟩,
   ⟨fun K => OwH.ga K "_law_word", "_law_word", "_law_word", sWord, []⟩,
   ⟨fun K => OwH.ga K "_law_cap", "_law_cap", "_law_cap", sLC, []⟩,
   ⟨fun K => OwH.ga K "_law_tree", "_law_tree", "_law_tree", sTr, []⟩,
   ⟨fun K => OwH.ga K "_law_quota", "_law_quota", "_law_quota", sQu, []⟩,
   ⟨fun K => OwH.ga K "_law_heard", "_law_heard", "_law_heard", sHeard, []⟩,
   ⟨fun K => OwH.ga K "_law_names", "_law_names", "_law_names", sNs, []⟩,
   ⟨fun K => OwH.ga K "_law_words", "_law_words", "_law_words", sWs, []⟩,
   ⟨fun K => OwH.ga K "_law_bent", "_law_bent", "_law_bent", sBe, []⟩,
   ⟨fun K => OwH.ga K "_law_is_name", "_law_is_name", "_law_is_name", sIn6, []⟩,
   ⟨fun K => OwH.ga K "_law_number", "_law_number", "_law_number", sNb, []⟩,
   ⟨fun K => OwH.ga K "_law_cap_end", "_law_cap_end", "_law_cap_end", sCe, []⟩,
   ⟨fun K => OwH.ga K "_law_due", "_law_due", "_law_due", sDu, []⟩,
   ⟨fun K => OwH.ga K "_law_read_right", "_law_read_right", "_law_read_right", sRR, []⟩,
   ⟨fun K => OwH.ga K "law", "law", "law", sLaw, []⟩,
   ⟨fun K => OwH.mo K "BadName" "__init__", "__init__", "BadName.__init__", sBadName0, []⟩,
   ⟨fun K => OwH.mo K "BadNumber" "__init__", "__init__", "BadNumber.__init__", sBadNumber0, []⟩,
   ⟨fun K => OwH.mo K "BadQuota" "__init__", "__init__", "BadQuota.__init__", sBadQuota0, []⟩,
   ⟨fun K => OwH.mo K "TooMany" "__init__", "__init__", "TooMany.__init__", sTooMany0, []⟩,
   ⟨fun K => OwH.mo K "Cap" "__init__", "__init__", "Cap.__init__", sCap0, []⟩,
   ⟨fun K => OwH.mo K "Both" "__init__", "__init__", "Both.__init__", sBoth0, []⟩,
   ⟨fun K => OwH.mo K "Either" "__init__", "__init__", "Either.__init__", sEither0, []⟩,
   ⟨fun K => OwH.mo K "Quota" "__init__", "__init__", "Quota.__init__", sQuota0, []⟩,
   ⟨fun K => OwH.mo K "Pair" "__init__", "__init__", "Pair.__init__", sPair0, []⟩,
   ⟨fun K => OwH.mo K "Cap" "__len__", "__len__", "Quota.__len__", sQLen, []⟩,
   ⟨fun K => OwH.mo K "Cap" "__str__", "__str__", "Quota.__str__", sQStr, []⟩,
   ⟨fun K => OwH.mo K "Cap" "__and__", "__and__", "Quota.__and__", sQAnd, []⟩,
   ⟨fun K => OwH.mo K "Cap" "__or__", "__or__", "Quota.__or__", sQOr, []⟩,
   ⟨fun K => OwH.mo K "Cap" "__eq__", "__eq__", "Quota.__eq__", sQEq, []⟩,
   ⟨fun K => OwH.inRec K (OwH.mo K "Cap" "kinds") "property", "kinds", "Quota.kinds", sQKinds, []⟩,
   ⟨fun K => OwH.mo K "Cap" "bounds", "bounds", "Quota.bounds", sQBounds, []⟩,
   ⟨fun K => OwH.mo K "Cap" "__contains__", "__contains__", "Quota.__contains__", sQIn, []⟩,
   ⟨fun K => OwH.inRec K (OwH.mo K "Both" "first") "property", "first", "Pair.first", sPair1, []⟩,
   ⟨fun K => OwH.inRec K (OwH.mo K "Both" "second") "property", "second", "Pair.second", sPair2, []⟩,
   ⟨fun K => OwH.inRec K (OwH.mo K "Quota" "read") "classmethod", "read", "Quota.read", sQR, []⟩,
   ⟨fun K => OwH.mo K "BadText" "__init__", "__init__", "BadText.__init__", sBadText0, []⟩,
   ⟨fun K => OwH.mo K "Words" "more", "more", "Words.more", sWMore, []⟩,
   ⟨fun K => OwH.mo K "Words" "peek", "peek", "Words.peek", sWPeek, []⟩,
   ⟨fun K => OwH.mo K "Words" "check", "check", "Words.check", sWCheck, []⟩,
   ⟨fun K => OwH.mo K "Words" "step", "step", "Words.step", sWStep, []⟩,
   ⟨fun K => OwH.mo K "Words" "take_word", "take_word", "Words.take_word", sWTw, []⟩,
   ⟨fun K => OwH.mo K "Words" "end", "end", "Words.end", sWEnd, []⟩,
   ⟨fun K => OwH.mo K "Words" "take_name", "take_name", "Words.take_name", sWTn, [.str ""]⟩,
   ⟨fun K => OwH.mo K "Words" "take_number", "take_number", "Words.take_number", sWNu, [.non]⟩,
   ⟨fun K => OwH.mo K "Words" "__init__", "__init__", "Words.__init__", sWInit, [.int 0]⟩]
def theFacts : List (PySem.W.Frag → Bool) :=
  [(He.Fa.glo "is_name").ok,
   (He.Fa.glo "is_within").ok,
   (He.Fa.glo "ascending").ok,
   (He.Fa.glo "check_names").ok,
   (He.Fa.glo "joined_caps").ok,
   (He.Fa.glo "is_let").ok,
   (He.Fa.glo "lets_sums").ok,
   (He.Fa.glo "number_of").ok,
   (He.Fa.glo "cap_from").ok,
   (He.Fa.glo "steps_from").ok,
   (He.Fa.glo "quota_of_steps").ok,
   (He.Fa.glo "quota_of_text").ok,
   (He.Fa.glo "_law_pen").ok,
   (He.Fa.glo "_law_draw").ok,
   (He.Fa.glo "_law_pick").ok,
   (He.Fa.glo "_law_word").ok,
   (He.Fa.glo "_law_cap").ok,
   (He.Fa.glo "_law_tree").ok,
   (He.Fa.glo "_law_quota").ok,
   (He.Fa.glo "_law_heard").ok,
   (He.Fa.glo "_law_names").ok,
   (He.Fa.glo "_law_words").ok,
   (He.Fa.glo "_law_bent").ok,
   (He.Fa.glo "_law_is_name").ok,
   (He.Fa.glo "_law_number").ok,
   (He.Fa.glo "_law_cap_end").ok,
   (He.Fa.glo "_law_due").ok,
   (He.Fa.glo "_law_read_right").ok,
   (He.Fa.glo "law").ok,
   (He.Fa.glo "Quota").ok,
   (He.Fa.glo "Cap").ok,
   (He.Fa.glo "Both").ok,
   (He.Fa.glo "Either").ok,
   (He.Fa.glo "Pair").ok,
   (He.Fa.glo "NextError").ok,
   (He.Fa.glo "Words").ok,
   (He.Fa.glo "BadText").ok,
   (He.Fa.glo "BadName").ok,
   (He.Fa.glo "BadNumber").ok,
   (He.Fa.glo "BadQuota").ok,
   (He.Fa.glo "TooMany").ok,
   (He.Fa.free "int").ok,
   (He.Fa.free "bool").ok,
   (He.Fa.free "str").ok,
   (He.Fa.free "len").ok,
   (He.Fa.free "all").ok,
   (He.Fa.free "isinstance").ok,
   (He.Fa.free "sorted").ok,
   (He.Fa.free "set").ok,
   (He.Fa.free "list").ok,
   (He.Fa.free "tuple").ok,
   (He.Fa.free "abs").ok,
   (He.Fa.free "range").ok,
   (He.Fa.free "zip").ok,
   (He.Fa.free "sum").ok,
   OwH.fErr "BadName",
   OwH.fIni "BadName",
   OwH.fNoF "BadName" "value",
   OwH.fErr "BadNumber",
   OwH.fIni "BadNumber",
   OwH.fNoF "BadNumber" "value",
   OwH.fErr "BadQuota",
   OwH.fIni "BadQuota",
   OwH.fNoF "BadQuota" "part",
   OwH.fErr "TooMany",
   OwH.fIni "TooMany",
   OwH.fNoF "TooMany" "what",
   OwH.fNoF "TooMany" "most",
   OwH.fErr "BadText",
   OwH.fIni "BadText",
   OwH.fNoF "BadText" "line",
   OwH.fNoF "BadText" "word",
   fQuota "Cap",
   (He.Fa.mkr "Cap").ok,
   fQuota "Both",
   (He.Fa.mkr "Both").ok,
   fQuota "Either",
   (He.Fa.mkr "Either").ok,
   fAll2,
   (He.Fa.noat "Cap" "most").ok,
   (He.Fa.noat "Both" "_first").ok,
   (He.Fa.noat "Both" "_second").ok,
   fun K => OwH.fPropAt K (OwH.ga K "Both") "first" (qa K).p1,
   fun K => OwH.fPropAt K (OwH.ga K "Both") "second" (qa K).p2,
   (He.Fa.noat "Either" "_first").ok,
   (He.Fa.noat "Either" "_second").ok,
   fun K => OwH.fPropAt K (OwH.ga K "Either") "first" (qa K).p1,
   fun K => OwH.fPropAt K (OwH.ga K "Either") "second" (qa K).p2,
   OwH.fRead "Quota",
   OwH.fCFun "Quota" "__init__",
   OwH.fRead "Pair",
   OwH.fCFun "Pair" "__init__",
   OwH.fExm "BadText" "BadText" true,
   OwH.fExm "TooMany" "BadText" false,
   OwH.fExm "TooMany" "TooMany" true,
   OwH.fCMet "Quota" "read",
   (He.Fa.cls "Words").ok,
   (He.Fa.mkr "Words").ok,
   (He.Fa.noat "Words" "_words").ok,
   (He.Fa.noat "Words" "_line").ok,
   (He.Fa.noat "Words" "_at").ok,
   fun K => OwH.fMethAt K (OwH.ga K "Words") "more" (OwH.mo K "Words" "more"),
   fun K => OwH.fMethAt K (OwH.ga K "Words") "peek" (OwH.mo K "Words" "peek"),
   fun K => OwH.fMethAt K (OwH.ga K "Words") "check" (OwH.mo K "Words" "check"),
   fun K => OwH.fMethAt K (OwH.ga K "Words") "step" (OwH.mo K "Words" "step"),
   fun K => OwH.fMethAt K (OwH.ga K "Words") "take_word" (OwH.mo K "Words" "take_word"),
   fun K => OwH.fMethAt K (OwH.ga K "Words") "take_name" (OwH.mo K "Words" "take_name"),
   fun K => OwH.fMethAt K (OwH.ga K "Words") "end" (OwH.mo K "Words" "end"),
   fun K => OwH.fMethAt K (OwH.ga K "Words") "take_number" (OwH.mo K "Words" "take_number"),
   fun K => decide (PySem.W.kitOne K (.ref (OwH.ga K "Cap")) (.type "str") = some false),
   fun K => decide ((OwH.cTab K (OwH.ga K "_law_read_right")).2 ≠ (OwH.cTab K (OwH.ga K "law")).2)]
def theTabs : List (PySem.W.Frag → Addr) := [fun K => OwH.ga K "_law_read_right", fun K => OwH.ga K "law"]
def roots : List Str := ([("is_name" : Str), ("is_within" : Str), ("ascending" : Str), ("check_names" : Str), ("joined_caps" : Str), ("is_let" : Str), ("lets_sums" : Str), ("number_of" : Str)] : List Str) ++ ([("cap_from" : Str), ("steps_from" : Str), ("quota_of_steps" : Str), ("quota_of_text" : Str), ("_law_pen" : Str), ("_law_draw" : Str), ("_law_pick" : Str), ("_law_word" : Str)] : List Str) ++ ([("_law_cap" : Str), ("_law_tree" : Str), ("_law_quota" : Str), ("_law_heard" : Str), ("_law_names" : Str), ("_law_words" : Str), ("_law_bent" : Str), ("_law_is_name" : Str)] : List Str) ++ ([("_law_number" : Str), ("_law_cap_end" : Str), ("_law_due" : Str), ("_law_read_right" : Str), ("law" : Str), ("Quota" : Str), ("Cap" : Str), ("Both" : Str)] : List Str) ++ ([("Either" : Str), ("Pair" : Str), ("NextError" : Str), ("Words" : Str), ("BadText" : Str), ("BadName" : Str), ("BadNumber" : Str), ("BadQuota" : Str)] : List Str) ++ ([("TooMany" : Str)] : List Str)
def names : List Str := ([("_wall" : Str), ("NextError" : Str), ("BadName" : Str), ("BadNumber" : Str), ("BadQuota" : Str), ("TooMany" : Str), ("BadText" : Str), ("is_name" : Str)] : List Str) ++ ([("is_within" : Str), ("ascending" : Str), ("Pair" : Str), ("number_of" : Str), ("Words" : Str), ("Quota" : Str), ("Cap" : Str), ("Both" : Str)] : List Str) ++ ([("Either" : Str), ("joined_caps" : Str), ("check_names" : Str), ("is_let" : Str), ("lets_sums" : Str), ("quota_of_text" : Str), ("steps_from" : Str), ("cap_from" : Str)] : List Str) ++ ([("quota_of_steps" : Str), ("_law_pen" : Str), ("_law_draw" : Str), ("_law_pick" : Str), ("_law_word" : Str), ("_law_cap" : Str), ("_law_tree" : Str), ("_law_quota" : Str)] : List Str) ++ ([("_law_heard" : Str), ("_law_names" : Str), ("_law_words" : Str), ("_law_bent" : Str), ("_law_is_name" : Str), ("_law_number" : Str), ("_law_cap_end" : Str), ("_law_due" : Str)] : List Str) ++ ([("_law_read_right" : Str)] : List Str)
abbrev Rw : PySem.W.OpenRow := PySem.W.OpenLaw.row PySem.Challenge.rw_nextkind_k20_quotas_written_and_read
abbrev hk : PySem.W.Hook := OwH.hookT roots theFacts theDefs theTabs
def ob (s : PySem.W.SharedT) : OwH.AT := OwH.obsT roots theFacts theDefs theTabs (HandSHeadRun.getT s)
theorem ob_eq (s : PySem.W.SharedT) : ob s = hk.obs s.abs := OwH.obsT_eq (HandSHeadRun.getT_eq s)
theorem run (w : World) : HandSHeadRun.RunEq Rw (PySem.W.view Rw.prog [47]) hk ob 14000 names w := by
  intro os
  kernel_rfl
def wa (K : PySem.W.Frag) : WAd := ⟨OwH.ga K "Words", OwH.ga K "BadText", OwH.ga K "NextError", OwH.mo K "BadText" "__init__", OwH.mo K "Words" "__init__", OwH.mo K "Words" "more", OwH.mo K "Words" "peek", OwH.mo K "Words" "check", OwH.mo K "Words" "step", OwH.mo K "Words" "take_word", OwH.mo K "Words" "take_name", OwH.mo K "Words" "end", OwH.mo K "Words" "take_number", OwH.mo K "Quota" "read", OwH.inRec K (OwH.mo K "Quota" "read") "classmethod"⟩
theorem facts {P : Program} {w : World} {K : PySem.W.Frag} {h base : Heap} {mg : Str → Option Value} (X : K.In h) (G : h.Ns mainGlobals mg) (c : OwH.seeX theFacts theDefs K = OwH.wantX theDefs) : Facts P w K mg base (qa K) (wa K) := by
  obtain ⟨fd0, F0⟩ := OwH.def_ c 0 rfl
  obtain ⟨fd1, F1⟩ := OwH.def_ c 1 rfl
  obtain ⟨fd2, F2⟩ := OwH.def_ c 2 rfl
  obtain ⟨fd3, F3⟩ := OwH.def_ c 3 rfl
  obtain ⟨fd4, F4⟩ := OwH.def_ c 4 rfl
  obtain ⟨fd5, F5⟩ := OwH.def_ c 5 rfl
  obtain ⟨fd6, F6⟩ := OwH.def_ c 6 rfl
  obtain ⟨fd7, F7⟩ := OwH.def_ c 7 rfl
  obtain ⟨fd8, F8⟩ := OwH.def_ c 8 rfl
  obtain ⟨fd9, F9⟩ := OwH.def_ c 9 rfl
  obtain ⟨fd10, F10⟩ := OwH.def_ c 10 rfl
  obtain ⟨fd11, F11⟩ := OwH.def_ c 11 rfl
  obtain ⟨fd12, F12⟩ := OwH.def_ c 12 rfl
  obtain ⟨fd13, F13⟩ := OwH.def_ c 13 rfl
  obtain ⟨fd14, F14⟩ := OwH.def_ c 14 rfl
  obtain ⟨fd15, F15⟩ := OwH.def_ c 15 rfl
  obtain ⟨fd16, F16⟩ := OwH.def_ c 16 rfl
  obtain ⟨fd17, F17⟩ := OwH.def_ c 17 rfl
  obtain ⟨fd18, F18⟩ := OwH.def_ c 18 rfl
  obtain ⟨fd19, F19⟩ := OwH.def_ c 19 rfl
  obtain ⟨fd20, F20⟩ := OwH.def_ c 20 rfl
  obtain ⟨fd21, F21⟩ := OwH.def_ c 21 rfl
  obtain ⟨fd22, F22⟩ := OwH.def_ c 22 rfl
  obtain ⟨fd23, F23⟩ := OwH.def_ c 23 rfl
  obtain ⟨fd24, F24⟩ := OwH.def_ c 24 rfl
  obtain ⟨fd25, F25⟩ := OwH.def_ c 25 rfl
  obtain ⟨fd26, F26⟩ := OwH.def_ c 26 rfl
  obtain ⟨fd27, F27⟩ := OwH.def_ c 27 rfl
  obtain ⟨fd29, F29⟩ := OwH.def_ c 29 rfl
  obtain ⟨fd30, F30⟩ := OwH.def_ c 30 rfl
  obtain ⟨fd31, F31⟩ := OwH.def_ c 31 rfl
  obtain ⟨fd32, F32⟩ := OwH.def_ c 32 rfl
  obtain ⟨fd33, F33⟩ := OwH.def_ c 33 rfl
  obtain ⟨fd34, F34⟩ := OwH.def_ c 34 rfl
  obtain ⟨fd35, F35⟩ := OwH.def_ c 35 rfl
  obtain ⟨fd36, F36⟩ := OwH.def_ c 36 rfl
  obtain ⟨fd37, F37⟩ := OwH.def_ c 37 rfl
  obtain ⟨fd38, F38⟩ := OwH.def_ c 38 rfl
  obtain ⟨fd39, F39⟩ := OwH.def_ c 39 rfl
  obtain ⟨fd40, F40⟩ := OwH.def_ c 40 rfl
  obtain ⟨fd41, F41⟩ := OwH.def_ c 41 rfl
  obtain ⟨fd42, F42⟩ := OwH.def_ c 42 rfl
  obtain ⟨fd43, F43⟩ := OwH.def_ c 43 rfl
  obtain ⟨fd44, F44⟩ := OwH.def_ c 44 rfl
  obtain ⟨fd45, F45⟩ := OwH.def_ c 45 rfl
  obtain ⟨fd46, F46⟩ := OwH.def_ c 46 rfl
  obtain ⟨fd47, F47⟩ := OwH.def_ c 47 rfl
  obtain ⟨fd48, F48⟩ := OwH.def_ c 48 rfl
  obtain ⟨fd49, F49⟩ := OwH.def_ c 49 rfl
  obtain ⟨fd50, F50⟩ := OwH.def_ c 50 rfl
  obtain ⟨fd51, F51⟩ := OwH.def_ c 51 rfl
  obtain ⟨fd52, F52⟩ := OwH.def_ c 52 rfl
  obtain ⟨fd53, F53⟩ := OwH.def_ c 53 rfl
  obtain ⟨fd54, F54⟩ := OwH.def_ c 54 rfl
  obtain ⟨fd55, F55⟩ := OwH.def_ c 55 rfl
  obtain ⟨fd56, F56⟩ := OwH.defD_ c 56 rfl (by simp)
  obtain ⟨fd57, F57⟩ := OwH.defD_ c 57 rfl (by simp)
  obtain ⟨fd58, F58⟩ := OwH.defD_ c 58 rfl (by simp)
  exact ⟨⟨⟨⟨_, _, (He.glo_ok X G (OwH.fact c 0 rfl)), F0⟩, ⟨_, _, (He.glo_ok X G (OwH.fact c 1 rfl)), F1⟩, ⟨_, _, (He.glo_ok X G (OwH.fact c 2 rfl)), F2⟩, ⟨(He.free_ok X G (OwH.fact c 41 rfl)), (He.free_ok X G (OwH.fact c 42 rfl)), (He.free_ok X G (OwH.fact c 43 rfl)), (He.free_ok X G (OwH.fact c 44 rfl)), (He.free_ok X G (OwH.fact c 45 rfl)), (He.free_ok X G (OwH.fact c 46 rfl))⟩, ⟨(He.free_ok X G (OwH.fact c 47 rfl)), (He.free_ok X G (OwH.fact c 48 rfl)), (He.free_ok X G (OwH.fact c 49 rfl))⟩, ⟨(He.free_ok X G (OwH.fact c 50 rfl))⟩⟩,
    ⟨⟨_, _, ⟨OwH.err_ok (OwH.fact c 55 rfl), (He.glo_ok X G (OwH.fact c 37 rfl)), (OwH.ini_ok (OwH.fact c 56 rfl)).1, (OwH.ini_ok (OwH.fact c 56 rfl)).2⟩, of_decide_eq_true (OwH.fact c 57 rfl), F29⟩, ⟨_, _, ⟨OwH.err_ok (OwH.fact c 58 rfl), (He.glo_ok X G (OwH.fact c 38 rfl)), (OwH.ini_ok (OwH.fact c 59 rfl)).1, (OwH.ini_ok (OwH.fact c 59 rfl)).2⟩, of_decide_eq_true (OwH.fact c 60 rfl), F30⟩, ⟨_, _, ⟨OwH.err_ok (OwH.fact c 61 rfl), (He.glo_ok X G (OwH.fact c 39 rfl)), (OwH.ini_ok (OwH.fact c 62 rfl)).1, (OwH.ini_ok (OwH.fact c 62 rfl)).2⟩, of_decide_eq_true (OwH.fact c 63 rfl), F31⟩, ⟨_, _, ⟨OwH.err_ok (OwH.fact c 64 rfl), (He.glo_ok X G (OwH.fact c 40 rfl)), (OwH.ini_ok (OwH.fact c 65 rfl)).1, (OwH.ini_ok (OwH.fact c 65 rfl)).2⟩, of_decide_eq_true (OwH.fact c 66 rfl), F32⟩, of_decide_eq_true (OwH.fact c 67 rfl)⟩,
    one_okQ (OwH.fact c 72 rfl) (OwH.fact c 74 rfl) (OwH.fact c 76 rfl), all2_ok (OwH.fact c 78 rfl), He.noat_ok (OwH.fact c 79 rfl), He.noat_ok (OwH.fact c 80 rfl), He.noat_ok (OwH.fact c 81 rfl), He.noat_ok (OwH.fact c 84 rfl), He.noat_ok (OwH.fact c 85 rfl),
    (He.glo_ok X G (OwH.fact c 29 rfl)), (He.glo_ok X G (OwH.fact c 30 rfl)), (He.glo_ok X G (OwH.fact c 31 rfl)), (He.glo_ok X G (OwH.fact c 32 rfl)), (He.glo_ok X G (OwH.fact c 33 rfl)), He.mkr_ok (OwH.fact c 73 rfl), He.mkr_ok (OwH.fact c 75 rfl), He.mkr_ok (OwH.fact c 77 rfl),
    OwH.propAt_ok (OwH.fact c 82 rfl), OwH.propAt_ok (OwH.fact c 83 rfl), OwH.propAt_ok (OwH.fact c 86 rfl), OwH.propAt_ok (OwH.fact c 87 rfl),
    OwH.read_ok (OwH.fact c 88 rfl), OwH.cfun_ok (OwH.fact c 89 rfl), OwH.read_ok (OwH.fact c 90 rfl), OwH.cfun_ok (OwH.fact c 91 rfl),
    ⟨_, F33⟩, ⟨_, F34⟩, ⟨_, F35⟩, ⟨_, F36⟩, ⟨_, F37⟩, ⟨_, F38⟩, ⟨_, F39⟩, ⟨_, F40⟩, ⟨_, F41⟩, ⟨_, F42⟩, ⟨_, F43⟩, ⟨_, F44⟩, ⟨_, F45⟩, ⟨_, F46⟩, ⟨_, F47⟩,
    ⟨_, _, (He.glo_ok X G (OwH.fact c 4 rfl)), F4⟩, ⟨_, _, (He.glo_ok X G (OwH.fact c 3 rfl)), F3⟩, ⟨_, _, (He.glo_ok X G (OwH.fact c 5 rfl)), F5⟩, ⟨_, _, (He.glo_ok X G (OwH.fact c 6 rfl)), F6⟩, (He.free_ok X G (OwH.fact c 53 rfl)), (He.free_ok X G (OwH.fact c 54 rfl))⟩,
    ⟨OwH.err_ok (OwH.fact c 68 rfl), OwH.err_ok (OwH.fact c 64 rfl), of_decide_eq_true (OwH.fact c 70 rfl), of_decide_eq_true (OwH.fact c 71 rfl), of_decide_eq_true (OwH.fact c 66 rfl), of_decide_eq_true (OwH.fact c 67 rfl), (He.glo_ok X G (OwH.fact c 36 rfl)), (He.glo_ok X G (OwH.fact c 40 rfl)), (He.glo_ok X G (OwH.fact c 34 rfl)), of_decide_eq_true (OwH.fact c 92 rfl), of_decide_eq_true (OwH.fact c 93 rfl), of_decide_eq_true (OwH.fact c 94 rfl)⟩,
    ⟨(He.free_ok X G (OwH.fact c 41 rfl)), (He.free_ok X G (OwH.fact c 44 rfl)), (He.free_ok X G (OwH.fact c 51 rfl)), (He.free_ok X G (OwH.fact c 49 rfl))⟩, (He.free_ok X G (OwH.fact c 52 rfl)), (He.free_ok X G (OwH.fact c 47 rfl)), (He.free_ok X G (OwH.fact c 49 rfl)), ⟨He.cls_ok (OwH.fact c 96 rfl), He.noat_ok (OwH.fact c 98 rfl), He.noat_ok (OwH.fact c 99 rfl), He.noat_ok (OwH.fact c 100 rfl), OwH.methAt_ok (OwH.fact c 101 rfl), OwH.methAt_ok (OwH.fact c 102 rfl), OwH.methAt_ok (OwH.fact c 103 rfl), OwH.methAt_ok (OwH.fact c 104 rfl), OwH.methAt_ok (OwH.fact c 105 rfl), OwH.methAt_ok (OwH.fact c 106 rfl), OwH.methAt_ok (OwH.fact c 107 rfl)⟩, OwH.methAt_ok (OwH.fact c 108 rfl), He.mkr_ok (OwH.fact c 97 rfl), (He.glo_ok X G (OwH.fact c 35 rfl)), ⟨OwH.err_ok (OwH.fact c 68 rfl), (He.glo_ok X G (OwH.fact c 36 rfl)), (OwH.ini_ok (OwH.fact c 69 rfl)).1, (OwH.ini_ok (OwH.fact c 69 rfl)).2⟩, ⟨_, F49⟩,
    ⟨_, F50⟩, ⟨_, F51⟩, ⟨_, F52⟩, ⟨_, F53⟩, ⟨_, F54⟩, ⟨_, F55⟩, ⟨_, F56⟩, ⟨_, F57⟩, ⟨_, F58⟩,
    OwH.cmet_ok (OwH.fact c 95 rfl), ⟨_, F48⟩, of_decide_eq_true (OwH.fact c 109 rfl),
    ⟨_, _, (He.glo_ok X G (OwH.fact c 7 rfl)), F7⟩, ⟨_, _, (He.glo_ok X G (OwH.fact c 8 rfl)), F8⟩, ⟨_, _, (He.glo_ok X G (OwH.fact c 9 rfl)), F9⟩, ⟨_, _, (He.glo_ok X G (OwH.fact c 10 rfl)), F10⟩, ⟨_, _, (He.glo_ok X G (OwH.fact c 11 rfl)), F11⟩, ⟨_, _, (He.glo_ok X G (OwH.fact c 12 rfl)), F12⟩, ⟨_, _, (He.glo_ok X G (OwH.fact c 13 rfl)), F13⟩, ⟨_, _, (He.glo_ok X G (OwH.fact c 14 rfl)), F14⟩, ⟨_, _, (He.glo_ok X G (OwH.fact c 15 rfl)), F15⟩, ⟨_, _, (He.glo_ok X G (OwH.fact c 16 rfl)), F16⟩, ⟨_, _, (He.glo_ok X G (OwH.fact c 17 rfl)), F17⟩, ⟨_, _, (He.glo_ok X G (OwH.fact c 18 rfl)), F18⟩, ⟨_, _, (He.glo_ok X G (OwH.fact c 19 rfl)), F19⟩, ⟨_, _, (He.glo_ok X G (OwH.fact c 20 rfl)), F20⟩, ⟨_, _, (He.glo_ok X G (OwH.fact c 21 rfl)), F21⟩, ⟨_, _, (He.glo_ok X G (OwH.fact c 22 rfl)), F22⟩, ⟨_, _, (He.glo_ok X G (OwH.fact c 23 rfl)), F23⟩, ⟨_, _, (He.glo_ok X G (OwH.fact c 24 rfl)), F24⟩, ⟨_, _, (He.glo_ok X G (OwH.fact c 25 rfl)), F25⟩, ⟨_, _, (He.glo_ok X G (OwH.fact c 26 rfl)), F26⟩⟩
theorem ends {P : Program} {w : World} {K : PySem.W.Frag} {h : Heap} {mg : Str → Option Value} {f : Addr} (X : K.In h) (G : h.Ns mainGlobals mg) (hf : mg ("law" : Str) = some (.ref f)) (c : OwH.SaysT theFacts theDefs theTabs h K) :
    ∃ (K : PySem.W.Frag) (fd : FuncData) (cs : List (Addr × Addr)) (sp : Sp), K.In h ∧ (∀ e ∈ cs, h.get? e.2 = some OwR.tabO) ∧ (∀ e ∈ cs, K.lookup e.2 = none) ∧ (∀ e ∈ cs, PySem.W.CodeHd h e.1 e.2) ∧
      (∀ (s : Shared) (u : Value), BindsTo s fd ⟨[u], []⟩ [("_law_script", u)]) ∧ (∀ (G : Hp) (a : Addr) (zs : List Int), zs.length ≤ 63 → (∀ e ∈ cs, G e.2 = some (.tbl #[])) → SqL K G a (zs.map V.int) → sp [.ref a] G (fun v _ => v = .bl true) fun _ _ _ => False) ∧
      ∀ base : Heap, K.In base → base.Ns mainGlobals mg → (∀ e ∈ cs, LamX.TabB base mg e.1 e.2) → OwR.FnG P w K mg base CX0 14 f fd ["_law_script"] sp := by
  obtain ⟨fdM, FM⟩ := OwH.def_ c.see 27 rfl
  obtain ⟨fdL, FL⟩ := OwH.def_ c.see 28 rfl
  have e := hf.symm.trans (He.glo_ok X G (OwH.fact c.see 28 rfl))
  cases e
  have kpM := FM.kp
  have kpL := FL.kp
  obtain ⟨ocM, odM, kVM, docM, pmM, anM, cdvM, ctM, oslM, rfl, lkM, hcdM⟩ := FM.ex
  obtain ⟨ocL, odL, kVL, docL, pmL, anL, cdvL, ctL, oslL, rfl, lkL, hcdL⟩ := FL.ex
  obtain ⟨cM, rfl⟩ := He.codeIn_ref hcdM
  obtain ⟨cL, rfl⟩ := He.codeIn_ref hcdL
  have ecM : (OwH.cTab K (OwH.ga K "_law_read_right")).1 = cM := OwH.codA_eq lkM rfl
  have ecL : (OwH.cTab K (OwH.ga K "law")).1 = cL := OwH.codA_eq lkL rfl
  have ne : (OwH.cTab K (OwH.ga K "_law_read_right")).2 ≠ (OwH.cTab K (OwH.ga K "law")).2 := of_decide_eq_true (OwH.fact c.see 110 rfl)
  have memM : (fun K => OwH.ga K "_law_read_right") ∈ theTabs := List.mem_cons_self
  have memL : (fun K => OwH.ga K "law") ∈ theTabs := List.mem_cons_of_mem _ List.mem_cons_self
  have two : ∀ {p : Addr × Addr → Prop}, p (OwH.cTab K (OwH.ga K "_law_read_right")) → p (OwH.cTab K (OwH.ga K "law")) → ∀ e ∈ [OwH.cTab K (OwH.ga K "_law_read_right"), OwH.cTab K (OwH.ga K "law")], p e := fun {p} h1 h2 e he => by
    simp only [List.mem_cons, List.not_mem_nil, or_false] at he
    rcases he with rfl | rfl
    · exact h1
    · exact h2
  refine ⟨K, PySem.W.fnOf "law" "law" (defArgs sLaw) (defBody sLaw) (defScope sLaw) .none kVL docL pmL anL (.ref cL) ctL, [OwH.cTab K (OwH.ga K "_law_read_right"), OwH.cTab K (OwH.ga K "law")], spLaw K [((OwH.cTab K (OwH.ga K "_law_read_right")).2, qRR), ((OwH.cTab K (OwH.ga K "law")).2, qLaw)], X, two (c.empty _ memM) (c.empty _ memL), two (c.out _ memM) (c.out _ memL), two (PySem.W.codeHd_of_K X (c.hd _ memM)) (PySem.W.codeHd_of_K X (c.hd _ memL)), fun s v => .of_eq rfl, fun G a zs hz ht sq => ⟨a, zs, rfl, sq, hz, fun e he => ?_, fun _ => rfl⟩, fun base hK hN hT => ?_⟩
  · simp only [List.mem_cons, List.not_mem_nil, or_false] at he
    rcases he with rfl | rfl
    · exact LamX.TabS.nil (ht _ List.mem_cons_self)
    · exact LamX.TabS.nil (ht _ (List.mem_cons_of_mem _ List.mem_cons_self))
  · have TBM := hT _ List.mem_cons_self
    have TBL := hT _ (List.mem_cons_of_mem _ List.mem_cons_self)
    rw [ecM] at TBM
    rw [ecL] at TBL
    refine ok_all (facts (P := P) (w := w) (base := base) X G c.see) ⟨He.glo_ok X G (OwH.fact c.see 27 rfl), kpM, lkM, hcdM, TBM, List.mem_cons_self, fun e he h => ?_⟩ ⟨He.glo_ok X G (OwH.fact c.see 28 rfl), kpL, lkL, hcdL, TBL, List.mem_cons_of_mem _ List.mem_cons_self, fun e he h => ?_⟩
    · simp only [List.mem_cons, List.not_mem_nil, or_false] at he
      rcases he with rfl | rfl
      · rfl
      · exact absurd h.symm ne
    · simp only [List.mem_cons, List.not_mem_nil, or_false] at he
      rcases he with rfl | rfl
      · exact absurd h ne
      · rfl

end K10
open PySem PySem.W PySem.Calls PyProof.Rows
theorem PySem.Challenge.cw_nextkind_k20_quotas_written_and_read_holds : PySem.Challenge.rw_nextkind_k20_quotas_written_and_read.Holds := by
  w_on; o_law
  refine HandSHeadRun.head_any (r := K10.Rw) (q := view K10.Rw.prog [47]) (H := K10.hk) (ob := K10.ob) (M := 14000) (loose := K10.names) (d := HandSHeadRun.topDef K10.Rw.prog 47) (kwd := []) K10.ob_eq
    (by kernel_rfl) (fun s => by kernel_rfl) K10.run (by kernel_rfl) (by kernel_rfl) (by kernel_rfl) (by rfl) (by first | assumption | decide +kernel) (by decide +kernel) ⟨rfl, rfl, rfl, rfl, rfl, by decide +kernel⟩ ?hw ?hc
  case hw => w_witness2
  case hc =>
    refine OwR.walk_ofTG (l := PySem.Challenge.rw_nextkind_k20_quotas_written_and_read) (n := 63) (k := 14) (x := "_law_script") rfl (by decide) (by kernel_rfl) ⟨rfl, by decide, by decide⟩ ?_
    intro w mg fn h Y G hmg
    obtain ⟨K, X, c⟩ := Y
    have en : (HandSHeadRun.topDef K10.Rw.prog 47).name = ("law" : PySem.Str) := by kernel_rfl
    rw [en] at hmg
    exact K10.ends (P := PySem.Challenge.rw_nextkind_k20_quotas_written_and_read.prog) (w := w) X G hmg c
end
