import PyProof.Rows.All
import Wide.All
import OpenK.AllK
import Wide.FinOn
import KE.KStateDown
import Lean
import HandS.HeadHook3
import HandS.HeadHook4
import HandS.Base
import HandS.Call
import HandS.Ends
import HandS.Lambda
import HandS.EndBits
import HandS.EndTab
import HandS.ForMost
import HandS.More
import HandS.Exc
import HandS.Star
import HandS.ClsMeth
import HandS.MakeKwOnly
import HandS.Style
import HandS.TupAny
import KE.GoesMore
import KE.GoesEnum
import HandS.Words
import HandS.Property
import HandS.Head0
import HandS.Head1
import HandS.Head2
import HandS.HeadEnd
import HandS.HeadHook1
import HandS.HeadHook2
import KE.KExcIs
import PyProof.CallFns
import HandS.ExcInit
import HandS.ExcField
import HandS.IsInst
import HandS.RaiseMore
import KE.KOpsOwn
import HandS.TryOnly
import HandS.Codes
import HandS.Wide
import HandS.NoneIn
import HandS.Walk
import HandS.Iter
import HandS.DictComp
import KE.KDictList
import PyProof.Rows.StrMeet
import PyProof.ReprBulk
import HandS.Set
import HandS.SetFor
import HandS.Strs
import HandS.TryMany
import KE.KOwnIter
import PyProof.TupleIter
import PyProof.WalksMore
import HandS.IterVal
import HandS.OwnIter
import PyProof.StrOps2
import HandS.Text
import HandS.Dict
import HandS.List
import HandS.ForExc
import HandS.WordsExc
import HandS.FStr
import KE.KFmtOwn
import KE.IntTextText
import PyProof.StrLawsTight
import PyProof.StrLawsChain
import PyProof.Rows.StrItems
import HandS.StrMore
import PyProof.Rows.StrAscii2
import KE.IntTextLaws
import HandS.Defaults
import HandS.ExcValue
import KE.KCallOwn
import PyProof.SliceList
import KE.KEqNest
import PyProof.P3Eq
import PyProof.EqKinds
import PyProof.NeKinds
import PyProof.EqAt
import KE.KEqDict
import PySem.Challenge.RW_nextkind_k06_houses_written_and_read
set_option Elab.async false
set_option linter.all false
set_option maxRecDepth 100000
set_option maxHeartbeats 0
section
/-! Rules for what an own class defines: o[i] by its __getitem__, a def of a class called off the class, a static method, cls(*xs), an object called by a keyword. -/
namespace OwR
open PySem PySem.Spec PyProof.Rows L2
/-- the class at C has the def at g as its special method nm -/
structure Spc (K : PySem.W.Frag) (C g : Addr) (nm : Str) : Prop where
  at_ : PySem.W.findIn K (.ref C) nm = some (some (.ref g))
  fn : PySem.W.isFn K (.ref g) = true
  fi : PySem.W.fnIn K g = true
section
variable {X : Cx} {CX : CXT} {k i : Nat} {C f g p : Addr} {mc : Value} {sp : Sp} {E : XK} {a b o e : Expr} {es : List Expr} {m x : Str} {ta tb te : TE} {t tk : TA} {pos apos q1 q2 : Pos} {pins : List (Addr × Obj)} {σ : L2.St} {H : Hp} {s : Shared}
/-- a promise kept one step further in -/
theorem run_in {Q : VK} {us : List Value} {vs : List V} (F : FnR X.prog X.w X.K X.mg X.base CX k g sp) (hr : Room (k + 1) X.A) (hx : Passes CX X E) (I : Inv X pins σ H s) (r : Vals vs us) (h : sp vs H Q E) :
    wpAny (model X.prog X.w) X.A.in1 (call (.ref g) us) (EP X pins σ Q) X.xe s := by
  refine wpAny_call (codeAny_mono (F X.A.in1 X.stack s H us vs Q E hr.in1 I.env0.in1 r h) fun r s' hq => ?_)
  cases r with
  | error er => exact hx pins σ H s er s' I hq
  | ok fl =>
    cases fl with
    | ret u => exact I.after hq
    | next => exact False.elim hq
    | brk => exact False.elim hq
    | cont => exact False.elim hq
/-! ### o[i] -/
def tItem (C : Addr) (sp : Sp) (E : XK) (ta tb : TE) : TE := fun σ H Q => ta σ H fun x H1 => tb σ H1 fun y H2 => ∃ p dx fs, x = .ref p ∧ H2 p = some (.ins C dx fs) ∧ sp [.ref p, y] H2 Q E
theorem pe_item (c : Spc X.K C g "__getitem__") (F : FnR X.prog X.w X.K X.mg X.base CX k g sp) (hr : Room (k + 1) X.A) (hx : Passes CX X E) (ha : PE X a ta) (hb : PE X b tb)
    (hsl : ∀ (z : Addr) (v : Value), subscripted b true (.ref z) v = runValue (.builtin "lifetime.subscript" ⟨[.ref z, v], []⟩) := by intros; rfl) : PE X (.Subscript a b pos) (tItem C sp E ta tb) := by
  refine ⟨fun pins s σ H Q I h => ?_⟩
  refine Subscript_ (binT ha hb I h fun v u s2 x y H2 I2 rx ry q => ?_)
  obtain ⟨p, dx, fs, ex, ep, hq⟩ := q
  subst ex
  obtain rfl : v = Value.ref p := rx
  obtain ⟨ox, od, J, _⟩ := StX.insC_at I2 (.inr ⟨dx, fs, ep⟩)
  have KI := I2.kIn
  have hfi := c.fi
  unfold PySem.W.fnIn at hfi
  split at hfi
  · rename_i hg
    unfold subscriptTail getitemInPython
    refine wpAny_bind (wpAny_bind (wpAny_bind (J.type.here ((PySem.W.looks_findIn KI c.at_).here ?_))))
    dsimp only
    refine wpAny_bind (wpAny_load (KI _ _ hg) (wpAny_pure ?_))
    dsimp only
    rw [hsl]
    refine wpAny_bind (wpAny_runValue (codeAny_builtin PySem.W.entry_sub ?_))
    unfold Builtin.«lifetime.subscript»
    refine wpAny_bind (PySem.W.special_fn KI J c.at_ (beq_iff_eq.mp c.fn) (wpAny_mono (run_in (us := [Value.ref p, u]) (vs := [V.ref p, y]) F hr hx I2 (.cons rfl (.cons ry .nil)) hq) (fun v' s' z => ?_) fun _ _ z => z))
    refine wpAny_pure ?_
    show wpAny _ X.A (letTemporaryGo a (.ref p) v' >>= fun _ => pure v') _ _ s'
    exact wpAny_bind (wpAny_letTemporaryGo (wpAny_pure z))
  · cases hfi
/-! ### C.m(e, ..), m a plain def of the class -/
structure CFun (K : PySem.W.Frag) (C : Addr) (mc : Value) (m : Str) (g : Addr) : Prop where
  at_ : PySem.W.findCls K (.ref C) mc m = some (.val (.ref g))
  kp : PySem.W.keepIn K (.ref g) = true
def tCFun (C : Addr) (sp : Sp) (E : XK) (ta : TE) (t : TA) : TE := fun σ H Q => ta σ H fun x H1 => x = .ref C ∧ t σ H1 fun vs H2 => sp vs H2 Q E
theorem pe_cfun {pl : Sem Bool} (he : PE X o ta) (r : ClX.CRead X.K C mc) (c : CFun X.K C mc m g) (F : FnR X.prog X.w X.K X.mg X.base CX k g sp) (hr : Room k X.A) (hx : Passes CX X E) (ha : PA X (e :: es) t)
    (hst : starEach (e :: es) X.env = (false, eval e X.env) :: starEach es X.env := by rfl) (hpl : (backTo pos (starEach es X.env)).any (·.1) = false := by rfl)
    (ht : eval (.Call (.Attribute o m apos) (e :: es) [] pos) X.env = (do
      let ov ← eval o X.env
      standAt apos.atName
      let (f, first) ← holding [ov] (getMethod ov m pl)
      callWith pos f first (backTo pos (starEach (e :: es) X.env)) (backToKw pos (keywordEach [] X.env))) := by rfl) :
    PE X (.Call (.Attribute o m apos) (e :: es) [] pos) (tCFun C sp E ta t) := by
  refine ⟨fun pins s σ H Q I h => ?_⟩
  refine PySem.W.methodCall_KW (pl := pl) (thn (he.run pins s σ H _ I h) fun u s1 ⟨x, H1, I1, rx, ex, q⟩ => ?_) ht
  subst ex
  obtain rfl : u = Value.ref C := rx
  refine PySem.W.method_cls I1.kIn r.ga (PySem.W.cls_value I1.kIn r.rd c.at_ rfl ?_)
  refine PySem.W.callWith_K (first := []) (h₀ := X.base) I1.ok.mod.kin c.kp (thn (ha.run pos pins _ σ H1 _ (I1.tok _) q) fun us s2 ⟨vs, H2, I2, rv, q2⟩ => ⟨I2.kIn, ?_⟩) hst hpl
  exact wpAny_call (run_fnR F hr hx I2 rv q2)
/-! ### C.m(), m a static method -/
structure CSta (K : PySem.W.Frag) (C : Addr) (mc : Value) (m : Str) (p g : Addr) : Prop where
  at_ : PySem.W.findCls K (.ref C) mc m = some (.get (.builtin "staticmethod.__get__") (.ref p) .none (.ref C))
  rc : ∃ rest, PySem.W.recIn K p "staticmethod" = some (.ref g :: rest)
  kp : PySem.W.keepIn K (.ref g) = true
theorem pe_csta0 {pl : Sem Bool} (he : PE X o ta) (r : ClX.CRead X.K C mc) (c : CSta X.K C mc m p g) (F : FnR X.prog X.w X.K X.mg X.base CX k g sp) (hr : Room k X.A) (hx : Passes CX X E)
    (ht : eval (.Call (.Attribute o m apos) [] [] pos) X.env = (do
      let ov ← eval o X.env
      standAt apos.atName
      let (f, first) ← holding [ov] (getMethod ov m pl)
      callWith pos f first (backTo pos (starEach [] X.env)) (backToKw pos (keywordEach [] X.env))) := by rfl) :
    PE X (.Call (.Attribute o m apos) [] [] pos) (tCFun C sp E ta tNil) := by
  refine ⟨fun pins s σ H Q I h => ?_⟩
  refine PySem.W.methodCall_KW (pl := pl) (thn (he.run pins s σ H _ I h) fun u s1 ⟨x, H1, I1, rx, ex, q⟩ => ?_) ht
  subst ex
  obtain rfl : u = Value.ref C := rx
  obtain ⟨rest, hrec⟩ := c.rc
  refine PySem.W.method_cls I1.kIn r.ga (PySem.W.cls_bind I1.kIn r.rd c.at_ ?_)
  refine wpAny_call (PySem.W.sm_get (s := { s1 with toks := s1.toks + 1 }) I1.kIn hrec (PySem.W.handed_on rfl ?_))
  have I2 := I1.tok (s1.toks + 1)
  exact PySem.W.callWith_K0 (first := []) I2.kIn c.kp (wpAny_call (run_fnR (us := []) F hr hx I2 .nil q))
/-! ### cls(*xs), cls a slot that holds the class -/
def tMakeLS (K : PySem.W.Frag) (i : Nat) (C : Addr) (sp : Sp) (E : XK) (te : TE) : TE := fun σ H Q => σ[i]? = some (some (.ref C)) ∧ te σ H fun y H1 => ∃ a xs, y = V.ref a ∧ (SqT K H1 a xs ∨ SqL K H1 a xs) ∧
  ∀ z dz, H1 z = none → H1 dz = none → dz ≠ z → sp (V.ref z :: xs) (upd (upd H1 dz (.own z)) z (.ins C dz [])) (fun v H2 => v = .non ∧ Q (.ref z) H2) E
theorem pe_makeLS (M : Mk X.K C f) (F : FnR X.prog X.w X.K X.mg X.base CX k f sp) (hr : Room (k + 1) X.A) (hN : X.N[i]? = some x) (hv : Vis X.env.scope x) (hx : Passes CX X E) (he : PE X e te)
    (hdb : (x == ("__debug__" : Str)) = false := by decide) (hcd : (x == ("__classdict__" : Str)) = false := by decide) (hst : starEach [.Starred e q1] X.env = [(true, eval e X.env)] := by rfl) :
    PE X (.Call (.Name x q2) [.Starred e q1] [] pos) (tMakeLS X.K i C sp E te) := by
  refine ⟨fun pins s σ H Q I h => ?_⟩
  obtain ⟨hs, ht⟩ := h
  refine wpAny_Call_Name_kw (thn ((pe_var (pos := q2) hN hv hdb hcd).run pins s σ H (fun v H1 => v = .ref C ∧ H1 = H) I ⟨.ref C, hs, rfl, rfl⟩) fun u s1 ⟨v, H1, I1, r1, e1⟩ => ?_)
  obtain ⟨rfl, rfl⟩ := e1
  cases r1
  refine PySem.W.callWith_S (h₀ := X.base) (first := []) I1.ok.mod.kin M.kp (thn (he.run pins s1 σ _ _ I1 ht) fun v s2 ⟨y, H2, I2, ry, a, xs, ey, hxs, q⟩ => ?_) hst
  subst ey
  obtain rfl : v = Value.ref a := ry
  exact StX.star_any I2 hxs fun us s3 I3 rv => ⟨I3.kIn, StX.run_makeR M F hr hx I3 rv q⟩
end
end OwR
end
section
namespace OwR
open PySem PySem.Spec PyProof.Rows L2
open AutoSeq1 (wpAny_loadPart')
/-! ### enumerate(t), t a tuple -/
theorem meets_enumT {v : Value} {o : Obj} {G : Heap → Prop} (B : Begins v o G) :
    Meets (Builtin.«enumerate.__new__» ⟨[.type "enumerate", v], []⟩) (fun _ R s => G s.heap ∧
      R (.ok (.ret (.ref (s.heap.push o).objs.size))) { s with heap := (s.heap.push o).push { cls := .type "enumerate", data := .fields #[.none, .bool false, .ref s.heap.objs.size, rawInt 0, .none, .none] } }) :=
  .of_wp fun prog w A R s h => by
    obtain ⟨hp, g, d, tk, os⟩ := s; obtain ⟨h1, h⟩ := h
    have hsub := sub_enumerate
    have start : ∀ {A' : Around} {E : Value → Shared → Prop} {Q : Value → Shared → Prop}, Q (.ref hp.objs.size) ⟨hp.push o, g, d, tk, os⟩ → wpAny (model prog w) A' (pyIter v) Q E ⟨hp, g, d, tk, os⟩ :=
      fun q => B.iter prog w _ _ ⟨hp, g, d, tk, os⟩ _ h1 q
    wp_walk using start
    refine wpAny_stack_any fun st => wpAny_pure ?_
    split
    · rename_i c _ _ _ _ _
      cases (c == Value.type "enumerate")
      all_goals (wp_walk using start; exact ⟨_, rfl, h⟩)
    · wp_walk using start
      exact ⟨_, rfl, h⟩
section
variable {prog : Program} {w : World} {A : Around} {E : Value → Shared → Prop} {s : Shared}
theorem call_enumT {v : Value} {o : Obj} {G : Heap → Prop} {Q : Value → Shared → Prop} (B : Begins v o G) (h1 : G s.heap)
    (h : ∀ h', IsEnum h' (s.heap.objs.size + 1) s.heap.objs.size 0 .none → h'.get? s.heap.objs.size = some o → (∀ b x, s.heap.get? b = some x → h'.get? b = some x) → Q (.ref (s.heap.objs.size + 1)) { s with heap := h' }) :
    wpAny (model prog w) A (call (.type "enumerate") [v]) Q E s := by
  refine callType_new F.called_enumerate (by decide) (F.typeCall_enumerate_1 _) (F.newCall_enumerate_1 _) (fun obj => F.args_object_init_2 obj _) F.entry_enumerate_new (meets_enumT B) ⟨h1, ?_⟩
  have hz : (s.heap.push o).objs.size = s.heap.objs.size + 1 := Heap.size_push ..
  have he := Heap.get?_push_size (s.heap.push o) (o := { cls := .type "enumerate", data := .fields #[.none, .bool false, .ref s.heap.objs.size, rawInt 0, .none, .none] }) rfl
  rw [hz] at he
  show _ ∧ _
  rw [hz]
  exact ⟨⟨_, he, rfl⟩, h _ he (Heap.get?_push_of_some _ (Heap.get?_push_size _ B.free)) fun b x q => Heap.get?_push_of_some _ (Heap.get?_push_of_some _ q)⟩
end
/-- the tuple at a at each turn: its item in a new pair -/
def IteT (K : PySem.W.Frag) (a : Addr) : It :=
  ⟨fun i H => ∃ (xs : List V) (x : V), SqT K H a xs ∧ xs[i]? = some x, fun i H v H' => ∃ T x, v = .ref T ∧ H T = none ∧ H' = upd H T (.tup [.int (i : Nat), x]) ∧ ∀ xs, SqT K H a xs → xs[i]? = some x, fun i H => ∃ xs : List V, SqT K H a xs ∧ xs.length ≤ i⟩
theorem tup_one {X : Cx} {pins : List (Addr × Obj)} {σ : L2.St} {H : Hp} {s : Shared} {a : Addr} {xs ys : List V} (I : Inv X pins σ H s) (h : SqT X.K H a xs) (h' : SqT X.K H a ys) : xs = ys := by
  first | exact I.tup_inj h h' | exact I.tuple_inj h h'
theorem turn_enumT {P : Program} {w : World} {K : PySem.W.Frag} {elts : List Expr} {kk : Nat} {tpos : Pos} (a e it : Addr) (hane : a ≠ it) :
    Turn P w K (.Tuple elts kk tpos) (IteT K a) [e, it] e (fun i h => (∃ old, IsEnum h e it ((i : Nat) : Int) old) ∧ h.IsTupleIter it a i ∧ e ≠ it ∧ a ≠ e) where
  mem := by simp
  obj := fun i h st b hb => by
    obtain ⟨⟨old, he⟩, ⟨o, ho, hc, hd⟩, _⟩ := st
    rcases List.mem_cons.mp hb with z | z
    · rw [z]; exact ⟨_, he, fun v q => nomatch q⟩
    · rw [List.mem_singleton.mp z]; exact ⟨o, ho, fun v q => by rw [hd] at q; cases q⟩
  keep := fun i h h' st k => let ⟨⟨old, he⟩, hi, hne⟩ := st; ⟨⟨old, k e (by simp) _ he⟩, hi.at fun o q => k it (by simp) o q, hne⟩
  item := by
    intro X hP hw hK hc i pins s σ H E I hf st hg
    subst hP hw hK
    obtain ⟨⟨old, he⟩, hit, hne, hae⟩ := st
    obtain ⟨xs, x, hq, hx⟩ := hg
    obtain ⟨its, rv, p, hz⟩ := I.tuple hq
    obtain ⟨u, hu, ru⟩ := rv.get hx
    have hel : e < s.heap.objs.size := Heap.lt_size he
    have hil : it < s.heap.objs.size := by obtain ⟨_, q, _⟩ := hit; exact Heap.lt_size q
    have hlt : i < its.toArray.size := by
      rw [List.size_toArray]
      exact (List.getElem?_eq_some_iff.mp hu).1
    have D : Draws X.prog X.w X.A.in1 it [it, a] its.toArray.size _ _ := Draws.tuple (A := X.A.in1) (show X.A.in1.handled = none from I.ok.hd hc) it a hane its.toArray
    refine wpAny_pyNext_enum_itemD D he ⟨hit, p⟩ hlt hne (by simp [hne, Ne.symm hae]) fun y h' tk hy ho hst hT hsz hk => ?_
    have ey : y = u := by
      have q : its.toArray[i]? = some u := by simpa using hu
      exact Option.some.inj (hy.symm.trans q)
    subst ey
    refine ⟨_, rfl, wpAny_letOwnedTupleGo_enum (s := { s with heap := h', toks := tk + 1 }) ho fun h'' he' sb => ?_⟩
    have hT2 : h''.get? s.heap.objs.size = some { cls := .type "tuple", data := .seq #[.int i tk, y] } := (sb.2 _ (Nat.ne_of_gt hel)).trans hT
    have new : ObjOk X.prog X.w (upd H s.heap.objs.size (.tup [.int (i : Nat), x])) h'' s.heap.objs.size (.tup [.int (i : Nat), x]) :=
      ⟨by show 2 ≤ sizeLine; decide, [.int i tk, y], .cons ⟨_, rfl⟩ (.cons ru .nil), ⟨_, hT2, rfl, _, rfl⟩⟩
    have I1 : Inv X pins σ (upd H s.heap.objs.size (.tup [.int (i : Nat), x])) { s with heap := h'', toks := tk + 1 } :=
      I.turnedNew (ch := [e, it]) (fun b ob hb q => (sb.2 b (fun z => hb (by simp [z]))).trans (hk b ob (fun z => hb (by simp [z])) (fun z => hb (by simp [z])) q)) hf (Nat.le_refl _) new
    refine ⟨.ref s.heap.objs.size, _, I1, rfl, ⟨_, x, rfl, I.hok.fresh (Nat.le_refl _), rfl, fun ys hy' => by rw [tup_one I hy' hq]; exact hx⟩, ⟨⟨y, ?_⟩, hst.1.at fun o q => (sb.2 it (Ne.symm hne)).trans q, hne, hae⟩, fun b hb => ?_⟩
    · have e1 : ((i + 1 : Nat) : Int) = (i : Int) + 1 := by omega
      rw [e1]; exact he'
    · have hb' : b < s.heap.objs.size := by
        rcases List.mem_cons.mp hb with z | z
        · rw [z]; exact hel
        · rw [List.mem_singleton.mp z]; exact hil
      rw [upd_ne (Nat.ne_of_lt hb')]
      exact (hf b hb).1
  done := by
    intro X hP hw hK hc i pins s σ H E I hf st hg
    subst hP hw hK
    obtain ⟨⟨old, he⟩, hit, hne, hae⟩ := st
    obtain ⟨xs, hq, hx⟩ := hg
    obtain ⟨its, rv, p, hz⟩ := I.tuple hq
    obtain ⟨f0, f1, f2, f3, f4, f5⟩ := hf it (by simp)
    have hl := rv.length
    have hgt : its.toArray[i]? = none := by simp; omega
    unfold pyNext
    refine wpAny_bind (wpAny_attempt (wpAny_callSpecial?_slot (name := Str.ofString "__next__") ⟨_, he, rfl⟩ F.slot_enumerate_next
      (wpAny_call_entry F.slot_enumerate_next ⟨_, he, rfl⟩ F.entry_enumerate_next ?_ (F.args_enumerate_next_1 _))))
    show wpAny _ _ (field (.ref e) 2 >>= _) _ _ _
    refine wpAny_bind (wpAny_field he rfl (x := .ref it) rfl ?_)
    refine wpAny_bind (wpAny_nextOf_tuple_end (I.ok.hd hc) hit p hgt fun h' z he' hz' => ?_)
    obtain ⟨o, ho, hcl⟩ := hz'
    refine wpAny_bind (wpAny_isInstance (T := "StopIteration") (b := true) ⟨o, ho, hcl⟩ isSubtype_stop ?_)
    exact wpAny_pure ⟨rfl, I.turned (t' := s.toks) (fun b o hb q => he' b o hb q) f0 f1 f3 f4 f5⟩
  self := fun A i s Q E st h => let ⟨⟨_, he⟩, _⟩ := st; wpAny_pyIter_enum he h
def iEnumT (K : PySem.W.Frag) (ta : TA) : TI := fun σ H R => ta σ H fun vs H1 => ∃ a xs, vs = [.ref a] ∧ SqT K H1 a xs ∧ R (IteT K a) H1
theorem pi_enumT {X : Cx} {e : Expr} {ta : TA} {p pos tpos : Pos} {elts : List Expr} {kk : Nat} (hg : Gl X "enumerate") (hm : X.mg "enumerate" = none) (ha : PA X [e] ta) (hs : starEach [e] X.env = [(false, eval e X.env)] := by rfl) :
    PI X (.Tuple elts kk tpos) (.Call (.Name "enumerate" p) [e] [] pos) (iEnumT X.K ta) := by
  refine ⟨fun pins s σ H R I h => ?_⟩
  refine Call_ (ld_blt I hg hm boot_enumerate (PyProof.Rows.callWith_type1 (thn (ha.run pos pins s σ H _ I h) fun us s1 ⟨vs, H1, I1, r1, q1⟩ => ?_) hs rfl))
  obtain ⟨a, xs, ex, hq, q⟩ := q1
  subst ex
  cases r1 with
  | cons r rr =>
    cases rr
    cases r
    obtain ⟨its, rv, p', hz⟩ := I1.tuple hq
    have hal : a < s1.heap.objs.size := p'.lt
    refine call_enumT (begins_tuple a its.toArray) p' fun h' he hit hk => wpAny_pyIter_enum he ?_
    have I2 : Inv X pins σ H1 { s1 with heap := h' } := I1.kept (t' := s1.toks) hk
    refine ⟨s1.heap.objs.size + 1, [s1.heap.objs.size + 1, s1.heap.objs.size], _, _, H1, rfl, I2, turn_enumT a (s1.heap.objs.size + 1) s1.heap.objs.size (Nat.ne_of_lt hal),
      ⟨⟨.none, he⟩, ⟨_, hit, rfl, rfl⟩, Nat.succ_ne_self _, Nat.ne_of_lt (Nat.lt_succ_of_lt hal)⟩, fun b hb => ?_, q⟩
    have hle : s1.heap.objs.size ≤ b := by
      rcases List.mem_cons.mp hb with z | z
      · rw [z]; exact Nat.le_add_right _ _
      · rw [List.mem_singleton.mp z]; exact Nat.le_refl _
    exact I1.fpOk hle (I1.hok.fresh hle)
end OwR
end
section
namespace OwR
open PySem PySem.Spec PyProof.Rows L2
/-! ### t[::-1], t a tuple -/
theorem places_back (n : Nat) : Builtin.Slice.slicePlaces ((n : Int) - 1) (-1) (-1) = n := by
  unfold Builtin.Slice.slicePlaces
  rw [if_neg (by decide)]
  split
  · have e : ((n : Int) - 1 - -1 - 1) / (- -1) + 1 = (n : Int) := by
      rw [show (- -1 : Int) = 1 by decide, Int.ediv_one]
      omega
    rw [e]
    exact Int.toNat_natCast n
  · rename_i h
    have : n = 0 := by omega
    subst this
    rfl
theorem fm_same {α β : Type} {f g : α → Option β} : ∀ l : List α, (∀ x ∈ l, f x = g x) → l.filterMap f = l.filterMap g
  | [], _ => rfl
  | x :: l, h => by
    rw [List.filterMap_cons, List.filterMap_cons, h x List.mem_cons_self, fm_same l fun y hy => h y (List.mem_cons_of_mem _ hy)]
theorem pick_back (xs : Array Value) : ((List.range xs.size).filterMap fun (m : Nat) => xs[(((xs.size : Int) - 1) + (m : Int) * (-1)).toNat]?) = xs.toList.reverse := by
  rw [← PySem.W.krv_all xs, ← List.filterMap_reverse, ← PySem.W.krv_range, List.filterMap_map]
  refine fm_same _ fun m hm => ?_
  have hlt := List.mem_range.mp hm
  have e : (((xs.size : Int) - 1) + (m : Int) * (-1)).toNat = xs.size - 1 - m := by omega
  rw [e]
  rfl
section
variable {prog : Program} {w : World} {A : Around} {E : Value → Shared → Prop} {s : Shared}
theorem applied_back {sl : Addr} {vl vu vs : Value} {n : Nat} {Q : Int × Int × Nat → Shared → Prop} (hs : s.heap.IsSliceOf sl vl vu vs) (pl : IsPart vl none) (pu : IsPart vu none) (ps : IsPart vs (some (-1)))
    (h : Q ((n : Int) - 1, -1, n) s) : wpAny (model prog w) A (Builtin.Slice.sliceApplied (.ref sl) (pure (n : Int))) Q E s := by
  obtain ⟨os, hos, hcs, hds⟩ := id hs
  unfold Builtin.Slice.sliceApplied Builtin.Slice.sliceFields
  refine wpAny_bind (wpAny_bind (wpAny_field hos hds (x := vl) rfl (wpAny_bind (wpAny_field hos hds (x := vu) rfl (wpAny_bind (wpAny_field hos hds (x := vs) rfl (wpAny_pure ?_)))))))
  refine wpAny_bind (HT.slicePart_ ps ?_)
  show wpAny _ _ (if ((-1 : Int) == 0) = true then _ else _) _ _ s
  rw [if_neg (by decide)]
  refine wpAny_bind (HT.slicePart_ pl (wpAny_bind (HT.slicePart_ pu (wpAny_bind (wpAny_pure ?_)))))
  show wpAny _ _ (pure ((n : Int) - 1, (-1 : Int), Builtin.Slice.slicePlaces ((n : Int) - 1) (-1) (-1))) _ _ s
  rw [places_back]
  exact wpAny_pure h
theorem getTup_back {t sl : Addr} {items : Array Value} {vl vu vs : Value} {Q : Value → Shared → Prop} (ht : IsTup s.heap t items) (hs : s.heap.IsSliceOf sl vl vu vs) (pl : IsPart vl none) (pu : IsPart vu none) (ps : IsPart vs (some (-1)))
    (hsz : items.size ≤ sizeLine) (h : Q (.ref s.heap.objs.size) { s with heap := s.heap.push { cls := .type "tuple", data := .seq items.toList.reverse.toArray } }) : wpAny (model prog w) A (getItem (.ref t) (.ref sl)) Q E s := by
  obtain ⟨os, hos, hcs, hds⟩ := id hs
  have hTs : s.TypeIs (.ref sl) "slice" := ⟨os, hos, hcs⟩
  have hok : sizeOk (.seq items.toList.reverse.toArray) := by
    show items.toList.reverse.toArray.size ≤ sizeLine
    rw [List.size_toArray, List.length_reverse, Array.length_toList]
    exact hsz
  unfold getItem
  try with_reducible refine wpAny_holding ?_
  first | refine wpAny_bind (wpAny_pure ?_) | skip
  refine wpAny_bind (wpAny_sequenceKey ht.typeIs (by decide) ?_)
  refine wpAny_bind (wpAny_callSpecial?_slot (name := Str.ofString "__getitem__") ht.typeIs PyProof.Rows.slot_tuple_getitem
    (wpAny_call_entry PyProof.Rows.slot_tuple_getitem ht.typeIs entry_tuple_getitem ?_ (args_tuple_getitem _ _)))
  show wpAny _ _ (Builtin.Tuple.tupleItemsOf (.ref t) >>= _) _ _ s
  refine wpAny_bind (tupleItemsOf_ ht (wpAny_bind (wpAny_typeOf hTs ?_)))
  rw [if_pos (by decide)]
  refine wpAny_bind (applied_back hs pl pu ps ?_)
  have hno : ¬ ((((items.size : Int) - 1) == 0 && (-1 : Int) == 1 && items.size == items.size) = true) := by
    intro q
    rw [Bool.and_eq_true, Bool.and_eq_true] at q
    exact absurd q.1.2 (by decide)
  show wpAny _ _ (if ((((items.size : Int) - 1) == 0 && (-1 : Int) == 1 && items.size == items.size) = true) then _ else _) _ _ s
  rw [if_neg hno]
  have e := pick_back items
  first
    | (rw [e]; exact wpAny_bind (m := Builtin.Tuple.tupleExact _) (wpAny_newObj_type (wpAny_pure ⟨_, rfl, wpAny_pure h⟩) hok))
    | (rw [e]; exact wpAny_bind (m := Builtin.Tuple.tupleExact _) (wpAny_newObj_type (wpAny_bind (wpAny_pure (wpAny_pure ⟨_, rfl, wpAny_pure h⟩))) hok))
    | (rw [e]; exact wpAny_bind (wpAny_bind (m := Builtin.Tuple.tupleExact _) (wpAny_newObj_type (wpAny_pure (wpAny_pure ⟨_, rfl, wpAny_pure h⟩)) hok)))
    | (rw [e]; exact wpAny_bind (wpAny_bind (m := Builtin.Tuple.tupleExact _) (wpAny_newObj_type (wpAny_pure ⟨_, rfl, wpAny_pure h⟩) hok)))
end
def tRevT (K : PySem.W.Frag) (te : TE) : TE := fun σ H Q => te σ H fun x H1 => ∃ a xs, x = .ref a ∧ SqT K H1 a xs ∧ ∀ p, H1 p = none → Q (.ref p) (upd H1 p (.tup xs.reverse))
theorem pe_revT {X : Cx} {e : Expr} {te : TE} {k : Nat} {p1 p2 p3 pos : Pos} (he : PE X e te) : PE X (.Subscript e (.Slice none none (some (.UnaryOp .USub (.Constant (.int 1) k p1) p2)) p3) pos) (tRevT X.K te) := by
  refine ⟨fun pins s σ H Q I h => ?_⟩
  refine Subscript_ (thn (he.run pins s σ H _ I h) fun v s1 ⟨x, H1, I1, r1, a, xs, ex, hx, q⟩ => ?_)
  subst ex
  cases r1
  have hst : PO X (some (.UnaryOp .USub (.Constant (.int 1) k p1) p2)) (tPart (tUn (rU fun i => .int (-i)) (tC (.int 1)))) := po_some (pe_un un_neg pe_int)
  refine wpAny_Slice (thn (po_none.run pins s1 σ H1 (fun o H2 => o = none ∧ H2 = H1) I1 ⟨rfl, rfl⟩) fun vl s2 ⟨l, H2, I2, pl, el, e2⟩ => ?_)
  subst el e2
  refine thn (po_none.run pins s2 σ H2 (fun o H3 => o = none ∧ H3 = H2) I2 ⟨rfl, rfl⟩) fun vu s3 ⟨u, H3, I3, pu, eu, e3⟩ => ?_
  subst eu e3
  refine thn (hst.run pins s3 σ H3 (fun o H4 => o = some (-1) ∧ H4 = H3) I3 ⟨1, rfl, -1, rfl, rfl, rfl⟩) fun vs s4 ⟨o, H4, I4, ps, eo, e4⟩ => ?_
  subst eo e4
  have I5 : Inv X pins σ H4 { s4 with heap := s4.heap.push { cls := .type "slice", data := .fields #[vl, vu, vs] } } := I4.kept (t' := s4.toks) fun b ob q => Heap.get?_push_of_some _ q
  obtain ⟨its, r, ht, hz⟩ := I5.tuple hx
  have hlen := r.length
  show wpAny (model X.prog X.w) X.A (subscriptTail e (.Slice none none (some (.UnaryOp .USub (.Constant (.int 1) k p1) p2)) p3) (.ref a) (.ref s4.heap.objs.size)) (EP X pins σ Q) X.xe { s4 with heap := s4.heap.push { cls := .type "slice", data := .fields #[vl, vu, vs] } }
  refine tail_any (ops := [.ref a, .ref s4.heap.objs.size]) ht.typeIs (PyProof.Rows.slot_tuple_getitem.lookup) ?_ (by with_unfolding_all rfl)
  refine getTup_back ht (Heap.IsSliceOf.new _ vl vu vs) pl pu ps (by rw [List.size_toArray]; omega) ?_
  refine ⟨.ref _, _, I5.laid (t' := s4.toks) (o := .tup xs.reverse) (fun b ob q => Heap.get?_push_of_some _ q) (Nat.le_refl _) ?_, rfl, q _ (I5.hok.fresh (Nat.le_refl _))⟩
  exact ⟨by rw [List.length_reverse]; exact hz, its.toArray.toList.reverse, r.reverse, ⟨_, Heap.get?_push_size _ rfl, rfl, 0, rfl⟩⟩
end OwR
end
section
namespace OwR
open PySem PySem.Spec PyProof.Rows L2
/-! ### def f(a, .., **d), called without keywords: an empty dict beside -/
section
variable {CX : CXT} {P : Program} {w : World} {K : PySem.W.Frag} {mg : Str → Option Value} {base : Heap} {k : Nat} {f : Addr} {name qual : Str} {params : Arguments} {body : List Stmt} {scope : Scope} {dV kV doc pm cdv ct oc : Value} {an od : Option Addr}
  {osl : Array (Option Value)} {N ps : List Str} {sp : Sp}
theorem fn_kw {pd : Str} (lk : K.lookup f = some ⟨oc, od, .func (PySem.W.fnOf name qual params body scope dV kV doc pm an cdv ct), osl⟩) (hcd : PySem.W.codeIn K cdv qual = true) (S : FnScope N (ps ++ [pd]) scope) (hCX : StX.CXUp CX)
    (hb : ∀ us : List Value, us.length = ps.length → bindArgs (PySem.W.fnOf name qual params body scope dV kV doc pm an cdv ct) ⟨us, []⟩ = ((alloc ({ cls := .type "dict", data := .dict #[] } : Obj) : Sem Addr) >>= fun d => pure (ps.zip us ++ [(pd, Value.ref d)])))
    (hbody : ∀ (A : Around) (outer : List Env) (s : Shared) (H : Hp) (vs : List V) (Q : VK) (E : XK), Room k (A.deeper (envOfC qual scope s.heap.objs.size f cdv)) → sp vs H Q E →
      ∃ t, PSs (cxOf CX P w K mg base N qual scope f cdv A outer s H E) body t ∧ t { nx := fun _ H' => Q .non H', rt := Q } (start N vs) H) :
    FnR P w K mg base CX (k + 1) f (fun vs H Q E => vs.length = ps.length ∧ ∀ d, H d = Option.none → sp (vs ++ [V.ref d]) (upd H d (.dK [])) Q E) := by
  intro A outer s H us vs Q E hr e0 r hsp
  obtain ⟨hl, hq⟩ := hsp
  have hn : H s.heap.objs.size = Option.none := e0.hok.fresh (Nat.le_refl _)
  have hl1 : us.length = ps.length := by rw [← r.length]; exact hl
  refine StX.run_bnd lk hcd S hr e0 (G := fun xs H2 => ∃ d, H d = Option.none ∧ xs = vs ++ [V.ref d] ∧ H2 = upd H d (.dK [])) (fun A' Ex Q' h => ?_) fun s2 H2 xs ⟨d, hd, ex, eH⟩ hr' => ?_
  · rw [hb us hl1]
    refine wpAny_bind (wpAny_alloc (wpAny_pure ?_))
    have e1 := StX.env0_laid (u := .dK []) (o := ({ cls := .type "dict", data := .dict #[] } : Obj)) e0 (dk_empty _ (StX.env0_big e0))
    have un := StX.un_laid (fs := frs outer) (s := s) (o := ({ cls := .type "dict", data := .dict #[] } : Obj)) (u := .dK []) hn
    have z := h _ _ (vs ++ [V.ref s.heap.objs.size]) (us ++ [Value.ref s.heap.objs.size]) e1 un rfl (fun e s' => hCX outer s H _ _ E e s' un (fun b o q => Heap.get?_push_of_some _ q) rfl) (r.append (.cons rfl .nil))
      (by rw [List.length_append, List.length_append, hl] <;> rfl) ⟨_, hn, rfl, rfl⟩
    rw [List.zip_append hl1.symm] at z
    exact z
  · subst ex eH
    exact hbody A outer s2 _ _ Q E hr' (hq d hd)
/-! ### a def called where no guard stands (repr of lists wants that) -/
def FnG (P : Program) (w : World) (K : PySem.W.Frag) (mg : Str → Option Value) (base : Heap) (CX : CXT) (k : Nat) (f : Addr) (fd : FuncData) (ps : List Str) (sp : Sp) : Prop :=
  ∀ (A : Around) (outer : List Env) (s : Shared) (H : Hp) (args : Args) (us : List Value) (vs : List V) (Q : VK) (E : XK), A.guards = some [] → Room k A → Env0 P w K mg base A outer s H → BindsTo s fd args (ps.zip us) → Vals vs us → sp vs H Q E →
    codeAny (model P w) A (.call (.ref f) args) (CR CX outer P w H s Q E) s
theorem fn_ofG (lk : K.lookup f = some ⟨oc, od, .func (PySem.W.fnOf name qual params body scope dV kV doc pm an cdv ct), osl⟩) (hcd : PySem.W.codeIn K cdv qual = true) (S : FnScope N ps scope)
    (len : ∀ vs H Q E, sp vs H Q E → vs.length = ps.length)
    (hbody : ∀ (A : Around) (outer : List Env) (s : Shared) (H : Hp) (vs : List V) (Q : VK) (E : XK), A.guards = some [] → Room k (A.deeper (envOfC qual scope s.heap.objs.size f cdv)) → sp vs H Q E →
      ∃ t, PSs (cxOf CX P w K mg base N qual scope f cdv A outer s H E) body t ∧ t { nx := fun _ H' => Q .non H', rt := Q } (start N vs) H) :
    FnG P w K mg base CX (k + 1) f (PySem.W.fnOf name qual params body scope dV kV doc pm an cdv ct) ps sp := by
  intro A outer s H args us vs Q E hgd hr e0 hb r hsp
  have hl := len _ _ _ _ hsp
  have KS : K.In s.heap := e0.mod.kin.keeps fun b o e => (e0.bs b o e).1
  have lims : s.heap.NoLimit := e0.mod.nolimit.keeps fun b o e => (e0.bs b o e).1
  have kinds : ∀ y ∈ ps.zip us, scope.names.lookup y.1 = some .local ∨ (scope.names.lookup y.1 = some .cell ∧ ((cellsFrom (s.heap.objs.size + 1) scope.names []).lookup y.1).isSome = true) := fun y hy =>
    (S.par y.1 (List.of_mem_zip hy).1).imp id fun q => ⟨q, PySem.W.cellsFrom_some _ _ _ (.inl q)⟩
  refine codeAny_call_function hr.depth (KS _ _ lk) rfl S.co S.gen rfl (PySem.W.codeRec_of KS hcd) (hb _ _ _ _ ?_)
  refine wpAny_newFunctionEnv_cells S.kind kinds fun env he s1 x => ?_
  subst he
  refine ⟨lims.keeps x.toInCall.keep, codeAny_func ?_⟩
  obtain ⟨t, ht, hq⟩ := hbody A outer s H vs Q E hgd (hr.deeper _) hsp
  have I : Inv (cxOf CX P w K mg base N qual scope f cdv A outer s H E) [] (start N vs) H s1 := inv_start S hr.hd e0 hl r x
  refine wpAny_mono (ht.run [] s1 (start N vs) H _ I hq) (fun fl s' hs => ?_) fun _ _ z => z
  have done : ∀ {σ' : L2.St} {H' : Hp} {v : V} {u : Value}, Inv (cxOf CX P w K mg base N qual scope f cdv A outer s H E) [] σ' H' s' → RelV v u → Q v H' → CE outer P w H s Q u s' :=
    fun {σ' H' v u} J rv q => ⟨v, H', J.os, J.bare, J.base, J.hok, rv, q⟩
  cases fl with
  | ret u =>
    obtain ⟨v, σ', H', J, rv, q⟩ := hs
    exact done J rv q
  | next =>
    obtain ⟨σ', H', J, q⟩ := hs
    exact done (v := V.non) (u := Value.none) J rfl q
  | brk => exact (hs.elim fun _ z => z.elim fun _ z => z.2.elim)
  | cont => exact (hs.elim fun _ z => z.elim fun _ z => z.2.elim)
end
/-! ### repr of data -/
def rReprD (K : PySem.W.Frag) : List V → Hp → VK → Prop := fun vs H Q => ∃ a d, vs = [V.ref a] ∧ Dp K H (.ref a) d ∧ d.showable = true ∧ d.hasDict = false ∧ d.depth ≤ 64 ∧ d.shown.length ≤ sizeLine ∧ Q (.str d.shown) H
theorem cr_reprD {X : Cx} (hg : X.A.guards = some []) (hu : X.A.units + 70 < cLine) : CallR X (.builtin "repr") (rReprD X.K) := by
  intro pins s σ H vs us Q I r h
  obtain ⟨a, d, rfl, hd, hs, hnd, hdp, hsz, q⟩ := h
  rw [Vals.ref1 r]
  obtain ⟨as, R⟩ := Dp.reads I d _ (.ref a) hd rfl
  refine repr_of_reads' R hs (fun z => by rw [hnd] at z; cases z) hg (by omega) (fun _ _ e => e) (fun h' u tk k => ?_) hsz
  exact ⟨.str d.shown, H, I.kept (t' := tk) k, ⟨u, rfl⟩, q⟩
/-! ### an object called with keywords alone -/
theorem callOK_of {M : Model} {A : Around} {E : Value → Shared → Prop} {s : Shared} {a : Addr} {pos : Pos} {Q : Value → Shared → Prop} {args : List (Bool × Sem Value)} {kws : List (Option Str × Sem Value)} (hpl : (args.any (·.1) || kws.any (·.1.isNone)) = false)
    (h : wpAny M A (evalArgs (.ref a) true args kws) (fun z s₁ => (∃ C ox od, PySem.W.InstAt s₁.heap a ox C od ∧ ox.data = .plain) ∧ wpAny M A (call (.ref a) ([] ++ z.pos) z.kw) Q E s₁) E s) : wpAny M A (callWith pos (.ref a) [] args kws) Q E s := by
  unfold callWith
  refine wpAny_bind (wpAny_holding (wpAny_mono h (fun z s₂ h₁ => wpAny_bind (wpAny_standAt ?_)) fun _ _ y => y))
  obtain ⟨⟨C, ox, od, J, hd⟩, h₂⟩ := h₁
  have L := PySem.W.kco_keeper (M := M) J hd
  simp only [hpl]
  refine wpAny_bind (L.here ?_)
  have rest : ∀ {t : Sem Value}, wpAny M A t Q E s₂ → wpAny M A (t >>= fun r => holding [r] point >>= fun _ => pure r) Q E s₂ :=
    fun ht => wpAny_bind (wpAny_mono ht (fun _ _ hr => wpAny_bind (wpAny_holding (wpAny_point (wpAny_pure hr)))) fun _ _ y => y)
  exact rest (wpAny_operateT h₂)
section
variable {X : Cx} {CX : CXT} {k : Nat} {C g : Addr} {fd : FuncData} {ps ks : List Str} {sp : Sp} {E : XK} {fe : Expr} {kws : List Keyword} {tf : TE} {tk : TA} {pos : Pos} {gg : List Value → List Value → List Value} {gV : List V → List V → List V}
def tCallOK (X : Cx) (C : Addr) (sp : Sp) (gV : List V → List V → List V) (E : XK) (tf : TE) (tk : TA) : TE := fun σ H Q => tf σ H fun y H1 => ∃ a, y = V.ref a ∧ tk σ H1 fun zs H2 => StX.InsC X H2 a C ∧ sp (gV [V.ref a] zs) H2 Q E
theorem pe_callOK (hf : PE X fe tf) (c : StX.CallO X.K C g) (F : FnOk X.prog X.w X.K X.mg X.base CX k g fd ps sp) (hr : Room k X.A) (hb : KBinds X.K fd ps ks gg gV) (hx : Passes CX X E) (hkw : PK X kws tk)
    (ht : eval (.Call fe [] kws pos) X.env = (do callWith pos (← eval fe X.env) [] (backTo pos (starEach [] X.env)) (backToKw pos (keywordEach kws X.env))) := by rfl)
    (hall : (backToKw pos (keywordEach kws X.env)).all (·.1.isSome) = true := by rfl) (hks : (backToKw pos (keywordEach kws X.env)).filterMap (·.1) = ks := by rfl)
    (hpl : ((backTo pos (starEach [] X.env)).any (·.1) || (backToKw pos (keywordEach kws X.env)).any (·.1.isNone)) = false := by rfl) : PE X (.Call fe [] kws pos) (tCallOK X C sp gV E tf tk) := by
  refine ⟨fun pins s σ H Q I h => ?_⟩
  rw [ht]
  refine wpAny_bind (thn (hf.run pins s σ H _ I h) fun u s1 ⟨y, H1, I1, ry, a, ey, q⟩ => ?_)
  subst ey
  obtain rfl : u = Value.ref a := ry
  refine callOK_of hpl (evalArgs_kw2_nil hall (thn (hkw.run pos pins s1 σ H1 _ I1 q) fun ws s2 ⟨zs, H2, I2, rz, hi, q2⟩ => ?_))
  obtain ⟨ox, od, J, hd⟩ := StX.insC_at I2 hi
  refine ⟨⟨C, ox, od, J, hd⟩, ?_⟩
  rw [hks]
  have r1 : Vals [V.ref a] [Value.ref a] := .cons rfl .nil
  have r2 := hb.rel r1 rz
  have hl : (gg [Value.ref a] ws).length = ps.length := by rw [← r2.length]; exact F.len _ _ _ _ q2
  refine wpAny_call (PySem.W.kco_code I2.kIn J hd c.at_ c.fn c.fi (codeAny_mono (F.run X.A X.stack s2 H2 ⟨[.ref a], ks.zip ws⟩ (gg [.ref a] ws) (gV [.ref a] zs) Q E hr I2.env0 (hb.to s2 [.ref a] ws I2.kIn hl) r2 q2) fun r s' hq => ?_))
  cases r with
  | error e => exact hx pins σ H2 s2 e s' I2 hq
  | ok fl =>
    cases fl with
    | ret u => exact I2.after hq
    | next => exact False.elim hq
    | brk => exact False.elim hq
    | cont => exact False.elim hq
end
end OwR
end
section
/-! Own: a law by a promise that wants no guard about it, where lambdas are made: with the tables of the code that makes them. -/
namespace OwR
open PySem PySem.Spec PyProof.Rows L2
abbrev tabO : Obj := { cls := .none, data := .fields #[] }
/-- what is followed: the script where the written part does not hold it, the tables -/
def scrT (K : PySem.W.Frag) (a : Addr) (ob : Obj) (xs : List V) (ts : List Addr) : Hp := fun b => if b = a then (if K.lookup a = none then some (.frz ob (.lst xs)) else none) else if b ∈ ts then some (.tbl #[]) else none
theorem scrT_cases (K : PySem.W.Frag) (a : Addr) (ob : Obj) (xs : List V) (ts : List Addr) (b : Addr) : scrT K a ob xs ts b = none ∨ (b = a ∧ K.lookup a = none ∧ scrT K a ob xs ts b = some (.frz ob (.lst xs))) ∨ (b ≠ a ∧ b ∈ ts ∧ scrT K a ob xs ts b = some (.tbl #[])) := by
  unfold scrT
  by_cases c : b = a
  · rw [if_pos c]
    by_cases d : K.lookup a = none
    · rw [if_pos d]
      exact .inr (.inl ⟨c, d, rfl⟩)
    · rw [if_neg d]
      exact .inl rfl
  · rw [if_neg c]
    by_cases d : b ∈ ts
    · rw [if_pos d]
      exact .inr (.inr ⟨c, d, rfl⟩)
    · rw [if_neg d]
      exact .inl rfl
theorem law_callTG {P : Program} {w : World} {K : PySem.W.Frag} {mg mb : Str → Option Value} {k : Nat} {fn a : Addr} {cs : List (Addr × Addr)} {fd : FuncData} {x : Str} {sp : Sp} {t : Shared} {us : List Value} {zs : List Int} (hK : K.In t.heap) (hG : t.heap.Ns mainGlobals mg)
    (hB : t.heap.Ns builtinsNs mb) (hBB : ∀ y : Str, y ≠ "__name__" → mb y = bootBuiltins y) (hL : t.heap.NoLimit) (hN : t.gens = #[]) (hO : t.heap.get? a = some ({ cls := .type "list", data := .seq us.toArray } : Obj)) (hI : IntsAre us zs)
    (hT : ∀ e ∈ cs, t.heap.get? e.2 = some tabO) (hX : ∀ e ∈ cs, K.lookup e.2 = none) (hC : ∀ e ∈ cs, PySem.W.CodeHd t.heap e.1 e.2)
    (hM : ∃ (m : Addr) (mo : Obj), mg "__builtins__" = some (.ref m) ∧ m ≠ builtinsNs ∧ t.heap.get? m = some mo ∧ mo.cls = .type "module" ∧ mo.dict = some builtinsNs ∧ mo.data = .plain)
    (hz : zs.length ≤ sizeLine) (hr : Room k callerA) (F : ∀ base : Heap, K.In base → base.Ns mainGlobals mg → (∀ e ∈ cs, LamX.TabB base mg e.1 e.2) → FnG P w K mg base CX0 k fn fd [x] sp) (hb : ∀ (s : Shared) (u : Value), BindsTo s fd ⟨[u], []⟩ [(x, u)])
    (hS : ∀ G : Hp, (∀ e ∈ cs, G e.2 = some (.tbl #[])) → SqL K G a (zs.map V.int) → sp [.ref a] G (fun v _ => v = .bl true) fun _ _ _ => False) :
    codeAny (model P w) callerA (.call (.ref fn) ⟨[.ref a], []⟩) (fun r s' => r = .ok (.ret (.bool true)) ∧ OldK t.heap s'.heap ∧ s'.os = t.os ∧ AllBare s'.gens) t := by
  have rel := vals_ints hI
  have le := hI.length
  obtain ⟨ts, ets⟩ : ∃ ts, ts = cs.map (·.2) := ⟨_, rfl⟩
  have atT : ∀ b, b ∈ ts → t.heap.get? b = some tabO ∧ K.lookup b = none ∧ ∃ e ∈ cs, e.2 = b := fun b hb => by
    rw [ets] at hb
    obtain ⟨e, he, rfl⟩ := List.mem_map.mp hb
    exact ⟨hT e he, hX e he, e, he, rfl⟩
  have inT : ∀ e ∈ cs, e.2 ∈ ts := fun e he => by
    rw [ets]
    exact List.mem_map.mpr ⟨e, he, rfl⟩
  have aT : ∀ e ∈ cs, e.2 ≠ a := fun e he q => by
    have h := hT e he
    rw [q, hO] at h
    cases h
  obtain ⟨G, eG⟩ : ∃ G, G = scrT K a ({ cls := .type "list", data := .seq us.toArray } : Obj) (zs.map V.int) ts := ⟨_, rfl⟩
  have three : ∀ b, G b = none ∨ (b = a ∧ K.lookup a = none ∧ G b = some (.frz { cls := .type "list", data := .seq us.toArray } (.lst (zs.map V.int)))) ∨ (b ≠ a ∧ b ∈ ts ∧ G b = some (.tbl #[])) := fun b => by
    rw [eG]
    exact scrT_cases K a _ _ ts b
  have GT : ∀ e ∈ cs, G e.2 = some (.tbl #[]) := fun e he => by
    rw [eG]
    unfold scrT
    rw [if_neg (aT e he), if_pos (inT e he)]
  have sq : SqL K G a (zs.map V.int) := by
    cases l : K.lookup a with
    | some ob =>
      have e := (hK a ob l).symm.trans hO
      cases e
      exact .inr ⟨_, us.toArray, _, l, rfl, rfl, rfl, by rw [List.size_toArray, le]; exact hz, by simpa using rel⟩
    | none =>
      refine .inl (.inr ⟨({ cls := .type "list", data := .seq us.toArray } : Obj), ?_⟩)
      rw [eG]
      unfold scrT
      rw [if_pos rfl, if_pos l]
  have gone : ∀ {b : Addr} {ob : Obj}, t.heap.get? b = some ob → (∀ vs n, ob.data ≠ .seq vs n) → ob.data ≠ .fields #[] → G b = none := fun {b ob} e nd nf => by
    rcases three b with c | ⟨rfl, _, _⟩ | ⟨_, hb, _⟩
    · exact c
    · rw [hO] at e
      cases e
      exact absurd rfl (nd us.toArray 0)
    · rw [(atT b hb).1] at e
      cases e
      exact absurd rfl nf
  have nsp : ∀ {b : Addr} {m : Str → Option Value}, t.heap.Ns b m → (hidT t.heap G).Ns b m := fun {b m} h => by
    obtain ⟨ob, es, ep, e1, e2, e3⟩ := h
    exact ⟨ob, es, ep, hidT_get e1 (gone e1 (fun vs n q => by rw [e2] at q; cases q) fun q => by rw [e2] at q; cases q), e2, e3⟩
  have kin : K.In (hidT t.heap G) := fun b ob l => hidT_get (hK b ob l) (by
    rcases three b with c | ⟨rfl, c, _⟩ | ⟨_, hb, _⟩
    · exact c
    · rw [c] at l
      cases l
    · rw [(atT b hb).2.1] at l
      cases l)
  have lim : (hidT t.heap G).NoLimit := by
    obtain ⟨mc, h1, h2⟩ := hL
    exact ⟨mc, nsp h1, h2⟩
  have ok : HOk P w G t.heap := fun b u e => by
    rcases three b with c | ⟨rfl, _, c⟩ | ⟨_, hb, c⟩
    · rw [c] at e
      cases e
    · rw [c] at e
      cases e
      exact ⟨hO, by rw [List.length_map]; exact hz, us, _, rel, hO⟩
    · rw [c] at e
      cases e
      exact (atT b hb).1
  have env : Env0 P w K mg (hidT t.heap G) callerA [] t G := { frames := rfl, mod := ⟨kin, nsp hG, ⟨mb, nsp hB, hBB⟩, lim⟩, bs := fun _ _ e => of_hidT e, bsz := Nat.le_of_eq (hidT_size _ _), funs := True.intro, frf := fun _ h => absurd h List.not_mem_nil, hok := ok, bare := .of_eq hN }
  have TB : ∀ e ∈ cs, LamX.TabB (hidT t.heap G) mg e.1 e.2 := fun e he => by
    have hP := hT e he
    constructor
    · obtain ⟨co, cv, fi, tf, fl, tg, nf, tx, tt, q0, q1, q2, q3, q4, q5, q6, q7, q8, q9⟩ := hC e he
      have gc : G e.1 = none := gone q0 (fun vs n q => by rw [q2] at q; cases q) fun q => by
        rw [q2] at q
        cases q
        simp at q3
      exact ⟨co, cv, fi, tf, fl, tg, nf, tx, tt, hidT_get q0 gc, q1, q2, q3, q4, q5, q6, q7, q8, q9⟩
    · obtain ⟨m, mo, b1, b2, b3, b4, b5, b6⟩ := hM
      have n1 : m ≠ mainGlobals := fun q => by
        obtain ⟨o, es, ep, e1, e2, _⟩ := hG
        rw [q, e1] at b3
        cases b3
        rw [e2] at b6
        cases b6
      have n2 : m ≠ e.2 := fun q => by
        rw [q, hP] at b3
        cases b3
        cases b6
      have gm : G m = none := gone b3 (fun vs n q => by rw [b6] at q; cases q) fun q => by
        rw [b6] at q
        cases q
      exact ⟨m, mo, b1, b2, n1, n2, hidT_get b3 gm, b4, b5, b6⟩
    · intro q
      obtain ⟨o, es, ep, e1, e2, _⟩ := hG
      rw [q, hP] at e1
      cases e1
      cases e2
  have run := F (hidT t.heap G) kin (nsp hG) TB callerA [] t G ⟨[.ref a], []⟩ [.ref a] [.ref a] _ _ rfl hr env (hb t (.ref a)) (.cons rfl .nil) (hS G GT sq)
  refine codeAny_mono run fun r s' h => ?_
  match r, h with
  | .error _, h => exact h.elim
  | .ok (.ret u), h =>
    obtain ⟨v, G', os, br, un, ok', rv, qv⟩ := h
    have ev : v = .bl true := qv
    subst ev
    obtain rfl : u = Value.bool true := rv
    have kept : ∀ b ob, b ∉ ts → t.heap.get? b = some ob → s'.heap.get? b = some ob := fun b ob nb e => by
      rcases three b with c | ⟨rfl, _, c⟩ | ⟨_, hb, _⟩
      · exact un.keep b ob e c List.not_mem_nil List.not_mem_nil
      · have e2 := (ok' b _ (un.frzs b _ _ c)).1
        rw [hO] at e
        cases e
        exact e2
      · exact absurd hb nb
    have more : ∀ e ∈ cs, ∃ vs : Array Value, s'.heap.get? e.2 = some ({ cls := .none, data := .fields vs } : Obj) := fun e he => by
      obtain ⟨vs, q⟩ := un.tbls e.2 #[] (GT e he)
      exact ⟨_, ok' e.2 _ q⟩
    refine ⟨rfl, ⟨fun b ob e => ?_, fun b ob e => ?_⟩, os, br⟩
    · by_cases hb : b ∈ ts
      · obtain ⟨et, _, q, hq, rfl⟩ := atT b hb
        obtain ⟨vs, em⟩ := more q hq
        rw [et] at e
        cases e
        exact .inr (.inl ⟨((hC q hq).tab et).isCodeTable, rfl, #[], vs, rfl, by rw [Array.empty_append]; exact em⟩)
      · exact .inl (kept b ob hb e)
    · by_cases hb : b ∈ ts
      · obtain ⟨_, _, q, hq, rfl⟩ := atT b hb
        obtain ⟨vs, em⟩ := more q hq
        exact ⟨_, em⟩
      · exact ⟨ob, kept b ob hb e⟩
/-- .. as the end of a law over a head by facts -/
theorem walk_ofTG {l : PySem.W.OpenLaw} {n k : Nat} {q : Program} {loose : List Str} {XP : (Str → Option Value) → Heap → Prop} {YP : World → Heap → Prop} {d : DefRec} {x : Str} (most : l.most = some n) (small : n ≤ sizeLine) (nodf : d.params.defaults = []) (room : Room k callerA)
    (F : ∀ (w : World) (mg : Str → Option Value) (fn : Addr) (h : Heap), YP w h → h.Ns mainGlobals mg → mg d.name = some (.ref fn) → ∃ (K : PySem.W.Frag) (fd : FuncData) (cs : List (Addr × Addr)) (sp : Sp), K.In h ∧ (∀ e ∈ cs, h.get? e.2 = some tabO) ∧ (∀ e ∈ cs, K.lookup e.2 = none) ∧ (∀ e ∈ cs, PySem.W.CodeHd h e.1 e.2) ∧
      (∀ (s : Shared) (u : Value), BindsTo s fd ⟨[u], []⟩ [(x, u)]) ∧ (∀ (G : Hp) (a : Addr) (zs : List Int), zs.length ≤ n → (∀ e ∈ cs, G e.2 = some (.tbl #[])) → SqL K G a (zs.map V.int) → sp [.ref a] G (fun v _ => v = .bl true) fun _ _ _ => False) ∧
      ∀ base : Heap, K.In base → base.Ns mainGlobals mg → (∀ e ∈ cs, LamX.TabB base mg e.1 e.2) → FnG l.prog w K mg base CX0 k fn fd [x] sp) :
    PySem.W.WalkO q loose XP YP l.row.toRowW d [] (fun f vs => PySem.call f vs) := by
  refine Att.attach_callB most nodf fun w s0 t mg mb fn o pm cd doc a us zs G Y _ _ _ hmg hO hI hz _ hN => ?_
  obtain ⟨K, fd, cs, sp, hK, hT, hX, hC, hb, hS, hF⟩ := F w mg fn _ Y G.T.g hmg
  exact law_callTG hK G.T.g G.T.b G.T.builtins G.T.nolimit hN hO hI hT hX hC G.T.bmain (Nat.le_trans hz small) room hF hb fun G' g sq => hS G' a zs hz g sq
end OwR
end
section
/-! What the end of the top says of named classes, of the records in them and of their defs. Own. -/
namespace OwH
open PySem PySem.Spec PyProof.Rows L2
/-- the def within a record (a class method, a static one, a property) -/
def inRec (K : PySem.W.Frag) (p : Addr) (kind : String) : Addr := match PySem.W.recIn K p kind with
  | some (.ref g :: _) => g
  | _ => 0
def recOk (K : PySem.W.Frag) (p : Addr) (kind : String) : Bool := match PySem.W.recIn K p kind with
  | some (.ref _ :: _) => true
  | _ => false
theorem recOk_ok {K : PySem.W.Frag} {p : Addr} {kind : String} (h : recOk K p kind = true) : ∃ rest, PySem.W.recIn K p kind = some (.ref (inRec K p kind) :: rest) := by
  unfold recOk at h
  unfold inRec
  cases e : PySem.W.recIn K p kind with
  | none =>
    rw [e] at h
    cases h
  | some l =>
    rw [e] at h
    match l, h with
    | .ref g :: r, _ => exact ⟨r, rfl⟩
def getB (x : Option PySem.W.CFound) (id : String) (p C : Addr) : Bool := match x with
  | some (.get (.builtin i) (.ref q) .none (.ref D)) => decide (i = id) && (decide (q = p) && decide (D = C))
  | _ => false
theorem getB_ok {x : Option PySem.W.CFound} {id : String} {p C : Addr} (h : getB x id p C = true) : x = some (.get (.builtin id) (.ref p) .none (.ref C)) := by
  unfold getB at h
  split at h
  · obtain ⟨h1, h2⟩ := Bool.and_eq_true_iff.mp h
    obtain ⟨h3, h4⟩ := Bool.and_eq_true_iff.mp h2
    rw [of_decide_eq_true h1, of_decide_eq_true h3, of_decide_eq_true h4]
  · cases h
def valB (x : Option PySem.W.CFound) (g : Addr) : Bool := match x with
  | some (.val (.ref q)) => decide (q = g)
  | _ => false
theorem valB_ok {x : Option PySem.W.CFound} {g : Addr} (h : valB x g = true) : x = some (.val (.ref g)) := by
  unfold valB at h
  split at h
  · rw [of_decide_eq_true h]
  · cases h
abbrev ga := He.ga
/-- what the class named x holds under m -/
def mo (K : PySem.W.Frag) (x m : Str) : Addr := He.ma K (ga K x) m
def fRead (x : Str) (K : PySem.W.Frag) : Bool := PySem.W.readsIn K (ga K x) (.type "type") && He.eqO (PySem.W.specialIn K (.ref (ga K x)) "__getattribute__") (some (some (.builtin "type.__getattribute__")))
def fCMet (x m : Str) (K : PySem.W.Frag) : Bool := getB (PySem.W.findCls K (.ref (ga K x)) (.type "type") m) "classmethod.__get__" (mo K x m) (ga K x) && (recOk K (mo K x m) "classmethod" && PySem.W.fnIn K (inRec K (mo K x m) "classmethod"))
def fCSta (x m : Str) (K : PySem.W.Frag) : Bool := getB (PySem.W.findCls K (.ref (ga K x)) (.type "type") m) "staticmethod.__get__" (mo K x m) (ga K x) && (recOk K (mo K x m) "staticmethod" && PySem.W.keepIn K (.ref (inRec K (mo K x m) "staticmethod")))
def fCFun (x m : Str) (K : PySem.W.Frag) : Bool := valB (PySem.W.findCls K (.ref (ga K x)) (.type "type") m) (mo K x m) && PySem.W.keepIn K (.ref (mo K x m))
def fSpc (x m : Str) (K : PySem.W.Frag) : Bool := He.eqO (PySem.W.findIn K (.ref (ga K x)) m) (some (some (.ref (mo K x m)))) && (PySem.W.isFn K (.ref (mo K x m)) && PySem.W.fnIn K (mo K x m))
def fProp (x m : Str) (K : PySem.W.Frag) : Bool := He.eqO (PySem.W.findIn K (.ref (ga K x)) m) (some (some (.ref (mo K x m)))) && (He.eqO (PySem.W.specialIn K (.ref (mo K x m)) "__get__") (some (some (.builtin "property.__get__"))) && (decide (PySem.W.takesIn K (.ref (mo K x m)) = some true) && recOk K (mo K x m) "property"))
section
variable {K : PySem.W.Frag} {x m : Str}
theorem two {a b : Bool} (h : (a && b) = true) : a = true ∧ b = true := Bool.and_eq_true_iff.mp h
theorem read_ok (h : fRead x K = true) : ClX.CRead K (ga K x) (.type "type") := ⟨(two h).1, He.eqO_ok (two h).2⟩
theorem cmet_ok (h : fCMet x m K = true) : ClX.CMet K (ga K x) (.type "type") m (mo K x m) (inRec K (mo K x m) "classmethod") := ⟨getB_ok (two h).1, recOk_ok (two (two h).2).1, (two (two h).2).2⟩
theorem csta_ok (h : fCSta x m K = true) : OwR.CSta K (ga K x) (.type "type") m (mo K x m) (inRec K (mo K x m) "staticmethod") := ⟨getB_ok (two h).1, recOk_ok (two (two h).2).1, (two (two h).2).2⟩
theorem cfun_ok (h : fCFun x m K = true) : OwR.CFun K (ga K x) (.type "type") m (mo K x m) := ⟨valB_ok (two h).1, (two h).2⟩
theorem spc_ok (h : fSpc x m K = true) : OwR.Spc K (ga K x) (mo K x m) m := ⟨He.eqO_ok (two h).1, (two (two h).2).1, (two (two h).2).2⟩
theorem callo_ok (h : fSpc x "__call__" K = true) : StX.CallO K (ga K x) (mo K x "__call__") := ⟨He.eqO_ok (two h).1, (two (two h).2).1, (two (two h).2).2⟩
theorem prop_ok (h : fProp x m K = true) : PropOf K (ga K x) m (mo K x m) (inRec K (mo K x m) "property") := ⟨He.eqO_ok (two h).1, He.eqO_ok (two (two h).2).1, of_decide_eq_true (two (two (two h).2).2).1, recOk_ok (two (two (two h).2).2).2⟩
end
/-! ### defs -/
structure DX where
  adr : PySem.W.Frag → Addr
  name : Str
  qual : Str
  st : Stmt
  dfl : List He.Dv
abbrev FX : Type := Option (Str × Str × Arguments × FuncBody × Scope × Addr × List (Str × Addr) × Value × Addr)
/-- a def; its defaults, where none stand (else they are asked by dflB) -/
def seeF (K : PySem.W.Frag) (a : Addr) (b : Bool) : FX := match K.lookup a with
  | some ⟨_, _, .func fd, _⟩ => some (fd.name, fd.qualname, fd.params, fd.body, fd.scope, fd.globals, fd.closure, (match b with | true => fd.defaults | false => .none), fd.builtins)
  | _ => none
def dflF (K : PySem.W.Frag) (a : Addr) (ds : List He.Dv) : Bool := match ds with
  | [] => true
  | d :: r => (match K.lookup a with
    | some ⟨_, _, .func fd, _⟩ => He.dflB K fd.defaults ((d :: r).map (He.Dv.v K))
    | _ => false)
def codB (K : PySem.W.Frag) (a : Addr) (qual : Str) : Bool := PySem.W.keepIn K (.ref a) && (match K.lookup a with
  | some ⟨_, _, .func fd, _⟩ => PySem.W.codeIn K fd.code qual
  | _ => false)
def DX.val (d : DX) : FX := some (d.name, d.qual, defArgs d.st, .stmts (defBody d.st), defScope d.st, mainGlobals, [], .none, builtinsNs)
def DX.see (K : PySem.W.Frag) (d : DX) : FX := seeF K (d.adr K) d.dfl.isEmpty
def DX.okB (K : PySem.W.Frag) (d : DX) : Bool := codB K (d.adr K) d.qual && dflF K (d.adr K) d.dfl
theorem DX.funD_ {K : PySem.W.Frag} {d : DX} (hd : d.dfl ≠ []) (h1 : d.see K = d.val) (h0 : d.okB K = true) : ∃ fd, FunD K d.name d.qual (defArgs d.st) (defBody d.st) (defScope d.st) (d.dfl.map (He.Dv.v K)) [] (d.adr K) fd := by
  obtain ⟨h2, hf⟩ := two h0
  obtain ⟨kp, cd⟩ := two h2
  unfold DX.see seeF at h1
  unfold dflF at hf
  rw [show d.dfl.isEmpty = false by cases hq : d.dfl <;> first | exact absurd hq hd | rfl] at h1
  cases hdl : d.dfl with
  | nil => exact absurd hdl hd
  | cons x r =>
    rw [hdl] at hf
    cases l : K.lookup (d.adr K) with
    | none =>
      rw [l] at cd
      cases cd
    | some ob =>
      obtain ⟨oc, od, dt, osl⟩ := ob
      dsimp only at hf
      rw [l] at h1 cd hf
      match dt, h1, cd, hf with
      | .func f, h1, cd, hf =>
        obtain ⟨a1, a2, a3, a4, a5, a6, a7, a8, a9, a10, a11, a12, a13, a14, a15⟩ := f
        have e : (some (a1, a2, a3, a4, a5, a6, a7, (.none : Value), a15) : FX) = some (d.name, d.qual, defArgs d.st, .stmts (defBody d.st), defScope d.st, mainGlobals, [], .none, builtinsNs) := h1
        injection e with e
        injection e with e1 e
        injection e with e2 e
        injection e with e3 e
        injection e with e4 e
        injection e with e5 e
        injection e with e6 e
        injection e with e7 e
        injection e with e8 e9
        subst e1 e2 e3 e4 e5 e6 e7 e9
        exact ⟨_, ⟨⟨oc, od, a8, a9, a10, a11, a12, a13, a14, osl, rfl, l, cd, He.dflB_ok hf, .inl rfl⟩, kp⟩⟩
theorem DX.fun_ {K : PySem.W.Frag} {d : DX} (hd : d.dfl = []) (h1 : d.see K = d.val) (h0 : d.okB K = true) : ∃ fd, Fun K d.name d.qual d.st (d.adr K) fd := by
  obtain ⟨h2, _⟩ := two h0
  obtain ⟨kp, cd⟩ := two h2
  unfold DX.see at h1
  rw [hd] at h1
  unfold seeF at h1
  cases l : K.lookup (d.adr K) with
  | none =>
    rw [l] at cd
    cases cd
  | some ob =>
    obtain ⟨oc, od, dt, osl⟩ := ob
    rw [l] at h1 cd
    match dt, h1, cd with
    | .func f, h1, cd =>
      obtain ⟨a1, a2, a3, a4, a5, a6, a7, a8, a9, a10, a11, a12, a13, a14, a15⟩ := f
      have e : (some (a1, a2, a3, a4, a5, a6, a7, a8, a15) : FX) = some (d.name, d.qual, defArgs d.st, .stmts (defBody d.st), defScope d.st, mainGlobals, [], .none, builtinsNs) := h1
      injection e with e
      injection e with e1 e
      injection e with e2 e
      injection e with e3 e
      injection e with e4 e
      injection e with e5 e
      injection e with e6 e
      injection e with e7 e
      injection e with e8 e9
      subst e1 e2 e3 e4 e5 e6 e7 e8 e9
      exact ⟨_, ⟨⟨oc, od, a9, a10, a11, a12, a13, a14, osl, rfl, l, cd⟩, kp⟩⟩
/-! ### the hook -/
abbrev AX : Type := Bool × List FX
def seeX (fa : List (PySem.W.Frag → Bool)) (fn : List DX) (K : PySem.W.Frag) : AX := ((fa.all fun f => f K) && fn.all fun d => d.okB K, fn.map fun d => d.see K)
def wantX (fn : List DX) : AX := (true, fn.map DX.val)
def placesX (xs : List Str) (g : Addr → Option Obj) : Nat → List Addr
  | 0 => (xs.map (ga (He.frG g [mainGlobals])))
  | n + 1 => He.growD g (placesX xs g n)
def partX (xs : List Str) (g : Addr → Option Obj) : PySem.W.Frag := He.frG g (mainGlobals :: PySem.cStatics :: placesX xs g 4)
def hookX (xs : List Str) (fa : List (PySem.W.Frag → Bool)) (fn : List DX) : PySem.W.Hook where
  α := AX
  obs := fun s => seeX fa fn (partX xs s.heap.get?)
  val := fun _ => wantX fn
  says := fun _ h => ∃ K : PySem.W.Frag, K.In h ∧ seeX fa fn K = wantX fn
  of := fun _ _ e => ⟨partX xs _, He.frG_in, e⟩
  keeps := fun _ _ _ p k => match p with
    | ⟨K, hK, c⟩ => ⟨K, PySem.W.Frag.In.keeps hK k, c⟩
theorem seeX_eq {xs : List Str} {fa : List (PySem.W.Frag → Bool)} {fn : List DX} {g : Addr → Option Obj} {s : Shared} (h : ∀ a, g a = s.heap.get? a) : seeX fa fn (partX xs g) = (hookX xs fa fn).obs s := by
  have e : g = s.heap.get? := funext h
  subst e
  rfl
section
variable {fa : List (PySem.W.Frag → Bool)} {fn : List DX} {K : PySem.W.Frag}
theorem fact (c : seeX fa fn K = wantX fn) (i : Nat) {f : PySem.W.Frag → Bool} (h : fa[i]? = some f := by rfl) : f K = true :=
  List.all_eq_true.mp (two (congrArg Prod.fst c)).1 f (List.mem_of_getElem? h)
theorem def_ (c : seeX fa fn K = wantX fn) (i : Nat) {d : DX} (h : fn[i]? = some d := by rfl) (hd : d.dfl = [] := by rfl) : ∃ fd, Fun K d.name d.qual d.st (d.adr K) fd := by
  have h2 : d.okB K = true := List.all_eq_true.mp (two (congrArg Prod.fst c)).2 d (List.mem_of_getElem? h)
  have h3 : (fn.map fun d => d.see K)[i]? = (fn.map DX.val)[i]? := congrArg (fun z : AX => z.2[i]?) c
  rw [List.getElem?_map, List.getElem?_map, h] at h3
  exact DX.fun_ hd (Option.some.inj h3) h2
/-- a def with defaults -/
theorem defD_ (c : seeX fa fn K = wantX fn) (i : Nat) {d : DX} (h : fn[i]? = some d := by rfl) (hd : d.dfl ≠ [] := by simp) : ∃ fd, FunD K d.name d.qual (defArgs d.st) (defBody d.st) (defScope d.st) (d.dfl.map (He.Dv.v K)) [] (d.adr K) fd := by
  have h2 : d.okB K = true := List.all_eq_true.mp (two (congrArg Prod.fst c)).2 d (List.mem_of_getElem? h)
  have h3 : (fn.map fun d => d.see K)[i]? = (fn.map DX.val)[i]? := congrArg (fun z : AX => z.2[i]?) c
  rw [List.getElem?_map, List.getElem?_map, h] at h3
  exact DX.funD_ hd (Option.some.inj h3) h2
end
end OwH
end
section
/-! Own: what a value's repr is; a caught error's class and fields. -/
namespace OwE
open PySem PySem.Spec PyProof.Rows L2
inductive RepV (K : PySem.W.Frag) (H : Hp) : V → Str → Prop where
  | non : RepV K H .non "None"
  | bl (b : Bool) : RepV K H (.bl b) (if b then "True" else "False")
  | int {i : Int} (h : i.natAbs.log2 < 1920) : RepV K H (.int i) (toString i)
  | str {z : Str} (h : (reprText z).length ≤ sizeLine) : RepV K H (.str z) (reprText z)
  | dat {a : Addr} {d : PyData} (h : Dp K H (.ref a) d) (hs : d.showable = true) (hn : d.hasDict = false) (hd : d.depth ≤ 64) (hz : d.shown.length ≤ sizeLine) : RepV K H (.ref a) d.shown
  | dic {a : Addr} (h : H a = some (.dK [])) : RepV K H (.ref a) (PyData.dict []).shown
def rRepr (K : PySem.W.Frag) : List V → Hp → VK → Prop := fun xs H Q => ∃ v r, xs = [v] ∧ RepV K H v r ∧ Q (.str r) H
theorem empty_reads {P : Program} {w : World} {H : Hp} {h : Heap} {a : Addr} (ok : HOk P w H h) (e : H a = some (.dK [])) : Reads h (.ref a) (.dict []) ([a] ++ []) ∧ a ≠ sysModules := by
  obtain ⟨_, ns, vs, kv, o, es, ep, h1, h2, h3, h4⟩ := (show ObjOk P w H h a (.dK []) from ok a _ e)
  refine ⟨?_, fun q => by rw [q] at ns; simp at ns⟩
  have ev : vs = [] := by
    cases kv
    rfl
  subst ev
  have ee : es.toList = [] := by
    have p := h4.2.1
    generalize es.toList = l at p
    cases p
    rfl
  exact Reads.dict h1 h2.1 h3 (by rw [ee]; exact .nil) (by rw [ee]; exact .nil)
theorem cr_repr {X : Cx} (hg : X.A.guards = some []) (hu : X.A.units + 70 < cLine) : CallR X (.builtin "repr") (rRepr X.K) := by
  intro pins s σ H xs us Q I r h
  obtain ⟨v, t, rfl, rep, q⟩ := h
  obtain ⟨u, rfl, rx⟩ := vals1 r
  cases rep with
  | non =>
    cases (show u = Value.none from rx)
    exact PySem.P.repr_of_none ⟨.str _, H, I.tok _, ⟨_, rfl⟩, q⟩
  | bl b =>
    cases (show u = Value.bool b from rx)
    exact PySem.P.repr_of_bool ⟨.str _, H, I.tok _, ⟨_, rfl⟩, q⟩
  | @int i hz =>
    obtain ⟨t, rfl⟩ := (show ∃ t, u = Value.int i t from rx)
    exact PySem.P.repr_of_int hz ⟨.str _, H, I.tok _, ⟨_, rfl⟩, q⟩
  | @str z hz =>
    obtain ⟨t, rfl⟩ := (show ∃ t, u = Value.str z t from rx)
    exact PySem.P.repr_of_str ⟨.str _, H, I.tok _, ⟨_, rfl⟩, q⟩ hz
  | @dat a d hd hs hn hp hz =>
    exact OwR.cr_reprD hg hu pins s σ H _ _ Q I (.cons rx .nil) ⟨a, d, rfl, hd, hs, hn, hp, hz, q⟩
  | @dic a e =>
    cases (show u = Value.ref a from rx)
    obtain ⟨R, ns⟩ := empty_reads I.hok e
    refine repr_of_reads' R (by decide) (fun _ m => ?_) hg (by show X.A.units + (PyData.depth (.dict []) + 1) < cLine; have : PyData.depth (.dict []) ≤ 60 := by decide +kernel
                                                               omega) (fun _ _ z => z) (fun h' u tk k => ?_) (by decide +kernel)
    · rw [List.append_nil, List.mem_singleton] at m
      exact ns m.symm
    · exact ⟨.str _, H, I.kept (t' := tk) k, ⟨u, rfl⟩, q⟩
/-- all that an own error class must say, so that its caught errors are asked -/
structure ErrC (K : PySem.W.Frag) (C : Addr) : Prop where
  ox : OexC K C
  xf : XfC K C
  ha : PySem.W.findIn K (.ref C) "__class__" = some (some (.builtin "object.__class__"))
  hn : PySem.W.specialIn K (.builtin "object.__class__") "__get__" = some (some (.builtin "getset_descriptor.__get__"))
  ht : PySem.W.takesIn K (.builtin "object.__class__") = some true
  hm : PySem.W.mroIn K C (.type "object") = some true
theorem OexC.cl {K : PySem.W.Frag} {C : Addr} (T : OexC K C) : (PySem.W.clsIn K C).isSome = true := by
  obtain ⟨nm, q, N, bs, bm, sn, sub, ab, col, dd, k0, k1, k2, k3, k5, hC, hbm⟩ := T.cls
  unfold PySem.W.clsIn
  rw [hC] <;> rfl
/-- isinstance of the error that the suite holds -/
def rIsE (K : PySem.W.Frag) (a : Addr) (cls : Value) (d : Option Addr) : List V → Hp → VK → Prop := fun xs H Q => ∃ (c : V) (u : Value) (C dd : Addr) (fs : List (Str × V)) (b : Bool), xs = [.ref a, c] ∧ ClsV c u ∧ cls = .ref C ∧ ErrC K C ∧ d = some dd ∧ H dd = some (.xd fs) ∧
  PySem.W.kitOne K (.ref C) u = some b ∧ Q (.bl b) H
theorem call_isE {X : Cx} {a : Addr} {cls : Value} {d : Option Addr} {oe : Obj} {pn : List (Addr × Obj)} (hz : Zc cls d oe) (hf : ∃ vs, oe.data = .fields vs) : CallR (X.suite a ((a, oe) :: pn)) (.builtin "isinstance") (rIsE X.K a cls d) := by
  intro pins s σ H xs us Q I r h
  obtain ⟨c, cv, C, dd, fs, b, rfl, hcv, rfl, T, rfl, ed, e, q⟩ := h
  obtain ⟨u1, u2, rfl, r1, r2⟩ := vals2 r
  cases (show u1 = Value.ref a from r1)
  have e2 := hcv.eq r2
  subst e2
  obtain ⟨hget, _⟩ := I.pin (a, oe) (List.mem_append.mpr (.inl List.mem_cons_self))
  obtain ⟨vs, hv⟩ := hf
  obtain ⟨mA, hns, hr⟩ := (show ObjOk X.prog X.w H s.heap dd (.xd fs) from I.hok dd _ ed)
  obtain ⟨od, ho, hl⟩ := lookIn_ns hns
  have J : PySem.W.InstAt s.heap a oe C (some od) := ⟨hget, hz.1, by unfold PySem.W.notCls; rw [hv] <;> rfl, by rw [hz.2]; exact ho⟩
  exact PySem.W.kia_one (PySem.W.kitx_exc (OexC.cl T.ox) T.xf.ga T.xf.gg T.xf.exC T.ha T.hn T.ht T.hm) I.kIn J e (fun z => nomatch z) fun tk => ⟨.bl b, H, I.tok tk, rfl, q⟩
/-- err.f of the error that the suite holds -/
def tXe (K : PySem.W.Frag) (a : Addr) (cls : Value) (d : Option Addr) (f : Str) (te : TE) : TE := fun σ H Q => te σ H fun x H1 => x = .ref a ∧ ∃ (C dd : Addr) (fs : List (Str × V)) (v : V), cls = .ref C ∧ ErrC K C ∧ PySem.W.findIn K (.ref C) f = some none ∧ d = some dd ∧ H1 dd = some (.xd fs) ∧ fs.lookup f = some v ∧ Q v H1
theorem pe_xe {X : Cx} {a : Addr} {oe : Obj} {cls : Value} {d : Option Addr} {pn : List (Addr × Obj)} {e : Expr} {te : TE} {pos : Pos} {n : Str} (hz : Zc cls d oe) (hf : ∃ vs, oe.data = .fields vs) (he : PE (X.suite a ((a, oe) :: pn)) e te) (hb : attributeBase e n X.env (eval e X.env) = eval e X.env := by rfl) :
    PE (X.suite a ((a, oe) :: pn)) (.Attribute e n pos) (tXe X.K a cls d n te) := by
  refine ⟨fun pins s σ H Q I h => ?_⟩
  refine attr_of hb (thn (he.run pins s σ H _ I h) fun u s1 hh => ?_)
  obtain ⟨x, H1, I1, rx, ex, C, dd, fs, v, ec, T, hno, ed, ea, l, q⟩ := hh
  subst ex ec ed
  obtain rfl : u = Value.ref a := rx
  obtain ⟨ha, _⟩ := I1.pin (a, oe) (List.mem_append_left _ List.mem_cons_self)
  obtain ⟨vs, hd⟩ := hf
  obtain ⟨mA, hns, hr⟩ := (show ObjOk X.prog X.w H1 s1.heap dd (.xd fs) from I1.hok dd _ ea)
  obtain ⟨od, ho, hl⟩ := lookIn_ns hns
  obtain ⟨u, hu, ru⟩ := RelO.some_of (v := v) (o := mA n) (by rw [← l]; exact hr n)
  have J : PySem.W.InstAt s1.heap a oe C (some od) := ⟨ha, hz.1, by unfold PySem.W.notCls; rw [hd] <;> rfl, by rw [hz.2]; exact ho⟩
  exact HandSPX.exc_get I1.kIn J T.xf.ga T.xf.gg T.xf.exC (PySem.W.findObj_own T.xf.hdC hno rfl (by rw [hl, hu])) (handed_of ru) ⟨v, H1, I1.tok _, ru, q⟩
/-! ### an error class with one field, with two -/
def spErr1 (K : PySem.W.Frag) (f : Str) : Sp := fun vs H Q _ => ∃ (a C : Addr) (v : V), vs = [.ref a, v] ∧ OexC K C ∧ PySem.W.findIn K (.ref C) f = some none ∧ H a = some (exo a C none) ∧
  ∀ dx, H dx = none → dx ≠ a → Q .non (upd (upd H dx (exd dx [(f, v)])) a (exo a C (some dx)))
theorem err_heap {H : Hp} {a d C : Addr} {fs : List (Str × V)} (ne : d ≠ a) (ha : H a = none) : upd (del (upd (upd (upd H a (exo a C none)) d (exd d fs)) a (exo a C (some d))) a) d (.xd fs) = upd H d (.xd fs) := by
  funext b
  by_cases h1 : b = d
  · rw [h1, upd_same, upd_same]
  · rw [upd_ne h1, upd_ne h1]
    by_cases h2 : b = a
    · rw [h2, del_same, ha]
    · rw [del_ne h2, upd_ne h2, upd_ne h1, upd_ne h2]
theorem mk_err1 {K : PySem.W.Frag} {C : Addr} {f : Str} {v : V} {H : Hp} {E : XK} (T : OexC K C) (hno : PySem.W.findIn K (.ref C) f = some none) (k : ∀ d, H d = none → E (.ref C) (some d) (upd H d (.xd [(f, v)]))) :
    ([v] : List V).length ≤ 1000 ∧ ∀ a, H a = none → spErr1 K f (.ref a :: ([v] ++ [])) (upd H a (exo a C none)) (fun v H2 => v = .non ∧ ∃ (d : Addr) (fs : List (Str × V)), H2 a = some (exo a C (some d)) ∧ H2 d = some (exd d fs) ∧ H d = none ∧ E (.ref C) (some d) (upd (del H2 a) d (.xd fs))) (fun _ _ _ => False) := by
  refine ⟨by show (1 : Nat) ≤ 1000; decide, fun a ha => ⟨a, C, v, rfl, T, hno, upd_same, fun dx hd ne => ⟨rfl, dx, [(f, v)], upd_same, by rw [upd_ne ne, upd_same], ?_, ?_⟩⟩⟩
  · rw [upd_ne ne] at hd
    exact hd
  · rw [err_heap ne ha]
    rw [upd_ne ne] at hd
    exact k dx hd
end OwE
end
section
/-! Own: what the end of the top says, with the tables of the code of some defs. -/
namespace OwH
open PySem PySem.Spec PyProof.Rows L2
def codA (K : PySem.W.Frag) (f : Addr) : Addr := match K.lookup f with
  | some ⟨_, _, .func fd, _⟩ => (match fd.code with
    | .ref c => c
    | _ => 0)
  | _ => 0
theorem codA_eq {K : PySem.W.Frag} {f c : Addr} {oc : Value} {od : Option Addr} {osl : Array (Option Value)} {fd : FuncData} (lk : K.lookup f = some ⟨oc, od, .func fd, osl⟩) (e : fd.code = .ref c) : codA K f = c := by
  unfold codA
  rw [lk]
  show (match fd.code with | .ref c => c | _ => 0) = c
  rw [e]
/-- the code of the def at f, its table -/
def cTab (K : PySem.W.Frag) (f : Addr) : Addr × Addr := (codA K f, He.tabOf K (codA K f))
def tabsOk (g : Addr → Option Obj) (tf : List (PySem.W.Frag → Addr)) (K : PySem.W.Frag) : Bool := tf.all fun f => PySem.W.codeHdIn K (cTab K (f K)).1 (cTab K (f K)).2 && (match g (cTab K (f K)).2 with
  | some o => He.emptyTab o
  | none => false)
def partT (xs : List Str) (g : Addr → Option Obj) : PySem.W.Frag := He.frT g (mainGlobals :: PySem.cStatics :: placesX xs g 4)
structure SaysT (fa : List (PySem.W.Frag → Bool)) (fn : List DX) (tf : List (PySem.W.Frag → Addr)) (h : Heap) (K : PySem.W.Frag) : Prop where
  see : seeX fa fn K = wantX fn
  hd : ∀ f ∈ tf, PySem.W.codeHdIn K (cTab K (f K)).1 (cTab K (f K)).2 = true
  out : ∀ f ∈ tf, K.lookup (cTab K (f K)).2 = none
  empty : ∀ f ∈ tf, h.get? (cTab K (f K)).2 = some OwR.tabO
abbrev AT : Type := AX × Bool
def obsT (xs : List Str) (fa : List (PySem.W.Frag → Bool)) (fn : List DX) (tf : List (PySem.W.Frag → Addr)) (g : Addr → Option Obj) : AT := (seeX fa fn (partT xs g), tabsOk g tf (partT xs g))
theorem saysT_of {xs : List Str} {fa : List (PySem.W.Frag → Bool)} {fn : List DX} {tf : List (PySem.W.Frag → Addr)} {h : Heap} (e : obsT xs fa fn tf h.get? = (wantX fn, true)) : SaysT fa fn tf h (partT xs h.get?) := by
  have e1 : seeX fa fn (partT xs h.get?) = wantX fn := congrArg Prod.fst e
  have e2 : tabsOk h.get? tf (partT xs h.get?) = true := congrArg Prod.snd e
  have key : ∀ f ∈ tf, PySem.W.codeHdIn (partT xs h.get?) (cTab (partT xs h.get?) (f (partT xs h.get?))).1 (cTab (partT xs h.get?) (f (partT xs h.get?))).2 = true ∧ ∃ o, h.get? (cTab (partT xs h.get?) (f (partT xs h.get?))).2 = some o ∧ He.emptyTab o = true := fun f hf => by
    obtain ⟨h3, h4⟩ := two (List.all_eq_true.mp e2 f hf)
    refine ⟨h3, ?_⟩
    cases q : h.get? (cTab (partT xs h.get?) (f (partT xs h.get?))).2 with
    | none =>
      rw [q] at h4
      cases h4
    | some o =>
      rw [q] at h4
      exact ⟨o, rfl, h4⟩
  refine ⟨e1, fun f hf => (key f hf).1, fun f hf => ?_, fun f hf => ?_⟩
  · obtain ⟨_, o, q, z⟩ := key f hf
    exact He.frT_none q z
  · obtain ⟨_, o, q, z⟩ := key f hf
    rw [q, He.emptyTab_eq z]
def hookT (xs : List Str) (fa : List (PySem.W.Frag → Bool)) (fn : List DX) (tf : List (PySem.W.Frag → Addr)) : PySem.W.Hook where
  α := AT
  obs := fun s => obsT xs fa fn tf s.heap.get?
  val := fun _ => (wantX fn, true)
  says := fun _ h => ∃ K : PySem.W.Frag, K.In h ∧ SaysT fa fn tf h K
  of := fun _ _ e => ⟨_, He.frT_in, saysT_of e⟩
  keeps := fun _ _ _ p k => match p with
    | ⟨K, hK, c⟩ => ⟨K, PySem.W.Frag.In.keeps hK k, ⟨c.see, c.hd, c.out, fun f hf => k _ _ (c.empty f hf)⟩⟩
theorem obsT_eq {xs : List Str} {fa : List (PySem.W.Frag → Bool)} {fn : List DX} {tf : List (PySem.W.Frag → Addr)} {g : Addr → Option Obj} {s : Shared} (h : ∀ a, g a = s.heap.get? a) : obsT xs fa fn tf g = (hookT xs fa fn tf).obs s := by
  have e : g = s.heap.get? := funext h
  rw [e] <;> rfl
/-! ### facts of error classes -/
def oexB (K : PySem.W.Frag) (C : Addr) : Bool := match K.lookup C with
  | some ⟨.type t, _, .cls cd, sl⟩ => decide (t = "type") && (match cd.mro, sl.toList with
    | .ref D :: bm, [_, _, _, _, some (.builtin n), _] => decide (D = C) && (decide (n = "ValueError.__new__") && (cd.hasDict && (!cd.hasDel && PySem.HandSPX.refsVE bm)))
    | _, _ => false)
  | _ => false
theorem oexB_ok {K : PySem.W.Frag} {C : Addr} (h : oexB K C = true) : ∃ nm q N bs bm sn sub ab col dd k0 k1 k2 k3 k5, K.lookup C = some (excClassObj nm q C N bs bm true sn sub ab col dd k0 k1 k2 k3 k5 "ValueError.__new__") ∧ PySem.HandSPX.refsVE bm = true := by
  unfold oexB at h
  split at h
  · rename_i t dd cd sl ho
    obtain ⟨h1, h2⟩ := two h
    split at h2
    · rename_i D bm k0 k1 k2 k3 n k5 hm hs
      obtain ⟨a1, h3⟩ := two h2
      obtain ⟨a2, h4⟩ := two h3
      obtain ⟨a3, h5⟩ := two h4
      obtain ⟨a4, a5⟩ := two h5
      have e1 := of_decide_eq_true h1
      have e2 := of_decide_eq_true a1
      have e3 := of_decide_eq_true a2
      subst e1 e2 e3
      obtain ⟨nm, bs, mro, ns, qn, hd, sn, sub, ab, col, del⟩ := cd
      have esl : sl = #[k0, k1, k2, k3, some (.builtin "ValueError.__new__"), k5] := by
        obtain ⟨l⟩ := sl
        have hs : l = _ := hs
        rw [hs]
      have em : mro = .ref D :: bm := hm
      have ed : hd = true := a3
      have el : del = false := by
        cases del with
        | true => cases a4
        | false => rfl
      subst esl em ed el
      exact ⟨nm, qn, ns, bs, bm, sn, sub, ab, col, dd, k0, k1, k2, k3, k5, ho, a5⟩
    · cases h2
  · cases h
def fErr (x : Str) (K : PySem.W.Frag) : Bool := oexB K (ga K x) && (He.eqO (PySem.W.findIn K (.ref (ga K x)) "__setattr__") (some (some (.builtin "object.__setattr__"))) && (decide (PySem.W.typeIn K (.ref (ga K x)) = some (.type "type")) && (PySem.W.keepIn K (.ref (ga K x)) && (xfB K (ga K x) &&
  (He.eqO (PySem.W.findIn K (.ref (ga K x)) "__class__") (some (some (.builtin "object.__class__"))) && (He.eqO (PySem.W.specialIn K (.builtin "object.__class__") "__get__") (some (some (.builtin "getset_descriptor.__get__"))) &&
  (decide (PySem.W.takesIn K (.builtin "object.__class__") = some true) && decide (PySem.W.mroIn K (ga K x) (.type "object") = some true))))))))
theorem err_ok {x : Str} {K : PySem.W.Frag} (h : fErr x K = true) : OwE.ErrC K (ga K x) := by
  obtain ⟨a1, h⟩ := two h
  obtain ⟨a2, h⟩ := two h
  obtain ⟨a3, h⟩ := two h
  obtain ⟨a4, h⟩ := two h
  obtain ⟨a5, h⟩ := two h
  obtain ⟨a6, h⟩ := two h
  obtain ⟨a7, h⟩ := two h
  obtain ⟨a8, a9⟩ := two h
  have X := xfB_ok a5
  exact ⟨⟨oexB_ok a1, He.eqO_ok a2, X.exC, of_decide_eq_true a3, a4⟩, X, He.eqO_ok a6, He.eqO_ok a7, of_decide_eq_true a8, of_decide_eq_true a9⟩
/-- the class's __init__ is the def at its place -/
def fIni (x : Str) (K : PySem.W.Frag) : Bool := He.eqO (PySem.W.findIn K (.ref (ga K x)) "__init__") (some (some (.ref (mo K x "__init__")))) && decide (PySem.W.typeIn K (.ref (mo K x "__init__")) = some (.type "function"))
theorem ini_ok {x : Str} {K : PySem.W.Frag} (h : fIni x K = true) : PySem.W.findIn K (.ref (ga K x)) "__init__" = some (some (.ref (mo K x "__init__"))) ∧ PySem.W.typeIn K (.ref (mo K x "__init__")) = some (.type "function") := ⟨He.eqO_ok (two h).1, of_decide_eq_true (two h).2⟩
/-- no attribute of that name in the class -/
def fNoF (x n : Str) (K : PySem.W.Frag) : Bool := decide (PySem.W.findIn K (.ref (ga K x)) n = some none)
def fExm (x y : Str) (b : Bool) (K : PySem.W.Frag) : Bool := decide (PySem.W.exmOne K (.ref (ga K x)) (.ref (ga K y)) = some b)
def fKit (x y : Str) (b : Bool) (K : PySem.W.Frag) : Bool := decide (PySem.W.kitOne K (.ref (ga K x)) (.ref (ga K y)) = some b)
/-- what isinstance and the like ask of the objects of the class -/
def fIsC (x : Str) (K : PySem.W.Frag) : Bool := He.eqO (PySem.W.findIn K (.ref (ga K x)) "__class__") (some (some (.builtin "object.__class__"))) && (He.eqO (PySem.W.specialIn K (.builtin "object.__class__") "__get__") (some (some (.builtin "getset_descriptor.__get__"))) &&
  (decide (PySem.W.takesIn K (.builtin "object.__class__") = some true) && decide (PySem.W.mroIn K (ga K x) (.type "object") = some true)))
theorem isC_ok {x : Str} {K : PySem.W.Frag} (h : fIsC x K = true) : PySem.W.findIn K (.ref (ga K x)) "__class__" = some (some (.builtin "object.__class__")) ∧ PySem.W.specialIn K (.builtin "object.__class__") "__get__" = some (some (.builtin "getset_descriptor.__get__")) ∧ PySem.W.takesIn K (.builtin "object.__class__") = some true ∧ PySem.W.mroIn K (ga K x) (.type "object") = some true := by
  obtain ⟨a1, h⟩ := two h
  obtain ⟨a2, h⟩ := two h
  obtain ⟨a3, a4⟩ := two h
  exact ⟨He.eqO_ok a1, He.eqO_ok a2, of_decide_eq_true a3, of_decide_eq_true a4⟩
/-- the class (or one above it) has the def at its place as m -/
def fHas (x m : Str) (K : PySem.W.Frag) : Bool := He.eqO (PySem.W.findIn K (.ref (ga K x)) m) (some (some (.ref (mo K x m)))) && PySem.W.isFn K (.ref (mo K x m))
theorem has_ok {x m : Str} {K : PySem.W.Frag} (h : fHas x m K = true) : PySem.W.findIn K (.ref (ga K x)) m = some (some (.ref (mo K x m))) ∧ PySem.W.isFn K (.ref (mo K x m)) = true := ⟨He.eqO_ok (two h).1, (two h).2⟩
/-- != of the class is object's -/
def fNe (x : Str) (K : PySem.W.Frag) : Bool := He.eqO (PySem.W.findIn K (.ref (ga K x)) "__ne__") (some (some (.builtin "object.__ne__")))
theorem ne_ok {x : Str} {K : PySem.W.Frag} (h : fNe x K = true) : PySem.W.findIn K (.ref (ga K x)) "__ne__" = some (some (.builtin "object.__ne__")) := He.eqO_ok h
def fNot (x : Str) (t : PySem.W.Frag → Value) (K : PySem.W.Frag) : Bool := PySem.W.notFirst K (ga K x) (t K)
end OwH
end
section
/-! Operators and comparisons that an own class defines. -/
namespace OwR
open PySem PySem.Spec PyProof.Rows L2
/-- an own operator between instances of two own classes, neither below the other -/
theorem bin_two {prog : Program} {w : World} {A : Around} {E : Value → Shared → Prop} {s : Shared} {K : PySem.W.Frag} {x C D f f2 : Addr} {ox : Obj} {od : Option Obj} {op : Operator} {b : Value} {rc rd : Option Value} {Q : Value → Shared → Prop} (X : K.In s.heap) (I : PySem.W.InstAt s.heap x ox C od)
    (hb : PySem.W.Looks (model prog w) s.heap (typeOf b) (.ref D)) (ne : (Value.ref C == Value.ref D) = false) (cC : PySem.W.selfFirst K C = true) (cD : PySem.W.selfFirst K D = true) (sC : PySem.W.findIn K (.ref C) (PySem.dunder op.info.2) = some (some (.ref f))) (sD : PySem.W.findIn K (.ref D) (PySem.dunder op.info.2) = some (some (.ref f2)))
    (rC : PySem.W.findIn K (.ref C) (dunderR op.info.2) = some rc) (pC : rc = none ∨ ∃ g : Addr, rc = some (.ref g)) (rD : PySem.W.findIn K (.ref D) (dunderR op.info.2) = some rd) (pD : rd = none ∨ ∃ g : Addr, rd = some (.ref g))
    (sub : PySem.W.subIn K (.ref D) (.ref C) = some false) (hf : PySem.W.isFn K (.ref f) = true) (h : wpAny (model prog w) A (call (.ref f) [.ref x, b]) (PySem.W.CmpBack Q) E s) : wpAny (model prog w) A (binaryOp op (.ref x) b) Q E s := by
  obtain ⟨c1, r1, k1, m1⟩ := PySem.W.ksp_first cC
  obtain ⟨c2, r2, k2, m2⟩ := PySem.W.ksp_first cD
  rcases hi : op.info with ⟨sym, nm⟩
  rw [hi] at sC sD rC rD
  dsimp only at sC sD rC rD
  have one := PySem.W.ksp_try X I sC hf h
  obtain ⟨hp, gs, dr, tk, os⟩ := s
  have L1 : PySem.W.Looks (model prog w) hp (typeOf (.ref x)) (.ref C) := I.type
  have L2 : PySem.W.Looks (model prog w) hp (typeOf b) (.ref D) := hb
  have L3 : PySem.W.Looks (model prog w) hp (fillsNumberSlot (.ref C) nm) true := PySem.W.fills_K X k1 m1 sC
  have L4 : PySem.W.Looks (model prog w) hp (fillsNumberSlot (.ref D) nm) true := PySem.W.fills_K X k2 m2 sD
  have L5 : PySem.W.Looks (model prog w) hp (isSubtype (.ref D) (.ref C)) false := PySem.W.looks_subIn X sub
  have L6 : PySem.W.Looks (model prog w) hp (numberSlotInPython (.ref C) nm) true := PySem.W.ksp_inPy X sC rC pC
  have L7 : PySem.W.Looks (model prog w) hp (numberSlotInPython (.ref D) nm) true := PySem.W.ksp_inPy X sD rD pD
  simp only [binaryOp, hi]
  refine wpAny_holding (wpAny_bind ?_)
  unfold binaryOp1
  refine wpAny_bind (L1.at (wpAny_bind (L2.at (wpAny_bind (L3.at ?_)))))
  simp only [ne, Bool.false_eq_true, if_false]
  ksp_lk
  refine wpAny_mono one (fun r s' q => ?_) fun _ _ e => e
  obtain ⟨v, rfl, hq⟩ := q
  ksp_lk
  exact hq
/-- what a class must have for an operator of its own -/
structure Bin1 (K : PySem.W.Frag) (op : Operator) (C g : Addr) : Prop where
  self : PySem.W.selfFirst K C = true
  at_ : PySem.W.findIn K (.ref C) (PySem.dunder op.info.2) = some (some (.ref g))
  fn : PySem.W.isFn K (.ref g) = true
  refl : ∃ rc, PySem.W.findIn K (.ref C) (dunderR op.info.2) = some rc ∧ (rc = none ∨ ∃ h : Addr, rc = some (.ref h))
/-- .. between two classes: one, or neither above the other -/
def BinP (K : PySem.W.Frag) (op : Operator) (C D g : Addr) : Prop := Bin1 K op C g ∧ (C = D ∨ ((∃ g', Bin1 K op D g') ∧ C ≠ D ∧ PySem.W.subIn K (.ref D) (.ref C) = some false))
structure BinT (K : PySem.W.Frag) (op : Operator) (C : Addr) (T : String) : Prop where
  f : ∃ fo, PySem.W.findIn K (.type T) (PySem.dunder op.info.2) = some fo
  r : ∃ ro, PySem.W.findIn K (.type T) (dunderR op.info.2) = some ro
  sub : PySem.W.subIn K (.type T) (.ref C) = some false
def tyS : V → Option String
  | .non => some "NoneType" | .bl _ => some "bool" | .int _ => some "int" | .str _ => some "str" | _ => none
theorem tyS_of {y : V} {u : Value} {T : String} (r : RelV y u) (h : tyS y = some T) : typeOf u = pure (.type T) := by
  cases y with
  | non => cases (show u = Value.none from r); cases h; rfl
  | bl b => cases (show u = Value.bool b from r); cases h; rfl
  | int i => obtain ⟨t, rfl⟩ := r; cases h; rfl
  | str z => obtain ⟨t, rfl⟩ := r; cases h; rfl
  | _ => cases h
def rOwn2 (K : PySem.W.Frag) (op : Operator) (g : Addr) (sp : Sp) (E : XK) : R2 := fun x y H Q => ∃ (p q C D dx dy : Addr) (fs gs : List (Str × V)), x = .ref p ∧ y = .ref q ∧ H p = some (.ins C dx fs) ∧ H q = some (.ins D dy gs) ∧ BinP K op C D g ∧ sp [.ref p, .ref q] H Q E
def rOwnT (K : PySem.W.Frag) (op : Operator) (g : Addr) (sp : Sp) (E : XK) : R2 := fun x y H Q => ∃ (p C dx : Addr) (fs : List (Str × V)) (T : String), x = .ref p ∧ H p = some (.ins C dx fs) ∧ tyS y = some T ∧ Bin1 K op C g ∧ BinT K op C T ∧ sp [.ref p, y] H Q E
section
variable {X : Cx} {CX : CXT} {k : Nat} {g : Addr} {sp : Sp} {E : XK} {op : Operator}
theorem ep_back {pins : List (Addr × Obj)} {σ : L2.St} {Q : VK} {u : Value} {s : Shared} (h : EP X pins σ Q u s) : PySem.W.CmpBack (EP X pins σ Q) u s := by
  obtain ⟨v, H, I, r, q⟩ := h
  unfold PySem.W.CmpBack
  split
  · cases v with
    | int i => obtain ⟨_, z⟩ := r; cases z
    | str i => obtain ⟨_, z⟩ := r; cases z
    | byt i => obtain ⟨_, z⟩ := r; cases z
    | flt i => obtain ⟨_, z⟩ := r; cases z
    | _ => cases r
  · exact ⟨v, H, I, r, q⟩
theorem run_own {pins : List (Addr × Obj)} {σ : L2.St} {H : Hp} {s : Shared} {Q : VK} {us : List Value} {vs : List V} (F : FnR X.prog X.w X.K X.mg X.base CX k g sp) (hr : Room k X.A) (hx : Passes CX X E) (I : Inv X pins σ H s) (r : Vals vs us) (h : sp vs H Q E) :
    wpAny (model X.prog X.w) X.A (call (.ref g) us) (PySem.W.CmpBack (EP X pins σ Q)) X.xe s := wpAny_mono (wpAny_call (run_fnR F hr hx I r h)) (fun _ _ q => ep_back q) fun _ _ q => q
theorem op_own2 (F : FnR X.prog X.w X.K X.mg X.base CX k g sp) (hr : Room k X.A) (hx : Passes CX X E) : OpR X (binaryOp op) (rOwn2 X.K op g sp E) := by
  intro pins s σ H x y v u Q I rx ry h
  obtain ⟨p, q, C, D, dx, dy, fs, gs, rfl, rfl, ep, eq, ⟨b1, b2⟩, hq⟩ := h
  obtain rfl : v = Value.ref p := rx
  obtain rfl : u = Value.ref q := ry
  obtain ⟨ox, od, J, _⟩ := StX.insC_at I (.inr ⟨dx, fs, ep⟩)
  obtain ⟨oy, oe, J2, _⟩ := StX.insC_at I (.inr ⟨dy, gs, eq⟩)
  have go := run_own F hr hx I (us := [.ref p, .ref q]) (vs := [.ref p, .ref q]) (.cons rfl (.cons rfl .nil)) hq
  obtain ⟨mm, fr⟩ := I.fr
  rcases b2 with rfl | ⟨⟨g', b2⟩, ne, sub⟩
  · exact PySem.W.binop_K fr I.ok.mod.kin J J2.type b1.self b1.at_ b1.fn go
  · obtain ⟨rc, e1, e2⟩ := b1.refl
    obtain ⟨rd, e3, e4⟩ := b2.refl
    exact bin_two I.kIn J J2.type (Bool.eq_false_iff.mpr fun z => ne (by cases beq_iff_eq.mp z; rfl)) b1.self b2.self b1.at_ b2.at_ e1 e2 e3 e4 sub b1.fn go
theorem op_ownT (F : FnR X.prog X.w X.K X.mg X.base CX k g sp) (hr : Room k X.A) (hx : Passes CX X E) : OpR X (binaryOp op) (rOwnT X.K op g sp E) := by
  intro pins s σ H x y v u Q I rx ry h
  obtain ⟨p, C, dx, fs, T, rfl, ep, ty, b1, bT, hq⟩ := h
  obtain rfl : v = Value.ref p := rx
  obtain ⟨ox, od, J, _⟩ := StX.insC_at I (.inr ⟨dx, fs, ep⟩)
  obtain ⟨mm, fr⟩ := I.fr
  obtain ⟨rc, e1, e2⟩ := b1.refl
  obtain ⟨fo, e3⟩ := bT.f
  obtain ⟨ro, e4⟩ := bT.r
  exact PySem.W.ksp_binT fr I.ok.mod.kin J (tyS_of ry ty) b1.self b1.at_ b1.fn e1 e2 e3 e4 bT.sub (run_own F hr hx I (us := [.ref p, u]) (vs := [.ref p, y]) (.cons rfl (.cons ry .nil)) hq)
/-! ### comparisons -/
structure Cmp1 (K : PySem.W.Frag) (op : CmpOp) (C g : Addr) : Prop where
  at_ : PySem.W.findIn K (.ref C) (cmpInfo op).2.1 = some (some (.ref g))
  fn : PySem.W.isFn K (.ref g) = true
def rCmp2 (K : PySem.W.Frag) (op : CmpOp) (g : Addr) (sp : Sp) (E : XK) : R2 := fun x y H Q => ∃ (p q C D dx dy : Addr) (fs gs : List (Str × V)), x = .ref p ∧ y = .ref q ∧ H p = some (.ins C dx fs) ∧ H q = some (.ins D dy gs) ∧ Cmp1 K op C g ∧ PySem.W.notFirst K C (.ref D) = true ∧ sp [.ref p, .ref q] H Q E
theorem rc_own2 {o : CmpOp} (hu : X.A.units < cLine) (F : FnR X.prog X.w X.K X.mg X.base CX k g sp) (hr : Room k X.A) (hx : Passes CX X E) : OpR X (richCompare o) (rCmp2 X.K o g sp E) := by
  intro pins s σ H x y v u Q I rx ry h
  obtain ⟨p, q, C, D, dx, dy, fs, gs, rfl, rfl, ep, eq, c1, nf, hq⟩ := h
  obtain rfl : v = Value.ref p := rx
  obtain rfl : u = Value.ref q := ry
  obtain ⟨ox, od, J, _⟩ := StX.insC_at I (.inr ⟨dx, fs, ep⟩)
  obtain ⟨oy, oe, J2, _⟩ := StX.insC_at I (.inr ⟨dy, gs, eq⟩)
  obtain ⟨mm, fr⟩ := I.fr
  exact PySem.W.cmp_K hu fr I.ok.mod.kin J J2.type nf c1.at_ c1.fn (run_own F hr hx I (us := [.ref p, .ref q]) (vs := [.ref p, .ref q]) (.cons rfl (.cons rfl .nil)) hq)
theorem op_ownEq (hu : X.A.units < cLine) (F : FnR X.prog X.w X.K X.mg X.base CX k g sp) (hr : Room k X.A) (hx : Passes CX X E) : OpR X (compareOp .Eq) (rCmp2 X.K .Eq g sp E) := fun pins s σ H x y v u Q I rx ry h => PySem.W.cmp_ofEq (rc_own2 hu F hr hx pins s σ H x y v u Q I rx ry h)
theorem op_ownLe (hu : X.A.units < cLine) (F : FnR X.prog X.w X.K X.mg X.base CX k g sp) (hr : Room k X.A) (hx : Passes CX X E) : OpR X (compareOp .LtE) (rCmp2 X.K .LtE g sp E) := fun pins s σ H x y v u Q I rx ry h => PySem.W.cmp_ofLtE (rc_own2 hu F hr hx pins s σ H x y v u Q I rx ry h)
theorem op_ownLt (hu : X.A.units < cLine) (F : FnR X.prog X.w X.K X.mg X.base CX k g sp) (hr : Room k X.A) (hx : Passes CX X E) : OpR X (compareOp .Lt) (rCmp2 X.K .Lt g sp E) := fun pins s σ H x y v u Q I rx ry h => PySem.W.cmp_ofLt (rc_own2 hu F hr hx pins s σ H x y v u Q I rx ry h)
theorem op_ownGe (hu : X.A.units < cLine) (F : FnR X.prog X.w X.K X.mg X.base CX k g sp) (hr : Room k X.A) (hx : Passes CX X E) : OpR X (compareOp .GtE) (rCmp2 X.K .GtE g sp E) := fun pins s σ H x y v u Q I rx ry h => PySem.W.cmp_ofGtE (rc_own2 hu F hr hx pins s σ H x y v u Q I rx ry h)
theorem op_ownGt (hu : X.A.units < cLine) (F : FnR X.prog X.w X.K X.mg X.base CX k g sp) (hr : Room k X.A) (hx : Passes CX X E) : OpR X (compareOp .Gt) (rCmp2 X.K .Gt g sp E) := fun pins s σ H x y v u Q I rx ry h => PySem.W.cmp_ofGt (rc_own2 hu F hr hx pins s σ H x y v u Q I rx ry h)
end
end OwR
end
section
/-! Facts of the end of the top about special methods of a class. Own. -/
namespace OwH
open PySem PySem.Spec PyProof.Rows L2
def hasF (K : PySem.W.Frag) (C : Value) (m : Str) (f : Addr) : Bool := He.eqO (PySem.W.findIn K C m) (some (some (.ref f))) && PySem.W.isFn K (.ref f)
theorem hasF_ok {K : PySem.W.Frag} {C : Value} {m : Str} {f : Addr} (h : hasF K C m f = true) : PySem.W.findIn K C m = some (some (.ref f)) ∧ PySem.W.isFn K (.ref f) = true := ⟨He.eqO_ok (two h).1, (two h).2⟩
def noneOrRef : Option (Option Value) → Bool
  | some none => true
  | some (some (.ref _)) => true
  | _ => false
theorem noneOrRef_ok {x : Option (Option Value)} (h : noneOrRef x = true) : ∃ rc, x = some rc ∧ (rc = none ∨ ∃ g : Addr, rc = some (.ref g)) := by
  match x, h with
  | some none, _ => exact ⟨none, rfl, .inl rfl⟩
  | some (some (.ref g)), _ => exact ⟨_, rfl, .inr ⟨g, rfl⟩⟩
def fBin (op : Operator) (K : PySem.W.Frag) (C f : Addr) : Bool := PySem.W.selfFirst K C && (hasF K (.ref C) (PySem.dunder op.info.2) f && noneOrRef (PySem.W.findIn K (.ref C) (dunderR op.info.2)))
theorem fBin_ok {op : Operator} {K : PySem.W.Frag} {C f : Addr} (h : fBin op K C f = true) : OwR.Bin1 K op C f :=
  ⟨(two h).1, (hasF_ok (two (two h).2).1).1, (hasF_ok (two (two h).2).1).2, noneOrRef_ok (two (two h).2).2⟩
def fBinT (op : Operator) (K : PySem.W.Frag) (C : Addr) (T : String) : Bool := (PySem.W.findIn K (.type T) (PySem.dunder op.info.2)).isSome && ((PySem.W.findIn K (.type T) (dunderR op.info.2)).isSome && decide (PySem.W.subIn K (.type T) (.ref C) = some false))
theorem fBinT_ok {op : Operator} {K : PySem.W.Frag} {C : Addr} {T : String} (h : fBinT op K C T = true) : OwR.BinT K op C T :=
  ⟨Option.isSome_iff_exists.mp (two h).1, Option.isSome_iff_exists.mp (two (two h).2).1, of_decide_eq_true (two (two h).2).2⟩
def fPropAt (K : PySem.W.Frag) (C : Addr) (m : Str) (p : Addr) : Bool := He.eqO (PySem.W.findIn K (.ref C) m) (some (some (.ref p))) && (He.eqO (PySem.W.specialIn K (.ref p) "__get__") (some (some (.builtin "property.__get__"))) && (decide (PySem.W.takesIn K (.ref p) = some true) && recOk K p "property"))
theorem propAt_ok {K : PySem.W.Frag} {C p : Addr} {m : Str} (h : fPropAt K C m p = true) : PropOf K C m p (inRec K p "property") := ⟨He.eqO_ok (two h).1, He.eqO_ok (two (two h).2).1, of_decide_eq_true (two (two (two h).2).2).1, recOk_ok (two (two (two h).2).2).2⟩
def fMethAt (K : PySem.W.Frag) (C : Addr) (m : Str) (f : Addr) : Bool := hasF K (.ref C) m f && PySem.W.keepIn K (.ref f)
theorem methAt_ok {K : PySem.W.Frag} {C f : Addr} {m : Str} (h : fMethAt K C m f = true) : Meth K C m f := ⟨(hasF_ok (two h).1).1, (hasF_ok (two h).1).2, (two h).2⟩
end OwH
end
section
namespace OwD
open PySem PySem.Spec PyProof.Rows L2
theorem lays {α : Type} {f : α → PyData} : ∀ l : List α, (∀ x ∈ l, (f x).canLay0 = true) → PyData.canLayAll0 (l.map f) = true
  | [], _ => by simp [PyData.canLayAll0]
  | x :: l, h => by
    rw [List.map_cons, PyData.canLayAll0, h x List.mem_cons_self, lays l fun y hy => h y (List.mem_cons_of_mem _ hy)]
    rfl
theorem deps {α : Type} {f : α → PyData} {k : Nat} : ∀ l : List α, (∀ x ∈ l, (f x).depth ≤ k) → PyData.depthAll (l.map f) ≤ k
  | [], _ => by simp [PyData.depthAll]
  | x :: l, h => by
    have h1 := h x List.mem_cons_self
    have h2 := deps l fun y hy => h y (List.mem_cons_of_mem _ hy)
    rw [List.map_cons, PyData.depthAll]
    exact Nat.max_le.mpr ⟨h1, h2⟩
theorem shaped_of {d : PyData} (h1 : d.canLay0 = true) (h2 : d.depth ≤ 64) : SeqAt.shaped d = true := by
  show (d.canLay0 && decide (d.depth ≤ 64)) = true
  rw [h1, decide_eq_true h2]
  rfl
theorem shaped_lst {α : Type} {f : α → PyData} {l : List α} {k : Nat} (hk : k ≤ 60) (h1 : ∀ x ∈ l, (f x).canLay0 = true) (h2 : ∀ x ∈ l, (f x).depth ≤ k) : SeqAt.shaped (.list (l.map f)) = true := by
  refine shaped_of (by rw [PyData.canLay0]; exact lays l h1) ?_
  have := deps l h2
  rw [PyData.depth]
  omega
theorem shaped_tup {α : Type} {f : α → PyData} {l : List α} {k : Nat} (hk : k ≤ 60) (h1 : ∀ x ∈ l, (f x).canLay0 = true) (h2 : ∀ x ∈ l, (f x).depth ≤ k) : SeqAt.shaped (.tuple (l.map f)) = true := by
  refine shaped_of (by rw [PyData.canLay0]; exact lays l h1) ?_
  have := deps l h2
  rw [PyData.depth]
  omega
theorem dp_ints {K : PySem.W.Frag} {H : Hp} : ∀ ns : List Int, DpAll K H (ns.map V.int) (ns.map PyData.int)
  | [] => .nil
  | n :: r => .cons (.int n) (dp_ints r)
theorem dp_strs {K : PySem.W.Frag} {H : Hp} : ∀ ns : List Str, DpAll K H (ns.map V.str) (ns.map PyData.str)
  | [] => .nil
  | n :: r => .cons (.str n) (dp_strs r)
theorem shaped_ints (ns : List Int) : SeqAt.shaped (.list (ns.map PyData.int)) = true := shaped_lst (k := 0) (by decide) (fun _ _ => by simp [PyData.canLay0]) fun _ _ => by simp [PyData.depth]
theorem eqv_nil {α : Type} {f : α → PyData} (l : List α) : PyData.eqv (.list (l.map f)) (.list []) = l.isEmpty := by
  cases l <;> simp [PyData.eqv, PyData.eqvAll]
theorem shaped_nil : SeqAt.shaped (.list []) = true := shaped_of (by simp [PyData.canLay0, PyData.canLayAll0]) (by simp [PyData.depth, PyData.depthAll])
end OwD
end
section
namespace OwR
open PySem PySem.Spec PyProof.Rows L2
theorem raw0 {P : Program} {w : World} {K : PySem.W.Frag} {mg : Str → Option Value} {base : Heap} {CX : CXT} {k : Nat} {f : Addr} {fd : FuncData} {ps : List Str} {sp : Sp} (F : FnOk P w K mg base CX k f fd ps sp) (hb : Binds K fd ps []) : FnR P w K mg base CX k f sp :=
  (F.raw hb .nil).imp fun vs H Q E h => by rw [List.append_nil]; exact h
end OwR
namespace K10
open PySem PySem.Spec PyProof.Rows L2
/-- what stands behind the module's names -/
structure Nm (mg : Str → Option Value) : Prop where
  n_int : mg "int" = none
  n_len : mg "len" = none
  n_abs : mg "abs" = none
  n_list : mg "list" = none
/-- the state of the draws at p: the cells at c, how many were taken, what is left of a great one -/
structure PenAt (H : Hp) (p c : Addr) (ns : List Int) (n : Nat) (z : Int) : Prop where
  pen : H p = some (.lst [.ref c, .int n, .int z])
  cells : H c = some (.lst (ns.map V.int))
  few : ns.length ≤ 63
  rest : 0 ≤ z
theorem PenAt.ne {H : Hp} {p c : Addr} {ns : List Int} {n : Nat} {z : Int} (P : PenAt H p c ns n z) : c ≠ p := fun e => by
  have h1 := P.pen
  have h2 := P.cells
  rw [e, h1] at h2
  have h3 := congrArg (fun o : Option HO => match o with | some (.lst xs) => xs | _ => []) h2
  have h4 : ([V.ref c, V.int n, V.int z] : List V) = ns.map V.int := h3
  cases ns with
  | nil => cases h4
  | cons a l => cases h4
/-- all but the pen stands -/
def But (p : Addr) (H H' : Hp) : Prop := ∀ b o, b ≠ p → H b = some o → H' b = some o
theorem But.refl (p : Addr) (H : Hp) : But p H H := fun _ _ _ h => h
theorem But.trans {p : Addr} {H H1 H2 : Hp} (a : But p H H1) (b : But p H1 H2) : But p H H2 := fun c o n h => b c o n (a c o n h)
theorem But.new {p l : Addr} {H : Hp} {o : HO} (h : H l = none) : But p H (upd H l o) := fun b u _ e => by
  rw [upd_ne (ne_of_none e h)]
  exact e
theorem But.at {p : Addr} {H : Hp} {o : HO} : But p H (upd H p o) := fun b u n e => by
  rw [upd_ne n]
  exact e
theorem But.same {p : Addr} {H H' : Hp} (a : But p H H') (s : Same H' H') : But p H H' := a
theorem at_mod (ns : List Int) (n : Int) (h : 0 < ns.length) : ∃ x : Int, atI (ns.map V.int) (n % ((ns.map V.int).length : Int)) = some (V.int x) := by
  have hl : (ns.map V.int).length = ns.length := List.length_map _
  have h1 : 0 ≤ n % ((ns.map V.int).length : Int) := Int.emod_nonneg _ (by omega)
  have h2 : n % ((ns.map V.int).length : Int) < ((ns.map V.int).length : Int) := Int.emod_lt_of_pos _ (by omega)
  generalize n % ((ns.map V.int).length : Int) = j at h1 h2
  obtain ⟨i, rfl⟩ : ∃ i : Nat, j = (i : Int) := ⟨j.toNat, by omega⟩
  have hi : i < ns.length := by omega
  refine ⟨ns[i], atI_nat ?_⟩
  rw [List.getElem?_map, List.getElem?_eq_getElem hi]
  rfl
theorem mix_lt {x n a b c : Int} (x0 : 0 ≤ x) (x1 : x < 2147483648) (n0 : 0 ≤ n) (n1 : n < 100000) (a0 : 0 ≤ a) (a1 : a < 1000000) (b0 : 0 ≤ b) (b1 : b < 1000000) (c0 : 0 ≤ c) (c1 : c < 1000000) :
    (x * (2 * n + a) + b * n * n + c).natAbs < 2 ^ 64 := by
  have h1 : 0 ≤ x * (2 * n + a) := Int.mul_nonneg x0 (by omega)
  have h2 : x * (2 * n + a) ≤ 2147483648 * 1200000 := Int.mul_le_mul (by omega) (by omega) (by omega) (by decide)
  have h3 : 0 ≤ b * n * n := Int.mul_nonneg (Int.mul_nonneg b0 n0) n0
  have h4 : b * n ≤ 1000000 * 100000 := Int.mul_le_mul (by omega) (by omega) n0 (by decide)
  have h5 : b * n * n ≤ 1000000 * 100000 * 100000 := Int.mul_le_mul h4 (by omega) n0 (by decide)
  omega
def spDraw : Sp := fun vs H Q _ => ∃ (p c : Addr) (ns : List Int) (n : Nat) (z m : Int), vs = [.ref p, .int m] ∧ PenAt H p c ns n z ∧ n < 100000 ∧ 0 < m ∧ m.natAbs < 2 ^ 1000 ∧
  ∀ (d : Int) (n' : Nat) (z' : Int) (H' : Hp), 0 ≤ d → d < m → n' ≤ n + 1 → PenAt H' p c ns n' z' → But p H H' → Q (.int d) H'
theorem Same.of_new {H : Hp} {p : Addr} {o : HO} (h : H p = none) : Same H (upd H p o) := fun b u e => by
  rw [upd_ne (ne_of_none e h)]
  exact e
theorem But.rd {p : Addr} {H H' : Hp} (s : But p H H') {a : Addr} {o : HO} (n : a ≠ p) (h : Rd H a o) : Rd H' a o := h.elim (fun e => .inl (s a _ n e)) fun ⟨q, e⟩ => .inr ⟨q, s a _ n e⟩
theorem Same.but {H H' : Hp} (p : Addr) (s : Same H H') : But p H H' := fun b o _ e => s b o e
theorem Same.rd {H H' : Hp} (s : Same H H') {a : Addr} {o : HO} (h : Rd H a o) : Rd H' a o := h.elim (fun e => .inl (s a _ e)) fun ⟨q, e⟩ => .inr ⟨q, s a _ e⟩
theorem made_same {H H' : Hp} {x dx : Addr} {o o' : HO} (hx : H x = none) (hd : H dx = none) (s : But x (upd (upd H dx o) x o') H') : Same H H' := fun b u e => by
  refine s b u (ne_of_none e hx) ?_
  rw [upd_ne (ne_of_none e hx), upd_ne (ne_of_none e hd)]
  exact e
theorem upd_keep2 {H : Hp} {D b : Addr} {o u : HO} (h : H b = some u) (hD : H D = none) : upd H D o b = some u := by
  rw [upd_ne (ne_of_none h hD)]
  exact h
theorem SqL.mono {K : PySem.W.Frag} {H H' : Hp} {a : Addr} {xs : List V} (h : SqL K H a xs) (s : Same H H') : SqL K H' a xs := h.elim (fun r => .inl (Same.rd s r)) .inr
theorem SqT.mono {K : PySem.W.Frag} {H H' : Hp} {a : Addr} {xs : List V} (h : SqT K H a xs) (s : Same H H') : SqT K H' a xs := h.elim (fun r => .inl (Same.rd s r)) .inr
theorem But.free {p l : Addr} {H H' : Hp} (s : But p H H') (hp : H' p ≠ none) (h : H' l = none) : H l = none := by
  cases e : H l with
  | none => rfl
  | some o =>
    by_cases n : l = p
    · rw [n] at h
      exact (hp h).elim
    · rw [s l o n e] at h
      cases h
theorem PenAt.some {H : Hp} {p c : Addr} {ns : List Int} {n : Nat} {z : Int} (P : PenAt H p c ns n z) : H p ≠ none := by
  rw [P.pen]
  exact fun h => by cases h
theorem PenAt.same {H H' : Hp} {p c : Addr} {ns : List Int} {n : Nat} {z : Int} (P : PenAt H p c ns n z) (s : Same H H') : PenAt H' p c ns n z := ⟨s _ _ P.pen, s _ _ P.cells, P.few, P.rest⟩
theorem SqL.but {K : PySem.W.Frag} {p : Addr} {H H' : Hp} {a : Addr} {xs : List V} (h : SqL K H a xs) (n : a ≠ p) (s : But p H H') : SqL K H' a xs := h.elim (fun r => .inl (But.rd s n r)) .inr
theorem nth {α : Type} {xs : List α} {d : Int} (h0 : 0 ≤ d) (h1 : d < xs.length) : ∃ x, x ∈ xs ∧ atI xs d = some x := by
  obtain ⟨j, rfl⟩ : ∃ j : Nat, d = (j : Int) := ⟨d.toNat, by omega⟩
  have hj : j < xs.length := by omega
  exact ⟨xs[j], List.getElem_mem hj, atI_nat (List.getElem?_eq_getElem hj)⟩
theorem cut_63 {ns : List Int} (h : ns.length ≤ 63) : cutV (ns.map V.int) none (some 63) = ns.map V.int := by
  have e : (some 63 : Option Int) = some ((63 : Nat) : Int) := rfl
  unfold cutV
  rw [HT.sIx_none, e, HT.sIx_nat, List.drop_zero]
  exact List.take_of_length_le (by rw [List.length_map]; omega)
theorem PenAt.put {H : Hp} {p c D : Addr} {ns : List Int} {n : Nat} {z : Int} {o : HO} (P : PenAt H p c ns n z) (n1 : p ≠ D) (n2 : c ≠ D) : PenAt (upd H D o) p c ns n z := ⟨by rw [upd_ne n1]; exact P.pen, by rw [upd_ne n2]; exact P.cells, P.few, P.rest⟩
def spPen (K : PySem.W.Frag) : Sp := fun vs H Q _ => ∃ (a : Addr) (ns : List Int), vs = [.ref a] ∧ SqL K H a (ns.map V.int) ∧ ns.length ≤ 63 ∧ ∀ p c H', H p = none → Same H H' → PenAt H' p c ns 0 0 → Q (.ref p) H'
def spPick (K : PySem.W.Frag) : Sp := fun vs H Q _ => ∃ (p c l : Addr) (ns : List Int) (n : Nat) (z : Int) (xs : List V), vs = [.ref p, .ref l] ∧ PenAt H p c ns n z ∧ n < 100000 ∧ l ≠ p ∧ SqL K H l xs ∧ 0 < xs.length ∧ xs.length < 1000 ∧
  ∀ (x : V) (n' : Nat) (z' : Int) (H' : Hp), x ∈ xs → n' ≤ n + 1 → PenAt H' p c ns n' z' → But p H H' → Q x H'
theorem small_int {i : Int} (h0 : 0 ≤ i) (h1 : i < 1000) : i.natAbs < 2 ^ 1000 := Nat.lt_of_lt_of_le (show i.natAbs < 1000 by omega) (by decide +kernel)
def letter (c : Nat) : Bool := decide (97 ≤ c) && decide (c ≤ 122)
def nameB (z : Str) : Bool := (decide (1 ≤ z.length) && decide (z.length ≤ 8)) && z.cps.toList.all letter
theorem one_le (a c : Nat) : (!decide (([c] : List Nat) < [a])) = decide (a ≤ c) := by
  by_cases h : a ≤ c
  · rw [decide_eq_true h, decide_eq_false]
    · rfl
    · intro q
      rcases List.cons_lt_cons_iff.mp q with q | ⟨_, q⟩
      · omega
      · exact absurd q (by simp)
  · rw [decide_eq_false h, decide_eq_true]
    · rfl
    · exact List.cons_lt_cons_iff.mpr (.inl (by omega))
/-- what is no text -/
def NoStr (K : PySem.W.Frag) (H : Hp) (v : V) : Prop := ∃ t, TyX K H v t ∧ PySem.W.kitOne K t (.type "str") = some false
/-- what is no name -/
def NoName (K : PySem.W.Frag) (H : Hp) (v : V) : Prop := (∃ z : Str, v = .str z ∧ z.length ≤ 1000 ∧ nameB z = false) ∨ NoStr K H v
def spName (K : PySem.W.Frag) : Sp := fun vs H Q _ => ∃ v : V, vs = [v] ∧ ((∃ z : Str, v = .str z ∧ z.length ≤ 1000 ∧ ∀ H', Same H H' → Q (.bl (nameB z)) H') ∨ (NoStr K H v ∧ Q (.bl false) H))
def spCheck (K : PySem.W.Frag) (CB : Addr) : Sp := fun vs H Q E => ∃ v : V, vs = [v] ∧ ((∃ z : Str, v = .str z ∧ z.length ≤ 1000 ∧ nameB z = true ∧ ∀ H', Same H H' → Q .non H') ∨ (NoName K H v ∧ ∀ H' d, Same H H' → H' d = none → E (.ref CB) (some d) (upd H' d (.xd [("value", v)]))))
theorem name_short {z : Str} (h : nameB z = true) (B : Nat) : PyData.leavesShort B (.str z) = true := by
  unfold nameB at h
  have h2 := List.all_eq_true.mp (Bool.and_eq_true_iff.mp h).2
  show (z.cps.toList.all fun c => decide (c < 16 ^ 8)) = true
  refine List.all_eq_true.mpr fun c hc => ?_
  have h3 := h2 c hc
  unfold letter at h3
  have h4 := of_decide_eq_true (Bool.and_eq_true_iff.mp h3).2
  exact decide_eq_true (by omega)
theorem name_strOk {z : Str} (h : nameB z = true) : PyData.strOk z = true := by
  have h2 := List.all_eq_true.mp (Bool.and_eq_true_iff.mp (show (_ && _) = true from h)).2
  unfold PyData.strOk
  rw [Array.all_eq_true']
  intro c hc
  have h3 := h2 c (Array.mem_toList_iff.mpr hc)
  unfold letter at h3
  have h4 := of_decide_eq_true (Bool.and_eq_true_iff.mp h3).2
  exact decide_eq_true (by omega)
theorem strOk_app {x y : Str} (hx : PyData.strOk x = true) (hy : PyData.strOk y = true) : PyData.strOk (x ++ y) = true := by
  obtain ⟨c⟩ := x
  obtain ⟨d⟩ := y
  show (c ++ d).all _ = true
  rw [Array.all_append]
  exact Bool.and_eq_true_iff.mpr ⟨hx, hy⟩
theorem shaped_strs {zs : List Str} (h : ∀ z ∈ zs, PyData.strOk z = true) : SeqAt.shaped (.list (zs.map PyData.str)) = true := by
  refine OwD.shaped_lst (k := 0) (by decide) (fun z hz => ?_) fun z hz => ?_
  · rw [PyData.canLay0]
    exact h z hz
  · exact Nat.le_of_ble_eq_true rfl
theorem eqv_strs {zs : List Str} (h : ∀ z ∈ zs, PyData.strOk z = true) : PyData.eqv (.list (zs.map PyData.str)) (.list (zs.map PyData.str)) = true := SeqAt.eqv_refl _ (SeqAt.canLay_of_shaped (shaped_strs h))
theorem shown_fits {d : PyData} (h : d.leavesShort 100 = true) (hb : d.bulk ≤ 1000) : d.shown.length ≤ sizeLine := by
  have := PyData.shown_le_bulk 100 (by decide) d h
  have sz := sizeLine_eq
  have h2 : (100 + 2) * d.bulk ≤ (100 + 2) * 1000 := Nat.mul_le_mul_left _ hb
  omega
/-- the error class at C, as a def that raises it wants it -/
structure ErrT (K : PySem.W.Frag) (mg : Str → Option Value) (x : Str) (C fI : Addr) : Prop where
  er : OwE.ErrC K C
  g : mg x = some (.ref C)
  ini : PySem.W.findIn K (.ref C) "__init__" = some (some (.ref fI))
  ty : PySem.W.typeIn K (.ref fI) = some (.type "function")
theorem joinL_singles : ∀ cs : List Nat, TL.joinL [] (cs.map fun c => [c]) = cs
  | [] => rfl
  | [_] => rfl
  | a :: b :: r => by
    have ih := joinL_singles (b :: r)
    show [a] ++ ([] ++ TL.joinL [] ((b :: r).map fun c => [c])) = a :: b :: r
    rw [ih]
    rfl
theorem join_signs (cs : List Nat) : Txt.join Str.empty (cs.map fun c => (⟨#[c]⟩ : Str)) = ⟨cs.toArray⟩ := by
  rw [← TL.mk_tl (Txt.join Str.empty (cs.map fun c => (⟨#[c]⟩ : Str))), TL.join_eq, TL.tl_join, List.map_map]
  have e : TL.joinL (TL.tl Str.empty) (cs.map (TL.tl ∘ fun c => (⟨#[c]⟩ : Str))) = cs := joinL_singles cs
  rw [e]
def spPickS : Sp := fun vs H Q _ => ∃ (p c : Addr) (ns : List Int) (n : Nat) (z : Int) (t : Str), vs = [.ref p, .str t] ∧ PenAt H p c ns n z ∧ n < 100000 ∧ 0 < t.length ∧ t.length < 1000 ∧
  ∀ (x : Nat) (n' : Nat) (z' : Int) (H' : Hp), x ∈ t.cps.toList → n' ≤ n + 1 → PenAt H' p c ns n' z' → But p H H' → Q (.str ⟨#[x]⟩) H'
theorem letters_name {cs : List Nat} (h1 : 1 ≤ cs.length) (h8 : cs.length ≤ 8) (hc : ∀ c ∈ cs, letter c = true) : nameB ⟨cs.toArray⟩ = true := by
  unfold nameB
  have e : (⟨cs.toArray⟩ : Str).length = cs.length := List.size_toArray
  rw [e, decide_eq_true h1, decide_eq_true h8, Bool.true_and, Bool.true_and]
  exact List.all_eq_true.mpr hc
end K10
end
section
/-! Own: a lambda handed to a def of the text by its name; what stays meanwhile. -/
namespace OwE
open PySem PySem.Spec PyProof.Rows L2
theorem pe_lam {X : Cx} {x a q : Str} {sH : Stmt} {g c Pt : Addr} {gd : FuncData} {Ng : List Str} {TT : (XK → Hp → VK → Prop) → Hp → VK → Prop} {k : Nat} {params : Arguments} {body : Expr} {scope : Scope} {t : XK → TE} {p lpos pos : Pos}
    (hg : Gl X x) (F : Fun X.K x x sH g gd) (hm : X.mg x = some (.ref g)) (hb : L2.Binds X.K gd [a] []) (Sg : FnScope Ng [a] (defScope sH)) (hNg : Ng[0]? = some a) (hva : Vis (defScope sH) a) (hq : X.env.qual ++ "<lambda>" = q)
    (hG : ∀ cdv, LamX.GivesTo X Ng x (defScope sH) g cdv (defBody sH) a q TT) (TB : LamX.TabB X.base X.mg c Pt) (hcode : X.env.code = .ref c) (hr : Room (k + 2) X.A) (L : LamX.LamS X.env.scope scope)
    (hbody : ∀ (A : Around) (outer : List Env) (s : Shared) (H : Hp) (E : XK) (f c' : Addr), Room k (A.deeper (LamX.lamEnv X scope s.heap.objs.size f c')) → PE (LamX.lamCx X A outer s H E scope f c') body (t E))
    (hdef : defaultsOf params X.env = ([], []) := by rfl) (hbind : ∀ (q : Str) (cl : List (Str × Addr)) (pm cv ctv : Value), bindArgs (PySem.W.kla_fn "<lambda>" q params body scope cl pm cv ctv) ⟨[], []⟩ = pure [] := by intros; rfl)
    (hdb : (x == ("__debug__" : Str)) = false := by decide) (hd : (a == ("__debug__" : Str)) = false := by decide) (hcd : (a == ("__classdict__" : Str)) = false := by decide) :
    PE X (.Call (.Name x p) [.Lambda params body scope lpos] [] pos) (LamX.tLam [(Pt, q)] TT t) := by
  subst hq
  obtain ⟨oc, od, kV, doc, pm, an, cdv, ct, osl, rfl, lk, hcdv⟩ := F.ex
  exact LamX.pe_lamcall hg hm F.kp lk hcdv hb Sg hNg hva (hG cdv) TB hcode (List.mem_singleton.mpr rfl) (fun p hp _ => by rw [List.mem_singleton.mp hp]) hr L hdef hbind hbody hdb hd hcd
/-- what is wished may lean on the number of slots -/
theorem takes_len {X : Cx} {W : WX} (t : Takes X W) : Takes X (fun c d σ H => σ.length = X.N.length → W c d σ H) := fun u s' ⟨a, B, sI, pins, σ, H, cls, d, e, I, nb, up, sky, na, os, ag, w⟩ =>
  t u s' ⟨a, B, sI, pins, σ, H, cls, d, e, I, nb, up, sky, na, os, ag, w I.len⟩
theorem set_get {σ : L2.St} {n i : Nat} {v : Option V} (h : σ.length = n) (hi : i < n) : (σ.set i v)[i]? = some v := by
  rw [List.getElem?_set_self (by omega)]
end OwE
namespace K10
open PySem PySem.Spec PyProof.Rows L2
/-- all but the pen and the tables of code stay -/
def Lo (p : Addr) (H H' : Hp) : Prop := ∀ b o, b ≠ p → (∀ ps, o ≠ .tbl ps) → H b = some o → H' b = some o
theorem Lo.refl (p : Addr) (H : Hp) : Lo p H H := fun _ _ _ _ h => h
theorem Lo.trans {p : Addr} {H H1 H2 : Hp} (a : Lo p H H1) (b : Lo p H1 H2) : Lo p H H2 := fun c o n t h => b c o n t (a c o n t h)
theorem But.lo {p : Addr} {H H' : Hp} (s : But p H H') : Lo p H H' := fun b o n _ h => s b o n h
theorem Same.lo {H H' : Hp} (p : Addr) (s : Same H H') : Lo p H H' := fun b o _ _ h => s b o h
theorem extN_lo {H H' : Hp} (p : Addr) (s : LamX.ExtN H H') : Lo p H H' := fun b o _ t h => s b o h t
theorem PenAt.ext {H H' : Hp} {p c : Addr} {ns : List Int} {n : Nat} {z : Int} (P : PenAt H p c ns n z) (s : LamX.ExtN H H') : PenAt H' p c ns n z := ⟨s _ _ P.pen (fun ps h => by cases h), s _ _ P.cells (fun ps h => by cases h), P.few, P.rest⟩
theorem PenAt.lo {H H' : Hp} {p c : Addr} {ns : List Int} {n : Nat} {z : Int} (P : PenAt H p c ns n z) (s : Lo p H H') (hp : H' p = H p) : PenAt H' p c ns n z := ⟨hp.trans P.pen, s _ _ P.ne (fun ps h => by cases h) P.cells, P.few, P.rest⟩
theorem PenAt.ne_of {H : Hp} {p c : Addr} {ns : List Int} {n : Nat} {z : Int} (P : PenAt H p c ns n z) {b : Addr} {o : HO} (h : H b = Option.some o) (d : ∀ (c : Addr) (n z : Int), o ≠ .lst [.ref c, .int n, .int z]) : b ≠ p := fun q => by
  rw [q, P.pen] at h
  exact d _ _ _ (Option.some.inj h).symm
theorem tabs_but {T : List (Addr × Str)} {H H' : Hp} {p c : Addr} {ns : List Int} {n : Nat} {z : Int} (t : LamX.Tabs T H) (P : PenAt H p c ns n z) (s : But p H H') : LamX.Tabs T H' := fun e he => by
  obtain ⟨ps, h1, h2, h3⟩ := t e he
  have np : ∀ {b : Addr} {o : HO}, H b = some o → (∀ xs, o ≠ .lst xs) → b ≠ p := fun {b o} h d q => by
    rw [q, P.pen] at h
    exact d _ (Option.some.inj h).symm
  refine ⟨ps, s _ _ (np h1 fun xs h => by cases h) h1, h2, fun pos cv hc => ?_⟩
  obtain ⟨c2, e1, e2⟩ := h3 pos cv hc
  exact ⟨c2, e1, s _ _ (np e2 fun xs h => by
    unfold LamX.CodeO at h
    cases h) e2⟩
theorem tabs_put {T : List (Addr × Str)} {H : Hp} {l : Addr} {xs : List V} {o : HO} (t : LamX.Tabs T H) (h : H l = some (.lst xs)) : LamX.Tabs T (upd H l o) := fun e he => by
  obtain ⟨ps, h1, h2, h3⟩ := t e he
  have np : ∀ {b : Addr} {o : HO}, H b = some o → (∀ xs, o ≠ .lst xs) → b ≠ l := fun {b o} e d q => by
    rw [q, h] at e
    exact d _ (Option.some.inj e).symm
  refine ⟨ps, by rw [upd_ne (np h1 fun xs h => by cases h)]; exact h1, h2, fun pos cv hc => ?_⟩
  obtain ⟨c2, e1, e2⟩ := h3 pos cv hc
  have n2 : c2 ≠ l := np e2 fun xs h => by
    unfold LamX.CodeO at h
    cases h
  exact ⟨c2, e1, by rw [upd_ne n2]; exact e2⟩
theorem PenAt.lput {H : Hp} {p c l : Addr} {ns : List Int} {n : Nat} {z : Int} {s : Str} {xs : List V} {o : HO} (P : PenAt H p c ns n z) (nl : l ≠ p) (h : H l = Option.some (.lst (.str s :: xs))) : PenAt (upd H l o) p c ns n z := by
  refine P.put (Ne.symm nl) fun q => ?_
  rw [← q, P.cells] at h
  cases ns with
  | nil => cases h
  | cons a r => cases h
theorem tabs_same {T : List (Addr × Str)} {H H' : Hp} (t : LamX.Tabs T H) (s : Same H H') : LamX.Tabs T H' := t.ext fun b o h => s b o h
end K10
end
section
namespace OwR
open PySem PySem.Spec PyProof.Rows L2
/-! ### tuple(d), d a dict: its keys -/
section
variable {prog : Program} {w : World} {A : Around} {E : Value → Shared → Prop} {s : Shared} {T : String} {r d : Addr} {n : Nat} {P : Nat → Value → Prop} {OK : Heap → Prop}
theorem collect_src {Q : List Value → Shared → Prop} (K : PySem.W.KdlSrc prog w T r d n P OK) (hh : A.handled = none) (hok : OK s.heap) (hn : n ≤ sizeLine)
    (hQ : ∀ h' tk (out : List Value), (∀ b o, s.heap.get? b = some o → h'.get? b = some o) → out.length = n → (∀ j v, out[j]? = some v → P j v) → Q out { s with heap := h', toks := tk }) :
    wpAny (model prog w) A (collect (.ref r)) Q E s := by
  unfold collect
  refine wpAny_bind (wpAny_runValue (codeAny_builtin F.entry_proto_collect ?_))
  rw [Around.under_plainId F.plain_proto_collect _]
  show wpAny _ A.in1 (newList [] >>= fun l => again (.builtin "list.__iadd__" ⟨[l, .ref r], []⟩)) _ _ s
  refine wpAny_bind (wpAny_newObj_type ?_)
  refine wpAny_pure ⟨plainId_quiet F.plain_list_iadd _, codeAny_builtin F.entry_list_iadd ?_⟩
  rw [Around.under_plainId F.plain_list_iadd _]
  have there := K.there _ hok
  have hS : (s.heap.push { cls := .type "list", data := .seq ([] : List Value).toArray }).get? s.heap.objs.size = some { cls := .type "list", data := .seq #[] 0 } := Heap.get?_push_size _ rfl
  have fin : ∀ h' tk (acc : Array Value) (c : Nat), (∀ b o, b ≠ s.heap.objs.size → (s.heap.push { cls := .type "list", data := .seq ([] : List Value).toArray }).get? b = some o → h'.get? b = some o) →
      h'.get? s.heap.objs.size = some { cls := .type "list", dict := none, data := .seq acc c, slots := #[] } → ItemsOf P acc n →
      wpAny (model prog w) A (load s.heap.objs.size >>= fun ob => match ob.data with
        | .seq vs _ => pure vs.toList
        | _ => unsupported "internal:collect") Q E { s with heap := h', toks := tk } := fun h' tk acc c k hS' hacc =>
    wpAny_bind (wpAny_load hS' (wpAny_pure (hQ h' tk acc.toList (fun b o e => k b o (Nat.ne_of_lt (Heap.lt_size e)) (Heap.get?_push_of_some _ e)) (by rw [Array.length_toList]; exact hacc.1) fun j v e => hacc.2 j v (by rw [← Array.getElem?_toList]; exact e))))
  refine wpAny_mono (PySem.W.kdl_extend (A := A) (R := fun r s' => r = .ok (.ret (.ref s.heap.objs.size)) ∧ wpAny (model prog w) A (load s.heap.objs.size >>= fun ob => match ob.data with
        | .seq vs _ => pure vs.toList
        | _ => unsupported "internal:collect") Q E s') (s := { s with heap := s.heap.push { cls := .type "list", data := .seq ([] : List Value).toArray } }) K hh (K.keep _ _ hok fun b _ o e => Heap.get?_push_of_some _ e) s.heap.objs.size
    (Nat.ne_of_gt there.1) (Nat.ne_of_gt there.2) (.ref s.heap.objs.size) 0 hS (fun h' tk acc c k hS' hacc => ⟨rfl, fin h' tk acc c k hS' hacc⟩) hn) (fun f s' h => ?_) fun e s' h => ?_
  · cases f with
    | done f =>
      obtain ⟨e, z⟩ := h
      cases e
      exact z
    | again c' => exact ⟨h.1, codeAny_mono h.2 fun r s2 hr => by obtain ⟨rfl, z⟩ := hr; exact z⟩
  · cases h.1
theorem call_tuple_src {Q : Value → Shared → Prop} (K : PySem.W.KdlSrc prog w T r d n P OK) (hok : OK s.heap) (hn : n ≤ sizeLine) (hh : A.handled = none)
    (hQ : ∀ (h' : Heap) (tk : Nat) (out : List Value), (∀ b o, s.heap.get? b = some o → h'.get? b = some o) → out.length = n → (∀ j v, out[j]? = some v → P j v) →
      Q (.ref h'.objs.size) { s with heap := h'.push { cls := .type "tuple", data := .seq out.toArray }, toks := tk }) :
    wpAny (model prog w) A (call (.type "tuple") [.ref r]) Q E s := by
  have M : MeetsIn prog w (Builtin.«tuple.__new__» ⟨[.type "tuple", .ref r], []⟩) (fun (A' : Around) (R : Result → Shared → Prop) (s : Shared) => A'.handled = none ∧ OK s.heap ∧ ∀ (h' : Heap) (tk : Nat) (out : List Value), (∀ b o, s.heap.get? b = some o → h'.get? b = some o) → out.length = n → (∀ j v, out[j]? = some v → P j v) →
      R (.ok (.ret (.ref h'.objs.size))) { s with heap := h'.push { cls := .type "tuple", data := .seq out.toArray }, toks := tk }) := .of_wp fun A R s h => by
    obtain ⟨hp, g, dr, tk, os⟩ := s
    obtain ⟨hh', ht, h⟩ := h
    have hsub := sub_tuple_self
    have hinit := init_tuple_lookup
    have hmh := madeHere_tuple
    have hT : Shared.TypeIs ⟨hp, g, dr, tk, os⟩ (.ref r) T := K.type _ ht
    have col : ∀ {Q : List Value → Shared → Prop} {E : Value → Shared → Prop}, (∀ (h' : Heap) (tk' : Nat) (out : List Value), (∀ b o, hp.get? b = some o → h'.get? b = some o) → out.length = n → (∀ j v, out[j]? = some v → P j v) → Q out ⟨h', g, dr, tk', os⟩) →
        wpAny (model prog w) A.in1 (collect (.ref r)) Q E ⟨hp, g, dr, tk, os⟩ := fun hq => collect_src (s := ⟨hp, g, dr, tk, os⟩) K hh' ht hn hq
    have hnt : (Value.type T == Value.type "tuple") = false := K.notTuple
    wp_walk using wpAny_typeOf hT, col
    intro h' tk' out k l1 l2
    refine wpAny_bind (wpAny_pure ?_)
    show wpAny _ _ (Builtin.Tuple.tupleExact out.toArray >>= fun v => ret v) _ _ _
    unfold Builtin.Tuple.tupleExact
    refine wpAny_bind (wpAny_newObj_type ?_ (by show out.toArray.size ≤ sizeLine; rw [List.size_toArray, l1]; exact hn))
    exact wpAny_pure ⟨_, rfl, h h' tk' out k l1 l2⟩
  exact callType_newIn F.called_tuple (by decide) (F.typeCall_tuple_1 _) (F.newCall_tuple_1 _) (fun obj => F.args_object_init_2 obj _) F.entry_tuple_new M
    ⟨hh, hok, fun h' tk out k l1 l2 => ⟨⟨_, Heap.get?_push_size _ rfl, rfl⟩, hQ h' tk out k l1 l2⟩⟩
end
theorem call_tupleD {X : Cx} (hcalm : X.calm = true) : CallR X (.type "tuple") (fun xs H Q => ∃ (a : Addr) (kvs : List (Key × V)), xs = [.ref a] ∧ Rd H a (.dK kvs) ∧ ∀ p, H p = none → Q (.ref p) (upd H p (.tup (kvs.map fun kv => kV kv.1)))) := by
  intro pins s σ H xs us Q I r q
  obtain ⟨a, kvs, ex, hd, q⟩ := q
  subst ex
  obtain ⟨u, eu, rx⟩ := vals1 r
  subst eu
  cases rx
  obtain ⟨z, lo, vs, rel, dd⟩ := dk_rd I.hok hd
  obtain ⟨ep, hat⟩ := dd.dictAt
  have ek : (kvs.map fun kv => kV kv.1) = vs.map fun p => kV p.1 := by
    have e := congrArg (List.map kV) rel.keys
    rw [List.map_map, List.map_map] at e
    exact e
  refine call_tuple_src (PySem.W.kdl_dict (knd := mixKind X.prog X.w) (kvs := vs) (ep := ep) lo) hat (by rw [← rel.length]; exact z) (I.ok.hd hcalm) fun h' tk out k l1 l2 => ?_
  have hv : Vals (vs.map fun p => kV p.1) out := keys_at l1 fun j v e => l2 j v e
  have I1 : Inv X pins σ H { s with heap := h', toks := tk } := I.kept (t' := tk) k
  exact ⟨.ref h'.objs.size, _, I1.laid (t' := tk) (o := .tup (kvs.map fun kv => kV kv.1)) (fun b o e => Heap.get?_push_of_some _ e) (Nat.le_refl _) ⟨by rw [List.length_map]; exact z, out, by rw [ek]; exact hv, ⟨_, Heap.get?_push_size _ rfl, rfl, 0, rfl⟩⟩, rfl, q _ (I1.hok.fresh (Nat.le_refl _))⟩
end OwR
end
section
namespace TSet
open PySem PySem.Spec PyProof.Rows L2
/-- an entry of a set of texts -/
def TE (w : World) (e : Int × Value) : Prop := ∃ z tk, e = (hashStr w z, Value.str z tk)
def tk1 (e : Int × Value) : Str := strOf e.2
/-- the set object at a holds just the texts L, each once -/
def TS (w : World) (h : Heap) (a : Addr) (L : List Str) : Prop :=
  ∃ ob ents ep tab, h.get? a = some ob ∧ ob.ExactSet ∧ ob.data = .set ents ep tab ∧ (∀ e ∈ ents.toList, TE w e) ∧ (ents.toList.map tk1).Perm L ∧
    L.Nodup ∧ L.length < scanBound ∧ tab.fits ents.size = true ∧ Ris tab.place.toList ∧ (w.params.followText "set-order" = true ∨ tab.led = true)
section
variable {P : Program} {w : World} {h h' : Heap} {a : Addr} {L : List Str}
theorem TS.keep (R : TS w h a L) (k : ∀ o, h.get? a = some o → h'.get? a = some o) : TS w h' a L := by
  obtain ⟨ob, ents, ep, tab, h1, rest⟩ := R
  exact ⟨ob, ents, ep, tab, k ob h1, rest⟩
theorem te_is {e : Int × Value} (g : TE w e) (z : Str) : (strKind P w).is z e.2 = true ↔ tk1 e = z := by
  obtain ⟨y, tk, rfl⟩ := g
  show ((y == z) = true) ↔ y = z
  exact beq_iff_eq
theorem te_elems {l : List (Int × Value)} (g : ∀ e ∈ l, TE w e) : ElemsOf (strKind P w) l := fun e he => by
  obtain ⟨z, tk, rfl⟩ := g e he
  exact ⟨⟨z, strKind_is P w z tk, rfl⟩, rfl⟩
theorem te_mem {l : List (Int × Value)} (g : ∀ e ∈ l, TE w e) (z : Str) : z ∈ l.map tk1 ↔ ∃ e ∈ l, (strKind P w).is z e.2 = true := by
  constructor
  · intro m
    obtain ⟨e, he, q⟩ := List.mem_map.mp m
    exact ⟨e, he, (te_is (g e he) z).2 q⟩
  · rintro ⟨e, he, q⟩
    exact List.mem_map.mpr ⟨e, he, (te_is (g e he) z).1 q⟩
theorem TS.fresh {ob : Obj} (ho : h.get? a = some ob) (e : ob = { cls := .type "set", dict := none, data := .set #[] 0 (.fresh 0 0 (!w.params.followText "set-order")) }) : TS w h a [] := by
  subst e
  refine ⟨_, #[], 0, _, ho, ⟨rfl, rfl, rfl⟩, rfl, fun e he => by simp at he, List.Perm.refl _, List.nodup_nil, by decide, rfl, List.Pairwise.nil, ?_⟩
  show w.params.followText "set-order" = true ∨ (!w.params.followText "set-order") = true
  cases w.params.followText "set-order" <;> simp
end
/-- one more text -/
def put1 (L : List Str) (z : Str) : List Str := if z ∈ L then L else z :: L
theorem put1_len (L : List Str) (z : Str) : (put1 L z).length ≤ L.length + 1 := by
  unfold put1
  split
  · exact Nat.le_succ _
  · exact Nat.le_refl _
section
variable {P : Program} {w : World} {A : Around} {E : Value → Shared → Prop} {s : Shared} {a : Addr} {L : List Str}
theorem ts_add_end {g : Bool → Sem Unit} (hg : ∀ (b : Bool) (s₁ : Shared) (Q' : Unit → Shared → Prop), Q' () s₁ → wpAny (model P w) A (g b) Q' E s₁)
    {ob : Obj} {ents : Array (Int × Value)} {ep : Nat} {tab : SetTable} (ho : s.heap.get? a = some ob) (hex : ob.ExactSet) (hd : ob.data = .set ents ep tab)
    {en1 : Array (Int × Value)} {tb : SetTable} {M : List Str} (g1 : ∀ e ∈ en1.toList, TE w e) (pm1 : (en1.toList.map tk1).Perm M) (nd1 : M.Nodup)
    (hb : M.length < scanBound) (hf : tb.fits en1.size = true) (hr : Ris tb.place.toList) (hl : w.params.followText "set-order" = true ∨ tb.led = true) {dm : Bool} {R : Option Bool → Shared → Prop}
    (hR : ∀ h', Heap.SameBut a s.heap h' → TS w h' a M → R (some true) { s with heap := h' }) :
    wpAny (model P w) A (do
        storeSet a en1 tb
        if (!dm && tb.tooFull) = true then do
            g (relayAll tb en1 (SetTable.grown en1.size)).2.2
            storeSet a (relayAll tb en1 (SetTable.grown en1.size)).1 (relayAll tb en1 (SetTable.grown en1.size)).2.1
            pure (some true)
          else pure (some true)) R E s := by
  have hn1 : en1.size = M.length := by
    have q := pm1.length_eq
    rw [List.length_map, Array.length_toList] at q
    exact q
  refine wpAny_bind (wpAny_storeSet_of ho hd ?_ (fits_of_scanBound (by rw [hn1]; exact hb)))
  have ho1 := store_at (es' := en1) (t' := tb) ho hd
  have sb1 := Heap.SameBut.update s.heap a (Obj.putSet en1 tb)
  split
  · have pm := relayAll_perm tb en1 (SetTable.grown en1.size)
    have hf3 := relayAll_fits tb en1 (SetTable.grown en1.size)
    have hr3 := relayAll_ris tb en1 (SetTable.grown en1.size)
    have hl3 := relayAll_led tb en1 (SetTable.grown en1.size)
    generalize relayAll tb en1 (SetTable.grown en1.size) = Z at pm hf3 hr3 hl3 ⊢
    obtain ⟨en2, tb3, gave⟩ := Z
    dsimp only at pm hf3 hr3 hl3 ⊢
    have hn2 : en2.size = M.length := by rw [← hn1, ← Array.length_toList, pm.length_eq, Array.length_toList]
    refine wpAny_bind (hg _ _ _ ?_)
    refine wpAny_bind (wpAny_storeSet_of ho1 rfl ?_ (fits_of_scanBound (by rw [hn2]; exact hb)))
    have ho2 := store_at (es' := en2) (t' := tb3) ho1 rfl
    exact wpAny_pure (hR _ (sb1.trans (Heap.SameBut.update _ a _)) ⟨_, en2, _, tb3, ho2, hex, rfl, fun e he => g1 e (pm.mem_iff.mp he), (pm.map tk1).trans pm1, nd1, hb, hf3, hr3, by rw [hl3]; exact hl⟩)
  · exact wpAny_pure (hR _ sb1 ⟨_, en1, _, tb, ho1, hex, rfl, g1, pm1, nd1, hb, hf, hr, hl⟩)
theorem ts_add {z : Str} {tk : Tok} {Q : Bool → Shared → Prop} (R : TS w s.heap a L) (room : L.length + 1 < scanBound)
    (hQ : ∀ b h', Heap.SameBut a s.heap h' → TS w h' a (put1 L z) → Q b { s with heap := h' }) :
    wpAny (model P w) A (setAddHashed a (.str z tk) ((strKind P w).hash z)) Q E s := by
  obtain ⟨ob, ents, ep, tab, ho, hex, hd, g, pm0, nd, hb, hf, hr, hl⟩ := R
  have hkey : (strKind P w).is z (.str z tk) = true := strKind_is P w z tk
  have hsc : (Value.str z tk).scannable = true := rfl
  have hel : ElemsOf (strKind P w) ents.toList := te_elems g
  have hn : ents.size = L.length := by
    have q := pm0.length_eq
    rw [List.length_map, Array.length_toList] at q
    exact q
  unfold setAddHashed setAddHashedIn
  refine wpAny_holding (wpAny_bind (wpAny_setState_of ho hd hf ?_))
  dsimp only
  rw [byScan_of hsc (by rw [hn]; exact hb) hel]
  simp only [↓reduceIte]
  unfold setAddByScan
  refine wpAny_bind (wpAny_bind (wpAny_rule (wpAny_bind (wpAny_setScan_of hkey ho hd hf hel ?_))))
  cases hfi : List.findIdx? (fun e => (strKind P w).is z e.2) ents.toList with
  | some j =>
    dsimp only
    obtain ⟨hj, pj, _⟩ := List.findIdx?_eq_some_iff_getElem.mp hfi
    have hz : z ∈ L := pm0.mem_iff.mp ((te_mem (P := P) (w := w) g z).2 ⟨ents.toList[j], List.getElem_mem hj, pj⟩)
    refine wpAny_pure (wpAny_pure ?_)
    refine hQ _ s.heap (Heap.SameBut.refl a s.heap) ?_
    unfold put1
    rw [if_pos hz]
    exact ⟨ob, ents, ep, tab, ho, hex, hd, g, pm0, nd, hb, hf, hr, hl⟩
  | none =>
    dsimp only
    have hz : z ∉ L := fun q => by
      obtain ⟨e, he, c⟩ := (te_mem (P := P) (w := w) g z).1 (pm0.mem_iff.mpr q)
      have d := List.findIdx?_eq_none_iff.mp hfi e he
      rw [c] at d
      cases d
    have hgw : ∀ (b : Bool) {s₁ : Shared} {Q' : Unit → Shared → Prop}, Q' () s₁ → wpAny (model P w) A (match b with | true => rule "set.scan.the-table-gave-way" | false => pure ()) Q' E s₁ :=
      fun b _ _ q => by cases b <;> first | exact wpAny_pure q | exact wpAny_rule q
    have pm := layNew_perm tab ents ((strKind P w).hash z) (.str z tk)
    have hf1 := layNew_fits tab ents ((strKind P w).hash z) (.str z tk)
    have hr1 := layNew_ris tab ents ((strKind P w).hash z) (.str z tk) hr
    have hl1 := layNew_led tab ents ((strKind P w).hash z) (.str z tk)
    generalize layNew tab ents ((strKind P w).hash z) (.str z tk) = Z at pm hf1 hr1 hl1 ⊢
    obtain ⟨en1, tb1, dmy, gave⟩ := Z
    dsimp only at pm hf1 hr1 hl1 ⊢
    rw [Array.toList_push] at pm
    have pc : en1.toList.Perm (((strKind P w).hash z, Value.str z tk) :: ents.toList) := pm.trans (List.perm_append_singleton _ _)
    have pk : (en1.toList.map tk1).Perm (z :: L) := (pc.map tk1).trans (List.Perm.cons z pm0)
    have g1 : ∀ e ∈ en1.toList, TE w e := fun e he => by
      rcases List.mem_cons.mp (pc.mem_iff.mp he) with q | q
      · exact ⟨z, tk, q⟩
      · exact g e q
    have nd1 : (z :: L).Nodup := List.nodup_cons.mpr ⟨hz, nd⟩
    have hled : w.params.followText "set-order" = true ∨ tb1.led = true := by rw [hl1]; exact hl
    have e1 : put1 L z = z :: L := if_neg hz
    rw [e1] at hQ
    refine wpAny_bind (hgw _ ?_)
    split
    · refine wpAny_bind ?_
      rw [hashByValue_scannable 8 hsc]
      refine wpAny_pure ?_
      refine ts_add_end (dm := dmy) ?_ ho hex hd g1 pk nd1 room ?_ ?_ ?_ ?_
      · intro b _ _ q; cases b <;> first | exact wpAny_pure q | exact wpAny_rule q
      · first | (split <;> first | exact hf1 | exact SetTable.fits_plain_off hf1) | exact hf1
      · first | (split <;> exact hr1) | exact hr1
      · first | (split <;> exact hled) | exact hled
      · intro h' sb r; dsimp only; exact wpAny_pure (hQ _ h' sb r)
    · refine wpAny_bind (wpAny_pure ?_)
      simp only [↓reduceIte]
      refine ts_add_end (dm := dmy) ?_ ho hex hd g1 pk nd1 room hf1 hr1 hled ?_
      · intro b _ _ q; cases b <;> first | exact wpAny_pure q | exact wpAny_rule q
      · intro h' sb r; dsimp only; exact wpAny_pure (hQ _ h' sb r)
end
end TSet
end
section
namespace TSet
open PySem PySem.Spec PyProof.Rows L2
/-- the texts of a list, each once -/
def ded (xs : List Str) : List Str := xs.foldl put1 []
theorem put1_mem (L : List Str) (z y : Str) : y ∈ put1 L z ↔ y = z ∨ y ∈ L := by
  unfold put1
  split
  · rename_i h
    exact ⟨.inr, fun q => q.elim (fun e => e ▸ h) id⟩
  · exact List.mem_cons
theorem fold_mem : ∀ (xs L : List Str) (y : Str), y ∈ xs.foldl put1 L ↔ y ∈ L ∨ y ∈ xs
  | [], L, y => by simp
  | x :: xs, L, y => by
    rw [List.foldl_cons, fold_mem xs, put1_mem, List.mem_cons]
    constructor
    · rintro ((q | q) | q)
      · exact .inr (.inl q)
      · exact .inl q
      · exact .inr (.inr q)
    · rintro (q | q | q)
      · exact .inl (.inr q)
      · exact .inl (.inl q)
      · exact .inr q
theorem ded_mem (xs : List Str) (y : Str) : y ∈ ded xs ↔ y ∈ xs := by
  unfold ded
  rw [fold_mem]
  simp
theorem fold_len : ∀ (xs L : List Str), (xs.foldl put1 L).length ≤ L.length + xs.length
  | [], L => Nat.le_refl _
  | x :: xs, L => by
    have q := fold_len xs (put1 L x)
    have r := put1_len L x
    rw [List.foldl_cons, List.length_cons]
    omega
theorem ded_len (xs : List Str) : (ded xs).length ≤ xs.length := by
  have q := fold_len xs []
  unfold ded
  simpa using q
theorem ded_snoc (xs : List Str) (x : Str) : ded (xs ++ [x]) = put1 (ded xs) x := by
  unfold ded
  rw [List.foldl_append]
  rfl
theorem take_snoc {α : Type} {l : List α} {i : Nat} {x : α} (h : l[i]? = some x) : l.take (i + 1) = l.take i ++ [x] := by
  rw [List.take_add_one, h]
  rfl
section
variable {P : Program} {w : World} {A : Around} {E : Value → Shared → Prop} {s : Shared}
theorem upd_loop {I : Addr} {fp wr : List Addr} {G : Array GenState → Array GenState → Prop} {n : Nat} {Pv : Nat → Value → Prop} {St : Nat → Shared → Prop} {R : Result → Shared → Prop}
    (W : WalksS P w A.in1 I fp wr G n Pv St) (S : Addr) (out : S ∉ fp) (xs : List Str) (hn : n = xs.length) (few : xs.length < scanBound) (hval : ∀ i v, Pv i v → ∃ z t, xs[i]? = some z ∧ v = .str z t) :
    ∀ (k i : Nat) (s : Shared), n - i = k → i ≤ n → St i s → TS w s.heap S (ded (xs.take i)) →
      (∀ s', Moved (S :: wr) G s s' → TS w s'.heap S (ded xs) → R (.ok (.ret .none)) s') →
      codeAny (model P w) A (.builtin "set.update.loop" ⟨[.ref S, .ref I], []⟩) R s := by
  have hSw : S ∉ wr := fun h => out (W.sub _ h)
  have hsub : ∀ b ∈ wr, b ∈ S :: wr := fun b hb => List.mem_cons_of_mem _ hb
  intro k
  induction k with
  | zero =>
    intro i s hk hi hst hS hR
    obtain rfl : i = n := by omega
    refine codeAny_builtin F.entry_set_update_loop ?_
    rw [Around.under_plainId F.plain_set_update_loop _]
    refine wpAny_bind (m := pyNext (.ref I)) (W.done s _ _ hst fun s' hm => ?_)
    rw [hn, List.take_length] at hS
    exact wpAny_pure (hR s' (hm.mono hsub) (hS.keep fun o e => hm.heap S o hSw e))
  | succ k ih =>
    intro i s hk hi hst hS hR
    have hlt : i < n := by omega
    refine codeAny_builtin F.entry_set_update_loop ?_
    rw [Around.under_plainId F.plain_set_update_loop _]
    refine wpAny_bind (m := pyNext (.ref I)) (W.item i s _ _ hlt hst fun v s' hP hst' hm => ?_)
    obtain ⟨z, t, hz, rfl⟩ := hval i v hP
    have hS1 : TS w s'.heap S (ded (xs.take i)) := hS.keep fun o e => hm.heap S o hSw e
    have hl : (ded (xs.take i)).length + 1 < scanBound ∨ (ded (xs.take i)).length + 1 ≤ xs.length := by
      have q := ded_len (xs.take i)
      rw [List.length_take] at q
      right
      omega
    have hroom : (ded (xs.take i)).length + 1 < scanBound := hl.elim id fun q => Nat.lt_of_le_of_lt q few
    refine wpAny_bind (m := holding [Value.str z t] (setAdd S (.str z t))) (wpAny_holding ?_)
    unfold setAdd
    refine wpAny_holding (wpAny_bind ((strKind P w).pyHash (k := z) (strKind_is _ _ _ _) ?_))
    refine ts_add (s := { s' with toks := s'.toks + 1 }) hS1 hroom fun b h' sb hS2 => ?_
    rw [← ded_snoc, ← take_snoc hz] at hS2
    refine wpAny_pure ⟨plainId_quiet F.plain_set_update_loop _, ih (i + 1) _ (by omega) hlt (W.frame _ s' _ _ hst' (Nat.le_succ _) fun c hc o e => ?_) hS2 fun s2 hm2 hS3 => ?_⟩
    · rw [sb.2 c fun q => out (q ▸ hc)]; exact e
    · refine hR s2 (Moved.trans W.gtrans ((hm.mono hsub).then_heap (Nat.le_succ _) fun c o hc e => ?_) hm2) hS3
      rw [sb.2 c fun q => hc (by rw [q]; exact List.mem_cons_self)]; exact e
theorem strs_ix : ∀ {us : List Value} {xs : List Str}, StrsAre us xs → ∀ (i : Nat) (v : Value), us[i]? = some v → ∃ z t, xs[i]? = some z ∧ v = .str z t
  | _, _, .nil, i, v, h => by simp at h
  | _, _, .cons z t _, 0, v, h => ⟨z, t, rfl, (Option.some.inj h).symm⟩
  | _, _, .cons _ _ r, i + 1, v, h => by
    rw [List.getElem?_cons_succ] at h
    rw [List.getElem?_cons_succ]
    exact strs_ix r i v h
abbrev nob (w : World) : Obj := { cls := .type "set", dict := none, data := .set #[] 0 (.fresh 0 0 (!w.params.followText "set-order")) }
/-- set(xs), xs a list of texts -/
theorem call_set_texts {l : Addr} {items : Array Value} {xs : List Str} {Q : Value → Shared → Prop} (hh : A.handled = none) (hl : s.heap.IsList l items) (hi : StrsAre items.toList xs) (few : xs.length < scanBound)
    (hq : ∀ (h' : Heap) (tk : Nat), TS w h' s.heap.objs.size (ded xs) → (∀ b o, s.heap.get? b = some o → h'.get? b = some o) → Q (.ref s.heap.objs.size) { s with heap := h', toks := tk }) :
    wpAny (model P w) A (call (.type "set") [.ref l]) Q E s := by
  have hisz : items.size = xs.length := by rw [← Array.length_toList]; exact StrsAre.len_eq hi
  obtain ⟨c, tl, hmro⟩ := F.called_set.mro
  have hmade := F.called_set.made
  have hsub := F.called_set.sub
  refine wpAny_call (codeAny_of_tree ?_)
  show wpAny _ _ (callAny (.type "set") _) _ _ _
  refine wpAny_pure ⟨Code.quiet_builtin _ (by decide +kernel), codeAny_builtin F.entry_type_call ?_⟩
  rw [Around.under_plain (weight_type_call_type "set" [.ref l] []) rfl]
  have h1 := F.called_set.notType
  have h2 := F.called_set.canCreate
  have hct := F.typeCall_set_1 (.ref l)
  repeat (any_goals (first | assumption | wp_step))
  refine codeAny_mono (code_set_led1 (.ref l) (E := E) (Q₁ := fun ov s₁ => ov = .ref s.heap.objs.size ∧ s₁ = { s with heap := s.heap.push { cls := .type "set", dict := none, data := .set #[] 0 (.fresh 0 0 (!w.params.followText "set-order")) } }) ⟨rfl, rfl⟩) fun r s₁ hr => ?_
  cases r with
  | error e => exact hr
  | ok fl =>
    cases fl with
    | ret ov =>
      obtain ⟨rfl, rfl⟩ := hr
      have hS : (s.heap.push (nob w)).get? s.heap.objs.size = some (nob w) := Heap.get?_push_size _ rfl
      have hT : Shared.TypeIs { s with heap := s.heap.push (nob w) } (.ref s.heap.objs.size) "set" := ⟨_, hS, rfl⟩
      have hli := F.called_set.init.lookup
      have hbi := F.called_set.init.bind (.ref s.heap.objs.size)
      repeat (any_goals (first | assumption | wp_step))
      refine codeAny_mono (codeAny_call_builtin (R := wants (fun r s₂ => r = .none ∧ ∃ h' tk, s₂ = { s with heap := h', toks := tk } ∧ TS w h' s.heap.objs.size (ded xs) ∧
          (∀ b o, s.heap.get? b = some o → h'.get? b = some o)) E) F.called_set.init.plain F.entry_set_init (check_set_init_1 hT ?_)) fun r₂ s₂ hr₂ => ?_
      · obtain ⟨ol, hol, hcl, nl, hdl⟩ := hl
        obtain ⟨ocls, odict, odata, oslots⟩ := ol
        simp only at hcl hdl
        subst hcl; subst hdl
        have hol' : (s.heap.push (nob w)).get? l = some { cls := .type "list", dict := odict, data := .seq items nl, slots := oslots } := Heap.get?_push_of_some _ hol
        have hsls := F.sub_list_set
        have hslf := F.sub_list_frozenset
        have hne : (Value.type "list" == Value.type "dict") = false := by decide
        have hl1 : (s.heap.push (nob w)).IsList l items := ⟨_, hol', rfl, nl, rfl⟩
        unfold Builtin.«set.__init__» noKeywords Builtin.Frozenset.updateFrom
        generalize hPI : pyIter = PI
        wp_walk
        subst hPI
        refine wpAny_pyIter_list hl1 ?_
        refine wpAny_bind (wpAny_runValue ?_)
        have hlS : l < s.heap.objs.size := Heap.lt_size hol
        have hz1 : (s.heap.push (nob w)).objs.size = s.heap.objs.size + 1 := Heap.size_push ..
        have hneI : l ≠ (s.heap.push (nob w)).objs.size := by rw [hz1]; exact Nat.ne_of_lt (Nat.lt_succ_of_lt hlS)
        have hSf : s.heap.objs.size ∉ [(s.heap.push (nob w)).objs.size, l] := by
          rw [hz1]
          intro m
          rcases List.mem_cons.mp m with q | q
          · exact absurd q (Nat.ne_of_lt (Nat.lt_succ_self _))
          · exact absurd (List.mem_singleton.mp q) (Nat.ne_of_gt hlS)
        refine upd_loop (A := A.in1.in1) ((Walks.list (by simp [hh]) _ l hneI items).toS) s.heap.objs.size hSf xs hisz few
          (fun i v hv => strs_ix hi i v (by rw [Array.getElem?_toList]; exact hv)) (items.size - 0) 0 _ rfl (Nat.zero_le _)
          ⟨⟨_, Heap.get?_push_size _ rfl, rfl, rfl⟩, (hl1.push _)⟩ ?hS0 ?hR
        case hS0 => exact TS.fresh (Heap.get?_push_of_some _ hS) rfl
        case hR =>
          intro s' hm hS'
          obtain ⟨h', g2, d', tk', os'⟩ := s'
          have eg : g2 = s.gens := hm.gens
          have ed : d' = s.drawn := hm.drawn
          have eo : os' = s.os := hm.os
          subst eg; subst ed; subst eo
          show wpAny _ _ _ _ _ _
          refine wpAny_pure ?_
          show wpAny _ _ (ret Value.none) _ _ _
          refine wpAny_pure ⟨rfl, h', tk', rfl, hS', fun b o e => ?_⟩
          have hlt := Heap.lt_size e
          refine hm.heap b o (fun m => ?_) (Heap.get?_push_of_some _ (Heap.get?_push_of_some _ e))
          rcases List.mem_cons.mp m with q | q
          · exact absurd q (Nat.ne_of_lt hlt)
          · have q := List.mem_singleton.mp q
            rw [hz1] at q
            exact absurd q (Nat.ne_of_lt (Nat.lt_succ_of_lt hlt))
      · cases r₂ with
        | error e => exact hr₂
        | ok fl₂ =>
          cases fl₂ with
          | ret r =>
            obtain ⟨rfl, h', tk, rfl, hS', hk'⟩ := hr₂
            repeat (any_goals (first | assumption | wp_step))
            exact hq _ _ hS' hk'
          | _ => exact hr₂.elim
    | _ => exact hr.elim
end
end TSet
end
section
namespace TSet
open PySem PySem.Spec PyProof.Rows L2
section
variable {P : Program} {w : World} {A : Around} {E : Value → Shared → Prop} {s : Shared} {a : Addr} {L : List Str}
theorem sorted_texts {Q : Value → Shared → Prop} (R : TS w s.heap a L) (hh : A.handled = none) (few : L.length < 64)
    (hQ : ∀ s' p (out : Array Value) (c : Nat) (ys : List Str), (∀ b o, s.heap.get? b = some o → s'.heap.get? b = some o) → s'.gens = s.gens → s'.os = s.os → s.heap.objs.size ≤ p →
      s'.heap.get? p = some (seqObj "list" out c) → StrsAre out.toList ys → ys.Perm L → sortedS ys = true → Q (.ref p) s') :
    wpAny (model P w) A (call (.builtin "sorted") [.ref a]) Q E s := by
  obtain ⟨ob, ents, ep, tab, ho, hex, hd, g, pm0, nd, hb, hf, hr, hl⟩ := R
  have hn : ents.size = L.length := by
    have q := pm0.length_eq
    rw [List.length_map, Array.length_toList] at q
    exact q
  refine Calls.call_function_entry kind_sorted plain_sorted entry_sorted (args_sorted1 _) ?_
  unfold Builtin.«sorted»
  refine wpAny_bind (m := checkCount "sorted" 1 1 _) (wpAny_pure ?_)
  refine wpAny_bind (collect_set (A := A.in1) hh ⟨ob, ho, hex.1, hd⟩ hf (by rw [hn]; exact hb) hr hl fun s1 vs k1 hz g1 o1 pm => ?_)
  have pv : (vs.map strOf).Perm L := by
    have q := pm.map strOf
    rw [List.map_map] at q
    exact q.trans pm0
  have hvl : vs.length = L.length := by
    have q := pv.length_eq
    rw [List.length_map] at q
    exact q
  have hS : StrsAre vs (vs.map strOf) := strsAre_map vs fun v hv => by
    obtain ⟨e, he, q⟩ := List.mem_map.mp (pm.mem_iff.mp hv)
    obtain ⟨z, tk, rfl⟩ := g e he
    exact ⟨z, tk, q.symm⟩
  refine wpAny_bind (wpAny_newList ?_ (by rw [hvl, sizeLine_eq]; omega))
  have hoL : (s1.heap.push (seqObj "list" vs.toArray 0)).get? s1.heap.objs.size = some (seqObj "list" vs.toArray 0) := Heap.get?_push_size _ rfl
  refine wpAny_bind (wpAny_holding (wpAny_call_entry slot_list_sort ⟨_, hoL, rfl⟩ entry_list_sort
    (list_sort_treeK strKind_oneLt hoL hS.keysOf (fun v₁ v₂ rest e => keyKind_strs (by rw [← e]; exact hS)) (by rw [hvl]; exact few) fun st' hp hs => ⟨_, rfl, ?_⟩) (args_list_sort _)))
  obtain ⟨ys, y1, y2, y3⟩ := sorted_out_str hS hp hs
  obtain ⟨c, hc⟩ := sortedHeap_at (vs := vs) (out := (arrOf st').map (·.2)) hoL
  refine wpAny_pure ⟨_, rfl, hQ _ s1.heap.objs.size _ c ys (fun b u e => ?_) g1 o1 hz hc y1 (y2.trans pv) y3⟩
  have q := k1 b u e
  have hlt := Heap.lt_size q
  show (sortedHeap (s1.heap.push (seqObj "list" vs.toArray 0)) s1.heap.objs.size vs ((arrOf st').map (·.2))).get? b = some u
  rw [sortedHeap_old (Nat.ne_of_lt hlt) (by rw [size_push']; exact Nat.lt_succ_of_lt hlt)]
  exact Heap.get?_push_of_some _ q
end
/-! ### over the layer -/
def TSO (w : World) (a : Addr) (L : List Str) : HO := .ext fun h => TS w h a L
theorem tso_new {P : Program} {w : World} {H : Hp} {h : Heap} {a : Addr} {L : List Str} (R : TS w h a L) : ObjOk P w H h a (TSO w a L) := by
  have ⟨ob, _, _, _, ho, _⟩ := R
  exact ⟨R, ⟨ob, ho⟩, fun _ _ p k => p.keep k⟩
section
variable {X : Cx}
/-- set(xs), xs a list of texts, and sorted of it -/
def rSetS (K : PySem.W.Frag) (w : World) : List V → Hp → VK → Prop := fun vs H Q => ∃ (l : Addr) (xs : List Str), vs = [V.ref l] ∧ SqL K H l (xs.map V.str) ∧ xs.length < scanBound ∧
  ∀ a, H a = none → Q (.ref a) (upd H a (TSO w a (ded xs)))
theorem cr_setS (hc : X.calm = true) : CallR X (.type "set") (rSetS X.K X.w) := by
  intro pins s σ H vs us Q I r h
  obtain ⟨l, xs, rfl, hl, few, q⟩ := h
  rw [Vals.ref1 r]
  obtain ⟨its, rv, pl, _⟩ := I.list hl
  have hn : H s.heap.objs.size = none := I.hok.fresh (Nat.le_refl _)
  refine call_set_texts (P := X.prog) (I.ok.hd hc) pl.isList (by simpa using Vals.strs rv) few fun h' tk R k => ?_
  exact ⟨.ref s.heap.objs.size, upd H s.heap.objs.size (TSO X.w s.heap.objs.size (ded xs)), I.laid (t' := tk) k (Nat.le_refl _) (tso_new R), rfl, q _ hn⟩
def rSortedTexts (w : World) : List V → Hp → VK → Prop := fun vs H Q => ∃ (a : Addr) (L : List Str), vs = [V.ref a] ∧ H a = some (TSO w a L) ∧ L.length < 64 ∧
  ∀ (ys : List Str) (p : Addr), ys.Perm L → sortedS ys = true → H p = none → Q (.ref p) (upd H p (.lst (ys.map V.str)))
theorem cr_sortedTexts (hc : X.calm = true) : CallR X (.builtin "sorted") (rSortedTexts X.w) := by
  intro pins s σ H vs us Q I r h
  obtain ⟨a, L, rfl, ha, few, q⟩ := h
  have R : TS X.w s.heap a L := (I.hok a _ ha).1
  rw [Vals.ref1 r]
  refine sorted_texts (P := X.prog) R (I.ok.hd hc) few fun s' p out c ys k g o hp hg hS pm srt => ?_
  have hlen : (ys.map V.str).length ≤ sizeLine := by
    rw [List.length_map, pm.length_eq, sizeLine_eq]
    omega
  have hn : H p = none := I.hok.fresh hp
  have J : Inv X pins σ (upd H p (.lst (ys.map V.str))) { s with heap := s'.heap, gens := s'.gens, drawn := s'.drawn, toks := s'.toks } :=
    I.call (ch := []) (Un.laid k hp hn) (I.hok.laid k hp ⟨hlen, out.toList, c, vals_of_strs hS, hg⟩) (by rw [g]; exact I.bare) (fun _ z => nomatch z)
  have e : s' = { s with heap := s'.heap, gens := s'.gens, drawn := s'.drawn, toks := s'.toks } := by
    cases s'
    cases s
    cases o
    rfl
  rw [e]
  exact ⟨.ref p, _, J, rfl, q ys p pm srt hn⟩
end
end TSet
end
section
/-! Own: what rules choose, their one form; ascending texts; tables. Nothing of a law's text. -/
namespace K10
open PySem PySem.Spec PyProof.Rows L2

abbrev Pk := Str × Int
/-- the bay of the first pick that is open at f -/
def choose (f : Str → Int) : List Pk → Option Str
  | [] => none
  | p :: r => if p.2 < f p.1 then some p.1 else choose f r
def setM (m : Str → Option Int) (b : Str) (k : Int) : Str → Option Int := fun y => if y = b then some k else m y
/-- is it kept behind what was passed? -/
def keeps (m : Str → Option Int) (p : Pk) : Bool := match m p.1 with
  | none => true
  | some k => decide (p.2 < k)
def mAfter (m : Str → Option Int) (p : Pk) : Str → Option Int := if keeps m p = true then setM m p.1 p.2 else m
def kept (m : Str → Option Int) : List Pk → List Pk
  | [] => []
  | p :: r => if keeps m p = true then p :: kept (setM m p.1 p.2) r else kept m r
def mEnd (m : Str → Option Int) : List Pk → (Str → Option Int)
  | [] => m
  | p :: r => mEnd (mAfter m p) r
theorem kept_app (x : Pk) : ∀ (l : List Pk) (m : Str → Option Int), kept m (l ++ [x]) = kept m l ++ (if keeps (mEnd m l) x = true then [x] else [])
  | [], m => by
    show (if keeps m x = true then x :: kept (setM m x.1 x.2) [] else kept m []) = [] ++ (if keeps m x = true then [x] else [])
    split <;> rfl
  | p :: r, m => by
    show (if keeps m p = true then p :: kept (setM m p.1 p.2) (r ++ [x]) else kept m (r ++ [x])) = (if keeps m p = true then p :: kept (setM m p.1 p.2) r else kept m r) ++ (if keeps (mEnd (mAfter m p) r) x = true then [x] else [])
    by_cases h : keeps m p = true
    · rw [if_pos h, if_pos h, kept_app x r, List.cons_append]
      unfold mAfter
      rw [if_pos h]
    · rw [if_neg h, if_neg h, kept_app x r]
      unfold mAfter
      rw [if_neg h]
theorem mEnd_app (x : Pk) : ∀ (l : List Pk) (m : Str → Option Int), mEnd m (l ++ [x]) = mAfter (mEnd m l) x
  | [], _ => rfl
  | p :: r, m => mEnd_app x r (mAfter m p)
theorem kept_len : ∀ (l : List Pk) (m : Str → Option Int), (kept m l).length ≤ l.length
  | [], _ => Nat.le_refl 0
  | p :: r, m => by
    show (if keeps m p = true then p :: kept (setM m p.1 p.2) r else kept m r).length ≤ r.length + 1
    split
    · exact Nat.succ_le_succ (kept_len r _)
    · exact Nat.le_succ_of_le (kept_len r _)
theorem kept_below : ∀ (l : List Pk) (m : Str → Option Int) (p : Pk), p ∈ kept m l → ∀ k, m p.1 = some k → p.2 < k
  | [], _, p, h, _, _ => by cases h
  | q :: r, m, p, h, k, e => by
    have h' : p ∈ (if keeps m q = true then q :: kept (setM m q.1 q.2) r else kept m r) := h
    by_cases c : keeps m q = true
    · rw [if_pos c] at h'
      have c2 := c
      unfold keeps at c2
      rcases List.mem_cons.mp h' with rfl | h2
      · rw [e] at c2
        exact of_decide_eq_true c2
      · by_cases e2 : p.1 = q.1
        · have h3 := kept_below r _ p h2 q.2 (by unfold setM; rw [if_pos e2])
          rw [← e2, e] at c2
          have h4 : q.2 < k := of_decide_eq_true c2
          omega
        · exact kept_below r _ p h2 k (by unfold setM; rw [if_neg e2]; exact e)
    · rw [if_neg c] at h'
      exact kept_below r _ p h' k e
/-- neighbours of one bay have falling keeps -/
def Falls : List Pk → Prop
  | [] => True
  | [_] => True
  | p :: q :: r => (p.1 = q.1 → q.2 < p.2) ∧ Falls (q :: r)
theorem falls_kept : ∀ (l : List Pk) (m : Str → Option Int), Falls (kept m l)
  | [], _ => True.intro
  | p :: r, m => by
    show Falls (if keeps m p = true then p :: kept (setM m p.1 p.2) r else kept m r)
    split
    · have ih := falls_kept r (setM m p.1 p.2)
      have hb := kept_below r (setM m p.1 p.2)
      cases h : kept (setM m p.1 p.2) r with
      | nil => exact True.intro
      | cons q t =>
        rw [h] at ih hb
        exact ⟨fun e => hb q List.mem_cons_self p.2 (by unfold setM; rw [if_pos e.symm]), ih⟩
    · exact falls_kept r m
theorem choose_kept (f : Str → Int) : ∀ (l : List Pk) (m : Str → Option Int), (∀ b k, m b = some k → f b ≤ k) → choose f (kept m l) = choose f l
  | [], _, _ => rfl
  | p :: r, m, h => by
    show choose f (if keeps m p = true then p :: kept (setM m p.1 p.2) r else kept m r) = (if p.2 < f p.1 then some p.1 else choose f r)
    by_cases c : keeps m p = true
    · rw [if_pos c]
      show (if p.2 < f p.1 then some p.1 else choose f (kept (setM m p.1 p.2) r)) = _
      by_cases o : p.2 < f p.1
      · rw [if_pos o, if_pos o]
      · rw [if_neg o, if_neg o]
        refine choose_kept f r _ fun b k e => ?_
        unfold setM at e
        by_cases e2 : b = p.1
        · rw [if_pos e2] at e
          cases e
          rw [e2]
          omega
        · rw [if_neg e2] at e
          exact h b k e
    · rw [if_neg c, choose_kept f r m h, if_neg]
      intro o
      unfold keeps at c
      cases e : m p.1 with
      | none => rw [e] at c; exact c rfl
      | some k =>
        rw [e] at c
        have h1 := h _ _ e
        exact c (decide_eq_true (by omega))
/-- without those behind which the same bay stands -/
def step2 : List Pk → List Pk
  | [] => []
  | [p] => [p]
  | p :: q :: r => if p.1 = q.1 then step2 (q :: r) else p :: step2 (q :: r)
theorem choose_step2 (f : Str → Int) : ∀ l : List Pk, Falls l → choose f (step2 l) = choose f l
  | [], _ => rfl
  | [_], _ => rfl
  | p :: q :: r, h => by
    show choose f (if p.1 = q.1 then step2 (q :: r) else p :: step2 (q :: r)) = (if p.2 < f p.1 then some p.1 else choose f (q :: r))
    have ih := choose_step2 f (q :: r) h.2
    by_cases e : p.1 = q.1
    · rw [if_pos e, ih]
      by_cases o : p.2 < f p.1
      · rw [if_pos o]
        show (if q.2 < f q.1 then some q.1 else choose f r) = some p.1
        have := h.1 e
        rw [if_pos (by rw [← e]; omega), e]
      · rw [if_neg o]
    · rw [if_neg e]
      show (if p.2 < f p.1 then some p.1 else choose f (step2 (q :: r))) = _
      rw [ih]
def oneForm (l : List Pk) : List Pk := step2 (kept (fun _ => none) l)
theorem choose_form (f : Str → Int) (l : List Pk) : choose f (oneForm l) = choose f l :=
  (choose_step2 f _ (falls_kept l _)).trans (choose_kept f l _ fun _ _ e => by cases e)
theorem step2_len : ∀ l : List Pk, (step2 l).length ≤ l.length
  | [] => Nat.le_refl 0
  | [_] => Nat.le_refl 1
  | p :: q :: r => by
    have ih := step2_len (q :: r)
    show (if p.1 = q.1 then step2 (q :: r) else p :: step2 (q :: r)).length ≤ (q :: r).length + 1
    split
    · omega
    · exact Nat.succ_le_succ ih
theorem form_len (l : List Pk) : (oneForm l).length ≤ l.length := Nat.le_trans (step2_len _) (kept_len l _)
/-- the filter by the bays behind -/
def behind (l : List Pk) : List (Option Str) := (l.drop 1).map (fun p => some p.1) ++ [none]
theorem step2_zip : ∀ l : List Pk, step2 l = ((l.zip (behind l)).filter fun e => decide (some e.1.1 ≠ e.2)).map (·.1)
  | [] => rfl
  | [p] => by
    show [p] = (([(p, none)] : List (Pk × Option Str)).filter _).map _
    rfl
  | p :: q :: r => by
    have ih := step2_zip (q :: r)
    have e1 : (p :: q :: r).zip (behind (p :: q :: r)) = (p, some q.1) :: (q :: r).zip (behind (q :: r)) := rfl
    rw [e1, List.filter_cons]
    show (if p.1 = q.1 then step2 (q :: r) else p :: step2 (q :: r)) = _
    by_cases e : p.1 = q.1
    · rw [if_pos e, ih, if_neg (by simp [e])]
    · rw [if_neg e, ih, if_pos (by simp [e]), List.map_cons]
theorem putK_keys {kvs : List (Key × V)} {xs : List Str} (e : kvs.map (·.1) = xs.map Sum.inr) (z : Str) (v : V) : ∃ ys : List Str, (putK kvs (Sum.inr z) v).map (·.1) = ys.map Sum.inr ∧ ys.length ≤ xs.length + 1 := by
  unfold putK
  split
  · refine ⟨xs, ?_, Nat.le_succ _⟩
    rw [← e, List.map_map]
    refine List.map_congr_left fun kv _ => ?_
    show (if kv.1 = Sum.inr z then (kv.1, v) else kv).1 = kv.1
    split <;> rfl
  · refine ⟨xs ++ [z], ?_, by rw [List.length_append]; exact Nat.le_refl _⟩
    rw [List.map_append, List.map_append, e]
    rfl
def Good (p : Pk) : Prop := nameB p.1 = true ∧ p.1.length ≤ 1000 ∧ 0 ≤ p.2 ∧ p.2 ≤ 9
theorem mem_kept : ∀ (l : List Pk) (m : Str → Option Int) (p : Pk), p ∈ kept m l → p ∈ l
  | [], _, _, h => h
  | q :: r, m, p, h => by
    have h' : p ∈ (if keeps m q = true then q :: kept (setM m q.1 q.2) r else kept m r) := h
    split at h'
    · rcases List.mem_cons.mp h' with e | h2
      · exact List.mem_cons.mpr (.inl e)
      · exact List.mem_cons_of_mem _ (mem_kept r _ p h2)
    · exact List.mem_cons_of_mem _ (mem_kept r _ p h')
theorem mem_step2 : ∀ (l : List Pk) (p : Pk), p ∈ step2 l → p ∈ l
  | [], _, h => h
  | [_], _, h => h
  | a :: b :: r, p, h => by
    have h' : p ∈ (if a.1 = b.1 then step2 (b :: r) else a :: step2 (b :: r)) := h
    split at h'
    · exact List.mem_cons_of_mem _ (mem_step2 (b :: r) p h')
    · rcases List.mem_cons.mp h' with e | h2
      · exact List.mem_cons.mpr (.inl e)
      · exact List.mem_cons_of_mem _ (mem_step2 (b :: r) p h2)
theorem mem_form {l : List Pk} {p : Pk} (h : p ∈ oneForm l) : p ∈ l := mem_kept l _ p (mem_step2 _ p h)

/-- one form: the keeps of a bay fall, neighbours are unlike, no keep is below 0 -/
def Norm : List Pk → Prop
  | [] => True
  | p :: r => (∀ q ∈ r, q.1 = p.1 → q.2 < p.2) ∧ (∀ q, r.head? = some q → q.1 ≠ p.1) ∧ 0 ≤ p.2 ∧ Norm r
theorem choose_congr {f g : Str → Int} : ∀ {l : List Pk}, (∀ p ∈ l, (p.2 < f p.1 ↔ p.2 < g p.1)) → choose f l = choose g l
  | [], _ => rfl
  | p :: r, h => by
    have h1 := h p List.mem_cons_self
    have ih := choose_congr (l := r) fun q hq => h q (List.mem_cons_of_mem _ hq)
    show (if p.2 < f p.1 then some p.1 else choose f r) = (if p.2 < g p.1 then some p.1 else choose g r)
    rw [ih]
    by_cases c : p.2 < f p.1
    · rw [if_pos c, if_pos (h1.mp c)]
    · rw [if_neg c, if_neg fun q => c (h1.mpr q)]
theorem choose_head {f : Str → Int} {p : Pk} {r : List Pk} (h : p.2 < f p.1) : choose f (p :: r) = some p.1 := if_pos h
theorem choose_tail {f : Str → Int} {p : Pk} {r : List Pk} (h : ¬ p.2 < f p.1) : choose f (p :: r) = choose f r := if_neg h
/-- the first one of a bay has the smaller keep: the other list chooses otherwise -/
theorem no_less {x : Str} {k m : Int} {a b : List Pk} (ha : Norm ((x, k) :: a)) (h : ∀ f, choose f ((x, k) :: a) = choose f ((x, m) :: b)) (lt : m < k) : False := by
  obtain ⟨h1, h2, h3, h4⟩ := ha
  cases a with
  | nil =>
    have e := h fun z => m + 1
    rw [choose_tail (p := (x, k)) (by show ¬ k < m + 1; omega), choose_head (p := (x, m)) (by show m < m + 1; omega)] at e
    cases e
  | cons q r =>
    have ne : q.1 ≠ x := h2 q rfl
    have e := h fun z => if z = x then m + 1 else q.2 + 1
    rw [choose_tail (p := (x, k)) (by show ¬ k < (if x = x then m + 1 else q.2 + 1); rw [if_pos rfl]; omega), choose_head (p := q) (by rw [if_neg ne]; omega), choose_head (p := (x, m)) (by show m < (if x = x then m + 1 else q.2 + 1); rw [if_pos rfl]; omega)] at e
    exact ne (Option.some.inj e)
theorem uniq : ∀ (a b : List Pk), Norm a → Norm b → (∀ f, choose f a = choose f b) → a = b
  | [], [], _, _, _ => rfl
  | [], (y, m) :: b, _, _, h => by
    have e := h fun _ => m + 1
    rw [choose_head (p := (y, m)) (by show m < m + 1; omega)] at e
    cases e
  | (x, k) :: a, [], _, _, h => by
    have e := h fun _ => k + 1
    rw [choose_head (p := (x, k)) (by show k < k + 1; omega)] at e
    cases e
  | (x, k) :: a, (y, m) :: b, ha, hb, h => by
    have exy : x = y := by
      by_cases c : x = y
      · exact c
      · have e := h fun z => if z = x then k + 1 else m + 1
        rw [choose_head (p := (x, k)) (by show k < (if x = x then k + 1 else m + 1); rw [if_pos rfl]; omega), choose_head (p := (y, m)) (by show m < (if y = x then k + 1 else m + 1); rw [if_neg fun q => c q.symm]; omega)] at e
        exact Option.some.inj e
    subst exy
    have ekm : k = m := by
      rcases Int.lt_trichotomy k m with c | c | c
      · exact (no_less hb (fun f => (h f).symm) c).elim
      · exact c
      · exact (no_less ha h c).elim
    subst ekm
    have cut : ∀ (l : List Pk), (∀ q ∈ l, q.1 = x → q.2 < k) → ∀ f : Str → Int, choose f l = choose (fun z => if z = x then min (f x) k else f z) ((x, k) :: l) := fun l hl f => by
      rw [choose_tail (p := (x, k)) (by show ¬ k < (if x = x then min (f x) k else f x); rw [if_pos rfl]; omega)]
      refine choose_congr fun p hp => ?_
      by_cases c : p.1 = x
      · have := hl p hp c
        rw [if_pos c, c]
        omega
      · rw [if_neg c]
    rw [uniq a b ha.2.2.2 hb.2.2.2 fun f => by rw [cut a ha.1 f, cut b hb.1 f, h]]
def FA : List Pk → Prop
  | [] => True
  | p :: r => (∀ q ∈ r, q.1 = p.1 → q.2 < p.2) ∧ FA r
theorem fa_kept : ∀ (l : List Pk) (m : Str → Option Int), FA (kept m l)
  | [], _ => True.intro
  | p :: r, m => by
    show FA (if keeps m p = true then p :: kept (setM m p.1 p.2) r else kept m r)
    split
    · exact ⟨fun q hq e => kept_below r (setM m p.1 p.2) q hq p.2 (by unfold setM; rw [if_pos e]), fa_kept r _⟩
    · exact fa_kept r m
theorem norm_step2 : ∀ (l : List Pk), FA l → (∀ p ∈ l, 0 ≤ p.2) → Norm (step2 l) ∧ (step2 l).head?.map (·.1) = l.head?.map (·.1)
  | [], _, _ => ⟨True.intro, rfl⟩
  | [p], _, h => ⟨⟨(fun q hq => by cases hq), (fun q hq => by cases hq), h p List.mem_cons_self, True.intro⟩, rfl⟩
  | p :: q :: r, fa, h => by
    have ih := norm_step2 (q :: r) fa.2 fun z hz => h z (List.mem_cons_of_mem _ hz)
    show Norm (if p.1 = q.1 then step2 (q :: r) else p :: step2 (q :: r)) ∧ (if p.1 = q.1 then step2 (q :: r) else p :: step2 (q :: r)).head?.map (·.1) = some p.1
    by_cases c : p.1 = q.1
    · rw [if_pos c, c]
      exact ih
    · rw [if_neg c]
      refine ⟨⟨fun z hz e => fa.1 z (mem_step2 _ z hz) e, fun z hz e => ?_, h p List.mem_cons_self, ih.1⟩, rfl⟩
      have e2 := ih.2
      rw [hz] at e2
      have e3 : z.1 = q.1 := Option.some.inj e2
      exact c (e.symm.trans e3)
theorem norm_form {l : List Pk} (h : ∀ p ∈ l, 0 ≤ p.2) : Norm (oneForm l) := (norm_step2 _ (fa_kept l _) fun p hp => h p (mem_kept l _ p hp)).1
/-- what chooses alike has one form -/
theorem form_eq {a b : List Pk} (ha : ∀ p ∈ a, 0 ≤ p.2) (hb : ∀ p ∈ b, 0 ≤ p.2) (h : ∀ f, choose f a = choose f b) : oneForm a = oneForm b :=
  uniq _ _ (norm_form ha) (norm_form hb) fun f => by rw [choose_form, choose_form, h]
theorem choose_app (f : Str → Int) : ∀ (a b : List Pk), choose f (a ++ b) = (choose f a).or (choose f b)
  | [], b => rfl
  | p :: r, b => by
    show (if p.2 < f p.1 then some p.1 else choose f (r ++ b)) = (if p.2 < f p.1 then some p.1 else choose f r).or (choose f b)
    by_cases c : p.2 < f p.1
    · rw [if_pos c, if_pos c]
      rfl
    · rw [if_neg c, if_neg c]
      exact choose_app f r b

def leS (x y : Str) : Prop := ¬ y.cps.toList < x.cps.toList
theorem leS_trans {x y z : Str} (h1 : leS x y) (h2 : leS y z) : leS x z := List.le_trans (α := Nat) (l₁ := x.cps.toList) (l₂ := y.cps.toList) (l₃ := z.cps.toList) h1 h2
theorem leS_anti {x y : Str} (h1 : leS x y) (h2 : leS y x) : x = y := by
  have e : x.cps.toList = y.cps.toList := List.le_antisymm (α := Nat) h1 h2
  cases x
  cases y
  congr 1
  exact Array.toList_inj.mp e
theorem rising_pw : ∀ (p : Str) (l : List Str), risingS p l = true → (p :: l).Pairwise leS
  | p, [], _ => List.pairwise_singleton _ _
  | p, x :: r, h => by
    obtain ⟨h1, h2⟩ := Bool.and_eq_true_iff.mp (show (!ltCps x.cps.toList p.cps.toList && risingS x r) = true from h)
    have ih := rising_pw x r h2
    have hx : leS p x := by
      rw [ltCps_eq] at h1
      unfold leS
      intro c
      rw [decide_eq_true c] at h1
      cases h1
    refine List.pairwise_cons.mpr ⟨fun y hy => ?_, ih⟩
    rcases List.mem_cons.mp hy with rfl | hy
    · exact hx
    · exact leS_trans hx ((List.pairwise_cons.mp ih).1 y hy)
theorem sorted_pw : ∀ l : List Str, sortedS l = true → l.Pairwise leS
  | [], _ => List.Pairwise.nil
  | x :: r, h => rising_pw x r h
theorem asc_aux : ∀ xs ys : List Str, xs.Pairwise leS → ys.Pairwise leS → xs.Nodup → ys.Nodup → (∀ z, z ∈ xs ↔ z ∈ ys) → xs = ys
  | [], [], _, _, _, _, _ => rfl
  | [], y :: t, _, _, _, _, hm => by have := (hm y).mpr List.mem_cons_self; cases this
  | x :: r, [], _, _, _, _, hm => by have := (hm x).mp List.mem_cons_self; cases this
  | x :: r, y :: t, h1, h2, n1, n2, hm => by
    obtain ⟨a1, a2⟩ := List.pairwise_cons.mp h1
    obtain ⟨b1, b2⟩ := List.pairwise_cons.mp h2
    obtain ⟨c1, c2⟩ := List.nodup_cons.mp n1
    obtain ⟨d1, d2⟩ := List.nodup_cons.mp n2
    have e : x = y := by
      rcases List.mem_cons.mp ((hm x).mp List.mem_cons_self) with e | hx
      · exact e
      · rcases List.mem_cons.mp ((hm y).mpr List.mem_cons_self) with e | hy
        · exact e.symm
        · exact leS_anti (a1 y hy) (b1 x hx)
    subst e
    rw [asc_aux r t a2 b2 c2 d2 fun z => ⟨fun hz => ?_, fun hz => ?_⟩]
    · rcases List.mem_cons.mp ((hm z).mp (List.mem_cons_of_mem _ hz)) with e | h
      · exact (c1 (e ▸ hz)).elim
      · exact h
    · rcases List.mem_cons.mp ((hm z).mpr (List.mem_cons_of_mem _ hz)) with e | h
      · exact (d1 (e ▸ hz)).elim
      · exact h
/-- two ascending lists without doubles of the same members are equal -/
theorem asc_eq {xs ys : List Str} (h1 : sortedS xs = true) (h2 : sortedS ys = true) (n1 : xs.Nodup) (n2 : ys.Nodup) (hm : ∀ z, z ∈ xs ↔ z ∈ ys) : xs = ys := asc_aux xs ys (sorted_pw xs h1) (sorted_pw ys h2) n1 n2 hm
end K10
end
section
/-! Own: picks, tables and rules on the heap. Nothing of a law's text. -/
namespace OwR
open PySem PySem.Spec PyProof.Rows L2
theorem dc_it {J : It} {n : Nat} {G : Hp → Prop} {Y : Nat → Hp → V → Hp → Prop} (w : Walk J n G Y) {g : TG} {tt : TT} {tk tv : TE} {vs : List Nat} {σ : L2.St} {H1 : Hp} {D : Addr} {Qd : Hp → Prop} (Pv : Nat → Hp → Prop)
    (h0 : Pv 0 (upd H1 D (.dK []))) (hG : ∀ i H, i ≤ n → Pv i H → G H)
    (turn : ∀ i x H H', i < n → Pv i H → Y i H x H' → g x (wipe σ vs) H' fun σ2 H2 => wipe σ2 vs = wipe σ vs ∧ tt σ2 H2 fun b H3 =>
      if b = true then tk σ2 H3 fun y H4 => tv σ2 H4 fun z H5 => ∃ kvs k, y = kV k ∧ H5 D = some (.dK kvs) ∧ kvs.length < sizeLine ∧ Pv (i + 1) (upd H5 D (.dK (putK kvs k z))) else Pv (i + 1) H3)
    (fin : ∀ H, Pv n H → Qd H) :
    ∃ W : Nat → Nat → Hp → Prop, (∃ m, W 0 m (upd H1 D (.dK []))) ∧ ∀ i m H, W i m H →
      (J.stop i H ∧ Qd H) ∨ (J.go i H ∧ ∃ Nx : Hp → Prop, (∀ H', Nx H' → ∃ m', m' < m ∧ W (i + 1) m' H') ∧ ∀ x H', J.yld i H x H' → g x (wipe σ vs) H' fun σ2 H2 => wipe σ2 vs = wipe σ vs ∧ tt σ2 H2 fun b H3 =>
        if b = true then tk σ2 H3 fun y H4 => tv σ2 H4 fun z H5 => ∃ kvs k, y = kV k ∧ H5 D = some (.dK kvs) ∧ kvs.length < sizeLine ∧ Nx (upd H5 D (.dK (putK kvs k z))) else Nx H3) := by
  refine ⟨fun i m H => m = n - i ∧ i ≤ n ∧ Pv i H, ⟨n, by simp, Nat.zero_le _, h0⟩, fun i m H ⟨em, hi, p⟩ => ?_⟩
  subst em
  have q := hG i H hi p
  rcases Nat.lt_or_ge i n with hlt | hge
  · exact .inr ⟨w.goes i H hlt q, Pv (i + 1), fun H' p' => ⟨n - (i + 1), by omega, rfl, hlt, p'⟩, fun x H' y => turn i x H H' hlt p (w.yields i H x H' hlt q y)⟩
  · obtain rfl : i = n := by omega
    exact .inl ⟨w.stops H q, fin H p⟩
theorem list_any {X : Cx} (hc : X.calm = true) : CallR X (.type "list") (fun xs H Q => (∃ p ys, xs = [.ref p] ∧ (SqL X.K H p ys ∨ SqT X.K H p ys) ∧ ∀ l, H l = none → Q (.ref l) (upd H l (.lst ys))) ∨
    (∃ (a : Addr) (kvs : List (Key × V)), xs = [.ref a] ∧ Rd H a (.dK kvs) ∧ ∀ p, H p = none → Q (.ref p) (upd H p (.lst (kvs.map fun kv => kV kv.1))))) := by
  intro pins s σ H xs us Q I r h
  rcases h with h | h
  · exact call_list_of pins s σ H xs us Q I r h
  · exact call_listD hc pins s σ H xs us Q I r h
end OwR
namespace TSet
open PySem
theorem put1_nodup {L : List Str} (h : L.Nodup) (z : Str) : (put1 L z).Nodup := by
  unfold put1
  split
  · exact h
  · rename_i q
    exact List.nodup_cons.mpr ⟨q, h⟩
theorem fold_nodup : ∀ (xs L : List Str), L.Nodup → (xs.foldl put1 L).Nodup
  | [], _, h => h
  | x :: xs, L, h => fold_nodup xs (put1 L x) (put1_nodup h x)
theorem ded_nodup (xs : List Str) : (ded xs).Nodup := fold_nodup xs [] List.nodup_nil
theorem ded_perm {xs : List Str} (h : xs.Nodup) : (ded xs).Perm xs := (List.perm_ext_iff_of_nodup (ded_nodup xs) h).mpr fun y => ded_mem xs y
end TSet
namespace OwR
open PySem PySem.Spec PyProof.Rows L2
theorem walk_enumT {K : PySem.W.Frag} {a : Addr} {xs : List V} : Walk (IteT K a) xs.length (fun H => SqT K H a xs) (YPair (fun i => some (.int (i : Nat))) (fun i => xs[i]?)) := by
  refine ⟨fun i _ hi q => ⟨xs, xs[i], q, by simp [hi]⟩, fun _ q => ⟨xs, q, Nat.le_refl _⟩, fun i H v H' _ q y => ?_⟩
  obtain ⟨T, x, h1, h2, h3, h4⟩ := y
  exact ⟨T, .int (i : Nat), x, h1, h2, h3, rfl, h4 xs q⟩
end OwR
namespace OwR
open PySem PySem.Spec PyProof.Rows L2
section
variable {X : Cx} {CX : CXT} {k : Nat} {f C : Addr} {sp : Sp} {E : XK} {x : Str} {p pos : Pos}
/-- C(), __init__ by a positional promise -/
theorem pe_makeR0 (M : Mk X.K C f) (F : FnR X.prog X.w X.K X.mg X.base CX k f sp) (hr : Room (k + 1) X.A) (hg : Gl X x) (hm : X.mg x = some (.ref C)) (hx : Passes CX X E) (hdb : (x == ("__debug__" : Str)) = false := by decide) :
    PE X (.Call (.Name x p) [] [] pos) (StX.tMakeR C sp E tNil) := by
  refine ⟨fun pins s σ H Q I h => ?_⟩
  refine wpAny_Call_Name_kw (ld_glob I hg hm ?_ hdb)
  exact PySem.W.callWith_K0 I.kIn M.kp (StX.run_makeR (us := []) M F hr hx I .nil h)
end
end OwR
namespace K10
open PySem PySem.Spec PyProof.Rows L2
/-- the texts that a list, or a dict's keys, hold -/
def TextsAt (K : PySem.W.Frag) (H : Hp) (a : Addr) (xs : List Str) : Prop := SqL K H a (xs.map V.str) ∨ SqT K H a (xs.map V.str) ∨ ∃ kvs, Rd H a (.dK kvs) ∧ kvs.map (·.1) = xs.map Sum.inr
/-- a table's numbers by its names, and no other key -/
def TabOf (kvs : List (Key × V)) (N : Str → Option Int) : Prop := (∀ z, valV kvs (Sum.inr z) = (N z).map V.int) ∧ ∀ i, valV kvs (Sum.inl i) = none
theorem TabOf.nil : TabOf [] fun _ => none := ⟨fun _ => rfl, fun _ => rfl⟩
theorem TabOf.put {kvs : List (Key × V)} {N : Str → Option Int} (t : TabOf kvs N) (z : Str) (v : Int) : TabOf (putK kvs (Sum.inr z) (.int v)) fun y => if y = z then some v else N y := by
  refine ⟨fun y => ?_, fun i => ?_⟩
  · rw [valV_put, t.1 y]
    by_cases e : y = z
    · dsimp only
      rw [if_pos (congrArg Sum.inr e), if_pos e]
      rfl
    · dsimp only
      rw [if_neg (fun q => e (Sum.inr.inj q)), if_neg e]
  · rw [valV_put, t.2 i, if_neg (fun q => by cases q)]
theorem TabOf.cast {kvs : List (Key × V)} {N M : Str → Option Int} (t : TabOf kvs N) (h : ∀ z, N z = M z) : TabOf kvs M := by
  rw [← funext h]
  exact t
theorem TabOf.get {kvs : List (Key × V)} {N : Str → Option Int} (t : TabOf kvs N) {H : Hp} {a : Addr} (h : Rd H a (.dK kvs)) (z : Str) : DGet H a (.str z) ((N z).map V.int) := .inl ⟨kvs, Sum.inr z, h, rfl, (t.1 z).symm⟩
theorem TabOf.mem {kvs : List (Key × V)} {N : Str → Option Int} (t : TabOf kvs N) {xs : List Str} (e : kvs.map (·.1) = xs.map Sum.inr) (z : Str) : z ∈ xs ↔ (N z).isSome = true := by
  have h1 : (kvs.any fun kv => decide (kv.1 = Sum.inr z)) = (valV kvs (Sum.inr z)).isSome := valV_any _ kvs
  rw [t.1 z, Option.isSome_map] at h1
  rw [← h1, List.any_eq_true]
  refine ⟨fun h => ?_, fun ⟨kv, h, e2⟩ => ?_⟩
  · have h2 : (Sum.inr z : Key) ∈ kvs.map (·.1) := by
      rw [e]
      exact List.mem_map.mpr ⟨z, h, rfl⟩
    obtain ⟨kv, h3, h4⟩ := List.mem_map.mp h2
    exact ⟨kv, h3, decide_eq_true h4⟩
  · have h2 : (Sum.inr z : Key) ∈ kvs.map (·.1) := List.mem_map.mpr ⟨kv, h, of_decide_eq_true e2⟩
    rw [e] at h2
    obtain ⟨y, h3, h4⟩ := List.mem_map.mp h2
    exact Sum.inr.inj h4 ▸ h3
def TupAt (H : Hp) (k : Addr) (p : Pk) : Prop := H k = some (.tup [.str p.1, .int p.2])
/-- picks as tuples of a text and a number -/
structure PicksAt (H : Hp) (ks : List Addr) (ps : List Pk) : Prop where
  len : ks.length = ps.length
  at_ : ∀ (i : Nat) (k : Addr) (p : Pk), ks[i]? = some k → ps[i]? = some p → TupAt H k p
theorem PicksAt.nil {H : Hp} : PicksAt H [] [] := ⟨rfl, fun i k p h => by cases h⟩
theorem PicksAt.get {H : Hp} {ks : List Addr} {ps : List Pk} (h : PicksAt H ks ps) {i : Nat} {v : V} (e : (ks.map V.ref)[i]? = some v) : ∃ k p, v = .ref k ∧ ks[i]? = some k ∧ ps[i]? = some p ∧ TupAt H k p := by
  rw [List.getElem?_map] at e
  obtain ⟨k, hk, rfl⟩ := Option.map_eq_some_iff.mp e
  have hi : i < ps.length := by
    rw [← h.len]
    exact (List.getElem?_eq_some_iff.mp hk).1
  exact ⟨k, ps[i], rfl, hk, List.getElem?_eq_getElem hi, h.at_ i k _ hk (List.getElem?_eq_getElem hi)⟩
theorem PicksAt.mono {H H' : Hp} {ks : List Addr} {ps : List Pk} (h : PicksAt H ks ps) (s : ∀ k xs, H k = some (.tup xs) → H' k = some (.tup xs)) : PicksAt H' ks ps := ⟨h.len, fun i k p e1 e2 => s _ _ (h.at_ i k p e1 e2)⟩
theorem PicksAt.same {H H' : Hp} {ks : List Addr} {ps : List Pk} (h : PicksAt H ks ps) (s : Same H H') : PicksAt H' ks ps := h.mono fun k xs e => s k _ e
theorem PicksAt.upd {H : Hp} {ks : List Addr} {ps : List Pk} (h : PicksAt H ks ps) {D : Addr} {o : HO} (n : ∀ xs, H D ≠ some (.tup xs)) : PicksAt (upd H D o) ks ps := h.mono fun k xs e => by
  have : k ≠ D := fun z => n xs (z ▸ e)
  rw [upd_ne this]
  exact e
theorem PicksAt.snoc {H : Hp} {ks : List Addr} {ps : List Pk} (h : PicksAt H ks ps) {k : Addr} {p : Pk} (e : TupAt H k p) : PicksAt H (ks ++ [k]) (ps ++ [p]) := by
  refine ⟨by rw [List.length_append, List.length_append, h.len]; rfl, fun i k' p' e1 e2 => ?_⟩
  rcases Nat.lt_trichotomy i ks.length with c | c | c
  · rw [List.getElem?_append_left c] at e1
    rw [List.getElem?_append_left (by rw [← h.len]; exact c)] at e2
    exact h.at_ i k' p' e1 e2
  · subst c
    rw [List.getElem?_append_right (Nat.le_refl _), Nat.sub_self] at e1
    rw [h.len, List.getElem?_append_right (Nat.le_refl _), Nat.sub_self] at e2
    cases e1
    cases e2
    exact e
  · rw [List.getElem?_eq_none (by rw [List.length_append]; simp; omega)] at e1
    cases e1
theorem upd_keep {H : Hp} {D b : Addr} {o u w : HO} (hD : H D = some w) (h : H b = some u) (n : u ≠ w) : upd H D o b = some u := by
  have : b ≠ D := fun z => by
    rw [z, hD] at h
    exact n (Option.some.inj h).symm
  rw [upd_ne this]
  exact h
theorem free_of {H : Hp} {D b : Addr} {o : HO} (h : upd H D o b = none) : H b = none := by
  unfold upd at h
  split at h
  · cases h
  · exact h
theorem PicksAt.drop {H : Hp} {ks : List Addr} {ps : List Pk} (h : PicksAt H ks ps) : PicksAt H (ks.drop 1) (ps.drop 1) := by
  refine ⟨by rw [List.length_drop, List.length_drop, h.len], fun i k p e1 e2 => ?_⟩
  rw [List.getElem?_drop] at e1 e2
  exact h.at_ _ k p e1 e2
theorem cut_one (kk : List Addr) : cutV (kk.map V.ref) (some 1) none = (kk.drop 1).map V.ref := by
  have e : (some 1 : Option Int) = some ((1 : Nat) : Int) := rfl
  unfold cutV
  rw [HT.sIx_none, e, HT.sIx_nat]
  cases kk with
  | nil => rfl
  | cons x r =>
    have e2 : min 1 ((x :: r).map V.ref).length = 1 := by
      rw [List.length_map]
      show min 1 (r.length + 1) = 1
      omega
    rw [e2]
    show ((r.map V.ref).take (((x :: r).map V.ref).length - 1)) = r.map V.ref
    exact List.take_of_length_le (by rw [List.length_map, List.length_map]; show r.length ≤ r.length + 1 - 1; omega)
def optV : Option Str → V
  | none => .non
  | some z => .str z
theorem behind_vals (kp : List Pk) : ((kp.drop 1).map fun p => V.str p.1) ++ [V.non] = (behind kp).map optV := by
  unfold behind
  rw [List.map_append, List.map_map]
  rfl
/-- a pick as it is passed: a tuple, or a name alone for a keep of 0 -/
def ValAt (H : Hp) (x : V) (p : Pk) : Prop := (∃ k, x = .ref k ∧ TupAt H k p) ∨ (x = .str p.1 ∧ p.2 = 0)
theorem ValAt.same {H H' : Hp} {x : V} {p : Pk} (h : ValAt H x p) (s : Same H H') : ValAt H' x p := h.elim (fun ⟨k, e, t⟩ => .inl ⟨k, e, s _ _ t⟩) .inr
structure ValsAt (H : Hp) (xs : List V) (ps : List Pk) : Prop where
  len : xs.length = ps.length
  at_ : ∀ (i : Nat) (x : V) (p : Pk), xs[i]? = some x → ps[i]? = some p → ValAt H x p
theorem ValsAt.same {H H' : Hp} {xs : List V} {ps : List Pk} (h : ValsAt H xs ps) (s : Same H H') : ValsAt H' xs ps := ⟨h.len, fun i x p e1 e2 => (h.at_ i x p e1 e2).same s⟩
theorem ValsAt.get {H : Hp} {xs : List V} {ps : List Pk} (h : ValsAt H xs ps) {i : Nat} {x : V} (e : xs[i]? = some x) : ∃ p, ps[i]? = some p ∧ ValAt H x p := by
  have hi : i < ps.length := by
    rw [← h.len]
    exact (List.getElem?_eq_some_iff.mp e).1
  exact ⟨ps[i], List.getElem?_eq_getElem hi, h.at_ i x _ e (List.getElem?_eq_getElem hi)⟩
theorem PicksAt.vals {H : Hp} {ks : List Addr} {ps : List Pk} (h : PicksAt H ks ps) : ValsAt H (ks.map V.ref) ps := by
  refine ⟨by rw [List.length_map, h.len], fun i x p e1 e2 => ?_⟩
  rw [List.getElem?_map] at e1
  obtain ⟨k, hk, rfl⟩ := Option.map_eq_some_iff.mp e1
  exact .inl ⟨k, rfl, h.at_ i k p hk e2⟩
def lookL : List Pk → Str → Option Int
  | [], _ => none
  | p :: r, z => if z = p.1 then some p.2 else lookL r z
theorem lookL_mem : ∀ (l : List Pk) (z : Str), (lookL l z).isSome = true ↔ z ∈ l.map (·.1)
  | [], z => by simp [lookL]
  | p :: r, z => by
    unfold lookL
    rw [List.map_cons, List.mem_cons, ← lookL_mem r z]
    by_cases c : z = p.1
    · rw [if_pos c]; exact ⟨fun _ => .inl c, fun _ => rfl⟩
    · rw [if_neg c]; exact ⟨.inr, fun h => h.elim (fun q => absurd q c) id⟩
/-- what stands behind the picks: the keeps by bays, and the bays ascending -/
structure RuleC (K : PySem.W.Frag) (C : Addr) : Prop where
  cls : Cls K C
  n1 : NoAttr K C "_picks"
  n2 : NoAttr K C "_keeps"
  n3 : NoAttr K C "_bays"
structure More (H : Hp) (fs : List (Str × V)) (ps : List Pk) (D b : Addr) (r : List (Key × V)) (zs : List Str) : Prop where
  lm : fs.lookup ("keep" : Str) = none
  lk : fs.lookup ("_keeps" : Str) = some (.ref D)
  lb : fs.lookup ("_bays" : Str) = some (.ref b)
  eD : H D = some (.dK r)
  tb : TabOf r (lookL ps)
  eb : H b = some (.tup (zs.map V.str))
  nd : zs.Nodup
  mem : ∀ z, z ∈ zs ↔ z ∈ ps.map (·.1)
  srt : sortedS zs = true
def RuleAt (C : Addr) (H : Hp) (a : Addr) (ps : List Pk) : Prop := ∃ (dx : Addr) (fs : List (Str × V)) (p : Addr) (ks : List Addr), H a = some (.ins C dx fs) ∧ fs.lookup ("_picks" : Str) = some (.ref p) ∧ H p = some (.tup (ks.map V.ref)) ∧ PicksAt H ks ps ∧ ∃ D b r zs, More H fs ps D b r zs
theorem RuleAt.same {C : Addr} {H H' : Hp} {a : Addr} {ps : List Pk} (h : RuleAt C H a ps) (s : Same H H') : RuleAt C H' a ps := by
  obtain ⟨dx, fs, p, ks, h1, h2, h3, h4, D, b, r, zs, m⟩ := h
  exact ⟨dx, fs, p, ks, s _ _ h1, h2, s _ _ h3, h4.same s, D, b, r, zs, m.lm, m.lk, m.lb, s _ _ m.eD, m.tb, s _ _ m.eb, m.nd, m.mem, m.srt⟩
def pkD (p : Pk) : PyData := .tuple [.str p.1, .int p.2]
theorem pkD_lay {p : Pk} (h : PyData.strOk p.1 = true) : (pkD p).canLay0 = true := by simp [pkD, PyData.canLay0, PyData.canLayAll0, h]
theorem pkD_dep (p : Pk) : (pkD p).depth ≤ 1 := by simp [pkD, PyData.depth, PyData.depthAll]
theorem PicksAt.dp {K : PySem.W.Frag} {H : Hp} : ∀ {ks : List Addr} {ps : List Pk}, PicksAt H ks ps → DpAll K H (ks.map V.ref) (ps.map pkD)
  | [], [], _ => .nil
  | [], _ :: _, h => by cases h.len
  | _ :: _, [], h => by cases h.len
  | k :: ks, p :: ps, h => .cons (.tup (SqT.of (h.at_ 0 k p rfl rfl)) (.cons (.str p.1) (.cons (.int p.2) .nil))) (PicksAt.dp ⟨Nat.succ.inj h.len, fun i k' p' e1 e2 => h.at_ (i + 1) k' p' e1 e2⟩)
def optI : Option Int → V
  | none => .non
  | some i => .int i
/-- what may be asked with `in` and `keep`: a text, or another value -/
def AskAt (K : PySem.W.Frag) (H : Hp) (x : V) (o : Option Str) : Prop := match o with
  | some z => x = .str z
  | none => ∃ t, TyX K H x t ∧ PySem.W.kitOne K t (.type "str") = some false
def keepAt (ps : List Pk) (o : Option Str) : Option Int := o.elim none (lookL ps)
end K10
end
section
/-! Own: lambdas of several defs, each with its table; rules and rows where the pen moves. -/
namespace OwE
open PySem PySem.Spec PyProof.Rows L2
theorem pe_lamT {X : Cx} {T : List (Addr × Str)} {x a q : Str} {sH : Stmt} {g c Pt : Addr} {gd : FuncData} {Ng : List Str} {TT : (XK → Hp → VK → Prop) → Hp → VK → Prop} {k : Nat} {params : Arguments} {body : Expr} {scope : Scope} {t : XK → TE} {p lpos pos : Pos}
    (hg : Gl X x) (F : Fun X.K x x sH g gd) (hm : X.mg x = some (.ref g)) (hb : L2.Binds X.K gd [a] []) (Sg : FnScope Ng [a] (defScope sH)) (hNg : Ng[0]? = some a) (hva : Vis (defScope sH) a) (hq : X.env.qual ++ "<lambda>" = q)
    (hG : ∀ cdv, LamX.GivesTo X Ng x (defScope sH) g cdv (defBody sH) a q TT) (TB : LamX.TabB X.base X.mg c Pt) (hcode : X.env.code = .ref c) (mem : (Pt, q) ∈ T) (one : ∀ p ∈ T, p.1 = Pt → p.2 = q) (hr : Room (k + 2) X.A) (L : LamX.LamS X.env.scope scope)
    (hbody : ∀ (A : Around) (outer : List Env) (s : Shared) (H : Hp) (E : XK) (f c' : Addr), Room k (A.deeper (LamX.lamEnv X scope s.heap.objs.size f c')) → PE (LamX.lamCx X A outer s H E scope f c') body (t E))
    (hdef : defaultsOf params X.env = ([], []) := by rfl) (hbind : ∀ (q : Str) (cl : List (Str × Addr)) (pm cv ctv : Value), bindArgs (PySem.W.kla_fn "<lambda>" q params body scope cl pm cv ctv) ⟨[], []⟩ = pure [] := by intros; rfl)
    (hdb : (x == ("__debug__" : Str)) = false := by decide) (hd : (a == ("__debug__" : Str)) = false := by decide) (hcd : (a == ("__classdict__" : Str)) = false := by decide) :
    PE X (.Call (.Name x p) [.Lambda params body scope lpos] [] pos) (LamX.tLam T TT t) := by
  subst hq
  obtain ⟨oc, od, kV, doc, pm, an, cdv, ct, osl, rfl, lk, hcdv⟩ := F.ex
  exact LamX.pe_lamcall hg hm F.kp lk hcdv hb Sg hNg hva (hG cdv) TB hcode mem one hr L hdef hbind hbody hdb hd hcd
end OwE
namespace K10
open PySem PySem.Spec PyProof.Rows L2
section
variable {H H' : Hp} {p c : Addr} {ns : List Int} {n : Nat} {z : Int}
theorem lo_tup (P : PenAt H p c ns n z) (s : Lo p H H') {k : Addr} {xs : List V} (e : H k = some (.tup xs)) : H' k = some (.tup xs) := s k _ (fun q => by rw [q, P.pen] at e; cases e) (fun ps h => by cases h) e
theorem lo_ins (P : PenAt H p c ns n z) (s : Lo p H H') {k C dx : Addr} {fs : List (Str × V)} (e : H k = some (.ins C dx fs)) : H' k = some (.ins C dx fs) := s k _ (fun q => by rw [q, P.pen] at e; cases e) (fun ps h => by cases h) e
theorem lo_dK (P : PenAt H p c ns n z) (s : Lo p H H') {k : Addr} {kvs : List (Key × V)} (e : H k = some (.dK kvs)) : H' k = some (.dK kvs) := s k _ (fun q => by rw [q, P.pen] at e; cases e) (fun ps h => by cases h) e
theorem lo_refs (P : PenAt H p c ns n z) (s : Lo p H H') {k : Addr} {ks : List Addr} (e : H k = some (.lst (ks.map V.ref))) : H' k = some (.lst (ks.map V.ref)) := s k _ (P.ne_of e fun c n z h => by
  have h := HO.lst.inj h
  match ks, h with
  | [_, _, _], h => cases h) (fun ps h => by cases h) e
theorem PicksAt.lo {ks : List Addr} {ps : List Pk} (h : PicksAt H ks ps) (P : PenAt H p c ns n z) (s : Lo p H H') : PicksAt H' ks ps := h.mono fun k xs e => lo_tup P s e
theorem RuleAt.lo {C a : Addr} {ps : List Pk} (h : RuleAt C H a ps) (P : PenAt H p c ns n z) (s : Lo p H H') : RuleAt C H' a ps := by
  obtain ⟨dx, fs, q, ks, h1, h2, h3, h4, D, b, r, zs, m⟩ := h
  exact ⟨dx, fs, q, ks, lo_ins P s h1, h2, lo_tup P s h3, h4.lo P s, D, b, r, zs, m.lm, m.lk, m.lb, lo_dK P s m.eD, m.tb, lo_tup P s m.eb, m.nd, m.mem, m.srt⟩
end
end K10
end
section
/-! Own: several except clauses, some with a name; the last one takes what is left. -/
namespace OwE
open PySem PySem.Spec PyProof.Rows L2
/-- a clause: its class, the slot of its name (if it has one), what its suite does -/
abbrev Clause : Type := Value × Option Nat × (Addr → Value → Option Addr → TS)
def putS (o : Option Nat) (v : Option V) (σ : L2.St) : L2.St := match o with
  | some i => σ.set i v
  | none => σ
/-- what the clauses wish of an error, one after the other -/
def wMix (K : PySem.W.Frag) (D : Ends) : List Clause → WX
  | [] => fun _ _ _ _ => False
  | (c, o, ts) :: r => fun cls d σ H => ∃ b, PySem.W.exmOne K cls c = some b ∧ (b = true → ∀ a, H a = none → ts a cls d { nx := fun σ' H' => D.nx (putS o none σ') H', rt := D.rt, bk := fun _ _ => False, ct := fun _ _ => False } (putS o (some (.ref a)) σ) H) ∧ (b = false → wMix K D r cls d σ H)
inductive Clauses (X : Cx) : List ExceptHandler → List Clause → Prop
  | nil : Clauses X [] []
  | bare {x : Str} {c : Value} {ts : Addr → Value → Option Addr → TS} {b₀ : Stmt} {suite : List Stmt} {np q : Pos} {hds : List ExceptHandler} {l : List Clause} (hc : Names X x c)
      (hsu : ∀ (a : Addr) (oe : Obj) (cls : Value) (d : Option Addr) (pn : List (Addr × Obj)), Zc cls d oe → (∃ vs, oe.data = .fields vs) → PSs (X.suite a ((a, oe) :: pn)) (b₀ :: suite) (ts a cls d)) (r : Clauses X hds l) : Clauses X (.ExceptHandler (some (.Name x np)) none (b₀ :: suite) q :: hds) ((c, none, ts) :: l)
  | named {x n : Str} {c : Value} {i : Nat} {ts : Addr → Value → Option Addr → TS} {b₀ : Stmt} {suite : List Stmt} {np q : Pos} {hds : List ExceptHandler} {l : List Clause} (hc : Names X x c) (hi : X.N[i]? = some n) (hln : X.env.kindOf n = some .local)
      (hsu : ∀ (a : Addr) (oe : Obj) (cls : Value) (d : Option Addr) (pn : List (Addr × Obj)), Zc cls d oe → (∃ vs, oe.data = .fields vs) → PSs (X.suite a ((a, oe) :: pn)) (b₀ :: suite) (ts a cls d)) (r : Clauses X hds l) : Clauses X (.ExceptHandler (some (.Name x np)) (some n) (b₀ :: suite) q :: hds) ((c, some i, ts) :: l)
section
variable {X : Cx} {body : List Stmt} {h₀ : ExceptHandler} {hds : List ExceptHandler} {l : List Clause} {pos : Pos} {tb : WX → TS}
theorem ps_try_mix (hs : X.stack = X.env :: X.outer) (hf : X.env.frame = some X.env.locals) (hN : X.N.Nodup)
    (hb : ∀ (W : WX) (pn : List (Addr × Obj)) (xe : Value → Shared → Prop), Takes (X.tr pn xe) W → PSs (X.tr pn xe) body (tb W)) (hh : Clauses X (h₀ :: hds) l) :
    PS X (.Try body (h₀ :: hds) [] [] pos) (fun D σ H => tb (wMix X.K D l) D σ H) := by
  refine ⟨fun pins s σ H D I h => wpAny_Try_except ?_⟩
  have ok := I.ok
  have heard : Takes (X.tr (X.pn ++ pins) fun e s1 => wpAny (model X.prog X.w) X.A (noteFrame e X.env) (fun _ s2 => wpAny (model X.prog X.w) X.A (setFlight e none) (fun _ s3 => wpAny (model X.prog X.w) X.A (handleBy e X.env (h₀ :: hds)) (SP X pins D) X.xe s3) X.xe s2) X.xe s1) (wMix X.K D l) := by
    rintro u s1 ⟨a, B, sI, _, σ1, H1, cls, d, rfl, J, seen, up, sky, na, os, bare, wish⟩
    have J := J.ofTry ok
    rw [show (X.tr (X.pn ++ pins) _).stack = X.env :: X.outer from hs] at sky
    refine Sky.land Zc.steady (by rw [ok.frames, hs]) hf sky fun h2 fly up2 => ?_
    obtain ⟨ob, vb, eb, zb, db⟩ := fly.there
    have isFr : ∀ {b : Addr}, b ∈ frs (X.env :: X.outer) → b ≠ a := fun {b} m q => by
      obtain ⟨_, o, e, k⟩ := fly.2.2.1.mem m
      rw [q, eb] at e
      cases e
      exact k _ db
    have out : ∀ {b : Addr}, b = X.env.locals ∨ b ∈ X.fs → b ∈ frs (X.env :: X.outer) := fun {b} m => by
      rcases m with q | q
      · exact List.mem_filterMap.mpr ⟨X.env, List.mem_cons_self, by rw [hf, q]⟩
      · obtain ⟨e, me, q⟩ := List.mem_filterMap.mp q
        exact List.mem_filterMap.mpr ⟨e, List.mem_cons_of_mem _ me, q⟩
    have nl : a ≠ X.env.locals := fun q => isFr (out (.inl rfl)) q.symm
    have nf : a ∉ X.fs := fun q => isFr (out (.inr q)) rfl
    have first : ∀ {h : Heap} {o : Obj} {vs : Array Value}, s1.heap.UpToSlots h → B.StaysIn h → h.get? a = some o → o.data = .fields vs → Inv (X.suite a ((a, o) :: (X.pn ++ pins))) [] σ1 H1 { s1 with heap := h } := fun {h o vs} u st e dv => (J.landed (s' := { s1 with heap := h }) seen st (up.trans u) os bare).suite e dv na nl nf
    have I2 := first up2 fly.1 eb db
    have kind : PySem.W.Looks (model X.prog X.w) h2 (typeOf (.ref a)) cls := fun A Q E s k q => wpAny_typeOf_ref (k _ _ eb) (by rw [zb.1]; exact q)
    -- one clause behind the other
    have asked : ∀ {x : Str} {c : Value} {np : Pos}, Names X x c → ∀ {Q : Value → Shared → Prop} {E : Value → Shared → Prop}, Q c { s1 with heap := h2 } → wpAny (model X.prog X.w) (X.A.mark (some (.ref a))) (eval (.Name x np) X.env) Q E { s1 with heap := h2 } := fun {x c np} hc {Q E} q => by
      rcases hc with ⟨g, nd, m | ⟨m, v, nn⟩⟩
      · exact ld_glob (X := X.suite a ((a, ob) :: (X.pn ++ pins))) I2 g m q nd
      · exact ld_blt (X := X.suite a ((a, ob) :: (X.pn ++ pins))) I2 g m v q nn nd
    have go : ∀ {hs2 : List ExceptHandler} {l2 : List Clause}, Clauses X hs2 l2 → wMix X.K D l2 cls d σ1 H1 → wpAny (model X.prog X.w) X.A (handleBy (.ref a) X.env hs2) (SP X pins D) X.xe { s1 with heap := h2 } := by
      intro hs2 l2 k
      induction k with
      | nil => exact fun w => w.elim
      | @bare x c ts b₀ suite np q hds3 l3 hc hsu r ih =>
        rintro ⟨b, hx, yes, no⟩
        refine wpAny_handleBy_cons (codeAny_handlers_test (asked hc ((PySem.W.exm_one (M := model X.prog X.w) I2.kIn kind hx).here ?_))) (by intro q; cases q)
        cases b with
        | false => exact ih (no rfl)
        | true =>
          refine codeAny_handlers_suite (HandSPX.lands_againZ fly fun h3 fly3 up3 => ?_)
          obtain ⟨oc, vc, ec, zc, dc⟩ := fly3.there
          have I3 := first (up2.trans up3) fly3.1 ec dc
          refine wpAny_mono ((hsu a oc cls d (X.pn ++ pins) zc ⟨_, dc⟩).run [] _ _ H1 _ I3 (yes rfl a na)) ?_ fun _ _ z => z.elim
          rintro fl s5 q5
          cases fl with
          | next =>
            obtain ⟨σ5, H5, I5, q⟩ := q5
            exact ⟨_, _, I5.unsuite ok, q⟩
          | brk =>
            obtain ⟨_, _, _, q⟩ := q5
            exact q.elim
          | cont =>
            obtain ⟨_, _, _, q⟩ := q5
            exact q.elim
          | ret v =>
            obtain ⟨v5, σ5, H5, I5, r5, q⟩ := q5
            exact ⟨_, _, _, I5.unsuite ok, r5, q⟩
      | @named x n c i ts b₀ suite np q hds3 l3 hc hi hln hsu r ih =>
        rintro ⟨b, hx, yes, no⟩
        refine wpAny_handleBy_cons (codeAny_handlers_test (asked hc ((PySem.W.exm_one (M := model X.prog X.w) I2.kIn kind hx).here ?_))) (by intro q; cases q)
        cases b with
        | false => exact ih (no rfl)
        | true =>
          refine codeAny_handlers_suite_as (HandSPX.lands_againZ fly fun h3 fly3 up3 => ?_)
          obtain ⟨oc, vc, ec, zc, dc⟩ := fly3.there
          refine store_ok (X := X.suite a ((a, oc) :: (X.pn ++ pins))) (v := .ref a) (first (up2.trans up3) fly3.1 ec dc) hN hi (.inl hln) rfl (fun s4 I4 => wpAny_mono ((hsu a oc cls d (X.pn ++ pins) zc ⟨_, dc⟩).run [] s4 _ H1 _ I4 (yes rfl a na)) ?_ fun _ _ z => z.elim) (.inr hln)
          rintro fl s5 q5
          cases fl with
          | next =>
            obtain ⟨σ5, H5, I5, q⟩ := q5
            exact gone_ok (I5.unsuite ok) hN hi hln fun s6 I6 => ⟨_, _, I6, q⟩
          | brk =>
            obtain ⟨_, _, _, q⟩ := q5
            exact q.elim
          | cont =>
            obtain ⟨_, _, _, q⟩ := q5
            exact q.elim
          | ret v =>
            obtain ⟨v5, σ5, H5, I5, r5, q⟩ := q5
            exact gone_ok (I5.unsuite ok) hN hi hln fun s6 I6 => ⟨_, _, _, I6, r5, q⟩
    exact go hh wish
  refine wpAny_mono ((hb (wMix X.K D l) (X.pn ++ pins) _ heard).run [] s σ H D (I.toTry _) h) (fun fl s1 q => ?_) fun _ _ z => z
  cases fl with
  | next =>
    obtain ⟨σ1, H1, J, q⟩ := q
    exact wpAny_execs_nil ⟨σ1, H1, J.ofTry ok, q⟩
  | brk =>
    obtain ⟨σ1, H1, J, q⟩ := q
    exact ⟨σ1, H1, J.ofTry ok, q⟩
  | cont =>
    obtain ⟨σ1, H1, J, q⟩ := q
    exact ⟨σ1, H1, J.ofTry ok, q⟩
  | ret v =>
    obtain ⟨v, σ1, H1, J, r, q⟩ := q
    exact ⟨v, σ1, H1, J.ofTry ok, r, q⟩
end
end OwE
end
section
/-! a != b of own classes that define == alone. -/
namespace OwR
open PySem PySem.Spec PyProof.Rows L2
theorem slot_ne : Slot "object" "__ne__" "object.__ne__" := Slot.of (T := "object") (name := "__ne__") (owner := "object") (n := "__ne__") (by rw [typeLookup_type, builtinLookup_eq_fast]; kernel_rfl) (by decide +kernel) (by decide +kernel) (by decide +kernel)
  (.inl (by decide +kernel)) (by rw [isSubtype_type]; kernel_rfl)
theorem entry_ne : entryFor table "object.__ne__" = some Builtin.«object.__ne__» := entryFor_of_tree (by kernel_rfl)
theorem args_ne (a b : Value) : argsOk "object.__ne__" ⟨[a, b], []⟩ := by unfold argsOk; kernel_rfl
section
variable {prog : Program} {w : World} {A : Around} {E : Value → Shared → Prop} {s : Shared} {K : PySem.W.Frag} {x C f : Addr} {ox : Obj} {od : Option Obj} {b : Value}
theorem bound_ne {M : Model} {args : List Value} {Q : Option Value → Shared → Prop} (sp : PySem.W.Looks M s.heap (specialOf (.ref x) "__ne__") (some (.builtin "object.__ne__"))) (h : wpAny M A (call (.builtin "object.__ne__") (.ref x :: args)) (fun v => Q (some v)) E s) :
    wpAny M A (callSpecialIfBound? (.ref x) "__ne__" args) Q E s := by
  have fin : wpAny M A (call (.builtin "object.__ne__") ([.ref x] ++ args) >>= fun v => pure (some v)) Q E s := wpAny_bind (wpAny_mono h (fun v s' q => wpAny_pure q) fun _ _ q => q)
  have hb : bindSpecial (.builtin "object.__ne__") (.ref x) = pure (.builtin "object.__ne__", [.ref x]) := slot_ne.bind _
  simp only [callSpecialIfBound?, bindSpecialIfBound?]
  refine wpAny_holding (wpAny_bind (wpAny_bind (sp.here ?_)))
  simp only [hb]
  refine wpAny_bind (wpAny_askSetting (wpAny_ite ?_))
  split
  · exact wpAny_bind (wpAny_pure (wpAny_pure fin))
  · exact wpAny_tryCatch (wpAny_bind (wpAny_pure (wpAny_pure fin)))
theorem ne_K {tb : Value} {Q : Value → Shared → Prop} (hu : A.units + 1 < cLine) (X : K.In s.heap) (I : PySem.W.InstAt s.heap x ox C od) (hb : PySem.W.Looks (model prog w) s.heap (typeOf b) tb) (nf : PySem.W.notFirst K C tb = true) (obj : PySem.W.mroIn K C (.type "object") = some true)
    (ne : PySem.W.findIn K (.ref C) "__ne__" = some (some (.builtin "object.__ne__"))) (eq : PySem.W.findIn K (.ref C) "__eq__" = some (some (.ref f))) (fn : PySem.W.isFn K (.ref f) = true)
    (h : wpAny (model prog w) A.in1 (call (.ref f) [.ref x, b]) (fun v s' => ∃ c, v = .bool c ∧ Q (.bool (!c)) s') E s) : wpAny (model prog w) A (richCompare .NotEq (.ref x) b) Q E s := by
  have sp : PySem.W.Looks (model prog w) s.heap (specialOf (.ref x) "__ne__") (some (.builtin "object.__ne__")) := I.type.andThen (PySem.W.looks_findIn X ne)
  have inst : PySem.W.Looks (model prog w) s.heap (isInstance (.ref x) (.type "object")) true := I.type.andThen (PySem.W.looks_mroIn X obj)
  have hu0 : A.units < cLine := by omega
  have body : wpAny (model prog w) A (call (.builtin "object.__ne__") [.ref x, b]) (fun v s' => ∃ c, v = .bool c ∧ Q (.bool c) s') E s := by
    refine wpAny_call (codeAny_call_builtin slot_ne.plain entry_ne (@PySem.W.check_slot (model prog w) _ _ _ "object.__ne__" "object" "__ne__" (.ref x) [b] [] _ (by decide +kernel) (by decide +kernel) inst (args_ne _ _) ?_))
    show wpAny _ _ (do
      cRoomFor "comparison" [.ref x, b]
      match ← callSpecialIfBound? (.ref x) "__eq__" [b] with
      | some .notImplemented | none => ret .notImplemented
      | some r => ret (.bool (!(← truthy r)))) _ _ s
    refine wpAny_bind (wpAny_cRoomFor hu ?_)
    refine wpAny_bind (PySem.W.ifBound_K X I eq fn (wpAny_mono h (fun v s' q => ?_) fun _ _ q => q))
    obtain ⟨c, rfl, q⟩ := q
    show wpAny _ _ (truthy (.bool c) >>= fun t => ret (.bool (!t))) _ _ s'
    exact wpAny_bind (wpAny_pure (wpAny_pure ⟨!c, rfl, q⟩))
  have one : wpAny (model prog w) A (tryCompare (.ref x) "__ne__" b) (fun r s' => ∃ c, r = some (.bool c) ∧ Q (.bool c) s') E s := by
    unfold tryCompare
    refine wpAny_bind (bound_ne sp (wpAny_mono body (fun v s' q => ?_) fun _ _ q => q))
    obtain ⟨c, rfl, q⟩ := q
    exact wpAny_pure ⟨c, rfl, q⟩
  unfold richCompare
  simp only [oneThing_ref]
  refine wpAny_holding (wpAny_bind (wpAny_cRoomFor hu0 ?_))
  refine wpAny_bind (I.type.here (wpAny_bind (hb.here ?_)))
  have fin : ∀ r s', (∃ c, r = some (Value.bool c) ∧ Q (.bool c) s') → ∃ v, r = some v ∧ Q v s' := fun r s' ⟨c, e, q⟩ => ⟨_, e, q⟩
  split
  · rename_i q
    have e : PySem.W.subIn K tb (.ref C) = some false := by
      rcases Bool.or_eq_true_iff.mp nf with e | e
      · rw [beq_iff_eq.mp e] at q
        simp at q
      · exact beq_iff_eq.mp e
    refine wpAny_bind ((PySem.W.looks_subIn X e).here ?_)
    simp only [if_false, Bool.false_eq_true]
    refine wpAny_bind (wpAny_mono one (fun r s' z => ?_) fun _ _ e => e)
    obtain ⟨c, rfl, hq⟩ := z
    exact wpAny_pure hq
  · refine wpAny_bind (m := pure false) (wpAny_pure ?_)
    simp only [if_false, Bool.false_eq_true]
    refine wpAny_bind (wpAny_mono one (fun r s' z => ?_) fun _ _ e => e)
    obtain ⟨c, rfl, hq⟩ := z
    exact wpAny_pure hq
end
/-- the class has == of its own and object's != -/
structure Ne1 (K : PySem.W.Frag) (C g : Addr) : Prop where
  eq : PySem.W.findIn K (.ref C) "__eq__" = some (some (.ref g))
  fn : PySem.W.isFn K (.ref g) = true
  ne : PySem.W.findIn K (.ref C) "__ne__" = some (some (.builtin "object.__ne__"))
  obj : PySem.W.mroIn K C (.type "object") = some true
/-- a != b: the promise of == with the answer turned -/
def rNe2 (K : PySem.W.Frag) (g : Addr) (sp : Sp) (E : XK) : R2 := fun x y H Q => ∃ (p q C D dx dy : Addr) (fs gs : List (Str × V)), x = .ref p ∧ y = .ref q ∧ H p = some (.ins C dx fs) ∧ H q = some (.ins D dy gs) ∧ Ne1 K C g ∧ PySem.W.notFirst K C (.ref D) = true ∧ sp [.ref p, .ref q] H (fun v H' => ∃ c, v = .bl c ∧ Q (.bl (!c)) H') E
theorem op_ownNe {X : Cx} {CX : CXT} {k : Nat} {g : Addr} {sp : Sp} {E : XK} (hu : X.A.units + 1 < cLine) (F : FnR X.prog X.w X.K X.mg X.base CX k g sp) (hr : Room (k + 1) X.A) (hx : Passes CX X E) : OpR X (compareOp .NotEq) (rNe2 X.K g sp E) := by
  intro pins s σ H x y v u Q I rx ry h
  obtain ⟨p, q, C, D, dx, dy, fs, gs, rfl, rfl, ep, eq, c1, nf, hq⟩ := h
  obtain rfl : v = Value.ref p := rx
  obtain rfl : u = Value.ref q := ry
  obtain ⟨ox, od, J, _⟩ := StX.insC_at I (.inr ⟨dx, fs, ep⟩)
  obtain ⟨oy, oe, J2, _⟩ := StX.insC_at I (.inr ⟨dy, gs, eq⟩)
  refine PySem.W.cmp_ofNotEq (ne_K hu I.kIn J J2.type nf c1.obj c1.ne c1.eq c1.fn ?_)
  refine wpAny_mono (run_in (us := [.ref p, .ref q]) (vs := [.ref p, .ref q]) F hr hx I (.cons rfl (.cons rfl .nil)) hq) (fun v s' z => ?_) fun _ _ z => z
  obtain ⟨x2, H2, I2, r2, c, rfl, z⟩ := z
  exact ⟨c, r2, .bl (!c), H2, I2, rfl, z⟩
/-! ### len(o), o of an own class -/
structure Len1 (K : PySem.W.Frag) (C g : Addr) : Prop where
  at_ : PySem.W.findIn K (.ref C) "__len__" = some (some (.ref g))
  fn : PySem.W.isFn K (.ref g) = true
def rLenO (K : PySem.W.Frag) (g : Addr) (sp : Sp) (E : XK) : List V → Hp → VK → Prop := fun xs H Q => ∃ (a C dx : Addr) (fs : List (Str × V)), xs = [.ref a] ∧ H a = some (.ins C dx fs) ∧ Len1 K C g ∧ sp [.ref a] H (fun v H' => ∃ n : Int, v = .int n ∧ 0 ≤ n ∧ n < 2 ^ 63 ∧ Q (.int n) H') E
theorem call_lenO {X : Cx} {CX : CXT} {k : Nat} {g : Addr} {sp : Sp} {E : XK} (F : FnR X.prog X.w X.K X.mg X.base CX k g sp) (hr : Room (k + 1) X.A) (hx : Passes CX X E) : CallR X (.builtin "len") (rLenO X.K g sp E) := by
  intro pins s σ H xs us Q I r h
  obtain ⟨a, C, dx, fs, rfl, ea, c, hq⟩ := h
  obtain rfl := Vals.ref1 r
  obtain ⟨ox, od, J, _⟩ := StX.insC_at I (.inr ⟨dx, fs, ea⟩)
  obtain ⟨mm, fr⟩ := I.fr
  refine PySem.W.len_K fr I.ok.mod.kin J c.at_ c.fn (wpAny_mono (run_in (us := [.ref a]) (vs := [.ref a]) F hr hx I (.cons rfl .nil) hq) (fun v s' z => ?_) fun _ _ z => z)
  obtain ⟨y, H2, I2, ry, n, rfl, n0, n1, z⟩ := z
  obtain ⟨t, rfl⟩ := ry
  exact ⟨⟨n0, n1⟩, .int n, H2, I2.tok _, ⟨_, rfl⟩, z⟩
end OwR
end
section
/-! Walks over objects of own classes whose __iter__ gives a tuple's iterator. -/
namespace OwR
open PySem PySem.Spec PyProof.Rows L2
abbrev itTup (l : Addr) (i : Nat) : Obj := { cls := .type "tuple_iterator", data := .fields #[.ref l, .int i 0] }
/-- at it the iterator of the tuple at l, just made -/
def ItT (l it : Addr) : HO := .ext fun h => h.get? it = some (itTup l 0)
theorem itT_ok {P : Program} {w : World} {H : Hp} {h : Heap} {l it : Addr} (e : h.get? it = some (itTup l 0)) : ObjOk P w H h it (ItT l it) := ⟨e, ⟨_, e⟩, fun h1 h2 q k => k _ q⟩
theorem itT_get {X : Cx} {pins : List (Addr × Obj)} {σ : L2.St} {H : Hp} {s : Shared} {l it : Addr} (I : Inv X pins σ H s) (e : H it = some (ItT l it)) : s.heap.get? it = some (itTup l 0) := (I.hok it _ e).1
/-- iter(t), t a tuple -/
def rIterT (K : PySem.W.Frag) : List V → Hp → VK → Prop := fun xs H Q => ∃ (l : Addr) (zs : List V), xs = [.ref l] ∧ SqT K H l zs ∧ ∀ it, H it = none → Q (.ref it) (upd H it (ItT l it))
theorem call_iterT {X : Cx} : CallR X (.builtin "iter") (rIterT X.K) := by
  intro pins s σ H xs us Q I r h
  obtain ⟨l, zs, rfl, hq, q⟩ := h
  obtain rfl := Vals.ref1 r
  obtain ⟨its, rv, pl, hz⟩ := I.tuple hq
  refine Calls.call_function_entry (by decide +kernel) (by decide +kernel) PySem.W.kdk_entry_iter (PySem.W.kdk_args_iter _) ?_
  unfold Builtin.«iter»
  refine wpAny_bind (m := someArgs "iter" 1 2 _) (wpAny_of_eq (a := [Value.ref l]) (by first | rfl | kernel_rfl!) ?_)
  show wpAny _ _ (pyIter (.ref l) >>= fun v => ret v) _ _ _
  refine wpAny_bind (wpAny_pyIter_tuple (show s.heap.IsTuple l its.toArray from pl) ?_)
  exact wpAny_pure ⟨_, rfl, .ref s.heap.objs.size, _, I.laid (t' := s.toks) (fun b u e => Heap.get?_push_of_some _ e) (Nat.le_refl _) (itT_ok (Heap.get?_push_size _ rfl)), rfl, q _ (I.hok.fresh (Nat.le_refl _))⟩
/-- .. as young as the call -/
def rIterTN (K : PySem.W.Frag) (n : Nat) : List V → Hp → VK → Prop := fun xs H Q => ∃ (l : Addr) (zs : List V), xs = [.ref l] ∧ SqT K H l zs ∧ ∀ it, H it = none → n ≤ it → Q (.ref it) (upd H it (ItT l it))
theorem call_iterTN {X : Cx} : CallR X (.builtin "iter") (rIterTN X.K X.s_0.heap.objs.size) := by
  intro pins s σ H xs us Q I r h
  obtain ⟨l, zs, rfl, hq, q⟩ := h
  obtain rfl := Vals.ref1 r
  obtain ⟨its, rv, pl, hz⟩ := I.tuple hq
  refine Calls.call_function_entry (by decide +kernel) (by decide +kernel) PySem.W.kdk_entry_iter (PySem.W.kdk_args_iter _) ?_
  unfold Builtin.«iter»
  refine wpAny_bind (m := someArgs "iter" 1 2 _) (wpAny_of_eq (a := [Value.ref l]) (by first | rfl | kernel_rfl!) ?_)
  show wpAny _ _ (pyIter (.ref l) >>= fun v => ret v) _ _ _
  refine wpAny_bind (wpAny_pyIter_tuple (show s.heap.IsTuple l its.toArray from pl) ?_)
  exact wpAny_pure ⟨_, rfl, .ref s.heap.objs.size, _, I.laid (t' := s.toks) (fun b u e => Heap.get?_push_of_some _ e) (Nat.le_refl _) (itT_ok (Heap.get?_push_size _ rfl)), rfl, q _ (I.hok.fresh (Nat.le_refl _)) I.sz⟩
/-! ### a def whose promise may speak of where the call stands -/
def FnS (P : Program) (w : World) (K : PySem.W.Frag) (mg : Str → Option Value) (base : Heap) (CX : CXT) (k : Nat) (f : Addr) (fd : FuncData) (ps : List Str) (sp : Shared → Sp) : Prop :=
  ∀ (A : Around) (outer : List Env) (s : Shared) (H : Hp) (args : Args) (us : List Value) (vs : List V) (Q : VK) (E : XK), Room k A → Env0 P w K mg base A outer s H → BindsTo s fd args (ps.zip us) → Vals vs us → sp s vs H Q E →
    codeAny (model P w) A (.call (.ref f) args) (CR CX outer P w H s Q E) s
section
variable {CX : CXT} {P : Program} {w : World} {K : PySem.W.Frag} {mg : Str → Option Value} {base : Heap} {k : Nat} {f : Addr} {name qual : Str} {params : Arguments} {body : List Stmt} {scope : Scope} {dV kV doc pm cdv ct oc : Value} {an od : Option Addr}
  {osl : Array (Option Value)} {N ps : List Str} {sp : Shared → Sp}
theorem fn_ofS (lk : K.lookup f = some ⟨oc, od, .func (PySem.W.fnOf name qual params body scope dV kV doc pm an cdv ct), osl⟩) (hcd : PySem.W.codeIn K cdv qual = true) (S : FnScope N ps scope)
    (len : ∀ s vs H Q E, sp s vs H Q E → vs.length = ps.length)
    (hbody : ∀ (A : Around) (outer : List Env) (s : Shared) (H : Hp) (vs : List V) (Q : VK) (E : XK), Room k (A.deeper (envOfC qual scope s.heap.objs.size f cdv)) → sp s vs H Q E →
      ∃ t, PSs (cxOf CX P w K mg base N qual scope f cdv A outer s H E) body t ∧ t { nx := fun _ H' => Q .non H', rt := Q } (start N vs) H) :
    FnS P w K mg base CX (k + 1) f (PySem.W.fnOf name qual params body scope dV kV doc pm an cdv ct) ps sp := by
  intro A outer s H args us vs Q E hr e0 hb r hsp
  have hl := len _ _ _ _ _ hsp
  have KS : K.In s.heap := e0.mod.kin.keeps fun b o e => (e0.bs b o e).1
  have lims : s.heap.NoLimit := e0.mod.nolimit.keeps fun b o e => (e0.bs b o e).1
  have kinds : ∀ y ∈ ps.zip us, scope.names.lookup y.1 = some .local ∨ (scope.names.lookup y.1 = some .cell ∧ ((cellsFrom (s.heap.objs.size + 1) scope.names []).lookup y.1).isSome = true) := fun y hy =>
    (S.par y.1 (List.of_mem_zip hy).1).imp id fun q => ⟨q, PySem.W.cellsFrom_some _ _ _ (.inl q)⟩
  refine codeAny_call_function hr.depth (KS _ _ lk) rfl S.co S.gen rfl (PySem.W.codeRec_of KS hcd) (hb _ _ _ _ ?_)
  refine wpAny_newFunctionEnv_cells S.kind kinds fun env he s1 x => ?_
  subst he
  refine ⟨lims.keeps x.toInCall.keep, codeAny_func ?_⟩
  obtain ⟨t, ht, hq⟩ := hbody A outer s H vs Q E (hr.deeper _) hsp
  have I : Inv (cxOf CX P w K mg base N qual scope f cdv A outer s H E) [] (start N vs) H s1 := inv_start S hr.hd e0 hl r x
  refine wpAny_mono (ht.run [] s1 (start N vs) H _ I hq) (fun fl s' hs => ?_) fun _ _ z => z
  have done : ∀ {σ' : L2.St} {H' : Hp} {v : V} {u : Value}, Inv (cxOf CX P w K mg base N qual scope f cdv A outer s H E) [] σ' H' s' → RelV v u → Q v H' → CE outer P w H s Q u s' :=
    fun {σ' H' v u} J rv q => ⟨v, H', J.os, J.bare, J.base, J.hok, rv, q⟩
  cases fl with
  | ret u =>
    obtain ⟨v, σ', H', J, rv, q⟩ := hs
    exact done J rv q
  | next =>
    obtain ⟨σ', H', J, q⟩ := hs
    exact done (v := V.non) (u := Value.none) J rfl q
  | brk => exact (hs.elim fun _ z => z.elim fun _ z => z.2.elim)
  | cont => exact (hs.elim fun _ z => z.elim fun _ z => z.2.elim)
end
/-- def __iter__(self): return iter(self.fld) -/
def spIt (C : Addr) (K : PySem.W.Frag) (fld : Str) : Shared → Sp := fun s vs H Q _ => ∃ (a dx l : Addr) (fs : List (Str × V)) (zs : List V), vs = [.ref a] ∧ H a = some (.ins C dx fs) ∧ fs.lookup fld = some (.ref l) ∧ SqT K H l zs ∧ ∀ it, H it = none → s.heap.objs.size ≤ it → Q (.ref it) (upd H it (ItT l it))
/-- .. at a call with its arguments by place -/
def FnSR (P : Program) (w : World) (K : PySem.W.Frag) (mg : Str → Option Value) (base : Heap) (CX : CXT) (k : Nat) (f : Addr) (sp : Shared → Sp) : Prop :=
  ∀ (A : Around) (outer : List Env) (s : Shared) (H : Hp) (us : List Value) (vs : List V) (Q : VK) (E : XK), Room k A → Env0 P w K mg base A outer s H → Vals vs us → sp s vs H Q E →
    codeAny (model P w) A (.call (.ref f) ⟨us, []⟩) (CR CX outer P w H s Q E) s
theorem FnS.raw {P : Program} {w : World} {K : PySem.W.Frag} {mg : Str → Option Value} {base : Heap} {CX : CXT} {k : Nat} {f : Addr} {fd : FuncData} {ps : List Str} {sp : Shared → Sp} (F : FnS P w K mg base CX k f fd ps sp) (len : ∀ s vs H Q E, sp s vs H Q E → vs.length = ps.length)
    (hb : Binds K fd ps []) : FnSR P w K mg base CX k f sp := fun A outer s H us vs Q E hr e0 r hs => by
  have hl : (us ++ []).length = ps.length := by
    rw [List.append_nil, ← r.length]
    exact len _ _ _ _ _ hs
  have b := hb s us (e0.mod.kin.keeps fun b o e => (e0.bs b o e).1) hl
  rw [List.append_nil] at b
  exact F A outer s H ⟨us, []⟩ us vs Q E hr e0 b r hs
structure OwnIt (K : PySem.W.Frag) (C f : Addr) (fld : Str) : Prop where
  cls : Cls K C
  na : NoAttr K C fld
  at_ : PySem.W.findIn K (.ref C) "__iter__" = some (some (.ref f))
  fn : PySem.W.isFn K (.ref f) = true
/-- over an object whose __iter__ gives the iterator of the tuple at l -/
def iOwn (K : PySem.W.Frag) (f : Addr) (fld : Str) (te : TE) : TI := fun σ H R => te σ H fun x H1 => ∃ (a C dx l : Addr) (fs : List (Str × V)) (zs : List V), x = .ref a ∧ H1 a = some (.ins C dx fs) ∧ OwnIt K C f fld ∧ fs.lookup fld = some (.ref l) ∧ SqT K H1 l zs ∧ R (Itt K l) H1
theorem tup_next {M : Model} {A : Around} {E : Value → Shared → Prop} {s : Shared} {it l : Addr} {Q : Value → Shared → Prop} (h : s.heap.get? it = some (itTup l 0)) (q : Q (.ref it) s) : PySem.W.OwitIt M A Q E (.ref it) s := by
  unfold PySem.W.OwitIt
  exact wpAny_specialOf (name := Str.ofString "__next__") (⟨_, h, rfl⟩ : s.TypeIs (.ref it) "tuple_iterator") PySem.F.slot_tuple_iterator_next.lookup q
theorem pi_own {X : Cx} {CX : CXT} {k : Nat} {f : Addr} {fld : Str} {E : XK} {tg e : Expr} {te : TE} (he : PE X e te) (F : ∀ C, OwnIt X.K C f fld → FnSR X.prog X.w X.K X.mg X.base CX k f (spIt C X.K fld)) (hr : Room k X.A) (hx : Passes CX X E) : PI X tg e (iOwn X.K f fld te) := by
  refine ⟨fun pins s σ H R I h => ?_⟩
  refine thn (he.run pins s σ H _ I h) fun u s1 ⟨x, H1, I1, rx, a, C, dx, l, fs, zs, ex, ea, c, lk, sq, hq⟩ => ?_
  subst ex
  obtain rfl : u = Value.ref a := rx
  obtain ⟨ox, od, J, _⟩ := StX.insC_at I1 (.inr ⟨dx, fs, ea⟩)
  obtain ⟨mm, fr⟩ := I1.fr
  have sp0 : spIt C X.K fld s1 [.ref a] H1 (fun v H2 => ∃ it, v = .ref it ∧ H1 it = none ∧ s1.heap.objs.size ≤ it ∧ H2 = upd H1 it (ItT l it)) E := ⟨a, dx, l, fs, zs, rfl, ea, lk, sq, fun it e n => ⟨it, rfl, e, n, rfl⟩⟩
  refine PySem.W.owit_iter fr I1.ok.mod.kin J c.at_ c.fn (wpAny_call (codeAny_mono (F C c X.A X.stack s1 H1 [.ref a] [.ref a] _ E hr I1.env0 (.cons rfl .nil) sp0) fun r s' z => ?_))
  match r, z with
  | .error er, z => exact hx pins σ H1 s1 er s' I1 z
  | .ok (.ret v), z =>
    obtain ⟨y, H2, os, br, un, ok, ry, it, ey, e1, hn, eH⟩ := z
    subst ey
    subst eH
    obtain rfl : v = Value.ref it := ry
    have I2 : Inv X pins σ (upd H1 it (ItT l it)) s' := I1.call' os un ok br fun b m => by cases m
    have eo := itT_get I2 upd_same
    refine tup_next eo ?_
    have e2 : upd H1 it (ItT l it) it = some (.ext fun h => h.get? it = some (itTup l 0)) := upd_same
    have I3 := ItX.inv_drop I2 e2
    rw [ItX.dropH_upd e1] at I3
    have fp := ItX.inv_fp I2 e2 (Nat.le_trans I1.sz hn)
    rw [ItX.dropH_upd e1] at fp
    refine ⟨it, [it], _, _, H1, rfl, I3, turn_tuple l it, ⟨_, eo, rfl, rfl⟩, fun b hb => ?_, hq⟩
    obtain rfl : b = it := by simpa using hb
    exact fp
end OwR
end
section
/-! list(o), o an object whose __iter__ gives a tuple's iterator and whose __len__ its length. -/
namespace OwR
open PySem PySem.Spec PyProof.Rows L2
section
variable {X : Cx} {pins : List (Addr × Obj)} {σ : L2.St} {H : Hp} {s : Shared}
/-- a list has been filled, an iterator has turned -/
theorem listed {S it : Addr} {xs ys : List V} {acc : Array Value} {c : Nat} {h' : Heap} {t' : Nat} (I : Inv X pins σ H s) (fp : FpOk X pins H it) (hS : H S = some (.lst ys)) (k : ∀ b o, b ≠ S → b ≠ it → s.heap.get? b = some o → h'.get? b = some o)
    (eS : h'.get? S = some ({ cls := .type "list", dict := none, data := .seq acc c, slots := #[] } : Obj)) (rv : Vals xs acc.toList) (hz : xs.length ≤ sizeLine) : Inv X pins σ (upd H S (.lst xs)) { s with heap := h', toks := t' } := by
  have nS : ∀ {b : Addr} {u : HO}, H b = some u → (∀ zs, u ≠ .lst zs) → b ≠ S := fun {b u} e n z => by
    rw [z, hS] at e
    exact n ys (Option.some.inj e).symm
  have nN : ∀ {b : Addr}, H b = none → b ≠ S := fun {b} e z => by
    rw [z, hS] at e
    cases e
  have nI : ∀ {b : Addr} {u : HO}, H b = some u → b ≠ it := fun {b u} e z => by
    rw [z, fp.1] at e
    cases e
  have ni : ∀ {b : Addr}, b ∉ [it] → b ≠ it := fun {b} m z => m (List.mem_singleton.mpr z)
  refine I.step (g' := s.gens) (d' := s.drawn) (ch := [it]) (fun b m => ?_) (fun b o _ _ m e n => k b o (nN n) (ni m) e) (fun b o _ _ m e n => ⟨o.slots, k b o (nN n) (ni m) e⟩) (fun b o m e n => by rw [upd_ne (nN n)]; exact n) (fun b o m e => ?_)
    (fun b zs e => by rw [upd_ne (nS e fun _ z => by cases z)]; exact e) (fun b o u e => by rw [upd_ne (nS e fun _ z => by cases z)]; exact e) (fun b ps e => ⟨#[], by rw [upd_ne (nS e fun _ z => by cases z), e]; simp⟩) (fun m hm => ?_) (fun b u e => ?_) I.bare
  · obtain rfl : b = it := by simpa using m
    exact ⟨fp.2.2.2.1, fp.2.1, fp.2.2.2.2.1, fp.2.2.2.2.2⟩
  · by_cases c : b = S
    · subst c
      exact ⟨_, eS⟩
    · exact ⟨o, k b o c (ni m) e⟩
  · obtain ⟨o, es, ep, ho, r⟩ := hm
    exact ⟨o, es, ep, k _ o (nN I.free) (Ne.symm fp.2.1) ho, r⟩
  · by_cases c : b = S
    · subst c
      rw [upd_same] at e
      cases e
      exact ⟨hz, acc.toList, _, rv, eS⟩
    · rw [upd_ne c] at e
      refine (I.hok b u e).stay (fun d v hd q => k d v ?_ ?_ q) (fun d z => ?_) fun d zs z => ?_
      · rcases hd with z | z
        · rw [z]
          exact c
        · exact nS z fun _ w => by cases w
      · rcases hd with z | z
        · rw [z]
          exact nI e
        · exact nI z
      · rw [upd_ne (nS z fun _ w => by cases w)]
        exact z
      · rw [upd_ne (nS z fun _ w => by cases w)]
        exact z
end
theorem items_all {its : List Value} {acc : Array Value} (h : ItemsOf (fun i v => its.toArray[i]? = some v) acc its.toArray.size) : acc.toList = its := by
  refine List.ext_getElem? fun i => ?_
  obtain ⟨h1, h2⟩ := h
  have h1' : acc.size = its.length := by simpa using h1
  cases e : acc.toList[i]? with
  | some v =>
    have e2 : acc[i]? = some v := by rw [← Array.getElem?_toList]; exact e
    have e3 : its.toArray[i]? = some v := h2 i v e2
    rw [List.getElem?_toArray] at e3
    exact e3.symm
  | none =>
    have : acc.toList.length ≤ i := List.getElem?_eq_none_iff.mp e
    rw [Array.length_toList, h1'] at this
    exact (List.getElem?_eq_none this).symm
/-- len(self) is len(self.fld) -/
def spLn (C : Addr) (K : PySem.W.Frag) (fld : Str) : Sp := fun vs H Q _ => ∃ (a dx l : Addr) (fs : List (Str × V)) (zs : List V), vs = [.ref a] ∧ H a = some (.ins C dx fs) ∧ fs.lookup fld = some (.ref l) ∧ SqT K H l zs ∧ Q (.int (zs.length : Nat)) H
def rListO (K : PySem.W.Frag) (f g : Addr) (fld : Str) : List V → Hp → VK → Prop := fun xs H Q => ∃ (a C dx l : Addr) (fs : List (Str × V)) (zs : List V), xs = [.ref a] ∧ H a = some (.ins C dx fs) ∧ OwnIt K C f fld ∧ Len1 K C g ∧ fs.lookup fld = some (.ref l) ∧ SqT K H l zs ∧ ∀ q, H q = none → Q (.ref q) (upd H q (.lst zs))
theorem asInt_of (n : Int) (t : Tok) : asInt? (.int n t) = pure (some n) := rfl
/-- the hint of how many there are -/
theorem hint_own {prog : Program} {w : World} {A : Around} {E : Value → Shared → Prop} {s : Shared} {K : PySem.W.Frag} {a C g : Addr} {ox : Obj} {od : Option Obj} {Q : Bool → Shared → Prop} (X : K.In s.heap) (J : PySem.W.InstAt s.heap a ox C od) (c : Len1 K C g)
    (h : ∀ E' : Value → Shared → Prop, wpAny (model prog w) A (call (.builtin "len") [.ref a]) (fun v s' => ∃ (n : Int) (t : Tok), v = .int n t ∧ n.toNat ≤ sizeLine ∧ Q (n != 0) s') E' s) : wpAny (model prog w) A (Builtin.List.listLengthHint (.ref a)) Q E s := by
  unfold Builtin.List.listLengthHint
  refine wpAny_bind (wpAny_bind (J.type.here ((PySem.W.looks_findIn X c.at_).here ?_)))
  refine PySem.W.KFB.if_not rfl ?_
  refine wpAny_ite_split (fun _ => ?_) (fun z => absurd rfl z)
  refine wpAny_bind (wpAny_rule ?_)
  refine wpAny_bind (wpAny_attempt (wpAny_mono (h _) (fun v s' q => ?_) fun _ _ z => z))
  obtain ⟨n, t, rfl, hn, q⟩ := q
  refine wpAny_bind (m := asInt? (.int n t)) (wpAny_pure ?_)
  exact PySem.W.KFB.if_not (notLongL hn) (wpAny_pure q)
theorem call_listO {X : Cx} {k : Nat} {f g : Addr} {fld : Str} (F : ∀ C, OwnIt X.K C f fld → FnSR X.prog X.w X.K X.mg X.base CX0 k f (spIt C X.K fld)) (G : ∀ C, Len1 X.K C g → OwnIt X.K C f fld → FnR X.prog X.w X.K X.mg X.base CX0 k g (spLn C X.K fld)) (hc : X.calm = true) (hr : Room (k + 3) X.A) : CallR X (.type "list") (rListO X.K f g fld) := by
  intro pins s σ H xs us Q I rv h
  obtain ⟨a, C, dx, l, fs, zs, rfl, ha, cI, cL, lk, sq, q⟩ := h
  obtain rfl := Vals.ref1 rv
  have fr0 : H s.heap.objs.size = none := I.hok.fresh (Nat.le_refl _)
  refine callType_codes (Q₁ := fun obj t => obj = .ref s.heap.objs.size ∧ t = { s with heap := s.heap.push { cls := .type "list", data := .seq #[] } }) PySem.F.called_list (PySem.F.typeCall_list_1 _) PySem.F.entry_list_init (code_list_new _ ⟨rfl, rfl⟩) fun obj t ht => ?_
  obtain ⟨rfl, rfl⟩ := ht
  have hS : (s.heap.push { cls := .type "list", data := .seq #[] }).get? s.heap.objs.size = some { cls := .type "list", data := .seq #[] } := Heap.get?_push_size _ rfl
  refine ⟨⟨_, hS, rfl⟩, PySem.F.args_list_init_2 _ _, ?_⟩
  have I1 : Inv X pins σ (upd H s.heap.objs.size (.lst [])) { s with heap := s.heap.push { cls := .type "list", data := .seq #[] } } := I.lnew (its := []) (t' := s.toks) .nil (Nat.zero_le _)
  generalize eSz : s.heap.objs.size = S at *
  show wpAny _ _ (do let old ← Builtin.List.listItems (.ref S); Builtin.List.listUpdate (.ref S) (fun _ => #[]); letGo old.toList.reverse; Builtin.List.listExtendWith (.ref S) (.ref a) .none) _ _ _
  refine wpAny_bind ?_
  unfold Builtin.List.listItems
  refine wpAny_bind (wpAny_seqItems hS rfl (wpAny_pure ?_))
  show wpAny _ _ (updateSeq S (fun _ => #[]) >>= fun _ => letGo (#[] : Array Value).toList.reverse >>= fun _ => Builtin.List.listExtendWith (.ref S) (.ref a) .none) _ _ _
  refine wpAny_bind (wpAny_updateSeq hS rfl ?_)
  have I2 := I1.lset (f := fun _ => #[]) (its := []) (its' := []) (ys := []) (t' := s.toks) upd_same hS rfl .nil (Nat.zero_le _)
  rw [upd_upd] at I2
  refine wpAny_bind (wpAny_letGo ?_)
  have ha2 : upd H S (.lst []) a = some (.ins C dx fs) := by
    rw [upd_ne (ne_of_none ha fr0)]
    exact ha
  have sq2 : SqT X.K (upd H S (.lst [])) l zs := sq.elim (fun r => .inl (r.elim (fun e => .inl (by rw [upd_ne (ne_of_none e fr0)]; exact e)) fun ⟨o, e⟩ => .inr ⟨o, by rw [upd_ne (ne_of_none e fr0)]; exact e⟩)) .inr
  have eS2 : upd H S (.lst []) S = some (.lst []) := upd_same
  have done : ∀ s', Inv X pins σ (upd (upd H S (.lst [])) S (.lst zs)) s' → EP X pins σ Q (.ref S) s' := fun s' J => by
    rw [upd_upd] at J
    exact ⟨.ref S, _, J, rfl, q S fr0⟩
  generalize upd H S (.lst []) = H2 at I2 ha2 sq2 eS2 done
  generalize ({ s with heap := ((s.heap.push { cls := .type "list", data := .seq #[] }).update S (Obj.mapSeq fun _ => #[])), toks := s.toks } : Shared) = s2 at I2 ⊢
  have sz := sizeLine_eq
  have nSa : S ≠ a := fun z => by
    rw [z, ha2] at eS2
    cases eS2
  obtain ⟨ox, od, J, _⟩ := StX.insC_at I2 (.inr ⟨dx, fs, ha2⟩)
  obtain ⟨mm, fr⟩ := I2.fr
  obtain ⟨itz, rvz, plz, hz⟩ := I2.tuple sq2
  unfold Builtin.List.listExtendWith
  refine wpAny_bind (J.type.here ?_)
  have t1 : Builtin.List.listSameRef (.ref S) (.ref a) = false := by simp [Builtin.List.listSameRef, nSa]
  have t2 : (Value.ref C == Value.type "list") = false := rfl
  have t3 : (Value.ref C == Value.type "tuple") = false := rfl
  simp only [t3, t2, t1, Bool.false_eq_true, Bool.or_false, if_false]
  have sp0 : spIt C X.K fld s2 [.ref a] H2 (fun v G2 => ∃ it, v = .ref it ∧ H2 it = none ∧ s2.heap.objs.size ≤ it ∧ G2 = upd H2 it (ItT l it)) E0 := ⟨a, dx, l, fs, zs, rfl, ha2, lk, sq2, fun it e n => ⟨it, rfl, e, n, rfl⟩⟩
  refine wpAny_bind (PySem.W.owit_iter fr I2.ok.mod.kin J cI.at_ cI.fn (wpAny_call (codeAny_mono (F C cI X.A.in1.in1 X.stack s2 H2 [.ref a] [.ref a] _ E0 (hr.in1.in1.mono (Nat.le_succ k)) I2.env0.in1.in1 (.cons rfl .nil) sp0) fun r s' z => ?_)))
  match r, z with
  | .error er, z => exact z.elim
  | .ok (.ret v), z =>
    obtain ⟨y, G3, os, br, un, ok, ry, it, ey, e1, hn, eH⟩ := z
    subst ey
    subst eH
    obtain rfl : v = Value.ref it := ry
    have I3 : Inv X pins σ (upd H2 it (ItT l it)) s' := I2.call' os un ok br fun b m => by cases m
    have nlit : l ≠ it := fun e => by
      obtain ⟨o, eo, _⟩ := plz
      exact absurd (Nat.lt_of_lt_of_le (Heap.lt_size eo) (e ▸ hn)) (Nat.lt_irrefl _)
    have mono : ∀ {b : Addr} {u : HO}, H2 b = some u → upd H2 it (ItT l it) b = some u := fun {b u} e => by
      rw [upd_ne (ne_of_none e e1)]
      exact e
    have ha3 := mono ha2
    have eS3 := mono eS2
    have sq3 : SqT X.K (upd H2 it (ItT l it)) l zs := sq2.elim (fun r => .inl (r.elim (fun e => .inl (mono e)) fun ⟨o, e⟩ => .inr ⟨o, mono e⟩)) .inr
    have e2 : upd H2 it (ItT l it) it = some (.ext fun h => h.get? it = some (itTup l 0)) := upd_same
    have fp0 := ItX.inv_fp I3 e2 (Nat.le_trans I2.sz hn)
    rw [ItX.dropH_upd e1] at fp0
    have loop : ∀ s4, Inv X pins σ (upd H2 it (ItT l it)) s4 → codeAny (model X.prog X.w) X.A.in1 (.builtin "list.extend.loop" ⟨[.ref S, .ref it, .none], []⟩) (wants (fun r t => r = .none ∧ EP X pins σ Q (.ref S) t) X.xe) s4 := fun s4 I4 => by
      have eo := itT_get I4 upd_same
      obtain ⟨iz, rz, pz, lz⟩ := I4.tuple sq3
      obtain ⟨z1, l1, c1, r1, _, f1⟩ := I4.lstM eS3
      cases r1
      have W := Walks.tuple (prog := X.prog) (w := X.w) (A := X.A.in1.in1) (I.ok.hd hc) it l nlit iz.toArray
      have I5 := ItX.inv_drop I4 e2
      rw [ItX.dropH_upd e1] at I5
      have nSf : S ∉ [it, l] := fun m => by
        rcases List.mem_cons.mp m with z | m
        · rw [z, e1] at eS2
          cases eS2
        · obtain ⟨o, e3, c3, d3⟩ := pz
          rw [← List.mem_singleton.mp m, f1] at e3
          cases e3
          exact absurd (show Value.type "list" = Value.type "tuple" from c3) (by decide)
      refine codeAny_extend_loopS W.toS (by rw [List.size_toArray, ← rz.length]; exact lz) S nSf .none iz.toArray.size 0 s4 #[] c1 rfl (Nat.zero_le _) ⟨⟨_, eo, rfl, rfl⟩, pz⟩ f1 (ItemsOf.nil _) fun t acc c2 mv f2 ic => ?_
      refine ⟨rfl, done t ?_⟩
      have J5 := listed (xs := zs) (acc := acc) (c := c2) (h' := t.heap) (t' := t.toks) I5 fp0 eS2 (fun b o n1 n2 e => mv.heap b o (fun m => (List.mem_cons.mp m).elim n1 fun m => n2 (List.mem_singleton.mp m)) e) f2 (by rw [items_all ic]; exact rz) lz
      rw [Moved.eq_with mv]
      exact J5
    refine tup_next (itT_get I3 upd_same) ?_
    obtain ⟨ox3, od3, J3, _⟩ := StX.insC_at I3 (.inr ⟨dx, fs, ha3⟩)
    obtain ⟨m3, fr3⟩ := I3.fr
    refine wpAny_bind (wpAny_holding (hint_own I3.kIn J3 cL fun E' => ?_))
    refine PySem.W.len_K fr3 I3.ok.mod.kin J3 cL.at_ cL.fn (wpAny_call (codeAny_mono (G C cL cI X.A.in1.in1.in1 X.stack s' _ [.ref a] [.ref a] (fun v G4 => v = .int (zs.length : Nat) ∧ G4 = upd H2 it (ItT l it)) E0 hr.in1.in1.in1 I3.env0.in1.in1.in1 (.cons rfl .nil) ⟨a, dx, l, fs, zs, rfl, ha3, lk, sq3, rfl, rfl⟩) fun r2 s5 z2 => ?_))
    match r2, z2 with
    | .error er, z2 => exact z2.elim
    | .ok (.ret v2), z2 =>
      obtain ⟨y2, G5, os2, br2, un2, ok2, ry2, ey2, eG⟩ := z2
      subst ey2
      subst eG
      obtain ⟨tk, rfl⟩ := ry2
      have I5 : Inv X pins σ (upd H2 it (ItT l it)) { s5 with toks := s5.toks + 1 } := (I3.call' os2 un2 ok2 br2 fun b m => by cases m).tok _
      refine ⟨⟨Int.natCast_nonneg _, by have : zs.length ≤ 16777216 := by rw [← sz]; exact hz
                                        omega⟩, _, _, rfl, by rw [Int.toNat_natCast]; exact hz, ?_⟩
      refine wpAny_ite_split (fun _ => ?_) (fun _ => wpAny_pure ⟨plainId_quiet PySem.F.plain_extend_loop _, loop _ I5⟩)
      refine wpAny_bind (wpAny_rule ?_)
      refine wpAny_bind ?_
      show wpAny _ _ (updateSeq S (·.push .none) >>= fun _ => updateSeq S (·.pop)) _ _ _
      obtain ⟨z6, l6, c6, r6, _, f6⟩ := I5.lstM eS3
      cases r6
      refine wpAny_bind (wpAny_updateSeq f6 rfl ?_)
      have I6 := I5.lset (f := (·.push Value.none)) (its := []) (its' := [Value.none]) (ys := [.non]) (t' := s5.toks + 1) eS3 f6 (by simp) (.cons rfl .nil) (by rw [List.length_singleton, sz]; decide)
      obtain ⟨z7, l7, c7, r7, _, f7⟩ := I6.lstM upd_same
      obtain ⟨u7, rfl, ru7⟩ := r7.one
      refine wpAny_updateSeq f7 rfl ?_ (by show 1 ≤ sizeLine; rw [sz]; decide) (by show 0 ≤ sizeLine + 1; exact Nat.zero_le _)
      have I7 := I6.lset (f := (·.pop)) (its := [u7]) (its' := []) (ys := []) (t' := s5.toks + 1) upd_same f7 (by rfl) .nil (Nat.zero_le _)
      rw [upd_upd] at I7
      have back : upd (upd H2 it (ItT l it)) S (.lst []) = upd H2 it (ItT l it) := funext fun b => by
        by_cases e : b = S
        · rw [e, upd_same, eS3]
        · rw [upd_ne e]
      rw [back] at I7
      exact wpAny_pure ⟨plainId_quiet PySem.F.plain_extend_loop _, loop _ I7⟩
end OwR
end
section
/-! def f(a, .., *v, k): called with the keyword; instances made so. -/
namespace OwR
open PySem PySem.Spec PyProof.Rows L2
/-- a promise by places and by the values of given keywords -/
def FnRK (P : Program) (w : World) (K : PySem.W.Frag) (mg : Str → Option Value) (base : Heap) (CX : CXT) (k : Nat) (f : Addr) (ks : List Str) (sp : List V → Sp) : Prop :=
  ∀ (A : Around) (outer : List Env) (s : Shared) (H : Hp) (us ws : List Value) (vs zs : List V) (Q : VK) (E : XK), Room k A → Env0 P w K mg base A outer s H → Vals vs us → Vals zs ws → sp zs vs H Q E →
    codeAny (model P w) A (.call (.ref f) ⟨us, ks.zip ws⟩) (CR CX outer P w H s Q E) s
section
variable {CX : CXT} {P : Program} {w : World} {K : PySem.W.Frag} {mg : Str → Option Value} {base : Heap} {k : Nat} {f : Addr} {name qual : Str} {params : Arguments} {body : List Stmt} {scope : Scope} {dV kV doc pm cdv ct oc : Value} {an od : Option Addr}
  {osl : Array (Option Value)} {N ps : List Str} {sp : Sp}
theorem fn_starko {pv kn : Str} (lk : K.lookup f = some ⟨oc, od, .func (PySem.W.fnOf name qual params body scope dV kV doc pm an cdv ct), osl⟩) (hcd : PySem.W.codeIn K cdv qual = true) (S : FnScope N (ps ++ [kn, pv]) scope) (hCX : StX.CXUp CX)
    (hb : ∀ (us rest : List Value) (y : Value), us.length = ps.length → bindArgs (PySem.W.fnOf name qual params body scope dV kV doc pm an cdv ct) ⟨us ++ rest, [(kn, y)]⟩ = (newTuple rest >>= fun t => pure (ps.zip us ++ [(kn, y), (pv, t)])))
    (hbody : ∀ (A : Around) (outer : List Env) (s : Shared) (H : Hp) (vs : List V) (Q : VK) (E : XK), Room k (A.deeper (envOfC qual scope s.heap.objs.size f cdv)) → sp vs H Q E →
      ∃ t, PSs (cxOf CX P w K mg base N qual scope f cdv A outer s H E) body t ∧ t { nx := fun _ H' => Q .non H', rt := Q } (start N vs) H) :
    FnRK P w K mg base CX (k + 1) f [kn] (fun zs vs H Q E => ∃ as rest y, zs = [y] ∧ vs = as ++ rest ∧ as.length = ps.length ∧ rest.length ≤ sizeLine ∧ ∀ p, H p = none → sp (as ++ [y, V.ref p]) (upd H p (.tup rest)) Q E) := by
  intro A outer s H us ws vs zs Q E hr e0 r rz hsp
  obtain ⟨as, rest, y, rfl, rfl, hl, hz, hq⟩ := hsp
  obtain ⟨u1, u2, rfl, r1, r2⟩ := StX.vals_split r
  obtain ⟨yv, rfl, ry⟩ := rz.one
  have fresh : H s.heap.objs.size = none := e0.hok.fresh (Nat.le_refl _)
  have l1 : u1.length = ps.length := r1.length.symm.trans hl
  have l2 : u2.length ≤ sizeLine := r2.length ▸ hz
  refine StX.run_bnd (args := ⟨u1 ++ u2, [kn].zip [yv]⟩) lk hcd S hr e0 (G := fun xs G2 => ∃ p, H p = none ∧ xs = as ++ [y, V.ref p] ∧ G2 = upd H p (.tup rest)) (fun A' Ex Q' h => ?_) fun s2 G2 xs g hr' => ?_
  · show wpAny _ _ (bindArgs _ ⟨u1 ++ u2, [(kn, yv)]⟩) _ _ _
    rw [hb u1 u2 yv l1]
    refine wpAny_bind (wpAny_newTuple (wpAny_pure ?_) l2)
    have laid : ObjOk P w (upd H s.heap.objs.size (.tup rest)) (s.heap.push ({ cls := .type "tuple", data := .seq u2.toArray } : Obj)) s.heap.objs.size (.tup rest) := ⟨hz, u2, r2, ⟨_, Heap.get?_push_size _ rfl, rfl, _, rfl⟩⟩
    have un := StX.un_laid (fs := frs outer) (s := s) (o := ({ cls := .type "tuple", data := .seq u2.toArray } : Obj)) (u := .tup rest) fresh
    have z := h _ _ (as ++ [y, V.ref s.heap.objs.size]) (u1 ++ [yv, Value.ref s.heap.objs.size]) (StX.env0_laid e0 laid) un rfl (fun e s' => hCX outer s H _ _ E e s' un (fun b o q => Heap.get?_push_of_some _ q) rfl) (r1.append (.cons ry (.cons rfl .nil)))
      (by rw [List.length_append, List.length_append, hl] <;> rfl) ⟨_, fresh, rfl, rfl⟩
    rw [List.zip_append l1.symm] at z
    exact z
  · obtain ⟨p, hp, rfl, rfl⟩ := g
    exact hbody A outer s2 _ _ Q E hr' (hq p hp)
end
section
variable {X : Cx} {CX : CXT} {k : Nat} {f C : Addr} {ks : List Str} {sp : List V → Sp} {E : XK} {x : Str} {p pos : Pos} {e : Expr} {es : List Expr} {kws : List Keyword} {t tk : TA}
theorem run_makeRK {pins : List (Addr × Obj)} {σ : L2.St} {H : Hp} {s : Shared} {Q : VK} {us ws : List Value} {vs zs : List V} (M : Mk X.K C f) (F : FnRK X.prog X.w X.K X.mg X.base CX k f ks sp) (hr : Room (k + 1) X.A) (hx : Passes CX X E) (I : Inv X pins σ H s) (r : Vals vs us) (rz : Vals zs ws)
    (h : ∀ y dy, H y = none → H dy = none → dy ≠ y → sp zs (.ref y :: vs) (upd (upd H dy (.own y)) y (.ins C dy [])) (fun v G => v = .non ∧ Q (.ref y) G) E) : wpAny (model X.prog X.w) X.A (call (.ref C) us (ks.zip ws)) (EP X pins σ Q) X.xe s := by
  have hq := h (s.heap.objs.size + 1) s.heap.objs.size (I.hok.fresh (Nat.le_succ _)) (I.hok.fresh (Nat.le_refl _)) (Nat.ne_of_lt (Nat.lt_succ_self _))
  have J := Inv.made (C := C) I
  have rr : Vals (V.ref (s.heap.objs.size + 1) :: vs) (Value.ref (s.heap.objs.size + 1) :: us) := .cons rfl r
  refine wpAny_call (make_map (f := f) I.kIn M.makes M.init (beq_iff_eq.mp M.fn) (codeAny_mono (F _ X.stack _ _ (Value.ref (s.heap.objs.size + 1) :: us) ws _ zs _ E (hr.make C us (ks.zip ws)) (J.env0.make C us (ks.zip ws)) rr rz hq) fun r s' z => ?_))
  match r, z with
  | .error er, z => exact hx pins σ _ _ er s' J z
  | .ok (.ret u), z =>
    obtain ⟨v, G, I3, rv, ev, q3⟩ := J.after z
    subst ev
    exact ⟨rv, ⟨V.ref (s.heap.objs.size + 1), G, I3, rfl, q3⟩⟩
def tMakeRK (C : Addr) (sp : List V → Sp) (E : XK) (t tk : TA) : TE := fun σ H Q => t σ H fun vs H1 => tk σ H1 fun zs H2 => ∀ y dy, H2 y = none → H2 dy = none → dy ≠ y → sp zs (.ref y :: vs) (upd (upd H2 dy (.own y)) y (.ins C dy [])) (fun v G => v = .non ∧ Q (.ref y) G) E
/-- C(e, .., k = v), __init__ with a starred parameter -/
theorem pe_makeRK (M : Mk X.K C f) (F : FnRK X.prog X.w X.K X.mg X.base CX k f ks sp) (hr : Room (k + 1) X.A) (hg : Gl X x) (hm : X.mg x = some (.ref C)) (hx : Passes CX X E) (ha : PA X (e :: es) t) (hkw : PK X kws tk)
    (hall : (backToKw pos (keywordEach kws X.env)).all (·.1.isSome) = true := by rfl) (hks : (backToKw pos (keywordEach kws X.env)).filterMap (·.1) = ks := by rfl) (hdb : (x == ("__debug__" : Str)) = false := by decide)
    (he : starEach (e :: es) X.env = (false, eval e X.env) :: starEach es X.env := by rfl) (hpl : ((backTo pos (starEach (e :: es) X.env)).any (·.1) || (backToKw pos (keywordEach kws X.env)).any (·.1.isNone)) = false := by rfl) :
    PE X (.Call (.Name x p) (e :: es) kws pos) (tMakeRK C sp E t tk) := by
  refine ⟨fun pins s σ H Q I h => ?_⟩
  refine wpAny_Call_Name_kw (ld_glob I hg hm ?_ hdb)
  refine PySem.W.callWith_KW (h₀ := X.base) I.ok.mod.kin M.kp hall (thn (ha.run pos pins s σ H _ I h) fun us s1 ⟨vs, H1, I1, r, q⟩ => ?_) hpl he
  refine thn (hkw.run pos pins s1 σ H1 _ I1 q) fun ws s2 ⟨zs, H2, I2, rz, q2⟩ => ⟨I2.kIn, ?_⟩
  rw [hks]
  exact run_makeRK M F hr hx I2 r rz q2
end
end OwR
end
section
/-! Own: a class method called by keywords alone. -/
namespace OwR
open PySem PySem.Spec PyProof.Rows L2 ClX
def tCMethK (C : Addr) (sp : List V → Sp) (E : XK) (ta : TE) (tk : TA) : TE := fun σ H Q => ta σ H fun x H1 => x = .ref C ∧ tk σ H1 fun zs H2 => sp zs [.ref C] H2 Q E
theorem pe_cmethK {X : Cx} {CX : CXT} {k : Nat} {C p g : Addr} {mc : Value} {ks : List Str} {sp : List V → Sp} {E : XK} {o : Expr} {m : Str} {pos apos : Pos} {ta : TE} {tk : TA} {kws : List Keyword} {pl : Sem Bool} (he : PE X o ta) (r : CRead X.K C mc) (c : CMet X.K C mc m p g) (F : FnRK X.prog X.w X.K X.mg X.base CX k g ks sp) (hr : Room k X.A) (hx : Passes CX X E) (hkw : PK X kws tk)
    (hall : (backToKw pos (keywordEach kws X.env)).all (·.1.isSome) = true := by rfl) (hks : (backToKw pos (keywordEach kws X.env)).filterMap (·.1) = ks := by rfl) (hpl : ((backTo pos (starEach [] X.env)).any (·.1) || (backToKw pos (keywordEach kws X.env)).any (·.1.isNone)) = false := by rfl)
    (ht : eval (.Call (.Attribute o m apos) [] kws pos) X.env = (do
      let ov ← eval o X.env
      standAt apos.atName
      let (f, first) ← holding [ov] (getMethod ov m pl)
      callWith pos f first (backTo pos (starEach [] X.env)) (backToKw pos (keywordEach kws X.env))) := by rfl) :
    PE X (.Call (.Attribute o m apos) [] kws pos) (tCMethK C sp E ta tk) := by
  refine ⟨fun pins s σ H Q I h => ?_⟩
  refine PySem.W.methodCall_KW (pl := pl) (thn (he.run pins s σ H _ I h) fun u s1 ⟨x, H1, I1, rx, ex, q⟩ => ?_) ht
  subst ex
  obtain rfl : u = Value.ref C := rx
  refine getmethcm_ok I1 r c fun s2 I2 => ?_
  show wpAny (model X.prog X.w) X.A (callWith pos (.ref s1.heap.objs.size) [] (backTo pos (starEach [] X.env)) (backToKw pos (keywordEach kws X.env))) (EP X pins σ Q) X.xe s2
  refine PySem.W.callWith_of (P := PySem.W.MethP X.K s1.heap.objs.size g (.ref C)) hpl (PySem.W.keeps_M c.fi) (PyProof.Rows.evalArgs_kw2_nil hall (thn (hkw.run pos _ s2 σ H1 _ I2 q) fun ws s3 ⟨zs, H2, I3, rz, q2⟩ => ⟨⟨pin_at I3, I3.kIn⟩, ?_⟩))
  rw [hks]
  have z : wpAny (model X.prog X.w) X.A (call (.ref s1.heap.objs.size) [] (ks.zip ws)) (EP X ((s1.heap.objs.size, PySem.W.methodObj (.ref g) (.ref C)) :: pins) σ Q) X.xe s3 := by
    refine wpAny_call (PySem.W.method_call (pin_at I3) (codeAny_mono (F X.A X.stack s3 H2 [.ref C] ws [.ref C] zs Q E hr I3.env0 (.cons rfl .nil) rz q2) fun r s' hq => ?_))
    cases r with
    | error er => exact hx _ σ H2 s3 er s' I3 hq
    | ok fl =>
      cases fl with
      | ret u => exact I3.after hq
      | next => exact False.elim hq
      | brk => exact False.elim hq
      | cont => exact False.elim hq
  exact thn z fun _ _ y => unpinE y
end OwR
end
section
/-! A text, so many times. Own. -/
namespace OwR
open PySem PySem.Spec PyProof.Rows L2
def repS (z : Str) (n : Nat) : Str := ⟨(List.replicate n z.cps).foldl (· ++ ·) #[]⟩
theorem fold_size : ∀ (l : List (Array Nat)) (a : Array Nat) (b : Nat), (∀ x ∈ l, x.size ≤ b) → (l.foldl (· ++ ·) a).size ≤ a.size + b * l.length
  | [], a, b, _ => Nat.le_refl _
  | x :: r, a, b, h => by
    have i := fold_size r (a ++ x) b fun y hy => h y (List.mem_cons_of_mem _ hy)
    have i1 := h x List.mem_cons_self
    rw [Array.size_append] at i
    rw [List.foldl_cons, List.length_cons, Nat.mul_succ]
    omega
def rMulS : R2 := fun x y H Q => ∃ (z : Str) (n : Nat), x = .str z ∧ y = .int (n : Nat) ∧ 2 ≤ n ∧ n ≤ 1000 ∧ 1 ≤ z.length ∧ z.length ≤ 1000 ∧ Q (.str (repS z n)) H
theorem op_mul_str {X : Cx} : OpR X (binaryOp .Mult) rMulS := by
  intro pins s σ H x y v u Q I rx ry h
  obtain ⟨z, n, rfl, rfl, n2, n1, z1, z2, q⟩ := h
  obtain ⟨t, rfl⟩ := rx
  obtain ⟨t', rfl⟩ := ry
  have sz := sizeLine_eq
  have hm : z.length * n ≤ 1000 * 1000 := Nat.mul_le_mul z2 n1
  refine PySem.P.mul_str ?_ (fun _ _ => ?_) (fun _ _ => ?_) ?_
  · rw [decide_eq_false (by omega), decide_eq_false (by omega)]
    rfl
  · have : (1000 : Int) ≤ (2 ^ 63 - 1) / (n : Int) := by
      rw [Int.le_ediv_iff_mul_le (by omega)]
      omega
    omega
  · rw [Int.toNat_natCast]
    unfold Builtin.Str.tooLong
    rw [decide_eq_false]
    omega
  · rw [if_neg (by omega), if_neg (by
      rw [Bool.or_eq_true, beq_iff_eq, beq_iff_eq]
      omega), Int.toNat_natCast]
    have len : (repS z n).length ≤ 1000 * 1000 := by
      have := fold_size (List.replicate n z.cps) #[] z.length fun x hx => by
        rw [(List.mem_replicate.mp hx).2]
        exact Nat.le_refl _
      rw [List.length_replicate] at this
      show (List.foldl (· ++ ·) #[] (List.replicate n z.cps)).size ≤ _
      have e : (#[] : Array Nat).size = 0 := rfl
      omega
    exact ⟨by show (repS z n).length ≤ sizeLine; omega, .str (repS z n), H, I.tok _, ⟨_, rfl⟩, q⟩
end OwR
end
section
namespace K10
open PySem PySem.Spec PyProof.Rows L2
def top (i : Nat) : Stmt := PySem.Challenge.pw_nextkind_k06_houses_written_and_read.main.body.getD i (.Pass ⟨0, 0, 0, 0⟩)
def mth (c j : Nat) : Stmt := match top c with
  | .ClassDef _ _ _ body _ _ _ _ _ _ _ => body.getD j (.Pass ⟨0, 0, 0, 0⟩)
  | _ => .Pass ⟨0, 0, 0, 0⟩
abbrev sPen : Stmt := top 24
abbrev sDraw : Stmt := top 25
abbrev sPick : Stmt := top 26
section
variable {P : Program} {w : World} {K : PySem.W.Frag} {mg : Str → Option Value} {base : Heap}
theorem scD : FnScope ["_law_pen_here", "_law_many", "_law_digit", "_law_begun", "_law_cell", "_law_great", "_law_mixed"] ["_law_pen_here", "_law_many"] (defScope sDraw) := ⟨rfl, rfl, rfl, by decide +kernel, rfl, by decide +kernel, by decide +kernel⟩
theorem ok_draw {f : Addr} {fd : FuncData} (F : Fun K "_law_draw" "_law_draw" sDraw f fd) (T : Nm mg) : FnOk P w K mg base CX0 1 f fd ["_law_pen_here", "_law_many"] spDraw := by
  refine F.ok scD (fun vs H Q E h => ?_) (fun cdv A outer s H vs Q E hr h => ?_)
  · obtain ⟨p, c, ns, n, z, m, rfl, _⟩ := h
    rfl
  · obtain ⟨p, c, ns, n, z, m, rfl, D, hn, hm, hb, k⟩ := h
    have hu := hu_of hr
    obtain ⟨h1, h2, hl, h0⟩ := id D
    refine ⟨_, (pss_cons (ps_if (pt_cmpR op_gt (pe_ix ix_list (pv 0) pe_int (fun _ _ => rfl)) pe_int (nomark _)) (pss_cons (ps_set (i := 2) scD.nd rfl (Or.inl rfl) (pe_op op_mod (pe_callTy call_int1 (by rfl) T.n_int (by decide +kernel) (pa_cons (pe_ix ix_list (pv 0) pe_int (fun _ _ => rfl)) pa_nil)) (pv 1)))
    (pss_cons (ps_asg (pe_op op_fdivW (pe_callTy call_int1 (by rfl) T.n_int (by decide +kernel) (pa_cons (pe_ix ix_list (pv 0) pe_int (fun _ _ => rfl)) pa_nil)) (pv 1)) (pg_sub (pv 0) pe_int set_list))
    (pss_one (ps_ret (pv 2))))) pss_nil)
    (pss_cons (ps_set (i := 3) scD.nd rfl (Or.inl rfl) (pe_ix ix_list (pv 0) pe_int (fun _ _ => rfl)))
    (pss_cons (ps_asg (pe_op op_add (pv 3) pe_int) (pg_sub (pv 0) pe_int set_list))
    (pss_cons (ps_set (i := 4) scD.nd rfl (Or.inl rfl) (pe_op op_add (pe_op op_mul pe_int (pv 3)) pe_int))
    (C8.pss_cut (ps_if (pt_cmpR (op_neD hr.units) (pe_ix ix_list (pv 0) pe_int (fun _ _ => rfl)) (pe_lst pa_nil) (nomark _)) (pss_one (ps_set (i := 4) scD.nd rfl (Or.inl rfl) (pe_ix ix_list (pe_ix ix_list (pv 0) pe_int (fun _ _ => rfl)) (pe_op op_mod (pe_callTy call_int1 (by rfl) T.n_int (by decide +kernel) (pa_cons (pv 3) pa_nil)) (pe_callB call_len_seq (by rfl) T.n_len boot_len (pa_cons (pe_ix ix_list (pv 0) pe_int (fun _ _ => rfl)) pa_nil))) (fun _ _ => rfl)))) pss_nil)
    (C8.pss_cut (ps_if (PW.pt (pw_and (pt_cmpR op_lt (pv 3) (pe_callB call_len_seq (by rfl) T.n_len boot_len (pa_cons (pe_ix ix_list (pv 0) pe_int (fun _ _ => rfl)) pa_nil)) (nomark _)) (pw_and1 (pt_cmpR op_ge (pe_callB call_abs (by rfl) T.n_abs (by decide +kernel) (pa_cons (pv 4) pa_nil)) (pe_op op_pow pe_int pe_int) (nomark _))))) (pss_cons (ps_set (i := 5) scD.nd rfl (Or.inl rfl) (pe_op op_add (pe_op op_mul pe_int (pe_op op_sub (pe_callB call_abs (by rfl) T.n_abs (by decide +kernel) (pa_cons (pv 4) pa_nil)) (pe_op op_pow pe_int pe_int))) (pe_callTy call_int1 (by rfl) T.n_int (by decide +kernel) (pa_cons (pe_cmpR op_lt (pv 4) pe_int (nomark _)) pa_nil))))
    (pss_cons (ps_asg (pe_op op_fdivW (pe_callTy call_int1 (by rfl) T.n_int (by decide +kernel) (pa_cons (pv 5) pa_nil)) (pv 1)) (pg_sub (pv 0) pe_int set_list))
    (pss_one (ps_ret (pe_op op_mod (pe_callTy call_int1 (by rfl) T.n_int (by decide +kernel) (pa_cons (pv 5) pa_nil)) (pv 1)))))) pss_nil)
    (pss_cons (ps_set (i := 6) scD.nd rfl (Or.inl rfl) (pe_op op_mod (pe_callTy call_int1 (by rfl) T.n_int (by decide +kernel) (pa_cons (pe_op op_pow (pe_op op_add (pe_op op_add (pe_op op_mod (pe_callTy call_int1 (by rfl) T.n_int (by decide +kernel) (pa_cons (pv 4) pa_nil)) pe_int) (pe_op op_mul pe_int (pv 3))) pe_int) pe_int) pa_nil)) pe_int))
    (pss_cons (ps_set (i := 6) scD.nd rfl (Or.inl rfl) (pe_op op_mod (pe_callTy call_int1 (by rfl) T.n_int (by decide +kernel) (pa_cons (pe_op op_pow (pe_op op_add (pe_op op_add (pe_op op_mul (pv 6) (pe_op op_add (pe_op op_mul pe_int (pv 3)) pe_int)) (pe_op op_mul (pe_op op_mul pe_int (pv 3)) (pv 3))) pe_int) pe_int) pa_nil)) pe_int))
    (pss_one (ps_ret (pe_op op_mod (pe_callTy call_int1 (by rfl) T.n_int (by decide +kernel) (pa_cons (pe_op op_fdivW (pv 6) pe_int) pa_nil)) (pv 1))))))))))))
, ?_⟩
    refine ⟨_, rfl, p, _, _, _, rfl, rfl, SqL.of h1, rfl, _, _, rfl, rfl, _, rfl, ?_⟩
    refine ite2 (fun c1 => ?_) (fun c1 => ?_)
    · refine ⟨_, rfl, p, _, _, _, rfl, rfl, SqL.of h1, rfl, .inl ⟨_, rfl, _, rfl, _, _, rfl, rfl, hm, ?_⟩⟩
      refine ⟨_, rfl, p, _, _, _, rfl, rfl, SqL.of h1, rfl, .inl ⟨_, rfl, _, rfl, _, _, rfl, rfl, wide_div hm hb (by decide) (by decide), ?_⟩⟩
      refine ⟨_, rfl, p, _, _, 2, rfl, rfl, h1, rfl, _, rfl, ?_⟩
      refine k _ n (z / m) _ (Int.emod_nonneg _ (by omega)) (Int.emod_lt_of_pos _ hm) (Nat.le_succ _) ⟨upd_same, ?_, hl, Int.ediv_nonneg h0 (by omega)⟩ But.at
      rw [upd_ne D.ne]
      exact h2
    · refine ⟨_, rfl, p, _, _, _, rfl, rfl, SqL.of h1, rfl, ?_⟩
      refine ⟨_, rfl, _, _, rfl, rfl, _, rfl, p, _, _, 1, rfl, rfl, h1, rfl, ?_⟩
      -- the cell
      refine ⟨_, rfl, _, _, rfl, rfl, .inl ⟨by decide, by decide⟩, _, _, rfl, rfl, ?_⟩
      have D1 : PenAt (upd H p (.lst [.ref c, .int ((n : Int) + 1), .int z])) p c ns (n + 1) z := ⟨upd_same, by rw [upd_ne D.ne]; exact h2, hl, h0⟩
      have B1 : But p H (upd H p (.lst [.ref c, .int ((n : Int) + 1), .int z])) := But.at
      -- a cell of the script, if there is one
      refine ⟨fun σ' H' => ∃ cell : Int, σ' = [some (.ref p), some (.int m), none, some (.int n), some (.int cell), none, none] ∧ PenAt H' p c ns (n + 1) z ∧ But p H H', ?_, ?_⟩
      · refine ⟨_, rfl, p, _, _, _, rfl, rfl, SqL.of D1.pen, rfl, by show 0 ≤ sizeLine; decide, fun l hl0 => ?_⟩
        have D2 : PenAt (upd (upd H p (.lst [.ref c, .int ((n : Int) + 1), .int z])) l (.lst [])) p c ns (n + 1) z :=
          ⟨by rw [upd_ne (ne_of_none D1.pen hl0)]; exact D1.pen, by rw [upd_ne (ne_of_none D1.cells hl0)]; exact D1.cells, hl, h0⟩
        refine ⟨.list (ns.map PyData.int), .list [], .lst (SqL.of D2.cells) (OwD.dp_ints ns), .lst (SqL.of upd_same) .nil, OwD.shaped_ints ns, OwD.shaped_nil, _, rfl, ?_⟩
        rw [OwD.eqv_nil]
        have B2 := B1.trans (But.new (p := p) (o := .lst []) hl0)
        cases ns with
        | nil =>
          refine iteF ?_
          exact ⟨_, rfl, D2, B2⟩
        | cons a0 rest =>
          refine iteT ?_
          have hpos : 0 < ((a0 :: rest).map V.int).length := by rw [List.length_map]; exact Nat.succ_pos _
          refine ⟨_, rfl, p, _, _, _, rfl, rfl, SqL.of D2.pen, rfl, _, rfl, .inl ⟨_, rfl, _, rfl, p, _, _, _, rfl, rfl, SqL.of D2.pen, rfl, c, _, rfl, .inl (SqL.of D2.cells), _, _, rfl, rfl, by omega, ?_⟩⟩
          obtain ⟨x, hx⟩ := at_mod (a0 :: rest) n (Nat.succ_pos _)
          refine ⟨c, _, _, _, rfl, rfl, SqL.of D2.cells, hx, ?_⟩
          exact ⟨x, rfl, D2, B2⟩
      · rintro σ' H' ⟨cell, rfl, D3, B3⟩
        have C3 := D3.cells
        -- a great cell
        have ret : ∀ (d : Int) (H4 : Hp), 0 ≤ d → d < m → PenAt H4 p c ns (n + 1) z → But p H H4 → Q (.int d) H4 := fun d H4 a1 a2 D4 B4 => k d (n + 1) z H4 a1 a2 (Nat.le_refl _) D4 B4
        refine ⟨fun σ' H' => σ' = [some (.ref p), some (.int m), none, some (.int n), some (.int cell), none, none] ∧ PenAt H' p c ns (n + 1) z ∧ But p H H', ?_, ?_⟩
        · refine ⟨_, rfl, _, rfl, p, _, _, _, rfl, rfl, SqL.of D3.pen, rfl, c, _, rfl, .inl (SqL.of C3), _, _, rfl, rfl, _, rfl, ?_⟩
          refine ite2 (fun c2 => ?_) (fun c2 => ?_)
          · refine ⟨_, rfl, _, rfl, _, _, rfl, rfl, ⟨by decide, by decide, by decide⟩, _, _, rfl, rfl, _, rfl, ?_⟩
            refine ite2 (fun c3 => ?_) (fun c3 => ?_)
            · refine ⟨_, rfl, _, rfl, _, _, rfl, rfl, ⟨by decide, by decide, by decide⟩, _, _, rfl, rfl, _, _, rfl, rfl, .inl ⟨by decide, by decide⟩, ?_⟩
              refine ⟨_, rfl, _, _, rfl, rfl, .inr ⟨_, rfl, _, _, rfl, rfl, ?_⟩⟩
              have gpos : 0 ≤ 2 * ((if cell < 0 then -cell else cell) - (10 : Int) ^ (18 : Int).toNat) + (if decide (cell < 0) = true then 1 else 0) := by
                have h3 : (10 : Int) ^ (18 : Int).toNat ≤ (if cell < 0 then -cell else cell) := of_decide_eq_true c3
                split <;> omega
              refine ⟨_, rfl, .inl ⟨_, rfl, _, rfl, _, _, rfl, rfl, wide_div hm hb (by decide) (by decide), _, rfl, p, _, _, 2, rfl, rfl, D3.pen, rfl, ?_⟩⟩
              refine ⟨_, rfl, .inl ⟨_, rfl, _, rfl, _, _, rfl, rfl, hm, ?_⟩⟩
              refine k _ (n + 1) _ _ (Int.emod_nonneg _ (by omega)) (Int.emod_lt_of_pos _ hm) (Nat.le_refl _) ⟨upd_same, ?_, hl, Int.ediv_nonneg gpos (by omega)⟩ (B3.trans But.at)
              rw [upd_ne D.ne]
              exact C3
            · exact ⟨rfl, D3, B3⟩
          · exact ⟨rfl, D3, B3⟩
        · rintro σ' H4 ⟨rfl, D4, B4⟩
          have a1 := Int.emod_nonneg cell (show (2147483563 : Int) ≠ 0 by decide)
          have a2 := Int.emod_lt_of_pos cell (show (0 : Int) < 2147483563 by decide)
          -- one mixed from the cell
          refine ⟨_, rfl, .inl ⟨_, rfl, _, _, rfl, rfl, (by show (0 : Int) < _; decide), _, rfl, _, _, rfl, rfl, .inl ⟨by decide, by decide⟩, _, _, rfl, rfl, _, _, rfl, rfl, _, _, rfl, rfl, ⟨by decide, by decide, ?_⟩, .inl ⟨_, rfl, _, _, rfl, rfl, (by show (0 : Int) < _; decide), ?_⟩⟩⟩
          · show Int.natAbs _ < 2 ^ 64
            omega
          have b1 := fun x : Int => Int.emod_nonneg x (show (2147483629 : Int) ≠ 0 by decide)
          have b2 := fun x : Int => Int.emod_lt_of_pos x (show (0 : Int) < 2147483629 by decide)
          refine ⟨_, rfl, _, rfl, _, _, rfl, rfl, .inl ⟨by decide, by decide⟩, _, _, rfl, rfl, _, _, rfl, rfl, .inl ⟨Int.lt_of_lt_of_le (by decide) (b1 _), Int.lt_trans (b2 _) (by decide)⟩, ?_⟩
          refine ⟨_, rfl, _, _, rfl, rfl, .inl ⟨by decide, by decide⟩, _, rfl, _, _, rfl, rfl, .inl ⟨by omega, by omega⟩, _, _, rfl, rfl, _, _, rfl, rfl, ?_⟩
          refine ⟨_, _, rfl, rfl, ⟨by decide, by decide, mix_lt (b1 _) (Int.lt_trans (b2 _) (by decide)) (by omega) (by omega) (by decide) (by decide) (by decide) (by decide) (by decide) (by decide)⟩, .inl ⟨_, rfl, _, _, rfl, rfl, (by show (0 : Int) < _; decide), ?_⟩⟩
          refine ⟨_, rfl, _, _, rfl, rfl, wide_div (b := 6) (by decide) (by decide) (by decide) (by decide), .inl ⟨_, rfl, _, rfl, _, _, rfl, rfl, hm, ?_⟩⟩
          exact ret _ _ (Int.emod_nonneg _ (by omega)) (Int.emod_lt_of_pos _ hm) D4 B4
theorem scPe : FnScope ["_law_script"] ["_law_script"] (defScope sPen) := ⟨rfl, rfl, rfl, by decide +kernel, rfl, by decide +kernel, by decide +kernel⟩
theorem ok_pen {f : Addr} {fd : FuncData} (F : Fun K "_law_pen" "_law_pen" sPen f fd) (T : Nm mg) : FnOk P w K mg base CX0 1 f fd ["_law_script"] (spPen K) := by
  refine F.ok scPe (fun vs H Q E h => ?_) (fun cdv A outer s H vs Q E hr h => ?_)
  · obtain ⟨a, ns, rfl, _⟩ := h
    rfl
  · obtain ⟨a, ns, rfl, ha, hl, q⟩ := h
    refine ⟨_, (pss_one (ps_ret (pe_lst (pa_cons (pe_callTy call_list_of (by rfl) T.n_list (by decide +kernel) (pa_cons (pe_slice sl_list (pv 0) po_none (po_some pe_int)) pa_nil)) (pa_cons pe_int (pa_cons pe_int pa_nil)))))), ?_⟩
    have sz := sizeLine_eq
    refine ⟨_, rfl, 63, rfl, a, _, rfl, ha, ?_⟩
    rw [cut_63 hl]
    intro b hb
    refine ⟨b, _, rfl, .inl (SqL.of upd_same), fun c hc => ⟨by show (3 : Nat) ≤ sizeLine; omega, fun p hp => ?_⟩⟩
    have s3 := ((Same.of_new hb).trans (Same.of_new hc)).trans (Same.of_new (o := .lst [.ref c, .int 0, .int 0]) hp)
    exact q p c _ (((Same.of_new hb).trans (Same.of_new hc)).free hp) s3 ⟨upd_same, upd_keep2 upd_same hp, hl, by decide⟩
theorem scPi : FnScope ["_law_pen_here", "_law_some"] ["_law_pen_here", "_law_some"] (defScope sPick) := ⟨rfl, rfl, rfl, by decide +kernel, rfl, by decide +kernel, by decide +kernel⟩
theorem ok_pick {f fD : Addr} {fd fdD : FuncData} (F : Fun K "_law_pick" "_law_pick" sPick f fd) (T : Nm mg) (FD : Fun K "_law_draw" "_law_draw" sDraw fD fdD) (gD : mg "_law_draw" = some (.ref fD)) : FnOk P w K mg base CX0 2 f fd ["_law_pen_here", "_law_some"] (spPick K) := by
  have GD : FnOk P w K mg base CX0 1 fD fdD ["_law_pen_here", "_law_many"] spDraw := ok_draw FD T
  have bD : Binds K fdD ["_law_pen_here", "_law_many"] [] := FD.binds fun _ _ _ _ _ _ us hl => match us, hl with | [_, _], _ => rfl
  refine F.ok scPi (fun vs H Q E h => ?_) (fun cdv A outer s H vs Q E hr h => ?_)
  · obtain ⟨p, c, l, ns, n, z, xs, rfl, _⟩ := h
    rfl
  · obtain ⟨p, c, l, ns, n, z, xs, rfl, hp, hn, nl, hl, h0, h1, q⟩ := h
    refine ⟨_, (pss_one (ps_ret (pe_ix ix_list (pv 1) (pe_call GD hr (by rfl) gD FD.kp bD .nil pass0 (pa_cons (pv 0) (pa_cons (pe_callB call_len_seq (by rfl) T.n_len boot_len (pa_cons (pv 1) pa_nil)) pa_nil))) (fun _ _ => rfl)))), ?_⟩
    refine ⟨_, rfl, _, rfl, _, rfl, l, xs, rfl, .inl hl, p, c, ns, n, z, _, rfl, hp, hn, by omega, ?_, fun d n' z' H' d0 d1 hn' hp' s' => ?_⟩
    · have : (xs.length : Int).natAbs < 1000 := by omega
      exact Nat.lt_of_lt_of_le this (by decide +kernel)
    · obtain ⟨x, hx, ex⟩ := nth d0 d1
      exact ⟨l, xs, d, x, rfl, rfl, SqL.but hl nl s', ex, q x n' z' H' hx hn' hp' s'⟩
theorem ok_pickS {f fD : Addr} {fd fdD : FuncData} (F : Fun K "_law_pick" "_law_pick" sPick f fd) (T : Nm mg) (FD : Fun K "_law_draw" "_law_draw" sDraw fD fdD) (gD : mg "_law_draw" = some (.ref fD)) : FnOk P w K mg base CX0 2 f fd ["_law_pen_here", "_law_some"] spPickS := by
  have GD : FnOk P w K mg base CX0 1 fD fdD ["_law_pen_here", "_law_many"] spDraw := ok_draw FD T
  have bD : Binds K fdD ["_law_pen_here", "_law_many"] [] := FD.binds fun _ _ _ _ _ _ us hl => match us, hl with | [_, _], _ => rfl
  refine F.ok scPi (fun vs H Q E h => ?_) (fun cdv A outer s H vs Q E hr h => ?_)
  · obtain ⟨p, c, ns, n, z, t, rfl, _⟩ := h
    rfl
  · obtain ⟨p, c, ns, n, z, t, rfl, hp, hn, h0, h1, q⟩ := h
    refine ⟨_, (pss_one (ps_ret (pe_ix ix_str (pv 1) (pe_call GD hr (by rfl) gD FD.kp bD .nil pass0 (pa_cons (pv 0) (pa_cons (pe_callB call_len (by rfl) T.n_len boot_len (pa_cons (pv 1) pa_nil)) pa_nil))) (fun _ _ => rfl)))), ?_⟩
    have sz := sizeLine_eq
    have lz : t.length ≤ sizeLine := by omega
    refine ⟨_, rfl, _, rfl, _, rfl, .str t, t.length, rfl, ⟨lz, rfl⟩, p, c, ns, n, z, _, rfl, hp, hn, by omega, small_int (by omega) (by omega), fun d n' z' H' d0 d1 hn' hp' s' => ?_⟩
    have d2 : d < (t.cps.toList.length : Int) := d1
    obtain ⟨x, hx, ex⟩ := nth d0 d2
    exact ⟨t, d, x, rfl, rfl, lz, ex, q x n' z' H' hx hn' hp' s'⟩
end
end K10
end
section
namespace K10
open PySem PySem.Spec PyProof.Rows L2
abbrev sName : Stmt := top 9
abbrev sWithin : Stmt := top 10
abbrev sAsc : Stmt := top 12
structure Nm2 (mg : Str → Option Value) : Prop where
  n_int : mg "int" = none
  n_bool : mg "bool" = none
  n_str : mg "str" = none
  n_len : mg "len" = none
  n_all : mg "all" = none
  n_isinstance : mg "isinstance" = none
structure Nm3 (mg : Str → Option Value) : Prop where
  n_sorted : mg "sorted" = none
  n_set : mg "set" = none
  n_list : mg "list" = none
structure Nm4 (mg : Str → Option Value) : Prop where
  n_tuple : mg "tuple" = none
/-- no integer, or True or False -/
def NoInt (K : PySem.W.Frag) (H : Hp) (v : V) : Prop := (∃ b, v = .bl b) ∨ ∃ t, TyX K H v t ∧ PySem.W.kitOne K t (.type "int") = some false
/-- no integer from a to b -/
def NotIn (K : PySem.W.Frag) (H : Hp) (a b : Int) (v : V) : Prop := (∃ i, v = .int i ∧ ¬ (a ≤ i ∧ i ≤ b)) ∨ NoInt K H v
def spWithin (K : PySem.W.Frag) : Sp := fun vs H Q _ => ∃ (v : V) (a b : Int), vs = [v, .int a, .int b] ∧ ((∃ i, v = .int i ∧ Q (.bl (decide (a ≤ i) && decide (i ≤ b))) H) ∨ (NoInt K H v ∧ Q (.bl false) H))
def spAsc (K : PySem.W.Frag) : Sp := fun vs H Q _ => ∃ (a : Addr) (xs : List Str), vs = [.ref a] ∧ TextsAt K H a xs ∧ xs.length < 64 ∧
  ∀ (ys : List Str) (p : Addr) (H' : Hp), ys.Perm (TSet.ded xs) → sortedS ys = true → H p = none → Same H H' → H' p = some (.lst (ys.map V.str)) → Q (.ref p) H'
section
variable {P : Program} {w : World} {K : PySem.W.Frag} {mg : Str → Option Value} {base : Heap}
abbrev nName : List Str := ["value", "sign"]
theorem scN : FnScope nName ["value"] (defScope sName) := ⟨rfl, rfl, rfl, by decide +kernel, rfl, by decide +kernel, by decide +kernel⟩
theorem ok_name {f : Addr} {fd : FuncData} (F : Fun K "is_name" "is_name" sName f fd) (T : Nm2 mg) : FnOk P w K mg base CX0 1 f fd ["value"] (spName K) := by
  refine F.ok scN (fun vs H Q E h => ?_) (fun cdv A outer s H vs Q E hr h => ?_)
  · obtain ⟨v, rfl, _⟩ := h
    rfl
  · obtain ⟨v, rfl, h⟩ := h
    refine ⟨_, (pss_cons (ps_if (PW.pt (pw_or (pt_not (pt_val (pe_callB call_isi (by rfl) T.n_isinstance (by decide +kernel) (pa_cons (pv 0) (pa_cons (pe_bltn (v := .ty "str") (by rfl) T.n_str (by decide +kernel) rfl) pa_nil))))) (pw_or1 (pt_not (pt_chain op_le op_le pe_int (pe_callB call_len (by rfl) T.n_len boot_len (pa_cons (pv 0) pa_nil)) pe_int))))) (pss_one (ps_ret pe_bl)) pss_nil)
    (pss_one (ps_ret (pe_callB (cr_all rfl) (by rfl) T.n_all (by decide +kernel) (pa_cons (pe_lc (own := [("sign", 1)]) (by rfl) scN.nd (pi_str (pv 0)) (blkOk_by (own := [("sign", 1)]) (N := nName) (sc := defScope sName) (by decide +kernel)) (fun _ _ _ _ _ => (pg_name (i := 1) scN.nd rfl (Or.inl rfl))) (fun _ _ _ _ _ => pts_nil) (fun _ _ _ _ _ => (pe_chain op_le_str op_le_str pe_str (pv 1) pe_str))) pa_nil))))), ?_⟩
    rcases h with ⟨z, rfl, hz, k⟩ | ⟨⟨t, ty, kt⟩, k⟩
    · have hz2 : z.length ≤ sizeLine := Nat.le_trans hz (by decide)
      refine ⟨_, rfl, .str z, .ty "str", _, _, true, rfl, .ty _, .base (by constructor), kit_ty (by decide +kernel), true, rfl, ?_⟩
      refine iteF ?_
      refine ⟨_, rfl, .str z, z.length, rfl, ⟨hz2, rfl⟩, _, _, rfl, rfl, _, rfl, ?_⟩
      refine ite2 (fun c1 => ?_) (fun c1 => ?_)
      · have d1 : 1 ≤ z.length := by
          have := of_decide_eq_true c1
          omega
        refine ⟨_, _, rfl, rfl, _, rfl, ?_⟩
        by_cases d2 : z.length ≤ 8
        · have e2 : decide ((z.length : Int) ≤ 8) = true := decide_eq_true (by omega)
          rw [e2]
          refine iteF ?_
          have rest : ∀ b H', Same H H' → b = z.cps.toList.all letter → Q (.bl b) H' := fun b H' s e => by
            have e' : nameB z = b := by
              unfold nameB
              rw [decide_eq_true d1, decide_eq_true d2, e]
              rfl
            rw [← e']
            exact k H' s
          refine ⟨_, rfl, z, rfl, fun D hD => lc_it (walk_str (z := z)) (fun i H' => H' D = some (.lst (((z.cps.toList.take i).map letter).map V.bl)) ∧ Same H H')
            ⟨upd_same, fun b o e => by rw [upd_ne (ne_of_none e hD)]; exact e⟩ (fun _ _ _ _ => trivial) ?_ ?_⟩
          · rintro i x H1 H2 hi ⟨hl, hs⟩ ⟨rfl, c, hc, rfl⟩
            have step : ∀ b : Bool, b = letter c → ∃ acc : List V, H2 D = some (.lst acc) ∧ acc.length < sizeLine ∧
                (upd H2 D (.lst (acc ++ [V.bl b])) D = some (.lst (((z.cps.toList.take (i + 1)).map letter).map V.bl)) ∧ Same H (upd H2 D (.lst (acc ++ [V.bl b])))) := fun b hb => by
              refine ⟨_, hl, ?_, ?_, fun a o e => ?_⟩
              · rw [List.length_map, List.length_map, List.length_take]
                have h9 : z.cps.toList.length = z.length := by first | rfl | simp [Str.length]
                exact Nat.lt_of_le_of_lt (Nat.min_le_right _ _) (by rw [h9, sizeLine_eq]; omega)
              · rw [upd_same, hb, List.take_add_one, show z.cps.toList[i]? = some c by rw [Array.getElem?_toList]; exact hc]
                simp
              · rw [upd_ne (ne_of_none e hD)]
                exact hs a o e
            refine ⟨rfl, ?_⟩
            refine ⟨_, rfl, _, _, rfl, rfl, _, rfl, ?_⟩
            have l1 : (!decide ((⟨#[c]⟩ : Str).cps.toList < ("a" : Str).cps.toList)) = decide (97 ≤ c) := one_le 97 c
            have l2 : (!decide (("z" : Str).cps.toList < (⟨#[c]⟩ : Str).cps.toList)) = decide (c ≤ 122) := one_le c 122
            by_cases c1 : 97 ≤ c
            · rw [l1, decide_eq_true c1]
              refine iteT ?_
              refine ⟨_, _, rfl, rfl, step _ ?_⟩
              rw [l2]
              unfold letter
              rw [decide_eq_true c1, Bool.true_and]
            · rw [l1, decide_eq_false c1]
              refine iteF ?_
              refine step _ ?_
              unfold letter
              rw [decide_eq_false c1, Bool.false_and]
          · rintro H1 ⟨hl, hs⟩
            refine ⟨D, _, rfl, SqL.of hl, rest _ H1 hs ?_⟩
            rw [show z.cps.size = z.cps.toList.length from rfl, List.take_length, List.all_map]
            rfl
        · have e2 : decide ((z.length : Int) ≤ 8) = false := decide_eq_false (by omega)
          rw [e2]
          refine iteT ?_
          have e : nameB z = false := by
            unfold nameB
            rw [decide_eq_false d2, Bool.and_false, Bool.false_and]
          rw [← e]
          exact k H (Same.refl H)
      · have d1 : ¬ 1 ≤ z.length := fun q => c1 (decide_eq_true (by omega))
        refine ⟨_, rfl, ?_⟩
        have e : nameB z = false := by
          unfold nameB
          rw [decide_eq_false d1, Bool.false_and, Bool.false_and]
        refine iteT ?_
        rw [← e]
        exact k H (Same.refl H)
    · refine ⟨_, rfl, v, .ty "str", _, _, false, rfl, .ty _, ty, kt, false, rfl, ?_⟩
      refine iteT ?_
      exact iteT k
theorem scW : FnScope ["value", "least", "most"] ["value", "least", "most"] (defScope sWithin) := ⟨rfl, rfl, rfl, by decide +kernel, rfl, by decide +kernel, by decide +kernel⟩
theorem ok_within {f : Addr} {fd : FuncData} (F : Fun K "is_within" "is_within" sWithin f fd) (T : Nm2 mg) : FnOk P w K mg base CX0 1 f fd ["value", "least", "most"] (spWithin K) := by
  refine F.ok scW (fun vs H Q E h => ?_) (fun cdv A outer s H vs Q E hr h => ?_)
  · obtain ⟨v, a, b, rfl, _⟩ := h
    rfl
  · obtain ⟨v, a, b, rfl, k⟩ := h
    refine ⟨_, (pss_cons (ps_if (PW.pt (pw_or (pt_not (pt_val (pe_callB call_isi (by rfl) T.n_isinstance (by decide +kernel) (pa_cons (pv 0) (pa_cons (pe_bltn (v := .ty "int") (by rfl) T.n_int (by decide +kernel) rfl) pa_nil))))) (pw_or1 (pt_val (pe_callB call_isi (by rfl) T.n_isinstance (by decide +kernel) (pa_cons (pv 0) (pa_cons (pe_bltn (v := .ty "bool") (by rfl) T.n_bool (by decide +kernel) rfl) pa_nil))))))) (pss_one (ps_ret pe_bl)) pss_nil)
    (pss_one (ps_ret (pe_chain op_le op_le (pv 1) (pv 0) (pv 2))))), ?_⟩
    rcases k with ⟨v, rfl, k⟩ | ⟨⟨c, rfl⟩ | ⟨t, ty, kt⟩, k⟩
    · refine ⟨_, rfl, .int v, .ty "int", _, _, true, rfl, .ty _, .base (.int v), kit_ty (by decide +kernel), true, rfl, ?_⟩
      refine iteF ?_
      refine ⟨_, rfl, .int v, .ty "bool", _, _, false, rfl, .ty _, .base (.int v), kit_ty (by decide +kernel), false, rfl, ?_⟩
      refine iteF ?_
      refine ⟨_, rfl, _, rfl, _, _, rfl, rfl, _, rfl, ?_⟩
      by_cases c : a ≤ v
      · rw [decide_eq_true c] at k ⊢
        refine iteT ?_
        exact ⟨_, rfl, _, _, rfl, rfl, k⟩
      · rw [decide_eq_false c] at k ⊢
        refine iteF ?_
        exact k
    · refine ⟨_, rfl, .bl c, .ty "int", _, _, true, rfl, .ty _, .base (.bl c), kit_ty (by decide +kernel), true, rfl, ?_⟩
      refine iteF ?_
      refine ⟨_, rfl, .bl c, .ty "bool", _, _, true, rfl, .ty _, .base (.bl c), kit_ty (by decide +kernel), true, rfl, ?_⟩
      exact iteT k
    · refine ⟨_, rfl, v, .ty "int", _, _, false, rfl, .ty _, ty, kt, false, rfl, ?_⟩
      refine iteT ?_
      exact iteT k
theorem scA : FnScope ["things"] ["things"] (defScope sAsc) := ⟨rfl, rfl, rfl, by decide +kernel, rfl, by decide +kernel, by decide +kernel⟩
theorem ok_asc {f : Addr} {fd : FuncData} (F : Fun K "ascending" "ascending" sAsc f fd) (T : Nm3 mg) : FnOk P w K mg base CX0 1 f fd ["things"] (spAsc K) := by
  refine F.ok scA (fun vs H Q E h => ?_) (fun cdv A outer s H vs Q E hr h => ?_)
  · obtain ⟨a, xs, rfl, _⟩ := h
    rfl
  · obtain ⟨a, xs, rfl, ha, hl, k⟩ := h
    refine ⟨_, (pss_one (ps_ret (pe_callB (TSet.cr_sortedTexts rfl) (by rfl) T.n_sorted (by decide +kernel) (pa_cons (pe_callTy (TSet.cr_setS rfl) (by rfl) T.n_set (by decide +kernel) (pa_cons (pe_callTy (OwR.list_any rfl) (by rfl) T.n_list (by decide +kernel) (pa_cons (pv 0) pa_nil)) pa_nil)) pa_nil)))), ?_⟩
    have fin : ∀ l, H l = none → ∀ a2, (upd H l (.lst (xs.map V.str))) a2 = none → ∀ (ys : List Str) (p : Addr), ys.Perm (TSet.ded xs) → sortedS ys = true → (upd (upd H l (.lst (xs.map V.str))) a2 (TSet.TSO w a2 (TSet.ded xs))) p = none →
        Q (.ref p) (upd (upd (upd H l (.lst (xs.map V.str))) a2 (TSet.TSO w a2 (TSet.ded xs))) p (.lst (ys.map V.str))) := fun l h1 a2 h2 ys p pm srt h3 => by
      have s1 := Same.of_new (o := .lst (xs.map V.str)) h1
      have s2 := s1.trans (Same.of_new (o := TSet.TSO w a2 (TSet.ded xs)) h2)
      have s3 := s2.trans (Same.of_new (o := .lst (ys.map V.str)) h3)
      exact k ys p _ pm srt (s2.free h3) s3 upd_same
    have hb : xs.length < scanBound := Nat.lt_trans hl (by decide)
    have hd : (TSet.ded xs).length < 64 := Nat.lt_of_le_of_lt (TSet.ded_len xs) hl
    have rest : ∀ l, H l = none → ∃ (l0 : Addr) (zs : List Str), ([V.ref l] : List V) = [V.ref l0] ∧ SqL K (upd H l (.lst (xs.map V.str))) l0 (zs.map V.str) ∧ zs.length < scanBound ∧
        ∀ a2, (upd H l (.lst (xs.map V.str))) a2 = none → ∃ (a3 : Addr) (L : List Str), ([V.ref a2] : List V) = [V.ref a3] ∧ (upd (upd H l (.lst (xs.map V.str))) a2 (TSet.TSO w a2 (TSet.ded zs))) a3 = some (TSet.TSO w a3 L) ∧ L.length < 64 ∧
          ∀ (ys : List Str) (p : Addr), ys.Perm L → sortedS ys = true → (upd (upd H l (.lst (xs.map V.str))) a2 (TSet.TSO w a2 (TSet.ded zs))) p = none →
            Q (.ref p) (upd (upd (upd H l (.lst (xs.map V.str))) a2 (TSet.TSO w a2 (TSet.ded zs))) p (.lst (ys.map V.str))) := fun l h1 =>
      ⟨l, xs, rfl, SqL.of upd_same, hb, fun a2 h2 => ⟨a2, _, rfl, upd_same, hd, fun ys p pm srt h3 => fin l h1 a2 h2 ys p pm srt h3⟩⟩
    refine ⟨_, rfl, ?_⟩
    rcases ha with h | h | ⟨kvs, h, e⟩
    · exact .inl ⟨a, _, rfl, .inl h, rest⟩
    · exact .inl ⟨a, _, rfl, .inr h, rest⟩
    · refine .inr ⟨a, kvs, rfl, h, ?_⟩
      have ek : (kvs.map fun kv => kV kv.1) = xs.map V.str := by
        have q := congrArg (List.map kV) e
        rw [List.map_map, List.map_map] at q
        exact q
      rw [ek]
      exact rest
end
structure Chk (P : Program) (w : World) (K : PySem.W.Frag) (mg : Str → Option Value) (base : Heap) : Prop where
  nm : ∃ f fd, mg "is_name" = some (.ref f) ∧ Fun K "is_name" "is_name" sName f fd
  wi : ∃ f fd, mg "is_within" = some (.ref f) ∧ Fun K "is_within" "is_within" sWithin f fd
  as : ∃ f fd, mg "ascending" = some (.ref f) ∧ Fun K "ascending" "ascending" sAsc f fd
  T : Nm2 mg
  T3 : Nm3 mg
  T4 : Nm4 mg
section
variable {P : Program} {w : World} {K : PySem.W.Frag} {mg : Str → Option Value} {base : Heap}
theorem Chk.name (c : Chk P w K mg base) : ∃ f fd, mg "is_name" = some (.ref f) ∧ PySem.W.keepIn K (.ref f) = true ∧ Binds K fd ["value"] [] ∧ FnOk P w K mg base CX0 1 f fd ["value"] (spName K) := by
  obtain ⟨f, fd, g, F⟩ := c.nm
  exact ⟨f, fd, g, F.kp, F.binds fun _ _ _ _ _ _ us hl => match us, hl with | [_], _ => rfl, ok_name F c.T⟩
theorem Chk.within (c : Chk P w K mg base) : ∃ f fd, mg "is_within" = some (.ref f) ∧ PySem.W.keepIn K (.ref f) = true ∧ Binds K fd ["value", "least", "most"] [] ∧ FnOk P w K mg base CX0 1 f fd ["value", "least", "most"] (spWithin K) := by
  obtain ⟨f, fd, g, F⟩ := c.wi
  exact ⟨f, fd, g, F.kp, F.binds fun _ _ _ _ _ _ us hl => match us, hl with | [_, _, _], _ => rfl, ok_within F c.T⟩
theorem Chk.asc (c : Chk P w K mg base) : ∃ f fd, mg "ascending" = some (.ref f) ∧ PySem.W.keepIn K (.ref f) = true ∧ Binds K fd ["things"] [] ∧ FnOk P w K mg base CX0 1 f fd ["things"] (spAsc K) := by
  obtain ⟨f, fd, g, F⟩ := c.as
  exact ⟨f, fd, g, F.kp, F.binds fun _ _ _ _ _ _ us hl => match us, hl with | [_], _ => rfl, ok_asc F c.T3⟩
end
end K10
end
section
set_option pp.maxSteps 400
set_option pp.deepTerms.threshold 6
/-! The law's drawn names. -/
namespace K10
open PySem PySem.Spec PyProof.Rows L2
abbrev sWord : Stmt := top 27
def spWord : Sp := fun vs H Q _ => ∃ (p c : Addr) (ns : List Int) (n : Nat) (z : Int), vs = [.ref p] ∧ PenAt H p c ns n z ∧ n + 20 < 100000 ∧ ∀ (w : Str) (n' : Nat) (z' : Int) (H' : Hp), nameB w = true → w.length ≤ 8 → n' ≤ n + 10 → PenAt H' p c ns n' z' → But p H H' → Q (.str w) H'
theorem letters_two : (∀ c ∈ ("abcdefghijklmnopqrstuvwxyz" : Str).cps.toList, letter c = true) ∧ (∀ c ∈ ("aby" : Str).cps.toList, letter c = true) ∧ 0 < ("abcdefghijklmnopqrstuvwxyz" : Str).length ∧ ("abcdefghijklmnopqrstuvwxyz" : Str).length < 1000 ∧ 0 < ("aby" : Str).length ∧ ("aby" : Str).length < 1000 := by decide +kernel
theorem str_snoc (cs : List Nat) (x : Nat) : (⟨cs.toArray⟩ : Str) ++ (⟨#[x]⟩ : Str) = ⟨(cs ++ [x]).toArray⟩ := by
  show (⟨cs.toArray ++ #[x]⟩ : Str) = _
  congr 1
  simp
section
variable {P : Program} {w : World} {K : PySem.W.Frag} {mg : Str → Option Value} {base : Heap}
abbrev nWo : List Str := ["_law_pen_here", "_law_letters", "_law_word_here", "_law_turn"]
theorem scWo : FnScope nWo ["_law_pen_here"] (defScope sWord) := ⟨rfl, rfl, rfl, by decide +kernel, rfl, by decide +kernel, by decide +kernel⟩
theorem ok_word {f fD fP : Addr} {fd fdD fdP : FuncData} (F : Fun K "_law_word" "_law_word" sWord f fd) (T : Nm mg) (n_range : mg "range" = none) (FD : Fun K "_law_draw" "_law_draw" sDraw fD fdD) (gD : mg "_law_draw" = some (.ref fD)) (FP : Fun K "_law_pick" "_law_pick" sPick fP fdP) (gP : mg "_law_pick" = some (.ref fP)) : FnOk P w K mg base CX0 3 f fd ["_law_pen_here"] spWord := by
  have GD : FnOk P w K mg base CX0 1 fD fdD ["_law_pen_here", "_law_many"] spDraw := ok_draw FD T
  have bD : Binds K fdD ["_law_pen_here", "_law_many"] [] := FD.binds fun _ _ _ _ _ _ us hl => match us, hl with | [_, _], _ => rfl
  have GP : FnOk P w K mg base CX0 2 fP fdP ["_law_pen_here", "_law_some"] (spPick K) := ok_pick FP T FD gD
  have GS : FnOk P w K mg base CX0 2 fP fdP ["_law_pen_here", "_law_some"] spPickS := ok_pickS FP T FD gD
  have bP : Binds K fdP ["_law_pen_here", "_law_some"] [] := FP.binds fun _ _ _ _ _ _ us hl => match us, hl with | [_, _], _ => rfl
  refine F.ok scWo (fun vs H Q E h => ?_) (fun cdv A outer s H vs Q E hr h => ?_)
  · obtain ⟨p, c, ns, n, z, rfl, _⟩ := h
    rfl
  · obtain ⟨p, c, ns, n, z, rfl, hp, hn, q⟩ := h
    have hr1 : Room 1 _ := hr.mono (by decide)
    refine ⟨_, (pss_cons (ps_set (i := 1) scWo.nd rfl (Or.inl rfl) (pe_call GP hr (by rfl) gP FP.kp bP .nil pass0 (pa_cons (pv 0) (pa_cons (pe_lst (pa_cons pe_str (pa_cons pe_str pa_nil))) pa_nil))))
    (pss_cons (ps_set (i := 2) scWo.nd rfl (Or.inl rfl) pe_str)
    (pss_cons (ps_for PassesOwn.never rfl (pi_range1 rfl n_range (pa_cons (pe_op op_add pe_int (pe_call GD hr1 (by rfl) gD FD.kp bD .nil pass0 (pa_cons (pv 0) (pa_cons pe_int pa_nil)))) pa_nil)) (pg_name (i := 3) scWo.nd rfl (Or.inl rfl)) (pss_one (ps_set (i := 2) scWo.nd rfl (Or.inl rfl) (pe_op op_add_str (pv 2) (pe_call GS hr (by rfl) gP FP.kp bP .nil pass0 (pa_cons (pv 0) (pa_cons (pv 1) pa_nil)))))))
    (pss_one (ps_ret (pv 2)))))), ?_⟩
    have sz := sizeLine_eq
    refine ⟨_, rfl, by show (2 : Nat) ≤ sizeLine; omega, fun L hL => ?_⟩
    have sL := Same.of_new (o := .lst [.str "abcdefghijklmnopqrstuvwxyz", .str "aby"]) hL
    have nL : L ≠ p := fun e => hp.some (e ▸ hL)
    refine ⟨p, c, L, ns, n, z, _, rfl, hp.same sL, by omega, nL, SqL.of upd_same, by show 0 < 2; decide, by show 2 < 1000; decide, fun x n1 z1 H1 hx hn1 hp1 t1 => ?_⟩
    obtain ⟨l1, l2, a1, a2, a3, a4⟩ := letters_two
    obtain ⟨t, rfl, lt, t0, t9⟩ : ∃ t : Str, x = .str t ∧ (∀ c ∈ t.cps.toList, letter c = true) ∧ 0 < t.length ∧ t.length < 1000 := by
      simp only [List.mem_cons, List.not_mem_nil, or_false] at hx
      rcases hx with rfl | rfl
      · exact ⟨_, rfl, l1, a1, a2⟩
      · exact ⟨_, rfl, l2, a3, a4⟩
    have b1 : But p H H1 := (Same.but p sL).trans t1
    refine ⟨_, rfl, p, c, ns, n1, z1, 8, rfl, hp1, by omega, by decide, by decide +kernel, fun d n2 z2 H2 d0 d1 hn2 hp2 s2 => ⟨1, d, rfl, rfl, _, rfl, by omega, by omega, ?_⟩⟩
    have b2 := b1.trans s2
    refine for_it walk_range (fun i σ Hx => ∃ (cs : List Nat) (x3 : Option V) (n' : Nat) (z' : Int), σ = [some (.ref p), some (.str t), some (.str ⟨cs.toArray⟩), x3] ∧ cs.length = i ∧ (∀ c ∈ cs, letter c = true) ∧ PenAt Hx p c ns n' z' ∧ n' ≤ n + 2 + i ∧ But p H Hx)
      ⟨[], none, n2, z2, rfl, rfl, (fun c h => by cases h), hp2, by omega, b2⟩ (fun _ _ _ _ _ => True.intro) (fun i x σ Hx Hy hi q0 y => ?_) (fun σ Hx q0 => ?_)
    · obtain ⟨cs, x3, n', z', rfl, lc, al, pn, ln, bt⟩ := q0
      obtain ⟨rfl, ex⟩ := y
      refine ⟨_, rfl, _, rfl, _, rfl, p, c, ns, n', z', t, rfl, pn, by omega, t0, t9, fun x n3 z3 H3 hx hn3 hp3 s3 => ?_⟩
      refine ⟨_, _, rfl, rfl, ?_, ?_⟩
      · have e1 : (⟨cs.toArray⟩ : Str).length = cs.length := List.size_toArray
        have e2 : (⟨#[x]⟩ : Str).length = 1 := rfl
        rw [e1, e2]
        omega
      rw [str_snoc]
      refine ⟨cs ++ [x], _, n3, z3, rfl, by rw [List.length_append, lc]; rfl, fun c hc => ?_, hp3, by omega, bt.trans s3⟩
      rcases List.mem_append.mp hc with h | h
      · exact al c h
      · rw [List.mem_singleton.mp h]
        exact lt x hx
    · obtain ⟨cs, x3, n', z', rfl, lc, al, pn, ln, bt⟩ := q0
      have l8 : cs.length ≤ 8 := by omega
      have e1 : (⟨cs.toArray⟩ : Str).length = cs.length := List.size_toArray
      exact ⟨_, rfl, q _ n' z' Hx (letters_name (by omega) l8 al) (by rw [e1]; exact l8) (by omega) pn bt⟩
end
end K10
end
section
/-! Own: {x} in an f-string, x of an own class with an own str. -/
namespace OwR
open PySem PySem.Spec PyProof.Rows L2
structure Fmt1 (K : PySem.W.Frag) (C g : Addr) : Prop where
  fmt : PySem.W.findIn K (.ref C) "__format__" = some (some (.builtin "object.__format__"))
  obj : PySem.W.mroIn K C (.type "object") = some true
  at_ : PySem.W.findIn K (.ref C) "__str__" = some (some (.ref g))
  fn : PySem.W.isFn K (.ref g) = true
def tFmtO (K : PySem.W.Frag) (g : Addr) (sp : Sp) (E : XK) (te : TE) : TE := fun σ H Q => te σ H fun x H1 => ∃ (p C dx : Addr) (fs : List (Str × V)), x = .ref p ∧ H1 p = some (.ins C dx fs) ∧ Fmt1 K C g ∧ sp [.ref p] H1 (fun v H' => ∃ z : Str, v = .str z ∧ Q (.str z) H') E
theorem pe_fmtO {X : Cx} {CX : CXT} {k : Nat} {g : Addr} {sp : Sp} {E : XK} {e : Expr} {te : TE} {pos : Pos} (he : PE X e te) (hu : X.A.units + 2 < cLine) (F : FnR X.prog X.w X.K X.mg X.base CX k g sp) (hr : Room (k + 1) X.A) (hx : Passes CX X E) : PE X (.FormattedValue e (-1) none pos) (tFmtO X.K g sp E te) := by
  refine ⟨fun pins s σ H Q I h => ?_⟩
  refine wpAny_FormattedValue_plain (thn (he.run pins s σ H _ I h) fun v s1 hv => ?_)
  obtain ⟨x, H1, I1, r1, p, C, dx, fs, rfl, ep, c, hq⟩ := hv
  obtain rfl : v = Value.ref p := r1
  obtain ⟨ox, od, J, _⟩ := StX.insC_at I1 (.inr ⟨dx, fs, ep⟩)
  refine PySem.W.kfo_fieldS (by simp; omega) I1.kIn J c.fmt c.obj c.at_ c.fn ?_
  have I2 := I1.tok (s1.toks + 1)
  refine wpAny_call (codeAny_mono (F X.A.in1 X.stack { s1 with toks := s1.toks + 1 } H1 [.ref p] [.ref p] _ E hr.in1 I2.env0.in1 (.cons rfl .nil) hq) fun r s' hq => ?_)
  cases r with
  | error er => exact hx pins σ H1 _ er s' I2 hq
  | ok fl =>
    cases fl with
    | ret u =>
      obtain ⟨v, H', I', rv, z, rfl, q2⟩ := I2.after hq
      obtain ⟨t, rfl⟩ := rv
      exact ⟨.str z, H', I', ⟨t, rfl⟩, q2⟩
    | next => exact False.elim hq
    | brk => exact False.elim hq
    | cont => exact False.elim hq
end OwR
end
section
/-! Texts and their words. Own. -/
namespace K10
open PySem PySem.Spec PyProof.Rows L2
/-- the words of a text -/
abbrev wordsOf (z : Str) : List Str := Txt.split z " "
theorem sp_tl : TL.tl (" " : Str) = [32] := by decide +kernel
theorem words_ne (z : Str) : wordsOf z ≠ [] := fun e => by
  have := PyProof.Rows.split_pos z " "
  rw [show Txt.split z " " = [] from e] at this
  exact absurd this (by decide)
theorem words_free {z w : Str} (h : w ∈ wordsOf z) : 32 ∉ TL.tl w := by
  have e : (" " : Str) = ⟨#[32]⟩ := by decide +kernel
  have h : w ∈ Txt.split z " " := h
  rw [e] at h
  exact StrLaws.split_free z 32 w h
theorem words_join (z : Str) : Txt.join " " (wordsOf z) = z := by
  rw [TL.join_eq]
  exact StrLaws.join_split z " "
theorem words_of {ps : List Str} (hne : ps ≠ []) (hp : ∀ p ∈ ps, 32 ∉ TL.tl p) : wordsOf (Txt.join " " ps) = ps := TL.split_join sp_tl (by decide +kernel) hne hp
theorem joinL_app (S : List Nat) : ∀ A B : List (List Nat), A ≠ [] → B ≠ [] → TL.joinL S (A ++ B) = TL.joinL S A ++ (S ++ TL.joinL S B)
  | [], _, h, _ => absurd rfl h
  | [a], [], _, h => absurd rfl h
  | [a], b :: B, _, _ => rfl
  | a :: c :: A, B, _, h => by
    show a ++ (S ++ TL.joinL S (c :: A ++ B)) = a ++ (S ++ TL.joinL S (c :: A)) ++ (S ++ TL.joinL S B)
    rw [joinL_app S (c :: A) B (by simp) h]
    simp only [List.append_assoc]
theorem tlj (ps : List Str) : TL.tl (Txt.join " " ps) = TL.joinL [32] (ps.map TL.tl) := by
  rw [TL.join_eq, TL.tl_join, sp_tl]
theorem flat_ne {ps : List Str} (h : ps ≠ []) : ps.flatMap wordsOf ≠ [] := fun e => by
  match ps, h with
  | p :: r, _ =>
    rw [List.flatMap_cons] at e
    exact words_ne p (List.append_eq_nil_iff.mp e).1
theorem flat_tl : ∀ ps : List Str, ps ≠ [] → TL.joinL [32] ((ps.flatMap wordsOf).map TL.tl) = TL.joinL [32] (ps.map TL.tl)
  | [], h => absurd rfl h
  | [p], _ => by
    rw [List.flatMap_cons, List.flatMap_nil, List.append_nil, ← tlj, words_join]
    rfl
  | p :: q :: r, _ => by
    rw [List.flatMap_cons, List.map_append, joinL_app _ _ _ (fun e => words_ne p (List.map_eq_nil_iff.mp e)) (fun e => flat_ne (ps := q :: r) (by simp) (List.map_eq_nil_iff.mp e)), flat_tl (q :: r) (by simp), ← tlj, words_join]
    rfl
/-- the words of joined pieces -/
theorem words_flat {ps : List Str} (h : ps ≠ []) : wordsOf (Txt.join " " ps) = ps.flatMap wordsOf := by
  have e : Txt.join " " ps = Txt.join " " (ps.flatMap wordsOf) := by
    refine TL.ext_tl ?_
    rw [tlj, tlj, flat_tl ps h]
  rw [e]
  refine words_of (flat_ne h) fun p hp => ?_
  obtain ⟨z, _, hz⟩ := List.mem_flatMap.mp hp
  exact words_free hz
theorem words_one {w : Str} (h : 32 ∉ TL.tl w) : wordsOf w = [w] := by
  have := words_of (ps := [w]) (by simp) fun p hp => by
    rw [List.mem_singleton.mp hp]
    exact h
  have e : Txt.join " " [w] = w := by
    refine TL.ext_tl ?_
    rw [tlj]
    rfl
  rw [e] at this
  exact this
theorem flat_free : ∀ {ps : List Str}, (∀ p ∈ ps, 32 ∉ TL.tl p) → ps.flatMap wordsOf = ps
  | [], _ => rfl
  | p :: r, h => by
    rw [List.flatMap_cons, words_one (h p List.mem_cons_self), flat_free fun q hq => h q (List.mem_cons_of_mem _ hq)]
    rfl
theorem joinL_len (S : List Nat) (b : Nat) : ∀ A : List (List Nat), (∀ a ∈ A, a.length ≤ b) → (TL.joinL S A).length ≤ (b + S.length) * A.length
  | [], _ => Nat.zero_le _
  | [a], h => by
    show a.length ≤ (b + S.length) * 1
    have := h a List.mem_cons_self
    omega
  | a :: c :: A, h => by
    have i := joinL_len S b (c :: A) fun q hq => h q (List.mem_cons_of_mem _ hq)
    have i1 := h a List.mem_cons_self
    show (a ++ (S ++ TL.joinL S (c :: A))).length ≤ _
    rw [List.length_append, List.length_append, List.length_cons (a := a), Nat.mul_succ]
    omega
theorem join_len {ps : List Str} {b : Nat} (h : ∀ p ∈ ps, p.length ≤ b) : (Txt.join " " ps).length ≤ (b + 1) * ps.length := by
  have := joinL_len [32] b (ps.map TL.tl) fun a ha => by
    obtain ⟨p, hp, rfl⟩ := List.mem_map.mp ha
    rw [← TL.len_tl]
    exact h p hp
  rw [TL.len_tl, tlj]
  rw [List.length_map] at this
  exact this
theorem text_len {z : Str} {b : Nat} (h : ∀ p ∈ wordsOf z, p.length ≤ b) : z.length ≤ (b + 1) * (wordsOf z).length := by
  have := join_len h
  rw [words_join] at this
  exact this
end K10
end
section
/-! Own: dict(..) of pairs of a text and a number. -/
namespace K10
open PySem PySem.Spec PyProof.Rows L2
def tabL (ps : List Pk) : List (Key × V) := ps.map fun q => (Sum.inr q.1, V.int q.2)
theorem lookL_cons (q : Pk) (r : List Pk) (z : Str) : lookL (q :: r) z = if q.1 = z then some q.2 else lookL r z := by
  show (if z = q.1 then some q.2 else lookL r z) = _
  by_cases e : q.1 = z
  · rw [if_pos e, if_pos e.symm]
  · rw [if_neg e, if_neg fun h => e h.symm]
theorem lookL_at : ∀ {ps : List Pk} {z : Str} {v : Int}, lookL ps z = some v → (z, v) ∈ ps
  | [], z, v, h => by cases h
  | q :: r, z, v, h => by
    rw [lookL_cons] at h
    by_cases e : q.1 = z
    · rw [if_pos e] at h
      cases h
      rw [← e]
      exact List.mem_cons_self
    · rw [if_neg e] at h
      exact List.mem_cons_of_mem _ (lookL_at h)
theorem tabOf_list : ∀ ps : List Pk, TabOf (tabL ps) (lookL ps)
  | [] => TabOf.nil
  | q :: r => by
    have ih := tabOf_list r
    refine ⟨fun z => ?_, fun i => ?_⟩
    · by_cases e : q.1 = z
      · have h1 : valV (tabL (q :: r)) (Sum.inr z) = some (.int q.2) := valV_pos (p := (Sum.inr q.1, V.int q.2)) (congrArg Sum.inr e)
        rw [h1, lookL_cons, if_pos e]
        rfl
      · have h1 : valV (tabL (q :: r)) (Sum.inr z) = valV (tabL r) (Sum.inr z) := valV_neg (p := (Sum.inr q.1, V.int q.2)) fun h => e (Sum.inr.inj h)
        rw [h1, ih.1 z, lookL_cons, if_neg e]
    · have h1 : valV (tabL (q :: r)) (Sum.inl i) = valV (tabL r) (Sum.inl i) := valV_neg (p := (Sum.inr q.1, V.int q.2)) fun h => by cases h
      rw [h1, ih.2 i]
theorem val_none {kvs : List (Key × V)} {k : Key} (h : k ∉ kvs.map (·.1)) : valV kvs k = none := by
  cases e : valV kvs k with
  | none => rfl
  | some v =>
    have h1 := valV_any k kvs
    rw [e] at h1
    obtain ⟨kv, h2, h3⟩ := List.any_eq_true.mp h1
    exact (h (List.mem_map.mpr ⟨kv, h2, of_decide_eq_true h3⟩)).elim
theorem merge_app : ∀ (more acc : List (Key × V)), ((acc ++ more).map (·.1)).Nodup → mergeK acc more = acc ++ more
  | [], acc, _ => (List.append_nil acc).symm
  | x :: r, acc, h => by
    have h2 : x.1 ∉ acc.map (·.1) := fun m => by
      rw [List.map_append] at h
      exact (List.nodup_append.mp h).2.2 x.1 m x.1 (by simp) rfl
    have h1 : putK acc x.1 x.2 = acc ++ [x] := putK_new x.2 (val_none h2)
    have e : acc ++ [x] ++ r = acc ++ x :: r := by simp
    have ih := merge_app r (acc ++ [x]) (by rw [e]; exact h)
    show mergeK (putK acc x.1 x.2) r = _
    rw [h1, ih, e]
theorem merge_tab {ps : List Pk} (h : (ps.map (·.1)).Nodup) : mergeK [] (tabL ps) = tabL ps := by
  refine merge_app (tabL ps) [] ?_
  have e : (tabL ps).map (·.1) = (ps.map (·.1)).map Sum.inr := by
    unfold tabL
    rw [List.map_map, List.map_map]
    rfl
  rw [List.nil_append, e]
  exact List.Pairwise.map Sum.inr (fun a b n q => n (Sum.inr.inj q)) h
theorem PicksAt.paired {K : PySem.W.Frag} {H : Hp} : ∀ {ks : List Addr} {ps : List Pk}, PicksAt H ks ps → Paired (fun p kv => SqT K H p [kV kv.1, kv.2]) ks (tabL ps)
  | [], [], _ => .nil
  | [], _ :: _, h => by cases h.len
  | _ :: _, [], h => by cases h.len
  | k :: ks, p :: ps, h => .cons (SqT.of (h.at_ 0 k p rfl rfl)) (PicksAt.paired ⟨Nat.succ.inj h.len, fun i k' p' e1 e2 => h.at_ (i + 1) k' p' e1 e2⟩)
end K10
end
section
/-! Own: houses as ascending lists of bays with their numbers from 1, and as numbers by bay. -/
namespace K10
open PySem PySem.Spec PyProof.Rows L2
def topN : Int := 10 ^ 60 - 1
def valL (ps : List Pk) (z : Str) : Int := (lookL ps z).getD 0
/-- ascending, each bay once, numbers from 1 -/
structure HNorm (ps : List Pk) : Prop where
  asc : (ps.map (·.1)).Pairwise leS
  nd : (ps.map (·.1)).Nodup
  pos : ∀ p ∈ ps, 0 < p.2
theorem lookL_some : ∀ {ps : List Pk} {p : Pk}, (ps.map (·.1)).Nodup → p ∈ ps → lookL ps p.1 = some p.2
  | q :: r, p, nd, h => by
    rw [lookL_cons]
    rcases List.mem_cons.mp h with rfl | h
    · rw [if_pos rfl]
    · have h1 := (List.nodup_cons.mp nd).1
      rw [if_neg fun e => h1 (by show q.1 ∈ _; rw [e]; exact List.mem_map.mpr ⟨p, h, rfl⟩)]
      exact lookL_some (List.nodup_cons.mp nd).2 h
theorem lookL_none {ps : List Pk} {z : Str} (h : z ∉ ps.map (·.1)) : lookL ps z = none := by
  cases e : lookL ps z with
  | none => rfl
  | some v => exact (h (List.mem_map.mpr ⟨_, lookL_at e, rfl⟩)).elim
theorem valL_mem {ps : List Pk} (n : HNorm ps) {z : Str} : z ∈ ps.map (·.1) ↔ 0 < valL ps z := by
  constructor
  · intro h
    obtain ⟨p, hp, rfl⟩ := List.mem_map.mp h
    unfold valL
    rw [lookL_some n.nd hp]
    exact n.pos p hp
  · intro h
    by_cases c : z ∈ ps.map (·.1)
    · exact c
    · unfold valL at h
      rw [lookL_none c] at h
      exact absurd h (by decide)
theorem valL_nn {ps : List Pk} (n : HNorm ps) (z : Str) : 0 ≤ valL ps z := by
  by_cases c : z ∈ ps.map (·.1)
  · exact Int.le_of_lt ((valL_mem n).mp c)
  · unfold valL
    rw [lookL_none c]
    decide
theorem norm_map {ps : List Pk} (nd : (ps.map (·.1)).Nodup) : ps = (ps.map (·.1)).map fun z => (z, valL ps z) := by
  rw [List.map_map]
  have h : ∀ p ∈ ps, ((fun z => (z, valL ps z)) ∘ fun x : Pk => x.1) p = p := fun p hp => by
    show (p.1, (lookL ps p.1).getD 0) = p
    rw [lookL_some nd hp]
    rfl
  rw [List.map_congr_left h, List.map_id']
theorem norm_ext {ps qs : List Pk} (n : HNorm ps) (m : HNorm qs) (h : ∀ z, valL ps z = valL qs z) : ps = qs := by
  have e : ps.map (·.1) = qs.map (·.1) := asc_aux _ _ n.asc m.asc n.nd m.nd fun z => by rw [valL_mem n, valL_mem m, h z]
  rw [norm_map n.nd, norm_map m.nd, e]
  exact List.map_congr_left fun z _ => by rw [h z]
/-- of ascending names those with a number -/
def mkL (ys : List Str) (F : Str → Int) : List Pk := (ys.filter fun z => decide (0 < F z)).map fun z => (z, F z)
theorem mkL_keys (ys : List Str) (F : Str → Int) : (mkL ys F).map (·.1) = ys.filter fun z => decide (0 < F z) := by
  unfold mkL
  rw [List.map_map]
  exact (List.map_congr_left fun z _ => rfl).trans (List.map_id' _)
theorem mkL_norm {ys : List Str} {F : Str → Int} (h : sortedS ys = true) (nd : ys.Nodup) : HNorm (mkL ys F) := by
  refine ⟨?_, ?_, fun p hp => ?_⟩
  · rw [mkL_keys]
    exact (sorted_pw ys h).sublist List.filter_sublist
  · rw [mkL_keys]
    exact nd.sublist List.filter_sublist
  · obtain ⟨z, hz, rfl⟩ := List.mem_map.mp hp
    exact of_decide_eq_true (List.mem_filter.mp hz).2
theorem mkL_val {ys : List Str} {F : Str → Int} (nd : ys.Nodup) (h : ∀ z, F z ≠ 0 → z ∈ ys) (nn : ∀ z, 0 ≤ F z) (z : Str) : valL (mkL ys F) z = F z := by
  have nk : ((mkL ys F).map (·.1)).Nodup := by
    rw [mkL_keys]
    exact nd.sublist List.filter_sublist
  by_cases c : 0 < F z
  · have m : (z, F z) ∈ mkL ys F := List.mem_map.mpr ⟨z, List.mem_filter.mpr ⟨h z (by omega), decide_eq_true c⟩, rfl⟩
    unfold valL
    rw [lookL_some nk m]
    rfl
  · have m : z ∉ (mkL ys F).map (·.1) := fun q => by
      rw [mkL_keys] at q
      exact c (of_decide_eq_true (List.mem_filter.mp q).2)
    unfold valL
    rw [lookL_none m]
    have := nn z
    show (0 : Int) = F z
    omega
theorem mkL_yes {ys : List Str} {F : Str → Int} {i : Nat} {z : Str} (hz : ys[i]? = some z) (c : 0 < F z) : mkL (ys.take (i + 1)) F = mkL (ys.take i) F ++ [(z, F z)] := by
  unfold mkL
  rw [List.take_add_one, hz, List.filter_append, List.map_append]
  show _ ++ ([z].filter _).map _ = _
  rw [List.filter_cons, if_pos (decide_eq_true c)]
  rfl
theorem mkL_no {ys : List Str} {F : Str → Int} {i : Nat} {z : Str} (hz : ys[i]? = some z) (c : ¬ 0 < F z) : mkL (ys.take (i + 1)) F = mkL (ys.take i) F := by
  unfold mkL
  rw [List.take_add_one, hz, List.filter_append, List.map_append]
  show _ ++ ([z].filter _).map _ = _
  rw [List.filter_cons, if_neg (by simpa using c), List.filter_nil, List.map_nil, List.append_nil]
theorem at_new {ys : List Str} {i : Nat} {z : Str} (nd : ys.Nodup) (hz : ys[i]? = some z) : z ∉ ys.take i := fun q => by
  have h : (ys.take (i + 1)).Nodup := nd.sublist (List.take_sublist _ _)
  rw [List.take_add_one, hz] at h
  exact (List.nodup_append.mp h).2.2 z q z (by simp) rfl
theorem tabL_keys (ps : List Pk) : (tabL ps).map (·.1) = (ps.map (·.1)).map Sum.inr := by
  unfold tabL
  rw [List.map_map, List.map_map]
  rfl
theorem put_tab {ps : List Pk} {z : Str} (v : Int) (h : z ∉ ps.map (·.1)) : putK (tabL ps) (Sum.inr z) (.int v) = tabL (ps ++ [(z, v)]) := by
  have h2 : (Sum.inr z : Key) ∉ (tabL ps).map (·.1) := fun m => by
    rw [tabL_keys] at m
    obtain ⟨y, hy, e⟩ := List.mem_map.mp m
    exact h (Sum.inr.inj e ▸ hy)
  rw [putK_new (V.int v) (val_none h2)]
  unfold tabL
  rw [List.map_append]
  rfl
/-- names with their numbers -/
def mapL (ys : List Str) (f : Str → Int) : List Pk := ys.map fun z => (z, f z)
theorem mapL_keys (ys : List Str) (f : Str → Int) : (mapL ys f).map (·.1) = ys := by
  unfold mapL
  rw [List.map_map]
  exact (List.map_congr_left fun z _ => rfl).trans (List.map_id' _)
theorem mapL_snoc {ys : List Str} {f : Str → Int} {i : Nat} {z : Str} (hz : ys[i]? = some z) : mapL (ys.take (i + 1)) f = mapL (ys.take i) f ++ [(z, f z)] := by
  unfold mapL
  rw [List.take_add_one, hz, List.map_append]
  rfl
theorem mapL_look {ys : List Str} {f : Str → Int} (nd : ys.Nodup) (z : Str) : lookL (mapL ys f) z = if z ∈ ys then some (f z) else none := by
  by_cases c : z ∈ ys
  · rw [if_pos c]
    have nk : ((mapL ys f).map (·.1)).Nodup := by rw [mapL_keys]; exact nd
    exact lookL_some (p := (z, f z)) nk (List.mem_map.mpr ⟨z, c, rfl⟩)
  · rw [if_neg c]
    exact lookL_none (by rw [mapL_keys]; exact c)
theorem nodup_len : ∀ {xs ys : List Str}, xs.Nodup → (∀ z ∈ xs, z ∈ ys) → xs.length ≤ ys.length
  | [], _, _, _ => Nat.zero_le _
  | x :: r, ys, nd, h => by
    have h1 := h x List.mem_cons_self
    have ih := nodup_len (xs := r) (ys := ys.erase x) (List.nodup_cons.mp nd).2 fun z hz => by
      have ne : z ≠ x := fun e => (List.nodup_cons.mp nd).1 (e ▸ hz)
      exact (List.mem_erase_of_ne ne).mpr (h z (List.mem_cons_of_mem _ hz))
    rw [List.length_erase_of_mem h1] at ih
    have := List.length_pos_of_mem h1
    rw [List.length_cons]
    omega
def leB (ns : List Str) (F G : Str → Int) : Bool := ns.all fun z => decide (F z ≤ G z)
def eqB (ns : List Str) (F G : Str → Int) : Bool := ns.all fun z => decide (F z = G z)
end K10
end
section
/-! Own: an error that a name holds behind its except clause. -/
namespace OwE
open PySem PySem.Spec PyProof.Rows L2
/-- the error at a, of the class cls, its dict at d -/
def keptE (a : Addr) (cls : Value) (d : Option Addr) : HO := .ext fun h => ∃ oe vs, h.get? a = some oe ∧ Zc cls d oe ∧ oe.data = .fields vs
theorem keptE_ok {P : Program} {w : World} {H : Hp} {h : Heap} {a : Addr} {cls : Value} {d : Option Addr} {oe : Obj} {vs : Array Value} (e : h.get? a = some oe) (z : Zc cls d oe) (f : oe.data = .fields vs) : ObjOk P w H h a (keptE a cls d) :=
  show (∃ o v, h.get? a = some o ∧ Zc cls d o ∧ o.data = .fields v) ∧ (∃ o, h.get? a = some o) ∧ ∀ h1 h2 : Heap, (∃ o v, h1.get? a = some o ∧ Zc cls d o ∧ o.data = .fields v) → (∀ o, h1.get? a = some o → h2.get? a = some o) → ∃ o v, h2.get? a = some o ∧ Zc cls d o ∧ o.data = .fields v from
  ⟨⟨oe, vs, e, z, f⟩, ⟨oe, e⟩, fun _ _ ⟨o, v, q, r⟩ k => ⟨o, v, k _ q, r⟩⟩
theorem keptE_at {P : Program} {w : World} {H : Hp} {h : Heap} {a : Addr} {cls : Value} {d : Option Addr} (ok : HOk P w H h) (e : H a = some (keptE a cls d)) : ∃ oe vs, h.get? a = some oe ∧ Zc cls d oe ∧ oe.data = .fields vs := by
  have x : ObjOk P w H h a (keptE a cls d) := ok a _ e
  exact x.1
section
variable {X : Cx} {pins : List (Addr × Obj)} {σ : L2.St} {H : Hp} {s : Shared}
/-- an error that stands on the heap is told of from here on -/
theorem keep_it {a : Addr} {cls : Value} {d : Option Addr} {oe : Obj} {vs : Array Value} (I : Inv X ((a, oe) :: pins) σ H s) (z : Zc cls d oe) (f : oe.data = .fields vs) (n0 : X.s_0.heap.get? a = none) (np : ∀ p ∈ X.pn ++ pins, p.1 ≠ a) : Inv X pins σ (upd H a (keptE a cls d)) s := by
  obtain ⟨ea, na, nl, nf, _⟩ := I.pin (a, oe) (List.mem_append_right _ List.mem_cons_self)
  have off : ∀ {b : Addr} {o : HO}, H b = some o → b ≠ a := fun {b o} e q => by
    rw [q, na] at e
    cases e
  have B := I.base
  have U : Un X.fs X.ex X.H_0 (upd H a (keptE a cls d)) X.s_0.heap s.heap := {
    keep := B.keep
    slot := B.slot
    free := fun b o e n x => by
      have nb : b ≠ a := fun q => by
        rw [q, n0] at e
        cases e
      rw [upd_ne nb]
      exact B.free b o e n x
    there := B.there
    tups := fun b xs e => by
      have q := B.tups b xs e
      rw [upd_ne (off q)]
      exact q
    frzs := fun b o u e => by
      have q := B.frzs b o u e
      rw [upd_ne (off q)]
      exact q
    tbls := fun b ps e => by
      obtain ⟨m, q⟩ := B.tbls b ps e
      exact ⟨m, by rw [upd_ne (off q)]; exact q⟩ }
  refine { ok := I.ok, os := I.os, bare := I.bare, base := U, loc := I.loc, cell := I.cell, free := ?_, freeC := fun x c e => ?_, pin := fun p m => ?_, hok := I.hok.laidN (fun _ _ q => q) na (keptE_ok ea z f), len := I.len }
  · rw [upd_ne (Ne.symm nl)]
    exact I.free
  · have nc : c ≠ a := fun q => by
      obtain ⟨v, o, eo, dv⟩ := I.cell x c e
      rw [q, ea] at eo
      cases eo
      rw [f] at dv
      cases dv
    rw [upd_ne nc]
    exact I.freeC x c e
  · have m2 : p ∈ X.pn ++ (a, oe) :: pins := by
      rcases List.mem_append.mp m with q | q
      · exact List.mem_append_left _ q
      · exact List.mem_append_right _ (List.mem_cons_of_mem _ q)
    obtain ⟨q1, q2, q3⟩ := I.pin p m2
    exact ⟨q1, by rw [upd_ne (np p m)]; exact q2, q3⟩
/-- behind a suite the error stands yet -/
theorem behind {a : Addr} {oe : Obj} (I : Inv (X.suite a ((a, oe) :: (X.pn ++ pins))) [] σ H s) (ok : X.Ok) : Inv X ((a, oe) :: pins) σ H s :=
  { ok := ok, os := I.os, bare := I.bare, base := I.base, loc := I.loc, cell := I.cell, free := I.free, freeC := I.freeC, hok := I.hok, len := I.len
    pin := fun p m => I.pin p (by
      rw [List.append_nil]
      rcases List.mem_append.mp m with q | q
      · exact List.mem_cons_of_mem _ (List.mem_append_left _ q)
      · rcases List.mem_cons.mp q with q | q
        · rw [q]
          exact List.mem_cons_self
        · exact List.mem_cons_of_mem _ (List.mem_append_right _ q)) }
end
/-- what 'except x as n' wishes, where the error is kept behind it -/
def wKeep (K : PySem.W.Frag) (c : Value) (i : Nat) (ts : Addr → Value → Option Addr → TS) (D : Ends) : WX := fun cls d σ H =>
  PySem.W.exmOne K cls c = some true ∧ ∀ a, H a = none → ts a cls d { nx := fun σ' H' => D.nx (σ'.set i none) (upd H' a (keptE a cls d)), rt := fun _ _ => False, bk := fun _ _ => False, ct := fun _ _ => False } (σ.set i (some (.ref a))) H
section
variable {X : Cx} {x n : Str} {c : Value} {i : Nat} {body suite : List Stmt} {b₀ : Stmt} {np pos pos' : Pos} {tb : WX → TS} {ts : Addr → Value → Option Addr → TS}
theorem ps_try_keep (hs : X.stack = X.env :: X.outer) (hf : X.env.frame = some X.env.locals) (hex : X.ex = []) (hN : X.N.Nodup) (hi : X.N[i]? = some n) (hln : X.env.kindOf n = some .local) (hc : Names X x c)
    (hb : ∀ (W : WX) (pn : List (Addr × Obj)) (xe : Value → Shared → Prop), Takes (X.tr pn xe) W → PSs (X.tr pn xe) body (tb W))
    (hsu : ∀ (a : Addr) (oe : Obj) (cls : Value) (d : Option Addr) (pn : List (Addr × Obj)), Zc cls d oe → (∃ vs, oe.data = .fields vs) → PSs (X.suite a ((a, oe) :: pn)) (b₀ :: suite) (ts a cls d)) :
    PS X (.Try body [.ExceptHandler (some (.Name x np)) (some n) (b₀ :: suite) pos'] [] [] pos) (fun D σ H => tb (wKeep X.K c i ts D) D σ H) := by
  refine ⟨fun pins s σ H D I h => wpAny_Try_except ?_⟩
  have ok := I.ok
  have heard : Takes (X.tr (X.pn ++ pins) fun e s1 => wpAny (model X.prog X.w) X.A (noteFrame e X.env) (fun _ s2 => wpAny (model X.prog X.w) X.A (setFlight e none) (fun _ s3 => wpAny (model X.prog X.w) X.A (handleBy e X.env [.ExceptHandler (some (.Name x np)) (some n) (b₀ :: suite) pos']) (SP X pins D) X.xe s3) X.xe s2) X.xe s1) (wKeep X.K c i ts D) := by
    rintro u s1 ⟨a, B, sI, _, σ1, H1, cls, d, rfl, J, seen, up, sky, na, os, bare, hx, wish⟩
    have J := J.ofTry ok
    rw [show (X.tr (X.pn ++ pins) _).stack = X.env :: X.outer from hs] at sky
    -- the error is no frame, it stands in nothing that was there before
    refine Sky.land Zc.steady (by rw [ok.frames, hs]) hf sky fun h2 fly up2 => wpAny_handleBy_cons (codeAny_handlers_test ?_) (by intro q; cases q)
    obtain ⟨ob, vb, eb, zb, db⟩ := fly.there
    have isFr : ∀ {b : Addr}, b ∈ frs (X.env :: X.outer) → b ≠ a := fun {b} m q => by
      obtain ⟨_, o, e, k⟩ := fly.2.2.1.mem m
      rw [q, eb] at e
      cases e
      exact k _ db
    have out : ∀ {b : Addr}, b = X.env.locals ∨ b ∈ X.fs → b ∈ frs (X.env :: X.outer) := fun {b} m => by
      rcases m with q | q
      · exact List.mem_filterMap.mpr ⟨X.env, List.mem_cons_self, by rw [hf, q]⟩
      · obtain ⟨e, me, q⟩ := List.mem_filterMap.mp q
        exact List.mem_filterMap.mpr ⟨e, List.mem_cons_of_mem _ me, q⟩
    have nl : a ≠ X.env.locals := fun q => isFr (out (.inl rfl)) q.symm
    have nf : a ∉ X.fs := fun q => isFr (out (.inr q)) rfl
    have aB : B.get? a = none := fly.2.1
    have old : ∀ {b : Addr} {o : Obj}, sI.heap.get? b = some o → b ≠ a := fun {b o} e q => by
      have nb : b ∉ frs X.stack := fun m => isFr (by rw [← hs]; exact m) q
      have e2 := seen b o e nb
      rw [q, aB] at e2
      cases e2
    have n0 : X.s_0.heap.get? a = none := by
      cases q : X.s_0.heap.get? a with
      | none => rfl
      | some o =>
        obtain ⟨o2, e2⟩ := J.base.there a o q (by rw [hex]; exact fun m => nomatch m)
        exact absurd rfl (old e2)
    have first : ∀ {h : Heap} {o : Obj} {vs : Array Value}, s1.heap.UpToSlots h → B.StaysIn h → h.get? a = some o → o.data = .fields vs → Inv (X.suite a ((a, o) :: (X.pn ++ pins))) [] σ1 H1 { s1 with heap := h } := fun {h o vs} u st e dv => (J.landed (s' := { s1 with heap := h }) seen st (up.trans u) os bare).suite e dv na nl nf
    -- the clause's class is asked
    have I2 := first up2 fly.1 eb db
    have kind : PySem.W.Looks (model X.prog X.w) h2 (typeOf (.ref a)) cls := fun A Q E s k q => wpAny_typeOf_ref (k _ _ eb) (by rw [zb.1]; exact q)
    have isOne := PySem.W.exm_one (M := model X.prog X.w) I2.kIn kind hx
    have named : ∀ {Q : Value → Shared → Prop} {E : Value → Shared → Prop}, Q c { s1 with heap := h2 } → wpAny (model X.prog X.w) (X.A.mark (some (.ref a))) (eval (.Name x np) X.env) Q E { s1 with heap := h2 } := fun {Q E} q => by
      rcases hc with ⟨g, nd, m | ⟨m, v, nn⟩⟩
      · exact ld_glob (X := X.suite a ((a, ob) :: (X.pn ++ pins))) I2 g m q nd
      · exact ld_blt (X := X.suite a ((a, ob) :: (X.pn ++ pins))) I2 g m v q nn nd
    refine named (isOne.here (codeAny_handlers_suite_as (HandSPX.lands_againZ fly fun h3 fly3 up3 => ?_)))
    obtain ⟨oc, vc, ec, zc, dc⟩ := fly3.there
    -- the name, the suite
    refine store_ok (X := X.suite a ((a, oc) :: (X.pn ++ pins))) (v := .ref a) (first (up2.trans up3) fly3.1 ec dc) hN hi (.inl hln) rfl (fun s4 I4 => wpAny_mono ((hsu a oc cls d (X.pn ++ pins) zc ⟨_, dc⟩).run [] s4 _ H1 _ I4 (wish a na)) ?_ fun _ _ z => z.elim) (.inr hln)
    rintro fl s5 q5
    cases fl with
    | next =>
      obtain ⟨σ5, H5, I5, q⟩ := q5
      refine gone_ok (behind I5 ok) hN hi hln fun s6 I6 => ⟨_, _, keep_it I6 zc dc n0 fun p m => old (J.pin p m).1, q⟩
    | brk =>
      obtain ⟨_, _, _, q⟩ := q5
      exact q.elim
    | cont =>
      obtain ⟨_, _, _, q⟩ := q5
      exact q.elim
    | ret v =>
      obtain ⟨_, _, _, _, _, q⟩ := q5
      exact q.elim
  refine wpAny_mono ((hb (wKeep X.K c i ts D) (X.pn ++ pins) _ heard).run [] s σ H D (I.toTry _) h) (fun fl s1 q => ?_) fun _ _ z => z
  cases fl with
  | next =>
    obtain ⟨σ1, H1, J, q⟩ := q
    exact wpAny_execs_nil ⟨σ1, H1, J.ofTry ok, q⟩
  | brk =>
    obtain ⟨σ1, H1, J, q⟩ := q
    exact ⟨σ1, H1, J.ofTry ok, q⟩
  | cont =>
    obtain ⟨σ1, H1, J, q⟩ := q
    exact ⟨σ1, H1, J.ofTry ok, q⟩
  | ret v =>
    obtain ⟨v, σ1, H1, J, r, q⟩ := q
    exact ⟨v, σ1, H1, J.ofTry ok, r, q⟩
end
/-- isinstance of an error that is kept -/
def rIsK (K : PySem.W.Frag) : List V → Hp → VK → Prop := fun xs H Q => ∃ (a : Addr) (c : V) (u : Value) (C dd : Addr) (fs : List (Str × V)) (b : Bool), xs = [.ref a, c] ∧ ClsV c u ∧ ErrC K C ∧ H a = some (keptE a (.ref C) (some dd)) ∧ H dd = some (.xd fs) ∧
  PySem.W.kitOne K (.ref C) u = some b ∧ Q (.bl b) H
theorem call_isK {X : Cx} : CallR X (.builtin "isinstance") (rIsK X.K) := by
  intro pins s σ H xs us Q I r h
  obtain ⟨a, c, cv, C, dd, fs, b, rfl, hcv, T, ea, ed, e, q⟩ := h
  obtain ⟨u1, u2, rfl, r1, r2⟩ := vals2 r
  cases (show u1 = Value.ref a from r1)
  have e2 := hcv.eq r2
  subst e2
  obtain ⟨oe, vs, hget, hz, hv⟩ := keptE_at I.hok ea
  obtain ⟨mA, hns, hr⟩ := (show ObjOk X.prog X.w H s.heap dd (.xd fs) from I.hok dd _ ed)
  obtain ⟨od, ho, hl⟩ := lookIn_ns hns
  have J : PySem.W.InstAt s.heap a oe C (some od) := ⟨hget, hz.1, by unfold PySem.W.notCls; rw [hv] <;> rfl, by rw [hz.2]; exact ho⟩
  exact PySem.W.kia_one (PySem.W.kitx_exc (OexC.cl T.ox) T.xf.ga T.xf.gg T.xf.exC T.ha T.hn T.ht T.hm) I.kIn J e (fun z => nomatch z) fun tk => ⟨.bl b, H, I.tok tk, rfl, q⟩
/-- err.f of an error that is kept -/
def tKf (K : PySem.W.Frag) (f : Str) (te : TE) : TE := fun σ H Q => te σ H fun x H1 => ∃ (a C dd : Addr) (fs : List (Str × V)) (v : V), x = .ref a ∧ ErrC K C ∧ PySem.W.findIn K (.ref C) f = some none ∧ H1 a = some (keptE a (.ref C) (some dd)) ∧ H1 dd = some (.xd fs) ∧ fs.lookup f = some v ∧ Q v H1
theorem pe_kf {X : Cx} {e : Expr} {te : TE} {pos : Pos} {n : Str} (he : PE X e te) (hb : attributeBase e n X.env (eval e X.env) = eval e X.env := by rfl) : PE X (.Attribute e n pos) (tKf X.K n te) := by
  refine ⟨fun pins s σ H Q I h => ?_⟩
  refine attr_of hb (thn (he.run pins s σ H _ I h) fun u s1 hh => ?_)
  obtain ⟨x, H1, I1, rx, a, C, dd, fs, v, rfl, T, hno, ea, ed, l, q⟩ := hh
  obtain rfl : u = Value.ref a := rx
  obtain ⟨oe, vs, ha, hz, hd⟩ := keptE_at I1.hok ea
  obtain ⟨mA, hns, hr⟩ := (show ObjOk X.prog X.w H1 s1.heap dd (.xd fs) from I1.hok dd _ ed)
  obtain ⟨od, ho, hl⟩ := lookIn_ns hns
  obtain ⟨u, hu, ru⟩ := RelO.some_of (v := v) (o := mA n) (by rw [← l]; exact hr n)
  have J : PySem.W.InstAt s1.heap a oe C (some od) := ⟨ha, hz.1, by unfold PySem.W.notCls; rw [hd] <;> rfl, by rw [hz.2]; exact ho⟩
  exact HandSPX.exc_get I1.kIn J T.xf.ga T.xf.gg T.xf.exC (PySem.W.findObj_own T.xf.hdC hno rfl (by rw [hl, hu])) (handed_of ru) ⟨v, H1, I1.tok _, ru, q⟩
/-! ### an error class with two fields -/
def spErr2 (K : PySem.W.Frag) (f g : Str) : Sp := fun vs H Q _ => ∃ (a C : Addr) (v u : V), vs = [.ref a, v, u] ∧ OexC K C ∧ PySem.W.findIn K (.ref C) f = some none ∧ PySem.W.findIn K (.ref C) g = some none ∧ H a = some (exo a C none) ∧
  ∀ dx, H dx = none → dx ≠ a → Q .non (upd (upd H dx (exd dx [(g, u), (f, v)])) a (exo a C (some dx)))
theorem mk_err2 {K : PySem.W.Frag} {C : Addr} {f g : Str} {v u : V} {H : Hp} {E : XK} (T : OexC K C) (hf : PySem.W.findIn K (.ref C) f = some none) (hg : PySem.W.findIn K (.ref C) g = some none) (k : ∀ d, H d = none → E (.ref C) (some d) (upd H d (.xd [(g, u), (f, v)]))) :
    ([v, u] : List V).length ≤ 1000 ∧ ∀ a, H a = none → spErr2 K f g (.ref a :: ([v, u] ++ [])) (upd H a (exo a C none)) (fun v H2 => v = .non ∧ ∃ (d : Addr) (fs : List (Str × V)), H2 a = some (exo a C (some d)) ∧ H2 d = some (exd d fs) ∧ H d = none ∧ E (.ref C) (some d) (upd (del H2 a) d (.xd fs))) (fun _ _ _ => False) := by
  refine ⟨by show (2 : Nat) ≤ 1000; decide, fun a ha => ⟨a, C, v, u, rfl, T, hf, hg, upd_same, fun dx hd ne => ⟨rfl, dx, [(g, u), (f, v)], upd_same, by rw [upd_ne ne, upd_same], ?_, ?_⟩⟩⟩
  · rw [upd_ne ne] at hd
    exact hd
  · rw [err_heap ne ha]
    rw [upd_ne ne] at hd
    exact k dx hd
end OwE
end
section
/-! xs[::k]; an own == asked of any value; str(o) by an own __str__. -/
namespace OwR
open PySem PySem.Spec PyProof.Rows L2
/-! ### xs[::k] -/
theorem vals_pick {xs : List V} {us : List Value} (r : Vals xs us) : ∀ idx : List Nat, Vals (idx.filterMap (xs[·]?)) (idx.filterMap (us[·]?))
  | [] => .nil
  | i :: l => by
    have ih := vals_pick r l
    rw [List.filterMap_cons, List.filterMap_cons]
    cases hx : xs[i]? with
    | none =>
      have e : us[i]? = none := by
        rw [List.getElem?_eq_none_iff] at hx ⊢
        rw [← r.length]
        exact hx
      rw [e]
      exact ih
    | some x =>
      obtain ⟨u, hu, ru⟩ := r.get hx
      rw [hu]
      exact .cons ru ih
theorem pick_mem {α : Type} {xs : List α} : ∀ {idx : List Nat} {y : α}, y ∈ idx.filterMap (xs[·]?) → y ∈ xs := fun {idx y} h => by
  obtain ⟨i, _, e⟩ := List.mem_filterMap.mp h
  exact List.mem_of_getElem? e
def tStepL (K : PySem.W.Frag) (te : TE) : TE := fun σ H Q => te σ H fun x H1 => ∃ a xs, x = .ref a ∧ SqL K H1 a xs ∧ ∀ p ys, H1 p = none → (∀ y ∈ ys, y ∈ xs) → Q (.ref p) (upd H1 p (.lst ys))
theorem pe_stepL {X : Cx} {e : Expr} {te : TE} {n : Nat} {k : Nat} {p1 p3 pos : Pos} (h0 : (n : Int) ≠ 0) (he : PE X e te) : PE X (.Subscript e (.Slice none none (some (.Constant (.int (n : Int)) k p1)) p3) pos) (tStepL X.K te) := by
  refine ⟨fun pins s σ H Q I h => ?_⟩
  refine Subscript_ (thn (he.run pins s σ H _ I h) fun v s1 w => ?_)
  obtain ⟨x, H1, I1, r1, a, xs, rfl, hx, q⟩ := w
  cases r1
  have hst : PO X (some (.Constant (.int (n : Int)) k p1)) (tPart (tC (.int (n : Int)))) := po_some pe_int
  refine wpAny_Slice (thn (po_none.run pins s1 σ H1 (fun o H2 => o = none ∧ H2 = H1) I1 ⟨rfl, rfl⟩) fun vl s2 w2 => ?_)
  obtain ⟨l, H2, I2, pl, rfl, rfl⟩ := w2
  refine thn (po_none.run pins s2 σ H2 (fun o H3 => o = none ∧ H3 = H2) I2 ⟨rfl, rfl⟩) fun vu s3 w3 => ?_
  obtain ⟨u, H3, I3, pu, rfl, rfl⟩ := w3
  refine thn (hst.run pins s3 σ H3 (fun o H4 => o = some (n : Int) ∧ H4 = H3) I3 ⟨(n : Int), rfl, rfl, rfl⟩) fun vs s4 w4 => ?_
  obtain ⟨o, H4, I4, ps, rfl, rfl⟩ := w4
  have I5 : Inv X pins σ H4 { s4 with heap := s4.heap.push { cls := .type "slice", data := .fields #[vl, vu, vs] } } := I4.kept (t' := s4.toks) fun b ob q => Heap.get?_push_of_some _ q
  obtain ⟨its, r, ht, hz⟩ := I5.list hx
  have hlen := r.length
  show wpAny (model X.prog X.w) X.A (subscriptTail e (.Slice none none (some (.Constant (.int (n : Int)) k p1)) p3) (.ref a) (.ref s4.heap.objs.size)) (EP X pins σ Q) X.xe { s4 with heap := s4.heap.push { cls := .type "slice", data := .fields #[vl, vu, vs] } }
  refine tail_any (ops := [.ref a, .ref s4.heap.objs.size]) ht.isList.typeIs (PySem.slot_list_getitem.lookup) ?_ (by with_unfolding_all rfl)
  refine wpAny_getItem_list_slice ht.isList (Heap.IsSliceOf.new _ vl vu vs) pl pu ps (fun z => h0 (Option.some.inj z)) ?_ (by rw [List.size_toArray]; omega)
  have hz2 := slicePick_size_le its.toArray none none (some (n : Int))
  have ep : slicePick its.toArray none none (some (n : Int)) = ((sliceRange (sliceBounds none none (some (n : Int)) its.toArray.size).1 (sliceBounds none none (some (n : Int)) its.toArray.size).2.1 (sliceBounds none none (some (n : Int)) its.toArray.size).2.2).filterMap (its[·]?)).toArray := by
    unfold slicePick
    simp
  rw [ep] at hz2 ⊢
  generalize sliceRange (sliceBounds none none (some (n : Int)) its.toArray.size).1 (sliceBounds none none (some (n : Int)) its.toArray.size).2.1 (sliceBounds none none (some (n : Int)) its.toArray.size).2.2 = idx at hz2 ⊢
  have rv := vals_pick r idx
  rw [List.size_toArray, List.size_toArray] at hz2
  refine ⟨.ref _, _, I5.laid (t' := s4.toks) (o := .lst (idx.filterMap (xs[·]?))) (fun b ob q => Heap.get?_push_of_some _ q) (Nat.le_refl _) ?_, rfl, q _ _ (I5.hok.fresh (Nat.le_refl _)) fun y hy => pick_mem hy⟩
  exact ⟨by rw [rv.length]; omega, _, 0, rv, Heap.get?_push_size _ rfl⟩
/-! ### an own comparison asked of any value -/
def rCmpX (K : PySem.W.Frag) (op : CmpOp) (g : Addr) (sp : Sp) (E : XK) : R2 := fun x y H Q => ∃ (p C dx : Addr) (fs : List (Str × V)) (t : Value), x = .ref p ∧ H p = some (.ins C dx fs) ∧ TyX K H y t ∧ Cmp1 K op C g ∧ PySem.W.notFirst K C t = true ∧ sp [.ref p, y] H Q E
section
variable {X : Cx} {CX : CXT} {k : Nat} {g : Addr} {sp : Sp} {E : XK}
theorem rc_ownX {o : CmpOp} (hu : X.A.units < cLine) (F : FnR X.prog X.w X.K X.mg X.base CX k g sp) (hr : Room k X.A) (hx : Passes CX X E) : OpR X (richCompare o) (rCmpX X.K o g sp E) := by
  intro pins s σ H x y v u Q I rx ry h
  obtain ⟨p, C, dx, fs, t, rfl, ep, ty, c1, nf, hq⟩ := h
  obtain rfl : v = Value.ref p := rx
  obtain ⟨ox, od, J, _⟩ := StX.insC_at I (.inr ⟨dx, fs, ep⟩)
  obtain ⟨P, kx, pS, _⟩ := kit_of I ry ty
  obtain ⟨mm, fr⟩ := I.fr
  exact PySem.W.cmp_K hu fr I.ok.mod.kin J (kx.ty (model X.prog X.w) s.heap I.kIn pS) nf c1.at_ c1.fn (run_own F hr hx I (us := [.ref p, u]) (vs := [.ref p, y]) (.cons rfl (.cons ry .nil)) hq)
theorem op_ownEqX (hu : X.A.units < cLine) (F : FnR X.prog X.w X.K X.mg X.base CX k g sp) (hr : Room k X.A) (hx : Passes CX X E) : OpR X (compareOp .Eq) (rCmpX X.K .Eq g sp E) := fun pins s σ H x y v u Q I rx ry h => PySem.W.cmp_ofEq (rc_ownX hu F hr hx pins s σ H x y v u Q I rx ry h)
theorem op_ownEqXK {K : PySem.W.Frag} (hK : X.K = K) (hu : X.A.units < cLine) (F : FnR X.prog X.w X.K X.mg X.base CX k g sp) (hr : Room k X.A) (hx : Passes CX X E) : OpR X (compareOp .Eq) (rCmpX K .Eq g sp E) := by
  subst hK
  exact op_ownEqX hu F hr hx
/-! ### str(o) -/
structure Str1 (K : PySem.W.Frag) (C g : Addr) : Prop where
  at_ : PySem.W.findIn K (.ref C) "__str__" = some (some (.ref g))
  fn : PySem.W.isFn K (.ref g) = true
def rStrO (K : PySem.W.Frag) (g : Addr) (sp : Sp) (E : XK) : List V → Hp → VK → Prop := fun xs H Q => ∃ (a C dx : Addr) (fs : List (Str × V)), xs = [.ref a] ∧ H a = some (.ins C dx fs) ∧ Str1 K C g ∧ sp [.ref a] H (fun v H' => ∃ z : Str, v = .str z ∧ Q (.str z) H') E
theorem call_strO (hu : X.A.units + 2 < cLine) (F : FnR X.prog X.w X.K X.mg X.base CX k g sp) (hr : Room (k + 2) X.A) (hx : Passes CX X E) : CallR X (.type "str") (rStrO X.K g sp E) := by
  intro pins s σ H xs us Q I r h
  obtain ⟨a, C, dx, fs, rfl, ea, c, hq⟩ := h
  obtain rfl := Vals.ref1 r
  obtain ⟨ox, od, J, _⟩ := StX.insC_at I (.inr ⟨dx, fs, ea⟩)
  refine PySem.W.kso_call (by simpa using hu) I.kIn J c.at_ c.fn ?_
  refine wpAny_call (codeAny_mono (F X.A.in1.in1 X.stack s H [.ref a] [.ref a] _ E hr.in1.in1 I.env0.in1.in1 (.cons rfl .nil) hq) fun r s' hq => ?_)
  cases r with
  | error er => exact hx pins σ H s er s' I hq
  | ok fl =>
    cases fl with
    | ret u =>
      obtain ⟨v, H', I', rv, z, rfl, q2⟩ := I.after hq
      obtain ⟨t, rfl⟩ := rv
      exact ⟨.str z, H', I', ⟨t, rfl⟩, q2⟩
    | next => exact False.elim hq
    | brk => exact False.elim hq
    | cont => exact False.elim hq
end
end OwR
end
section
/-! Own: a != b, b of any class. -/
namespace OwR
open PySem PySem.Spec PyProof.Rows L2
def rNeX (K : PySem.W.Frag) (g : Addr) (sp : Sp) (E : XK) : R2 := fun x y H Q => ∃ (p C dx : Addr) (fs : List (Str × V)) (t : Value), x = .ref p ∧ H p = some (.ins C dx fs) ∧ TyX K H y t ∧ Ne1 K C g ∧ PySem.W.notFirst K C t = true ∧ sp [.ref p, y] H (fun v H' => ∃ c, v = .bl c ∧ Q (.bl (!c)) H') E
theorem op_ownNeX {X : Cx} {CX : CXT} {k : Nat} {g : Addr} {sp : Sp} {E : XK} (hu : X.A.units + 1 < cLine) (F : FnR X.prog X.w X.K X.mg X.base CX k g sp) (hr : Room (k + 1) X.A) (hx : Passes CX X E) : OpR X (compareOp .NotEq) (rNeX X.K g sp E) := by
  intro pins s σ H x y v u Q I rx ry h
  obtain ⟨p, C, dx, fs, t, rfl, ep, ty, c1, nf, hq⟩ := h
  obtain rfl : v = Value.ref p := rx
  obtain ⟨ox, od, J, _⟩ := StX.insC_at I (.inr ⟨dx, fs, ep⟩)
  obtain ⟨P, kx, pS, _⟩ := kit_of I ry ty
  refine PySem.W.cmp_ofNotEq (ne_K hu I.kIn J (kx.ty (model X.prog X.w) s.heap I.kIn pS) nf c1.obj c1.ne c1.eq c1.fn ?_)
  refine wpAny_mono (run_in (us := [.ref p, u]) (vs := [.ref p, y]) F hr hx I (.cons rfl (.cons ry .nil)) hq) (fun v s' z => ?_) fun _ _ z => z
  obtain ⟨x2, H2, I2, r2, c, rfl, z⟩ := z
  exact ⟨c, r2, .bl (!c), H2, I2, rfl, z⟩
end OwR
end
section
/-! a text == a dict, == an object with an own ==; x in o by an own __contains__. -/
namespace OwR
open PySem PySem.Spec PyProof.Rows L2
theorem str_no_plain (b : Str) (u : Tok) (l : Addr) (c : Value) (dd : Option Addr) (sl : Array (Option Value)) :
    Meets (Builtin.«str.__eq__» ⟨[.str b u, .ref l], []⟩) (fun _ R s => s.heap.get? l = some { cls := c, dict := dd, data := .plain, slots := sl } ∧ R (.ok (.ret .notImplemented)) s) :=
  .of_wp fun prog w A R s h => by obtain ⟨hp, g, d, tk, os⟩ := s; obtain ⟨hl, h⟩ := h; wp_walk using wpAny_loadPart' hl, wpAny_load hl; exact ⟨_, rfl, h⟩
theorem str_no_dict (b : Str) (u : Tok) (l : Addr) (c : Value) (es : Array DictEntry) (n : Nat) (dd : Option Addr) (sl : Array (Option Value)) :
    Meets (Builtin.«str.__eq__» ⟨[.str b u, .ref l], []⟩) (fun _ R s => s.heap.get? l = some { cls := c, dict := dd, data := .dict es n, slots := sl } ∧ R (.ok (.ret .notImplemented)) s) :=
  .of_wp fun prog w A R s h => by obtain ⟨hp, g, d, tk, os⟩ := s; obtain ⟨hl, h⟩ := h; wp_walk using wpAny_loadPart' hl, wpAny_load hl; exact ⟨_, rfl, h⟩
section
variable {prog : Program} {w : World} {A : Around} {E : Value → Shared → Prop} {s : Shared} {K : PySem.W.Frag} {x C f : Addr} {ox : Obj} {od : Option Obj} {z : Str} {t : Tok}
theorem rc_strOwn {Q : Value → Shared → Prop} (hu : A.units < cLine) (X : K.In s.heap) (I : PySem.W.InstAt s.heap x ox C od) (hd : ox.data = .plain) (sub : PySem.W.subIn K (.ref C) (.type "str") = some false)
    (eq : PySem.W.findIn K (.ref C) "__eq__" = some (some (.ref f))) (fn : PySem.W.isFn K (.ref f) = true) (h : wpAny (model prog w) A (call (.ref f) [.ref x, .str z t]) (PySem.W.CmpBack Q) E s) :
    wpAny (model prog w) A (richCompare .Eq (.str z t) (.ref x)) Q E s := by
  have one : wpAny (model prog w) A (tryCompare (.ref x) "__eq__" (.str z t)) (fun r s' => ∃ v, r = some v ∧ Q v s') E s := by
    unfold tryCompare
    refine wpAny_bind (PySem.W.ifBound_K X I eq fn (wpAny_mono h (fun v s' hv => ?_) fun _ _ e => e))
    cases v <;> first | exact hv.elim | exact wpAny_pure ⟨_, rfl, hv⟩
  have ta : s.TypeIs (.str z t) "str" := typeIs_str s z t
  have no : wpAny (model prog w) A (call (.builtin "str.__eq__") [.str z t, .ref x]) (fun v s' => v = .notImplemented ∧ s' = s) E s := by
    obtain ⟨cls, dd, data, sl⟩ := ox
    have hd : data = .plain := hd
    subst hd
    exact call_meets F.slot_str_eq ta F.entry_str_eq (F.args_str_eq_2 _ _) (str_no_plain z t x cls dd sl) ⟨I.at_, rfl, rfl⟩
  rcases hi : cmpInfo CmpOp.Eq with ⟨sym, f1, r1⟩
  have h1 := F.slot_str_eq
  have e2 : r1 = "__eq__" := by cases hi; rfl
  rw [hi] at h1
  subst e2
  simp only [richCompare, hi, ta.oneThing_none]
  refine wpAny_holding (wpAny_bind (wpAny_cRoomFor hu ?_))
  refine wpAny_bind (wpAny_typeOf ta (wpAny_bind (I.type.here ?_)))
  simp only [show (Value.type "str" != Value.ref C) = true from rfl, if_true]
  refine wpAny_bind ((PySem.W.looks_subIn X sub).here ?_)
  simp only [Bool.false_eq_true, if_false, Bool.not_false, if_true]
  refine wpAny_bind (m := tryCompare (.str z t) _ (.ref x)) (wpAny_tryCompare_declines ta h1 (wpAny_mono no (fun v s1 h1 => ⟨h1.1, ?_⟩) fun _ _ x => x))
  obtain ⟨_, rfl⟩ := h1
  refine wpAny_bind (wpAny_mono one (fun r s' q => ?_) fun _ _ e => e)
  obtain ⟨v, rfl, hq⟩ := q
  exact wpAny_pure hq
theorem sub_str_dict : isSubtype (.type "str") (.type "dict") = pure false := by rw [isSubtype_type]; kernel_rfl
theorem rc_strDict {l : Addr} {o : Obj} {es : Array DictEntry} {n : Nat} {Q : Value → Shared → Prop} (hu : A.units < cLine) (ho : s.heap.get? l = some o) (hc : o.cls = .type "dict") (hd : o.data = .dict es n) (h : Q (.bool false) s) : wpAny (model prog w) A (richCompare .Eq (.str z t) (.ref l)) Q E s := by
  obtain ⟨cls, dd, data, sl⟩ := o
  have hc : cls = .type "dict" := hc
  have hd : data = .dict es n := hd
  subst hc hd
  have tb : s.TypeIs (.ref l) "dict" := ⟨_, ho, rfl⟩
  exact PySem.SeqAt.rc_eq_decline_or (k := false) (typeIs_str s z t) tb (by decide) F.sub_dict_str F.slot_str_eq F.slot_dict_eq_refl
    (fun _ hq => call_meets F.slot_str_eq (typeIs_str s z t) F.entry_str_eq (F.args_str_eq_2 _ _) (str_no_dict z t l (.type "dict") es n dd sl) ⟨ho, hq⟩)
    (fun _ hq => by
      refine wpAny_call_entry F.slot_dict_eq_refl tb F.entry_dict_eq ?_ (F.args_dict_eq_2 _ _)
      show wpAny _ _ (Builtin.Dict.dictSlotArgs "__eq__" ⟨[.ref l, .str z t], []⟩ >>= _) _ _ s
      refine wpAny_bind ?_
      unfold Builtin.Dict.dictSlotArgs
      refine wpAny_bind (wpAny_notOrdered_dict tb ?_)
      show wpAny _ _ (pure (Value.ref l, Value.str z t)) _ _ s
      refine wpAny_pure ?_
      refine wpAny_bind (wpAny_isInstance (T := "str") (typeIs_str s z t) sub_str_dict ?_)
      simp only [Bool.not_false, if_true]
      exact wpAny_bind (wpAny_rule (wpAny_bind (wpAny_pure (wpAny_pure ⟨_, rfl, hq⟩)))))
    (fun _ hq => wpAny_of_eq (rfl : isSame (.str z t) (.ref l) = pure false) hq) (.inr hu) h
end
/-! ### the rules -/
structure StrEq (K : PySem.W.Frag) (C g : Addr) : Prop where
  sub : PySem.W.subIn K (.ref C) (.type "str") = some false
  at_ : PySem.W.findIn K (.ref C) "__eq__" = some (some (.ref g))
  fn : PySem.W.isFn K (.ref g) = true
/-- a text == anything: data, a dict, an object with an own == -/
def rStrAny (K : PySem.W.Frag) (g : Addr) (sp : Sp) (E : XK) : R2 := fun x y H Q => rEqD K x y H Q ∨ (∃ (z : Str) (a : Addr) (kvs : List (Key × V)), x = .str z ∧ y = .ref a ∧ H a = some (.dK kvs) ∧ Q (.bl false) H) ∨
  ∃ (z : Str) (p C dx : Addr) (fs : List (Str × V)), x = .str z ∧ y = .ref p ∧ H p = some (.ins C dx fs) ∧ StrEq K C g ∧ sp [.ref p, x] H Q E
structure In1 (K : PySem.W.Frag) (C g : Addr) : Prop where
  at_ : PySem.W.findIn K (.ref C) "__contains__" = some (some (.ref g))
  fn : PySem.W.isFn K (.ref g) = true
def rInO (K : PySem.W.Frag) (g : Addr) (sp : Sp) (E : XK) : R2 := fun x y H Q => ∃ (p C dx : Addr) (fs : List (Str × V)), y = .ref p ∧ H p = some (.ins C dx fs) ∧ In1 K C g ∧ sp [.ref p, x] H (fun v H' => ∃ c, v = .bl c ∧ Q (.bl c) H') E
section
variable {X : Cx} {CX : CXT} {k : Nat} {g : Addr} {sp : Sp} {E : XK}
theorem op_strAny {K : PySem.W.Frag} (hK : X.K = K) (hu : X.A.units + 64 < cLine) (F : FnR X.prog X.w X.K X.mg X.base CX k g sp) (hr : Room k X.A) (hx : Passes CX X E) : OpR X (compareOp .Eq) (rStrAny K g sp E) := by
  subst hK
  intro pins s σ H x y v u Q I rx ry h
  have hu0 : X.A.units < cLine := by omega
  rcases h with h | ⟨z, a, kvs, rfl, rfl, ea, q⟩ | ⟨z, p, C, dx, fs, rfl, rfl, ep, c, hq⟩
  · exact op_eqD hu pins s σ H x y v u Q I rx ry h
  · obtain ⟨t, rfl⟩ := rx
    obtain rfl : u = Value.ref a := ry
    obtain ⟨_, _, vs, _, o, es, n, e1, e2, e3, _⟩ := (show ObjOk X.prog X.w H s.heap a (.dK kvs) from I.hok a _ ea)
    exact PySem.W.cmp_ofEq (rc_strDict hu0 e1 e2.1 e3 ⟨.bl _, H, I, rfl, q⟩)
  · obtain ⟨t, rfl⟩ := rx
    obtain rfl : u = Value.ref p := ry
    obtain ⟨ox, od, J, hd⟩ := StX.insC_at I (.inr ⟨dx, fs, ep⟩)
    exact PySem.W.cmp_ofEq (rc_strOwn hu0 I.kIn J hd c.sub c.at_ c.fn (run_own F hr hx I (us := [.ref p, .str z t]) (vs := [.ref p, .str z]) (.cons rfl (.cons ⟨t, rfl⟩ .nil)) hq))
theorem op_inO (F : FnR X.prog X.w X.K X.mg X.base CX k g sp) (hr : Room k X.A) (hx : Passes CX X E) : OpR X (compareOp .In) (rInO X.K g sp E) := by
  intro pins s σ H x y v u Q I rx ry h
  obtain ⟨p, C, dx, fs, rfl, ep, c, hq⟩ := h
  obtain rfl : u = Value.ref p := ry
  obtain ⟨ox, od, J, _⟩ := StX.insC_at I (.inr ⟨dx, fs, ep⟩)
  obtain ⟨mm, fr⟩ := I.fr
  refine PySem.W.in_K fr I.ok.mod.kin J c.at_ c.fn (wpAny_mono (wpAny_call (run_fnR F hr hx I (us := [.ref p, v]) (vs := [.ref p, x]) (.cons rfl (.cons rx .nil)) hq)) (fun r s' q => ?_) fun _ _ q => q)
  obtain ⟨y2, H2, I2, r2, b, rfl, q⟩ := q
  cases (show r = Value.bool b from r2)
  exact wpAny_pure ⟨.bl b, H2, I2, rfl, q⟩
end
end OwR
end
section
/-! a def that wants no guard, called by name; repr of a number or None. -/
namespace OwR
open PySem PySem.Spec PyProof.Rows L2
section
variable {X : Cx} {CX : CXT} {k : Nat} {f : Addr} {fd : FuncData} {ps : List Str} {sp : Sp} {E : XK} {x : Str} {p pos : Pos} {e : Expr} {es : List Expr} {t : TA}
theorem run_fnG {pins : List (Addr × Obj)} {σ : L2.St} {H : Hp} {s : Shared} {Q : VK} {us : List Value} {vs : List V} (F : FnG X.prog X.w X.K X.mg X.base CX k f fd ps sp) (len : ∀ vs H Q E, sp vs H Q E → vs.length = ps.length) (hgd : X.A.guards = some []) (hr : Room k X.A) (hb : Binds X.K fd ps []) (hx : Passes CX X E)
    (I : Inv X pins σ H s) (r : Vals vs us) (h : sp vs H Q E) : wpAny (model X.prog X.w) X.A (call (.ref f) us) (EP X pins σ Q) X.xe s := by
  have hl : us.length = ps.length := by rw [← r.length]; exact len _ _ _ _ h
  have b := hb s us I.kIn (by rw [List.append_nil]; exact hl)
  rw [List.append_nil] at b
  refine wpAny_call (codeAny_mono (F X.A X.stack s H ⟨us, []⟩ us vs Q E hgd hr I.env0 b r h) fun r s' hq => ?_)
  cases r with
  | error e => exact hx pins σ H s e s' I hq
  | ok fl =>
    cases fl with
    | ret u => exact I.after hq
    | next => exact False.elim hq
    | brk => exact False.elim hq
    | cont => exact False.elim hq
theorem pe_callG (F : FnG X.prog X.w X.K X.mg X.base CX k f fd ps sp) (len : ∀ vs H Q E, sp vs H Q E → vs.length = ps.length) (hgd : X.A.guards = some []) (hr : Room k X.A) (hg : Gl X x) (hm : X.mg x = some (.ref f)) (hk : PySem.W.keepIn X.K (.ref f) = true) (hb : Binds X.K fd ps []) (hx : Passes CX X E)
    (ha : PA X (e :: es) t) (hdb : (x == ("__debug__" : Str)) = false := by decide) (he : starEach (e :: es) X.env = (false, eval e X.env) :: starEach es X.env := by rfl) (hpl : (backTo pos (starEach es X.env)).any (·.1) = false := by rfl) :
    PE X (.Call (.Name x p) (e :: es) [] pos) (tCall sp [] E t) := by
  refine ⟨fun pins s σ H Q I h => ?_⟩
  refine wpAny_Call_Name_kw (ld_glob I hg hm ?_ hdb)
  refine PySem.W.callWith_K (h₀ := X.base) I.ok.mod.kin hk (thn (ha.run pos pins s σ H _ I h) fun us s1 ⟨vs, H1, I1, r, q⟩ => ⟨I1.kIn, ?_⟩) he hpl
  have q : sp (vs ++ []) H1 Q E := q
  rw [List.append_nil] at q
  exact run_fnG F len hgd hr hb hx I1 r q
end
def reprI : Option Int → Str
  | none => "None"
  | some i => toString i
def rReprI : List V → Hp → VK → Prop := fun xs H Q => ∃ o : Option Int, xs = [match o with | none => V.non | some i => V.int i] ∧ (∀ i, o = some i → i.natAbs.log2 < 1920) ∧ Q (.str (reprI o)) H
/-- repr of a number or of None -/
theorem cr_reprI {X : Cx} : CallR X (.builtin "repr") rReprI := by
  intro pins s σ H xs us Q I r h
  obtain ⟨o, rfl, hz, q⟩ := h
  cases o with
  | none =>
    obtain ⟨u, rfl, rx⟩ := vals1 r
    cases (show u = Value.none from rx)
    exact call_repr_gives (typeIs_none s) F.slot_NoneType_repr F.entry_NoneType_repr (F.args_NoneType_repr_1 _) gives_none_repr ⟨.str _, H, I.tok _, ⟨_, rfl⟩, q⟩
  | some i => exact SkE.call_repr_int pins s σ H _ us Q I r ⟨i, rfl, hz i rfl, q⟩
end OwR
end
section
/-! Lists and tuples of own objects beside one another: the == of each two of the same place, in whatever state of a kind. Own. -/
namespace OwR
open PySem PySem.Spec PyProof.Rows L2
section
variable {prog : Program} {w : World}
/-- == of two values in every state of a kind, to a state of that kind -/
def EqJ (prog : Program) (w : World) (A : Around) (J : Shared → Prop) (x y : Value) (b : Bool) : Prop := ∀ s, J s → ∀ (E : Value → Shared → Prop) (Q : Bool → Shared → Prop), (∀ s', J s' → Q b s') → wpAny (model prog w) A (eqBool x y) Q E s
theorem EqJ.same {A : Around} {J : Shared → Prop} {x : Value} (h : (x == x) = true) : EqJ prog w A J x x true := fun s hs E Q q => by
  unfold eqBool
  refine wpAny_holding ?_
  rw [if_pos h]
  exact wpAny_bind (wpAny_rule (wpAny_pure (q s hs)))
theorem EqJ.refs {A : Around} {J : Shared → Prop} {l b : Addr} {k : Bool} (ne : l ≠ b) (h : ∀ s, J s → ∀ (E Q : Value → Shared → Prop), (∀ s', J s' → Q (.bool k) s') → wpAny (model prog w) A (richCompare .Eq (.ref l) (.ref b)) Q E s) : EqJ prog w A J (.ref l) (.ref b) k := fun s hs E Q q => by
  unfold eqBool
  refine wpAny_holding ?_
  rw [if_neg (by simp [ne])]
  refine wpAny_bind (h s hs E _ fun s' hs' => ?_)
  exact wpAny_pure (q s' hs')
theorem ls {A : Around} {E : Value → Shared → Prop} {s : Shared} {a : Addr} {xs : Array Value} {Q : Array Value → Shared → Prop} (h : s.heap.IsList a xs) (q : Q xs s) : wpAny (model prog w) A (Builtin.List.listItems (.ref a)) Q E s := by
  obtain ⟨⟨cls, dd, data, sl⟩, ho, hc, n, hd⟩ := h
  cases hc
  cases hd
  unfold Builtin.List.listItems seqItems?
  exact wpAny_bind (wpAny_bind (wpAny_load ho (wpAny_pure (wpAny_pure q))))
theorem ne_loopJ (l b : Addr) (items items2 : Array Value) (hsz : items.size = items2.size) (e : Nat → Bool) (J : Shared → Prop) (hl : ∀ s, J s → s.heap.IsList l items) (hb : ∀ s, J s → s.heap.IsList b items2) :
    ∀ (k i : Nat), items.size - i = k → MeetsIn prog w (Builtin.«list.__eq__.loop» ⟨[.ref l, .ref b, rawInt i, rawInt 3], []⟩) fun A R s => J s ∧ (∀ (j : Nat) (h1 : j < items.size) (h2 : j < items2.size), EqJ prog w A.in1 J items[j] items2[j] (e j)) ∧
      ∀ s', J s' → R (.ok (.ret (.bool (!((List.range items.size).drop i).all e)))) s' := by
  intro k
  induction k with
  | zero =>
    intro i hk A R s h
    obtain ⟨hs, he, h⟩ := h
    show wpAny _ _ (Builtin.List.listItems (.ref l) >>= _) _ _ _
    refine wpAny_bind (ls (hl s hs) (wpAny_bind (ls (hb s hs) ?_)))
    have hi1 : items[((i : Nat) : Int).toNat]? = none := by
      rw [Int.toNat_natCast, Array.getElem?_eq_none_iff]
      omega
    have hi2 : items2[((i : Nat) : Int).toNat]? = none := by
      rw [Int.toNat_natCast, Array.getElem?_eq_none_iff]
      omega
    have hd : (List.range items.size).drop i = [] := by
      rw [List.drop_eq_nil_iff, List.length_range]
      omega
    rw [hd] at h
    rw [hi1, hi2]
    refine wpAny_bind (ls (hl s hs) (wpAny_bind (ls (hb s hs) ?_)))
    have es : ∀ (n m : Nat), n = m → (n != m) = false := fun n m e => by simp [e]
    refine wpAny_pure ?_
    have h := h s hs
    show R (.ok (.ret (.bool (items.size != items2.size)))) s
    rw [es _ _ hsz]
    exact h
  | succ k ih =>
    intro i hk A R s h
    obtain ⟨hs, he, h⟩ := h
    have hlt : i < items.size := by omega
    have hlt2 : i < items2.size := by omega
    show wpAny _ _ (Builtin.List.listItems (.ref l) >>= _) _ _ _
    refine wpAny_bind (ls (hl s hs) (wpAny_bind (ls (hb s hs) ?_)))
    have hi1 : items[((i : Nat) : Int).toNat]? = some items[i] := by
      rw [Int.toNat_natCast, Array.getElem?_eq_getElem hlt]
    have hi2 : items2[((i : Nat) : Int).toNat]? = some items2[i] := by
      rw [Int.toNat_natCast, Array.getElem?_eq_getElem hlt2]
    have hd : (List.range items.size).drop i = i :: (List.range items.size).drop (i + 1) := by
      rw [List.drop_eq_getElem_cons (by rw [List.length_range]; exact hlt), List.getElem_range]
    rw [hd] at h
    rw [hi1, hi2]
    refine wpAny_bind (he i hlt hlt2 s hs _ _ fun s' hs' => ?_)
    cases ei : e i with
    | true =>
      refine wpAny_ite_true rfl ?_
      refine wpAny_pure ⟨plainId_quiet MeetsSeq3.plain_eq_loop _, codeAny_builtin MeetsSeq3.entry_eq_loop ?_⟩
      rw [Around.under_plainId MeetsSeq3.plain_eq_loop _]
      refine ih (i + 1) (by omega) A R s' ⟨hs', he, fun s2 hs2 => ?_⟩
      have h := h s2 hs2
      rw [List.all_cons, ei, Bool.true_and] at h
      exact h
    | false =>
      refine wpAny_ite_false rfl ?_
      refine wpAny_bind (ls (hl s' hs') (wpAny_bind (ls (hb s' hs') ?_)))
      rw [hi1, hi2]
      refine wpAny_pure ?_
      have h := h s' hs'
      rw [List.all_cons, ei, Bool.false_and] at h
      exact h
theorem list_neJ (l b : Addr) (items items2 : Array Value) (hsz : items.size = items2.size) (e : Nat → Bool) (J : Shared → Prop) (hl : ∀ s, J s → s.heap.IsList l items) (hb : ∀ s, J s → s.heap.IsList b items2) :
    MeetsIn prog w (Builtin.«list.__ne__» ⟨[.ref l, .ref b], []⟩) fun A R s => J s ∧ (∀ (j : Nat) (h1 : j < items.size) (h2 : j < items2.size), EqJ prog w A.in1 J items[j] items2[j] (e j)) ∧ ∀ s', J s' → R (.ok (.ret (.bool (!(List.range items.size).all e)))) s' := fun A R s h => by
  obtain ⟨hs, he, h⟩ := h
  have hl0 := hl s hs
  have hb0 := hb s hs
  have loop := ne_loopJ (prog := prog) (w := w) l b items items2 hsz e J hl hb items.size 0 rfl A R s ⟨hs, he, h⟩
  obtain ⟨⟨cls, dd, data, sl⟩, ho, hc, n, hd⟩ := hb s hs
  cases hc
  cases hd
  obtain ⟨hp, g, d, tk, os⟩ := s
  have f3 := AutoSeq1.sub_list_list
  have hne : ¬ ((items.size != items2.size) = true) := by simp [hsz]
  unfold Builtin.«list.__ne__»
  refine wpAny_bind ?_
  rw [show slotArgs "__ne__" 1 ⟨[.ref l, .ref b], []⟩ = pure (.ref l, [.ref b]) from rfl]
  refine wpAny_pure (wpAny_bind (wpAny_bind (wpAny_bind (wpAny_loadPart' ho (wpAny_pure (wpAny_of_eq f3 ?_))))))
  refine wpAny_ite_false rfl (wpAny_ite_true rfl ?_)
  refine wpAny_bind (ls hl0 (wpAny_bind (ls hb0 (wpAny_ite_false (decide_eq_false hne) ?_))))
  refine wpAny_pure ⟨plainId_quiet MeetsSeq3.plain_eq_loop _, codeAny_builtin MeetsSeq3.entry_eq_loop ?_⟩
  rw [Around.under_plainId MeetsSeq3.plain_eq_loop _]
  exact loop
theorem rcJ_lists_ne {A : Around} {s : Shared} {E Q : Value → Shared → Prop} {l b : Addr} {items items2 : Array Value} {e : Nat → Bool} {J : Shared → Prop} (hl : ∀ s, J s → s.heap.IsList l items) (hb : ∀ s, J s → s.heap.IsList b items2) (hsz : items.size = items2.size) (hu : A.units < cLine) (hs : J s)
    (he : ∀ (j : Nat) (h1 : j < items.size) (h2 : j < items2.size), EqJ prog w A.in1 J items[j] items2[j] (e j)) (h : ∀ s', J s' → Q (.bool (!(List.range items.size).all e)) s') : wpAny (model prog w) A (richCompare .NotEq (.ref l) (.ref b)) Q E s := by
  have t1 : s.TypeIs (.ref l) "list" := by
    obtain ⟨ob, ho, hc, _⟩ := hl s hs
    exact ⟨ob, ho, hc⟩
  have t2 : s.TypeIs (.ref b) "list" := by
    obtain ⟨ob, ho, hc, _⟩ := hb s hs
    exact ⟨ob, ho, hc⟩
  exact wpAny_richCompare_same_room t1 t2 F.slot_list_ne (call_meetsIn F.slot_list_ne t1 F.entry_list_ne (F.args_list_ne_2 (Value.ref l) (Value.ref b)) (list_neJ l b items items2 hsz e J hl hb) ⟨hs, he, fun s' hs' => ⟨(fun x => nomatch x), h s' hs'⟩⟩) hu
end
/-! ### lists of own objects -/
section
variable {X : Cx} {k : Nat} {g : Addr} {sp : Sp} {pins : List (Addr × Obj)} {σ : L2.St} {H : Hp}
theorem eqJ_own {r t C D dx dy : Addr} {fs gs : List (Str × V)} {b : Bool} (F : FnR X.prog X.w X.K X.mg X.base CX0 k g sp) (hr : Room (k + 1) X.A) (hu : X.A.units + 1 < cLine) (ne : r ≠ t) (er : H r = some (.ins C dx fs)) (et : H t = some (.ins D dy gs)) (c : Cmp1 X.K .Eq C g) (nf : PySem.W.notFirst X.K C (.ref D) = true)
    (h : sp [.ref r, .ref t] H (fun v H' => v = .bl b ∧ H' = H) E0) : EqJ X.prog X.w X.A.in1 (Inv X pins σ H) (.ref r) (.ref t) b := EqJ.refs ne fun s I E Q q => by
  obtain ⟨ox, od, J, _⟩ := StX.insC_at I (.inr ⟨dx, fs, er⟩)
  obtain ⟨oy, oe, J2, _⟩ := StX.insC_at I (.inr ⟨dy, gs, et⟩)
  obtain ⟨mm, fr⟩ := I.fr
  refine PySem.W.cmp_K (by simpa using hu) fr I.ok.mod.kin J J2.type nf c.at_ c.fn ?_
  refine wpAny_call (codeAny_mono (F X.A.in1 X.stack s H [.ref r, .ref t] [.ref r, .ref t] _ E0 hr.in1 I.env0.in1 (.cons rfl (.cons rfl .nil)) h) fun r s' hq => ?_)
  cases r with
  | error er => exact False.elim hq
  | ok fl =>
    cases fl with
    | ret u =>
      obtain ⟨v, H', I', rv, rfl, rfl⟩ := I.after hq
      obtain rfl : u = Value.bool b := rv
      exact q s' I'
    | next => exact False.elim hq
    | brk => exact False.elim hq
    | cont => exact False.elim hq
/-- the == of each two of the same place -/
def AllEq (K : PySem.W.Frag) (g : Addr) (sp : Sp) (H : Hp) (rs ts : List Addr) (e : Nat → Bool) : Prop := ∀ (j : Nat) (r t : Addr), rs[j]? = some r → ts[j]? = some t → (r = t ∧ e j = true) ∨ (r ≠ t ∧ ∃ (C D dx dy : Addr) (fs gs : List (Str × V)), H r = some (.ins C dx fs) ∧ H t = some (.ins D dy gs) ∧ Cmp1 K .Eq C g ∧ PySem.W.notFirst K C (.ref D) = true ∧ sp [.ref r, .ref t] H (fun v H' => v = .bl (e j) ∧ H' = H) E0)
theorem refs_vals : ∀ {rs : List Addr} {its : List Value}, Vals (rs.map V.ref) its → its = rs.map Value.ref
  | [], _, .nil => rfl
  | r :: rs, _, .cons e t => by rw [show _ = Value.ref r from e, refs_vals t]; rfl
def rNeOwn (K : PySem.W.Frag) (g : Addr) (sp : Sp) : R2 := fun x y H Q => ∃ (a b : Addr) (rs ts : List Addr) (e : Nat → Bool), x = .ref a ∧ y = .ref b ∧ SqL K H a (rs.map V.ref) ∧ SqL K H b (ts.map V.ref) ∧ rs.length = ts.length ∧ AllEq K g sp H rs ts e ∧ Q (.bl (!(List.range rs.length).all e)) H
theorem op_neOwn (F : FnR X.prog X.w X.K X.mg X.base CX0 k g sp) (hr : Room (k + 1) X.A) (hu : X.A.units + 1 < cLine) : OpR X (compareOp .NotEq) (rNeOwn X.K g sp) := by
  intro pins s σ H x y v u Q I rx ry h
  obtain ⟨a, b, rs, ts, e, rfl, rfl, ha, hb, len, he, q⟩ := h
  obtain rfl : v = Value.ref a := rx
  obtain rfl : u = Value.ref b := ry
  show wpAny _ _ (richCompare .NotEq (.ref a) (.ref b)) _ _ _
  have li : ∀ {a : Addr} {rs : List Addr}, SqL X.K H a (rs.map V.ref) → ∀ s, Inv X pins σ H s → s.heap.IsList a (rs.map Value.ref).toArray := fun {a rs} ha s I => by
    obtain ⟨its, r1, h1, _⟩ := I.list ha
    rw [← refs_vals r1]
    exact h1.isList
  refine rcJ_lists_ne (li ha) (li hb) (by simp [len]) (by omega) I (e := e) (fun j h1 h2 => ?_) fun s' I' => ?_
  · have h1' : j < rs.length := by simpa using h1
    have h2' : j < ts.length := by simpa using h2
    have e1 : (rs.map Value.ref).toArray[j] = Value.ref rs[j] := by simp
    have e2 : (ts.map Value.ref).toArray[j] = Value.ref ts[j] := by simp
    rw [e1, e2]
    rcases he j rs[j] ts[j] (List.getElem?_eq_getElem h1') (List.getElem?_eq_getElem h2') with ⟨er, ej⟩ | ⟨ne, C, D, dx, dy, fs, gs, er, et, c, nf, hq⟩
    · rw [er, ej]
      exact EqJ.same (by simp)
    · exact eqJ_own F hr hu ne er et c nf hq
  · refine ⟨.bl _, H, I', rfl, ?_⟩
    have sz : (rs.map Value.ref).toArray.size = rs.length := by simp
    rw [sz]
    exact q
end
end OwR
end
section
/-! Own: operators of own classes beside values of any built-in type; x op= y where the class has no method for it; lists of the same things. -/
namespace OwR
open PySem PySem.Spec PyProof.Rows L2
/-- no class above has the method -/
def noIn (K : PySem.W.Frag) (C : Addr) (i : Str) : Bool := (PySem.W.clsIn K C).any fun cd => cd.mro.all fun c => decide (PySem.W.findIn K c i = some none)
theorem none_fills {M : Model} {K : PySem.W.Frag} {h : Heap} {C : Addr} {nm : String} {add : Bool} (X : K.In h) (n : noIn K C (dunderI nm) = true) : PySem.W.Looks M h (fillsInplaceSlot (.ref C) nm add) false := by
  unfold noIn at n
  cases hc : PySem.W.clsIn K C with
  | none => rw [hc] at n; cases n
  | some cd =>
    rw [hc] at n
    have all : ∀ c ∈ cd.mro, PySem.W.findIn K c (dunderI nm) = some none := fun c m => of_decide_eq_true (List.all_eq_true.mp n c m)
    intro A Q E s k q
    have Lm : PySem.W.Looks M h (mroOf (.ref C)) cd.mro := (PySem.W.looks_clsIn X hc).andThen (f := fun cd => pure cd.mro) .now
    have Lm2 := Lm.keeps k
    have walk : ∀ (l : List Value) (f : Value → Sem Bool) (Q : Bool → Shared → Prop), (∀ c ∈ l, ∀ Q : Bool → Shared → Prop, Q false s → wpAny M A (f c) Q E s) → Q false s → wpAny M A (l.anyM f) Q E s := fun l f => by
      induction l with
      | nil => exact fun Q _ q => wpAny_pure q
      | cons c r ih =>
        intro Q hf q
        rw [List.anyM_cons]
        refine wpAny_bind (hf c List.mem_cons_self _ ?_)
        exact ih _ (fun d m => hf d (List.mem_cons_of_mem _ m)) q
    unfold fillsInplaceSlot
    refine wpAny_bind (Lm2.here ?_)
    refine walk _ _ _ (fun c m Q' q' => ?_) q
    have L1 : PySem.W.Looks M s.heap (typeLookup c (dunderI nm)) none := PySem.W.looks_findIn (X.keeps k) (all c m)
    exact wpAny_bind (L1.here (wpAny_pure q'))
section
variable {prog : Program} {w : World} {A : Around} {E : Value → Shared → Prop} {s : Shared} {K : PySem.W.Frag} {x C f : Addr} {ox : Obj} {od : Option Obj} {nm : String} {b : Value} {Q : Value → Shared → Prop}
/-- the operator's own method, b of the same class -/
theorem bin1_same (X : K.In s.heap) (I : PySem.W.InstAt s.heap x ox C od) (hb : PySem.W.Looks (model prog w) s.heap (typeOf b) (.ref C)) (cC : PySem.W.selfFirst K C = true) (sC : PySem.W.findIn K (.ref C) (PySem.dunder nm) = some (some (.ref f))) (hf : PySem.W.isFn K (.ref f) = true)
    (h : wpAny (model prog w) A (call (.ref f) [.ref x, b]) (PySem.W.CmpBack Q) E s) : wpAny (model prog w) A (binaryOp1 nm (.ref x) b) (fun r s' => ∃ v, r = some v ∧ Q v s') E s := by
  obtain ⟨c1, r1, k1, m1⟩ := PySem.W.ksp_first cC
  have one := PySem.W.ksp_try X I sC hf h
  obtain ⟨hp, gs, dr, tk, os⟩ := s
  have L1 : PySem.W.Looks (model prog w) hp (typeOf (.ref x)) (.ref C) := I.type
  have L2 : PySem.W.Looks (model prog w) hp (typeOf b) (.ref C) := hb
  have L3 : PySem.W.Looks (model prog w) hp (fillsNumberSlot (.ref C) nm) true := PySem.W.fills_K X k1 m1 sC
  unfold binaryOp1
  refine wpAny_bind (L1.at (wpAny_bind (L2.at (wpAny_bind (L3.at ?_)))))
  simp only [BEq.rfl, if_true]
  ksp_lk
  refine wpAny_mono one (fun r s' q => ?_) fun _ _ e => e
  obtain ⟨v, rfl, hq⟩ := q
  ksp_lk
  exact ⟨v, rfl, hq⟩
/-- .. b of another type, which is not below C -/
theorem bin1_other {tb : Value} {right py : Bool} {rc ro : Option Value} (X : K.In s.heap) (I : PySem.W.InstAt s.heap x ox C od) (hb : PySem.W.Looks (model prog w) s.heap (typeOf b) tb) (ne : (Value.ref C == tb) = false) (cC : PySem.W.selfFirst K C = true) (sC : PySem.W.findIn K (.ref C) (PySem.dunder nm) = some (some (.ref f)))
    (rC : PySem.W.findIn K (.ref C) (dunderR nm) = some rc) (pC : rc = none ∨ ∃ g : Addr, rc = some (.ref g)) (fb : PySem.W.Looks (model prog w) s.heap (fillsNumberSlot tb nm) right) (sub : PySem.W.subIn K tb (.ref C) = some false) (pb : PySem.W.Looks (model prog w) s.heap (numberSlotInPython tb nm) py)
    (rb : PySem.W.findIn K tb (dunderR nm) = some ro) (hf : PySem.W.isFn K (.ref f) = true) (h : wpAny (model prog w) A (call (.ref f) [.ref x, b]) (PySem.W.CmpBack Q) E s) : wpAny (model prog w) A (binaryOp1 nm (.ref x) b) (fun r s' => ∃ v, r = some v ∧ Q v s') E s := by
  obtain ⟨c1, r1, k1, m1⟩ := PySem.W.ksp_first cC
  have one := PySem.W.ksp_try X I sC hf h
  obtain ⟨hp, gs, dr, tk, os⟩ := s
  have L1 : PySem.W.Looks (model prog w) hp (typeOf (.ref x)) (.ref C) := I.type
  have L2 : PySem.W.Looks (model prog w) hp (typeOf b) tb := hb
  have L3 : PySem.W.Looks (model prog w) hp (fillsNumberSlot (.ref C) nm) true := PySem.W.fills_K X k1 m1 sC
  have L4 : PySem.W.Looks (model prog w) hp (fillsNumberSlot tb nm) right := fb
  have L5 : PySem.W.Looks (model prog w) hp (isSubtype tb (.ref C)) false := PySem.W.looks_subIn X sub
  have L6 : PySem.W.Looks (model prog w) hp (numberSlotInPython (.ref C) nm) true := PySem.W.ksp_inPy X sC rC pC
  have L7 : PySem.W.Looks (model prog w) hp (numberSlotInPython tb nm) py := pb
  have L8 : PySem.W.Looks (model prog w) hp (typeLookup tb (dunderR nm)) ro := PySem.W.looks_findIn X rb
  unfold binaryOp1
  refine wpAny_bind (L1.at (wpAny_bind (L2.at (wpAny_bind (L3.at ?_)))))
  simp only [ne, Bool.false_eq_true, if_false]
  cases right <;> cases py <;>
    (ksp_lk
     refine wpAny_mono one (fun r s' q => ?_) fun _ _ e => e
     obtain ⟨v, rfl, hq⟩ := q
     ksp_lk
     exact ⟨v, rfl, hq⟩)
/-- a op b by binaryOp1 -/
theorem bin_of1 {op : Operator} (h : wpAny (model prog w) A (binaryOp1 op.info.2 (.ref x) b) (fun r s' => ∃ v, r = some v ∧ Q v s') E s) : wpAny (model prog w) A (binaryOp op (.ref x) b) Q E s := by
  rcases hi : op.info with ⟨sym, n⟩
  rw [hi] at h
  simp only [binaryOp, hi]
  refine wpAny_holding (wpAny_bind (wpAny_mono h (fun r s' q => ?_) fun _ _ e => e))
  obtain ⟨v, rfl, hq⟩ := q
  ksp_lk
  exact hq
/-- a op= b by binaryOp1 -/
theorem iop_of1 {op : Operator} (X : K.In s.heap) (I : PySem.W.InstAt s.heap x ox C od) (n : noIn K C (dunderI op.info.2) = true) (h : wpAny (model prog w) A (binaryOp1 op.info.2 (.ref x) b) (fun r s' => ∃ v, r = some v ∧ Q v s') E s) : wpAny (model prog w) A (inplaceOp op (.ref x) b) Q E s := by
  have L1 : PySem.W.Looks (model prog w) s.heap (typeOf (.ref x)) (.ref C) := I.type
  have L2 : PySem.W.Looks (model prog w) s.heap (fillsInplaceSlot (.ref C) op.info.2 (op == .Add)) false := none_fills X n
  unfold inplaceOp
  refine wpAny_holding (wpAny_bind (L1.here (wpAny_bind (L2.here ?_))))
  simp only [Bool.false_eq_true, if_false]
  refine wpAny_bind (wpAny_mono h (fun r s' q => ?_) fun _ _ e => e)
  obtain ⟨v, rfl, hq⟩ := q
  ksp_lk
  exact hq
end
/-- a value's built-in type -/
inductive TyB (H : Hp) : V → String → Prop where
  | sc {y : V} {T : String} (h : tyS y = some T) : TyB H y T
  | lst {a : Addr} {xs : List V} (e : H a = some (.lst xs)) : TyB H (.ref a) "list"
  | tup {a : Addr} {xs : List V} (e : H a = some (.tup xs)) : TyB H (.ref a) "tuple"
  | dic {a : Addr} {kvs : List (Key × V)} (e : H a = some (.dK kvs)) : TyB H (.ref a) "dict"
section
variable {X : Cx} {CX : CXT} {k : Nat} {g : Addr} {sp : Sp} {E : XK} {op : Operator}
theorem TyB.looks {pins : List (Addr × Obj)} {σ : L2.St} {H : Hp} {s : Shared} {y : V} {u : Value} {T : String} {M : Model} (t : TyB H y T) (I : Inv X pins σ H s) (r : RelV y u) : PySem.W.Looks M s.heap (typeOf u) (.type T) := by
  have byRef : ∀ {a : Addr} {o : Obj}, s.heap.get? a = some o → o.cls = .type T → PySem.W.Looks M s.heap (typeOf (.ref a)) (.type T) := fun {a o} e c A Q E s k q => wpAny_typeOf_ref (k _ _ e) (by rw [c]; exact q)
  cases t with
  | sc h => exact PySem.W.Looks.of_pure (tyS_of r h)
  | @lst a xs e =>
    obtain rfl : u = Value.ref a := r
    obtain ⟨_, its, n, _, h1⟩ := (show ObjOk X.prog X.w H s.heap a (.lst xs) from I.hok a _ e)
    exact byRef h1 rfl
  | @tup a xs e =>
    obtain rfl : u = Value.ref a := r
    obtain ⟨_, its, _, ob, h1, c, _⟩ := (show ObjOk X.prog X.w H s.heap a (.tup xs) from I.hok a _ e)
    exact byRef h1 c
  | @dic a kvs e =>
    obtain rfl : u = Value.ref a := r
    obtain ⟨_, _, vs, _, ob, es, ep, h1, c, _⟩ := (show ObjOk X.prog X.w H s.heap a (.dK kvs) from I.hok a _ e)
    exact byRef h1 c.1
def rOwnB (K : PySem.W.Frag) (op : Operator) (g : Addr) (sp : Sp) (E : XK) : R2 := fun x y H Q => ∃ (p C dx : Addr) (fs : List (Str × V)) (T : String), x = .ref p ∧ H p = some (.ins C dx fs) ∧ TyB H y T ∧ Bin1 K op C g ∧ BinT K op C T ∧ sp [.ref p, y] H Q E
theorem one_B {pins : List (Addr × Obj)} {σ : L2.St} {H : Hp} {s : Shared} {Q : VK} {p C dx : Addr} {fs : List (Str × V)} {T : String} {y : V} {u : Value} (F : FnR X.prog X.w X.K X.mg X.base CX k g sp) (hr : Room k X.A) (hx : Passes CX X E) (I : Inv X pins σ H s) (ep : H p = some (.ins C dx fs)) (ty : TyB H y T) (b1 : Bin1 X.K op C g) (bT : BinT X.K op C T) (ry : RelV y u) (hq : sp [.ref p, y] H Q E) :
    wpAny (model X.prog X.w) X.A (binaryOp1 op.info.2 (.ref p) u) (fun r s' => ∃ v, r = some v ∧ EP X pins σ Q v s') X.xe s := by
  obtain ⟨ox, od, J, _⟩ := StX.insC_at I (.inr ⟨dx, fs, ep⟩)
  obtain ⟨rc, e1, e2⟩ := b1.refl
  obtain ⟨fo, e3⟩ := bT.f
  obtain ⟨ro, e4⟩ := bT.r
  exact bin1_other I.kIn J (ty.looks I ry) (Bool.eq_false_iff.mpr fun q => by cases beq_iff_eq.mp q) b1.self b1.at_ e1 e2 (PySem.W.ksp_fillsT I.kIn e3 e4) bT.sub (PySem.W.Looks.of_pure rfl) e4 b1.fn (run_own F hr hx I (us := [.ref p, u]) (vs := [.ref p, y]) (.cons rfl (.cons ry .nil)) hq)
theorem op_ownB (F : FnR X.prog X.w X.K X.mg X.base CX k g sp) (hr : Room k X.A) (hx : Passes CX X E) : OpR X (binaryOp op) (rOwnB X.K op g sp E) := by
  intro pins s σ H x y v u Q I rx ry h
  obtain ⟨p, C, dx, fs, T, rfl, ep, ty, b1, bT, hq⟩ := h
  obtain rfl : v = Value.ref p := rx
  exact bin_of1 (one_B F hr hx I ep ty b1 bT ry hq)
theorem op_ownBK {K : PySem.W.Frag} (h : X.K = K) (F : FnR X.prog X.w X.K X.mg X.base CX k g sp) (hr : Room k X.A) (hx : Passes CX X E) : OpR X (binaryOp op) (rOwnB K op g sp E) := by
  subst h
  exact op_ownB F hr hx
/-- x op= y, y of a built-in type -/
theorem in_ownB (F : FnR X.prog X.w X.K X.mg X.base CX k g sp) (hr : Room k X.A) (hx : Passes CX X E) : InOp X op (fun x y H Q => (∀ p, x = .ref p → ∀ C dx fs, H p = some (.ins C dx fs) → noIn X.K C (dunderI op.info.2) = true) ∧ rOwnB X.K op g sp E x y H Q) := by
  intro pins s σ H x y u v Q I rx ry ⟨ni, h⟩
  obtain ⟨p, C, dx, fs, T, rfl, ep, ty, b1, bT, hq⟩ := h
  obtain rfl : u = Value.ref p := rx
  obtain ⟨ox, od, J, _⟩ := StX.insC_at I (.inr ⟨dx, fs, ep⟩)
  exact iop_of1 I.kIn J (ni p rfl C dx fs ep) (one_B F hr hx I ep ty b1 bT ry hq)
/-- x op= y, both of own classes -/
theorem in_own2 (F : FnR X.prog X.w X.K X.mg X.base CX k g sp) (hr : Room k X.A) (hx : Passes CX X E) : InOp X op (fun x y H Q => (∀ p, x = .ref p → ∀ C dx fs, H p = some (.ins C dx fs) → noIn X.K C (dunderI op.info.2) = true) ∧ rOwn2 X.K op g sp E x y H Q) := by
  intro pins s σ H x y v u Q I rx ry ⟨ni, h⟩
  obtain ⟨p, q, C, D, dx, dy, fs, gs, rfl, rfl, ep, eq, ⟨b1, b2⟩, hq⟩ := h
  obtain rfl : v = Value.ref p := rx
  obtain rfl : u = Value.ref q := ry
  obtain ⟨ox, od, J, _⟩ := StX.insC_at I (.inr ⟨dx, fs, ep⟩)
  obtain ⟨oy, oe, J2, _⟩ := StX.insC_at I (.inr ⟨dy, gs, eq⟩)
  have go := run_own F hr hx I (us := [.ref p, .ref q]) (vs := [.ref p, .ref q]) (.cons rfl (.cons rfl .nil)) hq
  refine iop_of1 I.kIn J (ni p rfl C dx fs ep) ?_
  rcases b2 with rfl | ⟨⟨g', b2⟩, ne, sub⟩
  · exact bin1_same I.kIn J J2.type b1.self b1.at_ b1.fn go
  · obtain ⟨rc, e1, e2⟩ := b1.refl
    obtain ⟨rd, e3, e4⟩ := b2.refl
    obtain ⟨c2, r2, k2, m2⟩ := PySem.W.ksp_first b2.self
    exact bin1_other I.kIn J J2.type (Bool.eq_false_iff.mpr fun z => ne (by cases beq_iff_eq.mp z; rfl)) b1.self b1.at_ e1 e2 (PySem.W.fills_K I.kIn k2 m2 b2.at_) sub (PySem.W.ksp_inPy I.kIn b2.at_ e3 e4) e3 b1.fn go
end
/-! ### lists of the same things -/
def rNeRefs (K : PySem.W.Frag) : R2 := fun x y H Q => ∃ (a b : Addr) (rs : List Addr), x = .ref a ∧ y = .ref b ∧ SqL K H a (rs.map V.ref) ∧ SqL K H b (rs.map V.ref) ∧ Q (.bl false) H
theorem op_neRefs {X : Cx} (hu : X.A.units < cLine) : OpR X (compareOp .NotEq) (rNeRefs X.K) := by
  intro pins s σ H x y v u Q I rx ry h
  obtain ⟨a, b, rs, rfl, rfl, ha, hb, q⟩ := h
  obtain rfl : v = Value.ref a := rx
  obtain rfl : u = Value.ref b := ry
  obtain ⟨i1, r1, h1, _⟩ := I.list ha
  obtain ⟨i2, r2, h2, _⟩ := I.list hb
  have eqs : ∀ (rs : List Addr) (i1 i2 : List Value), Vals (rs.map V.ref) i1 → Vals (rs.map V.ref) i2 → i1 = i2 := fun rs => by
    induction rs with
    | nil =>
      intro i1 i2 r1 r2
      cases r1
      cases r2
      rfl
    | cons z zs ih =>
      intro i1 i2 r1 r2
      cases r1 with
      | cons e1 t1 =>
        cases r2 with
        | cons e2 t2 =>
          rw [show _ = Value.ref z from e1, show _ = Value.ref z from e2, ih _ _ t1 t2]
  have e := eqs rs i1 i2 r1 r2
  subst e
  refine SeqAt.RcNeAt.lists (e := fun _ => true) h1.isList h2.isList rfl hu (fun j _ _ => SeqAt.EqAt.same _) X.prog X.w X.xe _ ?_
  rw [show (List.range _).all (fun _ => true) = true from List.all_eq_true.mpr fun _ _ => rfl]
  exact ⟨.bl false, H, I, rfl, q⟩
end OwR
end
section
/-! == of two dicts of numbers. Own. -/
namespace OwR
open PySem PySem.Spec PyProof.Rows L2
def intTab {κ : Type} (ks : List (κ × V)) : Prop := ∀ p ∈ ks, ∃ i : Int, p.2 = .int i
theorem hits_tab {κ : Type} [DecidableEq κ] {A : Around} {s : Shared} {ls : List (κ × V)} {vb : List (κ × Value)} (rb : KV ls vb) (hl : intTab ls) : ∀ {ks : List (κ × V)} {va : List (κ × Value)}, KV ks va → intTab ks → PySem.W.KeqHits A s vb va (ks.all fun p => decide (valV ls p.1 = some p.2))
  | [], _, .nil, _ => .nil
  | p :: ps, (k, v) :: qs, .cons ⟨e1, r1⟩ t, hk => by
    have ih := hits_tab (A := A) (s := s) rb hl t fun q hq => hk q (List.mem_cons_of_mem _ hq)
    obtain ⟨i, ei⟩ := hk p List.mem_cons_self
    have rr := KV.val rb p.1
    have e1 : p.1 = k := e1
    rw [List.all_cons]
    cases ev : valV ls p.1 with
    | none =>
      rw [ev] at rr
      rw [decide_eq_false (by simp), Bool.false_and]
      refine .miss ?_
      rw [← e1]
      cases h : PySem.valueAt vb p.1 with
      | none => rfl
      | some y => rw [h] at rr; exact rr.elim
    | some y =>
      rw [ev] at rr
      obtain ⟨u, hu, ru⟩ := RelO.some_of rr
      have hy : ∃ j : Int, y = .int j := by
        unfold valV at ev
        obtain ⟨q, hq, rfl⟩ := Option.map_eq_some_iff.mp ev
        exact hl q (List.mem_of_find?_eq_some hq)
      obtain ⟨j, rfl⟩ := hy
      rw [ei] at r1 ⊢
      obtain ⟨t1, rfl⟩ := r1
      obtain ⟨t2, rfl⟩ := ru
      have e : decide (some (V.int j) = some (V.int i)) = (i == j) := by
        by_cases c : i = j
        · subst c
          simp
        · rw [decide_eq_false (fun h => c (V.int.inj (Option.some.inj h)).symm), beq_eq_false_iff_ne.mpr c]
      rw [e]
      rw [e1] at hu
      exact .hit hu (SeqAt.EqAt.int_int i t1 j t2) ih
def rEqTab : R2 := fun x y H Q => ∃ (a b : Addr) (ks ls : List (Key × V)), x = .ref a ∧ y = .ref b ∧ H a = some (.dK ks) ∧ H b = some (.dK ls) ∧ intTab ks ∧ intTab ls ∧ Q (.bl (ks.length == ls.length && ks.all fun p => decide (valV ls p.1 = some p.2))) H
theorem op_eqTab {X : Cx} (hu : X.A.units < cLine) : OpR X (compareOp .Eq) rEqTab := by
  intro pins s σ H x y v u Q I rx ry h
  obtain ⟨a, b, ks, ls, rfl, rfl, ea, eb, hk, hl, q⟩ := h
  obtain rfl : v = Value.ref a := rx
  obtain rfl : u = Value.ref b := ry
  obtain ⟨_, ya, va, ra, da⟩ := I.hok a _ ea
  obtain ⟨_, yb, vb, rb, db⟩ := I.hok b _ eb
  refine PySem.W.keq_eq ya yb da db hu (fun _ => hits_tab rb hl ra hk) (fin_bl I q ?_)
  rw [KV.length ra, KV.length rb]
end OwR
end
section
/-! Houses: House.__init__ of no places, house_with, House.of, .none, house[..]; nothing refused. -/
namespace K10
open PySem PySem.Spec PyProof.Rows L2
abbrev sNumber : Stmt := top 11
abbrev sTold : Stmt := top 13
abbrev sHouse0 : Stmt := mth 18 1
abbrev sHouseOf : Stmt := mth 18 2
abbrev sHouseAt : Stmt := mth 18 9
abbrev sWith : Stmt := top 19
def told (N : Str → Option Int) : Str → Option Int := fun z => if 0 < (N z).getD 0 then N z else none
def spNumber : Sp := fun vs H Q _ => ∃ v : Int, vs = [.int v] ∧ Q (.bl (decide (0 ≤ v) && decide (v ≤ 10 ^ 60 - 1))) H
def spTold : Sp := fun vs H Q _ => ∃ (a : Addr) (kvs : List (Key × V)) (xs : List Str) (N : Str → Option Int), vs = [.ref a] ∧ Rd H a (.dK kvs) ∧ kvs.map (·.1) = xs.map Sum.inr ∧ xs.length < 64 ∧ TabOf kvs N ∧
  (∀ z v, N z = some v → 0 ≤ v ∧ v ≤ 10 ^ 60 - 1) ∧ ∀ (kvs' : List (Key × V)) (p : Addr) (H' : Hp), TabOf kvs' (told N) → kvs'.length < 64 → H p = none → Same H H' → H' p = some (.dK kvs') → Q (.ref p) H'
section
variable {P : Program} {w : World} {K : PySem.W.Frag} {mg : Str → Option Value} {base : Heap}
theorem scNu : FnScope ["value"] ["value"] (defScope sNumber) := ⟨rfl, rfl, rfl, by decide +kernel, rfl, by decide +kernel, by decide +kernel⟩
theorem ok_number {f fW : Addr} {fd fdW : FuncData} (F : Fun K "is_number" "is_number" sNumber f fd) (T : Nm2 mg) (FW : Fun K "is_within" "is_within" sWithin fW fdW) (gW : mg "is_within" = some (.ref fW)) : FnOk P w K mg base CX0 2 f fd ["value"] spNumber := by
  have GW : FnOk P w K mg base CX0 1 fW fdW ["value", "least", "most"] (spWithin K) := ok_within FW T
  have bW : Binds K fdW ["value", "least", "most"] [] := FW.binds fun _ _ _ _ _ _ us hl => match us, hl with | [_, _, _], _ => rfl
  refine F.ok scNu (fun vs H Q E h => ?_) (fun cdv A outer s H vs Q E hr h => ?_)
  · obtain ⟨v, rfl, _⟩ := h
    rfl
  · obtain ⟨v, rfl, k⟩ := h
    refine ⟨_, (pss_one (ps_ret (pe_call GW hr (by rfl) gW FW.kp bW .nil pass0 (pa_cons (pv 0) (pa_cons pe_int (pa_cons (pe_op op_sub (pe_op op_pow pe_int pe_int) pe_int) pa_nil)))))), ?_⟩
    exact ⟨_, rfl, _, _, rfl, rfl, ⟨by decide, by decide, by decide⟩, _, _, rfl, rfl, .int v, 0, _, rfl, .inl ⟨v, rfl, k⟩⟩
abbrev nTold : List Str := ["table", "keys", "key"]
theorem scT : FnScope nTold ["table"] (defScope sTold) := ⟨rfl, rfl, rfl, by decide +kernel, rfl, by decide +kernel, by decide +kernel⟩
theorem ok_told {f fN fA fW : Addr} {fd fdN fdA fdW : FuncData} (F : Fun K "numbers_told" "numbers_told" sTold f fd) (T : Nm2 mg) (T3 : Nm3 mg) (FA : Fun K "ascending" "ascending" sAsc fA fdA) (FN : Fun K "is_number" "is_number" sNumber fN fdN) (FW : Fun K "is_within" "is_within" sWithin fW fdW)
    (gW : mg "is_within" = some (.ref fW)) (gA : mg "ascending" = some (.ref fA)) (gN : mg "is_number" = some (.ref fN)) : FnOk P w K mg base CX0 3 f fd ["table"] spTold := by
  have GN : FnOk P w K mg base CX0 2 fN fdN ["value"] spNumber := ok_number FN T FW gW
  have bN : Binds K fdN ["value"] [] := FN.binds fun _ _ _ _ _ _ us hl => match us, hl with | [_], _ => rfl
  have GA : FnOk P w K mg base CX0 1 fA fdA ["things"] (spAsc K) := ok_asc FA T3
  have bA : Binds K fdA ["things"] [] := FA.binds fun _ _ _ _ _ _ us hl => match us, hl with | [_], _ => rfl
  refine F.ok scT (fun vs H Q E h => ?_) (fun cdv A outer s H vs Q E hr h => ?_)
  · obtain ⟨a, kvs, xs, N, rfl, _⟩ := h
    rfl
  · obtain ⟨a, kvs, xs, N, rfl, ha, ek, hl, tb, hn, k⟩ := h
    have hu : (A.deeper (envOfC "numbers_told" (defScope sTold) s.heap.objs.size f cdv)).units + 1 < cLine := (by have := hr.units; omega)
    have hr1 : Room 1 _ := hr.mono (by decide)
    refine ⟨_, (pss_cons (ps_set (i := 1) scT.nd rfl (Or.inl rfl) (pe_call GA hr1 (by rfl) gA FA.kp bA .nil pass0 (pa_cons (pv 0) pa_nil)))
    (pss_cons (ps_for PassesOwn.never rfl (pi_list (pv 1)) (pg_name (i := 2) scT.nd rfl (Or.inl rfl)) (pss_one (ps_if (pt_not (pt_val (pe_call GN hr (by rfl) gN FN.kp bN .nil pass0 (pa_cons (pe_dget hu (pv 0) (pv 2) (fun _ _ => rfl)) pa_nil)))) (pss_one ps_never) pss_nil)))
    (pss_one (ps_ret (pe_dc (own := [("key", 2)]) rfl scT.nd (pi_list (pv 1)) (blkOk_by (own := [("key", 2)]) (N := nTold) (sc := defScope sTold) (by decide +kernel)) (fun _ _ _ _ _ => (pg_name (i := 2) scT.nd rfl (Or.inl rfl))) (fun _ _ _ _ _ => pts_one (pt_cmpR op_gt (pe_dget hu (pv 0) (pv 2) (fun _ _ => rfl)) pe_int (nomark _))) (fun _ _ _ _ _ => (pv 2)) (fun _ _ _ _ _ => (pe_dget hu (pv 0) (pv 2) (fun _ _ => rfl)))))))), ?_⟩
    refine ⟨_, rfl, a, xs, rfl, ?_, hl, fun ys p H1 pm srt hp s1 e1 => ?_⟩
    · exact .inr (.inr ⟨kvs, ha, ek⟩)
    have hlen : ys.length < 64 := Nat.lt_of_le_of_lt (Nat.le_of_eq pm.length_eq) (Nat.lt_of_le_of_lt (TSet.ded_len xs) hl)
    have hys : ∀ z, z ∈ ys ↔ (N z).isSome = true := fun z => (pm.mem_iff.trans (TSet.ded_mem xs z)).trans (tb.mem ek z)
    have hnd : ys.Nodup := pm.nodup_iff.mpr (TSet.ded_nodup xs)
    have hat : ∀ i z, ys[i]? = some z → ∃ v, N z = some v ∧ 0 ≤ v ∧ v ≤ 10 ^ 60 - 1 := fun i z hz => by
      obtain ⟨v, hv⟩ := Option.isSome_iff_exists.mp ((hys z).mp (List.mem_of_getElem? hz))
      exact ⟨v, hv, hn z v hv⟩
    have ha1 : Rd H1 a (.dK kvs) := ha.elim (fun e => .inl (s1 a _ e)) fun ⟨o, e⟩ => .inr ⟨o, s1 a _ e⟩
    refine ⟨_, rfl, p, rfl, ⟨_, SqL.of e1⟩, ?_⟩
    refine for_it (walk_list (xs := ys.map V.str)) (fun i σ H' => H1 = H' ∧ ∃ x, σ = [some (.ref a), some (.ref p), x]) ⟨rfl, _, rfl⟩ (fun i σ H' _ q => q.1 ▸ SqL.of e1) (fun i x σ H' H2 hi q y => ?_) (fun σ H' q => ?_)
    · obtain ⟨rfl, x0, rfl⟩ := q
      obtain ⟨rfl, hx⟩ := y
      rw [List.getElem?_map] at hx
      obtain ⟨z, hz, rfl⟩ := Option.map_eq_some_iff.mp hx
      obtain ⟨v, hv, v0, v1⟩ := hat i z hz
      refine ⟨_, rfl, _, rfl, a, .int v, rfl, ?_, v, rfl, _, rfl, ?_⟩
      · have g := tb.get ha1 z
        rw [hv] at g
        exact g
      rw [decide_eq_true v0, decide_eq_true v1]
      exact ⟨rfl, _, rfl⟩
    · obtain ⟨rfl, x0, rfl⟩ := q
      refine ⟨_, rfl, p, rfl, ⟨_, SqL.of e1⟩, fun D hD => ?_⟩
      have nD : p ≠ D := ne_of_none e1 hD
      refine OwR.dc_it (walk_list (xs := ys.map V.str)) (fun i H2 => Same H1 H2 ∧ ∃ r, H2 D = some (.dK r) ∧ r.length ≤ i ∧ TabOf r fun z => if z ∈ ys.take i then told N z else none) ⟨Same.of_new hD, [], upd_same, Nat.le_refl 0, ?_⟩ (fun i H2 _ q => SqL.of (q.1 p _ e1)) (fun i x H2 H3 hi q y => ?_) (fun H2 q => ?_)
      · exact TabOf.nil.cast fun z => (if_neg (by simp)).symm
      · obtain ⟨s2, r, er, lr, tr⟩ := q
        obtain ⟨rfl, hx⟩ := y
        rw [List.getElem?_map] at hx
        obtain ⟨z, hz, rfl⟩ := Option.map_eq_some_iff.mp hx
        obtain ⟨v, hv, v0, v1⟩ := hat i z hz
        have ha2 : Rd H3 a (.dK kvs) := ha1.elim (fun e => .inl (s2 a _ e)) fun ⟨o, e⟩ => .inr ⟨o, s2 a _ e⟩
        have g := tb.get ha2 z
        rw [hv] at g
        have hi2 : i < ys.length := by rw [List.length_map] at hi; exact hi
        have hmem : ∀ y : Str, y ∈ ys.take (i + 1) ↔ y ∈ ys.take i ∨ y = z := fun y => by
          rw [List.take_add_one, hz]
          simp
        have hz0 : z ∉ ys.take i := fun q => by
          have e3 := List.take_add_one (l := ys) (i := i)
          rw [hz] at e3
          have h5 : (ys.take (i + 1)).Nodup := hnd.sublist (List.take_sublist _ _)
          rw [e3] at h5
          have h6 := (List.nodup_append.mp h5).2.2 z q z (by simp)
          exact h6 rfl
        refine ⟨rfl, ?_⟩
        refine ⟨_, rfl, _, rfl, a, .int v, rfl, g, v, 0, rfl, rfl, _, rfl, ?_⟩
        have tl : told N z = if 0 < v then some v else none := by
          unfold told
          rw [hv]
          rfl
        by_cases c : 0 < v
        · rw [decide_eq_true c]
          refine iteT ?_
          refine ⟨_, rfl, _, rfl, _, rfl, a, .int v, rfl, g, ?_⟩
          refine ⟨r, Sum.inr z, rfl, er, Nat.lt_of_le_of_lt lr (by have := sizeLine_eq; omega), ?_⟩
          refine ⟨fun b o e => ?_, _, upd_same, ?_, (tr.put z v).cast fun y => ?_⟩
          · rw [upd_ne (ne_of_none e hD)]
            exact s2 b o e
          · have := length_putK r (Sum.inr z) (.int v)
            omega
          · by_cases e : y = z
            · subst e
              rw [if_pos rfl, if_pos ((hmem y).mpr (.inr rfl)), tl, if_pos c]
            · rw [if_neg e]
              by_cases m : y ∈ ys.take i
              · rw [if_pos m, if_pos ((hmem y).mpr (.inl m))]
              · rw [if_neg m, if_neg fun q => ((hmem y).mp q).elim m e]
        · rw [decide_eq_false c]
          refine iteF ?_
          refine ⟨s2, r, er, by omega, tr.cast fun y => ?_⟩
          by_cases e : y = z
          · subst e
            rw [if_neg hz0, if_pos ((hmem y).mpr (.inr rfl)), tl, if_neg c]
          · by_cases m : y ∈ ys.take i
            · rw [if_pos m, if_pos ((hmem y).mpr (.inl m))]
            · rw [if_neg m, if_neg fun q => ((hmem y).mp q).elim m e]
      · obtain ⟨s2, r, er, lr, tr⟩ := q
        rw [List.length_map, List.take_length] at tr
        refine k r D H2 (tr.cast fun z => ?_) (Nat.lt_of_le_of_lt (by rw [List.length_map] at lr; exact lr) hlen) (s1.free hD) (s1.trans s2) er
        by_cases c : z ∈ ys
        · exact if_pos c
        · have h7 : N z = none := by
            cases h8 : N z with
            | none => rfl
            | some u => exact absurd ((hys z).mpr (by rw [h8]; rfl)) c
          rw [if_neg c]
          unfold told
          rw [h7]
          rfl
end
/-- the class of houses -/
structure HouseC (K : PySem.W.Frag) (C : Addr) : Prop where
  cls : Cls K C
  n1 : NoAttr K C "_numbers"
  n2 : NoAttr K C "_bays"
/-- at a stands a house with these numbers -/
def HouseAt (C : Addr) (H : Hp) (a : Addr) (N : Str → Option Int) : Prop := ∃ (dx : Addr) (fs : List (Str × V)) (d : Addr) (kvs : List (Key × V)), H a = some (.ins C dx fs) ∧ fs.lookup ("_numbers" : Str) = some (.ref d) ∧ Rd H d (.dK kvs) ∧ TabOf kvs N
theorem HouseAt.same {C : Addr} {H H' : Hp} {a : Addr} {N : Str → Option Int} (h : HouseAt C H a N) (s : Same H H') : HouseAt C H' a N := by
  obtain ⟨dx, fs, d, kvs, h1, h2, h3, h4⟩ := h
  exact ⟨dx, fs, d, kvs, s _ _ h1, h2, Same.rd s h3, h4⟩
theorem HouseAt.cast {C : Addr} {H : Hp} {a : Addr} {N M : Str → Option Int} (h : HouseAt C H a N) (e : ∀ z, N z = M z) : HouseAt C H a M := by
  rw [← funext e]
  exact h
def spH0 (C : Addr) : Sp := fun vs H Q _ => ∃ a d dx : Addr, vs = [.ref a, .ref d] ∧ H a = some (.ins C dx []) ∧ H d = some (.dK []) ∧ ∀ H' fs, But a H H' → H' a = some (.ins C dx fs) → fs.length ≤ 2 → HouseAt C H' a (fun _ => none) → Q .non H'
def spH0' (C : Addr) : Sp := fun vs H Q _ => ∃ a dx : Addr, vs = [.ref a] ∧ H a = some (.ins C dx []) ∧ ∀ H' fs, But a H H' → H' a = some (.ins C dx fs) → fs.length ≤ 2 → HouseAt C H' a (fun _ => none) → Q .non H'
def spWith (C : Addr) : Sp := fun vs H Q _ => ∃ (t : Addr) (kvs : List (Key × V)) (xs : List Str) (N : Str → Option Int), vs = [.ref t] ∧ Rd H t (.dK kvs) ∧ kvs.map (·.1) = xs.map Sum.inr ∧ xs.length < 64 ∧ TabOf kvs N ∧
  (∀ z v, N z = some v → 0 ≤ v ∧ v ≤ 10 ^ 60 - 1) ∧ ∀ a H', H a = none → Same H H' → HouseAt C H' a (told N) → Q (.ref a) H'
def spOf (C : Addr) : Sp := fun vs H Q _ => ∃ (c : V) (t : Addr) (kvs : List (Key × V)) (xs : List Str) (N : Str → Option Int), vs = [c, .ref t] ∧ H t = some (.dK kvs) ∧ kvs.map (·.1) = xs.map Sum.inr ∧ xs.length < 64 ∧ (∀ z ∈ xs, nameB z = true ∧ z.length ≤ 1000) ∧ TabOf kvs N ∧
  (∀ z v, N z = some v → 0 ≤ v ∧ v ≤ 10 ^ 60 - 1) ∧ ∀ a H', H a = none → Same H H' → HouseAt C H' a (told N) → Q (.ref a) H'
def spItem (C : Addr) : Sp := fun vs H Q _ => ∃ (a : Addr) (z : Str) (N : Str → Option Int), vs = [.ref a, .str z] ∧ HouseAt C H a N ∧ nameB z = true ∧ z.length ≤ 1000 ∧ ∀ H', Same H H' → Q (.int ((N z).getD 0)) H'
/-- what houses lean on -/
structure HChk (P : Program) (w : World) (K : PySem.W.Frag) (mg : Str → Option Value) (base : Heap) : Prop where
  chk : Chk P w K mg base
  nu : ∃ f fd, mg "is_number" = some (.ref f) ∧ Fun K "is_number" "is_number" sNumber f fd
  to : ∃ f fd, mg "numbers_told" = some (.ref f) ∧ Fun K "numbers_told" "numbers_told" sTold f fd
section
variable {P : Program} {w : World} {K : PySem.W.Frag} {mg : Str → Option Value} {base : Heap}
theorem HChk.told (c : HChk P w K mg base) : ∃ f fd, mg "numbers_told" = some (.ref f) ∧ PySem.W.keepIn K (.ref f) = true ∧ Binds K fd ["table"] [] ∧ FnOk P w K mg base CX0 3 f fd ["table"] spTold := by
  obtain ⟨f, fd, g, F⟩ := c.to
  obtain ⟨f1, fd1, g1, F1⟩ := c.chk.as
  obtain ⟨f2, fd2, g2, F2⟩ := c.nu
  obtain ⟨f3, fd3, g3, F3⟩ := c.chk.wi
  exact ⟨f, fd, g, F.kp, F.binds fun _ _ _ _ _ _ us hl => match us, hl with | [_], _ => rfl, ok_told F c.chk.T c.chk.T3 F1 F2 F3 g3 g1 g2⟩
abbrev nH0 : List Str := ["self", "places", "name"]
theorem scH0 : FnScope nH0 ([("self" : Str)] ++ [("places" : Str)]) (defScope sHouse0) := ⟨rfl, rfl, rfl, by decide +kernel, rfl, by decide +kernel, by decide +kernel⟩
theorem ok_H0 {C f : Addr} {fd : FuncData} (hc : HouseC K C) (F : Fun K "__init__" "House.__init__" sHouse0 f fd) (c : HChk P w K mg base) : FnR P w K mg base CX0 4 f (spH0' C) := by
  obtain ⟨oc, od, kV, doc, pm, an, cdv, ct, osl, rfl, lk, hcd⟩ := F.ex
  obtain ⟨fA, fdA, gA, kA, bA, GA⟩ := c.chk.asc
  obtain ⟨fT, fdT, gT, kT, bT, GT⟩ := c.told
  obtain ⟨fM, fdM, gM, kM, bM, GM⟩ := c.chk.name
  refine FnR.imp (OwR.fn_kw (k := 3) (ps := ["self"]) (pd := "places") (sp := spH0 C) lk hcd scH0 StX.cxUp_none (fun us hl => match us, hl with | [_], _ => rfl) fun A outer s H vs Q E hr h => ?_) fun vs H Q E h => ?_
  · obtain ⟨a, d, dx, rfl, ha, hd, k⟩ := h
    have hr2 : Room 1 _ := hr.mono (by decide)
    refine ⟨_, PSs.nox (pss_cons (ps_for PassesOwn.never rfl (pi_list (pe_call GA hr2 (by rfl) gA kA bA .nil pass0 (pa_cons (pv 1) pa_nil))) (pg_name (i := 2) scH0.nd rfl (Or.inl rfl)) (pss_one (ps_if (pt_not (pt_val (pe_call GM hr2 (by rfl) gM kM bM .nil pass0 (pa_cons (pv 2) pa_nil)))) (pss_one ps_never) pss_nil)))
    (pss_cons (ps_fld (pv 0) (pe_call GT hr (by rfl) gT kT bT .nil pass0 (pa_cons (pv 1) pa_nil)) rfl)
    (pss_one (ps_fld (pv 0) (pe_callTy (OwR.call_tupleD rfl) (by rfl) c.chk.T4.n_tuple (by decide +kernel) (pa_cons (pe_fld (pv 0) rfl) pa_nil)) rfl)))), ?_⟩
    refine ⟨_, rfl, d, [], rfl, .inr (.inr ⟨[], .inl hd, rfl⟩), by decide, fun ys p H1 pm srt hp s1 e1 => ?_⟩
    have ey : ys = [] := List.Perm.eq_nil pm
    subst ey
    refine ⟨p, rfl, ⟨_, SqL.of e1⟩, ?_⟩
    refine for_it (walk_list (xs := [])) (fun i σ H' => H1 = H' ∧ ∃ x, σ = [some (.ref a), some (.ref d), x]) ⟨rfl, _, rfl⟩ (fun i σ H' _ q => q.1 ▸ SqL.of e1) (fun i x σ H' H2 hi q y => absurd hi (Nat.not_lt_zero i)) (fun σ H' q => ?_)
    obtain ⟨rfl, x0, rfl⟩ := q
    refine ⟨_, rfl, d, [], [], fun _ => none, rfl, .inl (s1 d _ hd), rfl, by decide, TabOf.nil, (fun z v e => by cases e), fun kvs' q H2 t2 l2 hq s2 e2 => ?_⟩
    have ea2 := s2 a _ (s1 a _ ha)
    refine ⟨_, rfl, a, C, dx, [], rfl, ea2, hc.cls, hc.n1, by decide, ?_⟩
    have nq : q ≠ a := fun e => by
      rw [e, s1 a _ ha] at hq
      cases hq
    refine ⟨_, rfl, a, C, dx, _, .ref q, rfl, upd_same, hc.cls, hc.n1, rfl, ?_⟩
    refine ⟨q, kvs', rfl, .inl (by rw [upd_ne nq]; exact e2), fun r hr0 => ?_⟩
    have nr : a ≠ r := fun e => by
      rw [← e, upd_same] at hr0
      cases hr0
    refine ⟨_, rfl, a, C, dx, _, rfl, by rw [upd_ne nr]; exact upd_same, hc.cls, hc.n2, (by show (1:Nat) < 1000; decide), ?_⟩
    have nqr : q ≠ r := fun z => by
      rw [← z, upd_ne nq, e2] at hr0
      cases hr0
    refine k _ _ (fun b o n e => ?_) upd_same (by show (2:Nat) ≤ 2; decide) ⟨dx, _, q, kvs', upd_same, rfl, ?_, t2.cast fun z => rfl⟩
    rotate_left
    · refine .inl ?_
      rw [upd_ne nq, upd_ne nqr, upd_ne nq]
      exact e2
    rw [upd_ne n]
    have hb2 := s2 b _ (s1 b _ e)
    have nb : b ≠ r := fun z => by
      rw [← z, upd_ne n, hb2] at hr0
      cases hr0
    rw [upd_ne nb, upd_ne n]
    exact hb2
  · obtain ⟨a, dx, rfl, ha, k⟩ := h
    refine ⟨rfl, fun d hd => ⟨a, d, dx, rfl, ?_, upd_same, fun H' fs s1 e1 l hA => k H' fs (fun b o n e => s1 b o n (Same.of_new hd b o e)) e1 l hA⟩⟩
    rw [upd_ne (ne_of_none ha hd)]
    exact ha
abbrev nWi : List Str := ["table", "house"]
theorem scWi : FnScope nWi ["table"] (defScope sWith) := ⟨rfl, rfl, rfl, by decide +kernel, rfl, by decide +kernel, by decide +kernel⟩
theorem ok_with {C f fH : Addr} {fd fdH : FuncData} (hc : HouseC K C) (FH : Fun K "__init__" "House.__init__" sHouse0 fH fdH) (MH : Mk K C fH) (gH : mg "House" = some (.ref C)) (F : Fun K "house_with" "house_with" sWith f fd) (c : HChk P w K mg base) : FnOk P w K mg base CX0 6 f fd ["table"] (spWith C) := by
  obtain ⟨fT, fdT, gT, kT, bT, GT⟩ := c.told
  have GH := ok_H0 (P := P) (w := w) (mg := mg) (base := base) hc FH c
  refine F.ok scWi (fun vs H Q E h => ?_) (fun cdv A outer s H vs Q E hr h => ?_)
  · obtain ⟨a, kvs, xs, N, rfl, _⟩ := h
    rfl
  · obtain ⟨a, kvs, xs, N, rfl, ha, ek, hl, tb, hn, k⟩ := h
    have hr3 : Room 3 _ := hr.mono (by decide)
    refine ⟨_, (pss_cons (ps_set (i := 1) scWi.nd rfl (Or.inl rfl) (OwR.pe_makeR0 MH GH hr (by rfl) gH pass0))
    (pss_cons (ps_fld (pv 1) (pe_call GT hr3 (by rfl) gT kT bT .nil pass0 (pa_cons (pv 0) pa_nil)) rfl)
    (pss_cons (ps_fld (pv 1) (pe_callTy (OwR.call_tupleD rfl) (by rfl) c.chk.T4.n_tuple (by decide +kernel) (pa_cons (pe_fld (pv 1) rfl) pa_nil)) rfl)
    (pss_one (ps_ret (pv 1)))))), ?_⟩
    refine fun x dx h1 h2 nd => ⟨x, dx, rfl, upd_same, fun H1 fs s1 e1 l1 _ => ⟨rfl, ?_⟩⟩
    have sm := made_same h1 h2 s1
    refine ⟨_, rfl, a, kvs, xs, N, rfl, Same.rd sm ha, ek, hl, tb, hn, fun kvs' q H2 t2 l2 hq s2 e2 => ?_⟩
    have ex2 := s2 x _ e1
    have nq : q ≠ x := fun e => by
      rw [e, e1] at hq
      cases hq
    refine ⟨_, rfl, x, C, dx, fs, rfl, ex2, hc.cls, hc.n1, by omega, ?_⟩
    have lk1 : (putF ("_numbers" : Str) (V.ref q) fs).lookup ("_numbers" : Str) = some (.ref q) := by
      rw [lookup_putF, if_pos rfl]
    refine ⟨_, rfl, x, C, dx, _, .ref q, rfl, upd_same, hc.cls, hc.n1, lk1, ?_⟩
    refine ⟨q, kvs', rfl, .inl (by rw [upd_ne nq]; exact e2), fun r hr0 => ?_⟩
    have nr : x ≠ r := fun e => by
      rw [← e, upd_same] at hr0
      cases hr0
    refine ⟨_, rfl, x, C, dx, _, rfl, by rw [upd_ne nr]; exact upd_same, hc.cls, hc.n2, by have := length_putF ("_numbers" : Str) (V.ref q) fs; omega, ?_⟩
    refine ⟨_, rfl, ?_⟩
    have nqr : q ≠ r := fun z => by
      rw [← z, upd_ne nq, e2] at hr0
      cases hr0
    refine k x _ h1 (fun b o e => ?_) ⟨dx, _, q, kvs', upd_same, ?_, ?_, t2⟩
    · have n := ne_of_none e h1
      have hb2 := s2 b _ (sm b _ e)
      have nb : b ≠ r := fun z => by
        rw [← z, upd_ne n, hb2] at hr0
        cases hr0
      rw [upd_ne n, upd_ne nb, upd_ne n]
      exact hb2
    · rw [lookup_putF, if_neg (by decide)]
      exact lk1
    · refine .inl ?_
      rw [upd_ne nq, upd_ne nqr, upd_ne nq]
      exact e2
abbrev nHO : List Str := ["cls", "table", "key"]
theorem scHO : FnScope nHO ["cls", "table"] (defScope sHouseOf) := ⟨rfl, rfl, rfl, by decide +kernel, rfl, by decide +kernel, by decide +kernel⟩
theorem ok_Of {C f fH fW : Addr} {fd fdH fdW : FuncData} (hc : HouseC K C) (FH : Fun K "__init__" "House.__init__" sHouse0 fH fdH) (MH : Mk K C fH) (gH : mg "House" = some (.ref C)) (FW : Fun K "house_with" "house_with" sWith fW fdW) (gW : mg "house_with" = some (.ref fW)) (F : Fun K "of" "House.of" sHouseOf f fd) (c : HChk P w K mg base) (n_dict : mg "dict" = none) : FnOk P w K mg base CX0 7 f fd ["cls", "table"] (spOf C) := by
  have GW : FnOk P w K mg base CX0 6 fW fdW ["table"] (spWith C) := ok_with hc FH MH gH FW c
  have bW : Binds K fdW ["table"] [] := FW.binds fun _ _ _ _ _ _ us hl => match us, hl with | [_], _ => rfl
  obtain ⟨fM, fdM, gM, kM, bM, GM⟩ := c.chk.name
  refine F.ok scHO (fun vs H Q E h => ?_) (fun cdv A outer s H vs Q E hr h => ?_)
  · obtain ⟨c, t, kvs, xs, N, rfl, _⟩ := h
    rfl
  · obtain ⟨c0, t, kvs, xs, N, rfl, ht, ek, hl, hg, tb, hn, k⟩ := h
    have hr2 : Room 1 _ := hr.mono (by decide)
    refine ⟨_, (pss_cons (ps_if (pt_not (pt_val (pe_callB call_isi (by rfl) c.chk.T.n_isinstance (by decide +kernel) (pa_cons (pv 1) (pa_cons (pe_bltn (v := .ty "dict") (by rfl) n_dict (by decide +kernel) rfl) pa_nil))))) (pss_one ps_never) pss_nil)
    (pss_cons (ps_lock (ps_for PassesOwn.never rfl (pi_keys (pv 1)) (pg_name (i := 2) scHO.nd rfl (Or.inl rfl)) (pss_one (ps_if (pt_not (pt_val (pe_call GM hr2 (by rfl) gM kM bM .nil pass0 (pa_cons (pv 2) pa_nil)))) (pss_one ps_never) pss_nil))))
    (pss_one (ps_ret (pe_call GW hr (by rfl) gW FW.kp bW .nil pass0 (pa_cons (pv 1) pa_nil)))))), ?_⟩
    refine ⟨_, rfl, .ref t, .ty "dict", _, _, true, rfl, .ty _, .base (.dK ht), kit_ty (by decide +kernel), true, rfl, ?_⟩
    refine iteF ?_
    refine ⟨t, _, ht, True.intro, fun od => ?_⟩
    have hkl : kvs.length = xs.length := by
      have := congrArg List.length ek
      rw [List.length_map, List.length_map] at this
      exact this
    refine ⟨_, rfl, t, od, rfl, .inl ⟨kvs, upd_same, ?_⟩⟩
    refine for_it (walk_keys (kvs := kvs)) (fun i σ H' => Same (upd H t (.frz od (.dK kvs))) H' ∧ ∃ x, σ = [some c0, some (.ref t), x]) ⟨Same.refl _, _, rfl⟩ (fun i σ H' _ q => q.1 t _ upd_same) (fun i x σ H' H2 hi q y => ?_) (fun σ H' q => ?_)
    · obtain ⟨s1, x0, rfl⟩ := q
      obtain ⟨rfl, ky, v, hk, rfl⟩ := y
      have e1 : xs[i]?.map Sum.inr = some ky := by
        have e2 : (kvs.map (·.1))[i]? = some ky := by rw [List.getElem?_map, hk]; rfl
        rw [ek, List.getElem?_map] at e2
        exact e2
      obtain ⟨z, hz, rfl⟩ := Option.map_eq_some_iff.mp e1
      have g := hg z (List.mem_of_getElem? hz)
      refine ⟨_, rfl, _, rfl, .inl ⟨z, rfl, g.2, fun H3 s3 => ⟨_, rfl, ?_⟩⟩⟩
      rw [g.1]
      exact ⟨s1.trans s3, _, rfl⟩
    · obtain ⟨s1, x0, rfl⟩ := q
      refine ⟨s1 t _ upd_same, ?_⟩
      refine ⟨_, rfl, t, kvs, xs, N, rfl, .inl upd_same, ek, hl, tb, hn, fun a H2 ha s2 hA => ?_⟩
      have s3 : Same H (upd H' t (.dK kvs)) := fun b o e => by
        by_cases n : b = t
        · subst n
          rw [upd_same, ← e, ht]
        · rw [upd_ne n]
          exact s1 b o (by rw [upd_ne n]; exact e)
      exact k a H2 (s3.free ha) (s3.trans s2) hA
abbrev nHI : List Str := ["self", "at"]
theorem scHI : FnScope nHI ["self", "at"] (defScope sHouseAt) := ⟨rfl, rfl, rfl, by decide +kernel, rfl, by decide +kernel, by decide +kernel⟩
theorem ok_Item {C f : Addr} {fd : FuncData} (hc : HouseC K C) (F : Fun K "__getitem__" "House.__getitem__" sHouseAt f fd) (c : HChk P w K mg base) : FnOk P w K mg base CX0 2 f fd ["self", "at"] (spItem C) := by
  obtain ⟨fM, fdM, gM, kM, bM, GM⟩ := c.chk.name
  refine F.ok scHI (fun vs H Q E h => ?_) (fun cdv A outer s H vs Q E hr h => ?_)
  · obtain ⟨a, z, N, rfl, _⟩ := h
    rfl
  · obtain ⟨a, z, N, rfl, hA, hz, hz2, k⟩ := h
    have hr2 : Room 1 _ := hr.mono (by decide)
    have hu : (A.deeper (envOfC "House.__getitem__" (defScope sHouseAt) s.heap.objs.size f cdv)).units + 1 < cLine := (by have := hr.units; omega)
    refine ⟨_, (pss_cons (ps_if (pt_not (pt_val (pe_call GM hr2 (by rfl) gM kM bM .nil pass0 (pa_cons (pv 1) pa_nil)))) (pss_one ps_never) pss_nil)
    (pss_one (ps_ret (pe_dget2 hu (pe_fld (pv 0) rfl) (pv 1) pe_int ⟨rfl, rfl, rfl, rfl⟩)))), ?_⟩
    refine ⟨_, rfl, _, rfl, .inl ⟨z, rfl, hz2, fun H1 s1 => ⟨_, rfl, ?_⟩⟩⟩
    rw [hz]
    refine iteF ?_
    obtain ⟨dx, fs, d, kvs, h1, h2, h3, h4⟩ := hA.same s1
    refine ⟨_, rfl, a, C, dx, fs, .ref d, rfl, h1, hc.cls, hc.n1, h2, d, rfl, .inl ⟨kvs, h3⟩, _, rfl, _, h4.get h3 z, ?_⟩
    have e : ((N z).map V.int).getD (.int 0) = .int ((N z).getD 0) := by cases N z <;> rfl
    rw [e]
    exact k H1 s1
end
end K10
end
section
set_option pp.maxSteps 400
set_option pp.deepTerms.threshold 6
/-! Houses with their bays in order: what is made, walks, sums, comparisons. -/
namespace K10
open PySem PySem.Spec PyProof.Rows L2
abbrev sHIter : Stmt := mth 18 12
abbrev sHLen : Stmt := mth 18 11
abbrev sHAdd : Stmt := mth 18 14
abbrev sHSub : Stmt := mth 18 15
abbrev sHAnd : Stmt := mth 18 20
abbrev sHOr : Stmt := mth 18 21
abbrev sHEq : Stmt := mth 18 22
abbrev sHLe : Stmt := mth 18 23
abbrev sHLt : Stmt := mth 18 24
abbrev sHGe : Stmt := mth 18 25
abbrev sHGt : Stmt := mth 18 26
abbrev sBaysOf : Stmt := top 20
/-- a house: its numbers ascending by bay, its bays -/
def HAt (C : Addr) (H : Hp) (a : Addr) (ps : List Pk) : Prop := ∃ (dx : Addr) (fs : List (Str × V)) (d b : Addr), H a = some (.ins C dx fs) ∧ fs.lookup ("_numbers" : Str) = some (.ref d) ∧ fs.lookup ("_bays" : Str) = some (.ref b) ∧ H d = some (.dK (tabL ps)) ∧ H b = some (.tup (ps.map fun p => V.str p.1))
theorem HAt.same {C : Addr} {H H' : Hp} {a : Addr} {ps : List Pk} (h : HAt C H a ps) (s : Same H H') : HAt C H' a ps := by
  obtain ⟨dx, fs, d, b, h1, h2, h3, h4, h5⟩ := h
  exact ⟨dx, fs, d, b, s _ _ h1, h2, h3, s _ _ h4, s _ _ h5⟩
theorem HAt.house {C : Addr} {H : Hp} {a : Addr} {ps : List Pk} (h : HAt C H a ps) : HouseAt C H a (lookL ps) := by
  obtain ⟨dx, fs, d, b, h1, h2, _, h4, _⟩ := h
  exact ⟨dx, fs, d, _, h1, h2, .inl h4, tabOf_list ps⟩
/-- some names -/
structure NS (ns : List Str) : Prop where
  nm : ∀ z ∈ ns, nameB z = true ∧ z.length ≤ 8
  le : ns.length ≤ 20
/-- a house over some names, by its numbers -/
def HouseF (C : Addr) (ns : List Str) (H : Hp) (a : Addr) (F : Str → Int) : Prop := ∃ ps, HAt C H a ps ∧ HNorm ps ∧ (∀ z, valL ps z = F z) ∧ (∀ z, F z ≠ 0 → z ∈ ns) ∧ ∀ z, F z ≤ topN
section
variable {C : Addr} {ns : List Str} {H H' : Hp} {a : Addr} {F G : Str → Int}
theorem HouseF.same (h : HouseF C ns H a F) (s : Same H H') : HouseF C ns H' a F := by
  obtain ⟨ps, h1, h2⟩ := h
  exact ⟨ps, h1.same s, h2⟩
theorem HouseF.nn (h : HouseF C ns H a F) (z : Str) : 0 ≤ F z ∧ F z ≤ topN := by
  obtain ⟨ps, _, n, e, _, t⟩ := h
  exact ⟨e z ▸ valL_nn n z, t z⟩
theorem HouseF.out (h : HouseF C ns H a F) (z : Str) : F z ≠ 0 → z ∈ ns := by
  obtain ⟨ps, _, n, e, o, t⟩ := h
  exact o z
theorem HouseF.cast (h : HouseF C ns H a F) (e : ∀ z, F z = G z) : HouseF C ns H a G := by
  rw [← funext e]
  exact h
theorem HouseF.ins (h : HouseF C ns H a F) : ∃ dx fs, H a = some (.ins C dx fs) := by
  obtain ⟨ps, ⟨dx, fs, d, b, h1, _⟩, _⟩ := h
  exact ⟨dx, fs, h1⟩
theorem HouseF.own (h : HouseF C ns H a F) (n : NS ns) : ∃ (dx l : Addr) (fs : List (Str × V)) (xs : List Str), H a = some (.ins C dx fs) ∧ fs.lookup ("_bays" : Str) = some (.ref l) ∧ H l = some (.tup (xs.map V.str)) ∧ xs.Nodup ∧ xs.length ≤ 20 ∧ (∀ z ∈ xs, z ∈ ns) ∧ ∀ z, z ∈ xs ↔ F z ≠ 0 := by
  obtain ⟨ps, ⟨dx, fs, d, b, h1, h2, h3, h4, h5⟩, nm, e, o, t⟩ := h
  have mem : ∀ z, z ∈ ps.map (·.1) ↔ F z ≠ 0 := fun z => by
    rw [valL_mem nm, e z]
    have := valL_nn nm z
    rw [e z] at this
    omega
  have sub : ∀ z ∈ ps.map (·.1), z ∈ ns := fun z hz => o z ((mem z).mp hz)
  refine ⟨dx, b, fs, ps.map (·.1), h1, h3, ?_, nm.nd, Nat.le_trans (nodup_len nm.nd sub) n.le, sub, mem⟩
  rw [h5, List.map_map]
  rfl
end
def spTold2 : Sp := fun vs H Q _ => ∃ (a : Addr) (kvs : List (Key × V)) (xs : List Str) (N : Str → Option Int), vs = [.ref a] ∧ Rd H a (.dK kvs) ∧ kvs.map (·.1) = xs.map Sum.inr ∧ xs.length < 64 ∧ TabOf kvs N ∧
  (∀ z v, N z = some v → 0 ≤ v ∧ v ≤ 10 ^ 60 - 1) ∧ ∀ (ps : List Pk) (p : Addr) (H' : Hp), HNorm ps → (∀ z, valL ps z = (N z).getD 0) → ps.length < 64 → H p = none → Same H H' → H' p = some (.dK (tabL ps)) → Q (.ref p) H'
def spWith2 (C : Addr) : Sp := fun vs H Q _ => ∃ (t : Addr) (kvs : List (Key × V)) (xs : List Str) (N : Str → Option Int), vs = [.ref t] ∧ Rd H t (.dK kvs) ∧ kvs.map (·.1) = xs.map Sum.inr ∧ xs.length < 64 ∧ TabOf kvs N ∧
  (∀ z v, N z = some v → 0 ≤ v ∧ v ≤ 10 ^ 60 - 1) ∧ ∀ a H' ps, H a = none → Same H H' → HAt C H' a ps → HNorm ps → (∀ z, valL ps z = (N z).getD 0) → Q (.ref a) H'
def spOf2 (C : Addr) : Sp := fun vs H Q _ => ∃ (c : V) (t : Addr) (kvs : List (Key × V)) (xs : List Str) (N : Str → Option Int), vs = [c, .ref t] ∧ H t = some (.dK kvs) ∧ kvs.map (·.1) = xs.map Sum.inr ∧ xs.length < 64 ∧ (∀ z ∈ xs, nameB z = true ∧ z.length ≤ 1000) ∧ TabOf kvs N ∧
  (∀ z v, N z = some v → 0 ≤ v ∧ v ≤ 10 ^ 60 - 1) ∧ ∀ a H' ps, H a = none → Same H H' → HAt C H' a ps → HNorm ps → (∀ z, valL ps z = (N z).getD 0) → Q (.ref a) H'
/-- the house of a table of names -/
theorem with_map {C t : Addr} {H : Hp} {ys ns : List Str} {g : Str → Int} {Q : VK} {E : XK} (et : H t = some (.dK (tabL (mapL ys g)))) (nd : ys.Nodup) (l : ys.length < 64) (g0 : ∀ z, 0 ≤ g z ∧ g z ≤ topN) (out : ∀ z, g z ≠ 0 → z ∈ ys) (sub : ∀ z, g z ≠ 0 → z ∈ ns)
    (q : ∀ r H', H r = none → Same H H' → HouseF C ns H' r g → Q (.ref r) H') : spWith2 C [.ref t] H Q E := by
  have val : ∀ z, (lookL (mapL ys g) z).getD 0 = g z := fun z => by
    rw [mapL_look nd]
    by_cases c : z ∈ ys
    · rw [if_pos c]
      rfl
    · rw [if_neg c]
      by_cases e : g z = 0
      · rw [e]
        rfl
      · exact absurd (out z e) c
  refine ⟨t, _, ys, lookL (mapL ys g), rfl, .inl et, by rw [tabL_keys, mapL_keys], l, tabOf_list _, fun z v e => ?_, fun r H' ps hr s hA n e => q r H' hr s ⟨ps, hA, n, fun z => by rw [e z, val z], sub, fun z => (g0 z).2⟩⟩
  rw [mapL_look nd] at e
  split at e
  · cases e
    exact g0 z
  · cases e
theorem item_F {C a : Addr} {H : Hp} {ns : List Str} {F : Str → Int} {z : Str} {Q : VK} {E : XK} (n : NS ns) (h : HouseF C ns H a F) (hz : z ∈ ns) (q : ∀ H', Same H H' → Q (.int (F z)) H') : ∃ (p dx : Addr) (fs : List (Str × V)), V.ref a = .ref p ∧ H p = some (.ins C dx fs) ∧ spItem C [.ref p, .str z] H Q E := by
  obtain ⟨dx, fs, e⟩ := h.ins
  obtain ⟨ps, hA, nm, ev, o, t⟩ := h
  refine ⟨a, dx, fs, rfl, e, a, z, lookL ps, rfl, hA.house, (n.nm z hz).1, Nat.le_trans (n.nm z hz).2 (by decide), fun H' s => ?_⟩
  have : (lookL ps z).getD 0 = F z := ev z
  rw [this]
  exact q H' s
def spHH (C : Addr) (ok : Int → Int → Prop) (f : Int → Int → Int) : Sp := fun vs H Q _ => ∃ (a b : Addr) (ns : List Str) (F G : Str → Int), vs = [.ref a, .ref b] ∧ NS ns ∧ HouseF C ns H a F ∧ HouseF C ns H b G ∧ (∀ z, ok (F z) (G z)) ∧ ∀ r H', H r = none → Same H H' → HouseF C ns H' r (fun z => f (F z) (G z)) → Q (.ref r) H'
def spCmpH (C : Addr) (R : List Str → (Str → Int) → (Str → Int) → Bool) : Sp := fun vs H Q _ => ∃ (a b : Addr) (ns : List Str) (F G : Str → Int), vs = [.ref a, .ref b] ∧ NS ns ∧ HouseF C ns H a F ∧ HouseF C ns H b G ∧ ∀ H', Same H H' → Q (.bl (R ns F G)) H'
def spEqH (C : Addr) : Sp := fun vs H Q _ => ∃ (a b : Addr) (ns : List Str) (F G : Str → Int), vs = [.ref a, .ref b] ∧ NS ns ∧ HouseF C ns H a F ∧ HouseF C ns H b G ∧ Q (.bl (eqB ns F G)) H
def spBo (C : Addr) : Sp := fun vs H Q _ => ∃ (a b : Addr) (ns : List Str) (F G : Str → Int), vs = [.ref a, .ref b] ∧ NS ns ∧ HouseF C ns H a F ∧ HouseF C ns H b G ∧ ∀ (ys : List Str) (p : Addr) (H' : Hp), ys.Nodup → ys.length < 64 → (∀ z, z ∈ ys ↔ F z ≠ 0 ∨ G z ≠ 0) → H p = none → Same H H' → H' p = some (.lst (ys.map V.str)) → Q (.ref p) H'
section
variable {P : Program} {w : World} {K : PySem.W.Frag} {mg : Str → Option Value} {base : Heap}
theorem ok_told2 {f fN fA fW : Addr} {fd fdN fdA fdW : FuncData} (F : Fun K "numbers_told" "numbers_told" sTold f fd) (T : Nm2 mg) (T3 : Nm3 mg) (FA : Fun K "ascending" "ascending" sAsc fA fdA) (FN : Fun K "is_number" "is_number" sNumber fN fdN) (FW : Fun K "is_within" "is_within" sWithin fW fdW)
    (gW : mg "is_within" = some (.ref fW)) (gA : mg "ascending" = some (.ref fA)) (gN : mg "is_number" = some (.ref fN)) : FnOk P w K mg base CX0 3 f fd ["table"] spTold2 := by
  have GN : FnOk P w K mg base CX0 2 fN fdN ["value"] spNumber := ok_number FN T FW gW
  have bN : Binds K fdN ["value"] [] := FN.binds fun _ _ _ _ _ _ us hl => match us, hl with | [_], _ => rfl
  have GA : FnOk P w K mg base CX0 1 fA fdA ["things"] (spAsc K) := ok_asc FA T3
  have bA : Binds K fdA ["things"] [] := FA.binds fun _ _ _ _ _ _ us hl => match us, hl with | [_], _ => rfl
  refine F.ok scT (fun vs H Q E h => ?_) (fun cdv A outer s H vs Q E hr h => ?_)
  · obtain ⟨a, kvs, xs, N, rfl, _⟩ := h
    rfl
  · obtain ⟨a, kvs, xs, N, rfl, ha, ek, hl, tb, hn, k⟩ := h
    have hu : (A.deeper (envOfC "numbers_told" (defScope sTold) s.heap.objs.size f cdv)).units + 1 < cLine := (by have := hr.units; omega)
    have hr1 : Room 1 _ := hr.mono (by decide)
    refine ⟨_, (pss_cons (ps_set (i := 1) scT.nd rfl (Or.inl rfl) (pe_call GA hr1 (by rfl) gA FA.kp bA .nil pass0 (pa_cons (pv 0) pa_nil)))
    (pss_cons (ps_for PassesOwn.never rfl (pi_list (pv 1)) (pg_name (i := 2) scT.nd rfl (Or.inl rfl)) (pss_one (ps_if (pt_not (pt_val (pe_call GN hr (by rfl) gN FN.kp bN .nil pass0 (pa_cons (pe_dget hu (pv 0) (pv 2) (fun _ _ => rfl)) pa_nil)))) (pss_one ps_never) pss_nil)))
    (pss_one (ps_ret (pe_dc (own := [("key", 2)]) rfl scT.nd (pi_list (pv 1)) (blkOk_by (own := [("key", 2)]) (N := nTold) (sc := defScope sTold) (by decide +kernel)) (fun _ _ _ _ _ => (pg_name (i := 2) scT.nd rfl (Or.inl rfl))) (fun _ _ _ _ _ => pts_one (pt_cmpR op_gt (pe_dget hu (pv 0) (pv 2) (fun _ _ => rfl)) pe_int (nomark _))) (fun _ _ _ _ _ => (pv 2)) (fun _ _ _ _ _ => (pe_dget hu (pv 0) (pv 2) (fun _ _ => rfl)))))))), ?_⟩
    refine ⟨_, rfl, a, xs, rfl, ?_, hl, fun ys p H1 pm srt hp s1 e1 => ?_⟩
    · exact .inr (.inr ⟨kvs, ha, ek⟩)
    have hlen : ys.length < 64 := Nat.lt_of_le_of_lt (Nat.le_of_eq pm.length_eq) (Nat.lt_of_le_of_lt (TSet.ded_len xs) hl)
    have hys : ∀ z, z ∈ ys ↔ (N z).isSome = true := fun z => (pm.mem_iff.trans (TSet.ded_mem xs z)).trans (tb.mem ek z)
    have hnd : ys.Nodup := pm.nodup_iff.mpr (TSet.ded_nodup xs)
    have hat : ∀ i z, ys[i]? = some z → ∃ v, N z = some v ∧ 0 ≤ v ∧ v ≤ 10 ^ 60 - 1 := fun i z hz => by
      obtain ⟨v, hv⟩ := Option.isSome_iff_exists.mp ((hys z).mp (List.mem_of_getElem? hz))
      exact ⟨v, hv, hn z v hv⟩
    have ha1 : Rd H1 a (.dK kvs) := ha.elim (fun e => .inl (s1 a _ e)) fun ⟨o, e⟩ => .inr ⟨o, s1 a _ e⟩
    refine ⟨_, rfl, p, rfl, ⟨_, SqL.of e1⟩, ?_⟩
    refine for_it (walk_list (xs := ys.map V.str)) (fun i σ H' => H1 = H' ∧ ∃ x, σ = [some (.ref a), some (.ref p), x]) ⟨rfl, _, rfl⟩ (fun i σ H' _ q => q.1 ▸ SqL.of e1) (fun i x σ H' H2 hi q y => ?_) (fun σ H' q => ?_)
    · obtain ⟨rfl, x0, rfl⟩ := q
      obtain ⟨rfl, hx⟩ := y
      rw [List.getElem?_map] at hx
      obtain ⟨z, hz, rfl⟩ := Option.map_eq_some_iff.mp hx
      obtain ⟨v, hv, v0, v1⟩ := hat i z hz
      refine ⟨_, rfl, _, rfl, a, .int v, rfl, ?_, v, rfl, _, rfl, ?_⟩
      · have g := tb.get ha1 z
        rw [hv] at g
        exact g
      rw [decide_eq_true v0, decide_eq_true v1]
      exact ⟨rfl, _, rfl⟩
    · obtain ⟨rfl, x0, rfl⟩ := q
      refine ⟨_, rfl, p, rfl, ⟨_, SqL.of e1⟩, fun D hD => ?_⟩
      have nD : p ≠ D := ne_of_none e1 hD
      refine OwR.dc_it (walk_list (xs := ys.map V.str)) (fun i H2 => Same H1 H2 ∧ H2 D = some (.dK (tabL (mkL (ys.take i) fun z => (N z).getD 0)))) ⟨Same.of_new hD, upd_same⟩ (fun i H2 _ q => SqL.of (q.1 p _ e1)) (fun i x H2 H3 hi q y => ?_) (fun H2 q => ?_)
      · obtain ⟨s2, er⟩ := q
        obtain ⟨rfl, hx⟩ := y
        rw [List.getElem?_map] at hx
        obtain ⟨z, hz, rfl⟩ := Option.map_eq_some_iff.mp hx
        obtain ⟨v, hv, v0, v1⟩ := hat i z hz
        have ha2 : Rd H3 a (.dK kvs) := ha1.elim (fun e => .inl (s2 a _ e)) fun ⟨o, e⟩ => .inr ⟨o, s2 a _ e⟩
        have g := tb.get ha2 z
        rw [hv] at g
        have hi2 : i < ys.length := by rw [List.length_map] at hi; exact hi
        have hz0 := at_new hnd hz
        have hF : (N z).getD 0 = v := by rw [hv]; rfl
        have lm : (tabL (mkL (ys.take i) fun z => (N z).getD 0)).length ≤ i := by
          unfold tabL mkL
          rw [List.length_map, List.length_map]
          refine Nat.le_trans (List.length_filter_le _ _) ?_
          rw [List.length_take]
          omega
        refine ⟨rfl, ?_⟩
        refine ⟨_, rfl, _, rfl, a, .int v, rfl, g, v, 0, rfl, rfl, _, rfl, ?_⟩
        by_cases c : 0 < v
        · rw [decide_eq_true c]
          refine iteT ?_
          refine ⟨_, rfl, _, rfl, _, rfl, a, .int v, rfl, g, ?_⟩
          refine ⟨_, Sum.inr z, rfl, er, Nat.lt_of_le_of_lt lm (by have := sizeLine_eq; omega), ?_⟩
          refine ⟨fun b o e => ?_, ?_⟩
          · rw [upd_ne (ne_of_none e hD)]
            exact s2 b o e
          · rw [put_tab v (by rw [mkL_keys]; exact fun h => hz0 (List.mem_filter.mp h).1), mkL_yes hz (by rw [hF]; exact c), hF]
            exact upd_same
        · rw [decide_eq_false c]
          refine iteF ?_
          refine ⟨s2, ?_⟩
          rw [mkL_no hz (by rw [hF]; exact c)]
          exact er
      · obtain ⟨s2, er⟩ := q
        rw [List.length_map, List.take_length] at er
        have nn : ∀ z, 0 ≤ (N z).getD 0 := fun z => by
          cases h8 : N z with
          | none => exact Int.le_refl 0
          | some u => exact (hn z u h8).1
        refine k _ D H2 (mkL_norm srt hnd) (mkL_val hnd (fun z c => (hys z).mpr ?_) nn) ?_ (s1.free hD) (s1.trans s2) er
        · cases h8 : N z with
          | none => rw [h8] at c; exact absurd rfl c
          | some u => rfl
        · unfold mkL
          rw [List.length_map]
          exact Nat.lt_of_le_of_lt (List.length_filter_le _ _) hlen
theorem HChk.told2 (c : HChk P w K mg base) : ∃ f fd, mg "numbers_told" = some (.ref f) ∧ PySem.W.keepIn K (.ref f) = true ∧ Binds K fd ["table"] [] ∧ FnOk P w K mg base CX0 3 f fd ["table"] spTold2 := by
  obtain ⟨f, fd, g, F⟩ := c.to
  obtain ⟨f1, fd1, g1, F1⟩ := c.chk.as
  obtain ⟨f2, fd2, g2, F2⟩ := c.nu
  obtain ⟨f3, fd3, g3, F3⟩ := c.chk.wi
  exact ⟨f, fd, g, F.kp, F.binds fun _ _ _ _ _ _ us hl => match us, hl with | [_], _ => rfl, ok_told2 F c.chk.T c.chk.T3 F1 F2 F3 g3 g1 g2⟩
theorem ok_with2 {C f fH : Addr} {fd fdH : FuncData} (hc : HouseC K C) (FH : Fun K "__init__" "House.__init__" sHouse0 fH fdH) (MH : Mk K C fH) (gH : mg "House" = some (.ref C)) (F : Fun K "house_with" "house_with" sWith f fd) (c : HChk P w K mg base) : FnOk P w K mg base CX0 6 f fd ["table"] (spWith2 C) := by
  obtain ⟨fT, fdT, gT, kT, bT, GT⟩ := c.told2
  have GH := ok_H0 (P := P) (w := w) (mg := mg) (base := base) hc FH c
  refine F.ok scWi (fun vs H Q E h => ?_) (fun cdv A outer s H vs Q E hr h => ?_)
  · obtain ⟨a, kvs, xs, N, rfl, _⟩ := h
    rfl
  · obtain ⟨a, kvs, xs, N, rfl, ha, ek, hl, tb, hn, k⟩ := h
    have hr3 : Room 3 _ := hr.mono (by decide)
    refine ⟨_, (pss_cons (ps_set (i := 1) scWi.nd rfl (Or.inl rfl) (OwR.pe_makeR0 MH GH hr (by rfl) gH pass0))
    (pss_cons (ps_fld (pv 1) (pe_call GT hr3 (by rfl) gT kT bT .nil pass0 (pa_cons (pv 0) pa_nil)) rfl)
    (pss_cons (ps_fld (pv 1) (pe_callTy (OwR.call_tupleD rfl) (by rfl) c.chk.T4.n_tuple (by decide +kernel) (pa_cons (pe_fld (pv 1) rfl) pa_nil)) rfl)
    (pss_one (ps_ret (pv 1)))))), ?_⟩
    refine fun x dx h1 h2 nd => ⟨x, dx, rfl, upd_same, fun H1 fs s1 e1 l1 _ => ⟨rfl, ?_⟩⟩
    have sm := made_same h1 h2 s1
    refine ⟨_, rfl, a, kvs, xs, N, rfl, Same.rd sm ha, ek, hl, tb, hn, fun ps q H2 nps vps lps hq s2 e2 => ?_⟩
    have ex2 := s2 x _ e1
    have nq : q ≠ x := fun e => by
      rw [e, e1] at hq
      cases hq
    refine ⟨_, rfl, x, C, dx, fs, rfl, ex2, hc.cls, hc.n1, by omega, ?_⟩
    have lk1 : (putF ("_numbers" : Str) (V.ref q) fs).lookup ("_numbers" : Str) = some (.ref q) := by
      rw [lookup_putF, if_pos rfl]
    refine ⟨_, rfl, x, C, dx, _, .ref q, rfl, upd_same, hc.cls, hc.n1, lk1, ?_⟩
    refine ⟨q, tabL ps, rfl, .inl (by rw [upd_ne nq]; exact e2), fun r hr0 => ?_⟩
    have nr : x ≠ r := fun e => by
      rw [← e, upd_same] at hr0
      cases hr0
    refine ⟨_, rfl, x, C, dx, _, rfl, by rw [upd_ne nr]; exact upd_same, hc.cls, hc.n2, by have := length_putF ("_numbers" : Str) (V.ref q) fs; omega, ?_⟩
    refine ⟨_, rfl, ?_⟩
    have nqr : q ≠ r := fun z => by
      rw [← z, upd_ne nq, e2] at hr0
      cases hr0
    refine k x _ ps h1 (fun b o e => ?_) ⟨dx, _, q, r, upd_same, ?_, ?_, ?_, ?_⟩ nps vps
    · have n := ne_of_none e h1
      have hb2 := s2 b _ (sm b _ e)
      have nb : b ≠ r := fun z => by
        rw [← z, upd_ne n, hb2] at hr0
        cases hr0
      rw [upd_ne n, upd_ne nb, upd_ne n]
      exact hb2
    · rw [lookup_putF, if_neg (by decide)]
      exact lk1
    · rw [lookup_putF, if_pos rfl]
    · rw [upd_ne nq, upd_ne nqr, upd_ne nq]
      exact e2
    · rw [upd_ne (Ne.symm nr), upd_same]
      unfold tabL
      rw [List.map_map]
      rfl
theorem ok_Of2 {C f fH fW : Addr} {fd fdH fdW : FuncData} (hc : HouseC K C) (FH : Fun K "__init__" "House.__init__" sHouse0 fH fdH) (MH : Mk K C fH) (gH : mg "House" = some (.ref C)) (FW : Fun K "house_with" "house_with" sWith fW fdW) (gW : mg "house_with" = some (.ref fW)) (F : Fun K "of" "House.of" sHouseOf f fd) (c : HChk P w K mg base) (n_dict : mg "dict" = none) : FnOk P w K mg base CX0 7 f fd ["cls", "table"] (spOf2 C) := by
  have GW : FnOk P w K mg base CX0 6 fW fdW ["table"] (spWith2 C) := ok_with2 hc FH MH gH FW c
  have bW : Binds K fdW ["table"] [] := FW.binds fun _ _ _ _ _ _ us hl => match us, hl with | [_], _ => rfl
  obtain ⟨fM, fdM, gM, kM, bM, GM⟩ := c.chk.name
  refine F.ok scHO (fun vs H Q E h => ?_) (fun cdv A outer s H vs Q E hr h => ?_)
  · obtain ⟨c, t, kvs, xs, N, rfl, _⟩ := h
    rfl
  · obtain ⟨c0, t, kvs, xs, N, rfl, ht, ek, hl, hg, tb, hn, k⟩ := h
    have hr2 : Room 1 _ := hr.mono (by decide)
    refine ⟨_, (pss_cons (ps_if (pt_not (pt_val (pe_callB call_isi (by rfl) c.chk.T.n_isinstance (by decide +kernel) (pa_cons (pv 1) (pa_cons (pe_bltn (v := .ty "dict") (by rfl) n_dict (by decide +kernel) rfl) pa_nil))))) (pss_one ps_never) pss_nil)
    (pss_cons (ps_lock (ps_for PassesOwn.never rfl (pi_keys (pv 1)) (pg_name (i := 2) scHO.nd rfl (Or.inl rfl)) (pss_one (ps_if (pt_not (pt_val (pe_call GM hr2 (by rfl) gM kM bM .nil pass0 (pa_cons (pv 2) pa_nil)))) (pss_one ps_never) pss_nil))))
    (pss_one (ps_ret (pe_call GW hr (by rfl) gW FW.kp bW .nil pass0 (pa_cons (pv 1) pa_nil)))))), ?_⟩
    refine ⟨_, rfl, .ref t, .ty "dict", _, _, true, rfl, .ty _, .base (.dK ht), kit_ty (by decide +kernel), true, rfl, ?_⟩
    refine iteF ?_
    refine ⟨t, _, ht, True.intro, fun od => ?_⟩
    have hkl : kvs.length = xs.length := by
      have := congrArg List.length ek
      rw [List.length_map, List.length_map] at this
      exact this
    refine ⟨_, rfl, t, od, rfl, .inl ⟨kvs, upd_same, ?_⟩⟩
    refine for_it (walk_keys (kvs := kvs)) (fun i σ H' => Same (upd H t (.frz od (.dK kvs))) H' ∧ ∃ x, σ = [some c0, some (.ref t), x]) ⟨Same.refl _, _, rfl⟩ (fun i σ H' _ q => q.1 t _ upd_same) (fun i x σ H' H2 hi q y => ?_) (fun σ H' q => ?_)
    · obtain ⟨s1, x0, rfl⟩ := q
      obtain ⟨rfl, ky, v, hk, rfl⟩ := y
      have e1 : xs[i]?.map Sum.inr = some ky := by
        have e2 : (kvs.map (·.1))[i]? = some ky := by rw [List.getElem?_map, hk]; rfl
        rw [ek, List.getElem?_map] at e2
        exact e2
      obtain ⟨z, hz, rfl⟩ := Option.map_eq_some_iff.mp e1
      have g := hg z (List.mem_of_getElem? hz)
      refine ⟨_, rfl, _, rfl, .inl ⟨z, rfl, g.2, fun H3 s3 => ⟨_, rfl, ?_⟩⟩⟩
      rw [g.1]
      exact ⟨s1.trans s3, _, rfl⟩
    · obtain ⟨s1, x0, rfl⟩ := q
      refine ⟨s1 t _ upd_same, ?_⟩
      refine ⟨_, rfl, t, kvs, xs, N, rfl, .inl upd_same, ek, hl, tb, hn, fun a H2 ps ha s2 hA np vp => ?_⟩
      have s3 : Same H (upd H' t (.dK kvs)) := fun b o e => by
        by_cases n : b = t
        · subst n
          rw [upd_same, ← e, ht]
        · rw [upd_ne n]
          exact s1 b o (by rw [upd_ne n]; exact e)
      exact k a H2 ps (s3.free ha) (s3.trans s2) hA np vp
/-! ### walks over a house -/
theorem scHIt : FnScope ["self"] ["self"] (defScope sHIter) := ⟨rfl, rfl, rfl, by decide +kernel, rfl, by decide +kernel, by decide +kernel⟩
theorem ok_hiter {f : Addr} {fd : FuncData} (F : Fun K "__iter__" "House.__iter__" sHIter f fd) (n_iter : mg "iter" = none) (C : Addr) (c : OwR.OwnIt K C f "_bays") : OwR.FnSR P w K mg base CX0 1 f (OwR.spIt C K "_bays") := by
  have b : Binds K fd ["self"] [] := F.binds fun _ _ _ _ _ _ us hl => match us, hl with | [_], _ => rfl
  obtain ⟨oc, od, kV, doc, pm, an, cdv, ct, osl, rfl, lk, hcd⟩ := F.ex
  have len : ∀ (s : Shared) (vs : List V) (H : Hp) (Q : VK) (E : XK), OwR.spIt C K "_bays" s vs H Q E → vs.length = ([("self" : Str)]).length := fun s vs H Q E h => by
    obtain ⟨a, dx, l, fs, zs, rfl, _⟩ := h
    rfl
  refine OwR.FnS.raw (OwR.fn_ofS (k := 0) (sp := OwR.spIt C K "_bays") lk hcd scHIt len fun A outer s H vs Q E hr h => ?_) len b
  obtain ⟨a, dx, l, fs, zs, rfl, ha, hf, sq, q⟩ := h
  refine ⟨_, (pss_one (ps_ret (pe_callB OwR.call_iterTN (by rfl) n_iter (by decide +kernel) (pa_cons (pe_fld (pv 0) rfl) pa_nil)))), ?_⟩
  exact ⟨_, rfl, a, C, dx, fs, .ref l, rfl, ha, c.cls, c.na, hf, l, zs, rfl, sq, q⟩
theorem scHLn : FnScope ["self"] ["self"] (defScope sHLen) := ⟨rfl, rfl, rfl, by decide +kernel, rfl, by decide +kernel, by decide +kernel⟩
theorem ok_hlen {f fI : Addr} {fd : FuncData} (F : Fun K "__len__" "House.__len__" sHLen f fd) (T : Nm2 mg) (C : Addr) (c : OwR.OwnIt K C fI "_bays") : FnR P w K mg base CX0 1 f (OwR.spLn C K "_bays") := by
  refine OwR.raw0 (F.ok (k := 0) (ps := ["self"]) scHLn (fun vs H Q E h => ?_) (fun cdv A outer s H vs Q E hr h => ?_)) (F.binds fun _ _ _ _ _ _ us hl => match us, hl with | [_], _ => rfl)
  · obtain ⟨a, dx, l, fs, zs, rfl, _⟩ := h
    rfl
  · obtain ⟨a, dx, l, fs, zs, rfl, ha, hf, sq, q⟩ := h
    refine ⟨_, (pss_one (ps_ret (pe_callB call_len_seq (by rfl) T.n_len boot_len (pa_cons (pe_fld (pv 0) rfl) pa_nil)))), ?_⟩
    exact ⟨_, rfl, a, C, dx, fs, .ref l, rfl, ha, c.cls, c.na, hf, l, zs, rfl, .inr sq, q⟩
end
end K10
end
section
set_option pp.maxSteps 400
set_option pp.deepTerms.threshold 6
namespace K10
open PySem PySem.Spec PyProof.Rows L2
/-- what sums and comparisons of houses lean on -/
structure HOp (P : Program) (w : World) (K : PySem.W.Frag) (mg : Str → Option Value) (base : Heap) (C fAt fI fL : Addr) : Prop where
  chk : HChk P w K mg base
  hc : HouseC K C
  n_list : mg "list" = none
  it : OwR.OwnIt K C fI "_bays"
  ln : OwR.Len1 K C fL
  FIt : ∀ C, OwR.OwnIt K C fI "_bays" → OwR.FnSR P w K mg base CX0 1 fI (OwR.spIt C K "_bays")
  FLn : ∀ C, OwR.Len1 K C fL → OwR.OwnIt K C fI "_bays" → FnR P w K mg base CX0 1 fL (OwR.spLn C K "_bays")
  spc : OwR.Spc K C fAt "__getitem__"
  GI : FnR P w K mg base CX0 2 fAt (spItem C)
  wit : ∃ f fd, mg "house_with" = some (.ref f) ∧ Fun K "house_with" "house_with" sWith f fd ∧ FnOk P w K mg base CX0 6 f fd ["table"] (spWith2 C)
section
variable {P : Program} {w : World} {K : PySem.W.Frag} {mg : Str → Option Value} {base : Heap}
abbrev nBo : List Str := ["one", "other"]
theorem scBo : FnScope nBo ["one", "other"] (defScope sBaysOf) := ⟨rfl, rfl, rfl, by decide +kernel, rfl, by decide +kernel, by decide +kernel⟩
theorem ok_Bo {C fAt fI fL f : Addr} {fd : FuncData} (O : HOp P w K mg base C fAt fI fL) (F : Fun K "bays_of" "bays_of" sBaysOf f fd) : FnOk P w K mg base CX0 5 f fd ["one", "other"] (spBo C) := by
  obtain ⟨c, hc, n_list, it, ln, FIt, FLn, _, _, _⟩ := O
  obtain ⟨fA, fdA, gA, kA, bA, GA⟩ := c.chk.asc
  refine F.ok scBo (fun vs H Q E h => ?_) (fun cdv A outer s H vs Q E hr h => ?_)
  · obtain ⟨a, b, ns, F, G, rfl, _⟩ := h
    rfl
  · obtain ⟨a, b, ns, F, G, rfl, n, hF, hG, k⟩ := h
    have hr1 : Room 1 _ := hr.mono (by decide)
    have hr4 : Room (1 + 3) _ := hr.mono (by decide)
    refine ⟨_, (pss_one (ps_ret (pe_call GA hr1 (by rfl) gA kA bA .nil pass0 (pa_cons (pe_op op_cat (pe_callTy (OwR.call_listO FIt FLn rfl hr4) (by rfl) n_list (by decide +kernel) (pa_cons (pv 0) pa_nil)) (pe_callTy (OwR.call_listO FIt FLn rfl hr4) (by rfl) n_list (by decide +kernel) (pa_cons (pv 1) pa_nil))) pa_nil)))), ?_⟩
    have sz := sizeLine_eq
    obtain ⟨dx, l, fs, xs, ea, lk, el, nd, le, sub, mem⟩ := hF.own n
    obtain ⟨dy, l2, gs, ys, eb, lk2, el2, nd2, le2, sub2, mem2⟩ := hG.own n
    refine ⟨_, rfl, a, C, dx, l, fs, _, rfl, ea, it, ln, lk, SqT.of el, fun q1 h1 => ?_⟩
    have s1 := Same.of_new (o := .lst (xs.map V.str)) h1
    refine ⟨_, rfl, b, C, dy, l2, gs, _, rfl, s1 _ _ eb, it, ln, lk2, SqT.of (s1 _ _ el2), fun q2 h2 => ?_⟩
    have s2 := Same.of_new (o := .lst (ys.map V.str)) h2
    refine ⟨q1, q2, _, _, rfl, rfl, s2 _ _ upd_same, upd_same, by rw [List.length_map, List.length_map]; omega, fun q3 h3 => ?_⟩
    have s3 := Same.of_new (o := .lst (xs.map V.str ++ ys.map V.str)) h3
    refine ⟨q3, xs ++ ys, rfl, .inl (SqL.of ?_), by rw [List.length_append]; omega, fun zs p H' pm srt hp s4 e4 => ?_⟩
    · rw [List.map_append]
      exact upd_same
    have s := (s1.trans s2).trans s3
    refine k zs p H' (pm.nodup_iff.mpr (TSet.ded_nodup _)) ?_ (fun z => ?_) (s.free hp) (s.trans s4) e4
    · have := TSet.ded_len (xs ++ ys)
      rw [pm.length_eq]
      rw [List.length_append] at this
      omega
    · rw [pm.mem_iff, TSet.ded_mem, List.mem_append, mem z, mem2 z]
abbrev nAdd : List Str := ["self", "other", "bay"]
theorem scAdd : FnScope nAdd ["self", "other"] (defScope sHAdd) := ⟨rfl, rfl, rfl, by decide +kernel, rfl, by decide +kernel, by decide +kernel⟩
theorem ok_add {C fAt fI fL fB f : Addr} {fdB fd : FuncData} (O : HOp P w K mg base C fAt fI fL) (FB : Fun K "bays_of" "bays_of" sBaysOf fB fdB) (gB : mg "bays_of" = some (.ref fB)) (F : Fun K "__add__" "House.__add__" sHAdd f fd) : FnR P w K mg base CX0 7 f (spHH C (fun x y => x + y ≤ topN) (fun x y => x + y)) := by
  obtain ⟨_, _, gW, FW, GW⟩ := O.wit
  have bW : Binds K _ ["table"] [] := FW.binds fun _ _ _ _ _ _ us hl => match us, hl with | [_], _ => rfl
  have cI := O.spc
  have GI := O.GI
  have FIt := O.FIt
  have GB : FnOk P w K mg base CX0 5 fB fdB ["one", "other"] (spBo C) := ok_Bo O FB
  have bB : Binds K fdB ["one", "other"] [] := FB.binds fun _ _ _ _ _ _ us hl => match us, hl with | [_, _], _ => rfl
  refine OwR.raw0 (F.ok (k := 6) (ps := ["self", "other"]) scAdd (fun vs H Q E h => ?_) (fun cdv A outer s H vs Q E hr h => ?_)) (F.binds fun _ _ _ _ _ _ us hl => match us, hl with | [_, _], _ => rfl)
  · obtain ⟨a, b, ns, F, G, rfl, _⟩ := h
    rfl
  · obtain ⟨a, b, ns, F, G, rfl, n, hF, hG, okz, k⟩ := h
    have hr6 : Room 6 _ := hr
    have hr5 : Room 5 _ := hr.mono (by decide)
    have hr3 : Room (2 + 1) _ := hr.mono (by decide)
    have hr1 : Room 1 _ := hr.mono (by decide)
    refine ⟨_, (pss_one (ps_ret (pe_call GW hr6 (by rfl) gW FW.kp bW .nil pass0 (pa_cons (pe_dc (own := [("bay", 2)]) rfl scAdd.nd (pi_list (pe_call GB hr5 (by rfl) gB FB.kp bB .nil pass0 (pa_cons (pv 0) (pa_cons (pv 1) pa_nil)))) (blkOk_by (own := [("bay", 2)]) (N := nAdd) (sc := defScope sHAdd) (by decide +kernel)) (fun _ _ _ _ _ => (pg_name (i := 2) scAdd.nd rfl (Or.inl rfl))) (fun _ _ _ _ _ => pts_nil) (fun _ _ _ _ _ => (pv 2)) (fun _ _ _ _ _ => (pe_op op_add (OwR.pe_item cI GI hr3 pass0 (pv 0) (pv 2)) (OwR.pe_item cI GI hr3 pass0 (pv 1) (pv 2))))) pa_nil)))), ?_⟩
    have sz := sizeLine_eq
    refine ⟨_, rfl, _, rfl, a, b, ns, F, G, rfl, n, hF, hG, fun ys p H1 nd ly mem hp sF ep => ?_⟩
    have subn : ∀ z ∈ ys, z ∈ ns := fun z hz => ((mem z).mp hz).elim (hF.out z) (hG.out z)
    refine ⟨p, rfl, ⟨_, SqL.of ep⟩, fun D hD => ?_⟩
    refine OwR.dc_it (walk_list (xs := ys.map V.str)) (fun i H2 => Same H1 H2 ∧ H2 D = some (.dK (tabL (mapL (ys.take i) (fun z => F z + G z))))) ⟨Same.of_new hD, upd_same⟩ (fun i H2 _ q => SqL.of (q.1 _ _ ep)) (fun i x H2 H3 hi q y => ?_) (fun H2 q => ?_)
    · obtain ⟨s2, er⟩ := q
      obtain ⟨rfl, hx⟩ := y
      rw [List.getElem?_map] at hx
      obtain ⟨z, hz, rfl⟩ := Option.map_eq_some_iff.mp hx
      have zn : z ∈ ns := subn z (List.mem_of_getElem? hz)
      have lm : (tabL (mapL (ys.take i) (fun z => F z + G z))).length ≤ i := by
        unfold tabL mapL
        rw [List.length_map, List.length_map, List.length_take]
        omega
      rw [List.length_map] at hi
      refine ⟨rfl, ?_⟩
      refine ⟨_, rfl, ?_⟩
      have hF2 := (hF.same sF).same s2
      have hG2 := (hG.same sF).same s2
      refine ⟨_, rfl, _, rfl, item_F n hF2 zn fun H4 s4 => ?_⟩
      refine ⟨_, rfl, _, rfl, item_F n (hG2.same s4) zn fun H5 s5 => ?_⟩
      have sE := s4.trans s5
      refine ⟨_, _, rfl, rfl, ?_⟩

      refine ⟨_, Sum.inr z, rfl, sE _ _ er, Nat.lt_of_le_of_lt lm (by omega), ?_⟩
      refine ⟨fun b o e => ?_, ?_⟩
      · rw [upd_ne (ne_of_none e hD)]
        exact sE _ _ (s2 b o e)
      · rw [mapL_snoc hz, put_tab _ (by rw [mapL_keys]; exact at_new nd hz)]
        exact upd_same
    · obtain ⟨s2, er⟩ := q
      rw [List.length_map, List.take_length] at er
      have nz : ∀ z, F z + G z ≠ 0 → F z ≠ 0 ∨ G z ≠ 0 := fun z c => by omega
      exact with_map (E := E0) er nd ly (fun z => ⟨by have := (hF.nn z).1; have := (hG.nn z).1; omega, okz z⟩) (fun z c => (mem z).mpr (nz z c)) (fun z c => (nz z c).elim (hF.out z) (hG.out z)) fun r H' hr s' hh => k r H' ((sF.trans s2).free hr) ((sF.trans s2).trans s') hh
abbrev nSub : List Str := ["self", "other", "bay"]
theorem scSub : FnScope nSub ["self", "other"] (defScope sHSub) := ⟨rfl, rfl, rfl, by decide +kernel, rfl, by decide +kernel, by decide +kernel⟩
theorem ok_sub {C fAt fI fL f : Addr} {fd : FuncData} (O : HOp P w K mg base C fAt fI fL) (F : Fun K "__sub__" "House.__sub__" sHSub f fd) : FnR P w K mg base CX0 7 f (spHH C (fun x y => y ≤ x) (fun x y => x - y)) := by
  obtain ⟨_, _, gW, FW, GW⟩ := O.wit
  have bW : Binds K _ ["table"] [] := FW.binds fun _ _ _ _ _ _ us hl => match us, hl with | [_], _ => rfl
  have cI := O.spc
  have GI := O.GI
  have FIt := O.FIt
  refine OwR.raw0 (F.ok (k := 6) (ps := ["self", "other"]) scSub (fun vs H Q E h => ?_) (fun cdv A outer s H vs Q E hr h => ?_)) (F.binds fun _ _ _ _ _ _ us hl => match us, hl with | [_, _], _ => rfl)
  · obtain ⟨a, b, ns, F, G, rfl, _⟩ := h
    rfl
  · obtain ⟨a, b, ns, F, G, rfl, n, hF, hG, okz, k⟩ := h
    have hr6 : Room 6 _ := hr
    have hr5 : Room 5 _ := hr.mono (by decide)
    have hr3 : Room (2 + 1) _ := hr.mono (by decide)
    have hr1 : Room 1 _ := hr.mono (by decide)
    refine ⟨_, (pss_cons (ps_for PassesOwn.never rfl (OwR.pi_own (pv 1) FIt hr1 pass0) (pg_name (i := 2) scSub.nd rfl (Or.inl rfl)) (pss_one (ps_if (pt_cmpR op_lt (OwR.pe_item cI GI hr3 pass0 (pv 0) (pv 2)) (OwR.pe_item cI GI hr3 pass0 (pv 1) (pv 2)) (nomark _)) (pss_one ps_never) pss_nil)))
    (pss_one (ps_ret (pe_call GW hr6 (by rfl) gW FW.kp bW .nil pass0 (pa_cons (pe_dc (own := [("bay", 2)]) rfl scSub.nd (OwR.pi_own (pv 0) FIt hr1 pass0) (blkOk_by (own := [("bay", 2)]) (N := nSub) (sc := defScope sHSub) (by decide +kernel)) (fun _ _ _ _ _ => (pg_name (i := 2) scSub.nd rfl (Or.inl rfl))) (fun _ _ _ _ _ => pts_nil) (fun _ _ _ _ _ => (pv 2)) (fun _ _ _ _ _ => (pe_op op_sub (OwR.pe_item cI GI hr3 pass0 (pv 0) (pv 2)) (OwR.pe_item cI GI hr3 pass0 (pv 1) (pv 2))))) pa_nil))))), ?_⟩
    have sz := sizeLine_eq
    obtain ⟨dx, l, fs, ys, ea, lk, el, nd, le, subn, mem⟩ := hF.own n
    obtain ⟨dy, l2, gs, xs, eb, lk2, el2, _, le2, subm, _⟩ := hG.own n
    refine ⟨_, rfl, b, C, dy, l2, gs, _, rfl, eb, O.it, lk2, SqT.of el2, ?_⟩
    refine for_it (walk_tup (xs := xs.map V.str)) (fun i σ H' => Same H H' ∧ ∃ x, σ = [some (.ref a), some (.ref b), x]) ⟨Same.refl _, _, rfl⟩ (fun i σ H' _ q => SqT.of (q.1 _ _ el2)) (fun i x σ H' H2 hi q y => ?_) (fun σ H1 q => ?_)
    · obtain ⟨sF, x0, rfl⟩ := q
      obtain ⟨rfl, hx⟩ := y
      rw [List.getElem?_map] at hx
      obtain ⟨z, hz, rfl⟩ := Option.map_eq_some_iff.mp hx
      have zn : z ∈ ns := subm z (List.mem_of_getElem? hz)
      refine ⟨_, rfl, _, rfl, item_F n (hF.same sF) zn fun H4 s4 => ?_⟩
      refine ⟨_, rfl, _, rfl, item_F n ((hG.same sF).same s4) zn fun H5 s5 => ?_⟩
      refine ⟨_, _, rfl, rfl, _, rfl, ?_⟩
      rw [decide_eq_false (by have := okz z; omega)]
      exact iteF ⟨(sF.trans s4).trans s5, _, rfl⟩
    obtain ⟨sF, x0, rfl⟩ := q
    refine ⟨_, rfl, a, C, dx, l, fs, _, rfl, sF _ _ ea, O.it, lk, SqT.of (sF _ _ el), fun D hD => ?_⟩
    refine OwR.dc_it (walk_tup (xs := ys.map V.str)) (fun i H2 => Same H1 H2 ∧ H2 D = some (.dK (tabL (mapL (ys.take i) (fun z => F z - G z))))) ⟨Same.of_new hD, upd_same⟩ (fun i H2 _ q => SqT.of (q.1 _ _ (sF _ _ el))) (fun i x H2 H3 hi q y => ?_) (fun H2 q => ?_)
    · obtain ⟨s2, er⟩ := q
      obtain ⟨rfl, hx⟩ := y
      rw [List.getElem?_map] at hx
      obtain ⟨z, hz, rfl⟩ := Option.map_eq_some_iff.mp hx
      have zn : z ∈ ns := subn z (List.mem_of_getElem? hz)
      have lm : (tabL (mapL (ys.take i) (fun z => F z - G z))).length ≤ i := by
        unfold tabL mapL
        rw [List.length_map, List.length_map, List.length_take]
        omega
      rw [List.length_map] at hi
      refine ⟨rfl, ?_⟩
      refine ⟨_, rfl, ?_⟩
      have hF2 := (hF.same sF).same s2
      have hG2 := (hG.same sF).same s2
      refine ⟨_, rfl, _, rfl, item_F n hF2 zn fun H4 s4 => ?_⟩
      refine ⟨_, rfl, _, rfl, item_F n (hG2.same s4) zn fun H5 s5 => ?_⟩
      have sE := s4.trans s5
      refine ⟨_, _, rfl, rfl, ?_⟩
      refine ⟨_, Sum.inr z, rfl, sE _ _ er, Nat.lt_of_le_of_lt lm (by omega), ?_⟩
      refine ⟨fun b o e => ?_, ?_⟩
      · rw [upd_ne (ne_of_none e hD)]
        exact sE _ _ (s2 b o e)
      · rw [mapL_snoc hz, put_tab _ (by rw [mapL_keys]; exact at_new nd hz)]
        exact upd_same
    · obtain ⟨s2, er⟩ := q
      rw [List.length_map, List.take_length] at er
      have nz : ∀ z, F z - G z ≠ 0 → F z ≠ 0 := fun z c => by
        have := okz z
        have := (hG.nn z).1
        omega
      exact with_map (E := E0) er nd (by omega) (fun z => ⟨by have := okz z; omega, by have := hF.nn z; have := (hG.nn z).1; omega⟩) (fun z c => (mem z).mpr (nz z c)) (fun z c => hF.out z (nz z c)) fun r H' hr s' hh => k r H' ((sF.trans s2).free hr) ((sF.trans s2).trans s') hh
abbrev nAnd : List Str := ["self", "other", "bay"]
theorem scAnd : FnScope nAnd ["self", "other"] (defScope sHAnd) := ⟨rfl, rfl, rfl, by decide +kernel, rfl, by decide +kernel, by decide +kernel⟩
theorem ok_and_ {C fAt fI fL f : Addr} {fd : FuncData} (O : HOp P w K mg base C fAt fI fL) (F : Fun K "__and__" "House.__and__" sHAnd f fd) : FnR P w K mg base CX0 7 f (spHH C (fun _ _ => True) (fun x y => if x < y then x else y)) := by
  obtain ⟨_, _, gW, FW, GW⟩ := O.wit
  have bW : Binds K _ ["table"] [] := FW.binds fun _ _ _ _ _ _ us hl => match us, hl with | [_], _ => rfl
  have cI := O.spc
  have GI := O.GI
  have FIt := O.FIt
  refine OwR.raw0 (F.ok (k := 6) (ps := ["self", "other"]) scAnd (fun vs H Q E h => ?_) (fun cdv A outer s H vs Q E hr h => ?_)) (F.binds fun _ _ _ _ _ _ us hl => match us, hl with | [_, _], _ => rfl)
  · obtain ⟨a, b, ns, F, G, rfl, _⟩ := h
    rfl
  · obtain ⟨a, b, ns, F, G, rfl, n, hF, hG, okz, k⟩ := h
    have hr6 : Room 6 _ := hr
    have hr5 : Room 5 _ := hr.mono (by decide)
    have hr3 : Room (2 + 1) _ := hr.mono (by decide)
    have hr1 : Room 1 _ := hr.mono (by decide)
    refine ⟨_, (pss_one (ps_ret (pe_call GW hr6 (by rfl) gW FW.kp bW .nil pass0 (pa_cons (pe_dc (own := [("bay", 2)]) rfl scAnd.nd (OwR.pi_own (pv 0) FIt hr1 pass0) (blkOk_by (own := [("bay", 2)]) (N := nAnd) (sc := defScope sHAnd) (by decide +kernel)) (fun _ _ _ _ _ => (pg_name (i := 2) scAnd.nd rfl (Or.inl rfl))) (fun _ _ _ _ _ => pts_nil) (fun _ _ _ _ _ => (pv 2)) (fun _ _ _ _ _ => (pe_ifExp (pt_cmpR op_lt (OwR.pe_item cI GI hr3 pass0 (pv 0) (pv 2)) (OwR.pe_item cI GI hr3 pass0 (pv 1) (pv 2)) (nomark _)) (OwR.pe_item cI GI hr3 pass0 (pv 0) (pv 2)) (OwR.pe_item cI GI hr3 pass0 (pv 1) (pv 2))))) pa_nil)))), ?_⟩
    have sz := sizeLine_eq
    obtain ⟨dx, l, fs, ys, ea, lk, el, nd, le, subn, mem⟩ := hF.own n
    refine ⟨_, rfl, a, C, dx, l, fs, _, rfl, ea, O.it, lk, SqT.of el, fun D hD => ?_⟩
    refine OwR.dc_it (walk_tup (xs := ys.map V.str)) (fun i H2 => Same H H2 ∧ H2 D = some (.dK (tabL (mapL (ys.take i) (fun z => if F z < G z then F z else G z))))) ⟨Same.of_new hD, upd_same⟩ (fun i H2 _ q => SqT.of (q.1 _ _ el)) (fun i x H2 H3 hi q y => ?_) (fun H2 q => ?_)
    · obtain ⟨s2, er⟩ := q
      obtain ⟨rfl, hx⟩ := y
      rw [List.getElem?_map] at hx
      obtain ⟨z, hz, rfl⟩ := Option.map_eq_some_iff.mp hx
      have zn : z ∈ ns := subn z (List.mem_of_getElem? hz)
      have lm : (tabL (mapL (ys.take i) (fun z => if F z < G z then F z else G z))).length ≤ i := by
        unfold tabL mapL
        rw [List.length_map, List.length_map, List.length_take]
        omega
      rw [List.length_map] at hi
      refine ⟨rfl, ?_⟩
      refine ⟨_, rfl, ?_⟩
      have hF2 := (hF.same (Same.refl _)).same s2
      have hG2 := (hG.same (Same.refl _)).same s2
      refine ⟨_, rfl, _, rfl, item_F n hF2 zn fun H4 s4 => ?_⟩
      refine ⟨_, rfl, _, rfl, item_F n (hG2.same s4) zn fun H5 s5 => ?_⟩
      have hF5 := (hF2.same s4).same s5
      have hG5 := (hG2.same s4).same s5
      refine ⟨_, _, rfl, rfl, _, rfl, ?_⟩
      refine ite2 (fun c => ?_) (fun c => ?_)
      · refine ⟨_, rfl, _, rfl, item_F n hF5 zn fun H6 s6 => ?_⟩
        have sE := (s4.trans s5).trans s6
        have eg : (if F z < G z then F z else G z) = F z := if_pos (of_decide_eq_true c)
        refine ⟨_, Sum.inr z, rfl, sE _ _ er, Nat.lt_of_le_of_lt lm (by omega), ?_⟩
        refine ⟨fun b o e => ?_, ?_⟩
        · rw [upd_ne (ne_of_none e hD)]
          exact sE _ _ (s2 b o e)
        · rw [mapL_snoc hz, put_tab _ (by rw [mapL_keys]; exact at_new nd hz)]
          rw [eg]
          exact upd_same
      · refine ⟨_, rfl, _, rfl, item_F n hG5 zn fun H6 s6 => ?_⟩
        have sE := (s4.trans s5).trans s6
        have eg : (if F z < G z then F z else G z) = G z := if_neg (fun h => c (decide_eq_true h))
        refine ⟨_, Sum.inr z, rfl, sE _ _ er, Nat.lt_of_le_of_lt lm (by omega), ?_⟩
        refine ⟨fun b o e => ?_, ?_⟩
        · rw [upd_ne (ne_of_none e hD)]
          exact sE _ _ (s2 b o e)
        · rw [mapL_snoc hz, put_tab _ (by rw [mapL_keys]; exact at_new nd hz)]
          rw [eg]
          exact upd_same
    · obtain ⟨s2, er⟩ := q
      rw [List.length_map, List.take_length] at er
      have nz : ∀ z, (if F z < G z then F z else G z) ≠ 0 → F z ≠ 0 := fun z c e => by
        have := (hG.nn z).1
        rw [e] at c
        split at c
        · exact c rfl
        · omega
      exact with_map (E := E0) er nd (by omega) (fun z => by
        have := hF.nn z
        have := hG.nn z
        split
        · exact hF.nn z
        · exact hG.nn z) (fun z c => (mem z).mpr (nz z c)) (fun z c => hF.out z (nz z c)) fun r H' hr s' hh => k r H' (s2.free hr) (s2.trans s') hh
abbrev nOr : List Str := ["self", "other", "bays", "bay"]
theorem scOr : FnScope nOr ["self", "other"] (defScope sHOr) := ⟨rfl, rfl, rfl, by decide +kernel, rfl, by decide +kernel, by decide +kernel⟩
theorem ok_or_ {C fAt fI fL fB f : Addr} {fdB fd : FuncData} (O : HOp P w K mg base C fAt fI fL) (FB : Fun K "bays_of" "bays_of" sBaysOf fB fdB) (gB : mg "bays_of" = some (.ref fB)) (F : Fun K "__or__" "House.__or__" sHOr f fd) : FnR P w K mg base CX0 7 f (spHH C (fun _ _ => True) (fun x y => if x > y then x else y)) := by
  obtain ⟨_, _, gW, FW, GW⟩ := O.wit
  have bW : Binds K _ ["table"] [] := FW.binds fun _ _ _ _ _ _ us hl => match us, hl with | [_], _ => rfl
  have cI := O.spc
  have GI := O.GI
  have FIt := O.FIt
  have GB : FnOk P w K mg base CX0 5 fB fdB ["one", "other"] (spBo C) := ok_Bo O FB
  have bB : Binds K fdB ["one", "other"] [] := FB.binds fun _ _ _ _ _ _ us hl => match us, hl with | [_, _], _ => rfl
  refine OwR.raw0 (F.ok (k := 6) (ps := ["self", "other"]) scOr (fun vs H Q E h => ?_) (fun cdv A outer s H vs Q E hr h => ?_)) (F.binds fun _ _ _ _ _ _ us hl => match us, hl with | [_, _], _ => rfl)
  · obtain ⟨a, b, ns, F, G, rfl, _⟩ := h
    rfl
  · obtain ⟨a, b, ns, F, G, rfl, n, hF, hG, okz, k⟩ := h
    have hr6 : Room 6 _ := hr
    have hr5 : Room 5 _ := hr.mono (by decide)
    have hr3 : Room (2 + 1) _ := hr.mono (by decide)
    have hr1 : Room 1 _ := hr.mono (by decide)
    refine ⟨_, (pss_cons (ps_set (i := 2) scOr.nd rfl (Or.inl rfl) (pe_call GB hr5 (by rfl) gB FB.kp bB .nil pass0 (pa_cons (pv 0) (pa_cons (pv 1) pa_nil))))
    (pss_one (ps_ret (pe_call GW hr6 (by rfl) gW FW.kp bW .nil pass0 (pa_cons (pe_dc (own := [("bay", 3)]) rfl scOr.nd (pi_list (pv 2)) (blkOk_by (own := [("bay", 3)]) (N := nOr) (sc := defScope sHOr) (by decide +kernel)) (fun _ _ _ _ _ => (pg_name (i := 3) scOr.nd rfl (Or.inl rfl))) (fun _ _ _ _ _ => pts_nil) (fun _ _ _ _ _ => (pv 3)) (fun _ _ _ _ _ => (pe_ifExp (pt_cmpR op_gt (OwR.pe_item cI GI hr3 pass0 (pv 0) (pv 3)) (OwR.pe_item cI GI hr3 pass0 (pv 1) (pv 3)) (nomark _)) (OwR.pe_item cI GI hr3 pass0 (pv 0) (pv 3)) (OwR.pe_item cI GI hr3 pass0 (pv 1) (pv 3))))) pa_nil))))), ?_⟩
    have sz := sizeLine_eq
    refine ⟨_, rfl, _, rfl, a, b, ns, F, G, rfl, n, hF, hG, fun ys p H1 nd ly mem hp sF ep => ?_⟩
    have subn : ∀ z ∈ ys, z ∈ ns := fun z hz => ((mem z).mp hz).elim (hF.out z) (hG.out z)
    refine ⟨_, rfl, p, rfl, ⟨_, SqL.of ep⟩, fun D hD => ?_⟩
    refine OwR.dc_it (walk_list (xs := ys.map V.str)) (fun i H2 => Same H1 H2 ∧ H2 D = some (.dK (tabL (mapL (ys.take i) (fun z => if F z > G z then F z else G z))))) ⟨Same.of_new hD, upd_same⟩ (fun i H2 _ q => SqL.of (q.1 _ _ ep)) (fun i x H2 H3 hi q y => ?_) (fun H2 q => ?_)
    · obtain ⟨s2, er⟩ := q
      obtain ⟨rfl, hx⟩ := y
      rw [List.getElem?_map] at hx
      obtain ⟨z, hz, rfl⟩ := Option.map_eq_some_iff.mp hx
      have zn : z ∈ ns := subn z (List.mem_of_getElem? hz)
      have lm : (tabL (mapL (ys.take i) (fun z => if F z > G z then F z else G z))).length ≤ i := by
        unfold tabL mapL
        rw [List.length_map, List.length_map, List.length_take]
        omega
      rw [List.length_map] at hi
      refine ⟨rfl, ?_⟩
      refine ⟨_, rfl, ?_⟩
      have hF2 := (hF.same sF).same s2
      have hG2 := (hG.same sF).same s2
      refine ⟨_, rfl, _, rfl, item_F n hF2 zn fun H4 s4 => ?_⟩
      refine ⟨_, rfl, _, rfl, item_F n (hG2.same s4) zn fun H5 s5 => ?_⟩
      have hF5 := (hF2.same s4).same s5
      have hG5 := (hG2.same s4).same s5
      refine ⟨_, _, rfl, rfl, _, rfl, ?_⟩
      refine ite2 (fun c => ?_) (fun c => ?_)
      · refine ⟨_, rfl, _, rfl, item_F n hF5 zn fun H6 s6 => ?_⟩
        have sE := (s4.trans s5).trans s6
        have eg : (if F z > G z then F z else G z) = F z := if_pos (of_decide_eq_true c)
        refine ⟨_, Sum.inr z, rfl, sE _ _ er, Nat.lt_of_le_of_lt lm (by omega), ?_⟩
        refine ⟨fun b o e => ?_, ?_⟩
        · rw [upd_ne (ne_of_none e hD)]
          exact sE _ _ (s2 b o e)
        · rw [mapL_snoc hz, put_tab _ (by rw [mapL_keys]; exact at_new nd hz)]
          rw [eg]
          exact upd_same
      · refine ⟨_, rfl, _, rfl, item_F n hG5 zn fun H6 s6 => ?_⟩
        have sE := (s4.trans s5).trans s6
        have eg : (if F z > G z then F z else G z) = G z := if_neg (fun h => c (decide_eq_true h))
        refine ⟨_, Sum.inr z, rfl, sE _ _ er, Nat.lt_of_le_of_lt lm (by omega), ?_⟩
        refine ⟨fun b o e => ?_, ?_⟩
        · rw [upd_ne (ne_of_none e hD)]
          exact sE _ _ (s2 b o e)
        · rw [mapL_snoc hz, put_tab _ (by rw [mapL_keys]; exact at_new nd hz)]
          rw [eg]
          exact upd_same
    · obtain ⟨s2, er⟩ := q
      rw [List.length_map, List.take_length] at er
      have nz : ∀ z, (if F z > G z then F z else G z) ≠ 0 → F z ≠ 0 ∨ G z ≠ 0 := fun z c => by
        split at c
        · exact .inl c
        · exact .inr c
      exact with_map (E := E0) er nd ly (fun z => by
        split
        · exact hF.nn z
        · exact hG.nn z) (fun z c => (mem z).mpr (nz z c)) (fun z c => (nz z c).elim (hF.out z) (hG.out z)) fun r H' hr s' hh => k r H' ((sF.trans s2).free hr) ((sF.trans s2).trans s') hh
end
/-- the class of houses, as isinstance asks -/
structure HouseK (K : PySem.W.Frag) (C : Addr) : Prop where
  hc : HouseC K C
  cl : PySem.W.findIn K (.ref C) "__class__" = some (some (.builtin "object.__class__"))
  cg : PySem.W.specialIn K (.builtin "object.__class__") "__get__" = some (some (.builtin "getset_descriptor.__get__"))
  ct : PySem.W.takesIn K (.builtin "object.__class__") = some true
  ob : PySem.W.mroIn K C (.type "object") = some true
  own : PySem.W.kitOne K (.ref C) (.ref C) = some true
theorem HouseK.ty {K : PySem.W.Frag} {C : Addr} (k : HouseK K C) {H : Hp} {a dx : Addr} {fs : List (Str × V)} (e : H a = some (.ins C dx fs)) : TyX K H (.ref a) (.ref C) := .base (.ins e k.hc.cls k.cl k.cg k.ct k.ob)
def spEqHO (K : PySem.W.Frag) (C : Addr) : Sp := fun vs H Q _ => ∃ (a : Addr) (y : V) (t : Value), vs = [.ref a, y] ∧ TyX K H y t ∧ PySem.W.kitOne K t (.ref C) = some false ∧ Q (.bl false) H
theorem intTab_list (ps : List Pk) : OwR.intTab (tabL ps) := fun p hp => by
  obtain ⟨q, _, rfl⟩ := List.mem_map.mp hp
  exact ⟨_, rfl⟩
/-- == of two tables of houses -/
theorem tab_eq {ns : List Str} {ps qs : List Pk} {F G : Str → Int} (n : HNorm ps) (m : HNorm qs) (e1 : ∀ z, valL ps z = F z) (e2 : ∀ z, valL qs z = G z) (o1 : ∀ z, F z ≠ 0 → z ∈ ns) (o2 : ∀ z, G z ≠ 0 → z ∈ ns) : ((tabL ps).length == (tabL qs).length && (tabL ps).all fun p => decide (valV (tabL qs) p.1 = some p.2)) = eqB ns F G := by
  by_cases c : ps = qs
  · subst c
    have h1 : ((tabL ps).all fun p => decide (valV (tabL ps) p.1 = some p.2)) = true := by
      refine List.all_eq_true.mpr fun p hp => ?_
      obtain ⟨q, hq, rfl⟩ := List.mem_map.mp hp
      refine decide_eq_true ?_
      show valV (tabL ps) (Sum.inr q.1) = some (V.int q.2)
      rw [(tabOf_list ps).1 q.1, lookL_some n.nd hq]
      rfl
    rw [h1, beq_self_eq_true, Bool.true_and]
    symm
    refine List.all_eq_true.mpr fun z _ => decide_eq_true ?_
    rw [← e1 z, ← e2 z]
  · have h2 : eqB ns F G = false := by
      cases h : eqB ns F G with
      | false => rfl
      | true =>
        refine absurd (norm_ext n m fun z => ?_) c
        rw [e1 z, e2 z]
        by_cases hz : z ∈ ns
        · exact of_decide_eq_true (List.all_eq_true.mp h z hz)
        · have a1 : F z = 0 := Classical.byContradiction fun x => hz (o1 z x)
          have a2 : G z = 0 := Classical.byContradiction fun x => hz (o2 z x)
          rw [a1, a2]
    rw [h2]
    cases h : ((tabL ps).length == (tabL qs).length && (tabL ps).all fun p => decide (valV (tabL qs) p.1 = some p.2)) with
    | false => rfl
    | true =>
      obtain ⟨h3, h4⟩ := Bool.and_eq_true_iff.mp h
      have hl : ps.length = qs.length := by
        have := beq_iff_eq.mp h3
        unfold tabL at this
        rw [List.length_map, List.length_map] at this
        exact this
      have sub : ∀ p ∈ ps, lookL qs p.1 = some p.2 := fun p hp => by
        have h5 := of_decide_eq_true (List.all_eq_true.mp h4 (Sum.inr p.1, V.int p.2) (List.mem_map.mpr ⟨p, hp, rfl⟩))
        have h6 : valV (tabL qs) (Sum.inr p.1) = some (V.int p.2) := h5
        rw [(tabOf_list qs).1 p.1] at h6
        obtain ⟨v, hv, e⟩ := Option.map_eq_some_iff.mp h6
        rw [hv, V.int.inj e]
      -- the keys of one are those of the other
      have k1 : ∀ z ∈ ps.map (·.1), z ∈ qs.map (·.1) := fun z hz => by
        obtain ⟨p, hp, rfl⟩ := List.mem_map.mp hz
        exact List.mem_map.mpr ⟨_, lookL_at (sub p hp), rfl⟩
      have k2 : ∀ z, z ∈ qs.map (·.1) → z ∈ ps.map (·.1) := fun z hz => Classical.byContradiction fun nz => by
        have h7 := nodup_len (xs := z :: ps.map (·.1)) (ys := qs.map (·.1)) (List.nodup_cons.mpr ⟨nz, n.nd⟩) fun y hy => (List.mem_cons.mp hy).elim (fun e => e ▸ hz) (k1 y)
        rw [List.length_cons, List.length_map, List.length_map] at h7
        omega
      refine absurd (norm_ext n m fun z => ?_) c
      by_cases hz : z ∈ ps.map (·.1)
      · obtain ⟨p, hp, rfl⟩ := List.mem_map.mp hz
        unfold valL
        rw [lookL_some n.nd hp, sub p hp]
      · unfold valL
        rw [lookL_none hz, lookL_none fun h => hz (k2 z h)]
section
variable {P : Program} {w : World} {K : PySem.W.Frag} {mg : Str → Option Value} {base : Heap}
theorem scHE : FnScope ["self", "other"] ["self", "other"] (defScope sHEq) := ⟨rfl, rfl, rfl, by decide +kernel, rfl, by decide +kernel, by decide +kernel⟩
theorem ok_heq {C f : Addr} {fd : FuncData} (kC : HouseK K C) (c : Chk P w K mg base) (gH : mg "House" = some (.ref C)) (F : Fun K "__eq__" "House.__eq__" sHEq f fd) : FnR P w K mg base CX0 1 f (spEqH C) := by
  refine OwR.raw0 (F.ok (k := 0) (ps := ["self", "other"]) scHE (fun vs H Q E h => ?_) (fun cdv A outer s H vs Q E hr h => ?_)) (F.binds fun _ _ _ _ _ _ us hl => match us, hl with | [_, _], _ => rfl)
  · obtain ⟨a, b, ns, F, G, rfl, _⟩ := h
    rfl
  · obtain ⟨a, b, ns, F, G, rfl, n, ⟨ps, ⟨dx, fs, d, l, ea, lk, _, ed, _⟩, nm, ev, o, _⟩, ⟨qs, ⟨dy, gs, d2, l2, eb, lk2, _, ed2, _⟩, nm2, ev2, o2, _⟩, k⟩ := h
    have hu : (A.deeper (envOfC "House.__eq__" (defScope sHEq) s.heap.objs.size f cdv)).units < cLine := (by have := hr.units; omega)
    refine ⟨_, (pss_one (ps_ret (pe_and (pe_callB call_isi (by rfl) c.T.n_isinstance (by decide +kernel) (pa_cons (pv 1) (pa_cons (pe_glob (v := .ref C) rfl gH rfl) pa_nil))) (pe_one (pe_cmpR (OwR.op_eqTab hu) (pe_fld (pv 0) rfl) (pe_fld (pv 1) rfl) (nomark _)))))), ?_⟩
    refine ⟨_, rfl, .ref b, .ref C, _, _, true, rfl, .own _, kC.ty eb, kC.own, true, rfl, ?_⟩
    refine iteT ?_
    refine ⟨_, rfl, a, C, dx, fs, _, rfl, ea, kC.hc.cls, kC.hc.n1, lk, _, rfl, b, C, dy, gs, _, rfl, eb, kC.hc.cls, kC.hc.n1, lk2, d, d2, _, _, rfl, rfl, ed, ed2, intTab_list ps, intTab_list qs, ?_⟩
    rw [tab_eq nm nm2 ev ev2 o o2]
    exact k
theorem ok_heqO {C f : Addr} {fd : FuncData} (c : Chk P w K mg base) (gH : mg "House" = some (.ref C)) (F : Fun K "__eq__" "House.__eq__" sHEq f fd) : FnR P w K mg base CX0 1 f (spEqHO K C) := by
  refine OwR.raw0 (F.ok (k := 0) (ps := ["self", "other"]) scHE (fun vs H Q E h => ?_) (fun cdv A outer s H vs Q E hr h => ?_)) (F.binds fun _ _ _ _ _ _ us hl => match us, hl with | [_, _], _ => rfl)
  · obtain ⟨a, y, t, rfl, _⟩ := h
    rfl
  · obtain ⟨a, y, t, rfl, ty, kt, q⟩ := h
    have hu : (A.deeper (envOfC "House.__eq__" (defScope sHEq) s.heap.objs.size f cdv)).units < cLine := (by have := hr.units; omega)
    refine ⟨_, (pss_one (ps_ret (pe_and (pe_callB call_isi (by rfl) c.T.n_isinstance (by decide +kernel) (pa_cons (pv 1) (pa_cons (pe_glob (v := .ref C) rfl gH rfl) pa_nil))) (pe_one (pe_cmpR (OwR.op_eqTab hu) (pe_fld (pv 0) rfl) (pe_fld (pv 1) rfl) (nomark _)))))), ?_⟩
    refine ⟨_, rfl, y, .ref C, t, _, false, rfl, .own _, ty, kt, false, rfl, ?_⟩
    exact iteF q
abbrev nLe : List Str := ["self", "other", "bay"]
theorem scLe : FnScope nLe ["self", "other"] (defScope sHLe) := ⟨rfl, rfl, rfl, by decide +kernel, rfl, by decide +kernel, by decide +kernel⟩
theorem ok_hle {C fAt fI fL f : Addr} {fd : FuncData} (O : HOp P w K mg base C fAt fI fL) (F : Fun K "__le__" "House.__le__" sHLe f fd) : FnR P w K mg base CX0 4 f (spCmpH C leB) := by
  have c := O.chk
  have cI := O.spc
  have GI := O.GI
  have FIt := O.FIt
  refine OwR.raw0 (F.ok (k := 3) (ps := ["self", "other"]) scLe (fun vs H Q E h => ?_) (fun cdv A outer s H vs Q E hr h => ?_)) (F.binds fun _ _ _ _ _ _ us hl => match us, hl with | [_, _], _ => rfl)
  · obtain ⟨a, b, ns, F, G, rfl, _⟩ := h
    rfl
  · obtain ⟨a, b, ns, F, G, rfl, n, hF, hG, k⟩ := h
    have hr3 : Room (2 + 1) _ := hr
    have hr1 : Room 1 _ := hr.mono (by decide)
    refine ⟨_, (pss_one (ps_ret (pe_callB (cr_all rfl) (by rfl) c.chk.T.n_all (by decide +kernel) (pa_cons (pe_lc (own := [("bay", 2)]) (by rfl) scLe.nd (OwR.pi_own (pv 0) FIt hr1 pass0) (blkOk_by (own := [("bay", 2)]) (N := nLe) (sc := defScope sHLe) (by decide +kernel)) (fun _ _ _ _ _ => (pg_name (i := 2) scLe.nd rfl (Or.inl rfl))) (fun _ _ _ _ _ => pts_nil) (fun _ _ _ _ _ => (pe_cmpR op_le (OwR.pe_item cI GI hr3 pass0 (pv 0) (pv 2)) (OwR.pe_item cI GI hr3 pass0 (pv 1) (pv 2)) (nomark _)))) pa_nil)))), ?_⟩
    have sz := sizeLine_eq
    obtain ⟨dx, l, fs, ys, ea, lk, el, nd, le, subn, mem⟩ := hF.own n
    refine ⟨_, rfl, a, C, dx, l, fs, _, rfl, ea, O.it, lk, SqT.of el, fun D hD => ?_⟩
    refine lc_it (walk_tup (xs := ys.map V.str)) (fun i H2 => Same H H2 ∧ H2 D = some (.lst (((ys.take i).map fun z => decide (F z ≤ G z)).map V.bl))) ⟨Same.of_new hD, upd_same⟩ (fun i H2 _ q => SqT.of (q.1 _ _ el)) (fun i x H2 H3 hi q y => ?_) (fun H2 q => ?_)
    · obtain ⟨s2, er⟩ := q
      obtain ⟨rfl, hx⟩ := y
      rw [List.getElem?_map] at hx
      obtain ⟨z, hz, rfl⟩ := Option.map_eq_some_iff.mp hx
      have zn : z ∈ ns := subn z (List.mem_of_getElem? hz)
      rw [List.length_map] at hi
      refine ⟨rfl, ?_⟩
      refine ⟨_, rfl, _, rfl, item_F n (hF.same s2) zn fun H4 s4 => ?_⟩
      refine ⟨_, rfl, _, rfl, item_F n ((hG.same s2).same s4) zn fun H5 s5 => ?_⟩
      have sE := s4.trans s5
      refine ⟨_, _, rfl, rfl, ?_⟩
      refine ⟨_, sE _ _ er, by rw [List.length_map, List.length_map, List.length_take]; omega, fun b o e => ?_, ?_⟩
      · rw [upd_ne (ne_of_none e hD)]
        exact sE _ _ (s2 b o e)
      · rw [List.take_add_one, hz, List.map_append, List.map_append]
        exact upd_same
    · obtain ⟨s2, er⟩ := q
      rw [List.length_map, List.take_length] at er
      refine ⟨D, _, rfl, SqL.of er, ?_⟩
      have e : (ys.map fun z => decide (F z ≤ G z)).all id = leB ns F G := by
        rw [Bool.eq_iff_iff, List.all_eq_true]
        unfold leB
        rw [List.all_eq_true]
        constructor
        · intro h z hz
          by_cases c : z ∈ ys
          · exact h _ (List.mem_map.mpr ⟨z, c, rfl⟩)
          · have f0 : F z = 0 := Classical.byContradiction fun x => c ((mem z).mpr x)
            exact decide_eq_true (by rw [f0]; exact (hG.nn z).1)
        · intro h b hb
          obtain ⟨z, hz, rfl⟩ := List.mem_map.mp hb
          exact h z (subn z hz)
      rw [e]
      exact k _ s2
def ltB (ns : List Str) (F G : Str → Int) : Bool := leB ns F G && !eqB ns F G
abbrev nLtH : List Str := ["self", "other"]
theorem scLtH : FnScope nLtH ["self", "other"] (defScope sHLt) := ⟨rfl, rfl, rfl, by decide +kernel, rfl, by decide +kernel, by decide +kernel⟩
theorem ok_hlt {C fLe fEq f : Addr} {fd : FuncData} (cLe : OwR.Cmp1 K .LtE C fLe) (cEq : OwR.Cmp1 K .Eq C fEq) (own : PySem.W.notFirst K C (.ref C) = true) (GLe : FnR P w K mg base CX0 4 fLe (spCmpH C leB)) (GEq : FnR P w K mg base CX0 1 fEq (spEqH C)) (F : Fun K "__lt__" "House.__lt__" sHLt f fd) : FnR P w K mg base CX0 5 f (spCmpH C ltB) := by
  refine OwR.raw0 (F.ok (k := 4) (ps := ["self", "other"]) scLtH (fun vs H Q E h => ?_) (fun cdv A outer s H vs Q E hr h => ?_)) (F.binds fun _ _ _ _ _ _ us hl => match us, hl with | [_, _], _ => rfl)
  · obtain ⟨a, b, ns, F, G, rfl, _⟩ := h
    rfl
  · obtain ⟨a, b, ns, F, G, rfl, n, hF, hG, k⟩ := h
    have hrL : Room 4 _ := hr
    have hr1 : Room 1 _ := hr.mono (by decide)
    have hu : (A.deeper (envOfC "House.__lt__" (defScope sHLt) s.heap.objs.size f cdv)).units < cLine := (by have := hr.units; omega)
    refine ⟨_, (pss_one (ps_ret (pe_and (pe_cmpR (OwR.op_ownLe hu GLe hrL pass0) (pv 0) (pv 1) (nomark _)) (pe_one (pe_not (pe_cmpR (OwR.op_ownEq hu GEq hr1 pass0) (pv 0) (pv 1) (nomark _))))))), ?_⟩
    obtain ⟨dx, fs, ea⟩ := hF.ins
    obtain ⟨dy, gs, eb⟩ := hG.ins
    refine ⟨_, rfl, _, rfl, a, b, C, C, dx, dy, fs, gs, rfl, rfl, ea, eb, cLe, own, a, b, ns, F, G, rfl, n, hF, hG, fun H1 s1 => ⟨_, rfl, ?_⟩⟩
    unfold ltB at k
    cases e : leB ns F G with
    | false =>
      rw [e] at k
      exact iteF (k H1 s1)
    | true =>
      rw [e, Bool.true_and] at k
      refine iteT ?_
      exact ⟨_, rfl, _, rfl, a, b, C, C, dx, dy, fs, gs, rfl, rfl, s1 _ _ ea, s1 _ _ eb, cEq, own, a, b, ns, F, G, rfl, n, hF.same s1, hG.same s1, _, rfl, k H1 s1⟩
abbrev nGe : List Str := ["self", "other"]
theorem scGe : FnScope nGe ["self", "other"] (defScope sHGe) := ⟨rfl, rfl, rfl, by decide +kernel, rfl, by decide +kernel, by decide +kernel⟩
theorem ok_hge {C fLe f : Addr} {fd : FuncData} (cLe : OwR.Cmp1 K .LtE C fLe) (own : PySem.W.notFirst K C (.ref C) = true) (GLe : FnR P w K mg base CX0 4 fLe (spCmpH C leB)) (F : Fun K "__ge__" "House.__ge__" sHGe f fd) : FnR P w K mg base CX0 5 f (spCmpH C fun ns F G => leB ns G F) := by
  refine OwR.raw0 (F.ok (k := 4) (ps := ["self", "other"]) scGe (fun vs H Q E h => ?_) (fun cdv A outer s H vs Q E hr h => ?_)) (F.binds fun _ _ _ _ _ _ us hl => match us, hl with | [_, _], _ => rfl)
  · obtain ⟨a, b, ns, F, G, rfl, _⟩ := h
    rfl
  · obtain ⟨a, b, ns, F, G, rfl, n, hF, hG, k⟩ := h
    have hrL : Room 4 _ := hr
    have hu : (A.deeper (envOfC "House.__ge__" (defScope sHGe) s.heap.objs.size f cdv)).units < cLine := (by have := hr.units; omega)
    refine ⟨_, (pss_one (ps_ret (pe_cmpR (OwR.op_ownLe hu GLe hrL pass0) (pv 1) (pv 0) (nomark _)))), ?_⟩
    obtain ⟨dx, fs, ea⟩ := hF.ins
    obtain ⟨dy, gs, eb⟩ := hG.ins
    exact ⟨_, rfl, _, rfl, b, a, C, C, dy, dx, gs, fs, rfl, rfl, eb, ea, cLe, own, b, a, ns, G, F, rfl, n, hG, hF, k⟩
abbrev nGtH : List Str := ["self", "other"]
theorem scGtH : FnScope nGtH ["self", "other"] (defScope sHGt) := ⟨rfl, rfl, rfl, by decide +kernel, rfl, by decide +kernel, by decide +kernel⟩
theorem ok_hgt {C fLt f : Addr} {fd : FuncData} (cLt : OwR.Cmp1 K .Lt C fLt) (own : PySem.W.notFirst K C (.ref C) = true) (GLt : FnR P w K mg base CX0 5 fLt (spCmpH C ltB)) (F : Fun K "__gt__" "House.__gt__" sHGt f fd) : FnR P w K mg base CX0 6 f (spCmpH C fun ns F G => ltB ns G F) := by
  refine OwR.raw0 (F.ok (k := 5) (ps := ["self", "other"]) scGtH (fun vs H Q E h => ?_) (fun cdv A outer s H vs Q E hr h => ?_)) (F.binds fun _ _ _ _ _ _ us hl => match us, hl with | [_, _], _ => rfl)
  · obtain ⟨a, b, ns, F, G, rfl, _⟩ := h
    rfl
  · obtain ⟨a, b, ns, F, G, rfl, n, hF, hG, k⟩ := h
    have hrT : Room 5 _ := hr
    have hu : (A.deeper (envOfC "House.__gt__" (defScope sHGt) s.heap.objs.size f cdv)).units < cLine := (by have := hr.units; omega)
    refine ⟨_, (pss_one (ps_ret (pe_cmpR (OwR.op_ownLt hu GLt hrT pass0) (pv 1) (pv 0) (nomark _)))), ?_⟩
    obtain ⟨dx, fs, ea⟩ := hF.ins
    obtain ⟨dy, gs, eb⟩ := hG.ins
    exact ⟨_, rfl, _, rfl, b, a, C, C, dy, dx, gs, fs, rfl, rfl, eb, ea, cLt, own, b, a, ns, G, F, rfl, n, hG, hF, k⟩
end
end K10
end
section
namespace K10
open PySem PySem.Spec PyProof.Rows L2
/-- where the parts of houses stand -/
structure HAd where
  (C f0 fAt fI fL fAdd fSub fAnd fOr fEq fLe fLt fGe fGt pOf fOf : Addr)
/-- all that houses are known by -/
structure HHF (P : Program) (w : World) (K : PySem.W.Frag) (mg : Str → Option Value) (base : Heap) (a : HAd) : Prop where
  chk : HChk P w K mg base
  n_dict : mg "dict" = none
  n_list : mg "list" = none
  n_iter : mg "iter" = none
  k : HouseK K a.C
  n2 : NoAttr K a.C "_bays"
  gH : mg "House" = some (.ref a.C)
  own : PySem.W.notFirst K a.C (.ref a.C) = true
  mk0 : Mk K a.C a.f0
  d0 : ∃ fd, Fun K "__init__" "House.__init__" sHouse0 a.f0 fd
  wit : ∃ f fd, mg "house_with" = some (.ref f) ∧ Fun K "house_with" "house_with" sWith f fd
  rH : ClX.CRead K a.C (.type "type")
  mOf : ClX.CMet K a.C (.type "type") "of" a.pOf a.fOf
  dOf : ∃ fd, Fun K "of" "House.of" sHouseOf a.fOf fd
  spc : OwR.Spc K a.C a.fAt "__getitem__"
  dAt : ∃ fd, Fun K "__getitem__" "House.__getitem__" sHouseAt a.fAt fd
  it : OwR.OwnIt K a.C a.fI "_bays"
  dI : ∃ fd, Fun K "__iter__" "House.__iter__" sHIter a.fI fd
  ln : OwR.Len1 K a.C a.fL
  dL : ∃ fd, Fun K "__len__" "House.__len__" sHLen a.fL fd
  bo : ∃ f fd, mg "bays_of" = some (.ref f) ∧ Fun K "bays_of" "bays_of" sBaysOf f fd
  cAdd : OwR.Bin1 K .Add a.C a.fAdd
  cSub : OwR.Bin1 K .Sub a.C a.fSub
  cAnd : OwR.Bin1 K .BitAnd a.C a.fAnd
  cOr : OwR.Bin1 K .BitOr a.C a.fOr
  dAdd : ∃ fd, Fun K "__add__" "House.__add__" sHAdd a.fAdd fd
  dSub : ∃ fd, Fun K "__sub__" "House.__sub__" sHSub a.fSub fd
  dAnd : ∃ fd, Fun K "__and__" "House.__and__" sHAnd a.fAnd fd
  dOr : ∃ fd, Fun K "__or__" "House.__or__" sHOr a.fOr fd
  cEq : OwR.Cmp1 K .Eq a.C a.fEq
  cNe : OwR.Ne1 K a.C a.fEq
  cLe : OwR.Cmp1 K .LtE a.C a.fLe
  cLt : OwR.Cmp1 K .Lt a.C a.fLt
  cGe : OwR.Cmp1 K .GtE a.C a.fGe
  cGt : OwR.Cmp1 K .Gt a.C a.fGt
  iAdd : OwR.noIn K a.C (dunderI Operator.Add.info.2) = true
  iOr : OwR.noIn K a.C (dunderI Operator.BitOr.info.2) = true
  dEq : ∃ fd, Fun K "__eq__" "House.__eq__" sHEq a.fEq fd
  dLe : ∃ fd, Fun K "__le__" "House.__le__" sHLe a.fLe fd
  dLt : ∃ fd, Fun K "__lt__" "House.__lt__" sHLt a.fLt fd
  dGe : ∃ fd, Fun K "__ge__" "House.__ge__" sHGe a.fGe fd
  dGt : ∃ fd, Fun K "__gt__" "House.__gt__" sHGt a.fGt fd
section
variable {P : Program} {w : World} {K : PySem.W.Frag} {mg : Str → Option Value} {base : Heap} {a : HAd}
theorem HHF.of (h : HHF P w K mg base a) : FnR P w K mg base CX0 7 a.fOf (spOf2 a.C) := by
  obtain ⟨_, d⟩ := h.dOf
  obtain ⟨_, d0⟩ := h.d0
  obtain ⟨fW, _, gW, dW⟩ := h.wit
  exact OwR.raw0 (ok_Of2 h.k.hc d0 h.mk0 h.gH dW gW d h.chk h.n_dict) (d.binds fun _ _ _ _ _ _ us hl => match us, hl with | [_, _], _ => rfl)
theorem HHF.op (h : HHF P w K mg base a) : HOp P w K mg base a.C a.fAt a.fI a.fL := by
  obtain ⟨_, dA⟩ := h.dAt
  obtain ⟨_, dI⟩ := h.dI
  obtain ⟨_, dL⟩ := h.dL
  obtain ⟨_, d0⟩ := h.d0
  obtain ⟨fW, fdW, gW, dW⟩ := h.wit
  exact ⟨h.chk, h.k.hc, h.n_list, h.it, h.ln, fun C o => ok_hiter dI h.n_iter C o, fun C _ o => ok_hlen dL h.chk.chk.T C o, h.spc, OwR.raw0 (ok_Item h.k.hc dA h.chk) (dA.binds fun _ _ _ _ _ _ us hl => match us, hl with | [_, _], _ => rfl), ⟨fW, fdW, gW, dW, ok_with2 h.k.hc d0 h.mk0 h.gH dW h.chk⟩⟩
theorem HHF.add (h : HHF P w K mg base a) : FnR P w K mg base CX0 7 a.fAdd (spHH a.C (fun x y => x + y ≤ topN) fun x y => x + y) := by
  obtain ⟨_, d⟩ := h.dAdd
  obtain ⟨_, _, g, dB⟩ := h.bo
  exact ok_add h.op dB g d
theorem HHF.or_ (h : HHF P w K mg base a) : FnR P w K mg base CX0 7 a.fOr (spHH a.C (fun _ _ => True) fun x y => if x > y then x else y) := by
  obtain ⟨_, d⟩ := h.dOr
  obtain ⟨_, _, g, dB⟩ := h.bo
  exact ok_or_ h.op dB g d
theorem HHF.sub (h : HHF P w K mg base a) : FnR P w K mg base CX0 7 a.fSub (spHH a.C (fun x y => y ≤ x) fun x y => x - y) := by
  obtain ⟨_, d⟩ := h.dSub
  exact ok_sub h.op d
theorem HHF.and_ (h : HHF P w K mg base a) : FnR P w K mg base CX0 7 a.fAnd (spHH a.C (fun _ _ => True) fun x y => if x < y then x else y) := by
  obtain ⟨_, d⟩ := h.dAnd
  exact ok_and_ h.op d
theorem HHF.eq (h : HHF P w K mg base a) : FnR P w K mg base CX0 1 a.fEq (spEqH a.C) := by
  obtain ⟨_, d⟩ := h.dEq
  exact ok_heq h.k h.chk.chk h.gH d
theorem HHF.eqO (h : HHF P w K mg base a) : FnR P w K mg base CX0 1 a.fEq (spEqHO K a.C) := by
  obtain ⟨_, d⟩ := h.dEq
  exact ok_heqO h.chk.chk h.gH d
theorem HHF.le (h : HHF P w K mg base a) : FnR P w K mg base CX0 4 a.fLe (spCmpH a.C leB) := by
  obtain ⟨_, d⟩ := h.dLe
  exact ok_hle h.op d
theorem HHF.lt (h : HHF P w K mg base a) : FnR P w K mg base CX0 5 a.fLt (spCmpH a.C ltB) := by
  obtain ⟨_, d⟩ := h.dLt
  exact ok_hlt h.cLe h.cEq h.own h.le h.eq d
theorem HHF.ge (h : HHF P w K mg base a) : FnR P w K mg base CX0 5 a.fGe (spCmpH a.C fun ns F G => leB ns G F) := by
  obtain ⟨_, d⟩ := h.dGe
  exact ok_hge h.cLe h.own h.le d
theorem HHF.gt (h : HHF P w K mg base a) : FnR P w K mg base CX0 6 a.fGt (spCmpH a.C fun ns F G => ltB ns G F) := by
  obtain ⟨_, d⟩ := h.dGt
  exact ok_hgt h.cLt h.own h.lt d
/-! ### the operators between two houses -/
variable {ns : List Str} {H : Hp} {x y : Addr} {F G : Str → Int} {Q : VK} {E : XK}
theorem two_op {op : Operator} {f : Addr} {ok : Int → Int → Prop} {g : Int → Int → Int} {C : Addr} (b : OwR.Bin1 K op C f) (n : NS ns) (hF : HouseF C ns H x F) (hG : HouseF C ns H y G) (o : ∀ z, ok (F z) (G z)) (k : ∀ r H', H r = none → Same H H' → HouseF C ns H' r (fun z => g (F z) (G z)) → Q (.ref r) H') : OwR.rOwn2 K op f (spHH C ok g) E (.ref x) (.ref y) H Q := by
  obtain ⟨dx, fs, ea⟩ := hF.ins
  obtain ⟨dy, gs, eb⟩ := hG.ins
  exact ⟨x, y, C, C, dx, dy, fs, gs, rfl, rfl, ea, eb, ⟨b, .inl rfl⟩, x, y, ns, F, G, rfl, n, hF, hG, o, k⟩
theorem two_cmp {op : CmpOp} {f : Addr} {R : List Str → (Str → Int) → (Str → Int) → Bool} {C : Addr} (c : OwR.Cmp1 K op C f) (own : PySem.W.notFirst K C (.ref C) = true) (n : NS ns) (hF : HouseF C ns H x F) (hG : HouseF C ns H y G) (k : ∀ H', Same H H' → Q (.bl (R ns F G)) H') : OwR.rCmp2 K op f (spCmpH C R) E (.ref x) (.ref y) H Q := by
  obtain ⟨dx, fs, ea⟩ := hF.ins
  obtain ⟨dy, gs, eb⟩ := hG.ins
  exact ⟨x, y, C, C, dx, dy, fs, gs, rfl, rfl, ea, eb, c, own, x, y, ns, F, G, rfl, n, hF, hG, k⟩
theorem two_eq (h : HHF P w K mg base a) (n : NS ns) (hF : HouseF a.C ns H x F) (hG : HouseF a.C ns H y G) (k : Q (.bl (eqB ns F G)) H) : OwR.rCmp2 K .Eq a.fEq (spEqH a.C) E (.ref x) (.ref y) H Q := by
  obtain ⟨dx, fs, ea⟩ := hF.ins
  obtain ⟨dy, gs, eb⟩ := hG.ins
  exact ⟨x, y, _, _, dx, dy, fs, gs, rfl, rfl, ea, eb, h.cEq, h.own, x, y, ns, F, G, rfl, n, hF, hG, k⟩
theorem two_ne (h : HHF P w K mg base a) (n : NS ns) (hF : HouseF a.C ns H x F) (hG : HouseF a.C ns H y G) (k : Q (.bl (!eqB ns F G)) H) : OwR.rNe2 K a.fEq (spEqH a.C) E (.ref x) (.ref y) H Q := by
  obtain ⟨dx, fs, ea⟩ := hF.ins
  obtain ⟨dy, gs, eb⟩ := hG.ins
  exact ⟨x, y, _, _, dx, dy, fs, gs, rfl, rfl, ea, eb, h.cNe, h.own, x, y, ns, F, G, rfl, n, hF, hG, _, rfl, k⟩
end
end K10
end
section
set_option pp.maxSteps 400
set_option pp.deepTerms.threshold 6
/-! The words of a text, taken one by one. -/
namespace K10
open PySem PySem.Spec PyProof.Rows L2
abbrev sBadText0 : Stmt := mth 7 0
abbrev sWMore : Stmt := mth 16 1
abbrev sWPeek : Stmt := mth 16 2
abbrev sWCheck : Stmt := mth 16 4
abbrev sWStep : Stmt := mth 16 5
abbrev sWTn : Stmt := mth 16 7
abbrev sWEnd : Stmt := mth 16 9
/-- the names of the methods: none is an attribute of an object -/
def wNames : List Str := ["more", "peek", "check", "step", "take_word", "take_name", "take_number", "alone", "end"]
/-- the word at a place, the empty one behind the last -/
def pk (ws : List Str) (at_ : Nat) : Str := ws.getD at_ ""
/-- words at o: the next one is at_ -/
def WAt (C : Addr) (H : Hp) (o : Addr) (ws : List Str) (ln at_ : Nat) : Prop := ∃ (dx : Addr) (fs : List (Str × V)) (l : Addr), H o = some (.ins C dx fs) ∧ fs.lookup ("_words" : Str) = some (.ref l) ∧ fs.lookup ("_line" : Str) = some (.int (ln : Nat)) ∧ fs.lookup ("_at" : Str) = some (.int (at_ : Nat)) ∧ H l = some (.lst (ws.map V.str)) ∧ (∀ m ∈ wNames, fs.lookup m = none) ∧ fs.length ≤ 900
theorem WAt.same {C : Addr} {H H' : Hp} {o : Addr} {ws : List Str} {ln at_ : Nat} (h : WAt C H o ws ln at_) (s : Same H H') : WAt C H' o ws ln at_ := by
  obtain ⟨dx, fs, l, h1, h2, h3, h4, h5, h6, h7⟩ := h
  exact ⟨dx, fs, l, s _ _ h1, h2, h3, h4, s _ _ h5, h6, h7⟩
theorem putF_len {f : Str} {v x : V} : ∀ {fs : List (Str × V)}, fs.lookup f = some x → (putF f v fs).length = fs.length
  | [], h => by cases h
  | (g, y) :: r, h => by
    show (if g = f then (g, v) :: r else (g, y) :: putF f v r).length = _
    split
    · rfl
    · rename_i c
      have h2 : (match f == g with | true => some y | false => r.lookup f) = some x := h
      rw [show (f == g) = false from Bool.eq_false_iff.mpr fun q => c (beq_iff_eq.mp q).symm] at h2
      rw [List.length_cons, List.length_cons, putF_len h2]
/-- the next word is another -/
theorem WAt.moved {C : Addr} {H : Hp} {o dx l : Addr} {fs : List (Str × V)} {ws : List Str} {ln n m : Nat} (h2 : fs.lookup ("_words" : Str) = some (.ref l)) (h3 : fs.lookup ("_line" : Str) = some (.int (ln : Nat))) (h4 : fs.lookup ("_at" : Str) = some (.int (n : Nat))) (h5 : H l = some (.lst (ws.map V.str))) (h6 : ∀ m ∈ wNames, fs.lookup m = none) (h7 : fs.length ≤ 900) (ne : l ≠ o) : WAt C (upd H o (.ins C dx (putF "_at" (.int (m : Nat)) fs))) o ws ln m := by
  have k1 : ("_words" : Str) ≠ "_at" := by decide +kernel
  have k2 : ("_line" : Str) ≠ "_at" := by decide +kernel
  refine ⟨dx, _, l, upd_same, ?_, ?_, ?_, ?_, fun q hq => ?_, ?_⟩
  · rw [lookup_putF, if_neg k1]
    exact h2
  · rw [lookup_putF, if_neg k2]
    exact h3
  · rw [lookup_putF, if_pos rfl]
  · rw [upd_ne ne]
    exact h5
  · have k3 : ∀ q ∈ wNames, q ≠ "_at" := by decide +kernel
    rw [lookup_putF, if_neg (k3 q hq)]
    exact h6 q hq
  · rw [putF_len h4]
    exact h7
theorem in_strs (z : Str) : ∀ ys : List Str, inV (.str z) (ys.map V.str) = decide (z ∈ ys)
  | [] => rfl
  | x :: r => by
    show (eqV (.str x) (.str z) || inV (.str z) (r.map V.str)) = _
    rw [in_strs z r]
    show ((x == z) || decide (z ∈ r)) = _
    rw [Bool.eq_iff_iff, Bool.or_eq_true, beq_iff_eq, decide_eq_true_eq, decide_eq_true_eq, List.mem_cons]
    exact ⟨fun h => h.imp Eq.symm id, fun h => h.imp Eq.symm id⟩
theorem flat_strs (ys : List Str) : (ys.map V.str).all flatV = true := List.all_eq_true.mpr fun v hv => by
  obtain ⟨z, _, rfl⟩ := List.mem_map.mp hv
  rfl
theorem name_above {z : Str} (h : nameB z = true) : decide ((Str.ofString "").cps.toList < z.cps.toList) = true := by
  unfold nameB at h
  have h1 := of_decide_eq_true (Bool.and_eq_true_iff.mp (Bool.and_eq_true_iff.mp h).1).1
  have e : (Str.ofString "").cps.toList = [] := by decide +kernel
  rw [e]
  have h2 : 1 ≤ z.cps.toList.length := h1
  match h3 : z.cps.toList, h2 with
  | c :: r, _ => exact decide_eq_true (List.nil_lt_cons c r)
def spMore (C : Addr) : Sp := fun vs H Q _ => ∃ (o : Addr) (ws : List Str) (ln n : Nat), vs = [.ref o] ∧ WAt C H o ws ln n ∧ Q (.bl (decide (n < ws.length))) H
def spPeek (C : Addr) : Sp := fun vs H Q _ => ∃ (o : Addr) (ws : List Str) (ln n : Nat), vs = [.ref o] ∧ WAt C H o ws ln n ∧ Q (.str (pk ws n)) H
def TextErr (CT : Addr) (H : Hp) (E : XK) (ln n : Nat) : Prop := ∀ d, H d = none → E (.ref CT) (some d) (upd H d (.xd [("word", .int (n : Nat)), ("line", .int (ln : Nat))]))
def spCk (C CT : Addr) : Sp := fun vs H Q E => ∃ (o : Addr) (ws : List Str) (ln n : Nat) (b : Bool), vs = [.ref o, .bl b] ∧ WAt C H o ws ln n ∧ ((b = true ∧ Q .non H) ∨ (b = false ∧ TextErr CT H E ln n))
def spStep (C : Addr) : Sp := fun vs H Q _ => ∃ (o : Addr) (ws : List Str) (ln n : Nat), vs = [.ref o] ∧ WAt C H o ws ln n ∧ ∀ H', But o H H' → WAt C H' o ws ln (n + 1) → Q (.str (pk ws n)) H'
/-- above another one -/
def ltS (x y : Str) : Bool := decide (x.cps.toList < y.cps.toList)
def spTn (C CT : Addr) : Sp := fun vs H Q E => ∃ (o : Addr) (ws : List Str) (ln n : Nat) (ab : Str), vs = [.ref o, .str ab] ∧ WAt C H o ws ln n ∧ (pk ws n).length ≤ 1000 ∧ (((nameB (pk ws n) && ltS ab (pk ws n)) = true ∧ ∀ H', But o H H' → WAt C H' o ws ln (n + 1) → Q (.str (pk ws n)) H') ∨ ((nameB (pk ws n) && ltS ab (pk ws n)) = false ∧ ∀ H' d, Same H H' → H' d = none → E (.ref CT) (some d) (upd H' d (.xd [("word", .int (n : Nat)), ("line", .int (ln : Nat))]))))
def spEnd (C CT : Addr) : Sp := fun vs H Q E => ∃ (o : Addr) (ws : List Str) (ln n : Nat), vs = [.ref o] ∧ WAt C H o ws ln n ∧ ((ws.length ≤ n ∧ Q .non H) ∨ (n < ws.length ∧ TextErr CT H E ln n))
/-- the class of words -/
structure WC (K : PySem.W.Frag) (C : Addr) (fMo fPk fCk fSt fTw fTn fEn : Addr) : Prop where
  cls : Cls K C
  nW : NoAttr K C "_words"
  nL : NoAttr K C "_line"
  nA : NoAttr K C "_at"
  m_more : Meth K C "more" fMo
  m_peek : Meth K C "peek" fPk
  m_check : Meth K C "check" fCk
  m_step : Meth K C "step" fSt
  m_take_word : Meth K C "take_word" fTw
  m_take_name : Meth K C "take_name" fTn
  m_end : Meth K C "end" fEn
section
variable {P : Program} {w : World} {K : PySem.W.Frag} {mg : Str → Option Value} {base : Heap} {C CT fMo fPk fCk fSt fTw fTn fEn : Addr}
theorem scBT : FnScope ["self", "line", "word"] ["self", "line", "word"] (defScope sBadText0) := ⟨rfl, rfl, rfl, by decide +kernel, rfl, by decide +kernel, by decide +kernel⟩
theorem ok_badtext {f : Addr} {fd : FuncData} (F : Fun K "__init__" "BadText.__init__" sBadText0 f fd) : FnOk P w K mg base CX0 1 f fd ["self", "line", "word"] (OwE.spErr2 K "line" "word") := by
  refine F.ok scBT (fun vs H Q E h => ?_) (fun cdv A outer s H vs Q E hr h => ?_)
  · obtain ⟨a, C, v, u, rfl, _⟩ := h
    rfl
  · obtain ⟨a, C, v, u, rfl, T, hf, hg, ha, k⟩ := h
    refine ⟨_, (pss_cons (ps_ost (pv 0) (pv 1)) (pss_one (ps_ost (pv 0) (pv 2)))), ?_⟩
    refine ⟨_, rfl, _, rfl, a, C, rfl, T, hf, .inl ⟨ha, fun dx h1 h2 => ?_⟩⟩
    refine ⟨_, rfl, _, rfl, a, C, rfl, T, hg, .inr ⟨dx, _, upd_same, by rw [upd_ne h2, upd_same], by show (1 : Nat) ≤ 900; decide, ?_⟩⟩
    have e : upd (upd (upd H dx (exd dx [("line", v)])) a (exo a C (some dx))) dx (exd dx [("word", u), ("line", v)]) = upd (upd H dx (exd dx [("word", u), ("line", v)])) a (exo a C (some dx)) := by
      funext b
      by_cases e1 : b = dx
      · rw [e1, upd_same, upd_ne h2, upd_same]
      · rw [upd_ne e1]
        by_cases e2 : b = a
        · rw [e2, upd_same, upd_same]
        · rw [upd_ne e2, upd_ne e1, upd_ne e2, upd_ne e1]
    rw [e]
    exact k dx h1 h2
abbrev nWMo : List Str := ["self"]
theorem scWMo : FnScope nWMo ["self"] (defScope sWMore) := ⟨rfl, rfl, rfl, by decide +kernel, rfl, by decide +kernel, by decide +kernel⟩
theorem ok_WMore {fd : FuncData} (W : WC K C fMo fPk fCk fSt fTw fTn fEn) (F : Fun K "more" "Words.more" sWMore fMo fd) (n_len : mg "len" = none) : FnOk P w K mg base CX0 1 fMo fd ["self"] (spMore C) := by
  refine F.ok scWMo (fun vs H Q E h => ?_) (fun cdv A outer s H vs Q E hr h => ?_)
  · obtain ⟨o, ws, ln, n, rfl, _⟩ := h
    rfl
  · obtain ⟨o, ws, ln, n, rfl, ⟨dx, fs, l, h1, h2, h3, h4, h5, h6, h7⟩, q⟩ := h
    refine ⟨_, (pss_one (ps_ret (pe_cmpR op_lt (pe_fld (pv 0) rfl) (pe_callB call_len_seq (by rfl) n_len boot_len (pa_cons (pe_fld (pv 0) rfl) pa_nil)) (nomark _)))), ?_⟩
    refine ⟨_, rfl, o, C, dx, fs, _, rfl, h1, W.cls, W.nA, h4, _, rfl, o, C, dx, fs, _, rfl, h1, W.cls, W.nW, h2, l, _, rfl, .inl (SqL.of h5), ?_⟩
    rw [List.length_map]
    refine ⟨_, _, rfl, rfl, ?_⟩
    show Q (.bl (decide (((n : Nat) : Int) < ((ws.length : Nat) : Int)))) H
    rw [show decide (((n : Nat) : Int) < ((ws.length : Nat) : Int)) = decide (n < ws.length) from decide_eq_decide.mpr (by omega)]
    exact q
abbrev nWPk : List Str := ["self"]
theorem scWPk : FnScope nWPk ["self"] (defScope sWPeek) := ⟨rfl, rfl, rfl, by decide +kernel, rfl, by decide +kernel, by decide +kernel⟩
theorem ok_WPeek {fd fdMo : FuncData} (W : WC K C fMo fPk fCk fSt fTw fTn fEn) (F : Fun K "peek" "Words.peek" sWPeek fPk fd) (FM : Fun K "more" "Words.more" sWMore fMo fdMo) (n_len : mg "len" = none) : FnOk P w K mg base CX0 2 fPk fd ["self"] (spPeek C) := by
  have G_more : FnOk P w K mg base CX0 1 fMo fdMo ["self"] (spMore C) := ok_WMore W FM n_len
  have b_more : Binds K fdMo ["self"] [] := FM.binds fun _ _ _ _ _ _ us hl => match us, hl with | [_], _ => rfl
  refine F.ok scWPk (fun vs H Q E h => ?_) (fun cdv A outer s H vs Q E hr h => ?_)
  · obtain ⟨o, ws, ln, n, rfl, _⟩ := h
    rfl
  · obtain ⟨o, ws, ln, n, rfl, wa, q⟩ := h
    have h_more : Room 1 _ := hr
    obtain ⟨dx, fs, l, h1, h2, h3, h4, h5, h6, h7⟩ := id wa
    refine ⟨_, (pss_one (ps_ret (pe_ifExp (pt_val (pe_meth0 (pv 0) W.cls W.m_more G_more h_more b_more .nil pass0)) (pe_ix ix_list (pe_fld (pv 0) rfl) (pe_fld (pv 0) rfl) (fun _ _ => rfl)) pe_str))), ?_⟩
    refine ⟨_, rfl, o, dx, fs, rfl, h1, h6 _ (by decide), o, ws, ln, n, rfl, wa, _, rfl, ?_⟩
    refine ite2 (fun c => ?_) (fun c => ?_)
    · have c : n < ws.length := of_decide_eq_true c
      refine ⟨_, rfl, o, C, dx, fs, _, rfl, h1, W.cls, W.nW, h2, _, rfl, o, C, dx, fs, _, rfl, h1, W.cls, W.nA, h4, l, _, _, _, rfl, rfl, SqL.of h5, atI_nat (j := n) (by rw [List.getElem?_map, List.getElem?_eq_getElem c]; rfl), ?_⟩
      have e : pk ws n = ws[n] := by
        unfold pk
        rw [List.getD_eq_getElem?_getD, List.getElem?_eq_getElem c]
        rfl
      rw [← e]
      exact q
    · have c : ws.length ≤ n := by
        rcases Nat.lt_or_ge n ws.length with h | h
        · exact absurd (decide_eq_true h) c
        · exact h
      have e : pk ws n = "" := by
        unfold pk
        rw [List.getD_eq_getElem?_getD, List.getElem?_eq_none c]
        rfl
      rw [e] at q
      exact q
abbrev nWCk : List Str := ["self", "good"]
theorem scWCk : FnScope nWCk ["self", "good"] (defScope sWCheck) := ⟨rfl, rfl, rfl, by decide +kernel, rfl, by decide +kernel, by decide +kernel⟩
theorem ok_WCheck {fK : Addr} {fd fdK : FuncData} (W : WC K C fMo fPk fCk fSt fTw fTn fEn) (F : Fun K "check" "Words.check" sWCheck fCk fd) (TK : ErrT K mg "BadText" CT fK) (hl : PySem.W.findIn K (.ref CT) "line" = some none) (hw : PySem.W.findIn K (.ref CT) "word" = some none) (FK : Fun K "__init__" "BadText.__init__" sBadText0 fK fdK) : FnOk P w K mg base (L2.CX P w) 3 fCk fd ["self", "good"] (spCk C CT) := by
  have GK : FnOk P w K mg base CX0 1 fK fdK ["self", "line", "word"] (OwE.spErr2 K "line" "word") := ok_badtext FK
  have bK : Binds K fdK ["self", "line", "word"] [] := FK.binds fun _ _ _ _ _ _ us hl => match us, hl with | [_, _, _], _ => rfl
  refine F.okX scWCk (fun vs H Q E h => ?_) (fun cdv A outer s H vs Q E hr h => ?_)
  · obtain ⟨o, ws, ln, n, b, rfl, _⟩ := h
    rfl
  · obtain ⟨o, ws, ln, n, b, rfl, ⟨dx, fs, l, h1, h2, h3, h4, h5, h6, h7⟩, h⟩ := h
    have hr2 : Room 2 _ := hr
    refine ⟨_, (pss_one (ps_if (pt_not (pt_val (pv 1))) (pss_one (ps_raise rfl (takes_of rfl rfl rfl rfl) (pmk_oex TK.er.ox TK.ini TK.ty GK hr2 bK .nil pass0 (by rfl) TK.g (pa_cons (pe_fld (pv 0) rfl) (pa_cons (pe_fld (pv 0) rfl) pa_nil))))) pss_nil)), ?_⟩
    rcases h with ⟨rfl, q⟩ | ⟨rfl, q⟩
    · exact ⟨_, rfl, _, rfl, iteF q⟩
    · refine ⟨_, rfl, _, rfl, iteT ?_⟩
      refine ⟨_, rfl, o, C, dx, fs, _, rfl, h1, W.cls, W.nL, h3, _, rfl, o, C, dx, fs, _, rfl, h1, W.cls, W.nA, h4, OwE.mk_err2 TK.er.ox hl hw fun d hd => q d hd⟩
abbrev nWSt : List Str := ["self", "word"]
theorem scWSt : FnScope nWSt ["self"] (defScope sWStep) := ⟨rfl, rfl, rfl, by decide +kernel, rfl, by decide +kernel, by decide +kernel⟩
theorem ok_WStep {fd fdPk : FuncData} (W : WC K C fMo fPk fCk fSt fTw fTn fEn) (F : Fun K "step" "Words.step" sWStep fSt fd) (FP : Fun K "peek" "Words.peek" sWPeek fPk fdPk) (G_peek : FnOk P w K mg base CX0 2 fPk fdPk ["self"] (spPeek C)) : FnOk P w K mg base CX0 3 fSt fd ["self"] (spStep C) := by
  have b_peek : Binds K fdPk ["self"] [] := FP.binds fun _ _ _ _ _ _ us hl => match us, hl with | [_], _ => rfl
  refine F.ok scWSt (fun vs H Q E h => ?_) (fun cdv A outer s H vs Q E hr h => ?_)
  · obtain ⟨o, ws, ln, n, rfl, _⟩ := h
    rfl
  · obtain ⟨o, ws, ln, n, rfl, wa, q⟩ := h
    have h_peek : Room 2 _ := hr
    obtain ⟨dx, fs, l, h1, h2, h3, h4, h5, h6, h7⟩ := id wa
    refine ⟨_, (pss_cons (ps_set (i := 1) scWSt.nd rfl (Or.inl rfl) (pe_meth0 (pv 0) W.cls W.m_peek G_peek h_peek b_peek .nil pass0))
    (pss_cons (ps_fld (pv 0) (pe_op op_add (pe_fld (pv 0) rfl) pe_int) rfl)
    (pss_one (ps_ret (pv 1))))), ?_⟩
    refine ⟨_, rfl, o, dx, fs, rfl, h1, h6 _ (by decide), o, ws, ln, n, rfl, wa, ?_⟩
    refine ⟨_, rfl, o, C, dx, fs, _, rfl, h1, W.cls, W.nA, h4, _, _, rfl, rfl, ?_⟩
    refine ⟨_, rfl, o, C, dx, fs, rfl, h1, W.cls, W.nA, by omega, ?_⟩
    refine ⟨_, rfl, q _ But.at ?_⟩
    have ne : l ≠ o := fun e => by
      rw [e, h1] at h5
      cases h5
    exact WAt.moved (m := n + 1) h2 h3 h4 h5 h6 h7 ne
abbrev nWEn : List Str := ["self"]
theorem scWEn : FnScope nWEn ["self"] (defScope sWEnd) := ⟨rfl, rfl, rfl, by decide +kernel, rfl, by decide +kernel, by decide +kernel⟩
theorem ok_WEnd {fd fdMo fdCk : FuncData} (W : WC K C fMo fPk fCk fSt fTw fTn fEn) (F : Fun K "end" "Words.end" sWEnd fEn fd) (FM : Fun K "more" "Words.more" sWMore fMo fdMo) (n_len : mg "len" = none) (FC : Fun K "check" "Words.check" sWCheck fCk fdCk) (G_check : FnOk P w K mg base (L2.CX P w) 3 fCk fdCk ["self", "good"] (spCk C CT)) :
    FnOk P w K mg base (L2.CX P w) 4 fEn fd ["self"] (spEnd C CT) := by
  have G_more : FnOk P w K mg base CX0 1 fMo fdMo ["self"] (spMore C) := ok_WMore W FM n_len
  have b_more : Binds K fdMo ["self"] [] := FM.binds fun _ _ _ _ _ _ us hl => match us, hl with | [_], _ => rfl
  have b_check : Binds K fdCk ["self", "good"] [] := FC.binds fun _ _ _ _ _ _ us hl => match us, hl with | [_, _], _ => rfl
  refine F.okX scWEn (fun vs H Q E h => ?_) (fun cdv A outer s H vs Q E hr h => ?_)
  · obtain ⟨o, ws, ln, n, rfl, _⟩ := h
    rfl
  · obtain ⟨o, ws, ln, n, rfl, wa, h⟩ := h
    have h_check : Room 3 _ := hr
    have h_more := h_check.mono (show 1 ≤ 3 by decide)
    obtain ⟨dx, fs, l, h1, h2, h3, h4, h5, h6, h7⟩ := id wa
    refine ⟨_, (pss_one (ps_expr (pe_meth (pv 0) W.cls W.m_check G_check h_check b_check .nil (passes_call (takes_of rfl rfl rfl rfl) (fun _ _ _ _ h => h)) (pa_cons (pe_not (pe_meth0 (pv 0) W.cls W.m_more G_more h_more b_more .nil pass0)) pa_nil)))), ?_⟩
    refine ⟨_, rfl, o, dx, fs, rfl, h1, h6 _ (by decide), _, rfl, o, dx, fs, rfl, h1, h6 _ (by decide), o, ws, ln, n, rfl, wa, _, rfl, ?_⟩
    rcases h with ⟨m, q⟩ | ⟨m, q⟩
    · rw [decide_eq_false (Nat.not_lt.mpr m)]
      exact ⟨o, ws, ln, n, true, rfl, wa, .inl ⟨rfl, q⟩⟩
    · rw [decide_eq_true m]
      exact ⟨o, ws, ln, n, false, rfl, wa, .inr ⟨rfl, q⟩⟩
abbrev nWTn : List Str := ["self", "above"]
theorem scWTn : FnScope nWTn ["self", "above"] (defScope sWTn) := ⟨rfl, rfl, rfl, by decide +kernel, rfl, by decide +kernel, by decide +kernel⟩
theorem ok_WTn {fN : Addr} {fd fdPk fdCk fdSt fdN : FuncData} (W : WC K C fMo fPk fCk fSt fTw fTn fEn) (F : FunD K "take_name" "Words.take_name" (defArgs sWTn) (defBody sWTn) (defScope sWTn) [.str ""] [] fTn fd) (FP : Fun K "peek" "Words.peek" sWPeek fPk fdPk) (G_peek : FnOk P w K mg base CX0 2 fPk fdPk ["self"] (spPeek C)) (FC : Fun K "check" "Words.check" sWCheck fCk fdCk) (G_check : FnOk P w K mg base (L2.CX P w) 3 fCk fdCk ["self", "good"] (spCk C CT)) (FS : Fun K "step" "Words.step" sWStep fSt fdSt) (G_step : FnOk P w K mg base CX0 3 fSt fdSt ["self"] (spStep C))
    (FN : Fun K "is_name" "is_name" sName fN fdN) (gN : mg "is_name" = some (.ref fN)) (N2 : Nm2 mg) : FnOk P w K mg base (L2.CX P w) 4 fTn fd ["self", "above"] (spTn C CT) := by
  have GN : FnOk P w K mg base CX0 1 fN fdN ["value"] (spName K) := ok_name FN N2
  have bN : Binds K fdN ["value"] [] := FN.binds fun _ _ _ _ _ _ us hl => match us, hl with | [_], _ => rfl
  have b_peek : Binds K fdPk ["self"] [] := FP.binds fun _ _ _ _ _ _ us hl => match us, hl with | [_], _ => rfl
  have b_check : Binds K fdCk ["self", "good"] [] := FC.binds fun _ _ _ _ _ _ us hl => match us, hl with | [_, _], _ => rfl
  have b_step : Binds K fdSt ["self"] [] := FS.binds fun _ _ _ _ _ _ us hl => match us, hl with | [_], _ => rfl
  refine F.ok (CX := L2.CX P w) scWTn (fun vs H Q E h => ?_) (fun cdv A outer s H vs Q E hr h => ?_)
  · obtain ⟨o, ws, ln, n, ab, rfl, _⟩ := h
    rfl
  · obtain ⟨o, ws, ln, n, ab, rfl, wa, lw, h⟩ := h
    have h_check : Room 3 _ := hr
    have h_step : Room 3 _ := hr
    have h_peek := h_step.mono (show 2 ≤ 3 by decide)
    have hr1 := h_step.mono (show 1 ≤ 3 by decide)
    obtain ⟨dx, fs, l, h1, h2, h3, h4, h5, h6, h7⟩ := id wa
    refine ⟨_, (pss_cons (ps_expr (pe_meth (pv 0) W.cls W.m_check G_check h_check b_check .nil (passes_call (takes_of rfl rfl rfl rfl) (fun _ _ _ _ h => h)) (pa_cons (pe_and (pe_call GN hr1 (by rfl) gN FN.kp bN .nil pass0 (pa_cons (pe_meth0 (pv 0) W.cls W.m_peek G_peek h_peek b_peek .nil pass0) pa_nil)) (pe_one (pe_cmpR op_gt_str (pe_meth0 (pv 0) W.cls W.m_peek G_peek h_peek b_peek .nil pass0) (pv 1) (nomark _)))) pa_nil)))
    (pss_one (ps_ret (pe_meth0 (pv 0) W.cls W.m_step G_step h_step b_step .nil pass0)))), ?_⟩
    refine ⟨_, rfl, o, dx, fs, rfl, h1, h6 _ (by decide), _, rfl, o, dx, fs, rfl, h1, h6 _ (by decide), o, ws, ln, n, rfl, wa, _, rfl, .inl ⟨_, rfl, lw, fun H1 s1 => ?_⟩⟩
    cases cn : nameB (pk ws n) with
    | true =>
      rw [cn, Bool.true_and] at h
      refine ⟨true, rfl, iteT ?_⟩
      refine ⟨_, rfl, o, dx, fs, rfl, s1 _ _ h1, h6 _ (by decide), o, ws, ln, n, rfl, wa.same s1, _, rfl, _, _, rfl, rfl, ?_⟩
      rcases h with ⟨m, q⟩ | ⟨m, q⟩
      · refine ⟨o, ws, ln, n, true, congrArg (fun c => [V.ref o, V.bl c]) m, wa.same s1, .inl ⟨rfl, ?_⟩⟩
        exact ⟨_, rfl, o, dx, fs, rfl, s1 _ _ h1, h6 _ (by decide), o, ws, ln, n, rfl, wa.same s1, fun H' b w => q H' ((Same.but o s1).trans b) w⟩
      · exact ⟨o, ws, ln, n, false, congrArg (fun c => [V.ref o, V.bl c]) m, wa.same s1, .inr ⟨rfl, fun d hd => q _ d s1 hd⟩⟩
    | false =>
      rw [cn, Bool.false_and] at h
      rcases h with ⟨m, q⟩ | ⟨m, q⟩
      · cases m
      · refine ⟨false, rfl, iteF ?_⟩
        exact ⟨o, ws, ln, n, false, rfl, wa.same s1, .inr ⟨rfl, fun d hd => q _ d s1 hd⟩⟩
end
end K10
end
section
set_option pp.maxSteps 400
set_option pp.deepTerms.threshold 6
/-! Numbers among words. -/
namespace K10
open PySem PySem.Spec PyProof.Rows L2
abbrev sWNum : Stmt := top 15
abbrev sWNu : Stmt := mth 16 8
/-- a number without signs and needless zeros, of at most 60 digits -/
def numB (z : Str) : Bool := (Txt.isascii z && Txt.isdigit z) && (decide (z.length ≤ 60) && !(decide (z.cps.toList.head? = some 48) && decide (1 < z.length)))
def numN (z : Str) : Nat := NumText.digitsVal z.cps.toList
def numO (z : Str) : Option Nat := if numB z = true then some (numN z) else none
def optN (o : Option Nat) : V := match o with
  | none => .non
  | some n => .int (n : Nat)
theorem digit_codes : ∀ c : Nat, c < 128 → Unicode.isDigit c = (decide (48 ≤ c) && decide (c ≤ 57)) := by decide +kernel
theorem ascii_digits {z : Str} (h : (Txt.isascii z && Txt.isdigit z) = true) : (z.cps.toList.all fun c => decide (48 ≤ c) && decide (c ≤ 57)) = true ∧ z.cps.toList ≠ [] := by
  obtain ⟨h1, h2⟩ := Bool.and_eq_true_iff.mp h
  unfold Txt.isdigit at h2
  obtain ⟨h3, h4⟩ := Bool.and_eq_true_iff.mp h2
  have h1 : z.cps.all (· < 128) = true := h1
  rw [← Array.all_toList] at h1 h4
  refine ⟨List.all_eq_true.mpr fun c hc => ?_, fun e => ?_⟩
  · rw [← digit_codes c (of_decide_eq_true (List.all_eq_true.mp h1 c hc))]
    exact List.all_eq_true.mp h4 c hc
  · have := of_decide_eq_true h3
    have l : z.length = z.cps.toList.length := by simp [Str.length]
    rw [l, e] at this
    exact absurd this (Nat.lt_irrefl 0)
theorem int_of_num {z : Str} (h : (Txt.isascii z && Txt.isdigit z) = true) (l : z.length ≤ 60) : intText? z = some ((numN z : Nat) : Int) := by
  obtain ⟨a, b⟩ := ascii_digits h
  have l2 : z.length = z.cps.toList.length := by simp [Str.length]
  have := SX.int_S a b (by omega)
  rw [SX.S_tl] at this
  exact this
def spWNum : Sp := fun vs H Q _ => ∃ z : Str, vs = [.str z] ∧ z.length ≤ 1000 ∧ Q (optN (numO z)) H
/-- from a on, to b if there is one -/
def inB (a : Int) (b : Option Int) (k : Nat) : Bool := decide (a ≤ k) && (match b with | none => true | some b => decide ((k : Int) ≤ b))
def optI2 (b : Option Int) : V := match b with
  | none => .non
  | some b => .int b
def spWNu (C CT : Addr) : Sp := fun vs H Q E => ∃ (o : Addr) (ws : List Str) (ln n : Nat) (a : Int) (b : Option Int), vs = [.ref o, .int a, optI2 b] ∧ WAt C H o ws ln n ∧ (pk ws n).length ≤ 1000 ∧
  ((∃ k : Nat, numO (pk ws n) = some k ∧ inB a b k = true ∧ ∀ H', But o H H' → WAt C H' o ws ln (n + 1) → Q (.int (k : Nat)) H') ∨ ((∀ k, numO (pk ws n) = some k → inB a b k = false) ∧ TextErr CT H E ln n))
section
variable {P : Program} {w : World} {K : PySem.W.Frag} {mg : Str → Option Value} {base : Heap} {C CT fMo fPk fCk fSt fTw fTn fEn : Addr}
abbrev nWNum : List Str := ["word"]
theorem scWNum : FnScope nWNum ["word"] (defScope sWNum) := ⟨rfl, rfl, rfl, by decide +kernel, rfl, by decide +kernel, by decide +kernel⟩
theorem ok_num {f : Addr} {fd : FuncData} (F : Fun K "number_of" "number_of" sWNum f fd) (n_len : mg "len" = none) (n_int : mg "int" = none) : FnOk P w K mg base CX0 1 f fd ["word"] spWNum := by
  refine F.ok scWNum (fun vs H Q E h => ?_) (fun cdv A outer s H vs Q E hr h => ?_)
  · obtain ⟨z, rfl, _⟩ := h
    rfl
  · obtain ⟨z, rfl, lz, q⟩ := h
    refine ⟨_, (pss_cons (ps_if (PW.pt (pw_or (pt_not (PW.pt (pw_and (pt_val (pe_m0 PySem.F.slot_str_isascii PySem.F.type_str_isascii mt_isascii (pv 0))) (pw_and1 (pt_val (pe_m0 PySem.F.slot_str_isdigit PySem.F.type_str_isdigit mt_isdigit (pv 0))))))) (pw_or1 (pt_cmpR op_gt (pe_callB call_len (by rfl) n_len boot_len (pa_cons (pv 0) pa_nil)) pe_int (nomark _))))) (pss_one (ps_ret pe_non)) pss_nil)
    (pss_cons (ps_if (PW.pt (pw_and (pt_cmpR op_eq (pe_ix ix_str (pv 0) pe_int (fun _ _ => rfl)) pe_str (nomark _)) (pw_and1 (pt_cmpR op_gt (pe_callB call_len (by rfl) n_len boot_len (pa_cons (pv 0) pa_nil)) pe_int (nomark _))))) (pss_one (ps_ret pe_non)) pss_nil)
    (pss_one (ps_ret (pe_callTy call_int_str (by rfl) n_int (by decide +kernel) (pa_cons (pv 0) pa_nil)))))), ?_⟩
    have sz := sizeLine_eq
    have hz2 : z.length ≤ sizeLine := by omega
    have bad : numB z = false → Q .non H := fun e => by
      have e2 : optN (numO z) = .non := by
        unfold numO
        rw [if_neg (by rw [e]; decide)]
        rfl
      rw [← e2]
      exact q
    refine ⟨_, rfl, ⟨_, rfl⟩, z, rfl, rfl, trivial, _, rfl, ?_⟩
    cases c1 : Txt.isascii z with
    | false => exact iteF (iteT (iteT (bad (by unfold numB; rw [c1]; rfl))))
    | true =>
      refine iteT ?_
      refine ⟨_, rfl, ⟨_, rfl⟩, z, rfl, rfl, trivial, _, rfl, ?_⟩
      cases c2 : Txt.isdigit z with
      | false => exact iteT (iteT (bad (by unfold numB; rw [c1, c2]; rfl)))
      | true =>
        refine iteF ?_
        refine ⟨_, rfl, .str z, z.length, rfl, ⟨hz2, rfl⟩, _, _, rfl, rfl, _, rfl, ?_⟩
        have c12 : (Txt.isascii z && Txt.isdigit z) = true := by rw [c1, c2]; rfl
        refine ite2 (fun c3 => ?_) (fun c3 => ?_)
        · refine bad ?_
          unfold numB
          have c3 := of_decide_eq_true c3
          rw [show decide (z.length ≤ 60) = false from decide_eq_false (by omega), Bool.false_and, Bool.and_false]
        · have c3 : z.length ≤ 60 := by
            rcases Nat.lt_or_ge 60 z.length with h | h
            · exact absurd (decide_eq_true (show (60 : Int) < ((z.length : Nat) : Int) by omega)) c3
            · exact h
          obtain ⟨a1, a2⟩ := ascii_digits c12
          obtain ⟨d, r, el⟩ : ∃ d r, z.cps.toList = d :: r := by
            match h : z.cps.toList, a2 with
            | d :: r, _ => exact ⟨d, r, rfl⟩
          have la : z.length = z.cps.toList.length := by simp [Str.length]
          refine ⟨_, rfl, z, 0, d, rfl, rfl, hz2, by rw [el]; exact atI_nat (j := 0) rfl, ?_⟩
          refine ⟨rfl, _, rfl, ?_⟩
          have eh : decide (V.str ⟨#[d]⟩ = V.str (Str.ofString "0")) = decide (z.cps.toList.head? = some 48) := by
            rw [el]
            refine decide_eq_decide.mpr ⟨fun e => ?_, fun e => ?_⟩
            · have e := V.str.inj e
              have : (⟨#[d]⟩ : Str).cps.toList = (Str.ofString "0").cps.toList := congrArg (fun x : Str => x.cps.toList) e
              have e0 : (Str.ofString "0").cps.toList = [48] := by decide +kernel
              rw [e0] at this
              exact congrArg List.head? this
            · have e : d = 48 := Option.some.inj e
              rw [e]
              exact congrArg V.str (by decide +kernel)
          rw [eh]
          have fin : numB z = true → tRet (tCB (fun xs H Q => ∃ a n, xs = [.str a] ∧ intText? a = some n ∧ a.length ≤ 640 ∧ Q (.int n) H) (tCons (tVar 0) tNil)) { nx := fun x H' => Q V.non H', rt := Q } (L2.start nWNum [V.str z]) H := fun e => by
            refine ⟨_, rfl, z, _, rfl, int_of_num c12 c3, by omega, ?_⟩
            have e2 : optN (numO z) = .int ((numN z : Nat) : Int) := by
              unfold numO
              rw [if_pos e]
              rfl
            show Q (.int ((numN z : Nat) : Int)) H
            rw [← e2]
            exact q
          cases c4 : decide (z.cps.toList.head? = some 48) with
          | false =>
            refine iteF ?_
            refine iteF (fin ?_)
            unfold numB
            rw [c12, c4, decide_eq_true c3]
            rfl
          | true =>
            refine iteT ?_
            refine ⟨_, rfl, .str z, z.length, rfl, ⟨hz2, rfl⟩, _, _, rfl, rfl, _, rfl, ?_⟩
            refine ite2 (fun c5 => ?_) (fun c5 => ?_)
            · refine bad ?_
              have c5 : 1 < z.length := by
                have := of_decide_eq_true c5
                omega
              unfold numB
              rw [c12, c4, decide_eq_true c3, decide_eq_true c5]
              rfl
            · refine fin ?_
              have c5 : ¬ 1 < z.length := fun h => c5 (decide_eq_true (show (1 : Int) < ((z.length : Nat) : Int) by omega))
              unfold numB
              rw [c12, c4, decide_eq_true c3, decide_eq_false c5]
              rfl
abbrev nWNu : List Str := ["self", "least", "most", "number"]
theorem scWNu : FnScope nWNu ["self", "least", "most"] (defScope sWNu) := ⟨rfl, rfl, rfl, by decide +kernel, rfl, by decide +kernel, by decide +kernel⟩
theorem ok_WNu {f : Addr} {fd fdPk fdCk fdSt fdN : FuncData} {fN : Addr} (W : WC K C fMo fPk fCk fSt fTw fTn fEn) (F : FunD K "take_number" "Words.take_number" (defArgs sWNu) (defBody sWNu) (defScope sWNu) [.non] [] f fd) (FP : Fun K "peek" "Words.peek" sWPeek fPk fdPk) (G_peek : FnOk P w K mg base CX0 2 fPk fdPk ["self"] (spPeek C)) (FC : Fun K "check" "Words.check" sWCheck fCk fdCk) (G_check : FnOk P w K mg base (L2.CX P w) 3 fCk fdCk ["self", "good"] (spCk C CT)) (FS : Fun K "step" "Words.step" sWStep fSt fdSt) (G_step : FnOk P w K mg base CX0 3 fSt fdSt ["self"] (spStep C))
    (F_num : Fun K "number_of" "number_of" sWNum fN fdN) (g_num : mg "number_of" = some (.ref fN)) (n_len : mg "len" = none) (n_int : mg "int" = none) : FnOk P w K mg base (L2.CX P w) 4 f fd ["self", "least", "most"] (spWNu C CT) := by
  have G_num : FnOk P w K mg base CX0 1 fN fdN ["word"] spWNum := ok_num F_num n_len n_int
  have b_num : Binds K fdN ["word"] [] := F_num.binds fun _ _ _ _ _ _ us hl => match us, hl with | [_], _ => rfl
  have b_peek : Binds K fdPk ["self"] [] := FP.binds fun _ _ _ _ _ _ us hl => match us, hl with | [_], _ => rfl
  have b_check : Binds K fdCk ["self", "good"] [] := FC.binds fun _ _ _ _ _ _ us hl => match us, hl with | [_, _], _ => rfl
  have b_step : Binds K fdSt ["self"] [] := FS.binds fun _ _ _ _ _ _ us hl => match us, hl with | [_], _ => rfl
  refine F.ok (CX := L2.CX P w) scWNu (fun vs H Q E h => ?_) (fun cdv A outer s H vs Q E hr h => ?_)
  · obtain ⟨o, ws, ln, n, a, b, rfl, _⟩ := h
    rfl
  · obtain ⟨o, ws, ln, n, a, b, rfl, wa, lw, h⟩ := h
    have h_check : Room 3 _ := hr
    have h_step : Room 3 _ := hr
    have h_peek := h_step.mono (show 2 ≤ 3 by decide)
    have hr1 := h_step.mono (show 1 ≤ 3 by decide)
    obtain ⟨dx, fs, l, h1, h2, h3, h4, h5, h6, h7⟩ := id wa
    refine ⟨_, (pss_cons (ps_set (i := 3) scWNu.nd rfl (Or.inl rfl) (pe_call G_num hr1 (by rfl) g_num F_num.kp b_num .nil pass0 (pa_cons (pe_meth0 (pv 0) W.cls W.m_peek G_peek h_peek b_peek .nil pass0) pa_nil)))
    (pss_cons (ps_expr (pe_meth (pv 0) W.cls W.m_check G_check h_check b_check .nil (passes_call (takes_of rfl rfl rfl rfl) (fun _ _ _ _ h => h)) (pa_cons (pe_and (pe_cmpR op_notN (pv 3) pe_non (nomark _)) (pe_and (pe_cmpR op_le (pv 1) (pv 3) (nomark _)) (pe_one (pe_or (pe_cmpR op_isN (pv 2) pe_non (nomark _)) (pe_one (pe_cmpR op_le (pv 3) (pv 2) (nomark _))))))) pa_nil)))
    (pss_cons (ps_expr (pe_meth0 (pv 0) W.cls W.m_step G_step h_step b_step .nil pass0))
    (pss_one (ps_ret (pv 3)))))), ?_⟩
    refine ⟨_, rfl, o, dx, fs, rfl, h1, h6 _ (by decide), o, ws, ln, n, rfl, wa, _, rfl, lw, ?_⟩
    have opt : numO (pk ws n) = none ∨ ∃ k, numO (pk ws n) = some k := by
      cases numO (pk ws n) with
      | none => exact .inl rfl
      | some k => exact .inr ⟨k, rfl⟩
    rcases opt with e | ⟨k, e⟩
    · rw [e]
      have te : TextErr CT H E ln n := by
        rcases h with ⟨k, e2, _⟩ | ⟨_, q⟩
        · rw [e] at e2
          cases e2
        · exact q
      refine ⟨_, rfl, o, dx, fs, rfl, h1, h6 _ (by decide), ?_⟩
      refine ⟨_, rfl, rfl, _, rfl, ?_⟩
      refine iteF ?_
      exact ⟨o, ws, ln, n, false, rfl, wa, .inr ⟨rfl, te⟩⟩
    · rw [e]
      refine ⟨_, rfl, o, dx, fs, rfl, h1, h6 _ (by decide), ?_⟩
      refine ⟨_, rfl, rfl, _, rfl, ?_⟩
      refine iteT ?_
      refine ⟨_, rfl, _, rfl, _, _, rfl, rfl, _, rfl, ?_⟩
      have go : ∀ {σ : L2.St}, σ[0]? = some (some (.ref o)) → σ[3]? = some (some (.int (k : Nat))) → inB a b k = true → tSeq (tDrop (tMeth C "step" (spStep C) [] (fun _ _ _ => False) (tVar 0) tNil)) (tRet (tVar 3)) { nx := fun _ H' => Q V.non H', rt := Q } σ H := fun {σ} s0 s3 ib => by
        rcases h with ⟨k2, e2, _, q⟩ | ⟨q, _⟩
        · rw [e] at e2
          cases e2
          exact ⟨_, s0, o, dx, fs, rfl, h1, h6 _ (by decide), o, ws, ln, n, rfl, wa, fun H' b w => ⟨_, s3, q H' b w⟩⟩
        · rw [q k e] at ib
          cases ib
      have te : inB a b k = false → TextErr CT H E ln n := fun ib => by
        rcases h with ⟨k2, e2, ib2, q⟩ | ⟨_, q⟩
        · rw [e] at e2
          cases e2
          rw [ib] at ib2
          cases ib2
        · exact q
      refine ite2 (fun c1 => ?_) (fun c1 => ?_)
      · have c1 : decide (a ≤ ((k : Nat) : Int)) = true := c1
        cases b with
        | none =>
          refine ⟨_, rfl, rfl, _, rfl, ?_⟩
          refine iteT ?_
          refine ⟨o, ws, ln, n, true, rfl, wa, .inl ⟨rfl, ?_⟩⟩
          exact go rfl rfl (by unfold inB; rw [c1]; rfl)
        | some b =>
          refine ⟨_, rfl, rfl, _, rfl, ?_⟩
          refine iteF ?_
          refine ⟨_, rfl, _, rfl, _, _, rfl, rfl, ?_⟩
          cases c2 : decide (((k : Nat) : Int) ≤ b) with
          | true =>
            refine ⟨o, ws, ln, n, true, congrArg (fun c => [V.ref o, V.bl c]) c2, wa, .inl ⟨rfl, ?_⟩⟩
            exact go rfl rfl (by unfold inB; rw [c1]; exact c2)
          | false =>
            refine ⟨o, ws, ln, n, false, congrArg (fun c => [V.ref o, V.bl c]) c2, wa, .inr ⟨rfl, te ?_⟩⟩
            unfold inB
            rw [c1]
            exact c2
      · have c1 : decide (a ≤ ((k : Nat) : Int)) = false := Bool.eq_false_iff.mpr c1
        refine ⟨o, ws, ln, n, false, rfl, wa, .inr ⟨rfl, te ?_⟩⟩
        unfold inB
        rw [c1]
        rfl
theorem nu_binds {f : Addr} {fd : FuncData} (F : FunD K "take_number" "Words.take_number" (defArgs sWNu) (defBody sWNu) (defScope sWNu) [.non] [] f fd) : Binds K fd ["self", "least", "most"] [] := by
  obtain ⟨ds, hv, hb⟩ := F.binds1 (ps := ["self", "least", "most"]) 3 1 (by simp) rfl fun T kV doc pm an cdv ct us its hu hi => match us, its, hu, hi with | [_, _, _], [_], _, _ => ⟨_, rfl, rfl⟩
  cases hv
  exact hb
end
end K10
end
section
set_option pp.maxSteps 400
set_option pp.deepTerms.threshold 6
/-! Places read from words, and written: what they tell. -/
namespace K10
open PySem PySem.Spec PyProof.Rows L2
/-! ### numbers -/
theorem digits_lt : ∀ (l : List Nat), (l.all fun c => decide (48 ≤ c) && decide (c ≤ 57)) = true → NumText.digitsVal l < 10 ^ l.length := fun l => by
  refine PyProof.Rows.FinIter.snoc_ind (P := fun l => (l.all fun c => decide (48 ≤ c) && decide (c ≤ 57)) = true → NumText.digitsVal l < 10 ^ l.length) ?_ ?_ l
  · intro _
    exact Nat.zero_lt_one
  · intro l c ih h
    rw [List.all_append, Bool.and_eq_true] at h
    have h1 := ih h.1
    have h2 : (decide (48 ≤ c) && decide (c ≤ 57)) = true := by
      have := h.2
      rw [List.all_cons, List.all_nil, Bool.and_true] at this
      exact this
    have h3 := of_decide_eq_true (Bool.and_eq_true_iff.mp h2).2
    rw [NumText.digitsVal_snoc, List.length_append, List.length_singleton, Nat.pow_succ]
    omega
theorem num_top {z : Str} {k : Nat} (h : numO z = some k) : ((k : Nat) : Int) ≤ topN ∧ k = numN z ∧ numB z = true := by
  unfold numO at h
  by_cases c : numB z = true
  · rw [if_pos c] at h
    have ek : numN z = k := Option.some.inj h
    refine ⟨?_, ek.symm, c⟩
    obtain ⟨c1, c2⟩ := Bool.and_eq_true_iff.mp c
    obtain ⟨a1, a2⟩ := ascii_digits c1
    have l := of_decide_eq_true (Bool.and_eq_true_iff.mp c2).1
    have el : z.length = z.cps.toList.length := by simp [Str.length]
    have lt := digits_lt _ a1
    have le : 10 ^ z.cps.toList.length ≤ 10 ^ 60 := Nat.pow_le_pow_right (by decide) (by omega)
    have : k < 10 ^ 60 := by
      rw [← ek]
      exact Nat.lt_of_lt_of_le lt le
    unfold topN
    have e : ((10 : Int) ^ 60) = ((10 ^ 60 : Nat) : Int) := by decide +kernel
    rw [e]
    generalize 10 ^ 60 = M at *
    omega
  · rw [if_neg c] at h
    cases h
theorem num_text {z : Str} (h : numB z = true) : (toString ((numN z : Nat) : Int) : Str) = z := by
  obtain ⟨c1, c2⟩ := Bool.and_eq_true_iff.mp h
  obtain ⟨c3, c4⟩ := Bool.and_eq_true_iff.mp c2
  obtain ⟨a1, a2⟩ := ascii_digits c1
  have el : z.length = z.cps.toList.length := by simp [Str.length]
  refine TL.ext_tl ?_
  show TL.tl (Str.ofString (toString ((numN z : Nat) : Int))) = TL.tl z
  rw [TL.tl_num]
  unfold TL.numL numN
  have al : NumText.AllDigits z.cps.toList := fun c hc => by
    have := List.all_eq_true.mp a1 c hc
    obtain ⟨b1, b2⟩ := Bool.and_eq_true_iff.mp this
    exact ⟨of_decide_eq_true b1, of_decide_eq_true b2⟩
  have hh : ∀ l : List Nat, l = z.cps.toList → Nat.toDigits 10 (NumText.digitsVal l) = l.map Char.ofNat := fun l e => by
    rw [el] at c4
    rw [← e] at al a2 c4
    match l, a2 with
    | c :: r, _ =>
      refine NumText.toDigits_digitsVal r.length (c :: r) rfl al ?_
      cases r with
      | nil => exact .inl rfl
      | cons d r =>
        refine .inr ⟨c, d :: r, rfl, ?_⟩
        have h48 := (al c List.mem_cons_self).1
        have hl : decide (1 < (c :: d :: r).length) = true := decide_eq_true (by simp)
        rw [hl, Bool.and_true] at c4
        have hc : c ≠ 48 := fun e => by
          rw [e, show decide ((48 :: d :: r).head? = some 48) = true from decide_eq_true rfl] at c4
          cases c4
        omega
  rw [hh _ rfl, List.map_map]
  have : ∀ l : List Nat, NumText.AllDigits l → l.map (Char.toNat ∘ Char.ofNat) = l := fun l => by
    induction l with
    | nil => exact fun _ => rfl
    | cons c r ih =>
      intro h
      have hc := h c List.mem_cons_self
      have key : ∀ c : Fin 58, Char.toNat (Char.ofNat c.val) = c.val := by decide +kernel
      rw [List.map_cons, ih fun x hx => h x (List.mem_cons_of_mem _ hx)]
      congr 1
      exact key ⟨c, by omega⟩
  exact this _ al
theorem num_back {k : Nat} (h1 : 1 ≤ k) (h2 : ((k : Nat) : Int) ≤ topN) : numO (toString ((k : Nat) : Int) : Str) = some k ∧ (toString ((k : Nat) : Int) : Str).length ≤ 60 ∧ 32 ∉ TL.tl (toString ((k : Nat) : Int) : Str) ∧ PyData.strOk (toString ((k : Nat) : Int) : Str) = true := by
  have hk : k < 10 ^ 60 := by
    unfold topN at h2
    have e : ((10 : Int) ^ 60) = ((10 ^ 60 : Nat) : Int) := by decide +kernel
    rw [e] at h2
    generalize 10 ^ 60 = M at *
    omega
  have et : TL.tl (toString ((k : Nat) : Int) : Str) = TL.numL k := TL.tl_num k
  have al := TL.numL_digits k
  have ln := TL.numL_len (n := k) (k := 60) (by decide) hk
  have ne := TL.numL_ne k
  have len : (toString ((k : Nat) : Int) : Str).length ≤ 60 := by
    rw [TL.len_tl, et]
    exact ln
  have allc : ∀ c ∈ (toString ((k : Nat) : Int) : Str).cps.toList, 48 ≤ c ∧ c ≤ 57 := fun c hc => by
    have hc : c ∈ TL.numL k := by
      rw [← et]
      exact hc
    exact al c hc
  have asc : Txt.isascii (toString ((k : Nat) : Int) : Str) = true := by
    show (toString ((k : Nat) : Int) : Str).cps.all (· < 128) = true
    rw [← Array.all_toList]
    exact List.all_eq_true.mpr fun c hc => decide_eq_true (by have := allc c hc; omega)
  have dig : Txt.isdigit (toString ((k : Nat) : Int) : Str) = true := by
    unfold Txt.isdigit
    rw [Bool.and_eq_true]
    refine ⟨decide_eq_true ?_, ?_⟩
    · rw [TL.len_tl, et]
      exact List.length_pos_iff.mpr ne
    · rw [← Array.all_toList]
      refine List.all_eq_true.mpr fun c hc => ?_
      obtain ⟨b1, b2⟩ := allc c hc
      rw [digit_codes c (by omega), decide_eq_true b1, decide_eq_true b2]
      rfl
  have nv : numN (toString ((k : Nat) : Int) : Str) = k := by
    unfold numN
    show NumText.digitsVal (TL.tl (toString ((k : Nat) : Int) : Str)) = k
    rw [et]
    exact TL.numL_val k
  have hd : ((toString ((k : Nat) : Int) : Str).cps.toList.head? = some 48) → False := fun e => by
    have e : (TL.numL k).head? = some 48 := by
      rw [← et]
      exact e
    have : ∀ n : Nat, 1 ≤ n → (TL.numL n).head? ≠ some 48 := fun n => by
      induction n using Nat.strongRecOn with
      | ind n ih =>
        intro h1 e
        rcases Nat.lt_or_ge n 10 with c | c
        · rw [TL.numL_lt c] at e
          have := Option.some.inj e
          omega
        · rw [TL.numL_step c, List.head?_append, Option.or_of_isSome] at e
          · exact ih (n / 10) (by omega) (by omega) e
          · cases hq : TL.numL (n / 10) with
            | nil => exact absurd hq (TL.numL_ne _)
            | cons a r => rfl
    exact this k h1 e
  refine ⟨?_, len, ?_, ?_⟩
  · unfold numO
    rw [if_pos, nv]
    unfold numB
    rw [asc, dig, decide_eq_true len, decide_eq_false hd]
    rfl
  · rw [et]
    exact TL.numL_free (.inl (by decide))
  · show (toString ((k : Nat) : Int) : Str).cps.all (· < 0x110000) = true
    rw [← Array.all_toList]
    exact List.all_eq_true.mpr fun c hc => decide_eq_true (by have := allc c hc; omega)
end K10
end
section
set_option pp.maxSteps 400
set_option pp.deepTerms.threshold 6
/-! Words made, and what their methods do. -/
namespace K10
open PySem PySem.Spec PyProof.Rows L2
abbrev sWInit : Stmt := mth 16 0
def spWI (K : PySem.W.Frag) (C CT : Addr) : Sp := fun vs H Q E => ∃ (o dx : Addr) (v : V) (ln : Nat), vs = [.ref o, v, .int (ln : Nat)] ∧ H o = some (.ins C dx []) ∧ ((∃ z : Str, v = .str z ∧ z.length + 2 ≤ sizeLine ∧ ∀ H', But o H H' → WAt C H' o (Txt.split z " ") ln 0 → Q .non H') ∨ (NoStr K H v ∧ TextErr CT H E 0 0))
section
variable {P : Program} {w : World} {K : PySem.W.Frag} {mg : Str → Option Value} {base : Heap} {C CT fMo fPk fCk fSt fTw fTn fEn : Addr}
abbrev nWI : List Str := ["self", "text", "line"]
theorem scWI : FnScope nWI ["self", "text", "line"] (defScope sWInit) := ⟨rfl, rfl, rfl, by decide +kernel, rfl, by decide +kernel, by decide +kernel⟩
theorem ok_WI {f fK : Addr} {fd fdK : FuncData} (W : WC K C fMo fPk fCk fSt fTw fTn fEn) (F : FunD K "__init__" "Words.__init__" (defArgs sWInit) (defBody sWInit) (defScope sWInit) [.int 0] [] f fd) (TK : ErrT K mg "BadText" CT fK) (hl : PySem.W.findIn K (.ref CT) "line" = some none) (hw : PySem.W.findIn K (.ref CT) "word" = some none) (FK : Fun K "__init__" "BadText.__init__" sBadText0 fK fdK) (N2 : Nm2 mg) : FnOk P w K mg base (L2.CX P w) 3 f fd ["self", "text", "line"] (spWI K C CT) := by
  have n_isinstance := N2.n_isinstance
  have n_str := N2.n_str
  have GK : FnOk P w K mg base CX0 1 fK fdK ["self", "line", "word"] (OwE.spErr2 K "line" "word") := ok_badtext FK
  have bK : Binds K fdK ["self", "line", "word"] [] := FK.binds fun _ _ _ _ _ _ us hl => match us, hl with | [_, _, _], _ => rfl
  refine F.ok (CX := L2.CX P w) scWI (fun vs H Q E h => ?_) (fun cdv A outer s H vs Q E hr h => ?_)
  · obtain ⟨o, dx, v, ln, rfl, _⟩ := h
    rfl
  · obtain ⟨o, dx, v, ln, rfl, ho, h⟩ := h
    have hr2 : Room 2 _ := hr
    refine ⟨_, (pss_cons (ps_if (pt_not (pt_val (pe_callB call_isi (by rfl) n_isinstance (by decide +kernel) (pa_cons (pv 1) (pa_cons (pe_bltn (v := .ty "str") (by rfl) n_str (by decide +kernel) rfl) pa_nil))))) (pss_one (ps_raise rfl (takes_of rfl rfl rfl rfl) (pmk_oex TK.er.ox TK.ini TK.ty GK hr2 bK .nil pass0 (by rfl) TK.g (pa_cons pe_int (pa_cons pe_int pa_nil))))) pss_nil)
    (pss_cons (ps_fld (pv 0) (pe_split (pv 1) pe_str) rfl)
    (pss_cons (ps_fld (pv 0) (pv 2) rfl)
    (pss_one (ps_fld (pv 0) pe_int rfl))))), ?_⟩
    rcases h with ⟨z, rfl, lz, q⟩ | ⟨⟨t, ty, kt⟩, q⟩
    · refine ⟨_, rfl, .str z, .ty "str", _, _, true, rfl, .ty _, .base (.str z), kit_ty (by decide +kernel), true, rfl, ?_⟩
      refine iteF ?_
      refine ⟨_, rfl, ⟨_, rfl⟩, z, " ", rfl, rfl, by decide +kernel, lz, fun l hl0 => ?_⟩
      have no : l ≠ o := fun e => by
        rw [e, ho] at hl0
        cases hl0
      have u1 := Same.of_new (o := .lst ((Txt.split z " ").map V.str)) hl0
      refine ⟨_, rfl, o, C, dx, [], rfl, u1 _ _ ho, W.cls, W.nW, by show (0 : Nat) < 1000; decide, ?_⟩
      refine ⟨_, rfl, _, rfl, o, C, dx, _, rfl, upd_same, W.cls, W.nL, by show (1 : Nat) < 1000; decide, ?_⟩
      refine ⟨_, rfl, o, C, dx, _, rfl, upd_same, W.cls, W.nA, by show (2 : Nat) < 1000; decide, ?_⟩
      refine q _ (fun b u nb e => ?_) ⟨dx, _, l, upd_same, rfl, rfl, rfl, ?_, fun m hm => ?_, by show (3 : Nat) ≤ 900; decide⟩
      · rw [upd_ne nb, upd_ne nb, upd_ne nb]
        exact u1 _ _ e
      · rw [upd_ne no, upd_ne no, upd_ne no]
        exact upd_same
      · have k : ∀ m ∈ wNames, m ≠ "_at" ∧ m ≠ "_line" ∧ m ≠ "_words" := by decide +kernel
        obtain ⟨k1, k2, k3⟩ := k m hm
        rw [lookup_putF, if_neg k1, lookup_putF, if_neg k2, lookup_putF, if_neg k3]
        rfl
    · refine ⟨_, rfl, v, .ty "str", _, _, false, rfl, .ty _, ty, kt, false, rfl, ?_⟩
      refine iteT ?_
      exact OwE.mk_err2 TK.er.ox hl hw fun d hd => q d hd
/-- what the methods of words do -/
structure WF (P : Program) (w : World) (K : PySem.W.Frag) (mg : Str → Option Value) (base : Heap) (C CT fMo fPk fCk fSt fTw fTn fEn : Addr) : Prop where
  W : WC K C fMo fPk fCk fSt fTw fTn fEn
  g_more : ∃ fd, FnOk P w K mg base CX0 1 fMo fd ["self"] (spMore C) ∧ Binds K fd ["self"] []
  g_peek : ∃ fd, FnOk P w K mg base CX0 2 fPk fd ["self"] (spPeek C) ∧ Binds K fd ["self"] []
  g_step : ∃ fd, FnOk P w K mg base CX0 3 fSt fd ["self"] (spStep C) ∧ Binds K fd ["self"] []
  g_tn : ∃ fd ds, FnOk P w K mg base (L2.CX P w) 4 fTn fd ["self", "above"] (spTn C CT) ∧ Binds K fd ["self", "above"] ds ∧ Vals [.str ""] ds ∧ Binds K fd ["self", "above"] []
  g_en : ∃ fd, FnOk P w K mg base (L2.CX P w) 4 fEn fd ["self"] (spEnd C CT) ∧ Binds K fd ["self"] []
theorem tn2_binds {fd : FuncData} (F : FunD K "take_name" "Words.take_name" (defArgs sWTn) (defBody sWTn) (defScope sWTn) [.str ""] [] fTn fd) : Binds K fd ["self", "above"] [] := by
  obtain ⟨ds, hv, hb⟩ := F.binds1 (ps := ["self", "above"]) 2 1 (by simp) rfl fun T kV doc pm an cdv ct us its hu hi => match us, its, hu, hi with | [_, _], [_], _, _ => ⟨_, rfl, rfl⟩
  cases hv
  exact hb
theorem tn_binds {fd : FuncData} (F : FunD K "take_name" "Words.take_name" (defArgs sWTn) (defBody sWTn) (defScope sWTn) [.str ""] [] fTn fd) : ∃ ds, Vals [.str ""] ds ∧ Binds K fd ["self", "above"] ds :=
  F.binds1 (ps := ["self", "above"]) 1 0 (by simp) rfl fun T kV doc pm an cdv ct us its hu hi => match us, its, hu, hi with | [_], [_], _, _ => ⟨_, rfl, rfl⟩
def ErrB (CT o : Addr) (H : Hp) (E : XK) (ln n : Nat) : Prop := ∀ H' d, But o H H' → H' d = none → E (.ref CT) (some d) (upd H' d (.xd [("word", .int (n : Nat)), ("line", .int (ln : Nat))]))
end
end K10
end
section
set_option pp.maxSteps 400
set_option pp.deepTerms.threshold 6
/-! Houses read from words, houses written. -/
namespace K10
open PySem PySem.Spec PyProof.Rows L2




theorem strs_eqv : ∀ a b : List Str, PyData.eqvAll (a.map PyData.str) (b.map PyData.str) = decide (a = b)
  | [], [] => by simp [PyData.eqvAll]
  | [], _ :: _ => by simp [PyData.eqvAll]
  | _ :: _, [] => by simp [PyData.eqvAll]
  | x :: a, y :: b => by
    rw [List.map_cons, List.map_cons, PyData.eqvAll, strs_eqv a b]
    by_cases c : x = y
    · by_cases d : a = b
      · simp [PyData.eqv, c, d]
      · simp [PyData.eqv, c, d]
    · simp [PyData.eqv, c]
theorem strs_eqL (a b : List Str) : PyData.eqv (.list (a.map PyData.str)) (.list (b.map PyData.str)) = decide (a = b) := by
  rw [PyData.eqv, strs_eqv]
def spAl (C : Addr) : Sp := fun vs H Q _ => ∃ (o : Addr) (w : Str) (ws : List Str) (ln n : Nat), vs = [.ref o, .str w] ∧ WAt C H o ws ln n ∧ PyData.strOk w = true ∧ (∀ q ∈ ws, PyData.strOk q = true) ∧ ∀ H', Same H H' → Q (.bl (decide (ws.drop n = [w]))) H'
/-! ### the pure reading -/
def placeRead (ws : List Str) (last : Str) (n : Nat) : Except Nat Pk :=
  if (nameB (pk ws n) && ltS last (pk ws n)) = true then (match numO (pk ws (n + 1)) with
    | some k => if 1 ≤ k then .ok (pk ws n, ((k : Nat) : Int)) else .error (n + 1)
    | none => .error (n + 1)) else .error n
def placesFrom (ws : List Str) : Nat → Str → Nat → Except Nat (List Pk)
  | 0, _, _ => .ok []
  | f + 1, last, n => if n < ws.length then (match placeRead ws last n with
    | .ok p => (match placesFrom ws f p.1 (n + 2) with
      | .ok r => .ok (p :: r)
      | .error e => .error e)
    | .error e => .error e) else .ok []
def placesRead (ws : List Str) : Except Nat (List Pk) := if ws = [("none" : Str)] then .ok [] else placesFrom ws (ws.length + 1) "" 0
theorem num_at {ws : List Str} {i k : Nat} (h : numO (pk ws i) = some k) : i < ws.length := by
  rcases Nat.lt_or_ge i ws.length with c | c
  · exact c
  · have e : pk ws i = "" := by
      unfold pk
      rw [List.getD_eq_getElem?_getD, List.getElem?_eq_none c]
      rfl
    rw [e, show numO ("" : Str) = none by decide +kernel] at h
    cases h
theorem placeRead_ok {ws : List Str} {last : Str} {n : Nat} {p : Pk} (h : placeRead ws last n = .ok p) : n + 1 < ws.length ∧ p.1 = pk ws n ∧ nameB p.1 = true ∧ ltS last p.1 = true ∧ 0 < p.2 ∧ p.2 ≤ topN ∧ (toString p.2 : Str) = pk ws (n + 1) := by
  unfold placeRead at h
  split at h
  · rename_i c
    obtain ⟨c1, c2⟩ := Bool.and_eq_true_iff.mp c
    split at h
    · rename_i k e
      split at h
      · rename_i k1
        cases h
        obtain ⟨t1, t2, t3⟩ := num_top e
        refine ⟨num_at e, rfl, c1, c2, by show (0 : Int) < ((k : Nat) : Int); omega, t1, ?_⟩
        show (toString ((k : Nat) : Int) : Str) = _
        rw [t2]
        exact num_text t3
      · cases h
    · cases h
  · cases h
/-- ascending names behind one, numbers from 1 -/
def Up : Str → List Pk → Prop
  | _, [] => True
  | last, p :: r => ltS last p.1 = true ∧ nameB p.1 = true ∧ 0 < p.2 ∧ p.2 ≤ topN ∧ Up p.1 r
theorem placesFrom_up {ws : List Str} : ∀ {f : Nat} {last : Str} {n : Nat} {r : List Pk}, placesFrom ws f last n = .ok r → Up last r
  | 0, last, n, r, h => by
    cases h
    exact True.intro
  | f + 1, last, n, r, h => by
    unfold placesFrom at h
    split at h
    · split at h
      · rename_i e1
        split at h
        · rename_i e2
          cases h
          obtain ⟨_, _, a, b, c, d, _⟩ := placeRead_ok e1
          exact ⟨b, a, c, d, placesFrom_up e2⟩
        · cases h
      · cases h
    · cases h
      exact True.intro
theorem ltS_trans {x y z : Str} (h1 : ltS x y = true) (h2 : ltS y z = true) : ltS x z = true := decide_eq_true (List.lt_trans (of_decide_eq_true h1) (of_decide_eq_true h2))
theorem ltS_ne {x y : Str} (h : ltS x y = true) : x ≠ y := fun e => by
  rw [e] at h
  exact List.lt_irrefl _ (of_decide_eq_true h)
theorem ltS_le {x y : Str} (h : ltS x y = true) : leS x y := fun q => List.lt_irrefl _ (List.lt_trans q (of_decide_eq_true h))
theorem up_all : ∀ {r : List Pk} {last : Str}, Up last r → ∀ p ∈ r, ltS last p.1 = true ∧ nameB p.1 = true ∧ 0 < p.2 ∧ p.2 ≤ topN
  | [], _, _, p, h => by cases h
  | q :: r, last, ⟨a, b, c, d, u⟩, p, h => by
    rcases List.mem_cons.mp h with rfl | h
    · exact ⟨a, b, c, d⟩
    · obtain ⟨e, f⟩ := up_all u p h
      exact ⟨ltS_trans a e, f⟩
theorem up_norm : ∀ {r : List Pk} {last : Str}, Up last r → HNorm r
  | [], _, _ => ⟨List.Pairwise.nil, List.nodup_nil, fun p h => by cases h⟩
  | q :: r, last, ⟨a, b, c, d, u⟩ => by
    have n := up_norm u
    have al := up_all u
    refine ⟨List.Pairwise.cons (fun z hz => ?_) n.asc, List.nodup_cons.mpr ⟨fun hz => ?_, n.nd⟩, fun p hp => ?_⟩
    · obtain ⟨p, hp, rfl⟩ := List.mem_map.mp hz
      exact ltS_le (al p hp).1
    · obtain ⟨p, hp, e⟩ := List.mem_map.mp hz
      exact ltS_ne (al p hp).1 e.symm
    · rcases List.mem_cons.mp hp with rfl | hp
      · exact c
      · exact n.pos p hp
theorem norm_up : ∀ {r : List Pk} {last : Str}, HNorm r → (∀ p ∈ r, nameB p.1 = true ∧ p.2 ≤ topN) → (∀ p ∈ r, ltS last p.1 = true) → Up last r
  | [], _, _, _, _ => True.intro
  | q :: r, last, n, g, h => by
    obtain ⟨a1, a2⟩ := List.pairwise_cons.mp n.asc
    obtain ⟨b1, b2⟩ := List.nodup_cons.mp n.nd
    have n' : HNorm r := ⟨a2, b2, fun p hp => n.pos p (List.mem_cons_of_mem _ hp)⟩
    refine ⟨h q List.mem_cons_self, (g q List.mem_cons_self).1, n.pos q List.mem_cons_self, (g q List.mem_cons_self).2, norm_up n' (fun p hp => g p (List.mem_cons_of_mem _ hp)) fun p hp => ?_⟩
    have m : p.1 ∈ r.map (·.1) := List.mem_map.mpr ⟨p, hp, rfl⟩
    have le : ¬ p.1.cps.toList < q.1.cps.toList := a1 p.1 m
    refine decide_eq_true ?_
    rcases List.le_iff_lt_or_eq.mp (List.not_lt.mp le) with h1 | h1
    · exact h1
    · exact absurd (TL.ext_tl h1) (fun e => b1 (by show q.1 ∈ _; rw [e]; exact m))
/-! ### the text -/
def placeW (p : Pk) : List Str := [p.1, (toString p.2 : Str)]
def wordsH (ps : List Pk) : List Str := if ps = [] then ["none"] else ps.flatMap placeW
def placeText (p : Pk) : Str := (p.1 ++ " ") ++ (toString p.2 : Str)
def houseText (ps : List Pk) : Str := if ps = [] then "none" else Txt.join " " (ps.map placeText)
theorem pk_drop (ws : List Str) (n i : Nat) : pk ws (n + i) = pk (ws.drop n) i := by
  unfold pk
  rw [List.getD_eq_getElem?_getD, List.getD_eq_getElem?_getD, List.getElem?_drop]
theorem int_nat {k : Int} (h : 0 < k) : ∃ m : Nat, k = ((m : Nat) : Int) ∧ 1 ≤ m := ⟨k.toNat, by omega, by omega⟩
theorem placeRead_of {ws rest : List Str} {n : Nat} {p : Pk} {last : Str} (h : ws.drop n = placeW p ++ rest) (a : ltS last p.1 = true) (b : nameB p.1 = true) (c : 0 < p.2) (d : p.2 ≤ topN) : placeRead ws last n = .ok p := by
  have e0 := pk_drop ws n 0
  have e1 := pk_drop ws n 1
  rw [h] at e0 e1
  have e0 : pk ws n = p.1 := e0
  have e1 : pk ws (n + 1) = (toString p.2 : Str) := e1
  obtain ⟨z, k⟩ := p
  obtain ⟨m, rfl, m1⟩ := int_nat c
  obtain ⟨t, _⟩ := num_back m1 d
  unfold placeRead
  rw [e0, e1, if_pos (by rw [a, b]; rfl)]
  show (match numO (toString ((m : Nat) : Int) : Str) with
    | some k => if 1 ≤ k then Except.ok (z, ((k : Nat) : Int)) else .error (n + 1)
    | none => .error (n + 1)) = _
  rw [t]
  dsimp only
  rw [if_pos m1]
theorem placesFrom_of {ws : List Str} : ∀ (r : List Pk) (f n : Nat) (last : Str), Up last r → ws.drop n = r.flatMap placeW → r.length < f → placesFrom ws f last n = .ok r
  | [], 0, n, _, _, _, hf => by omega
  | _ :: _, 0, n, _, _, _, hf => by omega
  | [], f + 1, n, _, _, h, _ => by
    have hl := congrArg List.length h
    rw [List.length_drop] at hl
    have hl : ws.length - n = 0 := hl
    unfold placesFrom
    rw [if_neg (by omega)]
  | q :: r, f + 1, n, last, ⟨a, b, c, d, u⟩, h, hf => by
    have hl := congrArg List.length h
    rw [List.length_drop, List.flatMap_cons, List.length_append] at hl
    have hl : ws.length - n = 2 + _ := hl
    rw [List.flatMap_cons] at h
    have e1 := placeRead_of h a b c d
    have hd : ws.drop (n + 2) = r.flatMap placeW := by
      rw [← List.drop_drop, h]
      rfl
    have e2 := placesFrom_of r f (n + 2) q.1 u hd (by rw [List.length_cons] at hf; omega)
    unfold placesFrom
    rw [if_pos (by omega), e1]
    dsimp only
    rw [e2]
/-- what was read stands there -/
theorem placesFrom_words {ws : List Str} : ∀ {f : Nat} {last : Str} {n : Nat} {r : List Pk}, placesFrom ws f last n = .ok r → ws.length < f + n → n ≤ ws.length → ws.drop n = r.flatMap placeW
  | 0, last, n, r, h, hf, hn => by omega
  | f + 1, last, n, r, h, hf, hn => by
    unfold placesFrom at h
    split at h
    · rename_i c
      split at h
      · rename_i e1
        split at h
        · rename_i e2
          cases h
          obtain ⟨l, e3, _, _, _, _, e4⟩ := placeRead_ok e1
          have i := placesFrom_words e2 (by omega) (by omega)
          rw [List.flatMap_cons, ← i]
          unfold placeW
          rw [e3, e4, List.drop_eq_getElem_cons c, List.drop_eq_getElem_cons l]
          unfold pk
          rw [List.getD_eq_getElem?_getD, List.getD_eq_getElem?_getD, List.getElem?_eq_getElem c, List.getElem?_eq_getElem l]
          rfl
        · cases h
      · cases h
    · cases h
      rename_i c
      rw [List.drop_of_length_le (by omega)]
      rfl
theorem num_pos (z : Str) : (∃ k : Nat, numO z = some k ∧ inB 1 none k = true ∧ 1 ≤ k) ∨ ((∀ k, numO z = some k → inB 1 none k = false) ∧ ∀ k, numO z = some k → ¬ 1 ≤ k) := by
  cases e : numO z with
  | none => exact .inr ⟨fun k h => (by cases h), fun k h => (by cases h)⟩
  | some k =>
    by_cases c : 1 ≤ k
    · exact .inl ⟨k, rfl, by unfold inB; rw [decide_eq_true (by omega)]; rfl, c⟩
    · refine .inr ⟨fun j h => ?_, fun j h => ?_⟩
      · cases h
        unfold inB
        rw [decide_eq_false (by omega)]
        rfl
      · cases h
        exact c
section
variable {ws : List Str} {last : Str} {n : Nat}
theorem placeRead_bad1 (h : (nameB (pk ws n) && ltS last (pk ws n)) = false) : placeRead ws last n = .error n := by
  unfold placeRead
  rw [if_neg (by rw [h]; decide)]
theorem placeRead_bad2 (h : (nameB (pk ws n) && ltS last (pk ws n)) = true) (h2 : ∀ k, numO (pk ws (n + 1)) = some k → ¬ 1 ≤ k) : placeRead ws last n = .error (n + 1) := by
  unfold placeRead
  rw [if_pos h]
  cases e : numO (pk ws (n + 1)) with
  | none => rfl
  | some k =>
    dsimp only
    rw [if_neg (h2 k e)]
theorem placeRead_good (h : (nameB (pk ws n) && ltS last (pk ws n)) = true) {k : Nat} (h2 : numO (pk ws (n + 1)) = some k) (h3 : 1 ≤ k) : placeRead ws last n = .ok (pk ws n, ((k : Nat) : Int)) := by
  unfold placeRead
  rw [if_pos h, h2]
  dsimp only
  rw [if_pos h3]
theorem from_end {f : Nat} (h : ws.length ≤ n) : placesFrom ws f last n = .ok [] := by
  cases f with
  | zero => rfl
  | succ f =>
    unfold placesFrom
    rw [if_neg (by omega)]
theorem from_bad {f e : Nat} (h : n < ws.length) (h2 : placeRead ws last n = .error e) : placesFrom ws (f + 1) last n = .error e := by
  unfold placesFrom
  rw [if_pos h, h2]
theorem from_go {f : Nat} {p : Pk} (h : n < ws.length) (h2 : placeRead ws last n = .ok p) : placesFrom ws (f + 1) last n = (match placesFrom ws f p.1 (n + 2) with | .ok r => .ok (p :: r) | .error e => .error e) := by
  rw [placesFrom, if_pos h, h2]
end
end K10
end
section
set_option pp.maxSteps 400
set_option pp.deepTerms.threshold 6
/-! Houses read from words, houses written. -/
namespace K10
open PySem PySem.Spec PyProof.Rows L2
abbrev sAl : Stmt := mth 16 3
abbrev sPl : Stmt := top 22
abbrev sHRead : Stmt := mth 18 4
abbrev sHStr : Stmt := mth 18 27
/-- with alone and the numbers -/
structure WFH (P : Program) (w : World) (K : PySem.W.Frag) (mg : Str → Option Value) (base : Heap) (C CT fMo fPk fCk fSt fTw fTn fEn fNu fAl : Addr) : Prop where
  f : WF P w K mg base C CT fMo fPk fCk fSt fTw fTn fEn
  m_nu : Meth K C "take_number" fNu
  g_nu : ∃ fd ds, FnOk P w K mg base (L2.CX P w) 4 fNu fd ["self", "least", "most"] (spWNu C CT) ∧ Binds K fd ["self", "least", "most"] ds ∧ Vals [.non] ds
  m_al : Meth K C "alone" fAl
  g_al : ∃ fd, FnOk P w K mg base CX0 1 fAl fd ["self", "word"] (spAl C) ∧ Binds K fd ["self", "word"] []
section
variable {P : Program} {w : World} {K : PySem.W.Frag} {mg : Str → Option Value} {base : Heap} {C CT fMo fPk fCk fSt fTw fTn fEn fNu fAl : Addr}
abbrev nAl : List Str := ["self", "word"]
theorem scAl : FnScope nAl ["self", "word"] (defScope sAl) := ⟨rfl, rfl, rfl, by decide +kernel, rfl, by decide +kernel, by decide +kernel⟩
theorem nu1_binds {f : Addr} {fd : FuncData} (F : FunD K "take_number" "Words.take_number" (defArgs sWNu) (defBody sWNu) (defScope sWNu) [.non] [] f fd) : ∃ ds, Vals [.non] ds ∧ Binds K fd ["self", "least", "most"] ds :=
  F.binds1 (ps := ["self", "least", "most"]) 2 0 (by simp) rfl fun T kV doc pm an cdv ct us its hu hi => match us, its, hu, hi with | [_, _], [_], _, _ => ⟨_, rfl, rfl⟩
theorem ok_Al {fd : FuncData} (W : WC K C fMo fPk fCk fSt fTw fTn fEn) (F : Fun K "alone" "Words.alone" sAl fAl fd) : FnOk P w K mg base CX0 1 fAl fd ["self", "word"] (spAl C) := by
  refine F.ok scAl (fun vs H Q E h => ?_) (fun cdv A outer s H vs Q E hr h => ?_)
  · obtain ⟨o, z, ws, ln, n, rfl, _⟩ := h
    rfl
  · obtain ⟨o, z, ws, ln, n, rfl, ⟨dx, fs, l, h1, h2, h3, h4, h5, h6, h7⟩, zo, wo, q⟩ := h
    have hud := hr.units
    refine ⟨_, (pss_one (ps_ret (pe_cmpR (op_eqD hud) (pe_slice sl_list (pe_fld (pv 0) rfl) (po_some (pe_fld (pv 0) rfl)) po_none) (pe_lst (pa_cons (pv 1) pa_nil)) (nomark _)))), ?_⟩
    have sz := sizeLine_eq
    have ec : cutV (ws.map V.str) (some ((n : Nat) : Int)) none = (ws.drop n).map V.str := by
      unfold cutV
      rw [HT.sIx_none, HT.sIx_nat, List.length_map, List.map_drop, List.take_of_length_le (by rw [List.length_drop, List.length_map]; exact Nat.le_refl _)]
      rcases Nat.le_total n ws.length with h | h
      · rw [Nat.min_eq_left h]
      · rw [Nat.min_eq_right h, List.drop_of_length_le (by rw [List.length_map]; exact Nat.le_refl _), List.drop_of_length_le (by rw [List.length_map]; exact h)]
    refine ⟨_, rfl, o, C, dx, fs, _, rfl, h1, W.cls, W.nW, h2, _, rfl, o, C, dx, fs, _, rfl, h1, W.cls, W.nA, h4, _, rfl, l, _, rfl, SqL.of h5, fun A1 hA => ?_⟩
    have sA := Same.of_new (o := .lst (cutV (ws.map V.str) (some ((n : Nat) : Int)) none)) hA
    refine ⟨_, rfl, by show (1 : Nat) ≤ sizeLine; omega, fun L hL => ?_⟩
    have sL := Same.of_new (o := .lst [.str z]) hL
    have eA : upd (upd H A1 (.lst (cutV (ws.map V.str) (some ((n : Nat) : Int)) none))) L (.lst [.str z]) A1 = some (.lst ((ws.drop n).map V.str)) := by
      rw [← ec]
      exact sL _ _ upd_same
    refine ⟨.list ((ws.drop n).map PyData.str), .list ([z].map PyData.str), .lst (SqL.of eA) (OwD.dp_strs _), .lst (SqL.of upd_same) (OwD.dp_strs [z]), shaped_strs fun q hq => wo q (List.mem_of_mem_drop hq), shaped_strs fun q hq => by rw [List.mem_singleton.mp hq]; exact zo, ?_⟩
    rw [strs_eqL]
    exact q _ (sA.trans sL)
def spPl (C CT : Addr) : Sp := fun vs H Q E => ∃ (o : Addr) (ws : List Str) (ln : Nat), vs = [.ref o] ∧ WAt C H o ws ln 0 ∧ (∀ i, (pk ws i).length ≤ 1000) ∧ ws.length ≤ 900 ∧ ws ≠ [] ∧ (∀ q ∈ ws, PyData.strOk q = true) ∧ (match placesRead ws with
  | .ok ps => ∀ D H', But o H H' → H' D = some (.dK (tabL ps)) → Q (.ref D) H'
  | .error e => ErrB CT o H E ln e)
/-- what stands at each turn of the reading -/
def PlInv (C CT o D : Addr) (ws : List Str) (ln : Nat) (H : Hp) (Q : VK) (E : XK) (f : Nat) (σ : L2.St) (Hx : Hp) : Prop := ∃ (n : Nat) (last : Str) (done : List Pk), σ = [some (.ref o), some (.str last), some (.ref D)] ∧ ws.length < f + n ∧ But o H Hx ∧ WAt C Hx o ws ln n ∧ Hx D = some (.dK (tabL done)) ∧ (∀ p ∈ done, p.1 = last ∨ ltS p.1 last = true) ∧ done.length ≤ n ∧ n ≤ ws.length ∧
  (match placesFrom ws f last n with
    | .ok r => ∀ D H', But o H H' → H' D = some (.dK (tabL (done ++ r))) → Q (.ref D) H'
    | .error e => ErrB CT o H E ln e)
abbrev nPl : List Str := ["words", "bay", "places"]
theorem scPl : FnScope nPl ["words"] (defScope sPl) := ⟨rfl, rfl, rfl, by decide +kernel, rfl, by decide +kernel, by decide +kernel⟩
theorem ok_Pl {f : Addr} {fd : FuncData} (F : Fun K "places_from" "places_from" sPl f fd) (WH : WFH P w K mg base C CT fMo fPk fCk fSt fTw fTn fEn fNu fAl) : FnOk P w K mg base (L2.CX P w) 6 f fd ["words"] (spPl C CT) := by
  have WW := WH.f
  have W := WW.W
  have m_take_number := WH.m_nu
  have m_alone := WH.m_al
  obtain ⟨_, dsN, G_take_number, b_take_number, d_take_number⟩ := WH.g_nu
  obtain ⟨_, G_alone, b_alone⟩ := WH.g_al
  obtain ⟨_, ds, G_take_name, b_take_name, d_take_name, b_take_name2⟩ := WW.g_tn
  obtain ⟨_, G_step, b_step⟩ := WW.g_step
  obtain ⟨_, G_more, b_more⟩ := WW.g_more
  refine F.okX scPl (fun vs H Q E h => ?_) (fun cdv A outer s H vs Q E hr h => ?_)
  · obtain ⟨o, ws, ln, rfl, _⟩ := h
    rfl
  · obtain ⟨o, ws, ln, rfl, wa, lw, lws, wne, wok, h⟩ := h
    have hr5 : Room 5 _ := hr
    have h_take_name := hr5.mono (show 4 ≤ 5 by decide)
    have h_take_number := hr5.mono (show 4 ≤ 5 by decide)
    have h_step := hr5.mono (show 3 ≤ 5 by decide)
    have h_more := hr5.mono (show 1 ≤ 5 by decide)
    have h_alone := hr5.mono (show 1 ≤ 5 by decide)
    have hu : (A.deeper (envOfC "places_from" (defScope sPl) s.heap.objs.size f cdv)).units + 1 < cLine := by have := hr5.units; omega
    have sz := sizeLine_eq
    obtain ⟨dx, fs, l, h1, h2, h3, h4, h5, h6, h7⟩ := id wa
    refine ⟨_, (pss_cons (ps_if (pt_val (pe_meth (pv 0) W.cls m_alone G_alone h_alone b_alone .nil pass0 (pa_cons pe_str pa_nil))) (pss_cons (ps_expr (pe_meth0 (pv 0) W.cls W.m_step G_step h_step b_step .nil pass0))
    (pss_one (ps_ret pe_dnewK))) pss_nil)
    (pss_cons (ps_set (i := 1) scPl.nd rfl (Or.inl rfl) (pe_meth0 (pv 0) W.cls W.m_take_name G_take_name h_take_name b_take_name d_take_name (passes_call (takes_of rfl rfl rfl rfl) (fun _ _ _ _ h => h))))
    (pss_cons (ps_set (i := 2) scPl.nd rfl (Or.inl rfl) (pe_disp (pps_cons (pv 1) (pe_meth (pv 0) W.cls m_take_number G_take_number h_take_number b_take_number d_take_number (passes_call (takes_of rfl rfl rfl rfl) (fun _ _ _ _ h => h)) (pa_cons pe_int pa_nil)) pps_nil) (by rfl) (by rfl) (fun z => by cases z) (by decide)))
    (pss_cons (ps_while (passes_of rfl) (pt_val (pe_meth0 (pv 0) W.cls W.m_more G_more h_more b_more .nil pass0)) (pss_cons (ps_set (i := 1) scPl.nd rfl (Or.inl rfl) (pe_meth (pv 0) W.cls W.m_take_name G_take_name h_take_name b_take_name2 .nil (passes_call (takes_of rfl rfl rfl rfl) (fun _ _ _ _ h => h)) (pa_cons (pv 1) pa_nil)))
    (pss_one (ps_dput hu (pv 2) (pv 1) (pe_meth (pv 0) W.cls m_take_number G_take_number h_take_number b_take_number d_take_number (passes_call (takes_of rfl rfl rfl rfl) (fun _ _ _ _ h => h)) (pa_cons pe_int pa_nil)) rfl))))
    (pss_one (ps_ret (pv 2))))))), ?_⟩
    have h6a : fs.lookup ("alone" : Str) = none := h6 _ (by decide)
    refine ⟨_, rfl, o, dx, fs, rfl, h1, h6a, o, "none", ws, ln, 0, rfl, wa, by decide +kernel, wok, fun H0 s0 => ⟨_, rfl, ?_⟩⟩
    rw [List.drop_zero]
    unfold placesRead at h
    by_cases cn : ws = [("none" : Str)]
    · rw [if_pos cn] at h
      rw [decide_eq_true cn]
      refine iteT ?_
      refine ⟨_, rfl, o, dx, fs, rfl, s0 _ _ h1, h6 _ (by decide), o, ws, ln, 0, rfl, wa.same s0, fun H1 b1 wa1 => ?_⟩
      intro D hD
      exact h D _ (((Same.but o s0).trans b1).trans (Same.but o (Same.of_new hD))) upd_same
    · rw [if_neg cn] at h
      rw [decide_eq_false cn]
      refine iteF ?_
      have l0 : 0 < ws.length := List.length_pos_iff.mpr wne
      refine ⟨_, rfl, o, dx, fs, rfl, s0 _ _ h1, h6 _ (by decide), o, ws, ln, 0, "", rfl, wa.same s0, lw _, ?_⟩
      cases c1 : (nameB (pk ws 0) && ltS "" (pk ws 0)) with
      | false =>
        rw [from_bad l0 (placeRead_bad1 c1)] at h
        exact .inr ⟨rfl, fun H' d s' nd => h H' d ((Same.but o s0).trans (Same.but o s')) nd⟩
      | true =>
        refine .inl ⟨rfl, fun H1 b1 wa1 => ?_⟩
        have b01 := (Same.but o s0).trans b1
        intro D hD
        have u1 := Same.of_new (o := .dK []) hD
        have nDo : D ≠ o := fun e => by
          obtain ⟨_, _, _, q, _⟩ := wa1
          rw [e, q] at hD
          cases hD
        have hHD : H D = none := by
          cases q : H D with
          | none => rfl
          | some u =>
            have := b01 _ _ nDo q
            rw [hD] at this
            cases this
        have wa2 := wa1.same u1
        obtain ⟨dx2, fs2, l2, q1, q2, q3, q4, q5, q6, q7⟩ := id wa2
        refine ⟨_, rfl, _, rfl, o, dx2, fs2, rfl, q1, q6 _ (by decide), o, ws, ln, 1, 1, none, rfl, wa2, lw _, ?_⟩
        rcases num_pos (pk ws 1) with ⟨k, e1, e2, e3⟩ | ⟨e2, e3⟩
        · refine .inl ⟨k, e1, e2, fun H3 b3 wa3 => ?_⟩
          rw [from_go l0 (placeRead_good c1 e1 e3)] at h
          refine ⟨b3 _ _ nDo upd_same, [(Sum.inr (pk ws 0), .int ((k : Nat) : Int))], rfl, by show (1 : Nat) ≤ 15; decide, ?_⟩
          have bU : But o H (upd H3 D (.dK (mergeK [] [(Sum.inr (pk ws 0), .int ((k : Nat) : Int))]))) := fun b u nb e => by
            rw [upd_ne (ne_of_none e hHD)]
            exact b3 b u nb (u1 b u (b01 b u nb e))
          have wU : ∀ {Hz : Hp} {m : Nat} {kvs : List (Key × V)} {u : HO}, WAt C Hz o ws ln m → Hz D = some (.dK kvs) → WAt C (upd Hz D u) o ws ln m := fun {Hz m kvs u} wz ed => by
            obtain ⟨dy, fy, ly, p1, p2, p3, p4, p5, p6, p7⟩ := wz
            refine ⟨dy, fy, ly, ?_, p2, p3, p4, ?_, p6, p7⟩
            · rw [upd_ne (Ne.symm nDo)]
              exact p1
            · rw [upd_ne fun e => by rw [e, ed] at p5; cases p5]
              exact p5
          refine ⟨PlInv C CT o D ws ln H Q E, ⟨ws.length, 2, pk ws 0, [(pk ws 0, ((k : Nat) : Int))], rfl, by omega, bU, wU wa3 (b3 _ _ nDo upd_same), upd_same, fun p hp => .inl (by rw [List.mem_singleton.mp hp]), by show 1 ≤ 2; decide, num_at e1, ?_⟩, fun μ σ Hx ⟨n, last, done, es, hf, bx, wx, eD, ld, ln2, ln3, hk⟩ => ?_⟩
          · cases er : placesFrom ws ws.length (pk ws 0) 2 with
            | error e =>
              rw [show placesFrom ws ws.length (pk ws 0, ((k : Nat) : Int)).1 (0 + 2) = .error e from er] at h
              exact h
            | ok r =>
              rw [show placesFrom ws ws.length (pk ws 0, ((k : Nat) : Int)).1 (0 + 2) = .ok r from er] at h
              exact h
          subst es
          obtain ⟨dx1, fs1, l1, k1, k2, k3, k4, k5, k6, k7⟩ := id wx
          refine ⟨_, rfl, o, dx1, fs1, rfl, k1, k6 _ (by decide), o, ws, ln, n, rfl, wx, _, rfl, ?_⟩
          refine ite2 (fun c => ?_) (fun c => ?_)
          · have c : n < ws.length := of_decide_eq_true c
            obtain ⟨f', rfl⟩ : ∃ f', μ = f' + 1 := ⟨μ - 1, by omega⟩
            refine ⟨PlInv C CT o D ws ln H Q E f', fun σ' H' h => ⟨f', Nat.lt_succ_self _, h⟩, ?_⟩
            refine ⟨_, rfl, o, dx1, fs1, rfl, k1, k6 _ (by decide), _, rfl, o, ws, ln, n, last, rfl, wx, lw _, ?_⟩
            cases d1 : (nameB (pk ws n) && ltS last (pk ws n)) with
            | false =>
              rw [from_bad c (placeRead_bad1 d1)] at hk
              exact .inr ⟨rfl, fun H' d s' nd => hk H' d (bx.trans (Same.but o s')) nd⟩
            | true =>
              refine .inl ⟨rfl, fun H4 b4 wa4 => ?_⟩
              obtain ⟨dx4, fs4, l4, q1, q2, q3, q4, q5, q6, q7⟩ := id wa4
              refine ⟨_, rfl, o, dx4, fs4, rfl, q1, q6 _ (by decide), o, ws, ln, n + 1, 1, none, rfl, wa4, lw _, ?_⟩
              rcases num_pos (pk ws (n + 1)) with ⟨k', e1', e2', e3'⟩ | ⟨e2', e3'⟩
              · refine .inl ⟨k', e1', e2', fun H5 b5 wa5 => ?_⟩
                rw [from_go c (placeRead_good d1 e1' e3')] at hk
                have eD5 := b5 _ _ nDo (b4 _ _ nDo eD)
                have lt := (Bool.and_eq_true_iff.mp d1).2
                have new : pk ws n ∉ done.map (·.1) := fun m => by
                  obtain ⟨p, hp, e⟩ := List.mem_map.mp m
                  rcases ld p hp with q | q
                  · exact ltS_ne lt (by rw [← q, ← e])
                  · exact ltS_ne (ltS_trans q lt) e
                have ltab : (tabL done).length < sizeLine := by
                  have e : (tabL done).length = done.length := by unfold tabL; rw [List.length_map]
                  rw [e]
                  omega
                have pt := put_tab ((k' : Nat) : Int) new
                refine ⟨_, rfl, _, rfl, D, _, rfl, DPut.k (k := Sum.inr (pk ws n)) eD5 ltab, ?_⟩
                rw [pt]
                refine ⟨n + 2, pk ws n, done ++ [(pk ws n, ((k' : Nat) : Int))], rfl, by omega, fun b u nb e => ?_, wU wa5 eD5, upd_same, fun p hp => ?_, by rw [List.length_append, List.length_singleton]; omega, num_at e1', ?_⟩
                · rw [upd_ne (ne_of_none e hHD)]
                  exact b5 b u nb (b4 b u nb (bx b u nb e))
                · rcases List.mem_append.mp hp with hp | hp
                  · rcases ld p hp with q | q
                    · exact .inr (by rw [q]; exact lt)
                    · exact .inr (ltS_trans q lt)
                  · exact .inl (by rw [List.mem_singleton.mp hp])
                · cases er : placesFrom ws f' (pk ws n) (n + 2) with
                  | error e =>
                    rw [er] at hk
                    exact hk
                  | ok r =>
                    rw [er] at hk
                    intro D' H' q1 q2
                    exact hk D' H' q1 (by rw [List.append_assoc] at q2; exact q2)
              · rw [from_bad c (placeRead_bad2 d1 e3')] at hk
                exact .inr ⟨e2', fun d nd => hk _ d (bx.trans b4) nd⟩
          · have c : ws.length ≤ n := by
              rcases Nat.lt_or_ge n ws.length with h | h
              · exact absurd (decide_eq_true h) c
              · exact h
            rw [from_end c] at hk
            exact ⟨_, rfl, hk D Hx bx (by rw [List.append_nil]; exact eD)⟩
        · rw [from_bad l0 (placeRead_bad2 c1 e3)] at h
          exact .inr ⟨e2, fun d nd => h _ d (b01.trans (Same.but o u1)) nd⟩
/-- a house read: the house of a text, or the first wrong word -/
def ReadHouse (K : PySem.W.Frag) (CH CT : Addr) (H : Hp) (v : V) (Q : VK) (E : XK) : Prop :=
  (∃ z : Str, v = .str z ∧ z.length ≤ 100000 ∧ (∀ i, (pk (Txt.split z " ") i).length ≤ 1000) ∧ (Txt.split z " ").length ≤ 100 ∧ (∀ q ∈ Txt.split z " ", PyData.strOk q = true) ∧ (match placesRead (Txt.split z " ") with
    | .ok ps => ∀ r H', H r = none → Same H H' → HAt CH H' r ps → Q (.ref r) H'
    | .error e => ∀ H' d, Same H H' → H' d = none → E (.ref CT) (some d) (upd H' d (.xd [("word", .int (e : Nat)), ("line", .int 0)])))) ∨
   ((∀ H', Same H H' → NoStr K H' v) ∧ ∀ H' d, Same H H' → H' d = none → E (.ref CT) (some d) (upd H' d (.xd [("word", .int 0), ("line", .int 0)])))
def spHR (K : PySem.W.Frag) (CH CT : Addr) : Sp := fun vs H Q E => ∃ v : V, vs = [.ref CH, v] ∧ ReadHouse K CH CT H v Q E
theorem tab_len (ps : List Pk) : (tabL ps).length = ps.length := by unfold tabL; rw [List.length_map]
theorem up_look {r : List Pk} {last : Str} (u : Up last r) : ∀ z v, lookL r z = some v → 0 ≤ v ∧ v ≤ 10 ^ 60 - 1 := fun z v e => by
  obtain ⟨_, _, a, b⟩ := up_all u _ (lookL_at e)
  exact ⟨by have a : 0 < v := a; omega, b⟩
abbrev nHR : List Str := ["cls", "text"]
theorem scHR : FnScope nHR ["cls", "text"] (defScope sHRead) := ⟨rfl, rfl, rfl, by decide +kernel, rfl, by decide +kernel, by decide +kernel⟩
theorem ok_HR {CH f fPl fWI fW : Addr} {fd fdPl fdWI fdW : FuncData} {dsI : List Value} (MW : Mk K C fWI) (gW : mg "Words" = some (.ref C)) (F : Fun K "read" "House.read" sHRead f fd) (G_init : FnOk P w K mg base (L2.CX P w) 3 fWI fdWI ["self", "text", "line"] (spWI K C CT)) (b_init : Binds K fdWI ["self", "text", "line"] dsI) (d_init : Vals [.int 0] dsI)
    (F_pl : Fun K "places_from" "places_from" sPl fPl fdPl) (g_pl : mg "places_from" = some (.ref fPl)) (G_pl : FnOk P w K mg base (L2.CX P w) 6 fPl fdPl ["words"] (spPl C CT)) (F_with : Fun K "house_with" "house_with" sWith fW fdW) (g_with : mg "house_with" = some (.ref fW)) (G_with : FnOk P w K mg base CX0 6 fW fdW ["table"] (spWith2 CH)) : FnOk P w K mg base (L2.CX P w) 7 f fd ["cls", "text"] (spHR K CH CT) := by
  have b_pl : Binds K fdPl ["words"] [] := F_pl.binds fun _ _ _ _ _ _ us hl => match us, hl with | [_], _ => rfl
  have b_with : Binds K fdW ["table"] [] := F_with.binds fun _ _ _ _ _ _ us hl => match us, hl with | [_], _ => rfl
  have k_with := F_with.kp
  refine F.okX scHR (fun vs H Q E h => ?_) (fun cdv A outer s H vs Q E hr h => ?_)
  · obtain ⟨v, rfl, _⟩ := h
    rfl
  · obtain ⟨v, rfl, h⟩ := h
    have hr6 : Room 6 _ := hr
    have hr4 := hr6.mono (show 4 ≤ 6 by decide)
    have sz := sizeLine_eq
    refine ⟨_, (pss_one (ps_ret (pe_call G_with hr6 (by rfl) g_with k_with b_with .nil pass0 (pa_cons (pe_call G_pl hr6 (by rfl) g_pl F_pl.kp b_pl .nil (passes_call (takes_of rfl rfl rfl rfl) (fun _ _ _ _ h => h)) (pa_cons (pe_make MW G_init hr4 (by rfl) gW b_init d_init (passes_call (takes_of rfl rfl rfl rfl) (fun _ _ _ _ h => h)) (pa_cons (pv 1) pa_nil)) pa_nil)) pa_nil)))), ?_⟩
    rcases h with ⟨z, rfl, lz, lw, lws, wok, h⟩ | ⟨ns, h⟩
    · refine ⟨_, rfl, fun o dxo k1 k2 nd => ⟨o, dxo, _, 0, rfl, upd_same, .inl ⟨z, rfl, by omega, fun H1 b1 wa => ⟨rfl, ?_⟩⟩⟩⟩
      have s1 := made_same k1 k2 b1
      have wne : Txt.split z " " ≠ [] := words_ne z
      generalize Txt.split z " " = ws at *
      have sB : ∀ {H'}, But o H1 H' → Same H H' := fun {H'} b x u e => b x u (ne_of_none e k1) (s1 x u e)
      refine ⟨o, ws, 0, rfl, wa, lw, by omega, wne, wok, ?_⟩
      cases er : placesRead ws with
      | error e =>
        rw [er] at h
        exact fun H' d b nd2 => h H' d (sB b) nd2
      | ok ps =>
        rw [er] at h
        intro D H2 b2 eD
        have up : ∃ last, Up last ps := by
          unfold placesRead at er
          split at er
          · cases er
            exact ⟨"", True.intro⟩
          · exact ⟨_, placesFrom_up er⟩
        obtain ⟨last, up⟩ := up
        have nm := up_norm up
        have lps : ps.length < 64 := by
          unfold placesRead at er
          split at er
          · cases er
            decide
          · have e := placesFrom_words er (by omega) (by omega)
            have e := congrArg List.length e
            rw [List.drop_zero] at e
            have : ∀ ps : List Pk, (ps.flatMap placeW).length = 2 * ps.length := fun ps => by
              induction ps with
              | nil => rfl
              | cons p r ih =>
                rw [List.flatMap_cons, List.length_append, ih, List.length_cons]
                show 2 + _ = _
                omega
            rw [this] at e
            omega
        refine ⟨D, tabL ps, ps.map (·.1), lookL ps, rfl, .inl eD, tabL_keys ps, by rw [List.length_map]; exact lps, tabOf_list ps, up_look up, fun r H3 qs nr s3 hA nq vq => ?_⟩
        have e : qs = ps := norm_ext nq nm fun z => by rw [vq z]; rfl
        subst e
        exact h r H3 ((sB b2).free nr) ((sB b2).trans s3) hA
    · refine ⟨_, rfl, fun o dxo k1 k2 nd => ⟨o, dxo, _, 0, rfl, upd_same, .inr ⟨?_, fun d hd => ?_⟩⟩⟩
      · exact ns _ (made_same k1 k2 (But.refl _ _))
      · exact h _ d (made_same k1 k2 (But.refl _ _)) hd
end
end K10
end
section
set_option pp.maxSteps 3000
set_option pp.deepTerms.threshold 30
namespace K10
open PySem PySem.Spec PyProof.Rows L2
theorem pe_fldK {X : Cx} {K : PySem.W.Frag} {e : Expr} {ta : TE} {f : Str} {pos : Pos} (hK : X.K = K) (he : PE X e ta) (hb : attributeBase e f X.env (eval e X.env) = eval e X.env) : PE X (.Attribute e f pos) (tFld K ta f) := by
  subst hK
  exact pe_fld he hb
def GoodN (p : Pk) : Prop := nameB p.1 = true ∧ 0 < p.2 ∧ p.2 ≤ topN
theorem name_len {z : Str} (h : nameB z = true) : z.length ≤ 8 := by
  unfold nameB at h
  exact of_decide_eq_true (Bool.and_eq_true_iff.mp (Bool.and_eq_true_iff.mp h).1).2
theorem topN_log {v : Int} (h0 : 0 < v) (h : v ≤ topN) : v.natAbs.log2 < 1920 := by
  have e : (2 ^ 1920 : Nat) > 10 ^ 60 := by decide +kernel
  have h2 : v.natAbs < 2 ^ 1920 := by
    unfold topN at h
    have e2 : ((10 : Int) ^ 60) = ((10 ^ 60 : Nat) : Int) := by decide +kernel
    rw [e2] at h
    generalize 10 ^ 60 = M at *
    omega
  exact (Nat.log2_lt (by omega)).mpr h2
theorem place_len {p : Pk} (g : GoodN p) : p.1.length ≤ 8 ∧ (toString p.2 : Str).length ≤ 60 := by
  obtain ⟨a, b, c⟩ := g
  obtain ⟨z, k⟩ := p
  obtain ⟨m, rfl, m1⟩ := int_nat b
  exact ⟨name_len a, (num_back m1 c).2.1⟩
theorem house_fits {ps : List Pk} (good : ∀ p ∈ ps, GoodN p) (hl : ps.length < 64) : ((ps.map placeText).map (·.length)).sum + (ps.map placeText).length * (" " : Str).length ≤ 16777216 := by
  have each : ∀ y ∈ ps.map placeText, y.length ≤ 69 := fun y hy => by
    obtain ⟨p1, hp, rfl⟩ := List.mem_map.mp hy
    obtain ⟨c1, c2⟩ := place_len (good p1 hp)
    unfold placeText
    rw [Str.length_append, Str.length_append]
    have : ((" " : Str)).length ≤ 1 := by decide +kernel
    omega
  have sm : ∀ ys : List Str, (∀ y ∈ ys, y.length ≤ 69) → (ys.map (·.length)).sum ≤ ys.length * 69 := fun ys => by
    induction ys with
    | nil => intro _; exact Nat.le_refl _
    | cons y r ih =>
      intro h
      have c1 := h y (.head _)
      have c2 := ih fun z hz => h z (.tail _ hz)
      simp only [List.map_cons, List.sum_cons, List.length_cons]
      omega
  have c := sm _ each
  have e : ((" " : Str)).length = 1 := by decide +kernel
  rw [e]
  rw [List.length_map] at c ⊢
  omega
def spHS (K : PySem.W.Frag) (C : Addr) : Sp := fun vs H Q _ => ∃ (a : Addr) (ps : List Pk), vs = [.ref a] ∧ HAt C H a ps ∧ HNorm ps ∧ (∀ p ∈ ps, GoodN p) ∧ ps.length < 64 ∧ ∀ H', Same H H' → Q (.str (houseText ps)) H'
section
variable {P : Program} {w : World} {K : PySem.W.Frag} {mg : Str → Option Value} {base : Heap}
abbrev nHS : List Str := ["self", "bay"]
theorem scHS : FnScope nHS ["self"] (defScope sHStr) := ⟨rfl, rfl, rfl, by decide +kernel, rfl, by decide +kernel, by decide +kernel⟩
theorem ok_HS {C f : Addr} {fd : FuncData} (hc : HouseC K C) (F : Fun K "__str__" "House.__str__" sHStr f fd) : FnR P w K mg base CX0 1 f (spHS K C) := by
  refine OwR.raw0 (F.ok (k := 0) (ps := ["self"]) scHS (fun vs H Q E h => ?_) (fun cdv A outer s H vs Q E hr h => ?_)) (F.binds fun _ _ _ _ _ _ us hl => match us, hl with | [_], _ => rfl)
  · obtain ⟨a, ps, rfl, _⟩ := h
    rfl
  · obtain ⟨a, ps, rfl, ⟨dx, fs, d, b, ea, l1, l2, ed, eb⟩, nm, good, hl, q⟩ := h
    have hu : (A.deeper (envOfC "House.__str__" (defScope sHStr) s.heap.objs.size f cdv)).units + 1 < cLine := by have := hr.units; omega
    refine ⟨_, (pss_cons (ps_if (pt_not (pt_truth (pe_fld (pv 0) rfl) (by intro _; rfl))) (pss_one (ps_ret pe_str)) pss_nil)
    (pss_one (ps_ret (pe_join pe_str (pe_lc (own := [("bay", 1)]) (by rfl) scHS.nd (pi_tup (pe_fld (pv 0) rfl)) (blkOk_by (own := [("bay", 1)]) (N := nHS) (sc := defScope sHStr) (by decide +kernel)) (fun _ _ _ _ _ => (pg_name (i := 1) scHS.nd rfl (Or.inl rfl))) (fun _ _ _ _ _ => pts_nil) (fun _ _ _ _ _ => (pe_joined (PJ.cons (pe_fmt (pv 1)) (PJ.cons pe_str (PJ.cons (pe_fmt (pe_dget hu (pe_fldK (K := K) rfl (pv 0) rfl) (pv 1) (fun _ _ => rfl))) PJ.nil)))))))))), ?_⟩
    have sz := sizeLine_eq
    refine ⟨_, rfl, a, C, dx, fs, .ref b, rfl, ea, hc.cls, hc.n2, l2, ?_⟩
    refine ⟨!(ps.map fun p => V.str p.1).isEmpty, .inr (.inl ⟨_, SqT.of eb, rfl⟩), ?_⟩
    cases ps with
    | nil =>
      refine iteT ?_
      exact q _ (Same.refl H)
    | cons p0 r0 =>
      generalize hps : p0 :: r0 = ps at *
      have hne : ps ≠ [] := by rw [← hps]; simp
      rw [show (!(ps.map fun p => V.str p.1).isEmpty) = true by rw [← hps]; rfl]
      refine iteF ?_
      refine ⟨⟨_, rfl⟩, _, rfl, a, C, dx, fs, .ref b, rfl, ea, hc.cls, hc.n2, l2, b, rfl, ⟨_, SqT.of eb⟩, fun D hD => ?_⟩
      refine lc_it (te := fun σ H Q => tJs [tFmt (tVar 1), tC (V.str (Str.ofString " ")), tFmt (tDGet (tFld K (tVar 0) (Str.ofString "_numbers")) (tVar 1))] Str.empty σ H fun out H1 => Q (V.str out) H1) (walk_tup (xs := ps.map fun p => V.str p.1)) (fun i Hx => Same H Hx ∧ Hx D = some (.lst (((ps.take i).map placeText).map V.str))) ⟨Same.of_new hD, upd_same⟩ (fun i Hx _ q => SqT.of (q.1 b _ eb)) (fun i x Hx Hy hi q0 y => ?_) (fun Hx q0 => ?_)
      · obtain ⟨s1, eD⟩ := q0
        obtain ⟨rfl, hx⟩ := y
        rw [List.getElem?_map] at hx
        obtain ⟨p1, hpi, rfl⟩ := Option.map_eq_some_iff.mp hx
        have hi2 : i < ps.length := (List.getElem?_eq_some_iff.mp hpi).1
        have hp1 := List.mem_of_getElem? hpi
        have g := good p1 hp1
        obtain ⟨ln1, ln2⟩ := place_len g
        have lg := topN_log g.2.1 g.2.2
        refine ⟨rfl, ?_⟩
        have l0 : (Str.empty ++ p1.1).length ≤ 8 := by rw [Str.length_append]; exact (show 0 + p1.1.length ≤ 8 by omega)
        have l1' : (Str.empty ++ p1.1 ++ (" " : Str)).length ≤ 9 := by rw [Str.length_append]; exact Nat.add_le_add l0 (show ((" " : Str)).length ≤ 1 by decide +kernel)
        have l2' : (Str.empty ++ p1.1 ++ (" " : Str) ++ (toString p1.2 : Str)).length ≤ 69 := by rw [Str.length_append]; exact Nat.add_le_add l1' ln2
        have dg : DGet Hy d (.str p1.1) (some (.int p1.2)) := by
          have := TabOf.get (tabOf_list ps) (.inl (s1 _ _ ed)) p1.1
          rw [lookL_some nm.nd hp1] at this
          exact this
        refine ⟨_, rfl, .inl ⟨_, rfl, by omega, _, rfl, by omega, ?_⟩⟩
        refine ⟨_, rfl, by omega, ?_⟩
        refine ⟨_, rfl, a, C, dx, fs, .ref d, rfl, s1 _ _ ea, hc.cls, hc.n1, l1, ?_⟩
        refine ⟨_, rfl, d, _, rfl, dg, .inr ⟨_, rfl, lg, _, rfl, by omega, ?_⟩⟩
        refine ⟨_, eD, by rw [List.length_map, List.length_map, List.length_take]; omega, fun b o e => ?_, ?_⟩
        · rw [upd_ne (ne_of_none e hD)]
          exact s1 b o e
        · rw [upd_same, List.take_add_one, hpi, List.map_append, List.map_append, Str.empty_append]
          rfl
      obtain ⟨s1, eD⟩ := q0
      rw [List.length_map, List.take_length] at eD
      refine ⟨_, D, ps.map placeText, rfl, rfl, .inl (SqL.of eD), ?_, ?_⟩
      · exact house_fits good hl
      · rw [show Txt.join (Str.ofString " ") (ps.map placeText) = houseText ps by rw [houseText, if_neg hne]]
        exact q _ s1
end
end K10
end
section
namespace OwR
open PySem PySem.Spec PyProof.Rows L2
/-! ### xs == [], the items of xs of any kind -/
def rEqNil (K : PySem.W.Frag) : R2 := fun x y H Q => ∃ (a b : Addr) (xs : List V), x = .ref a ∧ y = .ref b ∧ SqL K H a xs ∧ SqL K H b [] ∧ Q (.bl xs.isEmpty) H
theorem op_eqNil {X : Cx} (hu : X.A.units + 64 < cLine) : OpR X (compareOp .Eq) (rEqNil X.K) := by
  intro pins s σ H x y v u Q I rx ry h
  obtain ⟨a, b, xs, rfl, rfl, ha, hb, q⟩ := h
  cases xs with
  | nil =>
    refine op_eqD hu pins s σ H _ _ v u Q I rx ry ⟨.list [], .list [], .lst ha .nil, .lst hb .nil, OwD.shaped_nil, OwD.shaped_nil, ?_⟩
    have e : PyData.eqv (.list []) (.list []) = true := by simp [PyData.eqv, PyData.eqvAll]
    rw [e]
    exact q
  | cons z zs =>
    obtain rfl : v = Value.ref a := rx
    obtain rfl : u = Value.ref b := ry
    obtain ⟨i1, r1, h1, _⟩ := I.list ha
    obtain ⟨i2, r2, h2, _⟩ := I.list hb
    cases r2
    refine SeqAt.eq_list_lengthsAt h1.isList h2.isList ?_ (by omega) ⟨.bl false, H, I, rfl, q⟩
    have l1 := r1.length
    cases i1 with
    | nil => cases r1
    | cons _ _ => rfl
end OwR
end
section
set_option pp.maxSteps 400
set_option pp.deepTerms.threshold 6
/-! The law's own way through the words. -/
namespace K10
open PySem PySem.Spec PyProof.Rows L2
abbrev sIn6 : Stmt := top 32
abbrev sIm6 : Stmt := top 33
abbrev sDu : Stmt := top 34
/-! ### numbers -/
def dig (c : Nat) : Bool := decide (48 ≤ c) && decide (c ≤ 57)
def numP (z : Str) : Bool := match numO z with
  | some k => decide (1 ≤ k)
  | none => false
theorem dig_num {z : Str} (a : z.cps.toList.all dig = true) (ne : z.cps.toList ≠ []) : (Txt.isascii z && Txt.isdigit z) = true := by
  have al := List.all_eq_true.mp a
  have l : z.length = z.cps.toList.length := by simp [Str.length]
  rw [Bool.and_eq_true]
  refine ⟨?_, ?_⟩
  · show z.cps.all (· < 128) = true
    rw [← Array.all_toList]
    refine List.all_eq_true.mpr fun c hc => decide_eq_true ?_
    have := of_decide_eq_true (Bool.and_eq_true_iff.mp (al c hc)).2
    omega
  · unfold Txt.isdigit
    rw [Bool.and_eq_true]
    refine ⟨decide_eq_true ?_, ?_⟩
    · rw [l]
      exact List.length_pos_iff.mpr ne
    · rw [← Array.all_toList]
      refine List.all_eq_true.mpr fun c hc => ?_
      have h := al c hc
      have := of_decide_eq_true (Bool.and_eq_true_iff.mp h).2
      rw [digit_codes c (by omega)]
      exact h
theorem zero_text : (toString ((0 : Nat) : Int) : Str).cps.toList.head? = some 48 := by decide +kernel
theorem numP_eq (z : Str) : numP z = (z.cps.toList.all dig && (decide (1 ≤ z.length) && (decide (z.length ≤ 60) && !decide (z.cps.toList.head? = some 48)))) := by
  have l : z.length = z.cps.toList.length := by simp [Str.length]
  have no : numB z = false → numP z = false := fun e => by
    unfold numP numO
    rw [if_neg (by rw [e]; decide)]
  cases a : z.cps.toList.all dig with
  | false =>
    rw [Bool.false_and]
    refine no ?_
    cases h : (Txt.isascii z && Txt.isdigit z) with
    | false => unfold numB; rw [h]; rfl
    | true =>
      have := (ascii_digits h).1
      rw [show (z.cps.toList.all fun c => decide (48 ≤ c) && decide (c ≤ 57)) = z.cps.toList.all dig from rfl, a] at this
      cases this
  | true =>
    rw [Bool.true_and]
    by_cases c1 : z.cps.toList = []
    · rw [decide_eq_false (show ¬ 1 ≤ z.length by rw [l, c1]; decide), Bool.false_and]
      refine no ?_
      unfold numB Txt.isdigit
      rw [show decide (0 < z.length) = false from decide_eq_false (by rw [l, c1]; decide), Bool.false_and, Bool.and_false, Bool.false_and]
    · have d := dig_num a c1
      rw [decide_eq_true (show 1 ≤ z.length by rw [l]; exact List.length_pos_iff.mpr c1), Bool.true_and]
      by_cases c2 : z.length ≤ 60
      · rw [decide_eq_true c2, Bool.true_and]
        cases c3 : decide (z.cps.toList.head? = some 48) with
        | false =>
          have b : numB z = true := by
            unfold numB
            rw [d, c3, decide_eq_true c2]
            rfl
          have p : 1 ≤ numN z := by
            rcases Nat.eq_zero_or_pos (numN z) with e | e
            · exfalso
              have t := num_text b
              rw [e] at t
              have h0 := zero_text
              rw [t] at h0
              rw [decide_eq_true h0] at c3
              cases c3
            · exact e
          unfold numP numO
          rw [if_pos b]
          exact decide_eq_true p
        | true =>
          cases c4 : decide (1 < z.length) with
          | true =>
            refine no ?_
            unfold numB
            rw [c3, c4, d]
            simp
          | false =>
            have c4 := of_decide_eq_false c4
            have h := of_decide_eq_true c3
            have e : z.cps.toList = [48] := by
              match q : z.cps.toList, h with
              | [x], h => rw [Option.some.inj h]
              | x :: y :: r, h =>
                rw [l, q] at c4
                exact absurd (show 1 < (x :: y :: r).length by simp) c4
            have b : numB z = true := by
              unfold numB
              rw [d, decide_eq_true c2, decide_eq_false c4]
              simp
            have n0 : numN z = 0 := by
              unfold numN
              rw [e]
              decide +kernel
            unfold numP numO
            rw [if_pos b, n0]
            rfl
      · rw [decide_eq_false c2, Bool.false_and]
        refine no ?_
        unfold numB
        rw [decide_eq_false c2, Bool.false_and, Bool.and_false]
theorem numP_some {z : Str} (h : numP z = true) : ∃ k : Nat, numO z = some k ∧ 1 ≤ k := by
  unfold numP at h
  cases e : numO z with
  | none => rw [e] at h; cases h
  | some k => rw [e] at h; exact ⟨k, rfl, of_decide_eq_true h⟩
theorem numP_none {z : Str} (h : numP z = false) : ∀ k, numO z = some k → ¬ 1 ≤ k := fun k e c => by
  unfold numP at h
  rw [e] at h
  exact of_decide_eq_false h c
theorem abc_letter (c : Nat) : decide (c ∈ ("abcdefghijklmnopqrstuvwxyz" : Str).cps.toList) = letter c := by
  have e : ("abcdefghijklmnopqrstuvwxyz" : Str).cps.toList = (List.range 26).map (· + 97) := by decide +kernel
  rw [e]
  unfold letter
  rw [Bool.eq_iff_iff, decide_eq_true_eq, Bool.and_eq_true, decide_eq_true_eq, decide_eq_true_eq, List.mem_map]
  refine ⟨fun ⟨a, h1, h2⟩ => ?_, fun ⟨h1, h2⟩ => ⟨c - 97, List.mem_range.mpr (by omega), by omega⟩⟩
  have := List.mem_range.mp h1
  omega
theorem dec_dig (c : Nat) : decide (c ∈ ("0123456789" : Str).cps.toList) = dig c := by
  have e : ("0123456789" : Str).cps.toList = (List.range 10).map (· + 48) := by decide +kernel
  rw [e]
  unfold dig
  rw [Bool.eq_iff_iff, decide_eq_true_eq, Bool.and_eq_true, decide_eq_true_eq, decide_eq_true_eq, List.mem_map]
  refine ⟨fun ⟨a, h1, h2⟩ => ?_, fun ⟨h1, h2⟩ => ⟨c - 48, List.mem_range.mpr (by omega), by omega⟩⟩
  have := List.mem_range.mp h1
  omega
def spIn6 : Sp := fun vs H Q _ => ∃ z : Str, vs = [.str z] ∧ z.length ≤ 1000 ∧ ∀ H', Same H H' → Q (.bl (nameB z)) H'
def spIm6 : Sp := fun vs H Q _ => ∃ z : Str, vs = [.str z] ∧ z.length ≤ 1000 ∧ PyData.strOk z = true ∧ ∀ H', Same H H' → Q (.bl (numP z)) H'
section
variable {P : Program} {w : World} {K : PySem.W.Frag} {mg : Str → Option Value} {base : Heap}
abbrev nIs : List Str := ["_law_word_here", "_law_sign"]
theorem scIs : FnScope nIs ["_law_word_here"] (defScope sIn6) := ⟨rfl, rfl, rfl, by decide +kernel, rfl, by decide +kernel, by decide +kernel⟩
theorem ok_In6 {f : Addr} {fd : FuncData} (F : Fun K "_law_is_name" "_law_is_name" sIn6 f fd) (n_len : mg "len" = none) : FnOk P w K mg base CX0 1 f fd ["_law_word_here"] spIn6 := by
  refine F.ok scIs (fun vs H Q E h => ?_) (fun cdv A outer s H vs Q E hr h => ?_)
  · obtain ⟨z, rfl, _⟩ := h
    rfl
  · obtain ⟨z, rfl, lz, q⟩ := h
    have hud := hr.units
    refine ⟨_, (pss_one (ps_ret (pe_and (pe_chain op_le op_le pe_int (pe_callB call_len (by rfl) n_len boot_len (pa_cons (pv 0) pa_nil)) pe_int) (pe_one (pe_cmpR (OwR.op_eqNil hud) (pe_lc (own := [("_law_sign", 1)]) (by rfl) scIs.nd (pi_str (pv 0)) (blkOk_by (own := [("_law_sign", 1)]) (N := nIs) (sc := defScope sIn6) (by decide +kernel)) (fun _ _ _ _ _ => (pg_name (i := 1) scIs.nd rfl (Or.inl rfl))) (fun _ _ _ _ _ => pts_one (pt_cmpR op_notIn_sign (pv 1) pe_str (by rfl))) (fun _ _ _ _ _ => (pv 1))) (pe_lst pa_nil) (nomark _)))))), ?_⟩
    have sz := sizeLine_eq
    have hz2 : z.length ≤ sizeLine := by omega
    refine ⟨_, rfl, .str z, z.length, rfl, ⟨hz2, rfl⟩, _, _, rfl, rfl, ?_⟩
    refine ⟨_, rfl, ?_⟩
    have e9 : z.cps.toList.length = z.length := by first | rfl | simp [Str.length]
    have e8 : z.cps.size = z.length := rfl
    have fls : nameB z = false → Q (.bl false) H := fun e => by
      rw [← e]
      exact q H (Same.refl H)
    refine ite2 (fun c1 => ?_) (fun c1 => ?_)
    · have d1 : 1 ≤ z.length := by
        have := of_decide_eq_true c1
        omega
      refine ⟨_, _, rfl, rfl, _, rfl, ?_⟩
      refine ite2 (fun c2 => ?_) (fun c2 => ?_)
      · have d2 : z.length ≤ 8 := by
          have := of_decide_eq_true c2
          omega
        refine ⟨_, rfl, z, rfl, fun D hD => lc_it (walk_str (z := z)) (fun i Hx => Same H Hx ∧ ∃ xs : List V, Hx D = some (.lst xs) ∧ xs.length ≤ i ∧ xs.isEmpty = (z.cps.toList.take i).all letter) ⟨Same.of_new hD, [], upd_same, Nat.le_refl 0, rfl⟩ (fun _ _ _ _ => trivial) ?_ ?_⟩
        · rintro i x H1 H2 hi ⟨s1, xs, eD, lx, ex⟩ ⟨rfl, c, hc, rfl⟩
          have et : z.cps.toList.take (i + 1) = z.cps.toList.take i ++ [c] := by
            rw [List.take_add_one, show z.cps.toList[i]? = some c by rw [Array.getElem?_toList]; exact hc]
            rfl
          refine ⟨rfl, ?_⟩
          refine ⟨_, rfl, c, _, rfl, rfl, _, rfl, ?_⟩
          rw [abc_letter c]
          cases cl : letter c with
          | true =>
            refine iteF ?_
            refine ⟨s1, xs, eD, by omega, ?_⟩
            rw [et, List.all_append, ex, List.all_cons, List.all_nil, cl, Bool.and_self, Bool.and_true]
          | false =>
            refine iteT ?_
            refine ⟨_, rfl, xs, eD, by omega, fun b o e => ?_, _, upd_same, by rw [List.length_append, List.length_singleton]; omega, ?_⟩
            · rw [upd_ne (ne_of_none e hD)]
              exact s1 b o e
            · rw [et, List.all_append, List.all_cons, cl, Bool.false_and, Bool.and_false]
              cases xs <;> rfl
        · rintro Hx ⟨s1, xs, eD, lx, ex⟩
          refine ⟨Nat.zero_le _, fun N hN => ?_⟩
          have s3 := Same.of_new (o := .lst []) hN
          refine ⟨D, N, xs, rfl, rfl, SqL.of (s3 _ _ eD), SqL.of upd_same, ?_⟩
          rw [List.take_of_length_le (by rw [e9]; exact Nat.le_refl _)] at ex
          have en : nameB z = xs.isEmpty := by
            unfold nameB
            rw [decide_eq_true d1, decide_eq_true d2, ex]
            rfl
          rw [← en]
          exact q _ (s1.trans s3)
      · refine fls ?_
        unfold nameB
        rw [show decide (z.length ≤ 8) = false from decide_eq_false fun h => c2 (decide_eq_true (by omega)), Bool.and_false, Bool.false_and]
    · refine ⟨_, rfl, iteF (fls ?_)⟩
      unfold nameB
      rw [show decide (1 ≤ z.length) = false from decide_eq_false fun h => c1 (decide_eq_true (by omega)), Bool.false_and, Bool.false_and]
abbrev nIm : List Str := ["_law_word_here", "_law_sign"]
theorem scIm : FnScope nIm ["_law_word_here"] (defScope sIm6) := ⟨rfl, rfl, rfl, by decide +kernel, rfl, by decide +kernel, by decide +kernel⟩
theorem one_ok {z : Str} (h : PyData.strOk z = true) {c : Nat} (hc : c ∈ z.cps.toList) : PyData.strOk (⟨#[c]⟩ : Str) = true := by
  have h : z.cps.all (· < 0x110000) = true := h
  rw [← Array.all_toList] at h
  have := List.all_eq_true.mp h c hc
  show (#[c] : Array Nat).all (· < 0x110000) = true
  rw [← Array.all_toList]
  show (decide (c < 0x110000) && true) = true
  rw [this]
  rfl
theorem ok_Im6 {f : Addr} {fd : FuncData} (F : Fun K "_law_is_number" "_law_is_number" sIm6 f fd) (n_len : mg "len" = none) : FnOk P w K mg base CX0 1 f fd ["_law_word_here"] spIm6 := by
  refine F.ok scIm (fun vs H Q E h => ?_) (fun cdv A outer s H vs Q E hr h => ?_)
  · obtain ⟨z, rfl, _⟩ := h
    rfl
  · obtain ⟨z, rfl, lz, zo, q⟩ := h
    have hud := hr.units
    refine ⟨_, (pss_cons (ps_if (pt_cmpR (op_neD hud) (pe_lc (own := [("_law_sign", 1)]) (by rfl) scIm.nd (pi_str (pv 0)) (blkOk_by (own := [("_law_sign", 1)]) (N := nIm) (sc := defScope sIm6) (by decide +kernel)) (fun _ _ _ _ _ => (pg_name (i := 1) scIm.nd rfl (Or.inl rfl))) (fun _ _ _ _ _ => pts_one (pt_cmpR op_notIn_sign (pv 1) pe_str (by rfl))) (fun _ _ _ _ _ => (pv 1))) (pe_lst pa_nil) (nomark _)) (pss_one (ps_ret pe_bl)) pss_nil)
    (pss_one (ps_ret (pe_and (pe_chain op_le op_le pe_int (pe_callB call_len (by rfl) n_len boot_len (pa_cons (pv 0) pa_nil)) pe_int) (pe_one (pe_cmpR op_ne (pe_ix ix_str (pv 0) pe_int (fun _ _ => rfl)) pe_str (nomark _))))))), ?_⟩
    have sz := sizeLine_eq
    have hz2 : z.length ≤ sizeLine := by omega
    have e9 : z.cps.toList.length = z.length := by first | rfl | simp [Str.length]
    have e8 : z.cps.size = z.length := rfl
    refine ⟨_, rfl, z, rfl, fun D hD => lc_it (walk_str (z := z)) (fun i Hx => Same H Hx ∧ ∃ xs : List Nat, Hx D = some (.lst ((xs.map fun c => (⟨#[c]⟩ : Str)).map V.str)) ∧ xs.length ≤ i ∧ xs = (z.cps.toList.take i).filter fun c => !dig c) ⟨Same.of_new hD, [], upd_same, Nat.le_refl 0, rfl⟩ (fun _ _ _ _ => trivial) ?_ ?_⟩
    · rintro i x H1 H2 hi ⟨s1, xs, eD, lx, ex⟩ ⟨rfl, c, hc, rfl⟩
      have et : z.cps.toList.take (i + 1) = z.cps.toList.take i ++ [c] := by
        rw [List.take_add_one, show z.cps.toList[i]? = some c by rw [Array.getElem?_toList]; exact hc]
        rfl
      refine ⟨rfl, ?_⟩
      refine ⟨_, rfl, c, _, rfl, rfl, _, rfl, ?_⟩
      rw [dec_dig c]
      cases cl : dig c with
      | true =>
        refine iteF ?_
        refine ⟨s1, xs, eD, by omega, ?_⟩
        rw [et, List.filter_append, ← ex, List.filter_cons_of_neg (by rw [cl]; decide), List.filter_nil, List.append_nil]
      | false =>
        refine iteT ?_
        refine ⟨_, rfl, _, eD, by rw [List.length_map, List.length_map]; omega, fun b o e => ?_, xs ++ [c], by rw [List.map_append, List.map_append]; exact upd_same, by rw [List.length_append, List.length_singleton]; omega, ?_⟩
        · rw [upd_ne (ne_of_none e hD)]
          exact s1 b o e
        · rw [et, List.filter_append, ← ex, List.filter_cons_of_pos (by rw [cl]; rfl), List.filter_nil]
    · rintro Hx ⟨s1, xs, eD, lx, ex⟩
      refine ⟨Nat.zero_le _, fun N hN => ?_⟩
      have s3 := Same.of_new (o := .lst []) hN
      have s13 := s1.trans s3
      have es : xs.isEmpty = z.cps.toList.all dig := by
        rw [ex, List.take_of_length_le (by rw [e9]; exact Nat.le_refl _)]
        cases ha : z.cps.toList.all dig with
        | true =>
          have al := List.all_eq_true.mp ha
          rw [List.filter_eq_nil_iff.mpr fun c hc => by rw [al c hc]; decide]
          rfl
        | false =>
          cases hf : z.cps.toList.filter fun c => !dig c with
          | cons _ _ => rfl
          | nil =>
            have nn := List.filter_eq_nil_iff.mp hf
            have : z.cps.toList.all dig = true := List.all_eq_true.mpr fun c hc => by
              cases hd : dig c with
              | true => rfl
              | false => exact absurd (by rw [hd]; rfl) (nn c hc)
            rw [ha] at this
            cases this
      have okT : ∀ y ∈ xs.map (fun c => (⟨#[c]⟩ : Str)), PyData.strOk y = true := fun y hy => by
        obtain ⟨c, hc, rfl⟩ := List.mem_map.mp hy
        rw [ex] at hc
        exact one_ok zo (List.mem_of_mem_take (List.mem_filter.mp hc).1)
      refine ⟨.list ((xs.map fun c => (⟨#[c]⟩ : Str)).map PyData.str), .list [], .lst (SqL.of (s3 D _ eD)) (OwD.dp_strs _), .lst (SqL.of upd_same) .nil, shaped_strs okT, OwD.shaped_nil, ?_⟩
      rw [show PyData.eqv (.list ((xs.map fun c => (⟨#[c]⟩ : Str)).map PyData.str)) (.list []) = xs.isEmpty by cases xs <;> simp [PyData.eqv, PyData.eqvAll], es]
      refine ⟨_, rfl, ?_⟩
      rw [numP_eq z] at q
      cases ha : z.cps.toList.all dig with
      | false =>
        rw [ha] at q
        exact iteT (q _ s13)
      | true =>
        rw [ha, Bool.true_and] at q
        refine iteF ?_
        refine ⟨_, rfl, .str z, z.length, rfl, ⟨hz2, rfl⟩, _, _, rfl, rfl, ?_⟩
        refine ⟨_, rfl, ?_⟩
        refine ite2 (fun c1 => ?_) (fun c1 => ?_)
        · have d1 : 1 ≤ z.length := by
            have := of_decide_eq_true c1
            omega
          rw [decide_eq_true d1, Bool.true_and] at q
          refine ⟨_, _, rfl, rfl, _, rfl, ?_⟩
          refine ite2 (fun c2 => ?_) (fun c2 => ?_)
          · have d2 : z.length ≤ 60 := by
              have := of_decide_eq_true c2
              omega
            rw [decide_eq_true d2, Bool.true_and] at q
            obtain ⟨d, r, el⟩ : ∃ d r, z.cps.toList = d :: r := by
              match h : z.cps.toList with
              | d :: r => exact ⟨d, r, rfl⟩
              | [] =>
                rw [h] at e9
                have e9 : 0 = z.length := e9
                omega
            refine ⟨_, rfl, z, 0, d, rfl, rfl, hz2, by rw [el]; exact atI_nat (j := 0) rfl, ?_⟩
            refine ⟨rfl, ?_⟩
            have eh : decide (V.str ⟨#[d]⟩ = V.str (Str.ofString "0")) = decide (z.cps.toList.head? = some 48) := by
              rw [el]
              refine decide_eq_decide.mpr ⟨fun e => ?_, fun e => ?_⟩
              · have e := V.str.inj e
                have : (⟨#[d]⟩ : Str).cps.toList = (Str.ofString "0").cps.toList := congrArg (fun x : Str => x.cps.toList) e
                have e0 : (Str.ofString "0").cps.toList = [48] := by decide +kernel
                rw [e0] at this
                exact congrArg List.head? this
              · have e : d = 48 := Option.some.inj e
                rw [e]
                exact congrArg V.str (by decide +kernel)
            rw [eh]
            exact q _ s13
          · rw [show decide (z.length ≤ 60) = false from decide_eq_false fun h => c2 (decide_eq_true (by omega)), Bool.false_and] at q
            exact q _ s13
        · refine ⟨_, rfl, iteF ?_⟩
          rw [show decide (1 ≤ z.length) = false from decide_eq_false fun h => c1 (decide_eq_true (by omega)), Bool.false_and] at q
          exact q _ s13
/-! ### what a line tells -/
theorem or_turn {c d : Bool} {A B W : Prop} (hw : c = false → (if d = true then A else B) → W) (hA : c = true ∨ d = true → A) (hB : c = false → d = false → B) : if c = true then (if true = true then A else B) else W := by
  cases c with
  | true => exact iteT (iteT (hA (.inl rfl)))
  | false =>
    refine iteF (hw rfl ?_)
    cases d with
    | true => exact iteT (hA (.inr rfl))
    | false => exact iteF (hB rfl rfl)
theorem word_at {ws : List Str} {n : Nat} (h : n < ws.length) : atI (ws.map V.str) ((n : Nat) : Int) = some (.str (pk ws n)) := by
  refine atI_nat ?_
  rw [List.getElem?_map]
  unfold pk
  rw [List.getD_eq_getElem?_getD, List.getElem?_eq_getElem h]
  rfl
theorem pk_ok {ws : List Str} (h : ∀ q ∈ ws, PyData.strOk q = true) (n : Nat) : PyData.strOk (pk ws n) = true := by
  unfold pk
  rw [List.getD_eq_getElem?_getD]
  cases e : ws[n]? with
  | none => exact by decide +kernel
  | some q => exact h q (List.mem_of_getElem? e)
def DueEnd (H : Hp) (Q : VK) (pre : List Pk) : Except Nat (List Pk) → Prop
  | .ok ps => ∀ D H', Same H H' → H' D = some (.dK (tabL (pre ++ ps))) → Q (.ref D) H'
  | .error e => ∀ H', Same H H' → Q (.int (e : Nat)) H'
/-- a line short enough -/
structure LineOk (z : Str) : Prop where
  len : z.length ≤ 100000
  word : ∀ i, (pk (wordsOf z) i).length ≤ 1000
  many : (wordsOf z).length ≤ 100
  ok : ∀ q ∈ wordsOf z, PyData.strOk q = true
def spDu : Sp := fun vs H Q _ => ∃ z : Str, vs = [.str z] ∧ LineOk z ∧ DueEnd H Q [] (placesRead (wordsOf z))
abbrev nDu : List Str := ["_law_line", "_law_words", "_law_found", "_law_last", "_law_at"]
theorem scDu : FnScope nDu ["_law_line"] (defScope sDu) := ⟨rfl, rfl, rfl, by decide +kernel, rfl, by decide +kernel, by decide +kernel⟩
theorem pair_range {n : Nat} (h : n ≤ 100) : RgC 0 ((n : Nat) : Int) 2 ((n + 1) / 2) := by
  have key : ∀ m : Fin 101, Builtin.Range.small 0 ((m.val : Nat) : Int) 2 = true ∧ Builtin.Range.rangeSize 0 ((m.val : Nat) : Int) 2 = (((m.val + 1) / 2 : Nat) : Int) := by decide +kernel
  obtain ⟨k1, k2⟩ := key ⟨n, by omega⟩
  exact ⟨by decide, by decide, k1, k2⟩
theorem ok_Du {f fI fM : Addr} {fd fdI fdM : FuncData} (F : Fun K "_law_due" "_law_due" sDu f fd) (F_isn : Fun K "_law_is_name" "_law_is_name" sIn6 fI fdI) (g_isn : mg "_law_is_name" = some (.ref fI)) (F_isd : Fun K "_law_is_number" "_law_is_number" sIm6 fM fdM) (g_isd : mg "_law_is_number" = some (.ref fM)) (n_len : mg "len" = none) (n_int : mg "int" = none) (n_range : mg "range" = none) : FnOk P w K mg base CX0 2 f fd ["_law_line"] spDu := by
  have G_isn : FnOk P w K mg base CX0 1 fI fdI ["_law_word_here"] spIn6 := ok_In6 F_isn n_len
  have b_isn : Binds K fdI ["_law_word_here"] [] := F_isn.binds fun _ _ _ _ _ _ us hl => match us, hl with | [_], _ => rfl
  have G_isd : FnOk P w K mg base CX0 1 fM fdM ["_law_word_here"] spIm6 := ok_Im6 F_isd n_len
  have b_isd : Binds K fdM ["_law_word_here"] [] := F_isd.binds fun _ _ _ _ _ _ us hl => match us, hl with | [_], _ => rfl
  refine F.ok scDu (fun vs H Q E h => ?_) (fun cdv A outer s H vs Q E hr h => ?_)
  · obtain ⟨z, rfl, _⟩ := h
    rfl
  · obtain ⟨z, rfl, ok, q⟩ := h
    have hr1 : Room 1 _ := hr
    have hud := hr.units
    have hu : (A.deeper (envOfC "_law_due" (defScope sDu) s.heap.objs.size f cdv)).units + 1 < cLine := by omega
    refine ⟨_, (pss_cons (ps_par3 (i := 1) (j := 2) (l := 3) (by rfl) scDu.nd rfl rfl rfl (by decide) (by decide) (by decide) rfl rfl rfl (pa_cons (pe_split (pv 0) pe_str) (pa_cons pe_dnewK (pa_cons pe_str pa_nil))) (by rfl))
    (pss_cons (ps_if (pt_cmpR (op_eqD hud) (pv 1) (pe_lst (pa_cons pe_str pa_nil)) (nomark _)) (pss_one (ps_ret (pv 2))) pss_nil)
    (pss_cons (ps_for PassesOwn.never rfl (pi_range3 rfl n_range (pa_cons pe_int (pa_cons (pe_callB call_len_seq (by rfl) n_len boot_len (pa_cons (pv 1) pa_nil)) (pa_cons pe_int pa_nil)))) (pg_name (i := 4) scDu.nd rfl (Or.inl rfl)) (pss_cons (ps_if (PW.pt (pw_or (pt_not (pt_val (pe_call G_isn hr1 (by rfl) g_isn F_isn.kp b_isn .nil pass0 (pa_cons (pe_ix ix_list (pv 1) (pv 4) (fun _ _ => rfl)) pa_nil)))) (pw_or1 (pt_cmpR op_le_str (pe_ix ix_list (pv 1) (pv 4) (fun _ _ => rfl)) (pv 3) (nomark _))))) (pss_one (ps_ret (pv 4))) pss_nil)
    (pss_cons (ps_if (PW.pt (pw_or (pt_cmpR op_eq (pe_op op_add (pv 4) pe_int) (pe_callB call_len_seq (by rfl) n_len boot_len (pa_cons (pv 1) pa_nil)) (nomark _)) (pw_or1 (pt_not (pt_val (pe_call G_isd hr1 (by rfl) g_isd F_isd.kp b_isd .nil pass0 (pa_cons (pe_ix ix_list (pv 1) (pe_op op_add (pv 4) pe_int) (fun _ _ => rfl)) pa_nil))))))) (pss_one (ps_ret (pe_op op_add (pv 4) pe_int))) pss_nil)
    (pss_cons (ps_set (i := 3) scDu.nd rfl (Or.inl rfl) (pe_ix ix_list (pv 1) (pv 4) (fun _ _ => rfl)))
    (pss_one (ps_dput hu (pv 2) (pv 3) (pe_callTy call_int_str (by rfl) n_int (by decide +kernel) (pa_cons (pe_ix ix_list (pv 1) (pe_op op_add (pv 4) pe_int) (fun _ _ => rfl)) pa_nil)) rfl))))))
    (pss_one (ps_ret (pv 2)))))), ?_⟩
    have sz := sizeLine_eq
    have wne := words_ne z
    have lw := ok.word
    have lm := ok.many
    have wok := ok.ok
    have l0 : 0 < (wordsOf z).length := List.length_pos_iff.mpr wne
    have lz := ok.len
    refine ⟨_, rfl, ⟨_, rfl⟩, z, " ", rfl, rfl, by decide +kernel, by omega, fun W1 hW D hD => ⟨_, _, _, rfl, ?_⟩⟩
    have u1 := Same.of_new (o := .lst ((Txt.split z (Str.ofString " ")).map V.str)) hW
    have u2 := Same.of_new (o := .dK []) hD
    have u12 := u1.trans u2
    have hHD : H D = none := by
      cases e : H D with
      | none => rfl
      | some o =>
        have := u1 _ _ e
        rw [hD] at this
        cases this
    have nWD : W1 ≠ D := fun e => by
      rw [← e, upd_same] at hD
      cases hD
    have eW0 : upd (upd H W1 (.lst ((Txt.split z (Str.ofString " ")).map V.str))) D (.dK []) W1 = some (.lst ((wordsOf z).map V.str)) := u2 _ _ upd_same
    have eD0 : upd (upd H W1 (.lst ((Txt.split z (Str.ofString " ")).map V.str))) D (.dK []) D = some (.dK (tabL [])) := upd_same
    generalize upd (upd H W1 (.lst ((Txt.split z (Str.ofString " ")).map V.str))) D (.dK []) = H0 at *
    generalize wordsOf z = ws at *
    refine ⟨_, rfl, by show (1 : Nat) ≤ sizeLine; omega, fun L hL => ?_⟩
    have sL := Same.of_new (o := .lst [.str "none"]) hL
    refine ⟨.list (ws.map PyData.str), .list ([("none" : Str)].map PyData.str), .lst (SqL.of (sL _ _ eW0)) (OwD.dp_strs _), .lst (SqL.of upd_same) (OwD.dp_strs [("none" : Str)]), shaped_strs wok, shaped_strs (by decide +kernel), ?_⟩
    rw [strs_eqL]
    refine ⟨_, rfl, ?_⟩
    have uA := u12.trans sL
    have eW1 := sL _ _ eW0
    have eD1 := sL _ _ eD0
    unfold placesRead at q
    by_cases cn : ws = [("none" : Str)]
    · rw [if_pos cn] at q
      rw [decide_eq_true cn]
      refine iteT ?_
      exact ⟨_, rfl, q D _ uA eD1⟩
    · rw [if_neg cn] at q
      rw [decide_eq_false cn]
      refine iteF ?_
      refine ⟨_, rfl, W1, _, rfl, .inl (SqL.of eW1), 0, _, 2, _, rfl, by rw [List.length_map]; exact pair_range lm, ?_⟩
      refine for_it (walk_rangeC (lo := 0) (c := 2) (n := (ws.length + 1) / 2)) (fun i σ Hx => ∃ (last : Str) (done : List Pk) (x4 : Option V), σ = [some (.str z), some (.ref W1), some (.ref D), some (.str last), x4] ∧ Same H Hx ∧ Hx W1 = some (.lst (ws.map V.str)) ∧ Hx D = some (.dK (tabL done)) ∧ (∀ p ∈ done, p.1 = last ∨ ltS p.1 last = true) ∧ done.length ≤ i ∧ DueEnd H Q done (placesFrom ws (ws.length + 1 - i) last (2 * i)))
        ⟨"", [], none, rfl, uA, eW1, eD1, fun p hp => (by cases hp), Nat.le_refl 0, q⟩ (fun _ _ _ _ _ => True.intro) (fun i x σ Hx Hy hi q0 y => ?_) (fun σ Hx q0 => ?_)
      · obtain ⟨last, done, x4, rfl, sx, eWx, eDx, ld, ldn, hk⟩ := q0
        obtain ⟨rfl, ex⟩ := y
        have ex : x = V.int ((2 * i : Nat) : Int) := ex.trans (congrArg V.int (show (0 : Int) + ((i : Nat) : Int) * 2 = (((2 * i : Nat)) : Int) by omega))
        subst ex
        have hi2 : 2 * i < ws.length := by omega
        obtain ⟨f', hf'⟩ : ∃ f', ws.length + 1 - i = f' + 1 := ⟨ws.length - i, by omega⟩
        have hf2 : ws.length + 1 - (i + 1) = f' := by omega
        rw [hf'] at hk
        have nx : 2 * (i + 1) = 2 * i + 2 := by omega
        generalize hn : 2 * i = n at *
        refine ⟨_, rfl, _, rfl, W1, _, _, _, rfl, rfl, SqL.of eWx, word_at hi2, _, rfl, lw _, fun H1 s1 => ⟨_, rfl, ?_⟩⟩
        have sx1 := sx.trans s1
        have eW2 := s1 _ _ eWx
        have eD2 := s1 _ _ eDx
        refine or_turn (c := !nameB (pk ws n)) (d := !decide (last.cps.toList < (pk ws n).cps.toList)) (fun _ h => ⟨_, rfl, _, rfl, W1, _, _, _, rfl, rfl, SqL.of eW2, word_at hi2, _, rfl, _, _, rfl, rfl, _, rfl, h⟩) (fun c => ?_) (fun c1 c2 => ?_)
        · have d1 : (nameB (pk ws n) && ltS last (pk ws n)) = false := by
            rcases c with c | c
            · rw [show nameB (pk ws n) = false by simpa using c, Bool.false_and]
            · rw [show ltS last (pk ws n) = false by simpa [ltS] using c, Bool.and_false]
          rw [from_bad hi2 (placeRead_bad1 d1)] at hk
          exact ⟨_, rfl, hk H1 sx1⟩
        · have d1 : (nameB (pk ws n) && ltS last (pk ws n)) = true := by
            rw [show nameB (pk ws n) = true by simpa using c1, show ltS last (pk ws n) = true by simpa [ltS] using c2]
            rfl
          have e1 : ((n : Nat) : Int) + 1 = ((n + 1 : Nat) : Int) := by omega
          refine ⟨_, rfl, _, _, rfl, rfl, _, rfl, W1, _, rfl, .inl (SqL.of eW2), rfl, _, rfl, ?_⟩
          rw [List.length_map]
          by_cases c : n + 1 = ws.length
          · rw [show decide (V.int (((n : Nat) : Int) + 1) = V.int ((ws.length : Nat) : Int)) = true from decide_eq_true (congrArg V.int (by omega))]
            refine iteT (iteT ?_)
            have bad : ∀ k, numO (pk ws (n + 1)) = some k → ¬ 1 ≤ k := fun k e => absurd (num_at e) (by omega)
            rw [from_bad hi2 (placeRead_bad2 d1 bad)] at hk
            exact ⟨_, rfl, _, _, rfl, rfl, hk H1 sx1⟩
          · have hi3 : n + 1 < ws.length := by omega
            rw [show decide (V.int (((n : Nat) : Int) + 1) = V.int ((ws.length : Nat) : Int)) = false from decide_eq_false (fun h => c (by injection h; omega))]
            refine iteF ?_
            refine ⟨_, rfl, _, rfl, _, _, rfl, rfl, W1, _, _, _, rfl, rfl, SqL.of eW2, word_at hi3, _, rfl, lw _, pk_ok wok _, fun H2 s2 => ⟨_, rfl, ?_⟩⟩
            have sx2 := sx1.trans s2
            have eW3 := s2 _ _ eW2
            have eD3 := s2 _ _ eD2
            cases cp : numP (pk ws (n + 1)) with
            | false =>
              refine iteT ?_
              rw [from_bad hi2 (placeRead_bad2 d1 (numP_none cp))] at hk
              exact ⟨_, rfl, _, _, rfl, rfl, hk H2 sx2⟩
            | true =>
              refine iteF ?_
              obtain ⟨k, ek, k1⟩ := numP_some cp
              obtain ⟨t1, t2, t3⟩ := num_top ek
              obtain ⟨b1, b2⟩ := Bool.and_eq_true_iff.mp t3
              have b3 := of_decide_eq_true (Bool.and_eq_true_iff.mp b2).1
              rw [from_go hi2 (placeRead_good d1 ek k1)] at hk
              have lt := (Bool.and_eq_true_iff.mp d1).2
              have new : pk ws n ∉ done.map (·.1) := fun m => by
                obtain ⟨p, hp, e⟩ := List.mem_map.mp m
                rcases ld p hp with q | q
                · exact ltS_ne lt (by rw [← q, ← e])
                · exact ltS_ne (ltS_trans q lt) e
              have ltab : (tabL done).length < sizeLine := by
                have e : (tabL done).length = done.length := by unfold tabL; rw [List.length_map]
                rw [e]
                omega
              have pt := put_tab ((k : Nat) : Int) new
              refine ⟨_, rfl, _, rfl, W1, _, _, _, rfl, rfl, SqL.of eW3, word_at hi2, ?_⟩
              refine ⟨_, rfl, _, rfl, _, _, rfl, rfl, W1, _, _, _, rfl, rfl, SqL.of eW3, word_at hi3, _, _, rfl, int_of_num b1 b3, Nat.le_trans b3 (by decide), ?_⟩
              rw [← t2]
              refine ⟨_, rfl, _, rfl, D, _, rfl, DPut.k (k := Sum.inr (pk ws n)) eD3 ltab, ?_⟩
              rw [pt]
              refine ⟨pk ws n, done ++ [(pk ws n, ((k : Nat) : Int))], _, rfl, fun b o e => ?_, ?_, upd_same, fun p hp => ?_, by rw [List.length_append, List.length_singleton]; omega, ?_⟩
              · rw [upd_ne (ne_of_none e hHD)]
                exact sx2 _ _ e
              · rw [upd_ne nWD]
                exact eW3
              · rcases List.mem_append.mp hp with hp | hp
                · rcases ld p hp with q | q
                  · exact .inr (by rw [q]; exact lt)
                  · exact .inr (ltS_trans q lt)
                · exact .inl (by rw [List.mem_singleton.mp hp])
              · rw [hf2, nx]
                cases er : placesFrom ws f' (pk ws n) (n + 2) with
                | error e =>
                  rw [er] at hk
                  exact hk
                | ok r =>
                  rw [er] at hk
                  intro D' H' q1 q2
                  exact hk D' H' q1 (by rw [List.append_assoc] at q2; exact q2)
      · obtain ⟨last, done, x4, rfl, sx, eWx, eDx, ld, ldn, hk⟩ := q0
        rw [from_end (by omega)] at hk
        exact ⟨_, rfl, hk D Hx sx (by rw [List.append_nil]; exact eDx)⟩
end
end K10
end
section
set_option pp.maxSteps 400
set_option pp.deepTerms.threshold 6
/-! The law's tables and their texts. -/
namespace K10
open PySem PySem.Spec PyProof.Rows L2
abbrev sTb : Stmt := top 29
abbrev sTx : Stmt := top 30
/-- a drawn table -/
structure TabP (ts : List Pk) : Prop where
  nd : (ts.map (·.1)).Nodup
  ok : ∀ p ∈ ts, nameB p.1 = true ∧ 0 ≤ p.2 ∧ p.2 ≤ topN
def putP (ps : List Pk) (z : Str) (v : Int) : List Pk := if z ∈ ps.map (·.1) then ps.map (fun p => if p.1 = z then (p.1, v) else p) else ps ++ [(z, v)]
theorem put_any (ps : List Pk) (z : Str) (v : Int) : putK (tabL ps) (Sum.inr z) (.int v) = tabL (putP ps z v) := by
  unfold putP
  by_cases c : z ∈ ps.map (·.1)
  · rw [if_pos c]
    unfold putK
    rw [if_pos]
    · unfold tabL
      rw [List.map_map, List.map_map]
      refine List.map_congr_left fun p _ => ?_
      show (if (Sum.inr p.1 : Key) = Sum.inr z then (Sum.inr p.1, V.int v) else (Sum.inr p.1, V.int p.2)) = (Sum.inr (if p.1 = z then (p.1, v) else p).1, V.int (if p.1 = z then (p.1, v) else p).2)
      by_cases e : p.1 = z
      · rw [if_pos e, if_pos (congrArg Sum.inr e)]
      · rw [if_neg e, if_neg fun h => e (Sum.inr.inj h)]
    · obtain ⟨p, hp, e⟩ := List.mem_map.mp c
      refine List.any_eq_true.mpr ⟨(Sum.inr p.1, V.int p.2), List.mem_map.mpr ⟨p, hp, rfl⟩, decide_eq_true (congrArg Sum.inr e)⟩
  · rw [if_neg c]
    exact put_tab v c
theorem putP_len (ps : List Pk) (z : Str) (v : Int) : (putP ps z v).length ≤ ps.length + 1 := by
  unfold putP
  split
  · rw [List.length_map]
    omega
  · rw [List.length_append]
    exact Nat.le_refl _
theorem putP_keys (ps : List Pk) (z : Str) (v : Int) : (ps.map fun p => if p.1 = z then (p.1, v) else p).map (·.1) = ps.map (·.1) := by
  rw [List.map_map]
  refine List.map_congr_left fun p _ => ?_
  show (if p.1 = z then (p.1, v) else p).1 = p.1
  split <;> rfl
theorem TabP.put {ts : List Pk} (h : TabP ts) {z : Str} {v : Int} (hz : nameB z = true) (h0 : 0 ≤ v) (h1 : v ≤ topN) : TabP (putP ts z v) := by
  unfold putP
  by_cases c : z ∈ ts.map (·.1)
  · rw [if_pos c]
    refine ⟨by rw [putP_keys]; exact h.nd, fun p hp => ?_⟩
    obtain ⟨q, hq, rfl⟩ := List.mem_map.mp hp
    have := h.ok q hq
    split
    · exact ⟨this.1, h0, h1⟩
    · exact this
  · rw [if_neg c]
    refine ⟨?_, fun p hp => ?_⟩
    · rw [List.map_append]
      refine List.nodup_append.mpr ⟨h.nd, by simp, fun a ha b hb => ?_⟩
      rw [show b = z by simpa using hb]
      exact fun e => c (e ▸ ha)
    · rcases List.mem_append.mp hp with hp | hp
      · exact h.ok p hp
      · rw [List.mem_singleton.mp hp]
        exact ⟨hz, h0, h1⟩
theorem name_free {z : Str} (h : nameB z = true) : 32 ∉ TL.tl z := fun m => by
  unfold nameB at h
  have h := List.all_eq_true.mp (Bool.and_eq_true_iff.mp h).2 32 m
  exact absurd h (by decide)
theorem place_flat (ps : List Pk) : (ps.flatMap placeW).length = 2 * ps.length := by
  induction ps with
  | nil => rfl
  | cons p r ih =>
    rw [List.flatMap_cons, List.length_append, ih, List.length_cons]
    show 2 + _ = _
    omega
theorem place_word {ps : List Pk} (g : ∀ p ∈ ps, GoodN p) : ∀ w ∈ ps.flatMap placeW, PyData.strOk w = true ∧ w.length ≤ 60 ∧ 32 ∉ TL.tl w := fun w hw => by
  obtain ⟨p, hp, h⟩ := List.mem_flatMap.mp hw
  have gp := g p hp
  obtain ⟨a, b, c⟩ := gp
  obtain ⟨z, k⟩ := p
  obtain ⟨m, rfl, m1⟩ := int_nat b
  obtain ⟨n1, n2, n3, n4⟩ := num_back m1 c
  rcases List.mem_cons.mp h with rfl | h
  · exact ⟨name_strOk a, Nat.le_trans (name_len a) (by decide), name_free a⟩
  · rw [List.mem_singleton.mp h]
    exact ⟨n4, n2, n3⟩
theorem place_strOk {ps : List Pk} (g : ∀ p ∈ ps, GoodN p) : ∀ w ∈ ps.flatMap placeW, PyData.strOk w = true := fun w hw => (place_word g w hw).1
theorem sum_leB (b : Nat) : ∀ zs : List Str, (∀ z ∈ zs, z.length ≤ b) → (zs.map (·.length)).sum ≤ b * zs.length
  | [], _ => Nat.zero_le _
  | z :: r, h => by
    have i1 := sum_leB b r fun y hy => h y (List.mem_cons_of_mem _ hy)
    have i2 := h z List.mem_cons_self
    rw [List.map_cons, List.sum_cons, List.length_cons, Nat.mul_succ]
    omega
theorem words_fit {ps : List Pk} (g : ∀ p ∈ ps, GoodN p) (l : ps.length ≤ 10) : ((ps.flatMap placeW).map (·.length)).sum + (ps.flatMap placeW).length * (" " : Str).length ≤ 16777216 := by
  have c := sum_leB 60 (ps.flatMap placeW) fun z hz => (place_word g z hz).2.1
  have e : (" " : Str).length = 1 := by decide +kernel
  rw [place_flat] at c ⊢
  rw [e]
  omega
theorem place_tl (p : Pk) : TL.tl (placeText p) = TL.tl p.1 ++ ([32] ++ TL.tl (toString p.2 : Str)) := by
  unfold placeText
  rw [TL.tl_append, TL.tl_append, sp_tl, List.append_assoc]
theorem house_tl : ∀ ps : List Pk, ps ≠ [] → TL.joinL [32] ((ps.flatMap placeW).map TL.tl) = TL.joinL [32] ((ps.map placeText).map TL.tl)
  | [], h => absurd rfl h
  | [p], _ => (place_tl p).symm
  | p :: q :: r, _ => by
    have i := house_tl (q :: r) (by simp)
    have e : ((p :: q :: r).flatMap placeW).map TL.tl = (placeW p).map TL.tl ++ ((q :: r).flatMap placeW).map TL.tl := by
      rw [List.flatMap_cons, List.map_append]
    rw [e, joinL_app _ _ _ (by simp [placeW]) (by simp [placeW]), i]
    show _ = TL.tl (placeText p) ++ ([32] ++ TL.joinL [32] (((q :: r).map placeText).map TL.tl))
    rw [place_tl]
    rfl
theorem house_join {ps : List Pk} (h : ps ≠ []) : Txt.join " " (ps.flatMap placeW) = Txt.join " " (ps.map placeText) := by
  refine TL.ext_tl ?_
  rw [tlj, tlj, house_tl ps h]
/-- the words of a house's text -/
theorem house_words {ps : List Pk} (g : ∀ p ∈ ps, GoodN p) : wordsOf (houseText ps) = wordsH ps := by
  unfold houseText wordsH
  by_cases c : ps = []
  · rw [if_pos c, if_pos c]
    decide +kernel
  · rw [if_neg c, if_neg c, ← house_join c]
    exact words_of (fun e => c (by
      have := place_flat ps
      rw [e] at this
      exact List.length_eq_zero_iff.mp (by simp at this; omega))) fun w hw => (place_word g w hw).2.2
def spTb : Sp := fun vs H Q _ => ∃ (p c : Addr) (ns : List Int) (n : Nat) (z : Int), vs = [.ref p] ∧ PenAt H p c ns n z ∧ n + 200 < 100000 ∧ ∀ (ts : List Pk) (D : Addr) (n' : Nat) (z' : Int) (H' : Hp), TabP ts → ts.length ≤ 4 → n' ≤ n + 150 → PenAt H' p c ns n' z' → But p H H' → D ≠ p → H' D = some (.dK (tabL ts)) → Q (.ref D) H'
def spTx : Sp := fun vs H Q _ => ∃ (d : Addr) (ts : List Pk), vs = [.ref d] ∧ H d = some (.dK (tabL ts)) ∧ TabP ts ∧ ts.length ≤ 10 ∧ ∀ qs H', Same H H' → HNorm qs → (∀ p ∈ qs, p ∈ ts) → (∀ z, valL qs z = (lookL ts z).getD 0) → Q (.str (houseText qs)) H'
section
variable {P : Program} {w : World} {K : PySem.W.Frag} {mg : Str → Option Value} {base : Heap}
abbrev nTb : List Str := ["_law_pen_here", "_law_found", "_law_turn", "_law_name"]
theorem scTb : FnScope nTb ["_law_pen_here"] (defScope sTb) := ⟨rfl, rfl, rfl, by decide +kernel, rfl, by decide +kernel, by decide +kernel⟩
theorem ok_Tb {f fDr fPi fWo : Addr} {fd fdDr fdPi fdWo : FuncData} (F : Fun K "_law_table" "_law_table" sTb f fd) (Nn : Nm mg) (n_range : mg "range" = none) (F_draw : Fun K "_law_draw" "_law_draw" sDraw fDr fdDr) (g_draw : mg "_law_draw" = some (.ref fDr)) (F_pick : Fun K "_law_pick" "_law_pick" sPick fPi fdPi) (g_pick : mg "_law_pick" = some (.ref fPi)) (F_word : Fun K "_law_word" "_law_word" sWord fWo fdWo) (g_word : mg "_law_word" = some (.ref fWo)) :
    FnOk P w K mg base CX0 4 f fd ["_law_pen_here"] spTb := by
  have G_draw : FnOk P w K mg base CX0 1 fDr fdDr ["_law_pen_here", "_law_many"] spDraw := ok_draw F_draw Nn
  have b_draw : Binds K fdDr ["_law_pen_here", "_law_many"] [] := F_draw.binds fun _ _ _ _ _ _ us hl => match us, hl with | [_, _], _ => rfl
  have G_pick : FnOk P w K mg base CX0 2 fPi fdPi ["_law_pen_here", "_law_some"] (spPick K) := ok_pick F_pick Nn F_draw g_draw
  have b_pick : Binds K fdPi ["_law_pen_here", "_law_some"] [] := F_pick.binds fun _ _ _ _ _ _ us hl => match us, hl with | [_, _], _ => rfl
  have G_word : FnOk P w K mg base CX0 3 fWo fdWo ["_law_pen_here"] spWord := ok_word F_word Nn n_range F_draw g_draw F_pick g_pick
  have b_word : Binds K fdWo ["_law_pen_here"] [] := F_word.binds fun _ _ _ _ _ _ us hl => match us, hl with | [_], _ => rfl
  refine F.ok scTb (fun vs H Q E h => ?_) (fun cdv A outer s H vs Q E hr h => ?_)
  · obtain ⟨p, c, ns, n, z, rfl, _⟩ := h
    rfl
  · obtain ⟨p, c, ns, n, z, rfl, hp, hn, q⟩ := h
    have hr3 : Room 3 _ := hr
    have hr2 := hr3.mono (show 2 ≤ 3 by decide)
    have hr1 := hr3.mono (show 1 ≤ 3 by decide)
    have hu : (A.deeper (envOfC "_law_table" (defScope sTb) s.heap.objs.size f cdv)).units + 1 < cLine := by have := hr3.units; omega
    refine ⟨_, (pss_cons (ps_set (i := 1) scTb.nd rfl (Or.inl rfl) pe_dnewK)
    (pss_cons (ps_for PassesOwn.never rfl (pi_range1 rfl n_range (pa_cons (pe_call G_draw hr1 (by rfl) g_draw F_draw.kp b_draw .nil pass0 (pa_cons (pv 0) (pa_cons pe_int pa_nil))) pa_nil)) (pg_name (i := 2) scTb.nd rfl (Or.inl rfl)) (pss_cons (ps_set (i := 3) scTb.nd rfl (Or.inl rfl) (pe_call G_pick hr2 (by rfl) g_pick F_pick.kp b_pick .nil pass0 (pa_cons (pv 0) (pa_cons (pe_lst (pa_cons pe_str (pa_cons (pe_call G_word hr3 (by rfl) g_word F_word.kp b_word .nil pass0 (pa_cons (pv 0) pa_nil)) (pa_cons (pe_call G_word hr3 (by rfl) g_word F_word.kp b_word .nil pass0 (pa_cons (pv 0) pa_nil)) pa_nil)))) pa_nil))))
    (pss_one (ps_dput hu (pv 1) (pv 3) (pe_call G_pick hr2 (by rfl) g_pick F_pick.kp b_pick .nil pass0 (pa_cons (pv 0) (pa_cons (pe_lst (pa_cons pe_int (pa_cons (pe_op op_add pe_int (pe_call G_draw hr1 (by rfl) g_draw F_draw.kp b_draw .nil pass0 (pa_cons (pv 0) (pa_cons pe_int pa_nil)))) (pa_cons (pe_op op_sub (pe_op op_pow pe_int pe_int) pe_int) (pa_cons (pe_op op_add pe_int (pe_call G_draw hr1 (by rfl) g_draw F_draw.kp b_draw .nil pass0 (pa_cons (pv 0) (pa_cons (pe_op op_pow pe_int pe_int) pa_nil)))) pa_nil))))) pa_nil))) rfl))))
    (pss_one (ps_ret (pv 1))))), ?_⟩
    have sz := sizeLine_eq
    intro D hD
    have u1 := Same.of_new (o := .dK []) hD
    have nDp : D ≠ p := fun e => hp.some (e ▸ hD)
    have nDc : D ≠ c := fun e => by
      rw [e, hp.cells] at hD
      cases hD
    have hHD := hD
    refine ⟨_, rfl, p, c, ns, n, z, 5, rfl, hp.same u1, by omega, by decide, by decide +kernel, fun m n1 z1 H1 m0 m5 hn1 hp1 s1 => ?_⟩
    obtain ⟨k, rfl⟩ := Int.eq_ofNat_of_zero_le m0
    have k5 : k ≤ 4 := by omega
    refine ⟨k, rfl, by omega, by omega, ?_⟩
    refine for_it walk_range (fun i σ Hx => ∃ (ts : List Pk) (x2 x3 : Option V) (n' : Nat) (z' : Int), σ = [some (.ref p), some (.ref D), x2, x3] ∧ TabP ts ∧ ts.length ≤ i ∧ n' ≤ n + 1 + 30 * i ∧ PenAt Hx p c ns n' z' ∧ But p H Hx ∧ Hx D = some (.dK (tabL ts)))
      ⟨[], _, _, n1, z1, rfl, ⟨List.nodup_nil, fun p hp => (by cases hp)⟩, Nat.le_refl 0, by omega, hp1, (Same.but p u1).trans s1, s1 _ _ nDp upd_same⟩ (fun _ _ _ _ _ => True.intro) (fun i y0 σ Hx Hy hi q0 y => ?_) (fun σ Hx q0 => ?_)
    · obtain ⟨ts, x2, x3, n2, z2, rfl, tp, lt, ln, hp2, b2, eD⟩ := q0
      obtain ⟨rfl, rfl⟩ := y
      have lt4 : ts.length ≤ 4 := by omega
      refine ⟨_, rfl, _, rfl, p, c, ns, n2, z2, rfl, hp2, by omega, fun w1 n3 z3 H3 e1 e2 hn3 hp3 s3 => ⟨_, rfl, p, c, ns, n3, z3, rfl, hp3, by omega, fun w2 n4 z4 H4 e3 e4 hn4 hp4 s4 => ⟨by show (3 : Nat) ≤ sizeLine; omega, fun L hL => ?_⟩⟩⟩
      have sL := Same.of_new (o := .lst [.str "none", .str w1, .str w2]) hL
      have nL : L ≠ p := fun e => hp4.some (e ▸ hL)
      refine ⟨p, c, L, ns, n4, z4, _, rfl, hp4.same sL, by omega, nL, SqL.of upd_same, by show 0 < 3; decide, by show 3 < 1000; decide, fun x n5 z5 H5 hx hn5 hp5 s5 => ?_⟩
      obtain ⟨nm, rfl, gnm⟩ : ∃ nm : Str, x = .str nm ∧ nameB nm = true := by
        simp only [List.mem_cons, List.not_mem_nil, or_false] at hx
        rcases hx with rfl | rfl | rfl
        · exact ⟨_, rfl, by decide +kernel⟩
        · exact ⟨_, rfl, e1⟩
        · exact ⟨_, rfl, e3⟩
      have b5 := ((s3.trans s4).trans (Same.but p sL)).trans s5
      have eD5 := b5 _ _ nDp eD
      refine ⟨_, rfl, _, rfl, p, c, ns, n5, z5, 120, rfl, hp5, by omega, by decide, by decide +kernel, fun v1 n6 z6 H6 v10 v11 hn6 hp6 s6 => ?_⟩
      refine ⟨_, _, rfl, rfl, _, _, rfl, rfl, ⟨by decide, by decide, by decide⟩, _, _, rfl, rfl, ?_⟩
      refine ⟨_, rfl, _, _, rfl, rfl, ⟨by decide, by decide, by decide⟩, p, c, ns, n6, z6, (10 : Int) ^ 59, rfl, hp6, by omega, by decide +kernel, by decide +kernel, fun v2 n7 z7 H7 v20 v21 hn7 hp7 s7 => ⟨_, _, rfl, rfl, ?_⟩⟩
      refine ⟨by show (4 : Nat) ≤ sizeLine; omega, fun L2 hL2 => ?_⟩
      have sL2 := Same.of_new (o := .lst [.int 0, .int (1 + v1), .int (10 ^ 60 - 1), .int (1 + v2)]) hL2
      have nL2 : L2 ≠ p := fun e => hp7.some (e ▸ hL2)
      refine ⟨p, c, L2, ns, n7, z7, [.int 0, .int (1 + v1), .int (10 ^ 60 - 1), .int (1 + v2)], rfl, hp7.same sL2, by omega, nL2, SqL.of upd_same, by show 0 < 4; decide, by show 4 < 1000; decide, fun x n8 z8 H8 hx hn8 hp8 s8 => ?_⟩
      have t59 : (10 : Int) ^ 59 ≤ topN ∧ (120 : Int) ≤ topN ∧ (0 : Int) ≤ topN := by decide +kernel
      obtain ⟨v, rfl, v0, vt⟩ : ∃ v : Int, x = .int v ∧ 0 ≤ v ∧ v ≤ topN := by
        obtain ⟨t1, t2, t3⟩ := t59
        simp only [List.mem_cons, List.not_mem_nil, or_false] at hx
        rcases hx with rfl | rfl | rfl | rfl
        · exact ⟨_, rfl, Int.le_refl 0, t3⟩
        · exact ⟨_, rfl, by omega, by omega⟩
        · exact ⟨_, rfl, by decide +kernel, Int.le_refl _⟩
        · exact ⟨_, rfl, by omega, by omega⟩
      have b8 := (((b5.trans s6).trans s7).trans (Same.but p sL2)).trans s8
      have eD8 := b8 _ _ nDp eD
      have ltab : (tabL ts).length < sizeLine := by
        have e : (tabL ts).length = ts.length := by unfold tabL; rw [List.length_map]
        rw [e]
        omega
      refine ⟨_, rfl, _, rfl, D, _, rfl, DPut.k (k := Sum.inr nm) eD8 ltab, ?_⟩
      rw [put_any]
      have lp := putP_len ts nm v
      refine ⟨putP ts nm v, _, _, n8, z8, rfl, tp.put gnm v0 vt, by omega, by omega, hp8.put (Ne.symm nDp) (Ne.symm nDc), fun b o nb e => ?_, upd_same⟩
      rw [upd_ne (ne_of_none e hHD)]
      exact b8 _ _ nb (b2 _ _ nb e)
    · obtain ⟨ts, x2, x3, n2, z2, rfl, tp, lt, ln, hp2, b2, eD⟩ := q0
      exact ⟨_, rfl, q ts D n2 z2 Hx tp (by omega) (by omega) hp2 b2 nDp eD⟩
abbrev nTx : List Str := ["_law_told", "_law_words", "_law_name"]
theorem scTx : FnScope nTx ["_law_told"] (defScope sTx) := ⟨rfl, rfl, rfl, by decide +kernel, rfl, by decide +kernel, by decide +kernel⟩
theorem ok_Tx {f : Addr} {fd : FuncData} (F : Fun K "_law_text" "_law_text" sTx f fd) (n_str : mg "str" = none) (n_sorted : mg "sorted" = none) : FnOk P w K mg base CX0 1 f fd ["_law_told"] spTx := by
  refine F.ok scTx (fun vs H Q E h => ?_) (fun cdv A outer s H vs Q E hr h => ?_)
  · obtain ⟨d, ts, rfl, _⟩ := h
    rfl
  · obtain ⟨d, ts, rfl, ed, tp, lt, q⟩ := h
    have hud := hr.units
    have hu : (A.deeper (envOfC "_law_text" (defScope sTx) s.heap.objs.size f cdv)).units + 1 < cLine := by omega
    refine ⟨_, (pss_cons (ps_set (i := 1) scTx.nd rfl (Or.inl rfl) (pe_lst pa_nil))
    (pss_cons (ps_for PassesOwn.never rfl (pi_list (pe_callB cr_sortedS (by rfl) n_sorted (by decide +kernel) (pa_cons (pe_lock (pe_lc (own := [("_law_name", 2)]) (by rfl) scTx.nd (pi_keys (pv 0)) (blkOk_by (own := [("_law_name", 2)]) (N := nTx) (sc := defScope sTx) (by decide +kernel)) (fun _ _ _ _ _ => (pg_name (i := 2) scTx.nd rfl (Or.inl rfl))) (fun _ _ _ _ _ => pts_one (pt_cmpR op_gt (pe_dget hu (pv 0) (pv 2) (fun _ _ => rfl)) pe_int (nomark _))) (fun _ _ _ _ _ => (pe_callTy SkE.call_str_str (by rfl) n_str (by decide +kernel) (pa_cons (pv 2) pa_nil))))) pa_nil))) (pg_name (i := 2) scTx.nd rfl (Or.inl rfl)) (pss_one (ps_set (i := 1) scTx.nd rfl (Or.inl rfl) (pe_op op_cat (pv 1) (pe_lst (pa_cons (pv 2) (pa_cons (pe_callTy call_str_int (by rfl) n_str (by decide +kernel) (pa_cons (pe_dget hu (pv 0) (pv 2) (fun _ _ => rfl)) pa_nil)) pa_nil)))))))
    (pss_one (ps_ret (pe_ifExp (pt_cmpR (op_neD hud) (pv 1) (pe_lst pa_nil) (nomark _)) (pe_join pe_str (pv 1)) pe_str))))), ?_⟩
    have sz := sizeLine_eq
    refine ⟨Nat.zero_le _, fun W0 hW => ?_⟩
    have u0 := Same.of_new (o := .lst []) hW
    refine ⟨d, _, u0 _ _ ed, True.intro, fun od => ?_⟩
    refine ⟨_, rfl, d, od, rfl, .inl ⟨tabL ts, upd_same, fun L hL => ?_⟩⟩
    have nLd : L ≠ d := fun e => by
      rw [e, upd_same] at hL
      cases hL
    refine lc_it (walk_keys (kvs := tabL ts)) (fun i Hx => Same (upd (upd H W0 (.lst [])) d (.frz od (.dK (tabL ts)))) Hx ∧ Hx L = some (.lst ((((ts.take i).filter fun p => decide (0 < p.2)).map (·.1)).map V.str))) ⟨Same.of_new hL, upd_same⟩ (fun i Hx _ q => q.1 _ _ upd_same) (fun i x Hx Hy hi q0 y => ?_) (fun Hx q0 => ?_)
    · obtain ⟨s1, eL⟩ := q0
      obtain ⟨rfl, ky, v, hk, rfl⟩ := y
      rw [show (tabL ts)[i]? = (ts[i]?).map fun q => (Sum.inr q.1, V.int q.2) by unfold tabL; rw [List.getElem?_map]] at hk
      obtain ⟨p1, hpi, e1⟩ := Option.map_eq_some_iff.mp hk
      obtain ⟨rfl, rfl⟩ := Prod.mk.inj e1
      have hp1 := List.mem_of_getElem? hpi
      have ed1 := s1 _ _ upd_same
      have dg : DGet Hy d (.str p1.1) (some (.int p1.2)) := by
        have := TabOf.get (tabOf_list ts) (.inr ⟨od, ed1⟩) p1.1
        rw [lookL_some tp.nd hp1] at this
        exact this
      refine ⟨rfl, ?_⟩
      refine ⟨_, rfl, _, rfl, d, _, rfl, dg, _, _, rfl, rfl, _, rfl, ?_⟩
      have lf : (ts.take i).length ≤ 10 := by rw [List.length_take]; omega
      have lf2 := List.length_filter_le (fun p : Pk => decide (0 < p.2)) (ts.take i)
      refine ite2 (fun c => ?_) (fun c => ?_)
      · refine ⟨_, rfl, _, rfl, _, eL, by rw [List.length_map, List.length_map]; omega, fun b o e => ?_, ?_⟩
        · rw [upd_ne (ne_of_none e hL)]
          exact s1 b o e
        · rw [upd_same, List.take_add_one, hpi, List.filter_append]
          show _ = some (HO.lst ((((ts.take i).filter fun p => decide (0 < p.2)) ++ ([p1].filter fun p => decide (0 < p.2))).map (·.1) |>.map V.str))
          rw [List.filter_cons_of_pos (by exact c), List.filter_nil, List.map_append, List.map_append]
          rfl
      · refine ⟨s1, ?_⟩
        rw [eL, List.take_add_one, hpi, List.filter_append]
        show _ = some (HO.lst ((((ts.take i).filter fun p => decide (0 < p.2)) ++ ([p1].filter fun p => decide (0 < p.2))).map (·.1) |>.map V.str))
        rw [List.filter_cons_of_neg (by exact c), List.filter_nil, List.append_nil]
    · obtain ⟨s1, eL⟩ := q0
      have elen : (tabL ts).length = ts.length := by unfold tabL; rw [List.length_map]
      rw [elen, List.take_length] at eL
      generalize hxs : ((ts.filter fun p => decide (0 < p.2)).map (·.1)) = xs at *
      have lxs : xs.length ≤ 10 := by
        rw [← hxs, List.length_map]
        exact Nat.le_trans (List.length_filter_le _ _) lt
      refine ⟨s1 _ _ upd_same, ?_⟩
      have sH : Same (upd H W0 (.lst [])) (upd Hx d (.dK (tabL ts))) := fun b o e => by
        by_cases n : b = d
        · subst n
          rw [upd_same, ← u0 _ _ ed, e]
        · rw [upd_ne n]
          exact s1 _ _ (by rw [upd_ne n]; exact e)
      have eL2 : upd Hx d (.dK (tabL ts)) L = some (.lst (xs.map V.str)) := by
        rw [upd_ne nLd]
        exact eL
      refine ⟨L, xs, rfl, SqL.of eL2, by omega, fun ys p pm srt hp => ?_⟩
      have sp := Same.of_new (o := .lst (ys.map V.str)) hp
      have sA := sH.trans sp
      have eW1 := sA _ _ upd_same
      have ed1 := (u0.trans sA) _ _ ed
      have ep1 : upd (upd Hx d (.dK (tabL ts))) p (.lst (ys.map V.str)) p = some (.lst (ys.map V.str)) := upd_same
      have sHA := u0.trans sA
      have hmem : ∀ y ∈ ys, (y, (lookL ts y).getD 0) ∈ ts ∧ 0 < (lookL ts y).getD 0 := fun y hy => by
        have hx := pm.mem_iff.mp hy
        rw [← hxs] at hx
        obtain ⟨p1, hp1, rfl⟩ := List.mem_map.mp hx
        obtain ⟨m1, m2⟩ := List.mem_filter.mp hp1
        rw [lookL_some tp.nd m1]
        exact ⟨m1, of_decide_eq_true m2⟩
      have hnd : ys.Nodup := pm.nodup_iff.mpr (by
        rw [← hxs]
        exact tp.nd.sublist (List.Sublist.map _ List.filter_sublist))
      have lys : ys.length ≤ 10 := by rw [pm.length_eq]; exact lxs
      generalize upd (upd Hx d (.dK (tabL ts))) p (.lst (ys.map V.str)) = H1 at *
      refine ⟨p, rfl, ⟨_, SqL.of ep1⟩, ?_⟩
      refine for_it (walk_list (xs := ys.map V.str)) (fun i σ Hy => ∃ (Wk : Addr) (x2 : Option V), σ = [some (.ref d), some (.ref Wk), x2] ∧ Same H1 Hy ∧ Hy Wk = some (.lst (((mapL (ys.take i) fun z => (lookL ts z).getD 0).flatMap placeW).map V.str)))
        ⟨W0, _, rfl, Same.refl _, eW1⟩ (fun i σ Hy _ q0 => by obtain ⟨_, _, _, s, _⟩ := q0; exact SqL.of (s _ _ ep1)) (fun i x σ Hy Hz hi q0 y => ?_) (fun σ Hy q0 => ?_)
      · obtain ⟨Wk, x2, rfl, s1, eWk⟩ := q0
        obtain ⟨rfl, hx⟩ := y
        rw [List.getElem?_map] at hx
        obtain ⟨z, hz, rfl⟩ := Option.map_eq_some_iff.mp hx
        have hi2 : i < ys.length := by rw [List.length_map] at hi; exact hi
        obtain ⟨m1, m2⟩ := hmem z (List.mem_of_getElem? hz)
        have g1 := tp.ok _ m1
        have g := topN_log m2 g1.2.2
        have dg : DGet Hz d (.str z) (some (.int ((lookL ts z).getD 0))) := by
          have := TabOf.get (tabOf_list ts) (.inl (s1 _ _ ed1)) z
          have e := lookL_some tp.nd m1
          rw [e] at this
          exact this
        refine ⟨_, rfl, _, rfl, _, rfl, _, rfl, d, _, rfl, dg, _, rfl, g, ?_⟩
        refine ⟨by show (2 : Nat) ≤ sizeLine; omega, fun L2 hL2 => ?_⟩
        have sL2 := Same.of_new (o := .lst [.str z, .str (toString ((lookL ts z).getD 0))]) hL2
        have lfm : ((mapL (ys.take i) fun z => (lookL ts z).getD 0).flatMap placeW).length ≤ 20 := by
          rw [place_flat, show (mapL (ys.take i) fun z => (lookL ts z).getD 0).length = (ys.take i).length by unfold mapL; rw [List.length_map], List.length_take]
          omega
        refine ⟨Wk, L2, _, _, rfl, rfl, sL2 _ _ eWk, upd_same, by rw [List.length_map]; show _ + 2 ≤ _; omega, fun R hR => ?_⟩
        have sR := Same.of_new (o := .lst (((mapL (ys.take i) fun z => (lookL ts z).getD 0).flatMap placeW).map V.str ++ [.str z, .str (toString ((lookL ts z).getD 0))])) hR
        refine ⟨R, _, rfl, (s1.trans sL2).trans sR, ?_⟩
        rw [mapL_snoc hz, List.flatMap_append, List.map_append]
        exact upd_same
      · obtain ⟨Wk, x2, rfl, s1, eWk⟩ := q0
        rw [List.length_map, List.take_length] at eWk
        have ek : mkL ys (fun z => (lookL ts z).getD 0) = mapL ys fun z => (lookL ts z).getD 0 := by
          unfold mkL mapL
          rw [List.filter_eq_self.mpr fun y hy => decide_eq_true (hmem y hy).2]
        have nm : HNorm (mapL ys fun z => (lookL ts z).getD 0) := by
          rw [← ek]
          exact mkL_norm srt hnd
        have vl : ∀ z, valL (mapL ys fun z => (lookL ts z).getD 0) z = (lookL ts z).getD 0 := fun z => by
          unfold valL
          rw [mapL_look hnd]
          by_cases c : z ∈ ys
          · rw [if_pos c]
            rfl
          · rw [if_neg c]
            cases e : lookL ts z with
            | none => rfl
            | some v =>
              by_cases c2 : 0 < v
              · refine absurd (pm.mem_iff.mpr ?_) c
                rw [← hxs]
                exact List.mem_map.mpr ⟨(z, v), List.mem_filter.mpr ⟨lookL_at e, decide_eq_true c2⟩, rfl⟩
              · have v0 : 0 ≤ v := (tp.ok _ (lookL_at e)).2.1
                show 0 = v
                omega
        have sub : ∀ p ∈ mapL ys (fun z => (lookL ts z).getD 0), p ∈ ts := fun p hp => by
          unfold mapL at hp
          obtain ⟨y, hy, rfl⟩ := List.mem_map.mp hp
          exact (hmem y hy).1
        have lqs : (mapL ys fun z => (lookL ts z).getD 0).length ≤ 10 := by
          unfold mapL
          rw [List.length_map]
          exact lys
        generalize (mapL ys fun z => (lookL ts z).getD 0) = qs at *
        have good : ∀ p ∈ qs, GoodN p := fun p hp => by
          have := tp.ok p (sub p hp)
          exact ⟨this.1, nm.pos p hp, this.2.2⟩
        refine ⟨_, rfl, Nat.zero_le _, fun N hN => ?_⟩
        have s3 := Same.of_new (o := .lst []) hN
        have okT := place_strOk good
        refine ⟨.list ((qs.flatMap placeW).map PyData.str), .list [], .lst (SqL.of (s3 Wk _ eWk)) (OwD.dp_strs _), .lst (SqL.of upd_same) .nil, shaped_strs okT, OwD.shaped_nil, ?_⟩
        refine ⟨_, rfl, ?_⟩
        have sF := sHA.trans (s1.trans s3)
        cases hq : qs with
        | nil =>
          subst hq
          refine iteF ?_
          exact q [] _ sF nm sub vl
        | cons p0 r0 =>
          have hne : qs ≠ [] := by rw [hq]; simp
          rw [← hq]
          have e : PyData.eqv (.list ((qs.flatMap placeW).map PyData.str)) (.list []) = false := by
            rw [hq]
            simp [PyData.eqv, PyData.eqvAll, placeW]
          rw [e]
          refine iteT ?_
          refine ⟨⟨_, rfl⟩, _, rfl, _, Wk, qs.flatMap placeW, rfl, rfl, .inl (SqL.of (s3 Wk _ eWk)), words_fit good lqs, ?_⟩
          have e2 : Txt.join (Str.ofString " ") (qs.flatMap placeW) = houseText qs := by
            rw [houseText, if_neg hne]
            exact house_join hne
          rw [e2]
          exact q qs _ sF nm sub vl
end
end K10
end
section
set_option pp.maxSteps 400
set_option pp.deepTerms.threshold 6
/-! Words bent. -/
namespace K10
open PySem PySem.Spec PyProof.Rows L2
abbrev sBe : Stmt := top 31
/-! ### blanks -/
def blanks (z : Str) : Nat := (TL.tl z).count 32
theorem blanks_app (x y : Str) : blanks (x ++ y) = blanks x + blanks y := by
  unfold blanks
  rw [TL.tl_append, List.count_append]
theorem blanks_free {z : Str} (h : 32 ∉ TL.tl z) : blanks z = 0 := List.count_eq_zero.mpr h
theorem count_join : ∀ A : List (List Nat), A ≠ [] → (∀ a ∈ A, 32 ∉ a) → (TL.joinL [32] A).count 32 + 1 = A.length
  | [], h, _ => absurd rfl h
  | [a], _, h => by
    show a.count 32 + 1 = 1
    rw [List.count_eq_zero.mpr (h a List.mem_cons_self)]
  | a :: b :: A, _, h => by
    have i := count_join (b :: A) (by simp) fun x hx => h x (List.mem_cons_of_mem _ hx)
    show (a ++ ([32] ++ TL.joinL [32] (b :: A))).count 32 + 1 = _
    rw [List.count_append, List.count_append, List.count_eq_zero.mpr (h a List.mem_cons_self), List.length_cons, ← i, show List.count 32 [32] = 1 from rfl]
    omega
theorem words_count (z : Str) : (wordsOf z).length = blanks z + 1 := by
  have e := count_join ((wordsOf z).map TL.tl) (fun e => words_ne z (List.map_eq_nil_iff.mp e)) fun a ha => by
    obtain ⟨w, hw, rfl⟩ := List.mem_map.mp ha
    exact words_free hw
  rw [← tlj, words_join, List.length_map] at e
  exact e.symm
theorem sub_join (S : List Nat) : ∀ (A : List (List Nat)) (a : List Nat), a ∈ A → List.Sublist a (TL.joinL S A)
  | [], a, h => by cases h
  | [b], a, h => by
    rw [List.mem_singleton.mp h]
    exact List.Sublist.refl _
  | b :: c :: A, a, h => by
    show List.Sublist a (b ++ (S ++ TL.joinL S (c :: A)))
    rcases List.mem_cons.mp h with rfl | h
    · exact List.sublist_append_left _ _
    · exact (sub_join S (c :: A) a h).trans ((List.sublist_append_right _ _).trans (List.sublist_append_right _ _))
theorem word_sub {z w : Str} (h : w ∈ wordsOf z) : List.Sublist (TL.tl w) (TL.tl z) := by
  have := sub_join [32] ((wordsOf z).map TL.tl) (TL.tl w) (List.mem_map.mpr ⟨w, h, rfl⟩)
  rw [← tlj, words_join] at this
  exact this
theorem strOk_all (z : Str) : PyData.strOk z = (TL.tl z).all (fun c => decide (c < 0x110000)) := by
  show z.cps.all _ = _
  rw [← Array.all_toList]
theorem word_le {z w : Str} (h : w ∈ wordsOf z) : w.length ≤ z.length ∧ (PyData.strOk z = true → PyData.strOk w = true) := by
  have s := word_sub h
  refine ⟨?_, fun o => ?_⟩
  · rw [TL.len_tl, TL.len_tl]
    exact s.length_le
  · rw [strOk_all] at o ⊢
    exact List.all_eq_true.mpr fun c hc => List.all_eq_true.mp o c (s.subset hc)
/-- one word: its signs, its length, its blanks -/
def GoodW (k : Nat) (w : Str) : Prop := PyData.strOk w = true ∧ w.length ≤ 61 + k ∧ blanks w ≤ k
/-- some words, bent k times -/
structure WsOk (ws : List Str) (k : Nat) : Prop where
  len : ws.length ≤ 8 + k
  ok : ∀ w ∈ ws, GoodW k w
theorem GoodW.mono {k : Nat} {w : Str} (h : GoodW k w) : GoodW (k + 1) w := ⟨h.1, by have := h.2.1; omega, by have := h.2.2; omega⟩
theorem GoodW.zero {k : Nat} {w : Str} (h : GoodW 0 w) : GoodW k w := ⟨h.1, by have := h.2.1; omega, by have := h.2.2; omega⟩
theorem flat_len : ∀ (ws : List Str) (k : Nat), (∀ w ∈ ws, blanks w ≤ k) → (ws.flatMap wordsOf).length ≤ (k + 1) * ws.length
  | [], k, _ => by simp
  | w :: r, k, h => by
    have i := flat_len r k fun x hx => h x (List.mem_cons_of_mem _ hx)
    have j := h w List.mem_cons_self
    rw [List.flatMap_cons, List.length_append, words_count, List.length_cons, Nat.mul_succ]
    omega
/-- the line of some words -/
theorem WsOk.line {ws : List Str} {k : Nat} (h : WsOk ws k) (hk : k ≤ 3) : LineOk (Txt.join " " ws) := by
  have pieces : ∀ q ∈ wordsOf (Txt.join " " ws), PyData.strOk q = true ∧ q.length ≤ 64 := fun q hq => by
    by_cases c : ws = []
    · rw [c, show wordsOf (Txt.join " " []) = [("" : Str)] by decide +kernel] at hq
      rw [List.mem_singleton.mp hq]
      exact ⟨by decide +kernel, by decide +kernel⟩
    · rw [words_flat c] at hq
      obtain ⟨w, hw, h2⟩ := List.mem_flatMap.mp hq
      obtain ⟨g1, g2, g3⟩ := h.ok w hw
      obtain ⟨l1, l2⟩ := word_le h2
      exact ⟨l2 g1, by omega⟩
  have many : (wordsOf (Txt.join " " ws)).length ≤ 100 := by
    by_cases c : ws = []
    · rw [c, show wordsOf (Txt.join " " []) = [("" : Str)] by decide +kernel]
      decide
    · rw [words_flat c]
      have l1 := flat_len ws k fun w hw => (h.ok w hw).2.2
      have l2 := h.len
      have l3 : (k + 1) * ws.length ≤ 4 * 11 := Nat.mul_le_mul (by omega) (by omega)
      omega
  refine ⟨?_, fun i => ?_, many, fun q hq => (pieces q hq).1⟩
  · have := text_len fun q hq => (pieces q hq).2
    have : (64 + 1) * (wordsOf (Txt.join " " ws)).length ≤ 65 * 100 := Nat.mul_le_mul_left 65 many
    omega
  · unfold pk
    rw [List.getD_eq_getElem?_getD]
    cases e : (wordsOf (Txt.join " " ws))[i]? with
    | none => exact by decide +kernel
    | some q => exact Nat.le_trans (pieces q (List.mem_of_getElem? e)).2 (by decide)
theorem WsOk.fits {ws : List Str} {k : Nat} (h : WsOk ws k) (hk : k ≤ 3) : (ws.map (·.length)).sum + ws.length * (" " : Str).length ≤ 16777216 := by
  have c := sum_leB 64 ws fun w hw => by have := (h.ok w hw).2.1; omega
  have e : (" " : Str).length = 1 := by decide +kernel
  have := h.len
  rw [e]
  omega
theorem house_ws {ps : List Pk} (g : ∀ p ∈ ps, GoodN p) (l : ps.length ≤ 4) : WsOk (wordsH ps) 0 := by
  unfold wordsH
  split
  · exact ⟨by decide, fun w hw => by rw [List.mem_singleton.mp hw]; exact ⟨by decide +kernel, by decide +kernel, by decide +kernel⟩⟩
  · refine ⟨by rw [place_flat]; omega, fun w hw => ?_⟩
    obtain ⟨a, b, c⟩ := place_word g w hw
    exact ⟨a, by omega, by rw [blanks_free c]; exact Nat.le_refl 0⟩
def oddW : List Str := ["", "none", "0", "7", "07", "+3", "-1", "B", "abcdefghi", OwR.repS "9" 60, "1" ++ OwR.repS "0" 60, "1_0", "a\n", "4\n"]
theorem odd_good : ∀ w ∈ oddW, PyData.strOk w = true ∧ w.length ≤ 61 ∧ blanks w ≤ 0 := by decide +kernel
theorem cutS_to (ws : List Str) (k : Nat) : cutV (ws.map V.str) none (some ((k : Nat) : Int)) = (ws.take k).map V.str := by
  unfold cutV
  rw [HT.sIx_none, HT.sIx_nat, List.drop_zero, Nat.sub_zero, List.length_map, List.map_take]
  rcases Nat.le_total k ws.length with h | h
  · rw [Nat.min_eq_left h]
  · rw [Nat.min_eq_right h, List.take_of_length_le (by rw [List.length_map]; exact Nat.le_refl _), List.take_of_length_le (by rw [List.length_map]; exact h)]
theorem cutS_from (ws : List Str) (k : Nat) : cutV (ws.map V.str) (some ((k : Nat) : Int)) none = (ws.drop k).map V.str := by
  unfold cutV
  rw [HT.sIx_none, HT.sIx_nat, List.length_map, List.map_drop, List.take_of_length_le (by rw [List.length_drop, List.length_map]; exact Nat.le_refl _)]
  rcases Nat.le_total k ws.length with h | h
  · rw [Nat.min_eq_left h]
  · rw [Nat.min_eq_right h, List.drop_of_length_le (by rw [List.length_map]; exact Nat.le_refl _), List.drop_of_length_le (by rw [List.length_map]; exact h)]
theorem and_turn {c d : Bool} {A B W : Prop} (hw : (if d = true then A else B) → W) (hA : c = true → d = true → A) (hB : c = false ∨ d = false → B) : if c = true then W else (if false = true then A else B) := by
  cases c with
  | false => exact iteF (iteF (hB (.inl rfl)))
  | true =>
    refine iteT (hw ?_)
    cases d with
    | true => exact iteT (hA rfl rfl)
    | false => exact iteF (hB (.inr rfl))
/-- cut, with some words between -/
theorem WsOk.mid {ws mid : List Str} {k a b : Nat} (h : WsOk ws k) (hm : ∀ w ∈ mid, GoodW (k + 1) w) (hl : (ws.take a).length + mid.length + (ws.drop b).length ≤ 9 + k) : WsOk ((ws.take a ++ mid) ++ ws.drop b) (k + 1) := by
  refine ⟨by rw [List.length_append, List.length_append]; omega, fun w hw => ?_⟩
  rcases List.mem_append.mp hw with hw | hw
  · rcases List.mem_append.mp hw with hw | hw
    · exact (h.ok w (List.mem_of_mem_take hw)).mono
    · exact hm w hw
  · exact (h.ok w (List.mem_of_mem_drop hw)).mono
def spBe : Sp := fun vs H Q _ => ∃ (p c l : Addr) (ns : List Int) (n : Nat) (z : Int) (ws : List Str) (k : Nat), vs = [.ref p, .ref l] ∧ PenAt H p c ns n z ∧ n + 50 < 100000 ∧ H l = some (.lst (ws.map V.str)) ∧ l ≠ p ∧ WsOk ws k ∧ k ≤ 2 ∧ ∀ (l' : Addr) (ws' : List Str) (n' : Nat) (z' : Int) (H' : Hp), WsOk ws' (k + 1) → n' ≤ n + 40 → PenAt H' p c ns n' z' → But p H H' → l' ≠ p → H' l' = some (.lst (ws'.map V.str)) → Q (.ref l') H'
section
variable {P : Program} {w : World} {K : PySem.W.Frag} {mg : Str → Option Value} {base : Heap}
abbrev nBe : List Str := ["_law_pen_here", "_law_words", "_law_way", "_law_at", "_law_odd", "_law_word_here"]
theorem scBe : FnScope nBe ["_law_pen_here", "_law_words"] (defScope sBe) := ⟨rfl, rfl, rfl, by decide +kernel, rfl, by decide +kernel, by decide +kernel⟩
theorem ok_Be {f fDr fPi fWo : Addr} {fd fdDr fdPi fdWo : FuncData} (F : Fun K "_law_bent" "_law_bent" sBe f fd) (Nn : Nm mg) (F_draw : Fun K "_law_draw" "_law_draw" sDraw fDr fdDr) (g_draw : mg "_law_draw" = some (.ref fDr)) (F_pick : Fun K "_law_pick" "_law_pick" sPick fPi fdPi) (g_pick : mg "_law_pick" = some (.ref fPi)) (F_word : Fun K "_law_word" "_law_word" sWord fWo fdWo) (g_word : mg "_law_word" = some (.ref fWo)) (n_len : mg "len" = none) (n_str : mg "str" = none) (n_range : mg "range" = none) :
    FnOk P w K mg base CX0 4 f fd ["_law_pen_here", "_law_words"] spBe := by
  have G_draw : FnOk P w K mg base CX0 1 fDr fdDr ["_law_pen_here", "_law_many"] spDraw := ok_draw F_draw Nn
  have b_draw : Binds K fdDr ["_law_pen_here", "_law_many"] [] := F_draw.binds fun _ _ _ _ _ _ us hl => match us, hl with | [_, _], _ => rfl
  have G_pick : FnOk P w K mg base CX0 2 fPi fdPi ["_law_pen_here", "_law_some"] (spPick K) := ok_pick F_pick Nn F_draw g_draw
  have b_pick : Binds K fdPi ["_law_pen_here", "_law_some"] [] := F_pick.binds fun _ _ _ _ _ _ us hl => match us, hl with | [_, _], _ => rfl
  have G_word : FnOk P w K mg base CX0 3 fWo fdWo ["_law_pen_here"] spWord := ok_word F_word Nn n_range F_draw g_draw F_pick g_pick
  have b_word : Binds K fdWo ["_law_pen_here"] [] := F_word.binds fun _ _ _ _ _ _ us hl => match us, hl with | [_], _ => rfl
  refine F.ok scBe (fun vs H Q E h => ?_) (fun cdv A outer s H vs Q E hr h => ?_)
  · obtain ⟨p, c, l, ns, n, z, ws, k, rfl, _⟩ := h
    rfl
  · obtain ⟨p, c, l, ns, n, z, ws, k, rfl, hp, hn, el, nlp, ok, hk, q⟩ := h
    have hr3 : Room 3 _ := hr
    have hr2 := hr3.mono (show 2 ≤ 3 by decide)
    have hr1 := hr3.mono (show 1 ≤ 3 by decide)
    refine ⟨_, (pss_cons (ps_par (i := 2) (j := 3) (by rfl) scBe.nd rfl rfl (by decide) rfl rfl (pa_cons (pe_call G_draw hr1 (by rfl) g_draw F_draw.kp b_draw .nil pass0 (pa_cons (pv 0) (pa_cons pe_int pa_nil))) (pa_cons (pe_call G_draw hr1 (by rfl) g_draw F_draw.kp b_draw .nil pass0 (pa_cons (pv 0) (pa_cons (pe_op op_add (pe_callB call_len_seq (by rfl) n_len boot_len (pa_cons (pv 1) pa_nil)) pe_int) pa_nil))) pa_nil)) (by rfl))
    (pss_cons (ps_set (i := 4) scBe.nd rfl (Or.inl rfl) (pe_lst (pa_cons pe_str (pa_cons pe_str (pa_cons pe_str (pa_cons pe_str (pa_cons pe_str (pa_cons pe_str (pa_cons pe_str (pa_cons pe_str (pa_cons pe_str (pa_cons (pe_op OwR.op_mul_str pe_str pe_int) (pa_cons (pe_op op_add_str pe_str (pe_op OwR.op_mul_str pe_str pe_int)) (pa_cons pe_str (pa_cons pe_str (pa_cons pe_str pa_nil))))))))))))))))
    (pss_cons (ps_set (i := 5) scBe.nd rfl (Or.inl rfl) (pe_call G_pick hr2 (by rfl) g_pick F_pick.kp b_pick .nil pass0 (pa_cons (pv 0) (pa_cons (pe_op op_cat (pv 4) (pe_lst (pa_cons (pe_call G_word hr3 (by rfl) g_word F_word.kp b_word .nil pass0 (pa_cons (pv 0) pa_nil)) (pa_cons (pe_callTy call_str_int (by rfl) n_str (by decide +kernel) (pa_cons (pe_op op_add pe_int (pe_call G_draw hr1 (by rfl) g_draw F_draw.kp b_draw .nil pass0 (pa_cons (pv 0) (pa_cons pe_int pa_nil)))) pa_nil)) pa_nil)))) pa_nil))))
    (pss_cons (ps_if (pt_cmpR op_eq (pv 2) pe_int (nomark _)) (pss_one (ps_ret (pe_op op_cat (pe_op op_cat (pe_slice sl_list (pv 1) po_none (po_some (pv 3))) (pe_lst (pa_cons (pv 5) pa_nil))) (pe_slice sl_list (pv 1) (po_some (pv 3)) po_none)))) pss_nil)
    (pss_cons (ps_if (pt_cmpR op_eq (pv 2) pe_int (nomark _)) (pss_one (ps_ret (pe_op op_cat (pe_slice sl_list (pv 1) po_none (po_some (pv 3))) (pe_slice sl_list (pv 1) (po_some (pe_op op_add (pv 3) pe_int)) po_none)))) pss_nil)
    (pss_cons (ps_if (pt_cmpR op_eq (pv 2) pe_int (nomark _)) (pss_one (ps_ret (pe_op op_cat (pe_op op_cat (pe_slice sl_list (pv 1) po_none (po_some (pv 3))) (pe_lst (pa_cons (pv 5) pa_nil))) (pe_slice sl_list (pv 1) (po_some (pe_op op_add (pv 3) pe_int)) po_none)))) pss_nil)
    (pss_cons (ps_if (PW.pt (pw_and (pt_cmpR op_eq (pv 2) pe_int (nomark _)) (pw_and1 (pt_cmpR op_lt (pe_op op_add (pv 3) pe_int) (pe_callB call_len_seq (by rfl) n_len boot_len (pa_cons (pv 1) pa_nil)) (nomark _))))) (pss_one (ps_ret (pe_op op_cat (pe_op op_cat (pe_slice sl_list (pv 1) po_none (po_some (pv 3))) (pe_lst (pa_cons (pe_ix ix_list (pv 1) (pe_op op_add (pv 3) pe_int) (fun _ _ => rfl)) (pa_cons (pe_ix ix_list (pv 1) (pe_op op_add (pv 3) pe_int) (fun _ _ => rfl)) (pa_cons (pe_ix ix_list (pv 1) (pv 3) (fun _ _ => rfl)) pa_nil))))) (pe_slice sl_list (pv 1) (po_some (pe_op op_add (pv 3) pe_int)) po_none)))) pss_nil)
    (pss_cons (ps_if (pt_cmpR op_eq (pv 3) (pe_callB call_len_seq (by rfl) n_len boot_len (pa_cons (pv 1) pa_nil)) (nomark _)) (pss_one (ps_ret (pv 1))) pss_nil)
    (pss_one (ps_ret (pe_op op_cat (pe_op op_cat (pe_slice sl_list (pv 1) po_none (po_some (pv 3))) (pe_lst (pa_cons (pe_op op_add_str (pe_ix ix_list (pv 1) (pv 3) (fun _ _ => rfl)) (pe_call G_pick hr2 (by rfl) g_pick F_pick.kp b_pick .nil pass0 (pa_cons (pv 0) (pa_cons (pe_lst (pa_cons pe_str (pa_cons pe_str (pa_cons pe_str pa_nil)))) pa_nil)))) pa_nil))) (pe_slice sl_list (pv 1) (po_some (pe_op op_add (pv 3) pe_int)) po_none)))))))))))), ?_⟩
    have sz := sizeLine_eq
    have lw := ok.len
    refine ⟨_, rfl, p, c, ns, n, z, 5, rfl, hp, by omega, by decide, by decide +kernel, fun d1 n1 z1 H1 d10 d11 hn1 hp1 s1 => ?_⟩
    have el1 := s1 _ _ nlp el
    refine ⟨_, rfl, _, rfl, l, _, rfl, .inl (SqL.of el1), _, _, rfl, rfl, ?_⟩
    refine ⟨p, c, ns, n1, z1, _, rfl, hp1, by omega, by rw [List.length_map]; omega, small_int (by rw [List.length_map]; omega) (by rw [List.length_map]; omega), fun d2 n2 z2 H2 d20 d21 hn2 hp2 s2 => ?_⟩
    rw [List.length_map] at d21
    obtain ⟨sp, rfl⟩ := Int.eq_ofNat_of_zero_le d20
    have hsp : sp ≤ ws.length := by omega
    refine ⟨_, _, rfl, ?_⟩
    have b02 := s1.trans s2
    refine ⟨"9", 60, rfl, rfl, by decide, by decide, by decide +kernel, by decide +kernel, "0", 60, rfl, rfl, by decide, by decide, by decide +kernel, by decide +kernel, _, _, rfl, rfl, by decide +kernel, by show (14 : Nat) ≤ sizeLine; omega, fun L1 hL1 => ?_⟩
    have t1 := Same.of_new (o := .lst (oddW.map V.str)) hL1
    have eL1 : upd H2 L1 (.lst (oddW.map V.str)) L1 = some (.lst (oddW.map V.str)) := upd_same
    have hpA := hp2.same t1
    have bA := b02.trans (Same.but p t1)
    have nL1 : L1 ≠ p := fun e => hp2.some (e ▸ hL1)
    change tSeq _ _ _ _ (upd H2 L1 (.lst (oddW.map V.str)))
    generalize upd H2 L1 (.lst (oddW.map V.str)) = HA at *
    refine ⟨_, rfl, _, rfl, _, rfl, p, c, ns, n2, z2, rfl, hpA, by omega, fun w1 n3 z3 H3 e1 e2 hn3 hp3 s3 => ?_⟩
    refine ⟨_, rfl, p, c, ns, n3, z3, 99, rfl, hp3, by omega, by decide, by decide +kernel, fun d3 n4 z4 H4 d30 d31 hn4 hp4 s4 => ⟨_, _, rfl, rfl, _, rfl, ?_⟩⟩
    have t99 : (99 : Int) ≤ topN := by decide +kernel
    have v0 : (0 : Int) < 1 + d3 := by omega
    have v1 : 1 + d3 ≤ topN := by omega
    have gnum : GoodW 0 (toString (1 + d3) : Str) := by
      obtain ⟨m, em, m1⟩ := int_nat v0
      rw [em] at v1 ⊢
      obtain ⟨_, n2, n3, n4⟩ := num_back m1 v1
      exact ⟨n4, by omega, by rw [blanks_free n3]; exact Nat.le_refl 0⟩
    refine ⟨topN_log v0 v1, by show (2 : Nat) ≤ sizeLine; omega, fun L2 hL2 => ?_⟩
    generalize (toString (1 + d3) : Str) = num at *
    have t2 := Same.of_new (o := .lst [.str w1, .str num]) hL2
    have b4 := s3.trans s4
    have eL4 := t2 _ _ (b4 _ _ nL1 eL1)
    refine ⟨L1, L2, _, _, rfl, rfl, eL4, upd_same, by show (14 : Nat) + 2 ≤ sizeLine; omega, fun L3 hL3 => ?_⟩
    have t3 := Same.of_new (o := .lst (oddW.map V.str ++ [.str w1, .str num])) hL3
    have nL3 : L3 ≠ p := fun e => (hp4.same t2).some (by rw [← e]; exact hL3)
    refine ⟨p, c, L3, ns, n4, z4, oddW.map V.str ++ [.str w1, .str num], rfl, (hp4.same t2).same t3, by omega, nL3, SqL.of upd_same, by show (0 : Nat) < 16; decide, by show (16 : Nat) < 1000; decide, fun x n5 z5 H5 hx hn5 hp5 s5 => ?_⟩
    obtain ⟨o, rfl, go⟩ : ∃ o : Str, x = .str o ∧ GoodW 0 o := by
      rcases List.mem_append.mp hx with hx | hx
      · obtain ⟨o, ho, rfl⟩ := List.mem_map.mp hx
        exact ⟨o, rfl, odd_good o ho⟩
      · simp only [List.mem_cons, List.not_mem_nil, or_false] at hx
        rcases hx with rfl | rfl
        · exact ⟨w1, rfl, name_strOk e1, by omega, by rw [blanks_free (name_free e1)]; exact Nat.le_refl 0⟩
        · exact ⟨num, rfl, gnum⟩
    have b5 := ((bA.trans b4).trans (Same.but p (t2.trans t3))).trans s5
    have el5 := b5 _ _ nlp el
    have tkl : (ws.take sp).length = sp := by rw [List.length_take]; omega
    have drl : ∀ j : Nat, (ws.drop j).length = ws.length - j := fun j => List.length_drop
    have a1 : ((sp : Nat) : Int) + 1 = ((sp + 1 : Nat) : Int) := rfl
    have a2 : ((sp : Nat) : Int) + 2 = ((sp + 2 : Nat) : Int) := rfl
    have a3 : ((sp : Nat) : Int) + 3 = ((sp + 3 : Nat) : Int) := rfl
    have lws : (ws.map V.str).length = ws.length := List.length_map _
    have lsz : ws.length + 10 ≤ sizeLine := by omega
    have fin : ∀ (l' : Addr) (ws' : List Str) (n' : Nat) (z' : Int) (H' : Hp), WsOk ws' (k + 1) → n' ≤ n + 40 → PenAt H' p c ns n' z' → But p H5 H' → l' ≠ p → H' l' = some (.lst (ws'.map V.str)) → Q (.ref l') H' := fun l' ws' n' z' H' h1 h2 h3 h4 h5 h6 => q l' ws' n' z' H' h1 h2 h3 (b5.trans h4) h5 h6
    -- a cut with words between, in this heap
    have cut3 : ∀ (Hc : Hp) (nc : Nat) (zc : Int) (mid : List Str) (j : Nat) (A1 B1 : Addr) (R : Addr) (Hz : Hp), PenAt Hc p c ns nc zc → nc ≤ n + 40 → But p H5 Hc → Same Hc Hz → Hz R = some (.lst (((ws.take sp).map V.str ++ mid.map V.str) ++ (ws.drop j).map V.str)) → (∀ w ∈ mid, GoodW (k + 1) w) → sp + mid.length + (ws.length - j) ≤ 9 + k → Hc R = none → Q (.ref R) Hz := fun Hc nc zc mid j A1 B1 R Hz h1 h2 h3 h4 h5 h6 h7 h8 => by
      refine fin R ((ws.take sp ++ mid) ++ ws.drop j) nc zc Hz (ok.mid h6 (by rw [tkl, drl]; exact h7)) h2 (h1.same h4) (h3.trans (Same.but p h4)) (fun e => h1.some (e ▸ h8)) (by rw [List.map_append, List.map_append]; exact h5)
    refine ⟨_, rfl, rfl, _, rfl, ?_⟩
    refine ite2 (fun _ => ?_) (fun _ => ?_)
    · refine ⟨_, rfl, _, rfl, _, rfl, l, _, rfl, SqL.of el5, fun A1 hA => ?_⟩
      rw [cutS_to]
      have sA := Same.of_new (o := .lst ((ws.take sp).map V.str)) hA
      have eA := upd_same (H := H5) (a := A1) (o := .lst ((ws.take sp).map V.str))
      refine ⟨_, rfl, by show (1 : Nat) ≤ sizeLine; omega, fun B1 hB => ?_⟩
      have sB := Same.of_new (o := .lst [.str o]) hB
      refine ⟨A1, B1, _, _, rfl, rfl, sB _ _ eA, upd_same, by rw [List.length_map, tkl]; show _ + 1 ≤ _; omega, fun C1 hC => ?_⟩
      have sC := Same.of_new (o := .lst ((ws.take sp).map V.str ++ [.str o])) hC
      have sABC := (sA.trans sB).trans sC
      refine ⟨_, rfl, _, rfl, _, rfl, l, _, rfl, SqL.of (sABC _ _ el5), fun D1 hD => ?_⟩
      rw [cutS_from]
      have sD := Same.of_new (o := .lst ((ws.drop sp).map V.str)) hD
      refine ⟨C1, D1, _, _, rfl, rfl, sD _ _ upd_same, upd_same, by rw [List.length_append, List.length_map, List.length_map, tkl, drl]; show _ + 1 + _ ≤ _; omega, fun R hR => ?_⟩
      have sR := Same.of_new (o := .lst (((ws.take sp).map V.str ++ [.str o]) ++ (ws.drop sp).map V.str)) hR
      exact cut3 H5 n5 z5 [o] sp A1 B1 R _ hp5 (by omega) (But.refl _ _) ((sABC.trans sD).trans sR) upd_same (fun w hw => by rw [List.mem_singleton.mp hw]; exact go.zero) (by show sp + 1 + (ws.length - sp) ≤ _; omega) ((sABC.trans sD).free hR)
    refine ⟨_, rfl, rfl, _, rfl, ?_⟩
    refine ite2 (fun _ => ?_) (fun _ => ?_)
    · refine ⟨_, rfl, _, rfl, _, rfl, l, _, rfl, SqL.of el5, fun A1 hA => ?_⟩
      rw [cutS_to]
      have sA := Same.of_new (o := .lst ((ws.take sp).map V.str)) hA
      have eA := upd_same (H := H5) (a := A1) (o := .lst ((ws.take sp).map V.str))
      refine ⟨_, rfl, _, rfl, _, _, rfl, rfl, _, rfl, l, _, rfl, SqL.of (sA _ _ el5), fun D1 hD => ?_⟩
      have ec : cutV (ws.map V.str) (some (((sp : Nat) : Int) + 1)) none = (ws.drop (sp + 1)).map V.str := cutS_from ws (sp + 1)
      have sD := Same.of_new (o := .lst (cutV (ws.map V.str) (some (((sp : Nat) : Int) + 1)) none)) hD
      refine ⟨A1, D1, _, _, rfl, rfl, sD _ _ eA, upd_same, by rw [ec, List.length_map, List.length_map, tkl, drl]; omega, fun R hR => ?_⟩
      have sR := Same.of_new (o := .lst ((ws.take sp).map V.str ++ cutV (ws.map V.str) (some (((sp : Nat) : Int) + 1)) none)) hR
      exact cut3 H5 n5 z5 [] (sp + 1) A1 D1 R _ hp5 (by omega) (But.refl _ _) ((sA.trans sD).trans sR) (by rw [upd_same, ec, List.map_nil, List.append_nil]) (fun w hw => by cases hw) (by show sp + 0 + (ws.length - (sp + 1)) ≤ _; omega) ((sA.trans sD).free hR)
    refine ⟨_, rfl, rfl, _, rfl, ?_⟩
    refine ite2 (fun _ => ?_) (fun _ => ?_)
    · refine ⟨_, rfl, _, rfl, _, rfl, l, _, rfl, SqL.of el5, fun A1 hA => ?_⟩
      rw [cutS_to]
      have sA := Same.of_new (o := .lst ((ws.take sp).map V.str)) hA
      have eA := upd_same (H := H5) (a := A1) (o := .lst ((ws.take sp).map V.str))
      refine ⟨_, rfl, by show (1 : Nat) ≤ sizeLine; omega, fun B1 hB => ?_⟩
      have sB := Same.of_new (o := .lst [.str o]) hB
      refine ⟨A1, B1, _, _, rfl, rfl, sB _ _ eA, upd_same, by rw [List.length_map, tkl]; show _ + 1 ≤ _; omega, fun C1 hC => ?_⟩
      have sC := Same.of_new (o := .lst ((ws.take sp).map V.str ++ [.str o])) hC
      have sABC := (sA.trans sB).trans sC
      refine ⟨_, rfl, _, rfl, _, _, rfl, rfl, _, rfl, l, _, rfl, SqL.of (sABC _ _ el5), fun D1 hD => ?_⟩
      have ec : cutV (ws.map V.str) (some (((sp : Nat) : Int) + 1)) none = (ws.drop (sp + 1)).map V.str := cutS_from ws (sp + 1)
      have sD := Same.of_new (o := .lst (cutV (ws.map V.str) (some (((sp : Nat) : Int) + 1)) none)) hD
      refine ⟨C1, D1, _, _, rfl, rfl, sD _ _ upd_same, upd_same, by rw [ec, List.length_append, List.length_map, List.length_map, tkl, drl]; show _ + 1 + _ ≤ _; omega, fun R hR => ?_⟩
      have sR := Same.of_new (o := .lst (((ws.take sp).map V.str ++ [.str o]) ++ cutV (ws.map V.str) (some (((sp : Nat) : Int) + 1)) none)) hR
      exact cut3 H5 n5 z5 [o] (sp + 1) A1 B1 R _ hp5 (by omega) (But.refl _ _) ((sABC.trans sD).trans sR) (by rw [upd_same, ec]; rfl) (fun w hw => by rw [List.mem_singleton.mp hw]; exact go.zero) (by show sp + 1 + (ws.length - (sp + 1)) ≤ _; omega) ((sABC.trans sD).free hR)
    refine ⟨_, rfl, rfl, _, rfl, ?_⟩
    refine and_turn (c := decide (V.int d1 = V.int 3)) (d := decide (((sp : Nat) : Int) + 2 < ((ws.length : Nat) : Int))) (fun h => ⟨_, rfl, _, _, rfl, rfl, _, rfl, l, _, rfl, .inl (SqL.of el5), _, _, rfl, rfl, _, rfl, by rw [List.length_map]; exact h⟩) (fun _ c2 => ?_) (fun _ => ?_)
    · have h2 : sp + 2 < ws.length := by
        have := of_decide_eq_true c2
        omega
      refine ⟨_, rfl, _, rfl, _, rfl, l, _, rfl, SqL.of el5, fun A1 hA => ?_⟩
      rw [cutS_to]
      have sA := Same.of_new (o := .lst ((ws.take sp).map V.str)) hA
      have eA := upd_same (H := H5) (a := A1) (o := .lst ((ws.take sp).map V.str))
      have elA := sA _ _ el5
      have w2 : atI (ws.map V.str) (((sp : Nat) : Int) + 2) = some (.str (pk ws (sp + 2))) := word_at (n := sp + 2) h2
      have w1' : atI (ws.map V.str) (((sp : Nat) : Int) + 1) = some (.str (pk ws (sp + 1))) := word_at (n := sp + 1) (by omega)
      have w0 : atI (ws.map V.str) ((sp : Nat) : Int) = some (.str (pk ws sp)) := word_at (n := sp) (by omega)
      have gk : ∀ i, i < ws.length → GoodW (k + 1) (pk ws i) := fun i hi => by
        unfold pk
        rw [List.getD_eq_getElem?_getD, List.getElem?_eq_getElem hi]
        exact (ok.ok _ (List.getElem_mem hi)).mono
      refine ⟨_, rfl, _, rfl, _, _, rfl, rfl, l, _, _, _, rfl, rfl, SqL.of elA, w2, _, rfl, _, rfl, _, _, rfl, rfl, l, _, _, _, rfl, rfl, SqL.of elA, w1', _, rfl, _, rfl, l, _, _, _, rfl, rfl, SqL.of elA, w0, by show (3 : Nat) ≤ sizeLine; omega, fun B1 hB => ?_⟩
      have sB := Same.of_new (o := .lst [.str (pk ws (sp + 2)), .str (pk ws (sp + 1)), .str (pk ws sp)]) hB
      refine ⟨A1, B1, _, _, rfl, rfl, sB _ _ eA, upd_same, by rw [List.length_map, tkl]; show _ + 3 ≤ _; omega, fun C1 hC => ?_⟩
      have sC := Same.of_new (o := .lst ((ws.take sp).map V.str ++ [.str (pk ws (sp + 2)), .str (pk ws (sp + 1)), .str (pk ws sp)])) hC
      have sABC := (sA.trans sB).trans sC
      refine ⟨_, rfl, _, rfl, _, _, rfl, rfl, _, rfl, l, _, rfl, SqL.of (sABC _ _ el5), fun D1 hD => ?_⟩
      have ec : cutV (ws.map V.str) (some (((sp : Nat) : Int) + 3)) none = (ws.drop (sp + 3)).map V.str := cutS_from ws (sp + 3)
      have sD := Same.of_new (o := .lst (cutV (ws.map V.str) (some (((sp : Nat) : Int) + 3)) none)) hD
      refine ⟨C1, D1, _, _, rfl, rfl, sD _ _ upd_same, upd_same, by rw [ec, List.length_append, List.length_map, List.length_map, tkl, drl]; show _ + 3 + _ ≤ _; omega, fun R hR => ?_⟩
      have sR := Same.of_new (o := .lst (((ws.take sp).map V.str ++ [.str (pk ws (sp + 2)), .str (pk ws (sp + 1)), .str (pk ws sp)]) ++ cutV (ws.map V.str) (some (((sp : Nat) : Int) + 3)) none)) hR
      exact cut3 H5 n5 z5 [pk ws (sp + 2), pk ws (sp + 1), pk ws sp] (sp + 3) A1 B1 R _ hp5 (by omega) (But.refl _ _) ((sABC.trans sD).trans sR) (by rw [upd_same, ec]; rfl) (fun w hw => by
        simp only [List.mem_cons, List.not_mem_nil, or_false] at hw
        rcases hw with rfl | rfl | rfl
        · exact gk _ h2
        · exact gk _ (by omega)
        · exact gk _ (by omega)) (by show sp + 3 + (ws.length - (sp + 3)) ≤ _; omega) ((sABC.trans sD).free hR)
    refine ⟨_, rfl, _, rfl, l, _, rfl, .inl (SqL.of el5), rfl, _, rfl, ?_⟩
    rw [List.length_map]
    by_cases ce : sp = ws.length
    · rw [show decide (V.int ((sp : Nat) : Int) = V.int ((ws.length : Nat) : Int)) = true from decide_eq_true (by rw [ce])]
      refine iteT ?_
      exact ⟨_, rfl, fin l ws n5 z5 H5 ⟨by omega, fun w hw => (ok.ok w hw).mono⟩ (by omega) hp5 (But.refl _ _) nlp el5⟩
    · rw [show decide (V.int ((sp : Nat) : Int) = V.int ((ws.length : Nat) : Int)) = false from decide_eq_false (fun h => ce (by injection h; omega))]
      refine iteF ?_
      have h0 : sp < ws.length := by omega
      refine ⟨_, rfl, _, rfl, _, rfl, l, _, rfl, SqL.of el5, fun A1 hA => ?_⟩
      rw [cutS_to]
      have sA := Same.of_new (o := .lst ((ws.take sp).map V.str)) hA
      have eA := upd_same (H := H5) (a := A1) (o := .lst ((ws.take sp).map V.str))
      have elA := sA _ _ el5
      have w0 : atI (ws.map V.str) ((sp : Nat) : Int) = some (.str (pk ws sp)) := word_at (n := sp) h0
      have nA : A1 ≠ p := fun e => hp5.some (e ▸ hA)
      refine ⟨_, rfl, _, rfl, l, _, _, _, rfl, rfl, SqL.of elA, w0, _, rfl, by show (3 : Nat) ≤ sizeLine; omega, fun L4 hL4 => ?_⟩
      have s4' := Same.of_new (o := .lst [.str " ", .str "0", .str "z"]) hL4
      have hpA5 := hp5.same sA
      have nL4 : L4 ≠ p := fun e => hpA5.some (e ▸ hL4)
      refine ⟨p, c, L4, ns, n5, z5, [.str " ", .str "0", .str "z"], rfl, hpA5.same s4', by omega, nL4, SqL.of upd_same, by show 0 < 3; decide, by show 3 < 1000; decide, fun x n6 z6 H6 hx hn6 hp6 s6 => ?_⟩
      obtain ⟨e, rfl, ge⟩ : ∃ e : Str, x = .str e ∧ PyData.strOk e = true ∧ e.length ≤ 1 ∧ blanks e ≤ 1 := by
        simp only [List.mem_cons, List.not_mem_nil, or_false] at hx
        rcases hx with rfl | rfl | rfl <;> exact ⟨_, rfl, by decide +kernel⟩
      have gw : GoodW k (pk ws sp) := by
        unfold pk
        rw [List.getD_eq_getElem?_getD, List.getElem?_eq_getElem h0]
        exact ok.ok _ (List.getElem_mem h0)
      have gm : GoodW (k + 1) (pk ws sp ++ e) := by
        obtain ⟨g1, g2, g3⟩ := gw
        obtain ⟨q1, q2, q3⟩ := ge
        exact ⟨strOk_app g1 q1, by rw [Str.length_append]; omega, by rw [blanks_app]; omega⟩
      have lgm := gm.2.1
      refine ⟨_, _, rfl, rfl, by have := gw.2.1; have := ge.2.1; omega, by show (1 : Nat) ≤ sizeLine; omega, fun B1 hB => ?_⟩
      have b6 : But p H5 H6 := (Same.but p (sA.trans s4')).trans s6
      have eA6 := s6 _ _ nA (s4' _ _ eA)
      have el6 := b6 _ _ nlp el5
      have sB := Same.of_new (o := .lst [.str (pk ws sp ++ e)]) hB
      refine ⟨A1, B1, _, _, rfl, rfl, sB _ _ eA6, upd_same, by rw [List.length_map, tkl]; show _ + 1 ≤ _; omega, fun C1 hC => ?_⟩
      have sC := Same.of_new (o := .lst ((ws.take sp).map V.str ++ [.str (pk ws sp ++ e)])) hC
      have sBC := sB.trans sC
      refine ⟨_, rfl, _, rfl, _, _, rfl, rfl, _, rfl, l, _, rfl, SqL.of (sBC _ _ el6), fun D1 hD => ?_⟩
      have ec : cutV (ws.map V.str) (some (((sp : Nat) : Int) + 1)) none = (ws.drop (sp + 1)).map V.str := cutS_from ws (sp + 1)
      have sD := Same.of_new (o := .lst (cutV (ws.map V.str) (some (((sp : Nat) : Int) + 1)) none)) hD
      refine ⟨C1, D1, _, _, rfl, rfl, sD _ _ upd_same, upd_same, by rw [ec, List.length_append, List.length_map, List.length_map, tkl, drl]; show _ + 1 + _ ≤ _; omega, fun R hR => ?_⟩
      have sR := Same.of_new (o := .lst (((ws.take sp).map V.str ++ [.str (pk ws sp ++ e)]) ++ cutV (ws.map V.str) (some (((sp : Nat) : Int) + 1)) none)) hR
      exact cut3 H6 n6 z6 [pk ws sp ++ e] (sp + 1) A1 B1 R _ hp6 (by omega) b6 ((sBC.trans sD).trans sR) (by rw [upd_same, ec]; rfl) (fun w hw => by rw [List.mem_singleton.mp hw]; exact gm) (by show sp + 1 + (ws.length - (sp + 1)) ≤ _; omega) ((sBC.trans sD).free hR)
end
end K10
end
section
set_option pp.maxSteps 4000
set_option pp.deepTerms.threshold 60
/-! The ear; a line read. -/
namespace K10
open PySem PySem.Spec PyProof.Rows L2
abbrev sHeard : Stmt := top 28
abbrev nH : List Str := ["_law_ask", "error"]
theorem scH : FnScope nH ["_law_ask"] (defScope sHeard) := ⟨rfl, rfl, rfl, by decide +kernel, rfl, by decide +kernel, by decide +kernel⟩
/-- what the ear answers to an error -/
def HearErr (CB : Addr) (Q : VK) (cls : Value) (d : Option Addr) (H : Hp) : Prop := ∃ (dd : Addr) (e : Nat), d = some dd ∧ cls = .ref CB ∧ H dd = some (.xd [("word", .int (e : Nat)), ("line", .int 0)]) ∧ ∀ (t : Addr) (H' : Hp), Same H H' → H' t = some (.tup [.str "text", .int 0, .int (e : Nat)]) → Q (.ref t) H'
def TTh (CB : Addr) : (XK → Hp → VK → Prop) → Hp → VK → Prop := fun tl H Q => ∀ (H1 : Hp) (E' : XK) (Q' : VK), Same H H1 → (∀ cls d H', HearErr CB Q cls d H' → E' cls d H') → (∀ v H', (∀ M, H' M = none → Q (.ref M) (upd H' M (.lst [v]))) → Q' v H') → tl E' H1 Q'
structure EarC (K : PySem.W.Frag) (mg : Str → Option Value) (CB CX : Addr) : Prop where
  e : OwE.ErrC K CB
  s : PySem.W.exmOne K (.ref CB) (.ref CB) = some true
  v1 : PySem.W.findIn K (.ref CB) "line" = some none
  v2 : PySem.W.findIn K (.ref CB) "word" = some none
  gB : mg "BadText" = some (.ref CB)
  gX : mg "NextError" = some (.ref CX)
theorem heard_gives {X : Cx} {g CB CX : Addr} {cdg : Value} {q : Str} (hr : Room 3 X.A) (c : EarC X.K X.mg CB CX) : LamX.GivesTo X nH "_law_heard" (defScope sHeard) g cdg (defBody sHeard) "_law_ask" q (TTh CB) := by
  intro f c' s H Q tl act hcc h
  have sz := sizeLine_eq
  refine ⟨_, pss_one (OwE.ps_try_mix (X := (cxOf C8.CX0 X.prog X.w X.K X.mg X.base nH "_law_heard" (defScope sHeard) g cdg X.A X.stack s H C8.E0).nox)
      (tb := fun W D σ H => ∃ Ech : XK, (∀ cls d σ' H', Ech cls d H' → σ'.length = 2 → W cls d σ' H') ∧ σ[0]? = some (some (.ref f)) ∧ H c' = some (LamX.CodeO c' q) ∧ tl Ech H (fun v H' => 1 ≤ sizeLine ∧ ∀ M, H' M = none → D.rt (.ref M) (upd H' M (.lst [v]))))
      rfl rfl scH.nd (fun W pn xe tk => ?_)
      (.named (c := .ref CB) (i := 1) ⟨rfl, by decide, .inl c.gB⟩ rfl rfl (fun a oe cls d pn hz hf => pss_one (ps_ret (pe_tup (pa_cons pe_str (pa_cons (OwE.pe_xe hz hf (pv 1)) (pa_cons (OwE.pe_xe hz hf (pv 1)) pa_nil))))))
      (.bare (c := .ref CX) ⟨rfl, by decide, .inl c.gX⟩ (fun a oe cls d pn hz hf => pss_one (ps_ret (pe_tup (pa_cons pe_str (pa_cons pe_int (pa_cons pe_int pa_nil)))))) .nil))), ?_⟩
  · refine ⟨fun pins s' σ H' D I h' => ?_⟩
    obtain ⟨Ech, hW, h1, h2, h3⟩ := h'
    exact (pss_one (ps_ret (pe_lst (pa_cons (act (fun c d σ H => σ.length = 2 → W c d σ H) pn xe Ech _ _ (OwE.takes_len tk) hW) pa_nil)))).run pins s' σ H' D I ⟨h1, h2, h3⟩
  · refine ⟨HearErr CB Q, fun cls d σ' H' he hl => ?_, rfl, hcc, h _ _ _ (Same.refl _) (fun _ _ _ q => q) fun v H' q => ⟨by omega, q⟩⟩
    obtain ⟨dd, e, rfl, rfl, ed, q⟩ := he
    refine ⟨true, c.s, fun _ a na => ?_, fun q => by cases q⟩
    have h1 := OwE.set_get (i := 1) (v := some (.ref a)) hl (by decide)
    exact ⟨_, h1, rfl, CB, dd, _, .int 0, rfl, c.e, c.v1, rfl, ed, rfl, _, h1, rfl, CB, dd, _, .int (e : Nat), rfl, c.e, c.v2, rfl, ed, rfl, by show (3 : Nat) ≤ sizeLine; omega, fun t ht => q t _ (Same.of_new ht) upd_same⟩
/-! ### houses: read, written, compared -/
def spHRK (K : PySem.W.Frag) (CH CT : Addr) : List V → Sp := fun zs vs H Q E => ∃ v, vs = [.ref CH] ∧ zs = [v] ∧ spHR K CH CT [.ref CH, v] H Q E
def spEqP (C : Addr) : Sp := fun vs H Q _ => ∃ (a b : Addr) (ps : List Pk), vs = [.ref a, .ref b] ∧ HAt C H a ps ∧ HAt C H b ps ∧ HNorm ps ∧ Q (.bl true) H
structure RdH (P : Program) (w : World) (K : PySem.W.Frag) (mg : Str → Option Value) (base : Heap) (C CT p g : Addr) : Prop where
  m : ClX.CMet K C (.type "type") "read" p g
  f : FnR P w K mg base (L2.CX P w) 7 g (spHR K C CT)
  fk : OwR.FnRK P w K mg base (L2.CX P w) 7 g ["text"] (spHRK K C CT)
structure StH (P : Program) (w : World) (K : PySem.W.Frag) (mg : Str → Option Value) (base : Heap) (C g : Addr) : Prop where
  s : OwR.Str1 K C g
  f : FnR P w K mg base CX0 1 g (spHS K C)
section
variable {P : Program} {w : World} {K : PySem.W.Frag} {mg : Str → Option Value} {base : Heap}
theorem rd_H {C CT f : Addr} {fd : FuncData} (F : Fun K "read" "House.read" sHRead f fd) (G : FnOk P w K mg base (L2.CX P w) 7 f fd ["cls", "text"] (spHR K C CT)) : FnR P w K mg base (L2.CX P w) 7 f (spHR K C CT) ∧ OwR.FnRK P w K mg base (L2.CX P w) 7 f ["text"] (spHRK K C CT) := by
  refine ⟨OwR.raw0 G (F.binds fun _ _ _ _ _ _ us hl => match us, hl with | [_, _], _ => rfl), ?_⟩
  obtain ⟨oc, od, kV, doc, pm, an, cdv, ct, osl, rfl, lk, hcd⟩ := F.ex
  intro A outer s H us ws vs zs Q E hr e0 r rz ⟨x, ev, ez, hj⟩
  subst ev ez
  match us, ws, r, rz with
  | [u1], [w1], .cons r1 .nil, .cons r2 .nil => exact G.run A outer s H ⟨[u1], [("text", w1)]⟩ [u1, w1] [.ref C, x] Q E hr e0 (.of_eq rfl) (.cons r1 (.cons r2 .nil)) hj
theorem eq_P {a : HAd} (h : HHF P w K mg base a) : FnR P w K mg base CX0 1 a.fEq (spEqP a.C) := by
  obtain ⟨_, F⟩ := h.dEq
  have c := h.chk.chk
  have kC := h.k
  have gH := h.gH
  refine OwR.raw0 (F.ok (k := 0) (ps := ["self", "other"]) scHE (fun vs H Q E h => ?_) (fun cdv A outer s H vs Q E hr h => ?_)) (F.binds fun _ _ _ _ _ _ us hl => match us, hl with | [_, _], _ => rfl)
  · obtain ⟨a, b, ps, rfl, _⟩ := h
    rfl
  · obtain ⟨x, b, ps, rfl, ⟨dx, fs, d, l, ea, lk, _, ed, _⟩, ⟨dy, gs, d2, l2, eb, lk2, _, ed2, _⟩, nm, k⟩ := h
    have hu : (A.deeper (envOfC "House.__eq__" (defScope sHEq) s.heap.objs.size a.fEq cdv)).units < cLine := (by have := hr.units; omega)
    refine ⟨_, (pss_one (ps_ret (pe_and (pe_callB call_isi (by rfl) c.T.n_isinstance (by decide +kernel) (pa_cons (pv 1) (pa_cons (pe_glob (v := .ref a.C) rfl gH rfl) pa_nil))) (pe_one (pe_cmpR (OwR.op_eqTab hu) (pe_fld (pv 0) rfl) (pe_fld (pv 1) rfl) (nomark _)))))), ?_⟩
    refine ⟨_, rfl, .ref b, .ref a.C, _, _, true, rfl, .own _, kC.ty eb, kC.own, true, rfl, ?_⟩
    refine iteT ?_
    refine ⟨_, rfl, x, a.C, dx, fs, _, rfl, ea, kC.hc.cls, kC.hc.n1, lk, _, rfl, b, a.C, dy, gs, _, rfl, eb, kC.hc.cls, kC.hc.n1, lk2, d, d2, _, _, rfl, rfl, ed, ed2, intTab_list ps, intTab_list ps, ?_⟩
    have o : ∀ z, valL ps z ≠ 0 → z ∈ ps.map (·.1) := fun z hz => (valL_mem nm).mpr (by have := valL_nn nm z; omega)
    rw [tab_eq nm nm (fun z => rfl) (fun z => rfl) o o]
    rw [show eqB (ps.map (·.1)) (valL ps) (valL ps) = true by simp [eqB]]
    exact k
theorem eq_two {a : HAd} (h : HHF P w K mg base a) {H : Hp} {x y : Addr} {ps : List Pk} {Q : VK} {E : XK} (hx : HAt a.C H x ps) (hy : HAt a.C H y ps) (n : HNorm ps) (k : Q (.bl true) H) : OwR.rCmp2 K .Eq a.fEq (spEqP a.C) E (.ref x) (.ref y) H Q := by
  obtain ⟨dx, fs, _, _, ea, _⟩ := id hx
  obtain ⟨dy, gs, _, _, eb, _⟩ := id hy
  exact ⟨x, y, _, _, dx, dy, fs, gs, rfl, rfl, ea, eb, h.cEq, h.own, x, y, ps, rfl, hx, hy, n, k⟩
theorem ne_two {a : HAd} (h : HHF P w K mg base a) {H : Hp} {x y : Addr} {ps : List Pk} {Q : VK} {E : XK} (hx : HAt a.C H x ps) (hy : HAt a.C H y ps) (n : HNorm ps) (k : Q (.bl false) H) : OwR.rNe2 K a.fEq (spEqP a.C) E (.ref x) (.ref y) H Q := by
  obtain ⟨dx, fs, _, _, ea, _⟩ := id hx
  obtain ⟨dy, gs, _, _, eb, _⟩ := id hy
  exact ⟨x, y, _, _, dx, dy, fs, gs, rfl, rfl, ea, eb, h.cNe, h.own, x, y, ps, rfl, hx, hy, n, _, rfl, k⟩
/-! ### what was read -/
theorem read_up {ws : List Str} {ps : List Pk} (h : placesRead ws = .ok ps) : ∃ last, Up last ps := by
  unfold placesRead at h
  split at h
  · cases h
    exact ⟨"", True.intro⟩
  · exact ⟨_, placesFrom_up h⟩
theorem up_good {last : Str} {ps : List Pk} (u : Up last ps) : ∀ p ∈ ps, GoodN p := fun p hp => by
  obtain ⟨_, a, b, c⟩ := up_all u p hp
  exact ⟨a, b, c⟩
theorem read_len {ws : List Str} {ps : List Pk} (h : placesRead ws = .ok ps) : 2 * ps.length ≤ ws.length := by
  unfold placesRead at h
  split at h
  · cases h
    exact Nat.zero_le _
  · have e := placesFrom_words h (by omega) (by omega)
    have e := congrArg List.length e
    rw [List.drop_zero, place_flat] at e
    omega
theorem read_text {z : Str} {ps : List Pk} (h : placesRead (wordsOf z) = .ok ps) : houseText ps = z := by
  have hz := words_join z
  have ne := words_ne z
  generalize wordsOf z = ws at *
  unfold placesRead at h
  split at h
  · rename_i c
    cases h
    rw [← hz, c]
    decide +kernel
  · have e := placesFrom_words h (by omega) (by omega)
    rw [List.drop_zero] at e
    have pne : ps ≠ [] := fun c => ne (by rw [e, c]; rfl)
    unfold houseText
    rw [if_neg pne, ← house_join pne, ← e, hz]
/-- House.of of a table of places -/
theorem ofA {ps : List Pk} (g : ∀ p ∈ ps, GoodN p) : ∀ z ∈ ps.map (·.1), nameB z = true ∧ z.length ≤ 1000 := fun z hz => by
  obtain ⟨p, hp, rfl⟩ := List.mem_map.mp hz
  have a := (g p hp).1
  exact ⟨a, Nat.le_trans (name_len a) (by decide)⟩
theorem ofB {ps : List Pk} (g : ∀ p ∈ ps, GoodN p) : ∀ z v, lookL ps z = some v → 0 ≤ v ∧ v ≤ 10 ^ 60 - 1 := fun z v e => by
  obtain ⟨_, b, c⟩ := g _ (lookL_at e)
  exact ⟨by have b : 0 < v := b; omega, c⟩
theorem text3_sh (e : Nat) : SeqAt.shaped (.tuple [.str "text", .int 0, .int (e : Nat)]) = true := by
  have o : PyData.strOk ("text" : Str) = true := by decide +kernel
  exact OwD.shaped_of (by simp [PyData.canLay0, PyData.canLayAll0, o]) (by simp [PyData.depth, PyData.depthAll])
abbrev sRR : Stmt := top 35
def qRR : Str := "_law_read_right.<locals>.<lambda>"
theorem qRR_eq : (("_law_read_right" : Str) ++ ".<locals>.") ++ "<lambda>" = qRR := by decide +kernel
def spRR (T : List (Addr × Str)) : Sp := fun vs H Q _ => ∃ z : Str, vs = [.str z] ∧ LineOk z ∧ LamX.Tabs T H ∧ ∀ H', LamX.ExtN H H' → LamX.Tabs T H' → Q (.bl true) H'
abbrev nRR : List Str := ["_law_line", "_law_due_here", "_law_heard_here"]
theorem scRR : FnScope nRR ["_law_line"] (defScope sRR) := ⟨rfl, rfl, rfl, by decide +kernel, rfl, by decide +kernel, by decide +kernel⟩
theorem ok_RR {a : HAd} {CB CX f c0 Pt fH fDu fI fM pR gR fS : Addr} {fdH fdDu fdI fdM : FuncData} {T : List (Addr × Str)} {oc kV doc pm ct : Value} {od an : Option Addr} {osl : Array (Option Value)} (lk : K.lookup f = some ⟨oc, od, .func (PySem.W.fnOf "_law_read_right" "_law_read_right" (defArgs sRR) (defBody sRR) (defScope sRR) .none kV doc pm an (.ref c0) ct), osl⟩) (hcd : PySem.W.codeIn K (.ref c0) "_law_read_right" = true)
    (h6 : HHF P w K mg base a) (ear : EarC K mg CB CX) (rdH : RdH P w K mg base a.C CB pR gR) (stH : StH P w K mg base a.C fS) (F_heard : Fun K "_law_heard" "_law_heard" sHeard fH fdH) (g_heard : mg "_law_heard" = some (.ref fH)) (F_due : Fun K "_law_due" "_law_due" sDu fDu fdDu) (g_due : mg "_law_due" = some (.ref fDu)) (F_isn : Fun K "_law_is_name" "_law_is_name" sIn6 fI fdI) (g_isn : mg "_law_is_name" = some (.ref fI)) (F_isd : Fun K "_law_is_number" "_law_is_number" sIm6 fM fdM) (g_isd : mg "_law_is_number" = some (.ref fM)) (n_range : mg "range" = none) (n_int : mg "int" = none)
    (TB : LamX.TabB base mg c0 Pt) (memT : (Pt, qRR) ∈ T) (oneT : ∀ p ∈ T, p.1 = Pt → p.2 = qRR) :
    FnOk P w K mg base CX0 10 f (PySem.W.fnOf "_law_read_right" "_law_read_right" (defArgs sRR) (defBody sRR) (defScope sRR) .none kV doc pm an (.ref c0) ct) ["_law_line"] (spRR T) := by
  have n_len := h6.chk.chk.T.n_len
  have n_str := h6.chk.chk.T.n_str
  have n_isinstance := h6.chk.chk.T.n_isinstance
  have n_list := h6.n_list
  have b_heard : Binds K fdH ["_law_ask"] [] := F_heard.binds fun _ _ _ _ _ _ us hl => match us, hl with | [_], _ => rfl
  have G_due : FnOk P w K mg base CX0 2 fDu fdDu ["_law_line"] spDu := ok_Du F_due F_isn g_isn F_isd g_isd n_len n_int n_range
  have b_due : Binds K fdDu ["_law_line"] [] := F_due.binds fun _ _ _ _ _ _ us hl => match us, hl with | [_], _ => rfl
  have eqP := eq_P h6
  refine fn_of (k := 9) lk hcd scRR (fun vs H Q E h => ?_) fun A outer s H vs Q E hr h => ?_
  · obtain ⟨z, rfl, _⟩ := h
    rfl
  · obtain ⟨z, rfl, ok, hT, q⟩ := h
    have hr9 : Room 9 (A.deeper (envOfC "_law_read_right" (defScope sRR) s.heap.objs.size f (.ref c0))) := hr
    have hr7 := hr9.mono (show 7 ≤ 9 by decide)
    have hr3 := hr9.mono (show 3 ≤ 9 by decide)
    have hr2 := hr9.mono (show 2 ≤ 9 by decide)
    have hr1 := hr9.mono (show 1 ≤ 9 by decide)
    have hud := hr9.units
    have hu0 : (A.deeper (envOfC "_law_read_right" (defScope sRR) s.heap.objs.size f (.ref c0))).units < cLine := by omega
    have hu2 : (A.deeper (envOfC "_law_read_right" (defScope sRR) s.heap.objs.size f (.ref c0))).units + 2 < cLine := by omega
    refine ⟨_, PSs.nox (pss_cons (ps_par (i := 1) (j := 2) (by rfl) scRR.nd rfl rfl (by decide) rfl rfl (pa_cons (pe_call G_due hr2 (by rfl) g_due F_due.kp b_due .nil pass0 (pa_cons (pv 0) pa_nil)) (pa_cons (OwE.pe_lamT (T := T) (k := 7) (q := qRR) (by rfl) F_heard g_heard b_heard scH rfl (Or.inl rfl) qRR_eq (fun cdv => heard_gives (hr3) ear) TB rfl memT oneT hr9 (LamX.lamS_by (sc := defScope sRR) (by decide +kernel)) (fun A outer s H E f c2 hr => (ClX.pe_cmeth (pe_glob (v := .ref a.C) rfl h6.gH rfl) h6.rH rdH.m rdH.f hr (passes_call (takes_of rfl rfl rfl rfl) (fun _ _ _ _ h => h)) (pa_cons (pv 0) pa_nil)))) pa_nil)) (by rfl))
    (pss_cons (ps_if (pt_val (pe_callB call_isi (by rfl) n_isinstance (by decide +kernel) (pa_cons (pv 1) (pa_cons (pe_bltn (v := .ty "int") (by rfl) n_int (by decide +kernel) rfl) pa_nil)))) (pss_one (ps_ret (pe_cmpR (op_eqD hud) (pv 2) (pe_tup (pa_cons pe_str (pa_cons pe_int (pa_cons (pv 1) pa_nil)))) (nomark _)))) pss_nil)
    (pss_one (ps_ret (pe_and (pe_callB call_isi (by rfl) n_isinstance (by decide +kernel) (pa_cons (pv 2) (pa_cons (pe_bltn (v := .ty "list") (by rfl) n_list (by decide +kernel) rfl) pa_nil))) (pe_and (pe_cmpR (OwR.op_ownEq hu0 eqP hr1 pass0) (pe_ix ix_list (pv 2) pe_int (fun _ _ => rfl)) (ClX.pe_cmeth (pe_glob (v := .ref a.C) rfl h6.gH rfl) h6.rH h6.mOf h6.of hr7 pass0 (pa_cons (pv 1) pa_nil)) (nomark _)) (pe_one (pe_cmpR op_eq (pe_callTy (OwR.call_strO hu2 stH.f hr3 pass0) (by rfl) n_str (by decide +kernel) (pa_cons (pe_ix ix_list (pv 2) pe_int (fun _ _ => rfl)) pa_nil)) (pv 0) (nomark _))))))))), ?_⟩
    have sz := sizeLine_eq
    refine ⟨_, rfl, z, rfl, ok, ?_⟩
    cases er : placesRead (wordsOf z) with
    | error e =>
      intro H1 s1
      refine ⟨tabs_same hT s1, fun H4 eN tb4 H5 E' Q' s45 hE hR => ⟨rfl, _, rfl, _, rfl, .inl ⟨z, rfl, ok.len, ok.word, ok.many, ok.ok, ?_⟩⟩⟩
      rw [show Txt.split z (Str.ofString " ") = wordsOf z from rfl, er]
      refine fun H6 d s6 nd => hE _ _ _ ⟨d, e, rfl, rfl, upd_same, fun t H7 s7 et => ?_⟩
      have s57 := (s6.trans (Same.of_new nd)).trans s7
      have e7 : LamX.ExtN H H7 := fun b o h n => s57 _ _ (s45 _ _ (eN _ _ (s1 _ _ h) n))
      have tb7 := tabs_same tb4 (s45.trans s57)
      refine ⟨_, _, rfl, ?_⟩
      refine ⟨_, rfl, .int e, .ty "int", _, _, true, rfl, .ty _, .base (.int _), kit_ty (by decide +kernel), true, rfl, ?_⟩
      refine iteT ?_
      refine ⟨_, rfl, _, rfl, by show (3 : Nat) ≤ sizeLine; omega, fun t2 ht2 => ?_⟩
      have s8 := Same.of_new (o := .tup [.str "text", .int 0, .int (e : Nat)]) ht2
      refine ⟨.tuple [.str "text", .int 0, .int (e : Nat)], .tuple [.str "text", .int 0, .int (e : Nat)], .tup (SqT.of (s8 _ _ et)) (.cons (.str _) (.cons (.int _) (.cons (.int _) .nil))), .tup (SqT.of upd_same) (.cons (.str _) (.cons (.int _) (.cons (.int _) .nil))), text3_sh e, text3_sh e, ?_⟩
      rw [SeqAt.eqv_refl _ (SeqAt.canLay_of_shaped (text3_sh e))]
      exact q _ (fun b o h n => s8 _ _ (e7 b o h n)) (tabs_same tb7 s8)
    | ok ps =>
      intro D H1 s1 eD
      obtain ⟨last, up⟩ := read_up er
      have nm := up_norm up
      have good := up_good up
      have len := read_len er
      have lz := ok.many
      refine ⟨tabs_same hT s1, fun H4 eN tb4 H5 E' Q' s45 hE hR => ⟨rfl, _, rfl, _, rfl, .inl ⟨z, rfl, ok.len, ok.word, ok.many, ok.ok, ?_⟩⟩⟩
      rw [show Txt.split z (Str.ofString " ") = wordsOf z from rfl, er]
      refine fun r H6 nr s6 hA => hR _ _ fun M hM => ?_
      have sM := Same.of_new (o := .lst [V.ref r]) hM
      have s57 := s6.trans sM
      have e7 : LamX.ExtN H (upd H6 M (.lst [V.ref r])) := fun b o h n => s57 _ _ (s45 _ _ (eN _ _ (s1 _ _ h) n))
      have tb7 := tabs_same tb4 (s45.trans s57)
      have eD7 := s57 _ _ (s45 _ _ (eN _ _ eD (fun ps h => by cases h)))
      have hA7 := hA.same sM
      refine ⟨_, _, rfl, ?_⟩
      refine ⟨_, rfl, .ref D, .ty "int", _, _, false, rfl, .ty _, .base (.dK eD7), kit_ty (by decide +kernel), false, rfl, ?_⟩
      refine iteF ?_
      refine ⟨_, rfl, .ref M, .ty "list", _, _, true, rfl, .ty _, .base (.lst upd_same), kit_ty (by decide +kernel), true, rfl, ?_⟩
      refine iteT ?_
      have eM : upd H6 M (.lst [V.ref r]) M = some (.lst [V.ref r]) := upd_same
      refine ⟨_, rfl, M, _, 0, _, rfl, rfl, SqL.of eM, rfl, rfl, _, rfl, ?_⟩
      refine ⟨V.ref a.C, D, tabL ps, ps.map (·.1), lookL ps, rfl, eD7, tabL_keys ps, by rw [List.length_map]; omega, ofA good, tabOf_list ps, ofB good, fun r2 H8 qs nr2 s8 hB nq vq => ?_⟩
      have eqs : qs = ps := norm_ext nq nm fun z => by rw [vq z]; rfl
      rw [eqs] at hB
      refine eq_two h6 (hA7.same s8) hB nm ?_
      refine ⟨_, rfl, ?_⟩
      refine iteT ?_
      obtain ⟨dxr, fsr, _, _, er2, _⟩ := id (hA7.same s8)
      refine ⟨_, rfl, M, _, 0, _, rfl, rfl, SqL.of (s8 _ _ eM), rfl, r, a.C, dxr, fsr, rfl, er2, stH.s, r, ps, rfl, hA7.same s8, nm, good, by omega, fun H9 s9 => ⟨_, rfl, ?_⟩⟩
      refine ⟨_, rfl, rfl, ?_⟩
      rw [show decide (V.str (houseText ps) = V.str z) = true from decide_eq_true (by rw [read_text er])]
      have s89 := s8.trans s9
      exact q _ (fun b o h n => s89 _ _ (e7 b o h n)) (tabs_same tb7 s89)
end
end K10
end
section
set_option pp.maxSteps 400
set_option pp.deepTerms.threshold 6
/-! The law. -/
namespace K10
open PySem PySem.Spec PyProof.Rows L2
abbrev sLaw : Stmt := top 36
def qLaw : Str := "law.<locals>.<lambda>"
theorem qLaw_eq : (("law" : Str) ++ ".<locals>.") ++ "<lambda>" = qLaw := by decide +kernel
/-- a house of no places -/
def spH0e (C : Addr) : Sp := fun vs H Q _ => ∃ a dx : Addr, vs = [.ref a] ∧ H a = some (.ins C dx []) ∧ ∀ H', But a H H' → HAt C H' a [] → Q .non H'
def spH0d (C : Addr) : Sp := fun vs H Q _ => ∃ a d dx : Addr, vs = [.ref a, .ref d] ∧ H a = some (.ins C dx []) ∧ H d = some (.dK []) ∧ ∀ H', But a H H' → HAt C H' a [] → Q .non H'
section
variable {P : Program} {w : World} {K : PySem.W.Frag} {mg : Str → Option Value} {base : Heap}
theorem ok_H0e {C f : Addr} {fd : FuncData} (hc : HouseC K C) (F : Fun K "__init__" "House.__init__" sHouse0 f fd) (c : HChk P w K mg base) : FnR P w K mg base CX0 4 f (spH0e C) := by
  obtain ⟨oc, od, kV, doc, pm, an, cdv, ct, osl, rfl, lk, hcd⟩ := F.ex
  obtain ⟨fA, fdA, gA, kA, bA, GA⟩ := c.chk.asc
  obtain ⟨fT, fdT, gT, kT, bT, GT⟩ := c.told2
  obtain ⟨fM, fdM, gM, kM, bM, GM⟩ := c.chk.name
  refine FnR.imp (OwR.fn_kw (k := 3) (ps := ["self"]) (pd := "places") (sp := spH0d C) lk hcd scH0 StX.cxUp_none (fun us hl => match us, hl with | [_], _ => rfl) fun A outer s H vs Q E hr h => ?_) fun vs H Q E h => ?_
  · obtain ⟨a, d, dx, rfl, ha, hd, k⟩ := h
    have hr2 : Room 1 _ := hr.mono (by decide)
    refine ⟨_, PSs.nox (pss_cons (ps_for PassesOwn.never rfl (pi_list (pe_call GA hr2 (by rfl) gA kA bA .nil pass0 (pa_cons (pv 1) pa_nil))) (pg_name (i := 2) scH0.nd rfl (Or.inl rfl)) (pss_one (ps_if (pt_not (pt_val (pe_call GM hr2 (by rfl) gM kM bM .nil pass0 (pa_cons (pv 2) pa_nil)))) (pss_one ps_never) pss_nil)))
    (pss_cons (ps_fld (pv 0) (pe_call GT hr (by rfl) gT kT bT .nil pass0 (pa_cons (pv 1) pa_nil)) rfl)
    (pss_one (ps_fld (pv 0) (pe_callTy (OwR.call_tupleD rfl) (by rfl) c.chk.T4.n_tuple (by decide +kernel) (pa_cons (pe_fld (pv 0) rfl) pa_nil)) rfl)))), ?_⟩
    refine ⟨_, rfl, d, [], rfl, .inr (.inr ⟨[], .inl hd, rfl⟩), by decide, fun ys p H1 pm srt hp s1 e1 => ?_⟩
    have ey : ys = [] := List.Perm.eq_nil pm
    subst ey
    refine ⟨p, rfl, ⟨_, SqL.of e1⟩, ?_⟩
    refine for_it (walk_list (xs := [])) (fun i σ H' => H1 = H' ∧ ∃ x, σ = [some (.ref a), some (.ref d), x]) ⟨rfl, _, rfl⟩ (fun i σ H' _ q => q.1 ▸ SqL.of e1) (fun i x σ H' H2 hi q y => absurd hi (Nat.not_lt_zero i)) (fun σ H' q => ?_)
    obtain ⟨rfl, x0, rfl⟩ := q
    refine ⟨_, rfl, d, [], [], fun _ => none, rfl, .inl (s1 d _ hd), rfl, by decide, TabOf.nil, (fun z v e => by cases e), fun ps q H2 nm vl l2 hq s2 e2 => ?_⟩
    have eps : ps = [] := norm_ext nm ⟨List.Pairwise.nil, List.nodup_nil, fun p h => by cases h⟩ fun z => by rw [vl z]; rfl
    subst eps
    have ea2 := s2 a _ (s1 a _ ha)
    refine ⟨_, rfl, a, C, dx, [], rfl, ea2, hc.cls, hc.n1, by decide, ?_⟩
    have nq : q ≠ a := fun e => by
      rw [e, s1 a _ ha] at hq
      cases hq
    refine ⟨_, rfl, a, C, dx, _, .ref q, rfl, upd_same, hc.cls, hc.n1, rfl, ?_⟩
    refine ⟨q, _, rfl, .inl (by rw [upd_ne nq]; exact e2), fun r hr0 => ?_⟩
    have nr : a ≠ r := fun e => by
      rw [← e, upd_same] at hr0
      cases hr0
    refine ⟨_, rfl, a, C, dx, _, rfl, by rw [upd_ne nr]; exact upd_same, hc.cls, hc.n2, (by show (1:Nat) < 1000; decide), ?_⟩
    have nqr : q ≠ r := fun z => by
      rw [← z, upd_ne nq, e2] at hr0
      cases hr0
    refine k _ (fun b o n e => ?_) ⟨dx, _, q, r, upd_same, rfl, rfl, ?_, ?_⟩
    · rw [upd_ne n]
      have hb2 := s2 b _ (s1 b _ e)
      have nb : b ≠ r := fun z => by
        rw [← z, upd_ne n, hb2] at hr0
        cases hr0
      rw [upd_ne nb, upd_ne n]
      exact hb2
    · rw [upd_ne nq, upd_ne nqr, upd_ne nq]
      exact e2
    · rw [upd_ne (Ne.symm nr)]
      exact upd_same
  · obtain ⟨a, dx, rfl, ha, k⟩ := h
    refine ⟨rfl, fun d hd => ⟨a, d, dx, rfl, ?_, upd_same, fun H' s1 hA => k H' (fun b o n e => s1 b o n (Same.of_new hd b o e)) hA⟩⟩
    rw [upd_ne (ne_of_none ha hd)]
    exact ha
/-! ### fixed lines -/
def lineB (z : Str) : Bool := decide (z.length ≤ 1000) && (decide ((wordsOf z).length ≤ 100) && (wordsOf z).all fun q => decide (q.length ≤ 1000) && PyData.strOk q)
theorem line_ok {z : Str} (h : lineB z = true) : LineOk z := by
  obtain ⟨h1, h2⟩ := Bool.and_eq_true_iff.mp h
  obtain ⟨h2, h3⟩ := Bool.and_eq_true_iff.mp h2
  have h1 := of_decide_eq_true h1
  have al := List.all_eq_true.mp h3
  refine ⟨by omega, fun i => ?_, of_decide_eq_true h2, fun q hq => (Bool.and_eq_true_iff.mp (al q hq)).2⟩
  unfold pk
  rw [List.getD_eq_getElem?_getD]
  cases e : (wordsOf z)[i]? with
  | none => exact by decide +kernel
  | some q => exact of_decide_eq_true (Bool.and_eq_true_iff.mp (al q (List.mem_of_getElem? e))).1
def rowsW : List Str := ["", " ", "s", "s 1 ", "none none", "none 2 a 1", "b 1 none", "b 0", "s 1 b 2", "s " ++ OwR.repS "9" 61, "b  1"]
theorem rows_ok : ∀ z ∈ rowsW, LineOk z := fun z hz => by
  have h : ∀ z ∈ rowsW, lineB z = true := by decide +kernel
  exact line_ok (h z hz)
theorem odd_line : LineOk "s 1 s 2" := line_ok (by decide +kernel)
/-- the odd values -/
inductive OddT (C : Addr) (H : Hp) : V → Prop where
  | non : OddT C H .non
  | int (i : Int) : OddT C H (.int i)
  | bl (b : Bool) : OddT C H (.bl b)
  | lst {l : Addr} (e : H l = some (.lst [.str "s 1"])) : OddT C H (.ref l)
  | tup {l : Addr} {xs : List V} (e : H l = some (.tup xs)) : OddT C H (.ref l)
  | dic {l : Addr} {kvs : List (Key × V)} (e : H l = some (.dK kvs)) : OddT C H (.ref l)
  | obj {l dx : Addr} {fs : List (Str × V)} (e : H l = some (.ins C dx fs)) : OddT C H (.ref l)
theorem OddT.lo {C : Addr} {H H' : Hp} {x : V} {p c : Addr} {ns : List Int} {n : Nat} {z : Int} (h : OddT C H x) (P : PenAt H p c ns n z) (s : Lo p H H') : OddT C H' x := by
  cases h with
  | non => exact .non
  | int i => exact .int i
  | bl b => exact .bl b
  | lst e => exact .lst (s _ _ (fun q => by rw [q, P.pen] at e; cases e) (fun ps h => by cases h) e)
  | tup e => exact .tup (lo_tup P s e)
  | dic e => exact .dic (lo_dK P s e)
  | obj e => exact .obj (lo_ins P s e)
theorem OddT.same {C : Addr} {H H' : Hp} {x : V} (h : OddT C H x) (s : Same H H') : OddT C H' x := by
  cases h with
  | non => exact .non
  | int i => exact .int i
  | bl b => exact .bl b
  | lst e => exact .lst (s _ _ e)
  | tup e => exact .tup (s _ _ e)
  | dic e => exact .dic (s _ _ e)
  | obj e => exact .obj (s _ _ e)
theorem OddT.noStr {a : HAd} {H : Hp} {x : V} (h : OddT a.C H x) (k : HouseK K a.C) (noS : PySem.W.kitOne K (.ref a.C) (.type "str") = some false) : NoStr K H x := by
  cases h with
  | non => exact ⟨_, .base .non, kit_ty (by decide +kernel)⟩
  | int i => exact ⟨_, .base (.int i), kit_ty (by decide +kernel)⟩
  | bl b => exact ⟨_, .base (.bl b), kit_ty (by decide +kernel)⟩
  | lst e => exact ⟨_, .base (.lst e), kit_ty (by decide +kernel)⟩
  | tup e => exact ⟨_, .base (.tup e), kit_ty (by decide +kernel)⟩
  | dic e => exact ⟨_, .base (.dK e), kit_ty (by decide +kernel)⟩
  | obj e => exact ⟨_, k.ty e, noS⟩
theorem ext_tabs_pen {H H' : Hp} {l : Addr} {xs : List V} (e : LamX.ExtN H H') (h : H l = some (.lst xs)) : H' l = some (.lst xs) := e _ _ h (fun ps h => by cases h)
theorem house_line {ps : List Pk} (g : ∀ p ∈ ps, GoodN p) (l : ps.length ≤ 4) : LineOk (houseText ps) := by
  have := (house_ws g l).line (by decide)
  rw [← house_words g, words_join] at this
  exact this
theorem house_read {ps : List Pk} (g : ∀ p ∈ ps, GoodN p) (n : HNorm ps) : placesRead (wordsOf (houseText ps)) = .ok ps := by
  rw [house_words g]
  unfold wordsH placesRead
  by_cases c : ps = []
  · rw [if_pos c, if_pos rfl, c]
  · rw [if_neg c]
    have ne : ps.flatMap placeW ≠ [("none" : Str)] := fun e => by
      have := congrArg List.length e
      rw [place_flat] at this
      have this : 2 * ps.length = 1 := this
      omega
    rw [if_neg ne]
    have u : Up "" ps := norm_up n (fun p hp => ⟨(g p hp).1, (g p hp).2.2⟩) fun p hp => name_above (g p hp).1
    exact placesFrom_of ps _ 0 "" u rfl (by rw [place_flat]; omega)
theorem sub_len {ps ts : List Pk} (n : (ps.map (·.1)).Nodup) (s : ∀ p ∈ ps, p ∈ ts) : ps.length ≤ ts.length := by
  have := nodup_len (ys := ts.map (·.1)) n fun z hz => by
    obtain ⟨p, hp, rfl⟩ := List.mem_map.mp hz
    exact List.mem_map.mpr ⟨p, s p hp, rfl⟩
  rw [List.length_map, List.length_map] at this
  exact this
def spLaw (K : PySem.W.Frag) (T : List (Addr × Str)) : Sp := fun vs H Q _ => ∃ (a : Addr) (ns : List Int), vs = [.ref a] ∧ SqL K H a (ns.map V.int) ∧ ns.length ≤ 63 ∧ LamX.Tabs T H ∧ ∀ H', Q (.bl true) H'
abbrev nLaw : List Str := ["_law_script", "_law_pen_here", "_law_turn", "_law_told", "_law_house", "_law_line", "_law_words", "_law_again", "_law_odd", "_law_rows"]
theorem scLaw : FnScope nLaw ["_law_script"] (defScope sLaw) := ⟨rfl, rfl, rfl, by decide +kernel, rfl, by decide +kernel, by decide +kernel⟩
theorem ok_law {a : HAd} {CB CX f c0 Pt fH fDr fPi fPe fWo fTb fTx fBe fRR pR gR fS : Addr} {fdH fdDr fdPi fdPe fdWo fdTb fdTx fdBe fdRR : FuncData} {T : List (Addr × Str)} {oc kV doc pm ct : Value} {od an : Option Addr} {osl : Array (Option Value)} (lk : K.lookup f = some ⟨oc, od, .func (PySem.W.fnOf "law" "law" (defArgs sLaw) (defBody sLaw) (defScope sLaw) .none kV doc pm an (.ref c0) ct), osl⟩) (hcd : PySem.W.codeIn K (.ref c0) "law" = true)
    (h6 : HHF P w K mg base a) (ear : EarC K mg CB CX) (rdH : RdH P w K mg base a.C CB pR gR) (stH : StH P w K mg base a.C fS) (Nn : Nm mg) (F_heard : Fun K "_law_heard" "_law_heard" sHeard fH fdH) (g_heard : mg "_law_heard" = some (.ref fH)) (F_draw : Fun K "_law_draw" "_law_draw" sDraw fDr fdDr) (g_draw : mg "_law_draw" = some (.ref fDr)) (F_pick : Fun K "_law_pick" "_law_pick" sPick fPi fdPi) (g_pick : mg "_law_pick" = some (.ref fPi)) (F_pen : Fun K "_law_pen" "_law_pen" sPen fPe fdPe) (g_pen : mg "_law_pen" = some (.ref fPe))
    (F_word : Fun K "_law_word" "_law_word" sWord fWo fdWo) (g_word : mg "_law_word" = some (.ref fWo)) (F_table : Fun K "_law_table" "_law_table" sTb fTb fdTb) (g_table : mg "_law_table" = some (.ref fTb)) (F_text : Fun K "_law_text" "_law_text" sTx fTx fdTx) (g_text : mg "_law_text" = some (.ref fTx)) (F_bent : Fun K "_law_bent" "_law_bent" sBe fBe fdBe) (g_bent : mg "_law_bent" = some (.ref fBe))
    (G_rr : FnOk P w K mg base CX0 10 fRR fdRR ["_law_line"] (spRR T)) (kp_rr : PySem.W.keepIn K (.ref fRR) = true) (g_rr : mg "_law_read_right" = some (.ref fRR)) (b_rr : Binds K fdRR ["_law_line"] []) (n_range : mg "range" = none) (n_sorted : mg "sorted" = none) (noS : PySem.W.kitOne K (.ref a.C) (.type "str") = some false)
    (TB : LamX.TabB base mg c0 Pt) (memT : (Pt, qLaw) ∈ T) (oneT : ∀ p ∈ T, p.1 = Pt → p.2 = qLaw) :
    OwR.FnG P w K mg base CX0 12 f (PySem.W.fnOf "law" "law" (defArgs sLaw) (defBody sLaw) (defScope sLaw) .none kV doc pm an (.ref c0) ct) ["_law_script"] (spLaw K T) := by
  have n_str := h6.chk.chk.T.n_str
  have n_len := h6.chk.chk.T.n_len
  have b_heard : Binds K fdH ["_law_ask"] [] := F_heard.binds fun _ _ _ _ _ _ us hl => match us, hl with | [_], _ => rfl
  have G_pen : FnOk P w K mg base CX0 1 fPe fdPe ["_law_script"] (spPen K) := ok_pen F_pen Nn
  have b_pen : Binds K fdPe ["_law_script"] [] := F_pen.binds fun _ _ _ _ _ _ us hl => match us, hl with | [_], _ => rfl
  have G_pick : FnOk P w K mg base CX0 2 fPi fdPi ["_law_pen_here", "_law_some"] (spPick K) := ok_pick F_pick Nn F_draw g_draw
  have b_pick : Binds K fdPi ["_law_pen_here", "_law_some"] [] := F_pick.binds fun _ _ _ _ _ _ us hl => match us, hl with | [_, _], _ => rfl
  have G_table : FnOk P w K mg base CX0 4 fTb fdTb ["_law_pen_here"] spTb := ok_Tb F_table Nn n_range F_draw g_draw F_pick g_pick F_word g_word
  have b_table : Binds K fdTb ["_law_pen_here"] [] := F_table.binds fun _ _ _ _ _ _ us hl => match us, hl with | [_], _ => rfl
  have G_text : FnOk P w K mg base CX0 1 fTx fdTx ["_law_told"] spTx := ok_Tx F_text n_str n_sorted
  have b_text : Binds K fdTx ["_law_told"] [] := F_text.binds fun _ _ _ _ _ _ us hl => match us, hl with | [_], _ => rfl
  have G_bent : FnOk P w K mg base CX0 4 fBe fdBe ["_law_pen_here", "_law_words"] spBe := ok_Be F_bent Nn F_draw g_draw F_pick g_pick F_word g_word n_len n_str n_range
  have b_bent : Binds K fdBe ["_law_pen_here", "_law_words"] [] := F_bent.binds fun _ _ _ _ _ _ us hl => match us, hl with | [_, _], _ => rfl
  have eqP := eq_P h6
  obtain ⟨_, d0⟩ := h6.d0
  have G_h0 : FnR P w K mg base CX0 4 a.f0 (spH0e a.C) := ok_H0e h6.k.hc d0 h6.chk
  refine OwR.fn_ofG (k := 11) lk hcd scLaw (fun vs H Q E h => ?_) fun A outer s H vs Q E hgd0 hr h => ?_
  · obtain ⟨x, ns, rfl, _⟩ := h
    rfl
  · obtain ⟨x, ns, rfl, hx, hl, hT, q⟩ := h
    have hr11 : Room 11 (A.deeper (envOfC "law" (defScope sLaw) s.heap.objs.size f (.ref c0))) := hr
    have hr10 := hr11.mono (show 10 ≤ 11 by decide)
    have hr9 := hr11.mono (show 9 ≤ 11 by decide)
    have hr7 := hr11.mono (show 7 ≤ 11 by decide)
    have hr5 := hr11.mono (show 5 ≤ 11 by decide)
    have hr4 := hr11.mono (show 4 ≤ 11 by decide)
    have hr3 := hr11.mono (show 3 ≤ 11 by decide)
    have hr2 := hr11.mono (show 2 ≤ 11 by decide)
    have hr1 := hr11.mono (show 1 ≤ 11 by decide)
    have hud := hr11.units
    have hu1 : (A.deeper (envOfC "law" (defScope sLaw) s.heap.objs.size f (.ref c0))).units + 1 < cLine := by omega
    have hu2 : (A.deeper (envOfC "law" (defScope sLaw) s.heap.objs.size f (.ref c0))).units + 2 < cLine := by omega
    refine ⟨_, PSs.nox (pss_cons (ps_set (i := 1) scLaw.nd rfl (Or.inl rfl) (pe_call G_pen hr1 (by rfl) g_pen F_pen.kp b_pen .nil pass0 (pa_cons (pv 0) pa_nil)))
    (pss_cons (ps_for PassesOwn.never rfl (pi_range1 rfl n_range (pa_cons pe_int pa_nil)) (pg_name (i := 2) scLaw.nd rfl (Or.inl rfl)) (pss_cons (ps_set (i := 3) scLaw.nd rfl (Or.inl rfl) (pe_call G_table hr4 (by rfl) g_table F_table.kp b_table .nil pass0 (pa_cons (pv 1) pa_nil)))
    (pss_cons (ps_par (i := 4) (j := 5) (by rfl) scLaw.nd rfl rfl (by decide) rfl rfl (pa_cons (ClX.pe_cmeth (pe_glob (v := .ref a.C) rfl h6.gH rfl) h6.rH h6.mOf h6.of hr7 pass0 (pa_cons (pv 3) pa_nil)) (pa_cons (pe_call G_text hr1 (by rfl) g_text F_text.kp b_text .nil pass0 (pa_cons (pv 3) pa_nil)) pa_nil)) (by rfl))
    (pss_cons (ps_if (PW.pt (pw_or (pt_cmpR op_ne (pe_callTy (OwR.call_strO hu2 stH.f hr3 pass0) (by rfl) n_str (by decide +kernel) (pa_cons (pv 4) pa_nil)) (pv 5) (nomark _)) (pw_or (pt_cmpR (OwR.op_ownNe hu1 eqP hr2 pass0) (ClX.pe_cmeth (pe_glob (v := .ref a.C) rfl h6.gH rfl) h6.rH rdH.m rdH.f hr7 passL (pa_cons (pv 5) pa_nil)) (pv 4) (nomark _)) (pw_or1 (pt_cmpR (OwR.op_ownNe hu1 eqP hr2 pass0) (OwR.pe_cmethK (pe_glob (v := .ref a.C) rfl h6.gH rfl) h6.rH rdH.m rdH.fk hr7 passL (pk_cons (pv 5) pk_nil)) (pv 4) (nomark _)))))) (pss_one (ps_ret pe_bl)) pss_nil)
    (pss_cons (ps_set (i := 6) scLaw.nd rfl (Or.inl rfl) (pe_split (pv 5) pe_str))
    (pss_one (ps_for PassesOwn.never rfl (pi_range1 rfl n_range (pa_cons pe_int pa_nil)) (pg_name (i := 7) scLaw.nd rfl (Or.inl rfl)) (pss_cons (ps_set (i := 6) scLaw.nd rfl (Or.inl rfl) (pe_ifExp (pt_cmpR (op_neD hud) (pv 6) (pe_lst pa_nil) (nomark _)) (pe_call G_bent hr4 (by rfl) g_bent F_bent.kp b_bent .nil pass0 (pa_cons (pv 1) (pa_cons (pv 6) pa_nil))) (pe_lst (pa_cons pe_str pa_nil))))
    (pss_one (ps_if (pt_not (pt_val (pe_call G_rr hr10 (by rfl) g_rr kp_rr b_rr .nil pass0 (pa_cons (pe_join pe_str (pv 6)) pa_nil)))) (pss_one (ps_ret pe_bl)) pss_nil))))))))))
    (pss_cons (ps_set (i := 8) scLaw.nd rfl (Or.inr rfl) (pe_call G_pick hr2 (by rfl) g_pick F_pick.kp b_pick .nil pass0 (pa_cons (pv 1) (pa_cons (pe_lst (pa_cons pe_non (pa_cons pe_int (pa_cons pe_bl (pa_cons (pe_tup (pa_cons pe_str (pa_cons pe_int pa_nil))) (pa_cons (pe_lst (pa_cons pe_str pa_nil)) (pa_cons pe_dnewK (pa_cons (ClX.pe_cmeth (pe_glob (v := .ref a.C) rfl h6.gH rfl) h6.rH h6.mOf h6.of hr7 pass0 (pa_cons (pe_disp (pps_cons pe_str pe_int pps_nil) (by rfl) (by rfl) (fun z => by cases z) (by decide)) pa_nil)) pa_nil)))))))) pa_nil))))
    (pss_cons (ps_if (PW.pt (pw_or (pt_cmpR (op_neD hud) (OwE.pe_lamT (T := T) (k := 7) (q := qLaw) (by rfl) F_heard g_heard b_heard scH rfl (Or.inl rfl) qLaw_eq (fun cdv => heard_gives (hr3) ear) TB rfl memT oneT hr9 (LamX.lamS_by (sc := defScope sLaw) (by decide +kernel)) (fun A outer s H E f c2 hr => (ClX.pe_cmeth (pe_glob (v := .ref a.C) rfl h6.gH rfl) h6.rH rdH.m rdH.f hr (passes_call (takes_of rfl rfl rfl rfl) (fun _ _ _ _ h => h)) (pa_cons (pv 8) pa_nil)))) (pe_tup (pa_cons pe_str (pa_cons pe_int (pa_cons pe_int pa_nil)))) (nomark _)) (pw_or1 (pt_not (pt_val (pe_call G_rr hr10 (by rfl) g_rr kp_rr b_rr .nil pass0 (pa_cons pe_str pa_nil))))))) (pss_one (ps_ret pe_bl)) pss_nil)
    (pss_cons (ps_set (i := 9) scLaw.nd rfl (Or.inl rfl) (pe_lst (pa_cons pe_str (pa_cons pe_str (pa_cons pe_str (pa_cons pe_str (pa_cons pe_str (pa_cons pe_str (pa_cons pe_str (pa_cons pe_str (pa_cons pe_str (pa_cons (pe_op op_add_str pe_str (pe_op OwR.op_mul_str pe_str pe_int)) (pa_cons pe_str pa_nil)))))))))))))
    (pss_one (ps_ret (pe_and (pe_cmpR (OwR.op_eqNil hud) (pe_lc (own := [("_law_line", 5)]) (by rfl) scLaw.nd (pi_list (pv 9)) (blkOk_by (own := [("_law_line", 5)]) (N := nLaw) (sc := defScope sLaw) (by decide +kernel)) (fun _ _ _ _ _ => (pg_name (i := 5) scLaw.nd rfl (Or.inl rfl))) (fun _ _ _ _ _ => pts_one (pt_not (pt_val (pe_call G_rr hr10 (by rfl) g_rr kp_rr b_rr .nil pass0 (pa_cons (pv 5) pa_nil))))) (fun _ _ _ _ _ => (pv 5))) (pe_lst pa_nil) (nomark _)) (pe_one (pe_cmpR op_eq (pe_callTy (OwR.call_strO hu2 stH.f hr3 pass0) (by rfl) n_str (by decide +kernel) (pa_cons (OwR.pe_makeR0 h6.mk0 G_h0 hr5 (by rfl) h6.gH pass0) pa_nil)) pe_str (nomark _))))))))))), ?_⟩
    have sz := sizeLine_eq
    have szl : ∀ n : Nat, n ≤ 30 → n ≤ sizeLine := fun n h => by omega
    refine ⟨_, rfl, x, ns, rfl, hx, hl, fun p c H1 hp0 s1 pn1 => ?_⟩
    have tb1 := tabs_same hT s1
    refine ⟨6, rfl, by decide, by decide, ?_⟩
    refine for_it walk_range (fun i σ Hx => (∃ x2 x3 x4 x5 x6 x7, σ = [some (.ref x), some (.ref p), x2, x3, x4, x5, x6, x7, none, none]) ∧ LamX.Tabs T Hx ∧ ∃ (n : Nat) (z : Int), PenAt Hx p c ns n z ∧ n ≤ 300 * i)
      ⟨⟨_, _, _, _, _, _, rfl⟩, tb1, 0, 0, pn1, Nat.le_refl 0⟩ (fun _ _ _ _ _ => True.intro) (fun i y0 σ Hx Hy hi q0 y => ?_) (fun σ Hx q0 => ?_)
    · obtain ⟨⟨x2, x3, x4, x5, x6, x7, rfl⟩, tb2, n0, z0, pn2, ln0⟩ := q0
      obtain ⟨rfl, rfl⟩ := y
      have hi6 : i < 6 := hi
      refine ⟨_, rfl, p, c, ns, n0, z0, rfl, pn2, by omega, fun ts D n1 z1 H2 tp lt ln1 pn3 b2 nD eD => ?_⟩
      have tb3 := tabs_but tb2 pn2 b2
      refine ⟨rfl, _, rfl, V.ref a.C, D, tabL ts, ts.map (·.1), lookL ts, rfl, eD, tabL_keys ts, by rw [List.length_map]; omega, fun z hz => ?_, tabOf_list ts, fun z v e => ?_, fun r H3 ps nr s3 hA nm vl => ?_⟩
      · obtain ⟨p1, hp1, rfl⟩ := List.mem_map.mp hz
        have g := (tp.ok p1 hp1).1
        exact ⟨g, Nat.le_trans (name_len g) (by decide)⟩
      · exact (tp.ok _ (lookL_at e)).2
      refine ⟨_, rfl, D, ts, rfl, s3 _ _ eD, tp, by omega, fun qs H4 s4 nq sub vq => ?_⟩
      obtain rfl : qs = ps := norm_ext nq nm fun z => by rw [vq z, vl z]
      refine ⟨_, _, rfl, ?_⟩
      have good : ∀ p ∈ qs, GoodN p := fun p hp => ⟨(tp.ok p (sub p hp)).1, nm.pos p hp, (tp.ok p (sub p hp)).2.2⟩
      have lqs : qs.length ≤ 4 := Nat.le_trans (sub_len nm.nd sub) lt
      have pn4 := pn3.same (s3.trans s4)
      have tb4 := tabs_same tb3 (s3.trans s4)
      have hA := hA.same s4
      clear s3 s4 pn3 tb3 b2 eD pn2 tb2 vq vl sub tp
      have okL := house_line good lqs
      have rdL := house_read good nm
      have made : ∀ {H0 : Hp} {Q' : VK} {E' : XK}, Same H4 H0 → (∀ r2 H', Same H0 H' → HAt a.C H' r2 qs → Q' (.ref r2) H') → ReadHouse K a.C CB H0 (.str (houseText qs)) Q' E' := fun {H0 Q' E'} s0 k => by
        refine .inl ⟨_, rfl, okL.len, okL.word, okL.many, okL.ok, ?_⟩
        rw [show Txt.split (houseText qs) (Str.ofString " ") = wordsOf (houseText qs) from rfl, rdL]
        exact fun r2 H' _ s h => k r2 H' s h
      obtain ⟨dxr, fsr, _, _, er, _⟩ := id hA
      refine ⟨_, rfl, r, a.C, dxr, fsr, rfl, er, stH.s, r, qs, rfl, hA, nm, good, by omega, fun H5 s5 => ⟨_, rfl, ?_⟩⟩
      refine ⟨_, rfl, rfl, _, rfl, ?_⟩
      rw [decide_eq_true rfl]
      refine iteF ?_
      refine ⟨rfl, _, rfl, _, rfl, made s5 fun r2 H6 s6 hB => ⟨_, rfl, ne_two h6 hB (hA.same (s5.trans s6)) nm ⟨_, rfl, iteF ?_⟩⟩⟩
      have s46 := s5.trans s6
      refine ⟨rfl, _, rfl, _, rfl, rfl, _, rfl, made s46 fun r3 H7 s7 hB => ⟨_, rfl, ne_two h6 hB (hA.same (s46.trans s7)) nm ⟨_, rfl, iteF ?_⟩⟩⟩
      have s47 := s46.trans s7
      have pn7 := pn4.same s47
      have tb7 := tabs_same tb4 s47
      clear hB hA s46 s5 s6 s7 s47 pn4 tb4 made rdL er
      refine ⟨_, rfl, ⟨_, rfl⟩, _, " ", rfl, rfl, by decide +kernel, by have := okL.len; omega, fun W1 hW => ?_⟩
      have u1 := Same.of_new (o := .lst ((Txt.split (houseText qs) (Str.ofString " ")).map V.str)) hW
      have eW : upd H7 W1 (.lst ((Txt.split (houseText qs) (Str.ofString " ")).map V.str)) W1 = some (.lst ((wordsH qs).map V.str)) := by
        rw [upd_same, show Txt.split (houseText qs) (Str.ofString " ") = wordsOf (houseText qs) from rfl, house_words good]
      have nW : W1 ≠ p := fun e => pn7.some (e ▸ hW)
      refine ⟨3, rfl, by decide, by decide, ?_⟩
      refine for_it walk_range (fun j σ Hx => ∃ (l : Addr) (ws : List Str) (x7 : Option V), σ = [some (.ref x), some (.ref p), some (.int (0 + (i : Nat))), some (.ref D), some (.ref r), some (.str (houseText qs)), some (.ref l), x7, none, none] ∧ LamX.Tabs T Hx ∧ Hx l = some (.lst (ws.map V.str)) ∧ l ≠ p ∧ WsOk ws j ∧ ∃ (n : Nat) (z : Int), PenAt Hx p c ns n z ∧ n ≤ 300 * i + 150 + 40 * j)
        ⟨W1, wordsH qs, _, rfl, tabs_same tb7 u1, eW, nW, house_ws good lqs, n1, z1, pn7.same u1, by omega⟩ (fun _ _ _ _ _ => True.intro) (fun j y0 σ Hx Hy hj q0 y => ?_) (fun σ Hx q0 => ?_)
      · obtain ⟨l, ws, x7, rfl, tb8, el, nl, okw, n2, z2, pn8, ln2⟩ := q0
        obtain ⟨rfl, rfl⟩ := y
        have hj3 : j < 3 := hj
        refine ⟨_, rfl, Nat.zero_le _, fun N hN => ?_⟩
        have s3 := Same.of_new (o := .lst []) hN
        refine ⟨.list (ws.map PyData.str), .list [], .lst (SqL.of (s3 _ _ el)) (OwD.dp_strs _), .lst (SqL.of upd_same) .nil, shaped_strs fun w hw => (okw.ok w hw).1, OwD.shaped_nil, ?_⟩
        have el3 := s3 _ _ el
        have pn9 := pn8.same s3
        have tb9 := tabs_same tb8 s3
        generalize upd Hy N (.lst []) = H8 at *
        refine ⟨_, rfl, ?_⟩
        cases hws : ws with
        | nil =>
          rw [show (!(PyData.list (([] : List Str).map PyData.str)).eqv (PyData.list [])) = false by simp [PyData.eqv, PyData.eqvAll]]
          refine iteF ?_
          refine ⟨szl 1 (by decide), fun l2 hl2 => ?_⟩
          have s4 := Same.of_new (o := .lst [.str ""]) hl2
          have e4 : upd H8 l2 (.lst [.str ""]) l2 = some (.lst ([("" : Str)].map V.str)) := upd_same
          have ok4 : WsOk [("" : Str)] (j + 1) := ⟨by show 1 ≤ 8 + (j + 1); omega, fun w hw => by rw [List.mem_singleton.mp hw]; exact GoodW.zero ⟨by decide +kernel, by decide +kernel, by decide +kernel⟩⟩
          have nl2 : l2 ≠ p := fun e => pn9.some (e ▸ hl2)
          have pn10 := pn9.same s4
          have tb10 := tabs_same tb9 s4
          refine ⟨⟨_, rfl⟩, _, rfl, _, l2, [("" : Str)], rfl, rfl, .inl (SqL.of e4), ok4.fits (by omega), ?_⟩
          refine ⟨_, rfl, ok4.line (by omega), tb10, fun H11 ex tb11 => ⟨_, rfl, ?_⟩⟩
          refine iteF ?_
          refine ⟨l2, [("" : Str)], _, rfl, tb11, ext_tabs_pen ex e4, nl2, ok4, n2, z2, pn10.ext ex, by omega⟩
        | cons w0 r0 =>
          rw [← hws]
          have e0 : (!(PyData.list (ws.map PyData.str)).eqv (PyData.list [])) = true := by
            rw [hws]
            simp [PyData.eqv, PyData.eqvAll]
          rw [e0]
          refine iteT ?_
          refine ⟨_, rfl, _, rfl, p, c, l, ns, n2, z2, ws, j, rfl, pn9, by omega, el3, nl, okw, by omega, fun l2 ws2 n3 z3 H10 ok4 ln3 pn10 b10 nl2 e4 => ?_⟩
          have tb10 := tabs_but tb9 pn9 b10
          refine ⟨⟨_, rfl⟩, _, rfl, _, l2, ws2, rfl, rfl, .inl (SqL.of e4), ok4.fits (by omega), ?_⟩
          refine ⟨_, rfl, ok4.line (by omega), tb10, fun H11 ex tb11 => ⟨_, rfl, ?_⟩⟩
          refine iteF ?_
          refine ⟨l2, ws2, _, rfl, tb11, ext_tabs_pen ex e4, nl2, ok4, n3, z3, pn10.ext ex, by omega⟩
      · obtain ⟨l, ws, x7, rfl, tb8, el, nl, okw, n2, z2, pn8, ln2⟩ := q0
        exact ⟨⟨_, _, _, _, _, _, rfl⟩, tb8, n2, z2, pn8, by omega⟩
    · obtain ⟨⟨x2, x3, x4, x5, x6, x7, rfl⟩, tb2, n0, z0, pn2, ln0⟩ := q0
      refine ⟨_, rfl, szl 2 (by decide), fun k1 hk1 => ⟨szl 1 (by decide), fun k2 hk2 k3 hk3 => ⟨rfl, ?_⟩⟩⟩
      have u1 := Same.of_new (o := .tup [.str "s", .int 1]) hk1
      have u2 := Same.of_new (o := .lst [.str "s 1"]) hk2
      have u3 := Same.of_new (o := .dK []) hk3
      intro k4 hk4
      have u4 := Same.of_new (o := .dK []) hk4
      refine ⟨upd_same, [(Sum.inr "s", .int 1)], rfl, by decide, ?_⟩
      have em : mergeK ([] : List (Key × V)) [(Sum.inr ("s" : Str), V.int 1)] = tabL [("s", 1)] := by decide +kernel
      rw [em]
      have g1 : ∀ p ∈ [(("s" : Str), (1 : Int))], GoodN p := fun p hp => by
        rw [List.mem_singleton.mp hp]
        exact ⟨by decide +kernel, by decide, by decide +kernel⟩
      have u123 := (u1.trans u2).trans u3
      have u5 : Same Hx (upd (upd (upd (upd (upd Hx k1 (.tup [.str "s", .int 1])) k2 (.lst [.str "s 1"])) k3 (.dK [])) k4 (.dK [])) k4 (.dK (tabL [("s", 1)]))) := fun b o e => by
        have e3 := u123 _ _ e
        rw [upd_ne (ne_of_none e3 hk4), upd_ne (ne_of_none e3 hk4)]
        exact e3
      have w1 : upd (upd (upd (upd (upd Hx k1 (.tup [.str "s", .int 1])) k2 (.lst [.str "s 1"])) k3 (.dK [])) k4 (.dK [])) k4 (.dK (tabL [("s", 1)])) k1 = some (.tup [.str "s", .int 1]) := by
        have e3 := (u2.trans u3) _ _ (upd_same (H := Hx) (a := k1) (o := .tup [.str "s", .int 1]))
        rw [upd_ne (ne_of_none e3 hk4), upd_ne (ne_of_none e3 hk4)]
        exact e3
      have w2 : upd (upd (upd (upd (upd Hx k1 (.tup [.str "s", .int 1])) k2 (.lst [.str "s 1"])) k3 (.dK [])) k4 (.dK [])) k4 (.dK (tabL [("s", 1)])) k2 = some (.lst [.str "s 1"]) := by
        have e3 := u3 _ _ (upd_same (H := upd Hx k1 (.tup [.str "s", .int 1])) (a := k2) (o := .lst [.str "s 1"]))
        rw [upd_ne (ne_of_none e3 hk4), upd_ne (ne_of_none e3 hk4)]
        exact e3
      have w3 : upd (upd (upd (upd (upd Hx k1 (.tup [.str "s", .int 1])) k2 (.lst [.str "s 1"])) k3 (.dK [])) k4 (.dK [])) k4 (.dK (tabL [("s", 1)])) k3 = some (.dK []) := by
        have e3 := upd_same (H := upd (upd Hx k1 (.tup [.str "s", .int 1])) k2 (.lst [.str "s 1"])) (a := k3) (o := .dK [])
        rw [upd_ne (ne_of_none e3 hk4), upd_ne (ne_of_none e3 hk4)]
        exact e3
      have w4 : upd (upd (upd (upd (upd Hx k1 (.tup [.str "s", .int 1])) k2 (.lst [.str "s 1"])) k3 (.dK [])) k4 (.dK [])) k4 (.dK (tabL [("s", 1)])) k4 = some (.dK (tabL [("s", 1)])) := upd_same
      generalize upd (upd (upd (upd (upd Hx k1 (.tup [.str "s", .int 1])) k2 (.lst [.str "s 1"])) k3 (.dK [])) k4 (.dK [])) k4 (.dK (tabL [("s", 1)])) = H3 at u5 w1 w2 w3 w4 ⊢
      have pn3 := pn2.same u5
      have tb3 := tabs_same tb2 u5
      refine ⟨V.ref a.C, k4, tabL [("s", 1)], ["s"], lookL [("s", 1)], rfl, w4, rfl, by decide, ofA g1, tabOf_list _, ofB g1, fun r4 H5 ps4 nr4 s5 hA4 _ _ => ?_⟩
      have pn5 := pn3.same s5
      have tb5 := tabs_same tb3 s5
      have w1 := s5 _ _ w1
      have w2 := s5 _ _ w2
      have w3 := s5 _ _ w3
      refine ⟨szl 7 (by decide), fun L hL => ?_⟩
      have uL := Same.of_new (o := .lst [.non, .int 3, .bl true, .ref k1, .ref k2, .ref k3, .ref r4]) hL
      have nL : L ≠ p := fun e => pn5.some (e ▸ hL)
      have pn6 := pn5.same uL
      have tb6 := tabs_same tb5 uL
      refine ⟨p, c, L, ns, n0, z0, [.non, .int 3, .bl true, .ref k1, .ref k2, .ref k3, .ref r4], rfl, pn6, by omega, nL, SqL.of upd_same, by show (0 : Nat) < 7; decide, by show (7 : Nat) < 1000; decide, fun y n7 z7 H7 hy hn7 pn7 s7 => ?_⟩
      have odd : OddT a.C H7 y := by
        refine OddT.lo (P := pn6) (s := s7.lo) ?_
        obtain ⟨dxr, fsr, _, _, er, _⟩ := hA4
        simp only [List.mem_cons, List.not_mem_nil, or_false] at hy
        rcases hy with rfl | rfl | rfl | rfl | rfl | rfl | rfl
        · exact .non
        · exact .int 3
        · exact .bl true
        · exact .tup (uL _ _ w1)
        · exact .lst (uL _ _ w2)
        · exact .dic (uL _ _ w3)
        · exact .obj (uL _ _ er)
      have tb7 := tabs_but tb6 pn6 s7
      clear w1 w2 w3 w4 u1 u2 u3 u4 u5 u123 hk1 hk2 hk3 hk4 hL uL s7 hy hA4 pn6 tb6 pn5 tb5 pn3 tb3
      refine ⟨tb7, fun H8 eN tb8 H9 E' Q' s9 hE hR => ?_⟩
      refine ⟨rfl, _, rfl, y, rfl, .inr ⟨fun H' s => ((odd.lo pn7 (extN_lo p eN)).same (s9.trans s)).noStr h6.k noS, fun H' d s nd => hE _ _ _ ⟨d, 0, rfl, rfl, upd_same, fun t H10 s10 et => ?_⟩⟩⟩
      have tb10 := tabs_same tb8 ((s9.trans (s.trans (Same.of_new nd))).trans s10)
      refine ⟨szl 3 (by decide), fun t2 ht2 => ?_⟩
      have s11 := Same.of_new (o := .tup [.str "text", .int 0, .int 0]) ht2
      refine ⟨.tuple [.str "text", .int 0, .int (0 : Nat)], .tuple [.str "text", .int 0, .int (0 : Nat)], .tup (SqT.of (s11 _ _ et)) (.cons (.str _) (.cons (.int _) (.cons (.int _) .nil))), .tup (SqT.of upd_same) (.cons (.str _) (.cons (.int _) (.cons (.int _) .nil))), text3_sh 0, text3_sh 0, ?_⟩
      refine ⟨_, rfl, ?_⟩
      rw [SeqAt.eqv_refl _ (SeqAt.canLay_of_shaped (text3_sh 0))]
      refine iteF ?_
      have tb11 := tabs_same tb10 s11
      refine ⟨_, rfl, odd_line, tb11, fun H12 _ tb12 => ⟨_, rfl, ?_⟩⟩
      refine iteF ?_
      clear tb7 tb8 tb10 tb11 s9 s10 s11 et ht2 odd pn7 eN hE hR nd s
      refine ⟨"9", 61, rfl, rfl, by decide, by decide, by decide +kernel, by decide +kernel, _, _, rfl, rfl, by decide +kernel, szl 11 (by decide), fun R hR => ?_⟩
      have uR := Same.of_new (o := .lst (rowsW.map V.str)) hR
      have tb13 := tabs_same tb12 uR
      have eR : upd H12 R (.lst (rowsW.map V.str)) R = some (.lst (rowsW.map V.str)) := upd_same
      clear hR tb12
      refine ⟨_, rfl, R, rfl, ⟨_, SqL.of eR⟩, fun D hD => ?_⟩
      have nRD : R ≠ D := ne_of_none eR hD
      have uD := Same.of_new (o := .lst []) hD
      refine lc_it (walk_list (xs := rowsW.map V.str)) (fun i Hx => LamX.Tabs T Hx ∧ Hx R = some (.lst (rowsW.map V.str)) ∧ Hx D = some (.lst [])) ⟨tabs_same tb13 uD, uD _ _ eR, upd_same⟩ (fun i Hx _ q => SqL.of q.2.1) (fun i x Hx Hy hi q0 y => ?_) (fun Hx q0 => ?_)
      · obtain ⟨tb14, eR14, eD14⟩ := q0
        obtain ⟨rfl, hx⟩ := y
        rw [List.getElem?_map] at hx
        obtain ⟨z, hz, rfl⟩ := Option.map_eq_some_iff.mp hx
        refine ⟨rfl, ?_⟩
        refine ⟨_, rfl, z, rfl, rows_ok z (List.mem_of_getElem? hz), tb14, fun H15 ex tb15 => ⟨_, rfl, ?_⟩⟩
        refine iteF ?_
        exact ⟨tb15, ext_tabs_pen ex eR14, ext_tabs_pen ex eD14⟩
      · obtain ⟨tb14, eR14, eD14⟩ := q0
        refine ⟨Nat.zero_le _, fun N hN => ?_⟩
        have sN := Same.of_new (o := .lst []) hN
        refine ⟨D, N, [], rfl, rfl, SqL.of (sN _ _ eD14), SqL.of upd_same, ?_⟩
        refine ⟨_, rfl, ?_⟩
        refine iteT ?_
        refine fun z dz h1 h2 nd => ⟨z, dz, rfl, upd_same, fun H16 b hA => ⟨rfl, ?_⟩⟩
        obtain ⟨dxr, fsr, _, _, er, _⟩ := id hA
        refine ⟨z, a.C, dxr, fsr, rfl, er, stH.s, z, [], rfl, hA, ⟨List.Pairwise.nil, List.nodup_nil, fun p h => (by cases h)⟩, fun p h => (by cases h), by decide, fun H17 s17 => ⟨_, rfl, rfl, ?_⟩⟩
        rw [show decide (V.str (houseText []) = V.str (Str.ofString "none")) = true from decide_eq_true (by rfl)]
        exact q _
end
end K10
end
section
/-! Houses: the facts of the top. -/
namespace K10
open PySem PySem.Spec PyProof.Rows L2
/-- where the parts of houses stand, read off the class -/
def hAd (K : PySem.W.Frag) : HAd where
  C := OwH.ga K "House"
  f0 := OwH.mo K "House" "__init__"
  fAt := OwH.mo K "House" "__getitem__"
  fI := OwH.mo K "House" "__iter__"
  fL := OwH.mo K "House" "__len__"
  fAdd := OwH.mo K "House" "__add__"
  fSub := OwH.mo K "House" "__sub__"
  fAnd := OwH.mo K "House" "__and__"
  fOr := OwH.mo K "House" "__or__"
  fEq := OwH.mo K "House" "__eq__"
  fLe := OwH.mo K "House" "__le__"
  fLt := OwH.mo K "House" "__lt__"
  fGe := OwH.mo K "House" "__ge__"
  fGt := OwH.mo K "House" "__gt__"
  pOf := OwH.mo K "House" "of"
  fOf := OwH.inRec K (OwH.mo K "House" "of") "classmethod"
def fH1 (K : PySem.W.Frag) : Bool := (He.Fa.cls "House").ok K && ((He.Fa.noat "House" "_numbers").ok K && ((He.Fa.noat "House" "_bays").ok K && (OwH.fIsC "House" K && (OwH.fKit "House" "House" true K && PySem.W.notFirst K (hAd K).C (.ref (hAd K).C)))))
def fH2 (K : PySem.W.Frag) : Bool := OwH.hasF K (.ref (hAd K).C) "__iter__" (hAd K).fI && (OwH.hasF K (.ref (hAd K).C) "__len__" (hAd K).fL && (OwH.fBin .Add K (hAd K).C (hAd K).fAdd && (OwH.fBin .Sub K (hAd K).C (hAd K).fSub && (OwH.fBin .BitAnd K (hAd K).C (hAd K).fAnd && OwH.fBin .BitOr K (hAd K).C (hAd K).fOr))))
def fH3 (K : PySem.W.Frag) : Bool := OwH.hasF K (.ref (hAd K).C) "__eq__" (hAd K).fEq && (OwH.fNe "House" K && (OwH.hasF K (.ref (hAd K).C) "__le__" (hAd K).fLe && (OwH.hasF K (.ref (hAd K).C) "__lt__" (hAd K).fLt && (OwH.hasF K (.ref (hAd K).C) "__ge__" (hAd K).fGe && (OwH.hasF K (.ref (hAd K).C) "__gt__" (hAd K).fGt &&
  (OwR.noIn K (hAd K).C (dunderI Operator.Add.info.2) && OwR.noIn K (hAd K).C (dunderI Operator.BitOr.info.2)))))))
/-- what the defs of houses are -/
structure HDefs (K : PySem.W.Frag) (mg : Str → Option Value) (a : HAd) : Prop where
  mk0 : Mk K a.C a.f0
  d0 : ∃ fd, Fun K "__init__" "House.__init__" sHouse0 a.f0 fd
  wit : ∃ f fd, mg "house_with" = some (.ref f) ∧ Fun K "house_with" "house_with" sWith f fd
  rH : ClX.CRead K a.C (.type "type")
  mOf : ClX.CMet K a.C (.type "type") "of" a.pOf a.fOf
  dOf : ∃ fd, Fun K "of" "House.of" sHouseOf a.fOf fd
  spc : OwR.Spc K a.C a.fAt "__getitem__"
  dAt : ∃ fd, Fun K "__getitem__" "House.__getitem__" sHouseAt a.fAt fd
  dI : ∃ fd, Fun K "__iter__" "House.__iter__" sHIter a.fI fd
  dL : ∃ fd, Fun K "__len__" "House.__len__" sHLen a.fL fd
  bo : ∃ f fd, mg "bays_of" = some (.ref f) ∧ Fun K "bays_of" "bays_of" sBaysOf f fd
  dAdd : ∃ fd, Fun K "__add__" "House.__add__" sHAdd a.fAdd fd
  dSub : ∃ fd, Fun K "__sub__" "House.__sub__" sHSub a.fSub fd
  dAnd : ∃ fd, Fun K "__and__" "House.__and__" sHAnd a.fAnd fd
  dOr : ∃ fd, Fun K "__or__" "House.__or__" sHOr a.fOr fd
  dEq : ∃ fd, Fun K "__eq__" "House.__eq__" sHEq a.fEq fd
  dLe : ∃ fd, Fun K "__le__" "House.__le__" sHLe a.fLe fd
  dLt : ∃ fd, Fun K "__lt__" "House.__lt__" sHLt a.fLt fd
  dGe : ∃ fd, Fun K "__ge__" "House.__ge__" sHGe a.fGe fd
  dGt : ∃ fd, Fun K "__gt__" "House.__gt__" sHGt a.fGt fd
theorem house_ok {P : Program} {w : World} {K : PySem.W.Frag} {mg : Str → Option Value} {base : Heap} (chk : HChk P w K mg base) (n_dict : mg "dict" = none) (n_list : mg "list" = none) (n_iter : mg "iter" = none) (gH : mg "House" = some (.ref (hAd K).C)) (h1 : fH1 K = true) (h2 : fH2 K = true) (h3 : fH3 K = true) (D : HDefs K mg (hAd K)) : HHF P w K mg base (hAd K) := by
  obtain ⟨a1, h⟩ := OwH.two h1
  obtain ⟨a2, h⟩ := OwH.two h
  obtain ⟨a3, h⟩ := OwH.two h
  obtain ⟨a4, h⟩ := OwH.two h
  obtain ⟨a5, a6⟩ := OwH.two h
  obtain ⟨b1, h⟩ := OwH.two h2
  obtain ⟨b2, h⟩ := OwH.two h
  obtain ⟨b3, h⟩ := OwH.two h
  obtain ⟨b4, h⟩ := OwH.two h
  obtain ⟨b5, b6⟩ := OwH.two h
  obtain ⟨c1, h⟩ := OwH.two h3
  obtain ⟨c2, h⟩ := OwH.two h
  obtain ⟨c3, h⟩ := OwH.two h
  obtain ⟨c4, h⟩ := OwH.two h
  obtain ⟨c5, h⟩ := OwH.two h
  obtain ⟨c6, h⟩ := OwH.two h
  obtain ⟨c7, c8⟩ := OwH.two h
  obtain ⟨e1, e2, e3, e4⟩ := OwH.isC_ok a4
  have hc : HouseC K (hAd K).C := ⟨He.cls_ok a1, He.noat_ok a2, He.noat_ok a3⟩
  obtain ⟨mk0, d0, wit, rH, mOf, dOf, spc, dAt, dI, dL, bo, dAdd, dSub, dAnd, dOr, dEq, dLe, dLt, dGe, dGt⟩ := D
  exact {
    chk := chk, n_dict := n_dict, n_list := n_list, n_iter := n_iter
    k := ⟨hc, e1, e2, e3, e4, of_decide_eq_true a5⟩
    n2 := hc.n2, gH := gH, own := a6, mk0 := mk0, d0 := d0, wit := wit, rH := rH, mOf := mOf, dOf := dOf, spc := spc, dAt := dAt
    it := ⟨hc.cls, hc.n2, (OwH.hasF_ok b1).1, (OwH.hasF_ok b1).2⟩
    dI := dI
    ln := ⟨(OwH.hasF_ok b2).1, (OwH.hasF_ok b2).2⟩
    dL := dL, bo := bo
    cAdd := OwH.fBin_ok b3, cSub := OwH.fBin_ok b4, cAnd := OwH.fBin_ok b5, cOr := OwH.fBin_ok b6
    dAdd := dAdd, dSub := dSub, dAnd := dAnd, dOr := dOr
    cEq := ⟨(OwH.hasF_ok c1).1, (OwH.hasF_ok c1).2⟩
    cNe := ⟨(OwH.hasF_ok c1).1, (OwH.hasF_ok c1).2, OwH.ne_ok c2, e4⟩
    cLe := ⟨(OwH.hasF_ok c3).1, (OwH.hasF_ok c3).2⟩
    cLt := ⟨(OwH.hasF_ok c4).1, (OwH.hasF_ok c4).2⟩
    cGe := ⟨(OwH.hasF_ok c5).1, (OwH.hasF_ok c5).2⟩
    cGt := ⟨(OwH.hasF_ok c6).1, (OwH.hasF_ok c6).2⟩
    iAdd := c7, iOr := c8
    dEq := dEq, dLe := dLe, dLt := dLt, dGe := dGe, dGt := dGt }
end K10
end
section
namespace K10
open PySem PySem.Spec PyProof.Rows L2
/-- where words stand -/
structure WAd where
  (C CB CX fBT fWI fMo fPk fCk fSt fTw fTn fEn fNu fAl pR gR fS : Addr)
/-- all that the law wants of what stands behind the top -/
structure Facts (P : Program) (w : World) (K : PySem.W.Frag) (mg : Str → Option Value) (base : Heap) (a : HAd) (b : WAd) : Prop where
  R : HHF P w K mg base a
  ear : EarC K mg b.CB b.CX
  nm : Nm mg
  n_range : mg "range" = none
  n_sorted : mg "sorted" = none
  W : WC K b.C b.fMo b.fPk b.fCk b.fSt b.fTw b.fTn b.fEn
  m_nu : Meth K b.C "take_number" b.fNu
  m_al : Meth K b.C "alone" b.fAl
  MW : Mk K b.C b.fWI
  gW : mg "Words" = some (.ref b.C)
  TK : ErrT K mg "BadText" b.CB b.fBT
  dBT : ∃ fd, Fun K "__init__" "BadText.__init__" sBadText0 b.fBT fd
  dMo : ∃ fd, Fun K "more" "Words.more" sWMore b.fMo fd
  dPk : ∃ fd, Fun K "peek" "Words.peek" sWPeek b.fPk fd
  dCk : ∃ fd, Fun K "check" "Words.check" sWCheck b.fCk fd
  dSt : ∃ fd, Fun K "step" "Words.step" sWStep b.fSt fd
  dEn : ∃ fd, Fun K "end" "Words.end" sWEnd b.fEn fd
  dAl : ∃ fd, Fun K "alone" "Words.alone" sAl b.fAl fd
  dTn : ∃ fd, FunD K "take_name" "Words.take_name" (defArgs sWTn) (defBody sWTn) (defScope sWTn) [.str ""] [] b.fTn fd
  dNu : ∃ fd, FunD K "take_number" "Words.take_number" (defArgs sWNu) (defBody sWNu) (defScope sWNu) [.non] [] b.fNu fd
  dWI : ∃ fd, FunD K "__init__" "Words.__init__" (defArgs sWInit) (defBody sWInit) (defScope sWInit) [.int 0] [] b.fWI fd
  mR : ClX.CMet K a.C (.type "type") "read" b.pR b.gR
  dR : ∃ fd, Fun K "read" "House.read" sHRead b.gR fd
  sS : OwR.Str1 K a.C b.fS
  dS : ∃ fd, Fun K "__str__" "House.__str__" sHStr b.fS fd
  noS : PySem.W.kitOne K (.ref a.C) (.type "str") = some false
  num : ∃ f fd, mg "number_of" = some (.ref f) ∧ Fun K "number_of" "number_of" sWNum f fd
  pl : ∃ f fd, mg "places_from" = some (.ref f) ∧ Fun K "places_from" "places_from" sPl f fd
  pen : ∃ f fd, mg "_law_pen" = some (.ref f) ∧ Fun K "_law_pen" "_law_pen" sPen f fd
  draw : ∃ f fd, mg "_law_draw" = some (.ref f) ∧ Fun K "_law_draw" "_law_draw" sDraw f fd
  pick : ∃ f fd, mg "_law_pick" = some (.ref f) ∧ Fun K "_law_pick" "_law_pick" sPick f fd
  word : ∃ f fd, mg "_law_word" = some (.ref f) ∧ Fun K "_law_word" "_law_word" sWord f fd
  heard : ∃ f fd, mg "_law_heard" = some (.ref f) ∧ Fun K "_law_heard" "_law_heard" sHeard f fd
  table : ∃ f fd, mg "_law_table" = some (.ref f) ∧ Fun K "_law_table" "_law_table" sTb f fd
  text : ∃ f fd, mg "_law_text" = some (.ref f) ∧ Fun K "_law_text" "_law_text" sTx f fd
  bent : ∃ f fd, mg "_law_bent" = some (.ref f) ∧ Fun K "_law_bent" "_law_bent" sBe f fd
  isn : ∃ f fd, mg "_law_is_name" = some (.ref f) ∧ Fun K "_law_is_name" "_law_is_name" sIn6 f fd
  isd : ∃ f fd, mg "_law_is_number" = some (.ref f) ∧ Fun K "_law_is_number" "_law_is_number" sIm6 f fd
  due : ∃ f fd, mg "_law_due" = some (.ref f) ∧ Fun K "_law_due" "_law_due" sDu f fd
/-- a def that holds lambdas: its code, its table -/
structure Lam1 (K : PySem.W.Frag) (mg : Str → Option Value) (base : Heap) (T : List (Addr × Str)) (x : Str) (st : Stmt) (q : Str) (f c0 Pt : Addr) (oc kV doc pm ct : Value) (od an : Option Addr) (osl : Array (Option Value)) : Prop where
  g : mg x = some (.ref f)
  kp : PySem.W.keepIn K (.ref f) = true
  lk : K.lookup f = some ⟨oc, od, .func (PySem.W.fnOf x x (defArgs st) (defBody st) (defScope st) .none kV doc pm an (.ref c0) ct), osl⟩
  hc : PySem.W.codeIn K (.ref c0) x = true
  tb : LamX.TabB base mg c0 Pt
  mem : (Pt, q) ∈ T
  one : ∀ p ∈ T, p.1 = Pt → p.2 = q
section
variable {P : Program} {w : World} {K : PySem.W.Frag} {mg : Str → Option Value} {base : Heap}
theorem ok_all {a : HAd} {b : WAd} {T : List (Addr × Str)} (Fa : Facts P w K mg base a b)
    {f1 c1 P1 f2 c2 P2 : Addr} {oc1 kV1 doc1 pm1 ct1 oc2 kV2 doc2 pm2 ct2 : Value} {od1 an1 od2 an2 : Option Addr} {osl1 osl2 : Array (Option Value)}
    (L1 : Lam1 K mg base T "_law_read_right" sRR qRR f1 c1 P1 oc1 kV1 doc1 pm1 ct1 od1 an1 osl1) (L2' : Lam1 K mg base T "law" sLaw qLaw f2 c2 P2 oc2 kV2 doc2 pm2 ct2 od2 an2 osl2) :
    OwR.FnG P w K mg base CX0 12 f2 (PySem.W.fnOf "law" "law" (defArgs sLaw) (defBody sLaw) (defScope sLaw) .none kV2 doc2 pm2 an2 (.ref c2) ct2) ["_law_script"] (spLaw K T) := by
  have R := Fa.R
  have W := Fa.W
  obtain ⟨fN, fdN, gN, FN⟩ := R.chk.chk.nm
  obtain ⟨_, FBT⟩ := Fa.dBT
  obtain ⟨_, FMo⟩ := Fa.dMo
  obtain ⟨_, FPk⟩ := Fa.dPk
  obtain ⟨_, FCk⟩ := Fa.dCk
  obtain ⟨_, FSt⟩ := Fa.dSt
  obtain ⟨_, FEn⟩ := Fa.dEn
  obtain ⟨_, FAl⟩ := Fa.dAl
  obtain ⟨_, FTn⟩ := Fa.dTn
  obtain ⟨_, FNu⟩ := Fa.dNu
  obtain ⟨_, FWI⟩ := Fa.dWI
  obtain ⟨_, FR⟩ := Fa.dR
  obtain ⟨_, FS⟩ := Fa.dS
  obtain ⟨_, _, g_num, F_num⟩ := Fa.num
  obtain ⟨_, _, g_pl, F_pl⟩ := Fa.pl
  obtain ⟨_, _, g_pen, F_pen⟩ := Fa.pen
  obtain ⟨_, _, g_draw, F_draw⟩ := Fa.draw
  obtain ⟨_, _, g_pick, F_pick⟩ := Fa.pick
  obtain ⟨_, _, g_word, F_word⟩ := Fa.word
  obtain ⟨_, _, g_heard, F_heard⟩ := Fa.heard
  obtain ⟨_, _, g_table, F_table⟩ := Fa.table
  obtain ⟨_, _, g_text, F_text⟩ := Fa.text
  obtain ⟨_, _, g_bent, F_bent⟩ := Fa.bent
  obtain ⟨_, _, g_isn, F_isn⟩ := Fa.isn
  obtain ⟨_, _, g_isd, F_isd⟩ := Fa.isd
  obtain ⟨_, _, g_due, F_due⟩ := Fa.due
  have n_len := R.chk.chk.T.n_len
  have n_int := R.chk.chk.T.n_int
  have G_more := ok_WMore (P := P) (w := w) (mg := mg) (base := base) W FMo n_len
  have G_peek := ok_WPeek (P := P) (w := w) (mg := mg) (base := base) W FPk FMo n_len
  have G_check := ok_WCheck (P := P) (w := w) (base := base) W FCk Fa.TK Fa.ear.v1 Fa.ear.v2 FBT
  have G_step := ok_WStep (P := P) (w := w) (mg := mg) (base := base) W FSt FPk G_peek
  have WW : WF P w K mg base b.C b.CB b.fMo b.fPk b.fCk b.fSt b.fTw b.fTn b.fEn := {
    W := W
    g_more := ⟨_, G_more, FMo.binds fun _ _ _ _ _ _ us hl => match us, hl with | [_], _ => rfl⟩
    g_peek := ⟨_, G_peek, FPk.binds fun _ _ _ _ _ _ us hl => match us, hl with | [_], _ => rfl⟩
    g_step := ⟨_, G_step, FSt.binds fun _ _ _ _ _ _ us hl => match us, hl with | [_], _ => rfl⟩
    g_tn := by
      obtain ⟨ds, d1, d2⟩ := tn_binds FTn
      exact ⟨_, ds, ok_WTn W FTn FPk G_peek FCk G_check FSt G_step FN gN R.chk.chk.T, d2, d1, tn2_binds FTn⟩
    g_en := ⟨_, ok_WEnd W FEn FMo n_len FCk G_check, FEn.binds fun _ _ _ _ _ _ us hl => match us, hl with | [_], _ => rfl⟩ }
  have WH : WFH P w K mg base b.C b.CB b.fMo b.fPk b.fCk b.fSt b.fTw b.fTn b.fEn b.fNu b.fAl := {
    f := WW
    m_nu := Fa.m_nu
    g_nu := by
      obtain ⟨ds, d1, d2⟩ := nu1_binds FNu
      exact ⟨_, ds, ok_WNu W FNu FPk G_peek FCk G_check FSt G_step F_num g_num n_len n_int, d2, d1⟩
    m_al := Fa.m_al
    g_al := ⟨_, ok_Al W FAl, FAl.binds fun _ _ _ _ _ _ us hl => match us, hl with | [_, _], _ => rfl⟩ }
  have G_init := ok_WI (P := P) (w := w) (base := base) W FWI Fa.TK Fa.ear.v1 Fa.ear.v2 FBT R.chk.chk.T
  obtain ⟨dsI, d_init, b_init⟩ := FWI.binds1 (ps := ["self", "text", "line"]) 2 0 (by simp) rfl fun T kV doc pm an cdv ct us its hu hi => match us, its, hu, hi with | [_, _], [_], _, _ => ⟨_, rfl, rfl⟩
  have G_pl := ok_Pl (P := P) (w := w) (base := base) F_pl WH
  obtain ⟨_, d0⟩ := R.d0
  obtain ⟨fW, fdW, gWi, dW⟩ := R.wit
  have G_with := ok_with2 (P := P) (w := w) (base := base) R.k.hc d0 R.mk0 R.gH dW R.chk
  have hR := rd_H FR (ok_HR Fa.MW Fa.gW FR G_init b_init d_init F_pl g_pl G_pl dW gWi G_with)
  have rdH : RdH P w K mg base a.C b.CB b.pR b.gR := ⟨Fa.mR, hR.1, hR.2⟩
  have stH : StH P w K mg base a.C b.fS := ⟨Fa.sS, ok_HS R.k.hc FS⟩
  exact ok_law L2'.lk L2'.hc R Fa.ear rdH stH Fa.nm F_heard g_heard F_draw g_draw F_pick g_pick F_pen g_pen F_word g_word F_table g_table F_text g_text F_bent g_bent
    (ok_RR L1.lk L1.hc R Fa.ear rdH stH F_heard g_heard F_due g_due F_isn g_isn F_isd g_isd Fa.n_range n_int L1.tb L1.mem L1.one) L1.kp L1.g (fun s us _ hl => match us, hl with | [_], _ => .of_eq rfl) Fa.n_range Fa.n_sorted Fa.noS L2'.tb L2'.mem L2'.one
end
end K10
end
section
namespace K10
open PySem PySem.Spec PyProof.Rows L2
def theDefs : List OwH.DX :=
  [⟨fun K => OwH.ga K "is_name", "is_name", "is_name", sName, []⟩,
   ⟨fun K => OwH.ga K "is_within", "is_within", "is_within", sWithin, []⟩,
   ⟨fun K => OwH.ga K "is_number", "is_number", "is_number", sNumber, []⟩,
   ⟨fun K => OwH.ga K "ascending", "ascending", "ascending", sAsc, []⟩,
   ⟨fun K => OwH.ga K "numbers_told", "numbers_told", "numbers_told", sTold, []⟩,
   ⟨fun K => OwH.ga K "house_with", "house_with", "house_with", sWith, []⟩,
   ⟨fun K => OwH.ga K "bays_of", "bays_of", "bays_of", sBaysOf, []⟩,
   ⟨fun K => OwH.ga K "number_of", "number_of", "number_of", sWNum, []⟩,
   ⟨fun K => OwH.ga K "places_from", "places_from", "places_from", sPl, []⟩,
   ⟨fun K => OwH.ga K "_law_pen", "_law_pen", "_law_pen", sPen, []⟩,
   ⟨fun K => OwH.ga K "_law_draw", "_law_draw", "_law_draw", sDraw, []⟩,
   ⟨fun K => OwH.ga K "_law_pick", "_law_pick", "_law_pick", sPick, []⟩,
   ⟨fun K => OwH.ga K "_law_word", "_law_word", "_law_word", sWord, []⟩,
   ⟨fun K => OwH.ga K "_law_heard", "_law_heard", "_law_heard", sHeard, []⟩,
   ⟨fun K => OwH.ga K "_law_table", "_law_table", "_law_table", sTb, []⟩,
   ⟨fun K => OwH.ga K "_law_text", "_law_text", "_law_text", sTx, []⟩,
   ⟨fun K => OwH.ga K "_law_bent", "_law_bent", "_law_bent", sBe, []⟩,
   ⟨fun K => OwH.ga K "_law_is_name", "_law_is_name", "_law_is_name", sIn6, []⟩,
   ⟨fun K => OwH.ga K "_law_is_number", "_law_is_number", "_law_is_number", sIm6, []⟩,
   ⟨fun K => OwH.ga K "_law_due", "_law_due", "_law_due", sDu, []⟩,
   ⟨fun K => OwH.ga K "_law_read_right", "_law_read_right", "_law_read_right", sRR, []⟩,
   ⟨fun K => OwH.ga K "law", "law", "law", sLaw, []⟩,
   ⟨fun K => OwH.mo K "House" "__init__", "__init__", "House.__init__", sHouse0, []⟩,
   ⟨fun K => OwH.inRec K (OwH.mo K "House" "of") "classmethod", "of", "House.of", sHouseOf, []⟩,
   ⟨fun K => OwH.mo K "House" "__getitem__", "__getitem__", "House.__getitem__", sHouseAt, []⟩,
   ⟨fun K => OwH.mo K "House" "__iter__", "__iter__", "House.__iter__", sHIter, []⟩,
   ⟨fun K => OwH.mo K "House" "__len__", "__len__", "House.__len__", sHLen, []⟩,
   ⟨fun K => OwH.mo K "House" "__add__", "__add__", "House.__add__", sHAdd, []⟩,
   ⟨fun K => OwH.mo K "House" "__sub__", "__sub__", "House.__sub__", sHSub, []⟩,
   ⟨fun K => OwH.mo K "House" "__and__", "__and__", "House.__and__", sHAnd, []⟩,
   ⟨fun K => OwH.mo K "House" "__or__", "__or__", "House.__or__", sHOr, []⟩,
   ⟨fun K => OwH.mo K "House" "__eq__", "__eq__", "House.__eq__", sHEq, []⟩,
   ⟨fun K => OwH.mo K "House" "__le__", "__le__", "House.__le__", sHLe, []⟩,
   ⟨fun K => OwH.mo K "House" "__lt__", "__lt__", "House.__lt__", sHLt, []⟩,
   ⟨fun K => OwH.mo K "House" "__ge__", "__ge__", "House.__ge__", sHGe, []⟩,
   ⟨fun K => OwH.mo K "House" "__gt__", "__gt__", "House.__gt__", sHGt, []⟩,
   ⟨fun K => OwH.inRec K (OwH.mo K "House" "read") "classmethod", "read", "House.read", sHRead, []⟩,
   ⟨fun K => OwH.mo K "House" "__str__", "__str__", "House.__str__", sHStr, []⟩,
   ⟨fun K => OwH.mo K "BadText" "__init__", "__init__", "BadText.__init__", sBadText0, []⟩,
   ⟨fun K => OwH.mo K "Words" "more", "more", "Words.more", sWMore, []⟩,
   ⟨fun K => OwH.mo K "Words" "peek", "peek", "Words.peek", sWPeek, []⟩,
   ⟨fun K => OwH.mo K "Words" "check", "check", "Words.check", sWCheck, []⟩,
   ⟨fun K => OwH.mo K "Words" "step", "step", "Words.step", sWStep, []⟩,
   ⟨fun K => OwH.mo K "Words" "end", "end", "Words.end", sWEnd, []⟩,
   ⟨fun K => OwH.mo K "Words" "alone", "alone", "Words.alone", sAl, []⟩,
   ⟨fun K => OwH.mo K "Words" "take_name", "take_name", "Words.take_name", sWTn, [.str ""]⟩,
   ⟨fun K => OwH.mo K "Words" "take_number", "take_number", "Words.take_number", sWNu, [.non]⟩,
   ⟨fun K => OwH.mo K "Words" "__init__", "__init__", "Words.__init__", sWInit, [.int 0]⟩]
def theFacts : List (PySem.W.Frag → Bool) :=
  [(He.Fa.glo "is_name").ok,
   (He.Fa.glo "is_within").ok,
   (He.Fa.glo "is_number").ok,
   (He.Fa.glo "ascending").ok,
   (He.Fa.glo "numbers_told").ok,
   (He.Fa.glo "house_with").ok,
   (He.Fa.glo "bays_of").ok,
   (He.Fa.glo "number_of").ok,
   (He.Fa.glo "places_from").ok,
   (He.Fa.glo "_law_pen").ok,
   (He.Fa.glo "_law_draw").ok,
   (He.Fa.glo "_law_pick").ok,
   (He.Fa.glo "_law_word").ok,
   (He.Fa.glo "_law_heard").ok,
   (He.Fa.glo "_law_table").ok,
   (He.Fa.glo "_law_text").ok,
   (He.Fa.glo "_law_bent").ok,
   (He.Fa.glo "_law_is_name").ok,
   (He.Fa.glo "_law_is_number").ok,
   (He.Fa.glo "_law_due").ok,
   (He.Fa.glo "_law_read_right").ok,
   (He.Fa.glo "law").ok,
   (He.Fa.glo "House").ok,
   (He.Fa.glo "Words").ok,
   (He.Fa.glo "NextError").ok,
   (He.Fa.glo "BadText").ok,
   (He.Fa.free "int").ok,
   (He.Fa.free "bool").ok,
   (He.Fa.free "str").ok,
   (He.Fa.free "len").ok,
   (He.Fa.free "all").ok,
   (He.Fa.free "isinstance").ok,
   (He.Fa.free "sorted").ok,
   (He.Fa.free "set").ok,
   (He.Fa.free "list").ok,
   (He.Fa.free "tuple").ok,
   (He.Fa.free "abs").ok,
   (He.Fa.free "range").ok,
   (He.Fa.free "iter").ok,
   (He.Fa.free "dict").ok,
   fH1,
   fH2,
   fH3,
   (He.Fa.mkr "House").ok,
   OwH.fRead "House",
   OwH.fCMet "House" "of",
   OwH.fCMet "House" "read",
   OwH.fSpc "House" "__getitem__",
   OwH.fErr "BadText",
   OwH.fIni "BadText",
   OwH.fNoF "BadText" "line",
   OwH.fNoF "BadText" "word",
   OwH.fExm "BadText" "BadText" true,
   (He.Fa.cls "Words").ok,
   (He.Fa.mkr "Words").ok,
   (He.Fa.noat "Words" "_words").ok,
   (He.Fa.noat "Words" "_line").ok,
   (He.Fa.noat "Words" "_at").ok,
   fun K => OwH.fMethAt K (OwH.ga K "Words") "more" (OwH.mo K "Words" "more"),
   fun K => OwH.fMethAt K (OwH.ga K "Words") "peek" (OwH.mo K "Words" "peek"),
   fun K => OwH.fMethAt K (OwH.ga K "Words") "check" (OwH.mo K "Words" "check"),
   fun K => OwH.fMethAt K (OwH.ga K "Words") "step" (OwH.mo K "Words" "step"),
   fun K => OwH.fMethAt K (OwH.ga K "Words") "take_word" (OwH.mo K "Words" "take_word"),
   fun K => OwH.fMethAt K (OwH.ga K "Words") "take_name" (OwH.mo K "Words" "take_name"),
   fun K => OwH.fMethAt K (OwH.ga K "Words") "end" (OwH.mo K "Words" "end"),
   fun K => OwH.fMethAt K (OwH.ga K "Words") "take_number" (OwH.mo K "Words" "take_number"),
   fun K => OwH.fMethAt K (OwH.ga K "Words") "alone" (OwH.mo K "Words" "alone"),
   fun K => OwH.hasF K (.ref (OwH.ga K "House")) "__str__" (OwH.mo K "House" "__str__"),
   fun K => decide (PySem.W.kitOne K (.ref (OwH.ga K "House")) (.type "str") = some false),
   fun K => decide ((OwH.cTab K (OwH.ga K "_law_read_right")).2 ≠ (OwH.cTab K (OwH.ga K "law")).2)]
def theTabs : List (PySem.W.Frag → Addr) := [fun K => OwH.ga K "_law_read_right", fun K => OwH.ga K "law"]
def roots : List Str := ([("is_name" : Str), ("is_within" : Str), ("is_number" : Str), ("ascending" : Str), ("numbers_told" : Str), ("house_with" : Str), ("bays_of" : Str), ("number_of" : Str)] : List Str) ++ ([("places_from" : Str), ("_law_pen" : Str), ("_law_draw" : Str), ("_law_pick" : Str), ("_law_word" : Str), ("_law_heard" : Str), ("_law_table" : Str), ("_law_text" : Str)] : List Str) ++ ([("_law_bent" : Str), ("_law_is_name" : Str), ("_law_is_number" : Str), ("_law_due" : Str), ("_law_read_right" : Str), ("law" : Str), ("House" : Str), ("Words" : Str)] : List Str) ++ ([("NextError" : Str), ("BadText" : Str)] : List Str)
def names : List Str := ([("_wall" : Str), ("NextError" : Str), ("BadName" : Str), ("BadNumber" : Str), ("BadTable" : Str), ("Lacking" : Str), ("BadText" : Str), ("is_name" : Str)] : List Str) ++ ([("is_within" : Str), ("is_number" : Str), ("ascending" : Str), ("numbers_told" : Str), ("number_of" : Str), ("Words" : Str), ("House" : Str), ("house_with" : Str)] : List Str) ++ ([("bays_of" : Str), ("check_share" : Str), ("places_from" : Str), ("_law_pen" : Str), ("_law_draw" : Str), ("_law_pick" : Str), ("_law_word" : Str), ("_law_heard" : Str)] : List Str) ++ ([("_law_table" : Str), ("_law_text" : Str), ("_law_bent" : Str), ("_law_is_name" : Str), ("_law_is_number" : Str), ("_law_due" : Str), ("_law_read_right" : Str)] : List Str)
abbrev Rw : PySem.W.OpenRow := PySem.W.OpenLaw.row PySem.Challenge.rw_nextkind_k06_houses_written_and_read
abbrev hk : PySem.W.Hook := OwH.hookT roots theFacts theDefs theTabs
def ob (s : PySem.W.SharedT) : OwH.AT := OwH.obsT roots theFacts theDefs theTabs (HandSHeadRun.getT s)
theorem ob_eq (s : PySem.W.SharedT) : ob s = hk.obs s.abs := OwH.obsT_eq (HandSHeadRun.getT_eq s)
theorem run (w : World) : HandSHeadRun.RunEq Rw (PySem.W.view Rw.prog [36]) hk ob 14000 names w := by
  intro os
  kernel_rfl
def wa (K : PySem.W.Frag) : WAd := ⟨OwH.ga K "Words", OwH.ga K "BadText", OwH.ga K "NextError", OwH.mo K "BadText" "__init__", OwH.mo K "Words" "__init__", OwH.mo K "Words" "more", OwH.mo K "Words" "peek", OwH.mo K "Words" "check", OwH.mo K "Words" "step", OwH.mo K "Words" "take_word", OwH.mo K "Words" "take_name", OwH.mo K "Words" "end", OwH.mo K "Words" "take_number", OwH.mo K "Words" "alone", OwH.mo K "House" "read", OwH.inRec K (OwH.mo K "House" "read") "classmethod", OwH.mo K "House" "__str__"⟩
theorem facts {P : Program} {w : World} {K : PySem.W.Frag} {h base : Heap} {mg : Str → Option Value} (X : K.In h) (G : h.Ns mainGlobals mg) (c : OwH.seeX theFacts theDefs K = OwH.wantX theDefs) : Facts P w K mg base (hAd K) (wa K) := by
  obtain ⟨fd0, F0⟩ := OwH.def_ c 0 rfl
  obtain ⟨fd1, F1⟩ := OwH.def_ c 1 rfl
  obtain ⟨fd2, F2⟩ := OwH.def_ c 2 rfl
  obtain ⟨fd3, F3⟩ := OwH.def_ c 3 rfl
  obtain ⟨fd4, F4⟩ := OwH.def_ c 4 rfl
  obtain ⟨fd5, F5⟩ := OwH.def_ c 5 rfl
  obtain ⟨fd6, F6⟩ := OwH.def_ c 6 rfl
  obtain ⟨fd7, F7⟩ := OwH.def_ c 7 rfl
  obtain ⟨fd8, F8⟩ := OwH.def_ c 8 rfl
  obtain ⟨fd9, F9⟩ := OwH.def_ c 9 rfl
  obtain ⟨fd10, F10⟩ := OwH.def_ c 10 rfl
  obtain ⟨fd11, F11⟩ := OwH.def_ c 11 rfl
  obtain ⟨fd12, F12⟩ := OwH.def_ c 12 rfl
  obtain ⟨fd13, F13⟩ := OwH.def_ c 13 rfl
  obtain ⟨fd14, F14⟩ := OwH.def_ c 14 rfl
  obtain ⟨fd15, F15⟩ := OwH.def_ c 15 rfl
  obtain ⟨fd16, F16⟩ := OwH.def_ c 16 rfl
  obtain ⟨fd17, F17⟩ := OwH.def_ c 17 rfl
  obtain ⟨fd18, F18⟩ := OwH.def_ c 18 rfl
  obtain ⟨fd19, F19⟩ := OwH.def_ c 19 rfl
  obtain ⟨fd20, F20⟩ := OwH.def_ c 20 rfl
  obtain ⟨fd22, F22⟩ := OwH.def_ c 22 rfl
  obtain ⟨fd23, F23⟩ := OwH.def_ c 23 rfl
  obtain ⟨fd24, F24⟩ := OwH.def_ c 24 rfl
  obtain ⟨fd25, F25⟩ := OwH.def_ c 25 rfl
  obtain ⟨fd26, F26⟩ := OwH.def_ c 26 rfl
  obtain ⟨fd27, F27⟩ := OwH.def_ c 27 rfl
  obtain ⟨fd28, F28⟩ := OwH.def_ c 28 rfl
  obtain ⟨fd29, F29⟩ := OwH.def_ c 29 rfl
  obtain ⟨fd30, F30⟩ := OwH.def_ c 30 rfl
  obtain ⟨fd31, F31⟩ := OwH.def_ c 31 rfl
  obtain ⟨fd32, F32⟩ := OwH.def_ c 32 rfl
  obtain ⟨fd33, F33⟩ := OwH.def_ c 33 rfl
  obtain ⟨fd34, F34⟩ := OwH.def_ c 34 rfl
  obtain ⟨fd35, F35⟩ := OwH.def_ c 35 rfl
  obtain ⟨fd36, F36⟩ := OwH.def_ c 36 rfl
  obtain ⟨fd37, F37⟩ := OwH.def_ c 37 rfl
  obtain ⟨fd38, F38⟩ := OwH.def_ c 38 rfl
  obtain ⟨fd39, F39⟩ := OwH.def_ c 39 rfl
  obtain ⟨fd40, F40⟩ := OwH.def_ c 40 rfl
  obtain ⟨fd41, F41⟩ := OwH.def_ c 41 rfl
  obtain ⟨fd42, F42⟩ := OwH.def_ c 42 rfl
  obtain ⟨fd43, F43⟩ := OwH.def_ c 43 rfl
  obtain ⟨fd44, F44⟩ := OwH.def_ c 44 rfl
  obtain ⟨fd45, F45⟩ := OwH.defD_ c 45 rfl (by simp)
  obtain ⟨fd46, F46⟩ := OwH.defD_ c 46 rfl (by simp)
  obtain ⟨fd47, F47⟩ := OwH.defD_ c 47 rfl (by simp)
  exact ⟨house_ok ⟨⟨⟨_, _, (He.glo_ok X G (OwH.fact c 0 rfl)), F0⟩, ⟨_, _, (He.glo_ok X G (OwH.fact c 1 rfl)), F1⟩, ⟨_, _, (He.glo_ok X G (OwH.fact c 3 rfl)), F3⟩, ⟨(He.free_ok X G (OwH.fact c 26 rfl)), (He.free_ok X G (OwH.fact c 27 rfl)), (He.free_ok X G (OwH.fact c 28 rfl)), (He.free_ok X G (OwH.fact c 29 rfl)), (He.free_ok X G (OwH.fact c 30 rfl)), (He.free_ok X G (OwH.fact c 31 rfl))⟩, ⟨(He.free_ok X G (OwH.fact c 32 rfl)), (He.free_ok X G (OwH.fact c 33 rfl)), (He.free_ok X G (OwH.fact c 34 rfl))⟩, ⟨(He.free_ok X G (OwH.fact c 35 rfl))⟩⟩, ⟨_, _, (He.glo_ok X G (OwH.fact c 2 rfl)), F2⟩, ⟨_, _, (He.glo_ok X G (OwH.fact c 4 rfl)), F4⟩⟩ (He.free_ok X G (OwH.fact c 39 rfl)) (He.free_ok X G (OwH.fact c 34 rfl)) (He.free_ok X G (OwH.fact c 38 rfl)) (He.glo_ok X G (OwH.fact c 22 rfl)) (OwH.fact c 40 rfl) (OwH.fact c 41 rfl) (OwH.fact c 42 rfl)
    ⟨He.mkr_ok (OwH.fact c 43 rfl), ⟨_, F22⟩, ⟨_, _, (He.glo_ok X G (OwH.fact c 5 rfl)), F5⟩, OwH.read_ok (OwH.fact c 44 rfl), OwH.cmet_ok (OwH.fact c 45 rfl), ⟨_, F23⟩, OwH.spc_ok (OwH.fact c 47 rfl), ⟨_, F24⟩, ⟨_, F25⟩, ⟨_, F26⟩, ⟨_, _, (He.glo_ok X G (OwH.fact c 6 rfl)), F6⟩, ⟨_, F27⟩, ⟨_, F28⟩, ⟨_, F29⟩, ⟨_, F30⟩, ⟨_, F31⟩, ⟨_, F32⟩, ⟨_, F33⟩, ⟨_, F34⟩, ⟨_, F35⟩⟩,
    ⟨OwH.err_ok (OwH.fact c 48 rfl), of_decide_eq_true (OwH.fact c 52 rfl), of_decide_eq_true (OwH.fact c 50 rfl), of_decide_eq_true (OwH.fact c 51 rfl), (He.glo_ok X G (OwH.fact c 25 rfl)), (He.glo_ok X G (OwH.fact c 24 rfl))⟩,
    ⟨(He.free_ok X G (OwH.fact c 26 rfl)), (He.free_ok X G (OwH.fact c 29 rfl)), (He.free_ok X G (OwH.fact c 36 rfl)), (He.free_ok X G (OwH.fact c 34 rfl))⟩, (He.free_ok X G (OwH.fact c 37 rfl)), (He.free_ok X G (OwH.fact c 32 rfl)), ⟨He.cls_ok (OwH.fact c 53 rfl), He.noat_ok (OwH.fact c 55 rfl), He.noat_ok (OwH.fact c 56 rfl), He.noat_ok (OwH.fact c 57 rfl), OwH.methAt_ok (OwH.fact c 58 rfl), OwH.methAt_ok (OwH.fact c 59 rfl), OwH.methAt_ok (OwH.fact c 60 rfl), OwH.methAt_ok (OwH.fact c 61 rfl), OwH.methAt_ok (OwH.fact c 62 rfl), OwH.methAt_ok (OwH.fact c 63 rfl), OwH.methAt_ok (OwH.fact c 64 rfl)⟩, OwH.methAt_ok (OwH.fact c 65 rfl), OwH.methAt_ok (OwH.fact c 66 rfl), He.mkr_ok (OwH.fact c 54 rfl), (He.glo_ok X G (OwH.fact c 23 rfl)), ⟨OwH.err_ok (OwH.fact c 48 rfl), (He.glo_ok X G (OwH.fact c 25 rfl)), (OwH.ini_ok (OwH.fact c 49 rfl)).1, (OwH.ini_ok (OwH.fact c 49 rfl)).2⟩, ⟨_, F38⟩,
    ⟨_, F39⟩, ⟨_, F40⟩, ⟨_, F41⟩, ⟨_, F42⟩, ⟨_, F43⟩, ⟨_, F44⟩, ⟨_, F45⟩, ⟨_, F46⟩, ⟨_, F47⟩,
    OwH.cmet_ok (OwH.fact c 46 rfl), ⟨_, F36⟩, ⟨(OwH.hasF_ok (OwH.fact c 67 rfl)).1, (OwH.hasF_ok (OwH.fact c 67 rfl)).2⟩, ⟨_, F37⟩, of_decide_eq_true (OwH.fact c 68 rfl),
    ⟨_, _, (He.glo_ok X G (OwH.fact c 7 rfl)), F7⟩, ⟨_, _, (He.glo_ok X G (OwH.fact c 8 rfl)), F8⟩, ⟨_, _, (He.glo_ok X G (OwH.fact c 9 rfl)), F9⟩, ⟨_, _, (He.glo_ok X G (OwH.fact c 10 rfl)), F10⟩, ⟨_, _, (He.glo_ok X G (OwH.fact c 11 rfl)), F11⟩, ⟨_, _, (He.glo_ok X G (OwH.fact c 12 rfl)), F12⟩, ⟨_, _, (He.glo_ok X G (OwH.fact c 13 rfl)), F13⟩, ⟨_, _, (He.glo_ok X G (OwH.fact c 14 rfl)), F14⟩, ⟨_, _, (He.glo_ok X G (OwH.fact c 15 rfl)), F15⟩, ⟨_, _, (He.glo_ok X G (OwH.fact c 16 rfl)), F16⟩, ⟨_, _, (He.glo_ok X G (OwH.fact c 17 rfl)), F17⟩, ⟨_, _, (He.glo_ok X G (OwH.fact c 18 rfl)), F18⟩, ⟨_, _, (He.glo_ok X G (OwH.fact c 19 rfl)), F19⟩⟩
theorem ends {P : Program} {w : World} {K : PySem.W.Frag} {h : Heap} {mg : Str → Option Value} {f : Addr} (X : K.In h) (G : h.Ns mainGlobals mg) (hf : mg ("law" : Str) = some (.ref f)) (c : OwH.SaysT theFacts theDefs theTabs h K) :
    ∃ (K : PySem.W.Frag) (fd : FuncData) (cs : List (Addr × Addr)) (sp : Sp), K.In h ∧ (∀ e ∈ cs, h.get? e.2 = some OwR.tabO) ∧ (∀ e ∈ cs, K.lookup e.2 = none) ∧ (∀ e ∈ cs, PySem.W.CodeHd h e.1 e.2) ∧
      (∀ (s : Shared) (u : Value), BindsTo s fd ⟨[u], []⟩ [("_law_script", u)]) ∧ (∀ (G : Hp) (a : Addr) (zs : List Int), zs.length ≤ 63 → (∀ e ∈ cs, G e.2 = some (.tbl #[])) → SqL K G a (zs.map V.int) → sp [.ref a] G (fun v _ => v = .bl true) fun _ _ _ => False) ∧
      ∀ base : Heap, K.In base → base.Ns mainGlobals mg → (∀ e ∈ cs, LamX.TabB base mg e.1 e.2) → OwR.FnG P w K mg base CX0 12 f fd ["_law_script"] sp := by
  obtain ⟨fdM, FM⟩ := OwH.def_ c.see 20 rfl
  obtain ⟨fdL, FL⟩ := OwH.def_ c.see 21 rfl
  have e := hf.symm.trans (He.glo_ok X G (OwH.fact c.see 21 rfl))
  cases e
  have kpM := FM.kp
  have kpL := FL.kp
  obtain ⟨ocM, odM, kVM, docM, pmM, anM, cdvM, ctM, oslM, rfl, lkM, hcdM⟩ := FM.ex
  obtain ⟨ocL, odL, kVL, docL, pmL, anL, cdvL, ctL, oslL, rfl, lkL, hcdL⟩ := FL.ex
  obtain ⟨cM, rfl⟩ := He.codeIn_ref hcdM
  obtain ⟨cL, rfl⟩ := He.codeIn_ref hcdL
  have ecM : (OwH.cTab K (OwH.ga K "_law_read_right")).1 = cM := OwH.codA_eq lkM rfl
  have ecL : (OwH.cTab K (OwH.ga K "law")).1 = cL := OwH.codA_eq lkL rfl
  have ne : (OwH.cTab K (OwH.ga K "_law_read_right")).2 ≠ (OwH.cTab K (OwH.ga K "law")).2 := of_decide_eq_true (OwH.fact c.see 69 rfl)
  have memM : (fun K => OwH.ga K "_law_read_right") ∈ theTabs := List.mem_cons_self
  have memL : (fun K => OwH.ga K "law") ∈ theTabs := List.mem_cons_of_mem _ List.mem_cons_self
  have two : ∀ {p : Addr × Addr → Prop}, p (OwH.cTab K (OwH.ga K "_law_read_right")) → p (OwH.cTab K (OwH.ga K "law")) → ∀ e ∈ [OwH.cTab K (OwH.ga K "_law_read_right"), OwH.cTab K (OwH.ga K "law")], p e := fun {p} h1 h2 e he => by
    simp only [List.mem_cons, List.not_mem_nil, or_false] at he
    rcases he with rfl | rfl
    · exact h1
    · exact h2
  refine ⟨K, PySem.W.fnOf "law" "law" (defArgs sLaw) (defBody sLaw) (defScope sLaw) .none kVL docL pmL anL (.ref cL) ctL, [OwH.cTab K (OwH.ga K "_law_read_right"), OwH.cTab K (OwH.ga K "law")], spLaw K [((OwH.cTab K (OwH.ga K "_law_read_right")).2, qRR), ((OwH.cTab K (OwH.ga K "law")).2, qLaw)], X, two (c.empty _ memM) (c.empty _ memL), two (c.out _ memM) (c.out _ memL), two (PySem.W.codeHd_of_K X (c.hd _ memM)) (PySem.W.codeHd_of_K X (c.hd _ memL)), fun s v => .of_eq rfl, fun G a zs hz ht sq => ⟨a, zs, rfl, sq, hz, fun e he => ?_, fun _ => rfl⟩, fun base hK hN hT => ?_⟩
  · simp only [List.mem_cons, List.not_mem_nil, or_false] at he
    rcases he with rfl | rfl
    · exact LamX.TabS.nil (ht _ List.mem_cons_self)
    · exact LamX.TabS.nil (ht _ (List.mem_cons_of_mem _ List.mem_cons_self))
  · have TBM := hT _ List.mem_cons_self
    have TBL := hT _ (List.mem_cons_of_mem _ List.mem_cons_self)
    rw [ecM] at TBM
    rw [ecL] at TBL
    refine ok_all (facts (P := P) (w := w) (base := base) X G c.see) ⟨He.glo_ok X G (OwH.fact c.see 20 rfl), kpM, lkM, hcdM, TBM, List.mem_cons_self, fun e he h => ?_⟩ ⟨He.glo_ok X G (OwH.fact c.see 21 rfl), kpL, lkL, hcdL, TBL, List.mem_cons_of_mem _ List.mem_cons_self, fun e he h => ?_⟩
    · simp only [List.mem_cons, List.not_mem_nil, or_false] at he
      rcases he with rfl | rfl
      · rfl
      · exact absurd h.symm ne
    · simp only [List.mem_cons, List.not_mem_nil, or_false] at he
      rcases he with rfl | rfl
      · exact absurd h ne
      · rfl

end K10
open PySem PySem.W PySem.Calls PyProof.Rows
theorem PySem.Challenge.cw_nextkind_k06_houses_written_and_read_holds : PySem.Challenge.rw_nextkind_k06_houses_written_and_read.Holds := by
  w_on; o_law
  refine HandSHeadRun.head_any (r := K10.Rw) (q := view K10.Rw.prog [36]) (H := K10.hk) (ob := K10.ob) (M := 14000) (loose := K10.names) (d := HandSHeadRun.topDef K10.Rw.prog 36) (kwd := []) K10.ob_eq
    (by kernel_rfl) (fun s => by kernel_rfl) K10.run (by kernel_rfl) (by kernel_rfl) (by kernel_rfl) (by rfl) (by first | assumption | decide +kernel) (by decide +kernel) ⟨rfl, rfl, rfl, rfl, rfl, by decide +kernel⟩ ?hw ?hc
  case hw => w_witness2
  case hc =>
    refine OwR.walk_ofTG (l := PySem.Challenge.rw_nextkind_k06_houses_written_and_read) (n := 63) (k := 12) (x := "_law_script") rfl (by decide) (by kernel_rfl) ⟨rfl, by decide, by decide⟩ ?_
    intro w mg fn h Y G hmg
    obtain ⟨K, X, c⟩ := Y
    have en : (HandSHeadRun.topDef K10.Rw.prog 36).name = ("law" : PySem.Str) := by kernel_rfl
    rw [en] at hmg
    exact K10.ends (P := PySem.Challenge.rw_nextkind_k06_houses_written_and_read.prog) (w := w) X G hmg c
end
