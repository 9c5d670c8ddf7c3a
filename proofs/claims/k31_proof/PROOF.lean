import PyProof.Rows.All
import Wide.All
import OpenK.AllK
import Wide.FinOn
import KE.KStateDown
import Lean
import HandS.HeadHook3
import HandS.HeadHook4
import HandS.Base
import HandS.Call
import HandS.Ends
import HandS.Lambda
import HandS.EndBits
import HandS.EndTab
import HandS.ForMost
import HandS.More
import HandS.Exc
import HandS.Star
import HandS.ClsMeth
import HandS.MakeKwOnly
import HandS.Style
import HandS.TupAny
import KE.GoesMore
import KE.GoesEnum
import HandS.Words
import HandS.Property
import HandS.Head0
import HandS.Head1
import HandS.Head2
import HandS.HeadEnd
import HandS.HeadHook1
import HandS.HeadHook2
import KE.KExcIs
import PyProof.CallFns
import HandS.ExcInit
import HandS.ExcField
import HandS.IsInst
import HandS.RaiseMore
import HandS.Walk
import HandS.Iter
import HandS.Codes
import HandS.ForExc
import HandS.WordsExc
import KE.KCallOwn
import PyProof.P3Eq
import PyProof.EqKinds
import PyProof.SliceList
import KE.KOwnIter
import KE.KOpsOwn
import PyProof.TupleIter
import PyProof.WalksMore
import HandS.IterVal
import HandS.OwnIter
import HandS.TryOnly
import HandS.Wide
import HandS.NoneIn
import HandS.FStr
import PySem.Challenge.RW_nextkind_k31_deeds_made
set_option Elab.async false
set_option linter.all false
set_option maxRecDepth 100000
set_option maxHeartbeats 0
section
/-! Rules for what an own class defines: o[i] by its __getitem__, a def of a class called off the class, a static method, cls(*xs), an object called by a keyword. -/
namespace OwR
open PySem PySem.Spec PyProof.Rows L2
/-- the class at C has the def at g as its special method nm -/
structure Spc (K : PySem.W.Frag) (C g : Addr) (nm : Str) : Prop where
  at_ : PySem.W.findIn K (.ref C) nm = some (some (.ref g))
  fn : PySem.W.isFn K (.ref g) = true
  fi : PySem.W.fnIn K g = true
section
variable {X : Cx} {CX : CXT} {k i : Nat} {C f g p : Addr} {mc : Value} {sp : Sp} {E : XK} {a b o e : Expr} {es : List Expr} {m x : Str} {ta tb te : TE} {t tk : TA} {pos apos q1 q2 : Pos} {pins : List (Addr × Obj)} {σ : L2.St} {H : Hp} {s : Shared}
/-- a promise kept one step further in -/
theorem run_in {Q : VK} {us : List Value} {vs : List V} (F : FnR X.prog X.w X.K X.mg X.base CX k g sp) (hr : Room (k + 1) X.A) (hx : Passes CX X E) (I : Inv X pins σ H s) (r : Vals vs us) (h : sp vs H Q E) :
    wpAny (model X.prog X.w) X.A.in1 (call (.ref g) us) (EP X pins σ Q) X.xe s := by
  refine wpAny_call (codeAny_mono (F X.A.in1 X.stack s H us vs Q E hr.in1 I.env0.in1 r h) fun r s' hq => ?_)
  cases r with
  | error er => exact hx pins σ H s er s' I hq
  | ok fl =>
    cases fl with
    | ret u => exact I.after hq
    | next => exact False.elim hq
    | brk => exact False.elim hq
    | cont => exact False.elim hq
/-! ### o[i] -/
def tItem (C : Addr) (sp : Sp) (E : XK) (ta tb : TE) : TE := fun σ H Q => ta σ H fun x H1 => tb σ H1 fun y H2 => ∃ p dx fs, x = .ref p ∧ H2 p = some (.ins C dx fs) ∧ sp [.ref p, y] H2 Q E
theorem pe_item (c : Spc X.K C g "__getitem__") (F : FnR X.prog X.w X.K X.mg X.base CX k g sp) (hr : Room (k + 1) X.A) (hx : Passes CX X E) (ha : PE X a ta) (hb : PE X b tb)
    (hsl : ∀ (z : Addr) (v : Value), subscripted b true (.ref z) v = runValue (.builtin "lifetime.subscript" ⟨[.ref z, v], []⟩) := by intros; rfl) : PE X (.Subscript a b pos) (tItem C sp E ta tb) := by
  refine ⟨fun pins s σ H Q I h => ?_⟩
  refine Subscript_ (binT ha hb I h fun v u s2 x y H2 I2 rx ry q => ?_)
  obtain ⟨p, dx, fs, ex, ep, hq⟩ := q
  subst ex
  obtain rfl : v = Value.ref p := rx
  obtain ⟨ox, od, J, _⟩ := StX.insC_at I2 (.inr ⟨dx, fs, ep⟩)
  have KI := I2.kIn
  have hfi := c.fi
  unfold PySem.W.fnIn at hfi
  split at hfi
  · rename_i hg
    unfold subscriptTail getitemInPython
    refine wpAny_bind (wpAny_bind (wpAny_bind (J.type.here ((PySem.W.looks_findIn KI c.at_).here ?_))))
    dsimp only
    refine wpAny_bind (wpAny_load (KI _ _ hg) (wpAny_pure ?_))
    dsimp only
    rw [hsl]
    refine wpAny_bind (wpAny_runValue (codeAny_builtin PySem.W.entry_sub ?_))
    unfold Builtin.«lifetime.subscript»
    refine wpAny_bind (PySem.W.special_fn KI J c.at_ (beq_iff_eq.mp c.fn) (wpAny_mono (run_in (us := [Value.ref p, u]) (vs := [V.ref p, y]) F hr hx I2 (.cons rfl (.cons ry .nil)) hq) (fun v' s' z => ?_) fun _ _ z => z))
    refine wpAny_pure ?_
    show wpAny _ X.A (letTemporaryGo a (.ref p) v' >>= fun _ => pure v') _ _ s'
    exact wpAny_bind (wpAny_letTemporaryGo (wpAny_pure z))
  · cases hfi
/-! ### C.m(e, ..), m a plain def of the class -/
structure CFun (K : PySem.W.Frag) (C : Addr) (mc : Value) (m : Str) (g : Addr) : Prop where
  at_ : PySem.W.findCls K (.ref C) mc m = some (.val (.ref g))
  kp : PySem.W.keepIn K (.ref g) = true
def tCFun (C : Addr) (sp : Sp) (E : XK) (ta : TE) (t : TA) : TE := fun σ H Q => ta σ H fun x H1 => x = .ref C ∧ t σ H1 fun vs H2 => sp vs H2 Q E
theorem pe_cfun {pl : Sem Bool} (he : PE X o ta) (r : ClX.CRead X.K C mc) (c : CFun X.K C mc m g) (F : FnR X.prog X.w X.K X.mg X.base CX k g sp) (hr : Room k X.A) (hx : Passes CX X E) (ha : PA X (e :: es) t)
    (hst : starEach (e :: es) X.env = (false, eval e X.env) :: starEach es X.env := by rfl) (hpl : (backTo pos (starEach es X.env)).any (·.1) = false := by rfl)
    (ht : eval (.Call (.Attribute o m apos) (e :: es) [] pos) X.env = (do
      let ov ← eval o X.env
      standAt apos.atName
      let (f, first) ← holding [ov] (getMethod ov m pl)
      callWith pos f first (backTo pos (starEach (e :: es) X.env)) (backToKw pos (keywordEach [] X.env))) := by rfl) :
    PE X (.Call (.Attribute o m apos) (e :: es) [] pos) (tCFun C sp E ta t) := by
  refine ⟨fun pins s σ H Q I h => ?_⟩
  refine PySem.W.methodCall_KW (pl := pl) (thn (he.run pins s σ H _ I h) fun u s1 ⟨x, H1, I1, rx, ex, q⟩ => ?_) ht
  subst ex
  obtain rfl : u = Value.ref C := rx
  refine PySem.W.method_cls I1.kIn r.ga (PySem.W.cls_value I1.kIn r.rd c.at_ rfl ?_)
  refine PySem.W.callWith_K (first := []) (h₀ := X.base) I1.ok.mod.kin c.kp (thn (ha.run pos pins _ σ H1 _ (I1.tok _) q) fun us s2 ⟨vs, H2, I2, rv, q2⟩ => ⟨I2.kIn, ?_⟩) hst hpl
  exact wpAny_call (run_fnR F hr hx I2 rv q2)
/-! ### C.m(), m a static method -/
structure CSta (K : PySem.W.Frag) (C : Addr) (mc : Value) (m : Str) (p g : Addr) : Prop where
  at_ : PySem.W.findCls K (.ref C) mc m = some (.get (.builtin "staticmethod.__get__") (.ref p) .none (.ref C))
  rc : ∃ rest, PySem.W.recIn K p "staticmethod" = some (.ref g :: rest)
  kp : PySem.W.keepIn K (.ref g) = true
theorem pe_csta0 {pl : Sem Bool} (he : PE X o ta) (r : ClX.CRead X.K C mc) (c : CSta X.K C mc m p g) (F : FnR X.prog X.w X.K X.mg X.base CX k g sp) (hr : Room k X.A) (hx : Passes CX X E)
    (ht : eval (.Call (.Attribute o m apos) [] [] pos) X.env = (do
      let ov ← eval o X.env
      standAt apos.atName
      let (f, first) ← holding [ov] (getMethod ov m pl)
      callWith pos f first (backTo pos (starEach [] X.env)) (backToKw pos (keywordEach [] X.env))) := by rfl) :
    PE X (.Call (.Attribute o m apos) [] [] pos) (tCFun C sp E ta tNil) := by
  refine ⟨fun pins s σ H Q I h => ?_⟩
  refine PySem.W.methodCall_KW (pl := pl) (thn (he.run pins s σ H _ I h) fun u s1 ⟨x, H1, I1, rx, ex, q⟩ => ?_) ht
  subst ex
  obtain rfl : u = Value.ref C := rx
  obtain ⟨rest, hrec⟩ := c.rc
  refine PySem.W.method_cls I1.kIn r.ga (PySem.W.cls_bind I1.kIn r.rd c.at_ ?_)
  refine wpAny_call (PySem.W.sm_get (s := { s1 with toks := s1.toks + 1 }) I1.kIn hrec (PySem.W.handed_on rfl ?_))
  have I2 := I1.tok (s1.toks + 1)
  exact PySem.W.callWith_K0 (first := []) I2.kIn c.kp (wpAny_call (run_fnR (us := []) F hr hx I2 .nil q))
/-! ### cls(*xs), cls a slot that holds the class -/
def tMakeLS (K : PySem.W.Frag) (i : Nat) (C : Addr) (sp : Sp) (E : XK) (te : TE) : TE := fun σ H Q => σ[i]? = some (some (.ref C)) ∧ te σ H fun y H1 => ∃ a xs, y = V.ref a ∧ (SqT K H1 a xs ∨ SqL K H1 a xs) ∧
  ∀ z dz, H1 z = none → H1 dz = none → dz ≠ z → sp (V.ref z :: xs) (upd (upd H1 dz (.own z)) z (.ins C dz [])) (fun v H2 => v = .non ∧ Q (.ref z) H2) E
theorem pe_makeLS (M : Mk X.K C f) (F : FnR X.prog X.w X.K X.mg X.base CX k f sp) (hr : Room (k + 1) X.A) (hN : X.N[i]? = some x) (hv : Vis X.env.scope x) (hx : Passes CX X E) (he : PE X e te)
    (hdb : (x == ("__debug__" : Str)) = false := by decide) (hcd : (x == ("__classdict__" : Str)) = false := by decide) (hst : starEach [.Starred e q1] X.env = [(true, eval e X.env)] := by rfl) :
    PE X (.Call (.Name x q2) [.Starred e q1] [] pos) (tMakeLS X.K i C sp E te) := by
  refine ⟨fun pins s σ H Q I h => ?_⟩
  obtain ⟨hs, ht⟩ := h
  refine wpAny_Call_Name_kw (thn ((pe_var (pos := q2) hN hv hdb hcd).run pins s σ H (fun v H1 => v = .ref C ∧ H1 = H) I ⟨.ref C, hs, rfl, rfl⟩) fun u s1 ⟨v, H1, I1, r1, e1⟩ => ?_)
  obtain ⟨rfl, rfl⟩ := e1
  cases r1
  refine PySem.W.callWith_S (h₀ := X.base) (first := []) I1.ok.mod.kin M.kp (thn (he.run pins s1 σ _ _ I1 ht) fun v s2 ⟨y, H2, I2, ry, a, xs, ey, hxs, q⟩ => ?_) hst
  subst ey
  obtain rfl : v = Value.ref a := ry
  exact StX.star_any I2 hxs fun us s3 I3 rv => ⟨I3.kIn, StX.run_makeR M F hr hx I3 rv q⟩
end
end OwR
end
section
namespace OwR
open PySem PySem.Spec PyProof.Rows L2
open AutoSeq1 (wpAny_loadPart')
/-! ### enumerate(t), t a tuple -/
theorem meets_enumT {v : Value} {o : Obj} {G : Heap → Prop} (B : Begins v o G) :
    Meets (Builtin.«enumerate.__new__» ⟨[.type "enumerate", v], []⟩) (fun _ R s => G s.heap ∧
      R (.ok (.ret (.ref (s.heap.push o).objs.size))) { s with heap := (s.heap.push o).push { cls := .type "enumerate", data := .fields #[.none, .bool false, .ref s.heap.objs.size, rawInt 0, .none, .none] } }) :=
  .of_wp fun prog w A R s h => by
    obtain ⟨hp, g, d, tk, os⟩ := s; obtain ⟨h1, h⟩ := h
    have hsub := sub_enumerate
    have start : ∀ {A' : Around} {E : Value → Shared → Prop} {Q : Value → Shared → Prop}, Q (.ref hp.objs.size) ⟨hp.push o, g, d, tk, os⟩ → wpAny (model prog w) A' (pyIter v) Q E ⟨hp, g, d, tk, os⟩ :=
      fun q => B.iter prog w _ _ ⟨hp, g, d, tk, os⟩ _ h1 q
    wp_walk using start
    refine wpAny_stack_any fun st => wpAny_pure ?_
    split
    · rename_i c _ _ _ _ _
      cases (c == Value.type "enumerate")
      all_goals (wp_walk using start; exact ⟨_, rfl, h⟩)
    · wp_walk using start
      exact ⟨_, rfl, h⟩
section
variable {prog : Program} {w : World} {A : Around} {E : Value → Shared → Prop} {s : Shared}
theorem call_enumT {v : Value} {o : Obj} {G : Heap → Prop} {Q : Value → Shared → Prop} (B : Begins v o G) (h1 : G s.heap)
    (h : ∀ h', IsEnum h' (s.heap.objs.size + 1) s.heap.objs.size 0 .none → h'.get? s.heap.objs.size = some o → (∀ b x, s.heap.get? b = some x → h'.get? b = some x) → Q (.ref (s.heap.objs.size + 1)) { s with heap := h' }) :
    wpAny (model prog w) A (call (.type "enumerate") [v]) Q E s := by
  refine callType_new F.called_enumerate (by decide) (F.typeCall_enumerate_1 _) (F.newCall_enumerate_1 _) (fun obj => F.args_object_init_2 obj _) F.entry_enumerate_new (meets_enumT B) ⟨h1, ?_⟩
  have hz : (s.heap.push o).objs.size = s.heap.objs.size + 1 := Heap.size_push ..
  have he := Heap.get?_push_size (s.heap.push o) (o := { cls := .type "enumerate", data := .fields #[.none, .bool false, .ref s.heap.objs.size, rawInt 0, .none, .none] }) rfl
  rw [hz] at he
  show _ ∧ _
  rw [hz]
  exact ⟨⟨_, he, rfl⟩, h _ he (Heap.get?_push_of_some _ (Heap.get?_push_size _ B.free)) fun b x q => Heap.get?_push_of_some _ (Heap.get?_push_of_some _ q)⟩
end
/-- the tuple at a at each turn: its item in a new pair -/
def IteT (K : PySem.W.Frag) (a : Addr) : It :=
  ⟨fun i H => ∃ (xs : List V) (x : V), SqT K H a xs ∧ xs[i]? = some x, fun i H v H' => ∃ T x, v = .ref T ∧ H T = none ∧ H' = upd H T (.tup [.int (i : Nat), x]) ∧ ∀ xs, SqT K H a xs → xs[i]? = some x, fun i H => ∃ xs : List V, SqT K H a xs ∧ xs.length ≤ i⟩
theorem tup_one {X : Cx} {pins : List (Addr × Obj)} {σ : L2.St} {H : Hp} {s : Shared} {a : Addr} {xs ys : List V} (I : Inv X pins σ H s) (h : SqT X.K H a xs) (h' : SqT X.K H a ys) : xs = ys := by
  first | exact I.tup_inj h h' | exact I.tuple_inj h h'
theorem turn_enumT {P : Program} {w : World} {K : PySem.W.Frag} {elts : List Expr} {kk : Nat} {tpos : Pos} (a e it : Addr) (hane : a ≠ it) :
    Turn P w K (.Tuple elts kk tpos) (IteT K a) [e, it] e (fun i h => (∃ old, IsEnum h e it ((i : Nat) : Int) old) ∧ h.IsTupleIter it a i ∧ e ≠ it ∧ a ≠ e) where
  mem := by simp
  obj := fun i h st b hb => by
    obtain ⟨⟨old, he⟩, ⟨o, ho, hc, hd⟩, _⟩ := st
    rcases List.mem_cons.mp hb with z | z
    · rw [z]; exact ⟨_, he, fun v q => nomatch q⟩
    · rw [List.mem_singleton.mp z]; exact ⟨o, ho, fun v q => by rw [hd] at q; cases q⟩
  keep := fun i h h' st k => let ⟨⟨old, he⟩, hi, hne⟩ := st; ⟨⟨old, k e (by simp) _ he⟩, hi.at fun o q => k it (by simp) o q, hne⟩
  item := by
    intro X hP hw hK hc i pins s σ H E I hf st hg
    subst hP hw hK
    obtain ⟨⟨old, he⟩, hit, hne, hae⟩ := st
    obtain ⟨xs, x, hq, hx⟩ := hg
    obtain ⟨its, rv, p, hz⟩ := I.tuple hq
    obtain ⟨u, hu, ru⟩ := rv.get hx
    have hel : e < s.heap.objs.size := Heap.lt_size he
    have hil : it < s.heap.objs.size := by obtain ⟨_, q, _⟩ := hit; exact Heap.lt_size q
    have hlt : i < its.toArray.size := by
      rw [List.size_toArray]
      exact (List.getElem?_eq_some_iff.mp hu).1
    have D : Draws X.prog X.w X.A.in1 it [it, a] its.toArray.size _ _ := Draws.tuple (A := X.A.in1) (show X.A.in1.handled = none from I.ok.hd hc) it a hane its.toArray
    refine wpAny_pyNext_enum_itemD D he ⟨hit, p⟩ hlt hne (by simp [hne, Ne.symm hae]) fun y h' tk hy ho hst hT hsz hk => ?_
    have ey : y = u := by
      have q : its.toArray[i]? = some u := by simpa using hu
      exact Option.some.inj (hy.symm.trans q)
    subst ey
    refine ⟨_, rfl, wpAny_letOwnedTupleGo_enum (s := { s with heap := h', toks := tk + 1 }) ho fun h'' he' sb => ?_⟩
    have hT2 : h''.get? s.heap.objs.size = some { cls := .type "tuple", data := .seq #[.int i tk, y] } := (sb.2 _ (Nat.ne_of_gt hel)).trans hT
    have new : ObjOk X.prog X.w (upd H s.heap.objs.size (.tup [.int (i : Nat), x])) h'' s.heap.objs.size (.tup [.int (i : Nat), x]) :=
      ⟨by show 2 ≤ sizeLine; decide, [.int i tk, y], .cons ⟨_, rfl⟩ (.cons ru .nil), ⟨_, hT2, rfl, _, rfl⟩⟩
    have I1 : Inv X pins σ (upd H s.heap.objs.size (.tup [.int (i : Nat), x])) { s with heap := h'', toks := tk + 1 } :=
      I.turnedNew (ch := [e, it]) (fun b ob hb q => (sb.2 b (fun z => hb (by simp [z]))).trans (hk b ob (fun z => hb (by simp [z])) (fun z => hb (by simp [z])) q)) hf (Nat.le_refl _) new
    refine ⟨.ref s.heap.objs.size, _, I1, rfl, ⟨_, x, rfl, I.hok.fresh (Nat.le_refl _), rfl, fun ys hy' => by rw [tup_one I hy' hq]; exact hx⟩, ⟨⟨y, ?_⟩, hst.1.at fun o q => (sb.2 it (Ne.symm hne)).trans q, hne, hae⟩, fun b hb => ?_⟩
    · have e1 : ((i + 1 : Nat) : Int) = (i : Int) + 1 := by omega
      rw [e1]; exact he'
    · have hb' : b < s.heap.objs.size := by
        rcases List.mem_cons.mp hb with z | z
        · rw [z]; exact hel
        · rw [List.mem_singleton.mp z]; exact hil
      rw [upd_ne (Nat.ne_of_lt hb')]
      exact (hf b hb).1
  done := by
    intro X hP hw hK hc i pins s σ H E I hf st hg
    subst hP hw hK
    obtain ⟨⟨old, he⟩, hit, hne, hae⟩ := st
    obtain ⟨xs, hq, hx⟩ := hg
    obtain ⟨its, rv, p, hz⟩ := I.tuple hq
    obtain ⟨f0, f1, f2, f3, f4, f5⟩ := hf it (by simp)
    have hl := rv.length
    have hgt : its.toArray[i]? = none := by simp; omega
    unfold pyNext
    refine wpAny_bind (wpAny_attempt (wpAny_callSpecial?_slot (name := Str.ofString "__next__") ⟨_, he, rfl⟩ F.slot_enumerate_next
      (wpAny_call_entry F.slot_enumerate_next ⟨_, he, rfl⟩ F.entry_enumerate_next ?_ (F.args_enumerate_next_1 _))))
    show wpAny _ _ (field (.ref e) 2 >>= _) _ _ _
    refine wpAny_bind (wpAny_field he rfl (x := .ref it) rfl ?_)
    refine wpAny_bind (wpAny_nextOf_tuple_end (I.ok.hd hc) hit p hgt fun h' z he' hz' => ?_)
    obtain ⟨o, ho, hcl⟩ := hz'
    refine wpAny_bind (wpAny_isInstance (T := "StopIteration") (b := true) ⟨o, ho, hcl⟩ isSubtype_stop ?_)
    exact wpAny_pure ⟨rfl, I.turned (t' := s.toks) (fun b o hb q => he' b o hb q) f0 f1 f3 f4 f5⟩
  self := fun A i s Q E st h => let ⟨⟨_, he⟩, _⟩ := st; wpAny_pyIter_enum he h
def iEnumT (K : PySem.W.Frag) (ta : TA) : TI := fun σ H R => ta σ H fun vs H1 => ∃ a xs, vs = [.ref a] ∧ SqT K H1 a xs ∧ R (IteT K a) H1
theorem pi_enumT {X : Cx} {e : Expr} {ta : TA} {p pos tpos : Pos} {elts : List Expr} {kk : Nat} (hg : Gl X "enumerate") (hm : X.mg "enumerate" = none) (ha : PA X [e] ta) (hs : starEach [e] X.env = [(false, eval e X.env)] := by rfl) :
    PI X (.Tuple elts kk tpos) (.Call (.Name "enumerate" p) [e] [] pos) (iEnumT X.K ta) := by
  refine ⟨fun pins s σ H R I h => ?_⟩
  refine Call_ (ld_blt I hg hm boot_enumerate (PyProof.Rows.callWith_type1 (thn (ha.run pos pins s σ H _ I h) fun us s1 ⟨vs, H1, I1, r1, q1⟩ => ?_) hs rfl))
  obtain ⟨a, xs, ex, hq, q⟩ := q1
  subst ex
  cases r1 with
  | cons r rr =>
    cases rr
    cases r
    obtain ⟨its, rv, p', hz⟩ := I1.tuple hq
    have hal : a < s1.heap.objs.size := p'.lt
    refine call_enumT (begins_tuple a its.toArray) p' fun h' he hit hk => wpAny_pyIter_enum he ?_
    have I2 : Inv X pins σ H1 { s1 with heap := h' } := I1.kept (t' := s1.toks) hk
    refine ⟨s1.heap.objs.size + 1, [s1.heap.objs.size + 1, s1.heap.objs.size], _, _, H1, rfl, I2, turn_enumT a (s1.heap.objs.size + 1) s1.heap.objs.size (Nat.ne_of_lt hal),
      ⟨⟨.none, he⟩, ⟨_, hit, rfl, rfl⟩, Nat.succ_ne_self _, Nat.ne_of_lt (Nat.lt_succ_of_lt hal)⟩, fun b hb => ?_, q⟩
    have hle : s1.heap.objs.size ≤ b := by
      rcases List.mem_cons.mp hb with z | z
      · rw [z]; exact Nat.le_add_right _ _
      · rw [List.mem_singleton.mp z]; exact Nat.le_refl _
    exact I1.fpOk hle (I1.hok.fresh hle)
end OwR
end
section
namespace OwR
open PySem PySem.Spec PyProof.Rows L2
/-! ### t[::-1], t a tuple -/
theorem places_back (n : Nat) : Builtin.Slice.slicePlaces ((n : Int) - 1) (-1) (-1) = n := by
  unfold Builtin.Slice.slicePlaces
  rw [if_neg (by decide)]
  split
  · have e : ((n : Int) - 1 - -1 - 1) / (- -1) + 1 = (n : Int) := by
      rw [show (- -1 : Int) = 1 by decide, Int.ediv_one]
      omega
    rw [e]
    exact Int.toNat_natCast n
  · rename_i h
    have : n = 0 := by omega
    subst this
    rfl
theorem fm_same {α β : Type} {f g : α → Option β} : ∀ l : List α, (∀ x ∈ l, f x = g x) → l.filterMap f = l.filterMap g
  | [], _ => rfl
  | x :: l, h => by
    rw [List.filterMap_cons, List.filterMap_cons, h x List.mem_cons_self, fm_same l fun y hy => h y (List.mem_cons_of_mem _ hy)]
theorem pick_back (xs : Array Value) : ((List.range xs.size).filterMap fun (m : Nat) => xs[(((xs.size : Int) - 1) + (m : Int) * (-1)).toNat]?) = xs.toList.reverse := by
  rw [← PySem.W.krv_all xs, ← List.filterMap_reverse, ← PySem.W.krv_range, List.filterMap_map]
  refine fm_same _ fun m hm => ?_
  have hlt := List.mem_range.mp hm
  have e : (((xs.size : Int) - 1) + (m : Int) * (-1)).toNat = xs.size - 1 - m := by omega
  rw [e]
  rfl
section
variable {prog : Program} {w : World} {A : Around} {E : Value → Shared → Prop} {s : Shared}
theorem applied_back {sl : Addr} {vl vu vs : Value} {n : Nat} {Q : Int × Int × Nat → Shared → Prop} (hs : s.heap.IsSliceOf sl vl vu vs) (pl : IsPart vl none) (pu : IsPart vu none) (ps : IsPart vs (some (-1)))
    (h : Q ((n : Int) - 1, -1, n) s) : wpAny (model prog w) A (Builtin.Slice.sliceApplied (.ref sl) (pure (n : Int))) Q E s := by
  obtain ⟨os, hos, hcs, hds⟩ := id hs
  unfold Builtin.Slice.sliceApplied Builtin.Slice.sliceFields
  refine wpAny_bind (wpAny_bind (wpAny_field hos hds (x := vl) rfl (wpAny_bind (wpAny_field hos hds (x := vu) rfl (wpAny_bind (wpAny_field hos hds (x := vs) rfl (wpAny_pure ?_)))))))
  refine wpAny_bind (HT.slicePart_ ps ?_)
  show wpAny _ _ (if ((-1 : Int) == 0) = true then _ else _) _ _ s
  rw [if_neg (by decide)]
  refine wpAny_bind (HT.slicePart_ pl (wpAny_bind (HT.slicePart_ pu (wpAny_bind (wpAny_pure ?_)))))
  show wpAny _ _ (pure ((n : Int) - 1, (-1 : Int), Builtin.Slice.slicePlaces ((n : Int) - 1) (-1) (-1))) _ _ s
  rw [places_back]
  exact wpAny_pure h
theorem getTup_back {t sl : Addr} {items : Array Value} {vl vu vs : Value} {Q : Value → Shared → Prop} (ht : IsTup s.heap t items) (hs : s.heap.IsSliceOf sl vl vu vs) (pl : IsPart vl none) (pu : IsPart vu none) (ps : IsPart vs (some (-1)))
    (hsz : items.size ≤ sizeLine) (h : Q (.ref s.heap.objs.size) { s with heap := s.heap.push { cls := .type "tuple", data := .seq items.toList.reverse.toArray } }) : wpAny (model prog w) A (getItem (.ref t) (.ref sl)) Q E s := by
  obtain ⟨os, hos, hcs, hds⟩ := id hs
  have hTs : s.TypeIs (.ref sl) "slice" := ⟨os, hos, hcs⟩
  have hok : sizeOk (.seq items.toList.reverse.toArray) := by
    show items.toList.reverse.toArray.size ≤ sizeLine
    rw [List.size_toArray, List.length_reverse, Array.length_toList]
    exact hsz
  unfold getItem
  try with_reducible refine wpAny_holding ?_
  first | refine wpAny_bind (wpAny_pure ?_) | skip
  refine wpAny_bind (wpAny_sequenceKey ht.typeIs (by decide) ?_)
  refine wpAny_bind (wpAny_callSpecial?_slot (name := Str.ofString "__getitem__") ht.typeIs PyProof.Rows.slot_tuple_getitem
    (wpAny_call_entry PyProof.Rows.slot_tuple_getitem ht.typeIs entry_tuple_getitem ?_ (args_tuple_getitem _ _)))
  show wpAny _ _ (Builtin.Tuple.tupleItemsOf (.ref t) >>= _) _ _ s
  refine wpAny_bind (tupleItemsOf_ ht (wpAny_bind (wpAny_typeOf hTs ?_)))
  rw [if_pos (by decide)]
  refine wpAny_bind (applied_back hs pl pu ps ?_)
  have hno : ¬ ((((items.size : Int) - 1) == 0 && (-1 : Int) == 1 && items.size == items.size) = true) := by
    intro q
    rw [Bool.and_eq_true, Bool.and_eq_true] at q
    exact absurd q.1.2 (by decide)
  show wpAny _ _ (if ((((items.size : Int) - 1) == 0 && (-1 : Int) == 1 && items.size == items.size) = true) then _ else _) _ _ s
  rw [if_neg hno]
  have e := pick_back items
  first
    | (rw [e]; exact wpAny_bind (m := Builtin.Tuple.tupleExact _) (wpAny_newObj_type (wpAny_pure ⟨_, rfl, wpAny_pure h⟩) hok))
    | (rw [e]; exact wpAny_bind (m := Builtin.Tuple.tupleExact _) (wpAny_newObj_type (wpAny_bind (wpAny_pure (wpAny_pure ⟨_, rfl, wpAny_pure h⟩))) hok))
    | (rw [e]; exact wpAny_bind (wpAny_bind (m := Builtin.Tuple.tupleExact _) (wpAny_newObj_type (wpAny_pure (wpAny_pure ⟨_, rfl, wpAny_pure h⟩)) hok)))
    | (rw [e]; exact wpAny_bind (wpAny_bind (m := Builtin.Tuple.tupleExact _) (wpAny_newObj_type (wpAny_pure ⟨_, rfl, wpAny_pure h⟩) hok)))
end
def tRevT (K : PySem.W.Frag) (te : TE) : TE := fun σ H Q => te σ H fun x H1 => ∃ a xs, x = .ref a ∧ SqT K H1 a xs ∧ ∀ p, H1 p = none → Q (.ref p) (upd H1 p (.tup xs.reverse))
theorem pe_revT {X : Cx} {e : Expr} {te : TE} {k : Nat} {p1 p2 p3 pos : Pos} (he : PE X e te) : PE X (.Subscript e (.Slice none none (some (.UnaryOp .USub (.Constant (.int 1) k p1) p2)) p3) pos) (tRevT X.K te) := by
  refine ⟨fun pins s σ H Q I h => ?_⟩
  refine Subscript_ (thn (he.run pins s σ H _ I h) fun v s1 ⟨x, H1, I1, r1, a, xs, ex, hx, q⟩ => ?_)
  subst ex
  cases r1
  have hst : PO X (some (.UnaryOp .USub (.Constant (.int 1) k p1) p2)) (tPart (tUn (rU fun i => .int (-i)) (tC (.int 1)))) := po_some (pe_un un_neg pe_int)
  refine wpAny_Slice (thn (po_none.run pins s1 σ H1 (fun o H2 => o = none ∧ H2 = H1) I1 ⟨rfl, rfl⟩) fun vl s2 ⟨l, H2, I2, pl, el, e2⟩ => ?_)
  subst el e2
  refine thn (po_none.run pins s2 σ H2 (fun o H3 => o = none ∧ H3 = H2) I2 ⟨rfl, rfl⟩) fun vu s3 ⟨u, H3, I3, pu, eu, e3⟩ => ?_
  subst eu e3
  refine thn (hst.run pins s3 σ H3 (fun o H4 => o = some (-1) ∧ H4 = H3) I3 ⟨1, rfl, -1, rfl, rfl, rfl⟩) fun vs s4 ⟨o, H4, I4, ps, eo, e4⟩ => ?_
  subst eo e4
  have I5 : Inv X pins σ H4 { s4 with heap := s4.heap.push { cls := .type "slice", data := .fields #[vl, vu, vs] } } := I4.kept (t' := s4.toks) fun b ob q => Heap.get?_push_of_some _ q
  obtain ⟨its, r, ht, hz⟩ := I5.tuple hx
  have hlen := r.length
  show wpAny (model X.prog X.w) X.A (subscriptTail e (.Slice none none (some (.UnaryOp .USub (.Constant (.int 1) k p1) p2)) p3) (.ref a) (.ref s4.heap.objs.size)) (EP X pins σ Q) X.xe { s4 with heap := s4.heap.push { cls := .type "slice", data := .fields #[vl, vu, vs] } }
  refine tail_any (ops := [.ref a, .ref s4.heap.objs.size]) ht.typeIs (PyProof.Rows.slot_tuple_getitem.lookup) ?_ (by with_unfolding_all rfl)
  refine getTup_back ht (Heap.IsSliceOf.new _ vl vu vs) pl pu ps (by rw [List.size_toArray]; omega) ?_
  refine ⟨.ref _, _, I5.laid (t' := s4.toks) (o := .tup xs.reverse) (fun b ob q => Heap.get?_push_of_some _ q) (Nat.le_refl _) ?_, rfl, q _ (I5.hok.fresh (Nat.le_refl _))⟩
  exact ⟨by rw [List.length_reverse]; exact hz, its.toArray.toList.reverse, r.reverse, ⟨_, Heap.get?_push_size _ rfl, rfl, 0, rfl⟩⟩
end OwR
end
section
namespace OwR
open PySem PySem.Spec PyProof.Rows L2
/-! ### def f(a, .., **d), called without keywords: an empty dict beside -/
section
variable {CX : CXT} {P : Program} {w : World} {K : PySem.W.Frag} {mg : Str → Option Value} {base : Heap} {k : Nat} {f : Addr} {name qual : Str} {params : Arguments} {body : List Stmt} {scope : Scope} {dV kV doc pm cdv ct oc : Value} {an od : Option Addr}
  {osl : Array (Option Value)} {N ps : List Str} {sp : Sp}
theorem fn_kw {pd : Str} (lk : K.lookup f = some ⟨oc, od, .func (PySem.W.fnOf name qual params body scope dV kV doc pm an cdv ct), osl⟩) (hcd : PySem.W.codeIn K cdv qual = true) (S : FnScope N (ps ++ [pd]) scope) (hCX : StX.CXUp CX)
    (hb : ∀ us : List Value, us.length = ps.length → bindArgs (PySem.W.fnOf name qual params body scope dV kV doc pm an cdv ct) ⟨us, []⟩ = ((alloc ({ cls := .type "dict", data := .dict #[] } : Obj) : Sem Addr) >>= fun d => pure (ps.zip us ++ [(pd, Value.ref d)])))
    (hbody : ∀ (A : Around) (outer : List Env) (s : Shared) (H : Hp) (vs : List V) (Q : VK) (E : XK), Room k (A.deeper (envOfC qual scope s.heap.objs.size f cdv)) → sp vs H Q E →
      ∃ t, PSs (cxOf CX P w K mg base N qual scope f cdv A outer s H E) body t ∧ t { nx := fun _ H' => Q .non H', rt := Q } (start N vs) H) :
    FnR P w K mg base CX (k + 1) f (fun vs H Q E => vs.length = ps.length ∧ ∀ d, H d = Option.none → sp (vs ++ [V.ref d]) (upd H d (.dK [])) Q E) := by
  intro A outer s H us vs Q E hr e0 r hsp
  obtain ⟨hl, hq⟩ := hsp
  have hn : H s.heap.objs.size = Option.none := e0.hok.fresh (Nat.le_refl _)
  have hl1 : us.length = ps.length := by rw [← r.length]; exact hl
  refine StX.run_bnd lk hcd S hr e0 (G := fun xs H2 => ∃ d, H d = Option.none ∧ xs = vs ++ [V.ref d] ∧ H2 = upd H d (.dK [])) (fun A' Ex Q' h => ?_) fun s2 H2 xs ⟨d, hd, ex, eH⟩ hr' => ?_
  · rw [hb us hl1]
    refine wpAny_bind (wpAny_alloc (wpAny_pure ?_))
    have e1 := StX.env0_laid (u := .dK []) (o := ({ cls := .type "dict", data := .dict #[] } : Obj)) e0 (dk_empty _ (StX.env0_big e0))
    have un := StX.un_laid (fs := frs outer) (s := s) (o := ({ cls := .type "dict", data := .dict #[] } : Obj)) (u := .dK []) hn
    have z := h _ _ (vs ++ [V.ref s.heap.objs.size]) (us ++ [Value.ref s.heap.objs.size]) e1 un rfl (fun e s' => hCX outer s H _ _ E e s' un (fun b o q => Heap.get?_push_of_some _ q) rfl) (r.append (.cons rfl .nil))
      (by rw [List.length_append, List.length_append, hl] <;> rfl) ⟨_, hn, rfl, rfl⟩
    rw [List.zip_append hl1.symm] at z
    exact z
  · subst ex eH
    exact hbody A outer s2 _ _ Q E hr' (hq d hd)
/-! ### a def called where no guard stands (repr of lists wants that) -/
def FnG (P : Program) (w : World) (K : PySem.W.Frag) (mg : Str → Option Value) (base : Heap) (CX : CXT) (k : Nat) (f : Addr) (fd : FuncData) (ps : List Str) (sp : Sp) : Prop :=
  ∀ (A : Around) (outer : List Env) (s : Shared) (H : Hp) (args : Args) (us : List Value) (vs : List V) (Q : VK) (E : XK), A.guards = some [] → Room k A → Env0 P w K mg base A outer s H → BindsTo s fd args (ps.zip us) → Vals vs us → sp vs H Q E →
    codeAny (model P w) A (.call (.ref f) args) (CR CX outer P w H s Q E) s
theorem fn_ofG (lk : K.lookup f = some ⟨oc, od, .func (PySem.W.fnOf name qual params body scope dV kV doc pm an cdv ct), osl⟩) (hcd : PySem.W.codeIn K cdv qual = true) (S : FnScope N ps scope)
    (len : ∀ vs H Q E, sp vs H Q E → vs.length = ps.length)
    (hbody : ∀ (A : Around) (outer : List Env) (s : Shared) (H : Hp) (vs : List V) (Q : VK) (E : XK), A.guards = some [] → Room k (A.deeper (envOfC qual scope s.heap.objs.size f cdv)) → sp vs H Q E →
      ∃ t, PSs (cxOf CX P w K mg base N qual scope f cdv A outer s H E) body t ∧ t { nx := fun _ H' => Q .non H', rt := Q } (start N vs) H) :
    FnG P w K mg base CX (k + 1) f (PySem.W.fnOf name qual params body scope dV kV doc pm an cdv ct) ps sp := by
  intro A outer s H args us vs Q E hgd hr e0 hb r hsp
  have hl := len _ _ _ _ hsp
  have KS : K.In s.heap := e0.mod.kin.keeps fun b o e => (e0.bs b o e).1
  have lims : s.heap.NoLimit := e0.mod.nolimit.keeps fun b o e => (e0.bs b o e).1
  have kinds : ∀ y ∈ ps.zip us, scope.names.lookup y.1 = some .local ∨ (scope.names.lookup y.1 = some .cell ∧ ((cellsFrom (s.heap.objs.size + 1) scope.names []).lookup y.1).isSome = true) := fun y hy =>
    (S.par y.1 (List.of_mem_zip hy).1).imp id fun q => ⟨q, PySem.W.cellsFrom_some _ _ _ (.inl q)⟩
  refine codeAny_call_function hr.depth (KS _ _ lk) rfl S.co S.gen rfl (PySem.W.codeRec_of KS hcd) (hb _ _ _ _ ?_)
  refine wpAny_newFunctionEnv_cells S.kind kinds fun env he s1 x => ?_
  subst he
  refine ⟨lims.keeps x.toInCall.keep, codeAny_func ?_⟩
  obtain ⟨t, ht, hq⟩ := hbody A outer s H vs Q E hgd (hr.deeper _) hsp
  have I : Inv (cxOf CX P w K mg base N qual scope f cdv A outer s H E) [] (start N vs) H s1 := inv_start S hr.hd e0 hl r x
  refine wpAny_mono (ht.run [] s1 (start N vs) H _ I hq) (fun fl s' hs => ?_) fun _ _ z => z
  have done : ∀ {σ' : L2.St} {H' : Hp} {v : V} {u : Value}, Inv (cxOf CX P w K mg base N qual scope f cdv A outer s H E) [] σ' H' s' → RelV v u → Q v H' → CE outer P w H s Q u s' :=
    fun {σ' H' v u} J rv q => ⟨v, H', J.os, J.bare, J.base, J.hok, rv, q⟩
  cases fl with
  | ret u =>
    obtain ⟨v, σ', H', J, rv, q⟩ := hs
    exact done J rv q
  | next =>
    obtain ⟨σ', H', J, q⟩ := hs
    exact done (v := V.non) (u := Value.none) J rfl q
  | brk => exact (hs.elim fun _ z => z.elim fun _ z => z.2.elim)
  | cont => exact (hs.elim fun _ z => z.elim fun _ z => z.2.elim)
end
/-! ### repr of data -/
def rReprD (K : PySem.W.Frag) : List V → Hp → VK → Prop := fun vs H Q => ∃ a d, vs = [V.ref a] ∧ Dp K H (.ref a) d ∧ d.showable = true ∧ d.hasDict = false ∧ d.depth ≤ 64 ∧ d.shown.length ≤ sizeLine ∧ Q (.str d.shown) H
theorem cr_reprD {X : Cx} (hg : X.A.guards = some []) (hu : X.A.units + 70 < cLine) : CallR X (.builtin "repr") (rReprD X.K) := by
  intro pins s σ H vs us Q I r h
  obtain ⟨a, d, rfl, hd, hs, hnd, hdp, hsz, q⟩ := h
  rw [Vals.ref1 r]
  obtain ⟨as, R⟩ := Dp.reads I d _ (.ref a) hd rfl
  refine repr_of_reads' R hs (fun z => by rw [hnd] at z; cases z) hg (by omega) (fun _ _ e => e) (fun h' u tk k => ?_) hsz
  exact ⟨.str d.shown, H, I.kept (t' := tk) k, ⟨u, rfl⟩, q⟩
/-! ### an object called with keywords alone -/
theorem callOK_of {M : Model} {A : Around} {E : Value → Shared → Prop} {s : Shared} {a : Addr} {pos : Pos} {Q : Value → Shared → Prop} {args : List (Bool × Sem Value)} {kws : List (Option Str × Sem Value)} (hpl : (args.any (·.1) || kws.any (·.1.isNone)) = false)
    (h : wpAny M A (evalArgs (.ref a) true args kws) (fun z s₁ => (∃ C ox od, PySem.W.InstAt s₁.heap a ox C od ∧ ox.data = .plain) ∧ wpAny M A (call (.ref a) ([] ++ z.pos) z.kw) Q E s₁) E s) : wpAny M A (callWith pos (.ref a) [] args kws) Q E s := by
  unfold callWith
  refine wpAny_bind (wpAny_holding (wpAny_mono h (fun z s₂ h₁ => wpAny_bind (wpAny_standAt ?_)) fun _ _ y => y))
  obtain ⟨⟨C, ox, od, J, hd⟩, h₂⟩ := h₁
  have L := PySem.W.kco_keeper (M := M) J hd
  simp only [hpl]
  refine wpAny_bind (L.here ?_)
  have rest : ∀ {t : Sem Value}, wpAny M A t Q E s₂ → wpAny M A (t >>= fun r => holding [r] point >>= fun _ => pure r) Q E s₂ :=
    fun ht => wpAny_bind (wpAny_mono ht (fun _ _ hr => wpAny_bind (wpAny_holding (wpAny_point (wpAny_pure hr)))) fun _ _ y => y)
  exact rest (wpAny_operateT h₂)
section
variable {X : Cx} {CX : CXT} {k : Nat} {C g : Addr} {fd : FuncData} {ps ks : List Str} {sp : Sp} {E : XK} {fe : Expr} {kws : List Keyword} {tf : TE} {tk : TA} {pos : Pos} {gg : List Value → List Value → List Value} {gV : List V → List V → List V}
def tCallOK (X : Cx) (C : Addr) (sp : Sp) (gV : List V → List V → List V) (E : XK) (tf : TE) (tk : TA) : TE := fun σ H Q => tf σ H fun y H1 => ∃ a, y = V.ref a ∧ tk σ H1 fun zs H2 => StX.InsC X H2 a C ∧ sp (gV [V.ref a] zs) H2 Q E
theorem pe_callOK (hf : PE X fe tf) (c : StX.CallO X.K C g) (F : FnOk X.prog X.w X.K X.mg X.base CX k g fd ps sp) (hr : Room k X.A) (hb : KBinds X.K fd ps ks gg gV) (hx : Passes CX X E) (hkw : PK X kws tk)
    (ht : eval (.Call fe [] kws pos) X.env = (do callWith pos (← eval fe X.env) [] (backTo pos (starEach [] X.env)) (backToKw pos (keywordEach kws X.env))) := by rfl)
    (hall : (backToKw pos (keywordEach kws X.env)).all (·.1.isSome) = true := by rfl) (hks : (backToKw pos (keywordEach kws X.env)).filterMap (·.1) = ks := by rfl)
    (hpl : ((backTo pos (starEach [] X.env)).any (·.1) || (backToKw pos (keywordEach kws X.env)).any (·.1.isNone)) = false := by rfl) : PE X (.Call fe [] kws pos) (tCallOK X C sp gV E tf tk) := by
  refine ⟨fun pins s σ H Q I h => ?_⟩
  rw [ht]
  refine wpAny_bind (thn (hf.run pins s σ H _ I h) fun u s1 ⟨y, H1, I1, ry, a, ey, q⟩ => ?_)
  subst ey
  obtain rfl : u = Value.ref a := ry
  refine callOK_of hpl (evalArgs_kw2_nil hall (thn (hkw.run pos pins s1 σ H1 _ I1 q) fun ws s2 ⟨zs, H2, I2, rz, hi, q2⟩ => ?_))
  obtain ⟨ox, od, J, hd⟩ := StX.insC_at I2 hi
  refine ⟨⟨C, ox, od, J, hd⟩, ?_⟩
  rw [hks]
  have r1 : Vals [V.ref a] [Value.ref a] := .cons rfl .nil
  have r2 := hb.rel r1 rz
  have hl : (gg [Value.ref a] ws).length = ps.length := by rw [← r2.length]; exact F.len _ _ _ _ q2
  refine wpAny_call (PySem.W.kco_code I2.kIn J hd c.at_ c.fn c.fi (codeAny_mono (F.run X.A X.stack s2 H2 ⟨[.ref a], ks.zip ws⟩ (gg [.ref a] ws) (gV [.ref a] zs) Q E hr I2.env0 (hb.to s2 [.ref a] ws I2.kIn hl) r2 q2) fun r s' hq => ?_))
  cases r with
  | error e => exact hx pins σ H2 s2 e s' I2 hq
  | ok fl =>
    cases fl with
    | ret u => exact I2.after hq
    | next => exact False.elim hq
    | brk => exact False.elim hq
    | cont => exact False.elim hq
end
end OwR
end
section
/-! Own: a law by a promise that wants no guard about it, where lambdas are made: with the tables of the code that makes them. -/
namespace OwR
open PySem PySem.Spec PyProof.Rows L2
abbrev tabO : Obj := { cls := .none, data := .fields #[] }
/-- what is followed: the script where the written part does not hold it, the tables -/
def scrT (K : PySem.W.Frag) (a : Addr) (ob : Obj) (xs : List V) (ts : List Addr) : Hp := fun b => if b = a then (if K.lookup a = none then some (.frz ob (.lst xs)) else none) else if b ∈ ts then some (.tbl #[]) else none
theorem scrT_cases (K : PySem.W.Frag) (a : Addr) (ob : Obj) (xs : List V) (ts : List Addr) (b : Addr) : scrT K a ob xs ts b = none ∨ (b = a ∧ K.lookup a = none ∧ scrT K a ob xs ts b = some (.frz ob (.lst xs))) ∨ (b ≠ a ∧ b ∈ ts ∧ scrT K a ob xs ts b = some (.tbl #[])) := by
  unfold scrT
  by_cases c : b = a
  · rw [if_pos c]
    by_cases d : K.lookup a = none
    · rw [if_pos d]
      exact .inr (.inl ⟨c, d, rfl⟩)
    · rw [if_neg d]
      exact .inl rfl
  · rw [if_neg c]
    by_cases d : b ∈ ts
    · rw [if_pos d]
      exact .inr (.inr ⟨c, d, rfl⟩)
    · rw [if_neg d]
      exact .inl rfl
theorem law_callTG {P : Program} {w : World} {K : PySem.W.Frag} {mg mb : Str → Option Value} {k : Nat} {fn a : Addr} {cs : List (Addr × Addr)} {fd : FuncData} {x : Str} {sp : Sp} {t : Shared} {us : List Value} {zs : List Int} (hK : K.In t.heap) (hG : t.heap.Ns mainGlobals mg)
    (hB : t.heap.Ns builtinsNs mb) (hBB : ∀ y : Str, y ≠ "__name__" → mb y = bootBuiltins y) (hL : t.heap.NoLimit) (hN : t.gens = #[]) (hO : t.heap.get? a = some ({ cls := .type "list", data := .seq us.toArray } : Obj)) (hI : IntsAre us zs)
    (hT : ∀ e ∈ cs, t.heap.get? e.2 = some tabO) (hX : ∀ e ∈ cs, K.lookup e.2 = none) (hC : ∀ e ∈ cs, PySem.W.CodeHd t.heap e.1 e.2)
    (hM : ∃ (m : Addr) (mo : Obj), mg "__builtins__" = some (.ref m) ∧ m ≠ builtinsNs ∧ t.heap.get? m = some mo ∧ mo.cls = .type "module" ∧ mo.dict = some builtinsNs ∧ mo.data = .plain)
    (hz : zs.length ≤ sizeLine) (hr : Room k callerA) (F : ∀ base : Heap, K.In base → base.Ns mainGlobals mg → (∀ e ∈ cs, LamX.TabB base mg e.1 e.2) → FnG P w K mg base CX0 k fn fd [x] sp) (hb : ∀ (s : Shared) (u : Value), BindsTo s fd ⟨[u], []⟩ [(x, u)])
    (hS : ∀ G : Hp, (∀ e ∈ cs, G e.2 = some (.tbl #[])) → SqL K G a (zs.map V.int) → sp [.ref a] G (fun v _ => v = .bl true) fun _ _ _ => False) :
    codeAny (model P w) callerA (.call (.ref fn) ⟨[.ref a], []⟩) (fun r s' => r = .ok (.ret (.bool true)) ∧ OldK t.heap s'.heap ∧ s'.os = t.os ∧ AllBare s'.gens) t := by
  have rel := vals_ints hI
  have le := hI.length
  obtain ⟨ts, ets⟩ : ∃ ts, ts = cs.map (·.2) := ⟨_, rfl⟩
  have atT : ∀ b, b ∈ ts → t.heap.get? b = some tabO ∧ K.lookup b = none ∧ ∃ e ∈ cs, e.2 = b := fun b hb => by
    rw [ets] at hb
    obtain ⟨e, he, rfl⟩ := List.mem_map.mp hb
    exact ⟨hT e he, hX e he, e, he, rfl⟩
  have inT : ∀ e ∈ cs, e.2 ∈ ts := fun e he => by
    rw [ets]
    exact List.mem_map.mpr ⟨e, he, rfl⟩
  have aT : ∀ e ∈ cs, e.2 ≠ a := fun e he q => by
    have h := hT e he
    rw [q, hO] at h
    cases h
  obtain ⟨G, eG⟩ : ∃ G, G = scrT K a ({ cls := .type "list", data := .seq us.toArray } : Obj) (zs.map V.int) ts := ⟨_, rfl⟩
  have three : ∀ b, G b = none ∨ (b = a ∧ K.lookup a = none ∧ G b = some (.frz { cls := .type "list", data := .seq us.toArray } (.lst (zs.map V.int)))) ∨ (b ≠ a ∧ b ∈ ts ∧ G b = some (.tbl #[])) := fun b => by
    rw [eG]
    exact scrT_cases K a _ _ ts b
  have GT : ∀ e ∈ cs, G e.2 = some (.tbl #[]) := fun e he => by
    rw [eG]
    unfold scrT
    rw [if_neg (aT e he), if_pos (inT e he)]
  have sq : SqL K G a (zs.map V.int) := by
    cases l : K.lookup a with
    | some ob =>
      have e := (hK a ob l).symm.trans hO
      cases e
      exact .inr ⟨_, us.toArray, _, l, rfl, rfl, rfl, by rw [List.size_toArray, le]; exact hz, by simpa using rel⟩
    | none =>
      refine .inl (.inr ⟨({ cls := .type "list", data := .seq us.toArray } : Obj), ?_⟩)
      rw [eG]
      unfold scrT
      rw [if_pos rfl, if_pos l]
  have gone : ∀ {b : Addr} {ob : Obj}, t.heap.get? b = some ob → (∀ vs n, ob.data ≠ .seq vs n) → ob.data ≠ .fields #[] → G b = none := fun {b ob} e nd nf => by
    rcases three b with c | ⟨rfl, _, _⟩ | ⟨_, hb, _⟩
    · exact c
    · rw [hO] at e
      cases e
      exact absurd rfl (nd us.toArray 0)
    · rw [(atT b hb).1] at e
      cases e
      exact absurd rfl nf
  have nsp : ∀ {b : Addr} {m : Str → Option Value}, t.heap.Ns b m → (hidT t.heap G).Ns b m := fun {b m} h => by
    obtain ⟨ob, es, ep, e1, e2, e3⟩ := h
    exact ⟨ob, es, ep, hidT_get e1 (gone e1 (fun vs n q => by rw [e2] at q; cases q) fun q => by rw [e2] at q; cases q), e2, e3⟩
  have kin : K.In (hidT t.heap G) := fun b ob l => hidT_get (hK b ob l) (by
    rcases three b with c | ⟨rfl, c, _⟩ | ⟨_, hb, _⟩
    · exact c
    · rw [c] at l
      cases l
    · rw [(atT b hb).2.1] at l
      cases l)
  have lim : (hidT t.heap G).NoLimit := by
    obtain ⟨mc, h1, h2⟩ := hL
    exact ⟨mc, nsp h1, h2⟩
  have ok : HOk P w G t.heap := fun b u e => by
    rcases three b with c | ⟨rfl, _, c⟩ | ⟨_, hb, c⟩
    · rw [c] at e
      cases e
    · rw [c] at e
      cases e
      exact ⟨hO, by rw [List.length_map]; exact hz, us, _, rel, hO⟩
    · rw [c] at e
      cases e
      exact (atT b hb).1
  have env : Env0 P w K mg (hidT t.heap G) callerA [] t G := { frames := rfl, mod := ⟨kin, nsp hG, ⟨mb, nsp hB, hBB⟩, lim⟩, bs := fun _ _ e => of_hidT e, bsz := Nat.le_of_eq (hidT_size _ _), funs := True.intro, frf := fun _ h => absurd h List.not_mem_nil, hok := ok, bare := .of_eq hN }
  have TB : ∀ e ∈ cs, LamX.TabB (hidT t.heap G) mg e.1 e.2 := fun e he => by
    have hP := hT e he
    constructor
    · obtain ⟨co, cv, fi, tf, fl, tg, nf, tx, tt, q0, q1, q2, q3, q4, q5, q6, q7, q8, q9⟩ := hC e he
      have gc : G e.1 = none := gone q0 (fun vs n q => by rw [q2] at q; cases q) fun q => by
        rw [q2] at q
        cases q
        simp at q3
      exact ⟨co, cv, fi, tf, fl, tg, nf, tx, tt, hidT_get q0 gc, q1, q2, q3, q4, q5, q6, q7, q8, q9⟩
    · obtain ⟨m, mo, b1, b2, b3, b4, b5, b6⟩ := hM
      have n1 : m ≠ mainGlobals := fun q => by
        obtain ⟨o, es, ep, e1, e2, _⟩ := hG
        rw [q, e1] at b3
        cases b3
        rw [e2] at b6
        cases b6
      have n2 : m ≠ e.2 := fun q => by
        rw [q, hP] at b3
        cases b3
        cases b6
      have gm : G m = none := gone b3 (fun vs n q => by rw [b6] at q; cases q) fun q => by
        rw [b6] at q
        cases q
      exact ⟨m, mo, b1, b2, n1, n2, hidT_get b3 gm, b4, b5, b6⟩
    · intro q
      obtain ⟨o, es, ep, e1, e2, _⟩ := hG
      rw [q, hP] at e1
      cases e1
      cases e2
  have run := F (hidT t.heap G) kin (nsp hG) TB callerA [] t G ⟨[.ref a], []⟩ [.ref a] [.ref a] _ _ rfl hr env (hb t (.ref a)) (.cons rfl .nil) (hS G GT sq)
  refine codeAny_mono run fun r s' h => ?_
  match r, h with
  | .error _, h => exact h.elim
  | .ok (.ret u), h =>
    obtain ⟨v, G', os, br, un, ok', rv, qv⟩ := h
    have ev : v = .bl true := qv
    subst ev
    obtain rfl : u = Value.bool true := rv
    have kept : ∀ b ob, b ∉ ts → t.heap.get? b = some ob → s'.heap.get? b = some ob := fun b ob nb e => by
      rcases three b with c | ⟨rfl, _, c⟩ | ⟨_, hb, _⟩
      · exact un.keep b ob e c List.not_mem_nil List.not_mem_nil
      · have e2 := (ok' b _ (un.frzs b _ _ c)).1
        rw [hO] at e
        cases e
        exact e2
      · exact absurd hb nb
    have more : ∀ e ∈ cs, ∃ vs : Array Value, s'.heap.get? e.2 = some ({ cls := .none, data := .fields vs } : Obj) := fun e he => by
      obtain ⟨vs, q⟩ := un.tbls e.2 #[] (GT e he)
      exact ⟨_, ok' e.2 _ q⟩
    refine ⟨rfl, ⟨fun b ob e => ?_, fun b ob e => ?_⟩, os, br⟩
    · by_cases hb : b ∈ ts
      · obtain ⟨et, _, q, hq, rfl⟩ := atT b hb
        obtain ⟨vs, em⟩ := more q hq
        rw [et] at e
        cases e
        exact .inr (.inl ⟨((hC q hq).tab et).isCodeTable, rfl, #[], vs, rfl, by rw [Array.empty_append]; exact em⟩)
      · exact .inl (kept b ob hb e)
    · by_cases hb : b ∈ ts
      · obtain ⟨_, _, q, hq, rfl⟩ := atT b hb
        obtain ⟨vs, em⟩ := more q hq
        exact ⟨_, em⟩
      · exact ⟨ob, kept b ob hb e⟩
/-- .. as the end of a law over a head by facts -/
theorem walk_ofTG {l : PySem.W.OpenLaw} {n k : Nat} {q : Program} {loose : List Str} {XP : (Str → Option Value) → Heap → Prop} {YP : World → Heap → Prop} {d : DefRec} {x : Str} (most : l.most = some n) (small : n ≤ sizeLine) (nodf : d.params.defaults = []) (room : Room k callerA)
    (F : ∀ (w : World) (mg : Str → Option Value) (fn : Addr) (h : Heap), YP w h → h.Ns mainGlobals mg → mg d.name = some (.ref fn) → ∃ (K : PySem.W.Frag) (fd : FuncData) (cs : List (Addr × Addr)) (sp : Sp), K.In h ∧ (∀ e ∈ cs, h.get? e.2 = some tabO) ∧ (∀ e ∈ cs, K.lookup e.2 = none) ∧ (∀ e ∈ cs, PySem.W.CodeHd h e.1 e.2) ∧
      (∀ (s : Shared) (u : Value), BindsTo s fd ⟨[u], []⟩ [(x, u)]) ∧ (∀ (G : Hp) (a : Addr) (zs : List Int), zs.length ≤ n → (∀ e ∈ cs, G e.2 = some (.tbl #[])) → SqL K G a (zs.map V.int) → sp [.ref a] G (fun v _ => v = .bl true) fun _ _ _ => False) ∧
      ∀ base : Heap, K.In base → base.Ns mainGlobals mg → (∀ e ∈ cs, LamX.TabB base mg e.1 e.2) → FnG l.prog w K mg base CX0 k fn fd [x] sp) :
    PySem.W.WalkO q loose XP YP l.row.toRowW d [] (fun f vs => PySem.call f vs) := by
  refine Att.attach_callB most nodf fun w s0 t mg mb fn o pm cd doc a us zs G Y _ _ _ hmg hO hI hz _ hN => ?_
  obtain ⟨K, fd, cs, sp, hK, hT, hX, hC, hb, hS, hF⟩ := F w mg fn _ Y G.T.g hmg
  exact law_callTG hK G.T.g G.T.b G.T.builtins G.T.nolimit hN hO hI hT hX hC G.T.bmain (Nat.le_trans hz small) room hF hb fun G' g sq => hS G' a zs hz g sq
end OwR
end
section
/-! What the end of the top says of named classes, of the records in them and of their defs. Own. -/
namespace OwH
open PySem PySem.Spec PyProof.Rows L2
/-- the def within a record (a class method, a static one, a property) -/
def inRec (K : PySem.W.Frag) (p : Addr) (kind : String) : Addr := match PySem.W.recIn K p kind with
  | some (.ref g :: _) => g
  | _ => 0
def recOk (K : PySem.W.Frag) (p : Addr) (kind : String) : Bool := match PySem.W.recIn K p kind with
  | some (.ref _ :: _) => true
  | _ => false
theorem recOk_ok {K : PySem.W.Frag} {p : Addr} {kind : String} (h : recOk K p kind = true) : ∃ rest, PySem.W.recIn K p kind = some (.ref (inRec K p kind) :: rest) := by
  unfold recOk at h
  unfold inRec
  cases e : PySem.W.recIn K p kind with
  | none =>
    rw [e] at h
    cases h
  | some l =>
    rw [e] at h
    match l, h with
    | .ref g :: r, _ => exact ⟨r, rfl⟩
def getB (x : Option PySem.W.CFound) (id : String) (p C : Addr) : Bool := match x with
  | some (.get (.builtin i) (.ref q) .none (.ref D)) => decide (i = id) && (decide (q = p) && decide (D = C))
  | _ => false
theorem getB_ok {x : Option PySem.W.CFound} {id : String} {p C : Addr} (h : getB x id p C = true) : x = some (.get (.builtin id) (.ref p) .none (.ref C)) := by
  unfold getB at h
  split at h
  · obtain ⟨h1, h2⟩ := Bool.and_eq_true_iff.mp h
    obtain ⟨h3, h4⟩ := Bool.and_eq_true_iff.mp h2
    rw [of_decide_eq_true h1, of_decide_eq_true h3, of_decide_eq_true h4]
  · cases h
def valB (x : Option PySem.W.CFound) (g : Addr) : Bool := match x with
  | some (.val (.ref q)) => decide (q = g)
  | _ => false
theorem valB_ok {x : Option PySem.W.CFound} {g : Addr} (h : valB x g = true) : x = some (.val (.ref g)) := by
  unfold valB at h
  split at h
  · rw [of_decide_eq_true h]
  · cases h
abbrev ga := He.ga
/-- what the class named x holds under m -/
def mo (K : PySem.W.Frag) (x m : Str) : Addr := He.ma K (ga K x) m
def fRead (x : Str) (K : PySem.W.Frag) : Bool := PySem.W.readsIn K (ga K x) (.type "type") && He.eqO (PySem.W.specialIn K (.ref (ga K x)) "__getattribute__") (some (some (.builtin "type.__getattribute__")))
def fCMet (x m : Str) (K : PySem.W.Frag) : Bool := getB (PySem.W.findCls K (.ref (ga K x)) (.type "type") m) "classmethod.__get__" (mo K x m) (ga K x) && (recOk K (mo K x m) "classmethod" && PySem.W.fnIn K (inRec K (mo K x m) "classmethod"))
def fCSta (x m : Str) (K : PySem.W.Frag) : Bool := getB (PySem.W.findCls K (.ref (ga K x)) (.type "type") m) "staticmethod.__get__" (mo K x m) (ga K x) && (recOk K (mo K x m) "staticmethod" && PySem.W.keepIn K (.ref (inRec K (mo K x m) "staticmethod")))
def fCFun (x m : Str) (K : PySem.W.Frag) : Bool := valB (PySem.W.findCls K (.ref (ga K x)) (.type "type") m) (mo K x m) && PySem.W.keepIn K (.ref (mo K x m))
def fSpc (x m : Str) (K : PySem.W.Frag) : Bool := He.eqO (PySem.W.findIn K (.ref (ga K x)) m) (some (some (.ref (mo K x m)))) && (PySem.W.isFn K (.ref (mo K x m)) && PySem.W.fnIn K (mo K x m))
def fProp (x m : Str) (K : PySem.W.Frag) : Bool := He.eqO (PySem.W.findIn K (.ref (ga K x)) m) (some (some (.ref (mo K x m)))) && (He.eqO (PySem.W.specialIn K (.ref (mo K x m)) "__get__") (some (some (.builtin "property.__get__"))) && (decide (PySem.W.takesIn K (.ref (mo K x m)) = some true) && recOk K (mo K x m) "property"))
section
variable {K : PySem.W.Frag} {x m : Str}
theorem two {a b : Bool} (h : (a && b) = true) : a = true ∧ b = true := Bool.and_eq_true_iff.mp h
theorem read_ok (h : fRead x K = true) : ClX.CRead K (ga K x) (.type "type") := ⟨(two h).1, He.eqO_ok (two h).2⟩
theorem cmet_ok (h : fCMet x m K = true) : ClX.CMet K (ga K x) (.type "type") m (mo K x m) (inRec K (mo K x m) "classmethod") := ⟨getB_ok (two h).1, recOk_ok (two (two h).2).1, (two (two h).2).2⟩
theorem csta_ok (h : fCSta x m K = true) : OwR.CSta K (ga K x) (.type "type") m (mo K x m) (inRec K (mo K x m) "staticmethod") := ⟨getB_ok (two h).1, recOk_ok (two (two h).2).1, (two (two h).2).2⟩
theorem cfun_ok (h : fCFun x m K = true) : OwR.CFun K (ga K x) (.type "type") m (mo K x m) := ⟨valB_ok (two h).1, (two h).2⟩
theorem spc_ok (h : fSpc x m K = true) : OwR.Spc K (ga K x) (mo K x m) m := ⟨He.eqO_ok (two h).1, (two (two h).2).1, (two (two h).2).2⟩
theorem callo_ok (h : fSpc x "__call__" K = true) : StX.CallO K (ga K x) (mo K x "__call__") := ⟨He.eqO_ok (two h).1, (two (two h).2).1, (two (two h).2).2⟩
theorem prop_ok (h : fProp x m K = true) : PropOf K (ga K x) m (mo K x m) (inRec K (mo K x m) "property") := ⟨He.eqO_ok (two h).1, He.eqO_ok (two (two h).2).1, of_decide_eq_true (two (two (two h).2).2).1, recOk_ok (two (two (two h).2).2).2⟩
end
/-! ### defs -/
structure DX where
  adr : PySem.W.Frag → Addr
  name : Str
  qual : Str
  st : Stmt
abbrev FX : Type := Option (Str × Str × Arguments × FuncBody × Scope × Addr × List (Str × Addr) × Value × Addr)
def seeF (K : PySem.W.Frag) (a : Addr) : FX := match K.lookup a with
  | some ⟨_, _, .func fd, _⟩ => some (fd.name, fd.qualname, fd.params, fd.body, fd.scope, fd.globals, fd.closure, fd.defaults, fd.builtins)
  | _ => none
def codB (K : PySem.W.Frag) (a : Addr) (qual : Str) : Bool := PySem.W.keepIn K (.ref a) && (match K.lookup a with
  | some ⟨_, _, .func fd, _⟩ => PySem.W.codeIn K fd.code qual
  | _ => false)
def DX.val (d : DX) : FX := some (d.name, d.qual, defArgs d.st, .stmts (defBody d.st), defScope d.st, mainGlobals, [], .none, builtinsNs)
theorem DX.fun_ {K : PySem.W.Frag} {d : DX} (h1 : seeF K (d.adr K) = d.val) (h2 : codB K (d.adr K) d.qual = true) : ∃ fd, Fun K d.name d.qual d.st (d.adr K) fd := by
  obtain ⟨kp, cd⟩ := two h2
  unfold seeF at h1
  cases l : K.lookup (d.adr K) with
  | none =>
    rw [l] at cd
    cases cd
  | some ob =>
    obtain ⟨oc, od, dt, osl⟩ := ob
    rw [l] at h1 cd
    match dt, h1, cd with
    | .func f, h1, cd =>
      obtain ⟨a1, a2, a3, a4, a5, a6, a7, a8, a9, a10, a11, a12, a13, a14, a15⟩ := f
      have e : (some (a1, a2, a3, a4, a5, a6, a7, a8, a15) : FX) = some (d.name, d.qual, defArgs d.st, .stmts (defBody d.st), defScope d.st, mainGlobals, [], .none, builtinsNs) := h1
      injection e with e
      injection e with e1 e
      injection e with e2 e
      injection e with e3 e
      injection e with e4 e
      injection e with e5 e
      injection e with e6 e
      injection e with e7 e
      injection e with e8 e9
      subst e1 e2 e3 e4 e5 e6 e7 e8 e9
      exact ⟨_, ⟨⟨oc, od, a9, a10, a11, a12, a13, a14, osl, rfl, l, cd⟩, kp⟩⟩
/-! ### the hook -/
abbrev AX : Type := Bool × List FX
def seeX (fa : List (PySem.W.Frag → Bool)) (fn : List DX) (K : PySem.W.Frag) : AX := ((fa.all fun f => f K) && fn.all fun d => codB K (d.adr K) d.qual, fn.map fun d => seeF K (d.adr K))
def wantX (fn : List DX) : AX := (true, fn.map DX.val)
def placesX (xs : List Str) (g : Addr → Option Obj) : Nat → List Addr
  | 0 => (xs.map (ga (He.frG g [mainGlobals])))
  | n + 1 => He.growD g (placesX xs g n)
def partX (xs : List Str) (g : Addr → Option Obj) : PySem.W.Frag := He.frG g (mainGlobals :: PySem.cStatics :: placesX xs g 4)
def hookX (xs : List Str) (fa : List (PySem.W.Frag → Bool)) (fn : List DX) : PySem.W.Hook where
  α := AX
  obs := fun s => seeX fa fn (partX xs s.heap.get?)
  val := fun _ => wantX fn
  says := fun _ h => ∃ K : PySem.W.Frag, K.In h ∧ seeX fa fn K = wantX fn
  of := fun _ _ e => ⟨partX xs _, He.frG_in, e⟩
  keeps := fun _ _ _ p k => match p with
    | ⟨K, hK, c⟩ => ⟨K, PySem.W.Frag.In.keeps hK k, c⟩
theorem seeX_eq {xs : List Str} {fa : List (PySem.W.Frag → Bool)} {fn : List DX} {g : Addr → Option Obj} {s : Shared} (h : ∀ a, g a = s.heap.get? a) : seeX fa fn (partX xs g) = (hookX xs fa fn).obs s := by
  have e : g = s.heap.get? := funext h
  subst e
  rfl
section
variable {fa : List (PySem.W.Frag → Bool)} {fn : List DX} {K : PySem.W.Frag}
theorem fact (c : seeX fa fn K = wantX fn) (i : Nat) {f : PySem.W.Frag → Bool} (h : fa[i]? = some f := by rfl) : f K = true :=
  List.all_eq_true.mp (two (congrArg Prod.fst c)).1 f (List.mem_of_getElem? h)
theorem def_ (c : seeX fa fn K = wantX fn) (i : Nat) {d : DX} (h : fn[i]? = some d := by rfl) : ∃ fd, Fun K d.name d.qual d.st (d.adr K) fd := by
  have h2 : codB K (d.adr K) d.qual = true := List.all_eq_true.mp (two (congrArg Prod.fst c)).2 d (List.mem_of_getElem? h)
  have h3 : (fn.map fun d => seeF K (d.adr K))[i]? = (fn.map DX.val)[i]? := congrArg (fun z : AX => z.2[i]?) c
  rw [List.getElem?_map, List.getElem?_map, h] at h3
  exact DX.fun_ (Option.some.inj h3) h2
end
end OwH
end
section
/-! Own: what a value's repr is; a caught error's class and fields. -/
namespace OwE
open PySem PySem.Spec PyProof.Rows L2
inductive RepV (K : PySem.W.Frag) (H : Hp) : V → Str → Prop where
  | non : RepV K H .non "None"
  | bl (b : Bool) : RepV K H (.bl b) (if b then "True" else "False")
  | int {i : Int} (h : i.natAbs.log2 < 1920) : RepV K H (.int i) (toString i)
  | str {z : Str} (h : (reprText z).length ≤ sizeLine) : RepV K H (.str z) (reprText z)
  | dat {a : Addr} {d : PyData} (h : Dp K H (.ref a) d) (hs : d.showable = true) (hn : d.hasDict = false) (hd : d.depth ≤ 64) (hz : d.shown.length ≤ sizeLine) : RepV K H (.ref a) d.shown
  | dic {a : Addr} (h : H a = some (.dK [])) : RepV K H (.ref a) (PyData.dict []).shown
def rRepr (K : PySem.W.Frag) : List V → Hp → VK → Prop := fun xs H Q => ∃ v r, xs = [v] ∧ RepV K H v r ∧ Q (.str r) H
theorem empty_reads {P : Program} {w : World} {H : Hp} {h : Heap} {a : Addr} (ok : HOk P w H h) (e : H a = some (.dK [])) : Reads h (.ref a) (.dict []) ([a] ++ []) ∧ a ≠ sysModules := by
  obtain ⟨_, ns, vs, kv, o, es, ep, h1, h2, h3, h4⟩ := (show ObjOk P w H h a (.dK []) from ok a _ e)
  refine ⟨?_, fun q => by rw [q] at ns; simp at ns⟩
  have ev : vs = [] := by
    cases kv
    rfl
  subst ev
  have ee : es.toList = [] := by
    have p := h4.2.1
    generalize es.toList = l at p
    cases p
    rfl
  exact Reads.dict h1 h2.1 h3 (by rw [ee]; exact .nil) (by rw [ee]; exact .nil)
theorem cr_repr {X : Cx} (hg : X.A.guards = some []) (hu : X.A.units + 70 < cLine) : CallR X (.builtin "repr") (rRepr X.K) := by
  intro pins s σ H xs us Q I r h
  obtain ⟨v, t, rfl, rep, q⟩ := h
  obtain ⟨u, rfl, rx⟩ := vals1 r
  cases rep with
  | non =>
    cases (show u = Value.none from rx)
    exact PySem.P.repr_of_none ⟨.str _, H, I.tok _, ⟨_, rfl⟩, q⟩
  | bl b =>
    cases (show u = Value.bool b from rx)
    exact PySem.P.repr_of_bool ⟨.str _, H, I.tok _, ⟨_, rfl⟩, q⟩
  | @int i hz =>
    obtain ⟨t, rfl⟩ := (show ∃ t, u = Value.int i t from rx)
    exact PySem.P.repr_of_int hz ⟨.str _, H, I.tok _, ⟨_, rfl⟩, q⟩
  | @str z hz =>
    obtain ⟨t, rfl⟩ := (show ∃ t, u = Value.str z t from rx)
    exact PySem.P.repr_of_str ⟨.str _, H, I.tok _, ⟨_, rfl⟩, q⟩ hz
  | @dat a d hd hs hn hp hz =>
    exact OwR.cr_reprD hg hu pins s σ H _ _ Q I (.cons rx .nil) ⟨a, d, rfl, hd, hs, hn, hp, hz, q⟩
  | @dic a e =>
    cases (show u = Value.ref a from rx)
    obtain ⟨R, ns⟩ := empty_reads I.hok e
    refine repr_of_reads' R (by decide) (fun _ m => ?_) hg (by show X.A.units + (PyData.depth (.dict []) + 1) < cLine; have : PyData.depth (.dict []) ≤ 60 := by decide +kernel
                                                               omega) (fun _ _ z => z) (fun h' u tk k => ?_) (by decide +kernel)
    · rw [List.append_nil, List.mem_singleton] at m
      exact ns m.symm
    · exact ⟨.str _, H, I.kept (t' := tk) k, ⟨u, rfl⟩, q⟩
/-- all that an own error class must say, so that its caught errors are asked -/
structure ErrC (K : PySem.W.Frag) (C : Addr) : Prop where
  ox : OexC K C
  xf : XfC K C
  ha : PySem.W.findIn K (.ref C) "__class__" = some (some (.builtin "object.__class__"))
  hn : PySem.W.specialIn K (.builtin "object.__class__") "__get__" = some (some (.builtin "getset_descriptor.__get__"))
  ht : PySem.W.takesIn K (.builtin "object.__class__") = some true
  hm : PySem.W.mroIn K C (.type "object") = some true
theorem OexC.cl {K : PySem.W.Frag} {C : Addr} (T : OexC K C) : (PySem.W.clsIn K C).isSome = true := by
  obtain ⟨nm, q, N, bs, bm, sn, sub, ab, col, dd, k0, k1, k2, k3, k5, hC, hbm⟩ := T.cls
  unfold PySem.W.clsIn
  rw [hC] <;> rfl
/-- isinstance of the error that the suite holds -/
def rIsE (K : PySem.W.Frag) (a : Addr) (cls : Value) (d : Option Addr) : List V → Hp → VK → Prop := fun xs H Q => ∃ (c : V) (u : Value) (C dd : Addr) (fs : List (Str × V)) (b : Bool), xs = [.ref a, c] ∧ ClsV c u ∧ cls = .ref C ∧ ErrC K C ∧ d = some dd ∧ H dd = some (.xd fs) ∧
  PySem.W.kitOne K (.ref C) u = some b ∧ Q (.bl b) H
theorem call_isE {X : Cx} {a : Addr} {cls : Value} {d : Option Addr} {oe : Obj} {pn : List (Addr × Obj)} (hz : Zc cls d oe) (hf : ∃ vs, oe.data = .fields vs) : CallR (X.suite a ((a, oe) :: pn)) (.builtin "isinstance") (rIsE X.K a cls d) := by
  intro pins s σ H xs us Q I r h
  obtain ⟨c, cv, C, dd, fs, b, rfl, hcv, rfl, T, rfl, ed, e, q⟩ := h
  obtain ⟨u1, u2, rfl, r1, r2⟩ := vals2 r
  cases (show u1 = Value.ref a from r1)
  have e2 := hcv.eq r2
  subst e2
  obtain ⟨hget, _⟩ := I.pin (a, oe) (List.mem_append.mpr (.inl List.mem_cons_self))
  obtain ⟨vs, hv⟩ := hf
  obtain ⟨mA, hns, hr⟩ := (show ObjOk X.prog X.w H s.heap dd (.xd fs) from I.hok dd _ ed)
  obtain ⟨od, ho, hl⟩ := lookIn_ns hns
  have J : PySem.W.InstAt s.heap a oe C (some od) := ⟨hget, hz.1, by unfold PySem.W.notCls; rw [hv] <;> rfl, by rw [hz.2]; exact ho⟩
  exact PySem.W.kia_one (PySem.W.kitx_exc (OexC.cl T.ox) T.xf.ga T.xf.gg T.xf.exC T.ha T.hn T.ht T.hm) I.kIn J e (fun z => nomatch z) fun tk => ⟨.bl b, H, I.tok tk, rfl, q⟩
/-- err.f of the error that the suite holds -/
def tXe (K : PySem.W.Frag) (a : Addr) (cls : Value) (d : Option Addr) (f : Str) (te : TE) : TE := fun σ H Q => te σ H fun x H1 => x = .ref a ∧ ∃ (C dd : Addr) (fs : List (Str × V)) (v : V), cls = .ref C ∧ ErrC K C ∧ PySem.W.findIn K (.ref C) f = some none ∧ d = some dd ∧ H1 dd = some (.xd fs) ∧ fs.lookup f = some v ∧ Q v H1
theorem pe_xe {X : Cx} {a : Addr} {oe : Obj} {cls : Value} {d : Option Addr} {pn : List (Addr × Obj)} {e : Expr} {te : TE} {pos : Pos} {n : Str} (hz : Zc cls d oe) (hf : ∃ vs, oe.data = .fields vs) (he : PE (X.suite a ((a, oe) :: pn)) e te) (hb : attributeBase e n X.env (eval e X.env) = eval e X.env := by rfl) :
    PE (X.suite a ((a, oe) :: pn)) (.Attribute e n pos) (tXe X.K a cls d n te) := by
  refine ⟨fun pins s σ H Q I h => ?_⟩
  refine attr_of hb (thn (he.run pins s σ H _ I h) fun u s1 hh => ?_)
  obtain ⟨x, H1, I1, rx, ex, C, dd, fs, v, ec, T, hno, ed, ea, l, q⟩ := hh
  subst ex ec ed
  obtain rfl : u = Value.ref a := rx
  obtain ⟨ha, _⟩ := I1.pin (a, oe) (List.mem_append_left _ List.mem_cons_self)
  obtain ⟨vs, hd⟩ := hf
  obtain ⟨mA, hns, hr⟩ := (show ObjOk X.prog X.w H1 s1.heap dd (.xd fs) from I1.hok dd _ ea)
  obtain ⟨od, ho, hl⟩ := lookIn_ns hns
  obtain ⟨u, hu, ru⟩ := RelO.some_of (v := v) (o := mA n) (by rw [← l]; exact hr n)
  have J : PySem.W.InstAt s1.heap a oe C (some od) := ⟨ha, hz.1, by unfold PySem.W.notCls; rw [hd] <;> rfl, by rw [hz.2]; exact ho⟩
  exact HandSPX.exc_get I1.kIn J T.xf.ga T.xf.gg T.xf.exC (PySem.W.findObj_own T.xf.hdC hno rfl (by rw [hl, hu])) (handed_of ru) ⟨v, H1, I1.tok _, ru, q⟩
/-! ### an error class with one field, with two -/
def spErr1 (K : PySem.W.Frag) (f : Str) : Sp := fun vs H Q _ => ∃ (a C : Addr) (v : V), vs = [.ref a, v] ∧ OexC K C ∧ PySem.W.findIn K (.ref C) f = some none ∧ H a = some (exo a C none) ∧
  ∀ dx, H dx = none → dx ≠ a → Q .non (upd (upd H dx (exd dx [(f, v)])) a (exo a C (some dx)))
theorem err_heap {H : Hp} {a d C : Addr} {fs : List (Str × V)} (ne : d ≠ a) (ha : H a = none) : upd (del (upd (upd (upd H a (exo a C none)) d (exd d fs)) a (exo a C (some d))) a) d (.xd fs) = upd H d (.xd fs) := by
  funext b
  by_cases h1 : b = d
  · rw [h1, upd_same, upd_same]
  · rw [upd_ne h1, upd_ne h1]
    by_cases h2 : b = a
    · rw [h2, del_same, ha]
    · rw [del_ne h2, upd_ne h2, upd_ne h1, upd_ne h2]
theorem mk_err1 {K : PySem.W.Frag} {C : Addr} {f : Str} {v : V} {H : Hp} {E : XK} (T : OexC K C) (hno : PySem.W.findIn K (.ref C) f = some none) (k : ∀ d, H d = none → E (.ref C) (some d) (upd H d (.xd [(f, v)]))) :
    ([v] : List V).length ≤ 1000 ∧ ∀ a, H a = none → spErr1 K f (.ref a :: ([v] ++ [])) (upd H a (exo a C none)) (fun v H2 => v = .non ∧ ∃ (d : Addr) (fs : List (Str × V)), H2 a = some (exo a C (some d)) ∧ H2 d = some (exd d fs) ∧ H d = none ∧ E (.ref C) (some d) (upd (del H2 a) d (.xd fs))) (fun _ _ _ => False) := by
  refine ⟨by show (1 : Nat) ≤ 1000; decide, fun a ha => ⟨a, C, v, rfl, T, hno, upd_same, fun dx hd ne => ⟨rfl, dx, [(f, v)], upd_same, by rw [upd_ne ne, upd_same], ?_, ?_⟩⟩⟩
  · rw [upd_ne ne] at hd
    exact hd
  · rw [err_heap ne ha]
    rw [upd_ne ne] at hd
    exact k dx hd
end OwE
end
section
/-! Own: what the end of the top says, with the tables of the code of some defs. -/
namespace OwH
open PySem PySem.Spec PyProof.Rows L2
def codA (K : PySem.W.Frag) (f : Addr) : Addr := match K.lookup f with
  | some ⟨_, _, .func fd, _⟩ => (match fd.code with
    | .ref c => c
    | _ => 0)
  | _ => 0
theorem codA_eq {K : PySem.W.Frag} {f c : Addr} {oc : Value} {od : Option Addr} {osl : Array (Option Value)} {fd : FuncData} (lk : K.lookup f = some ⟨oc, od, .func fd, osl⟩) (e : fd.code = .ref c) : codA K f = c := by
  unfold codA
  rw [lk]
  show (match fd.code with | .ref c => c | _ => 0) = c
  rw [e]
/-- the code of the def at f, its table -/
def cTab (K : PySem.W.Frag) (f : Addr) : Addr × Addr := (codA K f, He.tabOf K (codA K f))
def tabsOk (g : Addr → Option Obj) (tf : List (PySem.W.Frag → Addr)) (K : PySem.W.Frag) : Bool := tf.all fun f => PySem.W.codeHdIn K (cTab K (f K)).1 (cTab K (f K)).2 && (match g (cTab K (f K)).2 with
  | some o => He.emptyTab o
  | none => false)
def partT (xs : List Str) (g : Addr → Option Obj) : PySem.W.Frag := He.frT g (mainGlobals :: PySem.cStatics :: placesX xs g 4)
structure SaysT (fa : List (PySem.W.Frag → Bool)) (fn : List DX) (tf : List (PySem.W.Frag → Addr)) (h : Heap) (K : PySem.W.Frag) : Prop where
  see : seeX fa fn K = wantX fn
  hd : ∀ f ∈ tf, PySem.W.codeHdIn K (cTab K (f K)).1 (cTab K (f K)).2 = true
  out : ∀ f ∈ tf, K.lookup (cTab K (f K)).2 = none
  empty : ∀ f ∈ tf, h.get? (cTab K (f K)).2 = some OwR.tabO
abbrev AT : Type := AX × Bool
def obsT (xs : List Str) (fa : List (PySem.W.Frag → Bool)) (fn : List DX) (tf : List (PySem.W.Frag → Addr)) (g : Addr → Option Obj) : AT := (seeX fa fn (partT xs g), tabsOk g tf (partT xs g))
theorem saysT_of {xs : List Str} {fa : List (PySem.W.Frag → Bool)} {fn : List DX} {tf : List (PySem.W.Frag → Addr)} {h : Heap} (e : obsT xs fa fn tf h.get? = (wantX fn, true)) : SaysT fa fn tf h (partT xs h.get?) := by
  have e1 : seeX fa fn (partT xs h.get?) = wantX fn := congrArg Prod.fst e
  have e2 : tabsOk h.get? tf (partT xs h.get?) = true := congrArg Prod.snd e
  have key : ∀ f ∈ tf, PySem.W.codeHdIn (partT xs h.get?) (cTab (partT xs h.get?) (f (partT xs h.get?))).1 (cTab (partT xs h.get?) (f (partT xs h.get?))).2 = true ∧ ∃ o, h.get? (cTab (partT xs h.get?) (f (partT xs h.get?))).2 = some o ∧ He.emptyTab o = true := fun f hf => by
    obtain ⟨h3, h4⟩ := two (List.all_eq_true.mp e2 f hf)
    refine ⟨h3, ?_⟩
    cases q : h.get? (cTab (partT xs h.get?) (f (partT xs h.get?))).2 with
    | none =>
      rw [q] at h4
      cases h4
    | some o =>
      rw [q] at h4
      exact ⟨o, rfl, h4⟩
  refine ⟨e1, fun f hf => (key f hf).1, fun f hf => ?_, fun f hf => ?_⟩
  · obtain ⟨_, o, q, z⟩ := key f hf
    exact He.frT_none q z
  · obtain ⟨_, o, q, z⟩ := key f hf
    rw [q, He.emptyTab_eq z]
def hookT (xs : List Str) (fa : List (PySem.W.Frag → Bool)) (fn : List DX) (tf : List (PySem.W.Frag → Addr)) : PySem.W.Hook where
  α := AT
  obs := fun s => obsT xs fa fn tf s.heap.get?
  val := fun _ => (wantX fn, true)
  says := fun _ h => ∃ K : PySem.W.Frag, K.In h ∧ SaysT fa fn tf h K
  of := fun _ _ e => ⟨_, He.frT_in, saysT_of e⟩
  keeps := fun _ _ _ p k => match p with
    | ⟨K, hK, c⟩ => ⟨K, PySem.W.Frag.In.keeps hK k, ⟨c.see, c.hd, c.out, fun f hf => k _ _ (c.empty f hf)⟩⟩
theorem obsT_eq {xs : List Str} {fa : List (PySem.W.Frag → Bool)} {fn : List DX} {tf : List (PySem.W.Frag → Addr)} {g : Addr → Option Obj} {s : Shared} (h : ∀ a, g a = s.heap.get? a) : obsT xs fa fn tf g = (hookT xs fa fn tf).obs s := by
  have e : g = s.heap.get? := funext h
  rw [e] <;> rfl
/-! ### facts of error classes -/
def oexB (K : PySem.W.Frag) (C : Addr) : Bool := match K.lookup C with
  | some ⟨.type t, _, .cls cd, sl⟩ => decide (t = "type") && (match cd.mro, sl.toList with
    | .ref D :: bm, [_, _, _, _, some (.builtin n), _] => decide (D = C) && (decide (n = "ValueError.__new__") && (cd.hasDict && (!cd.hasDel && PySem.HandSPX.refsVE bm)))
    | _, _ => false)
  | _ => false
theorem oexB_ok {K : PySem.W.Frag} {C : Addr} (h : oexB K C = true) : ∃ nm q N bs bm sn sub ab col dd k0 k1 k2 k3 k5, K.lookup C = some (excClassObj nm q C N bs bm true sn sub ab col dd k0 k1 k2 k3 k5 "ValueError.__new__") ∧ PySem.HandSPX.refsVE bm = true := by
  unfold oexB at h
  split at h
  · rename_i t dd cd sl ho
    obtain ⟨h1, h2⟩ := two h
    split at h2
    · rename_i D bm k0 k1 k2 k3 n k5 hm hs
      obtain ⟨a1, h3⟩ := two h2
      obtain ⟨a2, h4⟩ := two h3
      obtain ⟨a3, h5⟩ := two h4
      obtain ⟨a4, a5⟩ := two h5
      have e1 := of_decide_eq_true h1
      have e2 := of_decide_eq_true a1
      have e3 := of_decide_eq_true a2
      subst e1 e2 e3
      obtain ⟨nm, bs, mro, ns, qn, hd, sn, sub, ab, col, del⟩ := cd
      have esl : sl = #[k0, k1, k2, k3, some (.builtin "ValueError.__new__"), k5] := by
        obtain ⟨l⟩ := sl
        have hs : l = _ := hs
        rw [hs]
      have em : mro = .ref D :: bm := hm
      have ed : hd = true := a3
      have el : del = false := by
        cases del with
        | true => cases a4
        | false => rfl
      subst esl em ed el
      exact ⟨nm, qn, ns, bs, bm, sn, sub, ab, col, dd, k0, k1, k2, k3, k5, ho, a5⟩
    · cases h2
  · cases h
def fErr (x : Str) (K : PySem.W.Frag) : Bool := oexB K (ga K x) && (He.eqO (PySem.W.findIn K (.ref (ga K x)) "__setattr__") (some (some (.builtin "object.__setattr__"))) && (decide (PySem.W.typeIn K (.ref (ga K x)) = some (.type "type")) && (PySem.W.keepIn K (.ref (ga K x)) && (xfB K (ga K x) &&
  (He.eqO (PySem.W.findIn K (.ref (ga K x)) "__class__") (some (some (.builtin "object.__class__"))) && (He.eqO (PySem.W.specialIn K (.builtin "object.__class__") "__get__") (some (some (.builtin "getset_descriptor.__get__"))) &&
  (decide (PySem.W.takesIn K (.builtin "object.__class__") = some true) && decide (PySem.W.mroIn K (ga K x) (.type "object") = some true))))))))
theorem err_ok {x : Str} {K : PySem.W.Frag} (h : fErr x K = true) : OwE.ErrC K (ga K x) := by
  obtain ⟨a1, h⟩ := two h
  obtain ⟨a2, h⟩ := two h
  obtain ⟨a3, h⟩ := two h
  obtain ⟨a4, h⟩ := two h
  obtain ⟨a5, h⟩ := two h
  obtain ⟨a6, h⟩ := two h
  obtain ⟨a7, h⟩ := two h
  obtain ⟨a8, a9⟩ := two h
  have X := xfB_ok a5
  exact ⟨⟨oexB_ok a1, He.eqO_ok a2, X.exC, of_decide_eq_true a3, a4⟩, X, He.eqO_ok a6, He.eqO_ok a7, of_decide_eq_true a8, of_decide_eq_true a9⟩
/-- the class's __init__ is the def at its place -/
def fIni (x : Str) (K : PySem.W.Frag) : Bool := He.eqO (PySem.W.findIn K (.ref (ga K x)) "__init__") (some (some (.ref (mo K x "__init__")))) && decide (PySem.W.typeIn K (.ref (mo K x "__init__")) = some (.type "function"))
theorem ini_ok {x : Str} {K : PySem.W.Frag} (h : fIni x K = true) : PySem.W.findIn K (.ref (ga K x)) "__init__" = some (some (.ref (mo K x "__init__"))) ∧ PySem.W.typeIn K (.ref (mo K x "__init__")) = some (.type "function") := ⟨He.eqO_ok (two h).1, of_decide_eq_true (two h).2⟩
/-- no attribute of that name in the class -/
def fNoF (x n : Str) (K : PySem.W.Frag) : Bool := decide (PySem.W.findIn K (.ref (ga K x)) n = some none)
def fExm (x y : Str) (b : Bool) (K : PySem.W.Frag) : Bool := decide (PySem.W.exmOne K (.ref (ga K x)) (.ref (ga K y)) = some b)
def fKit (x y : Str) (b : Bool) (K : PySem.W.Frag) : Bool := decide (PySem.W.kitOne K (.ref (ga K x)) (.ref (ga K y)) = some b)
/-- what isinstance and the like ask of the objects of the class -/
def fIsC (x : Str) (K : PySem.W.Frag) : Bool := He.eqO (PySem.W.findIn K (.ref (ga K x)) "__class__") (some (some (.builtin "object.__class__"))) && (He.eqO (PySem.W.specialIn K (.builtin "object.__class__") "__get__") (some (some (.builtin "getset_descriptor.__get__"))) &&
  (decide (PySem.W.takesIn K (.builtin "object.__class__") = some true) && decide (PySem.W.mroIn K (ga K x) (.type "object") = some true)))
theorem isC_ok {x : Str} {K : PySem.W.Frag} (h : fIsC x K = true) : PySem.W.findIn K (.ref (ga K x)) "__class__" = some (some (.builtin "object.__class__")) ∧ PySem.W.specialIn K (.builtin "object.__class__") "__get__" = some (some (.builtin "getset_descriptor.__get__")) ∧ PySem.W.takesIn K (.builtin "object.__class__") = some true ∧ PySem.W.mroIn K (ga K x) (.type "object") = some true := by
  obtain ⟨a1, h⟩ := two h
  obtain ⟨a2, h⟩ := two h
  obtain ⟨a3, a4⟩ := two h
  exact ⟨He.eqO_ok a1, He.eqO_ok a2, of_decide_eq_true a3, of_decide_eq_true a4⟩
/-- the class (or one above it) has the def at its place as m -/
def fHas (x m : Str) (K : PySem.W.Frag) : Bool := He.eqO (PySem.W.findIn K (.ref (ga K x)) m) (some (some (.ref (mo K x m)))) && PySem.W.isFn K (.ref (mo K x m))
theorem has_ok {x m : Str} {K : PySem.W.Frag} (h : fHas x m K = true) : PySem.W.findIn K (.ref (ga K x)) m = some (some (.ref (mo K x m))) ∧ PySem.W.isFn K (.ref (mo K x m)) = true := ⟨He.eqO_ok (two h).1, (two h).2⟩
/-- != of the class is object's -/
def fNe (x : Str) (K : PySem.W.Frag) : Bool := He.eqO (PySem.W.findIn K (.ref (ga K x)) "__ne__") (some (some (.builtin "object.__ne__")))
theorem ne_ok {x : Str} {K : PySem.W.Frag} (h : fNe x K = true) : PySem.W.findIn K (.ref (ga K x)) "__ne__" = some (some (.builtin "object.__ne__")) := He.eqO_ok h
def fNot (x : Str) (t : PySem.W.Frag → Value) (K : PySem.W.Frag) : Bool := PySem.W.notFirst K (ga K x) (t K)
end OwH
end
section
/-! Operators and comparisons that an own class defines. -/
namespace OwR
open PySem PySem.Spec PyProof.Rows L2
/-- an own operator between instances of two own classes, neither below the other -/
theorem bin_two {prog : Program} {w : World} {A : Around} {E : Value → Shared → Prop} {s : Shared} {K : PySem.W.Frag} {x C D f f2 : Addr} {ox : Obj} {od : Option Obj} {op : Operator} {b : Value} {rc rd : Option Value} {Q : Value → Shared → Prop} (X : K.In s.heap) (I : PySem.W.InstAt s.heap x ox C od)
    (hb : PySem.W.Looks (model prog w) s.heap (typeOf b) (.ref D)) (ne : (Value.ref C == Value.ref D) = false) (cC : PySem.W.selfFirst K C = true) (cD : PySem.W.selfFirst K D = true) (sC : PySem.W.findIn K (.ref C) (PySem.dunder op.info.2) = some (some (.ref f))) (sD : PySem.W.findIn K (.ref D) (PySem.dunder op.info.2) = some (some (.ref f2)))
    (rC : PySem.W.findIn K (.ref C) (dunderR op.info.2) = some rc) (pC : rc = none ∨ ∃ g : Addr, rc = some (.ref g)) (rD : PySem.W.findIn K (.ref D) (dunderR op.info.2) = some rd) (pD : rd = none ∨ ∃ g : Addr, rd = some (.ref g))
    (sub : PySem.W.subIn K (.ref D) (.ref C) = some false) (hf : PySem.W.isFn K (.ref f) = true) (h : wpAny (model prog w) A (call (.ref f) [.ref x, b]) (PySem.W.CmpBack Q) E s) : wpAny (model prog w) A (binaryOp op (.ref x) b) Q E s := by
  obtain ⟨c1, r1, k1, m1⟩ := PySem.W.ksp_first cC
  obtain ⟨c2, r2, k2, m2⟩ := PySem.W.ksp_first cD
  rcases hi : op.info with ⟨sym, nm⟩
  rw [hi] at sC sD rC rD
  dsimp only at sC sD rC rD
  have one := PySem.W.ksp_try X I sC hf h
  obtain ⟨hp, gs, dr, tk, os⟩ := s
  have L1 : PySem.W.Looks (model prog w) hp (typeOf (.ref x)) (.ref C) := I.type
  have L2 : PySem.W.Looks (model prog w) hp (typeOf b) (.ref D) := hb
  have L3 : PySem.W.Looks (model prog w) hp (fillsNumberSlot (.ref C) nm) true := PySem.W.fills_K X k1 m1 sC
  have L4 : PySem.W.Looks (model prog w) hp (fillsNumberSlot (.ref D) nm) true := PySem.W.fills_K X k2 m2 sD
  have L5 : PySem.W.Looks (model prog w) hp (isSubtype (.ref D) (.ref C)) false := PySem.W.looks_subIn X sub
  have L6 : PySem.W.Looks (model prog w) hp (numberSlotInPython (.ref C) nm) true := PySem.W.ksp_inPy X sC rC pC
  have L7 : PySem.W.Looks (model prog w) hp (numberSlotInPython (.ref D) nm) true := PySem.W.ksp_inPy X sD rD pD
  simp only [binaryOp, hi]
  refine wpAny_holding (wpAny_bind ?_)
  unfold binaryOp1
  refine wpAny_bind (L1.at (wpAny_bind (L2.at (wpAny_bind (L3.at ?_)))))
  simp only [ne, Bool.false_eq_true, if_false]
  ksp_lk
  refine wpAny_mono one (fun r s' q => ?_) fun _ _ e => e
  obtain ⟨v, rfl, hq⟩ := q
  ksp_lk
  exact hq
/-- what a class must have for an operator of its own -/
structure Bin1 (K : PySem.W.Frag) (op : Operator) (C g : Addr) : Prop where
  self : PySem.W.selfFirst K C = true
  at_ : PySem.W.findIn K (.ref C) (PySem.dunder op.info.2) = some (some (.ref g))
  fn : PySem.W.isFn K (.ref g) = true
  refl : ∃ rc, PySem.W.findIn K (.ref C) (dunderR op.info.2) = some rc ∧ (rc = none ∨ ∃ h : Addr, rc = some (.ref h))
/-- .. between two classes: one, or neither above the other -/
def BinP (K : PySem.W.Frag) (op : Operator) (C D g : Addr) : Prop := Bin1 K op C g ∧ (C = D ∨ ((∃ g', Bin1 K op D g') ∧ C ≠ D ∧ PySem.W.subIn K (.ref D) (.ref C) = some false))
structure BinT (K : PySem.W.Frag) (op : Operator) (C : Addr) (T : String) : Prop where
  f : ∃ fo, PySem.W.findIn K (.type T) (PySem.dunder op.info.2) = some fo
  r : ∃ ro, PySem.W.findIn K (.type T) (dunderR op.info.2) = some ro
  sub : PySem.W.subIn K (.type T) (.ref C) = some false
def tyS : V → Option String
  | .non => some "NoneType" | .bl _ => some "bool" | .int _ => some "int" | .str _ => some "str" | _ => none
theorem tyS_of {y : V} {u : Value} {T : String} (r : RelV y u) (h : tyS y = some T) : typeOf u = pure (.type T) := by
  cases y with
  | non => cases (show u = Value.none from r); cases h; rfl
  | bl b => cases (show u = Value.bool b from r); cases h; rfl
  | int i => obtain ⟨t, rfl⟩ := r; cases h; rfl
  | str z => obtain ⟨t, rfl⟩ := r; cases h; rfl
  | _ => cases h
def rOwn2 (K : PySem.W.Frag) (op : Operator) (g : Addr) (sp : Sp) (E : XK) : R2 := fun x y H Q => ∃ (p q C D dx dy : Addr) (fs gs : List (Str × V)), x = .ref p ∧ y = .ref q ∧ H p = some (.ins C dx fs) ∧ H q = some (.ins D dy gs) ∧ BinP K op C D g ∧ sp [.ref p, .ref q] H Q E
def rOwnT (K : PySem.W.Frag) (op : Operator) (g : Addr) (sp : Sp) (E : XK) : R2 := fun x y H Q => ∃ (p C dx : Addr) (fs : List (Str × V)) (T : String), x = .ref p ∧ H p = some (.ins C dx fs) ∧ tyS y = some T ∧ Bin1 K op C g ∧ BinT K op C T ∧ sp [.ref p, y] H Q E
section
variable {X : Cx} {CX : CXT} {k : Nat} {g : Addr} {sp : Sp} {E : XK} {op : Operator}
theorem ep_back {pins : List (Addr × Obj)} {σ : L2.St} {Q : VK} {u : Value} {s : Shared} (h : EP X pins σ Q u s) : PySem.W.CmpBack (EP X pins σ Q) u s := by
  obtain ⟨v, H, I, r, q⟩ := h
  unfold PySem.W.CmpBack
  split
  · cases v with
    | int i => obtain ⟨_, z⟩ := r; cases z
    | str i => obtain ⟨_, z⟩ := r; cases z
    | byt i => obtain ⟨_, z⟩ := r; cases z
    | flt i => obtain ⟨_, z⟩ := r; cases z
    | _ => cases r
  · exact ⟨v, H, I, r, q⟩
theorem run_own {pins : List (Addr × Obj)} {σ : L2.St} {H : Hp} {s : Shared} {Q : VK} {us : List Value} {vs : List V} (F : FnR X.prog X.w X.K X.mg X.base CX k g sp) (hr : Room k X.A) (hx : Passes CX X E) (I : Inv X pins σ H s) (r : Vals vs us) (h : sp vs H Q E) :
    wpAny (model X.prog X.w) X.A (call (.ref g) us) (PySem.W.CmpBack (EP X pins σ Q)) X.xe s := wpAny_mono (wpAny_call (run_fnR F hr hx I r h)) (fun _ _ q => ep_back q) fun _ _ q => q
theorem op_own2 (F : FnR X.prog X.w X.K X.mg X.base CX k g sp) (hr : Room k X.A) (hx : Passes CX X E) : OpR X (binaryOp op) (rOwn2 X.K op g sp E) := by
  intro pins s σ H x y v u Q I rx ry h
  obtain ⟨p, q, C, D, dx, dy, fs, gs, rfl, rfl, ep, eq, ⟨b1, b2⟩, hq⟩ := h
  obtain rfl : v = Value.ref p := rx
  obtain rfl : u = Value.ref q := ry
  obtain ⟨ox, od, J, _⟩ := StX.insC_at I (.inr ⟨dx, fs, ep⟩)
  obtain ⟨oy, oe, J2, _⟩ := StX.insC_at I (.inr ⟨dy, gs, eq⟩)
  have go := run_own F hr hx I (us := [.ref p, .ref q]) (vs := [.ref p, .ref q]) (.cons rfl (.cons rfl .nil)) hq
  obtain ⟨mm, fr⟩ := I.fr
  rcases b2 with rfl | ⟨⟨g', b2⟩, ne, sub⟩
  · exact PySem.W.binop_K fr I.ok.mod.kin J J2.type b1.self b1.at_ b1.fn go
  · obtain ⟨rc, e1, e2⟩ := b1.refl
    obtain ⟨rd, e3, e4⟩ := b2.refl
    exact bin_two I.kIn J J2.type (Bool.eq_false_iff.mpr fun z => ne (by cases beq_iff_eq.mp z; rfl)) b1.self b2.self b1.at_ b2.at_ e1 e2 e3 e4 sub b1.fn go
theorem op_ownT (F : FnR X.prog X.w X.K X.mg X.base CX k g sp) (hr : Room k X.A) (hx : Passes CX X E) : OpR X (binaryOp op) (rOwnT X.K op g sp E) := by
  intro pins s σ H x y v u Q I rx ry h
  obtain ⟨p, C, dx, fs, T, rfl, ep, ty, b1, bT, hq⟩ := h
  obtain rfl : v = Value.ref p := rx
  obtain ⟨ox, od, J, _⟩ := StX.insC_at I (.inr ⟨dx, fs, ep⟩)
  obtain ⟨mm, fr⟩ := I.fr
  obtain ⟨rc, e1, e2⟩ := b1.refl
  obtain ⟨fo, e3⟩ := bT.f
  obtain ⟨ro, e4⟩ := bT.r
  exact PySem.W.ksp_binT fr I.ok.mod.kin J (tyS_of ry ty) b1.self b1.at_ b1.fn e1 e2 e3 e4 bT.sub (run_own F hr hx I (us := [.ref p, u]) (vs := [.ref p, y]) (.cons rfl (.cons ry .nil)) hq)
/-! ### comparisons -/
structure Cmp1 (K : PySem.W.Frag) (op : CmpOp) (C g : Addr) : Prop where
  at_ : PySem.W.findIn K (.ref C) (cmpInfo op).2.1 = some (some (.ref g))
  fn : PySem.W.isFn K (.ref g) = true
def rCmp2 (K : PySem.W.Frag) (op : CmpOp) (g : Addr) (sp : Sp) (E : XK) : R2 := fun x y H Q => ∃ (p q C D dx dy : Addr) (fs gs : List (Str × V)), x = .ref p ∧ y = .ref q ∧ H p = some (.ins C dx fs) ∧ H q = some (.ins D dy gs) ∧ Cmp1 K op C g ∧ PySem.W.notFirst K C (.ref D) = true ∧ sp [.ref p, .ref q] H Q E
theorem rc_own2 {o : CmpOp} (hu : X.A.units < cLine) (F : FnR X.prog X.w X.K X.mg X.base CX k g sp) (hr : Room k X.A) (hx : Passes CX X E) : OpR X (richCompare o) (rCmp2 X.K o g sp E) := by
  intro pins s σ H x y v u Q I rx ry h
  obtain ⟨p, q, C, D, dx, dy, fs, gs, rfl, rfl, ep, eq, c1, nf, hq⟩ := h
  obtain rfl : v = Value.ref p := rx
  obtain rfl : u = Value.ref q := ry
  obtain ⟨ox, od, J, _⟩ := StX.insC_at I (.inr ⟨dx, fs, ep⟩)
  obtain ⟨oy, oe, J2, _⟩ := StX.insC_at I (.inr ⟨dy, gs, eq⟩)
  obtain ⟨mm, fr⟩ := I.fr
  exact PySem.W.cmp_K hu fr I.ok.mod.kin J J2.type nf c1.at_ c1.fn (run_own F hr hx I (us := [.ref p, .ref q]) (vs := [.ref p, .ref q]) (.cons rfl (.cons rfl .nil)) hq)
theorem op_ownEq (hu : X.A.units < cLine) (F : FnR X.prog X.w X.K X.mg X.base CX k g sp) (hr : Room k X.A) (hx : Passes CX X E) : OpR X (compareOp .Eq) (rCmp2 X.K .Eq g sp E) := fun pins s σ H x y v u Q I rx ry h => PySem.W.cmp_ofEq (rc_own2 hu F hr hx pins s σ H x y v u Q I rx ry h)
theorem op_ownLe (hu : X.A.units < cLine) (F : FnR X.prog X.w X.K X.mg X.base CX k g sp) (hr : Room k X.A) (hx : Passes CX X E) : OpR X (compareOp .LtE) (rCmp2 X.K .LtE g sp E) := fun pins s σ H x y v u Q I rx ry h => PySem.W.cmp_ofLtE (rc_own2 hu F hr hx pins s σ H x y v u Q I rx ry h)
theorem op_ownLt (hu : X.A.units < cLine) (F : FnR X.prog X.w X.K X.mg X.base CX k g sp) (hr : Room k X.A) (hx : Passes CX X E) : OpR X (compareOp .Lt) (rCmp2 X.K .Lt g sp E) := fun pins s σ H x y v u Q I rx ry h => PySem.W.cmp_ofLt (rc_own2 hu F hr hx pins s σ H x y v u Q I rx ry h)
theorem op_ownGe (hu : X.A.units < cLine) (F : FnR X.prog X.w X.K X.mg X.base CX k g sp) (hr : Room k X.A) (hx : Passes CX X E) : OpR X (compareOp .GtE) (rCmp2 X.K .GtE g sp E) := fun pins s σ H x y v u Q I rx ry h => PySem.W.cmp_ofGtE (rc_own2 hu F hr hx pins s σ H x y v u Q I rx ry h)
theorem op_ownGt (hu : X.A.units < cLine) (F : FnR X.prog X.w X.K X.mg X.base CX k g sp) (hr : Room k X.A) (hx : Passes CX X E) : OpR X (compareOp .Gt) (rCmp2 X.K .Gt g sp E) := fun pins s σ H x y v u Q I rx ry h => PySem.W.cmp_ofGt (rc_own2 hu F hr hx pins s σ H x y v u Q I rx ry h)
end
end OwR
end
section
/-! a != b of own classes that define == alone. -/
namespace OwR
open PySem PySem.Spec PyProof.Rows L2
theorem slot_ne : Slot "object" "__ne__" "object.__ne__" := Slot.of (T := "object") (name := "__ne__") (owner := "object") (n := "__ne__") (by rw [typeLookup_type, builtinLookup_eq_fast]; kernel_rfl) (by decide +kernel) (by decide +kernel) (by decide +kernel)
  (.inl (by decide +kernel)) (by rw [isSubtype_type]; kernel_rfl)
theorem entry_ne : entryFor table "object.__ne__" = some Builtin.«object.__ne__» := entryFor_of_tree (by kernel_rfl)
theorem args_ne (a b : Value) : argsOk "object.__ne__" ⟨[a, b], []⟩ := by unfold argsOk; kernel_rfl
section
variable {prog : Program} {w : World} {A : Around} {E : Value → Shared → Prop} {s : Shared} {K : PySem.W.Frag} {x C f : Addr} {ox : Obj} {od : Option Obj} {b : Value}
theorem bound_ne {M : Model} {args : List Value} {Q : Option Value → Shared → Prop} (sp : PySem.W.Looks M s.heap (specialOf (.ref x) "__ne__") (some (.builtin "object.__ne__"))) (h : wpAny M A (call (.builtin "object.__ne__") (.ref x :: args)) (fun v => Q (some v)) E s) :
    wpAny M A (callSpecialIfBound? (.ref x) "__ne__" args) Q E s := by
  have fin : wpAny M A (call (.builtin "object.__ne__") ([.ref x] ++ args) >>= fun v => pure (some v)) Q E s := wpAny_bind (wpAny_mono h (fun v s' q => wpAny_pure q) fun _ _ q => q)
  have hb : bindSpecial (.builtin "object.__ne__") (.ref x) = pure (.builtin "object.__ne__", [.ref x]) := slot_ne.bind _
  simp only [callSpecialIfBound?, bindSpecialIfBound?]
  refine wpAny_holding (wpAny_bind (wpAny_bind (sp.here ?_)))
  simp only [hb]
  refine wpAny_bind (wpAny_askSetting (wpAny_ite ?_))
  split
  · exact wpAny_bind (wpAny_pure (wpAny_pure fin))
  · exact wpAny_tryCatch (wpAny_bind (wpAny_pure (wpAny_pure fin)))
theorem ne_K {tb : Value} {Q : Value → Shared → Prop} (hu : A.units + 1 < cLine) (X : K.In s.heap) (I : PySem.W.InstAt s.heap x ox C od) (hb : PySem.W.Looks (model prog w) s.heap (typeOf b) tb) (nf : PySem.W.notFirst K C tb = true) (obj : PySem.W.mroIn K C (.type "object") = some true)
    (ne : PySem.W.findIn K (.ref C) "__ne__" = some (some (.builtin "object.__ne__"))) (eq : PySem.W.findIn K (.ref C) "__eq__" = some (some (.ref f))) (fn : PySem.W.isFn K (.ref f) = true)
    (h : wpAny (model prog w) A.in1 (call (.ref f) [.ref x, b]) (fun v s' => ∃ c, v = .bool c ∧ Q (.bool (!c)) s') E s) : wpAny (model prog w) A (richCompare .NotEq (.ref x) b) Q E s := by
  have sp : PySem.W.Looks (model prog w) s.heap (specialOf (.ref x) "__ne__") (some (.builtin "object.__ne__")) := I.type.andThen (PySem.W.looks_findIn X ne)
  have inst : PySem.W.Looks (model prog w) s.heap (isInstance (.ref x) (.type "object")) true := I.type.andThen (PySem.W.looks_mroIn X obj)
  have hu0 : A.units < cLine := by omega
  have body : wpAny (model prog w) A (call (.builtin "object.__ne__") [.ref x, b]) (fun v s' => ∃ c, v = .bool c ∧ Q (.bool c) s') E s := by
    refine wpAny_call (codeAny_call_builtin slot_ne.plain entry_ne (@PySem.W.check_slot (model prog w) _ _ _ "object.__ne__" "object" "__ne__" (.ref x) [b] [] _ (by decide +kernel) (by decide +kernel) inst (args_ne _ _) ?_))
    show wpAny _ _ (do
      cRoomFor "comparison" [.ref x, b]
      match ← callSpecialIfBound? (.ref x) "__eq__" [b] with
      | some .notImplemented | none => ret .notImplemented
      | some r => ret (.bool (!(← truthy r)))) _ _ s
    refine wpAny_bind (wpAny_cRoomFor hu ?_)
    refine wpAny_bind (PySem.W.ifBound_K X I eq fn (wpAny_mono h (fun v s' q => ?_) fun _ _ q => q))
    obtain ⟨c, rfl, q⟩ := q
    show wpAny _ _ (truthy (.bool c) >>= fun t => ret (.bool (!t))) _ _ s'
    exact wpAny_bind (wpAny_pure (wpAny_pure ⟨!c, rfl, q⟩))
  have one : wpAny (model prog w) A (tryCompare (.ref x) "__ne__" b) (fun r s' => ∃ c, r = some (.bool c) ∧ Q (.bool c) s') E s := by
    unfold tryCompare
    refine wpAny_bind (bound_ne sp (wpAny_mono body (fun v s' q => ?_) fun _ _ q => q))
    obtain ⟨c, rfl, q⟩ := q
    exact wpAny_pure ⟨c, rfl, q⟩
  unfold richCompare
  simp only [oneThing_ref]
  refine wpAny_holding (wpAny_bind (wpAny_cRoomFor hu0 ?_))
  refine wpAny_bind (I.type.here (wpAny_bind (hb.here ?_)))
  have fin : ∀ r s', (∃ c, r = some (Value.bool c) ∧ Q (.bool c) s') → ∃ v, r = some v ∧ Q v s' := fun r s' ⟨c, e, q⟩ => ⟨_, e, q⟩
  split
  · rename_i q
    have e : PySem.W.subIn K tb (.ref C) = some false := by
      rcases Bool.or_eq_true_iff.mp nf with e | e
      · rw [beq_iff_eq.mp e] at q
        simp at q
      · exact beq_iff_eq.mp e
    refine wpAny_bind ((PySem.W.looks_subIn X e).here ?_)
    simp only [if_false, Bool.false_eq_true]
    refine wpAny_bind (wpAny_mono one (fun r s' z => ?_) fun _ _ e => e)
    obtain ⟨c, rfl, hq⟩ := z
    exact wpAny_pure hq
  · refine wpAny_bind (m := pure false) (wpAny_pure ?_)
    simp only [if_false, Bool.false_eq_true]
    refine wpAny_bind (wpAny_mono one (fun r s' z => ?_) fun _ _ e => e)
    obtain ⟨c, rfl, hq⟩ := z
    exact wpAny_pure hq
end
/-- the class has == of its own and object's != -/
structure Ne1 (K : PySem.W.Frag) (C g : Addr) : Prop where
  eq : PySem.W.findIn K (.ref C) "__eq__" = some (some (.ref g))
  fn : PySem.W.isFn K (.ref g) = true
  ne : PySem.W.findIn K (.ref C) "__ne__" = some (some (.builtin "object.__ne__"))
  obj : PySem.W.mroIn K C (.type "object") = some true
/-- a != b: the promise of == with the answer turned -/
def rNe2 (K : PySem.W.Frag) (g : Addr) (sp : Sp) (E : XK) : R2 := fun x y H Q => ∃ (p q C D dx dy : Addr) (fs gs : List (Str × V)), x = .ref p ∧ y = .ref q ∧ H p = some (.ins C dx fs) ∧ H q = some (.ins D dy gs) ∧ Ne1 K C g ∧ PySem.W.notFirst K C (.ref D) = true ∧ sp [.ref p, .ref q] H (fun v H' => ∃ c, v = .bl c ∧ Q (.bl (!c)) H') E
theorem op_ownNe {X : Cx} {CX : CXT} {k : Nat} {g : Addr} {sp : Sp} {E : XK} (hu : X.A.units + 1 < cLine) (F : FnR X.prog X.w X.K X.mg X.base CX k g sp) (hr : Room (k + 1) X.A) (hx : Passes CX X E) : OpR X (compareOp .NotEq) (rNe2 X.K g sp E) := by
  intro pins s σ H x y v u Q I rx ry h
  obtain ⟨p, q, C, D, dx, dy, fs, gs, rfl, rfl, ep, eq, c1, nf, hq⟩ := h
  obtain rfl : v = Value.ref p := rx
  obtain rfl : u = Value.ref q := ry
  obtain ⟨ox, od, J, _⟩ := StX.insC_at I (.inr ⟨dx, fs, ep⟩)
  obtain ⟨oy, oe, J2, _⟩ := StX.insC_at I (.inr ⟨dy, gs, eq⟩)
  refine PySem.W.cmp_ofNotEq (ne_K hu I.kIn J J2.type nf c1.obj c1.ne c1.eq c1.fn ?_)
  refine wpAny_mono (run_in (us := [.ref p, .ref q]) (vs := [.ref p, .ref q]) F hr hx I (.cons rfl (.cons rfl .nil)) hq) (fun v s' z => ?_) fun _ _ z => z
  obtain ⟨x2, H2, I2, r2, c, rfl, z⟩ := z
  exact ⟨c, r2, .bl (!c), H2, I2, rfl, z⟩
/-! ### len(o), o of an own class -/
structure Len1 (K : PySem.W.Frag) (C g : Addr) : Prop where
  at_ : PySem.W.findIn K (.ref C) "__len__" = some (some (.ref g))
  fn : PySem.W.isFn K (.ref g) = true
def rLenO (K : PySem.W.Frag) (g : Addr) (sp : Sp) (E : XK) : List V → Hp → VK → Prop := fun xs H Q => ∃ (a C dx : Addr) (fs : List (Str × V)), xs = [.ref a] ∧ H a = some (.ins C dx fs) ∧ Len1 K C g ∧ sp [.ref a] H (fun v H' => ∃ n : Int, v = .int n ∧ 0 ≤ n ∧ n < 2 ^ 63 ∧ Q (.int n) H') E
theorem call_lenO {X : Cx} {CX : CXT} {k : Nat} {g : Addr} {sp : Sp} {E : XK} (F : FnR X.prog X.w X.K X.mg X.base CX k g sp) (hr : Room (k + 1) X.A) (hx : Passes CX X E) : CallR X (.builtin "len") (rLenO X.K g sp E) := by
  intro pins s σ H xs us Q I r h
  obtain ⟨a, C, dx, fs, rfl, ea, c, hq⟩ := h
  obtain rfl := Vals.ref1 r
  obtain ⟨ox, od, J, _⟩ := StX.insC_at I (.inr ⟨dx, fs, ea⟩)
  obtain ⟨mm, fr⟩ := I.fr
  refine PySem.W.len_K fr I.ok.mod.kin J c.at_ c.fn (wpAny_mono (run_in (us := [.ref a]) (vs := [.ref a]) F hr hx I (.cons rfl .nil) hq) (fun v s' z => ?_) fun _ _ z => z)
  obtain ⟨y, H2, I2, ry, n, rfl, n0, n1, z⟩ := z
  obtain ⟨t, rfl⟩ := ry
  exact ⟨⟨n0, n1⟩, .int n, H2, I2.tok _, ⟨_, rfl⟩, z⟩
end OwR
end
section
/-! Walks over objects of own classes whose __iter__ gives a tuple's iterator. -/
namespace OwR
open PySem PySem.Spec PyProof.Rows L2
abbrev itTup (l : Addr) (i : Nat) : Obj := { cls := .type "tuple_iterator", data := .fields #[.ref l, .int i 0] }
/-- at it the iterator of the tuple at l, just made -/
def ItT (l it : Addr) : HO := .ext fun h => h.get? it = some (itTup l 0)
theorem itT_ok {P : Program} {w : World} {H : Hp} {h : Heap} {l it : Addr} (e : h.get? it = some (itTup l 0)) : ObjOk P w H h it (ItT l it) := ⟨e, ⟨_, e⟩, fun h1 h2 q k => k _ q⟩
theorem itT_get {X : Cx} {pins : List (Addr × Obj)} {σ : L2.St} {H : Hp} {s : Shared} {l it : Addr} (I : Inv X pins σ H s) (e : H it = some (ItT l it)) : s.heap.get? it = some (itTup l 0) := (I.hok it _ e).1
/-- iter(t), t a tuple -/
def rIterT (K : PySem.W.Frag) : List V → Hp → VK → Prop := fun xs H Q => ∃ (l : Addr) (zs : List V), xs = [.ref l] ∧ SqT K H l zs ∧ ∀ it, H it = none → Q (.ref it) (upd H it (ItT l it))
theorem call_iterT {X : Cx} : CallR X (.builtin "iter") (rIterT X.K) := by
  intro pins s σ H xs us Q I r h
  obtain ⟨l, zs, rfl, hq, q⟩ := h
  obtain rfl := Vals.ref1 r
  obtain ⟨its, rv, pl, hz⟩ := I.tuple hq
  refine Calls.call_function_entry (by decide +kernel) (by decide +kernel) PySem.W.kdk_entry_iter (PySem.W.kdk_args_iter _) ?_
  unfold Builtin.«iter»
  refine wpAny_bind (m := someArgs "iter" 1 2 _) (wpAny_of_eq (a := [Value.ref l]) (by first | rfl | kernel_rfl!) ?_)
  show wpAny _ _ (pyIter (.ref l) >>= fun v => ret v) _ _ _
  refine wpAny_bind (wpAny_pyIter_tuple (show s.heap.IsTuple l its.toArray from pl) ?_)
  exact wpAny_pure ⟨_, rfl, .ref s.heap.objs.size, _, I.laid (t' := s.toks) (fun b u e => Heap.get?_push_of_some _ e) (Nat.le_refl _) (itT_ok (Heap.get?_push_size _ rfl)), rfl, q _ (I.hok.fresh (Nat.le_refl _))⟩
/-- .. as young as the call -/
def rIterTN (K : PySem.W.Frag) (n : Nat) : List V → Hp → VK → Prop := fun xs H Q => ∃ (l : Addr) (zs : List V), xs = [.ref l] ∧ SqT K H l zs ∧ ∀ it, H it = none → n ≤ it → Q (.ref it) (upd H it (ItT l it))
theorem call_iterTN {X : Cx} : CallR X (.builtin "iter") (rIterTN X.K X.s_0.heap.objs.size) := by
  intro pins s σ H xs us Q I r h
  obtain ⟨l, zs, rfl, hq, q⟩ := h
  obtain rfl := Vals.ref1 r
  obtain ⟨its, rv, pl, hz⟩ := I.tuple hq
  refine Calls.call_function_entry (by decide +kernel) (by decide +kernel) PySem.W.kdk_entry_iter (PySem.W.kdk_args_iter _) ?_
  unfold Builtin.«iter»
  refine wpAny_bind (m := someArgs "iter" 1 2 _) (wpAny_of_eq (a := [Value.ref l]) (by first | rfl | kernel_rfl!) ?_)
  show wpAny _ _ (pyIter (.ref l) >>= fun v => ret v) _ _ _
  refine wpAny_bind (wpAny_pyIter_tuple (show s.heap.IsTuple l its.toArray from pl) ?_)
  exact wpAny_pure ⟨_, rfl, .ref s.heap.objs.size, _, I.laid (t' := s.toks) (fun b u e => Heap.get?_push_of_some _ e) (Nat.le_refl _) (itT_ok (Heap.get?_push_size _ rfl)), rfl, q _ (I.hok.fresh (Nat.le_refl _)) I.sz⟩
/-! ### a def whose promise may speak of where the call stands -/
def FnS (P : Program) (w : World) (K : PySem.W.Frag) (mg : Str → Option Value) (base : Heap) (CX : CXT) (k : Nat) (f : Addr) (fd : FuncData) (ps : List Str) (sp : Shared → Sp) : Prop :=
  ∀ (A : Around) (outer : List Env) (s : Shared) (H : Hp) (args : Args) (us : List Value) (vs : List V) (Q : VK) (E : XK), Room k A → Env0 P w K mg base A outer s H → BindsTo s fd args (ps.zip us) → Vals vs us → sp s vs H Q E →
    codeAny (model P w) A (.call (.ref f) args) (CR CX outer P w H s Q E) s
section
variable {CX : CXT} {P : Program} {w : World} {K : PySem.W.Frag} {mg : Str → Option Value} {base : Heap} {k : Nat} {f : Addr} {name qual : Str} {params : Arguments} {body : List Stmt} {scope : Scope} {dV kV doc pm cdv ct oc : Value} {an od : Option Addr}
  {osl : Array (Option Value)} {N ps : List Str} {sp : Shared → Sp}
theorem fn_ofS (lk : K.lookup f = some ⟨oc, od, .func (PySem.W.fnOf name qual params body scope dV kV doc pm an cdv ct), osl⟩) (hcd : PySem.W.codeIn K cdv qual = true) (S : FnScope N ps scope)
    (len : ∀ s vs H Q E, sp s vs H Q E → vs.length = ps.length)
    (hbody : ∀ (A : Around) (outer : List Env) (s : Shared) (H : Hp) (vs : List V) (Q : VK) (E : XK), Room k (A.deeper (envOfC qual scope s.heap.objs.size f cdv)) → sp s vs H Q E →
      ∃ t, PSs (cxOf CX P w K mg base N qual scope f cdv A outer s H E) body t ∧ t { nx := fun _ H' => Q .non H', rt := Q } (start N vs) H) :
    FnS P w K mg base CX (k + 1) f (PySem.W.fnOf name qual params body scope dV kV doc pm an cdv ct) ps sp := by
  intro A outer s H args us vs Q E hr e0 hb r hsp
  have hl := len _ _ _ _ _ hsp
  have KS : K.In s.heap := e0.mod.kin.keeps fun b o e => (e0.bs b o e).1
  have lims : s.heap.NoLimit := e0.mod.nolimit.keeps fun b o e => (e0.bs b o e).1
  have kinds : ∀ y ∈ ps.zip us, scope.names.lookup y.1 = some .local ∨ (scope.names.lookup y.1 = some .cell ∧ ((cellsFrom (s.heap.objs.size + 1) scope.names []).lookup y.1).isSome = true) := fun y hy =>
    (S.par y.1 (List.of_mem_zip hy).1).imp id fun q => ⟨q, PySem.W.cellsFrom_some _ _ _ (.inl q)⟩
  refine codeAny_call_function hr.depth (KS _ _ lk) rfl S.co S.gen rfl (PySem.W.codeRec_of KS hcd) (hb _ _ _ _ ?_)
  refine wpAny_newFunctionEnv_cells S.kind kinds fun env he s1 x => ?_
  subst he
  refine ⟨lims.keeps x.toInCall.keep, codeAny_func ?_⟩
  obtain ⟨t, ht, hq⟩ := hbody A outer s H vs Q E (hr.deeper _) hsp
  have I : Inv (cxOf CX P w K mg base N qual scope f cdv A outer s H E) [] (start N vs) H s1 := inv_start S hr.hd e0 hl r x
  refine wpAny_mono (ht.run [] s1 (start N vs) H _ I hq) (fun fl s' hs => ?_) fun _ _ z => z
  have done : ∀ {σ' : L2.St} {H' : Hp} {v : V} {u : Value}, Inv (cxOf CX P w K mg base N qual scope f cdv A outer s H E) [] σ' H' s' → RelV v u → Q v H' → CE outer P w H s Q u s' :=
    fun {σ' H' v u} J rv q => ⟨v, H', J.os, J.bare, J.base, J.hok, rv, q⟩
  cases fl with
  | ret u =>
    obtain ⟨v, σ', H', J, rv, q⟩ := hs
    exact done J rv q
  | next =>
    obtain ⟨σ', H', J, q⟩ := hs
    exact done (v := V.non) (u := Value.none) J rfl q
  | brk => exact (hs.elim fun _ z => z.elim fun _ z => z.2.elim)
  | cont => exact (hs.elim fun _ z => z.elim fun _ z => z.2.elim)
end
/-- def __iter__(self): return iter(self.fld) -/
def spIt (C : Addr) (K : PySem.W.Frag) (fld : Str) : Shared → Sp := fun s vs H Q _ => ∃ (a dx l : Addr) (fs : List (Str × V)) (zs : List V), vs = [.ref a] ∧ H a = some (.ins C dx fs) ∧ fs.lookup fld = some (.ref l) ∧ SqT K H l zs ∧ ∀ it, H it = none → s.heap.objs.size ≤ it → Q (.ref it) (upd H it (ItT l it))
/-- .. at a call with its arguments by place -/
def FnSR (P : Program) (w : World) (K : PySem.W.Frag) (mg : Str → Option Value) (base : Heap) (CX : CXT) (k : Nat) (f : Addr) (sp : Shared → Sp) : Prop :=
  ∀ (A : Around) (outer : List Env) (s : Shared) (H : Hp) (us : List Value) (vs : List V) (Q : VK) (E : XK), Room k A → Env0 P w K mg base A outer s H → Vals vs us → sp s vs H Q E →
    codeAny (model P w) A (.call (.ref f) ⟨us, []⟩) (CR CX outer P w H s Q E) s
theorem FnS.raw {P : Program} {w : World} {K : PySem.W.Frag} {mg : Str → Option Value} {base : Heap} {CX : CXT} {k : Nat} {f : Addr} {fd : FuncData} {ps : List Str} {sp : Shared → Sp} (F : FnS P w K mg base CX k f fd ps sp) (len : ∀ s vs H Q E, sp s vs H Q E → vs.length = ps.length)
    (hb : Binds K fd ps []) : FnSR P w K mg base CX k f sp := fun A outer s H us vs Q E hr e0 r hs => by
  have hl : (us ++ []).length = ps.length := by
    rw [List.append_nil, ← r.length]
    exact len _ _ _ _ _ hs
  have b := hb s us (e0.mod.kin.keeps fun b o e => (e0.bs b o e).1) hl
  rw [List.append_nil] at b
  exact F A outer s H ⟨us, []⟩ us vs Q E hr e0 b r hs
structure OwnIt (K : PySem.W.Frag) (C f : Addr) (fld : Str) : Prop where
  cls : Cls K C
  na : NoAttr K C fld
  at_ : PySem.W.findIn K (.ref C) "__iter__" = some (some (.ref f))
  fn : PySem.W.isFn K (.ref f) = true
/-- over an object whose __iter__ gives the iterator of the tuple at l -/
def iOwn (K : PySem.W.Frag) (f : Addr) (fld : Str) (te : TE) : TI := fun σ H R => te σ H fun x H1 => ∃ (a C dx l : Addr) (fs : List (Str × V)) (zs : List V), x = .ref a ∧ H1 a = some (.ins C dx fs) ∧ OwnIt K C f fld ∧ fs.lookup fld = some (.ref l) ∧ SqT K H1 l zs ∧ R (Itt K l) H1
theorem tup_next {M : Model} {A : Around} {E : Value → Shared → Prop} {s : Shared} {it l : Addr} {Q : Value → Shared → Prop} (h : s.heap.get? it = some (itTup l 0)) (q : Q (.ref it) s) : PySem.W.OwitIt M A Q E (.ref it) s := by
  unfold PySem.W.OwitIt
  exact wpAny_specialOf (name := Str.ofString "__next__") (⟨_, h, rfl⟩ : s.TypeIs (.ref it) "tuple_iterator") PySem.F.slot_tuple_iterator_next.lookup q
theorem pi_own {X : Cx} {CX : CXT} {k : Nat} {f : Addr} {fld : Str} {E : XK} {tg e : Expr} {te : TE} (he : PE X e te) (F : ∀ C, OwnIt X.K C f fld → FnSR X.prog X.w X.K X.mg X.base CX k f (spIt C X.K fld)) (hr : Room k X.A) (hx : Passes CX X E) : PI X tg e (iOwn X.K f fld te) := by
  refine ⟨fun pins s σ H R I h => ?_⟩
  refine thn (he.run pins s σ H _ I h) fun u s1 ⟨x, H1, I1, rx, a, C, dx, l, fs, zs, ex, ea, c, lk, sq, hq⟩ => ?_
  subst ex
  obtain rfl : u = Value.ref a := rx
  obtain ⟨ox, od, J, _⟩ := StX.insC_at I1 (.inr ⟨dx, fs, ea⟩)
  obtain ⟨mm, fr⟩ := I1.fr
  have sp0 : spIt C X.K fld s1 [.ref a] H1 (fun v H2 => ∃ it, v = .ref it ∧ H1 it = none ∧ s1.heap.objs.size ≤ it ∧ H2 = upd H1 it (ItT l it)) E := ⟨a, dx, l, fs, zs, rfl, ea, lk, sq, fun it e n => ⟨it, rfl, e, n, rfl⟩⟩
  refine PySem.W.owit_iter fr I1.ok.mod.kin J c.at_ c.fn (wpAny_call (codeAny_mono (F C c X.A X.stack s1 H1 [.ref a] [.ref a] _ E hr I1.env0 (.cons rfl .nil) sp0) fun r s' z => ?_))
  match r, z with
  | .error er, z => exact hx pins σ H1 s1 er s' I1 z
  | .ok (.ret v), z =>
    obtain ⟨y, H2, os, br, un, ok, ry, it, ey, e1, hn, eH⟩ := z
    subst ey
    subst eH
    obtain rfl : v = Value.ref it := ry
    have I2 : Inv X pins σ (upd H1 it (ItT l it)) s' := I1.call' os un ok br fun b m => by cases m
    have eo := itT_get I2 upd_same
    refine tup_next eo ?_
    have e2 : upd H1 it (ItT l it) it = some (.ext fun h => h.get? it = some (itTup l 0)) := upd_same
    have I3 := ItX.inv_drop I2 e2
    rw [ItX.dropH_upd e1] at I3
    have fp := ItX.inv_fp I2 e2 (Nat.le_trans I1.sz hn)
    rw [ItX.dropH_upd e1] at fp
    refine ⟨it, [it], _, _, H1, rfl, I3, turn_tuple l it, ⟨_, eo, rfl, rfl⟩, fun b hb => ?_, hq⟩
    obtain rfl : b = it := by simpa using hb
    exact fp
end OwR
end
section
/-! list(o), o an object whose __iter__ gives a tuple's iterator and whose __len__ its length. -/
namespace OwR
open PySem PySem.Spec PyProof.Rows L2
section
variable {X : Cx} {pins : List (Addr × Obj)} {σ : L2.St} {H : Hp} {s : Shared}
/-- a list has been filled, an iterator has turned -/
theorem listed {S it : Addr} {xs ys : List V} {acc : Array Value} {c : Nat} {h' : Heap} {t' : Nat} (I : Inv X pins σ H s) (fp : FpOk X pins H it) (hS : H S = some (.lst ys)) (k : ∀ b o, b ≠ S → b ≠ it → s.heap.get? b = some o → h'.get? b = some o)
    (eS : h'.get? S = some ({ cls := .type "list", dict := none, data := .seq acc c, slots := #[] } : Obj)) (rv : Vals xs acc.toList) (hz : xs.length ≤ sizeLine) : Inv X pins σ (upd H S (.lst xs)) { s with heap := h', toks := t' } := by
  have nS : ∀ {b : Addr} {u : HO}, H b = some u → (∀ zs, u ≠ .lst zs) → b ≠ S := fun {b u} e n z => by
    rw [z, hS] at e
    exact n ys (Option.some.inj e).symm
  have nN : ∀ {b : Addr}, H b = none → b ≠ S := fun {b} e z => by
    rw [z, hS] at e
    cases e
  have nI : ∀ {b : Addr} {u : HO}, H b = some u → b ≠ it := fun {b u} e z => by
    rw [z, fp.1] at e
    cases e
  have ni : ∀ {b : Addr}, b ∉ [it] → b ≠ it := fun {b} m z => m (List.mem_singleton.mpr z)
  refine I.step (g' := s.gens) (d' := s.drawn) (ch := [it]) (fun b m => ?_) (fun b o _ _ m e n => k b o (nN n) (ni m) e) (fun b o _ _ m e n => ⟨o.slots, k b o (nN n) (ni m) e⟩) (fun b o m e n => by rw [upd_ne (nN n)]; exact n) (fun b o m e => ?_)
    (fun b zs e => by rw [upd_ne (nS e fun _ z => by cases z)]; exact e) (fun b o u e => by rw [upd_ne (nS e fun _ z => by cases z)]; exact e) (fun b ps e => ⟨#[], by rw [upd_ne (nS e fun _ z => by cases z), e]; simp⟩) (fun m hm => ?_) (fun b u e => ?_) I.bare
  · obtain rfl : b = it := by simpa using m
    exact ⟨fp.2.2.2.1, fp.2.1, fp.2.2.2.2.1, fp.2.2.2.2.2⟩
  · by_cases c : b = S
    · subst c
      exact ⟨_, eS⟩
    · exact ⟨o, k b o c (ni m) e⟩
  · obtain ⟨o, es, ep, ho, r⟩ := hm
    exact ⟨o, es, ep, k _ o (nN I.free) (Ne.symm fp.2.1) ho, r⟩
  · by_cases c : b = S
    · subst c
      rw [upd_same] at e
      cases e
      exact ⟨hz, acc.toList, _, rv, eS⟩
    · rw [upd_ne c] at e
      refine (I.hok b u e).stay (fun d v hd q => k d v ?_ ?_ q) (fun d z => ?_) fun d zs z => ?_
      · rcases hd with z | z
        · rw [z]
          exact c
        · exact nS z fun _ w => by cases w
      · rcases hd with z | z
        · rw [z]
          exact nI e
        · exact nI z
      · rw [upd_ne (nS z fun _ w => by cases w)]
        exact z
      · rw [upd_ne (nS z fun _ w => by cases w)]
        exact z
end
theorem items_all {its : List Value} {acc : Array Value} (h : ItemsOf (fun i v => its.toArray[i]? = some v) acc its.toArray.size) : acc.toList = its := by
  refine List.ext_getElem? fun i => ?_
  obtain ⟨h1, h2⟩ := h
  have h1' : acc.size = its.length := by simpa using h1
  cases e : acc.toList[i]? with
  | some v =>
    have e2 : acc[i]? = some v := by rw [← Array.getElem?_toList]; exact e
    have e3 : its.toArray[i]? = some v := h2 i v e2
    rw [List.getElem?_toArray] at e3
    exact e3.symm
  | none =>
    have : acc.toList.length ≤ i := List.getElem?_eq_none_iff.mp e
    rw [Array.length_toList, h1'] at this
    exact (List.getElem?_eq_none this).symm
/-- len(self) is len(self.fld) -/
def spLn (C : Addr) (K : PySem.W.Frag) (fld : Str) : Sp := fun vs H Q _ => ∃ (a dx l : Addr) (fs : List (Str × V)) (zs : List V), vs = [.ref a] ∧ H a = some (.ins C dx fs) ∧ fs.lookup fld = some (.ref l) ∧ SqT K H l zs ∧ Q (.int (zs.length : Nat)) H
def rListO (K : PySem.W.Frag) (f g : Addr) (fld : Str) : List V → Hp → VK → Prop := fun xs H Q => ∃ (a C dx l : Addr) (fs : List (Str × V)) (zs : List V), xs = [.ref a] ∧ H a = some (.ins C dx fs) ∧ OwnIt K C f fld ∧ Len1 K C g ∧ fs.lookup fld = some (.ref l) ∧ SqT K H l zs ∧ ∀ q, H q = none → Q (.ref q) (upd H q (.lst zs))
theorem asInt_of (n : Int) (t : Tok) : asInt? (.int n t) = pure (some n) := rfl
/-- the hint of how many there are -/
theorem hint_own {prog : Program} {w : World} {A : Around} {E : Value → Shared → Prop} {s : Shared} {K : PySem.W.Frag} {a C g : Addr} {ox : Obj} {od : Option Obj} {Q : Bool → Shared → Prop} (X : K.In s.heap) (J : PySem.W.InstAt s.heap a ox C od) (c : Len1 K C g)
    (h : ∀ E' : Value → Shared → Prop, wpAny (model prog w) A (call (.builtin "len") [.ref a]) (fun v s' => ∃ (n : Int) (t : Tok), v = .int n t ∧ n.toNat ≤ sizeLine ∧ Q (n != 0) s') E' s) : wpAny (model prog w) A (Builtin.List.listLengthHint (.ref a)) Q E s := by
  unfold Builtin.List.listLengthHint
  refine wpAny_bind (wpAny_bind (J.type.here ((PySem.W.looks_findIn X c.at_).here ?_)))
  refine PySem.W.KFB.if_not rfl ?_
  refine wpAny_ite_split (fun _ => ?_) (fun z => absurd rfl z)
  refine wpAny_bind (wpAny_rule ?_)
  refine wpAny_bind (wpAny_attempt (wpAny_mono (h _) (fun v s' q => ?_) fun _ _ z => z))
  obtain ⟨n, t, rfl, hn, q⟩ := q
  refine wpAny_bind (m := asInt? (.int n t)) (wpAny_pure ?_)
  exact PySem.W.KFB.if_not (notLongL hn) (wpAny_pure q)
theorem call_listO {X : Cx} {k : Nat} {f g : Addr} {fld : Str} (F : ∀ C, OwnIt X.K C f fld → FnSR X.prog X.w X.K X.mg X.base CX0 k f (spIt C X.K fld)) (G : ∀ C, Len1 X.K C g → OwnIt X.K C f fld → FnR X.prog X.w X.K X.mg X.base CX0 k g (spLn C X.K fld)) (hc : X.calm = true) (hr : Room (k + 3) X.A) : CallR X (.type "list") (rListO X.K f g fld) := by
  intro pins s σ H xs us Q I rv h
  obtain ⟨a, C, dx, l, fs, zs, rfl, ha, cI, cL, lk, sq, q⟩ := h
  obtain rfl := Vals.ref1 rv
  have fr0 : H s.heap.objs.size = none := I.hok.fresh (Nat.le_refl _)
  refine callType_codes (Q₁ := fun obj t => obj = .ref s.heap.objs.size ∧ t = { s with heap := s.heap.push { cls := .type "list", data := .seq #[] } }) PySem.F.called_list (PySem.F.typeCall_list_1 _) PySem.F.entry_list_init (code_list_new _ ⟨rfl, rfl⟩) fun obj t ht => ?_
  obtain ⟨rfl, rfl⟩ := ht
  have hS : (s.heap.push { cls := .type "list", data := .seq #[] }).get? s.heap.objs.size = some { cls := .type "list", data := .seq #[] } := Heap.get?_push_size _ rfl
  refine ⟨⟨_, hS, rfl⟩, PySem.F.args_list_init_2 _ _, ?_⟩
  have I1 : Inv X pins σ (upd H s.heap.objs.size (.lst [])) { s with heap := s.heap.push { cls := .type "list", data := .seq #[] } } := I.lnew (its := []) (t' := s.toks) .nil (Nat.zero_le _)
  generalize eSz : s.heap.objs.size = S at *
  show wpAny _ _ (do let old ← Builtin.List.listItems (.ref S); Builtin.List.listUpdate (.ref S) (fun _ => #[]); letGo old.toList.reverse; Builtin.List.listExtendWith (.ref S) (.ref a) .none) _ _ _
  refine wpAny_bind ?_
  unfold Builtin.List.listItems
  refine wpAny_bind (wpAny_seqItems hS rfl (wpAny_pure ?_))
  show wpAny _ _ (updateSeq S (fun _ => #[]) >>= fun _ => letGo (#[] : Array Value).toList.reverse >>= fun _ => Builtin.List.listExtendWith (.ref S) (.ref a) .none) _ _ _
  refine wpAny_bind (wpAny_updateSeq hS rfl ?_)
  have I2 := I1.lset (f := fun _ => #[]) (its := []) (its' := []) (ys := []) (t' := s.toks) upd_same hS rfl .nil (Nat.zero_le _)
  rw [upd_upd] at I2
  refine wpAny_bind (wpAny_letGo ?_)
  have ha2 : upd H S (.lst []) a = some (.ins C dx fs) := by
    rw [upd_ne (ne_of_none ha fr0)]
    exact ha
  have sq2 : SqT X.K (upd H S (.lst [])) l zs := sq.elim (fun r => .inl (r.elim (fun e => .inl (by rw [upd_ne (ne_of_none e fr0)]; exact e)) fun ⟨o, e⟩ => .inr ⟨o, by rw [upd_ne (ne_of_none e fr0)]; exact e⟩)) .inr
  have eS2 : upd H S (.lst []) S = some (.lst []) := upd_same
  have done : ∀ s', Inv X pins σ (upd (upd H S (.lst [])) S (.lst zs)) s' → EP X pins σ Q (.ref S) s' := fun s' J => by
    rw [upd_upd] at J
    exact ⟨.ref S, _, J, rfl, q S fr0⟩
  generalize upd H S (.lst []) = H2 at I2 ha2 sq2 eS2 done
  generalize ({ s with heap := ((s.heap.push { cls := .type "list", data := .seq #[] }).update S (Obj.mapSeq fun _ => #[])), toks := s.toks } : Shared) = s2 at I2 ⊢
  have sz := sizeLine_eq
  have nSa : S ≠ a := fun z => by
    rw [z, ha2] at eS2
    cases eS2
  obtain ⟨ox, od, J, _⟩ := StX.insC_at I2 (.inr ⟨dx, fs, ha2⟩)
  obtain ⟨mm, fr⟩ := I2.fr
  obtain ⟨itz, rvz, plz, hz⟩ := I2.tuple sq2
  unfold Builtin.List.listExtendWith
  refine wpAny_bind (J.type.here ?_)
  have t1 : Builtin.List.listSameRef (.ref S) (.ref a) = false := by simp [Builtin.List.listSameRef, nSa]
  have t2 : (Value.ref C == Value.type "list") = false := rfl
  have t3 : (Value.ref C == Value.type "tuple") = false := rfl
  simp only [t3, t2, t1, Bool.false_eq_true, Bool.or_false, if_false]
  have sp0 : spIt C X.K fld s2 [.ref a] H2 (fun v G2 => ∃ it, v = .ref it ∧ H2 it = none ∧ s2.heap.objs.size ≤ it ∧ G2 = upd H2 it (ItT l it)) E0 := ⟨a, dx, l, fs, zs, rfl, ha2, lk, sq2, fun it e n => ⟨it, rfl, e, n, rfl⟩⟩
  refine wpAny_bind (PySem.W.owit_iter fr I2.ok.mod.kin J cI.at_ cI.fn (wpAny_call (codeAny_mono (F C cI X.A.in1.in1 X.stack s2 H2 [.ref a] [.ref a] _ E0 (hr.in1.in1.mono (Nat.le_succ k)) I2.env0.in1.in1 (.cons rfl .nil) sp0) fun r s' z => ?_)))
  match r, z with
  | .error er, z => exact z.elim
  | .ok (.ret v), z =>
    obtain ⟨y, G3, os, br, un, ok, ry, it, ey, e1, hn, eH⟩ := z
    subst ey
    subst eH
    obtain rfl : v = Value.ref it := ry
    have I3 : Inv X pins σ (upd H2 it (ItT l it)) s' := I2.call' os un ok br fun b m => by cases m
    have nlit : l ≠ it := fun e => by
      obtain ⟨o, eo, _⟩ := plz
      exact absurd (Nat.lt_of_lt_of_le (Heap.lt_size eo) (e ▸ hn)) (Nat.lt_irrefl _)
    have mono : ∀ {b : Addr} {u : HO}, H2 b = some u → upd H2 it (ItT l it) b = some u := fun {b u} e => by
      rw [upd_ne (ne_of_none e e1)]
      exact e
    have ha3 := mono ha2
    have eS3 := mono eS2
    have sq3 : SqT X.K (upd H2 it (ItT l it)) l zs := sq2.elim (fun r => .inl (r.elim (fun e => .inl (mono e)) fun ⟨o, e⟩ => .inr ⟨o, mono e⟩)) .inr
    have e2 : upd H2 it (ItT l it) it = some (.ext fun h => h.get? it = some (itTup l 0)) := upd_same
    have fp0 := ItX.inv_fp I3 e2 (Nat.le_trans I2.sz hn)
    rw [ItX.dropH_upd e1] at fp0
    have loop : ∀ s4, Inv X pins σ (upd H2 it (ItT l it)) s4 → codeAny (model X.prog X.w) X.A.in1 (.builtin "list.extend.loop" ⟨[.ref S, .ref it, .none], []⟩) (wants (fun r t => r = .none ∧ EP X pins σ Q (.ref S) t) X.xe) s4 := fun s4 I4 => by
      have eo := itT_get I4 upd_same
      obtain ⟨iz, rz, pz, lz⟩ := I4.tuple sq3
      obtain ⟨z1, l1, c1, r1, _, f1⟩ := I4.lstM eS3
      cases r1
      have W := Walks.tuple (prog := X.prog) (w := X.w) (A := X.A.in1.in1) (I.ok.hd hc) it l nlit iz.toArray
      have I5 := ItX.inv_drop I4 e2
      rw [ItX.dropH_upd e1] at I5
      have nSf : S ∉ [it, l] := fun m => by
        rcases List.mem_cons.mp m with z | m
        · rw [z, e1] at eS2
          cases eS2
        · obtain ⟨o, e3, c3, d3⟩ := pz
          rw [← List.mem_singleton.mp m, f1] at e3
          cases e3
          exact absurd (show Value.type "list" = Value.type "tuple" from c3) (by decide)
      refine codeAny_extend_loopS W.toS (by rw [List.size_toArray, ← rz.length]; exact lz) S nSf .none iz.toArray.size 0 s4 #[] c1 rfl (Nat.zero_le _) ⟨⟨_, eo, rfl, rfl⟩, pz⟩ f1 (ItemsOf.nil _) fun t acc c2 mv f2 ic => ?_
      refine ⟨rfl, done t ?_⟩
      have J5 := listed (xs := zs) (acc := acc) (c := c2) (h' := t.heap) (t' := t.toks) I5 fp0 eS2 (fun b o n1 n2 e => mv.heap b o (fun m => (List.mem_cons.mp m).elim n1 fun m => n2 (List.mem_singleton.mp m)) e) f2 (by rw [items_all ic]; exact rz) lz
      rw [Moved.eq_with mv]
      exact J5
    refine tup_next (itT_get I3 upd_same) ?_
    obtain ⟨ox3, od3, J3, _⟩ := StX.insC_at I3 (.inr ⟨dx, fs, ha3⟩)
    obtain ⟨m3, fr3⟩ := I3.fr
    refine wpAny_bind (wpAny_holding (hint_own I3.kIn J3 cL fun E' => ?_))
    refine PySem.W.len_K fr3 I3.ok.mod.kin J3 cL.at_ cL.fn (wpAny_call (codeAny_mono (G C cL cI X.A.in1.in1.in1 X.stack s' _ [.ref a] [.ref a] (fun v G4 => v = .int (zs.length : Nat) ∧ G4 = upd H2 it (ItT l it)) E0 hr.in1.in1.in1 I3.env0.in1.in1.in1 (.cons rfl .nil) ⟨a, dx, l, fs, zs, rfl, ha3, lk, sq3, rfl, rfl⟩) fun r2 s5 z2 => ?_))
    match r2, z2 with
    | .error er, z2 => exact z2.elim
    | .ok (.ret v2), z2 =>
      obtain ⟨y2, G5, os2, br2, un2, ok2, ry2, ey2, eG⟩ := z2
      subst ey2
      subst eG
      obtain ⟨tk, rfl⟩ := ry2
      have I5 : Inv X pins σ (upd H2 it (ItT l it)) { s5 with toks := s5.toks + 1 } := (I3.call' os2 un2 ok2 br2 fun b m => by cases m).tok _
      refine ⟨⟨Int.natCast_nonneg _, by have : zs.length ≤ 16777216 := by rw [← sz]; exact hz
                                        omega⟩, _, _, rfl, by rw [Int.toNat_natCast]; exact hz, ?_⟩
      refine wpAny_ite_split (fun _ => ?_) (fun _ => wpAny_pure ⟨plainId_quiet PySem.F.plain_extend_loop _, loop _ I5⟩)
      refine wpAny_bind (wpAny_rule ?_)
      refine wpAny_bind ?_
      show wpAny _ _ (updateSeq S (·.push .none) >>= fun _ => updateSeq S (·.pop)) _ _ _
      obtain ⟨z6, l6, c6, r6, _, f6⟩ := I5.lstM eS3
      cases r6
      refine wpAny_bind (wpAny_updateSeq f6 rfl ?_)
      have I6 := I5.lset (f := (·.push Value.none)) (its := []) (its' := [Value.none]) (ys := [.non]) (t' := s5.toks + 1) eS3 f6 (by simp) (.cons rfl .nil) (by rw [List.length_singleton, sz]; decide)
      obtain ⟨z7, l7, c7, r7, _, f7⟩ := I6.lstM upd_same
      obtain ⟨u7, rfl, ru7⟩ := r7.one
      refine wpAny_updateSeq f7 rfl ?_ (by show 1 ≤ sizeLine; rw [sz]; decide) (by show 0 ≤ sizeLine + 1; exact Nat.zero_le _)
      have I7 := I6.lset (f := (·.pop)) (its := [u7]) (its' := []) (ys := []) (t' := s5.toks + 1) upd_same f7 (by rfl) .nil (Nat.zero_le _)
      rw [upd_upd] at I7
      have back : upd (upd H2 it (ItT l it)) S (.lst []) = upd H2 it (ItT l it) := funext fun b => by
        by_cases e : b = S
        · rw [e, upd_same, eS3]
        · rw [upd_ne e]
      rw [back] at I7
      exact wpAny_pure ⟨plainId_quiet PySem.F.plain_extend_loop _, loop _ I7⟩
end OwR
end
section
/-! def f(a, .., *v, k): called with the keyword; instances made so. -/
namespace OwR
open PySem PySem.Spec PyProof.Rows L2
/-- a promise by places and by the values of given keywords -/
def FnRK (P : Program) (w : World) (K : PySem.W.Frag) (mg : Str → Option Value) (base : Heap) (CX : CXT) (k : Nat) (f : Addr) (ks : List Str) (sp : List V → Sp) : Prop :=
  ∀ (A : Around) (outer : List Env) (s : Shared) (H : Hp) (us ws : List Value) (vs zs : List V) (Q : VK) (E : XK), Room k A → Env0 P w K mg base A outer s H → Vals vs us → Vals zs ws → sp zs vs H Q E →
    codeAny (model P w) A (.call (.ref f) ⟨us, ks.zip ws⟩) (CR CX outer P w H s Q E) s
section
variable {CX : CXT} {P : Program} {w : World} {K : PySem.W.Frag} {mg : Str → Option Value} {base : Heap} {k : Nat} {f : Addr} {name qual : Str} {params : Arguments} {body : List Stmt} {scope : Scope} {dV kV doc pm cdv ct oc : Value} {an od : Option Addr}
  {osl : Array (Option Value)} {N ps : List Str} {sp : Sp}
theorem fn_starko {pv kn : Str} (lk : K.lookup f = some ⟨oc, od, .func (PySem.W.fnOf name qual params body scope dV kV doc pm an cdv ct), osl⟩) (hcd : PySem.W.codeIn K cdv qual = true) (S : FnScope N (ps ++ [kn, pv]) scope) (hCX : StX.CXUp CX)
    (hb : ∀ (us rest : List Value) (y : Value), us.length = ps.length → bindArgs (PySem.W.fnOf name qual params body scope dV kV doc pm an cdv ct) ⟨us ++ rest, [(kn, y)]⟩ = (newTuple rest >>= fun t => pure (ps.zip us ++ [(kn, y), (pv, t)])))
    (hbody : ∀ (A : Around) (outer : List Env) (s : Shared) (H : Hp) (vs : List V) (Q : VK) (E : XK), Room k (A.deeper (envOfC qual scope s.heap.objs.size f cdv)) → sp vs H Q E →
      ∃ t, PSs (cxOf CX P w K mg base N qual scope f cdv A outer s H E) body t ∧ t { nx := fun _ H' => Q .non H', rt := Q } (start N vs) H) :
    FnRK P w K mg base CX (k + 1) f [kn] (fun zs vs H Q E => ∃ as rest y, zs = [y] ∧ vs = as ++ rest ∧ as.length = ps.length ∧ rest.length ≤ sizeLine ∧ ∀ p, H p = none → sp (as ++ [y, V.ref p]) (upd H p (.tup rest)) Q E) := by
  intro A outer s H us ws vs zs Q E hr e0 r rz hsp
  obtain ⟨as, rest, y, rfl, rfl, hl, hz, hq⟩ := hsp
  obtain ⟨u1, u2, rfl, r1, r2⟩ := StX.vals_split r
  obtain ⟨yv, rfl, ry⟩ := rz.one
  have fresh : H s.heap.objs.size = none := e0.hok.fresh (Nat.le_refl _)
  have l1 : u1.length = ps.length := r1.length.symm.trans hl
  have l2 : u2.length ≤ sizeLine := r2.length ▸ hz
  refine StX.run_bnd (args := ⟨u1 ++ u2, [kn].zip [yv]⟩) lk hcd S hr e0 (G := fun xs G2 => ∃ p, H p = none ∧ xs = as ++ [y, V.ref p] ∧ G2 = upd H p (.tup rest)) (fun A' Ex Q' h => ?_) fun s2 G2 xs g hr' => ?_
  · show wpAny _ _ (bindArgs _ ⟨u1 ++ u2, [(kn, yv)]⟩) _ _ _
    rw [hb u1 u2 yv l1]
    refine wpAny_bind (wpAny_newTuple (wpAny_pure ?_) l2)
    have laid : ObjOk P w (upd H s.heap.objs.size (.tup rest)) (s.heap.push ({ cls := .type "tuple", data := .seq u2.toArray } : Obj)) s.heap.objs.size (.tup rest) := ⟨hz, u2, r2, ⟨_, Heap.get?_push_size _ rfl, rfl, _, rfl⟩⟩
    have un := StX.un_laid (fs := frs outer) (s := s) (o := ({ cls := .type "tuple", data := .seq u2.toArray } : Obj)) (u := .tup rest) fresh
    have z := h _ _ (as ++ [y, V.ref s.heap.objs.size]) (u1 ++ [yv, Value.ref s.heap.objs.size]) (StX.env0_laid e0 laid) un rfl (fun e s' => hCX outer s H _ _ E e s' un (fun b o q => Heap.get?_push_of_some _ q) rfl) (r1.append (.cons ry (.cons rfl .nil)))
      (by rw [List.length_append, List.length_append, hl] <;> rfl) ⟨_, fresh, rfl, rfl⟩
    rw [List.zip_append l1.symm] at z
    exact z
  · obtain ⟨p, hp, rfl, rfl⟩ := g
    exact hbody A outer s2 _ _ Q E hr' (hq p hp)
end
section
variable {X : Cx} {CX : CXT} {k : Nat} {f C : Addr} {ks : List Str} {sp : List V → Sp} {E : XK} {x : Str} {p pos : Pos} {e : Expr} {es : List Expr} {kws : List Keyword} {t tk : TA}
theorem run_makeRK {pins : List (Addr × Obj)} {σ : L2.St} {H : Hp} {s : Shared} {Q : VK} {us ws : List Value} {vs zs : List V} (M : Mk X.K C f) (F : FnRK X.prog X.w X.K X.mg X.base CX k f ks sp) (hr : Room (k + 1) X.A) (hx : Passes CX X E) (I : Inv X pins σ H s) (r : Vals vs us) (rz : Vals zs ws)
    (h : ∀ y dy, H y = none → H dy = none → dy ≠ y → sp zs (.ref y :: vs) (upd (upd H dy (.own y)) y (.ins C dy [])) (fun v G => v = .non ∧ Q (.ref y) G) E) : wpAny (model X.prog X.w) X.A (call (.ref C) us (ks.zip ws)) (EP X pins σ Q) X.xe s := by
  have hq := h (s.heap.objs.size + 1) s.heap.objs.size (I.hok.fresh (Nat.le_succ _)) (I.hok.fresh (Nat.le_refl _)) (Nat.ne_of_lt (Nat.lt_succ_self _))
  have J := Inv.made (C := C) I
  have rr : Vals (V.ref (s.heap.objs.size + 1) :: vs) (Value.ref (s.heap.objs.size + 1) :: us) := .cons rfl r
  refine wpAny_call (make_map (f := f) I.kIn M.makes M.init (beq_iff_eq.mp M.fn) (codeAny_mono (F _ X.stack _ _ (Value.ref (s.heap.objs.size + 1) :: us) ws _ zs _ E (hr.make C us (ks.zip ws)) (J.env0.make C us (ks.zip ws)) rr rz hq) fun r s' z => ?_))
  match r, z with
  | .error er, z => exact hx pins σ _ _ er s' J z
  | .ok (.ret u), z =>
    obtain ⟨v, G, I3, rv, ev, q3⟩ := J.after z
    subst ev
    exact ⟨rv, ⟨V.ref (s.heap.objs.size + 1), G, I3, rfl, q3⟩⟩
def tMakeRK (C : Addr) (sp : List V → Sp) (E : XK) (t tk : TA) : TE := fun σ H Q => t σ H fun vs H1 => tk σ H1 fun zs H2 => ∀ y dy, H2 y = none → H2 dy = none → dy ≠ y → sp zs (.ref y :: vs) (upd (upd H2 dy (.own y)) y (.ins C dy [])) (fun v G => v = .non ∧ Q (.ref y) G) E
/-- C(e, .., k = v), __init__ with a starred parameter -/
theorem pe_makeRK (M : Mk X.K C f) (F : FnRK X.prog X.w X.K X.mg X.base CX k f ks sp) (hr : Room (k + 1) X.A) (hg : Gl X x) (hm : X.mg x = some (.ref C)) (hx : Passes CX X E) (ha : PA X (e :: es) t) (hkw : PK X kws tk)
    (hall : (backToKw pos (keywordEach kws X.env)).all (·.1.isSome) = true := by rfl) (hks : (backToKw pos (keywordEach kws X.env)).filterMap (·.1) = ks := by rfl) (hdb : (x == ("__debug__" : Str)) = false := by decide)
    (he : starEach (e :: es) X.env = (false, eval e X.env) :: starEach es X.env := by rfl) (hpl : ((backTo pos (starEach (e :: es) X.env)).any (·.1) || (backToKw pos (keywordEach kws X.env)).any (·.1.isNone)) = false := by rfl) :
    PE X (.Call (.Name x p) (e :: es) kws pos) (tMakeRK C sp E t tk) := by
  refine ⟨fun pins s σ H Q I h => ?_⟩
  refine wpAny_Call_Name_kw (ld_glob I hg hm ?_ hdb)
  refine PySem.W.callWith_KW (h₀ := X.base) I.ok.mod.kin M.kp hall (thn (ha.run pos pins s σ H _ I h) fun us s1 ⟨vs, H1, I1, r, q⟩ => ?_) hpl he
  refine thn (hkw.run pos pins s1 σ H1 _ I1 q) fun ws s2 ⟨zs, H2, I2, rz, q2⟩ => ⟨I2.kIn, ?_⟩
  rw [hks]
  exact run_makeRK M F hr hx I2 r rz q2
end
end OwR
end
section
/-! xs[::k]; an own == asked of any value; str(o) by an own __str__. -/
namespace OwR
open PySem PySem.Spec PyProof.Rows L2
/-! ### xs[::k] -/
theorem vals_pick {xs : List V} {us : List Value} (r : Vals xs us) : ∀ idx : List Nat, Vals (idx.filterMap (xs[·]?)) (idx.filterMap (us[·]?))
  | [] => .nil
  | i :: l => by
    have ih := vals_pick r l
    rw [List.filterMap_cons, List.filterMap_cons]
    cases hx : xs[i]? with
    | none =>
      have e : us[i]? = none := by
        rw [List.getElem?_eq_none_iff] at hx ⊢
        rw [← r.length]
        exact hx
      rw [e]
      exact ih
    | some x =>
      obtain ⟨u, hu, ru⟩ := r.get hx
      rw [hu]
      exact .cons ru ih
theorem pick_mem {α : Type} {xs : List α} : ∀ {idx : List Nat} {y : α}, y ∈ idx.filterMap (xs[·]?) → y ∈ xs := fun {idx y} h => by
  obtain ⟨i, _, e⟩ := List.mem_filterMap.mp h
  exact List.mem_of_getElem? e
def tStepL (K : PySem.W.Frag) (te : TE) : TE := fun σ H Q => te σ H fun x H1 => ∃ a xs, x = .ref a ∧ SqL K H1 a xs ∧ ∀ p ys, H1 p = none → (∀ y ∈ ys, y ∈ xs) → Q (.ref p) (upd H1 p (.lst ys))
theorem pe_stepL {X : Cx} {e : Expr} {te : TE} {n : Nat} {k : Nat} {p1 p3 pos : Pos} (h0 : (n : Int) ≠ 0) (he : PE X e te) : PE X (.Subscript e (.Slice none none (some (.Constant (.int (n : Int)) k p1)) p3) pos) (tStepL X.K te) := by
  refine ⟨fun pins s σ H Q I h => ?_⟩
  refine Subscript_ (thn (he.run pins s σ H _ I h) fun v s1 w => ?_)
  obtain ⟨x, H1, I1, r1, a, xs, rfl, hx, q⟩ := w
  cases r1
  have hst : PO X (some (.Constant (.int (n : Int)) k p1)) (tPart (tC (.int (n : Int)))) := po_some pe_int
  refine wpAny_Slice (thn (po_none.run pins s1 σ H1 (fun o H2 => o = none ∧ H2 = H1) I1 ⟨rfl, rfl⟩) fun vl s2 w2 => ?_)
  obtain ⟨l, H2, I2, pl, rfl, rfl⟩ := w2
  refine thn (po_none.run pins s2 σ H2 (fun o H3 => o = none ∧ H3 = H2) I2 ⟨rfl, rfl⟩) fun vu s3 w3 => ?_
  obtain ⟨u, H3, I3, pu, rfl, rfl⟩ := w3
  refine thn (hst.run pins s3 σ H3 (fun o H4 => o = some (n : Int) ∧ H4 = H3) I3 ⟨(n : Int), rfl, rfl, rfl⟩) fun vs s4 w4 => ?_
  obtain ⟨o, H4, I4, ps, rfl, rfl⟩ := w4
  have I5 : Inv X pins σ H4 { s4 with heap := s4.heap.push { cls := .type "slice", data := .fields #[vl, vu, vs] } } := I4.kept (t' := s4.toks) fun b ob q => Heap.get?_push_of_some _ q
  obtain ⟨its, r, ht, hz⟩ := I5.list hx
  have hlen := r.length
  show wpAny (model X.prog X.w) X.A (subscriptTail e (.Slice none none (some (.Constant (.int (n : Int)) k p1)) p3) (.ref a) (.ref s4.heap.objs.size)) (EP X pins σ Q) X.xe { s4 with heap := s4.heap.push { cls := .type "slice", data := .fields #[vl, vu, vs] } }
  refine tail_any (ops := [.ref a, .ref s4.heap.objs.size]) ht.isList.typeIs (PySem.slot_list_getitem.lookup) ?_ (by with_unfolding_all rfl)
  refine wpAny_getItem_list_slice ht.isList (Heap.IsSliceOf.new _ vl vu vs) pl pu ps (fun z => h0 (Option.some.inj z)) ?_ (by rw [List.size_toArray]; omega)
  have hz2 := slicePick_size_le its.toArray none none (some (n : Int))
  have ep : slicePick its.toArray none none (some (n : Int)) = ((sliceRange (sliceBounds none none (some (n : Int)) its.toArray.size).1 (sliceBounds none none (some (n : Int)) its.toArray.size).2.1 (sliceBounds none none (some (n : Int)) its.toArray.size).2.2).filterMap (its[·]?)).toArray := by
    unfold slicePick
    simp
  rw [ep] at hz2 ⊢
  generalize sliceRange (sliceBounds none none (some (n : Int)) its.toArray.size).1 (sliceBounds none none (some (n : Int)) its.toArray.size).2.1 (sliceBounds none none (some (n : Int)) its.toArray.size).2.2 = idx at hz2 ⊢
  have rv := vals_pick r idx
  rw [List.size_toArray, List.size_toArray] at hz2
  refine ⟨.ref _, _, I5.laid (t' := s4.toks) (o := .lst (idx.filterMap (xs[·]?))) (fun b ob q => Heap.get?_push_of_some _ q) (Nat.le_refl _) ?_, rfl, q _ _ (I5.hok.fresh (Nat.le_refl _)) fun y hy => pick_mem hy⟩
  exact ⟨by rw [rv.length]; omega, _, 0, rv, Heap.get?_push_size _ rfl⟩
/-! ### an own comparison asked of any value -/
def rCmpX (K : PySem.W.Frag) (op : CmpOp) (g : Addr) (sp : Sp) (E : XK) : R2 := fun x y H Q => ∃ (p C dx : Addr) (fs : List (Str × V)) (t : Value), x = .ref p ∧ H p = some (.ins C dx fs) ∧ TyX K H y t ∧ Cmp1 K op C g ∧ PySem.W.notFirst K C t = true ∧ sp [.ref p, y] H Q E
section
variable {X : Cx} {CX : CXT} {k : Nat} {g : Addr} {sp : Sp} {E : XK}
theorem rc_ownX {o : CmpOp} (hu : X.A.units < cLine) (F : FnR X.prog X.w X.K X.mg X.base CX k g sp) (hr : Room k X.A) (hx : Passes CX X E) : OpR X (richCompare o) (rCmpX X.K o g sp E) := by
  intro pins s σ H x y v u Q I rx ry h
  obtain ⟨p, C, dx, fs, t, rfl, ep, ty, c1, nf, hq⟩ := h
  obtain rfl : v = Value.ref p := rx
  obtain ⟨ox, od, J, _⟩ := StX.insC_at I (.inr ⟨dx, fs, ep⟩)
  obtain ⟨P, kx, pS, _⟩ := kit_of I ry ty
  obtain ⟨mm, fr⟩ := I.fr
  exact PySem.W.cmp_K hu fr I.ok.mod.kin J (kx.ty (model X.prog X.w) s.heap I.kIn pS) nf c1.at_ c1.fn (run_own F hr hx I (us := [.ref p, u]) (vs := [.ref p, y]) (.cons rfl (.cons ry .nil)) hq)
theorem op_ownEqX (hu : X.A.units < cLine) (F : FnR X.prog X.w X.K X.mg X.base CX k g sp) (hr : Room k X.A) (hx : Passes CX X E) : OpR X (compareOp .Eq) (rCmpX X.K .Eq g sp E) := fun pins s σ H x y v u Q I rx ry h => PySem.W.cmp_ofEq (rc_ownX hu F hr hx pins s σ H x y v u Q I rx ry h)
theorem op_ownEqXK {K : PySem.W.Frag} (hK : X.K = K) (hu : X.A.units < cLine) (F : FnR X.prog X.w X.K X.mg X.base CX k g sp) (hr : Room k X.A) (hx : Passes CX X E) : OpR X (compareOp .Eq) (rCmpX K .Eq g sp E) := by
  subst hK
  exact op_ownEqX hu F hr hx
/-! ### str(o) -/
structure Str1 (K : PySem.W.Frag) (C g : Addr) : Prop where
  at_ : PySem.W.findIn K (.ref C) "__str__" = some (some (.ref g))
  fn : PySem.W.isFn K (.ref g) = true
def rStrO (K : PySem.W.Frag) (g : Addr) (sp : Sp) (E : XK) : List V → Hp → VK → Prop := fun xs H Q => ∃ (a C dx : Addr) (fs : List (Str × V)), xs = [.ref a] ∧ H a = some (.ins C dx fs) ∧ Str1 K C g ∧ sp [.ref a] H (fun v H' => ∃ z : Str, v = .str z ∧ Q (.str z) H') E
theorem call_strO (hu : X.A.units + 2 < cLine) (F : FnR X.prog X.w X.K X.mg X.base CX k g sp) (hr : Room (k + 2) X.A) (hx : Passes CX X E) : CallR X (.type "str") (rStrO X.K g sp E) := by
  intro pins s σ H xs us Q I r h
  obtain ⟨a, C, dx, fs, rfl, ea, c, hq⟩ := h
  obtain rfl := Vals.ref1 r
  obtain ⟨ox, od, J, _⟩ := StX.insC_at I (.inr ⟨dx, fs, ea⟩)
  refine PySem.W.kso_call (by simpa using hu) I.kIn J c.at_ c.fn ?_
  refine wpAny_call (codeAny_mono (F X.A.in1.in1 X.stack s H [.ref a] [.ref a] _ E hr.in1.in1 I.env0.in1.in1 (.cons rfl .nil) hq) fun r s' hq => ?_)
  cases r with
  | error er => exact hx pins σ H s er s' I hq
  | ok fl =>
    cases fl with
    | ret u =>
      obtain ⟨v, H', I', rv, z, rfl, q2⟩ := I.after hq
      obtain ⟨t, rfl⟩ := rv
      exact ⟨.str z, H', I', ⟨t, rfl⟩, q2⟩
    | next => exact False.elim hq
    | brk => exact False.elim hq
    | cont => exact False.elim hq
end
end OwR
end
section
/-! a text == a dict, == an object with an own ==; x in o by an own __contains__. -/
namespace OwR
open PySem PySem.Spec PyProof.Rows L2
theorem str_no_plain (b : Str) (u : Tok) (l : Addr) (c : Value) (dd : Option Addr) (sl : Array (Option Value)) :
    Meets (Builtin.«str.__eq__» ⟨[.str b u, .ref l], []⟩) (fun _ R s => s.heap.get? l = some { cls := c, dict := dd, data := .plain, slots := sl } ∧ R (.ok (.ret .notImplemented)) s) :=
  .of_wp fun prog w A R s h => by obtain ⟨hp, g, d, tk, os⟩ := s; obtain ⟨hl, h⟩ := h; wp_walk using wpAny_loadPart' hl, wpAny_load hl; exact ⟨_, rfl, h⟩
theorem str_no_dict (b : Str) (u : Tok) (l : Addr) (c : Value) (es : Array DictEntry) (n : Nat) (dd : Option Addr) (sl : Array (Option Value)) :
    Meets (Builtin.«str.__eq__» ⟨[.str b u, .ref l], []⟩) (fun _ R s => s.heap.get? l = some { cls := c, dict := dd, data := .dict es n, slots := sl } ∧ R (.ok (.ret .notImplemented)) s) :=
  .of_wp fun prog w A R s h => by obtain ⟨hp, g, d, tk, os⟩ := s; obtain ⟨hl, h⟩ := h; wp_walk using wpAny_loadPart' hl, wpAny_load hl; exact ⟨_, rfl, h⟩
section
variable {prog : Program} {w : World} {A : Around} {E : Value → Shared → Prop} {s : Shared} {K : PySem.W.Frag} {x C f : Addr} {ox : Obj} {od : Option Obj} {z : Str} {t : Tok}
theorem rc_strOwn {Q : Value → Shared → Prop} (hu : A.units < cLine) (X : K.In s.heap) (I : PySem.W.InstAt s.heap x ox C od) (hd : ox.data = .plain) (sub : PySem.W.subIn K (.ref C) (.type "str") = some false)
    (eq : PySem.W.findIn K (.ref C) "__eq__" = some (some (.ref f))) (fn : PySem.W.isFn K (.ref f) = true) (h : wpAny (model prog w) A (call (.ref f) [.ref x, .str z t]) (PySem.W.CmpBack Q) E s) :
    wpAny (model prog w) A (richCompare .Eq (.str z t) (.ref x)) Q E s := by
  have one : wpAny (model prog w) A (tryCompare (.ref x) "__eq__" (.str z t)) (fun r s' => ∃ v, r = some v ∧ Q v s') E s := by
    unfold tryCompare
    refine wpAny_bind (PySem.W.ifBound_K X I eq fn (wpAny_mono h (fun v s' hv => ?_) fun _ _ e => e))
    cases v <;> first | exact hv.elim | exact wpAny_pure ⟨_, rfl, hv⟩
  have ta : s.TypeIs (.str z t) "str" := typeIs_str s z t
  have no : wpAny (model prog w) A (call (.builtin "str.__eq__") [.str z t, .ref x]) (fun v s' => v = .notImplemented ∧ s' = s) E s := by
    obtain ⟨cls, dd, data, sl⟩ := ox
    have hd : data = .plain := hd
    subst hd
    exact call_meets F.slot_str_eq ta F.entry_str_eq (F.args_str_eq_2 _ _) (str_no_plain z t x cls dd sl) ⟨I.at_, rfl, rfl⟩
  rcases hi : cmpInfo CmpOp.Eq with ⟨sym, f1, r1⟩
  have h1 := F.slot_str_eq
  have e2 : r1 = "__eq__" := by cases hi; rfl
  rw [hi] at h1
  subst e2
  simp only [richCompare, hi, ta.oneThing_none]
  refine wpAny_holding (wpAny_bind (wpAny_cRoomFor hu ?_))
  refine wpAny_bind (wpAny_typeOf ta (wpAny_bind (I.type.here ?_)))
  simp only [show (Value.type "str" != Value.ref C) = true from rfl, if_true]
  refine wpAny_bind ((PySem.W.looks_subIn X sub).here ?_)
  simp only [Bool.false_eq_true, if_false, Bool.not_false, if_true]
  refine wpAny_bind (m := tryCompare (.str z t) _ (.ref x)) (wpAny_tryCompare_declines ta h1 (wpAny_mono no (fun v s1 h1 => ⟨h1.1, ?_⟩) fun _ _ x => x))
  obtain ⟨_, rfl⟩ := h1
  refine wpAny_bind (wpAny_mono one (fun r s' q => ?_) fun _ _ e => e)
  obtain ⟨v, rfl, hq⟩ := q
  exact wpAny_pure hq
theorem sub_str_dict : isSubtype (.type "str") (.type "dict") = pure false := by rw [isSubtype_type]; kernel_rfl
theorem rc_strDict {l : Addr} {o : Obj} {es : Array DictEntry} {n : Nat} {Q : Value → Shared → Prop} (hu : A.units < cLine) (ho : s.heap.get? l = some o) (hc : o.cls = .type "dict") (hd : o.data = .dict es n) (h : Q (.bool false) s) : wpAny (model prog w) A (richCompare .Eq (.str z t) (.ref l)) Q E s := by
  obtain ⟨cls, dd, data, sl⟩ := o
  have hc : cls = .type "dict" := hc
  have hd : data = .dict es n := hd
  subst hc hd
  have tb : s.TypeIs (.ref l) "dict" := ⟨_, ho, rfl⟩
  exact PySem.SeqAt.rc_eq_decline_or (k := false) (typeIs_str s z t) tb (by decide) F.sub_dict_str F.slot_str_eq F.slot_dict_eq_refl
    (fun _ hq => call_meets F.slot_str_eq (typeIs_str s z t) F.entry_str_eq (F.args_str_eq_2 _ _) (str_no_dict z t l (.type "dict") es n dd sl) ⟨ho, hq⟩)
    (fun _ hq => by
      refine wpAny_call_entry F.slot_dict_eq_refl tb F.entry_dict_eq ?_ (F.args_dict_eq_2 _ _)
      show wpAny _ _ (Builtin.Dict.dictSlotArgs "__eq__" ⟨[.ref l, .str z t], []⟩ >>= _) _ _ s
      refine wpAny_bind ?_
      unfold Builtin.Dict.dictSlotArgs
      refine wpAny_bind (wpAny_notOrdered_dict tb ?_)
      show wpAny _ _ (pure (Value.ref l, Value.str z t)) _ _ s
      refine wpAny_pure ?_
      refine wpAny_bind (wpAny_isInstance (T := "str") (typeIs_str s z t) sub_str_dict ?_)
      simp only [Bool.not_false, if_true]
      exact wpAny_bind (wpAny_rule (wpAny_bind (wpAny_pure (wpAny_pure ⟨_, rfl, hq⟩)))))
    (fun _ hq => wpAny_of_eq (rfl : isSame (.str z t) (.ref l) = pure false) hq) (.inr hu) h
end
/-! ### the rules -/
structure StrEq (K : PySem.W.Frag) (C g : Addr) : Prop where
  sub : PySem.W.subIn K (.ref C) (.type "str") = some false
  at_ : PySem.W.findIn K (.ref C) "__eq__" = some (some (.ref g))
  fn : PySem.W.isFn K (.ref g) = true
/-- a text == anything: data, a dict, an object with an own == -/
def rStrAny (K : PySem.W.Frag) (g : Addr) (sp : Sp) (E : XK) : R2 := fun x y H Q => rEqD K x y H Q ∨ (∃ (z : Str) (a : Addr) (kvs : List (Key × V)), x = .str z ∧ y = .ref a ∧ H a = some (.dK kvs) ∧ Q (.bl false) H) ∨
  ∃ (z : Str) (p C dx : Addr) (fs : List (Str × V)), x = .str z ∧ y = .ref p ∧ H p = some (.ins C dx fs) ∧ StrEq K C g ∧ sp [.ref p, x] H Q E
structure In1 (K : PySem.W.Frag) (C g : Addr) : Prop where
  at_ : PySem.W.findIn K (.ref C) "__contains__" = some (some (.ref g))
  fn : PySem.W.isFn K (.ref g) = true
def rInO (K : PySem.W.Frag) (g : Addr) (sp : Sp) (E : XK) : R2 := fun x y H Q => ∃ (p C dx : Addr) (fs : List (Str × V)), y = .ref p ∧ H p = some (.ins C dx fs) ∧ In1 K C g ∧ sp [.ref p, x] H (fun v H' => ∃ c, v = .bl c ∧ Q (.bl c) H') E
section
variable {X : Cx} {CX : CXT} {k : Nat} {g : Addr} {sp : Sp} {E : XK}
theorem op_strAny {K : PySem.W.Frag} (hK : X.K = K) (hu : X.A.units + 64 < cLine) (F : FnR X.prog X.w X.K X.mg X.base CX k g sp) (hr : Room k X.A) (hx : Passes CX X E) : OpR X (compareOp .Eq) (rStrAny K g sp E) := by
  subst hK
  intro pins s σ H x y v u Q I rx ry h
  have hu0 : X.A.units < cLine := by omega
  rcases h with h | ⟨z, a, kvs, rfl, rfl, ea, q⟩ | ⟨z, p, C, dx, fs, rfl, rfl, ep, c, hq⟩
  · exact op_eqD hu pins s σ H x y v u Q I rx ry h
  · obtain ⟨t, rfl⟩ := rx
    obtain rfl : u = Value.ref a := ry
    obtain ⟨_, _, vs, _, o, es, n, e1, e2, e3, _⟩ := (show ObjOk X.prog X.w H s.heap a (.dK kvs) from I.hok a _ ea)
    exact PySem.W.cmp_ofEq (rc_strDict hu0 e1 e2.1 e3 ⟨.bl _, H, I, rfl, q⟩)
  · obtain ⟨t, rfl⟩ := rx
    obtain rfl : u = Value.ref p := ry
    obtain ⟨ox, od, J, hd⟩ := StX.insC_at I (.inr ⟨dx, fs, ep⟩)
    exact PySem.W.cmp_ofEq (rc_strOwn hu0 I.kIn J hd c.sub c.at_ c.fn (run_own F hr hx I (us := [.ref p, .str z t]) (vs := [.ref p, .str z]) (.cons rfl (.cons ⟨t, rfl⟩ .nil)) hq))
theorem op_inO (F : FnR X.prog X.w X.K X.mg X.base CX k g sp) (hr : Room k X.A) (hx : Passes CX X E) : OpR X (compareOp .In) (rInO X.K g sp E) := by
  intro pins s σ H x y v u Q I rx ry h
  obtain ⟨p, C, dx, fs, rfl, ep, c, hq⟩ := h
  obtain rfl : u = Value.ref p := ry
  obtain ⟨ox, od, J, _⟩ := StX.insC_at I (.inr ⟨dx, fs, ep⟩)
  obtain ⟨mm, fr⟩ := I.fr
  refine PySem.W.in_K fr I.ok.mod.kin J c.at_ c.fn (wpAny_mono (wpAny_call (run_fnR F hr hx I (us := [.ref p, v]) (vs := [.ref p, x]) (.cons rfl (.cons rx .nil)) hq)) (fun r s' q => ?_) fun _ _ q => q)
  obtain ⟨y2, H2, I2, r2, b, rfl, q⟩ := q
  cases (show r = Value.bool b from r2)
  exact wpAny_pure ⟨.bl b, H2, I2, rfl, q⟩
end
end OwR
end
section
/-! a def that wants no guard, called by name; repr of a number or None. -/
namespace OwR
open PySem PySem.Spec PyProof.Rows L2
section
variable {X : Cx} {CX : CXT} {k : Nat} {f : Addr} {fd : FuncData} {ps : List Str} {sp : Sp} {E : XK} {x : Str} {p pos : Pos} {e : Expr} {es : List Expr} {t : TA}
theorem run_fnG {pins : List (Addr × Obj)} {σ : L2.St} {H : Hp} {s : Shared} {Q : VK} {us : List Value} {vs : List V} (F : FnG X.prog X.w X.K X.mg X.base CX k f fd ps sp) (len : ∀ vs H Q E, sp vs H Q E → vs.length = ps.length) (hgd : X.A.guards = some []) (hr : Room k X.A) (hb : Binds X.K fd ps []) (hx : Passes CX X E)
    (I : Inv X pins σ H s) (r : Vals vs us) (h : sp vs H Q E) : wpAny (model X.prog X.w) X.A (call (.ref f) us) (EP X pins σ Q) X.xe s := by
  have hl : us.length = ps.length := by rw [← r.length]; exact len _ _ _ _ h
  have b := hb s us I.kIn (by rw [List.append_nil]; exact hl)
  rw [List.append_nil] at b
  refine wpAny_call (codeAny_mono (F X.A X.stack s H ⟨us, []⟩ us vs Q E hgd hr I.env0 b r h) fun r s' hq => ?_)
  cases r with
  | error e => exact hx pins σ H s e s' I hq
  | ok fl =>
    cases fl with
    | ret u => exact I.after hq
    | next => exact False.elim hq
    | brk => exact False.elim hq
    | cont => exact False.elim hq
theorem pe_callG (F : FnG X.prog X.w X.K X.mg X.base CX k f fd ps sp) (len : ∀ vs H Q E, sp vs H Q E → vs.length = ps.length) (hgd : X.A.guards = some []) (hr : Room k X.A) (hg : Gl X x) (hm : X.mg x = some (.ref f)) (hk : PySem.W.keepIn X.K (.ref f) = true) (hb : Binds X.K fd ps []) (hx : Passes CX X E)
    (ha : PA X (e :: es) t) (hdb : (x == ("__debug__" : Str)) = false := by decide) (he : starEach (e :: es) X.env = (false, eval e X.env) :: starEach es X.env := by rfl) (hpl : (backTo pos (starEach es X.env)).any (·.1) = false := by rfl) :
    PE X (.Call (.Name x p) (e :: es) [] pos) (tCall sp [] E t) := by
  refine ⟨fun pins s σ H Q I h => ?_⟩
  refine wpAny_Call_Name_kw (ld_glob I hg hm ?_ hdb)
  refine PySem.W.callWith_K (h₀ := X.base) I.ok.mod.kin hk (thn (ha.run pos pins s σ H _ I h) fun us s1 ⟨vs, H1, I1, r, q⟩ => ⟨I1.kIn, ?_⟩) he hpl
  have q : sp (vs ++ []) H1 Q E := q
  rw [List.append_nil] at q
  exact run_fnG F len hgd hr hb hx I1 r q
end
def reprI : Option Int → Str
  | none => "None"
  | some i => toString i
def rReprI : List V → Hp → VK → Prop := fun xs H Q => ∃ o : Option Int, xs = [match o with | none => V.non | some i => V.int i] ∧ (∀ i, o = some i → i.natAbs.log2 < 1920) ∧ Q (.str (reprI o)) H
/-- repr of a number or of None -/
theorem cr_reprI {X : Cx} : CallR X (.builtin "repr") rReprI := by
  intro pins s σ H xs us Q I r h
  obtain ⟨o, rfl, hz, q⟩ := h
  cases o with
  | none =>
    obtain ⟨u, rfl, rx⟩ := vals1 r
    cases (show u = Value.none from rx)
    exact call_repr_gives (typeIs_none s) F.slot_NoneType_repr F.entry_NoneType_repr (F.args_NoneType_repr_1 _) gives_none_repr ⟨.str _, H, I.tok _, ⟨_, rfl⟩, q⟩
  | some i => exact SkE.call_repr_int pins s σ H _ us Q I r ⟨i, rfl, hz i rfl, q⟩
end OwR
end
section
namespace OwD
open PySem PySem.Spec PyProof.Rows L2
theorem lays {α : Type} {f : α → PyData} : ∀ l : List α, (∀ x ∈ l, (f x).canLay0 = true) → PyData.canLayAll0 (l.map f) = true
  | [], _ => by simp [PyData.canLayAll0]
  | x :: l, h => by
    rw [List.map_cons, PyData.canLayAll0, h x List.mem_cons_self, lays l fun y hy => h y (List.mem_cons_of_mem _ hy)]
    rfl
theorem deps {α : Type} {f : α → PyData} {k : Nat} : ∀ l : List α, (∀ x ∈ l, (f x).depth ≤ k) → PyData.depthAll (l.map f) ≤ k
  | [], _ => by simp [PyData.depthAll]
  | x :: l, h => by
    have h1 := h x List.mem_cons_self
    have h2 := deps l fun y hy => h y (List.mem_cons_of_mem _ hy)
    rw [List.map_cons, PyData.depthAll]
    exact Nat.max_le.mpr ⟨h1, h2⟩
theorem shaped_of {d : PyData} (h1 : d.canLay0 = true) (h2 : d.depth ≤ 64) : SeqAt.shaped d = true := by
  show (d.canLay0 && decide (d.depth ≤ 64)) = true
  rw [h1, decide_eq_true h2]
  rfl
theorem shaped_lst {α : Type} {f : α → PyData} {l : List α} {k : Nat} (hk : k ≤ 60) (h1 : ∀ x ∈ l, (f x).canLay0 = true) (h2 : ∀ x ∈ l, (f x).depth ≤ k) : SeqAt.shaped (.list (l.map f)) = true := by
  refine shaped_of (by rw [PyData.canLay0]; exact lays l h1) ?_
  have := deps l h2
  rw [PyData.depth]
  omega
theorem shaped_tup {α : Type} {f : α → PyData} {l : List α} {k : Nat} (hk : k ≤ 60) (h1 : ∀ x ∈ l, (f x).canLay0 = true) (h2 : ∀ x ∈ l, (f x).depth ≤ k) : SeqAt.shaped (.tuple (l.map f)) = true := by
  refine shaped_of (by rw [PyData.canLay0]; exact lays l h1) ?_
  have := deps l h2
  rw [PyData.depth]
  omega
theorem dp_ints {K : PySem.W.Frag} {H : Hp} : ∀ ns : List Int, DpAll K H (ns.map V.int) (ns.map PyData.int)
  | [] => .nil
  | n :: r => .cons (.int n) (dp_ints r)
theorem dp_strs {K : PySem.W.Frag} {H : Hp} : ∀ ns : List Str, DpAll K H (ns.map V.str) (ns.map PyData.str)
  | [] => .nil
  | n :: r => .cons (.str n) (dp_strs r)
theorem shaped_ints (ns : List Int) : SeqAt.shaped (.list (ns.map PyData.int)) = true := shaped_lst (k := 0) (by decide) (fun _ _ => by simp [PyData.canLay0]) fun _ _ => by simp [PyData.depth]
theorem eqv_nil {α : Type} {f : α → PyData} (l : List α) : PyData.eqv (.list (l.map f)) (.list []) = l.isEmpty := by
  cases l <;> simp [PyData.eqv, PyData.eqvAll]
theorem shaped_nil : SeqAt.shaped (.list []) = true := shaped_of (by simp [PyData.canLay0, PyData.canLayAll0]) (by simp [PyData.depth, PyData.depthAll])
end OwD
end
section
namespace OwR
open PySem PySem.Spec PyProof.Rows L2
theorem raw0 {P : Program} {w : World} {K : PySem.W.Frag} {mg : Str → Option Value} {base : Heap} {CX : CXT} {k : Nat} {f : Addr} {fd : FuncData} {ps : List Str} {sp : Sp} (F : FnOk P w K mg base CX k f fd ps sp) (hb : Binds K fd ps []) : FnR P w K mg base CX k f sp :=
  (F.raw hb .nil).imp fun vs H Q E h => by rw [List.append_nil]; exact h
end OwR
namespace K10
open PySem PySem.Spec PyProof.Rows L2
/-- what stands behind the module's names -/
structure Nm (mg : Str → Option Value) : Prop where
  n_int : mg "int" = none
  n_len : mg "len" = none
  n_abs : mg "abs" = none
  n_list : mg "list" = none
/-- the state of the draws at p: the cells at c, how many were taken, what is left of a great one -/
structure PenAt (H : Hp) (p c : Addr) (ns : List Int) (n : Nat) (z : Int) : Prop where
  pen : H p = some (.lst [.ref c, .int n, .int z])
  cells : H c = some (.lst (ns.map V.int))
  few : ns.length ≤ 63
  rest : 0 ≤ z
theorem PenAt.ne {H : Hp} {p c : Addr} {ns : List Int} {n : Nat} {z : Int} (P : PenAt H p c ns n z) : c ≠ p := fun e => by
  have h1 := P.pen
  have h2 := P.cells
  rw [e, h1] at h2
  have h3 := congrArg (fun o : Option HO => match o with | some (.lst xs) => xs | _ => []) h2
  have h4 : ([V.ref c, V.int n, V.int z] : List V) = ns.map V.int := h3
  cases ns with
  | nil => cases h4
  | cons a l => cases h4
/-- all but the pen stands -/
def But (p : Addr) (H H' : Hp) : Prop := ∀ b o, b ≠ p → H b = some o → H' b = some o
theorem But.refl (p : Addr) (H : Hp) : But p H H := fun _ _ _ h => h
theorem But.trans {p : Addr} {H H1 H2 : Hp} (a : But p H H1) (b : But p H1 H2) : But p H H2 := fun c o n h => b c o n (a c o n h)
theorem But.new {p l : Addr} {H : Hp} {o : HO} (h : H l = none) : But p H (upd H l o) := fun b u _ e => by
  rw [upd_ne (ne_of_none e h)]
  exact e
theorem But.at {p : Addr} {H : Hp} {o : HO} : But p H (upd H p o) := fun b u n e => by
  rw [upd_ne n]
  exact e
theorem But.same {p : Addr} {H H' : Hp} (a : But p H H') (s : Same H' H') : But p H H' := a
theorem at_mod (ns : List Int) (n : Int) (h : 0 < ns.length) : ∃ x : Int, atI (ns.map V.int) (n % ((ns.map V.int).length : Int)) = some (V.int x) := by
  have hl : (ns.map V.int).length = ns.length := List.length_map _
  have h1 : 0 ≤ n % ((ns.map V.int).length : Int) := Int.emod_nonneg _ (by omega)
  have h2 : n % ((ns.map V.int).length : Int) < ((ns.map V.int).length : Int) := Int.emod_lt_of_pos _ (by omega)
  generalize n % ((ns.map V.int).length : Int) = j at h1 h2
  obtain ⟨i, rfl⟩ : ∃ i : Nat, j = (i : Int) := ⟨j.toNat, by omega⟩
  have hi : i < ns.length := by omega
  refine ⟨ns[i], atI_nat ?_⟩
  rw [List.getElem?_map, List.getElem?_eq_getElem hi]
  rfl
theorem mix_lt {x n a b c : Int} (x0 : 0 ≤ x) (x1 : x < 2147483648) (n0 : 0 ≤ n) (n1 : n < 100000) (a0 : 0 ≤ a) (a1 : a < 1000000) (b0 : 0 ≤ b) (b1 : b < 1000000) (c0 : 0 ≤ c) (c1 : c < 1000000) :
    (x * (2 * n + a) + b * n * n + c).natAbs < 2 ^ 64 := by
  have h1 : 0 ≤ x * (2 * n + a) := Int.mul_nonneg x0 (by omega)
  have h2 : x * (2 * n + a) ≤ 2147483648 * 1200000 := Int.mul_le_mul (by omega) (by omega) (by omega) (by decide)
  have h3 : 0 ≤ b * n * n := Int.mul_nonneg (Int.mul_nonneg b0 n0) n0
  have h4 : b * n ≤ 1000000 * 100000 := Int.mul_le_mul (by omega) (by omega) n0 (by decide)
  have h5 : b * n * n ≤ 1000000 * 100000 * 100000 := Int.mul_le_mul h4 (by omega) n0 (by decide)
  omega
def spDraw : Sp := fun vs H Q _ => ∃ (p c : Addr) (ns : List Int) (n : Nat) (z m : Int), vs = [.ref p, .int m] ∧ PenAt H p c ns n z ∧ n < 100000 ∧ 0 < m ∧ m.natAbs < 2 ^ 1000 ∧
  ∀ (d : Int) (n' : Nat) (z' : Int) (H' : Hp), 0 ≤ d → d < m → n' ≤ n + 1 → PenAt H' p c ns n' z' → But p H H' → Q (.int d) H'
theorem Same.of_new {H : Hp} {p : Addr} {o : HO} (h : H p = none) : Same H (upd H p o) := fun b u e => by
  rw [upd_ne (ne_of_none e h)]
  exact e
theorem But.rd {p : Addr} {H H' : Hp} (s : But p H H') {a : Addr} {o : HO} (n : a ≠ p) (h : Rd H a o) : Rd H' a o := h.elim (fun e => .inl (s a _ n e)) fun ⟨q, e⟩ => .inr ⟨q, s a _ n e⟩
theorem Same.but {H H' : Hp} (p : Addr) (s : Same H H') : But p H H' := fun b o _ e => s b o e
theorem Same.rd {H H' : Hp} (s : Same H H') {a : Addr} {o : HO} (h : Rd H a o) : Rd H' a o := h.elim (fun e => .inl (s a _ e)) fun ⟨q, e⟩ => .inr ⟨q, s a _ e⟩
theorem made_same {H H' : Hp} {x dx : Addr} {o o' : HO} (hx : H x = none) (hd : H dx = none) (s : But x (upd (upd H dx o) x o') H') : Same H H' := fun b u e => by
  refine s b u (ne_of_none e hx) ?_
  rw [upd_ne (ne_of_none e hx), upd_ne (ne_of_none e hd)]
  exact e
theorem upd_keep2 {H : Hp} {D b : Addr} {o u : HO} (h : H b = some u) (hD : H D = none) : upd H D o b = some u := by
  rw [upd_ne (ne_of_none h hD)]
  exact h
theorem SqL.mono {K : PySem.W.Frag} {H H' : Hp} {a : Addr} {xs : List V} (h : SqL K H a xs) (s : Same H H') : SqL K H' a xs := h.elim (fun r => .inl (Same.rd s r)) .inr
theorem SqT.mono {K : PySem.W.Frag} {H H' : Hp} {a : Addr} {xs : List V} (h : SqT K H a xs) (s : Same H H') : SqT K H' a xs := h.elim (fun r => .inl (Same.rd s r)) .inr
theorem But.free {p l : Addr} {H H' : Hp} (s : But p H H') (hp : H' p ≠ none) (h : H' l = none) : H l = none := by
  cases e : H l with
  | none => rfl
  | some o =>
    by_cases n : l = p
    · rw [n] at h
      exact (hp h).elim
    · rw [s l o n e] at h
      cases h
theorem PenAt.some {H : Hp} {p c : Addr} {ns : List Int} {n : Nat} {z : Int} (P : PenAt H p c ns n z) : H p ≠ none := by
  rw [P.pen]
  exact fun h => by cases h
theorem PenAt.same {H H' : Hp} {p c : Addr} {ns : List Int} {n : Nat} {z : Int} (P : PenAt H p c ns n z) (s : Same H H') : PenAt H' p c ns n z := ⟨s _ _ P.pen, s _ _ P.cells, P.few, P.rest⟩
theorem SqL.but {K : PySem.W.Frag} {p : Addr} {H H' : Hp} {a : Addr} {xs : List V} (h : SqL K H a xs) (n : a ≠ p) (s : But p H H') : SqL K H' a xs := h.elim (fun r => .inl (But.rd s n r)) .inr
theorem nth {α : Type} {xs : List α} {d : Int} (h0 : 0 ≤ d) (h1 : d < xs.length) : ∃ x, x ∈ xs ∧ atI xs d = some x := by
  obtain ⟨j, rfl⟩ : ∃ j : Nat, d = (j : Int) := ⟨d.toNat, by omega⟩
  have hj : j < xs.length := by omega
  exact ⟨xs[j], List.getElem_mem hj, atI_nat (List.getElem?_eq_getElem hj)⟩
theorem cut_63 {ns : List Int} (h : ns.length ≤ 63) : cutV (ns.map V.int) none (some 63) = ns.map V.int := by
  have e : (some 63 : Option Int) = some ((63 : Nat) : Int) := rfl
  unfold cutV
  rw [HT.sIx_none, e, HT.sIx_nat, List.drop_zero]
  exact List.take_of_length_le (by rw [List.length_map]; omega)
theorem PenAt.put {H : Hp} {p c D : Addr} {ns : List Int} {n : Nat} {z : Int} {o : HO} (P : PenAt H p c ns n z) (n1 : p ≠ D) (n2 : c ≠ D) : PenAt (upd H D o) p c ns n z := ⟨by rw [upd_ne n1]; exact P.pen, by rw [upd_ne n2]; exact P.cells, P.few, P.rest⟩
def spPen (K : PySem.W.Frag) : Sp := fun vs H Q _ => ∃ (a : Addr) (ns : List Int), vs = [.ref a] ∧ SqL K H a (ns.map V.int) ∧ ns.length ≤ 63 ∧ ∀ p c H', H p = none → Same H H' → PenAt H' p c ns 0 0 → Q (.ref p) H'
def spPick (K : PySem.W.Frag) : Sp := fun vs H Q _ => ∃ (p c l : Addr) (ns : List Int) (n : Nat) (z : Int) (xs : List V), vs = [.ref p, .ref l] ∧ PenAt H p c ns n z ∧ n < 100000 ∧ l ≠ p ∧ SqL K H l xs ∧ 0 < xs.length ∧ xs.length < 1000 ∧
  ∀ (x : V) (n' : Nat) (z' : Int) (H' : Hp), x ∈ xs → n' ≤ n + 1 → PenAt H' p c ns n' z' → But p H H' → Q x H'
theorem small_int {i : Int} (h0 : 0 ≤ i) (h1 : i < 1000) : i.natAbs < 2 ^ 1000 := Nat.lt_of_lt_of_le (show i.natAbs < 1000 by omega) (by decide +kernel)
def letter (c : Nat) : Bool := decide (97 ≤ c) && decide (c ≤ 122)
def nameB (z : Str) : Bool := (decide (1 ≤ z.length) && decide (z.length ≤ 8)) && z.cps.toList.all letter
theorem one_le (a c : Nat) : (!decide (([c] : List Nat) < [a])) = decide (a ≤ c) := by
  by_cases h : a ≤ c
  · rw [decide_eq_true h, decide_eq_false]
    · rfl
    · intro q
      rcases List.cons_lt_cons_iff.mp q with q | ⟨_, q⟩
      · omega
      · exact absurd q (by simp)
  · rw [decide_eq_false h, decide_eq_true]
    · rfl
    · exact List.cons_lt_cons_iff.mpr (.inl (by omega))
/-- what is no text -/
def NoStr (K : PySem.W.Frag) (H : Hp) (v : V) : Prop := ∃ t, TyX K H v t ∧ PySem.W.kitOne K t (.type "str") = some false
/-- what is no name -/
def NoName (K : PySem.W.Frag) (H : Hp) (v : V) : Prop := (∃ z : Str, v = .str z ∧ z.length ≤ 1000 ∧ nameB z = false) ∨ NoStr K H v
def spName (K : PySem.W.Frag) : Sp := fun vs H Q _ => ∃ v : V, vs = [v] ∧ ((∃ z : Str, v = .str z ∧ z.length ≤ 1000 ∧ ∀ H', Same H H' → Q (.bl (nameB z)) H') ∨ (NoStr K H v ∧ Q (.bl false) H))
def spCheck (K : PySem.W.Frag) (CB : Addr) : Sp := fun vs H Q E => ∃ v : V, vs = [v] ∧ ((∃ z : Str, v = .str z ∧ z.length ≤ 1000 ∧ nameB z = true ∧ ∀ H', Same H H' → Q .non H') ∨ (NoName K H v ∧ ∀ H' d, Same H H' → H' d = none → E (.ref CB) (some d) (upd H' d (.xd [("value", v)]))))
theorem name_short {z : Str} (h : nameB z = true) (B : Nat) : PyData.leavesShort B (.str z) = true := by
  unfold nameB at h
  have h2 := List.all_eq_true.mp (Bool.and_eq_true_iff.mp h).2
  show (z.cps.toList.all fun c => decide (c < 16 ^ 8)) = true
  refine List.all_eq_true.mpr fun c hc => ?_
  have h3 := h2 c hc
  unfold letter at h3
  have h4 := of_decide_eq_true (Bool.and_eq_true_iff.mp h3).2
  exact decide_eq_true (by omega)
theorem name_strOk {z : Str} (h : nameB z = true) : PyData.strOk z = true := by
  have h2 := List.all_eq_true.mp (Bool.and_eq_true_iff.mp (show (_ && _) = true from h)).2
  unfold PyData.strOk
  rw [Array.all_eq_true']
  intro c hc
  have h3 := h2 c (Array.mem_toList_iff.mpr hc)
  unfold letter at h3
  have h4 := of_decide_eq_true (Bool.and_eq_true_iff.mp h3).2
  exact decide_eq_true (by omega)
theorem strOk_app {x y : Str} (hx : PyData.strOk x = true) (hy : PyData.strOk y = true) : PyData.strOk (x ++ y) = true := by
  obtain ⟨c⟩ := x
  obtain ⟨d⟩ := y
  show (c ++ d).all _ = true
  rw [Array.all_append]
  exact Bool.and_eq_true_iff.mpr ⟨hx, hy⟩
theorem shaped_strs {zs : List Str} (h : ∀ z ∈ zs, PyData.strOk z = true) : SeqAt.shaped (.list (zs.map PyData.str)) = true := by
  refine OwD.shaped_lst (k := 0) (by decide) (fun z hz => ?_) fun z hz => ?_
  · rw [PyData.canLay0]
    exact h z hz
  · exact Nat.le_of_ble_eq_true rfl
theorem eqv_strs {zs : List Str} (h : ∀ z ∈ zs, PyData.strOk z = true) : PyData.eqv (.list (zs.map PyData.str)) (.list (zs.map PyData.str)) = true := SeqAt.eqv_refl _ (SeqAt.canLay_of_shaped (shaped_strs h))
theorem shown_fits {d : PyData} (h : d.leavesShort 100 = true) (hb : d.bulk ≤ 1000) : d.shown.length ≤ sizeLine := by
  have := PyData.shown_le_bulk 100 (by decide) d h
  have sz := sizeLine_eq
  have h2 : (100 + 2) * d.bulk ≤ (100 + 2) * 1000 := Nat.mul_le_mul_left _ hb
  omega
/-- the error class at C, as a def that raises it wants it -/
structure ErrT (K : PySem.W.Frag) (mg : Str → Option Value) (x : Str) (C fI : Addr) : Prop where
  er : OwE.ErrC K C
  g : mg x = some (.ref C)
  ini : PySem.W.findIn K (.ref C) "__init__" = some (some (.ref fI))
  ty : PySem.W.typeIn K (.ref fI) = some (.type "function")
theorem joinL_singles : ∀ cs : List Nat, TL.joinL [] (cs.map fun c => [c]) = cs
  | [] => rfl
  | [_] => rfl
  | a :: b :: r => by
    have ih := joinL_singles (b :: r)
    show [a] ++ ([] ++ TL.joinL [] ((b :: r).map fun c => [c])) = a :: b :: r
    rw [ih]
    rfl
theorem join_signs (cs : List Nat) : Txt.join Str.empty (cs.map fun c => (⟨#[c]⟩ : Str)) = ⟨cs.toArray⟩ := by
  rw [← TL.mk_tl (Txt.join Str.empty (cs.map fun c => (⟨#[c]⟩ : Str))), TL.join_eq, TL.tl_join, List.map_map]
  have e : TL.joinL (TL.tl Str.empty) (cs.map (TL.tl ∘ fun c => (⟨#[c]⟩ : Str))) = cs := joinL_singles cs
  rw [e]
def spPickS : Sp := fun vs H Q _ => ∃ (p c : Addr) (ns : List Int) (n : Nat) (z : Int) (t : Str), vs = [.ref p, .str t] ∧ PenAt H p c ns n z ∧ n < 100000 ∧ 0 < t.length ∧ t.length < 1000 ∧
  ∀ (x : Nat) (n' : Nat) (z' : Int) (H' : Hp), x ∈ t.cps.toList → n' ≤ n + 1 → PenAt H' p c ns n' z' → But p H H' → Q (.str ⟨#[x]⟩) H'
theorem letters_name {cs : List Nat} (h1 : 1 ≤ cs.length) (h8 : cs.length ≤ 8) (hc : ∀ c ∈ cs, letter c = true) : nameB ⟨cs.toArray⟩ = true := by
  unfold nameB
  have e : (⟨cs.toArray⟩ : Str).length = cs.length := List.size_toArray
  rw [e, decide_eq_true h1, decide_eq_true h8, Bool.true_and, Bool.true_and]
  exact List.all_eq_true.mpr hc
end K10
end
section
/-! Own: a lambda handed to a def of the text by its name; what stays meanwhile. -/
namespace OwE
open PySem PySem.Spec PyProof.Rows L2
theorem pe_lam {X : Cx} {x a q : Str} {sH : Stmt} {g c Pt : Addr} {gd : FuncData} {Ng : List Str} {TT : (XK → Hp → VK → Prop) → Hp → VK → Prop} {k : Nat} {params : Arguments} {body : Expr} {scope : Scope} {t : XK → TE} {p lpos pos : Pos}
    (hg : Gl X x) (F : Fun X.K x x sH g gd) (hm : X.mg x = some (.ref g)) (hb : L2.Binds X.K gd [a] []) (Sg : FnScope Ng [a] (defScope sH)) (hNg : Ng[0]? = some a) (hva : Vis (defScope sH) a) (hq : X.env.qual ++ "<lambda>" = q)
    (hG : ∀ cdv, LamX.GivesTo X Ng x (defScope sH) g cdv (defBody sH) a q TT) (TB : LamX.TabB X.base X.mg c Pt) (hcode : X.env.code = .ref c) (hr : Room (k + 2) X.A) (L : LamX.LamS X.env.scope scope)
    (hbody : ∀ (A : Around) (outer : List Env) (s : Shared) (H : Hp) (E : XK) (f c' : Addr), Room k (A.deeper (LamX.lamEnv X scope s.heap.objs.size f c')) → PE (LamX.lamCx X A outer s H E scope f c') body (t E))
    (hdef : defaultsOf params X.env = ([], []) := by rfl) (hbind : ∀ (q : Str) (cl : List (Str × Addr)) (pm cv ctv : Value), bindArgs (PySem.W.kla_fn "<lambda>" q params body scope cl pm cv ctv) ⟨[], []⟩ = pure [] := by intros; rfl)
    (hdb : (x == ("__debug__" : Str)) = false := by decide) (hd : (a == ("__debug__" : Str)) = false := by decide) (hcd : (a == ("__classdict__" : Str)) = false := by decide) :
    PE X (.Call (.Name x p) [.Lambda params body scope lpos] [] pos) (LamX.tLam [(Pt, q)] TT t) := by
  subst hq
  obtain ⟨oc, od, kV, doc, pm, an, cdv, ct, osl, rfl, lk, hcdv⟩ := F.ex
  exact LamX.pe_lamcall hg hm F.kp lk hcdv hb Sg hNg hva (hG cdv) TB hcode (List.mem_singleton.mpr rfl) (fun p hp _ => by rw [List.mem_singleton.mp hp]) hr L hdef hbind hbody hdb hd hcd
/-- what is wished may lean on the number of slots -/
theorem takes_len {X : Cx} {W : WX} (t : Takes X W) : Takes X (fun c d σ H => σ.length = X.N.length → W c d σ H) := fun u s' ⟨a, B, sI, pins, σ, H, cls, d, e, I, nb, up, sky, na, os, ag, w⟩ =>
  t u s' ⟨a, B, sI, pins, σ, H, cls, d, e, I, nb, up, sky, na, os, ag, w I.len⟩
theorem set_get {σ : L2.St} {n i : Nat} {v : Option V} (h : σ.length = n) (hi : i < n) : (σ.set i v)[i]? = some v := by
  rw [List.getElem?_set_self (by omega)]
end OwE
namespace K10
open PySem PySem.Spec PyProof.Rows L2
/-- all but the pen and the tables of code stay -/
def Lo (p : Addr) (H H' : Hp) : Prop := ∀ b o, b ≠ p → (∀ ps, o ≠ .tbl ps) → H b = some o → H' b = some o
theorem Lo.refl (p : Addr) (H : Hp) : Lo p H H := fun _ _ _ _ h => h
theorem Lo.trans {p : Addr} {H H1 H2 : Hp} (a : Lo p H H1) (b : Lo p H1 H2) : Lo p H H2 := fun c o n t h => b c o n t (a c o n t h)
theorem But.lo {p : Addr} {H H' : Hp} (s : But p H H') : Lo p H H' := fun b o n _ h => s b o n h
theorem Same.lo {H H' : Hp} (p : Addr) (s : Same H H') : Lo p H H' := fun b o _ _ h => s b o h
theorem extN_lo {H H' : Hp} (p : Addr) (s : LamX.ExtN H H') : Lo p H H' := fun b o _ t h => s b o h t
theorem PenAt.ext {H H' : Hp} {p c : Addr} {ns : List Int} {n : Nat} {z : Int} (P : PenAt H p c ns n z) (s : LamX.ExtN H H') : PenAt H' p c ns n z := ⟨s _ _ P.pen (fun ps h => by cases h), s _ _ P.cells (fun ps h => by cases h), P.few, P.rest⟩
theorem PenAt.lo {H H' : Hp} {p c : Addr} {ns : List Int} {n : Nat} {z : Int} (P : PenAt H p c ns n z) (s : Lo p H H') (hp : H' p = H p) : PenAt H' p c ns n z := ⟨hp.trans P.pen, s _ _ P.ne (fun ps h => by cases h) P.cells, P.few, P.rest⟩
theorem PenAt.ne_of {H : Hp} {p c : Addr} {ns : List Int} {n : Nat} {z : Int} (P : PenAt H p c ns n z) {b : Addr} {o : HO} (h : H b = Option.some o) (d : ∀ (c : Addr) (n z : Int), o ≠ .lst [.ref c, .int n, .int z]) : b ≠ p := fun q => by
  rw [q, P.pen] at h
  exact d _ _ _ (Option.some.inj h).symm
theorem tabs_but {T : List (Addr × Str)} {H H' : Hp} {p c : Addr} {ns : List Int} {n : Nat} {z : Int} (t : LamX.Tabs T H) (P : PenAt H p c ns n z) (s : But p H H') : LamX.Tabs T H' := fun e he => by
  obtain ⟨ps, h1, h2, h3⟩ := t e he
  have np : ∀ {b : Addr} {o : HO}, H b = some o → (∀ xs, o ≠ .lst xs) → b ≠ p := fun {b o} h d q => by
    rw [q, P.pen] at h
    exact d _ (Option.some.inj h).symm
  refine ⟨ps, s _ _ (np h1 fun xs h => by cases h) h1, h2, fun pos cv hc => ?_⟩
  obtain ⟨c2, e1, e2⟩ := h3 pos cv hc
  exact ⟨c2, e1, s _ _ (np e2 fun xs h => by
    unfold LamX.CodeO at h
    cases h) e2⟩
theorem tabs_put {T : List (Addr × Str)} {H : Hp} {l : Addr} {xs : List V} {o : HO} (t : LamX.Tabs T H) (h : H l = some (.lst xs)) : LamX.Tabs T (upd H l o) := fun e he => by
  obtain ⟨ps, h1, h2, h3⟩ := t e he
  have np : ∀ {b : Addr} {o : HO}, H b = some o → (∀ xs, o ≠ .lst xs) → b ≠ l := fun {b o} e d q => by
    rw [q, h] at e
    exact d _ (Option.some.inj e).symm
  refine ⟨ps, by rw [upd_ne (np h1 fun xs h => by cases h)]; exact h1, h2, fun pos cv hc => ?_⟩
  obtain ⟨c2, e1, e2⟩ := h3 pos cv hc
  have n2 : c2 ≠ l := np e2 fun xs h => by
    unfold LamX.CodeO at h
    cases h
  exact ⟨c2, e1, by rw [upd_ne n2]; exact e2⟩
theorem PenAt.lput {H : Hp} {p c l : Addr} {ns : List Int} {n : Nat} {z : Int} {s : Str} {xs : List V} {o : HO} (P : PenAt H p c ns n z) (nl : l ≠ p) (h : H l = Option.some (.lst (.str s :: xs))) : PenAt (upd H l o) p c ns n z := by
  refine P.put (Ne.symm nl) fun q => ?_
  rw [← q, P.cells] at h
  cases ns with
  | nil => cases h
  | cons a r => cases h
theorem tabs_same {T : List (Addr × Str)} {H H' : Hp} (t : LamX.Tabs T H) (s : Same H H') : LamX.Tabs T H' := t.ext fun b o h => s b o h
end K10
end
section
namespace K10
open PySem PySem.Spec PyProof.Rows L2
def top (i : Nat) : Stmt := PySem.Challenge.pw_nextkind_k31_deeds_made.main.body.getD i (.Pass ⟨0, 0, 0, 0⟩)
def mth (c j : Nat) : Stmt := match top c with
  | .ClassDef _ _ _ body _ _ _ _ _ _ _ => body.getD j (.Pass ⟨0, 0, 0, 0⟩)
  | _ => .Pass ⟨0, 0, 0, 0⟩
abbrev sPen : Stmt := top 11
abbrev sDraw : Stmt := top 12
abbrev sPick : Stmt := top 13
section
variable {P : Program} {w : World} {K : PySem.W.Frag} {mg : Str → Option Value} {base : Heap}
theorem scD : FnScope ["_law_pen_here", "_law_many", "_law_digit", "_law_at", "_law_cell", "_law_great", "_law_mixed"] ["_law_pen_here", "_law_many"] (defScope sDraw) := ⟨rfl, rfl, rfl, by decide +kernel, rfl, by decide +kernel, by decide +kernel⟩
theorem ok_draw {f : Addr} {fd : FuncData} (F : Fun K "_law_draw" "_law_draw" sDraw f fd) (T : Nm mg) : FnOk P w K mg base CX0 1 f fd ["_law_pen_here", "_law_many"] spDraw := by
  refine F.ok scD (fun vs H Q E h => ?_) (fun cdv A outer s H vs Q E hr h => ?_)
  · obtain ⟨p, c, ns, n, z, m, rfl, _⟩ := h
    rfl
  · obtain ⟨p, c, ns, n, z, m, rfl, D, hn, hm, hb, k⟩ := h
    have hu := hu_of hr
    obtain ⟨h1, h2, hl, h0⟩ := id D
    refine ⟨_, (pss_cons (ps_if (pt_cmpR op_gt (pe_ix ix_list (pv 0) pe_int (fun _ _ => rfl)) pe_int (nomark _)) (pss_cons (ps_set (i := 2) scD.nd rfl (Or.inl rfl) (pe_op op_mod (pe_callTy call_int1 (by rfl) T.n_int (by decide +kernel) (pa_cons (pe_ix ix_list (pv 0) pe_int (fun _ _ => rfl)) pa_nil)) (pv 1)))
    (pss_cons (ps_asg (pe_op op_fdivW (pe_callTy call_int1 (by rfl) T.n_int (by decide +kernel) (pa_cons (pe_ix ix_list (pv 0) pe_int (fun _ _ => rfl)) pa_nil)) (pv 1)) (pg_sub (pv 0) pe_int set_list))
    (pss_one (ps_ret (pv 2))))) pss_nil)
    (pss_cons (ps_set (i := 3) scD.nd rfl (Or.inl rfl) (pe_ix ix_list (pv 0) pe_int (fun _ _ => rfl)))
    (pss_cons (ps_asg (pe_op op_add (pv 3) pe_int) (pg_sub (pv 0) pe_int set_list))
    (pss_cons (ps_set (i := 4) scD.nd rfl (Or.inl rfl) (pe_op op_add (pe_op op_mul pe_int (pv 3)) pe_int))
    (C8.pss_cut (ps_if (pt_cmpR (op_neD hr.units) (pe_ix ix_list (pv 0) pe_int (fun _ _ => rfl)) (pe_lst pa_nil) (nomark _)) (pss_one (ps_set (i := 4) scD.nd rfl (Or.inl rfl) (pe_ix ix_list (pe_ix ix_list (pv 0) pe_int (fun _ _ => rfl)) (pe_op op_mod (pe_callTy call_int1 (by rfl) T.n_int (by decide +kernel) (pa_cons (pv 3) pa_nil)) (pe_callB call_len_seq (by rfl) T.n_len boot_len (pa_cons (pe_ix ix_list (pv 0) pe_int (fun _ _ => rfl)) pa_nil))) (fun _ _ => rfl)))) pss_nil)
    (C8.pss_cut (ps_if (PW.pt (pw_and (pt_cmpR op_lt (pv 3) (pe_callB call_len_seq (by rfl) T.n_len boot_len (pa_cons (pe_ix ix_list (pv 0) pe_int (fun _ _ => rfl)) pa_nil)) (nomark _)) (pw_and1 (pt_cmpR op_ge (pe_callB call_abs (by rfl) T.n_abs (by decide +kernel) (pa_cons (pv 4) pa_nil)) (pe_op op_pow pe_int pe_int) (nomark _))))) (pss_cons (ps_set (i := 5) scD.nd rfl (Or.inl rfl) (pe_op op_add (pe_op op_mul pe_int (pe_op op_sub (pe_callB call_abs (by rfl) T.n_abs (by decide +kernel) (pa_cons (pv 4) pa_nil)) (pe_op op_pow pe_int pe_int))) (pe_callTy call_int1 (by rfl) T.n_int (by decide +kernel) (pa_cons (pe_cmpR op_lt (pv 4) pe_int (nomark _)) pa_nil))))
    (pss_cons (ps_asg (pe_op op_fdivW (pe_callTy call_int1 (by rfl) T.n_int (by decide +kernel) (pa_cons (pv 5) pa_nil)) (pv 1)) (pg_sub (pv 0) pe_int set_list))
    (pss_one (ps_ret (pe_op op_mod (pe_callTy call_int1 (by rfl) T.n_int (by decide +kernel) (pa_cons (pv 5) pa_nil)) (pv 1)))))) pss_nil)
    (pss_cons (ps_set (i := 6) scD.nd rfl (Or.inl rfl) (pe_op op_mod (pe_callTy call_int1 (by rfl) T.n_int (by decide +kernel) (pa_cons (pe_op op_pow (pe_op op_add (pe_op op_add (pe_op op_mod (pe_callTy call_int1 (by rfl) T.n_int (by decide +kernel) (pa_cons (pv 4) pa_nil)) pe_int) (pe_op op_mul pe_int (pv 3))) pe_int) pe_int) pa_nil)) pe_int))
    (pss_cons (ps_set (i := 6) scD.nd rfl (Or.inl rfl) (pe_op op_mod (pe_callTy call_int1 (by rfl) T.n_int (by decide +kernel) (pa_cons (pe_op op_pow (pe_op op_add (pe_op op_add (pe_op op_mul (pv 6) (pe_op op_add (pe_op op_mul pe_int (pv 3)) pe_int)) (pe_op op_mul (pe_op op_mul pe_int (pv 3)) (pv 3))) pe_int) pe_int) pa_nil)) pe_int))
    (pss_one (ps_ret (pe_op op_mod (pe_callTy call_int1 (by rfl) T.n_int (by decide +kernel) (pa_cons (pe_op op_fdivW (pv 6) pe_int) pa_nil)) (pv 1))))))))))))
, ?_⟩
    refine ⟨_, rfl, p, _, _, _, rfl, rfl, SqL.of h1, rfl, _, _, rfl, rfl, _, rfl, ?_⟩
    refine ite2 (fun c1 => ?_) (fun c1 => ?_)
    · refine ⟨_, rfl, p, _, _, _, rfl, rfl, SqL.of h1, rfl, .inl ⟨_, rfl, _, rfl, _, _, rfl, rfl, hm, ?_⟩⟩
      refine ⟨_, rfl, p, _, _, _, rfl, rfl, SqL.of h1, rfl, .inl ⟨_, rfl, _, rfl, _, _, rfl, rfl, wide_div hm hb (by decide) (by decide), ?_⟩⟩
      refine ⟨_, rfl, p, _, _, 2, rfl, rfl, h1, rfl, _, rfl, ?_⟩
      refine k _ n (z / m) _ (Int.emod_nonneg _ (by omega)) (Int.emod_lt_of_pos _ hm) (Nat.le_succ _) ⟨upd_same, ?_, hl, Int.ediv_nonneg h0 (by omega)⟩ But.at
      rw [upd_ne D.ne]
      exact h2
    · refine ⟨_, rfl, p, _, _, _, rfl, rfl, SqL.of h1, rfl, ?_⟩
      refine ⟨_, rfl, _, _, rfl, rfl, _, rfl, p, _, _, 1, rfl, rfl, h1, rfl, ?_⟩
      -- the cell
      refine ⟨_, rfl, _, _, rfl, rfl, .inl ⟨by decide, by decide⟩, _, _, rfl, rfl, ?_⟩
      have D1 : PenAt (upd H p (.lst [.ref c, .int ((n : Int) + 1), .int z])) p c ns (n + 1) z := ⟨upd_same, by rw [upd_ne D.ne]; exact h2, hl, h0⟩
      have B1 : But p H (upd H p (.lst [.ref c, .int ((n : Int) + 1), .int z])) := But.at
      -- a cell of the script, if there is one
      refine ⟨fun σ' H' => ∃ cell : Int, σ' = [some (.ref p), some (.int m), none, some (.int n), some (.int cell), none, none] ∧ PenAt H' p c ns (n + 1) z ∧ But p H H', ?_, ?_⟩
      · refine ⟨_, rfl, p, _, _, _, rfl, rfl, SqL.of D1.pen, rfl, by show 0 ≤ sizeLine; decide, fun l hl0 => ?_⟩
        have D2 : PenAt (upd (upd H p (.lst [.ref c, .int ((n : Int) + 1), .int z])) l (.lst [])) p c ns (n + 1) z :=
          ⟨by rw [upd_ne (ne_of_none D1.pen hl0)]; exact D1.pen, by rw [upd_ne (ne_of_none D1.cells hl0)]; exact D1.cells, hl, h0⟩
        refine ⟨.list (ns.map PyData.int), .list [], .lst (SqL.of D2.cells) (OwD.dp_ints ns), .lst (SqL.of upd_same) .nil, OwD.shaped_ints ns, OwD.shaped_nil, _, rfl, ?_⟩
        rw [OwD.eqv_nil]
        have B2 := B1.trans (But.new (p := p) (o := .lst []) hl0)
        cases ns with
        | nil =>
          refine iteF ?_
          exact ⟨_, rfl, D2, B2⟩
        | cons a0 rest =>
          refine iteT ?_
          have hpos : 0 < ((a0 :: rest).map V.int).length := by rw [List.length_map]; exact Nat.succ_pos _
          refine ⟨_, rfl, p, _, _, _, rfl, rfl, SqL.of D2.pen, rfl, _, rfl, .inl ⟨_, rfl, _, rfl, p, _, _, _, rfl, rfl, SqL.of D2.pen, rfl, c, _, rfl, .inl (SqL.of D2.cells), _, _, rfl, rfl, by omega, ?_⟩⟩
          obtain ⟨x, hx⟩ := at_mod (a0 :: rest) n (Nat.succ_pos _)
          refine ⟨c, _, _, _, rfl, rfl, SqL.of D2.cells, hx, ?_⟩
          exact ⟨x, rfl, D2, B2⟩
      · rintro σ' H' ⟨cell, rfl, D3, B3⟩
        have C3 := D3.cells
        -- a great cell
        have ret : ∀ (d : Int) (H4 : Hp), 0 ≤ d → d < m → PenAt H4 p c ns (n + 1) z → But p H H4 → Q (.int d) H4 := fun d H4 a1 a2 D4 B4 => k d (n + 1) z H4 a1 a2 (Nat.le_refl _) D4 B4
        refine ⟨fun σ' H' => σ' = [some (.ref p), some (.int m), none, some (.int n), some (.int cell), none, none] ∧ PenAt H' p c ns (n + 1) z ∧ But p H H', ?_, ?_⟩
        · refine ⟨_, rfl, _, rfl, p, _, _, _, rfl, rfl, SqL.of D3.pen, rfl, c, _, rfl, .inl (SqL.of C3), _, _, rfl, rfl, _, rfl, ?_⟩
          refine ite2 (fun c2 => ?_) (fun c2 => ?_)
          · refine ⟨_, rfl, _, rfl, _, _, rfl, rfl, ⟨by decide, by decide, by decide⟩, _, _, rfl, rfl, _, rfl, ?_⟩
            refine ite2 (fun c3 => ?_) (fun c3 => ?_)
            · refine ⟨_, rfl, _, rfl, _, _, rfl, rfl, ⟨by decide, by decide, by decide⟩, _, _, rfl, rfl, _, _, rfl, rfl, .inl ⟨by decide, by decide⟩, ?_⟩
              refine ⟨_, rfl, _, _, rfl, rfl, .inr ⟨_, rfl, _, _, rfl, rfl, ?_⟩⟩
              have gpos : 0 ≤ 2 * ((if cell < 0 then -cell else cell) - (10 : Int) ^ (18 : Int).toNat) + (if decide (cell < 0) = true then 1 else 0) := by
                have h3 : (10 : Int) ^ (18 : Int).toNat ≤ (if cell < 0 then -cell else cell) := of_decide_eq_true c3
                split <;> omega
              refine ⟨_, rfl, .inl ⟨_, rfl, _, rfl, _, _, rfl, rfl, wide_div hm hb (by decide) (by decide), _, rfl, p, _, _, 2, rfl, rfl, D3.pen, rfl, ?_⟩⟩
              refine ⟨_, rfl, .inl ⟨_, rfl, _, rfl, _, _, rfl, rfl, hm, ?_⟩⟩
              refine k _ (n + 1) _ _ (Int.emod_nonneg _ (by omega)) (Int.emod_lt_of_pos _ hm) (Nat.le_refl _) ⟨upd_same, ?_, hl, Int.ediv_nonneg gpos (by omega)⟩ (B3.trans But.at)
              rw [upd_ne D.ne]
              exact C3
            · exact ⟨rfl, D3, B3⟩
          · exact ⟨rfl, D3, B3⟩
        · rintro σ' H4 ⟨rfl, D4, B4⟩
          have a1 := Int.emod_nonneg cell (show (2147483549 : Int) ≠ 0 by decide)
          have a2 := Int.emod_lt_of_pos cell (show (0 : Int) < 2147483549 by decide)
          -- one mixed from the cell
          refine ⟨_, rfl, .inl ⟨_, rfl, _, _, rfl, rfl, (by show (0 : Int) < _; decide), _, rfl, _, _, rfl, rfl, .inl ⟨by decide, by decide⟩, _, _, rfl, rfl, _, _, rfl, rfl, _, _, rfl, rfl, ⟨by decide, by decide, ?_⟩, .inl ⟨_, rfl, _, _, rfl, rfl, (by show (0 : Int) < _; decide), ?_⟩⟩⟩
          · show Int.natAbs _ < 2 ^ 64
            omega
          have b1 := fun x : Int => Int.emod_nonneg x (show (2147483629 : Int) ≠ 0 by decide)
          have b2 := fun x : Int => Int.emod_lt_of_pos x (show (0 : Int) < 2147483629 by decide)
          refine ⟨_, rfl, _, rfl, _, _, rfl, rfl, .inl ⟨by decide, by decide⟩, _, _, rfl, rfl, _, _, rfl, rfl, .inl ⟨Int.lt_of_lt_of_le (by decide) (b1 _), Int.lt_trans (b2 _) (by decide)⟩, ?_⟩
          refine ⟨_, rfl, _, _, rfl, rfl, .inl ⟨by decide, by decide⟩, _, rfl, _, _, rfl, rfl, .inl ⟨by omega, by omega⟩, _, _, rfl, rfl, _, _, rfl, rfl, ?_⟩
          refine ⟨_, _, rfl, rfl, ⟨by decide, by decide, mix_lt (b1 _) (Int.lt_trans (b2 _) (by decide)) (by omega) (by omega) (by decide) (by decide) (by decide) (by decide) (by decide) (by decide)⟩, .inl ⟨_, rfl, _, _, rfl, rfl, (by show (0 : Int) < _; decide), ?_⟩⟩
          refine ⟨_, rfl, _, _, rfl, rfl, wide_div (b := 6) (by decide) (by decide) (by decide) (by decide), .inl ⟨_, rfl, _, rfl, _, _, rfl, rfl, hm, ?_⟩⟩
          exact ret _ _ (Int.emod_nonneg _ (by omega)) (Int.emod_lt_of_pos _ hm) D4 B4
theorem scPe : FnScope ["_law_script"] ["_law_script"] (defScope sPen) := ⟨rfl, rfl, rfl, by decide +kernel, rfl, by decide +kernel, by decide +kernel⟩
theorem ok_pen {f : Addr} {fd : FuncData} (F : Fun K "_law_pen" "_law_pen" sPen f fd) (T : Nm mg) : FnOk P w K mg base CX0 1 f fd ["_law_script"] (spPen K) := by
  refine F.ok scPe (fun vs H Q E h => ?_) (fun cdv A outer s H vs Q E hr h => ?_)
  · obtain ⟨a, ns, rfl, _⟩ := h
    rfl
  · obtain ⟨a, ns, rfl, ha, hl, q⟩ := h
    refine ⟨_, (pss_one (ps_ret (pe_lst (pa_cons (pe_callTy call_list_of (by rfl) T.n_list (by decide +kernel) (pa_cons (pe_slice sl_list (pv 0) po_none (po_some pe_int)) pa_nil)) (pa_cons pe_int (pa_cons pe_int pa_nil)))))), ?_⟩
    have sz := sizeLine_eq
    refine ⟨_, rfl, 63, rfl, a, _, rfl, ha, ?_⟩
    rw [cut_63 hl]
    intro b hb
    refine ⟨b, _, rfl, .inl (SqL.of upd_same), fun c hc => ⟨by show (3 : Nat) ≤ sizeLine; omega, fun p hp => ?_⟩⟩
    have s3 := ((Same.of_new hb).trans (Same.of_new hc)).trans (Same.of_new (o := .lst [.ref c, .int 0, .int 0]) hp)
    exact q p c _ (((Same.of_new hb).trans (Same.of_new hc)).free hp) s3 ⟨upd_same, upd_keep2 upd_same hp, hl, by decide⟩
theorem scPi : FnScope ["_law_pen_here", "_law_some"] ["_law_pen_here", "_law_some"] (defScope sPick) := ⟨rfl, rfl, rfl, by decide +kernel, rfl, by decide +kernel, by decide +kernel⟩
theorem ok_pick {f fD : Addr} {fd fdD : FuncData} (F : Fun K "_law_pick" "_law_pick" sPick f fd) (T : Nm mg) (FD : Fun K "_law_draw" "_law_draw" sDraw fD fdD) (gD : mg "_law_draw" = some (.ref fD)) : FnOk P w K mg base CX0 2 f fd ["_law_pen_here", "_law_some"] (spPick K) := by
  have GD : FnOk P w K mg base CX0 1 fD fdD ["_law_pen_here", "_law_many"] spDraw := ok_draw FD T
  have bD : Binds K fdD ["_law_pen_here", "_law_many"] [] := FD.binds fun _ _ _ _ _ _ us hl => match us, hl with | [_, _], _ => rfl
  refine F.ok scPi (fun vs H Q E h => ?_) (fun cdv A outer s H vs Q E hr h => ?_)
  · obtain ⟨p, c, l, ns, n, z, xs, rfl, _⟩ := h
    rfl
  · obtain ⟨p, c, l, ns, n, z, xs, rfl, hp, hn, nl, hl, h0, h1, q⟩ := h
    refine ⟨_, (pss_one (ps_ret (pe_ix ix_list (pv 1) (pe_call GD hr (by rfl) gD FD.kp bD .nil pass0 (pa_cons (pv 0) (pa_cons (pe_callB call_len_seq (by rfl) T.n_len boot_len (pa_cons (pv 1) pa_nil)) pa_nil))) (fun _ _ => rfl)))), ?_⟩
    refine ⟨_, rfl, _, rfl, _, rfl, l, xs, rfl, .inl hl, p, c, ns, n, z, _, rfl, hp, hn, by omega, ?_, fun d n' z' H' d0 d1 hn' hp' s' => ?_⟩
    · have : (xs.length : Int).natAbs < 1000 := by omega
      exact Nat.lt_of_lt_of_le this (by decide +kernel)
    · obtain ⟨x, hx, ex⟩ := nth d0 d1
      exact ⟨l, xs, d, x, rfl, rfl, SqL.but hl nl s', ex, q x n' z' H' hx hn' hp' s'⟩
theorem ok_pickS {f fD : Addr} {fd fdD : FuncData} (F : Fun K "_law_pick" "_law_pick" sPick f fd) (T : Nm mg) (FD : Fun K "_law_draw" "_law_draw" sDraw fD fdD) (gD : mg "_law_draw" = some (.ref fD)) : FnOk P w K mg base CX0 2 f fd ["_law_pen_here", "_law_some"] spPickS := by
  have GD : FnOk P w K mg base CX0 1 fD fdD ["_law_pen_here", "_law_many"] spDraw := ok_draw FD T
  have bD : Binds K fdD ["_law_pen_here", "_law_many"] [] := FD.binds fun _ _ _ _ _ _ us hl => match us, hl with | [_, _], _ => rfl
  refine F.ok scPi (fun vs H Q E h => ?_) (fun cdv A outer s H vs Q E hr h => ?_)
  · obtain ⟨p, c, ns, n, z, t, rfl, _⟩ := h
    rfl
  · obtain ⟨p, c, ns, n, z, t, rfl, hp, hn, h0, h1, q⟩ := h
    refine ⟨_, (pss_one (ps_ret (pe_ix ix_str (pv 1) (pe_call GD hr (by rfl) gD FD.kp bD .nil pass0 (pa_cons (pv 0) (pa_cons (pe_callB call_len (by rfl) T.n_len boot_len (pa_cons (pv 1) pa_nil)) pa_nil))) (fun _ _ => rfl)))), ?_⟩
    have sz := sizeLine_eq
    have lz : t.length ≤ sizeLine := by omega
    refine ⟨_, rfl, _, rfl, _, rfl, .str t, t.length, rfl, ⟨lz, rfl⟩, p, c, ns, n, z, _, rfl, hp, hn, by omega, small_int (by omega) (by omega), fun d n' z' H' d0 d1 hn' hp' s' => ?_⟩
    have d2 : d < (t.cps.toList.length : Int) := d1
    obtain ⟨x, hx, ex⟩ := nth d0 d2
    exact ⟨t, d, x, rfl, rfl, lz, ex, q x n' z' H' hx hn' hp' s'⟩
end
end K10
end
section
namespace K10
open PySem PySem.Spec PyProof.Rows L2
abbrev sBad0 : Stmt := mth 2 0
abbrev sName : Stmt := top 4
abbrev sCheck : Stmt := top 9
structure Nm2 (mg : Str → Option Value) : Prop where
  n_str : mg "str" = none
  n_len : mg "len" = none
  n_all : mg "all" = none
  n_isinstance : mg "isinstance" = none
section
variable {P : Program} {w : World} {K : PySem.W.Frag} {mg : Str → Option Value} {base : Heap}
theorem scB0 : FnScope ["self", "value"] ["self", "value"] (defScope sBad0) := ⟨rfl, rfl, rfl, by decide +kernel, rfl, by decide +kernel, by decide +kernel⟩
theorem ok_bad0 {f : Addr} {fd : FuncData} (F : Fun K "__init__" "BadName.__init__" sBad0 f fd) : FnOk P w K mg base CX0 1 f fd ["self", "value"] (OwE.spErr1 K "value") := by
  refine F.ok scB0 (fun vs H Q E h => ?_) (fun cdv A outer s H vs Q E hr h => ?_)
  · obtain ⟨a, C, v, rfl, _⟩ := h
    rfl
  · obtain ⟨a, C, v, rfl, T, hno, ha, k⟩ := h
    refine ⟨_, (pss_one (ps_ost (pv 0) (pv 1))), ?_⟩
    exact ⟨_, rfl, _, rfl, a, C, rfl, T, hno, .inl ⟨ha, fun dx h1 h2 => k dx h1 h2⟩⟩
abbrev nName : List Str := ["value", "sign"]
theorem scN : FnScope nName ["value"] (defScope sName) := ⟨rfl, rfl, rfl, by decide +kernel, rfl, by decide +kernel, by decide +kernel⟩
theorem ok_name {f : Addr} {fd : FuncData} (F : Fun K "is_name" "is_name" sName f fd) (T : Nm2 mg) : FnOk P w K mg base CX0 1 f fd ["value"] (spName K) := by
  refine F.ok scN (fun vs H Q E h => ?_) (fun cdv A outer s H vs Q E hr h => ?_)
  · obtain ⟨v, rfl, _⟩ := h
    rfl
  · obtain ⟨v, rfl, h⟩ := h
    refine ⟨_, (pss_cons (ps_if (PW.pt (pw_or (pt_not (pt_val (pe_callB call_isi (by rfl) T.n_isinstance (by decide +kernel) (pa_cons (pv 0) (pa_cons (pe_bltn (v := .ty "str") (by rfl) T.n_str (by decide +kernel) rfl) pa_nil))))) (pw_or1 (pt_not (pt_chain op_le op_le pe_int (pe_callB call_len (by rfl) T.n_len boot_len (pa_cons (pv 0) pa_nil)) pe_int))))) (pss_one (ps_ret pe_bl)) pss_nil)
    (pss_one (ps_ret (pe_callB (cr_all rfl) (by rfl) T.n_all (by decide +kernel) (pa_cons (pe_lc (own := [("sign", 1)]) (by rfl) scN.nd (pi_str (pv 0)) (blkOk_by (own := [("sign", 1)]) (N := nName) (sc := defScope sName) (by decide +kernel)) (fun _ _ _ _ _ => (pg_name (i := 1) scN.nd rfl (Or.inl rfl))) (fun _ _ _ _ _ => pts_nil) (fun _ _ _ _ _ => (pe_chain op_le_str op_le_str pe_str (pv 1) pe_str))) pa_nil))))), ?_⟩
    rcases h with ⟨z, rfl, hz, k⟩ | ⟨⟨t, ty, kt⟩, k⟩
    · have hz2 : z.length ≤ sizeLine := Nat.le_trans hz (by decide)
      refine ⟨_, rfl, .str z, .ty "str", _, _, true, rfl, .ty _, .base (by constructor), kit_ty (by decide +kernel), true, rfl, ?_⟩
      refine iteF ?_
      refine ⟨_, rfl, .str z, z.length, rfl, ⟨hz2, rfl⟩, _, _, rfl, rfl, _, rfl, ?_⟩
      refine ite2 (fun c1 => ?_) (fun c1 => ?_)
      · have d1 : 1 ≤ z.length := by
          have := of_decide_eq_true c1
          omega
        refine ⟨_, _, rfl, rfl, _, rfl, ?_⟩
        by_cases d2 : z.length ≤ 8
        · have e2 : decide ((z.length : Int) ≤ 8) = true := decide_eq_true (by omega)
          rw [e2]
          refine iteF ?_
          have rest : ∀ b H', Same H H' → b = z.cps.toList.all letter → Q (.bl b) H' := fun b H' s e => by
            have e' : nameB z = b := by
              unfold nameB
              rw [decide_eq_true d1, decide_eq_true d2, e]
              rfl
            rw [← e']
            exact k H' s
          refine ⟨_, rfl, z, rfl, fun D hD => lc_it (walk_str (z := z)) (fun i H' => H' D = some (.lst (((z.cps.toList.take i).map letter).map V.bl)) ∧ Same H H')
            ⟨upd_same, fun b o e => by rw [upd_ne (ne_of_none e hD)]; exact e⟩ (fun _ _ _ _ => trivial) ?_ ?_⟩
          · rintro i x H1 H2 hi ⟨hl, hs⟩ ⟨rfl, c, hc, rfl⟩
            have step : ∀ b : Bool, b = letter c → ∃ acc : List V, H2 D = some (.lst acc) ∧ acc.length < sizeLine ∧
                (upd H2 D (.lst (acc ++ [V.bl b])) D = some (.lst (((z.cps.toList.take (i + 1)).map letter).map V.bl)) ∧ Same H (upd H2 D (.lst (acc ++ [V.bl b])))) := fun b hb => by
              refine ⟨_, hl, ?_, ?_, fun a o e => ?_⟩
              · rw [List.length_map, List.length_map, List.length_take]
                have h9 : z.cps.toList.length = z.length := by first | rfl | simp [Str.length]
                exact Nat.lt_of_le_of_lt (Nat.min_le_right _ _) (by rw [h9, sizeLine_eq]; omega)
              · rw [upd_same, hb, List.take_add_one, show z.cps.toList[i]? = some c by rw [Array.getElem?_toList]; exact hc]
                simp
              · rw [upd_ne (ne_of_none e hD)]
                exact hs a o e
            refine ⟨rfl, ?_⟩
            refine ⟨_, rfl, _, _, rfl, rfl, _, rfl, ?_⟩
            have l1 : (!decide ((⟨#[c]⟩ : Str).cps.toList < ("a" : Str).cps.toList)) = decide (97 ≤ c) := one_le 97 c
            have l2 : (!decide (("z" : Str).cps.toList < (⟨#[c]⟩ : Str).cps.toList)) = decide (c ≤ 122) := one_le c 122
            by_cases c1 : 97 ≤ c
            · rw [l1, decide_eq_true c1]
              refine iteT ?_
              refine ⟨_, _, rfl, rfl, step _ ?_⟩
              rw [l2]
              unfold letter
              rw [decide_eq_true c1, Bool.true_and]
            · rw [l1, decide_eq_false c1]
              refine iteF ?_
              refine step _ ?_
              unfold letter
              rw [decide_eq_false c1, Bool.false_and]
          · rintro H1 ⟨hl, hs⟩
            refine ⟨D, _, rfl, SqL.of hl, rest _ H1 hs ?_⟩
            rw [show z.cps.size = z.cps.toList.length from rfl, List.take_length, List.all_map]
            rfl
        · have e2 : decide ((z.length : Int) ≤ 8) = false := decide_eq_false (by omega)
          rw [e2]
          refine iteT ?_
          have e : nameB z = false := by
            unfold nameB
            rw [decide_eq_false d2, Bool.and_false, Bool.false_and]
          rw [← e]
          exact k H (Same.refl H)
      · have d1 : ¬ 1 ≤ z.length := fun q => c1 (decide_eq_true (by omega))
        refine ⟨_, rfl, ?_⟩
        have e : nameB z = false := by
          unfold nameB
          rw [decide_eq_false d1, Bool.false_and, Bool.false_and]
        refine iteT ?_
        rw [← e]
        exact k H (Same.refl H)
    · refine ⟨_, rfl, v, .ty "str", _, _, false, rfl, .ty _, ty, kt, false, rfl, ?_⟩
      refine iteT ?_
      exact iteT k
theorem scC : FnScope ["value"] ["value"] (defScope sCheck) := ⟨rfl, rfl, rfl, by decide +kernel, rfl, by decide +kernel, by decide +kernel⟩
theorem ok_check {f fN fB CB : Addr} {fd fdN fdB : FuncData} (F : Fun K "check_name" "check_name" sCheck f fd) (T : Nm2 mg) (FN : Fun K "is_name" "is_name" sName fN fdN) (gN : mg "is_name" = some (.ref fN)) (FB : Fun K "__init__" "BadName.__init__" sBad0 fB fdB) (TB : ErrT K mg "BadName" CB fB)
    (hv : PySem.W.findIn K (.ref CB) "value" = some none) : FnOk P w K mg base (L2.CX P w) 3 f fd ["value"] (spCheck K CB) := by
  have GN : FnOk P w K mg base CX0 2 fN fdN ["value"] (spName K) := (ok_name FN T).mono (by decide)
  have bN : Binds K fdN ["value"] [] := FN.binds fun _ _ _ _ _ _ us hl => match us, hl with | [_], _ => rfl
  have GB : FnOk P w K mg base CX0 1 fB fdB ["self", "value"] (OwE.spErr1 K "value") := ok_bad0 FB
  have bB : Binds K fdB ["self", "value"] [] := FB.binds fun _ _ _ _ _ _ us hl => match us, hl with | [_, _], _ => rfl
  refine F.okX scC (fun vs H Q E h => ?_) (fun cdv A outer s H vs Q E hr h => ?_)
  · obtain ⟨v, rfl, _⟩ := h
    rfl
  · obtain ⟨v, rfl, h⟩ := h
    refine ⟨_, (pss_one (ps_if (pt_not (pt_val (pe_call GN hr (by rfl) gN FN.kp bN .nil pass0 (pa_cons (pv 0) pa_nil))))
      (pss_one (ps_raise rfl (takes_of rfl rfl rfl rfl) (pmk_oex TB.er.ox TB.ini TB.ty GB hr bB .nil pass0 (by rfl) TB.g (pa_cons (pv 0) pa_nil)))) pss_nil)), ?_⟩
    rcases h with ⟨z, rfl, hz, hg, k⟩ | ⟨hb, k⟩
    · refine ⟨_, rfl, _, rfl, .inl ⟨z, rfl, hz, fun H' s1 => ⟨_, rfl, ?_⟩⟩⟩
      rw [hg]
      exact iteF (k H' s1)
    · rcases hb with ⟨z, rfl, hz, hg⟩ | hn
      · refine ⟨_, rfl, _, rfl, .inl ⟨z, rfl, hz, fun H' s1 => ⟨_, rfl, ?_⟩⟩⟩
        rw [hg]
        refine iteT ?_
        exact ⟨_, rfl, OwE.mk_err1 TB.er.ox hv fun d hd => k H' d s1 hd⟩
      · refine ⟨_, rfl, _, rfl, .inr ⟨hn, ⟨_, rfl, ?_⟩⟩⟩
        refine iteT ?_
        exact ⟨_, rfl, OwE.mk_err1 TB.er.ox hv fun d hd => k H d (Same.refl H) hd⟩
end
end K10
end
section
namespace K10
open PySem PySem.Spec PyProof.Rows L2
abbrev sDeed0 : Stmt := mth 6 0
abbrev sCome0 : Stmt := mth 7 0
abbrev sGo0 : Stmt := mth 8 0
abbrev sComeP : Stmt := mth 7 1
abbrev sComeE : Stmt := mth 7 2
abbrev sComeS : Stmt := mth 7 3
abbrev sGoP : Stmt := mth 8 1
abbrev sGoE : Stmt := mth 8 2
abbrev sGoS : Stmt := mth 8 3
theorem lt1000s {n : Nat} {f : Str} {v : V} {fs : List (Str × V)} (h : fs.length < n) : (putF f v fs).length < n + 1 := Nat.lt_of_le_of_lt (length_putF f v fs) (Nat.succ_lt_succ h)
theorem lt1000 {f : Str} {v : V} {fs : List (Str × V)} (h : fs.length < 900) : (putF f v fs).length < 1000 := Nat.lt_of_lt_of_le (lt1000s h) (by decide)
/-- what the class of a deed must say -/
structure DC (K : PySem.W.Frag) (C : Addr) : Prop where
  cls : Cls K C
  nP : NoAttr K C "_parts"
  nK : NoAttr K C "kind"
  nB : NoAttr K C "bay"
  ha : PySem.W.findIn K (.ref C) "__class__" = some (some (.builtin "object.__class__"))
  hn : PySem.W.specialIn K (.builtin "object.__class__") "__get__" = some (some (.builtin "getset_descriptor.__get__"))
  ht : PySem.W.takesIn K (.builtin "object.__class__") = some true
  hm : PySem.W.mroIn K C (.type "object") = some true
theorem DC.ty {K : PySem.W.Frag} {C a dx : Addr} {fs : List (Str × V)} {H : Hp} (d : DC K C) (e : H a = some (.ins C dx fs)) : TyX K H (.ref a) (.ref C) := .base (.ins e d.cls d.ha d.hn d.ht d.hm)
def ComeAt (C : Addr) (H : Hp) (a : Addr) (z : Str) : Prop := ∃ dx fs, H a = some (.ins C dx fs) ∧ fs.lookup ("kind" : Str) = some (.str z)
def GoAt (C : Addr) (H : Hp) (a : Addr) (z b : Str) : Prop := ∃ dx fs, H a = some (.ins C dx fs) ∧ fs.lookup ("kind" : Str) = some (.str z) ∧ fs.lookup ("bay" : Str) = some (.str b)
/-- Deed.__init__(self, .., ..) -/
def spDeed (C : Addr) : Sp := fun vs H Q _ => ∃ (a dx l : Addr) (fs : List (Str × V)), vs = [.ref a, .ref l] ∧ H a = some (.ins C dx fs) ∧ fs.length < 1000 ∧ Q .non (upd H a (.ins C dx (putF ("_parts" : Str) (.ref l) fs)))
def spDeedR (C : Addr) : Sp := fun vs H Q _ => ∃ (a dx : Addr) (fs : List (Str × V)) (rest : List V), vs = .ref a :: rest ∧ rest.length ≤ 10 ∧ H a = some (.ins C dx fs) ∧ fs.length < 1000 ∧ ∀ p, H p = none → Q .non (upd (upd H p (.tup rest)) a (.ins C dx (putF ("_parts" : Str) (.ref p) fs)))
/-- a name that is good -/
def GoodN (v : V) (z : Str) : Prop := v = .str z ∧ z.length ≤ 1000 ∧ nameB z = true
def spCome0 (K : PySem.W.Frag) (C CB : Addr) : Sp := fun vs H Q E => ∃ (a dx : Addr) (v : V), vs = [.ref a, v] ∧ H a = some (.ins C dx []) ∧
  ((∃ z, GoodN v z ∧ ∀ H', But a H H' → ComeAt C H' a z → Q .non H') ∨ (NoName K H v ∧ ∀ H' d, Same H H' → H' d = none → E (.ref CB) (some d) (upd H' d (.xd [("value", v)]))))
def spGo0 (K : PySem.W.Frag) (C CB : Addr) : Sp := fun vs H Q E => ∃ (a dx : Addr) (v u : V), vs = [.ref a, v, u] ∧ H a = some (.ins C dx []) ∧
  ((∃ z b, GoodN v z ∧ GoodN u b ∧ ∀ H', But a H H' → GoAt C H' a z b → Q .non H') ∨
   (NoName K H v ∧ ∀ H' d, Same H H' → H' d = none → E (.ref CB) (some d) (upd H' d (.xd [("value", v)]))) ∨
   (∃ z, GoodN v z ∧ (∀ H', Same H H' → NoName K H' u) ∧ ∀ H' d, Same H H' → H' d = none → E (.ref CB) (some d) (upd H' d (.xd [("value", u)]))))
section
variable {P : Program} {w : World} {K : PySem.W.Frag} {mg : Str → Option Value} {base : Heap}
theorem scD0 : FnScope ["self", "parts"] ([("self" : Str)] ++ [("parts" : Str)]) (defScope sDeed0) := ⟨rfl, rfl, rfl, by decide +kernel, rfl, by decide +kernel, by decide +kernel⟩
theorem ok_deed0 {C f : Addr} {fd : FuncData} (hc : DC K C) (F : Fun K "__init__" "Deed.__init__" sDeed0 f fd) : FnR P w K mg base CX0 3 f (spDeedR C) := by
  obtain ⟨oc, od, kV, doc, pm, an, cdv, ct, osl, rfl, lk, hcd⟩ := F.ex
  refine FnR.imp (StX.fn_star (k := 2) (ps := ["self"]) (pv := "parts") (sp := spDeed C) lk hcd scD0 StX.cxUp_none (fun us rest hl => match us, hl, rest with | [_], _, [] => rfl | [_], _, _ :: _ => rfl) fun A outer s H vs Q E hr h => ?_) fun vs H Q E h => ?_
  · obtain ⟨a, dx, l, fs, rfl, ha, hl, q⟩ := h
    refine ⟨_, PSs.nox (pss_one (ps_fld (pv 0) (pv 1) rfl)), ?_⟩
    exact ⟨_, rfl, _, rfl, a, C, dx, fs, rfl, ha, hc.cls, hc.nP, hl, q⟩
  · obtain ⟨a, dx, fs, rest, rfl, hr, ha, hl, q⟩ := h
    have sz := sizeLine_eq
    exact ⟨[.ref a], rest, rfl, rfl, by omega, fun p hp => ⟨a, dx, p, fs, rfl, upd_keep2 ha hp, hl, q p hp⟩⟩
abbrev nC0 : List Str := ["self", "kind"]
theorem scC0 : FnScope nC0 ["self", "kind"] (defScope sCome0) := ⟨rfl, rfl, rfl, by decide +kernel, rfl, by decide +kernel, by decide +kernel⟩
theorem ok_come0 {C CB CD f fC fD : Addr} {mc : Value} {fd fdC fdD : FuncData} (hc : DC K C) (F : Fun K "__init__" "Come.__init__" sCome0 f fd) (FC : Fun K "check_name" "check_name" sCheck fC fdC) (gC : mg "check_name" = some (.ref fC)) (GC : FnOk P w K mg base (L2.CX P w) 3 fC fdC ["value"] (spCheck K CB))
    (FD : Fun K "__init__" "Deed.__init__" sDeed0 fD fdD) (gD : mg "Deed" = some (.ref CD)) (rD : ClX.CRead K CD mc) (cD : OwR.CFun K CD mc "__init__" fD) : FnOk P w K mg base (L2.CX P w) 4 f fd ["self", "kind"] (spCome0 K C CB) := by
  have bC : Binds K fdC ["value"] [] := FC.binds fun _ _ _ _ _ _ us hl => match us, hl with | [_], _ => rfl
  have GD : FnR P w K mg base CX0 3 fD (spDeedR C) := ok_deed0 hc FD
  refine F.okX scC0 (fun vs H Q E h => ?_) (fun cdv A outer s H vs Q E hr h => ?_)
  · obtain ⟨a, dx, v, rfl, _⟩ := h
    rfl
  · obtain ⟨a, dx, v, rfl, ha, h⟩ := h
    refine ⟨_, (pss_cons (ps_expr (pe_call GC hr (by rfl) gC FC.kp bC .nil (passes_call (takes_of rfl rfl rfl rfl) (fun _ _ _ _ h => h)) (pa_cons (pv 1) pa_nil)))
    (pss_cons (ps_expr (OwR.pe_cfun (pe_glob (v := .ref CD) rfl gD rfl) rD cD GD hr pass0 (pa_cons (pv 0) (pa_cons pe_str (pa_cons (pv 1) pa_nil)))))
    (pss_one (ps_fld (pv 0) (pv 1) rfl)))), ?_⟩
    rcases h with ⟨z, ⟨rfl, hz, hg⟩, k⟩ | ⟨hb, k⟩
    · refine ⟨_, rfl, _, rfl, .inl ⟨z, rfl, hz, hg, fun H1 s1 => ?_⟩⟩
      have ha1 := s1 a _ ha
      refine ⟨rfl, _, rfl, _, rfl, a, dx, [], _, rfl, by show _ ≤ 10; simp, ha1, by decide, fun p hp => ?_⟩
      refine ⟨_, rfl, _, rfl, a, C, dx, _, rfl, upd_same, hc.cls, hc.nK, lt1000 (by decide), ?_⟩
      refine k _ (fun b o n e => ?_) ⟨dx, _, upd_same, ?_⟩
      · rw [upd_ne n, upd_ne n, upd_ne (ne_of_none (s1 b o e) hp)]
        exact s1 b o e
      · rw [lookup_putF, if_pos rfl]
    · exact ⟨_, rfl, _, rfl, .inr ⟨hb, fun H' d s1 hd => k H' d s1 hd⟩⟩
abbrev nG0 : List Str := ["self", "kind", "bay"]
theorem scG0 : FnScope nG0 ["self", "kind", "bay"] (defScope sGo0) := ⟨rfl, rfl, rfl, by decide +kernel, rfl, by decide +kernel, by decide +kernel⟩
theorem ok_go0 {C CB CD f fC fD : Addr} {mc : Value} {fd fdC fdD : FuncData} (hc : DC K C) (F : Fun K "__init__" "Go.__init__" sGo0 f fd) (FC : Fun K "check_name" "check_name" sCheck fC fdC) (gC : mg "check_name" = some (.ref fC)) (GC : FnOk P w K mg base (L2.CX P w) 3 fC fdC ["value"] (spCheck K CB))
    (FD : Fun K "__init__" "Deed.__init__" sDeed0 fD fdD) (gD : mg "Deed" = some (.ref CD)) (rD : ClX.CRead K CD mc) (cD : OwR.CFun K CD mc "__init__" fD) : FnOk P w K mg base (L2.CX P w) 4 f fd ["self", "kind", "bay"] (spGo0 K C CB) := by
  have bC : Binds K fdC ["value"] [] := FC.binds fun _ _ _ _ _ _ us hl => match us, hl with | [_], _ => rfl
  have GD : FnR P w K mg base CX0 3 fD (spDeedR C) := ok_deed0 hc FD
  refine F.okX scG0 (fun vs H Q E h => ?_) (fun cdv A outer s H vs Q E hr h => ?_)
  · obtain ⟨a, dx, v, u, rfl, _⟩ := h
    rfl
  · obtain ⟨a, dx, v, u, rfl, ha, h⟩ := h
    refine ⟨_, (pss_cons (ps_expr (pe_call GC hr (by rfl) gC FC.kp bC .nil (passes_call (takes_of rfl rfl rfl rfl) (fun _ _ _ _ h => h)) (pa_cons (pv 1) pa_nil)))
    (pss_cons (ps_expr (pe_call GC hr (by rfl) gC FC.kp bC .nil (passes_call (takes_of rfl rfl rfl rfl) (fun _ _ _ _ h => h)) (pa_cons (pv 2) pa_nil)))
    (pss_cons (ps_expr (OwR.pe_cfun (pe_glob (v := .ref CD) rfl gD rfl) rD cD GD hr pass0 (pa_cons (pv 0) (pa_cons pe_str (pa_cons (pv 1) (pa_cons (pv 2) pa_nil))))))
    (pss_cons (ps_fld (pv 0) (pv 1) rfl)
    (pss_one (ps_fld (pv 0) (pv 2) rfl)))))), ?_⟩
    rcases h with ⟨z, b, ⟨rfl, hz, hg⟩, ⟨rfl, hz2, hg2⟩, k⟩ | ⟨hb, k⟩ | ⟨z, ⟨rfl, hz, hg⟩, hb, k⟩
    · refine ⟨_, rfl, _, rfl, .inl ⟨z, rfl, hz, hg, fun H1 s1 => ?_⟩⟩
      refine ⟨_, rfl, _, rfl, .inl ⟨b, rfl, hz2, hg2, fun H2 s2 => ?_⟩⟩
      have s12 := s1.trans s2
      have ha1 := s12 a _ ha
      refine ⟨rfl, _, rfl, _, rfl, _, rfl, a, dx, [], _, rfl, by show _ ≤ 10; simp, ha1, by decide, fun p hp => ?_⟩
      refine ⟨_, rfl, _, rfl, a, C, dx, _, rfl, upd_same, hc.cls, hc.nK, lt1000 (by decide), ?_⟩
      refine ⟨_, rfl, _, rfl, a, C, dx, _, rfl, upd_same, hc.cls, hc.nB, lt1000 (lt1000s (n := 899) (by decide)), ?_⟩
      refine k _ (fun b o n e => ?_) ⟨dx, _, upd_same, ?_, ?_⟩
      · rw [upd_ne n, upd_ne n, upd_ne n, upd_ne (ne_of_none (s12 b o e) hp)]
        exact s12 b o e
      · rw [lookup_putF, if_neg (by decide), lookup_putF, if_pos rfl]
      · rw [lookup_putF, if_pos rfl]
    · exact ⟨_, rfl, _, rfl, .inr ⟨hb, fun H' d s1 hd => k H' d s1 hd⟩⟩
    · refine ⟨_, rfl, _, rfl, .inl ⟨z, rfl, hz, hg, fun H1 s1 => ?_⟩⟩
      exact ⟨_, rfl, _, rfl, .inr ⟨hb H1 s1, fun H' d s2 hd => k H' d (s1.trans s2) hd⟩⟩
end
end K10
end
section
namespace K10
open PySem PySem.Spec PyProof.Rows L2
def spComeP (C : Addr) : Sp := fun vs H Q _ => ∃ (a : Addr) (z : Str), vs = [.ref a] ∧ ComeAt C H a z ∧ ∀ p, H p = none → Q (.ref p) (upd H p (.tup [.str "come", .str z]))
def spGoP (C : Addr) : Sp := fun vs H Q _ => ∃ (a : Addr) (z b : Str), vs = [.ref a] ∧ GoAt C H a z b ∧ ∀ p, H p = none → Q (.ref p) (upd H p (.tup [.str "go", .str z, .str b]))
def spComeS (C : Addr) : Sp := fun vs H Q _ => ∃ (a : Addr) (z : Str), vs = [.ref a] ∧ ComeAt C H a z ∧ z.length ≤ 1000 ∧ Q (.str ("come " ++ z)) H
def spGoS (C : Addr) : Sp := fun vs H Q _ => ∃ (a : Addr) (z b : Str), vs = [.ref a] ∧ GoAt C H a z b ∧ z.length ≤ 1000 ∧ b.length ≤ 1000 ∧ Q (.str ((("go " ++ z) ++ " ") ++ b)) H
/-- what is no instance of the class at C -/
def NotOf (K : PySem.W.Frag) (H : Hp) (C : Addr) (y : V) : Prop := ∃ t, TyX K H y t ∧ PySem.W.kitOne K t (.ref C) = some false
def spComeE (K : PySem.W.Frag) (C : Addr) : Sp := fun vs H Q _ => ∃ (a : Addr) (z : Str) (y : V), vs = [.ref a, y] ∧ ComeAt C H a z ∧ ((∃ b z2, y = .ref b ∧ ComeAt C H b z2 ∧ Q (.bl (decide (z = z2))) H) ∨ (NotOf K H C y ∧ Q (.bl false) H))
def spGoE (K : PySem.W.Frag) (C : Addr) : Sp := fun vs H Q _ => ∃ (a : Addr) (z s : Str) (y : V), vs = [.ref a, y] ∧ GoAt C H a z s ∧ ((∃ b z2 s2, y = .ref b ∧ GoAt C H b z2 s2 ∧ Q (.bl (decide (z = z2) && decide (s = s2))) H) ∨ (NotOf K H C y ∧ Q (.bl false) H))
theorem empty_app (x : Str) : Str.empty ++ x = x := by
  obtain ⟨c⟩ := x
  show Str.mk (#[] ++ c) = ⟨c⟩
  rw [Array.empty_append]
theorem str_eq (x y : Str) : decide (V.str x = V.str y) = decide (x = y) := by
  by_cases h : x = y
  · rw [h, decide_eq_true rfl, decide_eq_true rfl]
  · rw [decide_eq_false h, decide_eq_false fun q => h (V.str.inj q)]
theorem app_len (x y : Str) : (x ++ y).length = x.length + y.length := by
  obtain ⟨c⟩ := x
  obtain ⟨d⟩ := y
  show (c ++ d).size = c.size + d.size
  exact Array.size_append
section
variable {P : Program} {w : World} {K : PySem.W.Frag} {mg : Str → Option Value} {base : Heap}
theorem scCP : FnScope ["self"] ["self"] (defScope sComeP) := ⟨rfl, rfl, rfl, by decide +kernel, rfl, by decide +kernel, by decide +kernel⟩
theorem ok_comeP {C f : Addr} {fd : FuncData} (hc : DC K C) (F : Fun K "parts" "Come.parts" sComeP f fd) : FnOk P w K mg base CX0 1 f fd ["self"] (spComeP C) := by
  refine F.ok scCP (fun vs H Q E h => ?_) (fun cdv A outer s H vs Q E hr h => ?_)
  · obtain ⟨a, z, rfl, _⟩ := h
    rfl
  · obtain ⟨a, z, rfl, ⟨dx, fs, ha, lk⟩, q⟩ := h
    refine ⟨_, (pss_one (ps_ret (pe_tup (pa_cons pe_str (pa_cons (pe_fld (pv 0) rfl) pa_nil))))), ?_⟩
    have sz := sizeLine_eq
    exact ⟨_, rfl, a, C, dx, fs, _, rfl, ha, hc.cls, hc.nK, lk, by show (2 : Nat) ≤ sizeLine; omega, fun p hp => q p hp⟩
theorem scGP : FnScope ["self"] ["self"] (defScope sGoP) := ⟨rfl, rfl, rfl, by decide +kernel, rfl, by decide +kernel, by decide +kernel⟩
theorem ok_goP {C f : Addr} {fd : FuncData} (hc : DC K C) (F : Fun K "parts" "Go.parts" sGoP f fd) : FnOk P w K mg base CX0 1 f fd ["self"] (spGoP C) := by
  refine F.ok scGP (fun vs H Q E h => ?_) (fun cdv A outer s H vs Q E hr h => ?_)
  · obtain ⟨a, z, b, rfl, _⟩ := h
    rfl
  · obtain ⟨a, z, b, rfl, ⟨dx, fs, ha, lk, lb⟩, q⟩ := h
    refine ⟨_, (pss_one (ps_ret (pe_tup (pa_cons pe_str (pa_cons (pe_fld (pv 0) rfl) (pa_cons (pe_fld (pv 0) rfl) pa_nil)))))), ?_⟩
    have sz := sizeLine_eq
    exact ⟨_, rfl, a, C, dx, fs, _, rfl, ha, hc.cls, hc.nK, lk, _, rfl, a, C, dx, fs, _, rfl, ha, hc.cls, hc.nB, lb, by show (3 : Nat) ≤ sizeLine; omega, fun p hp => q p hp⟩
theorem scCS : FnScope ["self"] ["self"] (defScope sComeS) := ⟨rfl, rfl, rfl, by decide +kernel, rfl, by decide +kernel, by decide +kernel⟩
theorem ok_comeS {C f : Addr} {fd : FuncData} (hc : DC K C) (F : Fun K "__str__" "Come.__str__" sComeS f fd) : FnOk P w K mg base CX0 1 f fd ["self"] (spComeS C) := by
  refine F.ok scCS (fun vs H Q E h => ?_) (fun cdv A outer s H vs Q E hr h => ?_)
  · obtain ⟨a, z, rfl, _⟩ := h
    rfl
  · obtain ⟨a, z, rfl, ⟨dx, fs, ha, lk⟩, hz, q⟩ := h
    refine ⟨_, (pss_one (ps_ret (pe_joined (PJ.cons pe_str (PJ.cons (pe_fmt (pe_fld (pv 0) rfl)) PJ.nil))))), ?_⟩
    have sz := sizeLine_eq
    have l1 : ("come " : Str).length = 5 := by decide +kernel
    refine ⟨_, rfl, ?_, _, rfl, a, C, dx, fs, _, rfl, ha, hc.cls, hc.nK, lk, .inl ⟨z, rfl, by omega, z, rfl, ?_, ?_⟩⟩
    · rw [empty_app, l1]
      omega
    · rw [empty_app, app_len, l1]
      omega
    · rw [empty_app]
      exact q
theorem scGS : FnScope ["self"] ["self"] (defScope sGoS) := ⟨rfl, rfl, rfl, by decide +kernel, rfl, by decide +kernel, by decide +kernel⟩
theorem ok_goS {C f : Addr} {fd : FuncData} (hc : DC K C) (F : Fun K "__str__" "Go.__str__" sGoS f fd) : FnOk P w K mg base CX0 1 f fd ["self"] (spGoS C) := by
  refine F.ok scGS (fun vs H Q E h => ?_) (fun cdv A outer s H vs Q E hr h => ?_)
  · obtain ⟨a, z, b, rfl, _⟩ := h
    rfl
  · obtain ⟨a, z, b, rfl, ⟨dx, fs, ha, lk, lb⟩, hz, hb, q⟩ := h
    refine ⟨_, (pss_one (ps_ret (pe_joined (PJ.cons pe_str (PJ.cons (pe_fmt (pe_fld (pv 0) rfl)) (PJ.cons pe_str (PJ.cons (pe_fmt (pe_fld (pv 0) rfl)) PJ.nil))))))), ?_⟩
    have sz := sizeLine_eq
    have l1 : ("go " : Str).length = 3 := by decide +kernel
    have l2 : (" " : Str).length = 1 := by decide +kernel
    refine ⟨_, rfl, ?_, _, rfl, a, C, dx, fs, _, rfl, ha, hc.cls, hc.nK, lk, .inl ⟨z, rfl, by omega, z, rfl, ?_, _, rfl, ?_, _, rfl, a, C, dx, fs, _, rfl, ha, hc.cls, hc.nB, lb, .inl ⟨b, rfl, by omega, b, rfl, ?_, ?_⟩⟩⟩
    · rw [empty_app, l1]
      omega
    · rw [empty_app, app_len, l1]
      omega
    · rw [empty_app, app_len, app_len, l1, l2]
      omega
    · rw [empty_app, app_len, app_len, app_len, l1, l2]
      omega
    · rw [empty_app]
      exact q
theorem scCE : FnScope ["self", "other"] ["self", "other"] (defScope sComeE) := ⟨rfl, rfl, rfl, by decide +kernel, rfl, by decide +kernel, by decide +kernel⟩
theorem ok_comeE {C f : Addr} {fd : FuncData} (hc : DC K C) (F : Fun K "__eq__" "Come.__eq__" sComeE f fd) (T : Nm2 mg) (gC : mg "Come" = some (.ref C)) (own : PySem.W.kitOne K (.ref C) (.ref C) = some true) : FnOk P w K mg base CX0 1 f fd ["self", "other"] (spComeE K C) := by
  refine F.ok scCE (fun vs H Q E h => ?_) (fun cdv A outer s H vs Q E hr h => ?_)
  · obtain ⟨a, z, y, rfl, _⟩ := h
    rfl
  · obtain ⟨a, z, y, rfl, ⟨dx, fs, ha, lk⟩, h⟩ := h
    refine ⟨_, (pss_one (ps_ret (pe_and (pe_callB call_isi (by rfl) T.n_isinstance (by decide +kernel) (pa_cons (pv 1) (pa_cons (pe_glob (v := .ref C) rfl gC rfl) pa_nil))) (pe_one (pe_cmpR op_eq (pe_fld (pv 0) rfl) (pe_fld (pv 1) rfl) (nomark _)))))), ?_⟩
    rcases h with ⟨b, z2, rfl, ⟨dy, gs, hb, lb⟩, q⟩ | ⟨⟨t, ty, kt⟩, q⟩
    · refine ⟨_, rfl, .ref b, .ref C, _, _, true, rfl, .own C, hc.ty hb, own, true, rfl, ?_⟩
      refine iteT ?_
      refine ⟨_, rfl, a, C, dx, fs, _, rfl, ha, hc.cls, hc.nK, lk, _, rfl, b, C, dy, gs, _, rfl, hb, hc.cls, hc.nK, lb, rfl, ?_⟩
      rw [str_eq]
      exact q
    · refine ⟨_, rfl, y, .ref C, _, _, false, rfl, .own C, ty, kt, false, rfl, ?_⟩
      exact iteF q
theorem scGE : FnScope ["self", "other"] ["self", "other"] (defScope sGoE) := ⟨rfl, rfl, rfl, by decide +kernel, rfl, by decide +kernel, by decide +kernel⟩
theorem ok_goE {C f : Addr} {fd : FuncData} (hc : DC K C) (F : Fun K "__eq__" "Go.__eq__" sGoE f fd) (T : Nm2 mg) (gC : mg "Go" = some (.ref C)) (own : PySem.W.kitOne K (.ref C) (.ref C) = some true) : FnOk P w K mg base CX0 1 f fd ["self", "other"] (spGoE K C) := by
  refine F.ok scGE (fun vs H Q E h => ?_) (fun cdv A outer s H vs Q E hr h => ?_)
  · obtain ⟨a, z, b, y, rfl, _⟩ := h
    rfl
  · obtain ⟨a, z, b, y, rfl, ⟨dx, fs, ha, lk, la⟩, h⟩ := h
    refine ⟨_, (pss_one (ps_ret (pe_and (pe_callB call_isi (by rfl) T.n_isinstance (by decide +kernel) (pa_cons (pv 1) (pa_cons (pe_glob (v := .ref C) rfl gC rfl) pa_nil))) (pe_and (pe_cmpR op_eq (pe_fld (pv 0) rfl) (pe_fld (pv 1) rfl) (nomark _)) (pe_one (pe_cmpR op_eq (pe_fld (pv 0) rfl) (pe_fld (pv 1) rfl) (nomark _))))))), ?_⟩
    rcases h with ⟨b2, z2, s2, rfl, ⟨dy, gs, hb, lb, lc⟩, q⟩ | ⟨⟨t, ty, kt⟩, q⟩
    · refine ⟨_, rfl, .ref b2, .ref C, _, _, true, rfl, .own C, hc.ty hb, own, true, rfl, ?_⟩
      refine iteT ?_
      refine ⟨_, rfl, a, C, dx, fs, _, rfl, ha, hc.cls, hc.nK, lk, _, rfl, b2, C, dy, gs, _, rfl, hb, hc.cls, hc.nK, lb, rfl, ?_⟩
      rw [str_eq]
      refine ⟨_, rfl, ?_⟩
      by_cases e : z = z2
      · rw [decide_eq_true e] at q ⊢
        refine iteT ?_
        refine ⟨_, rfl, a, C, dx, fs, _, rfl, ha, hc.cls, hc.nB, la, _, rfl, b2, C, dy, gs, _, rfl, hb, hc.cls, hc.nB, lc, rfl, ?_⟩
        rw [str_eq]
        exact q
      · rw [decide_eq_false e] at q ⊢
        exact iteF q
    · refine ⟨_, rfl, y, .ref C, _, _, false, rfl, .own C, ty, kt, false, rfl, ?_⟩
      exact iteF q
end
end K10
end
section
namespace K10
open PySem PySem.Spec PyProof.Rows L2
abbrev sLName : Stmt := top 14
def abc : Str := "abcdefghijklmnopqrstuvwxyz"
def menu : List Str := ["a", "b", "come", "go", "none", "or", "zzzzzzzz"]
theorem abc_ok : ∀ c ∈ abc.cps.toList, letter c = true := by decide +kernel
theorem menu_ok : ∀ z ∈ menu, nameB z = true ∧ z.length ≤ 8 := by decide +kernel
def spLName : Sp := fun vs H Q _ => ∃ (p c : Addr) (ns : List Int) (n : Nat) (z : Int), vs = [.ref p] ∧ PenAt H p c ns n z ∧ n + 20 < 100000 ∧
  ∀ (x : Str) (n' : Nat) (z' : Int) (H' : Hp), nameB x = true → x.length ≤ 8 → n' ≤ n + 12 → PenAt H' p c ns n' z' → But p H H' → Q (.str x) H'
section
variable {P : Program} {w : World} {K : PySem.W.Frag} {mg : Str → Option Value} {base : Heap}
abbrev nLN : List Str := ["_law_pen_here", "_law_letters", "_law_k"]
theorem scLN : FnScope nLN ["_law_pen_here"] (defScope sLName) := ⟨rfl, rfl, rfl, by decide +kernel, rfl, by decide +kernel, by decide +kernel⟩
theorem ok_lname {f fD fP : Addr} {fd fdD fdP : FuncData} (F : Fun K "_law_name" "_law_name" sLName f fd) (T : Nm mg) (n_range : mg "range" = none) (FD : Fun K "_law_draw" "_law_draw" sDraw fD fdD) (gD : mg "_law_draw" = some (.ref fD)) (FP : Fun K "_law_pick" "_law_pick" sPick fP fdP) (gP : mg "_law_pick" = some (.ref fP)) :
    FnOk P w K mg base CX0 3 f fd ["_law_pen_here"] spLName := by
  have GD : FnOk P w K mg base CX0 2 fD fdD ["_law_pen_here", "_law_many"] spDraw := (ok_draw FD T).mono (by decide)
  have bD : Binds K fdD ["_law_pen_here", "_law_many"] [] := FD.binds fun _ _ _ _ _ _ us hl => match us, hl with | [_, _], _ => rfl
  have GP : FnOk P w K mg base CX0 2 fP fdP ["_law_pen_here", "_law_some"] (spPick K) := ok_pick FP T FD gD
  have GS : FnOk P w K mg base CX0 2 fP fdP ["_law_pen_here", "_law_some"] spPickS := ok_pickS FP T FD gD
  have bP : Binds K fdP ["_law_pen_here", "_law_some"] [] := FP.binds fun _ _ _ _ _ _ us hl => match us, hl with | [_, _], _ => rfl
  refine F.ok scLN (fun vs H Q E h => ?_) (fun cdv A outer s H vs Q E hr h => ?_)
  · obtain ⟨p, c, ns, n, z, rfl, _⟩ := h
    rfl
  · obtain ⟨p, c, ns, n, z, rfl, pn, hn, q⟩ := h
    refine ⟨_, (pss_cons (ps_set (i := 1) scLN.nd rfl (Or.inr rfl) pe_str)
    (pss_cons (ps_if (pt_cmpR op_gt (pe_call GD hr (by rfl) gD FD.kp bD .nil pass0 (pa_cons (pv 0) (pa_cons pe_int pa_nil))) pe_int (nomark _)) (pss_one (ps_ret (pe_call GP hr (by rfl) gP FP.kp bP .nil pass0 (pa_cons (pv 0) (pa_cons (pe_lst (pa_cons pe_str (pa_cons pe_str (pa_cons pe_str (pa_cons pe_str (pa_cons pe_str (pa_cons pe_str (pa_cons pe_str pa_nil)))))))) pa_nil))))) pss_nil)
    (pss_one (ps_ret (pe_join pe_str (pe_lc (own := [("_law_k", 2)]) (by rfl) scLN.nd (pi_range1 rfl n_range (pa_cons (pe_op op_add pe_int (pe_call GD hr (by rfl) gD FD.kp bD .nil pass0 (pa_cons (pv 0) (pa_cons pe_int pa_nil)))) pa_nil)) (blkOk_by (own := [("_law_k", 2)]) (N := nLN) (sc := defScope sLName) (by decide +kernel)) (fun _ _ _ _ _ => (pg_name (i := 2) scLN.nd rfl (Or.inl rfl))) (fun _ _ _ _ _ => pts_nil) (fun _ _ _ _ _ => (pe_call GS hr (by rfl) gP FP.kp bP .nil pass0 (pa_cons (pv 0) (pa_cons (pv 1) pa_nil)))))))))), ?_⟩
    have sz := sizeLine_eq
    refine ⟨_, rfl, p, c, ns, n, z, _, rfl, pn, by omega, by decide, by decide +kernel, fun d n1 z1 H1 d0 d1 hn1 pn1 s1 => ?_⟩
    refine ⟨d, 0, rfl, rfl, _, rfl, ?_⟩
    by_cases c1 : (0 : Int) < d
    · rw [decide_eq_true c1]
      refine iteT ?_
      refine ⟨_, rfl, by show (7 : Nat) ≤ sizeLine; omega, fun l hl => ?_⟩
      have nl : l ≠ p := fun e => pn1.some (e ▸ hl)
      refine ⟨p, c, l, ns, n1, z1, _, rfl, pn1.same (Same.of_new hl), by omega, nl, SqL.of upd_same, by decide, by decide, fun x n2 z2 H2 hx hn2 pn2 s2 => ?_⟩
      obtain ⟨t, ht, rfl⟩ := List.mem_map.mp (show x ∈ menu.map V.str from hx)
      exact q t n2 z2 H2 (menu_ok t ht).1 (menu_ok t ht).2 (by omega) pn2 (s1.trans ((But.new hl).trans s2))
    · rw [decide_eq_false c1]
      refine iteF ?_
      refine ⟨⟨_, rfl⟩, ?_⟩
      refine ⟨_, rfl, p, c, ns, n1, z1, _, rfl, pn1, by omega, by decide, by decide +kernel, fun e n2 z2 H2 e0 e1 hn2 pn2 s2 => ?_⟩
      refine ⟨1, e, rfl, rfl, _, rfl, by omega, by omega, fun D hD => ?_⟩
      have nD : D ≠ p := fun e => pn2.some (e ▸ hD)
      refine lc_it walk_range (fun i Hx => But p H2 Hx ∧ ∃ (n' : Nat) (z' : Int) (cs : List Nat), PenAt Hx p c ns n' z' ∧ n' ≤ n2 + i ∧ Hx D = some (.lst ((cs.map fun c => (⟨#[c]⟩ : Str)).map V.str)) ∧ cs.length = i ∧ ∀ c ∈ cs, letter c = true)
        ⟨But.new hD, n2, z2, [], pn2.same (Same.of_new hD), by omega, upd_same, rfl, fun c h => by cases h⟩ (fun _ _ _ _ => True.intro) (fun i x Hx Hy hi q0 y => ?_) (fun Hx q0 => ?_)
      · obtain ⟨sB, n', z', cs, pn', ln, eD, lc, al⟩ := q0
        obtain ⟨rfl, rfl⟩ := y
        refine ⟨rfl, ?_⟩
        have hi8 : i < 9 := by omega
        refine ⟨_, rfl, _, rfl, p, c, ns, n', z', abc, rfl, pn', by omega, by decide +kernel, by decide +kernel, fun x n3 z3 H3 hx hn3 pn3 s3 => ?_⟩
        have eD3 := s3 D _ nD eD
        refine ⟨_, eD3, by rw [List.length_map, List.length_map]; omega, ?_⟩
        refine ⟨fun b o nb eb => ?_, n3, z3, cs ++ [x], ?_, by omega, ?_, ?_, ?_⟩
        · rw [upd_ne (ne_of_none eb hD)]
          exact s3 b o nb (sB b o nb eb)
        · exact pn3.put (fun e => nD e.symm) (ne_of_none pn2.cells hD)
        · rw [upd_same, List.map_append, List.map_append]
          rfl
        · rw [List.length_append, lc]
          rfl
        · intro y hy
          rcases List.mem_append.mp hy with hy | hy
          · exact al y hy
          · rw [List.mem_singleton.mp hy]
            exact abc_ok x hx
      · obtain ⟨sB, n', z', cs, pn', ln, eD, lc, al⟩ := q0
        have l1 : 1 ≤ cs.length := by omega
        have l8 : cs.length ≤ 8 := by omega
        refine ⟨Str.empty, D, cs.map fun c => (⟨#[c]⟩ : Str), rfl, rfl, .inl (SqL.of eD), ?_, ?_⟩
        · have e1 : (cs.map fun c => (⟨#[c]⟩ : Str)).map (·.length) = List.replicate cs.length 1 := by
            rw [List.map_map]
            exact List.eq_replicate_iff.mpr ⟨List.length_map _, fun b hb => by
              obtain ⟨c, _, rfl⟩ := List.mem_map.mp hb
              rfl⟩
          rw [e1, List.sum_replicate_nat, List.length_map]
          have e2 : Str.empty.length = 0 := by decide +kernel
          rw [e2]
          omega
        · rw [join_signs]
          refine q _ n' z' Hx (letters_name l1 l8 al) ?_ (by omega) pn' ((s1.trans s2).trans sB)
          show cs.toArray.size ≤ 8
          rw [List.size_toArray]
          exact l8
end
end K10
end
section
namespace K10
open PySem PySem.Spec PyProof.Rows L2
abbrev sRight : Stmt := top 16
/-- what the classes of the deeds say of one another -/
structure CF (K : PySem.W.Frag) (CC CG CD fCE fGE fCS fGS : Addr) : Prop where
  dc : DC K CC
  dg : DC K CG
  eqC : OwR.Cmp1 K .Eq CC fCE
  eqG : OwR.Cmp1 K .Eq CG fGE
  neC : OwR.Ne1 K CC fCE
  neG : OwR.Ne1 K CG fGE
  stC : OwR.Str1 K CC fCS
  stG : OwR.Str1 K CG fGS
  ty : ∀ t ∈ ([.type "NoneType", .type "str", .type "tuple", .type "int", .type "list"] : List Value), PySem.W.notFirst K CC t = true ∧ PySem.W.notFirst K CG t = true ∧ PySem.W.kitOne K t (.ref CC) = some false ∧ PySem.W.kitOne K t (.ref CG) = some false
  nCC : PySem.W.notFirst K CC (.ref CC) = true
  nCG : PySem.W.notFirst K CC (.ref CG) = true
  nGC : PySem.W.notFirst K CG (.ref CC) = true
  nGG : PySem.W.notFirst K CG (.ref CG) = true
  kCC : PySem.W.kitOne K (.ref CC) (.ref CC) = some true
  kGG : PySem.W.kitOne K (.ref CG) (.ref CG) = some true
  kCG : PySem.W.kitOne K (.ref CC) (.ref CG) = some false
  kGC : PySem.W.kitOne K (.ref CG) (.ref CC) = some false
  kCD : PySem.W.kitOne K (.ref CC) (.ref CD) = some true
  kGD : PySem.W.kitOne K (.ref CG) (.ref CD) = some true
theorem ComeAt.same {C : Addr} {H H' : Hp} {a : Addr} {z : Str} (h : ComeAt C H a z) (s : Same H H') : ComeAt C H' a z := by
  obtain ⟨dx, fs, e, l⟩ := h
  exact ⟨dx, fs, s _ _ e, l⟩
theorem GoAt.same {C : Addr} {H H' : Hp} {a : Addr} {z b : Str} (h : GoAt C H a z b) (s : Same H H') : GoAt C H' a z b := by
  obtain ⟨dx, fs, e, l⟩ := h
  exact ⟨dx, fs, s _ _ e, l⟩
theorem ComeAt.ty {K : PySem.W.Frag} {C : Addr} {H : Hp} {a : Addr} {z : Str} (h : ComeAt C H a z) (d : DC K C) : TyX K H (.ref a) (.ref C) := by
  obtain ⟨dx, fs, e, l⟩ := h
  exact d.ty e
theorem GoAt.ty {K : PySem.W.Frag} {C : Addr} {H : Hp} {a : Addr} {z b : Str} (h : GoAt C H a z b) (d : DC K C) : TyX K H (.ref a) (.ref C) := by
  obtain ⟨dx, fs, e, l⟩ := h
  exact d.ty e
def duo (z b : Str) : PyData := .list [.tuple [.str "come", .str z], .tuple [.str "go", .str z, .str b]]
theorem duo_fits {z b : Str} (hz : nameB z = true) (hb : nameB b = true) (lz : z.length ≤ 8) (lb : b.length ≤ 8) : (duo z b).shown.length ≤ sizeLine := by
  refine shown_fits ?_ ?_
  · show ((PyData.leavesShort 100 (.str "come") && (PyData.leavesShort 100 (.str z) && true)) && ((PyData.leavesShort 100 (.str "go") && (PyData.leavesShort 100 (.str z) && (PyData.leavesShort 100 (.str b) && true))) && true)) = true
    rw [name_short hz, name_short hb, show PyData.leavesShort 100 (.str "come") = true by decide +kernel, show PyData.leavesShort 100 (.str "go") = true by decide +kernel]
    rfl
  · show ((("come" : Str).cps.size + 1 + (z.cps.size + 1 + 0)) + 1 + ((("go" : Str).cps.size + 1 + (z.cps.size + 1 + (b.cps.size + 1 + 0))) + 1 + 0)) ≤ 1000
    have e1 : ("come" : Str).cps.size = 4 := by decide +kernel
    have e2 : ("go" : Str).cps.size = 2 := by decide +kernel
    have l1 : z.cps.size ≤ 8 := lz
    have l2 : b.cps.size ≤ 8 := lb
    omega
def spRight : Sp := fun vs H Q _ => ∃ z b : Str, vs = [.str z, .str b] ∧ nameB z = true ∧ nameB b = true ∧ z.length ≤ 8 ∧ b.length ≤ 8 ∧ ∀ H', Same H H' → Q (.bl true) H'
theorem duo_eqv {z b : Str} (hz : nameB z = true) (hb : nameB b = true) : True := True.intro
section
variable {P : Program} {w : World} {K : PySem.W.Frag} {mg : Str → Option Value} {base : Heap}
abbrev nR : List Str := ["_law_thing", "_law_place", "_law_come", "_law_go", "_law_told", "_law_odd", "_law_one"]
theorem scR : FnScope nR ["_law_thing", "_law_place"] (defScope sRight) := ⟨rfl, rfl, rfl, by decide +kernel, rfl, by decide +kernel, by decide +kernel⟩
def gC : {α : Type} → List α → List α → List α := fun us ws => us ++ ws
theorem kb_come {f : Addr} {fd : FuncData} (F : Fun K "__init__" "Come.__init__" sCome0 f fd) : KBn K fd ["self", "kind"] 1 ["kind"] (fun us ws => us ++ ws) (fun us ws => us ++ ws) := by
  obtain ⟨oc, od, kV, doc, pm, an, cdv, ct, osl, rfl, lk, hcd⟩ := F.ex
  refine ⟨fun s us ws _ h1 h2 => ?_, fun r1 r2 => r1.append r2⟩
  match us, ws, h1, h2 with
  | [a], [b], _, _ => exact .of_eq rfl
theorem kb_go {f : Addr} {fd : FuncData} (F : Fun K "__init__" "Go.__init__" sGo0 f fd) : KBn K fd ["self", "kind", "bay"] 1 ["bay", "kind"] (fun us ws => us ++ ws.reverse) (fun us ws => us ++ ws.reverse) := by
  obtain ⟨oc, od, kV, doc, pm, an, cdv, ct, osl, rfl, lk, hcd⟩ := F.ex
  refine ⟨fun s us ws _ h1 h2 => ?_, fun r1 r2 => r1.append r2.reverse⟩
  match us, ws, h1, h2 with
  | [a], [b, c], _, _ => exact .of_eq rfl
theorem ok_right {CC CG CD CB f fC0 fG0 fCP fGP fCE fGE fCS fGS pC pG : Addr} {fd fdC0 fdG0 fdCP fdGP fdCE fdGE fdCS fdGS : FuncData} (F : Fun K "_law_right" "_law_right" sRight f fd) (n : Nm2 mg) (n_repr : mg "repr" = none) (c : CF K CC CG CD fCE fGE fCS fGS)
    (g_Come : mg "Come" = some (.ref CC)) (g_Go : mg "Go" = some (.ref CG)) (g_Deed : mg "Deed" = some (.ref CD)) (M_come : Mk K CC fC0) (F_come : Fun K "__init__" "Come.__init__" sCome0 fC0 fdC0) (G_come : FnOk P w K mg base (L2.CX P w) 4 fC0 fdC0 ["self", "kind"] (spCome0 K CC CB))
    (M_go : Mk K CG fG0) (F_go : Fun K "__init__" "Go.__init__" sGo0 fG0 fdG0) (G_go : FnOk P w K mg base (L2.CX P w) 4 fG0 fdG0 ["self", "kind", "bay"] (spGo0 K CG CB))
    (pp_c : PropOf K CC "parts" pC fCP) (FCP : Fun K "parts" "Come.parts" sComeP fCP fdCP) (pp_g : PropOf K CG "parts" pG fGP) (FGP : Fun K "parts" "Go.parts" sGoP fGP fdGP)
    (FCE : Fun K "__eq__" "Come.__eq__" sComeE fCE fdCE) (FGE : Fun K "__eq__" "Go.__eq__" sGoE fGE fdGE) (FCS : Fun K "__str__" "Come.__str__" sComeS fCS fdCS) (FGS : Fun K "__str__" "Go.__str__" sGoS fGS fdGS) :
    OwR.FnG P w K mg base CX0 6 f fd ["_law_thing", "_law_place"] spRight := by
  obtain ⟨oc, od, kV, doc, pm, an, cdv, ct, osl, rfl, lk, hcd⟩ := F.ex
  have GPC : FnOk P w K mg base CX0 1 fCP fdCP ["self"] (spComeP CC) := ok_comeP c.dc FCP
  have bPC : Binds K fdCP ["self"] [] := FCP.binds fun _ _ _ _ _ _ us hl => match us, hl with | [_], _ => rfl
  have GPG : FnOk P w K mg base CX0 1 fGP fdGP ["self"] (spGoP CG) := ok_goP c.dg FGP
  have bPG : Binds K fdGP ["self"] [] := FGP.binds fun _ _ _ _ _ _ us hl => match us, hl with | [_], _ => rfl
  have GEC : FnR P w K mg base CX0 1 fCE (spComeE K CC) := OwR.raw0 (ok_comeE c.dc FCE n g_Come c.kCC) (FCE.binds fun _ _ _ _ _ _ us hl => match us, hl with | [_, _], _ => rfl)
  have GEG : FnR P w K mg base CX0 1 fGE (spGoE K CG) := OwR.raw0 (ok_goE c.dg FGE n g_Go c.kGG) (FGE.binds fun _ _ _ _ _ _ us hl => match us, hl with | [_, _], _ => rfl)
  have GSC : FnR P w K mg base CX0 1 fCS (spComeS CC) := OwR.raw0 (ok_comeS c.dc FCS) (FCS.binds fun _ _ _ _ _ _ us hl => match us, hl with | [_], _ => rfl)
  have GSG : FnR P w K mg base CX0 1 fGS (spGoS CG) := OwR.raw0 (ok_goS c.dg FGS) (FGS.binds fun _ _ _ _ _ _ us hl => match us, hl with | [_], _ => rfl)
  have b_come : Binds K fdC0 ["self", "kind"] [] := F_come.binds fun _ _ _ _ _ _ us hl => match us, hl with | [_, _], _ => rfl
  have b_go : Binds K fdG0 ["self", "kind", "bay"] [] := F_go.binds fun _ _ _ _ _ _ us hl => match us, hl with | [_, _, _], _ => rfl
  have kb_come := kb_come F_come
  have kb_go := kb_go F_go
  refine OwR.fn_ofG (k := 5) lk hcd scR (fun vs H Q E h => ?_) fun A outer s H vs Q E hgd hr h => ?_
  · obtain ⟨z, b, rfl, _⟩ := h
    rfl
  · obtain ⟨z, b, rfl, nz, nb, lz, lb, q⟩ := h
    have hr5 : Room 5 (A.deeper (envOfC "_law_right" (defScope sRight) s.heap.objs.size f cdv)) := hr
    have hr3 := hr5.mono (show 3 ≤ 5 by decide)
    have hr2 := hr5.mono (show 2 ≤ 5 by decide)
    have hr1 := hr5.mono (show 1 ≤ 5 by decide)
    have hun := hr5.un
    have hrep : (A.deeper (envOfC "_law_right" (defScope sRight) s.heap.objs.size f cdv)).units + 70 < cLine := by omega
    have hu2 : (A.deeper (envOfC "_law_right" (defScope sRight) s.heap.objs.size f cdv)).units + 2 < cLine := by omega
    have hu1 : (A.deeper (envOfC "_law_right" (defScope sRight) s.heap.objs.size f cdv)).units + 1 < cLine := by omega
    have hu0 : (A.deeper (envOfC "_law_right" (defScope sRight) s.heap.objs.size f cdv)).units < cLine := by omega
    refine ⟨_, PSs.nox (pss_cons (ps_asg (pe_tup (pa_cons (pe_make M_come G_come hr5 (by rfl) g_Come b_come .nil passL (pa_cons (pv 0) pa_nil)) (pa_cons (pe_make M_go G_go hr5 (by rfl) g_Go b_go .nil passL (pa_cons (pv 0) (pa_cons (pv 1) pa_nil))) pa_nil))) (pg_tup rfl (pgs_cons (pg_name (i := 2) scR.nd rfl (Or.inr rfl)) (pgs_cons (pg_name (i := 3) scR.nd rfl (Or.inr rfl)) pgs_nil))))
    (pss_cons (ps_if (pt_cmpR op_ne (pe_callB (OwR.cr_reprD hgd hrep) (by rfl) n_repr (by decide +kernel) (pa_cons (pe_lst (pa_cons (pe_prop (pv 2) c.dc.cls pp_c GPC hr2 bPC .nil pass0 rfl) (pa_cons (pe_prop (pv 3) c.dg.cls pp_g GPG hr2 bPG .nil pass0 rfl) pa_nil))) pa_nil)) (pe_callB (OwR.cr_reprD hgd hrep) (by rfl) n_repr (by decide +kernel) (pa_cons (pe_lst (pa_cons (pe_tup (pa_cons pe_str (pa_cons (pv 0) pa_nil))) (pa_cons (pe_tup (pa_cons pe_str (pa_cons (pv 0) (pa_cons (pv 1) pa_nil)))) pa_nil))) pa_nil)) (nomark _)) (pss_one (ps_ret pe_bl)) pss_nil)
    (pss_cons (ps_set (i := 4) scR.nd rfl (Or.inl rfl) (pe_lst (pa_cons (pe_fld (pv 2) rfl) (pa_cons (pe_fld (pv 3) rfl) (pa_cons (pe_fld (pv 3) rfl) (pa_cons (pe_callTy (OwR.call_strO hu2 GSC hr3 pass0) (by rfl) n.n_str (by decide +kernel) (pa_cons (pv 2) pa_nil)) (pa_cons (pe_callTy (OwR.call_strO hu2 GSG hr3 pass0) (by rfl) n.n_str (by decide +kernel) (pa_cons (pv 3) pa_nil)) pa_nil)))))))
    (pss_cons (ps_if (pt_cmpR (op_neD hr.units) (pv 4) (pe_lst (pa_cons (pv 0) (pa_cons (pv 0) (pa_cons (pv 1) (pa_cons (pe_op op_add_str pe_str (pv 0)) (pa_cons (pe_op op_add_str (pe_op op_add_str (pe_op op_add_str pe_str (pv 0)) pe_str) (pv 1)) pa_nil)))))) (nomark _)) (pss_one (ps_ret pe_bl)) pss_nil)
    (pss_cons (ps_if (PW.pt (pw_or (pt_not (pt_val (pe_callB call_isi (by rfl) n.n_isinstance (by decide +kernel) (pa_cons (pv 2) (pa_cons (pe_glob (v := .ref CD) rfl g_Deed rfl) pa_nil))))) (pw_or (pt_not (pt_val (pe_callB call_isi (by rfl) n.n_isinstance (by decide +kernel) (pa_cons (pv 3) (pa_cons (pe_glob (v := .ref CD) rfl g_Deed rfl) pa_nil))))) (pw_or (pt_val (pe_callB call_isi (by rfl) n.n_isinstance (by decide +kernel) (pa_cons (pv 2) (pa_cons (pe_glob (v := .ref CG) rfl g_Go rfl) pa_nil)))) (pw_or1 (pt_val (pe_callB call_isi (by rfl) n.n_isinstance (by decide +kernel) (pa_cons (pv 3) (pa_cons (pe_glob (v := .ref CC) rfl g_Come rfl) pa_nil))))))))) (pss_one (ps_ret pe_bl)) pss_nil)
    (pss_cons (ps_if (PW.pt (pw_or (pt_cmpR (OwR.op_ownNe hu1 GEC hr2 pass0) (pv 2) (pe_makeK0 M_come G_come hr5 (by rfl) g_Come kb_come passL (pk_cons (pv 0) pk_nil)) (nomark _)) (pw_or (pt_cmpR (OwR.op_ownNe hu1 GEG hr2 pass0) (pv 3) (pe_makeK0 M_go G_go hr5 (by rfl) g_Go kb_go passL (pk_cons (pv 1) (pk_cons (pv 0) pk_nil))) (nomark _)) (pw_or (pt_cmpR (OwR.op_ownEqX hu0 GEC hr1 pass0) (pv 2) (pv 3) (nomark _)) (pw_or1 (pt_cmpR (OwR.op_ownEqX hu0 GEG hr1 pass0) (pv 3) (pv 2) (nomark _))))))) (pss_one (ps_ret pe_bl)) pss_nil)
    (pss_cons (ps_set (i := 5) scR.nd rfl (Or.inl rfl) (pe_lst (pa_cons pe_non (pa_cons (pe_op op_add_str pe_str (pv 0)) (pa_cons (pe_callTy (OwR.call_strO hu2 GSG hr3 pass0) (by rfl) n.n_str (by decide +kernel) (pa_cons (pv 3) pa_nil)) (pa_cons (pe_prop (pv 2) c.dc.cls pp_c GPC hr2 bPC .nil pass0 rfl) (pa_cons (pe_prop (pv 3) c.dg.cls pp_g GPG hr2 bPG .nil pass0 rfl) (pa_cons (pv 0) (pa_cons pe_int (pa_cons (pe_lst (pa_cons (pv 2) pa_nil)) (pa_cons (pe_tup (pa_cons (pv 3) pa_nil)) pa_nil)))))))))))
    (pss_one (ps_ret (pe_cmpR (op_eqD hr.units) (pe_lc (own := [("_law_one", 6)]) (by rfl) scR.nd (pi_list (pv 5)) (blkOk_by (own := [("_law_one", 6)]) (N := nR) (sc := defScope sRight) (by decide +kernel)) (fun _ _ _ _ _ => (pg_name (i := 6) scR.nd rfl (Or.inl rfl))) (fun _ _ _ _ _ => pts_one (PW.pt (pw_or (pt_cmpR (OwR.op_ownEqXK (K := K) rfl hu0 GEC hr1 pass0) (pv 2) (pv 6) (nomark _)) (pw_or1 (pt_cmpR (OwR.op_ownEqXK (K := K) rfl hu0 GEG hr1 pass0) (pv 3) (pv 6) (nomark _)))))) (fun _ _ _ _ _ => (pv 6))) (pe_lst pa_nil) (nomark _))))))))))), ?_⟩
    have sz := sizeLine_eq
    have lz2 : z.length ≤ 1000 := by omega
    have lb2 : b.length ≤ 1000 := by omega
    -- the two deeds
    refine ⟨_, rfl, fun x1 y1 hx1 hy1 ne1 => ⟨x1, y1, .str z, rfl, upd_same, .inl ⟨z, ⟨rfl, lz2, nz⟩, fun H1 s1 a1 => ⟨rfl, ?_⟩⟩⟩⟩
    have t1 := made_same hx1 hy1 s1
    refine ⟨_, rfl, _, rfl, fun x2 y2 hx2 hy2 ne2 => ⟨x2, y2, .str z, .str b, rfl, upd_same, .inl ⟨z, b, ⟨rfl, lz2, nz⟩, ⟨rfl, lb2, nb⟩, fun H2 s2 a2 => ⟨rfl, ?_⟩⟩⟩⟩
    have t2 := made_same hx2 hy2 s2
    have a1 := a1.same t2
    have t2 := t1.trans t2
    have szl : ∀ n : Nat, n ≤ 20 → n ≤ sizeLine := fun n h => by omega
    refine ⟨szl 2 (by decide), fun T hT => ⟨T, _, rfl, SqT.of upd_same, rfl, _, _, rfl, _, _, rfl, rfl, ?_⟩⟩
    have t3 := Same.of_new (o := .tup [.ref x1, .ref x2]) hT
    have c3 := a1.same t3
    have g3 := a2.same t3
    have t3 := t2.trans t3
    generalize upd H2 T (.tup [.ref x1, .ref x2]) = H3 at t3 c3 g3 ⊢
    clear t2 t1 a1 a2 s1 s2 hx1 hx2 hy1 hy2 hT
    -- their parts
    obtain ⟨dc1, fc1, ec3, lc3⟩ := id c3
    obtain ⟨dg1, fg1, eg3, lg3, lb3⟩ := id g3
    refine ⟨_, rfl, x1, dc1, fc1, rfl, ec3, x1, z, rfl, c3, fun p1 hp1 => ?_⟩
    have u1 := Same.of_new (o := .tup [.str "come", .str z]) hp1
    refine ⟨_, rfl, x2, dg1, fg1, rfl, u1 _ _ eg3, x2, z, b, rfl, g3.same u1, fun p2 hp2 => ?_⟩
    have u2 := Same.of_new (o := .tup [.str "go", .str z, .str b]) hp2
    refine ⟨szl 2 (by decide), fun p3 hp3 => ?_⟩
    have u3 := Same.of_new (o := .lst [.ref p1, .ref p2]) hp3
    have w1 := (u2.trans u3) p1 _ upd_same
    have w2 := u3 p2 _ upd_same
    have uu := (u1.trans u2).trans u3
    refine ⟨p3, duo z b, rfl, .lst (SqL.of upd_same) (.cons (.tup (SqT.of w1) (.cons (.str _) (.cons (.str _) .nil))) (.cons (.tup (SqT.of w2) (.cons (.str _) (.cons (.str _) (.cons (.str _) .nil)))) .nil)), rfl, rfl, Nat.le_of_ble_eq_true rfl, duo_fits nz nb lz lb, ?_⟩
    have s1 := uu
    generalize upd (upd (upd H3 p1 (.tup [.str "come", .str z])) p2 (.tup [.str "go", .str z, .str b])) p3 (.lst [.ref p1, .ref p2]) = H4 at s1 ⊢
    clear u1 u2 u3 w1 w2 uu hp1 hp2 hp3
    refine ⟨_, rfl, szl 2 (by decide), fun q1 hq1 => ⟨_, rfl, _, rfl, szl 3 (by decide), fun q2 hq2 => ⟨szl 2 (by decide), fun q3 hq3 => ?_⟩⟩⟩
    have u1 := Same.of_new (o := .tup [.str "come", .str z]) hq1
    have u2 := Same.of_new (o := .tup [.str "go", .str z, .str b]) hq2
    have u3 := Same.of_new (o := .lst [.ref q1, .ref q2]) hq3
    have w1 := (u2.trans u3) q1 _ upd_same
    have w2 := u3 q2 _ upd_same
    refine ⟨q3, duo z b, rfl, .lst (SqL.of upd_same) (.cons (.tup (SqT.of w1) (.cons (.str _) (.cons (.str _) .nil))) (.cons (.tup (SqT.of w2) (.cons (.str _) (.cons (.str _) (.cons (.str _) .nil)))) .nil)), rfl, rfl, Nat.le_of_ble_eq_true rfl, duo_fits nz nb lz lb, ?_⟩
    have s2 := s1.trans ((u1.trans u2).trans u3)
    generalize upd (upd (upd H4 q1 (.tup [.str "come", .str z])) q2 (.tup [.str "go", .str z, .str b])) q3 (.lst [.ref q1, .ref q2]) = H5 at s2 ⊢
    clear u1 u2 u3 w1 w2 s1 hq1 hq2 hq3
    refine ⟨rfl, _, rfl, ?_⟩
    rw [decide_eq_true rfl]
    refine iteF ?_
    have c5 := c3.same s2
    have g5 := g3.same s2
    have ec5 := s2 _ _ ec3
    have eg5 := s2 _ _ eg3
    have t5 := t3.trans s2
    clear s2 t3
    -- what they tell
    refine ⟨_, rfl, x1, CC, dc1, fc1, _, rfl, ec5, c.dc.cls, c.dc.nK, lc3, _, rfl, x2, CG, dg1, fg1, _, rfl, eg5, c.dg.cls, c.dg.nK, lg3, _, rfl, x2, CG, dg1, fg1, _, rfl, eg5, c.dg.cls, c.dg.nB, lb3, ?_⟩
    refine ⟨_, rfl, x1, CC, dc1, fc1, rfl, ec5, c.stC, x1, z, rfl, c5, lz2, _, rfl, ?_⟩
    refine ⟨_, rfl, x2, CG, dg1, fg1, rfl, eg5, c.stG, x2, z, b, rfl, g5, lz2, lb2, _, rfl, szl 5 (by decide), fun l1 hl1 => ?_⟩
    have u1 := Same.of_new (o := .lst [.str z, .str z, .str b, .str ("come " ++ z), .str ((("go " ++ z) ++ " ") ++ b)]) hl1
    have lc : ("come " : Str).length = 5 := by decide +kernel
    have lg : ("go " : Str).length = 3 := by decide +kernel
    have ls : (" " : Str).length = 1 := by decide +kernel
    refine ⟨_, rfl, _, rfl, _, rfl, _, rfl, _, rfl, "come ", z, rfl, rfl, by omega, _, rfl, "go ", z, rfl, rfl, by omega, "go " ++ z, " ", rfl, rfl, by rw [app_len]; omega, _, rfl, ("go " ++ z) ++ " ", b, rfl, rfl, by rw [app_len, app_len]; omega, szl 5 (by decide), fun l2 hl2 => ?_⟩
    have u2 := Same.of_new (o := .lst [.str z, .str z, .str b, .str ("come " ++ z), .str ((("go " ++ z) ++ " ") ++ b)]) hl2
    have oz := name_strOk nz
    have ob := name_strOk nb
    have oc := strOk_app (x := "come ") (by decide +kernel) oz
    have og := strOk_app (strOk_app (strOk_app (x := "go ") (by decide +kernel) oz) (show PyData.strOk " " = true by decide +kernel)) ob
    have ok5 : ∀ y ∈ ([z, z, b, "come " ++ z, (("go " ++ z) ++ " ") ++ b] : List Str), PyData.strOk y = true := fun y hy => by
      simp only [List.mem_cons, List.not_mem_nil, or_false] at hy
      rcases hy with rfl | rfl | rfl | rfl | rfl
      · exact oz
      · exact oz
      · exact ob
      · exact oc
      · exact og
    refine ⟨.list [.str z, .str z, .str b, .str ("come " ++ z), .str ((("go " ++ z) ++ " ") ++ b)], .list [.str z, .str z, .str b, .str ("come " ++ z), .str ((("go " ++ z) ++ " ") ++ b)], .lst (SqL.of (u2 l1 _ upd_same)) (.cons (.str _) (.cons (.str _) (.cons (.str _) (.cons (.str _) (.cons (.str _) .nil))))), .lst (SqL.of upd_same) (.cons (.str _) (.cons (.str _) (.cons (.str _) (.cons (.str _) (.cons (.str _) .nil))))), shaped_strs ok5, shaped_strs ok5, ?_⟩
    rw [show PyData.eqv (.list [.str z, .str z, .str b, .str ("come " ++ z), .str ((("go " ++ z) ++ " ") ++ b)]) (.list [.str z, .str z, .str b, .str ("come " ++ z), .str ((("go " ++ z) ++ " ") ++ b)]) = true from eqv_strs ok5]
    refine ⟨_, rfl, iteF ?_⟩
    have s2 := u1.trans u2
    generalize upd (upd H5 l1 _) l2 _ = H6 at s2 ⊢
    have c6 := c5.same s2
    have g6 := g5.same s2
    have ec6 := s2 _ _ ec5
    have eg6 := s2 _ _ eg5
    have t6 := t5.trans s2
    clear u1 u2 s2 hl1 hl2 c5 g5 ec5 eg5 t5 c3 g3 ec3 eg3
    -- their classes
    refine ⟨_, rfl, .ref x1, .ref CD, _, _, true, rfl, .own CD, c6.ty c.dc, c.kCD, true, rfl, iteF ⟨_, rfl, .ref x2, .ref CD, _, _, true, rfl, .own CD, g6.ty c.dg, c.kGD, true, rfl, iteF ⟨_, rfl, .ref x1, .ref CG, _, _, false, rfl, .own CG, c6.ty c.dc, c.kCG, false, rfl, iteF ⟨_, rfl, .ref x2, .ref CC, _, _, false, rfl, .own CC, g6.ty c.dg, c.kGC, false, rfl, iteF ?_⟩⟩⟩⟩
    -- compared with what is made anew
    obtain ⟨dc6, fc6, ec6, lc6⟩ := id c6
    obtain ⟨dg6, fg6, eg6, lg6, lb6⟩ := id g6
    refine ⟨_, rfl, _, rfl, rfl, rfl, fun x3 y3 hx3 hy3 ne3 => ⟨x3, y3, .str z, rfl, upd_same, .inl ⟨z, ⟨rfl, lz2, nz⟩, fun H7 s7 a3 => ⟨rfl, ?_⟩⟩⟩⟩
    have t7 := made_same hx3 hy3 s7
    have c7 := c6.same t7
    have g7 := g6.same t7
    obtain ⟨d3, f3, e3, l3⟩ := id a3
    refine ⟨x1, x3, CC, CC, dc6, d3, fc6, f3, rfl, rfl, t7 _ _ ec6, e3, c.neC, c.nCC, x1, z, .ref x3, rfl, c7, .inl ⟨x3, z, rfl, a3, _, rfl, _, rfl, ?_⟩⟩
    rw [decide_eq_true rfl]
    refine iteF ?_
    refine ⟨_, rfl, _, rfl, _, rfl, rfl, rfl, fun x4 y4 hx4 hy4 ne4 => ⟨x4, y4, .str z, .str b, rfl, upd_same, .inl ⟨z, b, ⟨rfl, lz2, nz⟩, ⟨rfl, lb2, nb⟩, fun H8 s8 a4 => ⟨rfl, ?_⟩⟩⟩⟩
    have t8 := made_same hx4 hy4 s8
    have c8 := c7.same t8
    have g8 := g7.same t8
    obtain ⟨d4, f4, e4, l4, m4⟩ := id a4
    refine ⟨x2, x4, CG, CG, dg6, d4, fg6, f4, rfl, rfl, t8 _ _ (t7 _ _ eg6), e4, c.neG, c.nGG, x2, z, b, .ref x4, rfl, g8, .inl ⟨x4, z, b, rfl, a4, _, rfl, _, rfl, ?_⟩⟩
    rw [decide_eq_true rfl, decide_eq_true rfl]
    refine iteF ?_
    have t68 := t7.trans t8
    have ec8 := t68 _ _ ec6
    have eg8 := t68 _ _ eg6
    refine ⟨_, rfl, _, rfl, x1, CC, dc6, fc6, .ref CG, rfl, ec8, g8.ty c.dg, c.eqC, c.nCG, x1, z, .ref x2, rfl, c8, .inr ⟨⟨_, g8.ty c.dg, c.kGC⟩, _, rfl, iteF ?_⟩⟩
    refine ⟨_, rfl, _, rfl, x2, CG, dg6, fg6, .ref CC, rfl, eg8, c8.ty c.dc, c.eqG, c.nGC, x2, z, b, .ref x1, rfl, g8, .inr ⟨⟨_, c8.ty c.dc, c.kCG⟩, _, rfl, iteF ?_⟩⟩
    have t8 := t6.trans t68
    clear t7 t68 s7 s8 c7 g7 c6 g6 a3 a4 e3 e4 l3 l4 m4 hx3 hy3 hx4 hy4 t6
    -- others
    refine ⟨_, rfl, "come ", z, rfl, rfl, by omega, _, rfl, x2, CG, dg6, fg6, rfl, eg8, c.stG, x2, z, b, rfl, g8, lz2, lb2, _, rfl, ?_⟩
    refine ⟨_, rfl, x1, dc6, fc6, rfl, ec8, x1, z, rfl, c8, fun p1 hp1 => ?_⟩
    have u1 := Same.of_new (o := .tup [.str "come", .str z]) hp1
    refine ⟨_, rfl, x2, dg6, fg6, rfl, u1 _ _ eg8, x2, z, b, rfl, g8.same u1, fun p2 hp2 => ?_⟩
    have u2 := Same.of_new (o := .tup [.str "go", .str z, .str b]) hp2
    refine ⟨_, rfl, _, rfl, szl 1 (by decide), fun p3 hp3 => ⟨_, rfl, szl 1 (by decide), fun p4 hp4 => ⟨szl 9 (by decide), fun p5 hp5 => ?_⟩⟩⟩
    have u3 := Same.of_new (o := .lst [.ref x1]) hp3
    have u4 := Same.of_new (o := .tup [.ref x2]) hp4
    have u5 := Same.of_new (o := .lst [.non, .str ("come " ++ z), .str ((("go " ++ z) ++ " ") ++ b), .ref p1, .ref p2, .str z, .int 0, .ref p3, .ref p4]) hp5
    have w1 := (((u2.trans u3).trans u4).trans u5) p1 _ upd_same
    have w2 := ((u3.trans u4).trans u5) p2 _ upd_same
    have w3 := (u4.trans u5) p3 _ upd_same
    have w4 := u5 p4 _ upd_same
    have w5 : (upd (upd (upd (upd (upd H8 p1 (.tup [.str "come", .str z])) p2 (.tup [.str "go", .str z, .str b])) p3 (.lst [.ref x1])) p4 (.tup [.ref x2])) p5 (.lst [.non, .str ("come " ++ z), .str ((("go " ++ z) ++ " ") ++ b), .ref p1, .ref p2, .str z, .int 0, .ref p3, .ref p4])) p5 = some (.lst [.non, .str ("come " ++ z), .str ((("go " ++ z) ++ " ") ++ b), .ref p1, .ref p2, .str z, .int 0, .ref p3, .ref p4]) := upd_same
    have t9 := (((u1.trans u2).trans u3).trans u4).trans u5
    have c9 := c8.same t9
    have g9 := g8.same t9
    have ec9 := t9 _ _ ec8
    have eg9 := t9 _ _ eg8
    have t9 := t8.trans t9
    generalize upd (upd (upd (upd (upd H8 p1 (.tup [.str "come", .str z])) p2 (.tup [.str "go", .str z, .str b])) p3 (.lst [.ref x1])) p4 (.tup [.ref x2])) p5 (.lst [.non, .str ("come " ++ z), .str ((("go " ++ z) ++ " ") ++ b), .ref p1, .ref p2, .str z, .int 0, .ref p3, .ref p4]) = H9 at w1 w2 w3 w4 w5 t9 c9 g9 ec9 eg9 ⊢
    clear u1 u2 u3 u4 u5 hp1 hp2 hp3 hp4 hp5
    have tys : ∀ y ∈ ([.non, .str ("come " ++ z), .str ((("go " ++ z) ++ " ") ++ b), .ref p1, .ref p2, .str z, .int 0, .ref p3, .ref p4] : List V), ∃ t, t ∈ ([.type "NoneType", .type "str", .type "tuple", .type "int", .type "list"] : List Value) ∧ ∀ Hx, Same H9 Hx → TyX K Hx y t := fun y hy => by
      simp only [List.mem_cons, List.not_mem_nil, or_false] at hy
      rcases hy with rfl | rfl | rfl | rfl | rfl | rfl | rfl | rfl | rfl
      · exact ⟨_, List.mem_cons_self, fun Hx s => .base .non⟩
      · exact ⟨.type "str", by simp, fun Hx s => .base (.str _)⟩
      · exact ⟨.type "str", by simp, fun Hx s => .base (.str _)⟩
      · exact ⟨.type "tuple", by simp, fun Hx s => .base (.tup (s _ _ w1))⟩
      · exact ⟨.type "tuple", by simp, fun Hx s => .base (.tup (s _ _ w2))⟩
      · exact ⟨.type "str", by simp, fun Hx s => .base (.str _)⟩
      · exact ⟨.type "int", by simp, fun Hx s => .base (.int _)⟩
      · exact ⟨.type "list", by simp, fun Hx s => .base (.lst (s _ _ w3))⟩
      · exact ⟨.type "tuple", by simp, fun Hx s => .base (.tup (s _ _ w4))⟩
    refine ⟨_, rfl, p5, rfl, ⟨_, SqL.of w5⟩, fun D hD => ?_⟩
    refine lc_it (walk_list (xs := [.non, .str ("come " ++ z), .str ((("go " ++ z) ++ " ") ++ b), .ref p1, .ref p2, .str z, .int 0, .ref p3, .ref p4])) (fun i Hx => Same H9 Hx ∧ Hx D = some (.lst [])) ⟨Same.of_new hD, upd_same⟩ (fun i Hx _ q => SqL.of (q.1 _ _ w5)) (fun i x Hx Hy hi q0 y => ?_) (fun Hx q0 => ?_)
    · obtain ⟨sx, eD⟩ := q0
      obtain ⟨rfl, hx⟩ := y
      obtain ⟨t, ht, hty⟩ := tys x (List.mem_of_getElem? hx)
      obtain ⟨f1, f2, f3, f4⟩ := c.ty t ht
      refine ⟨rfl, ?_⟩
      refine ⟨_, rfl, _, rfl, x1, CC, dc6, fc6, t, rfl, sx _ _ ec9, hty _ sx, c.eqC, f1, x1, z, x, rfl, c9.same sx, .inr ⟨⟨_, hty _ sx, f3⟩, _, rfl, iteF ?_⟩⟩
      refine ⟨_, rfl, _, rfl, x2, CG, dg6, fg6, t, rfl, sx _ _ eg9, hty _ sx, c.eqG, f2, x2, z, b, x, rfl, g9.same sx, .inr ⟨⟨_, hty _ sx, f4⟩, _, rfl, iteF ?_⟩⟩
      exact ⟨sx, eD⟩
    · obtain ⟨sx, eD⟩ := q0
      refine ⟨szl 0 (by decide), fun D2 hD2 => ?_⟩
      have u1 := Same.of_new (o := .lst []) hD2
      refine ⟨.list [], .list [], .lst (SqL.of (u1 D _ eD)) .nil, .lst (SqL.of upd_same) .nil, OwD.shaped_nil, OwD.shaped_nil, ?_⟩
      rw [show PyData.eqv (.list []) (.list []) = true by simp [PyData.eqv, PyData.eqvAll]]
      exact q _ ((t9.trans sx).trans u1)
end
end K10
end
section
namespace K10
open PySem PySem.Spec PyProof.Rows L2
abbrev sHeard : Stmt := top 15
abbrev nH : List Str := ["_law_ask", "error"]
theorem scH : FnScope nH ["_law_ask"] (defScope sHeard) := ⟨rfl, rfl, rfl, by decide +kernel, rfl, by decide +kernel, by decide +kernel⟩
/-- what the law's ear makes of a deed -/
def TTh (K : PySem.W.Frag) (CB : Addr) : (XK → Hp → VK → Prop) → Hp → VK → Prop := fun tl H Q =>
  tl (fun cls d H' => ∃ (dd : Addr) (v : V) (r : Str), cls = .ref CB ∧ d = some dd ∧ H' dd = some (.xd [("value", v)]) ∧ OwE.RepV K H' v r ∧ Q (.str r) H') H (fun _ H' => Q .non H')
theorem heard_gives {X : Cx} {g CB CN : Addr} {cdg : Value} {q : Str} {k : Nat} (hgd : X.A.guards = some []) (hr : Room (k + 1) X.A) (T : OwE.ErrC X.K CB) (hv : PySem.W.findIn X.K (.ref CB) "value" = some none) (gB : X.mg "BadName" = some (.ref CB)) (gN : X.mg "NextError" = some (.ref CN))
    (sub : PySem.W.exmOne X.K (.ref CB) (.ref CB) = some true) (kit : PySem.W.kitOne X.K (.ref CB) (.ref CN) = some true) (n_isi : X.mg "isinstance" = none) (n_repr : X.mg "repr" = none) :
    LamX.GivesTo X nH "_law_heard" (defScope sHeard) g cdg (defBody sHeard) "_law_ask" q (TTh X.K CB) := by
  intro f c' s H Q tl act hc h
  have hr2 := hr.deeper (envOfC "_law_heard" (defScope sHeard) s.heap.objs.size g cdg)
  have hu : (X.A.deeper (envOfC "_law_heard" (defScope sHeard) s.heap.objs.size g cdg)).units + 70 < cLine := by
    have := hr2.un
    omega
  refine ⟨_, pss_cons (ps_try_as (X := (cxOf C8.CX0 X.prog X.w X.K X.mg X.base nH "_law_heard" (defScope sHeard) g cdg X.A X.stack s H C8.E0).nox) (i := 1) (c := .ref CB)
      (tb := fun W D σ H => ∃ Ech : XK, (∀ cls d σ' H', Ech cls d H' → σ'.length = 2 → W cls d σ' H') ∧ σ[0]? = some (some (.ref f)) ∧ H c' = some (LamX.CodeO c' q) ∧ tl Ech H (fun _ H' => D.nx σ H'))
      rfl rfl scH.nd rfl rfl ⟨rfl, by decide, .inl gB⟩ LamX.takes0 (fun W pn xe tk _ => ?_)
      (fun a oe cls d pn hz hf => pss_one (ps_ret (pe_ifExp (pt_val (pe_callB (OwE.call_isE hz hf) (by rfl) n_isi (by decide +kernel) (pa_cons (pv 1) (pa_cons (pe_glob (v := .ref CN) rfl gN rfl) pa_nil))))
        (pe_callB (id := "repr") (r := OwE.rRepr X.K) (OwE.cr_repr (X := Cx.suite (cxOf C8.CX0 X.prog X.w X.K X.mg X.base nH "_law_heard" (defScope sHeard) g cdg X.A X.stack s H C8.E0).nox a ((a, oe) :: pn)) hgd hu) (by rfl) n_repr (by decide +kernel) (pa_cons (OwE.pe_xe hz hf (pv 1)) pa_nil)) pe_str))))
    (pss_one (ps_ret pe_non)), ?_⟩
  · refine ⟨fun pins s' σ H' D I h' => ?_⟩
    obtain ⟨Ech, hW, h1, h2, h3⟩ := h'
    exact (pss_one (ps_expr (act (fun c d σ H => σ.length = 2 → W c d σ H) pn xe Ech _ _ (OwE.takes_len tk) hW))).run pins s' σ H' D I ⟨h1, h2, h3⟩
  · refine ⟨fun cls d H' => ∃ (dd : Addr) (v : V) (r : Str), cls = .ref CB ∧ d = some dd ∧ H' dd = some (.xd [("value", v)]) ∧ OwE.RepV X.K H' v r ∧ Q (.str r) H', ?_, rfl, hc, h⟩
    rintro cls d σ' H' ⟨dd, v, r, rfl, rfl, e, rep, q⟩ hl
    refine ⟨true, sub, fun _ a na => ?_, fun q => by cases q⟩
    have h1 := OwE.set_get (i := 1) (v := some (.ref a)) hl (by decide)
    refine ⟨_, h1, .ref CN, .ref CN, CB, dd, _, true, rfl, .own CN, rfl, T, rfl, e, kit, true, rfl, iteT ?_⟩
    exact ⟨_, h1, rfl, CB, dd, _, v, rfl, T, hv, rfl, e, rfl, v, r, rfl, rep, q⟩
end K10
end
section
namespace K10
open PySem PySem.Spec PyProof.Rows L2
abbrev sLaw : Stmt := top 17
def qLam : Str := "law.<locals>.<lambda>"
theorem qLam_eq : (("law" : Str) ++ ".<locals>.") ++ "<lambda>" = qLam := by decide +kernel
/-! ### values that are no names -/
def oddS : List Str := ["", "A", "a b", "abcdefghi", "a1", "a\n", "B"]
def oddI : List Int := [0, 7, 1000000000000000000000000000000]
def oddC : List Str := ["a", "b"]
inductive Odd (H : Hp) : V → PyData → Prop where
  | non : Odd H .non .none
  | int {i : Int} (h : i ∈ oddI) : Odd H (.int i) (.int i)
  | bl : Odd H (.bl true) (.bool true)
  | str {z : Str} (h : z ∈ oddS) : Odd H (.str z) (.str z)
  | tup {a : Addr} {z : Str} (h : z ∈ oddC) (e : H a = some (.tup [.str z])) : Odd H (.ref a) (.tuple [.str z])
  | lst {a : Addr} {z : Str} (h : z ∈ oddC) (e : H a = some (.lst [.str z])) : Odd H (.ref a) (.list [.str z])
  | dic {a : Addr} (e : H a = some (.dK [])) : Odd H (.ref a) (.dict [])
theorem oddS_ok : ∀ z ∈ oddS, nameB z = false ∧ z.length ≤ 1000 ∧ (reprText z).length ≤ 1000 ∧ PyData.strOk (reprText z) = true := by decide +kernel
theorem oddI_ok : ∀ i ∈ oddI, i.natAbs.log2 < 1920 ∧ PyData.strOk (PyData.shown (.int i)) = true := by decide +kernel
theorem oddC_ok : ∀ z ∈ oddC, ((PyData.tuple [.str z]).shown.length ≤ 1000 ∧ PyData.strOk (PyData.tuple [.str z]).shown = true) ∧ ((PyData.list [.str z]).shown.length ≤ 1000 ∧ PyData.strOk (PyData.list [.str z]).shown = true) := by decide +kernel
theorem Odd.ok {H : Hp} {v : V} {d : PyData} (o : Odd H v d) : PyData.strOk d.shown = true := by
  cases o with
  | non => decide +kernel
  | int h => exact (oddI_ok _ h).2
  | bl => decide +kernel
  | str h => exact (oddS_ok _ h).2.2.2
  | tup h e => exact (oddC_ok _ h).1.2
  | lst h e => exact (oddC_ok _ h).2.2
  | dic e => decide +kernel
theorem Odd.rep {K : PySem.W.Frag} {H : Hp} {v : V} {d : PyData} (o : Odd H v d) : OwE.RepV K H v d.shown := by
  have sz := sizeLine_eq
  cases o with
  | non => exact .non
  | int h => exact .int (oddI_ok _ h).1
  | bl => exact .bl true
  | str h => exact .str (by have := (oddS_ok _ h).2.2.1; omega)
  | tup h e => exact .dat (.tup (SqT.of e) (.cons (.str _) .nil)) rfl rfl (Nat.le_of_ble_eq_true rfl) (by have := (oddC_ok _ h).1.1; omega)
  | lst h e => exact .dat (.lst (SqL.of e) (.cons (.str _) .nil)) rfl rfl (Nat.le_of_ble_eq_true rfl) (by have := (oddC_ok _ h).2.1; omega)
  | dic e => exact .dic e
theorem Odd.noName {K : PySem.W.Frag} {H : Hp} {v : V} {d : PyData} (o : Odd H v d) : NoName K H v := by
  cases o with
  | non => exact .inr ⟨_, .base .non, kit_ty (by decide +kernel)⟩
  | int h => exact .inr ⟨_, .base (.int _), kit_ty (by decide +kernel)⟩
  | bl => exact .inr ⟨_, .base (.bl _), kit_ty (by decide +kernel)⟩
  | str h => exact .inl ⟨_, rfl, (oddS_ok _ h).2.1, (oddS_ok _ h).1⟩
  | tup h e => exact .inr ⟨_, .base (.tup e), kit_ty (by decide +kernel)⟩
  | lst h e => exact .inr ⟨_, .base (.lst e), kit_ty (by decide +kernel)⟩
  | dic e => exact .inr ⟨_, .base (.dK e), kit_ty (by decide +kernel)⟩
theorem Odd.lo {H H' : Hp} {v : V} {d : PyData} {p c : Addr} {ns : List Int} {n : Nat} {z : Int} (o : Odd H v d) (P : PenAt H p c ns n z) (s : Lo p H H') : Odd H' v d := by
  have pp := P.pen
  cases o with
  | non => exact .non
  | int h => exact .int h
  | bl => exact .bl
  | str h => exact .str h
  | tup h e => exact .tup h (s _ _ (fun q => by rw [q, pp] at e; cases e) (fun ps q => by cases q) e)
  | lst h e => exact .lst h (s _ _ (fun q => by rw [q, pp] at e; cases e) (fun ps q => by cases q) e)
  | dic e => exact .dic (s _ _ (fun q => by rw [q, pp] at e; cases e) (fun ps q => by cases q) e)
theorem Odd.same {H H' : Hp} {v : V} {d : PyData} (o : Odd H v d) (s : Same H H') : Odd H' v d := by
  cases o with
  | non => exact .non
  | int h => exact .int h
  | bl => exact .bl
  | str h => exact .str h
  | tup h e => exact .tup h (s _ _ e)
  | lst h e => exact .lst h (s _ _ e)
  | dic e => exact .dic (s _ _ e)
theorem Odd.new_ne {H : Hp} {v : V} {d : PyData} {l : Addr} (o : Odd H v d) (h : H l = none) : v ≠ .ref l := fun q => by
  cases o with
  | tup _ e => cases q; rw [h] at e; cases e
  | lst _ e => cases q; rw [h] at e; cases e
  | dic e => cases q; rw [h] at e; cases e
  | _ => cases q
theorem Odd.put {H : Hp} {v : V} {d : PyData} {l : Addr} {x : HO} (o : Odd H v d) (n : v ≠ .ref l) : Odd (upd H l x) v d := by
  cases o with
  | non => exact .non
  | int h => exact .int h
  | bl => exact .bl
  | str h => exact .str h
  | @tup a z h e => exact .tup h (by rw [upd_ne fun q => n (by rw [q])]; exact e)
  | @lst a z h e => exact .lst h (by rw [upd_ne fun q => n (by rw [q])]; exact e)
  | @dic a e => exact .dic (by rw [upd_ne fun q => n (by rw [q])]; exact e)
/-! ### what is heard -/
section
variable {K : PySem.W.Frag} {CC CG CB : Addr} {σ : L2.St} {H : Hp} {Q : VK} {v u : V} {d : PyData} {p c : Addr} {ns : List Int} {n : Nat} {z : Int} {T : List (Addr × Str)} {i j : Nat}
theorem heard_come (hv : σ[i]? = some (some v)) (P : PenAt H p c ns n z) (tb : LamX.Tabs T H) (o : Odd H v d) (k : ∀ H', Lo p H H' → PenAt H' p c ns n z → LamX.Tabs T H' → Q (.str d.shown) H') :
    LamX.tLam T (TTh K CB) (fun E => tMake CC (spCome0 K CC CB) [] E (tCons (tVar i) tNil)) σ H Q := by
  refine ⟨tb, fun H1 eN tb1 => ?_⟩
  have P1 := P.ext eN
  have o1 := o.lo P (extN_lo p eN)
  refine ⟨_, hv, fun x dx hx hdx ne => ⟨x, dx, v, rfl, upd_same, .inr ⟨(o1.same ?_).noName, fun H' dd s hd => ?_⟩⟩⟩
  · exact fun b o e => by
      rw [upd_ne (ne_of_none e hx), upd_ne (ne_of_none e hdx)]
      exact e
  · have s1 : Same H1 H' := made_same hx hdx (Same.but x s)
    have s2 : Same H1 (upd H' dd (.xd [("value", v)])) := s1.trans (Same.of_new hd)
    exact ⟨dd, v, d.shown, rfl, rfl, upd_same, (o1.same s2).rep, k _ ((extN_lo p eN).trans (Same.lo p s2)) (P1.same s2) (tabs_same tb1 s2)⟩
theorem heard_go1 (hv : σ[i]? = some (some v)) (hu : σ[j]? = some (some u)) (P : PenAt H p c ns n z) (tb : LamX.Tabs T H) (o : Odd H v d) (k : ∀ H', Lo p H H' → PenAt H' p c ns n z → LamX.Tabs T H' → Q (.str d.shown) H') :
    LamX.tLam T (TTh K CB) (fun E => tMake CG (spGo0 K CG CB) [] E (tCons (tVar i) (tCons (tVar j) tNil))) σ H Q := by
  refine ⟨tb, fun H1 eN tb1 => ?_⟩
  have P1 := P.ext eN
  have o1 := o.lo P (extN_lo p eN)
  refine ⟨_, hv, _, hu, fun x dx hx hdx ne => ⟨x, dx, v, u, rfl, upd_same, .inr (.inl ⟨(o1.same ?_).noName, fun H' dd s hd => ?_⟩)⟩⟩
  · exact fun b o e => by
      rw [upd_ne (ne_of_none e hx), upd_ne (ne_of_none e hdx)]
      exact e
  · have s1 : Same H1 H' := made_same hx hdx (Same.but x s)
    have s2 : Same H1 (upd H' dd (.xd [("value", v)])) := s1.trans (Same.of_new hd)
    exact ⟨dd, v, d.shown, rfl, rfl, upd_same, (o1.same s2).rep, k _ ((extN_lo p eN).trans (Same.lo p s2)) (P1.same s2) (tabs_same tb1 s2)⟩
theorem heard_go2 {t : Str} (hv : σ[i]? = some (some v)) (hu : σ[j]? = some (some u)) (g : GoodN v t) (P : PenAt H p c ns n z) (tb : LamX.Tabs T H) (o : Odd H u d) (k : ∀ H', Lo p H H' → PenAt H' p c ns n z → LamX.Tabs T H' → Q (.str d.shown) H') :
    LamX.tLam T (TTh K CB) (fun E => tMake CG (spGo0 K CG CB) [] E (tCons (tVar i) (tCons (tVar j) tNil))) σ H Q := by
  refine ⟨tb, fun H1 eN tb1 => ?_⟩
  have P1 := P.ext eN
  have o1 := o.lo P (extN_lo p eN)
  refine ⟨_, hv, _, hu, fun x dx hx hdx ne => ⟨x, dx, v, u, rfl, upd_same, .inr (.inr ⟨t, g, fun H' s => (o1.same (made_same hx hdx (Same.but x s))).noName, fun H' dd s hd => ?_⟩)⟩⟩
  have s1 : Same H1 H' := made_same hx hdx (Same.but x s)
  have s2 : Same H1 (upd H' dd (.xd [("value", u)])) := s1.trans (Same.of_new hd)
  exact ⟨dd, u, d.shown, rfl, rfl, upd_same, (o1.same s2).rep, k _ ((extN_lo p eN).trans (Same.lo p s2)) (P1.same s2) (tabs_same tb1 s2)⟩
end
/-- all that the law wants of what stands behind the top -/
structure Facts (P : Program) (w : World) (K : PySem.W.Frag) (mg : Str → Option Value) (base : Heap) (CC CG CD CB CN : Addr) : Prop where
  nm : Nm mg
  nm2 : Nm2 mg
  n_range : mg "range" = none
  n_repr : mg "repr" = none
  g_Come : mg "Come" = some (.ref CC)
  g_Go : mg "Go" = some (.ref CG)
  g_Deed : mg "Deed" = some (.ref CD)
  g_Next : mg "NextError" = some (.ref CN)
  exm : PySem.W.exmOne K (.ref CB) (.ref CB) = some true
  kit : PySem.W.kitOne K (.ref CB) (.ref CN) = some true
  val : PySem.W.findIn K (.ref CB) "value" = some none
  bad : ∃ fB fdB, ErrT K mg "BadName" CB fB ∧ Fun K "__init__" "BadName.__init__" sBad0 fB fdB
  name : ∃ f fd, mg "is_name" = some (.ref f) ∧ Fun K "is_name" "is_name" sName f fd
  check : ∃ f fd, mg "check_name" = some (.ref f) ∧ Fun K "check_name" "check_name" sCheck f fd
  deed0 : ∃ mc f fd, ClX.CRead K CD mc ∧ OwR.CFun K CD mc "__init__" f ∧ Fun K "__init__" "Deed.__init__" sDeed0 f fd
  come0 : ∃ f fd, Mk K CC f ∧ Fun K "__init__" "Come.__init__" sCome0 f fd
  go0 : ∃ f fd, Mk K CG f ∧ Fun K "__init__" "Go.__init__" sGo0 f fd
  comeP : ∃ p f fd, PropOf K CC "parts" p f ∧ Fun K "parts" "Come.parts" sComeP f fd
  goP : ∃ p f fd, PropOf K CG "parts" p f ∧ Fun K "parts" "Go.parts" sGoP f fd
  ops : ∃ fCE fGE fCS fGS fdCE fdGE fdCS fdGS, CF K CC CG CD fCE fGE fCS fGS ∧ Fun K "__eq__" "Come.__eq__" sComeE fCE fdCE ∧ Fun K "__eq__" "Go.__eq__" sGoE fGE fdGE ∧ Fun K "__str__" "Come.__str__" sComeS fCS fdCS ∧ Fun K "__str__" "Go.__str__" sGoS fGS fdGS
  pen : ∃ f fd, mg "_law_pen" = some (.ref f) ∧ Fun K "_law_pen" "_law_pen" sPen f fd
  draw : ∃ f fd, mg "_law_draw" = some (.ref f) ∧ Fun K "_law_draw" "_law_draw" sDraw f fd
  pick : ∃ f fd, mg "_law_pick" = some (.ref f) ∧ Fun K "_law_pick" "_law_pick" sPick f fd
  lname : ∃ f fd, mg "_law_name" = some (.ref f) ∧ Fun K "_law_name" "_law_name" sLName f fd
  heard : ∃ f fd, mg "_law_heard" = some (.ref f) ∧ Fun K "_law_heard" "_law_heard" sHeard f fd
  right : ∃ f fd, mg "_law_right" = some (.ref f) ∧ Fun K "_law_right" "_law_right" sRight f fd
def spLaw (K : PySem.W.Frag) (Pt : Addr) : Sp := fun vs H Q _ => ∃ (a : Addr) (ns : List Int), vs = [.ref a] ∧ SqL K H a (ns.map V.int) ∧ ns.length ≤ 63 ∧ LamX.Tabs [(Pt, qLam)] H ∧ ∀ H', Q (.bl true) H'
theorem lo_new {p l : Addr} {H : Hp} {o : HO} (h : H l = none) : Lo p H (upd H l o) := (But.new h).lo
section
variable {P : Program} {w : World} {K : PySem.W.Frag} {mg : Str → Option Value} {base : Heap}
abbrev nL : List Str := ["_law_script", "_law_pen_here", "_law_turn", "_law_thing", "_law_place", "_law_other", "_law_some", "_law_odd", "_law_bad", "_law_heard_here"]
theorem scL : FnScope nL ["_law_script"] (defScope sLaw) := ⟨rfl, rfl, rfl, by decide +kernel, rfl, by decide +kernel, by decide +kernel⟩
theorem ok_law {CC CG CD CB CN f c0 Pt : Addr} {oc kV doc pm ct : Value} {od an : Option Addr} {osl : Array (Option Value)} (lk : K.lookup f = some ⟨oc, od, .func (PySem.W.fnOf "law" "law" (defArgs sLaw) (defBody sLaw) (defScope sLaw) .none kV doc pm an (.ref c0) ct), osl⟩) (hcd : PySem.W.codeIn K (.ref c0) "law" = true)
    (TB : LamX.TabB base mg c0 Pt) (Fa : Facts P w K mg base CC CG CD CB CN) : OwR.FnG P w K mg base CX0 9 f (PySem.W.fnOf "law" "law" (defArgs sLaw) (defBody sLaw) (defScope sLaw) .none kV doc pm an (.ref c0) ct) ["_law_script"] (spLaw K Pt) := by
  obtain ⟨n, n2, n_range, n_repr, g_Come, g_Go, g_Deed, g_Next, exm, kit, hval, ⟨fB, fdB, T_bad, F_bad⟩, ⟨fN, fdN, g_is, F_is⟩, ⟨fC, fdC, g_check, F_check⟩, ⟨mc, fD0, fdD0, rD, cD, F_deed⟩, ⟨fC0, fdC0, M_come, F_come⟩, ⟨fG0, fdG0, M_go, F_go⟩, ⟨pC, fCP, fdCP, pp_c, FCP⟩, ⟨pG, fGP, fdGP, pp_g, FGP⟩,
    ⟨fCE, fGE, fCS, fGS, fdCE, fdGE, fdCS, fdGS, c, FCE, FGE, FCS, FGS⟩, ⟨fpen, dpen, g_pen, F_pen⟩, ⟨fdraw, ddraw, g_draw, F_draw⟩, ⟨fpick, dpick, g_pick, F_pick⟩, ⟨fname, dname, g_name, F_name⟩, ⟨fheard, dheard, g_heard, F_heard⟩, ⟨fright, dright, g_right, F_right⟩⟩ := Fa
  have G_pen : FnOk P w K mg base CX0 1 fpen dpen ["_law_script"] (spPen K) := ok_pen F_pen n
  have b_pen : Binds K dpen ["_law_script"] [] := F_pen.binds fun _ _ _ _ _ _ us hl => match us, hl with | [_], _ => rfl
  have G_pick : FnOk P w K mg base CX0 2 fpick dpick ["_law_pen_here", "_law_some"] (spPick K) := ok_pick F_pick n F_draw g_draw
  have b_pick : Binds K dpick ["_law_pen_here", "_law_some"] [] := F_pick.binds fun _ _ _ _ _ _ us hl => match us, hl with | [_, _], _ => rfl
  have G_name : FnOk P w K mg base CX0 3 fname dname ["_law_pen_here"] spLName := ok_lname F_name n n_range F_draw g_draw F_pick g_pick
  have b_name : Binds K dname ["_law_pen_here"] [] := F_name.binds fun _ _ _ _ _ _ us hl => match us, hl with | [_], _ => rfl
  have GC : FnOk P w K mg base (L2.CX P w) 3 fC fdC ["value"] (spCheck K CB) := ok_check F_check n2 F_is g_is F_bad T_bad hval
  have G_come : FnOk P w K mg base (L2.CX P w) 4 fC0 fdC0 ["self", "kind"] (spCome0 K CC CB) := ok_come0 c.dc F_come F_check g_check GC F_deed g_Deed rD cD
  have G_go : FnOk P w K mg base (L2.CX P w) 4 fG0 fdG0 ["self", "kind", "bay"] (spGo0 K CG CB) := ok_go0 c.dg F_go F_check g_check GC F_deed g_Deed rD cD
  have b_Come : Binds K fdC0 ["self", "kind"] [] := F_come.binds fun _ _ _ _ _ _ us hl => match us, hl with | [_, _], _ => rfl
  have b_Go : Binds K fdG0 ["self", "kind", "bay"] [] := F_go.binds fun _ _ _ _ _ _ us hl => match us, hl with | [_, _, _], _ => rfl
  have GEC : FnR P w K mg base CX0 1 fCE (spComeE K CC) := OwR.raw0 (ok_comeE c.dc FCE n2 g_Come c.kCC) (FCE.binds fun _ _ _ _ _ _ us hl => match us, hl with | [_, _], _ => rfl)
  have GEG : FnR P w K mg base CX0 1 fGE (spGoE K CG) := OwR.raw0 (ok_goE c.dg FGE n2 g_Go c.kGG) (FGE.binds fun _ _ _ _ _ _ us hl => match us, hl with | [_, _], _ => rfl)
  have G_right : OwR.FnG P w K mg base CX0 6 fright dright ["_law_thing", "_law_place"] spRight := ok_right F_right n2 n_repr c g_Come g_Go g_Deed M_come F_come G_come M_go F_go G_go pp_c FCP pp_g FGP FCE FGE FCS FGS
  have b_right : Binds K dright ["_law_thing", "_law_place"] [] := F_right.binds fun _ _ _ _ _ _ us hl => match us, hl with | [_, _], _ => rfl
  have l_right : ∀ vs H Q E, spRight vs H Q E → vs.length = (["_law_thing", "_law_place"] : List Str).length := fun vs H Q E h => by
    obtain ⟨z, b, rfl, _⟩ := h
    rfl
  have b_heard : Binds K dheard ["_law_ask"] [] := F_heard.binds fun _ _ _ _ _ _ us hl => match us, hl with | [_], _ => rfl
  refine OwR.fn_ofG (k := 8) lk hcd scL (fun vs H Q E h => ?_) fun A outer s H vs Q E hgd hr h => ?_
  · obtain ⟨a, ns, rfl, _⟩ := h
    rfl
  · obtain ⟨a, ns, rfl, ha, hl, tb, q⟩ := h
    have hr8 : Room 8 (A.deeper (envOfC "law" (defScope sLaw) s.heap.objs.size f (.ref c0))) := hr
    have hr7 := hr8.mono (show 7 ≤ 8 by decide)
    have hr6 := hr8.mono (show 6 ≤ 8 by decide)
    have hr5 := hr8.mono (show 5 ≤ 8 by decide)
    have hr3 := hr8.mono (show 3 ≤ 8 by decide)
    have hr2 := hr8.mono (show 2 ≤ 8 by decide)
    have hr1 := hr8.mono (show 1 ≤ 8 by decide)
    have hun := hr8.un
    have hrep : (A.deeper (envOfC "law" (defScope sLaw) s.heap.objs.size f (.ref c0))).units + 70 < cLine := by omega
    have hu0 : (A.deeper (envOfC "law" (defScope sLaw) s.heap.objs.size f (.ref c0))).units < cLine := by omega
    refine ⟨_, PSs.nox (pss_cons (ps_set (i := 1) scL.nd rfl (Or.inl rfl) (pe_call G_pen hr1 (by rfl) g_pen F_pen.kp b_pen .nil pass0 (pa_cons (pv 0) pa_nil)))
    (pss_cons (ps_for PassesOwn.never rfl (pi_range1 rfl n_range (pa_cons pe_int pa_nil)) (pg_name (i := 2) scL.nd rfl (Or.inl rfl)) (pss_cons (ps_asg (pe_tup (pa_cons (pe_call G_name hr3 (by rfl) g_name F_name.kp b_name .nil pass0 (pa_cons (pv 1) pa_nil)) (pa_cons (pe_call G_name hr3 (by rfl) g_name F_name.kp b_name .nil pass0 (pa_cons (pv 1) pa_nil)) pa_nil))) (pg_tup rfl (pgs_cons (pg_name (i := 3) scL.nd rfl (Or.inr rfl)) (pgs_cons (pg_name (i := 4) scL.nd rfl (Or.inr rfl)) pgs_nil))))
    (pss_cons (ps_set (i := 5) scL.nd rfl (Or.inl rfl) (pe_call G_pick hr2 (by rfl) g_pick F_pick.kp b_pick .nil pass0 (pa_cons (pv 1) (pa_cons (pe_lst (pa_cons (pv 3) (pa_cons (pv 4) (pa_cons (pe_call G_name hr3 (by rfl) g_name F_name.kp b_name .nil pass0 (pa_cons (pv 1) pa_nil)) pa_nil)))) pa_nil))))
    (pss_cons (ps_if (pt_not (pt_val (OwR.pe_callG G_right l_right hgd hr6 (by rfl) g_right F_right.kp b_right pass0 (pa_cons (pv 3) (pa_cons (pv 4) pa_nil))))) (pss_one (ps_ret pe_bl)) pss_nil)
    (pss_cons (ps_if (pt_cmpR op_ne (pe_cmpR (OwR.op_ownEqX hu0 GEC hr1 pass0) (pe_make M_come G_come hr5 (by rfl) g_Come b_Come .nil passL (pa_cons (pv 3) pa_nil)) (pe_make M_come G_come hr5 (by rfl) g_Come b_Come .nil passL (pa_cons (pv 5) pa_nil)) (nomark _)) (pe_cmpR op_eq (pv 3) (pv 5) (nomark _)) (nomark _)) (pss_one (ps_ret pe_bl)) pss_nil)
    (pss_cons (ps_if (pt_cmpR op_ne (pe_cmpR (OwR.op_ownEqX hu0 GEG hr1 pass0) (pe_make M_go G_go hr5 (by rfl) g_Go b_Go .nil passL (pa_cons (pv 3) (pa_cons pe_str pa_nil))) (pe_make M_go G_go hr5 (by rfl) g_Go b_Go .nil passL (pa_cons (pv 5) (pa_cons pe_str pa_nil))) (nomark _)) (pe_cmpR op_eq (pv 3) (pv 5) (nomark _)) (nomark _)) (pss_one (ps_ret pe_bl)) pss_nil)
    (pss_cons (ps_if (pt_cmpR op_ne (pe_cmpR (OwR.op_ownEqX hu0 GEG hr1 pass0) (pe_make M_go G_go hr5 (by rfl) g_Go b_Go .nil passL (pa_cons pe_str (pa_cons (pv 4) pa_nil))) (pe_make M_go G_go hr5 (by rfl) g_Go b_Go .nil passL (pa_cons pe_str (pa_cons (pv 5) pa_nil))) (nomark _)) (pe_cmpR op_eq (pv 4) (pv 5) (nomark _)) (nomark _)) (pss_one (ps_ret pe_bl)) pss_nil)
    (pss_cons (ps_set (i := 6) scL.nd rfl (Or.inl rfl) (pe_lst (pa_cons pe_non (pa_cons pe_int (pa_cons pe_bl (pa_cons pe_str (pa_cons pe_str (pa_cons pe_str (pa_cons pe_str (pa_cons pe_str (pa_cons (pe_tup (pa_cons pe_str pa_nil)) (pa_cons (pe_lst (pa_cons pe_str pa_nil)) (pa_cons pe_dnewK (pa_cons (pe_op op_pow pe_int pe_int) (pa_cons pe_str pa_nil)))))))))))))))
    (pss_cons (ps_set (i := 7) scL.nd rfl (Or.inr rfl) (pe_call G_pick hr2 (by rfl) g_pick F_pick.kp b_pick .nil pass0 (pa_cons (pv 1) (pa_cons (pv 6) pa_nil))))
    (pss_cons (ps_set (i := 8) scL.nd rfl (Or.inr rfl) (pe_call G_pick hr2 (by rfl) g_pick F_pick.kp b_pick .nil pass0 (pa_cons (pv 1) (pa_cons (pe_lst (pa_cons pe_non (pa_cons pe_str (pa_cons pe_int (pa_cons (pe_lst (pa_cons pe_str pa_nil)) (pa_cons pe_str (pa_cons (pe_tup (pa_cons pe_str pa_nil)) pa_nil))))))) pa_nil))))
    (pss_cons (ps_set (i := 9) scL.nd rfl (Or.inl rfl) (pe_lst (pa_cons (OwE.pe_lam (k := 5) (q := qLam) (by rfl) F_heard g_heard b_heard scH rfl (Or.inl rfl) qLam_eq (fun cdv => heard_gives (k := 5) hgd hr6 T_bad.er hval T_bad.g g_Next exm kit n2.n_isinstance n_repr) TB rfl hr7 (LamX.lamS_by (sc := defScope sLaw) (by decide +kernel)) (fun A outer s H E f c2 hr => (pe_make M_come G_come hr (by rfl) g_Come b_Come .nil (passes_call (takes_of rfl rfl rfl rfl) (fun _ _ _ _ h => h)) (pa_cons (pv 7) pa_nil)))) pa_nil)))
    (pss_cons (ps_expr (pe_bm PySem.F.plainAttrs_list PySem.F.slot_list_append PySem.F.type_list_append mt_append (pv 9) (pa_cons (OwE.pe_lam (k := 5) (q := qLam) (by rfl) F_heard g_heard b_heard scH rfl (Or.inl rfl) qLam_eq (fun cdv => heard_gives (k := 5) hgd hr6 T_bad.er hval T_bad.g g_Next exm kit n2.n_isinstance n_repr) TB rfl hr7 (LamX.lamS_by (sc := defScope sLaw) (by decide +kernel)) (fun A outer s H E f c2 hr => (pe_make M_go G_go hr (by rfl) g_Go b_Go .nil (passes_call (takes_of rfl rfl rfl rfl) (fun _ _ _ _ h => h)) (pa_cons (pv 7) (pa_cons (pv 8) pa_nil))))) pa_nil)))
    (pss_cons (ps_expr (pe_bm PySem.F.plainAttrs_list PySem.F.slot_list_append PySem.F.type_list_append mt_append (pv 9) (pa_cons (OwE.pe_lam (k := 5) (q := qLam) (by rfl) F_heard g_heard b_heard scH rfl (Or.inl rfl) qLam_eq (fun cdv => heard_gives (k := 5) hgd hr6 T_bad.er hval T_bad.g g_Next exm kit n2.n_isinstance n_repr) TB rfl hr7 (LamX.lamS_by (sc := defScope sLaw) (by decide +kernel)) (fun A outer s H E f c2 hr => (pe_make M_go G_go hr (by rfl) g_Go b_Go .nil (passes_call (takes_of rfl rfl rfl rfl) (fun _ _ _ _ h => h)) (pa_cons (pv 7) (pa_cons (pv 4) pa_nil))))) pa_nil)))
    (pss_cons (ps_expr (pe_bm PySem.F.plainAttrs_list PySem.F.slot_list_append PySem.F.type_list_append mt_append (pv 9) (pa_cons (OwE.pe_lam (k := 5) (q := qLam) (by rfl) F_heard g_heard b_heard scH rfl (Or.inl rfl) qLam_eq (fun cdv => heard_gives (k := 5) hgd hr6 T_bad.er hval T_bad.g g_Next exm kit n2.n_isinstance n_repr) TB rfl hr7 (LamX.lamS_by (sc := defScope sLaw) (by decide +kernel)) (fun A outer s H E f c2 hr => (pe_make M_go G_go hr (by rfl) g_Go b_Go .nil (passes_call (takes_of rfl rfl rfl rfl) (fun _ _ _ _ h => h)) (pa_cons (pv 3) (pa_cons (pv 8) pa_nil))))) pa_nil)))
    (pss_one (ps_if (pt_cmpR (op_neD hr.units) (pv 9) (pe_op op_cat (pe_op op_rep (pe_lst (pa_cons (pe_callB (OwE.cr_repr hgd hrep) (by rfl) n_repr (by decide +kernel) (pa_cons (pv 7) pa_nil)) pa_nil)) pe_int) (pe_lst (pa_cons (pe_callB (OwE.cr_repr hgd hrep) (by rfl) n_repr (by decide +kernel) (pa_cons (pv 8) pa_nil)) pa_nil))) (nomark _)) (pss_one (ps_ret pe_bl)) pss_nil))))))))))))))))
    (pss_one (ps_ret pe_bl)))), ?_⟩
    have sz := sizeLine_eq
    have szl : ∀ n : Nat, n ≤ 20 → n ≤ sizeLine := fun n h => by omega
    refine ⟨_, rfl, a, ns, rfl, ha, hl, fun p c' H1 hp1 s1 pn1 => ?_⟩
    have tb1 := tabs_same tb s1
    refine ⟨10, rfl, by decide, by decide, ?_⟩
    refine for_it walk_range (fun i σ Hx => (∃ x2 x3 x4 x5 x6 x7 x8 x9, σ = [some (.ref a), some (.ref p), x2, x3, x4, x5, x6, x7, x8, x9]) ∧ LamX.Tabs [(Pt, qLam)] Hx ∧ ∃ (n : Nat) (z : Int), PenAt Hx p c' ns n z ∧ n ≤ 50 * i)
      ⟨⟨_, _, _, _, _, _, _, _, rfl⟩, tb1, 0, 0, pn1, Nat.le_refl 0⟩ (fun _ _ _ _ _ => True.intro) (fun i x σ Hx Hy hi q0 y => ?_) (fun σ Hx q0 => ?_)
    rotate_left
    · exact q _
    obtain ⟨⟨x2, x3, x4, x5, x6, x7, x8, x9, rfl⟩, tb2, n0, z0, pn2, ln0⟩ := q0
    obtain ⟨rfl, rfl⟩ := y
    have hi10 : i < 10 := hi
    -- three names
    refine ⟨_, rfl, p, c', ns, n0, z0, rfl, pn2, by omega, fun t1 n1 z1 H2 nb1 l1 le1 pn3 s2 => ?_⟩
    have tb3 := tabs_but tb2 pn2 s2
    refine ⟨_, rfl, p, c', ns, n1, z1, rfl, pn3, by omega, fun t2 n2 z2 H3 nb2 l2 le2 pn4 s3 => ?_⟩
    have tb4 := tabs_but tb3 pn3 s3
    refine ⟨szl 2 (by decide), fun T hT => ⟨T, _, rfl, SqT.of upd_same, rfl, _, _, rfl, _, _, rfl, rfl, ?_⟩⟩
    have pn5 := pn4.same (Same.of_new (o := .tup [.str t1, .str t2]) hT)
    have tb5 := tabs_same tb4 (Same.of_new (o := .tup [.str t1, .str t2]) hT)
    generalize upd H3 T (.tup [.str t1, .str t2]) = H4 at pn5 tb5 ⊢
    refine ⟨_, rfl, _, rfl, _, rfl, _, rfl, p, c', ns, n2, z2, rfl, pn5, by omega, fun t3 n3 z3 H5 nb3 l3 le3 pn6 s4 => ?_⟩
    have tb6 := tabs_but tb5 pn5 s4
    refine ⟨szl 3 (by decide), fun l hl => ?_⟩
    have nl : l ≠ p := fun e => pn6.some (e ▸ hl)
    have u1 := Same.of_new (o := .lst [.str t1, .str t2, .str t3]) hl
    refine ⟨p, c', l, ns, n3, z3, _, rfl, pn6.same u1, by omega, nl, SqL.of upd_same, by show 0 < 3; decide, by show 3 < 1000; decide, fun x n4 z4 H6 hx le4 pn7 s5 => ?_⟩
    obtain ⟨o, rfl, nbo, lo⟩ : ∃ o : Str, x = .str o ∧ nameB o = true ∧ o.length ≤ 8 := by
      simp only [List.mem_cons, List.not_mem_nil, or_false] at hx
      rcases hx with rfl | rfl | rfl
      · exact ⟨t1, rfl, nb1, l1⟩
      · exact ⟨t2, rfl, nb2, l2⟩
      · exact ⟨t3, rfl, nb3, l3⟩
    have tb7 := tabs_but (tabs_same tb6 u1) (pn6.same u1) s5
    clear s2 s3 s4 s5 pn2 pn3 pn4 pn5 pn6 tb2 tb3 tb4 tb5 tb6 u1 hl hx hT nl
    have go1 : GoodN (.str t1) t1 := ⟨rfl, by omega, nb1⟩
    have go2 : GoodN (.str t2) t2 := ⟨rfl, by omega, nb2⟩
    have goo : GoodN (.str o) o := ⟨rfl, by omega, nbo⟩
    have gos : GoodN (.str "s") "s" := ⟨rfl, by decide +kernel, by decide +kernel⟩
    have goa : GoodN (.str "a") "a" := ⟨rfl, by decide +kernel, by decide +kernel⟩
    -- right
    refine ⟨_, rfl, _, rfl, t1, t2, rfl, nb1, nb2, l1, l2, fun H7 s7 => ⟨_, rfl, iteF ?_⟩⟩
    -- two comings
    refine ⟨_, rfl, fun a1 b1 e1 e2 _ => ⟨a1, b1, .str t1, rfl, upd_same, .inl ⟨t1, go1, fun H8 s8 k1 => ⟨rfl, ?_⟩⟩⟩⟩
    have s8 := made_same e1 e2 s8
    refine ⟨_, rfl, fun a2 b2 e3 e4 _ => ⟨a2, b2, .str o, rfl, upd_same, .inl ⟨o, goo, fun H9 s9 k2 => ⟨rfl, ?_⟩⟩⟩⟩
    have s9 := made_same e3 e4 s9
    have k1 := k1.same s9
    obtain ⟨d1, f1, v1, w1⟩ := id k1
    refine ⟨a1, CC, d1, f1, .ref CC, rfl, v1, k2.ty c.dc, c.eqC, c.nCC, a1, t1, .ref a2, rfl, k1, .inl ⟨a2, o, rfl, k2, ?_⟩⟩
    refine ⟨_, rfl, _, rfl, rfl, ?_⟩
    rw [str_eq]
    refine ⟨rfl, _, rfl, ?_⟩
    rw [decide_eq_true rfl]
    refine iteF ?_
    have r9 := (s7.trans s8).trans s9
    clear s7 s8 s9 e1 e2 e3 e4 k1 k2 v1 w1
    -- two goings of unlike kinds
    refine ⟨_, rfl, fun a3 b3 e1 e2 _ => ⟨a3, b3, .str t1, .str "s", rfl, upd_same, .inl ⟨t1, "s", go1, gos, fun H10 s8 k1 => ⟨rfl, ?_⟩⟩⟩⟩
    have s8 := made_same e1 e2 s8
    refine ⟨_, rfl, fun a4 b4 e3 e4 _ => ⟨a4, b4, .str o, .str "s", rfl, upd_same, .inl ⟨o, "s", goo, gos, fun H11 s9 k2 => ⟨rfl, ?_⟩⟩⟩⟩
    have s9 := made_same e3 e4 s9
    have k1 := k1.same s9
    obtain ⟨d2, f2, v1, w1⟩ := id k1
    refine ⟨a3, CG, d2, f2, .ref CG, rfl, v1, k2.ty c.dg, c.eqG, c.nGG, a3, t1, "s", .ref a4, rfl, k1, .inl ⟨a4, o, "s", rfl, k2, ?_⟩⟩
    refine ⟨_, rfl, _, rfl, rfl, ?_⟩
    rw [str_eq, decide_eq_true (show ("s" : Str) = "s" from rfl), Bool.and_true]
    refine ⟨rfl, _, rfl, ?_⟩
    rw [decide_eq_true rfl]
    refine iteF ?_
    have r11 := (r9.trans s8).trans s9
    clear s8 s9 e1 e2 e3 e4 k1 k2 v1 w1 r9
    -- two goings out of unlike bays
    refine ⟨_, rfl, fun a5 b5 e1 e2 _ => ⟨a5, b5, .str "a", .str t2, rfl, upd_same, .inl ⟨"a", t2, goa, go2, fun H12 s8 k1 => ⟨rfl, ?_⟩⟩⟩⟩
    have s8 := made_same e1 e2 s8
    refine ⟨_, rfl, fun a6 b6 e3 e4 _ => ⟨a6, b6, .str "a", .str o, rfl, upd_same, .inl ⟨"a", o, goa, goo, fun H13 s9 k2 => ⟨rfl, ?_⟩⟩⟩⟩
    have s9 := made_same e3 e4 s9
    have k1 := k1.same s9
    obtain ⟨d3, f3, v1, w1⟩ := id k1
    refine ⟨a5, CG, d3, f3, .ref CG, rfl, v1, k2.ty c.dg, c.eqG, c.nGG, a5, "a", t2, .ref a6, rfl, k1, .inl ⟨a6, "a", o, rfl, k2, ?_⟩⟩
    refine ⟨_, rfl, _, rfl, rfl, ?_⟩
    rw [str_eq, decide_eq_true (show ("a" : Str) = "a" from rfl), Bool.true_and]
    refine ⟨rfl, _, rfl, ?_⟩
    rw [decide_eq_true rfl]
    refine iteF ?_
    have r13 := (r11.trans s8).trans s9
    clear s8 s9 e1 e2 e3 e4 k1 k2 v1 w1 r11
    have pn8 := pn7.same r13
    have tb8 := tabs_same tb7 r13
    clear pn7 tb7 r13
    -- what is no name
    refine ⟨szl 1 (by decide), fun T1 h1 => ⟨szl 1 (by decide), fun T2 h2 T3 h3 => ⟨_, _, rfl, rfl, ⟨by decide, by decide, by decide⟩, szl 13 (by decide), fun S hS => ?_⟩⟩⟩
    have u1 := Same.of_new (o := .tup [.str "a"]) h1
    have u2 := Same.of_new (o := .lst [.str "a"]) h2
    have u3 := Same.of_new (o := .dK []) h3
    have u4 := Same.of_new (o := .lst [.non, .int 0, .bl true, .str "", .str "A", .str "a b", .str "abcdefghi", .str "a1", .ref T1, .ref T2, .ref T3, .int (10 ^ (30 : Int).toNat), .str "a\n"]) hS
    have w1 := ((u2.trans u3).trans u4) T1 _ upd_same
    have w2 := (u3.trans u4) T2 _ upd_same
    have w3 := u4 T3 _ upd_same
    have uu := ((u1.trans u2).trans u3).trans u4
    have pn9 := pn8.same uu
    have tb9 := tabs_same tb8 uu
    have nS : S ≠ p := fun e => (((pn8.same u1).same u2).same u3).some (e ▸ hS)
    refine ⟨_, rfl, _, rfl, p, c', S, ns, n4, z4, _, rfl, pn9, by omega, nS, SqL.of upd_same, by show 0 < 13; decide, by show 13 < 1000; decide, fun v n5 z5 H15 hv le5 pn10 s6 => ?_⟩
    obtain ⟨d, od⟩ : ∃ d, Odd H15 v d := by
      have b1 := s6 T1 _ (pn9.ne_of w1 fun _ _ _ h => by cases h) w1
      have b2 := s6 T2 _ (pn9.ne_of w2 fun _ _ _ h => by cases h) w2
      have b3 := s6 T3 _ (pn9.ne_of w3 fun _ _ _ h => by cases h) w3
      simp only [List.mem_cons, List.not_mem_nil, or_false] at hv
      rcases hv with rfl | rfl | rfl | rfl | rfl | rfl | rfl | rfl | rfl | rfl | rfl | rfl | rfl
      · exact ⟨_, .non⟩
      · exact ⟨_, .int (by decide)⟩
      · exact ⟨_, .bl⟩
      · exact ⟨_, .str (by decide +kernel)⟩
      · exact ⟨_, .str (by decide +kernel)⟩
      · exact ⟨_, .str (by decide +kernel)⟩
      · exact ⟨_, .str (by decide +kernel)⟩
      · exact ⟨_, .str (by decide +kernel)⟩
      · exact ⟨_, .tup (z := "a") (by decide +kernel) b1⟩
      · exact ⟨_, .lst (z := "a") (by decide +kernel) b2⟩
      · exact ⟨_, .dic b3⟩
      · exact ⟨_, .int (by decide +kernel)⟩
      · exact ⟨_, .str (by decide +kernel)⟩
    have tb10 := tabs_but tb9 pn9 s6
    clear u1 u2 u3 u4 uu w1 w2 w3 pn9 tb9 nS s6 h1 h2 h3 hS hv pn8 tb8
    -- another one
    refine ⟨_, rfl, szl 1 (by decide), fun T4 h1 => ⟨szl 1 (by decide), fun T5 h2 => ⟨szl 6 (by decide), fun S2 hS => ?_⟩⟩⟩
    have u1 := Same.of_new (o := .lst [.str "b"]) h1
    have u2 := Same.of_new (o := .tup [.str "b"]) h2
    have u3 := Same.of_new (o := .lst [.non, .str "", .int 7, .ref T4, .str "B", .ref T5]) hS
    have w1 := (u2.trans u3) T4 _ upd_same
    have w2 := u3 T5 _ upd_same
    have uu := (u1.trans u2).trans u3
    have pn11 := pn10.same uu
    have tb11 := tabs_same tb10 uu
    have od11 := od.same uu
    have nS : S2 ≠ p := fun e => ((pn10.same u1).same u2).some (e ▸ hS)
    refine ⟨p, c', S2, ns, n5, z5, _, rfl, pn11, by omega, nS, SqL.of upd_same, by show 0 < 6; decide, by show 6 < 1000; decide, fun u n6 z6 H16 hu le6 pn12 s6 => ?_⟩
    obtain ⟨e, oe⟩ : ∃ e, Odd H16 u e := by
      have b1 := s6 T4 _ (pn11.ne_of w1 fun _ _ _ h => by cases h) w1
      have b2 := s6 T5 _ (pn11.ne_of w2 fun _ _ _ h => by cases h) w2
      simp only [List.mem_cons, List.not_mem_nil, or_false] at hu
      rcases hu with rfl | rfl | rfl | rfl | rfl | rfl
      · exact ⟨_, .non⟩
      · exact ⟨_, .str (by decide +kernel)⟩
      · exact ⟨_, .int (by decide)⟩
      · exact ⟨_, .lst (z := "b") (by decide +kernel) b1⟩
      · exact ⟨_, .str (by decide +kernel)⟩
      · exact ⟨_, .tup (z := "b") (by decide +kernel) b2⟩
    have tb12 := tabs_but tb11 pn11 s6
    have od12 := od11.lo pn11 s6.lo
    clear u1 u2 u3 uu w1 w2 pn11 tb11 nS s6 h1 h2 hS hu pn10 tb10 od od11
    -- four that are refused
    refine heard_come rfl pn12 tb12 od12 fun H17 s7 pn13 tb13 => ⟨szl 1 (by decide), fun L hL => ?_⟩
    have od13 := od12.lo pn12 s7
    have oe13 := oe.lo pn12 s7
    have nL : L ≠ p := fun e => pn13.some (e ▸ hL)
    have u1 := Same.of_new (o := .lst [.str d.shown]) hL
    have pn14 := pn13.same u1
    have tb14 := tabs_same tb13 u1
    have od14 := od13.same u1
    have oe14 := oe13.same u1
    have w1 : upd H17 L (.lst [.str d.shown]) L = some (.lst [.str d.shown]) := upd_same
    generalize upd H17 L (.lst [.str d.shown]) = H18 at pn14 tb14 od14 oe14 w1 ⊢
    refine ⟨_, rfl, .inl ⟨rfl, _, SqL.of w1⟩, heard_go1 rfl rfl pn14 tb14 od14 fun H19 s8 pn15 tb15 => ?_⟩
    have w2 := s8 L _ nL (fun ps q => by cases q) w1
    refine ⟨L, _, _, rfl, rfl, w2, by show 1 < sizeLine; omega, ?_⟩
    have od16 := od14.lo pn14 s8
    have oe16 := oe14.lo pn14 s8
    have mv := od13.new_ne hL
    have mu := oe13.new_ne hL
    have pn16 := pn15.lput (o := .lst ([.str d.shown] ++ [.str d.shown])) nL w2
    have tb16 := tabs_put (o := .lst ([.str d.shown] ++ [.str d.shown])) tb15 w2
    have od17 := od16.put (x := .lst ([.str d.shown] ++ [.str d.shown])) mv
    have oe17 := oe16.put (x := .lst ([.str d.shown] ++ [.str d.shown])) mu
    have w3 : upd H19 L (.lst ([.str d.shown] ++ [.str d.shown])) L = some (.lst [.str d.shown, .str d.shown]) := upd_same
    refine ⟨_, rfl, .inl ⟨rfl, _, SqL.of w3⟩, heard_go1 rfl rfl pn16 tb16 od17 fun H20 s9 pn17 tb17 => ?_⟩
    have w4 := s9 L _ nL (fun ps q => by cases q) w3
    refine ⟨L, _, _, rfl, rfl, w4, by show 2 < sizeLine; omega, ?_⟩
    have od18 := (od17.lo pn16 s9).put (x := .lst ([.str d.shown, .str d.shown] ++ [.str d.shown])) mv
    have oe18 := (oe17.lo pn16 s9).put (x := .lst ([.str d.shown, .str d.shown] ++ [.str d.shown])) mu
    have pn18 := pn17.lput (o := .lst ([.str d.shown, .str d.shown] ++ [.str d.shown])) nL w4
    have tb18 := tabs_put (o := .lst ([.str d.shown, .str d.shown] ++ [.str d.shown])) tb17 w4
    have w5 : upd H20 L (.lst ([.str d.shown, .str d.shown] ++ [.str d.shown])) L = some (.lst [.str d.shown, .str d.shown, .str d.shown]) := upd_same
    refine ⟨_, rfl, .inl ⟨rfl, _, SqL.of w5⟩, heard_go2 rfl rfl go1 pn18 tb18 oe18 fun H21 s10 pn19 tb19 => ?_⟩
    have w6 := s10 L _ nL (fun ps q => by cases q) w5
    refine ⟨L, _, _, rfl, rfl, w6, by show 3 < sizeLine; omega, ?_⟩
    have od20 := (od18.lo pn18 s10).put (x := .lst ([.str d.shown, .str d.shown, .str d.shown] ++ [.str e.shown])) mv
    have oe20 := (oe18.lo pn18 s10).put (x := .lst ([.str d.shown, .str d.shown, .str d.shown] ++ [.str e.shown])) mu
    have pn20 := pn19.lput (o := .lst ([.str d.shown, .str d.shown, .str d.shown] ++ [.str e.shown])) nL w6
    have tb20 := tabs_put (o := .lst ([.str d.shown, .str d.shown, .str d.shown] ++ [.str e.shown])) tb19 w6
    have w7 : upd H21 L (.lst ([.str d.shown, .str d.shown, .str d.shown] ++ [.str e.shown])) L = some (.lst [.str d.shown, .str d.shown, .str d.shown, .str e.shown]) := upd_same
    generalize upd H21 L (.lst ([.str d.shown, .str d.shown, .str d.shown] ++ [.str e.shown])) = H22 at od20 oe20 pn20 tb20 w7 ⊢
    have so := od20.ok
    have se := oe20.ok
    -- compared
    refine ⟨_, rfl, _, rfl, v, d.shown, rfl, od20.rep, szl 1 (by decide), fun L1 e1 => ?_⟩
    have u1 := Same.of_new (o := .lst [.str d.shown]) e1
    refine ⟨L1, 3, _, rfl, rfl, upd_same, by decide, by decide, by show 1 * 3 ≤ sizeLine; omega, fun L2 e2 => ?_⟩
    have u2 := Same.of_new (o := .lst (List.replicate 3 [V.str d.shown]).flatten) e2
    refine ⟨_, rfl, u, e.shown, rfl, ((oe20.same u1).same u2).rep, szl 1 (by decide), fun L3 e3 => ?_⟩
    have u3 := Same.of_new (o := .lst [.str e.shown]) e3
    refine ⟨L2, L3, _, _, rfl, rfl, u3 L2 _ upd_same, upd_same, by show 3 + 1 ≤ sizeLine; omega, fun L4 e4 => ?_⟩
    have u4 := Same.of_new (o := .lst ((List.replicate 3 [V.str d.shown]).flatten ++ [.str e.shown])) e4
    have uu := ((u1.trans u2).trans u3).trans u4
    have ok4 : ∀ y ∈ ([d.shown, d.shown, d.shown, e.shown] : List Str), PyData.strOk y = true := fun y hy => by
      simp only [List.mem_cons, List.not_mem_nil, or_false] at hy
      rcases hy with rfl | rfl | rfl | rfl
      · exact so
      · exact so
      · exact so
      · exact se
    refine ⟨.list ([d.shown, d.shown, d.shown, e.shown].map PyData.str), .list ([d.shown, d.shown, d.shown, e.shown].map PyData.str), .lst (SqL.of (uu L _ w7)) (.cons (.str _) (.cons (.str _) (.cons (.str _) (.cons (.str _) .nil)))), .lst (SqL.of upd_same) (.cons (.str _) (.cons (.str _) (.cons (.str _) (.cons (.str _) .nil)))), shaped_strs ok4, shaped_strs ok4, ?_⟩
    rw [eqv_strs ok4]
    refine ⟨_, rfl, iteF ?_⟩
    exact ⟨⟨_, _, _, _, _, _, _, _, rfl⟩, tabs_same tb20 uu, n6, z6, pn20.same uu, by omega⟩
end
end K10
end
section
namespace K10
open PySem PySem.Spec PyProof.Rows L2
def theDefs : List OwH.DX :=
  [⟨fun K => OwH.ga K "is_name", "is_name", "is_name", sName⟩,
   ⟨fun K => OwH.ga K "check_name", "check_name", "check_name", sCheck⟩,
   ⟨fun K => OwH.ga K "_law_pen", "_law_pen", "_law_pen", sPen⟩,
   ⟨fun K => OwH.ga K "_law_draw", "_law_draw", "_law_draw", sDraw⟩,
   ⟨fun K => OwH.ga K "_law_pick", "_law_pick", "_law_pick", sPick⟩,
   ⟨fun K => OwH.ga K "_law_name", "_law_name", "_law_name", sLName⟩,
   ⟨fun K => OwH.ga K "_law_heard", "_law_heard", "_law_heard", sHeard⟩,
   ⟨fun K => OwH.ga K "_law_right", "_law_right", "_law_right", sRight⟩,
   ⟨fun K => OwH.ga K "law", "law", "law", sLaw⟩,
   ⟨fun K => OwH.mo K "BadName" "__init__", "__init__", "BadName.__init__", sBad0⟩,
   ⟨fun K => OwH.mo K "Deed" "__init__", "__init__", "Deed.__init__", sDeed0⟩,
   ⟨fun K => OwH.mo K "Come" "__init__", "__init__", "Come.__init__", sCome0⟩,
   ⟨fun K => OwH.mo K "Go" "__init__", "__init__", "Go.__init__", sGo0⟩,
   ⟨fun K => OwH.inRec K (OwH.mo K "Come" "parts") "property", "parts", "Come.parts", sComeP⟩,
   ⟨fun K => OwH.inRec K (OwH.mo K "Go" "parts") "property", "parts", "Go.parts", sGoP⟩,
   ⟨fun K => OwH.mo K "Come" "__eq__", "__eq__", "Come.__eq__", sComeE⟩,
   ⟨fun K => OwH.mo K "Go" "__eq__", "__eq__", "Go.__eq__", sGoE⟩,
   ⟨fun K => OwH.mo K "Come" "__str__", "__str__", "Come.__str__", sComeS⟩,
   ⟨fun K => OwH.mo K "Go" "__str__", "__str__", "Go.__str__", sGoS⟩]
def theFacts : List (PySem.W.Frag → Bool) :=
  [(He.Fa.glo "is_name").ok,
   (He.Fa.glo "check_name").ok,
   (He.Fa.glo "_law_pen").ok,
   (He.Fa.glo "_law_draw").ok,
   (He.Fa.glo "_law_pick").ok,
   (He.Fa.glo "_law_name").ok,
   (He.Fa.glo "_law_heard").ok,
   (He.Fa.glo "_law_right").ok,
   (He.Fa.glo "law").ok,
   (He.Fa.glo "Come").ok,
   (He.Fa.glo "Go").ok,
   (He.Fa.glo "Deed").ok,
   (He.Fa.glo "BadName").ok,
   (He.Fa.glo "NextError").ok,
   (He.Fa.free "int").ok,
   (He.Fa.free "len").ok,
   (He.Fa.free "abs").ok,
   (He.Fa.free "list").ok,
   (He.Fa.free "str").ok,
   (He.Fa.free "all").ok,
   (He.Fa.free "isinstance").ok,
   (He.Fa.free "range").ok,
   (He.Fa.free "repr").ok,
   (He.Fa.mkr "Come").ok,
   (He.Fa.cls "Come").ok,
   (He.Fa.noat "Come" "_parts").ok,
   (He.Fa.noat "Come" "kind").ok,
   (He.Fa.noat "Come" "bay").ok,
   OwH.fIsC "Come",
   OwH.fProp "Come" "parts",
   OwH.fHas "Come" "__eq__",
   OwH.fHas "Come" "__str__",
   OwH.fNe "Come",
   OwH.fNot "Come" fun K => .ref (OwH.ga K "Come"),
   OwH.fNot "Come" fun K => .ref (OwH.ga K "Go"),
   OwH.fKit "Come" "Come" true,
   OwH.fKit "Come" "Go" false,
   OwH.fKit "Come" "Deed" true,
   OwH.fNot "Come" fun _ => .type "NoneType",
   fun K => decide (PySem.W.kitOne K (.type "NoneType") (.ref (OwH.ga K "Come")) = some false),
   OwH.fNot "Come" fun _ => .type "str",
   fun K => decide (PySem.W.kitOne K (.type "str") (.ref (OwH.ga K "Come")) = some false),
   OwH.fNot "Come" fun _ => .type "tuple",
   fun K => decide (PySem.W.kitOne K (.type "tuple") (.ref (OwH.ga K "Come")) = some false),
   OwH.fNot "Come" fun _ => .type "int",
   fun K => decide (PySem.W.kitOne K (.type "int") (.ref (OwH.ga K "Come")) = some false),
   OwH.fNot "Come" fun _ => .type "list",
   fun K => decide (PySem.W.kitOne K (.type "list") (.ref (OwH.ga K "Come")) = some false),
   (He.Fa.mkr "Go").ok,
   (He.Fa.cls "Go").ok,
   (He.Fa.noat "Go" "_parts").ok,
   (He.Fa.noat "Go" "kind").ok,
   (He.Fa.noat "Go" "bay").ok,
   OwH.fIsC "Go",
   OwH.fProp "Go" "parts",
   OwH.fHas "Go" "__eq__",
   OwH.fHas "Go" "__str__",
   OwH.fNe "Go",
   OwH.fNot "Go" fun K => .ref (OwH.ga K "Come"),
   OwH.fNot "Go" fun K => .ref (OwH.ga K "Go"),
   OwH.fKit "Go" "Come" false,
   OwH.fKit "Go" "Go" true,
   OwH.fKit "Go" "Deed" true,
   OwH.fNot "Go" fun _ => .type "NoneType",
   fun K => decide (PySem.W.kitOne K (.type "NoneType") (.ref (OwH.ga K "Go")) = some false),
   OwH.fNot "Go" fun _ => .type "str",
   fun K => decide (PySem.W.kitOne K (.type "str") (.ref (OwH.ga K "Go")) = some false),
   OwH.fNot "Go" fun _ => .type "tuple",
   fun K => decide (PySem.W.kitOne K (.type "tuple") (.ref (OwH.ga K "Go")) = some false),
   OwH.fNot "Go" fun _ => .type "int",
   fun K => decide (PySem.W.kitOne K (.type "int") (.ref (OwH.ga K "Go")) = some false),
   OwH.fNot "Go" fun _ => .type "list",
   fun K => decide (PySem.W.kitOne K (.type "list") (.ref (OwH.ga K "Go")) = some false),
   OwH.fRead "Deed",
   OwH.fCFun "Deed" "__init__",
   OwH.fErr "BadName",
   OwH.fIni "BadName",
   OwH.fNoF "BadName" "value",
   OwH.fExm "BadName" "BadName" true,
   OwH.fKit "BadName" "NextError" true]
def theTabs : List (PySem.W.Frag → Addr) := [fun K => OwH.ga K "law"]
def roots : List Str := ([("is_name" : Str), ("check_name" : Str), ("_law_pen" : Str), ("_law_draw" : Str), ("_law_pick" : Str), ("_law_name" : Str), ("_law_heard" : Str), ("_law_right" : Str)] : List Str) ++ ([("law" : Str), ("Come" : Str), ("Go" : Str), ("Deed" : Str), ("BadName" : Str), ("NextError" : Str)] : List Str)
def names : List Str := ([("NextError" : Str), ("BadName" : Str), ("is_name" : Str), ("Deed" : Str), ("Come" : Str), ("Go" : Str), ("check_name" : Str), ("_law_pen" : Str)] : List Str) ++ ([("_law_draw" : Str), ("_law_pick" : Str), ("_law_name" : Str), ("_law_heard" : Str), ("_law_right" : Str)] : List Str)
abbrev Rw : PySem.W.OpenRow := PySem.W.OpenLaw.row PySem.Challenge.rw_nextkind_k31_deeds_made
abbrev hk : PySem.W.Hook := OwH.hookT roots theFacts theDefs theTabs
def ob (s : PySem.W.SharedT) : OwH.AT := OwH.obsT roots theFacts theDefs theTabs (HandSHeadRun.getT s)
theorem ob_eq (s : PySem.W.SharedT) : ob s = hk.obs s.abs := OwH.obsT_eq (HandSHeadRun.getT_eq s)
theorem run (w : World) : HandSHeadRun.RunEq Rw (PySem.W.view Rw.prog [17]) hk ob 12000 names w := by
  intro os
  kernel_rfl
theorem facts {P : Program} {w : World} {K : PySem.W.Frag} {h base : Heap} {mg : Str → Option Value} (X : K.In h) (G : h.Ns mainGlobals mg) (c : OwH.seeX theFacts theDefs K = OwH.wantX theDefs) : Facts P w K mg base (OwH.ga K "Come") (OwH.ga K "Go") (OwH.ga K "Deed") (OwH.ga K "BadName") (OwH.ga K "NextError") := by
  obtain ⟨fd0, F0⟩ := OwH.def_ c 0 rfl
  obtain ⟨fd1, F1⟩ := OwH.def_ c 1 rfl
  obtain ⟨fd2, F2⟩ := OwH.def_ c 2 rfl
  obtain ⟨fd3, F3⟩ := OwH.def_ c 3 rfl
  obtain ⟨fd4, F4⟩ := OwH.def_ c 4 rfl
  obtain ⟨fd5, F5⟩ := OwH.def_ c 5 rfl
  obtain ⟨fd6, F6⟩ := OwH.def_ c 6 rfl
  obtain ⟨fd7, F7⟩ := OwH.def_ c 7 rfl
  obtain ⟨fd9, F9⟩ := OwH.def_ c 9 rfl
  obtain ⟨fd10, F10⟩ := OwH.def_ c 10 rfl
  obtain ⟨fd11, F11⟩ := OwH.def_ c 11 rfl
  obtain ⟨fd12, F12⟩ := OwH.def_ c 12 rfl
  obtain ⟨fd13, F13⟩ := OwH.def_ c 13 rfl
  obtain ⟨fd14, F14⟩ := OwH.def_ c 14 rfl
  obtain ⟨fd15, F15⟩ := OwH.def_ c 15 rfl
  obtain ⟨fd16, F16⟩ := OwH.def_ c 16 rfl
  obtain ⟨fd17, F17⟩ := OwH.def_ c 17 rfl
  obtain ⟨fd18, F18⟩ := OwH.def_ c 18 rfl
  exact (fun tys => ⟨⟨(He.free_ok X G (OwH.fact c 14 rfl)), (He.free_ok X G (OwH.fact c 15 rfl)), (He.free_ok X G (OwH.fact c 16 rfl)), (He.free_ok X G (OwH.fact c 17 rfl))⟩, ⟨(He.free_ok X G (OwH.fact c 18 rfl)), (He.free_ok X G (OwH.fact c 15 rfl)), (He.free_ok X G (OwH.fact c 19 rfl)), (He.free_ok X G (OwH.fact c 20 rfl))⟩, (He.free_ok X G (OwH.fact c 21 rfl)), (He.free_ok X G (OwH.fact c 22 rfl)), (He.glo_ok X G (OwH.fact c 9 rfl)), (He.glo_ok X G (OwH.fact c 10 rfl)), (He.glo_ok X G (OwH.fact c 11 rfl)), (He.glo_ok X G (OwH.fact c 13 rfl)),
    of_decide_eq_true (OwH.fact c 78 rfl), of_decide_eq_true (OwH.fact c 79 rfl), of_decide_eq_true (OwH.fact c 77 rfl), ⟨_, _, ⟨OwH.err_ok (OwH.fact c 75 rfl), (He.glo_ok X G (OwH.fact c 12 rfl)), (OwH.ini_ok (OwH.fact c 76 rfl)).1, (OwH.ini_ok (OwH.fact c 76 rfl)).2⟩, F9⟩, ⟨_, _, (He.glo_ok X G (OwH.fact c 0 rfl)), F0⟩, ⟨_, _, (He.glo_ok X G (OwH.fact c 1 rfl)), F1⟩,
    ⟨_, _, _, OwH.read_ok (OwH.fact c 73 rfl), OwH.cfun_ok (OwH.fact c 74 rfl), F10⟩, ⟨_, _, He.mkr_ok (OwH.fact c 23 rfl), F11⟩, ⟨_, _, He.mkr_ok (OwH.fact c 48 rfl), F12⟩, ⟨_, _, _, OwH.prop_ok (OwH.fact c 29 rfl), F13⟩, ⟨_, _, _, OwH.prop_ok (OwH.fact c 54 rfl), F14⟩,
    ⟨_, _, _, _, _, _, _, _, ⟨⟨He.cls_ok (OwH.fact c 24 rfl), He.noat_ok (OwH.fact c 25 rfl), He.noat_ok (OwH.fact c 26 rfl), He.noat_ok (OwH.fact c 27 rfl), (OwH.isC_ok (OwH.fact c 28 rfl)).1, (OwH.isC_ok (OwH.fact c 28 rfl)).2.1, (OwH.isC_ok (OwH.fact c 28 rfl)).2.2.1, (OwH.isC_ok (OwH.fact c 28 rfl)).2.2.2⟩, ⟨He.cls_ok (OwH.fact c 49 rfl), He.noat_ok (OwH.fact c 50 rfl), He.noat_ok (OwH.fact c 51 rfl), He.noat_ok (OwH.fact c 52 rfl), (OwH.isC_ok (OwH.fact c 53 rfl)).1, (OwH.isC_ok (OwH.fact c 53 rfl)).2.1, (OwH.isC_ok (OwH.fact c 53 rfl)).2.2.1, (OwH.isC_ok (OwH.fact c 53 rfl)).2.2.2⟩, ⟨(OwH.has_ok (OwH.fact c 30 rfl)).1, (OwH.has_ok (OwH.fact c 30 rfl)).2⟩, ⟨(OwH.has_ok (OwH.fact c 55 rfl)).1, (OwH.has_ok (OwH.fact c 55 rfl)).2⟩,
      ⟨(OwH.has_ok (OwH.fact c 30 rfl)).1, (OwH.has_ok (OwH.fact c 30 rfl)).2, OwH.ne_ok (OwH.fact c 32 rfl), (OwH.isC_ok (OwH.fact c 28 rfl)).2.2.2⟩, ⟨(OwH.has_ok (OwH.fact c 55 rfl)).1, (OwH.has_ok (OwH.fact c 55 rfl)).2, OwH.ne_ok (OwH.fact c 57 rfl), (OwH.isC_ok (OwH.fact c 53 rfl)).2.2.2⟩,
      ⟨(OwH.has_ok (OwH.fact c 31 rfl)).1, (OwH.has_ok (OwH.fact c 31 rfl)).2⟩, ⟨(OwH.has_ok (OwH.fact c 56 rfl)).1, (OwH.has_ok (OwH.fact c 56 rfl)).2⟩, tys, (OwH.fact c 33 rfl), (OwH.fact c 34 rfl), (OwH.fact c 58 rfl), (OwH.fact c 59 rfl),
      of_decide_eq_true (OwH.fact c 35 rfl), of_decide_eq_true (OwH.fact c 61 rfl), of_decide_eq_true (OwH.fact c 36 rfl), of_decide_eq_true (OwH.fact c 60 rfl), of_decide_eq_true (OwH.fact c 37 rfl), of_decide_eq_true (OwH.fact c 62 rfl)⟩, F15, F16, F17, F18⟩, ⟨_, _, (He.glo_ok X G (OwH.fact c 2 rfl)), F2⟩, ⟨_, _, (He.glo_ok X G (OwH.fact c 3 rfl)), F3⟩, ⟨_, _, (He.glo_ok X G (OwH.fact c 4 rfl)), F4⟩, ⟨_, _, (He.glo_ok X G (OwH.fact c 5 rfl)), F5⟩, ⟨_, _, (He.glo_ok X G (OwH.fact c 6 rfl)), F6⟩, ⟨_, _, (He.glo_ok X G (OwH.fact c 7 rfl)), F7⟩⟩ : (∀ t ∈ ([.type "NoneType", .type "str", .type "tuple", .type "int", .type "list"] : List Value), _ ∧ _ ∧ _ ∧ _) → _)
    (fun t ht => by
      simp only [List.mem_cons, List.not_mem_nil, or_false] at ht
      rcases ht with rfl | rfl | rfl | rfl | rfl
      · exact ⟨(OwH.fact c 38 rfl), (OwH.fact c 63 rfl), of_decide_eq_true (OwH.fact c 39 rfl), of_decide_eq_true (OwH.fact c 64 rfl)⟩
      · exact ⟨(OwH.fact c 40 rfl), (OwH.fact c 65 rfl), of_decide_eq_true (OwH.fact c 41 rfl), of_decide_eq_true (OwH.fact c 66 rfl)⟩
      · exact ⟨(OwH.fact c 42 rfl), (OwH.fact c 67 rfl), of_decide_eq_true (OwH.fact c 43 rfl), of_decide_eq_true (OwH.fact c 68 rfl)⟩
      · exact ⟨(OwH.fact c 44 rfl), (OwH.fact c 69 rfl), of_decide_eq_true (OwH.fact c 45 rfl), of_decide_eq_true (OwH.fact c 70 rfl)⟩
      · exact ⟨(OwH.fact c 46 rfl), (OwH.fact c 71 rfl), of_decide_eq_true (OwH.fact c 47 rfl), of_decide_eq_true (OwH.fact c 72 rfl)⟩)
theorem ends {P : Program} {w : World} {K : PySem.W.Frag} {h : Heap} {mg : Str → Option Value} {f : Addr} (X : K.In h) (G : h.Ns mainGlobals mg) (hf : mg ("law" : Str) = some (.ref f)) (c : OwH.SaysT theFacts theDefs theTabs h K) :
    ∃ (K : PySem.W.Frag) (fd : FuncData) (cs : List (Addr × Addr)) (sp : Sp), K.In h ∧ (∀ e ∈ cs, h.get? e.2 = some OwR.tabO) ∧ (∀ e ∈ cs, K.lookup e.2 = none) ∧ (∀ e ∈ cs, PySem.W.CodeHd h e.1 e.2) ∧
      (∀ (s : Shared) (u : Value), BindsTo s fd ⟨[u], []⟩ [("_law_script", u)]) ∧ (∀ (G : Hp) (a : Addr) (zs : List Int), zs.length ≤ 63 → (∀ e ∈ cs, G e.2 = some (.tbl #[])) → SqL K G a (zs.map V.int) → sp [.ref a] G (fun v _ => v = .bl true) fun _ _ _ => False) ∧
      ∀ base : Heap, K.In base → base.Ns mainGlobals mg → (∀ e ∈ cs, LamX.TabB base mg e.1 e.2) → OwR.FnG P w K mg base CX0 9 f fd ["_law_script"] sp := by
  obtain ⟨fd, F⟩ := OwH.def_ c.see 8 rfl
  have e := hf.symm.trans (He.glo_ok X G (OwH.fact c.see 8 rfl))
  cases e
  obtain ⟨oc, od, kV, doc, pm, an, cdv, ct, osl, rfl, lk, hcd⟩ := F.ex
  obtain ⟨c0, rfl⟩ := He.codeIn_ref hcd
  have ec : (OwH.cTab K (OwH.ga K "law")).1 = c0 := OwH.codA_eq lk rfl
  have one : ∀ e ∈ [OwH.cTab K (OwH.ga K "law")], e = OwH.cTab K (OwH.ga K "law") := fun e he => List.mem_singleton.mp he
  have mem : (fun K => OwH.ga K "law") ∈ theTabs := List.mem_singleton.mpr rfl
  refine ⟨K, PySem.W.fnOf "law" "law" (defArgs sLaw) (defBody sLaw) (defScope sLaw) .none kV doc pm an (.ref c0) ct, [OwH.cTab K (OwH.ga K "law")], spLaw K (OwH.cTab K (OwH.ga K "law")).2, X, fun e he => ?_, fun e he => ?_, fun e he => ?_, fun s v => .of_eq rfl, fun G a zs hz ht sq => ⟨a, zs, rfl, sq, hz, fun e he => ?_, fun _ => rfl⟩, fun base hK hN hT => ?_⟩
  · rw [one e he]
    exact c.empty _ mem
  · rw [one e he]
    exact c.out _ mem
  · rw [one e he]
    exact PySem.W.codeHd_of_K X (c.hd _ mem)
  · rw [List.mem_singleton.mp he]
    exact LamX.TabS.nil (ht _ (List.mem_singleton.mpr rfl))
  · have TB := hT _ (List.mem_singleton.mpr rfl)
    rw [ec] at TB
    exact ok_law lk hcd TB (facts (P := P) (w := w) (base := base) X G c.see)

end K10
open PySem PySem.W PySem.Calls PyProof.Rows
theorem PySem.Challenge.cw_nextkind_k31_deeds_made_holds : PySem.Challenge.rw_nextkind_k31_deeds_made.Holds := by
  w_on; o_law
  refine HandSHeadRun.head_any (r := K10.Rw) (q := view K10.Rw.prog [17]) (H := K10.hk) (ob := K10.ob) (M := 12000) (loose := K10.names) (d := HandSHeadRun.topDef K10.Rw.prog 17) (kwd := []) K10.ob_eq
    (by kernel_rfl) (fun s => by kernel_rfl) K10.run (by kernel_rfl) (by kernel_rfl) (by kernel_rfl) (by rfl) (by first | assumption | decide +kernel) (by decide +kernel) ⟨rfl, rfl, rfl, rfl, rfl, by decide +kernel⟩ ?hw ?hc
  case hw => w_witness2
  case hc =>
    refine OwR.walk_ofTG (l := PySem.Challenge.rw_nextkind_k31_deeds_made) (n := 63) (k := 9) (x := "_law_script") rfl (by decide) (by kernel_rfl) ⟨rfl, by decide, by decide⟩ ?_
    intro w mg fn h Y G hmg
    obtain ⟨K, X, c⟩ := Y
    have en : (HandSHeadRun.topDef K10.Rw.prog 17).name = ("law" : PySem.Str) := by kernel_rfl
    rw [en] at hmg
    exact K10.ends (P := PySem.Challenge.rw_nextkind_k31_deeds_made.prog) (w := w) X G hmg c
end
